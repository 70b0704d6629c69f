/-
  The law SketchOne on plain data.
  Conditions: numbers are those of their kinds; not too many hashes.
-/
import Derived.Test.YtfgjiadehfljlaaSketchL
namespace Go.Proofs.Ytfgjiadehfljlaa
open Go Go.Ab
open Go.Proofs.Ytfgjiadehfljlaa.M
set_option linter.unusedVariables false
set_option linter.unusedSimpArgs false

theorem nm_single (n : Int) : nmE [n] = if isNm n = true then [n] else [] := by
  simp only [nmE, List.filter_cons, List.filter_nil]
theorem nm_some {n : Int} (h : ¬ nmE [n] = []) : isNm n = true := by
  rw [nm_single] at h
  by_cases e : isNm n = true
  · exact e
  · rw [if_neg e] at h; exact absurd rfl h
theorem getD_one {A : List Int} {n : Int} (h : ∀ w ∈ A, w = n) {i : Nat} (hi : i < A.length) : A.getD i default = n := getD_all h hi

set_option maxHeartbeats 4000000 in
theorem sketchOne_no (l : List Hs) (v n : Int) (hs : ¬ SizeOk l.length v) : ACalls Try.prog 4 [.sl (l.map hsPV), iPV v, uPV n] (bPV true) := by
  refine ent Try.func4 ?_
  have hb : ((1 : Int) != 0) = true := rfl
  have hN := new_no hs ▸ new_any l.length v
  obtain ⟨hs', -⟩ : Go.RowKit.Hid (¬ SizeOk l.length v) ∧ True := ⟨hs, trivial⟩
  clear hs
  repeat (refine AW_seq ?_)
  refine reg ?_
  refine run 1 ?_
  refine fin [0, 1, 2] [] ?_
  repeat (refine AW_seq ?_)
  refine reg ?_
  refine run 3 ?_
  refine call (fun _ => hN) ?_
  refine run 6 ?_
  refine fin [0, 1, 2, 7, 8] [(8, 0)] ?_
  repeat (refine AW_seq ?_)
  refine reg ?_
  refine run 5 ?_
  refine call (c := false) (k := 14) (ys := [.v (.tuple #[])]) (r := .sl []) (fun h => by cases h) ?_
  refine call (c := false) (k := 13) (ys := [.sl [], .sl []]) (r := bPV false) (fun h => by cases h) ?_
  refine run 1 ?_
  refine fin [0, 1, 2, 7, 26] [(8, 0)] ?_
  repeat (refine AW_seq ?_)
  refine tstT ?_
  repeat (refine AW_seq ?_)
  refine reg ?_
  refine call (fun _ => awake_true) ?_
  refine run 1 ?_
  refine fin [6] [] ?_
  refine AW_ret (ret ?_)
  rfl

set_option maxHeartbeats 4000000 in
theorem sketchOne_ok (l : List Hs) (V : Nat) (n : Int) (hl : ∀ h ∈ l, 0 ≤ h.a ∧ 0 ≤ h.b) (hn : U64 n) (hs : SizeOk l.length V) : ACalls Try.prog 4 [.sl (l.map hsPV), iPV V, uPV n] (bPV true) := by
  refine ent Try.func4 ?_
  have hN := new_words hs ▸ new_any l.length V
  have hT := tog_words hs [] n ▸ toggle_any (skW l V []) l n hl hn.1
  rw [List.nil_append] at hT
  have hA := names_words hs [n] ▸ names_any (skW l V [n]) (words_u l V [n] (by simpa using hn))
  have hNm := names'_any [n] (by simpa using hn) (by simp)
  have hSm := same'_any (nmE [n]) [] (by rw [nm_single]; split <;> simp)
  have hm := size_mul hs
  have hV : 0 < V := by have := hs.2.2.1; omega
  obtain ⟨A, hAe, hA1, hA2, hA3⟩ : ∃ A, nmE (wordsE l V [n]) = A ∧ (∀ w ∈ A, w = n) ∧ (isNm n = true → l.length ≤ A.length) ∧ A.length ≤ l.length * V := ⟨_, rfl, nm_one hn, fun h => nm_least hn h hV l.length, nm_most l V [n]⟩
  rw [hAe] at hA
  have hw : IntKind.i64.wrap ((l.length : Int) * (V : Int)) = ((l.length * V : Nat) : Int) := by rw [Int.natCast_mul]; exact wrap_i64 _ (by omega) (by omega)
  have hA4 : A.length ≤ 488 := by rw [← Int.natCast_mul] at hm; omega
  clear hm hl hAe
  obtain ⟨hs', -⟩ : Go.RowKit.Hid (SizeOk l.length V) ∧ True := ⟨hs, trivial⟩
  clear hs
  repeat (refine AW_seq ?_)
  refine reg ?_
  refine run 1 ?_
  refine fin [0, 1, 2] [] ?_
  repeat (refine AW_seq ?_)
  refine reg ?_
  refine run 3 ?_
  refine call (fun _ => hN) ?_
  refine run 6 ?_
  refine fin [0, 1, 2, 7, 8] [(8, 0)] ?_
  repeat (refine AW_seq ?_)
  refine reg ?_
  refine run 5 ?_
  refine call (fun _ => hNm) ?_
  refine call (fun _ => hSm) ?_
  refine run 1 ?_
  refine fin [0, 1, 2, 7, 26] [(8, 0)] ?_
  repeat (refine AW_seq ?_)
  refine tst (fun h1 => ?_) (fun h1 => ?_)
  · simp at h1
    repeat (refine AW_seq ?_)
    refine reg ?_
    refine call (fun _ => awake_true) ?_
    refine run 1 ?_
    refine fin [6] [] ?_
    refine AW_ret (ret ?_)
    rfl
  · simp at h1
    have hA5 := hA2 (nm_some h1)
    refine AW_skip ?_
    repeat (refine AW_seq ?_)
    refine reg ?_
    refine run 3 ?_
    refine call (fun _ => hT) ?_
    refine run 4 ?_
    refine fin [0, 1, 2, 7] [(8, 0)] ?_
    repeat (refine AW_seq ?_)
    refine reg ?_
    refine run 1 ?_
    refine call (fun _ => hA) ?_
    refine run 1 ?_
    refine fin [0, 1, 2, 9] [] ?_
    repeat (refine AW_seq ?_)
    refine reg ?_
    refine run 3 ?_
    refine fin [0, 1, 2, 9, 37, 38, 39] [] ?_
    repeat (refine AW_seq ?_)
    refine AW_block ?_
    refine AW_loops (ι := Nat) (fun i => ⟨lk [(0, .c (.sl (l.map hsPV))), (1, .c (iPV V)), (2, .c (uPV n)), (9, .c (.sl (A.map uPV))), (37, .c (.sl (A.map uPV))), (38, .c (iPV A.length)), (39, .c (iPV i))], lkM [], lkG [] 1⟩) (fun i => i ≤ A.length) (fun i => A.length - i) 0 (Nat.zero_le _) wk ?_
    rintro i hi
    repeat (refine AW_seq ?_)
    refine reg ?_
    refine run 1 ?_
    refine fin [0, 1, 2, 9, 37, 38, 39, 40] [] ?_
    repeat (refine AW_seq ?_)
    refine tst (fun h2 => ?_) (fun h2 => ?_)
    · simp at h2
      have hgd := getD_one hA1 (i := i) (by omega)
      refine AW_skip ?_
      repeat (refine AW_seq ?_)
      refine AW_block ?_
      repeat (refine AW_seq ?_)
      refine reg ?_
      refine run 3 ?_
      refine fin [0, 1, 2, 9, 11, 37, 38, 39] [] ?_
      repeat (refine AW_seq ?_)
      refine reg ?_
      refine run 3 ?_
      refine fin [0, 1, 2, 9, 37, 38, 39, 45] [] ?_
      repeat (refine AW_seq ?_)
      refine tstF ?_
      refine AW_skip ?_
      repeat (refine AW_seq ?_)
      refine reg ?_
      refine run 2 ?_
      refine finN ?_
      exact ⟨i + 1, by omega, by omega, wk⟩
    · simp at h2
      refine AW_exit ?_
      repeat (refine AW_seq ?_)
      refine reg ?_
      refine run 15 ?_
      refine call (fun _ => awake_true) ?_
      refine run 2 ?_
      refine fin [6] [] ?_
      refine AW_ret (ret ?_)
      simp [bPV]; omega

theorem sketchOne_any (l : List Hs) (v n : Int) (hw : ∀ h ∈ l, (0 ≤ h.a ∧ h.a ≤ 18446744073709551615) ∧ (0 ≤ h.b ∧ h.b ≤ 18446744073709551615)) (n0 : 0 ≤ n) (n1 : n ≤ 18446744073709551615) : ACalls Try.prog 4 [.sl (l.map hsPV), iPV v, uPV n] (bPV true) := by
  by_cases hs : SizeOk l.length v
  · obtain ⟨V, rfl⟩ : ∃ V : Nat, v = V := ⟨v.toNat, by have := hs.2.2.1; omega⟩
    exact sketchOne_ok l V n (fun h hh => ⟨(hw h hh).1.1, (hw h hh).2.1⟩) ⟨n0, n1⟩ hs
  · exact sketchOne_no l v n hs
end Go.Proofs.Ytfgjiadehfljlaa