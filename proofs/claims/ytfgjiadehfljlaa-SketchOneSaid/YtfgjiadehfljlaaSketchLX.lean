/-
  The law SketchOf on plain data.
  Conditions: numbers are those of their kinds.
-/
import Derived.Test.YtfgjiadehfljlaaSketchLF
namespace Go.Proofs.Ytfgjiadehfljlaa
open Go Go.Ab
open Go.Proofs.Ytfgjiadehfljlaa.M
set_option linter.unusedVariables false
set_option linter.unusedSimpArgs false

theorem new_form (r v : Int) : ∃ (S : Sk) (e : Int), newE r v = .tup [skPV S, iPV e] ∧ e = if SizeOk r v then 0 else 1 := by
  by_cases h : SizeOk r v
  · exact ⟨_, _, new_ok h, by rw [if_pos h]⟩
  · exact ⟨_, _, new_no h, by rw [if_neg h]⟩
theorem merge_words {l : List Hs} {V : Nat} {A B C : List Int} (hs : SizeOk l.length V) (h : ∀ k, xorI (cellE l V A k) (cellE l V B k) = cellE l V C k) : mergeE (skW l V A) (skW l V B) = .tup [skPV (skW l V C), iPV 0] := by
  rw [merge_ok ⟨skW_is hs A, skW_is hs B, rfl, rfl⟩]
  simp only [mrg, skW, words_merge h]
theorem not_size {r v : Int} (h : ¬ SizeOk r v) : r < 1 ∨ 8 < r ∨ v < 1 ∨ 61 < v := by unfold SizeOk at h; omega
theorem is_size {r v : Int} (h : SizeOk r v) : ¬ r < 1 ∧ ¬ 8 < r ∧ ¬ v < 1 ∧ ¬ 61 < v := by unfold SizeOk at h; omega

set_option maxHeartbeats 8000000 in
theorem sketchOf_go (l : List Hs) (v : Int) (ns : List Int) (mask : Int) (hl : ∀ h ∈ l, 0 ≤ h.a ∧ 0 ≤ h.b) (hn : ∀ n ∈ ns, U64 n) : ACalls Try.prog 3 [.sl (l.map hsPV), iPV v, .sl (ns.map uPV), .v (.int .u32 mask)] (bPV true) := by
  refine ent Try.func3 ?_
  obtain ⟨S, e, hSe, he⟩ := new_form l.length v
  have hNo := hSe ▸ new_any l.length v
  obtain ⟨he, -⟩ : Go.RowKit.Hid (e = if SizeOk l.length v then 0 else 1) ∧ True := ⟨he, trivial⟩
  rename_i he0
  clear he0 hSe
  repeat (refine AW_seq ?_)
  refine reg ?_
  refine run 1 ?_
  refine fin [0, 1, 2, 3] [] ?_
  repeat (refine AW_seq ?_)
  refine reg ?_
  refine run 21 ?_
  refine fin [0, 1, 2, 3, 42] [] ?_
  repeat (refine AW_seq ?_)
  refine tst (fun h1 => ?_) (fun h1 => ?_)
  · simp at h1
    repeat (refine AW_seq ?_)
    refine reg ?_
    refine run 3 ?_
    refine call (fun _ => hNo) ?_
    refine run 6 ?_
    refine fin [0, 1, 10] [] ?_
    repeat (refine AW_seq ?_)
    refine reg ?_
    refine run 20 ?_
    refine call (fun _ => awake_true) ?_
    refine run 2 ?_
    refine fin [8] [] ?_
    refine AW_ret (ret ?_)
    have he1 := he.out
    by_cases hs : SizeOk l.length v
    · rw [if_pos hs] at he1
      have := is_size hs
      first | (simp [bPV, he1, this]; done) | (simp [bPV, he1, this]; omega)
    · rw [if_neg hs] at he1
      have := not_size hs
      first | (simp [bPV, he1]; done) | (simp [bPV, he1]; omega)
  · simp at h1
    obtain ⟨V, hvV⟩ : ∃ V : Nat, v = V := ⟨v.toNat, by omega⟩
    have hs : SizeOk l.length V := by unfold SizeOk; omega
    have hV61 : V ≤ 61 := by omega
    have hl8 : l.length ≤ 8 := by omega
    have hn30 : ns.length ≤ 30 := by omega
    have hN := new_words hs ▸ new_any l.length V
    have hun : ∀ ms, skPV (skW l V ms) = .agg [iPV l.length, iPV V, .sl ((wordsE l V ms).map uPV)] := fun ms => rfl
    obtain ⟨hs', -⟩ : Go.RowKit.Hid (SizeOk l.length V) ∧ True := ⟨hs, trivial⟩
    clear hs hNo h1
    refine AW_skip ?_
    repeat (refine AW_seq ?_)
    refine reg ?_
    refine run 3 ?_
    refine call (fun _ => hN) ?_
    refine run 6 ?_
    refine fin [0, 1, 2, 3, 11, 12] [(12, 0)] ?_
    repeat (refine AW_seq ?_)
    refine reg ?_
    refine run 6 ?_
    refine fin [0, 1, 2, 3, 11, 12, 13, 14] [(12, 0), (14, 0), (15, 0)] ?_
    repeat (refine AW_seq ?_)
    refine reg ?_
    refine run 3 ?_
    refine fin [0, 1, 2, 3, 11, 12, 13, 14, 81, 82, 83] [(12, 0), (14, 0), (15, 0)] ?_
    repeat (refine AW_seq ?_)
    refine AW_block ?_
    have ht0 : ns.take 0 = [] := rfl
    refine AW_loops (ι := Nat × List Int × List Int) (fun x => ⟨lk [(0, .c (.sl (l.map hsPV))), (1, .c (iPV v)), (2, .c (.sl (ns.map uPV))), (3, .c (.v (.int .u32 mask))), (11, .ptr (12, 0) 1 0 0), (12, .c (iPV 0)), (13, .ptr (14, 0) 1 0 0), (14, .ptr (15, 0) 1 0 0), (81, .c (.sl (ns.map uPV))), (82, .c (iPV ns.length)), (83, .c (iPV x.1))], lkM [((12, 0), some ⟨26, 3, [.agg [iPV l.length, iPV V, .sl ((wordsE l V (ns.take x.1)).map uPV)]], true, []⟩), ((14, 0), some ⟨26, 3, [.agg [iPV l.length, iPV V, .sl ((wordsE l V x.2.1).map uPV)]], true, []⟩), ((15, 0), some ⟨26, 3, [.agg [iPV l.length, iPV V, .sl ((wordsE l V x.2.2).map uPV)]], true, []⟩)], lkG [] 1⟩) (fun x => x.1 ≤ ns.length ∧ (∀ n ∈ x.2.1, U64 n) ∧ (∀ n ∈ x.2.2, U64 n) ∧ ∀ k, xorI (cellE l V x.2.1 k) (cellE l V x.2.2 k) = cellE l V (ns.take x.1) k) (fun x => ns.length - x.1) (0, [], []) ⟨Nat.zero_le _, (fun _ h => by cases h), (fun _ h => by cases h), fun k => (show xorI 0 0 = 0 from xorI_zero u_zero)⟩ wk ?_
    rintro ⟨i, A, B⟩ ⟨hi, hA, hB, hC⟩
    simp only at hi hA hB hC
    obtain ⟨hC', -⟩ : Go.RowKit.Hid (∀ k, xorI (cellE l V A k) (cellE l V B k) = cellE l V (ns.take i) k) ∧ True := ⟨hC, trivial⟩
    clear hC
    repeat (refine AW_seq ?_)
    refine reg ?_
    refine run 1 ?_
    refine fin [0, 1, 2, 3, 11, 12, 13, 14, 81, 82, 83, 84] [(12, 0), (14, 0), (15, 0)] ?_
    repeat (refine AW_seq ?_)
    refine tst (fun h2 => ?_) (fun h2 => ?_)
    · simp at h2
      obtain ⟨w, hwe⟩ : ∃ w, ns.getD i default = w := ⟨_, rfl⟩
      have hwu := getD_all hn (i := i) (by omega)
      rw [hwe] at hwu
      have hT1 := tog_words hs'.out (ns.take i) w ▸ toggle_any (skW l V (ns.take i)) l w hl hwu.1
      have hT2 := tog_words hs'.out A w ▸ toggle_any (skW l V A) l w hl hwu.1
      have hT3 := tog_words hs'.out B w ▸ toggle_any (skW l V B) l w hl hwu.1
      have htk := take_next ns i (by omega)
      rw [hwe] at htk
      rw [← htk] at hT1
      have hAw : ∀ n ∈ A ++ [w], U64 n := fun n h => (List.mem_append.1 h).elim (hA n) (fun h => by rw [List.mem_singleton.1 h]; exact hwu)
      have hBw : ∀ n ∈ B ++ [w], U64 n := fun n h => (List.mem_append.1 h).elim (hB n) (fun h => by rw [List.mem_singleton.1 h]; exact hwu)
      obtain ⟨hCl, -⟩ : Go.RowKit.Hid (∀ k, xorI (cellE l V (A ++ [w]) k) (cellE l V B k) = cellE l V (ns.take (i + 1)) k) ∧ True := ⟨htk ▸ cells_left hA hB hwu hC'.out, trivial⟩
      obtain ⟨hCr, -⟩ : Go.RowKit.Hid (∀ k, xorI (cellE l V A k) (cellE l V (B ++ [w]) k) = cellE l V (ns.take (i + 1)) k) ∧ True := ⟨htk ▸ cells_right hA hB hwu hC'.out, trivial⟩
      clear htk
      refine AW_skip ?_
      repeat (refine AW_seq ?_)
      refine AW_block ?_
      repeat (refine AW_seq ?_)
      refine reg ?_
      refine run 5 ?_
      refine fin [0, 1, 2, 3, 11, 12, 13, 14, 15, 16, 81, 82, 83] [(12, 0), (14, 0), (15, 0)] ?_
      repeat (refine AW_seq ?_)
      refine reg ?_
      refine run 3 ?_
      refine call (fun _ => hT1) ?_
      refine run 6 ?_
      refine fin [0, 1, 2, 3, 11, 12, 13, 14, 15, 16, 17, 18, 81, 82, 83] [(12, 0), (14, 0), (15, 0), (18, 1)] ?_
      repeat (refine AW_seq ?_)
      refine reg ?_
      refine run 2 ?_
      refine fin [0, 1, 2, 3, 11, 12, 13, 14, 15, 16, 17, 81, 82, 83, 96] [(12, 0), (14, 0), (15, 0), (18, 1)] ?_
      repeat (refine AW_seq ?_)
      refine tstF ?_
      refine AW_skip ?_
      repeat (refine AW_seq ?_)
      refine reg ?_
      refine run 2 ?_
      refine fin [0, 1, 2, 3, 11, 12, 13, 14, 15, 16, 81, 82, 83] [(12, 0), (14, 0), (15, 0)] ?_
      repeat (refine AW_seq ?_)
      refine reg ?_
      refine run 5 ?_
      refine fin [0, 1, 2, 3, 11, 12, 13, 14, 16, 81, 82, 83, 102] [(12, 0), (14, 0), (15, 0)] ?_
      repeat (refine AW_seq ?_)
      refine tst (fun h4 => ?_) (fun h4 => ?_)
      · skip
        repeat (refine AW_seq ?_)
        refine reg ?_
        refine run 3 ?_
        refine call (fun _ => hT2) ?_
        refine run 4 ?_
        refine finN ?_
        refine kp [0, 1, 2, 3, 11, 12, 13, 14, 81, 82, 83] [(12, 0), (14, 0), (15, 0)] ?_
        repeat (refine AW_seq ?_)
        refine reg ?_
        refine run 2 ?_
        refine finN ?_
        exact ⟨(i + 1, A ++ [w], B), by simp only; omega, ⟨by simp only; omega, hAw, hB, hCl.out⟩, wk⟩
      · skip
        repeat (refine AW_seq ?_)
        refine reg ?_
        refine run 3 ?_
        refine call (fun _ => hT3) ?_
        refine run 4 ?_
        refine finN ?_
        refine kp [0, 1, 2, 3, 11, 12, 13, 14, 81, 82, 83] [(12, 0), (14, 0), (15, 0)] ?_
        repeat (refine AW_seq ?_)
        refine reg ?_
        refine run 2 ?_
        refine finN ?_
        exact ⟨(i + 1, A, B ++ [w]), by simp only; omega, ⟨by simp only; omega, hA, hBw, hCr.out⟩, wk⟩
    · simp at h2
      have hta : ns.take i = ns := List.take_of_length_le (by omega)
      have hMe := merge_words hs'.out hC'.out ▸ merge_any (skW l V A) (skW l V B)
      rw [hta] at hMe
      have hWo := words_any l V ns hl (fun n h => (hn n h).1) hl8 hV61 (by omega)
      have hSa := same_self (skW l V ns) (by have := words_len l V ns; have := size_mul hs'.out; have := is_len (skW_is hs'.out ns); omega)
      refine AW_exit ?_
      repeat (refine AW_seq ?_)
      refine reg ?_
      refine run 2 ?_
      refine call (fun _ => hMe) ?_
      refine run 6 ?_
      refine fin [0, 1, 2, 11, 12, 19, 20] [(12, 0), (20, 1)] ?_
      repeat (refine AW_seq ?_)
      refine reg ?_
      refine run 3 ?_
      refine call (fun _ => hWo) ?_
      refine run 1 ?_
      refine fin [0, 1, 11, 12, 19, 20, 21] [(12, 0), (20, 1)] ?_
      repeat (refine AW_seq ?_)
      refine reg ?_
      refine run 12 ?_
      refine call (fun _ => hSa) ?_
      refine run 7 ?_
      refine call (fun _ => hSa) ?_
      refine run 2 ?_
      refine call (fun _ => awake_true) ?_
      refine run 2 ?_
      refine fin [8] [] ?_
      refine AW_ret (ret ?_)
      rfl

theorem sketchOf_any (l : List Hs) (v : Int) (ns : List Int) (mask : Int) (hw : ∀ h ∈ l, (0 ≤ h.a ∧ h.a ≤ 18446744073709551615) ∧ (0 ≤ h.b ∧ h.b ≤ 18446744073709551615)) (hn : ∀ n ∈ ns, 0 ≤ n ∧ n ≤ 18446744073709551615) : ACalls Try.prog 3 [.sl (l.map hsPV), iPV v, .sl (ns.map uPV), .v (.int .u32 mask)] (bPV true) :=
  sketchOf_go l v ns mask (fun h hh => ⟨(hw h hh).1.1, (hw h hh).2.1⟩) hn
end Go.Proofs.Ytfgjiadehfljlaa