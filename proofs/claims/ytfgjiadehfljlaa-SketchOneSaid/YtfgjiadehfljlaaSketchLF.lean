/-
  The law SketchFirst on plain data.
  Conditions: numbers are those of their kinds; not too many hashes.
-/
import Derived.Test.YtfgjiadehfljlaaSketchLM
namespace Go.Proofs.Ytfgjiadehfljlaa
open Go Go.Ab
open Go.Proofs.Ytfgjiadehfljlaa.M
set_option linter.unusedVariables false
set_option linter.unusedSimpArgs false

theorem words_getD {l : List Hs} {V : Nat} {ns : List Int} {k : Nat} (h : k < l.length * V) : (wordsE l V ns).getD k default = cellE l V ns k := by
  rw [List.getD_eq_getElem?_getD, wordsE, rows_get, if_pos h]; rfl
theorem fold_next {ns : List Int} {i : Nat} (h : i < ns.length) : (ns.take (i + 1)).foldl xorI 0 = xorI ((ns.take i).foldl xorI 0) (ns.getD i default) := by
  rw [take_next ns i h, List.foldl_append]; rfl

set_option maxHeartbeats 4000000 in
theorem sketchFirst_no (l : List Hs) (v : Int) (ns : List Int) (hs : ¬ SizeOk l.length v) : ACalls Try.prog 6 [.sl (l.map hsPV), iPV v, .sl (ns.map uPV)] (bPV true) := by
  refine ent Try.func6 ?_
  have hb : ((1 : Int) != 0) = true := rfl
  have hN := new_no hs ▸ new_any l.length v
  obtain ⟨hs', -⟩ : Go.RowKit.Hid (¬ SizeOk l.length v) ∧ True := ⟨hs, trivial⟩
  clear hs
  repeat (refine AW_seq ?_)
  refine reg ?_
  refine run 1 ?_
  refine fin [0, 1, 2] [] ?_
  repeat (refine AW_seq ?_)
  refine reg ?_
  refine run 3 ?_
  refine call (fun _ => hN) ?_
  refine run 6 ?_
  refine fin [0, 1, 2, 7, 8] [(8, 0)] ?_
  repeat (refine AW_seq ?_)
  refine reg ?_
  refine run 7 ?_
  refine fin [0, 1, 2, 7, 26] [(8, 0)] ?_
  repeat (refine AW_seq ?_)
  refine tstT ?_
  repeat (refine AW_seq ?_)
  refine reg ?_
  refine call (fun _ => awake_true) ?_
  refine run 1 ?_
  refine fin [6] [] ?_
  refine AW_ret (ret ?_)
  rfl

set_option maxHeartbeats 8000000 in
theorem sketchFirst_ok (l : List Hs) (V : Nat) (ns : List Int) (hl : ∀ h ∈ l, 0 ≤ h.a ∧ 0 ≤ h.b) (hn : ∀ n ∈ ns, U64 n) (hs : SizeOk l.length V) : ACalls Try.prog 6 [.sl (l.map hsPV), iPV V, .sl (ns.map uPV)] (bPV true) := by
  refine ent Try.func6 ?_
  have hN := new_words hs ▸ new_any l.length V
  have hm := size_mul hs
  have hV : 0 < V := by have := hs.2.2.1; omega
  have hR8 : l.length ≤ 8 := by have := hs.2.1; omega
  have hw : IntKind.i64.wrap ((l.length : Int) * (V : Int)) = ((l.length * V : Nat) : Int) := by rw [Int.natCast_mul]; exact wrap_i64 _ (by omega) (by omega)
  have hwl := words_len l V ns
  have hLV : l.length * V ≤ 488 := by rw [← Int.natCast_mul] at hm; omega
  clear hm
  obtain ⟨hs', -⟩ : Go.RowKit.Hid (SizeOk l.length V) ∧ True := ⟨hs, trivial⟩
  clear hs
  have hun : ∀ ms, skPV (skW l V ms) = .agg [iPV l.length, iPV V, .sl ((wordsE l V ms).map uPV)] := fun ms => rfl
  repeat (refine AW_seq ?_)
  refine reg ?_
  refine run 1 ?_
  refine fin [0, 1, 2] [] ?_
  repeat (refine AW_seq ?_)
  refine reg ?_
  refine run 3 ?_
  refine call (fun _ => hN) ?_
  refine run 6 ?_
  refine fin [0, 1, 2, 7, 8] [(8, 0)] ?_
  repeat (refine AW_seq ?_)
  refine reg ?_
  refine run 7 ?_
  refine fin [0, 1, 2, 7, 26] [(8, 0)] ?_
  repeat (refine AW_seq ?_)
  refine tst (fun h1 => ?_) (fun h1 => ?_)
  · simp at h1
    repeat (refine AW_seq ?_)
    refine reg ?_
    refine call (fun _ => awake_true) ?_
    refine run 1 ?_
    refine fin [6] [] ?_
    refine AW_ret (ret ?_)
    rfl
  · simp at h1
    have hn30 : ns.length ≤ 30 := by omega
    refine AW_skip ?_
    repeat (refine AW_seq ?_)
    refine reg ?_
    refine run 1 ?_
    refine fin [0, 1, 2, 7, 9] [(8, 0)] ?_
    repeat (refine AW_seq ?_)
    refine reg ?_
    refine run 3 ?_
    refine fin [0, 1, 7, 9, 28, 29, 30] [(8, 0)] ?_
    repeat (refine AW_seq ?_)
    refine AW_block ?_
    have ht0 : ns.take 0 = [] := rfl
    have hf0 : ([] : List Int).foldl xorI 0 = 0 := rfl
    refine AW_loops (ι := Nat) (fun i => ⟨lk [(0, .c (.sl (l.map hsPV))), (1, .c (iPV V)), (7, .ptr (8, 0) 1 0 0), (9, .c (uPV ((ns.take i).foldl xorI 0))), (28, .c (.sl (ns.map uPV))), (29, .c (iPV ns.length)), (30, .c (iPV i))], lkM [((8, 0), some ⟨26, 3, [.agg [iPV l.length, iPV V, .sl ((wordsE l V (ns.take i)).map uPV)]], true, []⟩)], lkG [] 1⟩) (fun i => i ≤ ns.length) (fun i => ns.length - i) 0 (Nat.zero_le _) wk ?_
    rintro i hi
    repeat (refine AW_seq ?_)
    refine reg ?_
    refine run 1 ?_
    refine fin [0, 1, 7, 9, 28, 29, 30, 31] [(8, 0)] ?_
    repeat (refine AW_seq ?_)
    refine tst (fun h2 => ?_) (fun h2 => ?_)
    · simp at h2
      obtain ⟨w, hwe⟩ : ∃ w, ns.getD i default = w := ⟨_, rfl⟩
      have hwu := getD_all hn (i := i) (by omega)
      rw [hwe] at hwu
      have hT := tog_words hs'.out (ns.take i) w ▸ toggle_any (skW l V (ns.take i)) l w hl hwu.1
      have htk := take_next ns i (by omega)
      rw [hwe] at htk
      rw [← htk] at hT
      have hfn := fold_next (ns := ns) (i := i) (by omega)
      rw [hwe] at hfn
      have hfn : (ns.take (i + 1)).foldl xorI 0 = bits .xor .u64 ((ns.take i).foldl xorI 0) w := hfn
      clear htk
      refine AW_skip ?_
      repeat (refine AW_seq ?_)
      refine AW_block ?_
      repeat (refine AW_seq ?_)
      refine reg ?_
      refine run 3 ?_
      refine fin [0, 1, 7, 9, 11, 28, 29, 30] [(8, 0)] ?_
      repeat (refine AW_seq ?_)
      refine reg ?_
      refine run 3 ?_
      refine call (fun _ => hT) ?_
      refine run 4 ?_
      refine fin [0, 1, 7, 9, 11, 28, 29, 30] [(8, 0)] ?_
      repeat (refine AW_seq ?_)
      refine reg ?_
      refine run 4 ?_
      refine finN ?_
      refine kp [0, 1, 7, 9, 28, 29, 30] [(8, 0)] ?_
      repeat (refine AW_seq ?_)
      refine reg ?_
      refine run 2 ?_
      refine finN ?_
      exact ⟨i + 1, by omega, by omega, wk⟩
    · simp at h2
      have hta : ns.take i = ns := List.take_of_length_le (by omega)
      refine AW_exit ?_
      repeat (refine AW_seq ?_)
      refine reg ?_
      refine run 8 ?_
      refine fin [0, 1, 7, 9, 52] [(8, 0)] ?_
      repeat (refine AW_seq ?_)
      refine tstF ?_
      refine AW_skip ?_
      repeat (refine AW_seq ?_)
      refine reg ?_
      refine run 3 ?_
      refine fin [1, 7, 9, 54, 55] [(8, 0)] ?_
      repeat (refine AW_seq ?_)
      refine AW_block ?_
      refine AW_loops (ι := Nat) (fun r => ⟨lk [(1, .c (iPV V)), (7, .ptr (8, 0) 1 0 0), (9, .c (uPV (ns.foldl xorI 0))), (54, .c (iPV l.length)), (55, .c (iPV r))], lkM [((8, 0), some ⟨26, 3, [.agg [iPV l.length, iPV V, .sl ((wordsE l V ns).map uPV)]], true, []⟩)], lkG [] 1⟩) (fun r => r ≤ l.length) (fun r => l.length - r) 0 (Nat.zero_le _) wk ?_
      rintro r hr
      repeat (refine AW_seq ?_)
      refine reg ?_
      refine run 1 ?_
      refine fin [1, 7, 9, 54, 55, 56] [(8, 0)] ?_
      repeat (refine AW_seq ?_)
      refine tst (fun h4 => ?_) (fun h4 => ?_)
      · simp at h4
        have hin := row_in (V := V) (show r < l.length by omega)
        have hwr : IntKind.i64.wrap ((r : Int) * (V : Int)) = ((r * V : Nat) : Int) := by rw [← Int.natCast_mul]; exact wrap_i64 _ (by omega) (by omega)
        have hgd : (wordsE l V ns).getD (r * V) default = ns.foldl xorI 0 := by rw [words_getD (by omega), cell_zero l V hV]
        have hlt : r * V < (wordsE l V ns).length := by rw [hwl]; omega
        have hlt2 : r * V < l.length * V := by omega
        refine AW_skip ?_
        repeat (refine AW_seq ?_)
        refine AW_block ?_
        repeat (refine AW_seq ?_)
        refine reg ?_
        refine run 2 ?_
        refine fin [1, 7, 9, 12, 54, 55] [(8, 0)] ?_
        repeat (refine AW_seq ?_)
        refine reg ?_
        refine run 9 ?_
        refine fin [1, 7, 9, 54, 55, 66] [(8, 0)] ?_
        repeat (refine AW_seq ?_)
        refine tstF ?_
        refine AW_skip ?_
        repeat (refine AW_seq ?_)
        refine reg ?_
        refine run 2 ?_
        refine finN ?_
        exact ⟨r + 1, by omega, by omega, wk⟩
      · simp at h4
        refine AW_exit ?_
        repeat (refine AW_seq ?_)
        refine reg ?_
        refine call (fun _ => awake_true) ?_
        refine run 1 ?_
        refine fin [6] [] ?_
        refine AW_ret (ret ?_)
        rfl

theorem sketchFirst_any (l : List Hs) (v : Int) (ns : List Int) (hw : ∀ h ∈ l, (0 ≤ h.a ∧ h.a ≤ 18446744073709551615) ∧ (0 ≤ h.b ∧ h.b ≤ 18446744073709551615)) (hn : ∀ n ∈ ns, 0 ≤ n ∧ n ≤ 18446744073709551615) : ACalls Try.prog 6 [.sl (l.map hsPV), iPV v, .sl (ns.map uPV)] (bPV true) := by
  by_cases hs : SizeOk l.length v
  · obtain ⟨V, rfl⟩ : ∃ V : Nat, v = V := ⟨v.toNat, by have := hs.2.2.1; omega⟩
    exact sketchFirst_ok l V ns (fun h hh => ⟨(hw h hh).1.1, (hw h hh).2.1⟩) hn hs
  · exact sketchFirst_no l v ns hs
end Go.Proofs.Ytfgjiadehfljlaa