/-
  Contracts on plain data: the names that stand in words, words compared, the document's words of some names.
  Conditions: numbers are those of their kinds; few words.
-/
import Derived.Test.YtfgjiadehfljlaaSketchT
namespace Go.Proofs.Ytfgjiadehfljlaa
open Go Go.Ab
open Go.Proofs.Ytfgjiadehfljlaa.M
set_option linter.unusedVariables false
set_option linter.unusedSimpArgs false

def isNm (n : Int) : Bool := decide (n / 16777216 < n % 16777216)
def nmE (ws : List Int) : List Int := ws.filter isNm
theorem endsE_nm (n : Int) : endsE n = .tup [iPV (if n / 16777216 < n % 16777216 then n / 16777216 else 0), iPV (if n / 16777216 < n % 16777216 then n % 16777216 else 0), bPV (isNm n)] := by
  unfold endsE isNm; split
  · rename_i h; simp [h]
  · rename_i h; simp only [h, if_false, decide_false]
theorem take_next (ws : List Int) (i : Nat) (h : i < ws.length) : ws.take (i + 1) = ws.take i ++ [ws.getD i default] := by
  rw [List.take_succ_eq_append_getElem h, List.getD_eq_getElem?_getD, List.getElem?_eq_getElem h]; rfl
theorem nm_yes {ws : List Int} {i : Nat} (h : i < ws.length) (hn : isNm (ws.getD i default) = true) : nmE (ws.take (i + 1)) = nmE (ws.take i) ++ [ws.getD i default] := by
  rw [take_next ws i h, nmE, List.filter_append]; congr 1; simp only [List.filter_cons, hn]; rfl
theorem nm_no {ws : List Int} {i : Nat} (h : i < ws.length) (hn : isNm (ws.getD i default) = false) : nmE (ws.take (i + 1)) = nmE (ws.take i) := by
  rw [take_next ws i h, nmE, List.filter_append]; simp only [List.filter_cons, hn, Bool.false_eq_true, if_false, List.filter_nil, List.append_nil, nmE]
theorem nm_len (ws : List Int) (i : Nat) : (nmE (ws.take i)).length ≤ i := by
  have := List.length_filter_le isNm (ws.take i)
  rw [List.length_take] at this; unfold nmE; omega
theorem getD_all {ws : List Int} {p : Int → Prop} (h : ∀ w ∈ ws, p w) {i : Nat} (hi : i < ws.length) : p (ws.getD i default) := by
  rw [List.getD_eq_getElem?_getD, List.getElem?_eq_getElem hi]; exact h _ (List.getElem_mem hi)
def U64 (w : Int) : Prop := 0 ≤ w ∧ w ≤ 18446744073709551615
def namesE (s : Sk) : PV := .sl ((if IsSk s then nmE s.ws else []).map uPV)

set_option maxHeartbeats 4000000 in
theorem names_any (s : Sk) (hw : ∀ w ∈ s.ws, U64 w) : ACalls Try.prog 15 [skPV s] (namesE s) := by
  refine ent Try.func15 ?_
  repeat (refine AW_seq ?_)
  refine reg ?_
  refine run 2 ?_
  refine fin [1] [(2, 0)] ?_
  repeat (refine AW_seq ?_)
  refine reg ?_
  refine run 1 ?_
  refine call (fun _ => right_any s) ?_
  refine run 1 ?_
  refine fin [1, 11] [(2, 0)] ?_
  repeat (refine AW_seq ?_)
  refine tst (fun h1 => ?_) (fun h1 => ?_)
  · simp at h1
    repeat (refine AW_seq ?_)
    refine reg ?_
    refine run 1 ?_
    refine fin [2] [] ?_
    refine AW_ret (ret ?_)
    rw [namesE, if_neg h1]; rfl
  · simp at h1
    have hm := size_mul h1.1
    have hl := h1.2
    have hle : s.ws.length ≤ 488 := by omega
    have hfin : namesE s = .sl ((nmE s.ws).map uPV) := by rw [namesE, if_pos h1]
    clear hm hl
    refine AW_skip ?_
    repeat (refine AW_seq ?_)
    refine reg ?_
    refine run 1 ?_
    refine fin [1, 3] [(2, 0)] ?_
    repeat (refine AW_seq ?_)
    refine reg ?_
    refine run 4 ?_
    refine fin [3, 13, 14, 15] [] ?_
    refine seed 3 4 31 1 ?_
    repeat (refine AW_seq ?_)
    refine AW_block ?_
    have h0 : nmE (s.ws.take 0) = [] := rfl
    refine AW_loops (ι := Nat) (fun i => ⟨lk [(3, .own (4, 0) (nmE (s.ws.take i)).length), (13, .c (.sl (s.ws.map uPV))), (14, .c (iPV s.ws.length)), (15, .c (iPV i))], lkM [((4, 0), some ⟨31, 1, (nmE (s.ws.take i)).map uPV, true, []⟩)], lkG [] 1⟩) (fun i => i ≤ s.ws.length) (fun i => s.ws.length - i) 0 (Nat.zero_le _) wk ?_
    rintro i hi
    repeat (refine AW_seq ?_)
    refine reg ?_
    refine run 1 ?_
    refine fin [3, 13, 14, 15, 16] [(4, 0)] ?_
    repeat (refine AW_seq ?_)
    refine tst (fun h2 => ?_) (fun h2 => ?_)
    · simp at h2
      obtain ⟨w, hwe⟩ : ∃ w, s.ws.getD i default = w := ⟨_, rfl⟩
      have hwb := getD_all hw (i := i) (by omega)
      rw [hwe] at hwb
      have hnl := nm_len s.ws i
      have hiL : i < s.ws.length := by omega
      refine AW_skip ?_
      repeat (refine AW_seq ?_)
      refine AW_block ?_
      repeat (refine AW_seq ?_)
      refine reg ?_
      refine run 3 ?_
      refine fin [3, 5, 13, 14, 15] [(4, 0)] ?_
      repeat (refine AW_seq ?_)
      refine reg ?_
      refine run 1 ?_
      refine call (fun _ => endsE_nm w ▸ ends_any w hwb.1 hwb.2) ?_
      refine run 7 ?_
      refine fin [3, 5, 8, 13, 14, 15] [(4, 0)] ?_
      repeat (refine AW_seq ?_)
      refine reg ?_
      refine run 1 ?_
      refine fin [3, 5, 13, 14, 15, 25] [(4, 0)] ?_
      repeat (refine AW_seq ?_)
      refine tst (fun h3 => ?_) (fun h3 => ?_)
      · skip
        have hy := nm_yes hiL (by rw [hwe]; exact h3)
        rw [hwe] at hy
        have hy2 : (nmE (s.ws.take (i + 1))).map uPV = (nmE (s.ws.take i)).map uPV ++ [uPV w] := by rw [hy, List.map_append]; rfl
        have hy3 : (nmE (s.ws.take (i + 1))).length = (nmE (s.ws.take i)).length + 1 := by rw [hy, List.length_append]; rfl
        clear hy
        repeat (refine AW_seq ?_)
        refine reg ?_
        refine run 5 ?_
        refine finN ?_
        refine kp [3, 13, 14, 15] [(4, 0)] ?_
        repeat (refine AW_seq ?_)
        refine reg ?_
        refine run 2 ?_
        refine finN ?_
        exact ⟨i + 1, by omega, by omega, wk⟩
      · skip
        have hy := nm_no hiL (by rw [hwe]; exact h3)
        refine AW_skip ?_
        repeat (refine AW_seq ?_)
        refine reg ?_
        refine run 2 ?_
        refine finN ?_
        exact ⟨i + 1, by omega, by omega, wk⟩
    · simp at h2
      have hie : i = s.ws.length := by omega
      have hta : s.ws.take i = s.ws := by rw [hie, List.take_length]
      refine AW_exit ?_
      repeat (refine AW_seq ?_)
      refine reg ?_
      refine run 2 ?_
      refine fin [2] [(4, 0)] ?_
      refine AW_ret (ret ?_)
      rw [hfin]; first | rfl | (simp [hta]; done)

set_option maxHeartbeats 4000000 in
theorem names'_any (ws : List Int) (hw : ∀ w ∈ ws, U64 w) (hle : ws.length ≤ 600) : ACalls Try.prog 14 [.sl (ws.map uPV)] (.sl ((nmE ws).map uPV)) := by
  refine ent Try.func14 ?_
  repeat (refine AW_seq ?_)
  refine reg ?_
  refine run 1 ?_
  refine fin [0] [] ?_
  repeat (refine AW_seq ?_)
  refine reg ?_
  refine run 1 ?_
  refine fin [0, 3] [] ?_
  repeat (refine AW_seq ?_)
  refine reg ?_
  refine run 1 ?_
  refine fin [0, 3, 4] [] ?_
  refine seed 3 4 31 1 ?_
  repeat (refine AW_seq ?_)
  refine AW_block ?_
  have h0 : nmE (ws.take 0) = [] := rfl
  refine AW_loops (ι := Nat) (fun i => ⟨lk [(0, .c (.sl (ws.map uPV))), (3, .own (4, 0) (nmE (ws.take i)).length), (4, .c (iPV i))], lkM [((4, 0), some ⟨31, 1, (nmE (ws.take i)).map uPV, true, []⟩)], lkG [] 1⟩) (fun i => i ≤ ws.length) (fun i => ws.length - i) 0 (Nat.zero_le _) wk ?_
  rintro i hi
  repeat (refine AW_seq ?_)
  refine reg ?_
  refine run 4 ?_
  refine fin [0, 3, 4, 11] [(4, 0)] ?_
  repeat (refine AW_seq ?_)
  refine tst (fun h1 => ?_) (fun h1 => ?_)
  · simp at h1
    obtain ⟨w, hwe⟩ : ∃ w, ws.getD i default = w := ⟨_, rfl⟩
    have hwb := getD_all hw (i := i) (by omega)
    rw [hwe] at hwb
    have hnl := nm_len ws i
    have hiL : i < ws.length := by omega
    refine AW_skip ?_
    repeat (refine AW_seq ?_)
    refine AW_block ?_
    repeat (refine AW_seq ?_)
    refine reg ?_
    refine run 4 ?_
    refine call (fun _ => endsE_nm w ▸ ends'_any w hwb.1 hwb.2) ?_
    refine run 7 ?_
    refine fin [0, 3, 4, 7] [(4, 0)] ?_
    repeat (refine AW_seq ?_)
    refine reg ?_
    refine run 1 ?_
    refine fin [0, 3, 4, 23] [(4, 0)] ?_
    repeat (refine AW_seq ?_)
    refine tst (fun h2 => ?_) (fun h2 => ?_)
    · skip
      have hy := nm_yes hiL (by rw [hwe]; exact h2)
      rw [hwe] at hy
      have hy2 : (nmE (ws.take (i + 1))).map uPV = (nmE (ws.take i)).map uPV ++ [uPV w] := by rw [hy, List.map_append]; rfl
      have hy3 : (nmE (ws.take (i + 1))).length = (nmE (ws.take i)).length + 1 := by rw [hy, List.length_append]; rfl
      clear hy
      repeat (refine AW_seq ?_)
      refine reg ?_
      refine run 8 ?_
      refine finN ?_
      refine kp [0, 3, 4] [(4, 0)] ?_
      repeat (refine AW_seq ?_)
      refine reg ?_
      refine run 3 ?_
      refine finN ?_
      exact ⟨i + 1, by omega, by omega, wk⟩
    · skip
      have hy := nm_no hiL (by rw [hwe]; exact h2)
      refine AW_skip ?_
      repeat (refine AW_seq ?_)
      refine reg ?_
      refine run 3 ?_
      refine finN ?_
      exact ⟨i + 1, by omega, by omega, wk⟩
  · simp at h1
    have hie : i = ws.length := by omega
    have hta : ws.take i = ws := by rw [hie, List.take_length]
    refine AW_exit ?_
    repeat (refine AW_seq ?_)
    refine reg ?_
    refine run 2 ?_
    refine fin [2] [(4, 0)] ?_
    refine AW_ret (ret ?_)
    first | rfl | (simp [hta]; done)

end Go.Proofs.Ytfgjiadehfljlaa