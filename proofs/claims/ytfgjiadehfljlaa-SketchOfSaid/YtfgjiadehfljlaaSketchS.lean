/-
  Contracts on plain data: words compared, the document's words of some names.
  Conditions: numbers are those of their kinds; few words.
-/
import Derived.Test.YtfgjiadehfljlaaSketchN
namespace Go.Proofs.Ytfgjiadehfljlaa
open Go Go.Ab
open Go.Proofs.Ytfgjiadehfljlaa.M
set_option linter.unusedVariables false
set_option linter.unusedSimpArgs false

theorem take_same {a b : List Int} {i : Nat} (ha : i < a.length) (hb : i < b.length) (h : a.take i = b.take i) (e : a.getD i default = b.getD i default) : a.take (i + 1) = b.take (i + 1) := by
  rw [take_next a i ha, take_next b i hb, h, e]
theorem getD_of_eq {a b : List Int} {i : Nat} (h : a = b) : a.getD i default = b.getD i default := by rw [h]
/-- the word at k, of these names -/
def cellE (l : List Hs) (V : Nat) (ns : List Int) (k : Nat) : Int := ns.foldl (fun w n => if cnd l V n k = true then xorI w n else w) 0
def rowsE (l : List Hs) (V : Nat) (ns : List Int) (m : Nat) : List Int := (List.range m).map (cellE l V ns)
theorem rows_len (l : List Hs) (V : Nat) (ns : List Int) (m : Nat) : (rowsE l V ns m).length = m := by simp [rowsE]
theorem rows_next (l : List Hs) (V : Nat) (ns : List Int) (m : Nat) : (rowsE l V ns (m + 1)).map uPV = (rowsE l V ns m).map uPV ++ [uPV (cellE l V ns m)] := by
  simp [rowsE, List.range_succ]
theorem cell_next {l : List Hs} {V : Nat} {ns : List Int} {k i : Nat} (h : i < ns.length) : cellE l V (ns.take (i + 1)) k = if cnd l V (ns.getD i default) k = true then xorI (cellE l V (ns.take i) k) (ns.getD i default) else cellE l V (ns.take i) k := by
  rw [take_next ns i h, cellE, List.foldl_append]; rfl
def wordsE (l : List Hs) (V : Nat) (ns : List Int) : List Int := rowsE l V ns (l.length * V)

theorem same'_any (a b : List Int) (hl : a.length < 1099511627776) : ACalls Try.prog 13 [.sl (a.map uPV), .sl (b.map uPV)] (bPV (decide (a = b))) := by
  refine ent Try.func13 ?_
  repeat (refine AW_seq ?_)
  refine reg ?_
  refine run 1 ?_
  refine fin [0, 1] [] ?_
  repeat (refine AW_seq ?_)
  refine reg ?_
  refine run 5 ?_
  refine fin [0, 1, 10] [] ?_
  repeat (refine AW_seq ?_)
  refine tst (fun h1 => ?_) (fun h1 => ?_)
  · simp at h1
    repeat (refine AW_seq ?_)
    refine reg ?_
    refine run 1 ?_
    refine fin [4] [] ?_
    refine AW_ret (ret ?_)
    have : a ≠ b := fun e => h1 (by rw [e])
    simp [bPV, this]
  · simp at h1
    refine AW_skip ?_
    repeat (refine AW_seq ?_)
    refine reg ?_
    refine run 1 ?_
    refine fin [0, 1, 5] [] ?_
    repeat (refine AW_seq ?_)
    refine AW_block ?_
    refine AW_loops (ι := Nat) (fun i => ⟨lk [(0, .c (.sl (a.map uPV))), (1, .c (.sl (b.map uPV))), (5, .c (iPV i))], lkM [], lkG [] 0⟩) (fun i => i ≤ a.length ∧ a.take i = b.take i) (fun i => a.length - i) 0 ⟨Nat.zero_le _, rfl⟩ wk ?_
    rintro i ⟨hi, hT⟩
    obtain ⟨hT', -⟩ : Go.RowKit.Hid (a.take i = b.take i) ∧ True := ⟨hT, trivial⟩
    clear hT
    repeat (refine AW_seq ?_)
    refine reg ?_
    refine run 4 ?_
    refine fin [0, 1, 5, 14] [] ?_
    repeat (refine AW_seq ?_)
    refine tst (fun h2 => ?_) (fun h2 => ?_)
    · simp at h2
      obtain ⟨x, hx⟩ : ∃ x, a.getD i default = x := ⟨_, rfl⟩
      obtain ⟨y, hy⟩ : ∃ y, b.getD i default = y := ⟨_, rfl⟩
      refine AW_skip ?_
      repeat (refine AW_seq ?_)
      refine AW_block ?_
      repeat (refine AW_seq ?_)
      refine reg ?_
      refine run 9 ?_
      refine fin [0, 1, 5, 25] [] ?_
      repeat (refine AW_seq ?_)
      refine tst (fun h3 => ?_) (fun h3 => ?_)
      · simp at h3
        repeat (refine AW_seq ?_)
        refine reg ?_
        refine run 1 ?_
        refine fin [4] [] ?_
        refine AW_ret (ret ?_)
        have : a ≠ b := fun e => h3 (by rw [← hx, ← hy, e])
        simp [bPV, this]
      · simp at h3
        refine AW_skip ?_
        repeat (refine AW_seq ?_)
        refine reg ?_
        refine run 3 ?_
        refine finN ?_
        exact ⟨i + 1, by omega, ⟨by omega, take_same (by omega) (by omega) hT'.out (by rw [hx, hy, h3])⟩, wk⟩
    · simp at h2
      refine AW_exit ?_
      repeat (refine AW_seq ?_)
      refine reg ?_
      refine run 1 ?_
      refine fin [4] [] ?_
      refine AW_ret (ret ?_)
      have : a = b := by
        have := hT'.out
        rwa [List.take_of_length_le (by omega), List.take_of_length_le (by omega)] at this
      simp [bPV, this]

set_option maxHeartbeats 4000000 in
theorem words_any (l : List Hs) (V : Nat) (ns : List Int) (hl : ∀ h ∈ l, 0 ≤ h.a ∧ 0 ≤ h.b) (hns : ∀ n ∈ ns, 0 ≤ n) (hl8 : l.length ≤ 8) (hV : V ≤ 61) (hn : ns.length < 1099511627776) : ACalls Try.prog 11 [.sl (l.map hsPV), iPV V, .sl (ns.map uPV)] (.sl ((wordsE l V ns).map uPV)) := by
  refine ent Try.func11 ?_
  have hLV : l.length * V ≤ 488 := Nat.le_trans (Nat.mul_le_mul hl8 hV) (by omega)
  have hrl := rows_len l V ns
  have h0 : rowsE l V ns 0 = [] := rfl
  repeat (refine AW_seq ?_)
  refine reg ?_
  refine run 1 ?_
  refine fin [0, 1, 2] [] ?_
  repeat (refine AW_seq ?_)
  refine reg ?_
  refine run 1 ?_
  refine fin [0, 1, 2, 7] [] ?_
  refine seed 7 8 31 1 ?_
  repeat (refine AW_seq ?_)
  refine reg ?_
  refine run 1 ?_
  refine fin [0, 1, 2, 7, 8] [(8, 0)] ?_
  repeat (refine AW_seq ?_)
  refine AW_block ?_
  have hz : 0 * V = 0 := Nat.zero_mul V
  refine AW_loops (ι := Nat) (fun r => ⟨lk [(0, .c (.sl (l.map hsPV))), (1, .c (iPV V)), (2, .c (.sl (ns.map uPV))), (7, .own (8, 0) (r * V)), (8, .c (iPV r))], lkM [((8, 0), some ⟨31, 1, (rowsE l V ns (r * V)).map uPV, true, []⟩)], lkG [] 1⟩) (fun r => r ≤ l.length) (fun r => l.length - r) 0 (Nat.zero_le _) wk ?_
  rintro r hr
  repeat (refine AW_seq ?_)
  refine reg ?_
  refine run 4 ?_
  refine fin [0, 1, 2, 7, 8, 15] [(8, 0)] ?_
  repeat (refine AW_seq ?_)
  refine tst (fun h1 => ?_) (fun h1 => ?_)
  · simp at h1
    have hin := row_in (V := V) (show r < l.length by omega)
    obtain ⟨h, hh⟩ : ∃ h, l.getD r default = h := ⟨_, rfl⟩
    have hbi : 0 ≤ h.a ∧ 0 ≤ h.b := by rw [← hh, List.getD_eq_getElem?_getD, List.getElem?_eq_getElem (by omega)]; exact hl _ (List.getElem_mem _)
    refine AW_skip ?_
    repeat (refine AW_seq ?_)
    refine AW_block ?_
    repeat (refine AW_seq ?_)
    refine reg ?_
    refine run 1 ?_
    refine fin [0, 1, 2, 7, 8, 9] [(8, 0)] ?_
    repeat (refine AW_seq ?_)
    refine AW_block ?_
    refine AW_loops (ι := Nat) (fun j => ⟨lk [(0, .c (.sl (l.map hsPV))), (1, .c (iPV V)), (2, .c (.sl (ns.map uPV))), (7, .own (8, 0) (r * V + j)), (8, .c (iPV r)), (9, .c (iPV j))], lkM [((8, 0), some ⟨31, 1, (rowsE l V ns (r * V + j)).map uPV, true, []⟩)], lkG [] 1⟩) (fun j => j ≤ V) (fun j => V - j) 0 (Nat.zero_le _) wk ?_
    rintro j hj
    repeat (refine AW_seq ?_)
    refine reg ?_
    refine run 3 ?_
    refine fin [0, 1, 2, 7, 8, 9, 20] [(8, 0)] ?_
    repeat (refine AW_seq ?_)
    refine tst (fun h2 => ?_) (fun h2 => ?_)
    · simp at h2
      have hjV : j < V := by omega
      refine AW_skip ?_
      repeat (refine AW_seq ?_)
      refine AW_block ?_
      repeat (refine AW_seq ?_)
      refine reg ?_
      refine run 1 ?_
      refine fin [0, 1, 2, 7, 8, 9, 10] [(8, 0)] ?_
      repeat (refine AW_seq ?_)
      refine reg ?_
      refine run 1 ?_
      refine fin [0, 1, 2, 7, 8, 9, 10, 11] [(8, 0)] ?_
      repeat (refine AW_seq ?_)
      refine AW_block ?_
      have hc0 : cellE l V (ns.take 0) (r * V + j) = 0 := rfl
      refine AW_loops (ι := Nat) (fun i => ⟨lk [(0, .c (.sl (l.map hsPV))), (1, .c (iPV V)), (2, .c (.sl (ns.map uPV))), (7, .own (8, 0) (r * V + j)), (8, .c (iPV r)), (9, .c (iPV j)), (10, .c (uPV (cellE l V (ns.take i) (r * V + j)))), (11, .c (iPV i))], lkM [((8, 0), some ⟨31, 1, (rowsE l V ns (r * V + j)).map uPV, true, []⟩)], lkG [] 1⟩) (fun i => i ≤ ns.length) (fun i => ns.length - i) 0 (Nat.zero_le _) wk ?_
      rintro i hi
      repeat (refine AW_seq ?_)
      refine reg ?_
      refine run 4 ?_
      refine fin [0, 1, 2, 7, 8, 9, 10, 11, 26] [(8, 0)] ?_
      repeat (refine AW_seq ?_)
      refine tst (fun h3 => ?_) (fun h3 => ?_)
      · simp at h3
        obtain ⟨w, hwe⟩ : ∃ w, ns.getD i default = w := ⟨_, rfl⟩
        have hw0 : 0 ≤ w := hwe ▸ getD_all hns (show i < ns.length by omega)
        have hcn := cell_next (l := l) (V := V) (k := r * V + j) (show i < ns.length by omega)
        rw [hwe, cnd_at _ _ _ _ _ hjV, hh] at hcn
        obtain ⟨hcn, -⟩ : Go.RowKit.Hid _ ∧ True := ⟨hcn, trivial⟩
        rename_i hcn0
        clear hcn0
        refine AW_skip ?_
        repeat (refine AW_seq ?_)
        refine AW_block ?_
        repeat (refine AW_seq ?_)
        refine reg ?_
        refine run 8 ?_
        refine call (fun _ => value'_any h w hbi.1 hbi.2 hw0) ?_
        refine run 1 ?_
        refine call (fun _ => bound'_any j) ?_
        refine run 1 ?_
        refine fin [0, 1, 2, 7, 8, 9, 10, 11, 40] [(8, 0)] ?_
        repeat (refine AW_seq ?_)
        refine tst (fun h4 => ?_) (fun h4 => ?_)
        · simp at h4
          have hce : cellE l V (ns.take (i + 1)) (r * V + j) = bits .xor .u64 (cellE l V (ns.take i) (r * V + j)) w := by rw [hcn.out, if_pos (decide_eq_true h4)]; rfl
          repeat (refine AW_seq ?_)
          refine reg ?_
          refine run 7 ?_
          refine finN ?_
          refine kp [0, 1, 2, 7, 8, 9, 10, 11] [(8, 0)] ?_
          repeat (refine AW_seq ?_)
          refine reg ?_
          refine run 3 ?_
          refine finN ?_
          exact ⟨i + 1, by omega, by omega, wk⟩
        · simp at h4
          have hce : cellE l V (ns.take (i + 1)) (r * V + j) = cellE l V (ns.take i) (r * V + j) := by rw [hcn.out, if_neg (by rw [decide_eq_true_eq]; omega)]
          refine AW_skip ?_
          repeat (refine AW_seq ?_)
          refine reg ?_
          refine run 3 ?_
          refine finN ?_
          exact ⟨i + 1, by omega, by omega, wk⟩
      · simp at h3
        have hca : cellE l V (ns.take i) (r * V + j) = cellE l V ns (r * V + j) := by rw [List.take_of_length_le (by omega)]
        have hrn := rows_next l V ns (r * V + j)
        rw [Nat.add_assoc] at hrn
        refine AW_exit ?_
        repeat (refine AW_seq ?_)
        refine reg ?_
        refine run 5 ?_
        refine finN ?_
        refine kp [0, 1, 2, 7, 8, 9] [(8, 0)] ?_
        repeat (refine AW_seq ?_)
        refine reg ?_
        refine run 3 ?_
        refine finN ?_
        exact ⟨j + 1, by omega, by omega, wk⟩
    · simp at h2
      have hnx : (r + 1) * V = r * V + j := by rw [Nat.succ_mul]; omega
      refine AW_exit ?_
      repeat (refine AW_seq ?_)
      refine reg ?_
      refine run 3 ?_
      refine finN ?_
      exact ⟨r + 1, by omega, by omega, wk⟩
  · simp at h1
    have hre : r * V = l.length * V := by rw [show r = l.length by omega]
    refine AW_exit ?_
    repeat (refine AW_seq ?_)
    refine reg ?_
    refine run 2 ?_
    refine fin [6] [(8, 0)] ?_
    refine AW_ret (ret ?_)
    simp only [wordsE, hre]

end Go.Proofs.Ytfgjiadehfljlaa