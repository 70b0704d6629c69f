/-
  Contracts of the layer seq on plain data: cutting, joining, things as a sequence, the thing at a place.
  Conditions: not too many things.
-/
import Derived.Test.YtaoiffinodfcfaaDictS
namespace Go.Proofs.Ytaoiffinodfcfaa
open Go Go.Ab
set_option linter.unusedVariables false
set_option linter.unusedSimpArgs false

def splitPV (t : Tr Pr) (i : Int) : PV := .tup [sqPV (t.split i).1, sqPV (t.split i).2]
def getPV (t : Tr Pr) (i : Int) : PV := .tup [pPV ((t.get? i).getD (0, 0)), bPV (t.get? i).isSome]

theorem split_ih (t : Tr Pr) (i : Int) (hc : t.cnt < 1152921504606846976) (ih : ∀ (t' : Tr Pr) (j : Int), t'.cnt < t.cnt → ACalls Try.prog 45 [sqPV t', iPV j] (splitPV t' j)) : ACalls Try.prog 45 [sqPV t, iPV i] (splitPV t i) := by
  refine ent Try.func45 ?_
  obtain ⟨ih, -⟩ : Go.RowKit.Hid (∀ (t' : Tr Pr) (j : Int), t'.cnt < t.cnt → ACalls Try.prog 45 [sqPV t', iPV j] (splitPV t' j)) ∧ True := ⟨ih, trivial⟩
  rename_i ih0
  clear ih0
  repeat (refine AW_seq ?_)
  refine reg ?_
  refine run 2 ?_
  refine fin [0, 1] [] ?_
  repeat (refine AW_seq ?_)
  refine reg ?_
  refine run 2 ?_
  refine fin [0, 1, 12] [] ?_
  repeat (refine AW_seq ?_)
  refine tst (fun h1 => ?_) (fun h1 => ?_)
  · simp at h1
    repeat (refine AW_seq ?_)
    refine reg ?_
    refine run 2 ?_
    refine run 1 ?_
    refine fin [4, 5] [] ?_
    refine AW_ret (ret ?_)
    rw [splitPV, Tr.split_low _ _ (by omega)]
    rfl
  · simp at h1
    refine AW_skip ?_
    repeat (refine AW_seq ?_)
    refine reg ?_
    refine run 2 ?_
    refine call (fun _ => len_any t) ?_
    refine run 1 ?_
    refine fin [0, 1, 17] [] ?_
    repeat (refine AW_seq ?_)
    refine tst (fun h2 => ?_) (fun h2 => ?_)
    · simp at h2
      repeat (refine AW_seq ?_)
      refine reg ?_
      refine run 2 ?_
      refine run 1 ?_
      refine fin [4, 5] [] ?_
      refine AW_ret (ret ?_)
      rw [splitPV, Tr.split_high _ _ (by omega) (by omega)]
      rfl
    · simp at h2
      obtain ⟨a, x, b, rfl⟩ : ∃ a x b, t = .node a x b := by
        cases t with
        | nil => simp [Tr.cnt] at h2; omega
        | node a x b => exact ⟨a, x, b, rfl⟩
      simp only [Tr.cnt] at hc h2
      refine AW_skip ?_
      repeat (refine AW_seq ?_)
      refine reg ?_
      refine run 2 ?_
      refine run 2 ?_
      refine call (fun _ => len_any a) ?_
      refine run 1 ?_
      refine fin [0, 1, 6] [] ?_
      repeat (refine AW_seq ?_)
      refine reg ?_
      refine run 2 ?_
      refine run 1 ?_
      refine fin [0, 1, 6, 26] [] ?_
      repeat (refine AW_seq ?_)
      refine tst (fun h3 => ?_) (fun h3 => ?_)
      · simp at h3
        have hr := ih.out a i (by simp only [Tr.cnt]; omega)
        have hk : (a.split i).2.cnt + b.cnt < 1152921504606846976 := by have := Tr.split_cnt a i; omega
        unfold splitPV at hr
        repeat (refine AW_seq ?_)
        refine reg ?_
        refine run 2 ?_
        refine run 2 ?_
        refine run 1 ?_
        refine call (fun _ => hr) ?_
        refine run 2 ?_
        refine run 2 ?_
        refine run 1 ?_
        refine fin [0, 7, 8] [] ?_
        repeat (refine AW_seq ?_)
        refine reg ?_
        refine run 2 ?_
        refine run 2 ?_
        refine run 2 ?_
        refine run 2 ?_
        refine run 2 ?_
        refine call (fun _ => around_all (a.split i).2 x b hk) ?_
        refine run 2 ?_
        refine fin [4, 5] [] ?_
        refine AW_ret (ret ?_)
        rw [splitPV, Tr.split, if_neg (by omega), if_neg (by omega), if_pos (by omega)]
      · simp at h3
        have hr := ih.out b (i - a.cnt - 1) (by simp only [Tr.cnt]; omega)
        have hk : a.cnt + (b.split (i - a.cnt - 1)).1.cnt < 1152921504606846976 := by have := Tr.split_cnt b (i - a.cnt - 1); omega
        unfold splitPV at hr
        refine AW_skip ?_
        repeat (refine AW_seq ?_)
        refine reg ?_
        refine run 2 ?_
        refine run 2 ?_
        refine run 2 ?_
        refine run 2 ?_
        refine call (fun _ => hr) ?_
        refine run 2 ?_
        refine run 2 ?_
        refine run 1 ?_
        refine fin [0, 9, 10] [] ?_
        repeat (refine AW_seq ?_)
        refine reg ?_
        refine run 2 ?_
        refine run 2 ?_
        refine run 2 ?_
        refine run 2 ?_
        refine run 1 ?_
        refine call (fun _ => around_all a x (b.split (i - a.cnt - 1)).1 hk) ?_
        refine run 2 ?_
        refine run 1 ?_
        refine fin [4, 5] [] ?_
        refine AW_ret (ret ?_)
        rw [splitPV, Tr.split, if_neg (by omega), if_neg (by omega), if_neg (by omega)]

theorem split_n : ∀ (n : Nat) (t : Tr Pr) (i : Int), t.cnt ≤ n → t.cnt < 1152921504606846976 → ACalls Try.prog 45 [sqPV t, iPV i] (splitPV t i)
  | 0, t, i, hn, hc => split_ih t i hc fun t' j h => by omega
  | n + 1, t, i, hn, hc => split_ih t i hc fun t' j h => split_n n t' j (by omega) (by omega)
theorem split_any (t : Tr Pr) (i : Int) (hc : t.cnt < 1152921504606846976) : ACalls Try.prog 45 [sqPV t, iPV i] (splitPV t i) := split_n _ t i (Nat.le_refl _) hc

theorem join_nil (a : Tr Pr) : ACalls Try.prog 39 [sqPV a, sqPV .nil] (sqPV a) := by
  refine ent Try.func39 ?_
  repeat (refine AW_seq ?_)
  refine reg ?_
  refine run 1 ?_
  refine fin [0, 1] [] ?_
  repeat (refine AW_seq ?_)
  refine reg ?_
  refine run 2 ?_
  refine fin [0, 1, 8] [] ?_
  repeat (refine AW_seq ?_)
  refine tstT ?_
  repeat (refine AW_seq ?_)
  refine reg ?_
  refine run 2 ?_
  refine fin [4] [] ?_
  refine AW_ret (ret ?_)
  rfl

theorem join_node (a l : Tr Pr) (y : Pr) (r : Tr Pr) (x : Pr) (hx : ((Tr.node l y r).split 1).1 = .node .nil x .nil) (hc : a.cnt + (l.cnt + 1 + r.cnt) < 1152921504606846976) : ACalls Try.prog 39 [sqPV a, sqPV (.node l y r)] (sqPV (a.around x ((Tr.node l y r).split 1).2)) := by
  refine ent Try.func39 ?_
  have hs := split_any (.node l y r) 1 (by simp only [Tr.cnt]; omega)
  rw [splitPV, hx] at hs
  have hk : a.cnt + ((Tr.node l y r).split 1).2.cnt < 1152921504606846976 := by have := Tr.split_cnt (Tr.node l y r) 1; simp only [Tr.cnt] at this ⊢; omega
  obtain ⟨o, ho⟩ : ∃ o, ((Tr.node l y r).split 1).2 = o := ⟨_, rfl⟩
  rw [ho] at hs hk ⊢
  clear hx
  repeat (refine AW_seq ?_)
  refine reg ?_
  refine run 1 ?_
  refine fin [0, 1] [] ?_
  repeat (refine AW_seq ?_)
  refine reg ?_
  refine run 2 ?_
  refine fin [0, 1, 8] [] ?_
  repeat (refine AW_seq ?_)
  refine tstF ?_
  refine AW_skip ?_
  repeat (refine AW_seq ?_)
  refine reg ?_
  refine run 1 ?_
  refine call (fun _ => hs) ?_
  refine run 2 ?_
  refine run 2 ?_
  refine run 1 ?_
  refine fin [0, 5, 6] [] ?_
  repeat (refine AW_seq ?_)
  refine reg ?_
  refine run 2 ?_
  refine run 2 ?_
  refine run 2 ?_
  refine call (fun _ => around_all a x o hk) ?_
  refine run 1 ?_
  refine fin [4] [] ?_
  refine AW_ret (ret ?_)
  rfl

theorem join_any (a b : Tr Pr) (hc : a.cnt + b.cnt < 1152921504606846976) : ACalls Try.prog 39 [sqPV a, sqPV b] (sqPV (a.join b)) := by
  cases b with
  | nil => exact join_nil a
  | node l y r =>
    obtain ⟨x, hx⟩ := Tr.split_one l y r
    have := join_node a l y r x hx hc
    unfold Tr.join; rw [hx]; exact this

theorem getD_last (l : List Pr) (k : Nat) : (l.map pPV).getD k default = if k < l.length then pPV (l.getD k default) else default := by
  rw [List.getD_eq_getElem?_getD, List.getElem?_map, List.getD_eq_getElem?_getD]
  split
  · rename_i h; rw [List.getElem?_eq_getElem h]; rfl
  · rename_i h; rw [List.getElem?_eq_none (by omega)]; rfl
theorem ofL_ne (l : List Pr) (h : 0 < l.length) : Tr.ofL l = .node (Tr.ofL (l.take (l.length / 2))) (l.getD (l.length / 2) default) (Tr.ofL (l.drop (l.length / 2 + 1))) := by
  rw [Tr.ofL, dif_pos h, List.getD_eq_getElem?_getD, List.getElem?_eq_getElem (by omega)]; rfl

theorem of_ih (l : List Pr) (hl : l.length < 1099511627776) (ih : ∀ l' : List Pr, l'.length < l.length → ACalls Try.prog 40 [.sl (l'.map pPV)] (sqPV (Tr.ofL l'))) : ACalls Try.prog 40 [.sl (l.map pPV)] (sqPV (Tr.ofL l)) := by
  refine ent Try.func40 ?_
  obtain ⟨ih, -⟩ : Go.RowKit.Hid (∀ l' : List Pr, l'.length < l.length → ACalls Try.prog 40 [.sl (l'.map pPV)] (sqPV (Tr.ofL l'))) ∧ True := ⟨ih, trivial⟩
  rename_i ih0
  clear ih0
  have hq : ((l.length : Int).tdiv 2) = ((l.length / 2 : Nat) : Int) := rfl
  have hq2 : (((l.length / 2 : Nat) : Int) + 1).toNat = l.length / 2 + 1 := by omega
  repeat (refine AW_seq ?_)
  refine reg ?_
  refine run 1 ?_
  refine fin [0] [] ?_
  repeat (refine AW_seq ?_)
  refine reg ?_
  refine run 2 ?_
  refine run 1 ?_
  refine fin [0, 6] [] ?_
  repeat (refine AW_seq ?_)
  refine tst (fun h1 => ?_) (fun h1 => ?_)
  · simp at h1
    repeat (refine AW_seq ?_)
    refine reg ?_
    refine run 1 ?_
    refine fin [2] [] ?_
    refine AW_ret (ret ?_)
    rw [h1, Tr.ofL_nil]
    rfl
  · simp at h1
    have hl0 : 0 < l.length := List.length_pos_iff.2 h1
    have e1 : (l.map pPV).take (l.length / 2) = (l.take (l.length / 2)).map pPV := (List.map_take ..).symm
    have e2 : (l.map pPV).drop (l.length / 2 + 1) = (l.drop (l.length / 2 + 1)).map pPV := (List.map_drop ..).symm
    have hof := ofL_ne l hl0
    obtain ⟨l1, hl1⟩ : ∃ l1, l.take (l.length / 2) = l1 := ⟨_, rfl⟩
    obtain ⟨l2, hl2⟩ : ∃ l2, l.drop (l.length / 2 + 1) = l2 := ⟨_, rfl⟩
    obtain ⟨z, hz⟩ : ∃ z, l.getD (l.length / 2) default = z := ⟨_, rfl⟩
    rw [hl1] at e1
    rw [hl2] at e2
    rw [hl1, hl2, hz] at hof
    have c1 : l1.length = l.length / 2 := by rw [← hl1, List.length_take]; omega
    have c2 : l2.length = l.length - (l.length / 2 + 1) := by rw [← hl2, List.length_drop]
    have hr1 := ih.out l1 (by omega)
    have hr2 := ih.out l2 (by omega)
    have hk : (Tr.ofL l1).cnt + (Tr.ofL l2).cnt < 4611686018427387904 := by rw [Tr.ofL_cnt, Tr.ofL_cnt]; omega
    rw [hof]
    clear hof hl1 hl2 c1 c2 h1 ih
    refine AW_skip ?_
    repeat (refine AW_seq ?_)
    refine reg ?_
    refine run 2 ?_
    refine run 2 ?_
    refine fin [0, 3] [] ?_
    repeat (refine AW_seq ?_)
    refine reg ?_
    refine run 2 ?_
    refine run 1 ?_
    refine call (fun _ => hr1) ?_
    refine run 2 ?_
    refine run 2 ?_
    refine run 2 ?_
    refine run 2 ?_
    refine call (fun _ => hr2) ?_
    refine call (fun _ => node_any (Tr.ofL l1) z (Tr.ofL l2) hk) ?_
    refine run 1 ?_
    refine fin [2] [] ?_
    refine AW_ret (ret ?_)
    rfl

theorem of_n : ∀ (n : Nat) (l : List Pr), l.length ≤ n → l.length < 1099511627776 → ACalls Try.prog 40 [.sl (l.map pPV)] (sqPV (Tr.ofL l))
  | 0, l, hn, hc => of_ih l hc fun l' h => by omega
  | n + 1, l, hn, hc => of_ih l hc fun l' h => of_n n l' (by omega) (by omega)
theorem of_any (l : List Pr) (hc : l.length < 1099511627776) : ACalls Try.prog 40 [.sl (l.map pPV)] (sqPV (Tr.ofL l)) := of_n _ l (Nat.le_refl _) hc

theorem at_any (t : Tr Pr) (i : Int) (hc : t.cnt < 1152921504606846976) (hi : -9223372036854775808 ≤ i ∧ i ≤ 9223372036854775807) : ACalls Try.prog 34 [sqPV t, iPV i] (getPV t i) := by
  refine ent Try.func34 ?_
  repeat (refine AW_seq ?_)
  refine reg ?_
  refine run 2 ?_
  refine fin [0, 1, 4] [(5, 0)] ?_
  repeat (refine AW_seq ?_)
  refine AW_block ?_
  refine AW_loops (ι := Tr Pr × Int) (fun z => ⟨lk [(0, .c (sqPV z.1)), (1, .c (iPV z.2)), (4, .ptr (5, 0) 1 0 0)], lkM ([((5, 0), some ⟨71, 2, [pPV (0, 0)], true, [], none⟩)]), lkG [] 1⟩) (fun z => getPV z.1 z.2 = getPV t i ∧ z.1.cnt < 1152921504606846976 ∧ -9223372036854775808 ≤ z.2 ∧ z.2 ≤ 9223372036854775807) (fun z => z.1.cnt) (t, i) ⟨rfl, hc, hi⟩ wk ?_
  rintro ⟨s, k⟩ ⟨hF, hs, hk⟩
  simp only at hF hs hk
  rw [← hF]
  obtain ⟨hF, -⟩ : Go.RowKit.Hid (getPV s k = getPV t i) ∧ True := ⟨hF, trivial⟩
  rename_i hF0
  clear hF0 hc hi
  cases s with
  | nil =>
    repeat (refine AW_seq ?_)
    refine reg ?_
    refine run 2 ?_
    refine fin [0, 1, 4, 9] [(5, 0)] ?_
    repeat (refine AW_seq ?_)
    refine tstF ?_
    refine AW_exit ?_
    repeat (refine AW_seq ?_)
    refine reg ?_
    refine run 1 ?_
    refine fin [4, 7] [(5, 0), (8, 1)] ?_
    repeat (refine AW_seq ?_)
    refine reg ?_
    refine run 2 ?_
    refine run 1 ?_
    refine fin [4, 5] [(5, 0)] ?_
    refine AW_ret (ret ?_)
    rfl
  | node a x b =>
    simp only [Tr.cnt] at hs
    repeat (refine AW_seq ?_)
    refine reg ?_
    refine run 2 ?_
    refine fin [0, 1, 4, 9] [(5, 0)] ?_
    repeat (refine AW_seq ?_)
    refine tstT ?_
    refine AW_skip ?_
    repeat (refine AW_seq ?_)
    refine AW_block ?_
    repeat (refine AW_seq ?_)
    refine reg ?_
    refine run 2 ?_
    refine run 2 ?_
    refine call (fun _ => len_any a) ?_
    refine run 1 ?_
    refine fin [0, 1, 4, 6] [(5, 0)] ?_
    repeat (refine AW_seq ?_)
    refine reg ?_
    refine run 2 ?_
    refine run 1 ?_
    refine fin [0, 1, 4, 6, 17] [(5, 0)] ?_
    repeat (refine AW_seq ?_)
    refine tst (fun h2 => ?_) (fun h2 => ?_)
    · simp at h2
      repeat (refine AW_seq ?_)
      refine reg ?_
      refine run 2 ?_
      refine run 2 ?_
      refine run 2 ?_
      refine fin [4, 5] [(5, 0)] ?_
      refine AW_ret (ret ?_)
      rw [getPV, Tr.get?, if_pos h2]
      rfl
    · simp at h2
      refine AW_skip ?_
      repeat (refine AW_seq ?_)
      refine reg ?_
      refine run 2 ?_
      refine run 1 ?_
      refine fin [0, 1, 4, 6, 24] [(5, 0)] ?_
      repeat (refine AW_seq ?_)
      refine tst (fun h3 => ?_) (fun h3 => ?_)
      · simp at h3
        repeat (refine AW_seq ?_)
        refine reg ?_
        refine run 2 ?_
        refine run 2 ?_
        refine run 1 ?_
        refine finN ?_
        refine ⟨(a, k), ?_, ⟨?_, by show a.cnt < _; omega, by show _ ≤ k; omega, by show k ≤ _; omega⟩, wk⟩
        · show a.cnt < (Tr.node a x b).cnt; simp only [Tr.cnt]; omega
        · show getPV a k = _
          rw [getPV, getPV, Tr.get?, if_neg h2, if_pos h3]
      · simp at h3
        repeat (refine AW_seq ?_)
        refine reg ?_
        refine run 2 ?_
        refine run 2 ?_
        refine run 2 ?_
        refine run 2 ?_
        refine run 2 ?_
        refine finN ?_
        refine ⟨(b, k - a.cnt - 1), ?_, ⟨?_, by show b.cnt < _; omega, by show _ ≤ k - a.cnt - 1; omega, by show k - a.cnt - 1 ≤ _; omega⟩, wk⟩
        · show b.cnt < (Tr.node a x b).cnt; simp only [Tr.cnt]; omega
        · show getPV b (k - a.cnt - 1) = _
          rw [getPV, getPV, Tr.get?, if_neg h2, if_neg (by omega)]

end Go.Proofs.Ytaoiffinodfcfaa