/-
  The laws of layer seq on plain data.
  Conditions: numbers are those of their kinds.
-/
import Derived.Test.YtgmbkihpflchaaaSeqT
namespace Go.Proofs.Ytgmbkihpflchaaa
open Go Go.Ab
set_option linter.unusedVariables false
set_option linter.unusedSimpArgs false


set_option maxHeartbeats 4000000 in
theorem seqMany_any (a b c : List Int) (q : Int) (hq1 : -9223372036854775808 ≤ q) (hq2 : q ≤ 9223372036854775807) : ACalls Try.prog 3 [.sl (a.map iPV), .sl (b.map iPV), .sl (c.map iPV), iPV q] (bPV true) := by
  refine ent Try.func3 ?_
  repeat (refine AW_seq ?_)
  refine reg ?_
  refine run 1 ?_
  refine fin [0, 1, 2, 3] [] ?_
  repeat (refine AW_seq ?_)
  refine reg ?_
  refine run 13 ?_
  refine fin [0, 1, 2, 3, 32] [] ?_
  repeat (refine AW_seq ?_)
  refine tst (fun h1 => ?_) (fun h1 => ?_)
  · simp at h1
    repeat (refine AW_seq ?_)
    refine reg ?_
    refine call (fun _ => awake_true) ?_
    refine run 1 ?_
    refine fin [8] [] ?_
    refine AW_ret (ret ?_)
    rfl
  · simp at h1
    have ha : a.length ≤ 100 := by omega
    have hb : b.length ≤ 100 := by omega
    have hc : c.length ≤ 100 := by omega
    clear h1
    have ho1 := of_any a (by omega)
    have ho2 := of_any b (by omega)
    have ho3 := of_any c (by omega)
    have cx := Tr.ofL_cnt a
    have cy := Tr.ofL_cnt b
    have cz := Tr.ofL_cnt c
    have lx := Tr.ofL_list a
    have ly := Tr.ofL_list b
    have lz := Tr.ofL_list c
    obtain ⟨x, hx⟩ : ∃ x, Tr.ofL a = x := ⟨_, rfl⟩
    obtain ⟨y, hy⟩ : ∃ y, Tr.ofL b = y := ⟨_, rfl⟩
    obtain ⟨z, hz⟩ : ∃ z, Tr.ofL c = z := ⟨_, rfl⟩
    rw [hx] at ho1 cx lx
    rw [hy] at ho2 cy ly
    rw [hz] at ho3 cz lz
    have hj1 := join_any x y (by omega)
    have hj2 := join_any (x.join y) z (by rw [Tr.join_cnt]; omega)
    have hj3 := join_any y z (by omega)
    have hj4 := join_any x (y.join z) (by rw [Tr.join_cnt]; omega)
    have cs : ((x.join y).join z).cnt = a.length + b.length + c.length := by rw [Tr.join_cnt, Tr.join_cnt, cx, cy, cz]
    have ct : (x.join (y.join z)).cnt = a.length + b.length + c.length := by rw [Tr.join_cnt, Tr.join_cnt, cx, cy, cz]; omega
    have ls : ((x.join y).join z).list = a ++ b ++ c := by rw [Tr.join_list, Tr.join_list, lx, ly, lz]
    have lt : (x.join (y.join z)).list = a ++ b ++ c := by rw [Tr.join_list, Tr.join_list, lx, ly, lz, List.append_assoc]
    obtain ⟨m1, hm1⟩ : ∃ m, x.join y = m := ⟨_, rfl⟩
    obtain ⟨m2, hm2⟩ : ∃ m, y.join z = m := ⟨_, rfl⟩
    rw [hm1] at hj1 hj2 cs ls
    rw [hm2] at hj3 hj4 ct lt
    obtain ⟨s, hs⟩ : ∃ s, m1.join z = s := ⟨_, rfl⟩
    obtain ⟨t, ht⟩ : ∃ t, x.join m2 = t := ⟨_, rfl⟩
    rw [hs] at hj2 cs ls
    rw [ht] at hj4 ct lt
    have hA1 := at_any s q (by omega) ⟨hq1, hq2⟩
    have hA2 := at_any t q (by omega) ⟨hq1, hq2⟩
    rw [getPV, Tr.get_list, ls] at hA1
    rw [getPV, Tr.get_list, lt] at hA2
    obtain ⟨g, hg⟩ : ∃ g, (if 0 ≤ q then (a ++ b ++ c)[q.toNat]? else none) = g := ⟨_, rfl⟩
    rw [hg] at hA1 hA2
    obtain ⟨V, hV⟩ : ∃ V, g.getD 0 = V := ⟨_, rfl⟩
    obtain ⟨O, hO⟩ : ∃ O, g.isSome = O := ⟨_, rfl⟩
    rw [hV, hO] at hA1 hA2
    have hl1 := list_any s (by omega)
    have hl2 := list_any t (by omega)
    rw [ls] at hl1
    rw [lt] at hl2
    have hsm := same_any (a ++ b ++ c) (by simp only [List.length_append]; omega)
    have hn1 := len_any s
    have hn2 := len_any x
    have hn3 := len_any y
    have hn4 := len_any z
    rw [cs, show ((a.length + b.length + c.length : Nat) : Int) = (a.length : Int) + b.length + c.length by omega] at hn1
    rw [cx] at hn2
    rw [cy] at hn3
    rw [cz] at hn4
    obtain ⟨L, hL⟩ : ∃ L, a ++ b ++ c = L := ⟨_, rfl⟩
    rw [hL] at hl1 hl2 hsm hg
    have hy3 : y.cnt < 1152921504606846976 := by omega
    clear cs ct ls lt cx cz lx lz hx hy hz hm1 hm2 hs ht cy
    obtain ⟨hK, -⟩ : Go.RowKit.Hid (y.list = b ∧ a ++ b ++ c = L ∧ (if 0 ≤ q then L[q.toNat]? else none) = g ∧ g.getD 0 = V ∧ g.isSome = O) ∧ True := ⟨⟨ly, hL, hg, hV, hO⟩, trivial⟩
    clear ly hL hg hV hO
    refine AW_skip ?_
    repeat (refine AW_seq ?_)
    refine reg ?_
    refine run 1 ?_
    refine call (fun _ => ho1) ?_
    refine run 1 ?_
    refine call (fun _ => ho2) ?_
    refine run 1 ?_
    refine call (fun _ => ho3) ?_
    refine run 3 ?_
    refine fin [0, 1, 3, 9, 10, 11] [] ?_
    repeat (refine AW_seq ?_)
    refine reg ?_
    refine run 2 ?_
    refine call (fun _ => hj1) ?_
    refine run 1 ?_
    refine call (fun _ => hj2) ?_
    refine run 3 ?_
    refine call (fun _ => hj3) ?_
    refine call (fun _ => hj4) ?_
    refine run 2 ?_
    refine fin [0, 1, 3, 9, 10, 11, 12, 13] [] ?_
    repeat (refine AW_seq ?_)
    refine reg ?_
    refine run 2 ?_
    refine call (fun _ => hA1) ?_
    refine run 5 ?_
    refine fin [0, 1, 3, 9, 10, 11, 12, 13, 14, 15] [] ?_
    repeat (refine AW_seq ?_)
    refine reg ?_
    refine run 2 ?_
    refine call (fun _ => hA2) ?_
    refine run 5 ?_
    refine fin [0, 1, 3, 9, 10, 11, 12, 13, 14, 15, 16, 17] [] ?_
    repeat (refine AW_seq ?_)
    refine reg ?_
    refine run 1 ?_
    refine fcall (hl1) ?_
    refine run 1 ?_
    refine fcall (hl2) ?_
    refine call (fun _ => hsm) ?_
    refine run 13 ?_
    refine call (fun _ => hn1) ?_
    refine run 1 ?_
    refine call (fun _ => hn2) ?_
    refine run 1 ?_
    refine call (fun _ => hn3) ?_
    refine run 2 ?_
    refine call (fun _ => hn4) ?_
    refine run 3 ?_
    refine fin [0, 1, 3, 10, 14, 15, 90] [] ?_
    repeat (refine AW_seq ?_)
    refine tstF ?_
    refine AW_skip ?_
    repeat (refine AW_seq ?_)
    refine reg ?_
    refine run 13 ?_
    refine fin [0, 3, 10, 14, 15, 103] [] ?_
    repeat (refine AW_seq ?_)
    refine tst (fun h3 => ?_) (fun h3 => ?_)
    · simp at h3
      have h31 : (a.length : Int) ≤ q := by omega
      have h32 : q < a.length + b.length := by omega
      clear h3
      obtain ⟨k1, k2, k3, k4, k5⟩ := hK.out
      have hA3 := at_any y (q - a.length) hy3 ⟨by omega, by omega⟩
      rw [getPV, Tr.get_list, k1, if_pos (by omega), show (q - a.length).toNat = q.toNat - a.length by omega] at hA3
      rw [if_pos (by omega), ← k2, List.append_assoc, List.getElem?_append_right (by omega), List.getElem?_append_left (by omega)] at k3
      rw [k3, k4, k5] at hA3
      have hOt : O = true := by rw [← k5, ← k3, List.getElem?_eq_getElem (by omega)]; rfl
      subst hOt
      clear k1 k2 k3 k4 k5 hK
      repeat (refine AW_seq ?_)
      refine reg ?_
      refine run 5 ?_
      refine call (fun _ => hA3) ?_
      refine run 5 ?_
      refine fin [14, 15, 18, 19] [] ?_
      repeat (refine AW_seq ?_)
      refine reg ?_
      refine run 10 ?_
      refine call (fun _ => awake_true) ?_
      refine run 2 ?_
      refine fin [8] [] ?_
      refine AW_ret (ret ?_)
      rfl
    · simp at h3
      refine AW_skip ?_
      repeat (refine AW_seq ?_)
      refine reg ?_
      refine call (fun _ => awake_true) ?_
      refine run 1 ?_
      refine fin [8] [] ?_
      refine AW_ret (ret ?_)
      rfl

end Go.Proofs.Ytgmbkihpflchaaa