/-
  Contracts of the layer seq on pairs, on plain data: how many, how high, a node, nodes that lean, trees far apart.
  Conditions: not too many things.
-/
import Derived.Test.YtaoiffinodfcfaaSeqM
namespace Go.Proofs.Ytaoiffinodfcfaa
open Go Go.Ab
set_option linter.unusedVariables false
set_option linter.unusedSimpArgs false


theorem len_nil  : ACalls Try.prog 41 [sqPV .nil] (iPV 0) := by
  refine ent Try.func41 ?_
  repeat (refine AW_seq ?_)
  refine reg ?_
  refine run 1 ?_
  refine fin [0] [] ?_
  repeat (refine AW_seq ?_)
  refine reg ?_
  refine run 2 ?_
  refine fin [0, 4] [] ?_
  repeat (refine AW_seq ?_)
  refine tstT ?_
  repeat (refine AW_seq ?_)
  refine reg ?_
  refine run 1 ?_
  refine fin [2] [] ?_
  refine AW_ret (ret ?_)
  rfl

theorem len_node (a : Tr Pr) (x : Pr) (b : Tr Pr) : ACalls Try.prog 41 [sqPV (.node a x b)] (iPV ((a.cnt + 1 + b.cnt : Nat) : Int)) := by
  refine ent Try.func41 ?_
  repeat (refine AW_seq ?_)
  refine reg ?_
  refine run 1 ?_
  refine fin [0] [] ?_
  repeat (refine AW_seq ?_)
  refine reg ?_
  refine run 2 ?_
  refine fin [0, 4] [] ?_
  repeat (refine AW_seq ?_)
  refine tstF ?_
  refine AW_skip ?_
  repeat (refine AW_seq ?_)
  refine reg ?_
  refine run 2 ?_
  refine run 2 ?_
  refine run 1 ?_
  refine fin [2] [] ?_
  refine AW_ret (ret ?_)
  rfl

theorem ht_nil  : ACalls Try.prog 48 [sqPV .nil] (iPV 0) := by
  refine ent Try.func48 ?_
  repeat (refine AW_seq ?_)
  refine reg ?_
  refine run 1 ?_
  refine fin [0] [] ?_
  repeat (refine AW_seq ?_)
  refine reg ?_
  refine run 2 ?_
  refine fin [0, 4] [] ?_
  repeat (refine AW_seq ?_)
  refine tstT ?_
  repeat (refine AW_seq ?_)
  refine reg ?_
  refine run 1 ?_
  refine fin [2] [] ?_
  refine AW_ret (ret ?_)
  rfl

theorem ht_node (a : Tr Pr) (x : Pr) (b : Tr Pr) : ACalls Try.prog 48 [sqPV (.node a x b)] (iPV ((max a.ht b.ht + 1 : Nat) : Int)) := by
  refine ent Try.func48 ?_
  repeat (refine AW_seq ?_)
  refine reg ?_
  refine run 1 ?_
  refine fin [0] [] ?_
  repeat (refine AW_seq ?_)
  refine reg ?_
  refine run 2 ?_
  refine fin [0, 4] [] ?_
  repeat (refine AW_seq ?_)
  refine tstF ?_
  refine AW_skip ?_
  repeat (refine AW_seq ?_)
  refine reg ?_
  refine run 2 ?_
  refine run 2 ?_
  refine run 1 ?_
  refine fin [2] [] ?_
  refine AW_ret (ret ?_)
  rfl

theorem len_any (t : Tr Pr) : ACalls Try.prog 41 [sqPV t] (iPV t.cnt) := by
  cases t with
  | nil => exact len_nil
  | node a x b => exact len_node a x b
theorem ht_any (t : Tr Pr) : ACalls Try.prog 48 [sqPV t] (iPV t.ht) := by
  cases t with
  | nil => exact ht_nil
  | node a x b => exact ht_node a x b

theorem node_any (a : Tr Pr) (x : Pr) (b : Tr Pr) (hc : a.cnt + b.cnt < 4611686018427387904) : ACalls Try.prog 47 [sqPV a, pPV x, sqPV b] (sqPV (.node a x b)) := by
  refine ent Try.func47 ?_
  have h1 := ht_le a
  have h2 := ht_le b
  repeat (refine AW_seq ?_)
  refine reg ?_
  refine run 2 ?_
  refine fin [0, 2, 4] [(5, 0)] ?_
  repeat (refine AW_seq ?_)
  refine reg ?_
  refine run 2 ?_
  refine run 2 ?_
  refine call (fun _ => len_any a) ?_
  refine run 2 ?_
  refine call (fun _ => len_any b) ?_
  refine run 2 ?_
  refine call (fun _ => ht_any a) ?_
  refine run 1 ?_
  refine call (fun _ => ht_any b) ?_
  refine run 2 ?_
  refine run 2 ?_
  refine run 1 ?_
  refine fin [6] [(24, 0)] ?_
  refine AW_ret (ret ?_)
  rw [show ((a.cnt : Int) + 1 + b.cnt) = ((a.cnt + 1 + b.cnt : Nat) : Int) by omega, show ((if (a.ht : Int) < b.ht then (b.ht : Int) else a.ht) + 1) = ((max a.ht b.ht + 1 : Nat) : Int) by split <;> omega]
  rfl

theorem leanB_any (a : Tr Pr) (x : Pr) (b : Tr Pr) (hc : a.cnt + b.cnt < 2305843009213693952) : ACalls Try.prog 49 [sqPV a, pPV x, sqPV b] (sqPV (a.leanB x b)) := by
  refine ent Try.func49 ?_
  have g1 := ht_le a
  have g2 := ht_le b
  repeat (refine AW_seq ?_)
  refine reg ?_
  refine run 2 ?_
  refine fin [0, 2, 4] [(5, 0)] ?_
  repeat (refine AW_seq ?_)
  refine reg ?_
  refine run 1 ?_
  refine call (fun _ => ht_any b) ?_
  refine run 1 ?_
  refine call (fun _ => ht_any a) ?_
  refine run 2 ?_
  refine fin [0, 2, 4, 13] [(5, 0)] ?_
  repeat (refine AW_seq ?_)
  refine tst (fun h1 => ?_) (fun h1 => ?_)
  · simp at h1
    repeat (refine AW_seq ?_)
    refine reg ?_
    refine run 2 ?_
    refine run 1 ?_
    refine call (fun _ => node_any a x b (by omega)) ?_
    refine run 1 ?_
    refine fin [6] [] ?_
    refine AW_ret (ret ?_)
    rw [Tr.leanB_1 (by omega)]
    rfl
  · simp at h1
    obtain ⟨bi, y, bb, rfl⟩ := Tr.node_of (t := b) (by omega)
    simp only [Tr.cnt, Tr.ht] at hc g2 h1
    have k1 := ht_le bi
    have k2 := ht_le bb
    refine AW_skip ?_
    repeat (refine AW_seq ?_)
    refine reg ?_
    refine run 2 ?_
    refine run 2 ?_
    refine run 1 ?_
    refine fin [0, 2, 4, 7] [(5, 0)] ?_
    repeat (refine AW_seq ?_)
    refine reg ?_
    refine run 1 ?_
    refine call (fun _ => ht_any bi) ?_
    refine run 2 ?_
    refine run 2 ?_
    refine call (fun _ => ht_any bb) ?_
    refine run 1 ?_
    refine fin [0, 2, 4, 7, 29] [(5, 0)] ?_
    repeat (refine AW_seq ?_)
    refine tst (fun h2 => ?_) (fun h2 => ?_)
    · simp at h2
      repeat (refine AW_seq ?_)
      refine reg ?_
      refine run 2 ?_
      refine run 1 ?_
      refine call (fun _ => node_any a x bi (by omega)) ?_
      refine run 2 ?_
      refine run 2 ?_
      refine run 2 ?_
      refine run 2 ?_
      refine call (fun _ => node_any (.node a x bi) y bb (by simp only [Tr.cnt]; omega)) ?_
      refine run 1 ?_
      refine fin [6] [] ?_
      refine AW_ret (ret ?_)
      rw [Tr.leanB_2 (by omega) (by omega)]
      rfl
    · simp at h2
      obtain ⟨l, z, r, rfl⟩ := Tr.node_of (t := bi) (by omega)
      simp only [Tr.cnt, Tr.ht] at hc g2 k1 h1 h2
      refine AW_skip ?_
      repeat (refine AW_seq ?_)
      refine reg ?_
      refine run 2 ?_
      refine run 2 ?_
      refine run 2 ?_
      refine call (fun _ => node_any a x l (by omega)) ?_
      refine run 2 ?_
      refine run 2 ?_
      refine run 2 ?_
      refine run 2 ?_
      refine run 2 ?_
      refine run 2 ?_
      refine run 2 ?_
      refine run 2 ?_
      refine call (fun _ => node_any r y bb (by omega)) ?_
      refine call (fun _ => node_any (.node a x l) z (.node r y bb) (by simp only [Tr.cnt]; omega)) ?_
      refine run 1 ?_
      refine fin [6] [] ?_
      refine AW_ret (ret ?_)
      rw [Tr.leanB_3 (by omega) (by omega)]
      rfl

theorem leanA_any (a : Tr Pr) (x : Pr) (b : Tr Pr) (hc : a.cnt + b.cnt < 2305843009213693952) : ACalls Try.prog 50 [sqPV a, pPV x, sqPV b] (sqPV (a.leanA x b)) := by
  refine ent Try.func50 ?_
  have g1 := ht_le a
  have g2 := ht_le b
  repeat (refine AW_seq ?_)
  refine reg ?_
  refine run 2 ?_
  refine fin [0, 2, 4] [(5, 0)] ?_
  repeat (refine AW_seq ?_)
  refine reg ?_
  refine run 1 ?_
  refine call (fun _ => ht_any a) ?_
  refine run 1 ?_
  refine call (fun _ => ht_any b) ?_
  refine run 2 ?_
  refine fin [0, 2, 4, 13] [(5, 0)] ?_
  repeat (refine AW_seq ?_)
  refine tst (fun h1 => ?_) (fun h1 => ?_)
  · simp at h1
    repeat (refine AW_seq ?_)
    refine reg ?_
    refine run 2 ?_
    refine run 1 ?_
    refine call (fun _ => node_any a x b (by omega)) ?_
    refine run 1 ?_
    refine fin [6] [] ?_
    refine AW_ret (ret ?_)
    rw [Tr.leanA_1 (by omega)]
    rfl
  · simp at h1
    obtain ⟨aa, y, ab, rfl⟩ := Tr.node_of (t := a) (by omega)
    simp only [Tr.cnt, Tr.ht] at hc g1 h1
    have k1 := ht_le aa
    have k2 := ht_le ab
    refine AW_skip ?_
    repeat (refine AW_seq ?_)
    refine reg ?_
    refine run 2 ?_
    refine run 2 ?_
    refine run 1 ?_
    refine fin [0, 2, 4, 7] [(5, 0)] ?_
    repeat (refine AW_seq ?_)
    refine reg ?_
    refine run 1 ?_
    refine call (fun _ => ht_any ab) ?_
    refine run 2 ?_
    refine run 2 ?_
    refine call (fun _ => ht_any aa) ?_
    refine run 1 ?_
    refine fin [0, 2, 4, 7, 29] [(5, 0)] ?_
    repeat (refine AW_seq ?_)
    refine tst (fun h2 => ?_) (fun h2 => ?_)
    · simp at h2
      repeat (refine AW_seq ?_)
      refine reg ?_
      refine run 2 ?_
      refine run 2 ?_
      refine run 2 ?_
      refine run 2 ?_
      refine run 2 ?_
      refine run 1 ?_
      refine call (fun _ => node_any ab x b (by omega)) ?_
      refine call (fun _ => node_any aa y (.node ab x b) (by simp only [Tr.cnt]; omega)) ?_
      refine run 1 ?_
      refine fin [6] [] ?_
      refine AW_ret (ret ?_)
      rw [Tr.leanA_2 (by omega) (by omega)]
      rfl
    · simp at h2
      obtain ⟨l, z, r, rfl⟩ := Tr.node_of (t := ab) (by omega)
      simp only [Tr.cnt, Tr.ht] at hc g1 k2 h1 h2
      refine AW_skip ?_
      repeat (refine AW_seq ?_)
      refine reg ?_
      refine run 2 ?_
      refine run 2 ?_
      refine run 2 ?_
      refine run 2 ?_
      refine run 2 ?_
      refine run 2 ?_
      refine call (fun _ => node_any aa y l (by omega)) ?_
      refine run 2 ?_
      refine run 2 ?_
      refine run 2 ?_
      refine run 2 ?_
      refine run 2 ?_
      refine call (fun _ => node_any r x b (by omega)) ?_
      refine call (fun _ => node_any (.node aa y l) z (.node r x b) (by simp only [Tr.cnt]; omega)) ?_
      refine run 1 ?_
      refine fin [6] [] ?_
      refine AW_ret (ret ?_)
      rw [Tr.leanA_3 (by omega) (by omega)]
      rfl

theorem around_ih (a : Tr Pr) (x : Pr) (b : Tr Pr) (hc : a.cnt + b.cnt < 1152921504606846976) (ih : ∀ a' b' : Tr Pr, a'.cnt + b'.cnt < a.cnt + b.cnt → ACalls Try.prog 46 [sqPV a', pPV x, sqPV b'] (sqPV (a'.around x b'))) : ACalls Try.prog 46 [sqPV a, pPV x, sqPV b] (sqPV (a.around x b)) := by
  refine ent Try.func46 ?_
  have g1 := ht_le a
  have g2 := ht_le b
  obtain ⟨ih, -⟩ : Go.RowKit.Hid (∀ a' b' : Tr Pr, a'.cnt + b'.cnt < a.cnt + b.cnt → ACalls Try.prog 46 [sqPV a', pPV x, sqPV b'] (sqPV (a'.around x b'))) ∧ True := ⟨ih, trivial⟩
  rename_i ih0
  clear ih0
  repeat (refine AW_seq ?_)
  refine reg ?_
  refine run 2 ?_
  refine fin [0, 2, 4] [(5, 0)] ?_
  repeat (refine AW_seq ?_)
  refine reg ?_
  refine run 1 ?_
  refine call (fun _ => ht_any a) ?_
  refine run 1 ?_
  refine call (fun _ => ht_any b) ?_
  refine run 2 ?_
  refine fin [0, 2, 4, 12] [(5, 0)] ?_
  repeat (refine AW_seq ?_)
  refine tst (fun h1 => ?_) (fun h1 => ?_)
  · simp at h1
    obtain ⟨l, y, r, rfl⟩ := Tr.node_of (t := a) (by omega)
    simp only [Tr.cnt, Tr.ht] at hc g1 h1
    have hr := ih.out r b (by simp only [Tr.cnt]; omega)
    repeat (refine AW_seq ?_)
    refine reg ?_
    refine run 2 ?_
    refine run 2 ?_
    refine run 2 ?_
    refine run 2 ?_
    refine run 2 ?_
    refine run 2 ?_
    refine run 2 ?_
    refine call (fun _ => hr) ?_
    refine call (fun _ => leanB_any l y (r.around x b) (by rw [Tr.around_cnt]; omega)) ?_
    refine run 1 ?_
    refine fin [6] [] ?_
    refine AW_ret (ret ?_)
    rw [Tr.around_1 (by omega)]
  · simp at h1
    refine AW_skip ?_
    repeat (refine AW_seq ?_)
    refine reg ?_
    refine run 1 ?_
    refine call (fun _ => ht_any b) ?_
    refine run 1 ?_
    refine call (fun _ => ht_any a) ?_
    refine run 2 ?_
    refine fin [0, 2, 4, 34] [(5, 0)] ?_
    repeat (refine AW_seq ?_)
    refine tst (fun h2 => ?_) (fun h2 => ?_)
    · simp at h2
      obtain ⟨l, y, r, rfl⟩ := Tr.node_of (t := b) (by omega)
      simp only [Tr.cnt, Tr.ht] at hc g2 h1 h2
      have hr := ih.out a l (by simp only [Tr.cnt]; omega)
      repeat (refine AW_seq ?_)
      refine reg ?_
      refine run 2 ?_
      refine run 2 ?_
      refine run 2 ?_
      refine call (fun _ => hr) ?_
      refine run 2 ?_
      refine run 2 ?_
      refine run 2 ?_
      refine run 2 ?_
      refine call (fun _ => leanA_any (a.around x l) y r (by rw [Tr.around_cnt]; omega)) ?_
      refine run 1 ?_
      refine fin [6] [] ?_
      refine AW_ret (ret ?_)
      rw [Tr.around_2 (by omega) (by omega)]
    · simp at h2
      refine AW_skip ?_
      repeat (refine AW_seq ?_)
      refine reg ?_
      refine run 2 ?_
      refine run 1 ?_
      refine call (fun _ => node_any a x b (by omega)) ?_
      refine run 1 ?_
      refine fin [6] [] ?_
      refine AW_ret (ret ?_)
      rw [Tr.around_3 (by omega) (by omega)]
      rfl

theorem around_any (x : Pr) : ∀ (n : Nat) (a b : Tr Pr), a.cnt + b.cnt ≤ n → a.cnt + b.cnt < 1152921504606846976 → ACalls Try.prog 46 [sqPV a, pPV x, sqPV b] (sqPV (a.around x b))
  | 0, a, b, hn, hc => around_ih a x b hc fun a' b' h => by omega
  | n + 1, a, b, hn, hc => around_ih a x b hc fun a' b' h => around_any x n a' b' (by omega) (by omega)
theorem around_all (a : Tr Pr) (x : Pr) (b : Tr Pr) (hc : a.cnt + b.cnt < 1152921504606846976) : ACalls Try.prog 46 [sqPV a, pPV x, sqPV b] (sqPV (a.around x b)) := around_any x _ a b (Nat.le_refl _) hc

end Go.Proofs.Ytaoiffinodfcfaa