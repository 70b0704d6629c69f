/-
  Contracts of the layer level, and of the document's answers for it, on plain data: names' values, bounds, how deep a name goes.
  Conditions: numbers are those of their kinds.
-/
import Derived.Test.YtfgjiadehfljlaaModC
namespace Go.Proofs.Ytfgjiadehfljlaa
open Go Go.Ab
open Go.Proofs.Ytfgjiadehfljlaa.M
set_option linter.unusedVariables false
set_option linter.unusedSimpArgs false

def valE (h : Hs) (n : Int) : Int := mP (h.a * n + h.b)
def boundE (l : Int) : Int := if l < 0 then 0 else if 60 < l then 0 else 2305843009213693951 / 2 ^ l.toNat
def deepG (v L : Int) : Nat → Int → Int
  | 0, i => i
  | f + 1, i => if i < L ∧ v < boundE i then deepG v L f (i + 1) else i
/-- how deep a value goes, of L levels -/
def deepE (v L : Int) : Int := deepG v L 62 0
theorem bound61 : boundE 61 = 0 := by decide +kernel
theorem valE_nonneg (h : Hs) (n : Int) : 0 ≤ valE h n := mP_nonneg _
theorem valE_le (h : Hs) (n : Int) : valE h n ≤ 2305843009213693950 := mP_le _
theorem fdiv_bound (l : Int) (h : ¬ l < 0) : (2305843009213693951 : Int).fdiv (2 ^ (min l.toNat IntKind.u64.bits)) = boundE l := by
  rw [boundE, if_neg h]
  by_cases h6 : 60 < l
  · rw [if_pos h6]
    have e : ∀ k : Fin 65, 60 < k.val → (2305843009213693951 : Int).fdiv (2 ^ k.val) = 0 := by decide +kernel
    exact e ⟨min l.toNat IntKind.u64.bits, by show min l.toNat 64 < 65; omega⟩ (by show 60 < min l.toNat 64; omega)
  · rw [if_neg h6, show min l.toNat IntKind.u64.bits = l.toNat by show min l.toNat 64 = _; omega]
    exact Int.fdiv_eq_ediv_of_nonneg _ (Int.le_of_lt (Int.pow_pos (by omega)))
theorem boundE_nonneg (l : Int) : 0 ≤ boundE l := by
  unfold boundE; split
  · omega
  · split
    · omega
    · exact Int.ediv_nonneg (by omega) (Int.le_of_lt (Int.pow_pos (by omega)))
theorem boundE_le (l : Int) : boundE l ≤ 2305843009213693951 := by
  unfold boundE; split
  · omega
  · split
    · omega
    · exact Int.ediv_le_self _ (by omega)
theorem deepG_le (v L : Int) : ∀ (f : Nat) (i : Int), i ≤ deepG v L f i ∧ deepG v L f i ≤ i + f
  | 0, i => by simp [deepG]
  | f + 1, i => by
    have ih := deepG_le v L f (i + 1)
    rw [deepG]; split <;> omega
theorem bound_out (l : Int) (h : l < 0 ∨ 60 < l) : boundE l = 0 := by
  unfold boundE; split
  · rfl
  · rw [if_pos (by omega)]
theorem half_bound (i : Int) (h0 : 0 ≤ i) (h1 : i < 60) : (boundE i).tdiv 2 = boundE (i + 1) := by
  have e : ∀ k : Fin 60, (boundE (k.val : Int)).tdiv 2 = boundE ((k.val : Int) + 1) := by decide +kernel
  have := e ⟨i.toNat, by omega⟩
  rwa [show ((i.toNat : Nat) : Int) = i by omega] at this

theorem value_any (h : Hs) (n : Int) (ha : 0 ≤ h.a) (hb : 0 ≤ h.b) (hn : 0 ≤ n) : ACalls Try.prog 26 [hsPV h, uPV n] (uPV (valE h n)) := by
  refine ent Try.func26 ?_
  have e1 := mP_add_l (h.a * n) h.b
  have e2 : valE h n = mP (h.a * n + h.b) := rfl
  repeat (refine AW_seq ?_)
  refine reg ?_
  refine run 2 ?_
  refine fin [1, 2] [(3, 0)] ?_
  repeat (refine AW_seq ?_)
  refine reg ?_
  refine run 3 ?_
  refine call (fun _ => modMul_any _ _ ha hn) ?_
  refine run 2 ?_
  refine call (fun _ => modAdd_any _ _ (mP_nonneg _) hb) ?_
  refine run 1 ?_
  refine fin [4] [] ?_
  refine AW_ret (ret ?_)
  rw [e2, ← e1]; rfl

theorem bound_any (l : Int) : ACalls Try.prog 27 [iPV l] (uPV (boundE l)) := by
  refine ent Try.func27 ?_
  repeat (refine AW_seq ?_)
  refine reg ?_
  refine run 1 ?_
  refine fin [0] [] ?_
  repeat (refine AW_seq ?_)
  refine reg ?_
  refine run 2 ?_
  refine fin [0, 4] [] ?_
  repeat (refine AW_seq ?_)
  refine tst (fun h1 => ?_) (fun h1 => ?_)
  · simp at h1
    repeat (refine AW_seq ?_)
    refine reg ?_
    refine run 1 ?_
    refine fin [2] [] ?_
    refine AW_ret (ret ?_)
    simp [boundE, h1, uPV]
  · simp at h1
    have e1 := fdiv_bound l (by omega)
    refine AW_skip ?_
    repeat (refine AW_seq ?_)
    refine reg ?_
    refine run 3 ?_
    refine fin [2] [] ?_
    refine AW_ret (ret ?_)
    rw [← e1]; rfl

theorem deep_any (h : Hs) (n L : Int) (ha : 0 ≤ h.a) (hb : 0 ≤ h.b) (hn : 0 ≤ n) : ACalls Try.prog 20 [hsPV h, uPV n, iPV L] (iPV (deepE (valE h n) L)) := by
  refine ent Try.func20 ?_
  have v0 := valE_nonneg h n
  obtain ⟨T, hT⟩ : ∃ T, deepE (valE h n) L = T := ⟨_, rfl⟩
  rw [hT]
  repeat (refine AW_seq ?_)
  refine reg ?_
  refine run 2 ?_
  refine fin [1, 2, 3] [(4, 0)] ?_
  repeat (refine AW_seq ?_)
  refine reg ?_
  refine run 2 ?_
  refine call (fun _ => value_any h n ha hb hn) ?_
  refine run 2 ?_
  refine fin [2, 7, 8] [] ?_
  repeat (refine AW_seq ?_)
  refine AW_block ?_
  refine AW_loops (ι := Int) (fun i => ⟨lk [(2, .c (iPV L)), (7, .c (uPV (valE h n))), (8, .c (iPV i))], lkM [], lkG [] 1⟩) (fun i => 0 ≤ i ∧ i ≤ 61 ∧ deepG (valE h n) L (62 - i.toNat) i = T) (fun i => 62 - i.toNat) 0 ⟨by omega, by omega, hT⟩ wk ?_
  rintro i ⟨hi0, hi1, hi⟩
  obtain ⟨hi', -⟩ : Go.RowKit.Hid (deepG (valE h n) L (62 - i.toNat) i = T) ∧ True := ⟨hi, trivial⟩
  clear hi hT
  repeat (refine AW_seq ?_)
  refine reg ?_
  refine run 6 ?_
  refine call (fun _ => bound_any i) ?_
  refine run 2 ?_
  refine fin [2, 7, 8, 20] [] ?_
  repeat (refine AW_seq ?_)
  refine tst (fun h1 => ?_) (fun h1 => ?_)
  · simp at h1
    have hlt : i < 61 := by
      by_cases e : i = 61
      · subst e; have := h1.2; rw [bound61] at this; omega
      · omega
    have e1 : deepG (valE h n) L (62 - (i + 1).toNat) (i + 1) = T := by
      rw [← hi'.out, show 62 - i.toNat = (62 - (i + 1).toNat) + 1 by omega, deepG, if_pos h1]
    refine AW_skip ?_
    repeat (refine AW_seq ?_)
    refine AW_block ?_
    repeat (refine AW_seq ?_)
    refine reg ?_
    refine run 3 ?_
    refine finN ?_
    exact ⟨i + 1, by omega, ⟨by omega, by omega, e1⟩, wk⟩
  · simp at h1
    have e1 : T = i := by
      rw [← hi'.out, show 62 - i.toNat = (61 - i.toNat) + 1 by omega, deepG, if_neg (fun h => by have := h1 h.1; omega)]
    refine AW_exit ?_
    repeat (refine AW_seq ?_)
    refine reg ?_
    refine run 2 ?_
    refine fin [6] [] ?_
    refine AW_ret (ret ?_)
    rw [e1]; rfl

theorem value'_any (h : Hs) (n : Int) (ha : 0 ≤ h.a) (hb : 0 ≤ h.b) (hn : 0 ≤ n) : ACalls Try.prog 21 [hsPV h, uPV n] (uPV (valE h n)) := by
  refine ent Try.func21 ?_
  have e1 := mP_add_l (h.a * n) h.b
  have e2 : valE h n = mP (h.a * n + h.b) := rfl
  repeat (refine AW_seq ?_)
  refine reg ?_
  refine run 2 ?_
  refine fin [1, 2] [(3, 0)] ?_
  repeat (refine AW_seq ?_)
  refine reg ?_
  refine run 3 ?_
  refine call (fun _ => refMul_any _ _ ha hn) ?_
  refine run 2 ?_
  refine call (fun _ => refAdd_any _ _ (mP_nonneg _) hb) ?_
  refine run 1 ?_
  refine fin [4] [] ?_
  refine AW_ret (ret ?_)
  rw [e2, ← e1]; rfl

theorem bound'_any (l : Int) : ACalls Try.prog 22 [iPV l] (uPV (boundE l)) := by
  refine ent Try.func22 ?_
  repeat (refine AW_seq ?_)
  refine reg ?_
  refine run 1 ?_
  refine fin [0] [] ?_
  repeat (refine AW_seq ?_)
  refine reg ?_
  refine run 6 ?_
  refine fin [0, 10] [] ?_
  repeat (refine AW_seq ?_)
  refine tst (fun h1 => ?_) (fun h1 => ?_)
  · simp at h1
    have e1 : boundE l = 0 := bound_out l h1
    repeat (refine AW_seq ?_)
    refine reg ?_
    refine run 1 ?_
    refine fin [2] [] ?_
    refine AW_ret (ret ?_)
    rw [e1]; rfl
  · simp at h1
    refine AW_skip ?_
    repeat (refine AW_seq ?_)
    refine reg ?_
    refine run 1 ?_
    refine fin [0, 3] [] ?_
    repeat (refine AW_seq ?_)
    refine reg ?_
    refine run 1 ?_
    refine fin [0, 3, 4] [] ?_
    repeat (refine AW_seq ?_)
    refine AW_block ?_
    have hb0 : boundE 0 = 2305843009213693951 := by decide
    refine AW_loops (ι := Int) (fun i => ⟨lk [(0, .c (iPV l)), (3, .c (uPV (boundE i))), (4, .c (iPV i))], lkM [], lkG [] 0⟩) (fun i => 0 ≤ i ∧ i ≤ l) (fun i => l.toNat - i.toNat) 0 ⟨by omega, by omega⟩ wk ?_
    rintro i ⟨hi0, hi1⟩
    have bl := boundE_le i
    have b0 := boundE_nonneg i
    repeat (refine AW_seq ?_)
    refine reg ?_
    refine run 3 ?_
    refine fin [0, 3, 4, 13] [] ?_
    repeat (refine AW_seq ?_)
    refine tst (fun h2 => ?_) (fun h2 => ?_)
    · simp at h2
      have hh := half_bound i hi0 (by omega)
      have h1b := boundE_nonneg (i + 1)
      have h2b := boundE_le (i + 1)
      refine AW_skip ?_
      repeat (refine AW_seq ?_)
      refine AW_block ?_
      repeat (refine AW_seq ?_)
      refine reg ?_
      refine run 3 ?_
      refine finN ?_
      refine kp [0, 3, 4] [] ?_
      repeat (refine AW_seq ?_)
      refine reg ?_
      refine run 3 ?_
      refine finN ?_
      exact ⟨i + 1, by omega, ⟨by omega, by omega⟩, wk⟩
    · simp at h2
      have e1 : i = l := by omega
      refine AW_exit ?_
      repeat (refine AW_seq ?_)
      refine reg ?_
      refine run 2 ?_
      refine fin [2] [] ?_
      refine AW_ret (ret ?_)
      rfl

end Go.Proofs.Ytfgjiadehfljlaa