/-
  Contracts of the layer level on plain data: names' values, bounds, how deep a name goes, how many levels there are.
  Conditions: numbers are those of their kinds.
-/
import Derived.Test.YtmemnbobgbpdmaaModC
namespace Go.Proofs.Ytmemnbobgbpdmaa
open Go Go.Ab
open Go.Proofs.Ytmemnbobgbpdmaa.M
set_option linter.unusedVariables false
set_option linter.unusedSimpArgs false

def valE (h : Hs) (n : Int) : Int := mP (h.a * n + h.b)
def boundE (l : Int) : Int := if l < 0 then 0 else if 60 < l then 0 else 2305843009213693951 / 2 ^ l.toNat
def deepG (v L : Int) : Nat → Int → Int
  | 0, i => i
  | f + 1, i => if i < L ∧ v < boundE i then deepG v L f (i + 1) else i
/-- how deep a value goes, of L levels -/
def deepE (v L : Int) : Int := deepG v L 62 0
def levelsE (n : Int) : Int := if n < 1 then 0 else 2 * (Lib.bitLen (n - 1).toNat : Int) + 2
theorem bound61 : boundE 61 = 0 := by decide +kernel
theorem valE_nonneg (h : Hs) (n : Int) : 0 ≤ valE h n := mP_nonneg _
theorem valE_le (h : Hs) (n : Int) : valE h n ≤ 2305843009213693950 := mP_le _
theorem fdiv_bound (l : Int) (h : ¬ l < 0) : (2305843009213693951 : Int).fdiv (2 ^ (min l.toNat IntKind.u64.bits)) = boundE l := by
  rw [boundE, if_neg h]
  by_cases h6 : 60 < l
  · rw [if_pos h6]
    have e : ∀ k : Fin 65, 60 < k.val → (2305843009213693951 : Int).fdiv (2 ^ k.val) = 0 := by decide +kernel
    exact e ⟨min l.toNat IntKind.u64.bits, by show min l.toNat 64 < 65; omega⟩ (by show 60 < min l.toNat 64; omega)
  · rw [if_neg h6, show min l.toNat IntKind.u64.bits = l.toNat by show min l.toNat 64 = _; omega]
    exact Int.fdiv_eq_ediv_of_nonneg _ (Int.le_of_lt (Int.pow_pos (by omega)))
theorem boundE_nonneg (l : Int) : 0 ≤ boundE l := by
  unfold boundE; split
  · omega
  · split
    · omega
    · exact Int.ediv_nonneg (by omega) (Int.le_of_lt (Int.pow_pos (by omega)))
theorem boundE_le (l : Int) : boundE l ≤ 2305843009213693951 := by
  unfold boundE; split
  · omega
  · split
    · omega
    · exact Int.ediv_le_self _ (by omega)
theorem deepG_le (v L : Int) : ∀ (f : Nat) (i : Int), i ≤ deepG v L f i ∧ deepG v L f i ≤ i + f
  | 0, i => by simp [deepG]
  | f + 1, i => by
    have ih := deepG_le v L f (i + 1)
    rw [deepG]; split <;> omega

theorem value_any (h : Hs) (n : Int) (ha : 0 ≤ h.a) (hb : 0 ≤ h.b) (hn : 0 ≤ n) : ACalls Try.prog 7 [hsPV h, uPV n] (uPV (valE h n)) := by
  refine ent Try.func7 ?_
  have e1 := mP_add_l (h.a * n) h.b
  have e2 : valE h n = mP (h.a * n + h.b) := rfl
  repeat (refine AW_seq ?_)
  refine reg ?_
  refine run 2 ?_
  refine fin [1, 2] [(3, 0)] ?_
  repeat (refine AW_seq ?_)
  refine reg ?_
  refine run 3 ?_
  refine call (fun _ => modMul_any _ _ ha hn) ?_
  refine run 2 ?_
  refine call (fun _ => modAdd_any _ _ (mP_nonneg _) hb) ?_
  refine run 1 ?_
  refine fin [4] [] ?_
  refine AW_ret (ret ?_)
  rw [e2, ← e1]; rfl

theorem bound_any (l : Int) : ACalls Try.prog 12 [iPV l] (uPV (boundE l)) := by
  refine ent Try.func12 ?_
  repeat (refine AW_seq ?_)
  refine reg ?_
  refine run 1 ?_
  refine fin [0] [] ?_
  repeat (refine AW_seq ?_)
  refine reg ?_
  refine run 2 ?_
  refine fin [0, 4] [] ?_
  repeat (refine AW_seq ?_)
  refine tst (fun h1 => ?_) (fun h1 => ?_)
  · simp at h1
    repeat (refine AW_seq ?_)
    refine reg ?_
    refine run 1 ?_
    refine fin [2] [] ?_
    refine AW_ret (ret ?_)
    simp [boundE, h1, uPV]
  · simp at h1
    have e1 := fdiv_bound l (by omega)
    refine AW_skip ?_
    repeat (refine AW_seq ?_)
    refine reg ?_
    refine run 3 ?_
    refine fin [2] [] ?_
    refine AW_ret (ret ?_)
    rw [← e1]; rfl

theorem deep_any (h : Hs) (n L : Int) (ha : 0 ≤ h.a) (hb : 0 ≤ h.b) (hn : 0 ≤ n) : ACalls Try.prog 14 [hsPV h, uPV n, iPV L] (iPV (deepE (valE h n) L)) := by
  refine ent Try.func14 ?_
  have v0 := valE_nonneg h n
  obtain ⟨T, hT⟩ : ∃ T, deepE (valE h n) L = T := ⟨_, rfl⟩
  rw [hT]
  repeat (refine AW_seq ?_)
  refine reg ?_
  refine run 2 ?_
  refine fin [1, 2, 3] [(4, 0)] ?_
  repeat (refine AW_seq ?_)
  refine reg ?_
  refine run 2 ?_
  refine call (fun _ => value_any h n ha hb hn) ?_
  refine run 2 ?_
  refine fin [2, 7, 8] [] ?_
  repeat (refine AW_seq ?_)
  refine AW_block ?_
  refine AW_loops (ι := Int) (fun i => ⟨lk [(2, .c (iPV L)), (7, .c (uPV (valE h n))), (8, .c (iPV i))], lkM [], lkG [] 1⟩) (fun i => 0 ≤ i ∧ i ≤ 61 ∧ deepG (valE h n) L (62 - i.toNat) i = T) (fun i => 62 - i.toNat) 0 ⟨by omega, by omega, hT⟩ wk ?_
  rintro i ⟨hi0, hi1, hi⟩
  obtain ⟨hi', -⟩ : Go.RowKit.Hid (deepG (valE h n) L (62 - i.toNat) i = T) ∧ True := ⟨hi, trivial⟩
  clear hi hT
  repeat (refine AW_seq ?_)
  refine reg ?_
  refine run 6 ?_
  refine call (fun _ => bound_any i) ?_
  refine run 2 ?_
  refine fin [2, 7, 8, 20] [] ?_
  repeat (refine AW_seq ?_)
  refine tst (fun h1 => ?_) (fun h1 => ?_)
  · simp at h1
    have hlt : i < 61 := by
      by_cases e : i = 61
      · subst e; have := h1.2; rw [bound61] at this; omega
      · omega
    have e1 : deepG (valE h n) L (62 - (i + 1).toNat) (i + 1) = T := by
      rw [← hi'.out, show 62 - i.toNat = (62 - (i + 1).toNat) + 1 by omega, deepG, if_pos h1]
    refine AW_skip ?_
    repeat (refine AW_seq ?_)
    refine AW_block ?_
    repeat (refine AW_seq ?_)
    refine reg ?_
    refine run 3 ?_
    refine finN ?_
    exact ⟨i + 1, by omega, ⟨by omega, by omega, e1⟩, wk⟩
  · simp at h1
    have e1 : T = i := by
      rw [← hi'.out, show 62 - i.toNat = (61 - i.toNat) + 1 by omega, deepG, if_neg (fun h => by have := h1 h.1; omega)]
    refine AW_exit ?_
    repeat (refine AW_seq ?_)
    refine reg ?_
    refine run 2 ?_
    refine fin [6] [] ?_
    refine AW_ret (ret ?_)
    rw [e1]; rfl

theorem levels_any (n : Int) (hn : n ≤ 9223372036854775807) : ACalls Try.prog 15 [iPV n] (iPV (levelsE n)) := by
  refine ent Try.func15 ?_
  have hl := fun (h : ¬ n < 1) => Any.bitLen_le64 (n - 1) (by omega) (by omega)
  repeat (refine AW_seq ?_)
  refine reg ?_
  refine run 1 ?_
  refine fin [0] [] ?_
  repeat (refine AW_seq ?_)
  refine reg ?_
  refine run 2 ?_
  refine fin [0, 4] [] ?_
  repeat (refine AW_seq ?_)
  refine tst (fun h1 => ?_) (fun h1 => ?_)
  · simp at h1
    repeat (refine AW_seq ?_)
    refine reg ?_
    refine run 1 ?_
    refine fin [2] [] ?_
    refine AW_ret (ret ?_)
    simp [levelsE, h1, iPV]
  · simp at h1
    have hb := hl (by omega)
    clear hl
    refine AW_skip ?_
    repeat (refine AW_seq ?_)
    refine reg ?_
    refine run 3 ?_
    refine call (fun _ => bitsLen_any (n - 1) (by omega) (by omega)) ?_
    refine run 3 ?_
    refine fin [2] [] ?_
    refine AW_ret (ret ?_)
    simp [levelsE, iPV]; omega

end Go.Proofs.Ytmemnbobgbpdmaa