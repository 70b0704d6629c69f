/-
  The laws LevelOnce, LevelBounds, LevelSums on plain data.
  Conditions: numbers are those of their kinds.
-/
import Derived.Test.YtmemnbobgbpdmaaLevelV
namespace Go.Proofs.Ytmemnbobgbpdmaa
open Go Go.Ab
open Go.Proofs.Ytmemnbobgbpdmaa.M
set_option linter.unusedVariables false
set_option linter.unusedSimpArgs false

theorem once (a b v : Int) (h0 : 0 ≤ a) (ha : mP a ≠ 0) : mP (a * mP (mP (v - b) * invP a) + b) = mP v := by
  rw [← mP_add_l, mP_mul_r, show a * (mP (v - b) * invP a) = mP (v - b) * (a * invP a) from Int.mul_left_comm _ _ _, ← mP_mul_r, invP_spec a h0 ha, Int.mul_one, mP_mP, mP_add_l, Int.sub_add_cancel]
theorem sums (a b n m : Int) : mP (mP (a * n + b) - mP (a * m + b)) = mP (a * mP (n - m)) := by
  rw [mP_mul_r, mP_sub_l, mP_sub_r, Int.mul_sub]; congr 1; omega
theorem bounds (i : Int) (h0 : 0 ≤ i) (h1 : i < 60) : boundE (i + 1) = boundE i / 2 ∧ 0 < boundE (i + 1) := by
  have e : ∀ k : Fin 60, boundE ((k.val : Int) + 1) = boundE (k.val : Int) / 2 ∧ 0 < boundE ((k.val : Int) + 1) := by decide +kernel
  have := e ⟨i.toNat, by omega⟩
  rwa [show ((i.toNat : Nat) : Int) = i by omega] at this
theorem awakes : valE ⟨1, 5⟩ 7 = 12 ∧ boundE 0 = 2305843009213693951 ∧ boundE 60 = 1 ∧ boundE 61 = 0 ∧ deepE 12 22 = 22 ∧ deepE 12 61 = 58 ∧ levelsE 5 = 8 ∧ levelsE 1 = 2 ∧ levelsE 0 = 0 := by decide +kernel

theorem awake_true  : ACalls Try.prog 8 [] (bPV true) := by
  refine ent Try.func8 ?_
  obtain ⟨e1, e2, e3, e4, e5, e6, e7, e8, e9⟩ := awakes
  have hV := e1 ▸ value_any ⟨1, 5⟩ 7 (by decide) (by decide) (by decide)
  have hB0 := e2 ▸ bound_any 0
  have hB60 := e3 ▸ bound_any 60
  have hB61 := e4 ▸ bound_any 61
  have hD22 := deep_any ⟨1, 5⟩ 7 22 (by decide) (by decide) (by decide)
  have hD61 := deep_any ⟨1, 5⟩ 7 61 (by decide) (by decide) (by decide)
  rw [e1, e5] at hD22
  rw [e1, e6] at hD61
  have hL5 := e7 ▸ levels_any 5 (by decide)
  have hL1 := e8 ▸ levels_any 1 (by decide)
  have hL0 := e9 ▸ levels_any 0 (by decide)
  clear e1 e2 e3 e4 e5 e6 e7 e8 e9
  repeat (refine AW_seq ?_)
  refine reg ?_
  refine run 1 ?_
  refine fin [] [] ?_
  repeat (refine AW_seq ?_)
  refine reg ?_
  refine run 3 ?_
  refine fin [1] [(2, 0)] ?_
  repeat (refine AW_seq ?_)
  refine reg ?_
  refine run 1 ?_
  refine call (fun _ => hV) ?_
  refine run 2 ?_
  refine call (fun _ => hB0) ?_
  refine run 3 ?_
  refine call (fun _ => hB60) ?_
  refine run 3 ?_
  refine call (fun _ => hB61) ?_
  refine run 4 ?_
  refine call (fun _ => hD22) ?_
  refine run 4 ?_
  refine call (fun _ => hD61) ?_
  refine run 3 ?_
  refine call (fun _ => hL5) ?_
  refine run 3 ?_
  refine call (fun _ => hL1) ?_
  refine run 3 ?_
  refine call (fun _ => hL0) ?_
  refine run 3 ?_
  refine fin [0] [] ?_
  refine AW_ret (ret ?_)
  rfl

theorem levelOnce_any (h : Hs) (v : Int) (hw : (0 ≤ h.a ∧ h.a ≤ 18446744073709551615) ∧ (0 ≤ h.b ∧ h.b ≤ 18446744073709551615)) (v0 : 0 ≤ v) (v1 : v ≤ 18446744073709551615) : ACalls Try.prog 3 [hsPV h, uPV v] (bPV true) := by
  refine ent Try.func3 ?_
  obtain ⟨⟨a0, a1⟩, b0, b1⟩ := hw
  obtain ⟨N, hN⟩ : ∃ N, mP (mP (v - h.b) * invP h.a) = N := ⟨_, rfl⟩
  have n0 : 0 ≤ N := hN ▸ mP_nonneg _
  have n1 : N < 2305843009213693951 := hN ▸ mP_lt _
  have hz : mP h.a = 0 → valE h v = mP h.b := fun e => by rw [valE, ← mP_add_l, ← mP_mul_l, e, Int.zero_mul, mP_add_l, Int.zero_add]
  have hg : mP h.a ≠ 0 → valE h N = mP v := fun e => by rw [← hN]; exact once _ _ _ a0 e
  repeat (refine AW_seq ?_)
  refine reg ?_
  refine run 2 ?_
  refine fin [1, 2] [(3, 0)] ?_
  repeat (refine AW_seq ?_)
  refine reg ?_
  refine run 2 ?_
  refine call (fun _ => modOf_any h.a a0) ?_
  refine run 1 ?_
  refine fin [1, 2, 9] [(3, 0)] ?_
  repeat (refine AW_seq ?_)
  refine tst (fun h1 => ?_) (fun h1 => ?_)
  · simp at h1
    have e1 := hz h1
    repeat (refine AW_seq ?_)
    refine reg ?_
    refine run 2 ?_
    refine call (fun _ => value_any h v a0 b0 v0) ?_
    refine run 2 ?_
    refine call (fun _ => modOf_any h.b b0) ?_
    refine run 2 ?_
    refine call (fun _ => awake_true) ?_
    refine run 2 ?_
    refine fin [4] [] ?_
    refine AW_ret (ret ?_)
    rfl
  · simp at h1
    have e1 := hg h1
    refine AW_skip ?_
    repeat (refine AW_seq ?_)
    refine reg ?_
    refine run 3 ?_
    refine call (fun _ => modSub_any v h.b v0 b0) ?_
    refine run 2 ?_
    refine call (fun _ => modInv_any h.a a0) ?_
    refine call (fun _ => hN ▸ modMul_any (mP (v - h.b)) (invP h.a) (mP_nonneg _) (mP_nonneg _)) ?_
    refine run 1 ?_
    refine fin [1, 2, 5] [(3, 0)] ?_
    repeat (refine AW_seq ?_)
    refine reg ?_
    refine run 2 ?_
    refine call (fun _ => value_any h N a0 b0 n0) ?_
    refine run 1 ?_
    refine call (fun _ => modOf_any v v0) ?_
    refine run 6 ?_
    refine call (fun _ => awake_true) ?_
    refine run 2 ?_
    refine fin [4] [] ?_
    refine AW_ret (ret ?_)
    rfl

theorem levelBounds_any (l v : Int) (hl : 0 ≤ l ∧ l ≤ 255) (v0 : 0 ≤ v) (v1 : v ≤ 18446744073709551615) : ACalls Try.prog 4 [.v (.int .u8 l), uPV v] (bPV true) := by
  refine ent Try.func4 ?_
  obtain ⟨i, hi⟩ : ∃ i, l.tmod 60 = i := ⟨_, rfl⟩
  have bi : 0 ≤ i ∧ i < 60 := by rw [← hi, Int.tmod_eq_emod_of_nonneg hl.1]; omega
  have hb := bounds i bi.1 bi.2
  have b0 := boundE_nonneg i
  have ed : (boundE i).tdiv 2 = boundE i / 2 := Int.tdiv_eq_ediv_of_nonneg b0
  obtain ⟨A, hA⟩ : ∃ A, boundE i = A := ⟨_, rfl⟩
  obtain ⟨B, hB⟩ : ∃ B, boundE (i + 1) = B := ⟨_, rfl⟩
  have bl := boundE_le i
  rw [hA] at ed b0 bl
  rw [hA, hB] at hb
  obtain ⟨hb1, hb2⟩ := hb
  rw [← hb1] at ed
  have h2 : B ≤ A := by omega
  have ew : IntKind.u64.wrap B = B := by rw [IntKind.wrap_u64]; omega
  have h1 : (decide (B ≤ v) || decide (v < A)) = true := by simp; omega
  clear hb1
  repeat (refine AW_seq ?_)
  refine reg ?_
  refine run 1 ?_
  refine fin [0, 1] [] ?_
  repeat (refine AW_seq ?_)
  refine reg ?_
  refine run 4 ?_
  refine fin [1, 5] [] ?_
  repeat (refine AW_seq ?_)
  refine reg ?_
  refine run 1 ?_
  refine call (fun _ => hA ▸ bound_any i) ?_
  refine run 2 ?_
  refine call (fun _ => hB ▸ bound_any (i + 1)) ?_
  refine run 2 ?_
  refine fin [1, 6, 7] [] ?_
  repeat (refine AW_seq ?_)
  refine reg ?_
  refine run 19 ?_
  refine call (fun _ => awake_true) ?_
  refine run 2 ?_
  refine fin [4] [] ?_
  refine AW_ret (ret ?_)
  rfl

theorem levelSums_any (h : Hs) (n m : Int) (hw : (0 ≤ h.a ∧ h.a ≤ 18446744073709551615) ∧ (0 ≤ h.b ∧ h.b ≤ 18446744073709551615)) (n0 : 0 ≤ n) (n1 : n ≤ 18446744073709551615) (m0 : 0 ≤ m) (m1 : m ≤ 18446744073709551615) : ACalls Try.prog 5 [hsPV h, uPV n, uPV m] (bPV true) := by
  refine ent Try.func5 ?_
  obtain ⟨⟨a0, a1⟩, b0, b1⟩ := hw
  have e1 : mP (valE h n - valE h m) = mP (h.a * mP (n - m)) := sums _ _ _ _
  have e2 : valE h 0 = mP h.b := by rw [valE, Int.mul_zero, Int.zero_add]
  repeat (refine AW_seq ?_)
  refine reg ?_
  refine run 2 ?_
  refine fin [1, 2, 3] [(4, 0)] ?_
  repeat (refine AW_seq ?_)
  refine reg ?_
  refine run 2 ?_
  refine call (fun _ => value_any h n a0 b0 n0) ?_
  refine run 2 ?_
  refine call (fun _ => value_any h m a0 b0 m0) ?_
  refine call (fun _ => modSub_any _ _ (valE_nonneg _ _) (valE_nonneg _ _)) ?_
  refine run 4 ?_
  refine call (fun _ => modSub_any n m n0 m0) ?_
  refine call (fun _ => modMul_any h.a _ a0 (mP_nonneg _)) ?_
  refine run 3 ?_
  refine call (fun _ => e2 ▸ value_any h 0 a0 b0 (by decide)) ?_
  refine run 2 ?_
  refine call (fun _ => modOf_any h.b b0) ?_
  refine run 3 ?_
  refine call (fun _ => awake_true) ?_
  refine run 2 ?_
  refine fin [6] [] ?_
  refine AW_ret (ret ?_)
  rfl

end Go.Proofs.Ytmemnbobgbpdmaa