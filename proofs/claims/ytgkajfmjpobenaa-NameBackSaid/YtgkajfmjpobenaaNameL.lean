/-
  The laws NameTells, NameBack, NameApart on plain data.
  Conditions: numbers are those of their kinds.
-/
import Derived.Test.YtgkajfmjpobenaaNameU
namespace Go.Proofs.Ytgkajfmjpobenaa
open Go Go.Ab
set_option linter.unusedVariables false
set_option linter.unusedSimpArgs false

theorem ofE_form (u v : Int) : ∃ x e : Int, ofE u v = .tup [uPV x, iPV e] := by
  unfold ofE; split
  · exact ⟨_, _, rfl⟩
  · split <;> exact ⟨_, _, rfl⟩
theorem endsE_form (n : Int) : ∃ (p q : Int) (b : Bool), endsE n = .tup [iPV p, iPV q, bPV b] := by
  unfold endsE; split <;> exact ⟨_, _, _, rfl⟩
theorem endsE_if (n : Int) : endsE n = .tup [iPV (if n / 16777216 < n % 16777216 then n / 16777216 else 0), iPV (if n / 16777216 < n % 16777216 then n % 16777216 else 0), bPV (decide (n / 16777216 < n % 16777216))] := by
  unfold endsE; split
  · rename_i h; simp [h]
  · rename_i h; simp only [h, if_false, decide_false]
theorem of_ends (n : Int) (h0 : 0 ≤ n) (h : n / 16777216 < n % 16777216) : ofE (n / 16777216) (n % 16777216) = .tup [uPV n, iPV 0] ∧ ofE (n % 16777216) (n / 16777216) = .tup [uPV n, iPV 0] := by
  constructor
  · rw [ofE, if_neg (by unfold IsV; omega), if_neg (by omega), if_neg (by omega), if_pos (by omega)]; congr 3; omega
  · rw [ofE, if_neg (by unfold IsV; omega), if_neg (by omega), if_pos (by omega), if_neg (by omega)]; congr 3; omega
theorem ofE_in (u v : Int) (hu : 0 ≤ u ∧ u < 16777216) (hv : 0 ≤ v ∧ v < 16777216) : ofE u v = .tup [uPV (if u = v then 0 else (if v < u then v else u) * 16777216 + (if v > u then v else u)), iPV (if u = v then 8 else 0)] := by
  rw [ofE, if_neg (by unfold IsV; omega)]; split <;> rfl

theorem nameTells_any (u v n : Int) (a b : Ed) (h0 : 0 ≤ n) (h1 : n ≤ 18446744073709551615) : ACalls Try.prog 3 [iPV u, iPV v, uPV n, edPV a, edPV b] (bPV true) := by
  refine ent Try.func3 ?_
  obtain ⟨x, e, hO⟩ := ofE_form u v
  obtain ⟨p, q, g, hE⟩ := endsE_form n
  repeat (refine AW_seq ?_)
  refine reg ?_
  refine run 3 ?_
  refine fin [0, 1, 2, 8, 9] [(9, 0), (10, 0)] ?_
  repeat (refine AW_seq ?_)
  refine reg ?_
  refine run 2 ?_
  refine call (fun _ => hO ▸ of_any u v) ?_
  refine run 5 ?_
  refine fin [0, 1, 2, 8, 9, 11, 12] [(9, 0), (10, 0)] ?_
  repeat (refine AW_seq ?_)
  refine reg ?_
  refine run 2 ?_
  refine call (fun _ => hO ▸ of'_any u v) ?_
  refine run 5 ?_
  refine fin [2, 8, 9, 11, 12, 13, 14] [(9, 0), (10, 0)] ?_
  repeat (refine AW_seq ?_)
  refine reg ?_
  refine run 1 ?_
  refine call (fun _ => hE ▸ ends_any n h0 h1) ?_
  refine run 7 ?_
  refine fin [2, 8, 9, 11, 12, 13, 14, 15, 16, 17] [(9, 0), (10, 0)] ?_
  repeat (refine AW_seq ?_)
  refine reg ?_
  refine run 1 ?_
  refine call (fun _ => hE ▸ ends'_any n h0 h1) ?_
  refine run 7 ?_
  refine fin [8, 9, 11, 12, 13, 14, 15, 16, 17, 18, 19, 20] [(9, 0), (10, 0)] ?_
  repeat (refine AW_seq ?_)
  refine reg ?_
  refine run 12 ?_
  refine run 12 ?_
  refine run 2 ?_
  refine call (fun _ => less_any a b) ?_
  refine run 2 ?_
  refine call (fun _ => less'_any a b) ?_
  refine run 3 ?_
  refine call (fun _ => awake_true) ?_
  refine run 2 ?_
  refine fin [10] [] ?_
  refine AW_ret (ret ?_)
  rfl

theorem nameBack_any (n m : Int) (h0 : 0 ≤ n) (h1 : n ≤ 18446744073709551615) (g0 : 0 ≤ m) (g1 : m ≤ 18446744073709551615) : ACalls Try.prog 4 [uPV n, uPV m] (bPV true) := by
  refine ent Try.func4 ?_
  obtain ⟨x, hx⟩ : ∃ x, n.tmod 281474976710656 = x := ⟨_, rfl⟩
  obtain ⟨y, hy⟩ : ∃ y, m.tmod 281474976710656 = y := ⟨_, rfl⟩
  have bx : 0 ≤ x ∧ x < 281474976710656 := by rw [← hx, Int.tmod_eq_emod_of_nonneg h0]; omega
  have by_ : 0 ≤ y ∧ y < 281474976710656 := by rw [← hy, Int.tmod_eq_emod_of_nonneg g0]; omega
  repeat (refine AW_seq ?_)
  refine reg ?_
  refine run 1 ?_
  refine fin [0, 1] [] ?_
  repeat (refine AW_seq ?_)
  refine reg ?_
  refine run 6 ?_
  refine fin [0, 1] [] ?_
  repeat (refine AW_seq ?_)
  refine reg ?_
  refine run 1 ?_
  refine call (fun _ => endsE_if x ▸ ends_any x bx.1 (by omega)) ?_
  refine run 7 ?_
  refine fin [0, 1, 5, 6, 7] [] ?_
  repeat (refine AW_seq ?_)
  refine reg ?_
  refine run 1 ?_
  refine call (fun _ => endsE_if y ▸ ends_any y by_.1 (by omega)) ?_
  refine run 7 ?_
  refine fin [0, 1, 5, 6, 7, 8, 9, 10] [] ?_
  repeat (refine AW_seq ?_)
  refine reg ?_
  refine run 6 ?_
  refine fin [0, 1, 5, 6, 7, 8, 9, 37] [] ?_
  repeat (refine AW_seq ?_)
  refine tst (fun h1 => ?_) (fun h1 => ?_)
  · simp at h1
    have e1 : x.fdiv (2 ^ (min 24 IntKind.u64.bits)) = x / 16777216 := by rw [show (2 : Int) ^ (min 24 IntKind.u64.bits) = 16777216 by decide]; exact Int.fdiv_eq_ediv_of_nonneg _ (by omega)
    have e2 : x.tmod 16777216 = x % 16777216 := Int.tmod_eq_emod_of_nonneg bx.1
    have hshr : (Int.toNat 24) = 24 := rfl
    repeat (refine AW_seq ?_)
    refine reg ?_
    refine run 9 ?_
    refine call (fun _ => awake_true) ?_
    refine run 2 ?_
    refine fin [4] [] ?_
    refine AW_ret (ret ?_)
    by_cases h : x / 16777216 < x % 16777216 <;> simp [bPV, h]; omega
  · simp at h1
    have i1 : (if x / 16777216 < x % 16777216 then x / 16777216 else 0) = x / 16777216 := if_pos h1.1
    have i2 : (if x / 16777216 < x % 16777216 then x % 16777216 else 0) = x % 16777216 := if_pos h1.1
    have i3 : (if y / 16777216 < y % 16777216 then y / 16777216 else 0) = y / 16777216 := if_pos h1.2
    have i4 : (if y / 16777216 < y % 16777216 then y % 16777216 else 0) = y % 16777216 := if_pos h1.2
    refine AW_skip ?_
    repeat (refine AW_seq ?_)
    refine reg ?_
    refine run 2 ?_
    refine call (fun _ => (of_ends x bx.1 h1.1).1 ▸ of_any _ _) ?_
    refine run 5 ?_
    refine fin [0, 1, 5, 6, 8, 9, 11, 12] [] ?_
    repeat (refine AW_seq ?_)
    refine reg ?_
    refine run 2 ?_
    refine call (fun _ => (of_ends x bx.1 h1.1).2 ▸ of_any _ _) ?_
    refine run 5 ?_
    refine fin [0, 1, 5, 6, 8, 9, 11, 12, 13, 14] [] ?_
    repeat (refine AW_seq ?_)
    refine reg ?_
    refine run 6 ?_
    refine call (fun _ => less_any ⟨x / 16777216, x % 16777216, 0⟩ ⟨y / 16777216, y % 16777216, 0⟩) ?_
    refine run 1 ?_
    refine fin [0, 1, 5, 6, 11, 12, 13, 14, 15] [] ?_
    repeat (refine AW_seq ?_)
    refine reg ?_
    refine run 12 ?_
    refine run 12 ?_
    refine run 5 ?_
    refine call (fun _ => awake_true) ?_
    refine run 2 ?_
    refine fin [4] [] ?_
    refine AW_ret (ret ?_)
    have e : lessB ⟨x / 16777216, x % 16777216, 0⟩ ⟨y / 16777216, y % 16777216, 0⟩ = decide (x < y) := by
      rw [Bool.eq_iff_iff]; simp [lessB]; omega
    rw [e]; simp [bPV]

theorem nameApart_any (a b c d : Int) (ha : 0 ≤ a ∧ a ≤ 4294967295) (hb : 0 ≤ b ∧ b ≤ 4294967295) (hc : 0 ≤ c ∧ c ≤ 4294967295) (hd : 0 ≤ d ∧ d ≤ 4294967295) : ACalls Try.prog 6 [.v (.int .u32 a), .v (.int .u32 b), .v (.int .u32 c), .v (.int .u32 d)] (bPV true) := by
  refine ent Try.func6 ?_
  obtain ⟨u, hu⟩ : ∃ u, a.tmod 16777216 = u := ⟨_, rfl⟩
  obtain ⟨v, hv⟩ : ∃ v, b.tmod 16777216 = v := ⟨_, rfl⟩
  obtain ⟨p, hp⟩ : ∃ p, c.tmod 16777216 = p := ⟨_, rfl⟩
  obtain ⟨q, hq⟩ : ∃ q, d.tmod 16777216 = q := ⟨_, rfl⟩
  have bu : 0 ≤ u ∧ u < 16777216 := by rw [← hu, Int.tmod_eq_emod_of_nonneg ha.1]; omega
  have bv : 0 ≤ v ∧ v < 16777216 := by rw [← hv, Int.tmod_eq_emod_of_nonneg hb.1]; omega
  have bp : 0 ≤ p ∧ p < 16777216 := by rw [← hp, Int.tmod_eq_emod_of_nonneg hc.1]; omega
  have bq : 0 ≤ q ∧ q < 16777216 := by rw [← hq, Int.tmod_eq_emod_of_nonneg hd.1]; omega
  repeat (refine AW_seq ?_)
  refine reg ?_
  refine run 1 ?_
  refine fin [0, 1, 2, 3] [] ?_
  repeat (refine AW_seq ?_)
  refine reg ?_
  refine run 12 ?_
  refine run 4 ?_
  refine fin [9, 10, 11, 12] [] ?_
  repeat (refine AW_seq ?_)
  refine reg ?_
  refine run 2 ?_
  refine call (fun _ => ofE_in u v bu bv ▸ of_any u v) ?_
  refine run 5 ?_
  refine fin [9, 10, 11, 12, 13, 14] [] ?_
  repeat (refine AW_seq ?_)
  refine reg ?_
  refine run 2 ?_
  refine call (fun _ => ofE_in p q bp bq ▸ of_any p q) ?_
  refine run 5 ?_
  refine fin [9, 10, 11, 12, 13, 14, 15, 16] [] ?_
  repeat (refine AW_seq ?_)
  refine reg ?_
  refine run 6 ?_
  refine fin [9, 10, 11, 12, 13, 14, 15, 16, 46] [] ?_
  repeat (refine AW_seq ?_)
  refine tst (fun h1 => ?_) (fun h1 => ?_)
  · simp at h1
    repeat (refine AW_seq ?_)
    refine reg ?_
    refine run 12 ?_
    refine run 3 ?_
    refine call (fun _ => awake_true) ?_
    refine run 2 ?_
    refine fin [8] [] ?_
    refine AW_ret (ret ?_)
    by_cases e1 : u = v <;> by_cases e2 : p = q <;> simp [e1, e2, bPV]
  · simp at h1
    refine AW_skip ?_
    repeat (refine AW_seq ?_)
    refine reg ?_
    refine run 12 ?_
    refine run 12 ?_
    refine run 1 ?_
    refine call (fun _ => awake_true) ?_
    refine run 2 ?_
    refine fin [8] [] ?_
    refine AW_ret (ret ?_)
    obtain ⟨A, hA⟩ : ∃ A, (if v < u then v else u) = A := ⟨_, rfl⟩
    obtain ⟨B, hB⟩ : ∃ B, (if u < v then v else u) = B := ⟨_, rfl⟩
    obtain ⟨C, hC⟩ : ∃ C, (if q < p then q else p) = C := ⟨_, rfl⟩
    obtain ⟨D, hD⟩ : ∃ D, (if p < q then q else p) = D := ⟨_, rfl⟩
    have bA : 0 ≤ A ∧ A < 16777216 := by split at hA <;> omega
    have bB : 0 ≤ B ∧ B < 16777216 := by split at hB <;> omega
    have bC : 0 ≤ C ∧ C < 16777216 := by split at hC <;> omega
    have bD : 0 ≤ D ∧ D < 16777216 := by split at hD <;> omega
    rw [hA, hB, hC, hD]
    have e : (A * 16777216 + B == C * 16777216 + D) = ((A == C) && (B == D)) := by rw [Bool.eq_iff_iff]; simp; omega
    have e2 : A * 16777216 + B < 281474976710656 := by omega
    rw [e]; simp [bPV, e2]

end Go.Proofs.Ytgkajfmjpobenaa