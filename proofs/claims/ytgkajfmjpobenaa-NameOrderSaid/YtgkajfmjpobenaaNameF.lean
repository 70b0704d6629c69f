/-
  Contracts of the layer name and of the document's answer for it, on plain data: names, ends, and the order of two edges.
  Conditions: numbers are those of their kinds.
-/
import Derived.Test.YtgkajfmjpobenaaTypes
namespace Go.Proofs.Ytgkajfmjpobenaa
open Go Go.Ab
set_option linter.unusedVariables false
set_option linter.unusedSimpArgs false

def IsV (v : Int) : Prop := 0 ≤ v ∧ v < 16777216
instance (v : Int) : Decidable (IsV v) := by unfold IsV; infer_instance
def ofE (u v : Int) : PV :=
  if ¬ (IsV u ∧ IsV v) then .tup [uPV 0, iPV 1] else if u = v then .tup [uPV 0, iPV 8] else .tup [uPV ((if v < u then v else u) * 16777216 + (if v > u then v else u)), iPV 0]
def endsE (n : Int) : PV := if n / 16777216 < n % 16777216 then .tup [iPV (n / 16777216), iPV (n % 16777216), bPV true] else .tup [iPV 0, iPV 0, bPV false]
def lessB (a b : Ed) : Bool := decide (a.u < b.u) || (a.u == b.u && decide (a.v < b.v))

theorem isV_any (v : Int) : ACalls Try.prog 16 [iPV v] (bPV (decide (IsV v))) := by
  refine ent Try.func16 ?_
  repeat (refine AW_seq ?_)
  refine reg ?_
  refine run 1 ?_
  refine fin [0] [] ?_
  repeat (refine AW_seq ?_)
  refine reg ?_
  refine run 7 ?_
  refine fin [2] [] ?_
  refine AW_ret (ret ?_)
  by_cases h : 0 ≤ v <;> by_cases h' : v < 16777216 <;> simp [IsV, bPV, h, h']

theorem of_any (u v : Int) : ACalls Try.prog 7 [iPV u, iPV v] (ofE u v) := by
  refine ent Try.func7 ?_
  repeat (refine AW_seq ?_)
  refine reg ?_
  refine run 2 ?_
  refine fin [0, 1] [] ?_
  repeat (refine AW_seq ?_)
  refine reg ?_
  refine run 1 ?_
  refine call (fun _ => isV_any _) ?_
  refine run 3 ?_
  refine call (fun _ => isV_any _) ?_
  refine run 2 ?_
  refine fin [0, 1, 13] [] ?_
  refine tst (fun h1 => ?_) (fun h1 => ?_)
  · simp at h1
    repeat (refine AW_seq ?_)
    refine reg ?_
    refine run 2 ?_
    refine fin [4, 5] [] ?_
    refine AW_ret (ret ?_)
    rw [ofE, if_pos (by rintro ⟨a, b⟩; exact h1.elim (fun h => h a) (fun h => h b))]; rfl
  · simp at h1
    obtain ⟨⟨a1, a2⟩, ⟨b1, b2⟩⟩ := id h1
    refine AW_skip ?_
    repeat (refine AW_seq ?_)
    refine reg ?_
    refine run 3 ?_
    refine fin [0, 1, 16] [] ?_
    refine tst (fun h2 => ?_) (fun h2 => ?_)
    · simp at h2
      repeat (refine AW_seq ?_)
      refine reg ?_
      refine run 2 ?_
      refine fin [4, 5] [] ?_
      refine AW_ret (ret ?_)
      simp [ofE, h1, h2, iPV, uPV]
    · simp at h2
      refine AW_skip ?_
      repeat (refine AW_seq ?_)
      refine reg ?_
      refine run 12 ?_
      refine fin [4, 5] [] ?_
      refine AW_ret (ret ?_)
      simp [ofE, h1, h2, iPV, uPV]

theorem or24 (a b : Int) (h0 : 0 ≤ a) (h1 : a ≤ 16777215) (h2 : 0 ≤ b) (h3 : b ≤ 16777215) : bits .or .u64 (IntKind.u64.wrap (a * 2 ^ (min 24 IntKind.u64.bits))) b = a * 16777216 + b := by
  have e : (2 : Int) ^ (min 24 IntKind.u64.bits) = 16777216 := by decide
  rw [e, wrap_u64 _ (by omega) (by omega), u64_or _ _ (by omega) (by omega) (by omega) (by omega)]
  obtain ⟨n, rfl⟩ := Int.eq_ofNat_of_zero_le h0
  obtain ⟨m, rfl⟩ := Int.eq_ofNat_of_zero_le h2
  have := Nat.shiftLeft_add_eq_or_of_lt (i := 24) (b := m) (by omega) n
  rw [Nat.shiftLeft_eq] at this
  have e2 : ((n : Int) * 16777216).toNat = n * 2 ^ 24 := by omega
  rw [e2, Int.toNat_natCast, ← this]
  omega

theorem of'_any (u v : Int) : ACalls Try.prog 8 [iPV u, iPV v] (ofE u v) := by
  refine ent Try.func8 ?_
  repeat (refine AW_seq ?_)
  refine reg ?_
  refine run 2 ?_
  refine fin [0, 1] [] ?_
  repeat (refine AW_seq ?_)
  refine reg ?_
  refine run 14 ?_
  refine fin [0, 1, 19] [] ?_
  refine tst (fun h1 => ?_) (fun h1 => ?_)
  · simp at h1
    repeat (refine AW_seq ?_)
    refine reg ?_
    refine run 2 ?_
    refine fin [4, 5] [] ?_
    refine AW_ret (ret ?_)
    rw [ofE, if_pos (by unfold IsV; omega)]; rfl
  · simp at h1
    have h0 : IsV u ∧ IsV v := by unfold IsV; omega
    refine AW_skip ?_
    repeat (refine AW_seq ?_)
    refine reg ?_
    refine run 3 ?_
    refine fin [0, 1, 22] [] ?_
    refine tst (fun h2 => ?_) (fun h2 => ?_)
    · simp at h2
      repeat (refine AW_seq ?_)
      refine reg ?_
      refine run 2 ?_
      refine fin [4, 5] [] ?_
      refine AW_ret (ret ?_)
      simp [ofE, h0, h2, iPV, uPV]
    · simp at h2
      refine AW_skip ?_
      repeat (refine AW_seq ?_)
      refine reg ?_
      refine run 3 ?_
      refine fin [0, 1, 25] [] ?_
      refine tst (fun h3 => ?_) (fun h3 => ?_)
      · simp at h3
        repeat (refine AW_seq ?_)
        refine reg ?_
        refine run 4 ?_
        refine fin [0, 1] [] ?_
        repeat (refine AW_seq ?_)
        refine reg ?_
        refine run 8 ?_
        refine fin [4, 5] [] ?_
        refine AW_ret (ret ?_)
        have e := or24 v u (by omega) (by omega) (by omega) (by omega)
        simp [ofE, h0, h2, iPV, uPV, e, h3, show ¬ u < v by omega]
      · simp at h3
        refine AW_skip ?_
        repeat (refine AW_seq ?_)
        refine reg ?_
        refine run 8 ?_
        refine fin [4, 5] [] ?_
        refine AW_ret (ret ?_)
        have e := or24 u v (by omega) (by omega) (by omega) (by omega)
        simp [ofE, h0, h2, iPV, uPV, e, show ¬ v < u by omega, show u < v by omega]

theorem ends_any (n : Int) (h0 : 0 ≤ n) (h1 : n ≤ 18446744073709551615) : ACalls Try.prog 9 [uPV n] (endsE n) := by
  have e1 : n.tdiv 16777216 = n / 16777216 := Int.tdiv_eq_ediv_of_nonneg h0
  have e2 : n.tmod 16777216 = n % 16777216 := Int.tmod_eq_emod_of_nonneg h0
  refine ent Try.func9 ?_
  repeat (refine AW_seq ?_)
  refine reg ?_
  refine run 3 ?_
  refine fin [0] [] ?_
  repeat (refine AW_seq ?_)
  refine reg ?_
  refine run 6 ?_
  refine fin [5, 6] [] ?_
  repeat (refine AW_seq ?_)
  refine reg ?_
  refine run 3 ?_
  refine fin [5, 6, 13] [] ?_
  refine tst (fun h1 => ?_) (fun h1 => ?_)
  · simp at h1
    repeat (refine AW_seq ?_)
    refine reg ?_
    refine run 3 ?_
    refine fin [2, 3, 4] [] ?_
    refine AW_ret (ret ?_)
    rw [endsE, if_neg (by omega)]; rfl
  · simp at h1
    refine AW_skip ?_
    repeat (refine AW_seq ?_)
    refine reg ?_
    refine run 7 ?_
    refine fin [2, 3, 4] [] ?_
    refine AW_ret (ret ?_)
    rw [endsE, if_pos (by omega)]; rfl

theorem ends'_any (n : Int) (h0 : 0 ≤ n) (h1 : n ≤ 18446744073709551615) : ACalls Try.prog 10 [uPV n] (endsE n) := by
  have e2 : n.tmod 16777216 = n % 16777216 := Int.tmod_eq_emod_of_nonneg h0
  have e1 : (n - n % 16777216).tdiv 16777216 = n / 16777216 := by rw [Int.tdiv_eq_ediv_of_nonneg (by omega)]; omega
  refine ent Try.func10 ?_
  repeat (refine AW_seq ?_)
  refine reg ?_
  refine run 3 ?_
  refine fin [0] [] ?_
  repeat (refine AW_seq ?_)
  refine reg ?_
  refine run 3 ?_
  refine fin [0, 5] [] ?_
  repeat (refine AW_seq ?_)
  refine reg ?_
  refine run 5 ?_
  refine fin [5, 6] [] ?_
  repeat (refine AW_seq ?_)
  refine reg ?_
  refine run 7 ?_
  refine fin [5, 6, 19] [] ?_
  refine tst (fun h1 => ?_) (fun h1 => ?_)
  · simp at h1
    repeat (refine AW_seq ?_)
    refine reg ?_
    refine run 3 ?_
    refine fin [2, 3, 4] [] ?_
    refine AW_ret (ret ?_)
    rw [endsE, if_neg (by omega)]; rfl
  · simp at h1
    refine AW_skip ?_
    repeat (refine AW_seq ?_)
    refine reg ?_
    refine run 7 ?_
    refine fin [2, 3, 4] [] ?_
    refine AW_ret (ret ?_)
    rw [endsE, if_pos (by omega)]; rfl

theorem less_any (a b : Ed) : ACalls Try.prog 11 [edPV a, edPV b] (bPV (lessB a b)) := by
  refine ent Try.func11 ?_
  repeat (refine AW_seq ?_)
  refine reg ?_
  refine run 3 ?_
  refine fin [2, 3] [(3, 0), (4, 0)] ?_
  repeat (refine AW_seq ?_)
  refine reg ?_
  refine run 20 ?_
  refine fin [4] [] ?_
  refine AW_ret (ret ?_)
  rfl

theorem less'_any (a b : Ed) : ACalls Try.prog 12 [edPV a, edPV b] (bPV (lessB a b)) := by
  refine ent Try.func12 ?_
  repeat (refine AW_seq ?_)
  refine reg ?_
  refine run 3 ?_
  refine fin [2, 3] [(3, 0), (4, 0)] ?_
  repeat (refine AW_seq ?_)
  refine reg ?_
  refine run 5 ?_
  refine fin [2, 3, 9] [(3, 0), (4, 0)] ?_
  refine tst (fun h1 => ?_) (fun h1 => ?_)
  · simp at h1
    repeat (refine AW_seq ?_)
    refine reg ?_
    refine run 6 ?_
    refine fin [4] [] ?_
    refine AW_ret (ret ?_)
    simp [lessB, bPV, h1]
  · simp at h1
    refine AW_skip ?_
    repeat (refine AW_seq ?_)
    refine reg ?_
    refine run 6 ?_
    refine fin [4] [] ?_
    refine AW_ret (ret ?_)
    simp [lessB, bPV, h1]

def ordE (a b : Ed) : Int := if lessB a b then -1 else if lessB b a then 1 else 0
theorem order_any (a b : Ed) : ACalls Try.prog 20 [edPV a, edPV b] (iPV (ordE a b)) := by
  refine ent Try.func20 ?_
  repeat (refine AW_seq ?_)
  refine reg ?_
  refine run 3 ?_
  refine fin [2, 3] [(3, 0), (4, 0)] ?_
  repeat (refine AW_seq ?_)
  refine reg ?_
  refine run 2 ?_
  refine call (fun _ => less_any a b) ?_
  refine fin [2, 3, 7] [(3, 0), (4, 0)] ?_
  refine tst (fun h1 => ?_) (fun h1 => ?_)
  · repeat (refine AW_seq ?_)
    refine reg ?_
    refine run 1 ?_
    refine fin [4] [] ?_
    refine AW_ret (ret ?_)
    simp [ordE, h1, iPV]
  · refine AW_skip ?_
    repeat (refine AW_seq ?_)
    refine reg ?_
    refine run 2 ?_
    refine call (fun _ => less_any b a) ?_
    refine fin [10] [] ?_
    refine tst (fun h2 => ?_) (fun h2 => ?_)
    · repeat (refine AW_seq ?_)
      refine reg ?_
      refine run 1 ?_
      refine fin [4] [] ?_
      refine AW_ret (ret ?_)
      simp [ordE, h1, h2, iPV]
    · refine AW_skip ?_
      repeat (refine AW_seq ?_)
      refine reg ?_
      refine run 1 ?_
      refine fin [4] [] ?_
      refine AW_ret (ret ?_)
      simp [ordE, h1, h2, iPV]
end Go.Proofs.Ytgkajfmjpobenaa
