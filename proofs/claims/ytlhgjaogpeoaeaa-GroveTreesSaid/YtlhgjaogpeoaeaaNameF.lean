/-
  Contracts of the layer name and of the document's answer for it, on plain data: names, ends, and the order of two edges.
  Conditions: numbers are those of their kinds.
-/
import Derived.Test.YtlhgjaogpeoaeaaTypes
namespace Go.Proofs.Ytlhgjaogpeoaeaa
open Go Go.Ab
set_option linter.unusedVariables false
set_option linter.unusedSimpArgs false

def IsV (v : Int) : Prop := 0 ≤ v ∧ v < 16777216
instance (v : Int) : Decidable (IsV v) := by unfold IsV; infer_instance
def ofE (u v : Int) : PV :=
  if ¬ (IsV u ∧ IsV v) then .tup [uPV 0, iPV 1] else if u = v then .tup [uPV 0, iPV 8] else .tup [uPV ((if v < u then v else u) * 16777216 + (if v > u then v else u)), iPV 0]
def endsE (n : Int) : PV := if n / 16777216 < n % 16777216 then .tup [iPV (n / 16777216), iPV (n % 16777216), bPV true] else .tup [iPV 0, iPV 0, bPV false]
def lessB (a b : Ed) : Bool := decide (a.u < b.u) || (a.u == b.u && decide (a.v < b.v))

theorem or24 (a b : Int) (h0 : 0 ≤ a) (h1 : a ≤ 16777215) (h2 : 0 ≤ b) (h3 : b ≤ 16777215) : bits .or .u64 (IntKind.u64.wrap (a * 2 ^ (min 24 IntKind.u64.bits))) b = a * 16777216 + b := by
  have e : (2 : Int) ^ (min 24 IntKind.u64.bits) = 16777216 := by decide
  rw [e, wrap_u64 _ (by omega) (by omega), u64_or _ _ (by omega) (by omega) (by omega) (by omega)]
  obtain ⟨n, rfl⟩ := Int.eq_ofNat_of_zero_le h0
  obtain ⟨m, rfl⟩ := Int.eq_ofNat_of_zero_le h2
  have := Nat.shiftLeft_add_eq_or_of_lt (i := 24) (b := m) (by omega) n
  rw [Nat.shiftLeft_eq] at this
  have e2 : ((n : Int) * 16777216).toNat = n * 2 ^ 24 := by omega
  rw [e2, Int.toNat_natCast, ← this]
  omega

theorem less_any (a b : Ed) : ACalls Try.prog 27 [edPV a, edPV b] (bPV (lessB a b)) := by
  refine ent Try.func27 ?_
  repeat (refine AW_seq ?_)
  refine reg ?_
  refine run 3 ?_
  refine fin [2, 3] [(3, 0), (4, 0)] ?_
  repeat (refine AW_seq ?_)
  refine reg ?_
  refine run 20 ?_
  refine fin [4] [] ?_
  refine AW_ret (ret ?_)
  rfl

def ordE (a b : Ed) : Int := if lessB a b then -1 else if lessB b a then 1 else 0
end Go.Proofs.Ytlhgjaogpeoaeaa
