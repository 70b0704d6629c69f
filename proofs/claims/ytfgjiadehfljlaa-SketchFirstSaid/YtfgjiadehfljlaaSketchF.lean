/-
  Contracts of the layer sketch on plain data: new ones, what is one, copies.
  Conditions: numbers are those of their kinds.
-/
import Derived.Test.YtfgjiadehfljlaaSketchV
import Derived.Test.YtfgjiadehfljlaaNameF
namespace Go.Proofs.Ytfgjiadehfljlaa
open Go Go.Ab
open Go.Proofs.Ytfgjiadehfljlaa.M
set_option linter.unusedVariables false
set_option linter.unusedSimpArgs false

def SizeOk (r v : Int) : Prop := 1 ≤ r ∧ r ≤ 8 ∧ 1 ≤ v ∧ v ≤ 61
instance (r v : Int) : Decidable (SizeOk r v) := by unfold SizeOk; infer_instance
def IsSk (s : Sk) : Prop := SizeOk s.r s.v ∧ (s.ws.length : Int) = s.r * s.v
instance (s : Sk) : Decidable (IsSk s) := by unfold IsSk; infer_instance
theorem size_mul {r v : Int} (h : SizeOk r v) : 1 ≤ r * v ∧ r * v ≤ 488 := by
  obtain ⟨h1, h2, h3, h4⟩ := h
  have e1 : 1 * 1 ≤ r * v := Int.mul_le_mul h1 h3 (by omega) (by omega)
  have e2 : r * v ≤ 8 * 61 := Int.mul_le_mul h2 h4 (by omega) (by omega)
  omega
def emptySk (r v : Int) : Sk := ⟨r, v, List.replicate (r * v).toNat 0⟩
def noSk : Sk := ⟨0, 0, []⟩
def newE (r v : Int) : PV := if SizeOk r v then .tup [skPV (emptySk r v), iPV 0] else .tup [skPV noSk, iPV 1]

theorem size_any (r v : Int) : ACalls Try.prog 17 [iPV r, iPV v] (bPV (decide (SizeOk r v))) := by
  refine ent Try.func17 ?_
  repeat (refine AW_seq ?_)
  refine reg ?_
  refine run 1 ?_
  refine fin [0, 1] [] ?_
  repeat (refine AW_seq ?_)
  refine reg ?_
  refine run 15 ?_
  refine fin [4] [] ?_
  refine AW_ret (ret ?_)
  by_cases a1 : 1 ≤ r <;> by_cases a2 : r ≤ 8 <;> by_cases a3 : 1 ≤ v <;> by_cases a4 : v ≤ 61 <;> simp [SizeOk, bPV, a1, a2, a3, a4]

theorem right_any (s : Sk) : ACalls Try.prog 18 [skPV s] (bPV (decide (IsSk s))) := by
  refine ent Try.func18 ?_
  repeat (refine AW_seq ?_)
  refine reg ?_
  refine run 2 ?_
  refine fin [1] [(2, 0)] ?_
  repeat (refine AW_seq ?_)
  refine reg ?_
  refine run 4 ?_
  refine call (fun _ => size_any s.r s.v) ?_
  refine run 12 ?_
  refine fin [2] [] ?_
  refine AW_ret (ret ?_)
  by_cases h : SizeOk s.r s.v
  · have := size_mul h; rw [wrap_i64 _ (by omega) (by omega)]; simp [IsSk, bPV, h]; rfl
  · simp [IsSk, bPV, h]

theorem new_any (r v : Int) : ACalls Try.prog 7 [iPV r, iPV v] (newE r v) := by
  refine ent Try.func7 ?_
  repeat (refine AW_seq ?_)
  refine reg ?_
  refine run 2 ?_
  refine fin [0, 1, 4] [(5, 0)] ?_
  repeat (refine AW_seq ?_)
  refine reg ?_
  refine run 2 ?_
  refine call (fun _ => size_any r v) ?_
  refine run 1 ?_
  refine fin [0, 1, 4, 9] [(5, 0)] ?_
  repeat (refine AW_seq ?_)
  refine tst (fun h1 => ?_) (fun h1 => ?_)
  · simp at h1
    repeat (refine AW_seq ?_)
    refine reg ?_
    refine run 3 ?_
    refine fin [4, 5] [(5, 0)] ?_
    refine AW_ret (ret ?_)
    simp [newE, h1, noSk, skPV, iPV]
  · simp at h1
    have hm := size_mul h1
    have ew : IntKind.i64.wrap (r * v) = r * v := wrap_i64 _ (by omega) (by omega)
    refine AW_skip ?_
    repeat (refine AW_seq ?_)
    refine reg ?_
    refine run 9 ?_
    refine fin [4, 5] [(5, 0), (17, 0)] ?_
    refine frz (5, 0) ?_
    refine AW_ret (ret ?_)
    simp [newE, h1, emptySk, skPV, iPV, uPV]

theorem cloneS_any (x : Int) (xs : List Int) (hl : xs.length < 1099511627776) : FCalls Try.prog 25 [.sl (uPV x :: xs.map uPV)] ⟨31, 1, uPV x :: xs.map uPV, true, []⟩ := by
  refine entF Try.func25 ?_
  repeat (refine AW_seq ?_)
  refine reg ?_
  refine run 1 ?_
  refine fin [0] [] ?_
  repeat (refine AW_seq ?_)
  refine reg ?_
  refine run 2 ?_
  refine fin [0, 4] [] ?_
  repeat (refine AW_seq ?_)
  refine tstF ?_
  refine AW_skip ?_
  repeat (refine AW_seq ?_)
  refine reg ?_
  refine run 4 ?_
  refine fin [2] [(6, 0)] ?_
  refine AW_ret (retF ?_)
  rfl

theorem clone_any (s : Sk) (x : Int) (xs : List Int) (hx : s.ws = x :: xs) (hl : xs.length < 1099511627776) : GCalls Try.prog 19 [skPV s] (.agg [iPV s.r, iPV s.v, .hole]) 2 ⟨31, 1, uPV x :: xs.map uPV, true, []⟩ := by
  refine entG Try.func19 ?_
  repeat (refine AW_seq ?_)
  refine reg ?_
  refine run 2 ?_
  refine fin [1, 2] [(2, 0), (3, 0)] ?_
  repeat (refine AW_seq ?_)
  refine reg ?_
  refine run 6 ?_
  refine fcall (cloneS_any x xs hl) ?_
  refine run 2 ?_
  refine fin [2] [(3, 0), (10, 0)] ?_
  refine AW_ret (retG ?_ ?_)
  rfl
  rfl

end Go.Proofs.Ytfgjiadehfljlaa