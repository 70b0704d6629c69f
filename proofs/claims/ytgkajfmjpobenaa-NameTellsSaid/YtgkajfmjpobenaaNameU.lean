/-
  Contracts of the layer name: finding an edge; the laws' fixed answer; the laws on names.
  Conditions: fewer than 2^40 edges where one is found.
-/
import Derived.Test.YtgkajfmjpobenaaNameT
namespace Go.Proofs.Ytgkajfmjpobenaa
open Go Go.Ab
set_option linter.unusedVariables false
set_option linter.unusedSimpArgs false

def hasE (u v : Int) (e : Ed) : Bool := (e.u == u && e.v == v) || (e.u == v && e.v == u)
def findI (u v : Int) : List Ed → Nat → Option Nat
  | [], _ => none
  | e :: r, k => if hasE u v e = true then some k else findI u v r (k + 1)
def findE (l : List Ed) (u v : Int) : PV := match findI u v l 0 with | some i => .tup [iPV i, bPV true] | none => .tup [iPV 0, bPV false]
theorem drop_getD {α : Type} [Inhabited α] (l : List α) (k : Nat) (h : k < l.length) : l.drop k = l.getD k default :: l.drop (k + 1) := by
  rw [List.drop_eq_getElem_cons h]; congr 1
  rw [List.getD_eq_getElem?_getD, List.getElem?_eq_getElem h]; rfl

theorem find_any (l : List Ed) (u v : Int) (hl : l.length < 1099511627776) : ACalls Try.prog 17 [edsPV l, iPV u, iPV v] (findE l u v) := by
  refine ent Try.func17 ?_
  repeat (refine AW_seq ?_)
  refine reg ?_
  refine run 2 ?_
  refine fin [0, 1, 2] [] ?_
  repeat (refine AW_seq ?_)
  refine reg ?_
  refine run 3 ?_
  refine fin [1, 2, 10, 11, 12] [] ?_
  repeat (refine AW_seq ?_)
  refine AW_block ?_
  refine AW_loops (ι := Nat) (fun i => ⟨lk [(1, .c (iPV u)), (2, .c (iPV v)), (10, .c (edsPV l)), (11, .c (iPV l.length)), (12, .c (iPV i))], lkM [], lkG [] 0⟩) (fun i => i ≤ l.length ∧ findI u v (l.drop i) i = findI u v l 0) (fun i => l.length - i) 0 ⟨Nat.zero_le _, rfl⟩ wk ?_
  rintro i ⟨hi, hf⟩
  repeat (refine AW_seq ?_)
  refine reg ?_
  refine run 1 ?_
  refine fin [1, 2, 10, 11, 12, 13] [] ?_
  repeat (refine AW_seq ?_)
  refine tst (fun h1 => ?_) (fun h1 => ?_)
  · simp at h1
    have hE : hasE u v (l.getD i default) = hasE u v (l.getD i default) := rfl
    refine AW_skip ?_
    repeat (refine AW_seq ?_)
    refine AW_block ?_
    repeat (refine AW_seq ?_)
    refine reg ?_
    refine run 6 ?_
    refine fin [1, 2, 8, 9, 10, 11, 12] [(10, 0)] ?_
    repeat (refine AW_seq ?_)
    refine reg ?_
    refine run 22 ?_
    refine fin [1, 2, 8, 10, 11, 12, 38] [] ?_
    repeat (refine AW_seq ?_)
    refine tst (fun h2 => ?_) (fun h2 => ?_)
    · skip
      have hE : hasE u v (l.getD i default) = true := h2
      repeat (refine AW_seq ?_)
      refine reg ?_
      refine run 3 ?_
      refine fin [6, 7] [] ?_
      refine AW_ret (ret ?_)
      rw [findE, ← hf, drop_getD l i (by omega), findI, if_pos hE]; rfl
    · skip
      have hE : hasE u v (l.getD i default) = false := h2
      refine AW_skip ?_
      repeat (refine AW_seq ?_)
      refine reg ?_
      refine run 2 ?_
      refine finN ?_
      exact ⟨i + 1, by omega, ⟨by omega, by rw [← hf, drop_getD l i (by omega), findI, if_neg (by rw [hE]; exact Bool.false_ne_true)]⟩, wk⟩
  · simp at h1
    refine AW_exit ?_
    repeat (refine AW_seq ?_)
    refine reg ?_
    refine run 2 ?_
    refine fin [6, 7] [] ?_
    refine AW_ret (ret ?_)
    rw [findE, ← hf, List.drop_of_length_le (by omega), findI]; rfl

theorem awake_true  : ACalls Try.prog 13 [] (bPV true) := by
  refine ent Try.func13 ?_
  have e1 : ofE 5 3 = .tup [uPV 50331653, iPV 0] := by rfl
  have e2 : endsE 50331653 = .tup [iPV 3, iPV 5, bPV true] := by rfl
  have e3 : ofE 4 4 = .tup [uPV 0, iPV 8] := by rfl
  have e4 : ofE 16777216 0 = .tup [uPV 0, iPV 1] := by rfl
  have e5 : isortL [⟨2, 3, 0⟩, ⟨0, 9, 0⟩, ⟨0, 4, 0⟩] 0 3 = [⟨0, 4, 0⟩, ⟨0, 9, 0⟩, ⟨2, 3, 0⟩] := by decide
  have e6 : findE [⟨0, 4, 0⟩, ⟨0, 9, 0⟩, ⟨2, 3, 0⟩] 3 2 = .tup [iPV 2, bPV true] := by rfl
  repeat (refine AW_seq ?_)
  refine reg ?_
  refine run 1 ?_
  refine fin [] [] ?_
  repeat (refine AW_seq ?_)
  refine reg ?_
  refine call (fun _ => of_any 5 3) ?_
  refine run 5 ?_
  refine fin [1, 2] [] ?_
  repeat (refine AW_seq ?_)
  refine reg ?_
  refine run 1 ?_
  refine call (fun _ => ends_any 50331653 (by omega) (by omega)) ?_
  refine run 7 ?_
  refine fin [1, 2, 3, 4, 5] [] ?_
  repeat (refine AW_seq ?_)
  refine reg ?_
  refine call (fun _ => of_any 4 4) ?_
  refine run 5 ?_
  refine fin [1, 2, 3, 4, 5, 7] [] ?_
  repeat (refine AW_seq ?_)
  refine reg ?_
  refine call (fun _ => of_any 16777216 0) ?_
  refine run 5 ?_
  refine fin [1, 2, 3, 4, 5, 7, 9] [] ?_
  repeat (refine AW_seq ?_)
  refine reg ?_
  refine run 4 ?_
  refine call (fun _ => sort_few [⟨2, 3, 0⟩, ⟨0, 9, 0⟩, ⟨0, 4, 0⟩] (by simp) (by simp)) ?_
  refine run 1 ?_
  refine fin [1, 2, 3, 4, 5, 7, 9, 10] [] ?_
  repeat (refine AW_seq ?_)
  refine reg ?_
  refine run 1 ?_
  refine call (fun _ => find_any [⟨0, 4, 0⟩, ⟨0, 9, 0⟩, ⟨2, 3, 0⟩] 3 2 (by simp)) ?_
  refine run 5 ?_
  refine fin [1, 2, 3, 4, 5, 7, 9, 10, 11, 12] [] ?_
  repeat (refine AW_seq ?_)
  refine reg ?_
  refine run 22 ?_
  refine run 22 ?_
  refine run 3 ?_
  refine fin [0] [] ?_
  refine AW_ret (ret ?_)
  rfl

end Go.Proofs.Ytgkajfmjpobenaa