/-
  Contracts of the layer name's Sort and Find; the laws' fixed answer.
  Conditions: fewer than 2^40 edges.
-/
import Derived.Test.YtgkajfmjpobenaaNameX
namespace Go.Proofs.Ytgkajfmjpobenaa
open Go Go.Ab
set_option linter.unusedVariables false
set_option linter.unusedSimpArgs false

theorem isort_nil  : ACalls Try.prog 22 [.sl [], iPV 0, iPV 0, (.v (.func (.func 20) #[] #[]))] (.tup []) := by
  refine ent Try.func22 ?_
  repeat (refine AW_seq ?_)
  refine reg ?_
  refine run 3 ?_
  refine fin [0, 1, 2, 3, 8] [] ?_
  repeat (refine AW_seq ?_)
  refine AW_block ?_
  refine AW_loops (ι := Unit) (fun _ => ⟨lk [(0, .c (.sl [])), (1, .c (iPV 0)), (2, .c (iPV 0)), (3, fnV 20), (8, .c (iPV 1))], lkM [], lkG [] 0⟩) (fun _ => True) (fun _ => 0) () trivial wk ?_
  rintro ⟨⟩ -
  repeat (refine AW_seq ?_)
  refine reg ?_
  refine run 3 ?_
  refine fin [0, 1, 2, 3, 8, 14] [] ?_
  repeat (refine AW_seq ?_)
  refine tstF ?_
  refine AW_exit ?_
  refine retN ?_
  rfl

theorem stab_nil  : ACalls Try.prog 21 [.sl [], iPV 0, (.v (.func (.func 20) #[] #[]))] (.tup []) := by
  refine ent Try.func21 ?_
  repeat (refine AW_seq ?_)
  refine reg ?_
  refine run 1 ?_
  refine fin [0, 1, 2, 6] [] ?_
  repeat (refine AW_seq ?_)
  refine reg ?_
  refine run 3 ?_
  refine fin [0, 1, 2, 6, 7, 8] [] ?_
  repeat (refine AW_seq ?_)
  refine AW_block ?_
  refine AW_loops (ι := Unit) (fun _ => ⟨lk [(0, .c (.sl [])), (1, .c (iPV 0)), (2, fnV 20), (6, .c (iPV 20)), (7, .c (iPV 0)), (8, .c (iPV 20))], lkM [], lkG [] 0⟩) (fun _ => True) (fun _ => 0) () trivial wk ?_
  rintro ⟨⟩ -
  repeat (refine AW_seq ?_)
  refine reg ?_
  refine run 3 ?_
  refine fin [0, 1, 2, 6, 7, 8, 13] [] ?_
  repeat (refine AW_seq ?_)
  refine tstF ?_
  refine AW_exit ?_
  repeat (refine AW_seq ?_)
  refine reg ?_
  refine run 4 ?_
  refine call (fun _ => isort_nil) ?_
  refine fin [0, 1, 2, 6] [] ?_
  repeat (refine AW_seq ?_)
  refine AW_block ?_
  refine AW_loops (ι := Unit) (fun _ => ⟨lk [(0, .c (.sl [])), (1, .c (iPV 0)), (2, fnV 20), (6, .c (iPV 20))], lkM [], lkG [] 0⟩) (fun _ => True) (fun _ => 0) () trivial wk ?_
  rintro ⟨⟩ -
  repeat (refine AW_seq ?_)
  refine reg ?_
  refine run 3 ?_
  refine fin [0, 1, 2, 6, 30] [] ?_
  repeat (refine AW_seq ?_)
  refine tstF ?_
  refine AW_exit ?_
  refine retN ?_
  rfl

theorem sortS_nil  : ACalls Try.prog 19 [.sl [], (.v (.func (.func 20) #[] #[]))] (.tup []) := by
  refine ent Try.func19 ?_
  repeat (refine AW_seq ?_)
  refine reg ?_
  refine run 4 ?_
  refine call (fun _ => stab_nil) ?_
  refine finN ?_
  refine retN ?_
  rfl

theorem clone_nil  : ACalls Try.prog 18 [.sl []] (.sl []) := by
  refine ent Try.func18 ?_
  repeat (refine AW_seq ?_)
  refine reg ?_
  refine run 1 ?_
  refine fin [0] [] ?_
  repeat (refine AW_seq ?_)
  refine reg ?_
  refine run 2 ?_
  refine fin [0, 4] [] ?_
  repeat (refine AW_seq ?_)
  refine tstA ?_ ?_
  · skip
    repeat (refine AW_seq ?_)
    refine reg ?_
    refine run 1 ?_
    refine fin [2] [] ?_
    refine AW_ret (ret ?_)
    rfl
  · skip
    refine AW_skip ?_
    repeat (refine AW_seq ?_)
    refine reg ?_
    refine run 4 ?_
    refine fin [2] [(6, 0)] ?_
    refine AW_ret (ret ?_)
    rfl

theorem clone_any (e : Ed) (l : List Ed) (hl : (e :: l).length < 1099511627776) : FCalls Try.prog 18 [edsPV (e :: l)] ⟨24, 3, (e :: l).map edPV, true⟩ := by
  refine entF Try.func18 ?_
  repeat (refine AW_seq ?_)
  refine reg ?_
  refine run 1 ?_
  refine fin [0] [] ?_
  repeat (refine AW_seq ?_)
  refine reg ?_
  refine run 2 ?_
  refine fin [0, 4] [] ?_
  repeat (refine AW_seq ?_)
  refine tstF ?_
  refine AW_skip ?_
  repeat (refine AW_seq ?_)
  refine reg ?_
  refine run 4 ?_
  refine fin [2] [(6, 0)] ?_
  refine AW_ret (retF ?_)
  rfl

theorem sort_nil  : ACalls Try.prog 14 [.sl []] (.sl []) := by
  refine ent Try.func14 ?_
  repeat (refine AW_seq ?_)
  refine reg ?_
  refine run 1 ?_
  refine fin [0] [] ?_
  repeat (refine AW_seq ?_)
  refine reg ?_
  refine run 1 ?_
  refine call (fun _ => clone_nil) ?_
  refine run 1 ?_
  refine fin [3] [] ?_
  repeat (refine AW_seq ?_)
  refine reg ?_
  refine run 1 ?_
  refine call (fun _ => sortS_nil) ?_
  refine fin [3] [] ?_
  repeat (refine AW_seq ?_)
  refine reg ?_
  refine run 2 ?_
  refine fin [2] [] ?_
  refine AW_ret (ret ?_)
  rfl

theorem sort_some (e : Ed) (l : List Ed) (hl : (e :: l).length < 1099511627776) : ACalls Try.prog 14 [edsPV (e :: l)] (edsPV (ssort lessB (e :: l))) := by
  refine ent Try.func14 ?_
  have hn := ssort_len lessB_rank (e :: l)
  repeat (refine AW_seq ?_)
  refine reg ?_
  refine run 1 ?_
  refine fin [0] [] ?_
  repeat (refine AW_seq ?_)
  refine reg ?_
  refine run 1 ?_
  refine fcall (clone_any e l hl) ?_
  refine run 1 ?_
  refine fin [3] [(6, 0)] ?_
  repeat (refine AW_seq ?_)
  refine reg ?_
  refine run 1 ?_
  refine wcall (6, 0) (sortS_any (e :: l) hl) ?_
  refine fin [3] [(6, 0)] ?_
  repeat (refine AW_seq ?_)
  refine reg ?_
  refine run 2 ?_
  refine fin [2] [(6, 0)] ?_
  refine AW_ret (ret ?_)
  rfl


theorem ssort_nil : ssort lessB [] = [] := List.length_eq_zero_iff.1 (ssort_len lessB_rank [])
theorem sort_any (l : List Ed) (hl : l.length < 1099511627776) : ACalls Try.prog 14 [edsPV l] (edsPV (ssort lessB l)) := by
  cases l with
  | nil => rw [ssort_nil]; exact sort_nil
  | cons e l => exact sort_some e l hl
def hasE (u v : Int) (e : Ed) : Bool := (e.u == u && e.v == v) || (e.u == v && e.v == u)
def findI (u v : Int) : List Ed → Nat → Option Nat
  | [], _ => none
  | e :: r, k => if hasE u v e = true then some k else findI u v r (k + 1)
def findE (l : List Ed) (u v : Int) : PV := match findI u v l 0 with | some i => .tup [iPV i, bPV true] | none => .tup [iPV 0, bPV false]
theorem drop_getD {α : Type} [Inhabited α] (l : List α) (k : Nat) (h : k < l.length) : l.drop k = l.getD k default :: l.drop (k + 1) := by
  rw [List.drop_eq_getElem_cons h]; congr 1
  rw [List.getD_eq_getElem?_getD, List.getElem?_eq_getElem h]; rfl

theorem find_any (l : List Ed) (u v : Int) (hl : l.length < 1099511627776) : ACalls Try.prog 17 [edsPV l, iPV u, iPV v] (findE l u v) := by
  refine ent Try.func17 ?_
  repeat (refine AW_seq ?_)
  refine reg ?_
  refine run 2 ?_
  refine fin [0, 1, 2] [] ?_
  repeat (refine AW_seq ?_)
  refine reg ?_
  refine run 3 ?_
  refine fin [1, 2, 10, 11, 12] [] ?_
  repeat (refine AW_seq ?_)
  refine AW_block ?_
  refine AW_loops (ι := Nat) (fun i => ⟨lk [(1, .c (iPV u)), (2, .c (iPV v)), (10, .c (edsPV l)), (11, .c (iPV l.length)), (12, .c (iPV i))], lkM [], lkG [] 0⟩) (fun i => i ≤ l.length ∧ findI u v (l.drop i) i = findI u v l 0) (fun i => l.length - i) 0 ⟨Nat.zero_le _, rfl⟩ wk ?_
  rintro i ⟨hi, hf⟩
  repeat (refine AW_seq ?_)
  refine reg ?_
  refine run 1 ?_
  refine fin [1, 2, 10, 11, 12, 13] [] ?_
  repeat (refine AW_seq ?_)
  refine tst (fun h1 => ?_) (fun h1 => ?_)
  · simp at h1
    have hE : hasE u v (l.getD i default) = hasE u v (l.getD i default) := rfl
    refine AW_skip ?_
    repeat (refine AW_seq ?_)
    refine AW_block ?_
    repeat (refine AW_seq ?_)
    refine reg ?_
    refine run 6 ?_
    refine fin [1, 2, 8, 9, 10, 11, 12] [(10, 0)] ?_
    repeat (refine AW_seq ?_)
    refine reg ?_
    refine run 22 ?_
    refine fin [1, 2, 8, 10, 11, 12, 38] [] ?_
    repeat (refine AW_seq ?_)
    refine tst (fun h2 => ?_) (fun h2 => ?_)
    · skip
      have hE : hasE u v (l.getD i default) = true := h2
      repeat (refine AW_seq ?_)
      refine reg ?_
      refine run 3 ?_
      refine fin [6, 7] [] ?_
      refine AW_ret (ret ?_)
      rw [findE, ← hf, drop_getD l i (by omega), findI, if_pos hE]; rfl
    · skip
      have hE : hasE u v (l.getD i default) = false := h2
      refine AW_skip ?_
      repeat (refine AW_seq ?_)
      refine reg ?_
      refine run 2 ?_
      refine finN ?_
      exact ⟨i + 1, by omega, ⟨by omega, by rw [← hf, drop_getD l i (by omega), findI, if_neg (by rw [hE]; exact Bool.false_ne_true)]⟩, wk⟩
  · simp at h1
    refine AW_exit ?_
    repeat (refine AW_seq ?_)
    refine reg ?_
    refine run 2 ?_
    refine fin [6, 7] [] ?_
    refine AW_ret (ret ?_)
    rw [findE, ← hf, List.drop_of_length_le (by omega), findI]; rfl

theorem awake_true  : ACalls Try.prog 13 [] (bPV true) := by
  refine ent Try.func13 ?_
  have e1 : ofE 5 3 = .tup [uPV 50331653, iPV 0] := by rfl
  have e2 : endsE 50331653 = .tup [iPV 3, iPV 5, bPV true] := by rfl
  have e3 : ofE 4 4 = .tup [uPV 0, iPV 8] := by rfl
  have e4 : ofE 16777216 0 = .tup [uPV 0, iPV 1] := by rfl
  have e5 : ssort lessB [⟨2, 3, 0⟩, ⟨0, 9, 0⟩, ⟨0, 4, 0⟩] = [⟨0, 4, 0⟩, ⟨0, 9, 0⟩, ⟨2, 3, 0⟩] := by simp [ssort, upL, blk, iso, smerge, lessB]
  have e6 : findE [⟨0, 4, 0⟩, ⟨0, 9, 0⟩, ⟨2, 3, 0⟩] 3 2 = .tup [iPV 2, bPV true] := by rfl
  repeat (refine AW_seq ?_)
  refine reg ?_
  refine run 1 ?_
  refine fin [] [] ?_
  repeat (refine AW_seq ?_)
  refine reg ?_
  refine call (fun _ => of_any 5 3) ?_
  refine run 5 ?_
  refine fin [1, 2] [] ?_
  repeat (refine AW_seq ?_)
  refine reg ?_
  refine run 1 ?_
  refine call (fun _ => ends_any 50331653 (by omega) (by omega)) ?_
  refine run 7 ?_
  refine fin [1, 2, 3, 4, 5] [] ?_
  repeat (refine AW_seq ?_)
  refine reg ?_
  refine call (fun _ => of_any 4 4) ?_
  refine run 5 ?_
  refine fin [1, 2, 3, 4, 5, 7] [] ?_
  repeat (refine AW_seq ?_)
  refine reg ?_
  refine call (fun _ => of_any 16777216 0) ?_
  refine run 5 ?_
  refine fin [1, 2, 3, 4, 5, 7, 9] [] ?_
  repeat (refine AW_seq ?_)
  refine reg ?_
  refine run 4 ?_
  refine call (fun _ => sort_any [⟨2, 3, 0⟩, ⟨0, 9, 0⟩, ⟨0, 4, 0⟩] (by simp)) ?_
  refine run 1 ?_
  refine fin [1, 2, 3, 4, 5, 7, 9, 10] [] ?_
  repeat (refine AW_seq ?_)
  refine reg ?_
  refine run 1 ?_
  refine call (fun _ => find_any [⟨0, 4, 0⟩, ⟨0, 9, 0⟩, ⟨2, 3, 0⟩] 3 2 (by simp)) ?_
  refine run 5 ?_
  refine fin [1, 2, 3, 4, 5, 7, 9, 10, 11, 12] [] ?_
  repeat (refine AW_seq ?_)
  refine reg ?_
  refine run 12 ?_
  refine run 12 ?_
  refine run 12 ?_
  refine run 11 ?_
  refine fin [0] [] ?_
  refine AW_ret (ret ?_)
  rfl

end Go.Proofs.Ytgkajfmjpobenaa