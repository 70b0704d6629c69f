/-
  Contracts of the layer verts on plain data: a new directory, a key added, a key removed.
  Conditions: not too many slots.
-/
import Derived.Test.YtaoiffinodfcfaaVertsF
import Derived.Test.YtaoiffinodfcfaaAb31
namespace Go.Proofs.Ytaoiffinodfcfaa
open Go Go.Ab
set_option linter.unusedVariables false
set_option linter.unusedSimpArgs false

def addPV (a : List Slt × Int × Int) : PV := .tup [.sl (a.1.map stPV), iPV a.2.1, iPV a.2.2]
def remPV (a : List Slt × Int) : PV := .tup [.sl (a.1.map stPV), iPV a.2]

theorem add_not (l : List Slt) (k : Int) (hl : l.length < 1099511627776) (h : ¬ RightP l) : ACalls Try.prog 12 [.sl (l.map stPV), uPV k] (.tup [.sl (l.map stPV), iPV 0, iPV 1]) := by
  refine ent Try.func12 ?_
  have c1 := by_any l hl
  rw [decide_eq_false h] at c1
  repeat (refine AW_seq ?_)
  refine reg ?_
  refine run 2 ?_
  refine run 1 ?_
  refine fin [0, 1] [] ?_
  repeat (refine AW_seq ?_)
  refine reg ?_
  refine run 1 ?_
  refine call (fun _ => c1) ?_
  refine run 2 ?_
  refine run 2 ?_
  refine run 2 ?_
  refine fin [0, 1, 7, 8] [(8, 0)] ?_
  repeat (refine AW_seq ?_)
  refine reg ?_
  refine run 2 ?_
  refine fin [0, 1, 7, 18] [(8, 0)] ?_
  repeat (refine AW_seq ?_)
  refine tstT ?_
  repeat (refine AW_seq ?_)
  refine reg ?_
  refine run 2 ?_
  refine run 2 ?_
  refine fin [4, 5, 6] [] ?_
  refine AW_ret (ret ?_)
  rfl

theorem add_there (l : List Slt) (k : Int) (v : Nat) (hl : l.length < 1099511627776) (h : RightP l) (hf : findN l k = some v) : ACalls Try.prog 12 [.sl (l.map stPV), uPV k] (.tup [.sl (l.map stPV), iPV 0, iPV 4]) := by
  refine ent Try.func12 ?_
  have c1 := by_any l hl
  rw [decide_eq_true h] at c1
  have bl := by_len l
  have c2 := (by_ok l).cGet (by omega) k
  rw [by_get h, hf] at c2
  replace c2 : ACalls Try.prog 25 [.agg [sqPV (byT l)], uPV k] (.tup [iPV v, bPV true]) := c2
  clear h hf
  repeat (refine AW_seq ?_)
  refine reg ?_
  refine run 2 ?_
  refine run 1 ?_
  refine fin [0, 1] [] ?_
  repeat (refine AW_seq ?_)
  refine reg ?_
  refine run 1 ?_
  refine call (fun _ => c1) ?_
  refine run 2 ?_
  refine run 2 ?_
  refine run 2 ?_
  refine fin [0, 1, 7, 8] [(8, 0)] ?_
  repeat (refine AW_seq ?_)
  refine reg ?_
  refine run 2 ?_
  refine fin [0, 1, 7, 18] [(8, 0)] ?_
  repeat (refine AW_seq ?_)
  refine tstF ?_
  refine AW_skip ?_
  repeat (refine AW_seq ?_)
  refine reg ?_
  refine run 2 ?_
  refine call (fun _ => c2) ?_
  refine run 2 ?_
  refine run 2 ?_
  refine run 1 ?_
  refine fin [0, 1, 10] [] ?_
  repeat (refine AW_seq ?_)
  refine reg ?_
  refine run 1 ?_
  refine fin [0, 1, 26] [] ?_
  repeat (refine AW_seq ?_)
  refine tstT ?_
  repeat (refine AW_seq ?_)
  refine reg ?_
  refine run 2 ?_
  refine run 2 ?_
  refine fin [4, 5, 6] [] ?_
  refine AW_ret (ret ?_)
  rfl

theorem add_full (l : List Slt) (k : Int) (hl : l.length < 1099511627776) (h : RightP l) (hf : findN l k = none) (hv : freeN l = none) : ACalls Try.prog 12 [.sl (l.map stPV), uPV k] (.tup [.sl (l.map stPV), iPV 0, iPV 10]) := by
  refine ent Try.func12 ?_
  have c1 := by_any l hl
  rw [decide_eq_true h] at c1
  have bl := by_len l
  have c2 := (by_ok l).cGet (by omega) k
  rw [by_get h, hf] at c2
  replace c2 : ACalls Try.prog 25 [.agg [sqPV (byT l)], uPV k] (.tup [iPV 0, bPV false]) := c2
  have c3 := ACalls.fnV (a := [.sl (l.map stPV)]) (b := []) (index_any l hl 27 [] (fun s => !s.used) add1_any)
  rw [show l.findIdx? (fun s => !s.used) = _ from hv] at c3
  replace c3 : ACalls Try.prog 26 [.sl (l.map stPV), .v (.func (.func 27) #[] #[])] (iPV (-1)) := c3
  clear h hf hv
  repeat (refine AW_seq ?_)
  refine reg ?_
  refine run 2 ?_
  refine run 1 ?_
  refine fin [0, 1] [] ?_
  repeat (refine AW_seq ?_)
  refine reg ?_
  refine run 1 ?_
  refine call (fun _ => c1) ?_
  refine run 2 ?_
  refine run 2 ?_
  refine run 2 ?_
  refine fin [0, 1, 7, 8] [(8, 0)] ?_
  repeat (refine AW_seq ?_)
  refine reg ?_
  refine run 2 ?_
  refine fin [0, 1, 7, 18] [(8, 0)] ?_
  repeat (refine AW_seq ?_)
  refine tstF ?_
  refine AW_skip ?_
  repeat (refine AW_seq ?_)
  refine reg ?_
  refine run 2 ?_
  refine call (fun _ => c2) ?_
  refine run 2 ?_
  refine run 2 ?_
  refine run 1 ?_
  refine fin [0, 1, 10] [] ?_
  repeat (refine AW_seq ?_)
  refine reg ?_
  refine run 1 ?_
  refine fin [0, 1, 26] [] ?_
  repeat (refine AW_seq ?_)
  refine tstF ?_
  refine AW_skip ?_
  repeat (refine AW_seq ?_)
  refine reg ?_
  refine run 1 ?_
  refine call (fun _ => c3) ?_
  refine run 1 ?_
  refine fin [0, 1, 11] [] ?_
  repeat (refine AW_seq ?_)
  refine reg ?_
  refine run 2 ?_
  refine fin [0, 1, 11, 31] [] ?_
  repeat (refine AW_seq ?_)
  refine tstT ?_
  repeat (refine AW_seq ?_)
  refine reg ?_
  refine run 2 ?_
  refine run 2 ?_
  refine fin [4, 5, 6] [] ?_
  refine AW_ret (ret ?_)
  rfl

theorem add_new (l l2 : List Slt) (k : Int) (v : Nat) (hl : l.length < 1099511627776) (h : RightP l) (hf : findN l k = none) (hv : freeN l = some v) (h2 : l.set v ⟨true, k⟩ = l2) : ACalls Try.prog 12 [.sl (l.map stPV), uPV k] (.tup [.sl (l2.map stPV), iPV v, iPV 0]) := by
  refine ent Try.func12 ?_
  have c1 := by_any l hl
  rw [decide_eq_true h] at c1
  have bl := by_len l
  have c2 := (by_ok l).cGet (by omega) k
  rw [by_get h, hf] at c2
  replace c2 : ACalls Try.prog 25 [.agg [sqPV (byT l)], uPV k] (.tup [iPV 0, bPV false]) := c2
  have c3 := ACalls.fnV (a := [.sl (l.map stPV)]) (b := []) (index_any l hl 27 [] (fun s => !s.used) add1_any)
  rw [show l.findIdx? (fun s => !s.used) = _ from hv] at c3
  have hvl := (free_of.1 hv).1
  have hvk := h.2.1
  have c4 := with_any l v ⟨true, k⟩ hl hvl
  rw [h2] at c4
  replace c3 : ACalls Try.prog 26 [.sl (l.map stPV), .v (.func (.func 27) #[] #[])] (iPV v) := c3
  clear h hf hv h2
  repeat (refine AW_seq ?_)
  refine reg ?_
  refine run 2 ?_
  refine run 1 ?_
  refine fin [0, 1] [] ?_
  repeat (refine AW_seq ?_)
  refine reg ?_
  refine run 1 ?_
  refine call (fun _ => c1) ?_
  refine run 2 ?_
  refine run 2 ?_
  refine run 2 ?_
  refine fin [0, 1, 7, 8] [(8, 0)] ?_
  repeat (refine AW_seq ?_)
  refine reg ?_
  refine run 2 ?_
  refine fin [0, 1, 7, 18] [(8, 0)] ?_
  repeat (refine AW_seq ?_)
  refine tstF ?_
  refine AW_skip ?_
  repeat (refine AW_seq ?_)
  refine reg ?_
  refine run 2 ?_
  refine call (fun _ => c2) ?_
  refine run 2 ?_
  refine run 2 ?_
  refine run 1 ?_
  refine fin [0, 1, 10] [] ?_
  repeat (refine AW_seq ?_)
  refine reg ?_
  refine run 1 ?_
  refine fin [0, 1, 26] [] ?_
  repeat (refine AW_seq ?_)
  refine tstF ?_
  refine AW_skip ?_
  repeat (refine AW_seq ?_)
  refine reg ?_
  refine run 1 ?_
  refine call (fun _ => c3) ?_
  refine run 1 ?_
  refine fin [0, 1, 11] [] ?_
  repeat (refine AW_seq ?_)
  refine reg ?_
  refine run 2 ?_
  refine fin [0, 1, 11, 31] [] ?_
  repeat (refine AW_seq ?_)
  refine tst (fun h3 => ?_) (fun h3 => ?_)
  · (exfalso; grind)
  · simp at h3
    refine AW_skip ?_
    repeat (refine AW_seq ?_)
    refine reg ?_
    refine run 2 ?_
    refine run 2 ?_
    refine call (fun _ => c4) ?_
    refine run 2 ?_
    refine run 2 ?_
    refine fin [4, 5, 6] [] ?_
    refine AW_ret (ret ?_)
    rfl

theorem vAdd_any (l : List Slt) (k : Int) (hl : l.length < 1099511627776) : ACalls Try.prog 12 [.sl (l.map stPV), uPV k] (addPV (addR l k)) := by
  by_cases h : RightP l
  · cases hf : findN l k with
    | some v => rw [addR_there h hf]; exact add_there l k v hl h hf
    | none => cases hv : freeN l with
      | none => rw [addR_full h hf hv]; exact add_full l k hl h hf hv
      | some v => rw [addR_new h hf hv]; exact add_new l _ k v hl h hf hv rfl
  · rw [addR_not h]; exact add_not l k hl h

theorem rem_not (l : List Slt) (k : Int) (hl : l.length < 1099511627776) (h : ¬ RightP l) : ACalls Try.prog 14 [.sl (l.map stPV), uPV k] (.tup [.sl (l.map stPV), iPV 1]) := by
  refine ent Try.func14 ?_
  have c1 := by_any l hl
  rw [decide_eq_false h] at c1
  repeat (refine AW_seq ?_)
  refine reg ?_
  refine run 2 ?_
  refine fin [0, 1] [] ?_
  repeat (refine AW_seq ?_)
  refine reg ?_
  refine run 1 ?_
  refine call (fun _ => c1) ?_
  refine run 2 ?_
  refine run 2 ?_
  refine run 2 ?_
  refine fin [0, 1, 6, 7] [(7, 0)] ?_
  repeat (refine AW_seq ?_)
  refine reg ?_
  refine run 2 ?_
  refine fin [0, 1, 6, 16] [(7, 0)] ?_
  repeat (refine AW_seq ?_)
  refine tstT ?_
  repeat (refine AW_seq ?_)
  refine reg ?_
  refine run 2 ?_
  refine run 1 ?_
  refine fin [4, 5] [] ?_
  refine AW_ret (ret ?_)
  rfl

theorem rem_none (l : List Slt) (k : Int) (hl : l.length < 1099511627776) (h : RightP l) (hf : findN l k = none) : ACalls Try.prog 14 [.sl (l.map stPV), uPV k] (.tup [.sl (l.map stPV), iPV 7]) := by
  refine ent Try.func14 ?_
  have c1 := by_any l hl
  rw [decide_eq_true h] at c1
  have bl := by_len l
  have c2 := (by_ok l).cGet (by omega) k
  rw [by_get h, hf] at c2
  replace c2 : ACalls Try.prog 25 [.agg [sqPV (byT l)], uPV k] (.tup [iPV 0, bPV false]) := c2
  clear h hf
  repeat (refine AW_seq ?_)
  refine reg ?_
  refine run 2 ?_
  refine fin [0, 1] [] ?_
  repeat (refine AW_seq ?_)
  refine reg ?_
  refine run 1 ?_
  refine call (fun _ => c1) ?_
  refine run 2 ?_
  refine run 2 ?_
  refine run 2 ?_
  refine fin [0, 1, 6, 7] [(7, 0)] ?_
  repeat (refine AW_seq ?_)
  refine reg ?_
  refine run 2 ?_
  refine fin [0, 1, 6, 16] [(7, 0)] ?_
  repeat (refine AW_seq ?_)
  refine tstF ?_
  refine AW_skip ?_
  repeat (refine AW_seq ?_)
  refine reg ?_
  refine run 2 ?_
  refine call (fun _ => c2) ?_
  refine run 2 ?_
  refine run 2 ?_
  refine run 1 ?_
  refine fin [0, 8, 9] [] ?_
  repeat (refine AW_seq ?_)
  refine reg ?_
  refine run 2 ?_
  refine fin [0, 8, 25] [] ?_
  repeat (refine AW_seq ?_)
  refine tstT ?_
  repeat (refine AW_seq ?_)
  refine reg ?_
  refine run 2 ?_
  refine run 1 ?_
  refine fin [4, 5] [] ?_
  refine AW_ret (ret ?_)
  rfl

theorem rem_some (l l2 : List Slt) (k : Int) (v : Nat) (hl : l.length < 1099511627776) (h : RightP l) (hf : findN l k = some v) (h2 : l.set v ⟨false, 0⟩ = l2) : ACalls Try.prog 14 [.sl (l.map stPV), uPV k] (.tup [.sl (l2.map stPV), iPV 0]) := by
  refine ent Try.func14 ?_
  have c1 := by_any l hl
  rw [decide_eq_true h] at c1
  have bl := by_len l
  have c2 := (by_ok l).cGet (by omega) k
  rw [by_get h, hf] at c2
  replace c2 : ACalls Try.prog 25 [.agg [sqPV (byT l)], uPV k] (.tup [iPV v, bPV true]) := c2
  have hvl := (find_of hf).1
  have c4 := with_any l v ⟨false, 0⟩ hl hvl
  rw [h2] at c4
  clear h hf h2
  repeat (refine AW_seq ?_)
  refine reg ?_
  refine run 2 ?_
  refine fin [0, 1] [] ?_
  repeat (refine AW_seq ?_)
  refine reg ?_
  refine run 1 ?_
  refine call (fun _ => c1) ?_
  refine run 2 ?_
  refine run 2 ?_
  refine run 2 ?_
  refine fin [0, 1, 6, 7] [(7, 0)] ?_
  repeat (refine AW_seq ?_)
  refine reg ?_
  refine run 2 ?_
  refine fin [0, 1, 6, 16] [(7, 0)] ?_
  repeat (refine AW_seq ?_)
  refine tstF ?_
  refine AW_skip ?_
  repeat (refine AW_seq ?_)
  refine reg ?_
  refine run 2 ?_
  refine call (fun _ => c2) ?_
  refine run 2 ?_
  refine run 2 ?_
  refine run 1 ?_
  refine fin [0, 8, 9] [] ?_
  repeat (refine AW_seq ?_)
  refine reg ?_
  refine run 2 ?_
  refine fin [0, 8, 25] [] ?_
  repeat (refine AW_seq ?_)
  refine tstF ?_
  refine AW_skip ?_
  repeat (refine AW_seq ?_)
  refine reg ?_
  refine run 2 ?_
  refine run 1 ?_
  refine call (fun _ => c4) ?_
  refine run 2 ?_
  refine fin [4, 5] [] ?_
  refine AW_ret (ret ?_)
  rfl

theorem vRem_any (l : List Slt) (k : Int) (hl : l.length < 1099511627776) : ACalls Try.prog 14 [.sl (l.map stPV), uPV k] (remPV (remR l k)) := by
  by_cases h : RightP l
  · cases hf : findN l k with
    | none => rw [remR_none h hf]; exact rem_none l k hl h hf
    | some v => rw [remR_some h hf]; exact rem_some l _ k v hl h hf rfl
  · rw [remR_not h]; exact rem_not l k hl h

theorem new_not (n : Int) (h : ¬ (1 ≤ n ∧ n ≤ 1024)) : ACalls Try.prog 23 [iPV n] (.tup [.sl [], iPV 1]) := by
  refine ent Try.func23 ?_
  have c1 := isSize_any n
  rw [show (decide (1 ≤ n) && decide (n ≤ 1024)) = false by simp; omega] at c1
  repeat (refine AW_seq ?_)
  refine reg ?_
  refine run 2 ?_
  refine fin [0] [] ?_
  repeat (refine AW_seq ?_)
  refine reg ?_
  refine run 1 ?_
  refine call (fun _ => c1) ?_
  refine run 1 ?_
  refine fin [0, 6] [] ?_
  repeat (refine AW_seq ?_)
  refine tstT ?_
  repeat (refine AW_seq ?_)
  refine reg ?_
  refine run 2 ?_
  refine fin [2, 3] [] ?_
  refine AW_ret (ret ?_)
  rfl

theorem new_yes (n : Nat) (h : 1 ≤ n ∧ n ≤ 1024) : ACalls Try.prog 23 [iPV n] (.tup [.sl ((List.replicate n (⟨false, 0⟩ : Slt)).map stPV), iPV 0]) := by
  refine ent Try.func23 ?_
  have c1 := isSize_any n
  rw [show (decide (1 ≤ (n : Int)) && decide ((n : Int) ≤ 1024)) = true by simp; omega] at c1
  have hr0 : (List.replicate n (⟨false, 0⟩ : Slt)).map stPV = List.replicate n (PV.agg [PV.v (.bool false), PV.v (.int .u64 0)]) := by rw [List.map_replicate]; rfl
  repeat (refine AW_seq ?_)
  refine reg ?_
  refine run 2 ?_
  refine fin [0] [] ?_
  repeat (refine AW_seq ?_)
  refine reg ?_
  refine run 1 ?_
  refine call (fun _ => c1) ?_
  refine run 1 ?_
  refine fin [0, 6] [] ?_
  repeat (refine AW_seq ?_)
  refine tstF ?_
  refine AW_skip ?_
  repeat (refine AW_seq ?_)
  refine reg ?_
  refine run 2 ?_
  refine run 2 ?_
  refine fin [2, 3] [(9, 0)] ?_
  refine AW_ret (ret ?_)
  rw [hr0]
  rfl

end Go.Proofs.Ytaoiffinodfcfaa