/-
  The laws VertsTells and VertsNew on plain data.
  Conditions: none.
-/
import Derived.Test.YtaoiffinodfcfaaVertsN
namespace Go.Proofs.Ytaoiffinodfcfaa
open Go Go.Ab
set_option linter.unusedVariables false
set_option linter.unusedSimpArgs false


theorem tells_big (l : List Slt) (k : Int) (h : 60 < l.length) : ACalls Try.prog 3 [.sl (l.map stPV), uPV k] (bPV true) := by
  refine ent Try.func3 ?_
  have hB : decide ((60 : Int) < (l.length : Int)) = true := by simp; omega
  repeat (refine AW_seq ?_)
  refine reg ?_
  refine run 1 ?_
  refine fin [0, 1] [] ?_
  repeat (refine AW_seq ?_)
  refine reg ?_
  refine run 2 ?_
  refine run 1 ?_
  refine fin [0, 1, 23] [] ?_
  repeat (refine AW_seq ?_)
  refine tstT ?_
  repeat (refine AW_seq ?_)
  refine reg ?_
  refine call (fun _ => awake_true) ?_
  refine run 1 ?_
  refine fin [4] [] ?_
  refine AW_ret (ret ?_)
  rfl

set_option maxHeartbeats 4000000 in
theorem tells_not (l : List Slt) (k : Int) (h6 : l.length ≤ 60) (h : ¬ RightP l) : ACalls Try.prog 3 [.sl (l.map stPV), uPV k] (bPV true) := by
  refine ent Try.func3 ?_
  have hB : decide ((60 : Int) < (l.length : Int)) = false := by simp; omega
  have hl6 : l.length < 1099511627776 := by omega
  have cr := refs_any l hl6
  obtain ⟨⟨A, i, e⟩, hA⟩ : ∃ q, addR l k = q := ⟨_, rfl⟩
  obtain ⟨⟨D, g⟩, hD⟩ : ∃ q, remR l k = q := ⟨_, rfl⟩
  have lA : A.length = l.length := by have := addR_len l k; rw [hA] at this; exact this
  have lD : D.length = l.length := by have := remR_len l k; rw [hD] at this; exact this
  have cA := vAdd_is hl6 hA
  have cB := rAdd_is hl6 hA
  have cC := vRem_is hl6 hD
  have cD := rRem_is hl6 hD
  have crA := refs_any A (by omega)
  have crD := refs_any D (by omega)
  have csA := sameS_yes (l := A) (by omega)
  have csD := sameS_yes (l := D) (by omega)
  have cK := vKeys_any l hl6
  have cR := vRight_any l hl6
  have cQ := rRight_any l hl6
  rw [decide_eq_false h] at cR cQ
  rw [keysR_not h] at cK
  have cF := vFind_not k hl6 h
  clear hA hD h
  repeat (refine AW_seq ?_)
  refine reg ?_
  refine run 1 ?_
  refine fin [0, 1] [] ?_
  repeat (refine AW_seq ?_)
  refine reg ?_
  refine run 2 ?_
  refine run 1 ?_
  refine fin [0, 1, 23] [] ?_
  repeat (refine AW_seq ?_)
  refine tstF ?_
  refine AW_skip ?_
  repeat (refine AW_seq ?_)
  refine reg ?_
  refine run 1 ?_
  refine call (fun _ => cr) ?_
  refine run 1 ?_
  refine fin [0, 1, 5] [] ?_
  repeat (refine AW_seq ?_)
  refine reg ?_
  refine run 1 ?_
  refine call (fun _ => cQ) ?_
  refine run 1 ?_
  refine fin [0, 1, 5, 6] [] ?_
  repeat (refine AW_seq ?_)
  refine reg ?_
  refine run 2 ?_
  refine call (fun _ => cA) ?_
  refine run 2 ?_
  refine run 2 ?_
  refine run 2 ?_
  refine run 1 ?_
  refine fin [0, 1, 5, 6, 7, 8, 9] [] ?_
  repeat (refine AW_seq ?_)
  refine reg ?_
  refine run 2 ?_
  refine call (fun _ => cB) ?_
  refine run 2 ?_
  refine run 2 ?_
  refine run 2 ?_
  refine run 1 ?_
  refine fin [0, 1, 5, 6, 7, 8, 9, 10, 11, 12] [] ?_
  repeat (refine AW_seq ?_)
  refine reg ?_
  refine run 2 ?_
  refine call (fun _ => cC) ?_
  refine run 2 ?_
  refine run 2 ?_
  refine run 1 ?_
  refine fin [0, 1, 5, 6, 7, 8, 9, 10, 11, 12, 13, 14] [] ?_
  repeat (refine AW_seq ?_)
  refine reg ?_
  refine run 2 ?_
  refine call (fun _ => cD) ?_
  refine run 2 ?_
  refine run 2 ?_
  refine run 1 ?_
  refine fin [0, 1, 5, 6, 7, 8, 9, 10, 11, 12, 13, 14, 15, 16] [] ?_
  repeat (refine AW_seq ?_)
  refine reg ?_
  refine run 2 ?_
  refine call (fun _ => cF) ?_
  refine run 2 ?_
  refine run 2 ?_
  refine run 1 ?_
  refine fin [0, 1, 5, 6, 7, 8, 9, 10, 11, 12, 13, 14, 15, 16, 17, 18] [] ?_
  repeat (refine AW_seq ?_)
  refine reg ?_
  refine run 1 ?_
  refine call (fun _ => cK) ?_
  refine run 1 ?_
  refine fin [0, 1, 5, 6, 7, 8, 9, 10, 11, 12, 13, 14, 15, 16, 17, 18, 19] [] ?_
  repeat (refine AW_seq ?_)
  refine reg ?_
  refine run 1 ?_
  refine call (fun _ => cR) ?_
  refine run 2 ?_
  refine run 2 ?_
  refine call (fun _ => crA) ?_
  refine run 1 ?_
  refine call (fun _ => csA) ?_
  refine run 2 ?_
  refine run 2 ?_
  refine run 2 ?_
  refine run 2 ?_
  refine run 2 ?_
  refine run 2 ?_
  refine run 2 ?_
  refine call (fun _ => crD) ?_
  refine run 1 ?_
  refine call (fun _ => csD) ?_
  refine run 2 ?_
  refine run 2 ?_
  refine run 2 ?_
  refine run 1 ?_
  refine fin [1, 5, 6, 17, 18, 19, 95] [] ?_
  repeat (refine AW_seq ?_)
  refine tstF ?_
  refine AW_skip ?_
  repeat (refine AW_seq ?_)
  refine reg ?_
  refine run 2 ?_
  refine fin [1, 5, 17, 18, 19, 97] [] ?_
  repeat (refine AW_seq ?_)
  refine tstT ?_
  repeat (refine AW_seq ?_)
  refine reg ?_
  refine run 2 ?_
  refine run 2 ?_
  refine run 2 ?_
  refine run 2 ?_
  refine run 2 ?_
  refine run 2 ?_
  refine call (fun _ => awake_true) ?_
  refine run 2 ?_
  refine fin [4] [] ?_
  refine AW_ret (ret ?_)
  rfl

set_option maxHeartbeats 4000000 in
theorem tells_none (l : List Slt) (k : Int) (h6 : l.length ≤ 60) (h : RightP l) (hf : findN l k = none) : ACalls Try.prog 3 [.sl (l.map stPV), uPV k] (bPV true) := by
  refine ent Try.func3 ?_
  have hB : decide ((60 : Int) < (l.length : Int)) = false := by simp; omega
  have hl6 : l.length < 1099511627776 := by omega
  have cr := refs_any l hl6
  obtain ⟨⟨A, i, e⟩, hA⟩ : ∃ q, addR l k = q := ⟨_, rfl⟩
  obtain ⟨⟨D, g⟩, hD⟩ : ∃ q, remR l k = q := ⟨_, rfl⟩
  have lA : A.length = l.length := by have := addR_len l k; rw [hA] at this; exact this
  have lD : D.length = l.length := by have := remR_len l k; rw [hD] at this; exact this
  have cA := vAdd_is hl6 hA
  have cB := rAdd_is hl6 hA
  have cC := vRem_is hl6 hD
  have cD := rRem_is hl6 hD
  have crA := refs_any A (by omega)
  have crD := refs_any D (by omega)
  have csA := sameS_yes (l := A) (by omega)
  have csD := sameS_yes (l := D) (by omega)
  have cK := vKeys_any l hl6
  have cR := vRight_any l hl6
  have cQ := rRight_any l hl6
  rw [decide_eq_true h] at cR cQ
  have cF := vFind_none h hf
  have cG := rFind_any l k hl6
  rw [hf, idxI] at cG
  have cL := rKeys_any l hl6
  rw [keysN_all h] at cL
  have bK := keysR_len l
  obtain ⟨K, hK⟩ : ∃ K, keysR l = K := ⟨_, rfl⟩
  rw [hK] at cK cL bK
  have cS := sameU_yes (l := K) (by omega)
  clear hA hD h hf hK
  repeat (refine AW_seq ?_)
  refine reg ?_
  refine run 1 ?_
  refine fin [0, 1] [] ?_
  repeat (refine AW_seq ?_)
  refine reg ?_
  refine run 2 ?_
  refine run 1 ?_
  refine fin [0, 1, 23] [] ?_
  repeat (refine AW_seq ?_)
  refine tstF ?_
  refine AW_skip ?_
  repeat (refine AW_seq ?_)
  refine reg ?_
  refine run 1 ?_
  refine call (fun _ => cr) ?_
  refine run 1 ?_
  refine fin [0, 1, 5] [] ?_
  repeat (refine AW_seq ?_)
  refine reg ?_
  refine run 1 ?_
  refine call (fun _ => cQ) ?_
  refine run 1 ?_
  refine fin [0, 1, 5, 6] [] ?_
  repeat (refine AW_seq ?_)
  refine reg ?_
  refine run 2 ?_
  refine call (fun _ => cA) ?_
  refine run 2 ?_
  refine run 2 ?_
  refine run 2 ?_
  refine run 1 ?_
  refine fin [0, 1, 5, 6, 7, 8, 9] [] ?_
  repeat (refine AW_seq ?_)
  refine reg ?_
  refine run 2 ?_
  refine call (fun _ => cB) ?_
  refine run 2 ?_
  refine run 2 ?_
  refine run 2 ?_
  refine run 1 ?_
  refine fin [0, 1, 5, 6, 7, 8, 9, 10, 11, 12] [] ?_
  repeat (refine AW_seq ?_)
  refine reg ?_
  refine run 2 ?_
  refine call (fun _ => cC) ?_
  refine run 2 ?_
  refine run 2 ?_
  refine run 1 ?_
  refine fin [0, 1, 5, 6, 7, 8, 9, 10, 11, 12, 13, 14] [] ?_
  repeat (refine AW_seq ?_)
  refine reg ?_
  refine run 2 ?_
  refine call (fun _ => cD) ?_
  refine run 2 ?_
  refine run 2 ?_
  refine run 1 ?_
  refine fin [0, 1, 5, 6, 7, 8, 9, 10, 11, 12, 13, 14, 15, 16] [] ?_
  repeat (refine AW_seq ?_)
  refine reg ?_
  refine run 2 ?_
  refine call (fun _ => cF) ?_
  refine run 2 ?_
  refine run 2 ?_
  refine run 1 ?_
  refine fin [0, 1, 5, 6, 7, 8, 9, 10, 11, 12, 13, 14, 15, 16, 17, 18] [] ?_
  repeat (refine AW_seq ?_)
  refine reg ?_
  refine run 1 ?_
  refine call (fun _ => cK) ?_
  refine run 1 ?_
  refine fin [0, 1, 5, 6, 7, 8, 9, 10, 11, 12, 13, 14, 15, 16, 17, 18, 19] [] ?_
  repeat (refine AW_seq ?_)
  refine reg ?_
  refine run 1 ?_
  refine call (fun _ => cR) ?_
  refine run 2 ?_
  refine run 2 ?_
  refine call (fun _ => crA) ?_
  refine run 1 ?_
  refine call (fun _ => csA) ?_
  refine run 2 ?_
  refine run 2 ?_
  refine run 2 ?_
  refine run 2 ?_
  refine run 2 ?_
  refine run 2 ?_
  refine run 2 ?_
  refine call (fun _ => crD) ?_
  refine run 1 ?_
  refine call (fun _ => csD) ?_
  refine run 2 ?_
  refine run 2 ?_
  refine run 2 ?_
  refine run 1 ?_
  refine fin [1, 5, 6, 17, 18, 19, 95] [] ?_
  repeat (refine AW_seq ?_)
  refine tstF ?_
  refine AW_skip ?_
  repeat (refine AW_seq ?_)
  refine reg ?_
  refine run 2 ?_
  refine fin [1, 5, 17, 18, 19, 97] [] ?_
  repeat (refine AW_seq ?_)
  refine tstF ?_
  refine AW_skip ?_
  repeat (refine AW_seq ?_)
  refine reg ?_
  refine run 2 ?_
  refine call (fun _ => cG) ?_
  refine run 1 ?_
  refine fin [5, 17, 18, 19, 20] [] ?_
  repeat (refine AW_seq ?_)
  refine reg ?_
  refine run 2 ?_
  refine run 2 ?_
  refine run 2 ?_
  refine run 2 ?_
  refine run 2 ?_
  refine run 2 ?_
  refine run 1 ?_
  refine call (fun _ => cL) ?_
  refine call (fun _ => cS) ?_
  refine run 2 ?_
  refine call (fun _ => awake_true) ?_
  refine run 2 ?_
  refine fin [4] [] ?_
  refine AW_ret (ret ?_)
  rfl

set_option maxHeartbeats 4000000 in
theorem tells_some (l : List Slt) (k : Int) (v : Nat) (h6 : l.length ≤ 60) (h : RightP l) (hf : findN l k = some v) : ACalls Try.prog 3 [.sl (l.map stPV), uPV k] (bPV true) := by
  refine ent Try.func3 ?_
  have hB : decide ((60 : Int) < (l.length : Int)) = false := by simp; omega
  have hl6 : l.length < 1099511627776 := by omega
  have cr := refs_any l hl6
  obtain ⟨⟨A, i, e⟩, hA⟩ : ∃ q, addR l k = q := ⟨_, rfl⟩
  obtain ⟨⟨D, g⟩, hD⟩ : ∃ q, remR l k = q := ⟨_, rfl⟩
  have lA : A.length = l.length := by have := addR_len l k; rw [hA] at this; exact this
  have lD : D.length = l.length := by have := remR_len l k; rw [hD] at this; exact this
  have cA := vAdd_is hl6 hA
  have cB := rAdd_is hl6 hA
  have cC := vRem_is hl6 hD
  have cD := rRem_is hl6 hD
  have crA := refs_any A (by omega)
  have crD := refs_any D (by omega)
  have csA := sameS_yes (l := A) (by omega)
  have csD := sameS_yes (l := D) (by omega)
  have cK := vKeys_any l hl6
  have cR := vRight_any l hl6
  have cQ := rRight_any l hl6
  rw [decide_eq_true h] at cR cQ
  have cF := vFind_some h hf
  have cG := rFind_any l k hl6
  rw [hf, idxI] at cG
  have cL := rKeys_any l hl6
  rw [keysN_all h] at cL
  have bK := keysR_len l
  have hvl := (find_of hf).1
  obtain ⟨K, hK⟩ : ∃ K, keysR l = K := ⟨_, rfl⟩
  rw [hK] at cK cL bK
  have cS := sameU_yes (l := K) (by omega)
  have e1 : decide ((0 : Int) ≤ (v : Int)) = true := by simp
  have e2 : (if (0 : Int) > (v : Int) then (0 : Int) else (v : Int)) = (v : Int) := by omega
  have e3 : max (v : Int) 0 = (v : Int) := by omega
  clear hA hD h hf hK
  repeat (refine AW_seq ?_)
  refine reg ?_
  refine run 1 ?_
  refine fin [0, 1] [] ?_
  repeat (refine AW_seq ?_)
  refine reg ?_
  refine run 2 ?_
  refine run 1 ?_
  refine fin [0, 1, 23] [] ?_
  repeat (refine AW_seq ?_)
  refine tstF ?_
  refine AW_skip ?_
  repeat (refine AW_seq ?_)
  refine reg ?_
  refine run 1 ?_
  refine call (fun _ => cr) ?_
  refine run 1 ?_
  refine fin [0, 1, 5] [] ?_
  repeat (refine AW_seq ?_)
  refine reg ?_
  refine run 1 ?_
  refine call (fun _ => cQ) ?_
  refine run 1 ?_
  refine fin [0, 1, 5, 6] [] ?_
  repeat (refine AW_seq ?_)
  refine reg ?_
  refine run 2 ?_
  refine call (fun _ => cA) ?_
  refine run 2 ?_
  refine run 2 ?_
  refine run 2 ?_
  refine run 1 ?_
  refine fin [0, 1, 5, 6, 7, 8, 9] [] ?_
  repeat (refine AW_seq ?_)
  refine reg ?_
  refine run 2 ?_
  refine call (fun _ => cB) ?_
  refine run 2 ?_
  refine run 2 ?_
  refine run 2 ?_
  refine run 1 ?_
  refine fin [0, 1, 5, 6, 7, 8, 9, 10, 11, 12] [] ?_
  repeat (refine AW_seq ?_)
  refine reg ?_
  refine run 2 ?_
  refine call (fun _ => cC) ?_
  refine run 2 ?_
  refine run 2 ?_
  refine run 1 ?_
  refine fin [0, 1, 5, 6, 7, 8, 9, 10, 11, 12, 13, 14] [] ?_
  repeat (refine AW_seq ?_)
  refine reg ?_
  refine run 2 ?_
  refine call (fun _ => cD) ?_
  refine run 2 ?_
  refine run 2 ?_
  refine run 1 ?_
  refine fin [0, 1, 5, 6, 7, 8, 9, 10, 11, 12, 13, 14, 15, 16] [] ?_
  repeat (refine AW_seq ?_)
  refine reg ?_
  refine run 2 ?_
  refine call (fun _ => cF) ?_
  refine run 2 ?_
  refine run 2 ?_
  refine run 1 ?_
  refine fin [0, 1, 5, 6, 7, 8, 9, 10, 11, 12, 13, 14, 15, 16, 17, 18] [] ?_
  repeat (refine AW_seq ?_)
  refine reg ?_
  refine run 1 ?_
  refine call (fun _ => cK) ?_
  refine run 1 ?_
  refine fin [0, 1, 5, 6, 7, 8, 9, 10, 11, 12, 13, 14, 15, 16, 17, 18, 19] [] ?_
  repeat (refine AW_seq ?_)
  refine reg ?_
  refine run 1 ?_
  refine call (fun _ => cR) ?_
  refine run 2 ?_
  refine run 2 ?_
  refine call (fun _ => crA) ?_
  refine run 1 ?_
  refine call (fun _ => csA) ?_
  refine run 2 ?_
  refine run 2 ?_
  refine run 2 ?_
  refine run 2 ?_
  refine run 2 ?_
  refine run 2 ?_
  refine run 2 ?_
  refine call (fun _ => crD) ?_
  refine run 1 ?_
  refine call (fun _ => csD) ?_
  refine run 2 ?_
  refine run 2 ?_
  refine run 2 ?_
  refine run 1 ?_
  refine fin [1, 5, 6, 17, 18, 19, 95] [] ?_
  repeat (refine AW_seq ?_)
  refine tstF ?_
  refine AW_skip ?_
  repeat (refine AW_seq ?_)
  refine reg ?_
  refine run 2 ?_
  refine fin [1, 5, 17, 18, 19, 97] [] ?_
  repeat (refine AW_seq ?_)
  refine tstF ?_
  refine AW_skip ?_
  repeat (refine AW_seq ?_)
  refine reg ?_
  refine run 2 ?_
  refine call (fun _ => cG) ?_
  refine run 1 ?_
  refine fin [5, 17, 18, 19, 20] [] ?_
  repeat (refine AW_seq ?_)
  refine reg ?_
  refine run 2 ?_
  refine run 2 ?_
  refine run 2 ?_
  refine run 2 ?_
  refine run 2 ?_
  refine run 2 ?_
  refine run 1 ?_
  refine call (fun _ => cL) ?_
  refine call (fun _ => cS) ?_
  refine run 2 ?_
  refine call (fun _ => awake_true) ?_
  refine run 2 ?_
  refine fin [4] [] ?_
  refine AW_ret (ret ?_)
  rfl

theorem tells_any (l : List Slt) (k : Int) : ACalls Try.prog 3 [.sl (l.map stPV), uPV k] (bPV true) := by
  by_cases h6 : l.length ≤ 60
  · by_cases h : RightP l
    · cases hf : findN l k with
      | none => exact tells_none l k h6 h hf
      | some v => exact tells_some l k v h6 h hf
    · exact tells_not l k h6 h
  · exact tells_big l k (by omega)

theorem newL_not (n k : Int) (h : ¬ (1 ≤ n ∧ n ≤ 1024)) : ACalls Try.prog 5 [iPV n, uPV k] (bPV true) := by
  refine ent Try.func5 ?_
  have c1 := new_not n h
  have hB : (decide (n < 1) || decide (1024 < n)) = true := by simp; omega
  repeat (refine AW_seq ?_)
  refine reg ?_
  refine run 1 ?_
  refine fin [0, 1] [] ?_
  repeat (refine AW_seq ?_)
  refine reg ?_
  refine run 1 ?_
  refine call (fun _ => c1) ?_
  refine run 2 ?_
  refine run 2 ?_
  refine run 1 ?_
  refine fin [0, 1, 5, 6] [] ?_
  repeat (refine AW_seq ?_)
  refine reg ?_
  refine run 2 ?_
  refine run 2 ?_
  refine run 2 ?_
  refine fin [0, 1, 5, 6, 19] [] ?_
  repeat (refine AW_seq ?_)
  refine tstT ?_
  repeat (refine AW_seq ?_)
  refine reg ?_
  refine run 2 ?_
  refine run 2 ?_
  refine run 2 ?_
  refine run 2 ?_
  refine call (fun _ => awake_true) ?_
  refine run 2 ?_
  refine fin [4] [] ?_
  refine AW_ret (ret ?_)
  rfl

theorem newL_yes (n : Nat) (k : Int) (h : 1 ≤ n ∧ n ≤ 1024) : ACalls Try.prog 5 [iPV n, uPV k] (bPV true) := by
  refine ent Try.func5 ?_
  have c1 := new_yes n h
  have hR := right_rep h
  have c2 := vFind_none (k := k) hR (find_rep n k)
  have c3 := vKeys_any (List.replicate n ⟨false, 0⟩) (by rw [List.length_replicate]; omega)
  rw [keys_rep h] at c3
  have c4 := vRight_yes hR
  clear hR
  have lL := List.length_replicate (n := n) (a := (⟨false, 0⟩ : Slt))
  obtain ⟨L, hL⟩ : ∃ L, List.replicate n (⟨false, 0⟩ : Slt) = L := ⟨_, rfl⟩
  rw [hL] at c1 c2 c3 c4 lL
  clear hL
  have hB : (decide ((n : Int) < 1) || decide (1024 < (n : Int))) = false := by simp; omega
  repeat (refine AW_seq ?_)
  refine reg ?_
  refine run 1 ?_
  refine fin [0, 1] [] ?_
  repeat (refine AW_seq ?_)
  refine reg ?_
  refine run 1 ?_
  refine call (fun _ => c1) ?_
  refine run 2 ?_
  refine run 2 ?_
  refine run 1 ?_
  refine fin [0, 1, 5, 6] [] ?_
  repeat (refine AW_seq ?_)
  refine reg ?_
  refine run 2 ?_
  refine run 2 ?_
  refine run 2 ?_
  refine fin [0, 1, 5, 6, 19] [] ?_
  repeat (refine AW_seq ?_)
  refine tstF ?_
  refine AW_skip ?_
  repeat (refine AW_seq ?_)
  refine reg ?_
  refine run 2 ?_
  refine call (fun _ => c2) ?_
  refine run 2 ?_
  refine run 2 ?_
  refine run 1 ?_
  refine fin [0, 5, 6, 8] [] ?_
  repeat (refine AW_seq ?_)
  refine reg ?_
  refine run 2 ?_
  refine run 2 ?_
  refine run 2 ?_
  refine run 2 ?_
  refine run 2 ?_
  refine run 2 ?_
  refine run 2 ?_
  refine call (fun _ => c3) ?_
  refine run 2 ?_
  refine run 2 ?_
  refine run 1 ?_
  refine call (fun _ => c4) ?_
  refine run 2 ?_
  refine call (fun _ => awake_true) ?_
  refine run 2 ?_
  refine fin [4] [] ?_
  refine AW_ret (ret ?_)
  rfl

theorem vertsNew_all (n k : Int) : ACalls Try.prog 5 [iPV n, uPV k] (bPV true) := by
  by_cases h : 1 ≤ n ∧ n ≤ 1024
  · obtain ⟨m, rfl⟩ : ∃ m : Nat, n = m := ⟨n.toNat, by omega⟩
    exact newL_yes m k (by omega)
  · exact newL_not n k h
end Go.Proofs.Ytaoiffinodfcfaa
