/-
  The law VertsBack on plain data.
  Conditions: none.
-/
import Derived.Test.YtaoiffinodfcfaaVertsN
namespace Go.Proofs.Ytaoiffinodfcfaa
open Go Go.Ab
set_option linter.unusedVariables false
set_option linter.unusedSimpArgs false


theorem back_big (l : List Slt) (k : Int) (h : 60 < l.length) : ACalls Try.prog 6 [.sl (l.map stPV), uPV k] (bPV true) := by
  refine ent Try.func6 ?_
  have hB : decide ((60 : Int) < (l.length : Int)) = true := by simp; omega
  repeat (refine AW_seq ?_)
  refine reg ?_
  refine run 1 ?_
  refine fin [0, 1] [] ?_
  repeat (refine AW_seq ?_)
  refine reg ?_
  refine run 2 ?_
  refine run 2 ?_
  refine run 1 ?_
  refine skpV (.c (.v (.bool false))) ?_
  refine run 2 ?_
  refine fin [0, 1, 25] [] ?_
  repeat (refine AW_seq ?_)
  refine tstT ?_
  repeat (refine AW_seq ?_)
  refine reg ?_
  refine call (fun _ => awake_true) ?_
  refine run 1 ?_
  refine fin [4] [] ?_
  refine AW_ret (ret ?_)
  rfl

theorem back_not (l : List Slt) (k : Int) (h6 : l.length ≤ 60) (h : ¬ RightP l) : ACalls Try.prog 6 [.sl (l.map stPV), uPV k] (bPV true) := by
  refine ent Try.func6 ?_
  have cR := vRight_any l (by omega)
  rw [decide_eq_false h] at cR
  have hB : decide ((60 : Int) < (l.length : Int)) = false := by simp; omega
  repeat (refine AW_seq ?_)
  refine reg ?_
  refine run 1 ?_
  refine fin [0, 1] [] ?_
  repeat (refine AW_seq ?_)
  refine reg ?_
  refine run 2 ?_
  refine run 2 ?_
  refine run 1 ?_
  refine call (fun _ => cR) ?_
  refine run 2 ?_
  refine fin [0, 1, 25] [] ?_
  repeat (refine AW_seq ?_)
  refine tstT ?_
  repeat (refine AW_seq ?_)
  refine reg ?_
  refine call (fun _ => awake_true) ?_
  refine run 1 ?_
  refine fin [4] [] ?_
  refine AW_ret (ret ?_)
  rfl

theorem back_full (l : List Slt) (k : Int) (h6 : l.length ≤ 60) (h : RightP l) (hf : findN l k = none) (hv : freeN l = none) : ACalls Try.prog 6 [.sl (l.map stPV), uPV k] (bPV true) := by
  refine ent Try.func6 ?_
  have hB : decide ((60 : Int) < (l.length : Int)) = false := by simp; omega
  have hl6 : l.length < 1099511627776 := by omega
  have cR := vRight_yes h
  have cr := refs_any l hl6
  have cs := sameS_yes hl6
  have cF := vFind_none h hf
  have cA := vAdd_is hl6 (addR_full h hf hv)
  clear h hf hv
  repeat (refine AW_seq ?_)
  refine reg ?_
  refine run 1 ?_
  refine fin [0, 1] [] ?_
  repeat (refine AW_seq ?_)
  refine reg ?_
  refine run 2 ?_
  refine run 2 ?_
  refine run 1 ?_
  refine call (fun _ => cR) ?_
  refine run 2 ?_
  refine fin [0, 1, 25] [] ?_
  repeat (refine AW_seq ?_)
  refine tstF ?_
  refine AW_skip ?_
  repeat (refine AW_seq ?_)
  refine reg ?_
  refine run 2 ?_
  refine call (fun _ => cF) ?_
  refine run 2 ?_
  refine run 2 ?_
  refine run 1 ?_
  refine fin [0, 1, 5, 6] [] ?_
  repeat (refine AW_seq ?_)
  refine reg ?_
  refine run 2 ?_
  refine fin [0, 1, 5, 34] [] ?_
  repeat (refine AW_seq ?_)
  refine tstT ?_
  repeat (refine AW_seq ?_)
  refine reg ?_
  refine run 2 ?_
  refine call (fun _ => cA) ?_
  refine run 2 ?_
  refine run 2 ?_
  refine run 2 ?_
  refine run 1 ?_
  refine fin [0, 1, 7, 9] [] ?_
  repeat (refine AW_seq ?_)
  refine reg ?_
  refine run 2 ?_
  refine fin [0, 1, 7, 9, 43] [] ?_
  repeat (refine AW_seq ?_)
  refine tstT ?_
  repeat (refine AW_seq ?_)
  refine reg ?_
  refine run 2 ?_
  refine run 1 ?_
  refine call (fun _ => awake_true) ?_
  refine run 2 ?_
  refine fin [4] [] ?_
  refine AW_ret (ret ?_)
  rfl

theorem back_new (l A : List Slt) (k : Int) (v : Nat) (h6 : l.length ≤ 60) (h : RightP l) (hf : findN l k = none) (hv : freeN l = some v) (hA : l.set v ⟨true, k⟩ = A) : ACalls Try.prog 6 [.sl (l.map stPV), uPV k] (bPV true) := by
  refine ent Try.func6 ?_
  have hB : decide ((60 : Int) < (l.length : Int)) = false := by simp; omega
  have hl6 : l.length < 1099511627776 := by omega
  have cR := vRight_yes h
  have cr := refs_any l hl6
  have cs := sameS_yes hl6
  have cF := vFind_none h hf
  have cA := vAdd_is hl6 (addR_new h hf hv)
  have hvl := (free_of.1 hv).1
  have hA2 := remR_some (right_add h hf hvl) (find_add h hf hvl)
  rw [back_add h hv, hA] at hA2
  have lA : A.length = l.length := by rw [← hA, List.length_set]
  rw [hA] at cA
  have cD := vRem_is (by omega) hA2
  clear h hf hv hA hA2
  repeat (refine AW_seq ?_)
  refine reg ?_
  refine run 1 ?_
  refine fin [0, 1] [] ?_
  repeat (refine AW_seq ?_)
  refine reg ?_
  refine run 2 ?_
  refine run 2 ?_
  refine run 1 ?_
  refine call (fun _ => cR) ?_
  refine run 2 ?_
  refine fin [0, 1, 25] [] ?_
  repeat (refine AW_seq ?_)
  refine tstF ?_
  refine AW_skip ?_
  repeat (refine AW_seq ?_)
  refine reg ?_
  refine run 2 ?_
  refine call (fun _ => cF) ?_
  refine run 2 ?_
  refine run 2 ?_
  refine run 1 ?_
  refine fin [0, 1, 5, 6] [] ?_
  repeat (refine AW_seq ?_)
  refine reg ?_
  refine run 2 ?_
  refine fin [0, 1, 5, 34] [] ?_
  repeat (refine AW_seq ?_)
  refine tstT ?_
  repeat (refine AW_seq ?_)
  refine reg ?_
  refine run 2 ?_
  refine call (fun _ => cA) ?_
  refine run 2 ?_
  refine run 2 ?_
  refine run 2 ?_
  refine run 1 ?_
  refine fin [0, 1, 7, 9] [] ?_
  repeat (refine AW_seq ?_)
  refine reg ?_
  refine run 2 ?_
  refine fin [0, 1, 7, 9, 43] [] ?_
  repeat (refine AW_seq ?_)
  refine tstF ?_
  refine AW_skip ?_
  repeat (refine AW_seq ?_)
  refine reg ?_
  refine run 2 ?_
  refine call (fun _ => cD) ?_
  refine run 2 ?_
  refine run 2 ?_
  refine run 1 ?_
  refine fin [0, 10, 11] [] ?_
  repeat (refine AW_seq ?_)
  refine reg ?_
  refine run 2 ?_
  refine run 2 ?_
  refine call (fun _ => cr) ?_
  refine run 1 ?_
  refine call (fun _ => cr) ?_
  refine call (fun _ => cs) ?_
  refine run 2 ?_
  refine call (fun _ => awake_true) ?_
  refine run 2 ?_
  refine fin [4] [] ?_
  refine AW_ret (ret ?_)
  rfl

theorem back_lt (l A B : List Slt) (k : Int) (v w : Nat) (h6 : l.length ≤ 60) (h : RightP l) (hf : findN l k = some v) (hA : l.set v ⟨false, 0⟩ = A) (hw : freeN A = some w) (hwv : w < v) (hB2 : A.set w ⟨true, k⟩ = B) : ACalls Try.prog 6 [.sl (l.map stPV), uPV k] (bPV true) := by
  refine ent Try.func6 ?_
  have hB : decide ((60 : Int) < (l.length : Int)) = false := by simp; omega
  have hl6 : l.length < 1099511627776 := by omega
  have cR := vRight_yes h
  have cr := refs_any l hl6
  have cs := sameS_yes hl6
  have cF := vFind_some h hf
  have hvl := (find_of hf).1
  have cD := vRem_is hl6 (remR_some h hf)
  have lA : A.length = l.length := by rw [← hA, List.length_set]
  have hRA := right_rem h hvl
  have hfA := find_rem h hf
  replace hB2 : addR A k = (B, (w : Int), 0) := by rw [← hB2, ← hA]; exact addR_new hRA hfA (by rw [hA]; exact hw)
  have lB : B.length = l.length := by have := addR_len A k; rw [hB2] at this; rw [← lA]; exact this
  have crB := refs_any B (by omega)
  have csB := sameS_any B l (by omega) hl6
  have cA := vAdd_is (by omega) hB2
  have hfr : ∀ f : Nat, f ≤ v → (∀ j, j < f → Us l j = true) → (f < v → Us l f = false) → f = w := fun f h1 h2 h3 => free_at hvl (by rw [hA]; exact hw) h1 h2 h3
  rw [hA] at cD
  clear h hf hA hRA hfA hB2 hw
  obtain ⟨hfr, -⟩ : Go.RowKit.Hid (∀ f : Nat, f ≤ v → (∀ j, j < f → Us l j = true) → (f < v → Us l f = false) → f = w) ∧ True := ⟨hfr, trivial⟩
  rename_i hfr0
  clear hfr0
  repeat (refine AW_seq ?_)
  refine reg ?_
  refine run 1 ?_
  refine fin [0, 1] [] ?_
  repeat (refine AW_seq ?_)
  refine reg ?_
  refine run 2 ?_
  refine run 2 ?_
  refine run 1 ?_
  refine call (fun _ => cR) ?_
  refine run 2 ?_
  refine fin [0, 1, 25] [] ?_
  repeat (refine AW_seq ?_)
  refine tstF ?_
  refine AW_skip ?_
  repeat (refine AW_seq ?_)
  refine reg ?_
  refine run 2 ?_
  refine call (fun _ => cF) ?_
  refine run 2 ?_
  refine run 2 ?_
  refine run 1 ?_
  refine fin [0, 1, 5, 6] [] ?_
  repeat (refine AW_seq ?_)
  refine reg ?_
  refine run 2 ?_
  refine fin [0, 1, 5, 34] [] ?_
  repeat (refine AW_seq ?_)
  refine tstF ?_
  refine AW_skip ?_
  repeat (refine AW_seq ?_)
  refine reg ?_
  refine run 2 ?_
  refine call (fun _ => cD) ?_
  refine run 2 ?_
  refine run 2 ?_
  refine run 1 ?_
  refine fin [0, 1, 5, 12, 13] [] ?_
  repeat (refine AW_seq ?_)
  refine reg ?_
  refine run 2 ?_
  refine call (fun _ => cA) ?_
  refine run 2 ?_
  refine run 2 ?_
  refine run 2 ?_
  refine run 1 ?_
  refine fin [0, 5, 13, 14, 15, 16] [] ?_
  repeat (refine AW_seq ?_)
  refine reg ?_
  refine run 1 ?_
  refine fin [0, 5, 13, 14, 15, 16, 17] [] ?_
  repeat (refine AW_seq ?_)
  refine AW_block ?_
  refine AW_loops (ι := Nat) (fun f => ⟨lk [(0, .c (.sl (l.map stPV))), (5, .c (iPV v)), (13, .c (iPV 0)), (14, .c (.sl (B.map stPV))), (15, .c (iPV w)), (16, .c (iPV 0)), (17, .c (iPV f))], lkM ([]), lkG [] 0⟩) (fun f => f ≤ v ∧ ∀ j, j < f → Us l j = true) (fun f => v - f) 0 ⟨Nat.zero_le _, fun j hj => absurd hj (Nat.not_lt_zero j)⟩ wk ?_
  rintro f ⟨hi, hF⟩
  obtain ⟨hF, -⟩ : Go.RowKit.Hid (∀ j, j < f → Us l j = true) ∧ True := ⟨hF, trivial⟩
  rename_i hF0
  clear hF0
  have hfl : f < l.length := by omega
  obtain ⟨x, hx, gx⟩ := getD_at hfl
  obtain ⟨u, kx⟩ := x
  repeat (refine AW_seq ?_)
  refine reg ?_
  refine run 2 ?_
  refine run 2 ?_
  refine run 2 ?_
  refine run 2 ?_
  refine run 2 ?_
  refine fin [0, 5, 13, 14, 15, 16, 17, 89] [] ?_
  repeat (refine AW_seq ?_)
  refine tst (fun h3 => ?_) (fun h3 => ?_)
  · skip
    have h5 : f < v ∧ u = true := by simpa using h3
    refine AW_skip ?_
    repeat (refine AW_seq ?_)
    refine AW_block ?_
    repeat (refine AW_seq ?_)
    refine reg ?_
    refine run 2 ?_
    refine run 1 ?_
    refine finN ?_
    exact ⟨f + 1, by omega, ⟨by omega, fun j hj => by
      rcases Nat.lt_or_ge j f with h8 | h8
      · exact hF.out j h8
      · obtain rfl : j = f := by omega
        rw [us_of gx]; exact h5.2⟩, wk⟩
  · skip
    have h5 : f < v → u = false := by simpa using h3
    have hfw := hfr.out f hi hF.out (fun g => by rw [us_of gx]; exact h5 g)
    clear h3 h5
    subst hfw
    have hC : decide ((f : Int) < (v : Int)) = true := by simp; exact hwv
    refine AW_exit ?_
    repeat (refine AW_seq ?_)
    refine reg ?_
    refine run 2 ?_
    refine run 2 ?_
    refine run 2 ?_
    refine run 2 ?_
    refine run 2 ?_
    refine run 2 ?_
    refine run 2 ?_
    refine run 2 ?_
    refine run 1 ?_
    refine call (fun _ => crB) ?_
    refine run 1 ?_
    refine call (fun _ => cr) ?_
    refine call (fun _ => csB) ?_
    refine run 2 ?_
    refine run 1 ?_
    refine call (fun _ => awake_true) ?_
    refine run 2 ?_
    refine fin [4] [] ?_
    refine AW_ret (ret ?_)
    rfl

theorem back_eq (l A : List Slt) (k : Int) (v : Nat) (h6 : l.length ≤ 60) (h : RightP l) (hf : findN l k = some v) (hA : l.set v ⟨false, 0⟩ = A) (hw : freeN A = some v) : ACalls Try.prog 6 [.sl (l.map stPV), uPV k] (bPV true) := by
  refine ent Try.func6 ?_
  have hB : decide ((60 : Int) < (l.length : Int)) = false := by simp; omega
  have hl6 : l.length < 1099511627776 := by omega
  have cR := vRight_yes h
  have cr := refs_any l hl6
  have cs := sameS_yes hl6
  have cF := vFind_some h hf
  have hvl := (find_of hf).1
  have cD := vRem_is hl6 (remR_some h hf)
  have lA : A.length = l.length := by rw [← hA, List.length_set]
  have hRA := right_rem h hvl
  have hfA := find_rem h hf
  have hB2 : addR A k = (l, (v : Int), 0) := by have := addR_new hRA hfA (by rw [hA]; exact hw); rwa [back_rem hf, hA] at this
  have crB := cr
  have csB := cs
  have cA := vAdd_is (by omega) hB2
  have hfr : ∀ f : Nat, f ≤ v → (∀ j, j < f → Us l j = true) → (f < v → Us l f = false) → f = v := fun f h1 h2 h3 => free_at hvl (by rw [hA]; exact hw) h1 h2 h3
  rw [hA] at cD
  clear h hf hA hRA hfA hB2 hw
  obtain ⟨hfr, -⟩ : Go.RowKit.Hid (∀ f : Nat, f ≤ v → (∀ j, j < f → Us l j = true) → (f < v → Us l f = false) → f = v) ∧ True := ⟨hfr, trivial⟩
  rename_i hfr0
  clear hfr0
  repeat (refine AW_seq ?_)
  refine reg ?_
  refine run 1 ?_
  refine fin [0, 1] [] ?_
  repeat (refine AW_seq ?_)
  refine reg ?_
  refine run 2 ?_
  refine run 2 ?_
  refine run 1 ?_
  refine call (fun _ => cR) ?_
  refine run 2 ?_
  refine fin [0, 1, 25] [] ?_
  repeat (refine AW_seq ?_)
  refine tstF ?_
  refine AW_skip ?_
  repeat (refine AW_seq ?_)
  refine reg ?_
  refine run 2 ?_
  refine call (fun _ => cF) ?_
  refine run 2 ?_
  refine run 2 ?_
  refine run 1 ?_
  refine fin [0, 1, 5, 6] [] ?_
  repeat (refine AW_seq ?_)
  refine reg ?_
  refine run 2 ?_
  refine fin [0, 1, 5, 34] [] ?_
  repeat (refine AW_seq ?_)
  refine tstF ?_
  refine AW_skip ?_
  repeat (refine AW_seq ?_)
  refine reg ?_
  refine run 2 ?_
  refine call (fun _ => cD) ?_
  refine run 2 ?_
  refine run 2 ?_
  refine run 1 ?_
  refine fin [0, 1, 5, 12, 13] [] ?_
  repeat (refine AW_seq ?_)
  refine reg ?_
  refine run 2 ?_
  refine call (fun _ => cA) ?_
  refine run 2 ?_
  refine run 2 ?_
  refine run 2 ?_
  refine run 1 ?_
  refine fin [0, 5, 13, 14, 15, 16] [] ?_
  repeat (refine AW_seq ?_)
  refine reg ?_
  refine run 1 ?_
  refine fin [0, 5, 13, 14, 15, 16, 17] [] ?_
  repeat (refine AW_seq ?_)
  refine AW_block ?_
  refine AW_loops (ι := Nat) (fun f => ⟨lk [(0, .c (.sl (l.map stPV))), (5, .c (iPV v)), (13, .c (iPV 0)), (14, .c (.sl (l.map stPV))), (15, .c (iPV v)), (16, .c (iPV 0)), (17, .c (iPV f))], lkM ([]), lkG [] 0⟩) (fun f => f ≤ v ∧ ∀ j, j < f → Us l j = true) (fun f => v - f) 0 ⟨Nat.zero_le _, fun j hj => absurd hj (Nat.not_lt_zero j)⟩ wk ?_
  rintro f ⟨hi, hF⟩
  obtain ⟨hF, -⟩ : Go.RowKit.Hid (∀ j, j < f → Us l j = true) ∧ True := ⟨hF, trivial⟩
  rename_i hF0
  clear hF0
  have hfl : f < l.length := by omega
  obtain ⟨x, hx, gx⟩ := getD_at hfl
  obtain ⟨u, kx⟩ := x
  repeat (refine AW_seq ?_)
  refine reg ?_
  refine run 2 ?_
  refine run 2 ?_
  refine run 2 ?_
  refine run 2 ?_
  refine run 2 ?_
  refine fin [0, 5, 13, 14, 15, 16, 17, 89] [] ?_
  repeat (refine AW_seq ?_)
  refine tst (fun h3 => ?_) (fun h3 => ?_)
  · skip
    have h5 : f < v ∧ u = true := by simpa using h3
    refine AW_skip ?_
    repeat (refine AW_seq ?_)
    refine AW_block ?_
    repeat (refine AW_seq ?_)
    refine reg ?_
    refine run 2 ?_
    refine run 1 ?_
    refine finN ?_
    exact ⟨f + 1, by omega, ⟨by omega, fun j hj => by
      rcases Nat.lt_or_ge j f with h8 | h8
      · exact hF.out j h8
      · obtain rfl : j = f := by omega
        rw [us_of gx]; exact h5.2⟩, wk⟩
  · skip
    have h5 : f < v → u = false := by simpa using h3
    have hfw := hfr.out f hi hF.out (fun g => by rw [us_of gx]; exact h5 g)
    clear h3 h5
    subst hfw
    have hC : decide ((f : Int) < (f : Int)) = false := by simp
    refine AW_exit ?_
    repeat (refine AW_seq ?_)
    refine reg ?_
    refine run 2 ?_
    refine run 2 ?_
    refine run 2 ?_
    refine run 2 ?_
    refine run 2 ?_
    refine run 2 ?_
    refine run 2 ?_
    refine run 2 ?_
    refine run 1 ?_
    refine call (fun _ => crB) ?_
    refine run 1 ?_
    refine call (fun _ => cr) ?_
    refine call (fun _ => csB) ?_
    refine run 2 ?_
    refine run 1 ?_
    refine call (fun _ => awake_true) ?_
    refine run 2 ?_
    refine fin [4] [] ?_
    refine AW_ret (ret ?_)
    rfl

theorem vertsBack_all (l : List Slt) (k : Int) : ACalls Try.prog 6 [.sl (l.map stPV), uPV k] (bPV true) := by
  by_cases h6 : l.length ≤ 60
  · by_cases h : RightP l
    · cases hf : findN l k with
      | none => cases hv : freeN l with
        | none => exact back_full l k h6 h hf hv
        | some v => exact back_new l _ k v h6 h hf hv rfl
      | some v =>
        obtain ⟨w, hw, hwv⟩ := free_rem (find_of hf).1
        rcases Nat.lt_or_ge w v with g | g
        · exact back_lt l _ _ k v w h6 h hf rfl hw g rfl
        · obtain rfl : w = v := by omega
          exact back_eq l _ k w h6 h hf rfl hw
    · exact back_not l k h6 h
  · exact back_big l k (by omega)
end Go.Proofs.Ytaoiffinodfcfaa
