/-
  More mathematics of directories: new ones, one key more, one fewer, keys that rise, directories that are filled.
  Conditions: none.
-/
import Derived.Test.YtaoiffinodfcfaaVertsO
namespace Go.Proofs.Ytaoiffinodfcfaa
open Go Go.Ab
set_option linter.unusedVariables false
set_option linter.unusedSimpArgs false

theorem vAdd_is {l A : List Slt} {k i e : Int} (hl : l.length < 1099511627776) (h : addR l k = (A, i, e)) : ACalls Try.prog 12 [.sl (l.map stPV), uPV k] (.tup [.sl (A.map stPV), iPV i, iPV e]) := by
  have := vAdd_any l k hl; rw [h] at this; exact this
theorem rAdd_is {l A : List Slt} {k i e : Int} (hl : l.length < 1099511627776) (h : addR l k = (A, i, e)) : ACalls Try.prog 13 [.sl (l.map stPV), uPV k] (.tup [.sl (A.map stPV), iPV i, iPV e]) := by
  have := rAdd_any l k hl; rw [h] at this; exact this
theorem vRem_is {l A : List Slt} {k e : Int} (hl : l.length < 1099511627776) (h : remR l k = (A, e)) : ACalls Try.prog 14 [.sl (l.map stPV), uPV k] (.tup [.sl (A.map stPV), iPV e]) := by
  have := vRem_any l k hl; rw [h] at this; exact this
theorem rRem_is {l A : List Slt} {k e : Int} (hl : l.length < 1099511627776) (h : remR l k = (A, e)) : ACalls Try.prog 15 [.sl (l.map stPV), uPV k] (.tup [.sl (A.map stPV), iPV e]) := by
  have := rRem_any l k hl; rw [h] at this; exact this
theorem vFind_not {l : List Slt} (k : Int) (hl : l.length < 1099511627776) (h : ¬ RightP l) : ACalls Try.prog 16 [.sl (l.map stPV), uPV k] (.tup [iPV 0, bPV false]) :=
  vFind_ih l k none hl (by rw [by_not h]; rfl)
theorem vFind_none {l : List Slt} {k : Int} (h : RightP l) (hf : findN l k = none) : ACalls Try.prog 16 [.sl (l.map stPV), uPV k] (.tup [iPV 0, bPV false]) :=
  vFind_ih l k none (by have := h.2.1; omega) (by rw [by_get h, hf]; rfl)
theorem vFind_some {l : List Slt} {k : Int} {v : Nat} (h : RightP l) (hf : findN l k = some v) : ACalls Try.prog 16 [.sl (l.map stPV), uPV k] (.tup [iPV v, bPV true]) :=
  vFind_ih l k (some (v : Int)) (by have := h.2.1; omega) (by rw [by_get h, hf]; rfl)
theorem vRight_yes {l : List Slt} (h : RightP l) : ACalls Try.prog 18 [.sl (l.map stPV)] (bPV true) := by
  have := vRight_any l (by have := h.2.1; omega); rwa [decide_eq_true h] at this
theorem sameS_yes {l : List Slt} (h : l.length < 1099511627776) : ACalls Try.prog 19 [.sl (l.map stPV), .sl (l.map stPV)] (bPV true) := by
  have := sameS_any l l h h; rwa [decide_eq_true rfl] at this
theorem sameU_yes {l : List Int} (h : l.length < 1099511627776) : ACalls Try.prog 21 [.sl (l.map uPV), .sl (l.map uPV)] (bPV true) := by
  have := sameU_any l l h h; rwa [decide_eq_true rfl] at this
theorem keysR_len (l : List Slt) : (keysR l).length ≤ 1024 := by rw [keysR, List.length_map]; exact by_len l
theorem keysR_not {l : List Slt} (h : ¬ RightP l) : keysR l = [] := by rw [keysR, by_not h]; rfl
theorem keysR_cnt {l : List Slt} (h : RightP l) : (keysR l).length = l.countP (·.used) := by rw [keysR, List.length_map, by_cnt h]
theorem mem_keys {l : List Slt} (h : RightP l) (k : Int) : k ∈ keysR l ↔ ∃ j, j < l.length ∧ Us l j = true ∧ Ke l j = k := by
  rw [keysR, byL, if_pos h, List.mem_map]
  constructor
  · rintro ⟨p, hp, rfl⟩
    obtain ⟨j, h1, h2, rfl⟩ := dN_of hp; exact ⟨j, h1, h2, rfl⟩
  · rintro ⟨j, h1, h2, rfl⟩
    exact ⟨_, (dN_iff h.2.2.2).2 ⟨j, h1, h2, rfl⟩, rfl⟩
theorem keys_find {l : List Slt} (h : RightP l) (k : Int) : decide (k ∈ keysR l) = (findN l k).isSome := by
  cases e : findN l k with
  | none => simp only [decide_eq_false_iff_not, Option.isSome_none]; rw [mem_keys h]; rintro ⟨j, h1, h2, h3⟩; exact find_none.1 e j h1 ⟨h2, h3⟩
  | some v =>
    obtain ⟨h1, h2, h3⟩ := find_of e
    simp only [decide_eq_true_eq, Option.isSome_some]; exact (mem_keys h k).2 ⟨v, h1, h2, h3⟩
theorem keys_lt {l : List Slt} {i : Nat} (hi : i + 1 < (keysR l).length) : (keysR l).getD i default < (keysR l).getD (i + 1) default := by
  have h : (keysR l).Pairwise (· < ·) := by rw [keysR, List.pairwise_map]; exact (by_ok l).inc
  have := List.pairwise_iff_getElem.1 h i (i + 1) (by omega) hi (by omega)
  rwa [getD_el (by omega), getD_el hi]

/-! ## new ones -/
theorem us_rep (n i : Nat) : Us (List.replicate n ⟨false, 0⟩) i = false := by
  unfold Us; rw [List.getD_eq_getElem?_getD, List.getElem?_replicate]; split <;> rfl
theorem ke_rep (n i : Nat) : Ke (List.replicate n ⟨false, 0⟩) i = 0 := by
  unfold Ke; rw [List.getD_eq_getElem?_getD, List.getElem?_replicate]; split <;> rfl
theorem right_rep {n : Nat} (h : 1 ≤ n ∧ n ≤ 1024) : RightP (List.replicate n ⟨false, 0⟩) := by
  refine ⟨by rw [List.length_replicate]; exact h.1, by rw [List.length_replicate]; exact h.2, fun i _ _ => ke_rep n i, fun i _ k _ hu => ?_⟩
  rw [us_rep] at hu; cases hu
theorem find_rep (n : Nat) (k : Int) : findN (List.replicate n ⟨false, 0⟩) k = none := find_none.2 fun j _ ⟨h, _⟩ => by rw [us_rep] at h; cases h
theorem keys_rep {n : Nat} (h : 1 ≤ n ∧ n ≤ 1024) : keysR (List.replicate n ⟨false, 0⟩) = [] := by
  refine List.eq_nil_iff_forall_not_mem.2 fun k hk => ?_
  obtain ⟨j, _, h2, _⟩ := (mem_keys (right_rep h) k).1 hk
  rw [us_rep] at h2; cases h2

/-! ## one key more, one fewer -/
theorem right_add {l : List Slt} (h : RightP l) {k : Int} (hf : findN l k = none) {v : Nat} (hv : v < l.length) : RightP (l.set v ⟨true, k⟩) := by
  refine ⟨by rw [List.length_set]; exact h.1, by rw [List.length_set]; exact h.2.1, ?_, ?_⟩ <;> rw [List.length_set]
  · intro i hi hu
    rw [us_set hv] at hu; rw [ke_set hv]
    by_cases e : v = i
    · rw [if_pos e] at hu; cases hu
    · rw [if_neg e] at hu ⊢; exact h.2.2.1 i hi hu
  · intro i hi j hj hu hw
    rw [us_set hv] at hu hw; rw [ke_set hv, ke_set hv]
    by_cases e : v = i <;> by_cases e2 : v = j
    · omega
    · rw [if_neg e2] at hw ⊢; rw [if_pos e]; exact fun g => find_none.1 hf j (by omega) ⟨hw, g⟩
    · rw [if_neg e] at hu ⊢; rw [if_pos e2]; exact fun g => find_none.1 hf i (by omega) ⟨hu, g.symm⟩
    · rw [if_neg e] at hu ⊢; rw [if_neg e2] at hw ⊢; exact h.2.2.2 i hi j hj hu hw
theorem right_rem {l : List Slt} (h : RightP l) {v : Nat} (hv : v < l.length) : RightP (l.set v ⟨false, 0⟩) := by
  refine ⟨by rw [List.length_set]; exact h.1, by rw [List.length_set]; exact h.2.1, ?_, ?_⟩ <;> rw [List.length_set]
  · intro i hi hu
    rw [us_set hv] at hu; rw [ke_set hv]
    by_cases e : v = i
    · rw [if_pos e]
    · rw [if_neg e] at hu ⊢; exact h.2.2.1 i hi hu
  · intro i hi j hj hu hw
    rw [us_set hv] at hu hw; rw [ke_set hv, ke_set hv]
    by_cases e : v = i
    · rw [if_pos e] at hu; cases hu
    · by_cases e2 : v = j
      · rw [if_pos e2] at hw; cases hw
      · rw [if_neg e] at hu ⊢; rw [if_neg e2] at hw ⊢; exact h.2.2.2 i hi j hj hu hw
theorem find_add {l : List Slt} (h : RightP l) {k : Int} (hf : findN l k = none) {v : Nat} (hv : v < l.length) : findN (l.set v ⟨true, k⟩) k = some v :=
  find_is (right_add h hf hv).2.2.2 (by rw [List.length_set]; exact hv) (by rw [us_set hv, if_pos rfl]) (by rw [ke_set hv, if_pos rfl])
theorem find_rem {l : List Slt} (h : RightP l) {k : Int} {v : Nat} (hf : findN l k = some v) : findN (l.set v ⟨false, 0⟩) k = none := by
  obtain ⟨hv, h1, h2⟩ := find_of hf
  refine find_none.2 fun j hj ⟨h3, h4⟩ => ?_
  rw [List.length_set] at hj
  rw [us_set hv] at h3; rw [ke_set hv] at h4
  by_cases e : v = j
  · rw [if_pos e] at h3; cases h3
  · rw [if_neg e] at h3 h4
    exact e (h.2.2.2.ne hv hj h1 h3 (by rw [h2, h4]))
theorem slot_eq {l : List Slt} {v : Nat} {b : Bool} {k : Int} (h1 : Us l v = b) (h2 : Ke l v = k) : l.getD v default = ⟨b, k⟩ := by
  unfold Us at h1; unfold Ke at h2
  obtain ⟨x, hx⟩ : ∃ x, l.getD v default = x := ⟨_, rfl⟩
  rw [hx] at h1 h2 ⊢
  cases x; simp only at h1 h2; rw [h1, h2]
theorem set_back {l : List Slt} {v : Nat} {s t : Slt} (hv : v < l.length) (h : l.getD v default = t) : (l.set v s).set v t = l :=
  ext_getD (by rw [List.length_set, List.length_set]) fun i hi => by
    rw [getD_setA (by rw [List.length_set]; exact hv), getD_setA hv]
    by_cases e : v = i
    · subst e; rw [if_pos rfl, h]
    · rw [if_neg e, if_neg e]
theorem back_add {l : List Slt} (h : RightP l) {k : Int} {v : Nat} (hv : freeN l = some v) : (l.set v ⟨true, k⟩).set v ⟨false, 0⟩ = l := by
  obtain ⟨h1, h2, _⟩ := free_of.1 hv
  exact set_back h1 (slot_eq h2 (h.2.2.1 v h1 h2))
theorem back_rem {l : List Slt} {k : Int} {v : Nat} (hf : findN l k = some v) : (l.set v ⟨false, 0⟩).set v ⟨true, k⟩ = l := by
  obtain ⟨h1, h2, h3⟩ := find_of hf
  exact set_back h1 (slot_eq h2 h3)
theorem free_rem {l : List Slt} {v : Nat} (hv : v < l.length) : ∃ w, freeN (l.set v ⟨false, 0⟩) = some w ∧ w ≤ v := by
  cases e : freeN (l.set v ⟨false, 0⟩) with
  | none =>
    have := free_none.1 e v (by rw [List.length_set]; exact hv)
    rw [us_set hv, if_pos rfl] at this; cases this
  | some w =>
    refine ⟨w, rfl, ?_⟩
    obtain ⟨h1, h2, h3⟩ := free_of.1 e
    rcases Nat.lt_or_ge v w with g | g
    · have := h3 v g; rw [us_set hv, if_pos rfl] at this; cases this
    · exact g
/-- the first slot that is free behind one that is removed, as it is looked for -/
theorem free_at {l : List Slt} {v w f : Nat} (hv : v < l.length) (hw : freeN (l.set v ⟨false, 0⟩) = some w) (hf : f ≤ v) (h : ∀ j, j < f → Us l j = true) (h2 : f < v → Us l f = false) : f = w := by
  have : freeN (l.set v ⟨false, 0⟩) = some f := free_of.2 ⟨by rw [List.length_set]; omega, by
    rw [us_set hv]; split
    · rfl
    · exact h2 (by omega), fun j hj => by rw [us_set hv, if_neg (by omega)]; exact h j hj⟩
  rw [hw] at this; exact (Option.some.inj this).symm

/-! ## directories that are filled -/
def keyF (f : Int) (j : Nat) : Int := IntKind.u64.wrap (f + j)
theorem wrapU (x : Int) : IntKind.u64.wrap x = x % 18446744073709551616 := by simp [IntKind.wrap, IntKind.bits, IntKind.signed]
theorem keyF_ne {f : Int} {i j : Nat} (h : i < j) (hj : j < 1000) : keyF f i ≠ keyF f j := by
  unfold keyF; rw [wrapU, wrapU]; omega
theorem keyF_first {f : Int} {j : Nat} (hj : j < 1000) : keyF f j ≠ IntKind.u64.wrap (f - 1) := by
  unfold keyF; rw [wrapU, wrapU]; omega
def fullF (n : Nat) (f : Int) (i : Nat) : List Slt := (List.range n).map fun j => if j < i then ⟨true, keyF f j⟩ else ⟨false, 0⟩
theorem fullF_len (n : Nat) (f : Int) (i : Nat) : (fullF n f i).length = n := by simp [fullF]
theorem fullF_at {n : Nat} {f : Int} {i j : Nat} (h : j < n) : (fullF n f i).getD j default = if j < i then ⟨true, keyF f j⟩ else ⟨false, 0⟩ := by
  rw [getD_el (by rw [fullF_len]; exact h)]; simp [fullF]
theorem fullF_us {n : Nat} {f : Int} {i j : Nat} (h : j < n) : Us (fullF n f i) j = decide (j < i) := by
  rw [Us, fullF_at h]
  by_cases e : j < i
  · rw [if_pos e, decide_eq_true e]
  · rw [if_neg e, decide_eq_false e]
theorem fullF_ke {n : Nat} {f : Int} {i j : Nat} (h : j < n) (hi : j < i) : Ke (fullF n f i) j = keyF f j := by
  rw [Ke, fullF_at h, if_pos hi]
theorem fullF_zero (n : Nat) (f : Int) : fullF n f 0 = List.replicate n ⟨false, 0⟩ :=
  ext_getD (by rw [fullF_len, List.length_replicate]) fun j hj => by
    rw [fullF_len] at hj
    rw [fullF_at hj, if_neg (by omega), List.getD_eq_getElem?_getD, List.getElem?_replicate, if_pos hj]; rfl
theorem fullF_right {n : Nat} {f : Int} {i : Nat} (h : 1 ≤ n ∧ n < 1000) : RightP (fullF n f i) := by
  refine ⟨by rw [fullF_len]; exact h.1, by rw [fullF_len]; omega, ?_, ?_⟩ <;> rw [fullF_len]
  · intro j hj hu
    rw [fullF_us hj, decide_eq_false_iff_not] at hu
    rw [Ke, fullF_at hj, if_neg hu]
  · intro j hj k hk hu hw
    rw [fullF_us (by omega), decide_eq_true_eq] at hu hw
    rw [fullF_ke (by omega) hw, fullF_ke hj hu]; exact keyF_ne hk (by omega)
theorem fullF_set {n : Nat} {f : Int} {i : Nat} (h : i < n) : (fullF n f i).set i ⟨true, keyF f i⟩ = fullF n f (i + 1) :=
  ext_getD (by rw [List.length_set, fullF_len, fullF_len]) fun j hj => by
    rw [List.length_set, fullF_len] at hj
    rw [getD_setA (by rw [fullF_len]; exact h), fullF_at hj, fullF_at hj]
    by_cases e : i = j
    · subst e; rw [if_pos rfl, if_pos (by omega)]
    · rw [if_neg e]
      by_cases e2 : j < i
      · rw [if_pos e2, if_pos (by omega)]
      · rw [if_neg e2, if_neg (by omega)]
theorem fullF_add {n : Nat} {f : Int} {i : Nat} (h : 1 ≤ n ∧ n < 1000) (hi : i < n) : addR (fullF n f i) (keyF f i) = (fullF n f (i + 1), (i : Int), 0) := by
  rw [addR_new (fullF_right h) (v := i), fullF_set hi]
  · refine find_none.2 fun j hj ⟨h1, h2⟩ => ?_
    rw [fullF_len] at hj
    rw [fullF_us hj, decide_eq_true_eq] at h1
    rw [fullF_ke hj h1] at h2
    exact keyF_ne h1 (by omega) h2
  · exact free_of.2 ⟨by rw [fullF_len]; exact hi, by rw [fullF_us hi]; simp, fun j hj => by rw [fullF_us (by omega)]; simpa using hj⟩
theorem fullF_more {n : Nat} {f : Int} (h : 1 ≤ n ∧ n < 1000) : addR (fullF n f n) (IntKind.u64.wrap (f - 1)) = (fullF n f n, 0, 10) := by
  refine addR_full (fullF_right h) ?_ ?_
  · refine find_none.2 fun j hj ⟨h1, h2⟩ => ?_
    rw [fullF_len] at hj
    rw [fullF_ke hj hj] at h2
    exact keyF_first (by omega) h2
  · exact free_none.2 fun j hj => by rw [fullF_len] at hj; rw [fullF_us hj]; simpa using hj
theorem fullF_keys {n : Nat} {f : Int} (h : 1 ≤ n ∧ n < 1000) : (keysR (fullF n f n)).length = n := by
  rw [keysR_cnt (fullF_right h)]
  have : (fullF n f n).countP (·.used) = (fullF n f n).length := List.countP_eq_length.2 fun x hx => by
    obtain ⟨j, hj, rfl⟩ := List.getElem_of_mem hx
    have := fullF_us (n := n) (f := f) (i := n) (j := j) (by rw [fullF_len] at hj; exact hj)
    rw [Us, getD_el hj] at this
    rw [this]; rw [fullF_len] at hj; simpa using hj
  rw [this, fullF_len]
end Go.Proofs.Ytaoiffinodfcfaa
