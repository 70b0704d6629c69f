/-
  Rows of the call's own that stand in a row: a family of blocks, its names (i + K, c), and the links of the row.
  Conditions: none.
-/
import Derived.Test.YtaoiffinodfcfaaAb16
namespace Go.Ab
open Go.RowKit

/-- the family's blocks -/
def famL (K c n T sz : Nat) (X : Nat → List PV) : List (Id × Option Blk) := (List.range n).map fun i => ((i + K, c), some ⟨T, sz, X i, true, [], none⟩)
/-- the links of the row -/
def famLs (K c n : Nat) (X : Nat → List PV) : List Lnk := (List.range n).map fun i => (i, (i + K, c), some (X i).length)
theorem lkM_skip {l : List (Id × Option Blk)} {j : Id} (h : ∀ x ∈ l, x.1 ≠ j) (r : List (Id × Option Blk)) : lkM (l ++ r) j = lkM r j := by
  induction l with
  | nil => rfl
  | cons x l ih =>
    obtain ⟨k, v⟩ := x
    show (if j = k then v else lkM (l ++ r) j) = _
    rw [if_neg fun e => h (k, v) List.mem_cons_self e.symm]
    exact ih fun x hx => h x (List.mem_cons_of_mem _ hx)
theorem lkM_front {l : List (Id × Option Blk)} {j : Id} {b : Blk} (h : lkM l j = some b) (r : List (Id × Option Blk)) : lkM (l ++ r) j = some b := by
  induction l with
  | nil => cases h
  | cons x l ih =>
    obtain ⟨k, v⟩ := x
    change (if j = k then v else lkM l j) = _ at h
    show (if j = k then v else lkM (l ++ r) j) = _
    split
    · rename_i e; rw [if_pos e] at h; exact h
    · rename_i e; rw [if_neg e] at h; exact ih h
theorem lkM_of_mem {l : List (Id × Option Blk)} {j : Id} {b : Option Blk} (hm : (j, b) ∈ l) (hu : ∀ x ∈ l, ∀ y ∈ l, x.1 = y.1 → x = y) : lkM l j = b := by
  induction l with
  | nil => cases hm
  | cons x l ih =>
    obtain ⟨k, v⟩ := x
    show (if j = k then v else lkM l j) = _
    split
    · rename_i e; subst e
      have := hu (j, v) List.mem_cons_self (j, b) hm rfl
      simpa using this
    · rename_i e
      rcases List.mem_cons.1 hm with h | h
      · simp only [Prod.mk.injEq] at h; exact absurd h.1 e
      · exact ih h fun x hx y hy => hu x (List.mem_cons_of_mem _ hx) y (List.mem_cons_of_mem _ hy)
theorem famL_at {K c n T sz i : Nat} {X : Nat → List PV} (h : i < n) : lkM (famL K c n T sz X) (i + K, c) = some ⟨T, sz, X i, true, [], none⟩ :=
  lkM_of_mem (List.mem_map.2 ⟨i, List.mem_range.2 h, rfl⟩) fun x hx y hy e => by
    obtain ⟨i1, _, rfl⟩ := List.mem_map.1 hx
    obtain ⟨i2, _, rfl⟩ := List.mem_map.1 hy
    simp only [Prod.mk.injEq, and_true] at e
    obtain rfl : i1 = i2 := by omega
    rfl
theorem famL_out {K c n T sz : Nat} {X : Nat → List PV} {j : Id} (h : ∀ i, i < n → j ≠ (i + K, c)) : lkM (famL K c n T sz X) j = none := by
  have := lkM_skip (l := famL K c n T sz X) (j := j) (fun x hx e => by
    obtain ⟨i, hi, rfl⟩ := List.mem_map.1 hx
    exact h i (List.mem_range.1 hi) e.symm) []
  rw [List.append_nil] at this
  rw [this]; rfl
theorem lnkAt_of_mem {l : List Lnk} {i : Nat} {x : Id × Option Nat} (hm : (i, x) ∈ l) (hu : ∀ x ∈ l, ∀ y ∈ l, x.1 = y.1 → x = y) : lnkAt l i = some x := by
  induction l with
  | nil => cases hm
  | cons y l ih =>
    obtain ⟨k, v⟩ := y
    simp only [lnkAt]
    split
    · rename_i e; subst e
      have := hu (i, v) List.mem_cons_self (i, x) hm rfl
      simpa using this
    · rename_i e
      rcases List.mem_cons.1 hm with h | h
      · simp only [Prod.mk.injEq] at h; exact absurd h.1 e
      · exact ih h fun x hx y hy => hu x (List.mem_cons_of_mem _ hx) y (List.mem_cons_of_mem _ hy)
theorem famLs_mem {K c n : Nat} {X : Nat → List PV} {l : Lnk} : l ∈ famLs K c n X ↔ ∃ i, i < n ∧ l = (i, (i + K, c), some (X i).length) := by
  unfold famLs
  rw [List.mem_map]
  constructor
  · rintro ⟨i, h, rfl⟩; exact ⟨i, List.mem_range.1 h, rfl⟩
  · rintro ⟨i, h, rfl⟩; exact ⟨i, List.mem_range.2 h, rfl⟩
theorem famLs_at {K c n i : Nat} {X : Nat → List PV} (h : i < n) : lnkAt (famLs K c n X) i = some ((i + K, c), some (X i).length) :=
  lnkAt_of_mem (famLs_mem.2 ⟨i, h, rfl⟩) fun x hx y hy e => by
    obtain ⟨i1, _, rfl⟩ := famLs_mem.1 hx
    obtain ⟨i2, _, rfl⟩ := famLs_mem.1 hy
    simp only at e
    subst e; rfl
theorem dropL_keep {off size : Nat} : ∀ {ls : List Lnk} {l : Lnk}, l ∈ ls → ¬ (off ≤ l.1 ∧ l.1 < off + size) → l ∈ dropL off size ls
  | (j, x) :: ls, l, h, hn => by
    simp only [dropL]
    rcases List.mem_cons.1 h with rfl | h
    · rw [if_neg hn]; exact List.mem_cons_self
    · have := dropL_keep h hn
      split
      · exact this
      · exact List.mem_cons_of_mem _ this
/-- one row has grown -/
theorem famLs_up {K c n u L : Nat} {X X' : Nat → List PV} (hX : ∀ i, i ≠ u → X' i = X i) (hL : (X' u).length = L) : ∀ i, i < n → (i, (i + K, c), some (X' i).length) ∈ (u, (u + K, c), some L) :: dropL u 1 (famLs K c n X) := fun i hi => by
  by_cases e : i = u
  · subst e; rw [hL]; exact List.mem_cons_self
  · rw [hX i e]
    exact List.mem_cons_of_mem _ (dropL_keep (famLs_mem.2 ⟨i, hi, rfl⟩) (by simp only; omega))
theorem getD_rep {n i : Nat} {x d : PV} (h : i < n) : (List.replicate n x).getD i d = x := by
  rw [List.getD_eq_getElem?_getD, List.getElem?_replicate, if_pos h]; rfl
theorem set_rep (n i : Nat) (x : PV) : (List.replicate n x).set i x = List.replicate n x := by
  refine List.ext_getElem (by simp) fun k h1 h2 => ?_
  rw [List.getElem_set]; split <;> simp
theorem lsLt_fam {K c n G : Nat} {X : Nat → List PV} (h : c < G) : lsLt G (famLs K c n X) = true := by
  have : ∀ ls : List Lnk, (∀ l ∈ ls, l.2.1.2 < G) → lsLt G ls = true := fun ls => by
    induction ls with
    | nil => intro _; rfl
    | cons l ls ih =>
      intro h
      obtain ⟨j, id, n⟩ := l
      simp only [lsLt, Bool.and_eq_true, decide_eq_true_eq]
      exact ⟨h _ List.mem_cons_self, ih fun x hx => h x (List.mem_cons_of_mem _ hx)⟩
  exact this _ fun l hl => by
    obtain ⟨i, _, rfl⟩ := famLs_mem.1 hl
    exact h
/-- the family's rules -/
theorem FAM : (∀ K c n T sz X i, i < n → lkM (famL K c n T sz X) (i + K, c) = some ⟨T, sz, X i, true, [], none⟩) ∧ (∀ K c n T sz X j d, j < K → lkM (famL K c n T sz X) (j, d) = none) ∧
    (∀ K c n X i, i < n → lnkAt (famLs K c n X) i = some ((i + K, c), some (X i).length)) ∧ (∀ n i (x d : PV), i < n → (List.replicate n x).getD i d = x) ∧ (∀ n i (x : PV), (List.replicate n x).set i x = List.replicate n x) ∧ (∀ K c n X G, c < G → lsLt G (famLs K c n X) = true) :=
  ⟨fun _ _ _ _ _ _ _ h => famL_at h, fun _ _ _ _ _ _ _ _ h => famL_out fun i _ e => by simp only [Prod.mk.injEq] at e; omega, fun _ _ _ _ _ h => famLs_at h, fun _ _ _ _ h => getD_rep h, set_rep, fun _ _ _ _ _ h => lsLt_fam h⟩
end Go.Ab
