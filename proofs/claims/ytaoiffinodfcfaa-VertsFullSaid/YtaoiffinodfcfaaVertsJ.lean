/-
  Keys that are added and removed, and where they are (mathematics).
  Conditions: none.
-/
import Derived.Test.YtaoiffinodfcfaaVertsN
namespace Go.Proofs.Ytaoiffinodfcfaa
open Go Go.Ab
set_option linter.unusedVariables false
set_option linter.unusedSimpArgs false

/-- the last place of a key -/
def lastK (K : List Int) (x : Int) : Nat → Int
  | 0 => -1
  | i + 1 => if K.getD i default = x then i else lastK K x i
theorem lastK_spec (K : List Int) (x : Int) : ∀ n, (lastK K x n = -1 ∧ ∀ i, i < n → K.getD i default ≠ x) ∨ ∃ t : Nat, lastK K x n = t ∧ t < n ∧ K.getD t default = x
  | 0 => .inl ⟨rfl, fun i h => by omega⟩
  | n + 1 => by
    rw [lastK]
    split
    · rename_i h; exact .inr ⟨n, rfl, by omega, h⟩
    · rename_i h
      rcases lastK_spec K x n with ⟨h1, h2⟩ | ⟨t, h1, h2, h3⟩
      · refine .inl ⟨h1, fun i hi => ?_⟩
        rcases Nat.lt_or_ge i n with g | g
        · exact h2 i g
        · obtain rfl : i = n := by omega
          exact h
      · exact .inr ⟨t, h1, by omega, h3⟩
theorem cut_len {α : Type} {K : List α} {t : Nat} (h : t < K.length) : (K.take t ++ K.drop (t + 1)).length = K.length - 1 := by
  rw [List.length_append, List.length_take, List.length_drop]; omega
theorem cut_at {α : Type} [Inhabited α] {K : List α} {t : Nat} (h : t < K.length) (i : Nat) : (K.take t ++ K.drop (t + 1)).getD i default = if i < t then K.getD i default else K.getD (i + 1) default := by
  rw [List.getD_eq_getElem?_getD, List.getElem?_append, List.length_take, Nat.min_eq_left (by omega)]
  split
  · rw [List.getElem?_take_of_lt (by assumption), ← List.getD_eq_getElem?_getD]
  · rw [List.getElem?_drop, show t + 1 + (i - t) = i + 1 by omega, ← List.getD_eq_getElem?_getD]
theorem snoc_at {α : Type} [Inhabited α] {K : List α} {x : α} (i : Nat) (h : i < K.length + 1) : (K ++ [x]).getD i default = if i < K.length then K.getD i default else x := by
  rw [List.getD_eq_getElem?_getD, List.getElem?_append]
  split
  · rw [← List.getD_eq_getElem?_getD]
  · rw [show i - K.length = 0 by omega]; rfl
structure KInv (s : Nat) (K A : List Int) (l : List Slt) : Prop where
  len : l.length = s
  right : RightP l
  alen : A.length = K.length
  slot : ∀ i, i < K.length → ∃ v : Nat, A.getD i default = (v : Int) ∧ v < s ∧ l.getD v default = ⟨true, K.getD i default⟩
  all : ∀ j, j < s → Us l j = true → ∃ i, i < K.length ∧ K.getD i default = Ke l j
  dist : ∀ i, i < K.length → ∀ j, j < i → K.getD j default ≠ K.getD i default
  cnt : l.countP (·.used) = K.length
section
variable {s : Nat} {K A : List Int} {l : List Slt}
theorem KInv.start (h : 1 ≤ s ∧ s ≤ 1024) : KInv s [] [] (List.replicate s ⟨false, 0⟩) where
  len := List.length_replicate
  right := right_rep h
  alen := rfl
  slot := fun i hi => by simp at hi
  all := fun j _ hu => by rw [us_rep] at hu; cases hu
  dist := fun i hi => by simp at hi
  cnt := by rw [← keysR_cnt (right_rep h), keys_rep h]
theorem KInv.less (h : KInv s K A l) : K.length ≤ s := by rw [← h.cnt, ← h.len]; exact List.countP_le_length
theorem KInv.find (h : KInv s K A l) {i : Nat} (hi : i < K.length) : ∃ v : Nat, A.getD i default = (v : Int) ∧ v < s ∧ findN l (K.getD i default) = some v := by
  obtain ⟨v, h1, h2, h3⟩ := h.slot i hi
  exact ⟨v, h1, h2, find_is h.right.2.2.2 (by rw [h.len]; exact h2) (us_of h3) (ke_of h3)⟩
theorem KInv.none (h : KInv s K A l) {x : Int} (hx : ∀ i, i < K.length → K.getD i default ≠ x) : findN l x = none := by
  refine find_none.2 fun j hj ⟨h1, h2⟩ => ?_
  obtain ⟨i, hi, e⟩ := h.all j (by rw [← h.len]; exact hj) h1
  exact hx i hi (by rw [e, h2])
theorem KInv.keys (h : KInv s K A l) : (keysR l).length = K.length := by rw [keysR_cnt h.right, h.cnt]
theorem KInv.ne (h : KInv s K A l) {i j : Nat} (hi : i < K.length) (hj : j < K.length) (e : i ≠ j) : K.getD i default ≠ K.getD j default := by
  rcases Nat.lt_or_gt_of_ne e with g | g
  · exact h.dist j hj i g
  · exact (h.dist i hi j g).symm
theorem KInv.rem (h : KInv s K A l) {t : Nat} (ht : t < K.length) : ∃ v : Nat, findN l (K.getD t default) = some v ∧ KInv s (K.take t ++ K.drop (t + 1)) (A.take t ++ A.drop (t + 1)) (l.set v ⟨false, 0⟩) := by
  obtain ⟨v, h1, h2, h3⟩ := h.slot t ht
  have hv : v < l.length := by rw [h.len]; exact h2
  have hf := find_is h.right.2.2.2 hv (us_of h3) (ke_of h3)
  have hta : t < A.length := by rw [h.alen]; exact ht
  refine ⟨v, hf, ⟨by rw [List.length_set]; exact h.len, right_rem h.right hv, by rw [cut_len ht, cut_len hta, h.alen], ?_, ?_, ?_, ?_⟩⟩
  · intro i hi
    rw [cut_len ht] at hi
    rw [cut_at ht, cut_at hta]
    obtain ⟨m, hm, hmt, em⟩ : ∃ m, m < K.length ∧ m ≠ t ∧ (if i < t then i else i + 1) = m := ⟨_, by split <;> omega, by split <;> omega, rfl⟩
    obtain ⟨w, g1, g2, g3⟩ := h.slot m hm
    have hvw : v ≠ w := fun e => by
      subst e; rw [h3] at g3
      simp only [Slt.mk.injEq, true_and] at g3
      exact h.ne hm ht hmt g3.symm
    refine ⟨w, ?_, g2, ?_⟩
    · by_cases g : i < t
      · rw [if_pos g] at em ⊢; rw [em]; exact g1
      · rw [if_neg g] at em ⊢; rw [em]; exact g1
    · rw [getD_setA hv, if_neg hvw, g3, ← em]; split <;> rfl
  · intro j hj hu
    rw [us_set hv] at hu; rw [ke_set hv]
    by_cases e : v = j
    · rw [if_pos e] at hu; cases hu
    · rw [if_neg e] at hu ⊢
      obtain ⟨i, hi, ei⟩ := h.all j hj hu
      have hit : i ≠ t := fun g => by
        subst g
        exact e (h.right.2.2.2.ne hv (by rw [h.len]; exact hj) (us_of h3) hu (by rw [ke_of h3, ei]))
      rcases Nat.lt_or_gt_of_ne hit with g | g
      · exact ⟨i, by rw [cut_len ht]; omega, by rw [cut_at ht, if_pos g, ei]⟩
      · exact ⟨i - 1, by rw [cut_len ht]; omega, by rw [cut_at ht, if_neg (by omega), show i - 1 + 1 = i by omega, ei]⟩
  · intro i hi j hj
    rw [cut_len ht] at hi
    rw [cut_at ht, cut_at ht]
    by_cases g1 : i < t <;> by_cases g2 : j < t
    · rw [if_pos g1, if_pos g2]; exact h.dist i (by omega) j hj
    · omega
    · rw [if_neg g1, if_pos g2]; exact h.dist (i + 1) (by omega) j (by omega)
    · rw [if_neg g1, if_neg g2]; exact h.dist (i + 1) (by omega) (j + 1) (by omega)
  · rw [List.countP_set hv, h.cnt, cut_len ht]
    have : l[v].used = true := by rw [← getD_el hv, h3]
    simp [this]
theorem KInv.add (h : KInv s K A l) {x : Int} (hx : ∀ i, i < K.length → K.getD i default ≠ x) {v : Nat} (hv : freeN l = some v) : KInv s (K ++ [x]) (A ++ [(v : Int)]) (l.set v ⟨true, x⟩) := by
  obtain ⟨h1, h2, _⟩ := free_of.1 hv
  have hs : v < s := by rw [← h.len]; exact h1
  refine ⟨by rw [List.length_set]; exact h.len, right_add h.right (h.none hx) h1, by rw [List.length_append, List.length_append, h.alen]; rfl, ?_, ?_, ?_, ?_⟩
  · intro i hi
    rw [List.length_append, List.length_singleton] at hi
    rw [snoc_at i hi, snoc_at i (by rw [h.alen]; exact hi), h.alen]
    by_cases g : i < K.length
    · rw [if_pos g, if_pos g]
      obtain ⟨w, g1, g2, g3⟩ := h.slot i g
      refine ⟨w, g1, g2, ?_⟩
      rw [getD_setA h1, if_neg (fun e => by subst e; rw [us_of g3] at h2; cases h2), g3]
    · rw [if_neg g, if_neg g]
      exact ⟨v, rfl, hs, by rw [getD_setA h1, if_pos rfl]⟩
  · intro j hj hu
    rw [us_set h1] at hu; rw [ke_set h1]
    by_cases e : v = j
    · rw [if_pos e]; exact ⟨K.length, by simp, by rw [snoc_at _ (by omega), if_neg (by omega)]⟩
    · rw [if_neg e] at hu ⊢
      obtain ⟨i, hi, ei⟩ := h.all j hj hu
      exact ⟨i, by rw [List.length_append]; omega, by rw [snoc_at _ (by omega), if_pos hi, ei]⟩
  · intro i hi j hj
    rw [List.length_append, List.length_singleton] at hi
    rw [snoc_at _ hi, snoc_at _ (by omega), if_pos (by omega)]
    split
    · exact h.dist i (by assumption) j hj
    · exact hx j (by omega)
  · rw [List.countP_set h1, h.cnt, List.length_append]
    have : l[v].used = false := by rw [← getD_el h1]; exact h2
    simp [this]
theorem KInv.free (h : KInv s K A l) : K.length < s ↔ ∃ v, freeN l = some v := by
  constructor
  · intro hk
    cases e : freeN l with
    | some v => exact ⟨v, rfl⟩
    | none =>
      have : l.countP (·.used) = l.length := List.countP_eq_length.2 fun x hx => by
        obtain ⟨j, hj, rfl⟩ := List.getElem_of_mem hx
        have := free_none.1 e j hj
        rwa [Us, getD_el hj] at this
      rw [h.cnt, h.len] at this; omega
  · rintro ⟨v, hv⟩
    have := (h.less)
    rcases Nat.lt_or_ge K.length s with g | g
    · exact g
    · have e : l.countP (·.used) = l.length := by rw [h.cnt, h.len]; omega
      obtain ⟨h1, h2, _⟩ := free_of.1 hv
      have := List.countP_eq_length.1 e _ (List.getElem_mem h1)
      rw [Us, getD_el h1] at h2
      rw [this] at h2; cases h2
/-- what is removed: an error just if there is no such key -/
theorem KInv.remR (h : KInv s K A l) (x : Int) {M : List Slt} {E : Int} (e : remR l x = (M, E)) {W : Int} (hW : (W = -1 ∧ ∀ i, i < K.length → K.getD i default ≠ x) ∨ ∃ t : Nat, W = t ∧ t < K.length ∧ K.getD t default = x) :
    (W = -1 ∧ E = 7 ∧ M = l) ∨ ∃ t : Nat, W = t ∧ t < K.length ∧ E = 0 ∧ KInv s (K.take t ++ K.drop (t + 1)) (A.take t ++ A.drop (t + 1)) M := by
  rcases hW with ⟨h1, h2⟩ | ⟨t, h1, h2, h3⟩
  · rw [remR_none h.right (h.none h2)] at e
    simp only [Prod.mk.injEq] at e
    exact .inl ⟨h1, e.2.symm, e.1.symm⟩
  · obtain ⟨v, g1, g2⟩ := h.rem h2
    rw [h3] at g1
    rw [remR_some h.right g1] at e
    simp only [Prod.mk.injEq] at e
    rw [e.1] at g2
    exact .inr ⟨t, h1, h2, e.2.symm, g2⟩
theorem KInv.addR (h : KInv s K A l) (x : Int) {M : List Slt} {v E : Int} (e : addR l x = (M, v, E)) {W : Int} (hW : (W = -1 ∧ ∀ i, i < K.length → K.getD i default ≠ x) ∨ ∃ t : Nat, W = t ∧ t < K.length ∧ K.getD t default = x) :
    (E ≠ 0 ∧ M = l ∧ ¬ (W < 0 ∧ K.length < s)) ∨ (E = 0 ∧ W < 0 ∧ K.length < s ∧ KInv s (K ++ [x]) (A ++ [v]) M) := by
  rcases hW with ⟨h1, h2⟩ | ⟨t, h1, h2, h3⟩
  · have hf := h.none h2
    cases hv : freeN l with
    | none =>
      rw [addR_full h.right hf hv] at e
      simp only [Prod.mk.injEq] at e
      refine .inl ⟨by omega, e.1.symm, fun ⟨_, g⟩ => ?_⟩
      obtain ⟨w, hw⟩ := h.free.1 g
      rw [hv] at hw; cases hw
    | some w =>
      have g := h.add h2 hv
      rw [addR_new h.right hf hv] at e
      simp only [Prod.mk.injEq] at e
      rw [e.1, e.2.1] at g
      exact .inr ⟨e.2.2.symm, by omega, h.free.2 ⟨w, hv⟩, g⟩
  · obtain ⟨v, _, _, hf⟩ := h.find h2
    rw [h3] at hf
    rw [addR_there h.right hf] at e
    simp only [Prod.mk.injEq] at e
    exact .inl ⟨by omega, e.1.symm, fun ⟨g, _⟩ => by omega⟩
end
end Go.Proofs.Ytaoiffinodfcfaa
