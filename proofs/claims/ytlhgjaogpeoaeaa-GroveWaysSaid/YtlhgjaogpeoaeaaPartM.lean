/-
  The mathematics of partitions: least vertices of classes, vertices that hang from one another, fewer and more edges.
  Conditions: none.
-/
import Derived.Test.YtlhgjaogpeoaeaaTypes
namespace Go.Proofs.Ytlhgjaogpeoaeaa
open Go Go.Ab
set_option linter.unusedVariables false

theorem getD_at {α : Type} [Inhabited α] {l : List α} {i : Nat} (h : i < l.length) : ∃ x, l[i]? = some x ∧ l.getD i default = x :=
  ⟨l[i], List.getElem?_eq_getElem h, by rw [List.getD_eq_getElem?_getD, List.getElem?_eq_getElem h]; rfl⟩
theorem getD_set {l : List Int} {i j : Nat} {x : Int} (h : i < l.length) : (l.set i x).getD j default = if i = j then x else l.getD j default := by
  rw [List.getD_eq_getElem?_getD, List.getElem?_set, List.getD_eq_getElem?_getD]
  by_cases e : i = j
  · subst e; rw [if_pos rfl, if_pos rfl, if_pos h]; rfl
  · rw [if_neg e, if_neg e]
theorem getD_mapI {l : List Int} {g : Int → Int} {i : Nat} (h : i < l.length) : (l.map g).getD i default = g (l.getD i default) := by
  rw [List.getD_eq_getElem?_getD, List.getD_eq_getElem?_getD, List.getElem?_map, List.getElem?_eq_getElem h]; rfl
theorem ext_getD {a b : List Int} (h : a.length = b.length) (h2 : ∀ i, i < a.length → a.getD i default = b.getD i default) : a = b := by
  refine List.ext_getElem h fun i h3 h4 => ?_
  have := h2 i h3
  rwa [List.getD_eq_getElem?_getD, List.getElem?_eq_getElem h3, List.getD_eq_getElem?_getD, List.getElem?_eq_getElem h4] at this

/-! edges that are asked of by functions of vertices -/
/-- a function that is the same at both ends of each edge -/
def Resp (l : List Ed) (f : Int → Int) : Prop := ∀ e ∈ l, f e.u = f e.v
/-- a function that is the same at each vertex and at what it hangs from -/
def Hang (U : List Int) (f : Int → Int) : Prop := ∀ i : Nat, i < U.length → f i = f (U.getD i default)
def Con (l : List Ed) (a b : Int) : Prop := ∀ f, Resp l f → f a = f b
/-- each number is of a place not above its own -/
def Low (U : List Int) : Prop := ∀ i : Nat, i < U.length → 0 ≤ U.getD i default ∧ U.getD i default ≤ i
def at0 (P : List Int) (v : Int) : Int := P.getD v.toNat default
theorem at0_nat (P : List Int) (i : Nat) : at0 P (i : Int) = P.getD i default := rfl
def EdIn (n : Nat) (e : Ed) : Prop := 0 ≤ e.u ∧ e.u < n ∧ 0 ≤ e.v ∧ e.v < n
instance (n : Nat) (e : Ed) : Decidable (EdIn n e) := by unfold EdIn; infer_instance
def MayE (n : Nat) (l : List Ed) : Prop := ∀ e ∈ l, EdIn n e
theorem Resp.app {l : List Ed} {e : Ed} {f : Int → Int} : Resp (l ++ [e]) f ↔ Resp l f ∧ f e.u = f e.v := by
  unfold Resp
  simp only [List.mem_append, List.mem_singleton]
  constructor
  · exact fun h => ⟨fun x hx => h x (.inl hx), h e (.inr rfl)⟩
  · rintro ⟨h1, h2⟩ x (hx | rfl)
    · exact h1 x hx
    · exact h2

/-! a partition of edges -/
structure IsP (n : Nat) (l : List Ed) (P : List Int) : Prop where
  len : P.length = n
  low : Low P
  con : ∀ i : Nat, i < n → Con l i (P.getD i default)
  edg : ∀ e ∈ l, at0 P e.u = at0 P e.v
theorem IsP.le {n : Nat} {l : List Ed} {P Q : List Int} (hP : IsP n l P) (hQ : IsP n l Q) (i : Nat) (hi : i < n) : P.getD i default ≤ Q.getD i default := by
  have h1 := hQ.con i hi (at0 P) hP.edg
  rw [at0_nat] at h1
  have h2 := hQ.low i (by rw [hQ.len]; exact hi)
  rw [h1]
  have h3 := hP.low (Q.getD i default).toNat (by rw [hP.len]; omega)
  unfold at0
  omega
theorem IsP.uniq {n : Nat} {l : List Ed} {P Q : List Int} (hP : IsP n l P) (hQ : IsP n l Q) : P = Q :=
  ext_getD (by rw [hP.len, hQ.len]) fun i hi => by
    rw [hP.len] at hi
    exact Int.le_antisymm (hP.le hQ i hi) (hQ.le hP i hi)
theorem IsP.congr {n : Nat} {l m : List Ed} {P : List Int} (hP : IsP n l P) (h : ∀ f, Resp l f ↔ Resp m f) : IsP n m P :=
  ⟨hP.len, hP.low, fun i hi f hf => hP.con i hi f ((h f).2 hf), (h _).1 hP.edg⟩

/-! a list that is a partition -/
def okI (p : List Int) (i : Nat) : Prop := 0 ≤ p.getD i default ∧ p.getD i default ≤ i ∧ p.getD (p.getD i default).toNat default = p.getD i default
instance (p : List Int) (i : Nat) : Decidable (okI p i) := by unfold okI; infer_instance
def IsR (p : List Int) : Prop := ∀ i, i < p.length → okI p i
instance (p : List Int) : Decidable (IsR p) := by unfold IsR; infer_instance
/-- its edges: each vertex, and what it is told by -/
def edgesOf (p : List Int) : List Ed := (List.range p.length).map fun i : Nat => ⟨i, p.getD i default, 0⟩
theorem edgesOf_resp {p : List Int} {f : Int → Int} : Resp (edgesOf p) f ↔ Hang p f := by
  unfold Resp edgesOf Hang
  constructor
  · intro h i hi
    exact h ⟨i, p.getD i default, 0⟩ (List.mem_map.2 ⟨i, List.mem_range.2 hi, rfl⟩)
  · intro h e he
    obtain ⟨i, hi, rfl⟩ := List.mem_map.1 he
    exact h i (List.mem_range.1 hi)
theorem IsR.isP {p : List Int} (h : IsR p) : IsP p.length (edgesOf p) p where
  len := rfl
  low := fun i hi => ⟨(h i hi).1, (h i hi).2.1⟩
  con := fun i hi f hf => edgesOf_resp.1 hf i hi
  edg := edgesOf_resp.2 fun i hi => by
    rw [at0_nat]; exact (h i hi).2.2.symm
theorem IsP.right {n : Nat} {l : List Ed} {P : List Int} (h : IsP n l P) : IsR P := fun i hi => by
  have h1 := h.low i hi
  have h2 := h.con i (by rw [← h.len]; exact hi) (at0 P) h.edg
  exact ⟨h1.1, h1.2, h2.symm⟩

/-! a partition with two classes made one -/
def glue (lo hi x : Int) : Int := if x = hi then lo else x
def InP (p : List Int) (u v : Int) : Prop := 0 ≤ u ∧ u < p.length ∧ 0 ≤ v ∧ v < p.length
instance (p : List Int) (u v : Int) : Decidable (InP p u v) := by unfold InP; infer_instance
def joinR (p : List Int) (u v : Int) : List Int :=
  if IsR p ∧ InP p u v then p.map (glue (min (at0 p u) (at0 p v)) (max (at0 p u) (at0 p v))) else p
theorem joinR_len (p : List Int) (u v : Int) : (joinR p u v).length = p.length := by
  unfold joinR; split <;> simp
theorem IsP.glue {n : Nat} {l : List Ed} {P : List Int} (h : IsP n l P) (hl : MayE n l) {e : Ed} (he : EdIn n e) : IsP n (l ++ [e]) (P.map (glue (min (at0 P e.u) (at0 P e.v)) (max (at0 P e.u) (at0 P e.v)))) := by
  have hu : e.u.toNat < n := by have := he; unfold EdIn at this; omega
  have hv : e.v.toNat < n := by have := he; unfold EdIn at this; omega
  have cu := h.con _ hu
  have cv := h.con _ hv
  have eu : ((e.u.toNat : Nat) : Int) = e.u := by have := he; unfold EdIn at this; omega
  have ev : ((e.v.toNat : Nat) : Int) = e.v := by have := he; unfold EdIn at this; omega
  rw [eu] at cu; rw [ev] at cv
  have at_glue : ∀ (g : Int → Int) (x : Int), 0 ≤ x → x < n → at0 (P.map g) x = g (at0 P x) := fun g x h0 h1 => by
    unfold at0; exact getD_mapI (by rw [h.len]; omega)
  obtain ⟨a, ha⟩ : ∃ a, at0 P e.u = a := ⟨_, rfl⟩
  obtain ⟨b, hb⟩ : ∃ b, at0 P e.v = b := ⟨_, rfl⟩
  have ha' : P.getD e.u.toNat default = a := ha
  have hb' : P.getD e.v.toNat default = b := hb
  rw [ha'] at cu; rw [hb'] at cv; rw [ha, hb]
  have a0 := h.low _ (by rw [h.len]; exact hu)
  have b0 := h.low _ (by rw [h.len]; exact hv)
  rw [ha'] at a0; rw [hb'] at b0
  refine ⟨by rw [List.length_map, h.len], fun i hi => ?_, fun i hi f hf => ?_, fun x hx => ?_⟩
  · rw [List.length_map] at hi
    rw [getD_mapI hi]
    have := h.low i hi
    unfold Go.Proofs.Ytlhgjaogpeoaeaa.glue
    split <;> omega
  · rw [getD_mapI (by rw [h.len]; exact hi)]
    obtain ⟨h1, h2⟩ := Resp.app.1 hf
    have h3 := h.con i hi f h1
    have h4 := cu f h1
    have h5 := cv f h1
    rw [h3]
    unfold Go.Proofs.Ytlhgjaogpeoaeaa.glue
    split
    · rename_i hm
      rw [hm]
      rcases Int.le_total a b with hab | hab
      · rw [Int.max_eq_right hab, Int.min_eq_left hab, ← h4, ← h5, h2]
      · rw [Int.max_eq_left hab, Int.min_eq_right hab, ← h4, ← h5, h2]
    · rfl
  · rcases List.mem_append.1 hx with hx | hx
    · have := hl x hx
      unfold EdIn at this
      rw [at_glue _ _ (by omega) (by omega), at_glue _ _ (by omega) (by omega), h.edg x hx]
    · rw [List.mem_singleton] at hx
      subst hx
      unfold EdIn at he
      rw [at_glue _ _ (by omega) (by omega), at_glue _ _ (by omega) (by omega), ha, hb]
      unfold Go.Proofs.Ytlhgjaogpeoaeaa.glue
      rcases Int.le_total a b with hab | hab
      · rw [Int.max_eq_right hab, Int.min_eq_left hab]; split <;> simp
      · rw [Int.max_eq_left hab, Int.min_eq_right hab]; split <;> simp_all
theorem IsP.join {n : Nat} {l : List Ed} {P : List Int} (h : IsP n l P) (hl : MayE n l) {u v t : Int} (he : EdIn n ⟨u, v, t⟩) : IsP n (l ++ [⟨u, v, t⟩]) (joinR P u v) := by
  have := h.glue hl he
  have hi : InP P u v := by unfold InP; rw [h.len]; exact he
  unfold joinR
  rw [if_pos ⟨h.right, hi⟩]
  exact this
theorem edgesOf_may {p : List Int} (h : IsR p) : MayE p.length (edgesOf p) := fun e he => by
  unfold edgesOf at he
  obtain ⟨i, hi, rfl⟩ := List.mem_map.1 he
  rw [List.mem_range] at hi
  have := h i hi
  unfold okI at this
  unfold EdIn
  show 0 ≤ (i : Int) ∧ (i : Int) < p.length ∧ 0 ≤ p.getD i default ∧ p.getD i default < p.length
  omega

/-! how many classes -/
def manyN (p : List Int) : Nat → Nat
  | 0 => 0
  | i + 1 => if p.getD i default = i then manyN p i + 1 else manyN p i
def manyR (p : List Int) : Nat := if IsR p then manyN p p.length else 0
theorem manyN_le (p : List Int) : ∀ i, manyN p i ≤ i
  | 0 => Nat.le_refl _
  | i + 1 => by rw [manyN]; have := manyN_le p i; split <;> omega
/-! a class -/
def clsN (p : List Int) (x : Int) : Nat → List Int
  | 0 => []
  | i + 1 => if p.getD i default = x then clsN p x i ++ [(i : Int)] else clsN p x i
def clsR (p : List Int) (v : Int) : List Int := if IsR p ∧ 0 ≤ v ∧ v < p.length then clsN p (at0 p v) p.length else []
theorem clsN_len (p : List Int) (x : Int) : ∀ i, (clsN p x i).length ≤ i
  | 0 => Nat.le_refl _
  | i + 1 => by rw [clsN]; have := clsN_len p x i; split <;> simp <;> omega
theorem clsR_len (p : List Int) (v : Int) : (clsR p v).length ≤ p.length := by
  unfold clsR; split
  · exact clsN_len _ _ _
  · simp
theorem clsN_mem {p : List Int} {x w : Int} : ∀ {i : Nat}, w ∈ clsN p x i ↔ ∃ k : Nat, k < i ∧ w = k ∧ p.getD k default = x
  | 0 => by simp [clsN]
  | i + 1 => by
    rw [clsN]
    split
    · rename_i h
      rw [List.mem_append, clsN_mem, List.mem_singleton]
      constructor
      · rintro (⟨k, h1, h2, h3⟩ | h1)
        · exact ⟨k, by omega, h2, h3⟩
        · exact ⟨i, by omega, h1, h⟩
      · rintro ⟨k, h1, h2, h3⟩
        by_cases e : k = i
        · subst e; exact .inr h2
        · exact .inl ⟨k, by omega, h2, h3⟩
    · rename_i h
      rw [clsN_mem]
      constructor
      · rintro ⟨k, h1, h2, h3⟩; exact ⟨k, by omega, h2, h3⟩
      · rintro ⟨k, h1, h2, h3⟩
        refine ⟨k, ?_, h2, h3⟩
        by_cases e : k = i
        · subst e; exact absurd h3 h
        · omega

/-! one refines another one -/
def RefP (p q : List Int) : Prop := p.length = q.length ∧ IsR p ∧ IsR q ∧ ∀ i, i < p.length → q.getD i default = q.getD (p.getD i default).toNat default
instance (p q : List Int) : Decidable (RefP p q) := by unfold RefP; infer_instance

end Go.Proofs.Ytlhgjaogpeoaeaa
