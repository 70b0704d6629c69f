/-
  The mathematics of forests: how many classes edges leave, ways, the only way.
  Conditions: none.
-/
import Derived.Test.YtlhgjaogpeoaeaaPartG
namespace Go.Proofs.Ytlhgjaogpeoaeaa
open Go Go.Ab
set_option linter.unusedVariables false

theorem many_glue {p : List Int} {lo hi : Nat} (hR : IsR p) (hlh : lo ≤ hi) (hh : hi < p.length) (gh : p.getD hi default = (hi : Int)) : ∀ i, i ≤ p.length → manyN (p.map (glue (lo : Int) (hi : Int))) i + (if lo < hi ∧ hi < i then 1 else 0) = manyN p i
  | 0, _ => by simp [manyN]
  | i + 1, h => by
    have ih := many_glue hR hlh hh gh i (by omega)
    have hb := hR i (by omega)
    unfold okI at hb
    rw [manyN, manyN, getD_mapI (by omega), glue]
    by_cases e : p.getD i default = (hi : Int)
    · rw [if_pos e]
      by_cases e2 : lo = hi
      · have t1 : ¬(lo < hi ∧ hi < i) := by omega
        have t2 : ¬(lo < hi ∧ hi < i + 1) := by omega
        rw [if_neg t1] at ih; rw [if_neg t2, e, e2]
        rw [e2] at ih
        split <;> omega
      · have t0 : ¬((lo : Int) = (i : Int)) := by omega
        rw [if_neg t0, e]
        by_cases e3 : hi = i
        · have t1 : ¬(lo < hi ∧ hi < i) := by omega
          have t2 : lo < hi ∧ hi < i + 1 := by omega
          have t3 : (hi : Int) = (i : Int) := by omega
          rw [if_neg t1] at ih; rw [if_pos t2, if_pos t3]; omega
        · have t1 : lo < hi ∧ hi < i := by omega
          have t2 : lo < hi ∧ hi < i + 1 := by omega
          have t3 : ¬((hi : Int) = (i : Int)) := by omega
          rw [if_pos t1] at ih; rw [if_pos t2, if_neg t3]; omega
    · rw [if_neg e]
      have e3 : hi ≠ i := fun x => e (by rw [← x]; exact gh)
      have e4 : (lo < hi ∧ hi < i + 1) ↔ (lo < hi ∧ hi < i) := by omega
      simp only [e4]
      split <;> omega
theorem many_one {p : List Int} {u v : Int} (hR : IsR p) (hi : InP p u v) : manyR (joinR p u v) + (if at0 p u = at0 p v then 0 else 1) = manyR p := by
  have hJ : IsR (joinR p u v) := (hR.isP.join (edgesOf_may hR) (u := u) (v := v) (t := 0) hi).right
  unfold manyR
  rw [if_pos hR, if_pos hJ, joinR_len]
  have hj : joinR p u v = p.map (glue (min (at0 p u) (at0 p v)) (max (at0 p u) (at0 p v))) := if_pos ⟨hR, hi⟩
  rw [hj]
  unfold InP at hi
  obtain ⟨x, rfl⟩ : ∃ w : Nat, u = w := ⟨u.toNat, by omega⟩
  obtain ⟨y, rfl⟩ : ∃ w : Nat, v = w := ⟨v.toNat, by omega⟩
  obtain ⟨a, ga, ba⟩ := isR_nat hR (i := x) (by omega)
  obtain ⟨b, gb, bb⟩ := isR_nat hR (i := y) (by omega)
  have ra := (hR x (by omega)).2.2
  have rb := (hR y (by omega)).2.2
  rw [ga, Int.toNat_natCast] at ra
  rw [gb, Int.toNat_natCast] at rb
  rw [at0_nat, at0_nat, ga, gb, show min (a : Int) (b : Int) = ((min a b : Nat) : Int) by omega, show max (a : Int) (b : Int) = ((max a b : Nat) : Int) by omega]
  have := many_glue (lo := min a b) (hi := max a b) hR (by omega) (by omega) (by
    rcases Nat.le_total a b with h | h
    · rw [Nat.max_eq_right h]; exact rb
    · rw [Nat.max_eq_left h]; exact ra) p.length (Nat.le_refl _)
  by_cases e : a = b
  · rw [if_pos (by rw [e])]; rw [if_neg (by omega)] at this; omega
  · rw [if_neg (by omega)]; rw [if_pos (by omega)] at this; omega
theorem snocInd {α : Type} {p : List α → Prop} (h0 : p []) (h1 : ∀ l x, p l → p (l ++ [x])) (l : List α) : p l := by
  rw [← List.reverse_reverse l]
  induction l.reverse with
  | nil => exact h0
  | cons x r ih => rw [List.reverse_cons]; exact h1 _ _ ih
theorem manyAlone (n : Nat) : ∀ i, i ≤ n → manyN (aloneR n) i = i
  | 0, _ => rfl
  | i + 1, h => by rw [manyN, if_pos (aloneR_get (by omega)), manyAlone n i (by omega)]
theorem MayE.app {n : Nat} {l : List Ed} {e : Ed} : MayE n (l ++ [e]) ↔ MayE n l ∧ EdIn n e := by
  constructor
  · exact fun h => ⟨fun x hx => h x (List.mem_append_left _ hx), h e (List.mem_append_right _ List.mem_cons_self)⟩
  · rintro ⟨h1, h2⟩ x hx
    rcases List.mem_append.1 hx with hx | hx
    · exact h1 x hx
    · rw [List.mem_singleton] at hx; subst hx; exact h2
theorem partR_app {n : Nat} {l : List Ed} {e : Ed} (hl : MayE n l) (he : EdIn n e) : partR n (l ++ [e]) = joinR (partR n l) e.u e.v :=
  partR_eq (MayE.app.2 ⟨hl, he⟩) ((partR_is hl).join hl (u := e.u) (v := e.v) (t := e.t) he)
theorem partR_same {n : Nat} {l m : List Ed} (hl : MayE n l) (hm : MayE n m) (h : ∀ f, Resp l f ↔ Resp m f) : partR n l = partR n m :=
  partR_eq hl ((partR_is hm).congr fun f => (h f).symm)
theorem con_iff {n : Nat} {l : List Ed} (hl : MayE n l) {a b : Int} (ha : 0 ≤ a ∧ a < n) (hb : 0 ≤ b ∧ b < n) : Con l a b ↔ at0 (partR n l) a = at0 (partR n l) b := by
  have P := partR_is hl
  constructor
  · exact fun h => h _ P.edg
  · intro h f hf
    have h1 := P.con a.toNat (by omega) f hf
    have h2 := P.con b.toNat (by omega) f hf
    rw [Int.toNat_of_nonneg ha.1] at h1
    rw [Int.toNat_of_nonneg hb.1] at h2
    unfold at0 at h
    rw [h1, h2, h]
theorem many_app {n : Nat} {l : List Ed} {e : Ed} (hl : MayE n l) (he : EdIn n e) : manyR (partR n (l ++ [e])) + (if at0 (partR n l) e.u = at0 (partR n l) e.v then 0 else 1) = manyR (partR n l) := by
  rw [partR_app hl he]
  exact many_one (partR_is hl).right (by unfold InP; rw [partR_len]; exact he)
theorem many_ge {n : Nat} (l : List Ed) : MayE n l → n ≤ manyR (partR n l) + l.length := by
  refine snocInd (p := fun l => MayE n l → n ≤ manyR (partR n l) + l.length) (fun h => ?_) (fun l e ih h => ?_) l
  · have := (isP_alone n).right
    rw [show partR n [] = aloneR n from rfl, manyR, if_pos this, aloneR_len, manyAlone n n (Nat.le_refl _)]; omega
  · obtain ⟨h1, h2⟩ := MayE.app.1 h
    have := ih h1
    have h3 := many_app h1 h2
    rw [List.length_append, List.length_singleton]
    split at h3 <;> omega

/-! forests -/
def IsF (n : Nat) (l : List Ed) : Prop := MayE n l ∧ manyR (partR n l) + l.length = n
instance (n : Nat) (l : List Ed) : Decidable (IsF n l) := by unfold IsF MayE; infer_instance
theorem IsF.mid {n : Nat} {a b : List Ed} {e : Ed} (h : IsF n (a ++ e :: b)) : ¬ Con (a ++ b) e.u e.v ∧ IsF n (a ++ b) := by
  have he : EdIn n e := h.1 e (List.mem_append_right _ List.mem_cons_self)
  have hm : MayE n (a ++ b) := fun x hx => h.1 x (by
    rcases List.mem_append.1 hx with hx | hx
    · exact List.mem_append_left _ hx
    · exact List.mem_append_right _ (List.mem_cons_of_mem _ hx))
  have hs : partR n (a ++ e :: b) = partR n ((a ++ b) ++ [e]) := partR_same h.1 (MayE.app.2 ⟨hm, he⟩) fun f => by
    unfold Resp
    constructor
    · intro g x hx
      refine g x ?_
      simp only [List.mem_append, List.mem_cons, List.not_mem_nil, or_false] at hx ⊢
      rcases hx with (hx | hx) | hx
      · exact .inl hx
      · exact .inr (.inr hx)
      · exact .inr (.inl hx)
    · intro g x hx
      refine g x ?_
      simp only [List.mem_append, List.mem_cons, List.not_mem_nil, or_false] at hx ⊢
      rcases hx with hx | hx | hx
      · exact .inl (.inl hx)
      · exact .inr hx
      · exact .inl (.inr hx)
  have h1 := h.2
  rw [hs] at h1
  have h2 := many_app hm he
  have h3 := many_ge _ hm
  simp only [List.length_append, List.length_cons] at h1 h3
  have hne : ¬ at0 (partR n (a ++ b)) e.u = at0 (partR n (a ++ b)) e.v := fun g => by
    rw [if_pos g] at h2; omega
  rw [if_neg hne] at h2
  refine ⟨fun g => hne (g _ (partR_is hm).edg), hm, ?_⟩
  rw [List.length_append]; omega
theorem IsF.add {n : Nat} {m : List Ed} {e : Ed} (h : IsF n m) (he : EdIn n e) (hc : ¬ Con m e.u e.v) : IsF n (m ++ [e]) := by
  refine ⟨MayE.app.2 ⟨h.1, he⟩, ?_⟩
  have h1 := many_app h.1 he
  have h2 := h.2
  rw [if_neg (fun g => hc ((con_iff h.1 ⟨he.1, he.2.1⟩ he.2.2).2 g))] at h1
  rw [List.length_append, List.length_singleton]; omega
theorem IsF.no {n : Nat} {m : List Ed} {e : Ed} (hc : Con m e.u e.v) : ¬ IsF n (m ++ [e]) := fun h => by
  have := (IsF.mid (a := m) (b := []) h).1
  rw [List.append_nil] at this
  exact this hc
theorem con_mem {l : List Ed} {e : Ed} (h : e ∈ l) : Con l e.u e.v := fun f hf => hf e h
theorem Con.symm {l : List Ed} {a b : Int} (h : Con l a b) : Con l b a := fun f hf => (h f hf).symm
theorem Con.trans {l : List Ed} {a b c : Int} (h : Con l a b) (g : Con l b c) : Con l a c := fun f hf => (h f hf).trans (g f hf)
theorem IsF.nodup {n : Nat} (l : List Ed) : IsF n l → l.Nodup := by
  refine snocInd (p := fun l => IsF n l → l.Nodup) (fun _ => List.nodup_nil) (fun l e ih h => ?_) l
  have := IsF.mid (a := l) (b := []) h
  rw [List.append_nil] at this
  rw [List.nodup_append]
  refine ⟨ih this.2, by simp, fun x hx y hy e2 => ?_⟩
  rw [List.mem_singleton] at hy
  subst hy; subst e2
  exact this.1 (con_mem hx)
/-- all but one -/
def less (l : List Ed) (e : Ed) : List Ed := l.filter fun x => decide (x ≠ e)
theorem less_mem {l : List Ed} {e x : Ed} : x ∈ less l e ↔ x ∈ l ∧ x ≠ e := by simp [less]
theorem IsF.less {n : Nat} {l : List Ed} (h : IsF n l) {e : Ed} (he : e ∈ l) : ¬ Con (less l e) e.u e.v ∧ IsF n (less l e) := by
  obtain ⟨a, b, rfl⟩ := List.append_of_mem he
  have hn := IsF.nodup _ h
  rw [List.nodup_append] at hn
  obtain ⟨n1, n2, n3⟩ := hn
  rw [List.nodup_cons] at n2
  have e1 : Go.Proofs.Ytlhgjaogpeoaeaa.less (a ++ e :: b) e = a ++ b := by
    unfold Go.Proofs.Ytlhgjaogpeoaeaa.less
    rw [List.filter_append, List.filter_cons, if_neg (by simp), List.filter_eq_self.2, List.filter_eq_self.2]
    · intro x hx; simp only [decide_eq_true_eq]; intro e2; subst e2; exact n2.1 hx
    · intro x hx; simp only [decide_eq_true_eq]; intro e2; subst e2; exact n3 x hx x List.mem_cons_self rfl
  rw [e1]
  exact h.mid
theorem IsF.ends {n : Nat} {l : List Ed} (h : IsF n l) {e : Ed} (he : e ∈ l) : e.u ≠ e.v := fun e2 => (h.less he).1 (by rw [e2]; exact fun f _ => rfl)

/-! ways -/
def oth (e : Ed) (a : Int) : Int := e.u + e.v - a
def Walk (l : List Ed) : Int → List Ed → Int → Prop
  | a, [], b => a = b
  | a, e :: p, b => e ∈ l ∧ (e.u = a ∨ e.v = a) ∧ Walk l (oth e a) p b
theorem con_oth {l : List Ed} {e : Ed} {a : Int} (he : e ∈ l) (h : e.u = a ∨ e.v = a) : Con l a (oth e a) := fun f hf => by
  have := hf e he
  unfold oth
  rcases h with rfl | rfl
  · rw [show e.u + e.v - e.u = e.v by omega]; exact this
  · rw [show e.u + e.v - e.v = e.u by omega]; exact this.symm
theorem Walk.con {l : List Ed} : ∀ {p : List Ed} {a b : Int}, Walk l a p b → Con l a b
  | [], a, b, h => by cases h; exact fun f _ => rfl
  | e :: p, a, b, h => (con_oth h.1 h.2.1).trans (Walk.con h.2.2)
theorem Walk.app {l : List Ed} : ∀ {p q : List Ed} {a b : Int}, Walk l a (p ++ q) b ↔ ∃ c, Walk l a p c ∧ Walk l c q b
  | [], q, a, b => ⟨fun h => ⟨a, rfl, h⟩, fun ⟨c, h1, h2⟩ => by cases h1; exact h2⟩
  | e :: p, q, a, b => by
    constructor
    · rintro ⟨h1, h2, h3⟩
      obtain ⟨c, h4, h5⟩ := Walk.app.1 h3
      exact ⟨c, ⟨h1, h2, h4⟩, h5⟩
    · rintro ⟨c, ⟨h1, h2, h4⟩, h5⟩
      exact ⟨h1, h2, Walk.app.2 ⟨c, h4, h5⟩⟩
theorem Walk.rev {l : List Ed} : ∀ {p : List Ed} {a b : Int}, Walk l a p b → Walk l b p.reverse a
  | [], a, b, h => by cases h; rfl
  | e :: p, a, b, h => by
    rw [List.reverse_cons]
    refine Walk.app.2 ⟨oth e a, Walk.rev h.2.2, h.1, ?_, ?_⟩
    · unfold oth
      rcases h.2.1 with h | h
      · exact .inr (by omega)
      · exact .inl (by omega)
    · show oth e (oth e a) = a
      unfold oth; omega
theorem Walk.mem {l : List Ed} : ∀ {p : List Ed} {a b : Int}, Walk l a p b → ∀ x ∈ p, x ∈ l
  | e :: p, a, b, h, x, hx => by
    rcases List.mem_cons.1 hx with rfl | hx
    · exact h.1
    · exact Walk.mem h.2.2 x hx
theorem Walk.sub {l m : List Ed} : ∀ {p : List Ed} {a b : Int}, Walk l a p b → (∀ x ∈ p, x ∈ m) → Walk m a p b
  | [], a, b, h, _ => h
  | e :: p, a, b, h, hm => ⟨hm e List.mem_cons_self, h.2.1, Walk.sub h.2.2 fun x hx => hm x (List.mem_cons_of_mem _ hx)⟩
theorem Walk.less {l p : List Ed} {a b : Int} {e : Ed} (h : Walk l a p b) (he : e ∉ p) : Walk (less l e) a p b :=
  h.sub fun x hx => less_mem.2 ⟨h.mem x hx, fun e2 => he (by rw [← e2]; exact hx)⟩
/-- no way round -/
def NC (l : List Ed) : Prop := ∀ e ∈ l, ¬ Con (less l e) e.u e.v
theorem NC.oth {l : List Ed} (h : NC l) {e : Ed} {a : Int} (he : e ∈ l) (ha : e.u = a ∨ e.v = a) : ¬ Con (Go.Proofs.Ytlhgjaogpeoaeaa.less l e) a (Go.Proofs.Ytlhgjaogpeoaeaa.oth e a) := fun g => by
  refine h e he ?_
  unfold Go.Proofs.Ytlhgjaogpeoaeaa.oth at g
  rcases ha with rfl | rfl
  · rwa [show e.u + e.v - e.u = e.v by omega] at g
  · rw [show e.u + e.v - e.v = e.u by omega] at g; exact g.symm
theorem NC.closed {l : List Ed} (h : NC l) {f : Ed} {q : List Ed} {a : Int} (hw : Walk l a (f :: q) a) (hn : f ∉ q) : False :=
  h.oth hw.1 hw.2.1 (hw.2.2.less hn).con.symm
theorem NC.only {l : List Ed} (h : NC l) : ∀ (p q : List Ed) (a b : Int), Walk l a p b → p.Nodup → Walk l a q b → q.Nodup → p = q
  | [], [], _, _, _, _, _, _ => rfl
  | [], f :: q, a, b, h1, _, h2, n2 => by
    cases h1
    exact (h.closed h2 (List.nodup_cons.1 n2).1).elim
  | e :: p, [], a, b, h1, n1, h2, _ => by
    cases h2
    exact (h.closed h1 (List.nodup_cons.1 n1).1).elim
  | e :: p, f :: q, a, b, h1, n1, h2, n2 => by
    by_cases ef : e = f
    · subst ef
      rw [h.only p q (Go.Proofs.Ytlhgjaogpeoaeaa.oth e a) b h1.2.2 (List.nodup_cons.1 n1).2 h2.2.2 (List.nodup_cons.1 n2).2]
    · exfalso
      have nc := h.oth h1.1 h1.2.1
      have hcb := (h1.2.2.less (List.nodup_cons.1 n1).1).con
      by_cases he : e ∈ f :: q
      · obtain ⟨q1, q2, hq⟩ := List.append_of_mem he
        rw [hq] at h2 n2
        obtain ⟨x, w1, w2⟩ := Walk.app.1 h2
        have hn := List.nodup_append.1 n2
        have ne1 : e ∉ q1 := fun g => hn.2.2 e g e List.mem_cons_self rfl
        have hx : x = a ∨ x = Go.Proofs.Ytlhgjaogpeoaeaa.oth e a := by
          have := w2.2.1
          have := h1.2.1
          unfold Go.Proofs.Ytlhgjaogpeoaeaa.oth; omega
        rcases hx with rfl | rfl
        · cases q1 with
          | nil => simp only [List.nil_append, List.cons.injEq] at hq; exact ef hq.1.symm
          | cons g q1 => exact h.closed w1 (List.nodup_cons.1 hn.1).1
        · exact nc (w1.less ne1).con
      · exact nc ((h2.less he).con.trans hcb.symm)
theorem IsF.nc {n : Nat} {l : List Ed} (h : IsF n l) : NC l := fun e he => (h.less he).1
theorem nodup_len : ∀ (n : Nat) (D : List Nat), D.Nodup → (∀ w ∈ D, w < n) → D.length ≤ n
  | 0, D, _, h => by
    cases D with
    | nil => exact Nat.le_refl _
    | cons x D => exact absurd (h x List.mem_cons_self) (Nat.not_lt_zero _)
  | n + 1, D, hn, h => by
    by_cases e : n ∈ D
    · have := nodup_len n (D.erase n) (hn.erase n) fun w hw => by
        have h1 := (hn.mem_erase_iff).1 hw
        have := h w h1.2
        omega
      rw [List.length_erase_of_mem e] at this
      omega
    · have := nodup_len n D hn fun w hw => by
        have h1 := h w hw
        have : w ≠ n := fun e2 => e (by rw [← e2]; exact hw)
        omega
      omega
theorem edge_len : ∀ (l p : List Ed), p.Nodup → (∀ x ∈ p, x ∈ l) → p.length ≤ l.length
  | [], p, _, h => by
    cases p with
    | nil => exact Nat.le_refl _
    | cons x D => exact absurd (h x List.mem_cons_self) (by simp)
  | e :: l, p, hn, h => by
    by_cases hp : e ∈ p
    · have := edge_len l (p.erase e) (hn.erase e) fun w hw => by
        have h1 := (hn.mem_erase_iff).1 hw
        rcases List.mem_cons.1 (h w h1.2) with h2 | h2
        · exact absurd h2 h1.1
        · exact h2
      rw [List.length_erase_of_mem hp] at this
      rw [List.length_cons]; omega
    · have := edge_len l p hn fun w hw => by
        rcases List.mem_cons.1 (h w hw) with h2 | h2
        · subst h2; exact absurd hw hp
        · exact h2
      rw [List.length_cons]; omega
theorem manyN_pos {p : List Int} (h0 : p.getD 0 default = 0) : ∀ i, 0 < i → 0 < manyN p i
  | 0, h => absurd h (Nat.lt_irrefl 0)
  | 1, _ => by rw [manyN, if_pos (by rw [h0]; rfl)]; omega
  | i + 2, _ => by rw [manyN]; have := manyN_pos h0 (i + 1) (by omega); split <;> omega
theorem IsF.short {n : Nat} {l : List Ed} (h : IsF n l) (hn : 0 < n) : l.length < n := by
  have hP := partR_is h.1
  have h0 : (partR n l).getD 0 default = 0 := by have := hP.low 0 (by rw [hP.len]; exact hn); omega
  have := manyN_pos h0 n hn
  have h2 := h.2
  rw [manyR, if_pos hP.right, hP.len] at h2
  omega
end Go.Proofs.Ytlhgjaogpeoaeaa
