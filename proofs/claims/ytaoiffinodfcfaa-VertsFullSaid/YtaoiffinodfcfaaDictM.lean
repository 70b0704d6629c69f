/-
  Mathematics of lists of pairs by rising keys, and of a search by halves.
  Conditions: none.
-/
import Derived.Test.YtaoiffinodfcfaaSeqM
namespace Go.Proofs.Ytaoiffinodfcfaa
open Go Go.Ab
set_option linter.unusedVariables false
set_option linter.unusedSimpArgs false

/-! ## a search by halves -/
def bs (p : Nat → Bool) (i j : Nat) : Nat :=
  if i < j then (if p ((i + j) / 2) = true then bs p i ((i + j) / 2) else bs p ((i + j) / 2 + 1) j) else i
termination_by j - i
decreasing_by all_goals omega
theorem bs_t {p : Nat → Bool} {i j : Nat} (h : i < j) (hp : p ((i + j) / 2) = true) : bs p i j = bs p i ((i + j) / 2) := by
  rw [bs, if_pos h, if_pos hp]
theorem bs_f {p : Nat → Bool} {i j : Nat} (h : i < j) (hp : p ((i + j) / 2) = false) : bs p i j = bs p ((i + j) / 2 + 1) j := by
  rw [bs, if_pos h, if_neg (by rw [hp]; decide)]
theorem bs_end {p : Nat → Bool} {i j : Nat} (h : ¬ i < j) : bs p i j = i := by
  rw [bs, if_neg h]
theorem bs_spec (p : Nat → Bool) (m : Nat) : ∀ (i j : Nat), i ≤ m → m ≤ j → (∀ x, x < j → (p x = true ↔ m ≤ x)) → bs p i j = m := by
  intro i j
  fun_induction bs p i j with
  | case1 i j h hp ih => intro h1 h2 h3; exact ih h1 ((h3 _ (by omega)).1 hp) (fun x hx => h3 x (by omega))
  | case2 i j h hp ih =>
    intro h1 h2 h3
    refine ih ?_ h2 h3
    rcases Nat.lt_or_ge ((i + j) / 2) m with h4 | h4
    · exact h4
    · exact absurd ((h3 _ (by omega)).2 h4) hp
  | case3 i j h => intro h1 h2 h3; omega

/-! ## pairs by rising keys -/
def Inc (l : List Pr) : Prop := l.Pairwise fun a b => a.1 < b.1
def lo (l : List Pr) (k : Int) : List Pr := l.filter fun p => decide (p.1 < k)
def hi (l : List Pr) (k : Int) : List Pr := l.filter fun p => decide (k < p.1)
def ge (l : List Pr) (k : Int) : List Pr := l.filter fun p => decide (k ≤ p.1)
def putL (l : List Pr) (k n : Int) : List Pr := lo l k ++ (k, n) :: hi l k
def delL (l : List Pr) (k : Int) : List Pr := l.filter fun p => decide (p.1 ≠ k)
def getL (l : List Pr) (k : Int) : Option Int := (l.find? fun p => decide (p.1 = k)).map (·.2)
theorem Inc.sub {l m : List Pr} (h : Inc l) (hm : m.Sublist l) : Inc m := List.Pairwise.sublist hm h
theorem inc_nil : Inc [] := List.Pairwise.nil

/-- the keys that are less stand ahead, the others behind -/
theorem lo_ge : ∀ {l : List Pr}, Inc l → ∀ k, l = lo l k ++ ge l k
  | [], _, k => rfl
  | p :: l, h, k => by
    have h1 := List.pairwise_cons.1 h
    have ih := lo_ge h1.2 k
    by_cases hp : p.1 < k
    · have e1 : lo (p :: l) k = p :: lo l k := by simp [lo, hp]
      have e2 : ge (p :: l) k = ge l k := by simp [ge, show ¬ k ≤ p.1 by omega]
      rw [e1, e2, List.cons_append, ← ih]
    · have e0 : ∀ x ∈ l, ¬ x.1 < k := fun x hx => by have := h1.1 x hx; omega
      have e1 : lo (p :: l) k = [] := by
        simp only [lo, List.filter_eq_nil_iff, List.mem_cons, decide_eq_true_eq]
        rintro x (rfl | hx)
        · exact hp
        · exact e0 x hx
      have e2 : ge (p :: l) k = p :: l := by
        simp only [ge, List.filter_eq_self, List.mem_cons, decide_eq_true_eq]
        rintro x (rfl | hx)
        · omega
        · have := e0 x hx; omega
      rw [e1, e2, List.nil_append]
theorem lo_take {l : List Pr} (h : Inc l) (k : Int) : l.take (lo l k).length = lo l k := by
  conv => lhs; rw [lo_ge h k]
  rw [List.take_left']
  rw [← lo_ge h k]
theorem ge_drop {l : List Pr} (h : Inc l) (k : Int) : l.drop (lo l k).length = ge l k := by
  conv => lhs; rw [lo_ge h k]
  rw [List.drop_left']
  rw [← lo_ge h k]
theorem lo_len (l : List Pr) (k : Int) : (lo l k).length ≤ l.length := List.length_filter_le ..
theorem mem_lo {l : List Pr} {k : Int} {p : Pr} : p ∈ lo l k ↔ p ∈ l ∧ p.1 < k := by simp [lo]
theorem mem_ge {l : List Pr} {k : Int} {p : Pr} : p ∈ ge l k ↔ p ∈ l ∧ k ≤ p.1 := by simp [ge]
theorem mem_hi {l : List Pr} {k : Int} {p : Pr} : p ∈ hi l k ↔ p ∈ l ∧ k < p.1 := by simp [hi]
/-- a place is behind those that are less just if its key is not less -/
theorem at_ge {l : List Pr} (h : Inc l) (k : Int) (i : Nat) (hi : i < l.length) : k ≤ (l[i]).1 ↔ (lo l k).length ≤ i := by
  have e := lo_ge h k
  have e2 : l[i]? = (lo l k ++ ge l k)[i]? := by rw [← e]
  rw [List.getElem?_eq_getElem hi] at e2
  constructor
  · intro h1
    rcases Nat.lt_or_ge i (lo l k).length with h2 | h2
    · rw [List.getElem?_append_left h2, List.getElem?_eq_getElem h2, Option.some.injEq] at e2
      have := (mem_lo.1 (List.getElem_mem h2)).2
      rw [e2] at h1; omega
    · exact h2
  · intro h1
    rw [List.getElem?_append_right h1] at e2
    exact (mem_ge.1 (List.mem_of_getElem? e2.symm)).2
/-- the first that is not less -/
theorem ge_head {l : List Pr} (h : Inc l) (k : Int) : (ge l k)[0]? = none ∧ getL l k = none ∧ hi l k = ge l k ∨
    ∃ p, (ge l k)[0]? = some p ∧ (p.1 = k ∧ getL l k = some p.2 ∧ hi l k = (ge l k).drop 1 ∨ p.1 ≠ k ∧ getL l k = none ∧ hi l k = ge l k) := by
  have hs : Inc (ge l k) := h.sub List.filter_sublist
  have none_of : (∀ x ∈ l, x.1 ≠ k) → getL l k = none ∧ hi l k = ge l k := fun hn => by
    refine ⟨?_, ?_⟩
    · simp only [getL, Option.map_eq_none_iff, List.find?_eq_none, decide_eq_true_eq]; exact hn
    · exact List.filter_congr fun x hx => by have := hn x hx; simp; omega
  cases hg : ge l k with
  | nil =>
    refine .inl ⟨rfl, ?_⟩
    rw [← hg]
    refine none_of fun x hx e => ?_
    have : x ∈ ge l k := mem_ge.2 ⟨hx, by omega⟩
    rw [hg] at this; cases this
  | cons p r =>
    refine .inr ⟨p, rfl, ?_⟩
    rw [hg] at hs
    have h1 := List.pairwise_cons.1 hs
    by_cases hp : p.1 = k
    · refine .inl ⟨hp, ?_, ?_⟩
      · have hm : p ∈ l := (mem_ge.1 (by rw [hg]; exact List.mem_cons_self)).1
        unfold getL
        cases hf : l.find? (fun p => decide (p.1 = k)) with
        | none => exact absurd hp (by simpa using List.find?_eq_none.1 hf p hm)
        | some q =>
          have hq : q.1 = k := by simpa using List.find?_some hf
          have hqm : q ∈ ge l k := mem_ge.2 ⟨List.mem_of_find?_eq_some hf, by omega⟩
          rw [hg] at hqm
          rcases List.mem_cons.1 hqm with rfl | hqr
          · rfl
          · have := h1.1 q hqr; omega
      · have : hi l k = hi (ge l k) k := by
          unfold hi ge; rw [List.filter_filter]; exact List.filter_congr fun x hx => by simp; omega
        rw [this, hg]
        have e1 : hi (p :: r) k = hi r k := by simp [hi, hp]
        rw [e1, List.drop_one, List.tail_cons]
        unfold hi; rw [List.filter_eq_self]; intro x hx; have := h1.1 x hx; simp; omega
    · refine .inr ⟨hp, ?_⟩
      rw [← hg]
      refine none_of fun x hx e => ?_
      have hx2 : x ∈ ge l k := mem_ge.2 ⟨hx, by omega⟩
      have hp2 : p ∈ ge l k := by rw [hg]; exact List.mem_cons_self
      have := (mem_ge.1 hp2).2
      rw [hg] at hx2
      rcases List.mem_cons.1 hx2 with rfl | hxr
      · exact hp e
      · have := h1.1 x hxr; omega
theorem lo_hi {l : List Pr} (h : Inc l) (k : Int) : lo l k ++ hi l k = delL l k := by
  have e : delL l k = delL (lo l k) k ++ delL (ge l k) k := by
    have h2 : delL (lo l k ++ ge l k) k = delL (lo l k) k ++ delL (ge l k) k := List.filter_append ..
    rw [← lo_ge h k] at h2; exact h2
  rw [e]
  congr 1
  · unfold delL lo; rw [List.filter_filter]; refine List.filter_congr fun x hx => ?_
    by_cases h1 : x.1 < k <;> simp [h1]; omega
  · unfold delL ge hi; rw [List.filter_filter]; refine List.filter_congr fun x hx => ?_
    by_cases h1 : k < x.1 <;> by_cases h2 : x.1 = k <;> simp [h1, h2] <;> omega
theorem putL_inc {l : List Pr} (h : Inc l) (k n : Int) : Inc (putL l k n) := by
  unfold Inc putL
  rw [List.pairwise_append, List.pairwise_cons]
  refine ⟨h.sub List.filter_sublist, ⟨fun p hp => (mem_hi.1 hp).2, h.sub List.filter_sublist⟩, fun p hp q hq => ?_⟩
  have := (mem_lo.1 hp).2
  rcases List.mem_cons.1 hq with rfl | hq
  · exact this
  · have := (mem_hi.1 hq).2; omega
theorem delL_inc {l : List Pr} (h : Inc l) (k : Int) : Inc (delL l k) := h.sub List.filter_sublist
theorem putL_len (l : List Pr) (k n : Int) : (putL l k n).length ≤ l.length + 1 := by
  have : ∀ l : List Pr, (lo l k).length + (hi l k).length ≤ l.length := fun l => by
    induction l with
    | nil => simp [lo, hi]
    | cons p l ih =>
      by_cases h1 : p.1 < k
      · simp only [lo, hi, List.filter_cons, h1, decide_true, if_true, show ¬ k < p.1 by omega, decide_false, List.length_cons] at ih ⊢; simp; omega
      · by_cases h2 : k < p.1
        · simp only [lo, hi, List.filter_cons, h1, h2, decide_true, decide_false, if_true, List.length_cons] at ih ⊢; simp; omega
        · simp only [lo, hi, List.filter_cons, h1, h2, decide_false, List.length_cons] at ih ⊢; simp; omega
  have := this l
  simp only [putL, List.length_append, List.length_cons]; omega
theorem delL_len (l : List Pr) (k : Int) : (delL l k).length ≤ l.length := List.length_filter_le ..
/-! ## what is found -/
theorem inc_key {l : List Pr} (h : Inc l) {p q : Pr} (hp : p ∈ l) (hq : q ∈ l) (e : p.1 = q.1) : p = q := by
  induction l with
  | nil => cases hp
  | cons x l ih =>
    have h1 := List.pairwise_cons.1 h
    rcases List.mem_cons.1 hp with hpx | hp <;> rcases List.mem_cons.1 hq with hqx | hq
    · rw [hpx, hqx]
    · have := h1.1 q hq; rw [← hpx] at this; omega
    · have := h1.1 p hp; rw [← hqx] at this; omega
    · exact ih h1.2 hp hq
theorem getL_some {l : List Pr} (h : Inc l) {k n : Int} : getL l k = some n ↔ (k, n) ∈ l := by
  unfold getL
  constructor
  · intro e
    obtain ⟨p, hp, rfl⟩ := Option.map_eq_some_iff.1 e
    have h1 : p.1 = k := by simpa using List.find?_some hp
    subst h1
    exact List.mem_of_find?_eq_some hp
  · intro hm
    cases hf : l.find? (fun p => decide (p.1 = k)) with
    | none => have := List.find?_eq_none.1 hf (k, n) hm; simp at this
    | some q =>
      have hq : q.1 = k := by simpa using List.find?_some hf
      have := inc_key h (List.mem_of_find?_eq_some hf) hm hq
      subst this; rfl
theorem getL_ext {l m : List Pr} (h : Inc l) (hm : Inc m) {k : Int} (e : ∀ n, (k, n) ∈ l ↔ (k, n) ∈ m) : getL l k = getL m k := by
  refine Option.ext fun n => ?_
  rw [getL_some h, getL_some hm, e]
theorem mem_put {l : List Pr} {k n : Int} {p : Pr} : p ∈ putL l k n ↔ p = (k, n) ∨ p ∈ l ∧ p.1 ≠ k := by
  simp only [putL, List.mem_append, List.mem_cons, mem_lo, mem_hi]
  constructor
  · rintro (⟨h1, h2⟩ | rfl | ⟨h1, h2⟩)
    · exact .inr ⟨h1, by omega⟩
    · exact .inl rfl
    · exact .inr ⟨h1, by omega⟩
  · rintro (rfl | ⟨h1, h2⟩)
    · exact .inr (.inl rfl)
    · rcases Int.lt_or_gt_of_ne h2 with h3 | h3
      · exact .inl ⟨h1, h3⟩
      · exact .inr (.inr ⟨h1, h3⟩)
theorem mem_del {l : List Pr} {k : Int} {p : Pr} : p ∈ delL l k ↔ p ∈ l ∧ p.1 ≠ k := by simp [delL]
theorem get_put_same {l : List Pr} (h : Inc l) (k n : Int) : getL (putL l k n) k = some n := (getL_some (putL_inc h k n)).2 (mem_put.2 (.inl rfl))
theorem get_put_else {l : List Pr} (h : Inc l) {k k' : Int} (n : Int) (hk : k' ≠ k) : getL (putL l k n) k' = getL l k' :=
  getL_ext (putL_inc h k n) h fun m => by
    rw [mem_put]
    constructor
    · rintro (e | ⟨h1, _⟩)
      · simp only [Prod.mk.injEq] at e; exact absurd e.1 hk
      · exact h1
    · exact fun h1 => .inr ⟨h1, hk⟩
theorem get_del_same {l : List Pr} (h : Inc l) (k : Int) : getL (delL l k) k = none := by
  cases e : getL (delL l k) k with
  | none => rfl
  | some n => exact absurd rfl (mem_del.1 ((getL_some (delL_inc h k)).1 e)).2
theorem get_del_else {l : List Pr} (h : Inc l) {k k' : Int} (hk : k' ≠ k) : getL (delL l k) k' = getL l k' :=
  getL_ext (delL_inc h k) h fun m => by
    rw [mem_del]; exact ⟨fun h => h.1, fun h => ⟨h, hk⟩⟩
/-- lists by rising keys with the same pairs are the same -/
theorem inc_ext : ∀ {l m : List Pr}, Inc l → Inc m → (∀ p, p ∈ l ↔ p ∈ m) → l = m
  | [], [], _, _, _ => rfl
  | [], q :: m, _, _, e => by have := (e q).2 List.mem_cons_self; cases this
  | p :: l, [], _, _, e => by have := (e p).1 List.mem_cons_self; cases this
  | p :: l, q :: m, h, hm, e => by
    have h1 := List.pairwise_cons.1 h
    have h2 := List.pairwise_cons.1 hm
    have hpq : p = q := by
      rcases List.mem_cons.1 ((e p).1 List.mem_cons_self) with h3 | h3
      · exact h3
      · rcases List.mem_cons.1 ((e q).2 List.mem_cons_self) with h4 | h4
        · exact h4.symm
        · have := h2.1 p h3; have := h1.1 q h4; omega
    subst hpq
    rw [inc_ext h1.2 h2.2 fun x => ?_]
    constructor
    · intro hx
      rcases List.mem_cons.1 ((e x).1 (List.mem_cons_of_mem _ hx)) with rfl | h3
      · have := h1.1 x hx; omega
      · exact h3
    · intro hx
      rcases List.mem_cons.1 ((e x).2 (List.mem_cons_of_mem _ hx)) with rfl | h3
      · have := h2.1 x hx; omega
      · exact h3
theorem del_none {l : List Pr} (h : Inc l) {k : Int} (hk : getL l k = none) : delL l k = l := by
  refine List.filter_eq_self.2 fun p hp => ?_
  simp only [ne_eq, decide_eq_true_eq]
  intro e
  have : getL l k = some p.2 := (getL_some h).2 (by rw [← e]; exact hp)
  rw [hk] at this; cases this
theorem del_put {l : List Pr} (h : Inc l) (k n : Int) : delL (putL l k n) k = delL l k :=
  inc_ext (delL_inc (putL_inc h k n) k) (delL_inc h k) fun p => by
    rw [mem_del, mem_del, mem_put]
    constructor
    · rintro ⟨rfl | ⟨h1, _⟩, h2⟩
      · exact absurd rfl h2
      · exact ⟨h1, h2⟩
    · exact fun ⟨h1, h2⟩ => ⟨.inr ⟨h1, h2⟩, h2⟩
theorem lo_mono (l : List Pr) {a b : Int} (h : a ≤ b) : (lo l a).length ≤ (lo l b).length := by
  induction l with
  | nil => simp [lo]
  | cons p l ih =>
    by_cases h1 : p.1 < a
    · simp only [lo, List.filter_cons, h1, show p.1 < b by omega, decide_true, if_true, List.length_cons] at ih ⊢; omega
    · by_cases h2 : p.1 < b
      · simp only [lo, List.filter_cons, h1, h2, decide_true, decide_false, if_true, List.length_cons] at ih ⊢; simp; omega
      · simp only [lo, List.filter_cons, h1, h2, decide_false] at ih ⊢; simpa using ih
theorem lo_at {l : List Pr} (h : Inc l) (i : Nat) (hi : i < l.length) : (lo l (l[i]).1).length = i := by
  have h1 := (at_ge h (l[i]).1 i hi).1 (Int.le_refl _)
  rcases Nat.lt_or_ge (lo l (l[i]).1).length i with h2 | h2
  · have h3 := (at_ge h (l[i]).1 _ (by omega)).2 (Nat.le_refl _)
    have h4 := List.pairwise_iff_getElem.1 h _ _ (by omega) hi h2
    omega
  · omega
end Go.Proofs.Ytaoiffinodfcfaa
