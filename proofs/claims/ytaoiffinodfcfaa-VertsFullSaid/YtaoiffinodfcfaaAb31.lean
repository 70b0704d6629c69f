/-
  A function that captures nothing, named as such, as data.
  Conditions: none.
-/
import Derived.Test.YtaoiffinodfcfaaAb29
namespace Go.Ab
open Go.RowKit

theorem ACalls.args {P : Program} {k : Nat} {as bs : List PV} {r : PV} (h : ACalls P k as r) (hl : bs.length = as.length)
    (hh : ∀ (i : Nat) (p : PV), as[i]? = some p → ∃ q, bs[i]? = some q ∧ ∀ (w : World) (S : Addr → Prop) (v : Value), Rep w S q v → Rep w S p v) : ACalls P k bs r where
  plain := h.plain
  calls := fun S w vs hs hr => h.calls S w vs (by rw [hs, hl]) fun i p v hp hv => by
    obtain ⟨q, hq, hc⟩ := hh i p hp
    exact hc w S v (hr i q v hq hv)
/-- a function handed on under its name, where one that captures nothing is looked for -/
theorem ACalls.fnV {P : Program} {k f : Nat} {a b : List PV} {r : PV} (h : ACalls P k (a ++ .fn f [] :: b) r) : ACalls P k (a ++ .v (.func (.func f) #[] #[]) :: b) r := by
  refine h.args (by simp) fun i p hp => ?_
  rcases Nat.lt_trichotomy i a.length with h1 | h1 | h1
  · rw [List.getElem?_append_left h1] at hp ⊢
    exact ⟨p, hp, fun _ _ _ h => h⟩
  · subst h1
    rw [List.getElem?_append_right (Nat.le_refl _), Nat.sub_self] at hp ⊢
    simp only [List.getElem?_cons_zero, Option.some.injEq] at hp ⊢
    subst hp
    refine ⟨_, rfl, fun w S v hv => ?_⟩
    cases hv
    exact .fn f [] #[] rfl fun i c x hc _ => by simp at hc
  · obtain ⟨j, hj⟩ : ∃ j, i - a.length = j + 1 := ⟨i - a.length - 1, by omega⟩
    rw [List.getElem?_append_right (by omega), hj] at hp ⊢
    exact ⟨p, hp, fun _ _ _ h => h⟩
/-- an operation whose test is known not to hold: passed over, whatever its slot would hold -/
theorem skpV {P : Program} {ops : Array Oper} {s : ASt} {o : Oper} {l : List Oper} {Λ : List Lab} {K : ASt → List Lab → Prop} (x : SV) (hk : Gos P ops l (s.app o (.when false x) .none) (Λ ++ [labS s o .none]) K) (hx : plainV x = true := by rfl)
    (hg : guardS ops o s = some false := by exact Go.Ab.evR) (hgd : o.guard.isSome = true := by rfl) : Gos P ops (o :: l) s Λ K := by
  have hw : wrapG o false x = .when false x := by unfold wrapG; cases h : o.guard <;> simp_all
  refine ⟨_, _, ?_, hk⟩
  rw [← hw]
  exact stepL_sym hg (by unfold effG; cases o.guard <;> rfl) rfl hx (fun e => by cases e) (fun e => by cases e) (.inr (.inl fun _ _ e => by cases e))
/-- a state, forgotten down to lists, two blocks named anew -/
theorem wkr2 {s : ASt} {lt : List (Nat × SV)} {lm : List (Id × Option Blk)} {G : Nat} (A B C D : Id) (ht : All (fun x => ren (fun i => sw A B (sw C D i)) x.2 = s.t x.1) lt := by exact Go.Ab.vc) (hg : All (fun x => mentLt G x.2 = true) lt := by exact Go.Ab.vc)
    (hm : All (fun x : Id × Option Blk => x.2 = s.m (sw A B (sw C D x.1))) lm := by exact Go.Ab.vc) (hl : All (fun x : Id × Option Blk => (match x.2 with | some b => b.ls = [] | none => True)) lm := by exact Go.Ab.vc) (hmg : All (blkLt G) lm := by exact Go.Ab.vc)
    (hi : All (fun x : Id × Option Blk => x.1 = A ∨ x.1 = C ∨ x.1 ≠ B ∧ x.1 ≠ D) lm := by exact Go.Ab.vc) (h0 : A.1 ≠ 0 ∧ B.1 ≠ 0 ∧ C.1 ≠ 0 ∧ D.1 ≠ 0 := by exact Go.Ab.vc) (hd : A ≠ C ∧ A ≠ D ∧ B ≠ D := by decide) : ∃ r, Weak r s ⟨lk lt, lkM lm, lkG [] G⟩ := by
  have rA : sw A B (sw C D A) = B := by simp [sw, hd.1]
  have rC : sw A B (sw C D C) = D := by simp [sw, Ne.symm hd.2.1]
  have rE : ∀ i, i ≠ A → i ≠ C → sw A B (sw C D i) = i := fun i h1 h2 => by simp [sw, h1, h2]
  refine ⟨fun i => sw A B (sw C D i), weak_lists lt lm G (fun x hx => ht.get1 x hx) (fun x hx id hid => mentLt_ment (hg.get1 x hx) hid)
    (fun x hx b hb => ⟨⟨b, by have := hm.get1 x hx; rw [hb] at this; exact this.symm, rfl, rfl, rfl, .inl rfl, by have := hl.get1 x hx; rw [hb] at this; simp only at this; rw [this]; rfl, rfl⟩, (hmg.get1 x hx).1⟩)
    (fun x hx p ls e l hl => by have := hg.get1 x hx; rw [e] at this; exact lsLt_at this l hl)
    (fun x hx b hb l hl => by have := (hmg.get1 x hx).2; rw [hb] at this; exact lsLt_at this l hl)
    (fun x hx y hy e => ?_) (fun x hx => ?_)⟩
  · have h1 := hi.get1 x hx
    have h2 := hi.get1 y hy
    by_cases e1 : x.1 = A <;> by_cases e2 : y.1 = A
    · rw [e1, e2]
    · by_cases e4 : y.1 = C
      · rw [e1, e4, rA, rC] at e; exact absurd e hd.2.2
      · rw [e1, rA, rE _ e2 e4] at e; exact absurd e.symm ((h2.resolve_left e2).resolve_left e4).1
    · by_cases e3 : x.1 = C
      · rw [e2, e3, rA, rC] at e; exact absurd e.symm hd.2.2
      · rw [e2, rA, rE _ e1 e3] at e; exact absurd e ((h1.resolve_left e1).resolve_left e3).1
    · by_cases e3 : x.1 = C <;> by_cases e4 : y.1 = C
      · rw [e3, e4]
      · rw [e3, rC, rE _ e2 e4] at e; exact absurd e.symm ((h2.resolve_left e2).resolve_left e4).2
      · rw [e4, rC, rE _ e1 e3] at e; exact absurd e ((h1.resolve_left e1).resolve_left e3).2
      · rw [rE _ e1 e3, rE _ e2 e4] at e; exact e
  · by_cases e1 : x.1 = A
    · rw [e1, rA]; exact ⟨⟨fun h => absurd h h0.1, fun h => absurd h h0.2.1⟩, fun h => absurd h h0.1⟩
    · by_cases e3 : x.1 = C
      · rw [e3, rC]; exact ⟨⟨fun h => absurd h h0.2.2.1, fun h => absurd h h0.2.2.2⟩, fun h => absurd h h0.2.2.1⟩
      · rw [rE _ e1 e3]; exact ⟨Iff.rfl, fun _ e => e⟩
end Go.Ab
