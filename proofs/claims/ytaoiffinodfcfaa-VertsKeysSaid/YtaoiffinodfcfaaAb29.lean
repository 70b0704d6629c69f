/-
  A new row that a call hands back, as data.
  Conditions: none.
-/
import Derived.Test.YtaoiffinodfcfaaAb23
namespace Go.Ab
open Go.RowKit

theorem FCalls.a {P : Program} {k : Nat} {args : List PV} {b : Blk} (h : FCalls P k args b) : ACalls P k args (.sl b.elems) where
  plain := h.plain
  calls := fun S w vs hs hr => by
    refine (h.calls S w vs hs hr).mono ?_
    rintro e w' ⟨bi, rfl, B, hb⟩
    refine ⟨_, rfl, ?_, hb⟩
    cases hbase : bi.base with
    | none =>
      have h1 := B.nil hbase
      have h2 := B.cap
      have h3 := B.len
      have h0 : b.elems = [] := List.length_eq_zero_iff.1 (by omega)
      rw [h0, h1]
      exact .slNil
    | some k =>
      obtain ⟨hk, cells, hh, hsize, hrep⟩ := B.row (by rw [B.kd, h.row]; rfl) k hbase
      have hcell : ∀ (i : Nat) (e : PV) (j : Nat) (c : PV), b.elems[i]? = some e → e.cells[j]? = some c → ∃ v, cells[i * b.sz + j]? = some v := fun i e j c hi hj => by
        have hi' := (List.getElem?_eq_some_iff.1 hi).1
        have hj' := (List.getElem?_eq_some_iff.1 hj).1
        have hsz := (B.shape e (List.mem_of_getElem? hi)).1
        have h1 : i * b.sz + j < b.elems.length * b.sz := idx_lt hi' (by omega)
        have h2 : b.elems.length * b.sz ≤ bi.cap * b.sz := Nat.mul_le_mul_right _ (by rw [← B.len]; exact B.cap)
        exact ⟨_, Array.getElem?_eq_getElem (by omega)⟩
      refine .slAt b.sz _ k 0 _ _ (fun i j => cells.getD (i * b.sz + j) undef) rfl (by rw [← B.len]; exact B.cap) (fun e he => (B.shape e he).1) (fun e he => (B.shape e he).2) (fun i e j c hi hj => ?_) (fun i e j c hi hj => ?_)
      · obtain ⟨v, hv⟩ := hcell i e j c hi hj
        have e1 : cells.getD (i * b.sz + j) undef = v := by simp [Array.getD_eq_getD_getElem?, hv]
        exact ⟨by simp only [World.cell?, hh]; rw [e1]; simpa using hv, .inr hk⟩
      · obtain ⟨v, hv⟩ := hcell i e j c hi hj
        have e1 : cells.getD (i * b.sz + j) undef = v := by simp [Array.getD_eq_getD_getElem?, hv]
        simp only [e1]
        exact (hrep i e j c v hi hj hv).mono fun a v hS hc => ⟨hc, hS.1⟩

/-- a row that is nil, as data -/
theorem AW_dat {P : Program} {N : Nat} {c : Code} {K : Exit → ASt → Prop} {s : ASt} (i : Nat) (hi : s.t i = .nil) (h : AW P N c K { s with t := upd s.t i (.c (.sl [])) }) : AW P N c K s := by
  intro S0 w0 a w hR
  obtain ⟨ρ, hR⟩ := hR
  refine h S0 w0 a w ⟨ρ, { hR with slots := fun j => ?_ }⟩
  have := hR.slots j
  simp only [upd]
  split
  · rename_i e; subst e
    rw [hi] at this
    generalize a.tmps.getD j undef = v at this
    cases this
    exact .c _ _ .slNil
  · exact this
theorem dat {P : Program} {N : Nat} {c : Code} {K : Exit → ASt → Prop} {s s1 : ASt} (i : Nat) (h : AW P N c K s1) (hi : s.t i = .nil := by exact Go.Ab.evR)
    (hs : ASt.mk (upd s.t i (.c (.sl []))) s.m s.g = s1 := by exact Go.Ab.evR) : AW P N c K s := AW_dat i hi (by rw [show ({ s with t := upd s.t i (.c (.sl [])) } : ASt) = s1 from hs]; exact h)

/-- a row (a variable, a map) that is written no more: what the slot holds is data from here on -/
theorem AW_dt {P : Program} {N : Nat} {c : Code} {K : Exit → ASt → Prop} {s : ASt} (i : Nat) (id : Id) {b : Blk} {p : Prop} {q : PV} (hm : s.m id = some b) (hq : closeV (updM s.m id (some { b with rw := false })) (s.t i) = some (p, q)) (hp : p)
    (h : AW P N c K { s with t := upd s.t i (.c q), m := updM s.m id (some { b with rw := false }) }) : AW P N c K s := by
  refine AW_ro id ?_ hm
  intro S0 w0 a w hR
  obtain ⟨ρ, hR⟩ := hR
  refine h S0 w0 a w ⟨ρ, { hR with slots := fun j => ?_ }⟩
  have hj := hR.slots j
  simp only [upd]
  split
  · rename_i e; subst e
    exact .c _ _ (closeV_rep hR hj hq hp).1
  · exact hj
theorem dt {P : Program} {N : Nat} {c : Code} {K : Exit → ASt → Prop} {s s1 : ASt} (i : Nat) (id : Id) {b : Blk} {p : Prop} {q : PV} (h : AW P N c K s1) (hm : s.m id = some b := by exact Go.Ab.evR)
    (hq : closeV (updM s.m id (some { b with rw := false })) (s.t i) = some (p, q) := by exact Go.Ab.evR) (hp : p := by exact Go.Ab.vc)
    (hs : ASt.mk (upd s.t i (.c q)) (updM s.m id (some { b with rw := false })) s.g = s1 := by exact Go.Ab.evR) : AW P N c K s := AW_dt i id hm hq hp (by rw [show ({ s with t := upd s.t i (.c q), m := updM s.m id (some { b with rw := false }) } : ASt) = s1 from hs]; exact h)

/-- a state, forgotten down to lists, one block named anew -/
theorem wkr {s : ASt} {lt : List (Nat × SV)} {lm : List (Id × Option Blk)} {G : Nat} (A B : Id) (ht : All (fun x => ren (sw A B) x.2 = s.t x.1) lt := by exact Go.Ab.vc) (hg : All (fun x => mentLt G x.2 = true) lt := by exact Go.Ab.vc)
    (hm : All (fun x : Id × Option Blk => x.2 = s.m (sw A B x.1)) lm := by exact Go.Ab.vc) (hl : All (fun x : Id × Option Blk => (match x.2 with | some b => b.ls = [] | none => True)) lm := by exact Go.Ab.vc) (hmg : All (blkLt G) lm := by exact Go.Ab.vc)
    (hi : All (fun x : Id × Option Blk => x.1 = A ∨ x.1 ≠ B) lm := by exact Go.Ab.vc) (h0 : A.1 ≠ 0 ∧ B.1 ≠ 0 := by exact Go.Ab.vc) : ∃ r, Weak r s ⟨lk lt, lkM lm, lkG [] G⟩ :=
  ⟨sw A B, weak_lists lt lm G (fun x hx => ht.get1 x hx) (fun x hx id hid => mentLt_ment (hg.get1 x hx) hid)
    (fun x hx b hb => ⟨⟨b, by have := hm.get1 x hx; rw [hb] at this; exact this.symm, rfl, rfl, rfl, .inl rfl, by have := hl.get1 x hx; rw [hb] at this; simp only at this; rw [this]; rfl, rfl⟩, (hmg.get1 x hx).1⟩)
    (fun x hx p ls e l hl => by have := hg.get1 x hx; rw [e] at this; exact lsLt_at this l hl)
    (fun x hx b hb l hl => by have := (hmg.get1 x hx).2; rw [hb] at this; exact lsLt_at this l hl)
    (fun x hx y hy e => by
      have h1 := hi.get1 x hx
      have h2 := hi.get1 y hy
      simp only [sw] at e
      by_cases e1 : x.1 = A <;> by_cases e2 : y.1 = A
      · rw [e1, e2]
      · rw [if_pos e1, if_neg e2] at e; exact absurd e.symm (h2.resolve_left e2)
      · rw [if_neg e1, if_pos e2] at e; exact absurd e (h1.resolve_left e1)
      · rw [if_neg e1, if_neg e2] at e; exact e)
    (fun x hx => by
      simp only [sw]
      split
      · rename_i e; rw [e]; exact ⟨⟨fun h => absurd h h0.1, fun h => absurd h h0.2⟩, fun h => absurd h h0.1⟩
      · exact ⟨Iff.rfl, fun _ e => e⟩)⟩
end Go.Ab
