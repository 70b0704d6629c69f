/-
  A new row that a call hands back, as data.
  Conditions: none.
-/
import Derived.Test.YtinlmjgdhkalnaaAb23
namespace Go.Ab
open Go.RowKit

theorem FCalls.a {P : Program} {k : Nat} {args : List PV} {b : Blk} (h : FCalls P k args b) : ACalls P k args (.sl b.elems) where
  plain := h.plain
  calls := fun S w vs hs hr => by
    refine (h.calls S w vs hs hr).mono ?_
    rintro e w' ⟨bi, rfl, B, hb⟩
    refine ⟨_, rfl, ?_, hb⟩
    cases hbase : bi.base with
    | none =>
      have h1 := B.nil hbase
      have h2 := B.cap
      have h3 := B.len
      have h0 : b.elems = [] := List.length_eq_zero_iff.1 (by omega)
      rw [h0, h1]
      exact .slNil
    | some k =>
      obtain ⟨hk, cells, hh, hsize, hrep⟩ := B.at_ k hbase
      have hcell : ∀ (i : Nat) (e : PV) (j : Nat) (c : PV), b.elems[i]? = some e → e.cells[j]? = some c → ∃ v, cells[i * b.sz + j]? = some v := fun i e j c hi hj => by
        have hi' := (List.getElem?_eq_some_iff.1 hi).1
        have hj' := (List.getElem?_eq_some_iff.1 hj).1
        have hsz := (B.shape e (List.mem_of_getElem? hi)).1
        have h1 : i * b.sz + j < b.elems.length * b.sz := idx_lt hi' (by omega)
        have h2 : b.elems.length * b.sz ≤ bi.cap * b.sz := Nat.mul_le_mul_right _ (by rw [← B.len]; exact B.cap)
        exact ⟨_, Array.getElem?_eq_getElem (by omega)⟩
      refine .slAt b.sz _ k 0 _ _ (fun i j => cells.getD (i * b.sz + j) undef) rfl (by rw [← B.len]; exact B.cap) (fun e he => (B.shape e he).1) (fun e he => (B.shape e he).2) (fun i e j c hi hj => ?_) (fun i e j c hi hj => ?_)
      · obtain ⟨v, hv⟩ := hcell i e j c hi hj
        have e1 : cells.getD (i * b.sz + j) undef = v := by simp [Array.getD_eq_getD_getElem?, hv]
        exact ⟨by simp only [World.cell?, hh]; rw [e1]; simpa using hv, .inr hk⟩
      · obtain ⟨v, hv⟩ := hcell i e j c hi hj
        have e1 : cells.getD (i * b.sz + j) undef = v := by simp [Array.getD_eq_getD_getElem?, hv]
        simp only [e1]
        exact (hrep i e j c v hi hj hv).mono fun a v hS hc => ⟨hc, hS.1⟩

/-- a row that is nil, as data -/
theorem AW_dat {P : Program} {N : Nat} {c : Code} {K : Exit → ASt → Prop} {s : ASt} (i : Nat) (hi : s.t i = .nil) (h : AW P N c K { s with t := upd s.t i (.c (.sl [])) }) : AW P N c K s := by
  intro S0 w0 a w hR
  obtain ⟨ρ, hR⟩ := hR
  refine h S0 w0 a w ⟨ρ, { hR with slots := fun j => ?_ }⟩
  have := hR.slots j
  simp only [upd]
  split
  · rename_i e; subst e
    rw [hi] at this
    generalize a.tmps.getD j undef = v at this
    cases this
    exact .c _ _ .slNil
  · exact this
theorem dat {P : Program} {N : Nat} {c : Code} {K : Exit → ASt → Prop} {s s1 : ASt} (i : Nat) (h : AW P N c K s1) (hi : s.t i = .nil := by exact Go.Ab.evR)
    (hs : ASt.mk (upd s.t i (.c (.sl []))) s.m s.g = s1 := by exact Go.Ab.evR) : AW P N c K s := AW_dat i hi (by rw [show ({ s with t := upd s.t i (.c (.sl [])) } : ASt) = s1 from hs]; exact h)
end Go.Ab
