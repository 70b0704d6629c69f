/-
  Plain values in place of memory: what a value of the model says as a tree of data (PV), what a frame's slots hold (SV), the blocks that a call makes for itself; and the relation between them and a frame in a world. Steps of the relation: a slot is written, a block is made, a block is written.
  Conditions: none.
-/
import Derived.WalkKit
import Derived.Below
namespace Go.Ab
open Go.RowKit

/-- plain data: no memory of the call's own in it -/
inductive PV where
  | v (x : Value)
  | agg (cs : List PV)
  | tup (vs : List PV)
  | sl (l : List PV)
  | ref (x : PV)
  | iface (t : TypeId) (x : PV)
  | hole
  | fn (k : Nat) (cs : List PV)
  | mp (k : IntKind) (ks : List Int) (vs : List PV)

instance : Inhabited PV := ⟨.v undef⟩

def PV.cells : PV → List PV
  | .agg cs => cs
  | x => [x]
def PV.one : PV → Bool
  | .v x => x.oneCell'
  | .agg _ => false
  | .tup _ => false
  | _ => true

/-- what stands at an address: a cell's value, or a map -/
def rd (w : World) (a : Addr) : Option (Value ⊕ (Array MapEntry × Nat)) :=
  match w.heap[a.block]? with
  | some (.map es c) => if a.off = 0 ∧ a.spot = none then some (.inr (es, c)) else none
  | _ => (w.cell? a).map .inl
theorem rd_cell {w : World} {a : Addr} {v : Value} (h : w.cell? a = some v) : rd w a = some (.inl v) := by
  unfold rd
  split
  · rename_i e; simp [World.cell?, e] at h
  · rw [h]; rfl
theorem cell_rd {w : World} {a : Addr} {v : Value} (h : rd w a = some (.inl v)) : w.cell? a = some v := by
  unfold rd at h
  split at h
  · split at h <;> simp at h
  · simpa using h
theorem rd_map {w : World} {k : Nat} {es : Array MapEntry} {c : Nat} (h : w.heap[k]? = some (.map es c)) : rd w ⟨k, 0, none⟩ = some (.inr (es, c)) := by
  simp [rd, h]
theorem map_rd {w : World} {a : Addr} {es : Array MapEntry} {c : Nat} (h : rd w a = some (.inr (es, c))) : w.heap[a.block]? = some (.map es c) ∧ a = ⟨a.block, 0, none⟩ := by
  unfold rd at h
  split at h
  · rename_i e
    split at h
    · rename_i e2
      simp only [Option.some.injEq, Sum.inr.injEq, Prod.mk.injEq] at h
      obtain ⟨rfl, rfl⟩ := h
      refine ⟨e, ?_⟩
      obtain ⟨b, o, s⟩ := a
      simp only at e2
      obtain ⟨rfl, rfl⟩ := e2
      rfl
    · cases h
  · cases h' : w.cell? a <;> simp [h'] at h
theorem rd_of_block {w w' : World} {a : Addr} (h : w'.heap[a.block]? = w.heap[a.block]?) : rd w' a = rd w a := by
  unfold rd World.cell?; rw [h]
theorem rd_lt {w : World} {a : Addr} {v : Value ⊕ (Array MapEntry × Nat)} (h : rd w a = some v) : a.block < w.heap.size := by
  rcases Nat.lt_or_ge a.block w.heap.size with h' | h'
  · exact h'
  · simp [rd, World.cell?, Array.getElem?_eq_none h'] at h
theorem rd_spot {w : World} {a : Addr} {v : Value ⊕ (Array MapEntry × Nat)} (h : rd w a = some v) : a.spot = none := by
  cases e : a.spot with
  | none => rfl
  | some z =>
    unfold rd at h
    split at h
    · simp [e] at h
    · simp only [World.cell?, e, Option.isSome_some, if_true] at h
      split at h <;> simp at h

/-- 'a value of the model is this data, read in the world w; all memory that is read lies in S' -/
inductive Rep (w : World) (S : Addr → Prop) : PV → Value → Prop
  | v (x : Value) : Rep w S (.v x) x
  | agg (cs : List PV) (vs : Array Value) (hl : cs.length = vs.size) (h1 : ∀ c ∈ cs, c.one = true)
      (h : ∀ (i : Nat) (c : PV) (x : Value), cs[i]? = some c → vs[i]? = some x → Rep w S c x) : Rep w S (.agg cs) (.agg vs)
  | tup (cs : List PV) (vs : Array Value) (hl : cs.length = vs.size)
      (h : ∀ (i : Nat) (c : PV) (x : Value), cs[i]? = some c → vs[i]? = some x → Rep w S c x) : Rep w S (.tup cs) (.tuple vs)
  | slNil : Rep w S (.sl []) (.slice none 0 0)
  | slAt (sz : Nat) (l : List PV) (b o n cap : Nat) (f : Nat → Nat → Value) (hn : n = l.length) (hcap : n ≤ cap)
      (hsz : ∀ e ∈ l, e.cells.length = sz) (h1 : ∀ e ∈ l, ∀ c ∈ e.cells, c.one = true)
      (hcell : ∀ (i : Nat) (e : PV) (j : Nat) (c : PV), l[i]? = some e → e.cells[j]? = some c → w.cell? ⟨b, o + i * sz + j, none⟩ = some (f i j) ∧ S ⟨b, o + i * sz + j, none⟩)
      (h : ∀ (i : Nat) (e : PV) (j : Nat) (c : PV), l[i]? = some e → e.cells[j]? = some c → Rep w S c (f i j)) : Rep w S (.sl l) (.slice (some ⟨b, o, none⟩) n cap)
  | ref (x : PV) (b o : Nat) (f : Nat → Value) (h1 : ∀ c ∈ x.cells, c.one = true)
      (hcell : ∀ (j : Nat) (c : PV), x.cells[j]? = some c → w.cell? ⟨b, o + j, none⟩ = some (f j) ∧ S ⟨b, o + j, none⟩)
      (h : ∀ (j : Nat) (c : PV), x.cells[j]? = some c → Rep w S c (f j)) : Rep w S (.ref x) (.pointer (some ⟨b, o, none⟩))
  | iface (t : TypeId) (x : PV) (y : Value) (h : Rep w S x y) : Rep w S (.iface t x) (.iface t y)
  | hole (x : Value) (h : x.oneCell' = true) : Rep w S .hole x
  | fn (k : Nat) (cs : List PV) (vs : Array Value) (hl : cs.length = vs.size)
      (h : ∀ (i : Nat) (c : PV) (x : Value), cs[i]? = some c → vs[i]? = some x → Rep w S c x) : Rep w S (.fn k cs) (.func (.func k) #[] vs)
  | mp (kd : IntKind) (ks : List Int) (vs : List PV) (b : Nat) (es : Array MapEntry) (clk : Nat) (hl : es.size = ks.length) (hv : vs.length = ks.length)
      (hm : w.heap[b]? = some (.map es clk)) (hS : S ⟨b, 0, none⟩) (hk : ∀ (i : Nat) (e : MapEntry) (n : Int), es[i]? = some e → ks[i]? = some n → e.key = .int kd n)
      (h : ∀ (i : Nat) (e : MapEntry) (c : PV), es[i]? = some e → vs[i]? = some c → Rep w S c e.val) : Rep w S (.mp kd ks vs) (.map (some b))

/-- what stands in S stays, and stands in S' -/
def Keeps (w : World) (S : Addr → Prop) (w' : World) (S' : Addr → Prop) : Prop :=
  ∀ a v, S a → rd w a = some v → rd w' a = some v ∧ S' a

theorem Keeps.refl (w : World) (S : Addr → Prop) : Keeps w S w S := fun _ _ h e => ⟨e, h⟩
theorem Keeps.cell {w : World} {S : Addr → Prop} {w' : World} {S' : Addr → Prop} (K : Keeps w S w' S') {a : Addr} {v : Value} (hS : S a) (h : w.cell? a = some v) : w'.cell? a = some v ∧ S' a :=
  ⟨cell_rd (K a _ hS (rd_cell h)).1, (K a _ hS (rd_cell h)).2⟩

theorem Rep.mono {w w' : World} {S S' : Addr → Prop} (K : Keeps w S w' S') {p : PV} {x : Value} (h : Rep w S p x) : Rep w' S' p x := by
  induction h with
  | v x => exact .v x
  | agg cs vs hl h1 _ ih => exact .agg cs vs hl h1 ih
  | tup cs vs hl _ ih => exact .tup cs vs hl ih
  | slNil => exact .slNil
  | slAt sz l b o n cap f hn hcap hsz h1 hcell _ ih =>
    exact .slAt sz l b o n cap f hn hcap hsz h1 (fun i e j c hi hj => K.cell (hcell i e j c hi hj).2 (hcell i e j c hi hj).1) ih
  | ref x b o f h1 hcell _ ih => exact .ref x b o f h1 (fun j c hj => K.cell (hcell j c hj).2 (hcell j c hj).1) ih
  | iface t x y _ ih => exact .iface t x y ih
  | hole x h => exact .hole x h
  | fn k cs vs hl _ ih => exact .fn k cs vs hl ih
  | mp kd ks vs b es clk hl hv hm hS hk _ ih =>
    have := K _ _ hS (rd_map hm)
    exact .mp kd ks vs b es clk hl hv (map_rd this.1).1 this.2 hk ih

theorem Rep.one {w : World} {S : Addr → Prop} {p : PV} {x : Value} (h : Rep w S p x) (h1 : p.one = true) : x.oneCell' = true := by
  cases h <;> simp_all [PV.one, Value.oneCell']

theorem oneCell_cells {x : Value} (h : x.oneCell' = true) : x.cells = #[x] := by
  cases x <;> simp_all [Value.oneCell', Value.cells]

/-- cells of data are the value's -/
theorem Rep.size {w : World} {S : Addr → Prop} {p : PV} {x : Value} (h : Rep w S p x) (hv : ∀ y, p = .v y → y.oneCell' = true) (ht : ∀ l, p ≠ .tup l) : x.cells.size = p.cells.length := by
  cases h with
  | v x => rw [oneCell_cells (hv _ rfl)]; rfl
  | agg cs vs hl => exact hl.symm
  | tup cs => exact absurd rfl (ht cs)
  | hole x h => rw [oneCell_cells h]; rfl
  | _ => rfl

/-- whole data: an aggregate of cells, or one cell -/
def PV.ok : PV → Bool
  | .v x => x.oneCell'
  | .tup _ => false
  | _ => true

theorem Rep.cells_size {w : World} {S : Addr → Prop} {p : PV} {x : Value} (h : Rep w S p x) (ho : p.ok = true) : x.cells.size = p.cells.length :=
  h.size (fun y e => by subst e; exact ho) (fun l e => by subst e; cases ho)

theorem Rep.cells_one {w : World} {S : Addr → Prop} {p : PV} {x : Value} (h : Rep w S p x) (ho : p.ok = true) : ∀ c ∈ p.cells, c.one = true := by
  cases h with
  | agg cs vs hl h1 => exact h1
  | tup cs => cases ho
  | v x => intro c hc; simp [PV.cells] at hc; subst hc; exact ho
  | _ => intro c hc; simp [PV.cells] at hc; subst hc; rfl

theorem Rep.cells_at {w : World} {S : Addr → Prop} {p : PV} {x : Value} (h : Rep w S p x) (ho : p.ok = true) {j : Nat} {c : PV} {y : Value}
    (hc : p.cells[j]? = some c) (hy : x.cells[j]? = some y) : Rep w S c y := by
  have key : ∀ {q : PV} {z : Value}, Rep w S q z → q.cells = [q] → z.cells = #[z] → q.cells[j]? = some c → z.cells[j]? = some y → Rep w S c y := by
    intro q z hr e1 e2 h1 h2
    rw [e1] at h1; rw [e2] at h2
    cases j with
    | zero => simp at h1 h2; subst h1; subst h2; exact hr
    | succ j => simp at h1
  cases h with
  | agg cs vs hl h1 hh => exact hh j c y hc hy
  | tup cs => cases ho
  | v x => exact key (.v x) rfl (oneCell_cells ho) hc hy
  | slNil => exact key .slNil rfl rfl hc hy
  | slAt sz l b o n cap f a1 a2 a3 a4 a5 a6 => exact key (.slAt sz l b o n cap f a1 a2 a3 a4 a5 a6) rfl rfl hc hy
  | ref x b o f a1 a2 a3 => exact key (.ref x b o f a1 a2 a3) rfl rfl hc hy
  | iface t x y hh => exact key (.iface t x y hh) rfl rfl hc hy
  | hole x h => exact key (.hole x h) rfl (oneCell_cells h) hc hy
  | fn k cs vs hl hh => exact key (.fn k cs vs hl hh) rfl rfl hc hy
  | mp kd ks vs b es clk a1 a2 a3 a4 a5 a6 => exact key (.mp kd ks vs b es clk a1 a2 a3 a4 a5 a6) rfl rfl hc hy

/-- the oneCell value of one-celled data -/
theorem Rep.cells_oneCell {w : World} {S : Addr → Prop} {p : PV} {x : Value} (h : Rep w S p x) (ho : p.ok = true) {j : Nat} {y : Value} (hy : x.cells[j]? = some y) : y.oneCell' = true := by
  have hs := h.cells_size ho
  have hj : j < p.cells.length := by
    rw [← hs]; exact (Array.getElem?_eq_some_iff.1 hy).1
  have hc : p.cells[j]? = some p.cells[j] := List.getElem?_eq_getElem hj
  exact (h.cells_at ho hc hy).one (h.cells_one ho _ (List.getElem_mem hj))

/-! ## slots and blocks -/
abbrev Id := Nat × Nat
/-- a link: a cell of a struct, the row of the call's own whose header stands there, how long it is then (a map: none) -/
abbrev Lnk := Nat × Id × Option Nat
inductive SV where
  | c (p : PV)
  | nil
  | own (id : Id) (n : Nat)
  | ptr (id : Id) (n i off : Nat)
  | iptr (x : PV) (off : Nat)
  | any
  | anyb
  | when (b : Bool) (x : SV)
  | st (p : PV) (ls : List Lnk)
  | pc (id : Id) (n lo len : Nat)
  | mo (id : Id)

/-- where a block of the call's own lies -/
structure BI where
  base : Option Nat
  len : Nat
  cap : Nat
  sz : Nat
  mp : Bool

/-- a block of the call's own: so many cells an element; the elements; may it be written? -/
structure Blk where
  T : TypeId
  sz : Nat
  elems : List PV
  rw : Bool
  ls : List Lnk
  mp : Option (IntKind × List Int × List PV)

structure ASt where
  t : Nat → SV
  m : Id → Option Blk
  g : Nat → Nat

/-- a value is the header of a row of the call's own (so long, then), or of a map -/
def OwnC (ρ : Id → Option BI) (g : Nat → Nat) (id : Id) : Option Nat → Value → Prop
  | some n, x => id.2 < g id.1 ∧ ∀ bi, ρ id = some bi → (n ≤ bi.len ∧ (bi.len = n → x = .slice (bi.base.map fun k => ⟨k, 0, none⟩) n bi.cap)) ∧ bi.mp = false
  | none, x => id.2 < g id.1 ∧ ∀ bi, ρ id = some bi → bi.mp = true ∧ x = .map bi.base

inductive SRep (w : World) (S : Addr → Prop) (ρ : Id → Option BI) (g : Nat → Nat) : SV → Value → Prop
  | c (p : PV) (x : Value) (h : Rep w S p x) : SRep w S ρ g (.c p) x
  | nil : SRep w S ρ g .nil (.slice none 0 0)
  | own (id : Id) (n : Nat) (x : Value) (hg : id.2 < g id.1)
      (h : ∀ bi, ρ id = some bi → n ≤ bi.len ∧ (bi.len = n → x = .slice (bi.base.map fun k => ⟨k, 0, none⟩) n bi.cap)) (hr : ∀ bi, ρ id = some bi → bi.mp = false) : SRep w S ρ g (.own id n) x
  | ptr (id : Id) (n i off : Nat) (x : Value) (hg : id.2 < g id.1)
      (h : ∀ bi, ρ id = some bi → n ≤ bi.len ∧ (bi.len = n → ∃ k, bi.base = some k ∧ x = .pointer (some ⟨k, i * bi.sz + off, none⟩))) : SRep w S ρ g (.ptr id n i off) x
  | iptr (p : PV) (off b o : Nat) (f : Nat → Value) (h1 : ∀ c ∈ p.cells, c.one = true)
      (hcell : ∀ (j : Nat) (c : PV), p.cells[j]? = some c → w.cell? ⟨b, o + j, none⟩ = some (f j) ∧ S ⟨b, o + j, none⟩)
      (h : ∀ (j : Nat) (c : PV), p.cells[j]? = some c → Rep w S c (f j)) : SRep w S ρ g (.iptr p off) (.pointer (some ⟨b, o + off, none⟩))
  | any (x : Value) : SRep w S ρ g .any x
  | anyb (b : Bool) : SRep w S ρ g .anyb (.bool b)
  | st (p : PV) (ls : List Lnk) (x : Value) (h : Rep w S p x) (hl : ∀ l ∈ ls, ∃ y, x.cells[l.1]? = some y ∧ OwnC ρ g l.2.1 l.2.2 y) : SRep w S ρ g (.st p ls) x
  | pc (id : Id) (n lo len : Nat) (x : Value) (hg : id.2 < g id.1) (hn : lo + len ≤ n)
      (h : ∀ bi, ρ id = some bi → n ≤ bi.len ∧ (bi.len = n → ∃ k, bi.base = some k ∧ x = .slice (some ⟨k, lo * bi.sz, none⟩) len (bi.cap - lo))) (hr : ∀ bi, ρ id = some bi → bi.mp = false) : SRep w S ρ g (.pc id n lo len) x
  | mo (id : Id) (x : Value) (hg : id.2 < g id.1) (h : ∀ bi, ρ id = some bi → bi.mp = true ∧ x = .map bi.base) : SRep w S ρ g (.mo id) x

/-- what a call may lean on: memory that nobody writes, and one block that is lent to it (its number: (0, 0), or (0, 1) if it may grow) -/
structure Env where
  S : Addr → Prop
  bor : BI
def Env.own (E : Env) (k : Nat) : Prop := E.bor.base = some k
/-- where a block may lie: the one that is lent where it lay (or, if it may grow: its number is (0, 1) then, above what was there), the others above what was there -/
def Env.nw (E : Env) (B : Nat) (id : Id) (k : Nat) : Prop := if id.1 = 0 then (E.own k ∨ (id.2 ≠ 0 ∧ B ≤ k)) else B ≤ k
theorem Env.nw_or {E : Env} {B : Nat} {id : Id} {k : Nat} (h : E.nw B id k) : B ≤ k ∨ E.own k := by
  unfold Env.nw at h; split at h
  · exact h.elim .inr (fun h => .inl h.2)
  · exact .inl h

theorem Env.nw_in {E : Env} {B : Nat} {id : Id} {k : Nat} (h : E.nw B id k) (a : Addr) : B ≤ k ∨ E.own k ∨ E.S a := by
  rcases Env.nw_or h with h | h
  · exact .inl h
  · exact .inr (.inl h)
theorem Env.nw_ne {E : Env} {B : Nat} {id : Id} {k : Nat} (h : E.nw B id k) (h0 : id.1 ≠ 0) : B ≤ k := by
  unfold Env.nw at h; rwa [if_neg h0] at h

theorem Env.nw_new {E : Env} {B : Nat} {id : Id} {k : Nat} (h0 : id.1 ≠ 0 ∨ id.2 ≠ 0) (h : B ≤ k) : E.nw B id k := by
  unfold Env.nw; split
  · rename_i e; exact .inr ⟨h0.resolve_left (fun n => n e), h⟩
  · exact h

/-- below B the world is as it was, but for the block that is lent -/
structure BelowX (X : Nat → Prop) (B : Nat) (w w' : World) : Prop where
  os : w'.os = w.os
  tape : w'.tape = w.tape
  output : w'.output = w.output
  size : w.heap.size ≤ w'.heap.size
  block : ∀ k, k < B → ¬ X k → w'.heap[k]? = w.heap[k]?
theorem BelowX.refl (X : Nat → Prop) (B : Nat) (w : World) : BelowX X B w w := ⟨rfl, rfl, rfl, Nat.le_refl _, fun _ _ _ => rfl⟩
theorem BelowX.trans {X : Nat → Prop} {B : Nat} {a b c : World} (h : BelowX X B a b) (k : BelowX X B b c) : BelowX X B a c :=
  ⟨k.os.trans h.os, k.tape.trans h.tape, k.output.trans h.output, Nat.le_trans h.size k.size, fun i hi hx => (k.block i hi hx).trans (h.block i hi hx)⟩
theorem BelowX.of {X : Nat → Prop} {B B' : Nat} {w w' : World} (h : Below B w w') (hB : B' ≤ B) : BelowX X B' w w' := ⟨h.os, h.tape, h.output, h.size, fun k hk _ => h.block k (Nat.lt_of_lt_of_le hk hB)⟩

/-- memory that nobody writes any more, as far as this call goes: what was there and may be leant on, or is new, but the blocks that may still be written -/
def Imm (S0 : Env) (B : Nat) (m : Id → Option Blk) (ρ : Id → Option BI) (a : Addr) : Prop :=
  (B ≤ a.block ∨ S0.own a.block ∨ S0.S a) ∧ ∀ id bi blk, ρ id = some bi → m id = some blk → bi.base = some a.block → blk.rw = false ∧ (bi.mp = true ∨ a.off < blk.elems.length * blk.sz)

/-- what lies in a block: a row's cells, or a map's entries -/
def InAt (w : World) (S : Addr → Prop) (blk : Blk) (bi : BI) (k : Nat) : Prop := match blk.mp with
  | none => ∃ cells, w.heap[k]? = some (.cells cells blk.T (0, 0)) ∧ cells.size = bi.cap * blk.sz ∧
    ∀ (i : Nat) (e : PV) (j : Nat) (c : PV) (x : Value), blk.elems[i]? = some e → e.cells[j]? = some c → cells[i * blk.sz + j]? = some x → Rep w S c x
  | some (kd, ks, vs) => ∃ es clk, w.heap[k]? = some (.map es clk) ∧ es.size = ks.length ∧ vs.length = ks.length ∧
    (∀ (i : Nat) (e : MapEntry) (n : Int), es[i]? = some e → ks[i]? = some n → e.key = .int kd n) ∧
    ∀ (i : Nat) (e : MapEntry) (c : PV), es[i]? = some e → vs[i]? = some c → Rep w S c e.val
theorem InAt.keep {w w' : World} {S S' : Addr → Prop} {blk : Blk} {bi : BI} {k : Nat} (h : InAt w S blk bi k) (e : w'.heap[k]? = w.heap[k]?) (K : Keeps w S w' S') : InAt w' S' blk bi k := by
  unfold InAt at h ⊢
  split at h
  · obtain ⟨cells, h1, h2, h3⟩ := h
    exact ⟨cells, by rw [e]; exact h1, h2, fun i e j c x a1 a2 a3 => (h3 i e j c x a1 a2 a3).mono K⟩
  · obtain ⟨es, clk, h1, h2, h3, h4, h5⟩ := h
    exact ⟨es, clk, by rw [e]; exact h1, h2, h3, h4, fun i e c a1 a2 => (h5 i e c a1 a2).mono K⟩
theorem InAt.lt {w : World} {S : Addr → Prop} {blk : Blk} {bi : BI} {k : Nat} (h : InAt w S blk bi k) : k < w.heap.size := by
  rcases Nat.lt_or_ge k w.heap.size with h' | h'
  · exact h'
  · unfold InAt at h
    split at h
    · obtain ⟨cells, h1, -⟩ := h; simp [Array.getElem?_eq_none h'] at h1
    · obtain ⟨es, clk, h1, -⟩ := h; simp [Array.getElem?_eq_none h'] at h1

structure BlkAt (w : World) (S : Addr → Prop) (Nw : Nat → Prop) (blk : Blk) (bi : BI) : Prop where
  len : bi.len = blk.elems.length
  sz : bi.sz = blk.sz
  cap : bi.len ≤ bi.cap
  most : bi.cap ≤ maxLen
  nil : bi.base = none → bi.cap = 0
  shape : ∀ e ∈ blk.elems, e.cells.length = blk.sz ∧ ∀ c ∈ e.cells, c.one = true
  at_ : ∀ k, bi.base = some k → Nw k ∧ InAt w S blk bi k
  kd : bi.mp = blk.mp.isSome
  kd0 : bi.mp = true → blk.elems = []
  mb : bi.mp = true → ∃ k, bi.base = some k
theorem BlkAt.row {w : World} {S : Addr → Prop} {Nw : Nat → Prop} {blk : Blk} {bi : BI} (B : BlkAt w S Nw blk bi) (hm : bi.mp = false) (k : Nat) (hk : bi.base = some k) :
    Nw k ∧ ∃ cells, w.heap[k]? = some (.cells cells blk.T (0, 0)) ∧ cells.size = bi.cap * blk.sz ∧
    ∀ (i : Nat) (e : PV) (j : Nat) (c : PV) (x : Value), blk.elems[i]? = some e → e.cells[j]? = some c → cells[i * blk.sz + j]? = some x → Rep w S c x := by
  have h := B.at_ k hk
  have h0 : blk.mp = none := by have := B.kd; rw [hm] at this; cases e : blk.mp <;> simp [e] at this ⊢
  unfold InAt at h
  rw [h0] at h
  exact h
theorem BlkAt.map {w : World} {S : Addr → Prop} {Nw : Nat → Prop} {blk : Blk} {bi : BI} (B : BlkAt w S Nw blk bi) {kd : IntKind} {ks : List Int} {vs : List PV} (hm : blk.mp = some (kd, ks, vs)) (k : Nat) (hk : bi.base = some k) :
    Nw k ∧ ∃ es clk, w.heap[k]? = some (.map es clk) ∧ es.size = ks.length ∧ vs.length = ks.length ∧
    (∀ (i : Nat) (e : MapEntry) (n : Int), es[i]? = some e → ks[i]? = some n → e.key = .int kd n) ∧
    ∀ (i : Nat) (e : MapEntry) (c : PV), es[i]? = some e → vs[i]? = some c → Rep w S c e.val := by
  have h := B.at_ k hk
  unfold InAt at h
  rw [hm] at h
  exact h
theorem BlkAt.mbase {w : World} {S : Addr → Prop} {Nw : Nat → Prop} {blk : Blk} {bi : BI} (B : BlkAt w S Nw blk bi) (hm : bi.mp = true) : ∃ k, bi.base = some k := B.mb hm
theorem BlkAt.mp0 {w : World} {S : Addr → Prop} {Nw : Nat → Prop} {blk : Blk} {bi : BI} (B : BlkAt w S Nw blk bi) (hm : bi.mp = false) : blk.mp = none := by
  have := B.kd; rw [hm] at this; cases e : blk.mp <;> simp [e] at this ⊢
theorem BlkAt.of_row {w : World} {S : Addr → Prop} {blk : Blk} {bi : BI} {k : Nat} (h0 : blk.mp = none) (h : ∃ cells, w.heap[k]? = some (.cells cells blk.T (0, 0)) ∧ cells.size = bi.cap * blk.sz ∧
    ∀ (i : Nat) (e : PV) (j : Nat) (c : PV) (x : Value), blk.elems[i]? = some e → e.cells[j]? = some c → cells[i * blk.sz + j]? = some x → Rep w S c x) : InAt w S blk bi k := by
  unfold InAt; rw [h0]; exact h
theorem BlkAt.ne {w : World} {S : Addr → Prop} {Nw : Nat → Prop} {blk : Blk} {bi : BI} (B : BlkAt w S Nw blk bi) (h : 0 < blk.elems.length) : bi.mp = false := by
  cases e : bi.mp with
  | false => rfl
  | true => rw [B.kd0 e] at h; cases h

structure RelAt (ρ : Id → Option BI) (S0 : Env) (w0 : World) (N : Nat) (s : ASt) (a : Act) (w : World) : Prop where
  size : a.tmps.size = N
  defers : a.defers = []
  slots : ∀ i, SRep w (Imm S0 w0.heap.size s.m ρ) ρ s.g (s.t i) (a.tmps.getD i undef)
  blk : ∀ id b, s.m id = some b → id.2 < s.g id.1 ∧ ∃ bi, ρ id = some bi ∧ BlkAt w (Imm S0 w0.heap.size s.m ρ) (S0.nw w0.heap.size id) b bi
  dom : ∀ id bi, ρ id = some bi → ∃ b, s.m id = some b
  inj : ∀ id id' bi bi' k, ρ id = some bi → ρ id' = some bi' → bi.base = some k → bi'.base = some k → id = id'
  below : BelowX S0.own w0.heap.size w0 w
  bor : ∀ id bi, id.1 = 0 → ρ id = some bi → bi = S0.bor ∨ (id.2 ≠ 0 ∧ S0.bor.len < bi.len)
  lnk : ∀ id b bi k, s.m id = some b → ρ id = some bi → bi.base = some k → ∀ l ∈ b.ls, ∃ y, w.cell? ⟨k, l.1, none⟩ = some y ∧ OwnC ρ s.g l.2.1 l.2.2 y

def Rel (S0 : Env) (w0 : World) (N : Nat) (s : ASt) (a : Act) (w : World) : Prop := ∃ ρ, RelAt ρ S0 w0 N s a w

def upd {α : Type} (f : Nat → α) (k : Nat) (x : α) : Nat → α := fun i => if i = k then x else f i
def updM (m : Id → Option Blk) (k : Id) (x : Option Blk) : Id → Option Blk := fun i => if i = k then x else m i
def putT (t : Nat → SV) (d : Option Nat) (x : SV) : Nat → SV := match d with | some d => upd t d x | none => t

theorem OwnC.mono {ρ ρ' : Id → Option BI} {g g' : Nat → Nat} (hg : ∀ d, g d ≤ g' d)
    (hρ : ∀ id bi, id.2 < g id.1 → ρ' id = some bi → ∃ b0, ρ id = some b0 ∧ (bi = b0 ∨ (b0.len < bi.len ∧ b0.mp = false ∧ bi.mp = false))) {id : Id} {n : Option Nat} {x : Value} (h : OwnC ρ g id n x) : OwnC ρ' g' id n x := by
  cases n with
  | some n =>
    obtain ⟨hi, h⟩ := h
    refine ⟨Nat.lt_of_lt_of_le hi (hg _), fun bi hb => ?_⟩
    obtain ⟨b0, h0, h1⟩ := hρ id bi hi hb
    have h2 := h b0 h0
    rcases h1 with rfl | h1
    · exact h2
    · exact ⟨⟨by omega, fun e => by omega⟩, h1.2.2⟩
  | none =>
    obtain ⟨hi, h⟩ := h
    refine ⟨Nat.lt_of_lt_of_le hi (hg _), fun bi hb => ?_⟩
    obtain ⟨b0, h0, h1⟩ := hρ id bi hi hb
    have h2 := h b0 h0
    rcases h1 with rfl | h1
    · exact h2
    · have := h1.2.1; rw [h2.1] at this; cases this
theorem OwnC.lt {ρ : Id → Option BI} {g : Nat → Nat} {id : Id} {n : Option Nat} {x : Value} (h : OwnC ρ g id n x) : id.2 < g id.1 := by cases n <;> exact h.1

theorem SRep.mono {w w' : World} {S S' : Addr → Prop} {ρ ρ' : Id → Option BI} {g g' : Nat → Nat} (K : Keeps w S w' S') (hg : ∀ d, g d ≤ g' d)
    (hρ : ∀ id bi, id.2 < g id.1 → ρ' id = some bi → ∃ b0, ρ id = some b0 ∧ (bi = b0 ∨ (b0.len < bi.len ∧ b0.mp = false ∧ bi.mp = false))) {s : SV} {x : Value} (h : SRep w S ρ g s x) : SRep w' S' ρ' g' s x := by
  cases h with
  | c p x h => exact .c p x (h.mono K)
  | nil => exact .nil
  | own id n x hi h hr =>
    have hr' : ∀ bi, ρ' id = some bi → bi.mp = false := fun bi hb => by
      obtain ⟨b0, h0, h1⟩ := hρ id bi hi hb
      rcases h1 with rfl | h1
      · exact hr _ h0
      · exact h1.2.2
    refine .own id n x (Nat.lt_of_lt_of_le hi (hg _)) (fun bi hb => ?_) hr'
    obtain ⟨b0, h0, h1⟩ := hρ id bi hi hb
    have h2 := h b0 h0
    rcases h1 with rfl | h1
    · exact h2
    · exact ⟨by omega, fun e => by omega⟩
  | ptr id n i off x hi h =>
    refine .ptr id n i off x (Nat.lt_of_lt_of_le hi (hg _)) fun bi hb => ?_
    obtain ⟨b0, h0, h1⟩ := hρ id bi hi hb
    have h2 := h b0 h0
    rcases h1 with rfl | h1
    · exact h2
    · exact ⟨by omega, fun e => by omega⟩
  | iptr p off b o f h1 hcell h => exact .iptr p off b o f h1 (fun j c hj => K.cell (hcell j c hj).2 (hcell j c hj).1) (fun j c hj => (h j c hj).mono K)
  | any x => exact .any x
  | anyb b => exact .anyb b
  | st p ls x h hl => exact .st p ls x (h.mono K) fun l hm => by obtain ⟨y, h1, h2⟩ := hl l hm; exact ⟨y, h1, h2.mono hg hρ⟩
  | pc id n lo len x hi hn h hr =>
    have hr' : ∀ bi, ρ' id = some bi → bi.mp = false := fun bi hb => by
      obtain ⟨b0, h0, h1⟩ := hρ id bi hi hb
      rcases h1 with rfl | h1
      · exact hr _ h0
      · exact h1.2.2
    refine .pc id n lo len x (Nat.lt_of_lt_of_le hi (hg _)) hn (fun bi hb => ?_) hr'
    obtain ⟨b0, h0, h1⟩ := hρ id bi hi hb
    have h2 := h b0 h0
    rcases h1 with rfl | h1
    · exact h2
    · exact ⟨by omega, fun e => by omega⟩
  | mo id x hi h =>
    refine .mo id x (Nat.lt_of_lt_of_le hi (hg _)) fun bi hb => ?_
    obtain ⟨b0, h0, h1⟩ := hρ id bi hi hb
    have h2 := h b0 h0
    rcases h1 with rfl | h1
    · exact h2
    · have := h1.2.1; rw [h2.1] at this; cases this

theorem getD_put {a : Act} {d : Option Tmp} {x : Value} {N : Nat} (hN : a.tmps.size = N) (hd : ∀ k, d = some k → k < N) (i : Nat) :
    (a.put d x).tmps.getD i undef = if d = some i then x else a.tmps.getD i undef := by
  cases d with
  | none => simp [Act.put]
  | some k =>
    have hk := hd k rfl
    simp only [Act.put, Option.some.injEq]
    by_cases e : k = i
    · subst e; simp [Array.getD, hN, hk]
    · simp only [e, if_false]
      simp only [Array.getD_eq_getD_getElem?]
      rw [Array.getElem?_setIfInBounds_ne e]

theorem putT_at (t : Nat → SV) (d : Option Nat) (x : SV) (i : Nat) : putT t d x i = if d = some i then x else t i := by
  cases d with
  | none => simp [putT]
  | some k => by_cases e : i = k <;> simp [putT, upd, e, eq_comm]

section
variable {ρ : Id → Option BI} {S0 : Env} {w0 : World} {N : Nat} {s : ASt} {a : Act} {w : World}

theorem RelAt.put (h : RelAt ρ S0 w0 N s a w) {d : Option Tmp} (hd : ∀ k, d = some k → k < N) {sv : SV} {x : Value}
    (hv : SRep w (Imm S0 w0.heap.size s.m ρ) ρ s.g sv x) : RelAt ρ S0 w0 N { s with t := putT s.t d sv } (a.put d x) w where
  size := by rw [← h.size]; cases d <;> simp [Act.put]
  defers := by rw [← h.defers]; cases d <;> rfl
  slots := fun i => by
    rw [getD_put h.size hd]
    show SRep w _ ρ s.g (putT s.t d sv i) _
    rw [putT_at]
    by_cases e : d = some i
    · simp only [e, if_true]; exact hv
    · simp only [e, if_false]; exact h.slots i
  blk := h.blk
  dom := h.dom
  inj := h.inj
  below := h.below
  bor := h.bor
  lnk := h.lnk

/-- the world has grown; nothing that was there has turned -/
theorem RelAt.grow (h : RelAt ρ S0 w0 N s a w) {w' : World} (hb : Below w.heap.size w w') : RelAt ρ S0 w0 N s a w' := by
  have K : Keeps w (Imm S0 w0.heap.size s.m ρ) w' (Imm S0 w0.heap.size s.m ρ) := fun a v hS hc =>
    ⟨by rw [rd_of_block (hb.block _ (rd_lt hc))]; exact hc, hS⟩
  refine ⟨h.size, h.defers, fun i => (h.slots i).mono K (fun _ => Nat.le_refl _) (fun id bi _ e => ⟨bi, e, .inl rfl⟩), fun id b hb0 => ?_, h.dom, h.inj, h.below.trans (.of hb h.below.size), h.bor, fun id b bi k h1 h2 h3 l hl => by
    obtain ⟨y, h4, h5⟩ := h.lnk id b bi k h1 h2 h3 l hl
    exact ⟨y, by rw [hb.cell (World.block_lt_of_cell? _ _ h4)]; exact h4, h5⟩⟩
  obtain ⟨hg, bi, hρ, B⟩ := h.blk id b hb0
  refine ⟨hg, bi, hρ, ⟨B.len, B.sz, B.cap, B.most, B.nil, B.shape, fun k hk => ?_, B.kd, B.kd0, B.mb⟩⟩
  obtain ⟨h1, h2⟩ := B.at_ k hk
  exact ⟨h1, h2.keep (hb.block k h2.lt) K⟩

def updR (ρ : Id → Option BI) (k : Id) (x : Option BI) : Id → Option BI := fun i => if i = k then x else ρ i

theorem heap_alloc_new (w : World) (o : Obj) : (w.alloc o).heap[w.heap.size]? = some o := by unfold World.alloc; exact Array.getElem?_push_size

/-- a new block -/
theorem RelAt.new (h : RelAt ρ S0 w0 N s a w) (d : Nat) (hd0 : d ≠ 0) (blk : Blk) (cells : Array Value) (cap : Nat)
    (hcells : cells.size = cap * blk.sz) (hcap : blk.elems.length ≤ cap) (hmost : cap ≤ maxLen) (hshape : ∀ e ∈ blk.elems, e.cells.length = blk.sz ∧ ∀ c ∈ e.cells, c.one = true)
    (hrep : ∀ (i : Nat) (e : PV) (j : Nat) (c : PV) (x : Value), blk.elems[i]? = some e → e.cells[j]? = some c → cells[i * blk.sz + j]? = some x → Rep w (Imm S0 w0.heap.size s.m ρ) c x)
    (hls : ∀ l ∈ blk.ls, ∃ y, cells[l.1]? = some y ∧ OwnC ρ s.g l.2.1 l.2.2 y) (hmp : blk.mp = none) :
    RelAt (updR ρ (d, s.g d) (some ⟨some w.heap.size, blk.elems.length, cap, blk.sz, false⟩)) S0 w0 N
      { s with m := updM s.m (d, s.g d) (some blk), g := upd s.g d (s.g d + 1) } a (w.alloc (.cells cells blk.T)) := by
  have K : Keeps w (Imm S0 w0.heap.size s.m ρ) (w.alloc (.cells cells blk.T)) (Imm S0 w0.heap.size (updM s.m (d, s.g d) (some blk)) (updR ρ (d, s.g d) (some ⟨some w.heap.size, blk.elems.length, cap, blk.sz, false⟩))) := fun a v hS hc => by
    have hlt := rd_lt hc
    refine ⟨by rw [rd_of_block (Below.heap_alloc w _ _ hlt)]; exact hc, hS.1, fun id bi b h1 h2 h3 => ?_⟩
    by_cases e : id = (d, s.g d)
    · simp only [updR, e, if_true, Option.some.injEq] at h1
      subst h1; simp at h3; omega
    · simp only [updR, updM, e, if_false] at h1 h2
      exact hS.2 id bi b h1 h2 h3
  have hgle : ∀ x, s.g x ≤ upd s.g d (s.g d + 1) x := fun x => by unfold upd; split <;> simp_all
  have hold : ∀ id bi, id.2 < s.g id.1 → updR ρ (d, s.g d) (some ⟨some w.heap.size, blk.elems.length, cap, blk.sz, false⟩) id = some bi → ρ id = some bi := fun id bi hg e => by
    have : id ≠ (d, s.g d) := by rintro rfl; simp at hg
    simpa [updR, this] using e
  refine ⟨h.size, h.defers, fun i => (h.slots i).mono K hgle (fun id bi hg e => ⟨bi, hold id bi hg e, .inl rfl⟩), fun id b hb => ?_, fun id bi e => ?_, ?_, h.below.trans (.of ((Below.refl _ _).alloc (Nat.le_refl _) _) h.below.size), fun id bi e0 e => ?_, fun id b bi k h1 h2 h3 l hl => ?_⟩
  · by_cases e : id = (d, s.g d)
    · subst e
      simp only [updM, if_true, Option.some.injEq] at hb
      subst hb
      refine ⟨by simp [upd], ⟨some w.heap.size, blk.elems.length, cap, blk.sz, false⟩, by simp [updR], rfl, rfl, hcap, hmost, (by simp), hshape, fun k hk => ?_, by simp [hmp], (fun h => by cases h), (fun h => by cases h)⟩
      simp only [Option.some.injEq] at hk
      subst hk
      exact ⟨by simp only [Env.nw, hd0, if_false]; exact h.below.size, BlkAt.of_row hmp ⟨cells, heap_alloc_new _ _, hcells, fun i e j c x a1 a2 a3 => (hrep i e j c x a1 a2 a3).mono K⟩⟩
    · simp only [updM, e, if_false] at hb
      obtain ⟨hg, bi, hρ, B⟩ := h.blk id b hb
      refine ⟨Nat.lt_of_lt_of_le hg (hgle _), bi, by simp [updR, e, hρ], ⟨B.len, B.sz, B.cap, B.most, B.nil, B.shape, fun k hk => ?_, B.kd, B.kd0, B.mb⟩⟩
      obtain ⟨h1, h2⟩ := B.at_ k hk
      exact ⟨h1, h2.keep (Below.heap_alloc w _ k h2.lt) K⟩
  · by_cases e' : id = (d, s.g d)
    · exact ⟨blk, by simp [updM, e']⟩
    · simp only [updR, e', if_false] at e
      obtain ⟨b, hb⟩ := h.dom id bi e
      exact ⟨b, by simp [updM, e', hb]⟩
  · have old : ∀ id bi k, ρ id = some bi → bi.base = some k → k < w.heap.size := fun id bi k h1 h2 => by
      obtain ⟨b, hb⟩ := h.dom id bi h1
      obtain ⟨_, bi', h3, B⟩ := h.blk id b hb
      rw [h1] at h3; simp only [Option.some.injEq] at h3; subst h3
      exact (B.at_ k h2).2.lt
    intro id id' bi bi' k h1 h2 h3 h4
    by_cases e1 : id = (d, s.g d) <;> by_cases e2 : id' = (d, s.g d)
    · rw [e1, e2]
    · simp only [updR, e1, e2, if_true, if_false, Option.some.injEq] at h1 h2
      subst h1; simp only [Option.some.injEq] at h3; subst h3
      have := old id' bi' _ h2 h4; omega
    · simp only [updR, e1, e2, if_true, if_false, Option.some.injEq] at h1 h2
      subst h2; simp only [Option.some.injEq] at h4; subst h4
      have := old id bi _ h1 h3; omega
    · simp only [updR, e1, e2, if_false] at h1 h2
      exact h.inj id id' bi bi' k h1 h2 h3 h4
  · by_cases e1 : id = (d, s.g d)
    · subst e1; exact absurd e0 hd0
    · simp only [updR, e1, if_false] at e
      exact h.bor id bi e0 e
  · have up : ∀ id' n' y, OwnC ρ s.g id' n' y → OwnC (updR ρ (d, s.g d) (some ⟨some w.heap.size, blk.elems.length, cap, blk.sz, false⟩)) (upd s.g d (s.g d + 1)) id' n' y := fun id' n' y h => h.mono hgle (fun id bi hg e => ⟨bi, hold id bi hg e, .inl rfl⟩)
    by_cases e1 : id = (d, s.g d)
    · subst e1
      simp only [updM, updR, if_true, Option.some.injEq] at h1 h2
      subst h1; subst h2
      simp only [Option.some.injEq] at h3; subst h3
      obtain ⟨y, h4, h5⟩ := hls l hl
      exact ⟨y, by simp only [World.cell?, heap_alloc_new]; simpa using h4, up _ _ _ h5⟩
    · simp only [updM, updR, e1, if_false] at h1 h2
      obtain ⟨y, h4, h5⟩ := h.lnk id b bi k h1 h2 h3 l hl
      exact ⟨y, by rw [World.cell?_alloc_lt _ _ _ (World.block_lt_of_cell? _ _ h4)]; exact h4, up _ _ _ h5⟩

theorem RelAt.base_lt (h : RelAt ρ S0 w0 N s a w) {id : Id} {bi : BI} {k : Nat} (h1 : ρ id = some bi) (h2 : bi.base = some k) : k < w.heap.size := by
  obtain ⟨b, hb⟩ := h.dom id bi h1
  obtain ⟨_, bi', h3, B⟩ := h.blk id b hb
  rw [h1] at h3; simp only [Option.some.injEq] at h3; subst h3
  exact (B.at_ k h2).2.lt

/-- a block of the call's own is written: either nobody else reads it ('rw'), or what was there stays; it may have grown; it may lie elsewhere now, in a block that was not there -/
theorem RelAt.set (h : RelAt ρ S0 w0 N s a w) {id : Id} {b b' : Blk} {bi bi' : BI} {k : Nat} {w' : World} (hm : s.m id = some b) (hρ : ρ id = some bi) (hmp : bi.mp = false ∧ bi'.mp = false)
    (hrw : b'.rw = b.rw) (hsz : b'.sz = b.sz) (hgrow : bi' = bi ∨ ((id.1 ≠ 0 ∨ id.2 ≠ 0) ∧ bi.len < bi'.len)) (hlen : b.elems.length ≤ b'.elems.length) (hk : bi'.base = some k)
    (hkk : bi.base = some k ∨ w.heap.size ≤ k)
    (hold : ∀ j, j ≠ k → j < w.heap.size → w'.heap[j]? = w.heap[j]?)
    (hkeep : bi.base = some k → ∀ o v, b.rw = false → o < b.elems.length * b.sz → w.cell? ⟨k, o, none⟩ = some v → w'.cell? ⟨k, o, none⟩ = some v)
    (hmore : w.heap.size ≤ w'.heap.size) (hos : w'.os = w.os) (htape : w'.tape = w.tape) (hout : w'.output = w.output)
    (hB : Keeps w (Imm S0 w0.heap.size s.m ρ) w' (Imm S0 w0.heap.size (updM s.m id (some b')) (updR ρ id (some bi'))) → BlkAt w' (Imm S0 w0.heap.size (updM s.m id (some b')) (updR ρ id (some bi'))) (S0.nw w0.heap.size id) b' bi')
    (hls : ∀ l ∈ b'.ls, ∃ y, w'.cell? ⟨k, l.1, none⟩ = some y ∧ OwnC ρ s.g l.2.1 l.2.2 y) :
    RelAt (updR ρ id (some bi')) S0 w0 N { s with m := updM s.m id (some b') } a w' := by
  have hBB : w0.heap.size ≤ w.heap.size := h.below.size
  have hklt : bi.base = some k → w0.heap.size ≤ k ∨ S0.own k := fun e => by
    obtain ⟨_, bi1, h3, B⟩ := h.blk id b hm
    rw [hρ] at h3; simp only [Option.some.injEq] at h3; subst h3
    exact Env.nw_or (B.at_ k e).1
  have hk0 : w0.heap.size ≤ k ∨ S0.own k := by rcases hkk with e | e; exact hklt e; exact .inl (by omega)
  have K : Keeps w (Imm S0 w0.heap.size s.m ρ) w' (Imm S0 w0.heap.size (updM s.m id (some b')) (updR ρ id (some bi'))) := fun a v hS hc => by
    have hlt := rd_lt hc
    have hspot := rd_spot hc
    have hcell : rd w' a = some v := by
      by_cases e : a.block = k
      · rcases hkk with e1 | e1
        · have h1 := hS.2 id bi b hρ hm (by rw [e1, e])
          obtain ⟨_, bi1, h3, B⟩ := h.blk id b hm
          rw [hρ] at h3; simp only [Option.some.injEq] at h3; subst h3
          obtain ⟨_, cells, h4, _⟩ := B.row hmp.1 k e1
          obtain ⟨ab, ao, asp⟩ := a
          simp only at e hspot; subst e; subst hspot
          cases v with
          | inl v => exact rd_cell (hkeep e1 ao v h1.1 (h1.2.resolve_left (by rw [hmp.1]; simp)) (cell_rd hc))
          | inr m => have := (map_rd hc).1; rw [h4] at this; cases this
        · omega
      · rw [rd_of_block (hold _ e hlt)]; exact hc
    refine ⟨hcell, hS.1, fun id1 bi1 b1 h1 h2 h3 => ?_⟩
    by_cases e : id1 = id
    · simp only [updR, updM, e, if_true, Option.some.injEq] at h1 h2
      subst h1; subst h2
      rcases hkk with e1 | e1
      · have h4 := hS.2 id bi b hρ hm (by rw [e1, ← h3, hk])
        rw [hrw, hsz]
        exact ⟨h4.1, .inr (Nat.lt_of_lt_of_le (h4.2.resolve_left (by rw [hmp.1]; simp)) (Nat.mul_le_mul_right _ hlen))⟩
      · rw [hk] at h3; simp only [Option.some.injEq] at h3; omega
    · simp only [updR, updM, e, if_false] at h1 h2
      exact hS.2 id1 bi1 b1 h1 h2 h3
  refine ⟨h.size, h.defers, fun i => (h.slots i).mono K (fun _ => Nat.le_refl _) (fun id1 bi1 hg e => ?_), fun id1 b1 hb => ?_, fun id1 bi1 e => ?_, ?_, ?_, ?_, ?_⟩
  · by_cases e1 : id1 = id
    · subst e1
      simp only [updR, if_true, Option.some.injEq] at e
      subst e
      exact ⟨bi, hρ, hgrow.imp_right fun h => ⟨h.2, hmp⟩⟩
    · simp only [updR, e1, if_false] at e
      exact ⟨bi1, e, .inl rfl⟩
  · by_cases e1 : id1 = id
    · subst e1
      simp only [updM, if_true, Option.some.injEq] at hb
      subst hb
      exact ⟨(h.blk id1 b hm).1, bi', by simp [updR], hB K⟩
    · simp only [updM, e1, if_false] at hb
      obtain ⟨hg, bi2, h2, B⟩ := h.blk id1 b1 hb
      refine ⟨hg, bi2, by simp [updR, e1, h2], ⟨B.len, B.sz, B.cap, B.most, B.nil, B.shape, fun k2 hk2 => ?_, B.kd, B.kd0, B.mb⟩⟩
      obtain ⟨h1, h3⟩ := B.at_ k2 hk2
      have hlt := h.base_lt h2 hk2
      have hne : k2 ≠ k := by
        rintro rfl
        rcases hkk with e2 | e2
        · exact e1 (h.inj _ _ _ _ _ h2 hρ hk2 e2)
        · omega
      exact ⟨h1, h3.keep (hold _ hne hlt) K⟩
  · by_cases e1 : id1 = id
    · exact ⟨b', by simp [updM, e1]⟩
    · simp only [updR, e1, if_false] at e
      obtain ⟨b2, h2⟩ := h.dom id1 bi1 e
      exact ⟨b2, by simp [updM, e1, h2]⟩
  · have side : ∀ id2 bi2, id2 ≠ id → ρ id2 = some bi2 → bi2.base = some k → False := fun id2 bi2 hne h1 h2 => by
      rcases hkk with e | e
      · exact hne (h.inj _ _ _ _ _ h1 hρ h2 e)
      · have := h.base_lt h1 h2; omega
    intro id1 id2 bi1 bi2 k2 h1 h2 h3 h4
    by_cases e1 : id1 = id <;> by_cases e2 : id2 = id
    · rw [e1, e2]
    · simp only [updR, e1, e2, if_true, if_false, Option.some.injEq] at h1 h2
      subst h1; rw [hk] at h3; simp only [Option.some.injEq] at h3; subst h3
      exact (side id2 bi2 e2 h2 h4).elim
    · simp only [updR, e1, e2, if_true, if_false, Option.some.injEq] at h1 h2
      subst h2; rw [hk] at h4; simp only [Option.some.injEq] at h4; subst h4
      exact (side id1 bi1 e1 h1 h3).elim
    · simp only [updR, e1, e2, if_false] at h1 h2
      exact h.inj id1 id2 bi1 bi2 k2 h1 h2 h3 h4
  · refine h.below.trans ⟨hos, htape, hout, hmore, fun j hj hx => hold j (fun e => ?_) (by omega)⟩
    subst e
    rcases hk0 with h1 | h1
    · omega
    · exact hx h1
  · intro id1 bi1 e0 e
    by_cases e1 : id1 = id
    · simp only [updR, e1, if_true, Option.some.injEq] at e
      subst e1; subst e
      rcases hgrow with h1 | h1
      · rw [h1]; exact h.bor _ _ e0 hρ
      · have h2 := h1.1.resolve_left (fun e => e e0)
        right
        rcases h.bor _ _ e0 hρ with h3 | h3
        · rw [← h3]; exact ⟨h2, h1.2⟩
        · exact ⟨h2, Nat.lt_trans h3.2 h1.2⟩
    · simp only [updR, e1, if_false] at e
      exact h.bor id1 bi1 e0 e
  · have up : ∀ id' n' y, OwnC ρ s.g id' n' y → OwnC (updR ρ id (some bi')) s.g id' n' y := fun id' n' y h => h.mono (fun _ => Nat.le_refl _) (fun id1 bi1 hg e => by
      by_cases e1 : id1 = id
      · subst e1
        simp only [updR, if_true, Option.some.injEq] at e
        subst e
        exact ⟨bi, hρ, hgrow.imp_right fun h => ⟨h.2, hmp⟩⟩
      · simp only [updR, e1, if_false] at e
        exact ⟨bi1, e, .inl rfl⟩)
    intro id1 b1 bi1 k1 h1 h2 h3 l hl
    by_cases e1 : id1 = id
    · subst e1
      simp only [updM, updR, if_true, Option.some.injEq] at h1 h2
      subst h1; subst h2
      rw [hk] at h3; simp only [Option.some.injEq] at h3; subst h3
      obtain ⟨y, h4, h5⟩ := hls l hl
      exact ⟨y, h4, up _ _ _ h5⟩
    · simp only [updM, updR, e1, if_false] at h1 h2
      obtain ⟨y, h4, h5⟩ := h.lnk id1 b1 bi1 k1 h1 h2 h3 l hl
      have hlt := h.base_lt h2 h3
      have hne : k1 ≠ k := by
        rintro rfl
        rcases hkk with e2 | e2
        · exact e1 (h.inj _ _ _ _ _ h2 hρ h3 e2)
        · omega
      exact ⟨y, by rw [World.cell?_of_block (hold _ hne hlt)]; exact h4, up _ _ _ h5⟩
/-- a block of the call's own that may be written is written, or has grown, and lies elsewhere then -/
theorem RelAt.set2 (h : RelAt ρ S0 w0 N s a w) {id : Id} {b b' : Blk} {bi bi' : BI} {w' : World} (hm : s.m id = some b) (hρ : ρ id = some bi)
    (hrw0 : b.rw = true) (hls0 : b'.ls = []) (hgrow : bi' = bi ∨ ((id.1 ≠ 0 ∨ id.2 ≠ 0) ∧ bi.len < bi'.len)) (hmp : bi' = bi ∨ (bi.mp = false ∧ bi'.mp = false)) (hbase : ∀ k, bi'.base = some k → bi.base = some k ∨ w.heap.size ≤ k)
    (hold : ∀ j, bi.base ≠ some j → j < w.heap.size → w'.heap[j]? = w.heap[j]?)
    (hmore : w.heap.size ≤ w'.heap.size) (hos : w'.os = w.os) (htape : w'.tape = w.tape) (hout : w'.output = w.output)
    (hB : Keeps w (Imm S0 w0.heap.size s.m ρ) w' (Imm S0 w0.heap.size (updM s.m id (some b')) (updR ρ id (some bi'))) → BlkAt w' (Imm S0 w0.heap.size (updM s.m id (some b')) (updR ρ id (some bi'))) (S0.nw w0.heap.size id) b' bi') :
    RelAt (updR ρ id (some bi')) S0 w0 N { s with m := updM s.m id (some b') } a w' := by
  have hBB : w0.heap.size ≤ w.heap.size := h.below.size
  have hklt : ∀ k, bi.base = some k → w0.heap.size ≤ k ∨ S0.own k := fun k e => by
    obtain ⟨_, bi1, h3, B⟩ := h.blk id b hm
    rw [hρ] at h3; simp only [Option.some.injEq] at h3; subst h3
    exact Env.nw_or (B.at_ k e).1
  have hcell : ∀ a v, bi.base ≠ some a.block → w.cell? a = some v → w'.cell? a = some v := fun a v hne hc => by
    rw [World.cell?_of_block (hold _ hne (World.block_lt_of_cell? _ _ hc))]; exact hc
  have K : Keeps w (Imm S0 w0.heap.size s.m ρ) w' (Imm S0 w0.heap.size (updM s.m id (some b')) (updR ρ id (some bi'))) := fun a v hS hc => by
    have hlt := rd_lt hc
    have hne : bi.base ≠ some a.block := fun e => by
      have := (hS.2 id bi b hρ hm e).1
      rw [hrw0] at this; cases this
    refine ⟨by rw [rd_of_block (hold _ hne hlt)]; exact hc, hS.1, fun id1 bi1 b1 h1 h2 h3 => ?_⟩
    by_cases e : id1 = id
    · simp only [updR, e, if_true, Option.some.injEq] at h1
      subst h1
      rcases hbase _ h3 with e1 | e1
      · exact absurd e1 hne
      · omega
    · simp only [updR, updM, e, if_false] at h1 h2
      exact hS.2 id1 bi1 b1 h1 h2 h3
  have hgr : ∀ id1 bi1, id1.2 < s.g id1.1 → updR ρ id (some bi') id1 = some bi1 → ∃ b0, ρ id1 = some b0 ∧ (bi1 = b0 ∨ (b0.len < bi1.len ∧ b0.mp = false ∧ bi1.mp = false)) := fun id1 bi1 hg e => by
    by_cases e1 : id1 = id
    · subst e1
      simp only [updR, if_true, Option.some.injEq] at e
      subst e
      refine ⟨bi, hρ, ?_⟩
      rcases hmp with h | h
      · exact .inl h
      · exact hgrow.imp_right fun h' => ⟨h'.2, h⟩
    · simp only [updR, e1, if_false] at e
      exact ⟨bi1, e, .inl rfl⟩
  have side : ∀ id2 bi2 k, id2 ≠ id → ρ id2 = some bi2 → bi2.base = some k → bi'.base = some k → False := fun id2 bi2 k hne h1 h2 h3 => by
    rcases hbase k h3 with e | e
    · exact hne (h.inj _ _ _ _ _ h1 hρ h2 e)
    · have := h.base_lt h1 h2; omega
  refine ⟨h.size, h.defers, fun i => (h.slots i).mono K (fun _ => Nat.le_refl _) hgr, fun id1 b1 hb => ?_, fun id1 bi1 e => ?_, ?_, ?_, ?_, ?_⟩
  · by_cases e1 : id1 = id
    · subst e1
      simp only [updM, if_true, Option.some.injEq] at hb
      subst hb
      exact ⟨(h.blk id1 b hm).1, bi', by simp [updR], hB K⟩
    · simp only [updM, e1, if_false] at hb
      obtain ⟨hg, bi2, h2, B⟩ := h.blk id1 b1 hb
      refine ⟨hg, bi2, by simp [updR, e1, h2], ⟨B.len, B.sz, B.cap, B.most, B.nil, B.shape, fun k2 hk2 => ?_, B.kd, B.kd0, B.mb⟩⟩
      obtain ⟨h1, h3⟩ := B.at_ k2 hk2
      exact ⟨h1, h3.keep (hold _ (fun e => e1 (h.inj _ _ _ _ _ h2 hρ hk2 e)) (h.base_lt h2 hk2)) K⟩
  · by_cases e1 : id1 = id
    · exact ⟨b', by simp [updM, e1]⟩
    · simp only [updR, e1, if_false] at e
      obtain ⟨b2, h2⟩ := h.dom id1 bi1 e
      exact ⟨b2, by simp [updM, e1, h2]⟩
  · intro id1 id2 bi1 bi2 k2 h1 h2 h3 h4
    by_cases e1 : id1 = id <;> by_cases e2 : id2 = id
    · rw [e1, e2]
    · simp only [updR, e1, e2, if_true, if_false, Option.some.injEq] at h1 h2
      subst h1
      exact (side id2 bi2 k2 e2 h2 h4 h3).elim
    · simp only [updR, e1, e2, if_true, if_false, Option.some.injEq] at h1 h2
      subst h2
      exact (side id1 bi1 k2 e1 h1 h3 h4).elim
    · simp only [updR, e1, e2, if_false] at h1 h2
      exact h.inj id1 id2 bi1 bi2 k2 h1 h2 h3 h4
  · refine h.below.trans ⟨hos, htape, hout, hmore, fun j hj hx => hold j (fun e => ?_) (by omega)⟩
    rcases hklt j e with h1 | h1
    · omega
    · exact hx h1
  · intro id1 bi1 e0 e
    by_cases e1 : id1 = id
    · simp only [updR, e1, if_true, Option.some.injEq] at e
      subst e1; subst e
      rcases hgrow with h1 | h1
      · rw [h1]; exact h.bor _ _ e0 hρ
      · have h2 := h1.1.resolve_left (fun e => e e0)
        right
        rcases h.bor _ _ e0 hρ with h3 | h3
        · rw [← h3]; exact ⟨h2, h1.2⟩
        · exact ⟨h2, Nat.lt_trans h3.2 h1.2⟩
    · simp only [updR, e1, if_false] at e
      exact h.bor id1 bi1 e0 e
  · have up : ∀ id' n' y, OwnC ρ s.g id' n' y → OwnC (updR ρ id (some bi')) s.g id' n' y := fun id' n' y h => h.mono (fun _ => Nat.le_refl _) hgr
    intro id1 b1 bi1 k1 h1 h2 h3 l hl
    by_cases e1 : id1 = id
    · subst e1
      simp only [updM, if_true, Option.some.injEq] at h1
      subst h1; rw [hls0] at hl; cases hl
    · simp only [updM, updR, e1, if_false] at h1 h2
      obtain ⟨y, h4, h5⟩ := h.lnk id1 b1 bi1 k1 h1 h2 h3 l hl
      exact ⟨y, hcell _ _ (fun e => e1 (h.inj _ _ _ _ _ h2 hρ h3 e)) h4, up _ _ _ h5⟩
end
end Go.Ab
