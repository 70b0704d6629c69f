/-
  Calls that write a block that is lent to them, and calls that hand back a new block; what an operation does, with these.
  Conditions: none.
-/
import Derived.Test.YtaoiffinodfcfaaAb17
namespace Go.Ab
open Go.RowKit
set_option linter.unusedVariables false

def fnV (k : Nat) : SV := .c (.v (.func (.func k) #[] #[]))

/-- an argument of a call that writes: data, or the block that is lent -/
inductive WA where
  | d (p : PV)
  | own
  | ptr

/-- ████ a contract of a call that writes a block: what it hands back, and what the block holds then ████ -/
structure WCalls (P : Program) (k : Nat) (args : List WA) (b : Blk) (r : PV) (es : List PV) : Prop where
  plain : plainFn P k = true
  flat : r.flat = true
  len : es.length = b.elems.length
  ls : b.ls = []
  row : b.mp = none
  calls : ∀ (S : Addr → Prop) (w : World) (vs : Array Value) (bi : BI), vs.size = args.length →
    (∀ (i : Nat) (p : PV) (v : Value), args[i]? = some (.d p) → vs[i]? = some v → Rep w S p v) →
    (∀ (i : Nat) (v : Value), args[i]? = some .own → vs[i]? = some v → v = .slice (bi.base.map fun k => ⟨k, 0, none⟩) b.elems.length bi.cap) →
    (∀ (i : Nat) (v : Value), args[i]? = some .ptr → vs[i]? = some v → ∃ k, bi.base = some k ∧ v = .pointer (some ⟨k, 0, none⟩)) →
    (∀ a, S a → bi.base ≠ some a.block) → BlkAt w S (fun _ => True) b bi →
    Calls P k vs w fun e w' => ∃ x, e = .returned x ∧ Rep w' (fun _ => True) r x ∧ BelowX (fun k => bi.base = some k) w.heap.size w w' ∧
      BlkAt w' (fun a => S a ∨ w.heap.size ≤ a.block) (fun _ => True) { b with elems := es } bi

/-- ████ a contract of a call that hands back a new row ████ -/
structure FCalls (P : Program) (k : Nat) (args : List PV) (b : Blk) : Prop where
  plain : plainFn P k = true
  ls : b.ls = []
  row : b.mp = none
  calls : ∀ (S : Addr → Prop) (w : World) (vs : Array Value), vs.size = args.length → (∀ (i : Nat) (p : PV) (v : Value), args[i]? = some p → vs[i]? = some v → Rep w S p v) →
    Calls P k vs w fun e w' => ∃ bi : BI, e = .returned (.slice (bi.base.map fun k => ⟨k, 0, none⟩) b.elems.length bi.cap) ∧
      BlkAt w' (fun a => (S a ∨ w.heap.size ≤ a.block) ∧ bi.base ≠ some a.block) (fun k => w.heap.size ≤ k) b bi ∧ Below w.heap.size w w'

/-- ████ a contract of a call that hands back a struct, in whose cell j the header of a new row stands ████ -/
structure GCalls (P : Program) (k : Nat) (args : List PV) (p : PV) (j : Nat) (b : Blk) : Prop where
  plain : plainFn P k = true
  ls : b.ls = []
  row : b.mp = none
  calls : ∀ (S : Addr → Prop) (w : World) (vs : Array Value), vs.size = args.length → (∀ (i : Nat) (p : PV) (v : Value), args[i]? = some p → vs[i]? = some v → Rep w S p v) →
    Calls P k vs w fun e w' => ∃ (bi : BI) (x : Value), e = .returned x ∧ Rep w' (fun a => (S a ∨ w.heap.size ≤ a.block) ∧ bi.base ≠ some a.block) p x ∧ x.cells[j]? = some (.slice (bi.base.map fun k => ⟨k, 0, none⟩) b.elems.length bi.cap) ∧
      BlkAt w' (fun a => (S a ∨ w.heap.size ≤ a.block) ∧ bi.base ≠ some a.block) (fun k => w.heap.size ≤ k) b bi ∧ Below w.heap.size w w'

/-- ████ a contract of a call that makes a row grow that is lent to it, and hands it back ████ -/
structure PCalls (P : Program) (k : Nat) (args : List WA) (b : Blk) (es : List PV) : Prop where
  plain : plainFn P k = true
  ls : b.ls = []
  row : b.mp = none
  calls : ∀ (S : Addr → Prop) (w : World) (vs : Array Value) (bi : BI), vs.size = args.length →
    (∀ (i : Nat) (p : PV) (v : Value), args[i]? = some (.d p) → vs[i]? = some v → Rep w S p v) →
    (∀ (i : Nat) (v : Value), args[i]? = some .own → vs[i]? = some v → v = .slice (bi.base.map fun k => ⟨k, 0, none⟩) b.elems.length bi.cap) →
    (∀ (i : Nat) (v : Value), args[i]? = some .ptr → vs[i]? = some v → ∃ k, bi.base = some k ∧ v = .pointer (some ⟨k, 0, none⟩)) →
    (∀ a, S a → bi.base ≠ some a.block) → BlkAt w S (fun _ => True) b bi →
    Calls P k vs w fun e w' => ∃ bi' : BI, e = .returned (.slice (bi'.base.map fun k => ⟨k, 0, none⟩) es.length bi'.cap) ∧ (bi' = bi ∨ bi.len < bi'.len) ∧ BelowX (fun k => bi.base = some k) w.heap.size w w' ∧
      BlkAt w' (fun a => (S a ∨ w.heap.size ≤ a.block ∨ bi.base = some a.block) ∧ bi'.base ≠ some a.block) (fun k => bi.base = some k ∨ w.heap.size ≤ k) { b with elems := es } bi'

def idb : Id := (0, 0)
def closeW (m : Id → Option Blk) (id : Id) : SV → Option (Prop × WA)
  | .own id' n => if id' = id then (match m id with | some b => some (n = b.elems.length, .own) | none => none) else (match closeC m (.own id' n) with | some (p, q, y) => some (p ∧ q, .d y) | none => none)
  | .ptr id' n i off => if id' = id then (match m id with | some b => some (n = b.elems.length ∧ 0 < n ∧ i = 0 ∧ off = 0, .ptr) | none => none) else (match closeC m (.ptr id' n i off) with | some (p, q, y) => some (p ∧ q, .d y) | none => none)
  | x => match closeC m x with | some (p, q, y) => some (p ∧ q, .d y) | none => none
def closeWs (m : Id → Option Blk) (id : Id) : List SV → Option (Prop × List WA)
  | [] => some (True, [])
  | x :: xs => match closeW m id x, closeWs m id xs with
    | some (p, y), some (q, ys) => some (p ∧ q, y :: ys)
    | _, _ => none

section
variable {P : Program} {ρ : Id → Option BI} {S0 : Env} {w0 : World} {N : Nat} {s : ASt} {a : Act} {w : World}

theorem closeWs_len (m : Id → Option Blk) (id : Id) : ∀ (l : List SV) (p : Prop) (ys : List WA), closeWs m id l = some (p, ys) → ys.length = l.length
  | [], p, ys, h => by simp only [closeWs, Option.some.injEq, Prod.mk.injEq] at h; obtain ⟨-, rfl⟩ := h; rfl
  | x :: xs, p, ys, h => by
    simp only [closeWs] at h
    split at h
    · rename_i p1 y q1 ys1 h1 h2
      simp only [Option.some.injEq, Prod.mk.injEq] at h
      obtain ⟨-, rfl⟩ := h
      simp [closeWs_len m id xs _ _ h2]
    · cases h
theorem closeWs_at (m : Id → Option Blk) (id : Id) : ∀ (l : List SV) (p : Prop) (ys : List WA), closeWs m id l = some (p, ys) → p → ∀ (i : Nat) (y : WA) (x : SV), ys[i]? = some y → l[i]? = some x → ∃ q, closeW m id x = some (q, y) ∧ q
  | [], p, ys, h, _, i, y, x, hy, hx => by simp at hx
  | z :: zs, p, ys, h, hp, i, y, x, hy, hx => by
    simp only [closeWs] at h
    split at h
    · rename_i p1 y1 q1 ys1 h1 h2
      simp only [Option.some.injEq, Prod.mk.injEq] at h
      obtain ⟨rfl, rfl⟩ := h
      cases i with
      | zero => simp only [List.getElem?_cons_zero, Option.some.injEq] at hx hy; subst hx; subst hy; exact ⟨_, h1, hp.1⟩
      | succ i => exact closeWs_at m id zs _ _ h2 hp.2 i y x (by simpa using hy) (by simpa using hx)
    · cases h

theorem closeW_spec (h : RelAt ρ S0 w0 N s a w) {id : Id} {bi : BI} (hρ : ρ id = some bi) {b : Blk} (hm : s.m id = some b) {sv : SV} {x : Value} (hs : SRep w (Imm S0 w0.heap.size s.m ρ) ρ s.g sv x) {q : Prop} {y : WA} (hc : closeW s.m id sv = some (q, y)) (hq : q) :
    (∀ p, y = .d p → Rep w (Imm S0 w0.heap.size s.m ρ) p x) ∧ (y = .own → x = .slice (bi.base.map fun k => ⟨k, 0, none⟩) b.elems.length bi.cap) ∧ (y = .ptr → ∃ k, bi.base = some k ∧ x = .pointer (some ⟨k, 0, none⟩)) := by
  obtain ⟨_, bi', h1, B⟩ := h.blk id b hm
  rw [hρ] at h1; simp only [Option.some.injEq] at h1; subst h1
  have data : ∀ sv', sv' = sv → (match closeC s.m sv' with | some (p, q, y) => some (p ∧ q, WA.d y) | none => none) = some (q, y) → (∀ p, y = .d p → Rep w (Imm S0 w0.heap.size s.m ρ) p x) ∧ (y = .own → x = .slice (bi.base.map fun k => ⟨k, 0, none⟩) b.elems.length bi.cap) ∧ (y = .ptr → ∃ k, bi.base = some k ∧ x = .pointer (some ⟨k, 0, none⟩)) := by
    rintro _ rfl hc
    split at hc
    · rename_i p1 q1 y1 h1
      simp only [Option.some.injEq, Prod.mk.injEq] at hc
      obtain ⟨rfl, rfl⟩ := hc
      refine ⟨fun p e => ?_, (fun e => by cases e), (fun e => by cases e)⟩
      simp only [WA.d.injEq] at e; subst e
      exact closeC_ro h hs h1 hq.1 hq.2
    · cases hc
  cases sv with
  | own id' n =>
    simp only [closeW] at hc
    split at hc
    · rename_i e; subst e
      rw [hm] at hc
      simp only [Option.some.injEq, Prod.mk.injEq] at hc
      obtain ⟨rfl, rfl⟩ := hc
      refine ⟨(fun p e => by cases e), fun _ => ?_, (fun e => by cases e)⟩
      cases hs with
      | own _ _ _ hg ho =>
      have := (ho bi hρ).2 (by rw [B.len, hq])
      rw [← hq]; exact this
    · exact data _ rfl hc
  | ptr id' n i off =>
    simp only [closeW] at hc
    split at hc
    · rename_i e; subst e
      rw [hm] at hc
      simp only [Option.some.injEq, Prod.mk.injEq] at hc
      obtain ⟨rfl, rfl⟩ := hc
      refine ⟨(fun p e => by cases e), (fun e => by cases e), fun _ => ?_⟩
      obtain ⟨hn, _, rfl, rfl⟩ := hq
      cases hs with
      | ptr _ _ _ _ _ hg ho =>
      obtain ⟨k, e1, e2⟩ := (ho bi hρ).2 (by rw [B.len, hn])
      exact ⟨k, e1, by simpa using e2⟩
    · exact data _ rfl hc
  | c p => exact data _ rfl hc
  | nil => exact data _ rfl hc
  | iptr x off => exact data _ rfl hc
  | any => exact data _ rfl hc
  | when b x => exact data _ rfl hc
  | anyb => exact data _ rfl hc
  | st p ls => exact data _ rfl hc
  | pc => exact data _ rfl hc
  | mo => exact data _ rfl hc

/-- what a call leaves that nobody writes -/
theorem RelAt.adopt_imm (h : RelAt ρ S0 w0 N s a w) (d : Nat) (blk : Blk) (bi : BI) {a : Addr} (hS : (Imm S0 w0.heap.size s.m ρ a ∨ w.heap.size ≤ a.block) ∧ bi.base ≠ some a.block) :
    Imm S0 w0.heap.size (updM s.m (d, s.g d) (some blk)) (updR ρ (d, s.g d) (some bi)) a := by
  rcases hS.1 with h5 | h5
  · refine ⟨h5.1, fun id bi1 b1 h1 h2 h3 => ?_⟩
    by_cases e : id = (d, s.g d)
    · simp only [updR, e, if_true, Option.some.injEq] at h1
      subst h1; exact absurd h3 hS.2
    · simp only [updR, updM, e, if_false] at h1 h2
      exact h5.2 id bi1 b1 h1 h2 h3
  · refine ⟨.inl (Nat.le_trans h.below.size h5), fun id1 bi1 b1 g1 g2 g3 => ?_⟩
    by_cases e : id1 = (d, s.g d)
    · simp only [updR, e, if_true, Option.some.injEq] at g1
      subst g1; exact absurd g3 hS.2
    · simp only [updR, e, if_false] at g1
      have := h.base_lt g1 g3; omega

/-- the new block of a call -/
theorem RelAt.adopt (h : RelAt ρ S0 w0 N s a w) (d : Nat) (hd0 : d ≠ 0) {w' : World} (hb : Below w.heap.size w w') (blk : Blk) (bi : BI) (hbls : blk.ls = []) (hbm : blk.mp = none)
    (hbl : BlkAt w' (fun a => (Imm S0 w0.heap.size s.m ρ a ∨ w.heap.size ≤ a.block) ∧ bi.base ≠ some a.block) (fun k => w.heap.size ≤ k) blk bi) :
    RelAt (updR ρ (d, s.g d) (some bi)) S0 w0 N { s with m := updM s.m (d, s.g d) (some blk), g := upd s.g d (s.g d + 1) } a w' := by
  have h' := h.grow hb
  have hbase : ∀ k, bi.base = some k → w.heap.size ≤ k := fun k hk => (hbl.at_ k hk).1
  have old : ∀ id b' k, ρ id = some b' → b'.base = some k → k < w.heap.size := fun id b' k h1 h2 => h.base_lt h1 h2
  have K : Keeps w' (Imm S0 w0.heap.size s.m ρ) w' (Imm S0 w0.heap.size (updM s.m (d, s.g d) (some blk)) (updR ρ (d, s.g d) (some bi))) → True := fun _ => trivial
  have up : ∀ a, Imm S0 w0.heap.size s.m ρ a → bi.base ≠ some a.block → Imm S0 w0.heap.size (updM s.m (d, s.g d) (some blk)) (updR ρ (d, s.g d) (some bi)) a := fun a hS hne => by
    refine ⟨hS.1, fun id bi1 b1 h1 h2 h3 => ?_⟩
    by_cases e : id = (d, s.g d)
    · simp only [updR, e, if_true, Option.some.injEq] at h1
      subst h1; exact absurd h3 hne
    · simp only [updR, updM, e, if_false] at h1 h2
      exact hS.2 id bi1 b1 h1 h2 h3
  have K1 : Keeps w (Imm S0 w0.heap.size s.m ρ) w' (Imm S0 w0.heap.size (updM s.m (d, s.g d) (some blk)) (updR ρ (d, s.g d) (some bi))) := fun a v hS hc => by
    have hlt := rd_lt hc
    exact ⟨by rw [rd_of_block (hb.block _ hlt)]; exact hc, up a hS (fun e => by have := hbase _ e; omega)⟩
  have hgle : ∀ x, s.g x ≤ upd s.g d (s.g d + 1) x := fun x => by unfold upd; split <;> simp_all
  have hold : ∀ id bi1, id.2 < s.g id.1 → updR ρ (d, s.g d) (some bi) id = some bi1 → ρ id = some bi1 := fun id bi1 hg e => by
    have : id ≠ (d, s.g d) := by rintro rfl; simp at hg
    simpa [updR, this] using e
  refine ⟨h.size, h.defers, fun i => (h.slots i).mono K1 hgle (fun id bi1 hg e => ⟨bi1, hold id bi1 hg e, .inl rfl⟩), fun id b hb1 => ?_, fun id bi1 e => ?_, ?_, h'.below, fun id bi1 e0 e => ?_, fun id b bi1 k h1 h2 h3 l hl => ?_⟩
  · by_cases e : id = (d, s.g d)
    · subst e
      simp only [updM, if_true, Option.some.injEq] at hb1
      subst hb1
      refine ⟨by simp [upd], bi, by simp [updR], hbl.len, hbl.sz, hbl.cap, hbl.most, hbl.nil, hbl.shape, fun k hk => ?_, hbl.kd, hbl.kd0, hbl.mb⟩
      obtain ⟨h1, h2⟩ := hbl.at_ k hk
      refine ⟨by simp only [Env.nw, hd0, if_false]; exact Nat.le_trans h.below.size h1, h2.keep rfl fun a v hS hc => ⟨hc, ?_⟩⟩
      rcases hS.1 with h5 | h5
      · exact up a h5 hS.2
      · refine ⟨.inl (Nat.le_trans h.below.size h5), fun id1 bi1 b1 g1 g2 g3 => ?_⟩
        by_cases e : id1 = (d, s.g d)
        · simp only [updR, e, if_true, Option.some.injEq] at g1
          subst g1; exact absurd g3 hS.2
        · simp only [updR, e, if_false] at g1
          have := old id1 bi1 _ g1 g3; omega
    · simp only [updM, e, if_false] at hb1
      obtain ⟨hg, bi1, hρ, B⟩ := h.blk id b hb1
      refine ⟨Nat.lt_of_lt_of_le hg (hgle _), bi1, by simp [updR, e, hρ], ⟨B.len, B.sz, B.cap, B.most, B.nil, B.shape, fun k hk => ?_, B.kd, B.kd0, B.mb⟩⟩
      obtain ⟨h1, h2⟩ := B.at_ k hk
      exact ⟨h1, h2.keep (hb.block k (old id bi1 k hρ hk)) K1⟩
  · by_cases e' : id = (d, s.g d)
    · exact ⟨blk, by simp [updM, e']⟩
    · simp only [updR, e', if_false] at e
      obtain ⟨b, hb⟩ := h.dom id bi1 e
      exact ⟨b, by simp [updM, e', hb]⟩
  · intro id id' bi1 bi2 k h1 h2 h3 h4
    by_cases e1 : id = (d, s.g d) <;> by_cases e2 : id' = (d, s.g d)
    · rw [e1, e2]
    · simp only [updR, e1, e2, if_true, if_false, Option.some.injEq] at h1 h2
      subst h1
      have := old id' bi2 _ h2 h4; have := hbase _ h3; omega
    · simp only [updR, e1, e2, if_true, if_false, Option.some.injEq] at h1 h2
      subst h2
      have := old id bi1 _ h1 h3; have := hbase _ h4; omega
    · simp only [updR, e1, e2, if_false] at h1 h2
      exact h.inj id id' bi1 bi2 k h1 h2 h3 h4
  · by_cases e1 : id = (d, s.g d)
    · subst e1; exact absurd e0 hd0
    · simp only [updR, e1, if_false] at e
      exact h.bor id bi1 e0 e
  · by_cases e1 : id = (d, s.g d)
    · subst e1
      simp only [updM, if_true, Option.some.injEq] at h1
      subst h1; rw [hbls] at hl; cases hl
    · simp only [updM, updR, e1, if_false] at h1 h2
      obtain ⟨y, h4, h5⟩ := h'.lnk id b bi1 k h1 h2 h3 l hl
      exact ⟨y, h4, h5.mono hgle (fun id bi1 hg e => ⟨bi1, hold id bi1 hg e, .inl rfl⟩)⟩

/-- a call's argument values by their places -/
theorem args_at (h : RelAt ρ S0 w0 N s a w) {args : Array Operand} {i : Nat} {v : Value} (hv : (args.map a.eval)[i]? = some v) : ∃ x, args[i]? = some x ∧ (args.toList.map s.ev)[i]? = some (s.ev x) ∧ SRep w (Imm S0 w0.heap.size s.m ρ) ρ s.g (s.ev x) v := by
  simp only [Array.getElem?_map, Option.map_eq_some_iff] at hv
  obtain ⟨x, hx, rfl⟩ := hv
  exact ⟨x, hx, by simp [hx], ev_rep h x⟩

theorem callOp_run2 {o : Oper} {f : Operand} {k : Nat} {args : Array Operand} {ts : Array TypeId} (ho : o.op = .call ⟨.value f, args, ts⟩) (hf : a.eval f = .func (.func k) #[] #[]) (hp : plainFn P k = true) : (execOp a.eval o).run P w = .ok (.enter k (args.map a.eval)) w := by
  unfold plainFn at hp
  cases hk : P.funcs[k]? with
  | none => simp [hk] at hp
  | some fn =>
    simp only [hk, Bool.and_eq_true, bne_iff_ne, ne_eq, Option.isSome_iff_ne_none] at hp
    have h1 : (fn.name == "runtime.NumGoroutine") = false := by simpa using hp.1
    have h2 : fn.body.isNone = false := by cases hb : fn.body <;> simp_all
    unfold execOp
    simp only [ho, resolve, hf, Deferred.ofValue, invoke, callFunc, Sem.run_bind, Sem.run_pure, Result.andThen, run_program, hk, h1, h2, Bool.false_eq_true, if_false, Array.empty_append, Array.append_empty]

theorem callOp_run3 {o : Oper} {f : Operand} {k : Nat} {cap : Array Value} {args : Array Operand} {ts : Array TypeId} (ho : o.op = .call ⟨.value f, args, ts⟩) (hf : a.eval f = .func (.func k) #[] cap) (hp : plainFn P k = true) : (execOp a.eval o).run P w = .ok (.enter k (args.map a.eval ++ cap)) w := by
  unfold plainFn at hp
  cases hk : P.funcs[k]? with
  | none => simp [hk] at hp
  | some fn =>
    simp only [hk, Bool.and_eq_true, bne_iff_ne, ne_eq, Option.isSome_iff_ne_none] at hp
    have h1 : (fn.name == "runtime.NumGoroutine") = false := by simpa using hp.1
    have h2 : fn.body.isNone = false := by cases hb : fn.body <;> simp_all
    unfold execOp
    simp only [ho, resolve, hf, Deferred.ofValue, invoke, callFunc, Sem.run_bind, Sem.run_pure, Result.andThen, run_program, hk, h1, h2, Bool.false_eq_true, if_false, Array.empty_append]

/-- what an operation does: one of its own, or a call by a contract -/
inductive Does (P : Program) (o : Oper) (s : ASt) : SV → Eff → Prop
  | op (pre : Prop) (sv : SV) (eff : Eff) (he : aExec P o.op s.ev s.m (dnum o, s.g (dnum o)) = some (pre, sv, eff)) (hp : pre) : Does P o s sv eff
  | opW (pre : Prop) (sv : SV) (b : Blk) (T : TypeId) (len : Nat) (parts : Array (Nat × Operand)) (g : Bool) (ho : o.op = .buildSlice T len parts) (he : aExec P o.op s.ev s.m (dnum o, s.g (dnum o)) = some (pre, sv, .new b)) (hp : pre) : Does P o s sv (.new { b with rw := g })
  | opZ (pre : Prop) (sv : SV) (b : Blk) (T : TypeId) (l c : Operand) (ho : o.op = .makeSlice T l c) (he : aExec P o.op s.ev s.m (dnum o, s.g (dnum o)) = some (pre, sv, .new b)) (hp : pre) (hz : ∀ e ∈ b.elems, e = .sl []) : Does P o s sv (.new { b with elems := b.elems.map fun _ => .v (.slice none 0 0) })
  | call (f : Operand) (k : Nat) (args : Array Operand) (ts : Array TypeId) (p q : Prop) (ys : List PV) (r : PV) (ho : o.op = .call ⟨.value f, args, ts⟩) (hf : s.ev f = fnV k)
      (hc : closeCs s.m (args.toList.map s.ev) = some (p, q, ys)) (hp : p) (hq : q ∨ r.flat = true) (hA : ACalls P k ys r) : Does P o s (.c r) .none
  | ccall (f : Operand) (k : Nat) (cs : List PV) (args : Array Operand) (ts : Array TypeId) (p q : Prop) (ys : List PV) (r : PV) (ho : o.op = .call ⟨.value f, args, ts⟩) (hf : s.ev f = .c (.fn k cs))
      (hc : closeCs s.m (args.toList.map s.ev) = some (p, q, ys)) (hp : p) (hq : q ∨ r.flat = true) (hA : ACalls P k (ys ++ cs) r) : Does P o s (.c r) .none
  | wcall (f : Operand) (k : Nat) (args : Array Operand) (ts : Array TypeId) (id : Id) (b : Blk) (p : Prop) (ys : List WA) (r : PV) (es : List PV) (ho : o.op = .call ⟨.value f, args, ts⟩) (hf : s.ev f = fnV k)
      (hm : s.m id = some b) (hrw : b.rw = true) (hid : id ∈ (args.toList.map s.ev).filterMap ment) (hc : closeWs s.m id (args.toList.map s.ev) = some (p, ys)) (hp : p) (hA : WCalls P k ys b r es) : Does P o s (.c r) (.set id { b with elems := es })
  | fcall (f : Operand) (k : Nat) (args : Array Operand) (ts : Array TypeId) (p q : Prop) (ys : List PV) (b : Blk) (n : Nat) (hn : n = b.elems.length) (ho : o.op = .call ⟨.value f, args, ts⟩) (hf : s.ev f = fnV k)
      (hc : closeCs s.m (args.toList.map s.ev) = some (p, q, ys)) (hp : p) (hq : q) (hA : FCalls P k ys b) : Does P o s (.own (dnum o, s.g (dnum o)) n) (.new b)
  | gcall (f : Operand) (k : Nat) (args : Array Operand) (ts : Array TypeId) (p q : Prop) (ys : List PV) (x : PV) (j : Nat) (b : Blk) (n : Nat) (hn : n = b.elems.length) (ho : o.op = .call ⟨.value f, args, ts⟩) (hf : s.ev f = fnV k)
      (hc : closeCs s.m (args.toList.map s.ev) = some (p, q, ys)) (hp : p) (hq : q) (hA : GCalls P k ys x j b) : Does P o s (.st x [(j, (dnum o, s.g (dnum o)), n)]) (.new b)
  | pcall (f : Operand) (k : Nat) (args : Array Operand) (ts : Array TypeId) (id : Id) (b : Blk) (p : Prop) (ys : List WA) (es : List PV) (n : Nat) (hn : n = es.length) (ho : o.op = .call ⟨.value f, args, ts⟩) (hf : s.ev f = fnV k)
      (hm : s.m id = some b) (hrw : b.rw = true) (hne : id.1 ≠ 0 ∨ id.2 ≠ 0) (hid : id ∈ (args.toList.map s.ev).filterMap ment) (hc : closeWs s.m id (args.toList.map s.ev) = some (p, ys)) (hp : p) (hA : PCalls P k ys b es) : Does P o s (.own id n) (.set id { b with elems := es })

theorem BlkAt.weak {S : Addr → Prop} {Nw Nw' : Nat → Prop} {b : Blk} {bi : BI} (B : BlkAt w S Nw b bi) (h : ∀ k, bi.base = some k → Nw k → Nw' k) : BlkAt w S Nw' b bi :=
  ⟨B.len, B.sz, B.cap, B.most, B.nil, B.shape, (fun k hk => by obtain ⟨h1, h2⟩ := B.at_ k hk; exact ⟨h k hk h1, h2⟩), B.kd, B.kd0, B.mb⟩
theorem BlkAt.keep {S S' : Addr → Prop} {Nw : Nat → Prop} {b : Blk} {bi : BI} (B : BlkAt w S Nw b bi) (h : ∀ a, S a → S' a) : BlkAt w S' Nw b bi :=
  ⟨B.len, B.sz, B.cap, B.most, B.nil, B.shape, (fun k hk => by
    obtain ⟨h1, h2⟩ := B.at_ k hk
    exact ⟨h1, h2.keep rfl fun a v hS hc => ⟨hc, h a hS⟩⟩), B.kd, B.kd0, B.mb⟩

theorem Does.sound (h : RelAt ρ S0 w0 N s a w) {o : Oper} (hd : ∀ k, o.dst = some k → k < N) {sv : SV} {eff : Eff} (hs : Does P o s sv eff) (Q : Exit → Act → World → Prop) :
    o.wp P a w (fun a' w' => Rel S0 w0 N (s.app o sv eff) a' w') Q := by
  have put : ∀ {ρ' : Id → Option BI} {v : Value} {w' : World}, RelAt ρ' S0 w0 N (s.eff (dnum o, s.g (dnum o)) eff) a w' → SRep w' (Imm S0 w0.heap.size (s.eff (dnum o, s.g (dnum o)) eff).m ρ') ρ' (s.eff (dnum o, s.g (dnum o)) eff).g sv v → Rel S0 w0 N (s.app o sv eff) (a.put o.dst v) w' := fun {ρ' v w'} hR hS => ⟨ρ', by
      have := hR.put hd hS
      unfold ASt.app
      have ht : (s.eff (dnum o, s.g (dnum o)) eff).t = s.t := by cases eff <;> rfl
      rw [ht] at this
      exact this⟩
  have fnEv : ∀ {f : Operand} {k : Nat}, s.ev f = fnV k → a.eval f = .func (.func k) #[] #[] := fun {f k} e => by
    have := ev_rep h f
    rw [e] at this
    exact srep_v this
  cases hs with
  | op pre _ _ he hp =>
    obtain ⟨rr, v, w', ρ', hrun, hr, hR, hS⟩ := exec_sound h (dnum o) (dnum_ne o) he hp
    unfold Oper.wp
    rw [hrun]
    rcases hr with rfl | ⟨rfl, rfl⟩
    · rw [Oper.upon_value]; exact put hR hS
    · rw [Oper.upon_skip]; exact put hR hS
  | opW pre _ b T len parts g ho he hp =>
    obtain ⟨b', e, rr, v, w', ρ', hrun, hr, hR, hS⟩ := exec_buildSliceW h ho (dnum o) (dnum_ne o) he hp g
    simp only [Eff.new.injEq] at e
    subst e
    unfold Oper.wp
    rw [hrun]
    rcases hr with rfl | ⟨rfl, rfl⟩
    · rw [Oper.upon_value]; exact put hR hS
    · rw [Oper.upon_skip]; exact put hR hS
  | opZ pre _ b T l c ho he hp hz =>
    obtain ⟨rr, v, w', ρ', hrun, hr, hR, hS⟩ := exec_makeSliceZ h ho (dnum o) (dnum_ne o) he hp hz
    unfold Oper.wp
    rw [hrun]
    rcases hr with rfl | ⟨rfl, rfl⟩
    · rw [Oper.upon_value]; exact put hR hS
    · rw [Oper.upon_skip]; exact put hR hS
  | call f k args ts p q ys r ho hf hc hp hq hA =>
    unfold Oper.wp
    rw [callOp_run2 ho (fnEv hf) hA.plain, Oper.upon_enter]
    have hlen := closeCs_len _ _ _ _ _ hc
    simp only [List.length_map, Array.length_toList] at hlen
    have at_ : ∀ (i : Nat) (y : PV) (v : Value), ys[i]? = some y → (args.map a.eval)[i]? = some v → ∃ (sv : SV) (p' q' : Prop), closeC s.m sv = some (p', q', y) ∧ (p → p') ∧ (q → q') ∧ SRep w (Imm S0 w0.heap.size s.m ρ) ρ s.g sv v := fun i y v hy hv => by
      obtain ⟨x, hx, hx2, hr⟩ := args_at h hv
      obtain ⟨p', q', h1, h2, h3⟩ := closeCs_at _ _ _ _ _ hc i y (s.ev x) hy hx2
      exact ⟨_, p', q', h1, h2, h3, hr⟩
    have fin : ∀ (v : Value) (w'' : World), Rep w'' (Imm S0 w0.heap.size s.m ρ) r v → Below w.heap.size w w'' → Rel S0 w0 N (s.app o (.c r) .none) (a.put o.dst v) w'' := fun v w'' hr hb =>
      ⟨ρ, (h.grow hb).put hd (.c _ _ hr)⟩
    by_cases hf : r.flat = true
    · refine (hA.calls (fun _ => True) w (args.map a.eval) (by simp [hlen]) (fun i y v hy hv => ?_)).mono ?_
      · obtain ⟨sv, p', q', h1, h2, h3, h4⟩ := at_ i y v hy hv
        exact closeC_any h h4 h1 (h2 hp)
      · rintro e w'' ⟨x, rfl, hr, hb⟩
        exact fin x w'' (flat_rep 9 r x hf hr) hb
    · have hq' : q := hq.resolve_right hf
      refine (hA.calls (Imm S0 w0.heap.size s.m ρ) w (args.map a.eval) (by simp [hlen]) (fun i y v hy hv => ?_)).mono ?_
      · obtain ⟨sv, p', q', h1, h2, h3, h4⟩ := at_ i y v hy hv
        exact closeC_ro h h4 h1 (h2 hp) (h3 hq')
      · rintro e w'' ⟨x, rfl, hr, hb⟩
        refine fin x w'' (hr.mono fun a v hS hc => ⟨hc, ?_⟩) hb
        rcases hS with hS | hS
        · exact hS
        · exact ⟨.inl (Nat.le_trans h.below.size hS), fun id bi b h1 h2 h3 => by have := h.base_lt h1 h3; omega⟩
  | ccall f k cs args ts p q ys r ho hf hc hp hq hA =>
    have hfr := ev_rep h f
    rw [hf] at hfr
    generalize hfe : a.eval f = fv at hfr
    cases hfr with
    | c _ _ hfr =>
    cases hfr with
    | fn _ _ vs hvl hvr =>
    unfold Oper.wp
    rw [callOp_run3 ho hfe hA.plain, Oper.upon_enter]
    have hlen := closeCs_len _ _ _ _ _ hc
    simp only [List.length_map, Array.length_toList] at hlen
    have at_ : ∀ (i : Nat) (y : PV) (v : Value), ys[i]? = some y → (args.map a.eval)[i]? = some v → ∃ (sv : SV) (p' q' : Prop), closeC s.m sv = some (p', q', y) ∧ (p → p') ∧ (q → q') ∧ SRep w (Imm S0 w0.heap.size s.m ρ) ρ s.g sv v := fun i y v hy hv => by
      obtain ⟨x, hx, hx2, hr⟩ := args_at h hv
      obtain ⟨p', q', h1, h2, h3⟩ := closeCs_at _ _ _ _ _ hc i y (s.ev x) hy hx2
      exact ⟨_, p', q', h1, h2, h3, hr⟩
    have both : ∀ (S : Addr → Prop), (∀ (i : Nat) (y : PV) (v : Value), ys[i]? = some y → (args.map a.eval)[i]? = some v → Rep w S y v) → (∀ (i : Nat) (y : PV) (v : Value), cs[i]? = some y → vs[i]? = some v → Rep w S y v) →
        ∀ (i : Nat) (y : PV) (v : Value), (ys ++ cs)[i]? = some y → (args.map a.eval ++ vs)[i]? = some v → Rep w S y v := fun S h1 h2 i y v hy hv => by
      have e : (args.map a.eval).size = ys.length := by simp [hlen]
      rw [Array.getElem?_append] at hv
      split at hv
      · rw [List.getElem?_append_left (by omega)] at hy; exact h1 i y v hy hv
      · rw [List.getElem?_append_right (by omega)] at hy; exact h2 _ y v hy (by rw [← e]; exact hv)
    have fin : ∀ (v : Value) (w'' : World), Rep w'' (Imm S0 w0.heap.size s.m ρ) r v → Below w.heap.size w w'' → Rel S0 w0 N (s.app o (.c r) .none) (a.put o.dst v) w'' := fun v w'' hr hb =>
      ⟨ρ, (h.grow hb).put hd (.c _ _ hr)⟩
    by_cases hf : r.flat = true
    · refine (hA.calls (fun _ => True) w (args.map a.eval ++ vs) (by simp [hlen, hvl]) (both _ (fun i y v hy hv => ?_) (fun i y v hy hv => ?_))).mono ?_
      · obtain ⟨sv, p', q', h1, h2, h3, h4⟩ := at_ i y v hy hv
        exact closeC_any h h4 h1 (h2 hp)
      · exact (hvr i y v hy hv).mono fun a v _ hc => ⟨hc, trivial⟩
      · rintro e w'' ⟨x, rfl, hr, hb⟩
        exact fin x w'' (flat_rep 9 r x hf hr) hb
    · have hq' : q := hq.resolve_right hf
      refine (hA.calls (Imm S0 w0.heap.size s.m ρ) w (args.map a.eval ++ vs) (by simp [hlen, hvl]) (both _ (fun i y v hy hv => ?_) hvr)).mono ?_
      · obtain ⟨sv, p', q', h1, h2, h3, h4⟩ := at_ i y v hy hv
        exact closeC_ro h h4 h1 (h2 hp) (h3 hq')
      · rintro e w'' ⟨x, rfl, hr, hb⟩
        refine fin x w'' (hr.mono fun a v hS hc => ⟨hc, ?_⟩) hb
        rcases hS with hS | hS
        · exact hS
        · exact ⟨.inl (Nat.le_trans h.below.size hS), fun id bi b h1 h2 h3 => by have := h.base_lt h1 h3; omega⟩
  | wcall f k args ts id b p ys r es ho hf hm hrw hid hc hp hA =>
    unfold Oper.wp
    rw [callOp_run2 ho (fnEv hf) hA.plain, Oper.upon_enter]
    have hlen := closeWs_len _ _ _ _ _ hc
    simp only [List.length_map, Array.length_toList] at hlen
    obtain ⟨hg, bi, hρ, B⟩ := h.blk id b hm
    have at_ : ∀ (i : Nat) (y : WA) (v : Value), ys[i]? = some y → (args.map a.eval)[i]? = some v → (∀ p, y = .d p → Rep w (Imm S0 w0.heap.size s.m ρ) p v) ∧ (y = .own → v = .slice (bi.base.map fun k => ⟨k, 0, none⟩) b.elems.length bi.cap) ∧ (y = .ptr → ∃ k, bi.base = some k ∧ v = .pointer (some ⟨k, 0, none⟩)) := fun i y v hy hv => by
      obtain ⟨x, hx, hx2, hr⟩ := args_at h hv
      obtain ⟨q', h1, h2⟩ := closeWs_at _ _ _ _ _ hc hp i y (s.ev x) hy hx2
      exact closeW_spec h hρ hm hr h1 h2
    have hne : ∀ a, Imm S0 w0.heap.size s.m ρ a → bi.base ≠ some a.block := fun a hS e => by
      have := (hS.2 id bi b hρ hm e).1
      rw [hrw] at this; cases this
    have hbm : bi.mp = false := by rw [B.kd, hA.row]; rfl
    refine (hA.calls (Imm S0 w0.heap.size s.m ρ) w (args.map a.eval) bi (by simp [hlen]) (fun i y v hy hv => (at_ i _ v hy hv).1 _ rfl) (fun i v hy hv => (at_ i _ v hy hv).2.1 rfl) (fun i v hy hv => (at_ i _ v hy hv).2.2 rfl) hne (B.weak fun _ _ _ => trivial)).mono ?_
    rintro e w'' ⟨x, rfl, hr, hb, B'⟩
    cases hbase : bi.base with
    | none =>
      have h0 : b.elems = [] := by
        have h1 := B.nil hbase; have h2 := B.cap; have h3 := B.len
        exact List.length_eq_zero_iff.1 (by omega)
      have h1 : es = [] := by
        have h1 := B'.nil hbase; have h2 := B'.cap; have h3 : bi.len = es.length := B'.len
        exact List.length_eq_zero_iff.1 (by omega)
      have e1 : ({ b with elems := es } : Blk) = b := by rw [h1]; cases b; simp only at h0; rw [h0]
      have hb' : Below w.heap.size w w'' := hb.to (fun k => by simp [hbase])
      have e2 : s.eff (dnum o, s.g (dnum o)) (.set id { b with elems := es }) = s := by rw [e1]; show ({ s with m := updM s.m id (some b) } : ASt) = s; rw [updM_self hm]
      refine put (ρ' := ρ) ?_ ?_
      · rw [e2]; exact h.grow hb'
      · rw [e2]; exact .c _ _ (flat_rep 9 r x hA.flat hr)
    | some k0 =>
      have hlt := h.base_lt hρ hbase
      refine put (ρ' := updR ρ id (some bi)) (h.set (bi := bi) (bi' := bi) (k := k0) (b' := { b with elems := es }) hm hρ ⟨hbm, hbm⟩ rfl rfl (.inl rfl) (by show b.elems.length ≤ es.length; rw [← B.len, ← (show bi.len = es.length from B'.len)]; exact Nat.le_refl _) hbase (.inl hbase) (fun j hj hj2 => hb.block j hj2 (fun e => hj (by rw [hbase] at e; simpa using e.symm))) (fun _ o v h1 => by rw [hrw] at h1; cases h1) hb.size hb.os hb.tape hb.output (fun K => ?_) (fun l hl => by rw [show ({ b with elems := es } : Blk).ls = [] from hA.ls] at hl; cases hl)) (.c _ _ (flat_rep 9 r x hA.flat hr))
      refine ⟨B'.len, B.sz, B.cap, B.most, B.nil, B'.shape, fun k hk => ?_, B'.kd, B'.kd0, B'.mb⟩
      obtain ⟨_, h2⟩ := B'.at_ k hk
      refine ⟨(B.at_ k hk).1, h2.keep rfl fun a v hS hc => ⟨hc, ?_⟩⟩
      rcases hS with hS | hS
      · refine ⟨hS.1, fun id1 bi1 b1 g1 g2 g3 => ?_⟩
        by_cases e : id1 = id
        · simp only [updR, e, if_true, Option.some.injEq] at g1
          subst g1; exact absurd g3 (hne a hS)
        · simp only [updR, updM, e, if_false] at g1 g2
          exact hS.2 id1 bi1 b1 g1 g2 g3
      · refine ⟨.inl (Nat.le_trans h.below.size hS), fun id1 bi1 b1 g1 g2 g3 => ?_⟩
        by_cases e : id1 = id
        · simp only [updR, e, if_true, Option.some.injEq] at g1
          subst g1; have := h.base_lt hρ g3; omega
        · simp only [updR, e, if_false] at g1
          have := h.base_lt g1 g3; omega
  | pcall f k args ts id b p ys es n hn ho hf hm hrw hne0 hid hc hp hA =>
    unfold Oper.wp
    rw [callOp_run2 ho (fnEv hf) hA.plain, Oper.upon_enter]
    have hlen := closeWs_len _ _ _ _ _ hc
    simp only [List.length_map, Array.length_toList] at hlen
    obtain ⟨hg, bi, hρ, B⟩ := h.blk id b hm
    have at_ : ∀ (i : Nat) (y : WA) (v : Value), ys[i]? = some y → (args.map a.eval)[i]? = some v → (∀ p, y = .d p → Rep w (Imm S0 w0.heap.size s.m ρ) p v) ∧ (y = .own → v = .slice (bi.base.map fun k => ⟨k, 0, none⟩) b.elems.length bi.cap) ∧ (y = .ptr → ∃ k, bi.base = some k ∧ v = .pointer (some ⟨k, 0, none⟩)) := fun i y v hy hv => by
      obtain ⟨x, hx, hx2, hr⟩ := args_at h hv
      obtain ⟨q', h1, h2⟩ := closeWs_at _ _ _ _ _ hc hp i y (s.ev x) hy hx2
      exact closeW_spec h hρ hm hr h1 h2
    have hne : ∀ a, Imm S0 w0.heap.size s.m ρ a → bi.base ≠ some a.block := fun a hS e => by
      have := (hS.2 id bi b hρ hm e).1
      rw [hrw] at this; cases this
    have hbm : bi.mp = false := by rw [B.kd, hA.row]; rfl
    refine (hA.calls (Imm S0 w0.heap.size s.m ρ) w (args.map a.eval) bi (by simp [hlen]) (fun i y v hy hv => (at_ i _ v hy hv).1 _ rfl) (fun i v hy hv => (at_ i _ v hy hv).2.1 rfl) (fun i v hy hv => (at_ i _ v hy hv).2.2 rfl) hne (B.weak fun _ _ _ => trivial)).mono ?_
    rintro e w'' ⟨bi', rfl, hgr, hb, B'⟩
    have hset := h.set2 (bi := bi) (bi' := bi') (b' := { b with elems := es }) (w' := w'') hm hρ hrw hA.ls (hgr.imp_right fun h => ⟨hne0, h⟩) (.inr ⟨hbm, by rw [B'.kd]; show b.mp.isSome = false; rw [hA.row]; rfl⟩) (fun k hk => (B'.at_ k hk).1) (fun j hj hj2 => hb.block j hj2 hj) hb.size hb.os hb.tape hb.output (fun K => ?_)
    · refine put (ρ' := updR ρ id (some bi')) hset (.own _ _ _ hg (fun bi2 hb2 => ?_) (fun bi2 hb2 => ?_))
      · simp only [updR, if_true, Option.some.injEq] at hb2
        subst hb2
        exact ⟨by rw [hn]; exact Nat.le_of_eq (B'.len).symm, fun _ => by rw [hn]⟩
      · simp only [updR, if_true, Option.some.injEq] at hb2
        subst hb2; rw [B'.kd]; show b.mp.isSome = false; rw [hA.row]; rfl
    · refine ⟨B'.len, B'.sz, B'.cap, B'.most, B'.nil, B'.shape, fun k hk => ?_, B'.kd, B'.kd0, B'.mb⟩
      obtain ⟨g1, h2⟩ := B'.at_ k hk
      refine ⟨?_, h2.keep rfl fun a v hS hc => ⟨hc, ?_⟩⟩
      · rcases g1 with g1 | g1
        · exact (B.at_ k g1).1
        · exact Env.nw_new hne0 (Nat.le_trans h.below.size g1)
      · have oth : ∀ id1 bi1 b1, updR ρ id (some bi') id1 = some bi1 → updM s.m id (some { b with elems := es }) id1 = some b1 → bi1.base = some a.block → id1 ≠ id ∧ ρ id1 = some bi1 ∧ s.m id1 = some b1 := fun id1 bi1 b1 g1 g2 g3 => by
          by_cases e : id1 = id
          · simp only [updR, e, if_true, Option.some.injEq] at g1
            subst g1; exact absurd g3 hS.2
          · simp only [updR, updM, e, if_false] at g1 g2
            exact ⟨e, g1, g2⟩
        rcases hS.1 with h5 | h5 | h5
        · exact ⟨h5.1, fun id1 bi1 b1 g1 g2 g3 => by obtain ⟨_, e1, e2⟩ := oth id1 bi1 b1 g1 g2 g3; exact h5.2 id1 bi1 b1 e1 e2 g3⟩
        · exact ⟨.inl (Nat.le_trans h.below.size h5), fun id1 bi1 b1 g1 g2 g3 => by obtain ⟨_, e1, e2⟩ := oth id1 bi1 b1 g1 g2 g3; have := h.base_lt e1 g3; omega⟩
        · refine ⟨?_, fun id1 bi1 b1 g1 g2 g3 => by obtain ⟨e0, e1, e2⟩ := oth id1 bi1 b1 g1 g2 g3; exact absurd (h.inj _ _ _ _ _ e1 hρ g3 h5) e0⟩
          rcases Env.nw_or (B.at_ _ h5).1 with h6 | h6
          · exact .inl h6
          · exact .inr (.inl h6)
  | fcall f k args ts p q ys b n hn ho hf hc hp hq hA =>
    unfold Oper.wp
    rw [callOp_run2 ho (fnEv hf) hA.plain, Oper.upon_enter]
    have hlen := closeCs_len _ _ _ _ _ hc
    simp only [List.length_map, Array.length_toList] at hlen
    refine (hA.calls (Imm S0 w0.heap.size s.m ρ) w (args.map a.eval) (by simp [hlen]) (fun i y v hy hv => ?_)).mono ?_
    · obtain ⟨x, hx, hx2, hr⟩ := args_at h hv
      obtain ⟨p', q', h1, h2, h3⟩ := closeCs_at _ _ _ _ _ hc i y (s.ev x) hy hx2
      exact closeC_ro h hr h1 (h2 hp) (h3 hq)
    · rintro e w'' ⟨bi, rfl, hB, hb⟩
      refine put (ρ' := updR ρ (dnum o, s.g (dnum o)) (some bi)) (h.adopt (dnum o) (dnum_ne o) hb b bi hA.ls hA.row hB) ?_
      refine .own _ _ _ (by simp [ASt.eff, upd]) (fun bi' hb' => ?_) (fun bi' hb' => ?_)
      · simp only [updR, if_true, Option.some.injEq] at hb'
        subst hb'
        exact ⟨by rw [hn, hB.len]; exact Nat.le_refl _, fun _ => by rw [hn]⟩
      · simp only [updR, if_true, Option.some.injEq] at hb'
        subst hb'; rw [hB.kd, hA.row]; rfl
  | gcall f k args ts p q ys x j b n hn ho hf hc hp hq hA =>
    unfold Oper.wp
    rw [callOp_run2 ho (fnEv hf) hA.plain, Oper.upon_enter]
    have hlen := closeCs_len _ _ _ _ _ hc
    simp only [List.length_map, Array.length_toList] at hlen
    refine (hA.calls (Imm S0 w0.heap.size s.m ρ) w (args.map a.eval) (by simp [hlen]) (fun i y v hy hv => ?_)).mono ?_
    · obtain ⟨x, hx, hx2, hr⟩ := args_at h hv
      obtain ⟨p', q', h1, h2, h3⟩ := closeCs_at _ _ _ _ _ hc i y (s.ev x) hy hx2
      exact closeC_ro h hr h1 (h2 hp) (h3 hq)
    · rintro e w'' ⟨bi, y, rfl, hr, hj, hB, hb⟩
      refine put (ρ' := updR ρ (dnum o, s.g (dnum o)) (some bi)) (h.adopt (dnum o) (dnum_ne o) hb b bi hA.ls hA.row hB) ?_
      refine .st _ _ _ (hr.mono fun a v hS hc => ⟨hc, h.adopt_imm _ _ _ hS⟩) fun l hl => ?_
      rw [List.mem_singleton] at hl
      subst hl
      refine ⟨_, hj, by simp [ASt.eff, upd], fun bi' hb' => ?_⟩
      simp only [updR, if_true, Option.some.injEq] at hb'
      subst hb'
      exact ⟨⟨by rw [hn, hB.len]; exact Nat.le_refl _, fun _ => by rw [hn]⟩, by rw [hB.kd, hA.row]; rfl⟩
end

/-! ## the other side: a body that writes what is lent; a body that hands back a new row -/
section
variable {P : Program} {S0 : Env} {w0 : World} {N : Nat} {s : ASt} {a : Act} {w : World}
def argSlotsW (n : Nat) : Nat → List WA → List (Nat × SV)
  | _, [] => []
  | k, .d p :: ps => (k, .c p) :: argSlotsW n (k + 1) ps
  | k, .own :: ps => (k, .own (0, 0) n) :: argSlotsW n (k + 1) ps
  | k, .ptr :: ps => (k, .ptr (0, 0) n 0 0) :: argSlotsW n (k + 1) ps
def waSV (n : Nat) : WA → SV
  | .d p => .c p
  | .own => .own (0, 0) n
  | .ptr => .ptr (0, 0) n 0 0
theorem lk_argsW (n : Nat) : ∀ (ps : List WA) (k i : Nat), lk (argSlotsW n k ps) i = if k ≤ i then (match ps[i - k]? with | some p => waSV n p | none => .any) else .any
  | [], k, i => by simp [argSlotsW, lk]
  | p :: ps, k, i => by
    have e : argSlotsW n k (p :: ps) = (k, waSV n p) :: argSlotsW n (k + 1) ps := by cases p <;> rfl
    rw [e]; simp only [lk]
    by_cases h : i = k
    · subst h; simp
    · rw [if_neg h, lk_argsW n ps (k + 1) i]
      by_cases h2 : k + 1 ≤ i
      · rw [if_pos h2, if_pos (by omega), show i - k = (i - (k + 1)) + 1 by omega]; simp
      · rw [if_neg h2, if_neg (by omega)]

def EndW (P : Program) (fn : Func) (r : PV) (b : Blk) (es : List PV) : Exit → ASt → Prop
  | .normal, s => (∃ p, resPV P fn s = some (p, r) ∧ p) ∧ s.m (0, 0) = some ⟨b.T, b.sz, es, true, [], none⟩
  | .ret, s => (∃ p, resPV P fn s = some (p, r) ∧ p) ∧ s.m (0, 0) = some ⟨b.T, b.sz, es, true, [], none⟩
  | _, _ => False

theorem wcalls_of {f : Nat} {fn : Func} {c : Code} {args : List WA} {b : Blk} {r : PV} {es : List PV} (hf : P.funcs[f]? = some fn) (hb : fn.body = some c) (hpl : plainFn P f = true) (hn : args.length ≤ fn.ntmps) (hfl : r.flat = true) (hlen : es.length = b.elems.length) (hls : b.ls = []) (hmp : b.mp = none)
    (h : AW P fn.ntmps c (EndW P fn r b es) ⟨lk (argSlotsW b.elems.length 0 args), lkM [((0, 0), some ⟨b.T, b.sz, b.elems, true, [], none⟩)], lkG [(0, 1)] 0⟩) : WCalls P f args b r es := by
  refine ⟨hpl, hfl, hlen, hls, hmp, fun S w vs bi hvs hrep hown hptr hdis B => ?_⟩
  have hgd : ∀ {i : Nat} {v : Value}, vs[i]? = some v → (vs ++ Array.replicate (fn.ntmps - vs.size) undef).getD i undef = v := fun {i v} hv => by
    have hlt := (Array.getElem?_eq_some_iff.1 hv).1
    rw [Array.getD_eq_getD_getElem?, Array.getElem?_append_left hlt, hv]; rfl
  let ρ0 : Id → Option BI := fun id => if id = (0, 0) then some bi else none
  have hρ0 : ∀ id bi', ρ0 id = some bi' → id = (0, 0) ∧ bi' = bi := fun id bi' e => by
    simp only [ρ0] at e; split at e
    · simp only [Option.some.injEq] at e; exact ⟨by assumption, e.symm⟩
    · cases e
  have hm0 : ∀ id b', lkM [((0, 0), some ⟨b.T, b.sz, b.elems, true, [], none⟩)] id = some b' → id = (0, 0) ∧ b' = ⟨b.T, b.sz, b.elems, true, [], none⟩ := fun id b' e => by
    simp only [lkM] at e; split at e
    · simp only [Option.some.injEq] at e; exact ⟨by assumption, e.symm⟩
    · cases e
  have imm : ∀ a, S a → Imm ⟨S, bi⟩ w.heap.size (lkM [((0, 0), some ⟨b.T, b.sz, b.elems, true, [], none⟩)]) ρ0 a := fun a hS => ⟨.inr (.inr hS), fun id bi' b' e1 _ e3 => by
    obtain ⟨_, rfl⟩ := hρ0 id bi' e1
    exact absurd e3 (hdis a hS)⟩
  have K : Keeps w S w (Imm ⟨S, bi⟩ w.heap.size (lkM [((0, 0), some ⟨b.T, b.sz, b.elems, true, [], none⟩)]) ρ0) := fun a v hS hc => ⟨hc, imm a hS⟩
  refine calls_of_wp hf hb (wp_mono (h ⟨S, bi⟩ w { tmps := vs ++ Array.replicate (fn.ntmps - vs.size) undef, defers := [] } w ?_) ?_)
  · refine ⟨ρ0, by simp; omega, rfl, fun i => ?_, fun id b' hb' => ?_, fun id bi' e => ?_, fun id id' b1 b2 k e1 e2 _ _ => ?_, BelowX.refl _ _ _, fun id bi' _ e => .inl (hρ0 id bi' e).2, fun id b' bi' k e _ _ l hl => by obtain ⟨_, rfl⟩ := hm0 id b' e; cases hl⟩
    · simp only [lk_argsW, Nat.zero_le, if_true, Nat.sub_zero]
      cases hp : args[i]? with
      | none => exact .any _
      | some p =>
        have hlt := (List.getElem?_eq_some_iff.1 hp).1
        obtain ⟨v, hv⟩ := getE (vs := vs) (i := i) (by omega)
        rw [hgd hv]
        cases p with
        | d p => exact .c _ _ ((hrep i p v hp hv).mono K)
        | own =>
          refine .own _ _ _ (by simp [lkG]) (fun bi' e => ?_) (fun bi' e => ?_)
          · obtain ⟨_, rfl⟩ := hρ0 _ bi' e
            exact ⟨by rw [B.len]; exact Nat.le_refl _, fun _ => hown i v hp hv⟩
          · obtain ⟨_, rfl⟩ := hρ0 _ bi' e
            rw [B.kd, hmp]; rfl
        | ptr =>
          refine .ptr _ _ _ _ _ (by simp [lkG]) fun bi' e => ?_
          obtain ⟨_, rfl⟩ := hρ0 _ bi' e
          obtain ⟨k, h1, h2⟩ := hptr i v hp hv
          exact ⟨by rw [B.len]; exact Nat.le_refl _, fun _ => ⟨k, h1, by rw [h2]; simp⟩⟩
    · obtain ⟨rfl, rfl⟩ := hm0 id b' hb'
      have hbm : bi.mp = false := by rw [B.kd, hmp]; rfl
      refine ⟨by simp [lkG], bi, by simp [ρ0], B.len, B.sz, B.cap, B.most, B.nil, B.shape, fun k hk => ?_, hbm, (fun e => by rw [hbm] at e; cases e), (fun e => by rw [hbm] at e; cases e)⟩
      obtain ⟨_, cells, h2, h3, h4⟩ := B.row hbm k hk
      exact ⟨.inl (by simp [Env.own, hk]), cells, h2, h3, fun i e j c x a1 a2 a3 => (h4 i e j c x a1 a2 a3).mono K⟩
    · obtain ⟨rfl, rfl⟩ := hρ0 id bi' e
      exact ⟨⟨b.T, b.sz, b.elems, true, [], none⟩, by simp [lkM]⟩
    · rw [(hρ0 id b1 e1).1, (hρ0 id' b2 e2).1]
  · rintro e a' w' ⟨s', h1, ρ, h2⟩
    have fin : ((∃ p, resPV P fn s' = some (p, r) ∧ p) ∧ s'.m (0, 0) = some ⟨b.T, b.sz, es, true, [], none⟩) → a'.defers = [] ∧ ∃ v, (results fn a'.tmps).run P w' = .ok v w' ∧ ∃ x, Ending.returned v = .returned x ∧ Rep w' (fun _ => True) r x ∧ BelowX (fun k => bi.base = some k) w.heap.size w w' ∧ BlkAt w' (fun a => S a ∨ w.heap.size ≤ a.block) (fun _ => True) { b with elems := es } bi := by
      rintro ⟨⟨p, h3, h4⟩, h5⟩
      obtain ⟨v, h6, h7⟩ := results_run (S := fun _ => True) h2 (fun _ _ => trivial) (fun _ _ => trivial) (fun _ _ => trivial) h3 h4
      obtain ⟨_, bi', e1, B'⟩ := h2.blk _ _ h5
      have e2 : bi' = bi := (h2.bor _ bi' rfl e1).resolve_right (fun h => h.1 rfl)
      subst e2
      refine ⟨h2.defers, v, h6, v, rfl, h7, h2.below, B'.len, B'.sz, B'.cap, B'.most, B'.nil, B'.shape, fun k hk => ?_, (by rw [B'.kd]; show false = b.mp.isSome; rw [hmp]; rfl), B'.kd0, B'.mb⟩
      obtain ⟨_, cells, g2, g3, g4⟩ := B'.row B'.kd k hk
      refine ⟨trivial, BlkAt.of_row hmp ⟨cells, g2, g3, fun i e j c x a1 a2 a3 => (g4 i e j c x a1 a2 a3).mono fun a v hS hc => ⟨hc, ?_⟩⟩⟩
      rcases hS.1 with g5 | g5 | g5
      · exact .inr g5
      · have := (hS.2 _ _ _ e1 h5 g5).1
        cases this
      · exact .inl g5
    cases e with
    | normal => exact fin h1
    | ret => exact fin h1
    | exit id => exact h1.elim
    | goto l => exact h1.elim
    | panic ch => exact h1.elim
    | outgrown => exact h1.elim

/-- a body that makes a row grow that is lent to it -/
def argSlotsP (n : Nat) : Nat → List WA → List (Nat × SV)
  | _, [] => []
  | k, .d p :: ps => (k, .c p) :: argSlotsP n (k + 1) ps
  | k, .own :: ps => (k, .own (0, 1) n) :: argSlotsP n (k + 1) ps
  | k, .ptr :: ps => (k, .ptr (0, 1) n 0 0) :: argSlotsP n (k + 1) ps
def waSVP (n : Nat) : WA → SV
  | .d p => .c p
  | .own => .own (0, 1) n
  | .ptr => .ptr (0, 1) n 0 0
theorem lk_argsP (n : Nat) : ∀ (ps : List WA) (k i : Nat), lk (argSlotsP n k ps) i = if k ≤ i then (match ps[i - k]? with | some p => waSVP n p | none => .any) else .any
  | [], k, i => by simp [argSlotsP, lk]
  | p :: ps, k, i => by
    have e : argSlotsP n k (p :: ps) = (k, waSVP n p) :: argSlotsP n (k + 1) ps := by cases p <;> rfl
    rw [e]; simp only [lk]
    by_cases h : i = k
    · subst h; simp
    · rw [if_neg h, lk_argsP n ps (k + 1) i]
      by_cases h2 : k + 1 ≤ i
      · rw [if_pos h2, if_pos (by omega), show i - k = (i - (k + 1)) + 1 by omega]; simp
      · rw [if_neg h2, if_neg (by omega)]
def resP (fn : Func) (s : ASt) (b : Blk) : Prop :=
  ∃ t n, fn.results.toList = [.tmp t] ∧ s.t t = .own (0, 1) n ∧ s.m (0, 1) = some b ∧ b.rw = true ∧ n = b.elems.length
def EndP (fn : Func) (b : Blk) : Exit → ASt → Prop
  | .normal, s => resP fn s b
  | .ret, s => resP fn s b
  | _, _ => False
theorem pcalls_of {f : Nat} {fn : Func} {c : Code} {args : List WA} {b : Blk} {es : List PV} (hf : P.funcs[f]? = some fn) (hb : fn.body = some c) (hpl : plainFn P f = true) (hn : args.length ≤ fn.ntmps) (hls : b.ls = []) (hmp : b.mp = none)
    (h : AW P fn.ntmps c (EndP fn ⟨b.T, b.sz, es, true, [], none⟩) ⟨lk (argSlotsP b.elems.length 0 args), lkM [((0, 1), some ⟨b.T, b.sz, b.elems, true, [], none⟩)], lkG [(0, 2)] 0⟩) : PCalls P f args b es := by
  refine ⟨hpl, hls, hmp, fun S w vs bi hvs hrep hown hptr hdis B => ?_⟩
  have hgd : ∀ {i : Nat} {v : Value}, vs[i]? = some v → (vs ++ Array.replicate (fn.ntmps - vs.size) undef).getD i undef = v := fun {i v} hv => by
    have hlt := (Array.getElem?_eq_some_iff.1 hv).1
    rw [Array.getD_eq_getD_getElem?, Array.getElem?_append_left hlt, hv]; rfl
  let ρ0 : Id → Option BI := fun id => if id = (0, 1) then some bi else none
  have hρ0 : ∀ id bi', ρ0 id = some bi' → id = (0, 1) ∧ bi' = bi := fun id bi' e => by
    simp only [ρ0] at e; split at e
    · simp only [Option.some.injEq] at e; exact ⟨by assumption, e.symm⟩
    · cases e
  have hm0 : ∀ id b', lkM [((0, 1), some ⟨b.T, b.sz, b.elems, true, [], none⟩)] id = some b' → id = (0, 1) ∧ b' = ⟨b.T, b.sz, b.elems, true, [], none⟩ := fun id b' e => by
    simp only [lkM] at e; split at e
    · simp only [Option.some.injEq] at e; exact ⟨by assumption, e.symm⟩
    · cases e
  have imm : ∀ a, S a → Imm ⟨S, bi⟩ w.heap.size (lkM [((0, 1), some ⟨b.T, b.sz, b.elems, true, [], none⟩)]) ρ0 a := fun a hS => ⟨.inr (.inr hS), fun id bi' b' e1 _ e3 => by
    obtain ⟨_, rfl⟩ := hρ0 id bi' e1
    exact absurd e3 (hdis a hS)⟩
  have K : Keeps w S w (Imm ⟨S, bi⟩ w.heap.size (lkM [((0, 1), some ⟨b.T, b.sz, b.elems, true, [], none⟩)]) ρ0) := fun a v hS hc => ⟨hc, imm a hS⟩
  refine calls_of_wp hf hb (wp_mono (h ⟨S, bi⟩ w { tmps := vs ++ Array.replicate (fn.ntmps - vs.size) undef, defers := [] } w ?_) ?_)
  · refine ⟨ρ0, by simp; omega, rfl, fun i => ?_, fun id b' hb' => ?_, fun id bi' e => ?_, fun id id' b1 b2 k e1 e2 _ _ => ?_, BelowX.refl _ _ _, fun id bi' _ e => .inl (hρ0 id bi' e).2, fun id b' bi' k e _ _ l hl => by obtain ⟨_, rfl⟩ := hm0 id b' e; cases hl⟩
    · simp only [lk_argsP, Nat.zero_le, if_true, Nat.sub_zero]
      cases hp : args[i]? with
      | none => exact .any _
      | some p =>
        have hlt := (List.getElem?_eq_some_iff.1 hp).1
        obtain ⟨v, hv⟩ := getE (vs := vs) (i := i) (by omega)
        rw [hgd hv]
        cases p with
        | d p => exact .c _ _ ((hrep i p v hp hv).mono K)
        | own =>
          refine .own _ _ _ (by simp [lkG]) (fun bi' e => ?_) (fun bi' e => ?_)
          · obtain ⟨_, rfl⟩ := hρ0 _ bi' e
            exact ⟨by rw [B.len]; exact Nat.le_refl _, fun _ => hown i v hp hv⟩
          · obtain ⟨_, rfl⟩ := hρ0 _ bi' e
            rw [B.kd, hmp]; rfl
        | ptr =>
          refine .ptr _ _ _ _ _ (by simp [lkG]) fun bi' e => ?_
          obtain ⟨_, rfl⟩ := hρ0 _ bi' e
          obtain ⟨k, h1, h2⟩ := hptr i v hp hv
          exact ⟨by rw [B.len]; exact Nat.le_refl _, fun _ => ⟨k, h1, by rw [h2]; simp⟩⟩
    · obtain ⟨rfl, rfl⟩ := hm0 id b' hb'
      have hbm : bi.mp = false := by rw [B.kd, hmp]; rfl
      refine ⟨by simp [lkG], bi, by simp [ρ0], B.len, B.sz, B.cap, B.most, B.nil, B.shape, fun k hk => ?_, hbm, (fun e => by rw [hbm] at e; cases e), (fun e => by rw [hbm] at e; cases e)⟩
      obtain ⟨_, cells, h2, h3, h4⟩ := B.row hbm k hk
      exact ⟨.inl (by simp [Env.own, hk]), cells, h2, h3, fun i e j c x a1 a2 a3 => (h4 i e j c x a1 a2 a3).mono K⟩
    · obtain ⟨rfl, rfl⟩ := hρ0 id bi' e
      exact ⟨⟨b.T, b.sz, b.elems, true, [], none⟩, by simp [lkM]⟩
    · rw [(hρ0 id b1 e1).1, (hρ0 id' b2 e2).1]
  · rintro e a' w' ⟨s', h1, ρ, h2⟩
    have fin : resP fn s' ⟨b.T, b.sz, es, true, [], none⟩ → a'.defers = [] ∧ ∃ v, (results fn a'.tmps).run P w' = .ok v w' ∧ ∃ bi' : BI, Ending.returned v = .returned (.slice (bi'.base.map fun k => ⟨k, 0, none⟩) es.length bi'.cap) ∧ (bi' = bi ∨ bi.len < bi'.len) ∧ BelowX (fun k => bi.base = some k) w.heap.size w w' ∧
        BlkAt w' (fun a => (S a ∨ w.heap.size ≤ a.block ∨ bi.base = some a.block) ∧ bi'.base ≠ some a.block) (fun k => bi.base = some k ∨ w.heap.size ≤ k) { b with elems := es } bi' := by
      rintro ⟨t, n, e1, e2, e4, -, rfl⟩
      obtain ⟨_, bi', e6, B'⟩ := h2.blk (0, 1) _ e4
      have hs := h2.slots t
      rw [e2] at hs
      generalize hv : a'.tmps.getD t undef = v at hs
      cases hs with
      | own _ _ _ hg ho =>
      have e7 := (ho bi' e6).2 B'.len
      refine ⟨h2.defers, v, ?_, bi', by rw [e7], (h2.bor _ bi' rfl e6).imp_right (·.2), h2.below, B'.len, B'.sz, B'.cap, B'.most, B'.nil, B'.shape, fun k hk => ?_, (by rw [B'.kd]; show false = b.mp.isSome; rw [hmp]; rfl), B'.kd0, B'.mb⟩
      · have hr : fn.results = #[.tmp t] := by
          have := congrArg List.toArray e1
          simpa using this
        rw [results_eq, hr, Sem.run_bind, Array.mapM_eq_mapM_toList, Sem.run_map]
        simp [resSem, Result.andThen, hv]
      · obtain ⟨g1, cells, g2, g3, g4⟩ := B'.row B'.kd k hk
        refine ⟨(Env.nw_or g1).symm, BlkAt.of_row hmp ⟨cells, g2, g3, fun i e j c x a1 a2 a3 => (g4 i e j c x a1 a2 a3).mono fun a v hS hc => ⟨hc, ?_, fun e => ?_⟩⟩⟩
        · rcases hS.1 with g5 | g5 | g5
          · exact .inr (.inl g5)
          · exact .inr (.inr g5)
          · exact .inl g5
        · have := (hS.2 (0, 1) bi' _ e6 e4 e).1
          cases this
    cases e with
    | normal => exact fin h1
    | ret => exact fin h1
    | exit id => exact h1.elim
    | goto l => exact h1.elim
    | panic ch => exact h1.elim
    | outgrown => exact h1.elim

/-- a body that hands back a row of its own -/
def resF (fn : Func) (s : ASt) (b : Blk) : Prop :=
  ∃ t id n, fn.results.toList = [.tmp t] ∧ s.t t = .own id n ∧ id.1 ≠ 0 ∧ s.m id = some b ∧ b.rw = true ∧ n = b.elems.length
def EndF (fn : Func) (b : Blk) : Exit → ASt → Prop
  | .normal, s => resF fn s b
  | .ret, s => resF fn s b
  | _, _ => False
theorem fcalls_of {f : Nat} {fn : Func} {c : Code} {args : List PV} {b : Blk} (hf : P.funcs[f]? = some fn) (hb : fn.body = some c) (hpl : plainFn P f = true) (hn : args.length ≤ fn.ntmps) (hls : b.ls = []) (hmp : b.mp = none)
    (h : AW P fn.ntmps c (EndF fn b) ⟨lk (argSlots 0 args), lkM [], lkG [] 0⟩) : FCalls P f args b := by
  refine ⟨hpl, hls, hmp, fun S w vs hvs hrep => ?_⟩
  refine calls_of_wp hf hb (wp_mono (h (lone0 S) w { tmps := vs ++ Array.replicate (fn.ntmps - vs.size) undef, defers := [] } w ?_) ?_)
  · refine ⟨fun _ => none, by simp; omega, rfl, fun i => ?_, (fun id b hb => by cases hb), (fun id bi e => by cases e), (fun id id' bi bi' k e => by cases e), BelowX.refl _ _ _, (fun id bi _ e => by cases e), (fun id b bi k e => by cases e)⟩
    simp only [lk_args, Nat.zero_le, if_true, Nat.sub_zero]
    cases hp : args[i]? with
    | none => exact .any _
    | some p =>
      have hlt := (List.getElem?_eq_some_iff.1 hp).1
      obtain ⟨v, hv⟩ := getE (vs := vs) (i := i) (by omega)
      have e : (vs ++ Array.replicate (fn.ntmps - vs.size) undef).getD i undef = v := by
        rw [Array.getD_eq_getD_getElem?, Array.getElem?_append_left (by omega), hv]; rfl
      rw [e]
      exact .c _ _ ((hrep i p v hp hv).mono fun a u hS hc => ⟨hc, .inr (.inr hS), (fun id bi b e => by cases e)⟩)
  · rintro e a' w' ⟨s', h1, ρ, h2⟩
    have fin : resF fn s' b → a'.defers = [] ∧ ∃ v, (results fn a'.tmps).run P w' = .ok v w' ∧ ∃ bi : BI, Ending.returned v = .returned (.slice (bi.base.map fun k => ⟨k, 0, none⟩) b.elems.length bi.cap) ∧
        BlkAt w' (fun a => (S a ∨ w.heap.size ≤ a.block) ∧ bi.base ≠ some a.block) (fun k => w.heap.size ≤ k) b bi ∧ Below w.heap.size w w' := by
      rintro ⟨t, id, n, e1, e2, e3, e4, e5, rfl⟩
      obtain ⟨_, bi, e6, B⟩ := h2.blk id b e4
      have hs := h2.slots t
      rw [e2] at hs
      generalize hv : a'.tmps.getD t undef = v at hs
      cases hs with
      | own _ _ _ hg ho =>
      have e7 := (ho bi e6).2 B.len
      refine ⟨h2.defers, v, ?_, bi, by rw [e7], ?_, h2.below.to (lone0_own S)⟩
      · have hr : fn.results = #[.tmp t] := by
          have := congrArg List.toArray e1
          simpa using this
        rw [results_eq, hr, Sem.run_bind, Array.mapM_eq_mapM_toList, Sem.run_map]
        simp [resSem, Result.andThen, hv]
      · refine ⟨B.len, B.sz, B.cap, B.most, B.nil, B.shape, fun k hk => ?_, B.kd, B.kd0, B.mb⟩
        obtain ⟨g1, g2⟩ := B.at_ k hk
        refine ⟨Env.nw_ne g1 e3, g2.keep rfl fun a v hS hc => ⟨hc, ?_, fun e => ?_⟩⟩
        · rcases hS.1 with g5 | g5 | g5
          · exact .inr g5
          · exact absurd g5 (lone0_own _ _)
          · exact .inl g5
        · have := (hS.2 id bi b e6 e4 e).1
          rw [e5] at this; cases this
    cases e with
    | normal => exact fin h1
    | ret => exact fin h1
    | exit id => exact h1.elim
    | goto l => exact h1.elim
    | panic ch => exact h1.elim
    | outgrown => exact h1.elim

/-- a body that hands back a struct with a row of its own -/
def resG (P : Program) (fn : Func) (s : ASt) (p : PV) (j : Nat) (b : Blk) : Prop :=
  ∃ r T id n q eff, fn.results.toList = [.cell r T] ∧ aLoad P s.m T (s.t r) = some (q, .st p [(j, id, some n)], eff) ∧ q ∧ id.1 ≠ 0 ∧ s.m id = some b ∧ b.rw = true ∧ n = b.elems.length
def EndG (P : Program) (fn : Func) (p : PV) (j : Nat) (b : Blk) : Exit → ASt → Prop
  | .normal, s => resG P fn s p j b
  | .ret, s => resG P fn s p j b
  | _, _ => False
theorem gcalls_of {f : Nat} {fn : Func} {c : Code} {args : List PV} {p : PV} {j : Nat} {b : Blk} (hf : P.funcs[f]? = some fn) (hb : fn.body = some c) (hpl : plainFn P f = true) (hn : args.length ≤ fn.ntmps) (hls : b.ls = []) (hmp : b.mp = none)
    (h : AW P fn.ntmps c (EndG P fn p j b) ⟨lk (argSlots 0 args), lkM [], lkG [] 0⟩) : GCalls P f args p j b := by
  refine ⟨hpl, hls, hmp, fun S w vs hvs hrep => ?_⟩
  refine calls_of_wp hf hb (wp_mono (h (lone0 S) w { tmps := vs ++ Array.replicate (fn.ntmps - vs.size) undef, defers := [] } w ?_) ?_)
  · refine ⟨fun _ => none, by simp; omega, rfl, fun i => ?_, (fun id b hb => by cases hb), (fun id bi e => by cases e), (fun id id' bi bi' k e => by cases e), BelowX.refl _ _ _, (fun id bi _ e => by cases e), (fun id b bi k e => by cases e)⟩
    simp only [lk_args, Nat.zero_le, if_true, Nat.sub_zero]
    cases hp : args[i]? with
    | none => exact .any _
    | some p =>
      have hlt := (List.getElem?_eq_some_iff.1 hp).1
      obtain ⟨v, hv⟩ := getE (vs := vs) (i := i) (by omega)
      have e : (vs ++ Array.replicate (fn.ntmps - vs.size) undef).getD i undef = v := by
        rw [Array.getD_eq_getD_getElem?, Array.getElem?_append_left (by omega), hv]; rfl
      rw [e]
      exact .c _ _ ((hrep i p v hp hv).mono fun a u hS hc => ⟨hc, .inr (.inr hS), (fun id bi b e => by cases e)⟩)
  · rintro e a' w' ⟨s', h1, ρ, h2⟩
    have fin : resG P fn s' p j b → a'.defers = [] ∧ ∃ v, (results fn a'.tmps).run P w' = .ok v w' ∧ ∃ (bi : BI) (x : Value), Ending.returned v = .returned x ∧ Rep w' (fun a => (S a ∨ w.heap.size ≤ a.block) ∧ bi.base ≠ some a.block) p x ∧ x.cells[j]? = some (.slice (bi.base.map fun k => ⟨k, 0, none⟩) b.elems.length bi.cap) ∧
        BlkAt w' (fun a => (S a ∨ w.heap.size ≤ a.block) ∧ bi.base ≠ some a.block) (fun k => w.heap.size ≤ k) b bi ∧ Below w.heap.size w w' := by
      rintro ⟨r, T, id, n, q, eff, e1, e2, e3, e4, e5, e6, rfl⟩
      obtain ⟨_, bi, e7, B⟩ := h2.blk id b e5
      obtain ⟨A, v, g1, g2, g3⟩ := load_run2 (P := P) h2 (h2.slots r) e2 e3
      have up : ∀ a, Imm (lone0 S) w.heap.size s'.m ρ a → (S a ∨ w.heap.size ≤ a.block) ∧ bi.base ≠ some a.block := fun a hS => by
        refine ⟨?_, fun e => ?_⟩
        · rcases hS.1 with g5 | g5 | g5
          · exact .inr g5
          · exact absurd g5 (lone0_own _ _)
          · exact .inl g5
        · have := (hS.2 id bi b e7 e5 e).1
          rw [e6] at this; cases this
      cases g3 with
      | st _ _ _ hr hl =>
      obtain ⟨y, hy, hO⟩ := hl (j, id, some b.elems.length) List.mem_cons_self
      have hy2 := (hO.2 bi e7).1.2 B.len
      refine ⟨h2.defers, v, ?_, bi, v, rfl, hr.mono fun a v hS hc => ⟨hc, up a hS⟩, by rw [← hy2]; exact hy, ?_, h2.below.to (lone0_own S)⟩
      · have hr : fn.results = #[.cell r T] := by
          have := congrArg List.toArray e1
          simpa using this
        rw [results_eq, hr, Sem.run_bind, Array.mapM_eq_mapM_toList, Sem.run_map]
        simp [resSem, Result.andThen, g1, asAddr, g2]
      · refine ⟨B.len, B.sz, B.cap, B.most, B.nil, B.shape, fun k hk => ?_, B.kd, B.kd0, B.mb⟩
        obtain ⟨g1, g2⟩ := B.at_ k hk
        exact ⟨Env.nw_ne g1 e4, g2.keep rfl fun a v hS hc => ⟨hc, up a hS⟩⟩
    cases e with
    | normal => exact fin h1
    | ret => exact fin h1
    | exit id => exact h1.elim
    | goto l => exact h1.elim
    | panic ch => exact h1.elim
    | outgrown => exact h1.elim

/-- a variable is written no more -/
theorem AW_ro {c : Code} {K : Exit → ASt → Prop} (ir : Id) {b2 : Blk} (h : AW P N c K { s with m := updM s.m ir (some { b2 with rw := false }) }) (h2 : s.m ir = some b2) : AW P N c K s := by
  intro S0 w0 a w hR
  refine h S0 w0 a w ?_
  have hwf := hR.wf
  have hblk : ∀ id b, s.m id = some b → id.2 < s.g id.1 := fun id b hb => by obtain ⟨ρ, h⟩ := hR; exact (h.blk id b hb).1
  have hm : ∀ id b, updM s.m ir (some { b2 with rw := false }) id = some b → ∃ b0, s.m id = some b0 ∧ b.T = b0.T ∧ b.sz = b0.sz ∧ b.elems = b0.elems ∧ (b.rw = b0.rw ∨ b.rw = false) ∧ b.ls = b0.ls ∧ b.mp = b0.mp := fun id b hb => by
    unfold updM at hb
    split at hb
    · rename_i e1; subst e1
      simp only [Option.some.injEq] at hb; subst hb
      exact ⟨b2, h2, rfl, rfl, rfl, .inr rfl, rfl, rfl⟩
    · exact ⟨b, hb, rfl, rfl, rfl, .inl rfl, rfl, rfl⟩
  refine Rel.weak (s := s) (r := fun i => i) ⟨fun i => ?_, fun id b hb => ?_, fun _ _ _ _ _ _ e => e, fun id b hb => ?_, fun i id hid => hwf i id hid, fun _ _ _ => ⟨Iff.rfl, fun _ e => e⟩, fun _ _ _ _ _ _ h => h, fun _ _ _ _ _ h => h⟩ hR
  · right; simp only; cases s.t i <;> first | rfl | (simp only [ren]; exact congrArg _ (renL_id _))
  · obtain ⟨b0, g1, g2, g3, g4, g5, g6⟩ := hm id b hb
    exact ⟨b0, g1, g2, g3, g4, g5, by rw [renL_id]; exact g6.1, g6.2⟩
  · obtain ⟨b0, g1, _⟩ := hm id b hb
    exact hblk id b0 g1

/-! ## a struct's row is written no more -/
/-- what a link's cell holds as data -/
def frzV (b : Blk) : Option Nat → Option (Prop × PV)
  | some n => (match b.mp with | none => some (n = b.elems.length, .sl b.elems) | some _ => none)
  | none => (match b.mp with | some (kd, ks, vs) => some (True, .mp kd ks vs) | none => none)
theorem frzV_one {b : Blk} {n : Option Nat} {p : Prop} {q : PV} (h : frzV b n = some (p, q)) : q.one = true := by
  cases n <;> simp only [frzV] at h <;> split at h <;> simp only [Option.some.injEq, Prod.mk.injEq, reduceCtorEq] at h <;> (obtain ⟨-, rfl⟩ := h; rfl)
theorem AW_frz {c : Code} {K : Exit → ASt → Prop} (iv : Id) {b1 b2 : Blk} {e : PV} {j : Nat} {ir : Id} {n : Option Nat} {rest : List Lnk} {p : Prop} {q : PV}
    (h : AW P N c K { s with m := updM (updM s.m ir (some { b2 with rw := false })) iv (some { b1 with elems := [.agg (e.cells.set j q)], ls := rest }) })
    (h1 : s.m iv = some b1) (he : b1.elems = [e]) (hl : b1.ls = (j, ir, n) :: rest) (h2 : s.m ir = some b2) (hq : frzV b2 n = some (p, q)) (hn : p) (hne : iv ≠ ir) : AW P N c K s := by
  intro S0 w0 a w hR
  have hR1 : Rel S0 w0 N { s with m := updM s.m ir (some { b2 with rw := false }) } a w := by
    have hwf := hR.wf
    have hblk : ∀ id b, s.m id = some b → id.2 < s.g id.1 := fun id b hb => by obtain ⟨ρ, h⟩ := hR; exact (h.blk id b hb).1
    have hm : ∀ id b, updM s.m ir (some { b2 with rw := false }) id = some b → ∃ b0, s.m id = some b0 ∧ b.T = b0.T ∧ b.sz = b0.sz ∧ b.elems = b0.elems ∧ (b.rw = b0.rw ∨ b.rw = false) ∧ b.ls = b0.ls ∧ b.mp = b0.mp := fun id b hb => by
      unfold updM at hb
      split at hb
      · rename_i e1; subst e1
        simp only [Option.some.injEq] at hb; subst hb
        exact ⟨b2, h2, rfl, rfl, rfl, .inr rfl, rfl, rfl⟩
      · exact ⟨b, hb, rfl, rfl, rfl, .inl rfl, rfl, rfl⟩
    refine Rel.weak (s := s) (r := fun i => i) ⟨fun i => ?_, fun id b hb => ?_, fun _ _ _ _ _ _ e => e, fun id b hb => ?_, fun i id hid => hwf i id hid, fun _ _ _ => ⟨Iff.rfl, fun _ e => e⟩, fun _ _ _ _ _ _ h => h, fun _ _ _ _ _ h => h⟩ hR
    · right; simp only; cases s.t i <;> first | rfl | (simp only [ren]; exact congrArg _ (renL_id _))
    · obtain ⟨b0, g1, g2, g3, g4, g5, g6⟩ := hm id b hb
      exact ⟨b0, g1, g2, g3, g4, g5, by rw [renL_id]; exact g6.1, g6.2⟩
    · obtain ⟨b0, g1, _⟩ := hm id b hb
      exact hblk id b0 g1
  obtain ⟨ρ, hR1⟩ := hR1
  refine h S0 w0 a w ⟨ρ, ?_⟩
  have mo : ∀ id, id ≠ iv → updM (updM s.m ir (some { b2 with rw := false })) iv (some { b1 with elems := [.agg (e.cells.set j q)], ls := rest }) id = updM s.m ir (some { b2 with rw := false }) id := fun id e1 => by
    show (if id = iv then _ else _) = _; rw [if_neg e1]
  have m1 : (updM s.m ir (some { b2 with rw := false })) iv = some b1 := by simp only [updM, hne, if_false]; exact h1
  have mr : (updM s.m ir (some { b2 with rw := false })) ir = some { b2 with rw := false } := by simp [updM]
  obtain ⟨hg1, bi, hρ, B⟩ := hR1.blk iv b1 m1
  have hlen1 : b1.elems.length = 1 := by rw [he]; rfl
  have KK : ∀ a, Imm S0 w0.heap.size (updM s.m ir (some { b2 with rw := false })) ρ a → Imm S0 w0.heap.size (updM (updM s.m ir (some { b2 with rw := false })) iv (some { b1 with elems := [.agg (e.cells.set j q)], ls := rest })) ρ a := fun a hS => by
    refine ⟨hS.1, fun id bi' b' g1 g2 g3 => ?_⟩
    by_cases e1 : id = iv
    · subst e1
      simp only [updM, if_true, Option.some.injEq] at g2
      subst g2
      have := hS.2 id bi' b1 g1 m1 g3
      rw [hlen1] at this
      exact this
    · replace g2 : updM s.m ir (some { b2 with rw := false }) id = some b' := (mo id e1).symm.trans g2
      exact hS.2 id bi' b' g1 g2 g3
  have K : Keeps w (Imm S0 w0.heap.size (updM s.m ir (some { b2 with rw := false })) ρ) w (Imm S0 w0.heap.size (updM (updM s.m ir (some { b2 with rw := false })) iv (some { b1 with elems := [.agg (e.cells.set j q)], ls := rest })) ρ) := fun a v hS hc => ⟨hc, KK a hS⟩
  have hbm : bi.mp = false := B.ne (by omega)
  have hsh := B.shape e (by rw [he]; exact List.mem_cons_self)
  refine ⟨hR1.size, hR1.defers, fun i => (hR1.slots i).mono K (fun _ => Nat.le_refl _) (fun id bi _ e => ⟨bi, e, .inl rfl⟩), fun id b hb => ?_, fun id bi' e1 => ?_, hR1.inj, hR1.below, hR1.bor, fun id b bi' k g1 g2 g3 l hl' => ?_⟩
  · by_cases e1 : id = iv
    · subst e1
      simp only [updM, if_true, Option.some.injEq] at hb
      subst hb
      refine ⟨hg1, bi, hρ, ?_, B.sz, B.cap, B.most, B.nil, ?_, fun k hk => ?_, B.kd, (fun e => by rw [hbm] at e; cases e), (fun e => by rw [hbm] at e; cases e)⟩
      · rw [B.len, hlen1]; rfl
      · intro e' he'
        rw [List.mem_singleton] at he'
        subst he'
        refine ⟨by simp only [PV.cells, List.length_set]; exact hsh.1, fun c hc => ?_⟩
        simp only [PV.cells] at hc
        rcases List.mem_or_eq_of_mem_set hc with hc | hc
        · exact hsh.2 c hc
        · subst hc; exact frzV_one hq
      · obtain ⟨g1, cells, g2, g3, g4⟩ := B.row hbm k hk
        refine ⟨g1, BlkAt.of_row (B.mp0 hbm) ⟨cells, g2, g3, fun i e' j' c x a1 a2 a3 => Rep.mono K ?_⟩⟩
        cases i with
        | succ i => simp at a1
        | zero =>
          simp only [List.getElem?_cons_zero, Option.some.injEq] at a1
          subst a1
          rw [show (PV.agg (e.cells.set j q)).cells = e.cells.set j q from rfl, List.getElem?_set] at a2
          by_cases e2 : j = j'
          · subst e2
            rw [if_pos rfl] at a2
            have q : j < e.cells.length := by
              rcases Nat.lt_or_ge j e.cells.length with q | q
              · exact q
              · rw [if_neg (by omega)] at a2; cases a2
            rw [if_pos q] at a2
            simp only [Option.some.injEq] at a2
            subst a2
            obtain ⟨y, hy, hO⟩ := hR1.lnk id b1 bi k m1 hρ hk (j, ir, n) (by rw [hl]; exact List.mem_cons_self)
            have e3 : x = y := by
              simp only [World.cell?, g2] at hy
              rw [Nat.zero_mul, Nat.zero_add] at a3
              simp only [Option.isSome_none, Bool.false_eq_true, if_false] at hy
              rw [a3] at hy
              simpa using hy
            subst e3
            cases n with
            | some n =>
              simp only [frzV] at hq
              split at hq
              · simp only [Option.some.injEq, Prod.mk.injEq] at hq
                obtain ⟨rfl, rfl⟩ := hq
                exact (closeV_rep hR1 (sv := .own ir n) (.own _ _ _ hO.1 (fun bi hb => (hO.2 bi hb).1) (fun bi hb => (hO.2 bi hb).2)) (p := n = b2.elems.length ∧ (false = false ∨ b2.elems = [])) (q := .sl b2.elems) (by simp only [closeV, mr]) ⟨hn, .inl rfl⟩).1
              · cases hq
            | none =>
              simp only [frzV] at hq
              split at hq
              · rename_i kd ks vs hmp
                simp only [Option.some.injEq, Prod.mk.injEq] at hq
                obtain ⟨rfl, rfl⟩ := hq
                exact (closeV_rep hR1 (sv := .mo ir) (.mo _ _ hO.1 hO.2) (p := false = false) (q := .mp kd ks vs) (by unfold closeV; dsimp only; rw [mr]; dsimp only; rw [hmp]) rfl).1
              · cases hq
          · rw [if_neg e2] at a2
            exact g4 0 e j' c x (by rw [he]; rfl) a2 a3
    · replace hb : updM s.m ir (some { b2 with rw := false }) id = some b := (mo id e1).symm.trans hb
      obtain ⟨hg, bi', hρ', B'⟩ := hR1.blk id b hb
      exact ⟨hg, bi', hρ', B'.keep KK⟩
  · by_cases e2 : id = iv
    · exact ⟨_, by simp only [updM, e2, if_true]; rfl⟩
    · obtain ⟨b', hb'⟩ := hR1.dom id bi' e1
      exact ⟨b', (mo id e2).trans hb'⟩
  · by_cases e1 : id = iv
    · subst e1
      simp only [updM, if_true, Option.some.injEq] at g1
      subst g1
      exact hR1.lnk id b1 bi' k m1 g2 g3 l (by rw [hl]; exact List.mem_cons_of_mem _ hl')
    · replace g1 : updM s.m ir (some { b2 with rw := false }) id = some b := (mo id e1).symm.trans g1
      exact hR1.lnk id b bi' k g1 g2 g3 l hl'

/-! ## a row is cut off -/
def noId (id : Id) : SV → Prop
  | .own i _ => i ≠ id
  | .ptr i _ _ _ => i ≠ id
  | .pc i _ _ _ => i ≠ id
  | .mo i => i ≠ id
  | .when _ _ => False
  | .st _ ls => All (fun l : Lnk => l.2.1 ≠ id) ls
  | _ => True
def noIdB (id : Id) : Option Blk → Prop
  | some b => All (fun l : Lnk => l.2.1 ≠ id) b.ls
  | none => True
theorem OwnC.other {ρ : Id → Option BI} {g : Nat → Nat} {id id' : Id} {bi : BI} {n : Option Nat} {x : Value} (h : OwnC ρ g id' n x) (hne : id' ≠ id) : OwnC (updR ρ id (some bi)) g id' n x := by
  have e : updR ρ id (some bi) id' = ρ id' := by simp [updR, hne]
  cases n <;> exact ⟨h.1, fun b hb => h.2 b (by rw [← e]; exact hb)⟩
theorem SRep.other {S S' : Addr → Prop} {ρ : Id → Option BI} {g : Nat → Nat} {id : Id} {bi : BI} (K : Keeps w S w S') {sv : SV} {x : Value} (h : SRep w S ρ g sv x) (hn : noId id sv) : SRep w S' (updR ρ id (some bi)) g sv x := by
  have e : ∀ id', id' ≠ id → updR ρ id (some bi) id' = ρ id' := fun id' hne => by simp [updR, hne]
  cases h with
  | c p x h => exact .c p x (h.mono K)
  | nil => exact .nil
  | own i n x hg ho hr => exact .own i n x hg (fun b hb => ho b (by rw [← e i hn]; exact hb)) (fun b hb => hr b (by rw [← e i hn]; exact hb))
  | ptr i n j off x hg ho => exact .ptr i n j off x hg (fun b hb => ho b (by rw [← e i hn]; exact hb))
  | iptr p off b o f h1 hcell h => exact .iptr p off b o f h1 (fun j c hj => K.cell (hcell j c hj).2 (hcell j c hj).1) (fun j c hj => (h j c hj).mono K)
  | any x => exact .any x
  | anyb b => exact .anyb b
  | st p ls x h hl => exact .st p ls x (h.mono K) fun l hm => by obtain ⟨y, h1, h2⟩ := hl l hm; exact ⟨y, h1, h2.other (All.get1 (show All (fun l : Lnk => l.2.1 ≠ id) ls from hn) l hm)⟩
  | pc i n lo len x hg hln ho hr => exact .pc i n lo len x hg hln (fun b hb => ho b (by rw [← e i hn]; exact hb)) (fun b hb => hr b (by rw [← e i hn]; exact hb))
  | mo i x hg ho => exact .mo i x hg (fun b hb => ho b (by rw [← e i hn]; exact hb))

theorem AW_cut {c : Code} {K : Exit → ASt → Prop} {lt : List (Nat × SV)} {lm : List (Id × Option Blk)} {g : Nat → Nat} (i : Nat) {id : Id} {n len : Nat} {b : Blk}
    (h : AW P N c K ⟨lk ((i, .own id len) :: lt), lkM ((id, some { b with elems := b.elems.take len }) :: lm), g⟩)
    (hi : lk lt i = .pc id n 0 len) (hm : lkM lm id = some b) (hn : n = b.elems.length) (hrw : b.rw = true) (hls : b.ls = []) (h0 : id.1 ≠ 0)
    (ht : All (fun x : Nat × SV => x.1 = i ∨ noId id x.2) lt) (hl : All (fun x : Id × Option Blk => noIdB id x.2) lm) : AW P N c K ⟨lk lt, lkM lm, g⟩ := by
  intro S0 w0 a w hR
  obtain ⟨ρ, hR⟩ := hR
  refine h S0 w0 a w ?_
  obtain ⟨hg, bi, hρ, B⟩ := hR.blk id b hm
  have hs := hR.slots i
  replace hi : (⟨lk lt, lkM lm, g⟩ : ASt).t i = .pc id n 0 len := hi
  rw [hi] at hs
  generalize hv : a.tmps.getD i undef = v at hs
  cases hs with
  | pc _ _ _ _ _ _ hln ho hr =>
  have hbm := hr bi hρ
  obtain ⟨k, hb, hx⟩ := (ho bi hρ).2 (by rw [B.len, hn])
  have hlen : len ≤ b.elems.length := by omega
  let bi' : BI := { bi with len := len }
  let b' : Blk := { b with elems := b.elems.take len }
  have hρ' : ∀ id' b1, updR ρ id (some bi') id' = some b1 → id' = id ∧ b1 = bi' ∨ id' ≠ id ∧ ρ id' = some b1 := fun id' b1 e => by
    simp only [updR] at e
    split at e
    · rename_i e1; simp only [Option.some.injEq] at e; exact .inl ⟨e1, e.symm⟩
    · rename_i e1; exact .inr ⟨e1, e⟩
  have hm' : ∀ id' b1, lkM ((id, some b') :: lm) id' = some b1 → id' = id ∧ b1 = b' ∨ id' ≠ id ∧ lkM lm id' = some b1 := fun id' b1 e => by
    simp only [lkM] at e
    split at e
    · rename_i e1; simp only [Option.some.injEq] at e; exact .inl ⟨e1, e.symm⟩
    · rename_i e1; exact .inr ⟨e1, e⟩
  have K : Keeps w (Imm S0 w0.heap.size (lkM lm) ρ) w (Imm S0 w0.heap.size (lkM ((id, some b') :: lm)) (updR ρ id (some bi'))) := fun ad u hS hc => by
    refine ⟨hc, hS.1, fun id1 bi1 b1 g1 g2 g3 => ?_⟩
    rcases hρ' id1 bi1 g1 with ⟨rfl, rfl⟩ | ⟨e1, e2⟩
    · have := (hS.2 id1 bi b hρ hm g3).1
      rw [hrw] at this; cases this
    · rcases hm' id1 b1 g2 with ⟨rfl, _⟩ | ⟨_, e3⟩
      · exact absurd rfl e1
      · exact hS.2 id1 bi1 b1 e2 e3 g3
  refine ⟨updR ρ id (some bi'), hR.size, hR.defers, fun j => ?_, fun id1 b1 e => ?_, fun id1 bi1 e => ?_, fun id1 id2 b1 b2 k1 e1 e2 e3 e4 => ?_, hR.below, fun id1 bi1 e0 e => ?_, fun id1 b1 bi1 k1 g1 g2 g3 l hl1 => ?_⟩
  · by_cases e : j = i
    · subst e
      rw [hv]
      simp only [lk, if_true]
      refine .own _ _ _ hg (fun b1 e1 => ?_) (fun b1 e1 => ?_)
      · rcases hρ' id b1 e1 with ⟨_, rfl⟩ | ⟨e2, _⟩
        · refine ⟨Nat.le_refl _, fun _ => ?_⟩
          rw [hx]; show _ = Value.slice (bi.base.map _) len bi.cap
          rw [hb]; simp
        · exact absurd rfl e2
      · rcases hρ' id b1 e1 with ⟨_, rfl⟩ | ⟨e2, _⟩
        · exact hbm
        · exact absurd rfl e2
    · simp only [lk, e, if_false]
      have hj := hR.slots j
      by_cases e2 : lk lt j = .any
      · rw [e2]; exact .any _
      · exact hj.other K ((ht.get1 _ (lk_mem rfl e2)).resolve_left e)
  · rcases hm' id1 b1 e with ⟨rfl, rfl⟩ | ⟨e1, e2⟩
    · refine ⟨hg, bi', by simp [updR], by show len = (b.elems.take len).length; rw [List.length_take]; omega, B.sz, by show len ≤ bi.cap; have := B.cap; have := B.len; omega, B.most, B.nil, fun e he => B.shape e (List.mem_of_mem_take he), fun k2 hk2 => ?_, B.kd, (fun e => by rw [show bi'.mp = false from hbm] at e; cases e), (fun e => by rw [show bi'.mp = false from hbm] at e; cases e)⟩
      obtain ⟨g1, cells, g2, g3, g4⟩ := B.row hbm k2 hk2
      refine ⟨g1, BlkAt.of_row (B.mp0 hbm) ⟨cells, g2, g3, fun i e j c x a1 a2 a3 => (g4 i e j c x ?_ a2 a3).mono K⟩⟩
      have : (b.elems.take len)[i]? = some e := a1
      rw [List.getElem?_take] at this
      split at this
      · exact this
      · cases this
    · obtain ⟨hg1, bi1, h2, B1⟩ := hR.blk id1 b1 e2
      refine ⟨hg1, bi1, by simp [updR, e1, h2], ⟨B1.len, B1.sz, B1.cap, B1.most, B1.nil, B1.shape, fun k2 hk2 => ?_, B1.kd, B1.kd0, B1.mb⟩⟩
      obtain ⟨g1, g2⟩ := B1.at_ k2 hk2
      exact ⟨g1, g2.keep rfl K⟩
  · rcases hρ' id1 bi1 e with ⟨rfl, rfl⟩ | ⟨e1, e2⟩
    · exact ⟨b', by show (if (id1 : Id) = id1 then some b' else _) = some b'; rw [if_pos rfl]⟩
    · obtain ⟨b1, h1⟩ := hR.dom id1 bi1 e2
      exact ⟨b1, by simp only [lkM, e1, if_false]; exact h1⟩
  · have base : ∀ id1 b1, updR ρ id (some bi') id1 = some b1 → b1.base = some k1 → ∃ b0, ρ id1 = some b0 ∧ b0.base = some k1 := fun id1 b1 e e' => by
      rcases hρ' id1 b1 e with ⟨rfl, rfl⟩ | ⟨_, e2⟩
      · exact ⟨bi, hρ, e'⟩
      · exact ⟨b1, e2, e'⟩
    obtain ⟨c1, f1, f2⟩ := base _ _ e1 e3
    obtain ⟨c2, f3, f4⟩ := base _ _ e2 e4
    exact hR.inj _ _ _ _ _ f1 f3 f2 f4
  · rcases hρ' id1 bi1 e with ⟨rfl, rfl⟩ | ⟨e1, e2⟩
    · exact absurd e0 h0
    · exact hR.bor id1 bi1 e0 e2
  · rcases hm' id1 b1 g1 with ⟨rfl, rfl⟩ | ⟨e1, e2⟩
    · have hl2 : l ∈ b.ls := hl1
      rw [hls] at hl2; cases hl2
    · rcases hρ' id1 bi1 g2 with ⟨rfl, _⟩ | ⟨_, e3⟩
      · exact absurd rfl e1
      · obtain ⟨y, h4, h5⟩ := hR.lnk id1 b1 bi1 k1 e2 e3 g3 l hl1
        have := hl.get1 _ (lkM_mem e2)
        exact ⟨y, h4, h5.other (this.get1 l hl1)⟩
end
end Go.Ab
