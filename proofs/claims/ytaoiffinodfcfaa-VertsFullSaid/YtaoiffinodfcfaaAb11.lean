/-
  Steps on plain values: an operation, or a call by a contract; steps that are apart can be taken in either order; a region, whatever its order, does what its text's order does.
  Conditions: none.
-/
import Derived.Test.YtaoiffinodfcfaaAb10
namespace Go.Ab
open Go.RowKit

/-- no memory is named -/
def PV.flatN : Nat → PV → Bool
  | 0, _ => false
  | _ + 1, .v _ => true
  | n + 1, .agg cs => cs.all (PV.flatN n)
  | n + 1, .tup cs => cs.all (PV.flatN n)
  | _ + 1, .sl _ => false
  | _ + 1, .ref _ => false
  | _ + 1, .hole => false
  | _ + 1, .fn .. => false
  | _ + 1, .mp .. => false
  | n + 1, .iface _ x => PV.flatN n x
def PV.flat (p : PV) : Bool := PV.flatN 9 p

theorem flat_rep {w w' : World} {S S' : Addr → Prop} : ∀ (n : Nat) (p : PV) (x : Value), PV.flatN n p = true → Rep w S p x → Rep w' S' p x
  | 0, _, _, h, _ => by simp [PV.flatN] at h
  | n + 1, .v y, x, _, hr => by cases hr; exact .v _
  | n + 1, .agg cs, x, h, hr => by
    cases hr with
    | agg _ vs hl h1 hh =>
      simp only [PV.flatN, List.all_eq_true] at h
      exact .agg _ _ hl h1 fun i c x hc hx => flat_rep n c x (h c (List.mem_of_getElem? hc)) (hh i c x hc hx)
  | n + 1, .tup cs, x, h, hr => by
    cases hr with
    | tup _ vs hl hh =>
      simp only [PV.flatN, List.all_eq_true] at h
      exact .tup _ _ hl fun i c x hc hx => flat_rep n c x (h c (List.mem_of_getElem? hc)) (hh i c x hc hx)
  | n + 1, .sl _, x, h, _ => by simp [PV.flatN] at h
  | n + 1, .ref _, x, h, _ => by simp [PV.flatN] at h
  | n + 1, .hole, x, h, _ => by simp [PV.flatN] at h
  | n + 1, .fn .., x, h, _ => by simp [PV.flatN] at h
  | n + 1, .mp .., x, h, _ => by simp [PV.flatN] at h
  | n + 1, .iface t y, x, h, hr => by
    cases hr with
    | iface _ _ z hh => exact .iface _ _ _ (flat_rep n y z h hh)

def plainFn (P : Program) (k : Nat) : Bool :=
  match P.funcs[k]? with
  | some fn => fn.name != "runtime.NumGoroutine" && fn.body.isSome
  | none => false

/-- ████ a contract: called with this data, it hands back that data; nothing that was there has turned ████ -/
structure ACalls (P : Program) (k : Nat) (args : List PV) (r : PV) : Prop where
  plain : plainFn P k = true
  calls : ∀ (S : Addr → Prop) (w : World) (vs : Array Value), vs.size = args.length → (∀ (i : Nat) (p : PV) (v : Value), args[i]? = some p → vs[i]? = some v → Rep w S p v) →
    Calls P k vs w fun e w' => ∃ x, e = .returned x ∧ Rep w' (fun a => S a ∨ w.heap.size ≤ a.block) r x ∧ Below w.heap.size w w'

/-- an argument: its data, where a block may still be written, provided that nothing that comes back names memory -/
def closeC (m : Id → Option Blk) : SV → Option (Prop × Prop × PV)
  | .c p => some (p.ok = true, True, p)
  | .nil => some (True, True, .sl [])
  | .own id n => match m id with
    | some b => some (n = b.elems.length, (b.rw = false ∨ b.elems = []), .sl b.elems)
    | none => none
  | .ptr id n i off => match m id with
    | some b => some (n = b.elems.length ∧ n = 1 ∧ i = 0 ∧ off = 0, b.rw = false, .ref (b.elems.getD 0 default))
    | none => none
  | .mo id => match m id with
    | some b => (match b.mp with
      | some (kd, ks, vs) => some (True, b.rw = false, .mp kd ks vs)
      | none => none)
    | none => none
  | _ => none
def closeCs (m : Id → Option Blk) : List SV → Option (Prop × Prop × List PV)
  | [] => some (True, True, [])
  | x :: xs => match closeC m x, closeCs m xs with
    | some (p, q, y), some (ps, qs, ys) => some (p ∧ ps, q ∧ qs, y :: ys)
    | _, _ => none

section
variable {P : Program} {ρ : Id → Option BI} {S0 : Env} {w0 : World} {N : Nat} {s : ASt} {a : Act} {w : World}

theorem closeC_ro (h : RelAt ρ S0 w0 N s a w) {sv : SV} {x : Value} (hs : SRep w (Imm S0 w0.heap.size s.m ρ) ρ s.g sv x) {p q : Prop} {y : PV} (hc : closeC s.m sv = some (p, q, y)) (hp : p) (hq : q) : Rep w (Imm S0 w0.heap.size s.m ρ) y x := by
  cases sv with
  | c z => simp only [closeC, Option.some.injEq, Prod.mk.injEq] at hc; obtain ⟨rfl, rfl, rfl⟩ := hc; exact (closeV_rep h hs rfl hp).1
  | nil => simp only [closeC, Option.some.injEq, Prod.mk.injEq] at hc; obtain ⟨rfl, rfl, rfl⟩ := hc; exact (closeV_rep h hs rfl trivial).1
  | own id n =>
    simp only [closeC] at hc
    cases hm : s.m id with
    | none => simp [hm] at hc
    | some b =>
      simp only [hm, Option.some.injEq, Prod.mk.injEq] at hc
      obtain ⟨rfl, rfl, rfl⟩ := hc
      exact (closeV_rep h hs (p := n = b.elems.length ∧ (b.rw = false ∨ b.elems = [])) (q := .sl b.elems) (by simp only [closeV, hm]) ⟨hp, hq⟩).1
  | ptr id n i off =>
    simp only [closeC] at hc
    cases hm : s.m id with
    | none => simp [hm] at hc
    | some b =>
      simp only [hm, Option.some.injEq, Prod.mk.injEq] at hc
      obtain ⟨rfl, rfl, rfl⟩ := hc
      exact (closeV_rep h hs (p := n = b.elems.length ∧ b.rw = false ∧ n = 1 ∧ i = 0 ∧ off = 0) (q := .ref (b.elems.getD 0 default)) (by simp only [closeV, hm]) ⟨hp.1, hq, hp.2⟩).1
  | iptr => simp [closeC] at hc
  | any => simp [closeC] at hc
  | when => simp [closeC] at hc
  | anyb => simp [closeC] at hc
  | st => simp [closeC] at hc
  | pc => simp [closeC] at hc
  | mo id =>
    simp only [closeC] at hc
    cases hm : s.m id with
    | none => simp [hm] at hc
    | some b =>
      cases hmp : b.mp with
      | none => simp [hm, hmp] at hc
      | some m =>
        obtain ⟨kd, ks, vs⟩ := m
        simp only [hm, hmp, Option.some.injEq, Prod.mk.injEq] at hc
        obtain ⟨rfl, rfl, rfl⟩ := hc
        exact (closeV_rep h hs (p := b.rw = false) (q := .mp kd ks vs) (by simp only [closeV, hm, hmp]) hq).1

/-- whoever may write, the data are there now -/
theorem closeC_any (h : RelAt ρ S0 w0 N s a w) {sv : SV} {x : Value} (hs : SRep w (Imm S0 w0.heap.size s.m ρ) ρ s.g sv x) {p q : Prop} {y : PV} (hc : closeC s.m sv = some (p, q, y)) (hp : p) : Rep w (fun _ => True) y x := by
  have K : Keeps w (Imm S0 w0.heap.size s.m ρ) w (fun _ => True) := fun a v _ hc => ⟨hc, trivial⟩
  cases sv with
  | c z => simp only [closeC, Option.some.injEq, Prod.mk.injEq] at hc; obtain ⟨rfl, rfl, rfl⟩ := hc; exact (closeV_rep h hs rfl hp).1.mono K
  | nil => simp only [closeC, Option.some.injEq, Prod.mk.injEq] at hc; obtain ⟨rfl, rfl, rfl⟩ := hc; exact (closeV_rep h hs rfl trivial).1.mono K
  | own id n =>
    simp only [closeC] at hc
    cases hm : s.m id with
    | none => simp [hm] at hc
    | some b =>
      simp only [hm, Option.some.injEq, Prod.mk.injEq] at hc
      obtain ⟨rfl, rfl, rfl⟩ := hc
      cases hs with
      | own _ _ _ hg ho hrow =>
      obtain ⟨_, bi, hρ, B⟩ := h.blk id b hm
      have hx := (ho bi hρ).2 (by rw [B.len, hp])
      cases hb : bi.base with
      | none =>
        have hcap := B.nil hb
        have hl := B.cap
        have hlen := B.len
        have h0 : b.elems = [] := List.length_eq_zero_iff.1 (by omega)
        rw [hx, hb, h0, hcap, show n = 0 by omega]
        exact .slNil
      | some k =>
        obtain ⟨hk, cells, hh, hsize, hrep⟩ := B.row (hrow bi hρ) k hb
        rw [hx, hb]
        have hcell : ∀ (i : Nat) (e : PV) (j : Nat) (c : PV), b.elems[i]? = some e → e.cells[j]? = some c → ∃ v, cells[i * b.sz + j]? = some v := fun i e j c hi hj => by
          have hi' := (List.getElem?_eq_some_iff.1 hi).1
          have hj' := (List.getElem?_eq_some_iff.1 hj).1
          have hsz := (B.shape e (List.mem_of_getElem? hi)).1
          have h1 : i * b.sz + j < b.elems.length * b.sz := idx_lt hi' (by omega)
          have h2 : b.elems.length * b.sz ≤ bi.cap * b.sz := Nat.mul_le_mul_right _ (by rw [← B.len]; exact B.cap)
          exact ⟨_, Array.getElem?_eq_getElem (by omega)⟩
        refine .slAt b.sz _ k 0 _ _ (fun i j => cells.getD (i * b.sz + j) undef) hp (by rw [hp, ← B.len]; exact B.cap) (fun e he => (B.shape e he).1) (fun e he => (B.shape e he).2) (fun i e j c hi hj => ?_) (fun i e j c hi hj => ?_)
        · obtain ⟨v, hv⟩ := hcell i e j c hi hj
          have e1 : cells.getD (i * b.sz + j) undef = v := by simp [Array.getD_eq_getD_getElem?, hv]
          exact ⟨by simp only [World.cell?, hh]; rw [e1]; simpa using hv, trivial⟩
        · obtain ⟨v, hv⟩ := hcell i e j c hi hj
          have e1 : cells.getD (i * b.sz + j) undef = v := by simp [Array.getD_eq_getD_getElem?, hv]
          simp only [e1]
          exact (hrep i e j c v hi hj hv).mono K
  | ptr id n i off =>
    simp only [closeC] at hc
    cases hm : s.m id with
    | none => simp [hm] at hc
    | some b =>
      simp only [hm, Option.some.injEq, Prod.mk.injEq] at hc
      obtain ⟨rfl, rfl, rfl⟩ := hc
      obtain ⟨hn, hn1, rfl, rfl⟩ := hp
      obtain ⟨k, o, hv, hone, hcells⟩ := ptr_reads h hs hm hn (by omega)
      subst hv
      refine .ref _ k (o + 0) (fun j => (w.cell? ⟨k, o + j, none⟩).getD undef) hone (fun j c hj => ?_) (fun j c hj => ?_)
      · obtain ⟨v, hv, _⟩ := hcells j c hj
        rw [Nat.add_zero, hv]; exact ⟨rfl, trivial⟩
      · obtain ⟨v, hv, hr⟩ := hcells j c hj
        rw [hv]; exact hr.mono K
  | iptr => simp [closeC] at hc
  | any => simp [closeC] at hc
  | when => simp [closeC] at hc
  | anyb => simp [closeC] at hc
  | st => simp [closeC] at hc
  | pc => simp [closeC] at hc
  | mo id =>
    simp only [closeC] at hc
    cases hm : s.m id with
    | none => simp [hm] at hc
    | some b =>
      cases hmp : b.mp with
      | none => simp [hm, hmp] at hc
      | some m =>
        obtain ⟨kd, ks, vs⟩ := m
        simp only [hm, hmp, Option.some.injEq, Prod.mk.injEq] at hc
        obtain ⟨rfl, rfl, rfl⟩ := hc
        cases hs with
        | mo _ _ hg ho =>
        obtain ⟨_, bi, hρ, B⟩ := h.blk id b hm
        obtain ⟨g1, g2⟩ := ho bi hρ
        obtain ⟨k0, hk0⟩ := B.mbase g1
        obtain ⟨_, es, clk, h3, h4, h5, h6, h7⟩ := B.map hmp k0 hk0
        rw [g2, hk0]
        exact .mp kd ks vs k0 es clk h4 h5 h3 trivial h6 fun i e c a1 a2 => (h7 i e c a1 a2).mono K

theorem closeCs_len (m : Id → Option Blk) : ∀ (l : List SV) (p q : Prop) (ys : List PV), closeCs m l = some (p, q, ys) → ys.length = l.length
  | [], p, q, ys, h => by simp only [closeCs, Option.some.injEq, Prod.mk.injEq] at h; obtain ⟨-, -, rfl⟩ := h; rfl
  | x :: xs, p, q, ys, h => by
    simp only [closeCs] at h
    split at h
    · rename_i e1 e2
      simp only [Option.some.injEq, Prod.mk.injEq] at h
      obtain ⟨-, -, rfl⟩ := h
      simp [closeCs_len m xs _ _ _ e2]
    · cases h

theorem closeCs_at (m : Id → Option Blk) : ∀ (l : List SV) (p q : Prop) (ys : List PV), closeCs m l = some (p, q, ys) → ∀ (i : Nat) (y : PV) (x : SV), ys[i]? = some y → l[i]? = some x → ∃ p' q', closeC m x = some (p', q', y) ∧ (p → p') ∧ (q → q')
  | [], p, q, ys, h, i, y, x, _, hx => by simp at hx
  | x :: xs, p, q, ys, h, i, y, z, hy, hz => by
    simp only [closeCs] at h
    split at h
    · rename_i p1 q1 y1 ps qs ys1 e1 e2
      simp only [Option.some.injEq, Prod.mk.injEq] at h
      obtain ⟨rfl, rfl, rfl⟩ := h
      cases i with
      | zero =>
        simp only [List.getElem?_cons_zero, Option.some.injEq] at hy hz
        subst hy; subst hz
        exact ⟨p1, q1, e1, And.left, And.left⟩
      | succ i =>
        simp only [List.getElem?_cons_succ] at hy hz
        obtain ⟨p', q', h1, h2, h3⟩ := closeCs_at m xs _ _ _ e2 i y z hy hz
        exact ⟨p', q', h1, fun h => h2 h.2, fun h => h3 h.2⟩
    · cases h

/-! ## steps -/
/-- what of the blocks an operation touches: 0 nothing, 1 it reads, 2 it makes one, 3 it writes (or we do not know) -/
def mk : Op → Nat
  | .move _ | .assign _ | .pick .. | .binOp .. | .unOp .. | .convert .. | .field .. | .index .. | .extract .. => 0
  | .load .. | .nilCheck _ | .fieldAddr .. | .slice .. | .indexAddr .. | .build .. | .makeInterface .. | .makeFunc .. => 1
  | .alloc _ | .box .. | .buildSlice .. | .makeSlice .. | .makeMap .. => 2
  | .lookup .. => 1
  | .call ⟨.value _, _, _⟩ => 1
  | .call ⟨.builtin .len, _, _⟩ => 1
  | .call ⟨.builtin .min, _, _⟩ | .call ⟨.builtin .max, _, _⟩ => 0
  | _ => 3

def dnum (o : Oper) : Nat := o.dst.getD 0 + 1
theorem dnum_ne (o : Oper) : dnum o ≠ 0 := Nat.succ_ne_zero _
def ASt.app (s : ASt) (o : Oper) (sv : SV) (eff : Eff) : ASt :=
  { s.eff (dnum o, s.g (dnum o)) eff with t := putT s.t o.dst sv }

/-- what an operation leaves that is passed over -/
def skipV : SV := .c (.v (.tuple #[]))
/-- is an operation carried out? -/
def aWanted (ops : Array Oper) (o : Oper) (s : ASt) : Option Bool :=
  match o.guard with
  | none => some true
  | some (j, want) => match (ops[j]?).bind (·.dst) with
    | some d => (match s.t d with
      | .c (.v (.bool b)) => some (b == want)
      | .c (.v (.tuple _)) => some false
      | _ => none)
    | none => none

/-- what becomes of the blocks is of the operation's kind -/
def effFits (k : Nat) : Eff → Bool
  | .none => true
  | .new _ => decide (2 ≤ k)
  | .set _ _ => decide (3 ≤ k)
def aDoes (P : Program) (o : Oper) (s : ASt) (sv : SV) (eff : Eff) : Prop :=
  (∃ pre, aExec P o.op s.ev s.m (dnum o, s.g (dnum o)) = some (pre, sv, eff) ∧ pre ∧ effFits (mk o.op) eff = true) ∨
  (∃ k args ts p q ys r, o.op = .call ⟨.value (.func k), args, ts⟩ ∧ closeCs s.m (args.toList.map s.ev) = some (p, q, ys) ∧ p ∧ (q ∨ r.flat = true) ∧ ACalls P k ys r ∧ sv = .c r ∧ eff = .none)

def aStep (P : Program) (ops : Array Oper) (o : Oper) (s s' : ASt) : Prop :=
  (aWanted ops o s = some true ∧ ∃ sv eff, aDoes P o s sv eff ∧ s' = s.app o sv eff) ∨ (aWanted ops o s = some false ∧ s' = s.app o skipV .none)

theorem callOp_run {o : Oper} {k : Nat} {args : Array Operand} {ts : Array TypeId} (ho : o.op = .call ⟨.value (.func k), args, ts⟩) (hp : plainFn P k = true) : (execOp a.eval o).run P w = .ok (.enter k (args.map a.eval)) w := by
  unfold plainFn at hp
  cases hf : P.funcs[k]? with
  | none => simp [hf] at hp
  | some fn =>
    simp only [hf, Bool.and_eq_true, bne_iff_ne, ne_eq, Option.isSome_iff_ne_none] at hp
    have h1 : (fn.name == "runtime.NumGoroutine") = false := by simpa using hp.1
    have h2 : fn.body.isNone = false := by cases hb : fn.body <;> simp_all
    unfold execOp
    simp only [ho, resolve, Act.eval, Deferred.ofValue, invoke, callFunc, Sem.run_bind, Sem.run_pure, Result.andThen, run_program, hf, h1, h2, Bool.false_eq_true, if_false, Array.empty_append, Array.append_empty]

theorem does_sound (h : RelAt ρ S0 w0 N s a w) {o : Oper} (hd : ∀ k, o.dst = some k → k < N) {sv : SV} {eff : Eff} (hs : aDoes P o s sv eff) (Q : Exit → Act → World → Prop) :
    o.wp P a w (fun a' w' => Rel S0 w0 N (s.app o sv eff) a' w') Q := by
  rcases hs with ⟨pre, he, hp, -⟩ | ⟨k, args, ts, p, q, ys, r, ho, hc, hp, hq, hA, rfl, rfl⟩
  · obtain ⟨rr, v, w', ρ', hrun, hr, hR, hS⟩ := exec_sound h (dnum o) (dnum_ne o) he hp
    have fin : Rel S0 w0 N (s.app o sv eff) (a.put o.dst v) w' := ⟨ρ', by
      have := hR.put hd hS
      unfold ASt.app
      have ht : (s.eff (dnum o, s.g (dnum o)) eff).t = s.t := by cases eff <;> rfl
      rw [ht] at this
      exact this⟩
    unfold Oper.wp
    rw [hrun]
    rcases hr with rfl | ⟨rfl, rfl⟩
    · rw [Oper.upon_value]; exact fin
    · rw [Oper.upon_skip]; exact fin
  · unfold Oper.wp
    rw [callOp_run ho hA.plain, Oper.upon_enter]
    have hlen := closeCs_len _ _ _ _ _ hc
    simp only [List.length_map, Array.length_toList] at hlen
    have at_ : ∀ (i : Nat) (y : PV) (v : Value), ys[i]? = some y → (args.map a.eval)[i]? = some v → ∃ (sv : SV) (p' q' : Prop), closeC s.m sv = some (p', q', y) ∧ (p → p') ∧ (q → q') ∧ SRep w (Imm S0 w0.heap.size s.m ρ) ρ s.g sv v := fun i y v hy hv => by
      simp only [Array.getElem?_map, Option.map_eq_some_iff] at hv
      obtain ⟨x, hx, rfl⟩ := hv
      obtain ⟨p', q', h1, h2, h3⟩ := closeCs_at _ _ _ _ _ hc i y (s.ev x) hy (by simp [hx])
      exact ⟨_, p', q', h1, h2, h3, ev_rep h x⟩
    have fin : ∀ (v : Value) (w'' : World), Rep w'' (Imm S0 w0.heap.size s.m ρ) r v → Below w.heap.size w w'' → Rel S0 w0 N (s.app o (.c r) .none) (a.put o.dst v) w'' := fun v w'' hr hb =>
      ⟨ρ, (h.grow hb).put hd (.c _ _ hr)⟩
    by_cases hf : r.flat = true
    · refine (hA.calls (fun _ => True) w (args.map a.eval) (by simp [hlen]) (fun i y v hy hv => ?_)).mono ?_
      · obtain ⟨sv, p', q', h1, h2, h3, h4⟩ := at_ i y v hy hv
        exact closeC_any h h4 h1 (h2 hp)
      · rintro e w'' ⟨x, rfl, hr, hb⟩
        exact fin x w'' (flat_rep 9 r x hf hr) hb
    · have hq' : q := hq.resolve_right hf
      refine (hA.calls (Imm S0 w0.heap.size s.m ρ) w (args.map a.eval) (by simp [hlen]) (fun i y v hy hv => ?_)).mono ?_
      · obtain ⟨sv, p', q', h1, h2, h3, h4⟩ := at_ i y v hy hv
        exact closeC_ro h h4 h1 (h2 hp) (h3 hq')
      · rintro e w'' ⟨x, rfl, hr, hb⟩
        refine fin x w'' (hr.mono fun a v hS hc => ⟨hc, ?_⟩) hb
        rcases hS with hS | hS
        · exact hS
        · exact ⟨.inl (Nat.le_trans h.below.size hS), fun id bi b h1 h2 h3 => by have := h.base_lt h1 h3; omega⟩

theorem wanted_of (h : RelAt ρ S0 w0 N s a w) {ops : Array Oper} {o : Oper} {b : Bool} (hw : aWanted ops o s = some b) : Region.wanted o (yielded ops a.tmps) = b := by
  unfold aWanted at hw
  unfold Region.wanted
  cases hg : o.guard with
  | none => simp only [hg, Option.some.injEq] at hw; simp [hw]
  | some jw =>
    obtain ⟨j, want⟩ := jw
    simp only [hg] at hw ⊢
    cases hd : (ops[j]?).bind (·.dst) with
    | none => simp [hd] at hw
    | some d =>
      simp only [hd] at hw
      split at hw
      case h_3 => cases hw
      case h_2 vs hc =>
        simp only [Option.some.injEq] at hw
        subst hw
        have hx := h.slots d
        rw [hc] at hx
        have hv : a.tmps.getD d undef = .tuple vs := by
          generalize a.tmps.getD d undef = v at hx
          cases hx with | c _ _ hr => cases hr; rfl
        have : yielded ops a.tmps j = none := by
          unfold yielded
          rw [hd]
          simp only [Option.bind_some]
          cases e : a.tmps[d]? with
          | none => rfl
          | some v =>
            rw [Array.getD_eq_getD_getElem?, e, Option.getD_some] at hv
            subst hv; rfl
        rw [this]; rfl
      rename_i c hc
      simp only [Option.some.injEq] at hw
      have hx := h.slots d
      rw [hc] at hx
      have hv := srep_bool hx
      have hlt : d < a.tmps.size := by
        rcases Nat.lt_or_ge d a.tmps.size with h' | h'
        · exact h'
        · rw [Array.getD_eq_getD_getElem?, Array.getElem?_eq_none h'] at hv; cases hv
      have hv2 : a.tmps[d]? = some (.bool c) := by
        rw [Array.getD_eq_getD_getElem?, Array.getElem?_eq_getElem hlt, Option.getD_some] at hv
        rw [Array.getElem?_eq_getElem hlt, hv]
      have : yielded ops a.tmps j = some c := by unfold yielded; rw [hd]; simp [hv2]
      rw [this, ← hw]
      cases c <;> cases want <;> rfl

theorem step_sound (h : Rel S0 w0 N s a w) {ops : Array Oper} {i : Nat} {o : Oper} (hi : ops[i]? = some o) (hd : ∀ k, o.dst = some k → k < N) {s' : ASt} (hs : aStep P ops o s s') {Q : Exit → Act → World → Prop} {K : Act → World → Prop}
    (hK : ∀ a' w', Rel S0 w0 N s' a' w' → K a' w') : wpOp P ops Q i K a w := by
  obtain ⟨ρ, h⟩ := h
  unfold wpOp
  simp only [hi]
  rcases hs with ⟨hw, sv, eff, hdo, rfl⟩ | ⟨hw, rfl⟩
  · rw [wanted_of h hw, if_pos rfl]
    exact .inl (Oper.wp_mono hK (does_sound h hd hdo Q))
  · rw [wanted_of h hw, if_neg (by decide)]
    exact hK _ _ ⟨ρ, h.put hd (.c _ _ (.v _))⟩
end
end Go.Ab
