/-
  The function on plain values is right, second part: moves, new variables, reading and writing, fields and places.
  Conditions: none.
-/
import Derived.Test.YtaoiffinodfcfaaAb3
namespace Go.Ab
open Go.RowKit

section
variable {P : Program} {ρ : Id → Option BI} {S0 : Env} {w0 : World} {N : Nat} {s : ASt} {a : Act} {w : World}

def Good1 (P : Program) (S0 : Env) (w0 : World) (N : Nat) (s : ASt) (a : Act) (w : World) (o : Oper) (nid : Id) (sv : SV) (eff : Eff) : Prop :=
  ∃ r v w' ρ', (execOp a.eval o).run P w = .ok r w' ∧ (r = .value v ∨ (r = .skip ∧ v = undef)) ∧ RelAt ρ' S0 w0 N (s.eff nid eff) a w' ∧
    SRep w' (Imm S0 w0.heap.size (s.eff nid eff).m ρ') ρ' (s.eff nid eff).g sv v

theorem good_none (h : RelAt ρ S0 w0 N s a w) {o : Oper} {nid : Id} {sv : SV} {v : Value} (hrun : (execOp a.eval o).run P w = .ok (.value v) w)
    (hv : SRep w (Imm S0 w0.heap.size s.m ρ) ρ s.g sv v) : Good1 P S0 w0 N s a w o nid sv .none :=
  ⟨_, v, w, ρ, hrun, .inl rfl, h, hv⟩

theorem good_new (h : RelAt ρ S0 w0 N s a w) {o : Oper} {d : Nat} (hd0 : d ≠ 0) {sv : SV} {v : Value} {blk : Blk} {cells : Array Value} {cap : Nat}
    (hrun : (execOp a.eval o).run P w = .ok (.value v) (w.alloc (.cells cells blk.T)))
    (hcells : cells.size = cap * blk.sz) (hcap : blk.elems.length ≤ cap) (hmost : cap ≤ maxLen) (hshape : ∀ e ∈ blk.elems, e.cells.length = blk.sz ∧ ∀ c ∈ e.cells, c.one = true)
    (hrep : ∀ (i : Nat) (e : PV) (j : Nat) (c : PV) (x : Value), blk.elems[i]? = some e → e.cells[j]? = some c → cells[i * blk.sz + j]? = some x → Rep w (Imm S0 w0.heap.size s.m ρ) c x)
    (hls : ∀ l ∈ blk.ls, ∃ y, cells[l.1]? = some y ∧ OwnC ρ s.g l.2.1 l.2.2 y)
    (hv : (sv = .ptr (d, s.g d) 1 0 0 ∧ blk.elems.length = 1 ∧ v = .pointer (some ⟨w.heap.size, 0, none⟩)) ∨ (sv = .own (d, s.g d) blk.elems.length ∧ v = .slice (some ⟨w.heap.size, 0, none⟩) blk.elems.length cap)) (hmp : blk.mp = none := by rfl) :
    Good1 P S0 w0 N s a w o (d, s.g d) sv (.new blk) := by
  refine ⟨_, v, _, _, hrun, .inl rfl, h.new d hd0 blk cells cap hcells hcap hmost hshape hrep hls hmp, ?_⟩
  rcases hv with ⟨rfl, h1, rfl⟩ | ⟨rfl, rfl⟩
  · refine .ptr _ _ _ _ _ (by simp [ASt.eff, upd]) fun bi hb => ?_
    simp only [updR, if_true, Option.some.injEq] at hb
    subst hb
    exact ⟨by simp [h1], fun _ => ⟨_, rfl, by simp⟩⟩
  · refine .own _ _ _ (by simp [ASt.eff, upd]) (fun bi hb => ?_) (fun bi hb => ?_)
    · simp only [updR, if_true, Option.some.injEq] at hb
      subst hb
      exact ⟨Nat.le_refl _, fun _ => rfl⟩
    · simp only [updR, if_true, Option.some.injEq] at hb
      subst hb
      rfl

theorem rep_cell (S : Addr → Prop) (x : Value) : Rep w S (cellPV x) x := by
  unfold cellPV
  split
  · exact .slNil
  · exact .v _

theorem constPV_cells (z : Value) : (constPV z).cells = z.cells.toList.map cellPV := by
  have one : ∀ y, (cellPV y).cells = [cellPV y] := fun y => by unfold cellPV; split <;> rfl
  cases z <;> first | rfl | exact one _

theorem exec_move (h : RelAt ρ S0 w0 N s a w) {o : Oper} {x : Operand} (ho : o.op = .move x ∨ o.op = .assign x) (nid : Id) : Good1 P S0 w0 N s a w o nid (s.ev x) .none :=
  good_none h (v := a.eval x) (by unfold execOp; rcases ho with ho | ho <;> simp [ho]) (ev_rep h x)

theorem srep_bool {S : Addr → Prop} {g : Nat → Nat} {b : Bool} {x : Value} (h : SRep w S ρ g (.c (.v (.bool b))) x) : x = .bool b := by
  cases h with | c _ _ h => cases h; rfl
theorem srep_v {S : Addr → Prop} {g : Nat → Nat} {y x : Value} (h : SRep w S ρ g (.c (.v y)) x) : x = y := by
  cases h with | c _ _ h => cases h; rfl

theorem exec_pick (h : RelAt ρ S0 w0 N s a w) {o : Oper} {c x y : Operand} (ho : o.op = .pick c x y) (nid : Id) {pre : Prop} {sv : SV} {eff : Eff} (he : aExec P o.op s.ev s.m nid = some (pre, sv, eff)) :
    Good1 P S0 w0 N s a w o nid sv eff := by
  have hc := ev_rep h c
  have hx := ev_rep h x
  have hy := ev_rep h y
  rw [ho] at he
  simp only [aExec] at he
  split at he
  case h_2 => cases he
  rename_i t hct
  rw [hct] at hc
  have hc' := srep_bool hc
  have hrun : (execOp a.eval o).run P w = .ok (.value (if t then a.eval x else a.eval y)) w := by
    unfold execOp; simp [ho, hc', asBool]
  split at he
  · rename_i p q hp hq
    simp only [Option.some.injEq, Prod.mk.injEq] at he
    obtain ⟨rfl, rfl, rfl⟩ := he
    rw [hp] at hx; rw [hq] at hy
    refine good_none h hrun ?_
    rw [srep_bool hx, srep_bool hy]
    cases t <;> exact .c _ _ (.v _)
  · simp only [Option.some.injEq, Prod.mk.injEq] at he
    obtain ⟨rfl, rfl, rfl⟩ := he
    refine good_none h hrun ?_
    cases t
    · exact hy
    · exact hx

theorem all_one {l : List PV} (h : l.all PV.one = true) : ∀ c ∈ l, c.one = true := by simpa using h

theorem exec_alloc (h : RelAt ρ S0 w0 N s a w) {o : Oper} {T : TypeId} (ho : o.op = .alloc T) (d : Nat) (hd0 : d ≠ 0) {pre : Prop} {sv : SV} {eff : Eff} (he : aExec P o.op s.ev s.m (d, s.g d) = some (pre, sv, eff)) (hp : pre) :
    Good1 P S0 w0 N s a w o (d, s.g d) sv eff := by
  rw [ho] at he
  simp only [aExec] at he
  split at he
  case h_2 => cases he
  rename_i k size bytes z comp fok ht
  simp only [Option.some.injEq, Prod.mk.injEq] at he
  obtain ⟨rfl, rfl, rfl⟩ := he
  obtain ⟨hz, hone, hsize⟩ := hp
  obtain ⟨i, dd, hi, hd, -, -, -, h4⟩ := tinf_some ht
  obtain ⟨z0, hz0, rfl⟩ : ∃ z0, i.zero = some z0 ∧ z = constPV z0 := by
    cases hz : i.zero with
    | none => simp [hz] at h4
    | some z0 => simp only [hz, Option.map_some, Option.some.injEq] at h4; exact ⟨z0, rfl, h4⟩
  rw [constPV_cells] at hsize
  refine good_new h hd0 (cells := z0.cells) (cap := 1) (v := .pointer (some ⟨w.heap.size, 0, none⟩)) ?_ ?_ (Nat.le_refl _) (by decide) ?_ ?_ (fun _ h => by cases h) (.inl ⟨rfl, rfl, rfl⟩)
  · unfold execOp
    simp only [ho, Instr.alloc, zeroValue, typeInfo, hi, hz0, newVar, newRow, run_program, Sem.run_bind, Sem.run_pure, Result.andThen, run_newObj, World.alloc_eq]
  · simp only [List.length_map, Array.length_toList] at hsize
    rw [hsize, Nat.one_mul]
  · intro e he
    simp only [List.mem_singleton] at he
    subst he
    exact ⟨by rw [constPV_cells]; exact hsize, all_one hone⟩
  · intro i e j c x hi hj hx
    cases i with
    | succ i => simp at hi
    | zero =>
      simp only [List.getElem?_cons_zero, Option.some.injEq] at hi
      subst hi
      rw [constPV_cells] at hj
      simp only [List.getElem?_map, Array.getElem?_toList] at hj
      rw [Nat.zero_mul, Nat.zero_add] at hx
      rw [hx] at hj
      simp only [Option.map_some, Option.some.injEq] at hj
      subst hj
      exact rep_cell _ _

theorem exec_box (h : RelAt ρ S0 w0 N s a w) {o : Oper} {T : TypeId} {x : Operand} (ho : o.op = .box T x) (d : Nat) (hd0 : d ≠ 0) {pre : Prop} {sv : SV} {eff : Eff} (he : aExec P o.op s.ev s.m (d, s.g d) = some (pre, sv, eff)) (hp : pre) :
    Good1 P S0 w0 N s a w o (d, s.g d) sv eff := by
  have hx := ev_rep h x
  rw [ho] at he
  simp only [aExec] at he
  split at he
  case h_2 => cases he
  rename_i q p ls hcl
  simp only [Option.some.injEq, Prod.mk.injEq] at he
  obtain ⟨rfl, rfl, rfl⟩ := he
  obtain ⟨hr, hok, hls⟩ := closeL_rep h hx hcl hp.1
  refine good_new h hd0 (cells := (a.eval x).cells) (cap := 1) (v := .pointer (some ⟨w.heap.size, 0, none⟩)) ?_ ?_ (Nat.le_refl _) (by decide) ?_ ?_ hls (.inl ⟨rfl, rfl, rfl⟩)
  · unfold execOp
    simp only [ho, Instr.box, newVar, newRow, Sem.run_bind, Sem.run_pure, Result.andThen, run_newObj, World.alloc_eq]
  · rw [Nat.one_mul]; exact hr.cells_size hok
  · intro e he
    simp only [List.mem_singleton] at he
    subst he
    exact ⟨rfl, hr.cells_one hok⟩
  · intro i e j c y hi hj hy
    cases i with
    | succ i => simp at hi
    | zero =>
      simp only [List.getElem?_cons_zero, Option.some.injEq] at hi
      subst hi
      rw [Nat.zero_mul, Nat.zero_add] at hy
      exact hr.cells_at hok hj hy

theorem exec_load (h : RelAt ρ S0 w0 N s a w) {o : Oper} {T : TypeId} {x : Operand} (ho : o.op = .load T x) (nid : Id) {pre : Prop} {sv : SV} {eff : Eff} (he : aExec P o.op s.ev s.m nid = some (pre, sv, eff)) (hp : pre) :
    Good1 P S0 w0 N s a w o nid sv eff := by
  have hx := ev_rep h x
  rw [ho] at he
  simp only [aExec, aLoad] at he
  split at he
  · cases he
  rename_i ti ht
  split at he
  · cases he
  rename_i hk
  have fin : ∀ {k o1 off : Nat} {X : PV} {p : Prop} {q : PV}, a.eval x = .pointer (some ⟨k, o1 + off, none⟩) → Reads w (Imm S0 w0.heap.size s.m ρ) X k o1 → partPV ti off X = some (p, q) → p → Good1 P S0 w0 N s a w o nid (.c q) .none := by
    intro k o1 off X p q h1 h2 h3 h4
    obtain ⟨v, hv, hr⟩ := loadVar_run (P := P) ht (by simpa using hk) h2 h3 h4
    exact good_none h (v := v) (by unfold execOp; simp only [ho, h1, Instr.loadAt, Instr.sureAddr, Sem.run_bind, Sem.run_pure, Result.andThen, hv]) (.c _ _ hr)
  split at he
  · rename_i id n i off hs
    rw [hs] at hx
    split at he
    · cases he
    rename_i b hm
    split at he
    case h_2 => cases he
    rename_i p q hpart
    simp only [Option.some.injEq, Prod.mk.injEq] at he
    obtain ⟨rfl, rfl, rfl⟩ := he
    obtain ⟨A, v, h1, hv, hr⟩ := loadL_run h hx hm ht (by simpa using hk) hpart hp
    exact good_none h (v := v) (by unfold execOp; simp only [ho, h1, Instr.loadAt, Instr.sureAddr, Sem.run_bind, Sem.run_pure, Result.andThen, hv]) hr
  · rename_i X off hs
    rw [hs] at hx
    split at he
    case h_2 => cases he
    rename_i p q hpart
    simp only [Option.some.injEq, Prod.mk.injEq] at he
    obtain ⟨rfl, rfl, rfl⟩ := he
    obtain ⟨k, o1, h1, h2⟩ := iptr_reads hx
    exact fin h1 h2 hpart hp
  · rename_i X hs
    rw [hs] at hx
    split at he
    case h_2 => cases he
    rename_i p q hpart
    simp only [Option.some.injEq, Prod.mk.injEq] at he
    obtain ⟨rfl, rfl, rfl⟩ := he
    obtain ⟨k, o1, h1, h2⟩ := ref_reads hx
    exact fin h1 h2 hpart hp
  · cases he

theorem exec_fieldAddr (h : RelAt ρ S0 w0 N s a w) {o : Oper} {T : TypeId} {x : Operand} {f : Nat} (ho : o.op = .fieldAddr T x f) (nid : Id) {pre : Prop} {sv : SV} {eff : Eff} (he : aExec P o.op s.ev s.m nid = some (pre, sv, eff)) (hp : pre) :
    Good1 P S0 w0 N s a w o nid sv eff := by
  have hx := ev_rep h x
  rw [ho] at he
  simp only [aExec, aFieldAddr] at he
  split at he
  case h_2 => cases he
  rename_i fs _ _ _ _ _ ht
  obtain ⟨i, d, hi, hd, h1, -⟩ := tinf_some ht
  have hd' : ∃ gs : Array Field, d = .struct gs ∧ fs = gs.toList.map fun f => (f.offset, P.cellsOf f.type, f.type) := by
    cases d <;> simp [tkOf] at h1
    exact ⟨_, rfl, h1⟩
  obtain ⟨gs, rfl, rfl⟩ := hd'
  split at he
  case h_2 => cases he
  rename_i off size ty hf
  obtain ⟨F, hF, hFF⟩ : ∃ F, gs[f]? = some F ∧ (F.offset, P.cellsOf F.type, F.type) = (off, size, ty) := by
    simp only [List.getElem?_map, Option.map_eq_some_iff, Array.getElem?_toList] at hf
    exact hf
  simp only [Prod.mk.injEq] at hFF
  obtain ⟨rfl, rfl, rfl⟩ := hFF
  have run : 0 < P.cellsOf F.type → ∀ A : Addr, a.eval x = .pointer (some A) → (execOp a.eval o).run P w = .ok (.value (.pointer (some (A.add F.offset)))) w := by
    intro hs A hA
    have hinfo : ∃ j, P.info? F.type = some j := by
      cases hj : P.info? F.type with
      | some j => exact ⟨j, rfl⟩
      | none => simp [Program.cellsOf, hj] at hs
    obtain ⟨j, hj⟩ := hinfo
    have hsz : (sizeOf F.type).run P w = .ok (P.cellsOf F.type) w := run_sizeOf _ hj
    unfold execOp
    simp only [ho, Instr.fieldAt, Sem.run_bind, run_underlying hd, Result.andThen, hF, hA, Instr.sureAddr, Sem.run_pure, fieldPlace, hsz]
    rw [if_neg (by omega)]
    simp
  have add : ∀ (k o1 o2 : Nat), (⟨k, o1 + o2, none⟩ : Addr).add F.offset = ⟨k, o1 + (o2 + F.offset), none⟩ := fun k o1 o2 => by rw [Addr.add_lit, Nat.add_assoc]
  split at he
  · rename_i id n i o1 hs
    rw [hs] at hx
    split at he
    case h_2 => cases he
    rename_i b hm
    simp only [Option.some.injEq, Prod.mk.injEq] at he
    obtain ⟨rfl, rfl, rfl⟩ := he
    cases hx with
    | ptr _ _ _ _ _ hg hh =>
      obtain ⟨_, bi, hρ, B⟩ := h.blk id b hm
      obtain ⟨k, hb, hv⟩ := (hh bi hρ).2 (by rw [B.len, hp.1])
      refine good_none h (run hp.2 _ hv) ?_
      rw [add]
      refine .ptr _ _ _ _ _ hg fun bi' hb' => ⟨(hh bi' hb').1, fun e => ?_⟩
      rw [hρ] at hb'; simp only [Option.some.injEq] at hb'; subst hb'
      exact ⟨k, hb, rfl⟩
  · rename_i y o1 hs
    rw [hs] at hx
    simp only [Option.some.injEq, Prod.mk.injEq] at he
    obtain ⟨rfl, rfl, rfl⟩ := he
    generalize hv : a.eval x = v at hx
    cases hx with
    | iptr _ _ b o2 ff hh1 hcell hr =>
      refine good_none h (run hp _ hv) ?_
      rw [add]
      exact .iptr _ _ b o2 ff hh1 hcell hr
  · rename_i y hs
    rw [hs] at hx
    simp only [Option.some.injEq, Prod.mk.injEq] at he
    obtain ⟨rfl, rfl, rfl⟩ := he
    generalize hv : a.eval x = v at hx
    cases hx with
    | c _ _ hh => cases hh with
      | ref _ b o2 ff hh1 hcell hr =>
        refine good_none h (run hp _ hv) ?_
        rw [Addr.add_lit]
        exact .iptr _ _ b o2 ff hh1 hcell hr
  · cases he
end
end Go.Ab
