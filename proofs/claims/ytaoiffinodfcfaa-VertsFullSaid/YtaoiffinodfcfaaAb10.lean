/-
  The function on plain values is right, eighth part: appending; and all operations together.
  Conditions: none.
-/
import Derived.Test.YtaoiffinodfcfaaAb15
namespace Go.Ab
open Go.RowKit

section
variable {P : Program} {ρ : Id → Option BI} {S0 : Env} {w0 : World} {N : Nat} {s : ASt} {a : Act} {w : World}

theorem append_call {o : Oper} {args : Array Operand} {ts : Array TypeId} {T : TypeId} {p q : Operand} (ho : o.op = .call ⟨.builtin .append, args, ts⟩) (e1 : args.toList = [p, q]) (e2 : ts.toList = [T, T]) {v : Value} {w' : World}
    (hr : (Builtin.append_ #[T, T] o.type #[a.eval p, a.eval q]).run P w = .ok v w') : (execOp a.eval o).run P w = .ok (.value v) w' := by
  obtain ⟨cs, hcs⟩ := call_builtin_run P a w ho
  rw [hcs, toArray_two e1, toArray_two e2]
  simp only [builtin, List.map_toArray, List.map_cons, List.map_nil, Sem.run_bind, hr, Result.andThen, Sem.run_pure]

theorem updM_self {m : Id → Option Blk} {id : Id} {b : Blk} (h : m id = some b) : updM m id (some b) = m := by
  funext i; unfold updM; split
  · rename_i e; rw [e, h]
  · rfl

theorem take_values {cells : Array Value} {n size cap : Nat} (hcs : cells.size = cap * size) (h : n ≤ cap) : (cells.toList.take (n * size)).length = n * size := by
  have := Nat.mul_le_mul_right size h
  rw [List.length_take, Array.length_toList]; omega

theorem own_row {id : Id} {b : Blk} {bi : BI} (B : BlkAt w (Imm S0 w0.heap.size s.m ρ) (S0.nw w0.heap.size id) b bi) (hmp : bi.mp = false) :
    ∃ xs : List Value, xs.length = b.elems.length * b.sz ∧ w.ownsRow 0 b.T b.sz (.slice (bi.base.map fun k => ⟨k, 0, none⟩) b.elems.length bi.cap) b.elems.length xs ∧
      ∀ (i : Nat) (e : PV) (j : Nat) (c : PV) (x : Value), b.elems[i]? = some e → e.cells[j]? = some c → xs[i * b.sz + j]? = some x → Rep w (Imm S0 w0.heap.size s.m ρ) c x := by
  have hcaplen : b.elems.length ≤ bi.cap := by rw [← B.len]; exact B.cap
  cases hb : bi.base with
  | none =>
    have hcap := B.nil hb
    have h0 : b.elems = [] := List.length_eq_zero_iff.1 (by omega)
    rw [h0, hcap]
    exact ⟨[], by simp, World.ownsRow_nil w _ _ _, by simp⟩
  | some k =>
    obtain ⟨hk, cells, hh, hcs, hrep⟩ := B.row hmp k hb
    have hl := take_values (n := b.elems.length) hcs hcaplen
    refine ⟨cells.toList.take (b.elems.length * b.sz), hl, ⟨hl, .inr ⟨k, bi.cap, cells, rfl, Nat.zero_le _, hh, hcaplen, B.most, hcs, rfl⟩⟩, fun i e j c x hi hj hx => ?_⟩
    rw [List.getElem?_take] at hx
    split at hx
    · exact hrep i e j c x hi hj (by simpa using hx)
    · cases hx

theorem append_rel (h : RelAt ρ S0 w0 N s a w) {T e ty : TypeId} (hT : P.underlying T = some (.slice e)) {te : TI} (hte : tinf P e = some te) {id : Id} (hid : id.1 ≠ 0 ∨ id.2 ≠ 0) {n : Nat} {v x : Value} (hp : SRep w (Imm S0 w0.heap.size s.m ρ) ρ s.g (.own id n) v)
    {b : Blk} (hm : s.m id = some b) (hbls : b.ls = []) {l : List PV} (hsrc : SrcAt w (Imm S0 w0.heap.size s.m ρ) te.size l x)
    (hbT : b.T = e) (hbsz : b.sz = te.size) (hpos : 0 < te.size) (hz : (te.zero.map fun z => z.cells.length) = some te.size) (hn : n = b.elems.length) (hsh : ∀ y ∈ l, y.cells.length = te.size)
    (hbytes : (b.elems.length + l.length) * te.bytes ≤ 140737488355328) (hmost : b.elems.length + l.length ≤ 9223372036854775807) :
    ∃ v' w' ρ', (Builtin.append_ #[T, T] ty #[v, x]).run P w = .ok v' w' ∧ RelAt ρ' S0 w0 N { s with m := updM s.m id (some { b with elems := b.elems ++ l }) } a w' ∧
      SRep w' (Imm S0 w0.heap.size (updM s.m id (some { b with elems := b.elems ++ l })) ρ') ρ' s.g (.own id (n + l.length)) v' := by
  obtain ⟨ie, d, hie, hd, -, h6, h7, h8⟩ := tinf_some hte
  obtain ⟨z0, hz0, hzc⟩ : ∃ z0, ie.zero = some z0 ∧ z0.cells.size = te.size := by
    cases hzz : ie.zero with
    | none => rw [h8, hzz] at hz; simp at hz
    | some z0 => rw [h8, hzz] at hz; exact ⟨z0, rfl, by simpa [constPV_cells] using hz⟩
  obtain ⟨hg, bi, hρ, B⟩ := h.blk id b hm
  cases hp with
  | own _ _ _ hg2 hh hrow =>
  have hmp := hrow bi hρ
  have hx := (hh bi hρ).2 (by rw [B.len, hn])
  have hcaplen : b.elems.length ≤ bi.cap := by rw [← B.len]; exact B.cap
  have still : l = [] → ∃ ρ', RelAt ρ' S0 w0 N { s with m := updM s.m id (some { b with elems := b.elems ++ l }) } a w ∧
      SRep w (Imm S0 w0.heap.size (updM s.m id (some { b with elems := b.elems ++ l })) ρ') ρ' s.g (.own id (n + l.length)) v := fun hl => by
    subst hl
    rw [List.append_nil, updM_self hm]
    exact ⟨ρ, h, .own _ _ _ hg2 hh hrow⟩
  subst hn
  obtain ⟨xs, hxl, hown, hxr⟩ := own_row B hmp
  rw [← hx] at hown
  rcases hsrc with ⟨rfl, hl⟩ | ⟨sb, so, scap, rfl, hone, hsc⟩
  · obtain ⟨ρ', r1, r2⟩ := still hl
    refine ⟨v, w, ρ', ?_, r1, r2⟩
    rw [hx]
    exact append_none_run T ty e ie hT hie _ _ _ hcaplen
  · obtain ⟨news, hnl, hnc, hno, hnr⟩ := src_news hsh hone hsc
    subst hbT
    rw [hbsz] at hown hxl hxr
    obtain ⟨v', w', hrun, G⟩ := append_run (P := P) 0 T ty b.T ie z0 te.size te.bytes hT hie hz0 h6.symm h7.symm hzc hpos v b.elems.length xs hown _ l.length scap news hnl hnc hno (by unfold maxLen; omega) hbytes
    have both := fun (S : Addr → Prop) (W : World) (cells : Array Value) (hc : cells.toList.take ((b.elems.length + l.length) * te.size) = xs ++ news) (K : Keeps w (Imm S0 w0.heap.size s.m ρ) W S) =>
      both_rep (w := W) (S := S) (es := b.elems) (l := l) hxl hnl hc (fun e he => by rw [(B.shape e he).1, hbsz]) hsh (fun i e j c x a1 a2 a3 => (hxr i e j c x a1 a2 a3).mono K) (fun i e j c x a1 a2 a3 => (hnr i e j c x a1 a2 a3).mono K)
    have shape : ∀ e ∈ b.elems ++ l, e.cells.length = b.sz ∧ ∀ c ∈ e.cells, c.one = true := fun e he => by
      rcases List.mem_append.1 he with he | he
      · exact B.shape e he
      · exact ⟨by rw [hsh e he, hbsz], hone e he⟩
    cases G with
    | still h0 =>
      obtain ⟨ρ', r1, r2⟩ := still (List.length_eq_zero_iff.1 h0)
      exact ⟨v, w, ρ', hrun, r1, r2⟩
    | room g cap cur hv hgc hroom hcs ht =>
      rw [hv] at hx
      cases hb : bi.base with
      | none => rw [hb] at hx; simp at hx
      | some k =>
      rw [hb] at hx
      simp only [Option.map_some, Value.slice.injEq, Option.some.injEq, Addr.mk.injEq, and_true, true_and] at hx
      obtain ⟨rfl, rfl⟩ := hx
      have hk := (B.at_ g hb).1
      refine ⟨_, _, _, hrun, h.set (bi := bi) (bi' := { bi with len := b.elems.length + l.length }) (k := g) (b' := { b with elems := b.elems ++ l }) hm hρ ⟨hmp, by first | rfl | exact hmp⟩ rfl rfl ?_ (by simp) hb (.inl hb) (fun j hj _ => setRow_other _ _ _ _ hj) ?_ (by simp) rfl rfl rfl (fun K => ?_) (fun x h => by rw [show ({ b with elems := b.elems ++ l } : Blk).ls = [] from hbls] at h; cases h), ?_⟩
      · rcases Nat.eq_zero_or_pos l.length with h0 | h0
        · left; rw [h0, Nat.add_zero, ← B.len]
        · right; refine ⟨hid, ?_⟩; rw [B.len]; show b.elems.length < b.elems.length + l.length; omega
      · intro _ o u _ ho hc
        rw [hbsz, ← hxl] at ho
        rw [cell_setRow_same w g o cur _ b.T (0, 0) hgc]
        rw [cell_of_row w g o cur b.T (0, 0) hgc] at hc
        have : cur.toList[o]? = some u := by simpa using hc
        rw [List.getElem?_toArray, List.append_assoc, List.getElem?_append_left ho, ← ht, List.getElem?_take, if_pos (by rw [hxl] at ho; exact ho)]
        exact this
      · revert K; generalize Imm S0 w0.heap.size (updM _ _ _) (updR _ _ _) = S; intro K
        refine ⟨by simp, B.sz, by simpa using hroom, B.most, (fun e => by rw [hb] at e; cases e), shape, (fun k2 hk2 => ?_), B.kd, (fun e => by rw [hmp] at e; cases e), (fun e => by rw [hmp] at e; cases e)⟩
        rw [hb] at hk2; simp only [Option.some.injEq] at hk2; subst hk2
        refine ⟨hk, BlkAt.of_row (B.mp0 hmp) ⟨_, setRow_heap w g cur _ b.T (0, 0) hgc, ?_, ?_⟩⟩
        · show _ = bi.cap * b.sz
          rw [hbsz, ← hcs]
          have h1 := take_values (n := b.elems.length) hcs (by omega)
          have h2 : b.elems.length * te.size + news.length ≤ cur.size := by rw [hnl, hcs, ← Nat.add_mul]; exact Nat.mul_le_mul_right _ hroom
          simp only [List.size_toArray, List.length_append, List.length_drop, Array.length_toList, hxl]
          omega
        · rw [hbsz]
          refine both S _ _ ?_ K
          have : (xs ++ news).length = (b.elems.length + l.length) * te.size := by rw [List.length_append, hxl, hnl, Nat.add_mul]
          rw [← this]
          exact List.take_left
      · refine .own _ _ _ hg2 (fun bi' hb' => ?_) (fun bi' hb' => ?_)
        · simp only [updR, if_true, Option.some.injEq] at hb'
          subst hb'
          exact ⟨Nat.le_refl _, fun _ => by simp [hb]⟩
        · simp only [updR, if_true, Option.some.injEq] at hb'
          subst hb'; exact hmp
    | grow cap cells hcap hmax hm0 hcs ht =>
      have hl1 : 0 < l.length := hm0
      have hheap : ∀ j, j < w.heap.size → (w.drew.alloc (.cells cells b.T)).heap[j]? = w.heap[j]? := fun j hj => Below.heap_alloc w.drew _ j hj
      refine ⟨_, _, _, hrun, h.set (bi := bi) (bi' := { base := some w.heap.size, len := b.elems.length + l.length, cap := cap, sz := b.sz, mp := false }) (k := w.heap.size) (b' := { b with elems := b.elems ++ l }) hm hρ ⟨hmp, by first | rfl | exact hmp⟩ rfl rfl (.inr ⟨hid, by rw [B.len]; show b.elems.length < b.elems.length + l.length; omega⟩) (by simp) rfl (.inr (Nat.le_refl _)) (fun j _ hj => hheap j hj) ?_ (by simp) rfl rfl rfl (fun K => ?_) (fun x h => by rw [show ({ b with elems := b.elems ++ l } : Blk).ls = [] from hbls] at h; cases h), ?_⟩
      · intro hb o u _ _ hc
        have := h.base_lt hρ hb
        omega
      · revert K; generalize Imm S0 w0.heap.size (updM _ _ _) (updR _ _ _) = S; intro K
        refine ⟨by simp, rfl, hcap, hmax, (fun e => by cases e), shape, (fun k2 hk2 => ?_), by simp [B.mp0 hmp], (fun e => by cases e), (fun e => by cases e)⟩
        simp only [Option.some.injEq] at hk2; subst hk2
        refine ⟨Env.nw_new hid h.below.size, BlkAt.of_row (B.mp0 hmp) ⟨cells, heap_alloc_new w.drew _, by rw [hcs, hbsz], ?_⟩⟩
        rw [hbsz]
        exact both S _ _ ht K
      · refine .own _ _ _ hg2 (fun bi' hb' => ?_) (fun bi' hb' => ?_)
        · simp only [updR, if_true, Option.some.injEq] at hb'
          subst hb'
          exact ⟨Nat.le_refl _, fun _ => rfl⟩
        · simp only [updR, if_true, Option.some.injEq] at hb'
          subst hb'; rfl

theorem append_nil_rel (h : RelAt ρ S0 w0 N s a w) {T e ty : TypeId} (hT : P.underlying T = some (.slice e)) {te : TI} (hte : tinf P e = some te) {x : Value}
    {l : List PV} (hsrc : SrcAt w (Imm S0 w0.heap.size s.m ρ) te.size l x) (hpos : 0 < te.size) (hz : (te.zero.map fun z => z.cells.length) = some te.size) (hsh : ∀ y ∈ l, y.cells.length = te.size)
    (hbytes : l.length * te.bytes ≤ 140737488355328) (hmost : l.length ≤ 9223372036854775807) (d : Nat) (hd0 : d ≠ 0) :
    ∃ v' w' ρ', (Builtin.append_ #[T, T] ty #[.slice none 0 0, x]).run P w = .ok v' w' ∧ RelAt ρ' S0 w0 N { s with m := updM s.m (d, s.g d) (some ⟨e, te.size, l, true, [], none⟩), g := upd s.g d (s.g d + 1) } a w' ∧
      SRep w' (Imm S0 w0.heap.size (updM s.m (d, s.g d) (some ⟨e, te.size, l, true, [], none⟩)) ρ') ρ' (upd s.g d (s.g d + 1)) (.own (d, s.g d) l.length) v' := by
  obtain ⟨ie, dd, hie, hd, -, h6, h7, h8⟩ := tinf_some hte
  obtain ⟨z0, hz0, hzc⟩ : ∃ z0, ie.zero = some z0 ∧ z0.cells.size = te.size := by
    cases hzz : ie.zero with
    | none => rw [h8, hzz] at hz; simp at hz
    | some z0 => rw [h8, hzz] at hz; exact ⟨z0, rfl, by simpa [constPV_cells] using hz⟩
  have still : l = [] → ∃ ρ', RelAt ρ' S0 w0 N { s with m := updM s.m (d, s.g d) (some ⟨e, te.size, l, true, [], none⟩), g := upd s.g d (s.g d + 1) } a w ∧
      SRep w (Imm S0 w0.heap.size (updM s.m (d, s.g d) (some ⟨e, te.size, l, true, [], none⟩)) ρ') ρ' (upd s.g d (s.g d + 1)) (.own (d, s.g d) l.length) (.slice none 0 0) := fun hl => by
    subst hl
    refine ⟨_, h.newNil d hd0 ⟨e, te.size, [], true, [], none⟩ rfl rfl, .own _ _ _ (by simp [upd]) (fun bi hb => ?_) (fun bi hb => ?_)⟩
    · simp only [updR, if_true, Option.some.injEq] at hb
      subst hb
      exact ⟨Nat.le_refl _, fun _ => rfl⟩
    · simp only [updR, if_true, Option.some.injEq] at hb
      subst hb; rfl
  rcases hsrc with ⟨rfl, hl⟩ | ⟨sb, so, scap, rfl, hone, hsc⟩
  · obtain ⟨ρ', r1, r2⟩ := still hl
    exact ⟨_, w, ρ', append_none_run T ty e ie hT hie none 0 0 (Nat.le_refl _), r1, r2⟩
  · obtain ⟨news, hnl, hnc, hno, hnr⟩ := src_news hsh hone hsc
    obtain ⟨v', w', hrun, G⟩ := append_run (P := P) 0 T ty e ie z0 te.size te.bytes hT hie hz0 h6.symm h7.symm hzc hpos (.slice none 0 0) 0 [] (World.ownsRow_nil w _ _ _) _ l.length scap news hnl hnc hno (by unfold maxLen; omega) (by rw [Nat.zero_add]; exact hbytes)
    cases G with
    | still h0 =>
      obtain ⟨ρ', r1, r2⟩ := still (List.length_eq_zero_iff.1 h0)
      exact ⟨_, w, ρ', hrun, r1, r2⟩
    | room g cap cur hv => cases hv
    | grow cap cells hcap hmax hm0 hcs ht =>
      have h' := h.grow (below_drew w)
      rw [Nat.zero_add] at hcap ht
      have hn := h'.new d hd0 ⟨e, te.size, l, true, [], none⟩ cells cap hcs hcap hmax (fun y hy => ⟨hsh y hy, hone y hy⟩) (fun i y j c x a1 a2 a3 => by
        have hi' := (List.getElem?_eq_some_iff.1 a1).1
        have hj' := (List.getElem?_eq_some_iff.1 a2).1
        have hlt : i * te.size + j < l.length * te.size := idx_lt hi' (by rw [← hsh y (List.mem_of_getElem? a1)]; exact hj')
        have h3 : news[i * te.size + j]? = some x := by
          have : (cells.toList.take (l.length * te.size))[i * te.size + j]? = some x := by
            rw [List.getElem?_take, if_pos hlt]; simpa using a3
          rw [ht, List.nil_append] at this
          exact this
        exact Rep.mono (w := w) (w' := w.drew) (S := Imm S0 w0.heap.size s.m ρ) (fun a v hS hc => ⟨hc, hS⟩) (hnr i y j c x a1 a2 h3)) (fun _ h => by cases h) rfl
      refine ⟨_, _, _, hrun, hn, .own _ _ _ (by simp [upd]) (fun bi hb => ?_) (fun bi hb => ?_)⟩
      · simp only [updR, if_true, Option.some.injEq] at hb
        subst hb
        exact ⟨Nat.le_refl _, fun _ => by simp⟩
      · simp only [updR, if_true, Option.some.injEq] at hb
        subst hb; rfl

theorem exec_append (h : RelAt ρ S0 w0 N s a w) {o : Oper} {args : Array Operand} {ts : Array TypeId} (ho : o.op = .call ⟨.builtin .append, args, ts⟩) (d : Nat) (hd0 : d ≠ 0) {pre : Prop} {sv : SV} {eff : Eff} (he : aExec P o.op s.ev s.m (d, s.g d) = some (pre, sv, eff)) (hp : pre) :
    Good1 P S0 w0 N s a w o (d, s.g d) sv eff := by
  rw [ho] at he
  simp only [aExec, aAppend] at he
  split at he
  case h_2 => cases he
  rename_i p q T T' e1 e2
  split at he
  case isFalse => cases he
  rename_i hTT
  subst hTT
  have hxp := ev_rep h p
  have hxq := ev_rep h q
  split at he
  case h_2 => cases he
  rename_i e _ _ _ _ _ qq l hT hsq
  split at he
  case h_2 => cases he
  rename_i te hte
  have hT := tinf_slice hT
  have own : ∀ (id : Id) (n : Nat), SRep w (Imm S0 w0.heap.size s.m ρ) ρ s.g (.own id n) (a.eval p) → aAppOwn s.m e te qq l id n = some (pre, sv, eff) → Good1 P S0 w0 N s a w o (d, s.g d) sv eff := fun id n hxp he => by
    unfold aAppOwn at he
    split at he
    case h_2 => cases he
    rename_i b hm
    simp only [Option.some.injEq, Prod.mk.injEq] at he
    obtain ⟨rfl, rfl, rfl⟩ := he
    obtain ⟨hid, hbls, hq, hbT, hbsz, hpos, hz, hn, hsh, hbytes, hmost⟩ := hp
    obtain ⟨v', w', ρ', hrun, hR, hS⟩ := append_rel (ty := o.type) h hT hte hid hxp hm hbls (src_at h hxq hsq hq hsh) hbT hbsz hpos hz hn hsh hbytes hmost
    exact ⟨_, v', w', ρ', append_call ho e1 e2 hrun, .inl rfl, hR, hS⟩
  split at he
  · rename_i id n hsp
    rw [hsp] at hxp
    exact own id n hxp he
  · rename_i ld id n ls hsp
    rw [hsp] at hxp
    generalize hv : a.eval p = v at hxp
    cases hxp with
    | st _ _ _ hr hl =>
      obtain ⟨y, h1, h2⟩ := hl _ List.mem_cons_self
      have h3 : v.cells = #[v] := by cases hr <;> rfl
      rw [h3] at h1
      have h4 : y = v := by simpa using h1.symm
      subst h4
      exact own id n (by rw [hv]; exact .own _ _ _ h2.1 (fun bi hb => (h2.2 bi hb).1) (fun bi hb => (h2.2 bi hb).2)) he
  · rename_i hsp
    rw [hsp] at hxp
    simp only [Option.some.injEq, Prod.mk.injEq] at he
    obtain ⟨rfl, rfl, rfl⟩ := he
    obtain ⟨hq, hpos, hz, hsh, hbytes, hmost⟩ := hp
    generalize hv : a.eval p = v at hxp
    cases hxp
    obtain ⟨v', w', ρ', hrun, hR, hS⟩ := append_nil_rel (ty := o.type) h hT hte (src_at h hxq hsq hq hsh) hpos hz hsh hbytes hmost d hd0
    exact ⟨_, v', w', ρ', append_call ho e1 e2 (by rw [hv]; exact hrun), .inl rfl, hR, hS⟩
  · cases he

/-- ████ every operation that the function speaks of ████ -/
theorem exec_sound (h : RelAt ρ S0 w0 N s a w) {o : Oper} (d : Nat) (hd0 : d ≠ 0) {pre : Prop} {sv : SV} {eff : Eff} (he : aExec P o.op s.ev s.m (d, s.g d) = some (pre, sv, eff)) (hp : pre) :
    Good1 P S0 w0 N s a w o (d, s.g d) sv eff := by
  cases ho : o.op with
  | move x => rw [ho] at he; simp only [aExec, Option.some.injEq, Prod.mk.injEq] at he; obtain ⟨-, rfl, rfl⟩ := he; exact exec_move h (.inl ho) _
  | assign x => rw [ho] at he; simp only [aExec, Option.some.injEq, Prod.mk.injEq] at he; obtain ⟨-, rfl, rfl⟩ := he; exact exec_move h (.inr ho) _
  | pick c x y => exact exec_pick h ho _ he
  | alloc T => exact exec_alloc h ho d hd0 he hp
  | box T x => exact exec_box h ho d hd0 he hp
  | build T parts => exact exec_build h ho _ he hp
  | buildSlice T len parts => exact exec_buildSlice h ho d hd0 he hp
  | load T x => exact exec_load h ho _ he hp
  | store T x y => exact exec_store h ho _ he hp
  | nilCheck x => exact exec_nilCheck h ho _ he hp
  | binOp op T x y T' => exact exec_bin h ho _ he hp
  | unOp op T x => exact exec_un h ho _ he
  | convert S T x => exact exec_conv h ho _ he
  | makeSlice T l c => exact exec_makeSlice h ho d hd0 he hp
  | slice T x lo hi mx =>
    cases mx with
    | none => exact exec_slice h ho _ he hp
    | some mx => rw [ho] at he; simp [aExec] at he
  | fieldAddr T x f => exact exec_fieldAddr h ho _ he hp
  | field T x f => exact exec_field h ho _ he hp
  | indexAddr T x ix => exact exec_indexAddr h ho _ he hp
  | index T x ix => exact exec_index h ho _ he hp
  | extract x i => exact exec_extract h ho _ he
  | makeMap T r =>
    cases r with
    | none => exact exec_makeMap h ho d hd0 he hp
    | some r => rw [ho] at he; simp [aExec] at he
  | insert T x k y => rw [ho] at he; simp only [aExec] at he; exact exec_mapUp h (.inr ho) _ he hp
  | mapUpdate T x k y => rw [ho] at he; simp only [aExec] at he; exact exec_mapUp h (.inl ho) _ he hp
  | lookup T x k c =>
    cases c with
    | false => exact exec_lookup h ho _ he hp
    | true => rw [ho] at he; simp [aExec] at he
  | makeInterface T x => exact exec_makeInterface h ho _ he hp
  | makeFunc f first captured =>
    cases f with
    | func k => exact exec_makeFunc h ho _ he hp
    | _ => rw [ho] at he; simp [aExec] at he
  | call c =>
    obtain ⟨callee, args, ts⟩ := c
    cases callee with
    | builtin b =>
      cases b with
      | len => exact exec_len h ho _ he hp
      | append => exact exec_append h ho d hd0 he hp
      | min => exact exec_min h ho _ he
      | max => exact exec_max h ho _ he
      | _ => rw [ho] at he; simp [aExec] at he
    | _ => rw [ho] at he; simp [aExec] at he
  | _ => rw [ho] at he; simp [aExec] at he
end
end Go.Ab
