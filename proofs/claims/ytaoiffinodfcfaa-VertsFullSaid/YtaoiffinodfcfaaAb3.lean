/-
  The function on plain values is right: where it says what an operation does, the model's operation does just that. First part: operands, reading, new blocks.
  Conditions: none.
-/
import Derived.Test.YtaoiffinodfcfaaAb2
namespace Go.Ab
open Go.RowKit

section
variable {P : Program} {ρ : Id → Option BI} {S0 : Env} {w0 : World} {N : Nat} {s : ASt} {a : Act} {w : World}

theorem ev_rep (h : RelAt ρ S0 w0 N s a w) (x : Operand) : SRep w (Imm S0 w0.heap.size s.m ρ) ρ s.g (s.ev x) (a.eval x) := by
  cases x with
  | tmp t => exact h.slots t
  | const v =>
    simp only [ASt.ev, Act.eval]
    split
    · exact .nil
    · exact .any _
    · exact .c _ _ (.v _)
  | global g => exact .any _
  | func f => exact .c _ _ (.v _)

theorem idx_lt {i j n z : Nat} (hi : i < n) (hj : j < z) : i * z + j < n * z := by
  have : (i + 1) * z ≤ n * z := Nat.mul_le_mul_right z hi
  rw [Nat.add_mul, Nat.one_mul] at this
  omega

theorem closeV_rep (h : RelAt ρ S0 w0 N s a w) {sv : SV} {x : Value} (hs : SRep w (Imm S0 w0.heap.size s.m ρ) ρ s.g sv x) {p : Prop} {q : PV} (hc : closeV s.m sv = some (p, q)) (hp : p) :
    Rep w (Imm S0 w0.heap.size s.m ρ) q x ∧ q.ok = true := by
  cases hs with
  | c q' x hr => simp only [closeV, Option.some.injEq, Prod.mk.injEq] at hc; obtain ⟨rfl, rfl⟩ := hc; exact ⟨hr, hp⟩
  | nil => simp only [closeV, Option.some.injEq, Prod.mk.injEq] at hc; obtain ⟨rfl, rfl⟩ := hc; exact ⟨.slNil, rfl⟩
  | own id n x hg ho hrow =>
    simp only [closeV] at hc
    cases hm : s.m id with
    | none => simp [hm] at hc
    | some b =>
      simp only [hm, Option.some.injEq, Prod.mk.injEq] at hc
      obtain ⟨rfl, rfl⟩ := hc
      obtain ⟨rfl, hrw⟩ := hp
      obtain ⟨_, bi, hρ, B⟩ := h.blk id b hm
      have hx := (ho bi hρ).2 B.len
      refine ⟨?_, rfl⟩
      cases hb : bi.base with
      | none =>
        have hcap := B.nil hb
        have hl := B.cap
        have hlen := B.len
        have h0 : b.elems = [] := List.length_eq_zero_iff.1 (by omega)
        rw [hx, hb, h0, hcap]
        exact .slNil
      | some k =>
        obtain ⟨hk, cells, hh, hsize, hrep⟩ := B.row (hrow bi hρ) k hb
        rw [hx, hb]
        have hcell : ∀ (i : Nat) (e : PV) (j : Nat) (c : PV), b.elems[i]? = some e → e.cells[j]? = some c → ∃ v, cells[i * b.sz + j]? = some v ∧ i * b.sz + j < b.elems.length * b.sz := fun i e j c hi hj => by
          have hi' := (List.getElem?_eq_some_iff.1 hi).1
          have hj' := (List.getElem?_eq_some_iff.1 hj).1
          have hsz := (B.shape e (List.mem_of_getElem? hi)).1
          have h1 : i * b.sz + j < b.elems.length * b.sz := idx_lt hi' (by omega)
          have h2 : b.elems.length * b.sz ≤ bi.cap * b.sz := Nat.mul_le_mul_right _ (by rw [← B.len]; exact B.cap)
          exact ⟨_, Array.getElem?_eq_getElem (by omega), h1⟩
        refine .slAt b.sz _ k 0 _ _ (fun i j => cells.getD (i * b.sz + j) undef) rfl (by rw [← B.len]; exact B.cap) (fun e he => (B.shape e he).1) (fun e he => (B.shape e he).2) (fun i e j c hi hj => ?_) (fun i e j c hi hj => ?_)
        · obtain ⟨v, hv, hlt⟩ := hcell i e j c hi hj
          have e1 : cells.getD (i * b.sz + j) undef = v := by simp [Array.getD_eq_getD_getElem?, hv]
          refine ⟨by simp only [World.cell?, hh]; rw [e1]; simpa using hv, Env.nw_in hk _, fun id1 bi1 b1 h1 h2 h3 => ?_⟩
          have e2 : id1 = id := h.inj _ _ _ _ _ h1 hρ h3 hb
          subst e2
          rw [hm] at h2; simp only [Option.some.injEq] at h2; subst h2
          exact ⟨hrw.resolve_right (fun e0 => by rw [e0] at hi; simp at hi), .inr (by simpa using hlt)⟩
        · obtain ⟨v, hv, hlt⟩ := hcell i e j c hi hj
          have e1 : cells.getD (i * b.sz + j) undef = v := by simp [Array.getD_eq_getD_getElem?, hv]
          simp only [e1]
          exact hrep i e j c v hi hj hv
  | ptr id n i off x hg ho =>
    simp only [closeV] at hc
    cases hm : s.m id with
    | none => simp [hm] at hc
    | some b =>
      simp only [hm, Option.some.injEq, Prod.mk.injEq] at hc
      obtain ⟨rfl, rfl⟩ := hc
      obtain ⟨hn, hrw, hn1, rfl, rfl⟩ := hp
      obtain ⟨_, bi, hρ, B⟩ := h.blk id b hm
      obtain ⟨k, hb, hx⟩ := (ho bi hρ).2 (by rw [B.len, hn])
      obtain ⟨hk, cells, hh, hsize, hrep⟩ := B.row (B.ne (by omega)) k hb
      have h0 : b.elems[0]? = some (b.elems.getD 0 default) := by
        have : 0 < b.elems.length := by omega
        rw [List.getD_eq_getElem?_getD, List.getElem?_eq_getElem this]; rfl
      have hmem := List.mem_of_getElem? h0
      have hsz := (B.shape _ hmem).1
      subst hx
      refine ⟨?_, rfl⟩
      rw [show 0 * bi.sz + 0 = 0 by omega]
      have hcell : ∀ (j : Nat) (c : PV), (b.elems.getD 0 default).cells[j]? = some c → ∃ v, cells[j]? = some v ∧ j < b.elems.length * b.sz := fun j c hj => by
        have hj' := (List.getElem?_eq_some_iff.1 hj).1
        have h1 : 0 * b.sz + j < b.elems.length * b.sz := idx_lt (by omega) (by omega)
        have h2 : b.elems.length * b.sz ≤ bi.cap * b.sz := Nat.mul_le_mul_right _ (by rw [← B.len]; exact B.cap)
        exact ⟨_, Array.getElem?_eq_getElem (by omega), by omega⟩
      refine .ref _ k 0 (fun j => cells.getD j undef) (B.shape _ hmem).2 (fun j c hj => ?_) (fun j c hj => ?_)
      · obtain ⟨v, hv, hlt⟩ := hcell j c hj
        have e1 : cells.getD j undef = v := by simp [Array.getD_eq_getD_getElem?, hv]
        refine ⟨by simp only [World.cell?, hh, e1]; simpa using hv, Env.nw_in hk _, fun id1 bi1 b1 h1 h2 h3 => ?_⟩
        have e2 : id1 = id := h.inj _ _ _ _ _ h1 hρ h3 hb
        subst e2
        rw [hm] at h2; simp only [Option.some.injEq] at h2; subst h2
        exact ⟨hrw, .inr (by simpa using hlt)⟩
      · obtain ⟨v, hv, hlt⟩ := hcell j c hj
        have e1 : cells.getD j undef = v := by simp [Array.getD_eq_getD_getElem?, hv]
        simp only [e1]
        exact hrep 0 _ j c v h0 hj (by simp [hv])
  | iptr => simp [closeV] at hc
  | any => simp [closeV] at hc
  | anyb => simp [closeV] at hc
  | st => simp [closeV] at hc
  | pc => simp [closeV] at hc
  | mo id x hg ho =>
    simp only [closeV] at hc
    cases hm : s.m id with
    | none => simp [hm] at hc
    | some b =>
      cases hmp : b.mp with
      | none => simp [hm, hmp] at hc
      | some m =>
        obtain ⟨kd, ks, vs⟩ := m
        simp only [hm, hmp, Option.some.injEq, Prod.mk.injEq] at hc
        obtain ⟨rfl, rfl⟩ := hc
        obtain ⟨_, bi, hρ, B⟩ := h.blk id b hm
        obtain ⟨h1, hx⟩ := ho bi hρ
        subst hx
        refine ⟨?_, rfl⟩
        obtain ⟨k, hk⟩ := B.mbase h1
        obtain ⟨h2, es, clk, h3, h4, h5, h6, h7⟩ := B.map hmp k hk
        rw [hk]
        refine .mp kd ks vs k es clk h4 h5 h3 ⟨Env.nw_in h2 _, fun id1 bi1 b1 g1 g2 g3 => ?_⟩ h6 h7
        have e2 : id1 = id := h.inj _ _ _ _ _ g1 hρ g3 hk
        subst e2
        rw [hm] at g2; simp only [Option.some.injEq] at g2; subst g2
        rw [hρ] at g1; simp only [Option.some.injEq] at g1; subst g1
        exact ⟨hp, .inl h1⟩

/-- cells that are read: an address, and what lies there -/
def Reads (w : World) (S : Addr → Prop) (x : PV) (b o : Nat) : Prop :=
  (∀ c ∈ x.cells, c.one = true) ∧ ∀ (j : Nat) (c : PV), x.cells[j]? = some c → ∃ v, w.cell? ⟨b, o + j, none⟩ = some v ∧ Rep w S c v

theorem ptr_reads (h : RelAt ρ S0 w0 N s a w) {id : Id} {n i off : Nat} {v : Value} (hs : SRep w (Imm S0 w0.heap.size s.m ρ) ρ s.g (.ptr id n i off) v) {b : Blk} (hm : s.m id = some b) (hn : n = b.elems.length) (hi : i < n) :
    ∃ k o, v = .pointer (some ⟨k, o + off, none⟩) ∧ Reads w (Imm S0 w0.heap.size s.m ρ) (b.elems.getD i default) k o := by
  cases hs with
  | ptr _ _ _ _ _ hg ho =>
  obtain ⟨_, bi, hρ, B⟩ := h.blk id b hm
  obtain ⟨k, hb, hx⟩ := (ho bi hρ).2 (by rw [B.len, hn])
  obtain ⟨hk, cells, hh, hsize, hrep⟩ := B.row (B.ne (by omega)) k hb
  have h0 : b.elems[i]? = some (b.elems.getD i default) := by
    have : i < b.elems.length := by omega
    rw [List.getD_eq_getElem?_getD, List.getElem?_eq_getElem this]; rfl
  have hmem := List.mem_of_getElem? h0
  have hsz := (B.shape _ hmem).1
  rw [B.sz] at hx
  refine ⟨k, i * b.sz, hx, (B.shape _ hmem).2, fun j c hj => ?_⟩
  have hj' := (List.getElem?_eq_some_iff.1 hj).1
  have h1 : i * b.sz + j < b.elems.length * b.sz := idx_lt (by omega) (by omega)
  have h2 : b.elems.length * b.sz ≤ bi.cap * b.sz := Nat.mul_le_mul_right _ (by rw [← B.len]; exact B.cap)
  have h3 : cells[i * b.sz + j]? = some cells[i * b.sz + j] := Array.getElem?_eq_getElem (by omega)
  exact ⟨_, by simp only [World.cell?, hh]; simp [h3], hrep i _ j c _ h0 hj h3⟩

theorem iptr_reads {S : Addr → Prop} {x : PV} {off : Nat} {v : Value} {g : Nat → Nat} (hs : SRep w S ρ g (.iptr x off) v) : ∃ k o, v = .pointer (some ⟨k, o + off, none⟩) ∧ Reads w S x k o := by
  cases hs with
  | iptr _ _ b o f h1 hcell hr => exact ⟨b, o, rfl, h1, fun j c hj => ⟨_, (hcell j c hj).1, hr j c hj⟩⟩

theorem ref_reads {S : Addr → Prop} {x : PV} {v : Value} {g : Nat → Nat} (hs : SRep w S ρ g (.c (.ref x)) v) : ∃ k o, v = .pointer (some ⟨k, o + 0, none⟩) ∧ Reads w S x k o := by
  cases hs with
  | c _ _ hr => cases hr with
    | ref _ b o f h1 hcell hr => exact ⟨b, o, rfl, h1, fun j c hj => ⟨_, (hcell j c hj).1, hr j c hj⟩⟩

theorem tinf_some {T : TypeId} {ti : TI} (h : tinf P T = some ti) : ∃ i d, P.info? T = some i ∧ P.underlying T = some d ∧ ti.k = tkOf P d ∧ ti.size = i.size ∧ ti.bytes = i.bytes ∧ ti.zero = i.zero.map constPV := by
  unfold tinf at h
  split at h
  · rename_i i d hi hd
    simp only [Option.some.injEq] at h
    subst h
    exact ⟨i, d, hi, hd, rfl, rfl, rfl, rfl⟩
  · cases h

theorem tkOf_map (P : Program) (k e : TypeId) : (∃ kd e', tkOf P (.map k e) = .map kd e') ∨ tkOf P (.map k e) = .other := by
  simp only [tkOf, mapK]; split <;> simp
theorem isAgg_run {T : TypeId} {ti : TI} (h : tinf P T = some ti) (hk : ti.known = true) : (isAgg T).run P w = .ok ti.agg w := by
  obtain ⟨i, d, hi, hd, h1, _⟩ := tinf_some h
  unfold isAgg
  rw [Sem.run_bind, run_underlying hd]
  simp only [TI.known, h1] at hk
  simp only [Result.andThen, TI.agg, h1]
  cases d <;> first | rfl | (simp [tkOf] at hk; done) | (rcases tkOf_map P _ _ with ⟨kd, e, h'⟩ | h' <;> rw [h'] <;> rfl)

theorem loadVar_run2 {T : TypeId} {ti : TI} (h : tinf P T = some ti) (hk : ti.known = true) {S : Addr → Prop} {x : PV} {b o off : Nat} (hr : Reads w S x b o) {p : Prop} {q : PV} (hp : partPV ti off x = some (p, q)) (hpp : p) :
    ∃ v, (loadVar T ⟨b, o + off, none⟩).run P w = .ok v w ∧ Rep w S q v ∧ (ti.agg = true → ∀ j y, j < ti.size → w.cell? ⟨b, o + off + j, none⟩ = some y → v.cells[j]? = some y) ∧ (ti.agg = false → w.cell? ⟨b, o + off, none⟩ = some v) := by
  have hA := isAgg_run (w := w) h hk
  obtain ⟨i, d, hi, hd, h1, h2, _⟩ := tinf_some h
  unfold loadVar
  rw [Sem.run_bind, hA]
  simp only [Result.andThen]
  unfold partPV at hp
  cases ha : ti.agg with
  | true =>
    simp only [ha, Option.some.injEq, Prod.mk.injEq] at hp
    obtain ⟨rfl, rfl⟩ := hp
    have hsz : (sizeOf T).run P w = .ok ti.size w := by rw [run_sizeOf _ hi]; simp [Program.cellsOf, hi, h2]
    have hcell : ∀ j, j < ti.size → w.cell? ((⟨b, o + off, none⟩ : Addr).add j) = some ((w.cell? ⟨b, o + (off + j), none⟩).getD undef) := fun j hj => by
      obtain ⟨v, hv, _⟩ := hr.2 (off + j) _ (List.getElem?_eq_getElem (by omega))
      rw [Addr.add_lit, Nat.add_assoc, hv]; rfl
    simp only [if_true, Sem.run_bind, hsz, Result.andThen]
    rw [run_loadCells w _ ti.size _ hcell]
    refine ⟨_, rfl, .agg _ _ ?_ ?_ ?_, fun _ j y hj hy => ?_, (by simp)⟩
    · simp; omega
    · intro c hc
      exact hr.1 c (List.mem_of_mem_drop (List.mem_of_mem_take hc))
    · intro j c y hc hy
      have hj : j < ti.size := by
        have := (Array.getElem?_eq_some_iff.1 hy).1
        simpa using this
      simp only [List.getElem?_take, hj, if_true, List.getElem?_drop] at hc
      obtain ⟨v, hv, hrv⟩ := hr.2 (off + j) c hc
      simp only [List.getElem?_toArray, List.getElem?_map, List.getElem?_range hj, Option.map_some, hv, Option.getD_some, Option.some.injEq] at hy
      subst hy; exact hrv
    · simp only [Value.cells, List.getElem?_toArray, List.getElem?_map, List.getElem?_range hj, Option.map_some]
      rw [← Nat.add_assoc, hy]; rfl
  | false =>
    simp only [ha] at hp
    cases hc : x.cells[off]? with
    | none => simp [hc] at hp
    | some c =>
      simp only [hc, Option.some.injEq, Prod.mk.injEq] at hp
      obtain ⟨rfl, rfl⟩ := hp
      obtain ⟨v, hv, hrv⟩ := hr.2 off c hc
      exact ⟨v, by simp [hv], hrv, (by simp), fun _ => hv⟩

theorem loadVar_run {T : TypeId} {ti : TI} (h : tinf P T = some ti) (hk : ti.known = true) {S : Addr → Prop} {x : PV} {b o off : Nat} (hr : Reads w S x b o) {p : Prop} {q : PV} (hp : partPV ti off x = some (p, q)) (hpp : p) :
    ∃ v, (loadVar T ⟨b, o + off, none⟩).run P w = .ok v w ∧ Rep w S q v := by
  obtain ⟨v, h1, h2, -⟩ := loadVar_run2 h hk hr hp hpp
  exact ⟨v, h1, h2⟩

/-- reading a variable of the call's own -/
theorem loadL_run (h : RelAt ρ S0 w0 N s a w) {id : Id} {n i off : Nat} {vx : Value} (hs : SRep w (Imm S0 w0.heap.size s.m ρ) ρ s.g (.ptr id n i off) vx) {b : Blk} (hm : s.m id = some b) {T : TypeId} {ti : TI} (ht : tinf P T = some ti) (hk : ti.known = true)
    {p : Prop} {q : PV} (hpart : partPV ti off (b.elems.getD i default) = some (p, q)) (hp : (loadL ti b n i off p q).1) :
    ∃ A v, vx = .pointer (some A) ∧ (loadVar T A).run P w = .ok v w ∧ SRep w (Imm S0 w0.heap.size s.m ρ) ρ s.g (loadL ti b n i off p q).2 v := by
  have hx0 := hs
  cases hs with
  | ptr _ _ _ _ _ hg ho =>
  obtain ⟨_, bi, hρ, B⟩ := h.blk id b hm
  have base : n = b.elems.length → i < n → p → ∃ k o1 v, bi.base = some k ∧ vx = .pointer (some ⟨k, o1 + off, none⟩) ∧ o1 = i * b.sz ∧ (loadVar T ⟨k, o1 + off, none⟩).run P w = .ok v w ∧ Rep w (Imm S0 w0.heap.size s.m ρ) q v ∧
      (ti.agg = true → ∀ j y, j < ti.size → w.cell? ⟨k, o1 + off + j, none⟩ = some y → v.cells[j]? = some y) ∧ (ti.agg = false → w.cell? ⟨k, o1 + off, none⟩ = some v) := fun hn hi hpp => by
    obtain ⟨k, o1, h1, h2⟩ := ptr_reads h hx0 hm hn hi
    obtain ⟨v, h3, h4, h5, h6⟩ := loadVar_run2 (P := P) ht hk h2 hpart hpp
    obtain ⟨k', hb, hx⟩ := (ho bi hρ).2 (by rw [B.len, hn])
    rw [h1] at hx
    simp only [Value.pointer.injEq, Option.some.injEq, Addr.mk.injEq] at hx
    obtain ⟨rfl, hx2, -⟩ := hx
    refine ⟨k, o1, v, hb, h1, ?_, h3, h4, h5, h6⟩
    rw [B.sz] at hx2; omega
  have old : n = b.elems.length → i < n → p → ∃ A v, vx = .pointer (some A) ∧ (loadVar T A).run P w = .ok v w ∧ SRep w (Imm S0 w0.heap.size s.m ρ) ρ s.g (.c q) v := fun hn hi hpp => by
    obtain ⟨k, o1, v, _, h1, _, h3, h4, _⟩ := base hn hi hpp
    exact ⟨_, v, h1, h3, .c _ _ h4⟩
  have lk := fun k hb => h.lnk id b bi k hm hρ hb
  unfold loadL at hp ⊢
  cases ha : ti.agg with
  | true =>
    simp only [ha] at hp ⊢
    cases hls : b.ls with
    | nil => rw [hls] at hp; exact old hp.1 hp.2.1 hp.2.2
    | cons l0 ls =>
      rw [hls] at hp lk
      simp only at hp ⊢
      cases hd : decide (off = 0 ∧ b.sz = ti.size) with
      | false => simp only [hd] at hp ⊢; exact old hp.1 hp.2.1 hp.2.2
      | true =>
        simp only [hd] at hp ⊢
        have hd' := of_decide_eq_true hd
        obtain ⟨hn, hi, hpp, h1, hin⟩ := hp
        obtain ⟨k, o1, v, hb, e1, e2, e3, e4, e5, _⟩ := base hn hi hpp
        refine ⟨_, v, e1, e3, .st _ _ _ e4 fun l hl => ?_⟩
        obtain ⟨y, hy, hO⟩ := lk k hb l hl
        refine ⟨y, e5 ha _ _ (lsIn_at hin l hl) ?_, hO⟩
        have i0 : i = 0 := by omega
        rw [i0, Nat.zero_mul] at e2
        rw [show o1 + off + l.1 = l.1 by rw [e2, hd'.1]; omega]; exact hy
  | false =>
    simp only [ha] at hp ⊢
    cases hl : lnkAt b.ls (i * b.sz + off) with
    | none => simp only [hl] at hp ⊢; exact old hp.1 hp.2.1 hp.2.2
    | some x =>
      obtain ⟨id', n'⟩ := x
      simp only [hl] at hp ⊢
      have hp' : n = b.elems.length ∧ i < n ∧ p := by cases n' <;> exact hp
      obtain ⟨hn, hi, hpp⟩ := hp'
      obtain ⟨k, o1, v, hb, e1, e2, e3, _, _, e6⟩ := base hn hi hpp
      obtain ⟨y, hy, hO⟩ := lk k hb _ (lnkAt_mem hl)
      have hv := e6 ha
      rw [e2, hy] at hv
      simp only [Option.some.injEq] at hv
      subst hv
      cases n' with
      | some n' => exact ⟨_, _, e1, e3, .own _ _ _ hO.1 (fun bi hb => (hO.2 bi hb).1) (fun bi hb => (hO.2 bi hb).2)⟩
      | none => exact ⟨_, _, e1, e3, .mo _ _ hO.1 hO.2⟩

/-- what is stored -/
theorem closeL_rep (h : RelAt ρ S0 w0 N s a w) {sv : SV} {x : Value} (hs : SRep w (Imm S0 w0.heap.size s.m ρ) ρ s.g sv x) {p : Prop} {q : PV} {ls : List Lnk} (hc : closeL s.m sv = some (p, q, ls)) (hp : p) :
    Rep w (Imm S0 w0.heap.size s.m ρ) q x ∧ q.ok = true ∧ ∀ l ∈ ls, ∃ y, x.cells[l.1]? = some y ∧ OwnC ρ s.g l.2.1 l.2.2 y := by
  have data : ∀ {p q ls}, (match closeV s.m sv with | some (p, q) => some (p, q, ([] : List Lnk)) | none => none) = some (p, q, ls) → p → Rep w (Imm S0 w0.heap.size s.m ρ) q x ∧ q.ok = true ∧ ∀ l ∈ ls, ∃ y, x.cells[l.1]? = some y ∧ OwnC ρ s.g l.2.1 l.2.2 y := fun {p q ls} e hp => by
    split at e
    · rename_i p1 q1 h1
      simp only [Option.some.injEq, Prod.mk.injEq] at e
      obtain ⟨rfl, rfl, rfl⟩ := e
      obtain ⟨h2, h3⟩ := closeV_rep h hs h1 hp
      exact ⟨h2, h3, fun l hl => by cases hl⟩
    · cases e
  cases sv with
  | st p0 ls0 =>
    simp only [closeL, Option.some.injEq, Prod.mk.injEq] at hc
    obtain ⟨rfl, rfl, rfl⟩ := hc
    cases hs with
    | st _ _ _ hr hl => exact ⟨hr, hp, hl⟩
  | own id n =>
    simp only [closeL] at hc
    cases hm : s.m id with
    | none => simp [hm] at hc
    | some b =>
      rw [hm] at hc
      cases hrw : b.rw with
      | false =>
        simp only [hrw] at hc
        exact data hc hp
      | true =>
        simp only [hrw, Option.some.injEq, Prod.mk.injEq] at hc
        obtain ⟨rfl, rfl, rfl⟩ := hc
        cases hs with
        | own _ _ _ hg ho hrow =>
        obtain ⟨_, bi, hρ, B⟩ := h.blk id b hm
        have hx := (ho bi hρ).2 (by rw [B.len, hp])
        refine ⟨.hole _ (by rw [hx]; rfl), rfl, fun l hl => ?_⟩
        rw [List.mem_singleton] at hl
        subst hl
        exact ⟨x, by rw [hx]; rfl, hg, fun bi hb => ⟨ho bi hb, hrow bi hb⟩⟩
  | c q0 => exact data hc hp
  | nil => exact data hc hp
  | ptr id n i off => exact data hc hp
  | iptr y off => exact data hc hp
  | any => exact data hc hp
  | anyb => exact data hc hp
  | when b y => exact data hc hp
  | pc id n lo len => exact data hc hp
  | mo id =>
    simp only [closeL] at hc
    cases hm : s.m id with
    | none => simp [hm] at hc
    | some b =>
      cases hmp : b.mp with
      | none => simp [hm, hmp] at hc
      | some m =>
        obtain ⟨kd, ks, vs⟩ := m
        cases hrw : b.rw with
        | false =>
          refine data ?_ hp
          simp only [hm, hmp, hrw] at hc
          simp only [closeV, hm, hmp, hrw]
          exact hc
        | true =>
          simp only [hm, hmp, hrw, Option.some.injEq, Prod.mk.injEq] at hc
          obtain ⟨rfl, rfl, rfl⟩ := hc
          cases hs with
          | mo _ _ hg ho =>
          obtain ⟨_, bi, hρ, B⟩ := h.blk id b hm
          have hx := (ho bi hρ).2
          refine ⟨.hole _ (by rw [hx]; rfl), rfl, fun l hl => ?_⟩
          rw [List.mem_singleton] at hl
          subst hl
          exact ⟨x, by rw [hx]; rfl, hg, ho⟩
end
end Go.Ab
