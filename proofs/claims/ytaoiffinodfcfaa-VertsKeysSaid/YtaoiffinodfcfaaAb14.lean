/-
  States written as lists; forgetting and renaming; a row that is not there yet; a function's call out of its body.
  Conditions: none.
-/
import Derived.Test.YtaoiffinodfcfaaAb13
namespace Go.Ab
open Go.RowKit

def lk : List (Nat × SV) → Nat → SV
  | [], _ => .any
  | (k, v) :: l, i => if i = k then v else lk l i
def lkM : List (Id × Option Blk) → Id → Option Blk
  | [], _ => none
  | (k, v) :: l, i => if i = k then v else lkM l i
def lkG : List (Nat × Nat) → Nat → Nat → Nat
  | [], c, _ => c
  | (k, v) :: l, c, i => if i = k then v else lkG l c i

theorem putT_lk (l : List (Nat × SV)) (d : Nat) (x : SV) : putT (lk l) (some d) x = lk ((d, x) :: l) := rfl
theorem putT_none (t : Nat → SV) (x : SV) : putT t none x = t := rfl
theorem updM_lk (l : List (Id × Option Blk)) (d : Id) (x : Option Blk) : updM (lkM l) d x = lkM ((d, x) :: l) := rfl
theorem upd_lk (l : List (Nat × Nat)) (c d x : Nat) : upd (lkG l c) d x = lkG ((d, x) :: l) c := rfl

def renL (r : Id → Id) : List Lnk → List Lnk
  | [] => []
  | (j, id, n) :: ls => (j, r id, n) :: renL r ls
theorem renL_mem {r : Id → Id} : ∀ {ls : List Lnk} {l : Lnk}, l ∈ ls → (l.1, r l.2.1, l.2.2) ∈ renL r ls
  | (j, id, n) :: ls, l, h => by
    rcases List.mem_cons.1 h with rfl | h
    · exact List.mem_cons_self
    · exact List.mem_cons_of_mem _ (renL_mem h)
theorem renL_id : ∀ ls : List Lnk, renL (fun i => i) ls = ls
  | [] => rfl
  | (j, id, n) :: ls => by rw [renL, renL_id ls]
def ren (r : Id → Id) : SV → SV
  | .own id n => .own (r id) n
  | .ptr id n i off => .ptr (r id) n i off
  | .pc id n lo len => .pc (r id) n lo len
  | .mo id => .mo (r id)
  | .st p ls => .st p (renL r ls)
  | x => x

section
variable {P : Program} {S0 : Env} {w0 : World} {N : Nat} {s s' : ASt} {a : Act} {w : World}

/-- s' says no more than s, its blocks named anew -/
structure Weak (r : Id → Id) (s s' : ASt) : Prop where
  t : ∀ i, s'.t i = .any ∨ ren r (s'.t i) = s.t i
  m : ∀ id b, s'.m id = some b → ∃ b0, s.m (r id) = some b0 ∧ b.T = b0.T ∧ b.sz = b0.sz ∧ b.elems = b0.elems ∧ (b.rw = b0.rw ∨ b.rw = false) ∧ renL r b.ls = b0.ls ∧ b.mp = b0.mp
  inj : ∀ id id' b b', s'.m id = some b → s'.m id' = some b' → r id = r id' → id = id'
  gm : ∀ id b, s'.m id = some b → id.2 < s'.g id.1
  gt : ∀ i id, ment (s'.t i) = some id → id.2 < s'.g id.1
  cls : ∀ id b, s'.m id = some b → (id.1 = 0 ↔ (r id).1 = 0) ∧ (id.1 = 0 → id.2 = 0 → (r id).2 = 0)
  glt : ∀ i p ls, s'.t i = .st p ls → ∀ l ∈ ls, (r l.2.1).2 < s.g (r l.2.1).1 → l.2.1.2 < s'.g l.2.1.1
  glm : ∀ id b, s'.m id = some b → ∀ l ∈ b.ls, (r l.2.1).2 < s.g (r l.2.1).1 → l.2.1.2 < s'.g l.2.1.1

theorem Rel.weak {r : Id → Id} (W : Weak r s s') (h : Rel S0 w0 N s a w) : Rel S0 w0 N s' a w := by
  obtain ⟨ρ, h⟩ := h
  let ρ' : Id → Option BI := fun id => match s'.m id with | some _ => ρ (r id) | none => none
  have hρ' : ∀ id bi, ρ' id = some bi → (∃ b, s'.m id = some b) ∧ ρ (r id) = some bi := fun id bi e => by
    simp only [ρ'] at e
    cases hm : s'.m id with
    | none => rw [hm] at e; cases e
    | some b => rw [hm] at e; exact ⟨⟨b, rfl⟩, e⟩
  have K : Keeps w (Imm S0 w0.heap.size s.m ρ) w (Imm S0 w0.heap.size s'.m ρ') := fun a v hS hc => by
    refine ⟨hc, hS.1, fun id bi b h1 h2 h3 => ?_⟩
    obtain ⟨b0, e1, e2, e3, e4, e5, e6, -⟩ := W.m id b h2
    have h4 := hS.2 (r id) bi b0 (hρ' id bi h1).2 e1 h3
    rw [e3, e4]
    exact ⟨e5.elim (fun e => by rw [e]; exact h4.1) (fun e => e), h4.2⟩
  have L : ∀ id n y, OwnC ρ s.g (r id) n y → ((r id).2 < s.g (r id).1 → id.2 < s'.g id.1) → OwnC ρ' s'.g id n y := fun id n y hO hg => by
    cases n with
    | some n => exact ⟨hg hO.1, fun bi hb => hO.2 bi (hρ' id bi hb).2⟩
    | none => exact ⟨hg hO.1, fun bi hb => hO.2 bi (hρ' id bi hb).2⟩
  refine ⟨ρ', h.size, h.defers, fun i => ?_, fun id b hb => ?_, fun id bi e => (hρ' id bi e).1, fun id id' bi bi' k h1 h2 h3 h4 => ?_, h.below, fun id bi e0 e => ?_, fun id b bi k h1 h2 h3 l hl => ?_⟩
  · have hs := h.slots i
    rcases W.t i with e | e
    · rw [e]; exact .any _
    · rw [← e] at hs
      have hg := W.gt i
      have hgl := W.glt i
      generalize s'.t i = sv at *
      generalize a.tmps.getD i undef = v at *
      cases sv with
      | c p => cases hs with | c _ _ hr => exact .c _ _ (hr.mono K)
      | nil => cases hs; exact .nil
      | own id n => cases hs with | own _ _ _ _ hh hr => exact .own _ _ _ (hg id rfl) (fun bi hb => hh bi (hρ' id bi hb).2) (fun bi hb => hr bi (hρ' id bi hb).2)
      | mo id => cases hs with | mo _ _ _ hh => exact .mo _ _ (hg id rfl) fun bi hb => hh bi (hρ' id bi hb).2
      | ptr id n j off => cases hs with | ptr _ _ _ _ _ _ hh => exact .ptr _ _ _ _ _ (hg id rfl) fun bi hb => hh bi (hρ' id bi hb).2
      | iptr x off => cases hs with | iptr _ _ b o f h1 hcell hr => exact .iptr _ _ b o f h1 (fun j c hj => K.cell (hcell j c hj).2 (hcell j c hj).1) (fun j c hj => (hr j c hj).mono K)
      | any => exact .any _
      | when => cases hs
      | anyb => cases hs with | anyb b => exact .anyb b
      | pc id n lo len => cases hs with | pc _ _ _ _ _ _ hn hh hr => exact .pc _ _ _ _ _ (hg id rfl) hn (fun bi hb => hh bi (hρ' id bi hb).2) (fun bi hb => hr bi (hρ' id bi hb).2)
      | st p ls => cases hs with
        | st _ _ _ hr hl =>
          refine .st _ _ _ (hr.mono K) fun l hm => ?_
          obtain ⟨y, h1, h2⟩ := hl _ (renL_mem hm)
          exact ⟨y, h1, L _ _ _ h2 (hgl p ls rfl l hm)⟩
  · obtain ⟨b0, e1, f1, f2, f3, -, -, f4⟩ := W.m id b hb
    obtain ⟨hg, bi, h2, B⟩ := h.blk (r id) b0 e1
    refine ⟨W.gm id b hb, bi, by simp only [ρ', hb]; exact h2, ⟨by rw [f3]; exact B.len, by rw [f2]; exact B.sz, B.cap, B.most, B.nil, by rw [f2, f3]; exact B.shape, fun k hk => ?_, by rw [f4]; exact B.kd, by rw [f3]; exact B.kd0, B.mb⟩⟩
    obtain ⟨h3, h4⟩ := B.at_ k hk
    refine ⟨?_, ?_⟩
    rotate_left
    · have := h4.keep (w' := w) rfl K
      unfold InAt at this ⊢
      rw [f1, f2, f3, f4]; exact this
    have hc := W.cls id b hb
    unfold Env.nw at h3 ⊢
    by_cases e0 : id.1 = 0
    · rw [if_pos e0]; rw [if_pos (hc.1.1 e0)] at h3
      exact h3.imp_right fun h => ⟨fun e => h.1 (hc.2 e0 e), h.2⟩
    · rw [if_neg e0]; rwa [if_neg (fun e => e0 (hc.1.2 e))] at h3
  · obtain ⟨⟨b, e1⟩, e2⟩ := hρ' id bi h1
    obtain ⟨⟨b', e3⟩, e4⟩ := hρ' id' bi' h2
    exact W.inj id id' b b' e1 e3 (h.inj _ _ _ _ k e2 e4 h3 h4)
  · obtain ⟨⟨b, e1⟩, e2⟩ := hρ' id bi e
    exact (h.bor _ bi ((W.cls id b e1).1.1 e0) e2).imp_right fun h => ⟨fun e => h.1 ((W.cls id b e1).2 e0 e), h.2⟩
  · obtain ⟨b0, e1, _, _, _, _, e6, _⟩ := W.m id b h1
    have hm := renL_mem (r := r) hl
    rw [e6] at hm
    obtain ⟨y, h4, h5⟩ := h.lnk (r id) b0 bi k e1 (hρ' id bi h2).2 h3 _ hm
    exact ⟨y, h4, L _ _ _ h5 (W.glm id b h1 l hl)⟩

theorem AW_weak {r : Id → Id} {c : Code} {K : Exit → ASt → Prop} (s' : ASt) (W : Weak r s s') (h : AW P N c K s') : AW P N c K s :=
  fun S0 w0 a w hR => h S0 w0 a w (hR.weak W)

theorem lk_mem {l : List (Nat × SV)} {i : Nat} {x : SV} (h : lk l i = x) (hx : x ≠ .any) : (i, x) ∈ l := by
  induction l with
  | nil => exact absurd h.symm hx
  | cons y l ih =>
    obtain ⟨k, v⟩ := y
    simp only [lk] at h
    split at h
    · rename_i e; subst e; subst h; exact List.mem_cons_self
    · exact List.mem_cons_of_mem _ (ih h)
theorem lkM_mem {l : List (Id × Option Blk)} {i : Id} {b : Blk} (h : lkM l i = some b) : (i, some b) ∈ l := by
  induction l with
  | nil => cases h
  | cons y l ih =>
    obtain ⟨k, v⟩ := y
    simp only [lkM] at h
    split at h
    · rename_i e; subst e; subst h; exact List.mem_cons_self
    · exact List.mem_cons_of_mem _ (ih h)

/-- names stay; only these slots, and these blocks, are kept -/
theorem AW_keep {c : Code} {K : Exit → ASt → Prop} (ks : List Nat) (ms : List Id)
    (h : AW P N c K ⟨lk (ks.map fun i => (i, s.t i)), lkM (ms.map fun i => (i, s.m i)), s.g⟩) : AW P N c K s := by
  intro S0 w0 a w hR
  have hwf := hR.wf
  have hblk : ∀ id b, s.m id = some b → id.2 < s.g id.1 := fun id b hb => by obtain ⟨ρ, h⟩ := hR; exact (h.blk id b hb).1
  have ht : ∀ i, lk (ks.map fun i => (i, s.t i)) i = .any ∨ lk (ks.map fun i => (i, s.t i)) i = s.t i := fun i => by
    by_cases e : lk (ks.map fun i => (i, s.t i)) i = .any
    · exact .inl e
    · right
      obtain ⟨j, _, hj⟩ := List.mem_map.1 (lk_mem rfl e)
      simp only [Prod.mk.injEq] at hj
      rw [← hj.2, hj.1]
  have hm : ∀ id b, lkM (ms.map fun i => (i, s.m i)) id = some b → s.m id = some b := fun id b hb => by
    obtain ⟨j, _, hj⟩ := List.mem_map.1 (lkM_mem hb)
    simp only [Prod.mk.injEq] at hj
    rw [← hj.1, hj.2]
  refine h S0 w0 a w (hR.weak (r := id) ⟨fun i => ?_, fun id b hb => ⟨b, hm id b hb, rfl, rfl, rfl, .inl rfl, renL_id _, rfl⟩, fun _ _ _ _ _ _ e => e, fun id b hb => hblk id b (hm id b hb), fun i id hid => ?_, fun _ _ _ => ⟨Iff.rfl, fun _ e => e⟩, fun _ _ _ _ _ _ h => h, fun _ _ _ _ _ h => h⟩)
  · rcases ht i with e | e
    · exact .inl e
    · right
      simp only [e]
      cases s.t i <;> first | rfl | (simp only [ren]; exact congrArg _ (renL_id _))
  · rcases ht i with e | e
    · simp only [e] at hid; cases hid
    · simp only [e] at hid; exact hwf i id hid

/-- a row that is not there yet gets a name -/
theorem AW_seed {c : Code} {K : Exit → ASt → Prop} (i d T sz : Nat) (hd0 : d ≠ 0) (hi : s.t i = .nil) (h : AW P N c K { t := upd s.t i (.own (d, s.g d) 0), m := updM s.m (d, s.g d) (some ⟨T, sz, [], true, [], none⟩), g := upd s.g d (s.g d + 1) }) : AW P N c K s := by
  intro S0 w0 a w hR
  refine h S0 w0 a w ?_
  obtain ⟨ρ, hR⟩ := hR
  have hn := hR.newNil d hd0 ⟨T, sz, [], true, [], none⟩ rfl rfl
  refine ⟨_, hn.size, hn.defers, fun j => ?_, hn.blk, hn.dom, hn.inj, hn.below, hn.bor, hn.lnk⟩
  have hj := hn.slots j
  by_cases e : j = i
  · subst e
    have h0 := hR.slots j
    rw [hi] at h0
    generalize a.tmps.getD j undef = v at *
    cases h0
    simp only [upd, if_true]
    refine .own _ _ _ (by simp [upd]) (fun bi hb => ?_) (fun bi hb => ?_)
    · simp only [updR, if_true, Option.some.injEq] at hb
      subst hb
      exact ⟨Nat.le_refl _, fun _ => rfl⟩
    · simp only [updR, if_true, Option.some.injEq] at hb
      subst hb; rfl
  · simp only [upd, e, if_false]
    exact hj


/-! ## a function's call -/
/-- an end's value: its data, out of whatever may be written no more from here on -/
theorem closeC_end {ρ : Id → Option BI} (h : RelAt ρ S0 w0 N s a w) {S : Addr → Prop} (hB : ∀ a, w0.heap.size ≤ a.block → S a) (hS : ∀ a, S0.S a → S a) (hO : ∀ a, S0.own a.block → S a) {sv : SV} {x : Value} (hs : SRep w (Imm S0 w0.heap.size s.m ρ) ρ s.g sv x) {p q : Prop} {y : PV} (hc : closeC s.m sv = some (p, q, y)) (hp : p) : Rep w S y x := by
  have K : Keeps w (Imm S0 w0.heap.size s.m ρ) w S := fun a v hI hc => ⟨hc, hI.1.elim (hB a) (fun h => h.elim (hO a) (hS a))⟩
  cases sv with
  | c z => simp only [closeC, Option.some.injEq, Prod.mk.injEq] at hc; obtain ⟨rfl, rfl, rfl⟩ := hc; exact (closeV_rep h hs rfl hp).1.mono K
  | nil => simp only [closeC, Option.some.injEq, Prod.mk.injEq] at hc; obtain ⟨rfl, rfl, rfl⟩ := hc; exact (closeV_rep h hs rfl trivial).1.mono K
  | own id n =>
    simp only [closeC] at hc
    cases hm : s.m id with
    | none => simp [hm] at hc
    | some b =>
      simp only [hm, Option.some.injEq, Prod.mk.injEq] at hc
      obtain ⟨rfl, rfl, rfl⟩ := hc
      cases hs with
      | own _ _ _ hg ho hrow =>
      obtain ⟨_, bi, hρ, B⟩ := h.blk id b hm
      have hx := (ho bi hρ).2 (by rw [B.len, hp])
      cases hb : bi.base with
      | none =>
        have hcap := B.nil hb
        have hl := B.cap
        have hlen := B.len
        have h0 : b.elems = [] := List.length_eq_zero_iff.1 (by omega)
        rw [hx, hb, h0, hcap, show n = 0 by omega]
        exact .slNil
      | some k =>
        obtain ⟨hk, cells, hh, hsize, hrep⟩ := B.row (hrow bi hρ) k hb
        rw [hx, hb]
        have hcell : ∀ (i : Nat) (e : PV) (j : Nat) (c : PV), b.elems[i]? = some e → e.cells[j]? = some c → ∃ v, cells[i * b.sz + j]? = some v := fun i e j c hi hj => by
          have hi' := (List.getElem?_eq_some_iff.1 hi).1
          have hj' := (List.getElem?_eq_some_iff.1 hj).1
          have hsz := (B.shape e (List.mem_of_getElem? hi)).1
          have h1 : i * b.sz + j < b.elems.length * b.sz := idx_lt hi' (by omega)
          have h2 : b.elems.length * b.sz ≤ bi.cap * b.sz := Nat.mul_le_mul_right _ (by rw [← B.len]; exact B.cap)
          exact ⟨_, Array.getElem?_eq_getElem (by omega)⟩
        refine .slAt b.sz _ k 0 _ _ (fun i j => cells.getD (i * b.sz + j) undef) hp (by rw [hp, ← B.len]; exact B.cap) (fun e he => (B.shape e he).1) (fun e he => (B.shape e he).2) (fun i e j c hi hj => ?_) (fun i e j c hi hj => ?_)
        · obtain ⟨v, hv⟩ := hcell i e j c hi hj
          have e1 : cells.getD (i * b.sz + j) undef = v := by simp [Array.getD_eq_getD_getElem?, hv]
          exact ⟨by simp only [World.cell?, hh]; rw [e1]; simpa using hv, (Env.nw_or hk).elim (fun h => hB (Addr.mk k _ _) h) (fun h => hO (Addr.mk k _ _) h)⟩
        · obtain ⟨v, hv⟩ := hcell i e j c hi hj
          have e1 : cells.getD (i * b.sz + j) undef = v := by simp [Array.getD_eq_getD_getElem?, hv]
          simp only [e1]
          exact (hrep i e j c v hi hj hv).mono K
  | ptr id n i off =>
    simp only [closeC] at hc
    cases hm : s.m id with
    | none => simp [hm] at hc
    | some b =>
      simp only [hm, Option.some.injEq, Prod.mk.injEq] at hc
      obtain ⟨rfl, rfl, rfl⟩ := hc
      obtain ⟨hn, hn1, rfl, rfl⟩ := hp
      obtain ⟨k, o, hv, hone, hcells⟩ := ptr_reads h hs hm hn (by omega)
      have hk : w0.heap.size ≤ k ∨ S0.own k := by
        cases hs with
        | ptr _ _ _ _ _ hg ho =>
        obtain ⟨_, bi, hρ, B⟩ := h.blk id b hm
        obtain ⟨k', hb, hx⟩ := (ho bi hρ).2 (by rw [B.len, hn])
        have hk' := (B.at_ k' hb).1
        rw [hv] at hx
        simp only [Value.pointer.injEq, Option.some.injEq, Addr.mk.injEq] at hx
        rw [hx.1]; exact Env.nw_or hk'
      subst hv
      refine .ref _ k (o + 0) (fun j => (w.cell? ⟨k, o + j, none⟩).getD undef) hone (fun j c hj => ?_) (fun j c hj => ?_)
      · obtain ⟨v, hv, _⟩ := hcells j c hj
        rw [Nat.add_zero, hv]; exact ⟨rfl, hk.elim (fun h => hB (Addr.mk k _ _) h) (fun h => hO (Addr.mk k _ _) h)⟩
      · obtain ⟨v, hv, hr⟩ := hcells j c hj
        rw [hv]; exact hr.mono K
  | iptr => simp [closeC] at hc
  | any => simp [closeC] at hc
  | when => simp [closeC] at hc
  | anyb => simp [closeC] at hc
  | st => simp [closeC] at hc
  | pc => simp [closeC] at hc
  | mo id =>
    simp only [closeC] at hc
    cases hm : s.m id with
    | none => simp [hm] at hc
    | some b =>
      cases hmp : b.mp with
      | none => simp [hm, hmp] at hc
      | some m =>
        obtain ⟨kd, ks, vs⟩ := m
        simp only [hm, hmp, Option.some.injEq, Prod.mk.injEq] at hc
        obtain ⟨rfl, rfl, rfl⟩ := hc
        cases hs with
        | mo _ _ hg ho =>
        obtain ⟨_, bi, hρ, B⟩ := h.blk id b hm
        obtain ⟨g1, g2⟩ := ho bi hρ
        obtain ⟨k0, hk0⟩ := B.mbase g1
        obtain ⟨h2, es, clk, h3, h4, h5, h6, h7⟩ := B.map hmp k0 hk0
        rw [g2, hk0]
        exact .mp kd ks vs k0 es clk h4 h5 h3 ((Env.nw_or h2).elim (fun h => hB (Addr.mk k0 _ _) h) (fun h => hO (Addr.mk k0 _ _) h)) h6 fun i e c a1 a2 => (h7 i e c a1 a2).mono K

theorem load_run2 {ρ : Id → Option BI} (h : RelAt ρ S0 w0 N s a w) {T : TypeId} {sx : SV} {vx : Value} (hx : SRep w (Imm S0 w0.heap.size s.m ρ) ρ s.g sx vx) {p : Prop} {sy : SV} {eff : Eff} (he : aLoad P s.m T sx = some (p, sy, eff)) (hp : p) :
    ∃ A v, vx = .pointer (some A) ∧ (loadVar T A).run P w = .ok v w ∧ SRep w (Imm S0 w0.heap.size s.m ρ) ρ s.g sy v := by
  unfold aLoad at he
  split at he
  · cases he
  rename_i ti ht
  split at he
  · cases he
  rename_i hk
  have fin : ∀ {k o1 off : Nat} {X : PV} {p : Prop} {q : PV}, vx = .pointer (some ⟨k, o1 + off, none⟩) → Reads w (Imm S0 w0.heap.size s.m ρ) X k o1 → partPV ti off X = some (p, q) → p →
      ∃ A v, vx = .pointer (some A) ∧ (loadVar T A).run P w = .ok v w ∧ SRep w (Imm S0 w0.heap.size s.m ρ) ρ s.g (.c q) v := by
    intro k o1 off X p q h1 h2 h3 h4
    obtain ⟨v, hv, hr⟩ := loadVar_run (P := P) ht (by simpa using hk) h2 h3 h4
    exact ⟨_, v, h1, hv, .c _ _ hr⟩
  split at he
  · rename_i id n i off
    split at he
    · cases he
    rename_i b hm
    split at he
    case h_2 => cases he
    rename_i p q hpart
    simp only [Option.some.injEq, Prod.mk.injEq] at he
    obtain ⟨rfl, rfl, rfl⟩ := he
    exact loadL_run h hx hm ht (by simpa using hk) hpart hp
  · rename_i X off
    split at he
    case h_2 => cases he
    rename_i p q hpart
    simp only [Option.some.injEq, Prod.mk.injEq] at he
    obtain ⟨rfl, rfl, rfl⟩ := he
    obtain ⟨k, o1, h1, h2⟩ := iptr_reads hx
    exact fin h1 h2 hpart hp
  · rename_i X
    split at he
    case h_2 => cases he
    rename_i p q hpart
    simp only [Option.some.injEq, Prod.mk.injEq] at he
    obtain ⟨rfl, rfl, rfl⟩ := he
    obtain ⟨k, o1, h1, h2⟩ := ref_reads hx
    exact fin h1 h2 hpart hp
  · cases he
theorem load_run {ρ : Id → Option BI} (h : RelAt ρ S0 w0 N s a w) {T : TypeId} {sx : SV} {vx : Value} (hx : SRep w (Imm S0 w0.heap.size s.m ρ) ρ s.g sx vx) {p : Prop} {y : PV} {eff : Eff} (he : aLoad P s.m T sx = some (p, .c y, eff)) (hp : p) :
    ∃ A v, vx = .pointer (some A) ∧ (loadVar T A).run P w = .ok v w ∧ Rep w (Imm S0 w0.heap.size s.m ρ) y v := by
  obtain ⟨A, v, h1, h2, h3⟩ := load_run2 h hx he hp
  cases h3 with
  | c _ _ h3 => exact ⟨A, v, h1, h2, h3⟩

/-- one result -/
def resOf (P : Program) (s : ASt) : ResultVar → Option (Prop × PV)
  | .tmp t => match closeC s.m (s.t t) with
    | some (p, _, y) => some (p, y)
    | none => none
  | .cell a T => match aLoad P s.m T (s.t a) with
    | some (p, .c y, _) => some (p, y)
    | _ => none
def resAll (P : Program) (s : ASt) : List ResultVar → Option (Prop × List PV)
  | [] => some (True, [])
  | x :: xs => match resOf P s x, resAll P s xs with
    | some (p, y), some (ps, ys) => some (p ∧ ps, y :: ys)
    | _, _ => none
def resPV (P : Program) (fn : Func) (s : ASt) : Option (Prop × PV) :=
  match resAll P s fn.results.toList with
  | some (p, [y]) => some (p, y)
  | some (p, ys) => some (p, .tup ys)
  | none => none

def resSem (tmps : Array Value) : ResultVar → Sem Value
  | .tmp t => pure (tmps.getD t undef)
  | .cell b t => do loadVar t (← asAddr (tmps.getD b undef))
theorem results_eq (fn : Func) (tmps : Array Value) : results fn tmps = (fn.results.mapM (resSem tmps) >>= fun vs => pure (if h : vs.size = 1 then vs[0] else .tuple vs)) := by
  unfold results
  congr 1

theorem resOf_run {ρ : Id → Option BI} (h : RelAt ρ S0 w0 N s a w) {S : Addr → Prop} (hB : ∀ a, w0.heap.size ≤ a.block → S a) (hS : ∀ a, S0.S a → S a) (hO : ∀ a, S0.own a.block → S a) {x : ResultVar} {p : Prop} {y : PV} (hr : resOf P s x = some (p, y)) (hp : p) :
    ∃ v, (resSem a.tmps x).run P w = .ok v w ∧ Rep w S y v := by
  cases x with
  | tmp t =>
    simp only [resOf] at hr
    split at hr
    case h_2 => cases hr
    rename_i q hc
    simp only [Option.some.injEq, Prod.mk.injEq] at hr
    obtain ⟨rfl, rfl⟩ := hr
    exact ⟨_, rfl, closeC_end h hB hS hO (h.slots t) hc hp⟩
  | cell b T =>
    simp only [resOf] at hr
    split at hr
    case h_2 => cases hr
    rename_i q z e hc
    simp only [Option.some.injEq, Prod.mk.injEq] at hr
    obtain ⟨rfl, rfl⟩ := hr
    obtain ⟨A, v, hA, hrun, hrep⟩ := load_run (P := P) h (h.slots b) hc hp
    refine ⟨v, ?_, hrep.mono fun a v hI hc => ⟨hc, hI.1.elim (hB a) (fun h => h.elim (hO a) (hS a))⟩⟩
    simp only [resSem, hA, asAddr, Sem.run_bind, Sem.run_pure, Result.andThen]
    exact hrun

theorem resAll_run {ρ : Id → Option BI} (h : RelAt ρ S0 w0 N s a w) {S : Addr → Prop} (hB : ∀ a, w0.heap.size ≤ a.block → S a) (hS : ∀ a, S0.S a → S a) (hO : ∀ a, S0.own a.block → S a) : ∀ (l : List ResultVar) (p : Prop) (ys : List PV), resAll P s l = some (p, ys) → p →
    ∃ vs : List Value, (l.mapM (resSem a.tmps)).run P w = .ok vs w ∧ vs.length = ys.length ∧ ∀ (i : Nat) (y : PV) (v : Value), ys[i]? = some y → vs[i]? = some v → Rep w S y v
  | [], p, ys, hr, _ => by
    simp only [resAll, Option.some.injEq, Prod.mk.injEq] at hr
    obtain ⟨-, rfl⟩ := hr
    exact ⟨[], by simp, rfl, by simp⟩
  | x :: xs, p, ys, hr, hp => by
    simp only [resAll] at hr
    split at hr
    case h_2 => cases hr
    rename_i p1 y1 ps ys1 e1 e2
    simp only [Option.some.injEq, Prod.mk.injEq] at hr
    obtain ⟨rfl, rfl⟩ := hr
    obtain ⟨v, h1, h2⟩ := resOf_run (P := P) h hB hS hO e1 hp.1
    obtain ⟨vs, h3, h4, h5⟩ := resAll_run h hB hS hO xs ps ys1 e2 hp.2
    refine ⟨v :: vs, ?_, by simp [h4], fun i y u hy hu => ?_⟩
    · rw [List.mapM_cons, Sem.run_bind, h1]
      simp only [Result.andThen, Sem.run_bind, h3, Sem.run_pure]
    · cases i with
      | zero => simp only [List.getElem?_cons_zero, Option.some.injEq] at hy hu; subst hy; subst hu; exact h2
      | succ i => simp only [List.getElem?_cons_succ] at hy hu; exact h5 i y u hy hu

theorem results_run {ρ : Id → Option BI} (h : RelAt ρ S0 w0 N s a w) {S : Addr → Prop} (hB : ∀ a, w0.heap.size ≤ a.block → S a) (hS : ∀ a, S0.S a → S a) (hO : ∀ a, S0.own a.block → S a) {fn : Func} {p : Prop} {y : PV} (hr : resPV P fn s = some (p, y)) (hp : p) :
    ∃ v, (results fn a.tmps).run P w = .ok v w ∧ Rep w S y v := by
  unfold resPV at hr
  have key : ∀ q ys, resAll P s fn.results.toList = some (q, ys) → q → ∃ vs : Array Value, (results fn a.tmps).run P w = .ok (if h : vs.size = 1 then vs[0] else .tuple vs) w ∧ vs.size = ys.length ∧ ∀ (i : Nat) (y : PV) (v : Value), ys[i]? = some y → vs[i]? = some v → Rep w S y v := by
    intro q ys h1 h2
    obtain ⟨vs, h3, h4, h5⟩ := resAll_run (P := P) h hB hS hO _ _ _ h1 h2
    refine ⟨vs.toArray, ?_, by simpa using h4, fun i y v hy hv => h5 i y v hy (by simpa using hv)⟩
    rw [results_eq, Sem.run_bind, Array.mapM_eq_mapM_toList, Sem.run_map, h3]
    simp only [Result.andThen, Sem.run_pure]
  split at hr
  · rename_i q y1 e1
    simp only [Option.some.injEq, Prod.mk.injEq] at hr
    obtain ⟨rfl, rfl⟩ := hr
    obtain ⟨vs, h1, h2, h3⟩ := key _ _ e1 hp
    simp only [List.length_cons, List.length_nil] at h2
    refine ⟨_, h1, ?_⟩
    rw [dif_pos (by omega)]
    exact h3 0 y1 _ rfl (Array.getElem?_eq_getElem (by omega))
  · rename_i q ys hne e1
    simp only [Option.some.injEq, Prod.mk.injEq] at hr
    obtain ⟨rfl, rfl⟩ := hr
    obtain ⟨vs, h1, h2, h3⟩ := key _ _ e1 hp
    refine ⟨_, h1, ?_⟩
    rw [dif_neg (fun e => by
      rw [h2] at e
      obtain ⟨z, hz⟩ := List.length_eq_one_iff.1 e
      exact hne z hz)]
    exact .tup _ _ h2.symm h3
  · cases hr

def argSlots : Nat → List PV → List (Nat × SV)
  | _, [] => []
  | k, p :: ps => (k, .c p) :: argSlots (k + 1) ps
theorem lk_args : ∀ (ps : List PV) (k i : Nat), lk (argSlots k ps) i = if k ≤ i then (match ps[i - k]? with | some p => .c p | none => .any) else .any
  | [], k, i => by simp [argSlots, lk]
  | p :: ps, k, i => by
    simp only [argSlots, lk]
    by_cases e : i = k
    · subst e; simp
    · rw [if_neg e, lk_args ps (k + 1) i]
      by_cases h1 : k + 1 ≤ i
      · rw [if_pos h1, if_pos (by omega), show i - k = (i - (k + 1)) + 1 by omega, List.getElem?_cons_succ]
      · rw [if_neg h1]
        by_cases h2 : k ≤ i
        · omega
        · rw [if_neg h2]

/-- what a body must come to: it ends, and its results are that data -/
def EndK (P : Program) (fn : Func) (r : PV) : Exit → ASt → Prop
  | .normal, s => ∃ p, resPV P fn s = some (p, r) ∧ p
  | .ret, s => ∃ p, resPV P fn s = some (p, r) ∧ p
  | _, _ => False

def lone0 (S : Addr → Prop) : Env := ⟨S, ⟨none, 0, 0, 0, false⟩⟩
theorem lone0_own (S : Addr → Prop) (k : Nat) : ¬ (lone0 S).own k := by simp [lone0, Env.own]
theorem BelowX.to {X : Nat → Prop} {B : Nat} {w w' : World} (h : BelowX X B w w') (hX : ∀ k, ¬ X k) : Below B w w' := ⟨h.os, h.tape, h.output, h.size, fun k hk => h.block k hk (hX k)⟩
/-- ████ a contract, out of the body ████ -/
theorem calls_of {P : Program} {f : Nat} {fn : Func} {c : Code} {args : List PV} {r : PV} (hf : P.funcs[f]? = some fn) (hb : fn.body = some c) (hpl : plainFn P f = true) (hn : args.length ≤ fn.ntmps)
    (h : AW P fn.ntmps c (EndK P fn r) ⟨lk (argSlots 0 args), lkM [], lkG [] 0⟩) : ACalls P f args r := by
  refine ⟨hpl, fun S w vs hvs hrep => ?_⟩
  refine calls_of_wp hf hb (wp_mono (h (lone0 S) w { tmps := vs ++ Array.replicate (fn.ntmps - vs.size) undef, defers := [] } w ?_) ?_)
  · refine ⟨fun _ => none, by simp; omega, rfl, fun i => ?_, (fun id b hb => by cases hb), (fun id bi e => by cases e), (fun id id' bi bi' k e => by cases e), BelowX.refl _ _ _, (fun id bi _ e => by cases e), (fun id b bi k e => by cases e)⟩
    simp only [lk_args, Nat.zero_le, if_true, Nat.sub_zero]
    cases hp : args[i]? with
    | none => exact .any _
    | some p =>
      have hlt := (List.getElem?_eq_some_iff.1 hp).1
      obtain ⟨v, hv⟩ := getE (vs := vs) (i := i) (by omega)
      have e : (vs ++ Array.replicate (fn.ntmps - vs.size) undef).getD i undef = v := by
        rw [Array.getD_eq_getD_getElem?, Array.getElem?_append_left (by omega), hv]; rfl
      rw [e]
      refine .c _ _ ((hrep i p v hp hv).mono fun a u hS hc => ⟨hc, ?_, (fun id bi b e => by cases e)⟩)
      exact .inr (.inr hS)
  · rintro e a' w' ⟨s', h1, ρ, h2⟩
    have fin : (∃ p, resPV P fn s' = some (p, r) ∧ p) → a'.defers = [] ∧ ∃ v, (results fn a'.tmps).run P w' = .ok v w' ∧ ∃ x, Ending.returned v = .returned x ∧ Rep w' (fun a => S a ∨ w.heap.size ≤ a.block) r x ∧ Below w.heap.size w w' := by
      rintro ⟨p, h3, h4⟩
      obtain ⟨v, h5, h6⟩ := results_run (S := fun a => S a ∨ w.heap.size ≤ a.block) h2 (fun a h => .inr h) (fun a h => .inl h) (fun a h => absurd h (lone0_own _ _)) h3 h4
      exact ⟨h2.defers, v, h5, v, rfl, h6, h2.below.to (lone0_own S)⟩
    cases e with
    | normal => exact fin h1
    | ret => exact fin h1
    | exit id => exact h1.elim
    | goto l => exact h1.elim
    | panic ch => exact h1.elim
    | outgrown => exact h1.elim
end
end Go.Ab
