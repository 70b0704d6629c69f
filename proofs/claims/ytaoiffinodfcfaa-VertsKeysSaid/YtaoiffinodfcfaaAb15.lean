/-
  The function on plain values is right: maps with whole numbers as keys: made, read, written.
  Conditions: none.
-/
import Derived.Test.YtaoiffinodfcfaaAb9
import Derived.MapKept
namespace Go.Ab
open Go.RowKit

section
variable {P : Program} {ρ : Id → Option BI} {S0 : Env} {w0 : World} {N : Nat} {s : ASt} {a : Act} {w : World}

/-- a new map -/
theorem RelAt.newMap (h : RelAt ρ S0 w0 N s a w) (d : Nat) (hd0 : d ≠ 0) (blk : Blk) (he : blk.elems = []) (hls0 : blk.ls = []) {kd : IntKind} (hmp : blk.mp = some (kd, [], [])) :
    RelAt (updR ρ (d, s.g d) (some ⟨some w.heap.size, 0, 0, blk.sz, true⟩)) S0 w0 N
      { s with m := updM s.m (d, s.g d) (some blk), g := upd s.g d (s.g d + 1) } a (w.alloc (.map #[] 0)) := by
  have K : Keeps w (Imm S0 w0.heap.size s.m ρ) (w.alloc (.map #[] 0)) (Imm S0 w0.heap.size (updM s.m (d, s.g d) (some blk)) (updR ρ (d, s.g d) (some ⟨some w.heap.size, 0, 0, blk.sz, true⟩))) := fun a v hS hc => by
    have hlt := rd_lt hc
    refine ⟨by rw [rd_of_block (Below.heap_alloc w _ _ hlt)]; exact hc, hS.1, fun id bi b h1 h2 h3 => ?_⟩
    by_cases e : id = (d, s.g d)
    · simp only [updR, e, if_true, Option.some.injEq] at h1
      subst h1; simp at h3; omega
    · simp only [updR, updM, e, if_false] at h1 h2
      exact hS.2 id bi b h1 h2 h3
  have hgle : ∀ x, s.g x ≤ upd s.g d (s.g d + 1) x := fun x => by unfold upd; split <;> simp_all
  have hold : ∀ id bi, id.2 < s.g id.1 → updR ρ (d, s.g d) (some ⟨some w.heap.size, 0, 0, blk.sz, true⟩) id = some bi → ρ id = some bi := fun id bi hg e => by
    have : id ≠ (d, s.g d) := by rintro rfl; simp at hg
    simpa [updR, this] using e
  refine ⟨h.size, h.defers, fun i => (h.slots i).mono K hgle (fun id bi hg e => ⟨bi, hold id bi hg e, .inl rfl⟩), fun id b hb => ?_, fun id bi e => ?_, ?_, h.below.trans (.of ((Below.refl _ _).alloc (Nat.le_refl _) _) h.below.size), fun id bi e0 e => ?_, fun id b bi k h1 h2 h3 l hl => ?_⟩
  · by_cases e : id = (d, s.g d)
    · subst e
      simp only [updM, if_true, Option.some.injEq] at hb
      subst hb
      refine ⟨by simp [upd], ⟨some w.heap.size, 0, 0, blk.sz, true⟩, by simp [updR], by simp [he], rfl, Nat.le_refl _, Nat.zero_le _, (by simp), (by simp [he]), fun k hk => ?_, by simp [hmp], (fun _ => he), (fun _ => ⟨_, rfl⟩)⟩
      simp only [Option.some.injEq] at hk
      subst hk
      refine ⟨by simp only [Env.nw, hd0, if_false]; exact h.below.size, ?_⟩
      unfold InAt; rw [hmp]
      exact ⟨#[], 0, heap_alloc_new _ _, rfl, rfl, by simp, by simp⟩
    · simp only [updM, e, if_false] at hb
      obtain ⟨hg, bi, hρ, B⟩ := h.blk id b hb
      refine ⟨Nat.lt_of_lt_of_le hg (hgle _), bi, by simp [updR, e, hρ], ⟨B.len, B.sz, B.cap, B.most, B.nil, B.shape, fun k hk => ?_, B.kd, B.kd0, B.mb⟩⟩
      obtain ⟨h1, h2⟩ := B.at_ k hk
      exact ⟨h1, h2.keep (Below.heap_alloc w _ k h2.lt) K⟩
  · by_cases e' : id = (d, s.g d)
    · exact ⟨blk, by simp [updM, e']⟩
    · simp only [updR, e', if_false] at e
      obtain ⟨b, hb⟩ := h.dom id bi e
      exact ⟨b, by simp [updM, e', hb]⟩
  · have old : ∀ id bi k, ρ id = some bi → bi.base = some k → k < w.heap.size := fun id bi k h1 h2 => by
      obtain ⟨b, hb⟩ := h.dom id bi h1
      obtain ⟨_, bi', h3, B⟩ := h.blk id b hb
      rw [h1] at h3; simp only [Option.some.injEq] at h3; subst h3
      exact (B.at_ k h2).2.lt
    intro id id' bi bi' k h1 h2 h3 h4
    by_cases e1 : id = (d, s.g d) <;> by_cases e2 : id' = (d, s.g d)
    · rw [e1, e2]
    · simp only [updR, e1, e2, if_true, if_false, Option.some.injEq] at h1 h2
      subst h1; simp only [Option.some.injEq] at h3; subst h3
      have := old id' bi' _ h2 h4; omega
    · simp only [updR, e1, e2, if_true, if_false, Option.some.injEq] at h1 h2
      subst h2; simp only [Option.some.injEq] at h4; subst h4
      have := old id bi _ h1 h3; omega
    · simp only [updR, e1, e2, if_false] at h1 h2
      exact h.inj id id' bi bi' k h1 h2 h3 h4
  · by_cases e1 : id = (d, s.g d)
    · subst e1; exact absurd e0 hd0
    · simp only [updR, e1, if_false] at e
      exact h.bor id bi e0 e
  · have up : ∀ id' n' y, OwnC ρ s.g id' n' y → OwnC (updR ρ (d, s.g d) (some ⟨some w.heap.size, 0, 0, blk.sz, true⟩)) (upd s.g d (s.g d + 1)) id' n' y := fun id' n' y h => h.mono hgle (fun id bi hg e => ⟨bi, hold id bi hg e, .inl rfl⟩)
    by_cases e1 : id = (d, s.g d)
    · subst e1
      simp only [updM, updR, if_true, Option.some.injEq] at h1 h2
      subst h1; subst h2
      simp only [Option.some.injEq] at h3; subst h3
      rw [hls0] at hl; cases hl
    · simp only [updM, updR, e1, if_false] at h1 h2
      obtain ⟨y, h4, h5⟩ := h.lnk id b bi k h1 h2 h3 l hl
      exact ⟨y, by rw [World.cell?_alloc_lt _ _ _ (World.block_lt_of_cell? _ _ h4)]; exact h4, up _ _ _ h5⟩


/-- what is found in a map's entries -/
theorem findNow_int {kd : IntKind} {a : Int} : ∀ (l : List MapEntry) (ks : List Int) (i : Nat), l.length = ks.length → (∀ (j : Nat) (e : MapEntry) (n : Int), l[j]? = some e → ks[j]? = some n → e.key = .int kd n) →
    (hasM ks a = false ∧ Instr.findNow (.int kd) (.int kd a) l i = some none ∧ ∀ vs : List PV, vs.length = ks.length → (∀ z, atM ks vs z a = z) ∧ ∀ x, insM ks vs a x = vs ++ [x]) ∨
    ∃ j e, hasM ks a = true ∧ Instr.findNow (.int kd) (.int kd a) l i = some (some (i + j, e.val)) ∧ l[j]? = some e ∧ ks[j]? = some a ∧
      ∀ vs : List PV, vs.length = ks.length → (∀ z, vs[j]? = some (atM ks vs z a)) ∧ ∀ x, insM ks vs a x = vs.set j x
  | [], [], i, _, _ => .inl ⟨rfl, rfl, fun vs h => by cases vs <;> simp_all [atM, insM]⟩
  | e :: es, k :: ks, i, hl, hk => by
    have hke := hk 0 e k rfl rfl
    by_cases hak : a = k
    · subst hak
      refine .inr ⟨0, e, by simp [hasM], ?_, rfl, rfl, fun vs h => ?_⟩
      · simp [Instr.findNow, hke, Instr.sameNow]
      · cases vs with
        | nil => simp at h
        | cons v vs => simp [atM, insM]
    · have hb : (a == k) = false := by simpa using hak
      rcases findNow_int (a := a) es ks (i + 1) (by simpa using hl) (fun j e' n h1 h2 => hk (j + 1) e' n (by simpa using h1) (by simpa using h2)) with ⟨h1, h2, h3⟩ | ⟨j, e', h1, h2, h3, h4, h5⟩
      · refine .inl ⟨by simp [hasM, hb, h1], by simp only [Instr.findNow, hke, Instr.sameNow, if_true, hb, h2], fun vs h => ?_⟩
        cases vs with
        | nil => simp at h
        | cons v vs =>
          have := h3 vs (by simpa using h)
          exact ⟨fun z => by simp [atM, hak, this.1], fun x => by simp [insM, hak, this.2]⟩
      · refine .inr ⟨j + 1, e', by simp [hasM, h1], ?_, by simpa using h3, by simpa using h4, fun vs h => ?_⟩
        · simp only [Instr.findNow, hke, Instr.sameNow, if_true, hb, h2]
          congr 3; omega
        · cases vs with
          | nil => simp at h
          | cons v vs =>
            have := h5 vs (by simpa using h)
            exact ⟨fun z => by simpa [atM, hak] using this.1 z, fun x => by simp [insM, hak, this.2]⟩
  | [], _ :: _, _, hl, _ => by simp at hl
  | _ :: _, [], _, hl, _ => by simp at hl

theorem tinf_map {T : TypeId} {kd : IntKind} {e : TypeId} {size bytes : Nat} {z : Option PV} {c : Option (List CK)} {f : Bool} (h : tinf P T = some ⟨.map kd e, size, bytes, z, c, f⟩) :
    ∃ k, P.underlying T = some (.map k e) ∧ P.underlying k = some (.int kd) := by
  obtain ⟨i, d, hi, hd, h1, -⟩ := tinf_some h
  have : ∃ k e', d = .map k e' := by cases d <;> simp [tkOf] at h1; exact ⟨_, _, rfl⟩
  obtain ⟨k, e', rfl⟩ := this
  simp only [tkOf, mapK] at h1
  split at h1
  · rename_i kd' hk
    simp only [TK.map.injEq] at h1
    obtain ⟨rfl, rfl⟩ := h1
    exact ⟨k, hd, hk⟩
  · cases h1

theorem const_rep {S : Addr → Prop} (z : Value) (h : (constPV z).cells.all PV.one = true) : Rep w S (constPV z) z := by
  have other : ∀ y : Value, constPV y = cellPV y → Rep w S (constPV y) y := fun y e => by rw [e]; exact rep_cell _ _
  cases z <;> first | exact other _ rfl | skip
  rename_i cs
  have h' : ((cs.toList.map cellPV).all PV.one) = true := h
  refine Rep.agg (cs.toList.map cellPV) cs (by rw [List.length_map, Array.length_toList]) (all_one h') fun i c x hc hx => ?_
  simp only [List.getElem?_map, Option.map_eq_some_iff, Array.getElem?_toList] at hc
  obtain ⟨y, hy, rfl⟩ := hc
  rw [hx] at hy; simp only [Option.some.injEq] at hy; subst hy
  exact rep_cell _ _

theorem zero_run {e : TypeId} {k : TK} {size bytes : Nat} {z : PV} {c : Option (List CK)} {f : Bool} (h : tinf P e = some ⟨k, size, bytes, some z, c, f⟩) :
    ∃ z0, (∀ w : World, (zeroValue e).run P w = .ok z0 w) ∧ z = constPV z0 := by
  obtain ⟨i, d, hi, hd, -, -, -, h4⟩ := tinf_some h
  cases hz : i.zero with
  | none => simp [hz] at h4
  | some z0 =>
    simp only [hz, Option.map_some, Option.some.injEq] at h4
    exact ⟨z0, fun w => by simp [zeroValue, typeInfo, hi, hz, Sem.run_bind, Result.andThen], h4⟩

/-- a map is read -/
theorem lookup_rep {S : Addr → Prop} {T : TypeId} {kt e : TypeId} {kd : IntKind} (hT : P.underlying T = some (.map kt e)) (hk : P.underlying kt = some (.int kd)) {z0 : Value} (hz : ∀ w : World, (zeroValue e).run P w = .ok z0 w) (h1 : (constPV z0).cells.all PV.one = true)
    {b : Nat} {es : Array MapEntry} {clk : Nat} (hm : w.heap[b]? = some (.map es clk)) {ks : List Int} {vs : List PV} (hl : es.size = ks.length) (hv : vs.length = ks.length)
    (hkey : ∀ (i : Nat) (e : MapEntry) (n : Int), es[i]? = some e → ks[i]? = some n → e.key = .int kd n) (hr : ∀ (i : Nat) (e : MapEntry) (c : PV), es[i]? = some e → vs[i]? = some c → Rep w S c e.val) (a : Int) :
    ∃ v, (Instr.lookup T (.map (some b)) (.int kd a) false).run P w = .ok v w ∧ Rep w S (atM ks vs (constPV z0) a) v := by
  have hf := findNow_int (kd := kd) (a := a) es.toList ks 0 (by simpa using hl) (fun j e n h1 h2 => hkey j e n (by simpa using h1) h2)
  rcases hf with ⟨h2, h3, h4⟩ | ⟨j, e', h2, h3, h4, h5, h6⟩
  · refine ⟨z0, ?_, by rw [(h4 vs hv).1]; exact const_rep _ h1⟩
    unfold Instr.lookup
    simp only [Sem.run_bind, run_underlying hT, Result.andThen, MapKept.run_getObj_map hm, Sem.run_pure, MapKept.run_checkKey hk (k := .int kd a) (by simp [MapKept.IsKey]), MapKept.run_findKey hk h3, hz]
    rfl
  · refine ⟨e'.val, ?_, hr j e' _ (by simpa using h4) ((h6 vs hv).1 _)⟩
    unfold Instr.lookup
    simp only [Sem.run_bind, run_underlying hT, Result.andThen, MapKept.run_getObj_map hm, Sem.run_pure, MapKept.run_checkKey hk (k := .int kd a) (by simp [MapKept.IsKey]), MapKept.run_findKey hk h3]
    rfl

theorem exec_makeMap (h : RelAt ρ S0 w0 N s a w) {o : Oper} {T : TypeId} (ho : o.op = .makeMap T none) (d : Nat) (hd0 : d ≠ 0) {pre : Prop} {sv : SV} {eff : Eff} (he : aExec P o.op s.ev s.m (d, s.g d) = some (pre, sv, eff)) (_hp : pre) :
    Good1 P S0 w0 N s a w o (d, s.g d) sv eff := by
  rw [ho] at he
  simp only [aExec] at he
  split at he
  case h_2 => cases he
  simp only [Option.some.injEq, Prod.mk.injEq] at he
  obtain ⟨-, rfl, rfl⟩ := he
  refine ⟨_, .map (some w.heap.size), w.alloc (.map #[] 0), _, ?_, .inl rfl, h.newMap d hd0 _ rfl rfl rfl, .mo _ _ (by simp [ASt.eff, upd]) fun bi hb => ?_⟩
  · unfold execOp
    simp only [ho, Option.map_none, Instr.makeMap, Sem.run_bind, Sem.run_pure, Result.andThen, run_newObj]
    rfl
  · simp only [updR, if_true, Option.some.injEq] at hb
    subst hb
    exact ⟨rfl, rfl⟩

theorem exec_lookup (h : RelAt ρ S0 w0 N s a w) {o : Oper} {T : TypeId} {x k : Operand} (ho : o.op = .lookup T x k false) (nid : Id) {pre : Prop} {sv : SV} {eff : Eff} (he : aExec P o.op s.ev s.m nid = some (pre, sv, eff)) (hp : pre) :
    Good1 P S0 w0 N s a w o nid sv eff := by
  have hx := ev_rep h x
  have hk := ev_rep h k
  rw [ho] at he
  simp only [aExec, aLookup] at he
  split at he
  case h_2 => cases he
  rename_i kd e _ _ _ _ _ kd' a' hT hks
  split at he
  case h_2 => cases he
  rename_i k2 z _ _ _ _ hE
  obtain ⟨kt, hT1, hT2⟩ := tinf_map hT
  obtain ⟨z0, hz, rfl⟩ := zero_run hE
  rw [hks] at hk
  have hk := srep_v hk
  have fin : ∀ {b : Nat} {es : Array MapEntry} {clk : Nat} {ks : List Int} {vs : List PV}, kd' = kd → (constPV z0).cells.all PV.one = true → a.eval x = .map (some b) → w.heap[b]? = some (.map es clk) → es.size = ks.length → vs.length = ks.length →
      (∀ (i : Nat) (e : MapEntry) (n : Int), es[i]? = some e → ks[i]? = some n → e.key = .int kd n) → (∀ (i : Nat) (e : MapEntry) (c : PV), es[i]? = some e → vs[i]? = some c → Rep w (Imm S0 w0.heap.size s.m ρ) c e.val) →
      Good1 P S0 w0 N s a w o nid (.c (atM ks vs (constPV z0) a')) .none := by
    intro b es clk ks vs e1 e2 e3 e4 e5 e6 e7 e8
    subst e1
    obtain ⟨v, hv, hr⟩ := lookup_rep (P := P) hT1 hT2 hz e2 e4 e5 e6 e7 e8 a'
    exact good_none h (v := v) (by unfold execOp; simp only [ho, e3, hk, Sem.run_bind, hv, Result.andThen, Sem.run_pure]) (.c _ _ hr)
  split at he
  · rename_i id hs
    rw [hs] at hx
    split at he
    case h_2 => cases he
    rename_i b hm
    split at he
    case h_2 => cases he
    rename_i kd2 ks vs hmp
    simp only [Option.some.injEq, Prod.mk.injEq] at he
    obtain ⟨rfl, rfl, rfl⟩ := he
    obtain ⟨p1, p2, p3⟩ := hp
    subst p2
    generalize hv : a.eval x = v at hx
    cases hx with
    | mo _ _ hg ho' =>
    obtain ⟨_, bi, hρ, B⟩ := h.blk id b hm
    obtain ⟨g1, g2⟩ := ho' bi hρ
    obtain ⟨k0, hk0⟩ := B.mbase g1
    obtain ⟨_, es, clk, h3, h4, h5, h6, h7⟩ := B.map hmp k0 hk0
    rw [hk0] at g2
    exact fin p1 p3 (hv.trans g2) h3 h4 h5 h6 h7
  · rename_i kd2 ks vs hs
    rw [hs] at hx
    simp only [Option.some.injEq, Prod.mk.injEq] at he
    obtain ⟨rfl, rfl, rfl⟩ := he
    obtain ⟨p1, p2, p3⟩ := hp
    subst p2
    generalize hv : a.eval x = v at hx
    cases hx with
    | c _ _ hr => cases hr with
      | mp _ _ _ b es clk h1 h2 h3 h4 h5 h6 => exact fin p1 p3 hv h3 h1 h2 h5 h6
  · cases he

theorem sameBits_int (n : Nat) (k : IntKind) (a : Int) : Instr.sameBits n (.int k a) (.int k a) = true := by
  cases n <;> simp [Instr.sameBits]

/-- a map of the call's own is written -/
theorem RelAt.mapUp (h : RelAt ρ S0 w0 N s a w) {id : Id} {b : Blk} {bi : BI} {k : Nat} (hm : s.m id = some b) (hρ : ρ id = some bi) (hb : bi.base = some k) (hbm : bi.mp = true) (hrw : b.rw = true) (hls : b.ls = []) {kd : IntKind} {ks' : List Int} {vs' : List PV}
    {es : Array MapEntry} {clk : Nat} (hh : w.heap[k]? = some (.map es clk)) (es' : Array MapEntry) (clk' : Nat) (hl : es'.size = ks'.length) (hv : vs'.length = ks'.length)
    (hkey : ∀ (i : Nat) (e : MapEntry) (n : Int), es'[i]? = some e → ks'[i]? = some n → e.key = .int kd n) (hr : ∀ (i : Nat) (e : MapEntry) (c : PV), es'[i]? = some e → vs'[i]? = some c → Rep w (Imm S0 w0.heap.size s.m ρ) c e.val) :
    RelAt (updR ρ id (some bi)) S0 w0 N { s with m := updM s.m id (some { b with mp := some (kd, ks', vs') }) } a { w with heap := w.heap.setIfInBounds k (.map es' clk') } := by
  obtain ⟨s1, s2⟩ := MapKept.heap_set (o' := .map es' clk') hh
  obtain ⟨_, bi1, h3, B⟩ := h.blk id b hm
  rw [hρ] at h3; simp only [Option.some.injEq] at h3; subst h3
  refine h.set2 (bi := bi) (bi' := bi) (b' := { b with mp := some (kd, ks', vs') }) hm hρ hrw hls (.inl rfl) (.inl rfl) (fun k2 hk2 => .inl hk2) (fun j hj hj2 => s2 j (fun e => hj (by rw [hb, e]))) (by simp) rfl rfl rfl (fun K => ?_)
  refine ⟨B.len, B.sz, B.cap, B.most, B.nil, B.shape, fun k2 hk2 => ?_, by simp [hbm], B.kd0, B.mb⟩
  rw [hb] at hk2; simp only [Option.some.injEq] at hk2; subst hk2
  refine ⟨(B.at_ k hb).1, ?_⟩
  unfold InAt
  exact ⟨es', clk', s1, hl, hv, hkey, fun i e c a1 a2 => (hr i e c a1 a2).mono K⟩

theorem exec_mapUp (h : RelAt ρ S0 w0 N s a w) {o : Oper} {T : TypeId} {x k y : Operand} (ho : o.op = .mapUpdate T x k y ∨ o.op = .insert T x k y) (nid : Id) {pre : Prop} {sv : SV} {eff : Eff} (he : aMapUp P s.m T (s.ev x) (s.ev k) (s.ev y) = some (pre, sv, eff)) (hp : pre) :
    Good1 P S0 w0 N s a w o nid sv eff := by
  have hx := ev_rep h x
  have hk := ev_rep h k
  have hy := ev_rep h y
  unfold aMapUp at he
  split at he
  case h_2 => cases he
  rename_i kd _ _ _ _ _ _ kd' a' q yv hT hks hcv
  obtain ⟨kt, hT1, hT2⟩ := tinf_map hT
  rw [hks] at hk
  have hk := srep_v hk
  split at he
  case h_2 => cases he
  rename_i id hs
  rw [hs] at hx
  split at he
  case h_2 => cases he
  rename_i b hm
  split at he
  case h_2 => cases he
  rename_i kd2 ks vs hmp
  simp only [Option.some.injEq, Prod.mk.injEq] at he
  obtain ⟨rfl, rfl, rfl⟩ := he
  obtain ⟨p0, p1, p2, p3, p4⟩ := hp
  subst p1; subst p2
  obtain ⟨hry, -⟩ := closeV_rep h hy hcv p0
  generalize hv : a.eval x = v at hx
  cases hx with
  | mo _ _ hg ho' =>
  obtain ⟨_, bi, hρ, B⟩ := h.blk id b hm
  obtain ⟨g1, g2⟩ := ho' bi hρ
  obtain ⟨k0, hk0⟩ := B.mbase g1
  obtain ⟨_, es, clk, h3, h4, h5, h6, h7⟩ := B.map hmp k0 hk0
  rw [hk0] at g2
  have hxe := hv.trans g2
  have fin : ∀ (es' : Array MapEntry) (clk' : Nat), (Instr.mapUpdate T (.map (some k0)) (.int kd2 a') (a.eval y)).run P w = .ok () { w with heap := w.heap.setIfInBounds k0 (.map es' clk') } →
      es'.size = (keyM ks a').length → (insM ks vs a' yv).length = (keyM ks a').length → (∀ (i : Nat) (e : MapEntry) (n : Int), es'[i]? = some e → (keyM ks a')[i]? = some n → e.key = .int kd2 n) →
      (∀ (i : Nat) (e : MapEntry) (c : PV), es'[i]? = some e → (insM ks vs a' yv)[i]? = some c → Rep w (Imm S0 w0.heap.size s.m ρ) c e.val) →
      Good1 P S0 w0 N s a w o nid .any (.set id { b with mp := some (kd2, keyM ks a', insM ks vs a' yv) }) := fun es' clk' f1 f2 f3 f4 f5 => by
    refine ⟨.skip, .tuple #[], _, _, ?_, .inr ⟨rfl, rfl⟩, h.mapUp hm hρ hk0 g1 p3 p4 h3 es' clk' f2 f3 f4 f5, .any _⟩
    unfold execOp
    rcases ho with ho | ho <;> simp only [ho, hxe, hk, Sem.run_bind, f1, Result.andThen, Sem.run_pure]
  have hf := findNow_int (kd := kd2) (a := a') es.toList ks 0 (by simpa using h4) (fun j e n h1 h2 => h6 j e n (by simpa using h1) h2)
  rcases hf with ⟨h8, h9, h10⟩ | ⟨j, e', h8, h9, h11, h12, h13⟩
  · have ek : keyM ks a' = ks ++ [a'] := by simp [keyM, h8]
    have ei : insM ks vs a' yv = vs ++ [yv] := (h10 vs h5).2 yv
    refine fin (es.push ⟨.int kd2 a', a.eval y, clk⟩) (clk + 1) ?_ (by simp [ek, h4]) (by simp [ek, ei, h5]) ?_ ?_
    · unfold Instr.mapUpdate
      simp only [Sem.run_bind, run_underlying hT1, Result.andThen, MapKept.run_getObj_map h3, MapKept.run_checkKey hT2 (k := .int kd2 a') (by simp [MapKept.IsKey]), MapKept.run_findKey hT2 h9, MapKept.run_setObj_map _ h3]
    · intro i e n he hn
      rw [ek] at hn
      rw [Array.getElem?_push] at he
      split at he
      · rename_i hi
        simp only [Option.some.injEq] at he; subst he
        rw [hi, h4, List.getElem?_append_right (Nat.le_refl _)] at hn
        simp at hn; subst hn; rfl
      · have hlt := (Array.getElem?_eq_some_iff.1 he).1
        rw [List.getElem?_append_left (by omega)] at hn
        exact h6 i e n he hn
    · intro i e c he hc
      rw [ei] at hc
      rw [Array.getElem?_push] at he
      split at he
      · rename_i hi
        simp only [Option.some.injEq] at he; subst he
        rw [hi, h4, ← h5, List.getElem?_append_right (Nat.le_refl _)] at hc
        simp at hc; subst hc; exact hry
      · have hlt := (Array.getElem?_eq_some_iff.1 he).1
        rw [List.getElem?_append_left (by omega)] at hc
        exact h7 i e c he hc
  · have ek : keyM ks a' = ks := by simp [keyM, h8]
    have ei : insM ks vs a' yv = vs.set j yv := (h13 vs h5).2 yv
    have hje : es[j]? = some e' := by simpa using h11
    have hkk : e'.key = .int kd2 a' := h6 j e' a' hje h12
    refine fin (es.modify j fun e => { e with key := .int kd2 a', val := a.eval y }) clk ?_ (by simp [ek, h4]) (by simp [ek, ei, h5]) ?_ ?_
    · unfold Instr.mapUpdate
      simp only [Sem.run_bind, run_underlying hT1, Result.andThen, MapKept.run_getObj_map h3, MapKept.run_checkKey hT2 (k := .int kd2 a') (by simp [MapKept.IsKey]), MapKept.run_findKey hT2 h9, Nat.zero_add, hje, Option.map_some, Option.getD_some, hkk, Instr.keyThatStays, sameBits_int, if_true, Sem.run_pure, MapKept.run_setObj_map _ h3]
    · intro i e n he hn
      rw [ek] at hn
      rw [Array.getElem?_modify] at he
      split at he
      · rename_i hi; subst hi
        rw [hje] at he
        simp only [Option.map_some, Option.some.injEq] at he; subst he
        rw [h12] at hn; simp only [Option.some.injEq] at hn; subst hn; rfl
      · exact h6 i e n he hn
    · intro i e c he hc
      rw [ei] at hc
      rw [Array.getElem?_modify] at he
      split at he
      · rename_i hi; subst hi
        rw [hje] at he
        simp only [Option.map_some, Option.some.injEq] at he; subst he
        have hlt : j < vs.length := by have := (List.getElem?_eq_some_iff.1 h12).1; omega
        rw [List.getElem?_set_self hlt] at hc
        simp only [Option.some.injEq] at hc; subst hc; exact hry
      · rename_i hi
        rw [List.getElem?_set_ne hi] at hc
        exact h7 i e c he hc
end
end Go.Ab
