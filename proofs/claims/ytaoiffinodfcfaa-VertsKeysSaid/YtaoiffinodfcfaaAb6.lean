/-
  The function on plain values is right, fourth part: structs and slices that are written out.
  Conditions: none.
-/
import Derived.Test.YtaoiffinodfcfaaAb5
import Derived.Great.BuildSlice
namespace Go.Ab
open Go.RowKit

section
variable {P : Program} {ρ : Id → Option BI} {S0 : Env} {w0 : World} {N : Nat} {s : ASt} {a : Act} {w : World}

theorem foldl_set (off : Nat) : ∀ (vs : List Value) (k : Nat) (cs : Array Value), off + k + vs.length ≤ cs.size →
    ((vs.zipIdx k).foldl (fun (cs : Array Value) (x : Value × Nat) => cs.setIfInBounds (off + x.2) x.1) cs).size = cs.size ∧
    ∀ j, ((vs.zipIdx k).foldl (fun (cs : Array Value) (x : Value × Nat) => cs.setIfInBounds (off + x.2) x.1) cs)[j]? = if j < off + k then cs[j]? else if j < off + k + vs.length then vs[j - (off + k)]? else cs[j]?
  | [], k, cs, _ => by
    refine ⟨rfl, fun j => ?_⟩
    simp only [List.zipIdx_nil, List.foldl_nil, List.length_nil, Nat.add_zero]
    split <;> rfl
  | v :: vs, k, cs, h => by
    simp only [List.length_cons] at h
    obtain ⟨h1, h2⟩ := foldl_set off vs (k + 1) (cs.setIfInBounds (off + k) v) (by simp; omega)
    simp only [List.zipIdx_cons, List.foldl_cons]
    refine ⟨by rw [h1]; simp, fun j => ?_⟩
    rw [h2]
    simp only [List.length_cons]
    by_cases c1 : j < off + k
    · rw [if_pos (by omega), if_pos c1, Array.getElem?_setIfInBounds_ne (by omega)]
    · rw [if_neg c1]
      by_cases c2 : j = off + k
      · subst c2
        rw [if_pos (by omega), if_pos (by omega), Array.getElem?_setIfInBounds_self_of_lt (by omega)]
        simp
      · rw [if_neg (by omega)]
        by_cases c3 : j < off + k + (vs.length + 1)
        · rw [if_pos (by omega), if_pos c3, show j - (off + k) = (j - (off + (k + 1))) + 1 by omega, List.getElem?_cons_succ]
        · rw [if_neg (by omega), if_neg c3, Array.getElem?_setIfInBounds_ne (by omega)]

/-- cells, one by one -/
def CellsRep (w : World) (S : Addr → Prop) (ps : List PV) (vs : Array Value) : Prop :=
  ps.length = vs.size ∧ ∀ (j : Nat) (c : PV) (x : Value), ps[j]? = some c → vs[j]? = some x → Rep w S c x

theorem fill_rep2 {S : Addr → Prop} (Q : Lnk → Value → Prop) (hQ : ∀ j j' x y, Q (j, x) y → Q (j', x) y) (place : Nat → Option (Nat × Nat)) : ∀ (ids : List Nat) (ps : List PV) (ks : List (List Lnk)) (vs : List Value) (pc : List PV) (vc : Array Value) (acc : List Lnk) (pre : Prop) (rc : List PV), ps.length = ids.length → ks.length = ids.length → vs.length = ids.length →
    (∀ (i : Nat) (p : PV) (v : Value), ps[i]? = some p → vs[i]? = some v → Rep w S p v) → (∀ (i : Nat) (l : List Lnk) (v : Value), ks[i]? = some l → vs[i]? = some v → ∀ x ∈ l, ∃ y, v.cells[x.1]? = some y ∧ Q x y) → CellsRep w S pc vc → (∀ x ∈ acc, ∃ y, vc[x.1]? = some y ∧ Q x y) → (∀ c ∈ pc, c.one = true) → fillPV place pc (ids.zip ps) = some (pre, rc) → pre →
    ∃ v', Instr.fill place vc (ids.zip vs) = some v' ∧ CellsRep w S rc v' ∧ (∀ c ∈ rc, c.one = true) ∧ ∀ x ∈ fillL place acc (ids.zip ks), ∃ y, v'[x.1]? = some y ∧ Q x y
  | [], ps, ks, vs, pc, vc, acc, pre, rc, _, _, _, _, _, hc, ha, h1, hf, _ => by
    simp only [List.zip_nil_left, fillPV, Option.some.injEq, Prod.mk.injEq] at hf
    obtain ⟨-, rfl⟩ := hf
    exact ⟨vc, by simp [Instr.fill], hc, h1, by simpa [fillL] using ha⟩
  | k :: ids, [], ks, vs, pc, vc, acc, pre, rc, hl, _, _, _, _, _, _, _, _, _ => by simp at hl
  | k :: ids, p :: ps, [], vs, pc, vc, acc, pre, rc, _, hl, _, _, _, _, _, _, _, _ => by simp at hl
  | k :: ids, p :: ps, l0 :: ks, [], pc, vc, acc, pre, rc, _, _, hl, _, _, _, _, _, _, _ => by simp at hl
  | k :: ids, p :: ps, l0 :: ks, v :: vs, pc, vc, acc, pre, rc, hl1, hl3, hl2, hr, hks, hc, ha, h1, hf, hp => by
    simp only [List.zip_cons_cons, fillPV] at hf
    cases hk : place k with
    | none => simp [hk] at hf
    | some os =>
      obtain ⟨off, size⟩ := os
      simp only [hk] at hf
      cases hrec : fillPV place (setCells pc off p.cells) (ids.zip ps) with
      | none => simp [hrec] at hf
      | some qr =>
        obtain ⟨q, r⟩ := qr
        simp only [hrec, Option.some.injEq, Prod.mk.injEq] at hf
        obtain ⟨rfl, rfl⟩ := hf
        obtain ⟨hok, hsize, hfit, hq⟩ := hp
        have hpv := hr 0 p v rfl rfl
        have hvs := hpv.cells_size hok
        have hfit2 : off + 0 + v.cells.toList.length ≤ vc.size := by rw [Array.length_toList, hvs, hsize, ← hc.1]; omega
        obtain ⟨g1, g2⟩ := foldl_set off v.cells.toList 0 vc hfit2
        have hfit3 : off + p.cells.length ≤ pc.length := by omega
        obtain ⟨v', e1, e2, e3, e4⟩ := fill_rep2 Q hQ place ids ps ks vs (setCells pc off p.cells) ((v.cells.toList.zipIdx 0).foldl (fun (cs : Array Value) (x : Value × Nat) => cs.setIfInBounds (off + x.2) x.1) vc) (mvL off l0 ++ dropL off size acc) q r (by simpa using hl1) (by simpa using hl3) (by simpa using hl2) (fun i p' v' a1 a2 => hr (i + 1) p' v' (by simpa using a1) (by simpa using a2))
          (fun i l' v' a1 a2 => hks (i + 1) l' v' (by simpa using a1) (by simpa using a2))
          ⟨by rw [g1, ← hc.1]; exact length_setCells _ _ _ hfit3, fun j c x a1 a2 => by
            rw [g2] at a2
            have a1' := get_setCells pc p.cells off j hfit3
            rw [show setCells pc off p.cells = pc.take off ++ p.cells ++ pc.drop (off + p.cells.length) from rfl, a1'] at a1
            simp only [Nat.add_zero, Array.length_toList, hvs] at a2
            by_cases c1 : j < off
            · rw [if_pos c1] at a1 a2; exact hc.2 j c x a1 a2
            · rw [if_neg c1] at a1 a2
              by_cases c2 : j < off + p.cells.length
              · rw [if_pos c2] at a1 a2
                exact hpv.cells_at hok a1 (by simpa using a2)
              · rw [if_neg c2] at a1 a2; exact hc.2 j c x a1 a2⟩
          (fun x hx => by
            rcases List.mem_append.1 hx with hx | hx
            · obtain ⟨j, z, rfl, h2⟩ := mvL_mem hx
              obtain ⟨y, h3, h4⟩ := hks 0 l0 v rfl rfl _ h2
              have hj := (Array.getElem?_eq_some_iff.1 h3).1
              refine ⟨y, ?_, hQ _ _ _ _ h4⟩
              simp only at h3
              rw [g2, if_neg (by simp only; omega), if_pos (by simp only [Array.length_toList]; omega)]
              rw [show off + j - (off + 0) = j by omega]; simpa using h3
            · obtain ⟨h2, h3⟩ := dropL_mem hx
              obtain ⟨y, h4, h5⟩ := ha x h2
              refine ⟨y, ?_, h5⟩
              rw [g2]
              have hv2 : v.cells.toList.length = size := by rw [Array.length_toList, hvs, hsize]
              by_cases c1 : x.1 < off + 0
              · rw [if_pos c1]; exact h4
              · rw [if_neg c1, if_neg (by omega)]; exact h4)
          (fun c hc' => by
            simp only [setCells, List.mem_append] at hc'
            rcases hc' with (hc' | hc') | hc'
            · exact h1 c (List.mem_of_mem_take hc')
            · exact hpv.cells_one hok c hc'
            · exact h1 c (List.mem_of_mem_drop hc')) hrec hq
        refine ⟨v', ?_, e2, e3, by simpa only [List.zip_cons_cons, fillL, hk] using e4⟩
        simp only [List.zip_cons_cons, Instr.fill, hk]
        rw [if_neg (by simp only [Nat.add_zero, Array.length_toList] at hfit2; simp only [ne_eq, Bool.or_eq_true, decide_eq_true_eq, not_or, Decidable.not_not, Nat.not_lt, gt_iff_lt]; exact ⟨by rw [hvs, hsize], hfit2⟩)]
        rw [← e1]
        congr 1
        rw [← Array.foldl_toList, Array.toList_zipIdx]

theorem fill_rep {S : Addr → Prop} (place : Nat → Option (Nat × Nat)) (ids : List Nat) (ps : List PV) (vs : List Value) (pc : List PV) (vc : Array Value) (pre : Prop) (rc : List PV) (hl1 : ps.length = ids.length) (hl2 : vs.length = ids.length)
    (hr : ∀ (i : Nat) (p : PV) (v : Value), ps[i]? = some p → vs[i]? = some v → Rep w S p v) (hc : CellsRep w S pc vc) (h1 : ∀ c ∈ pc, c.one = true) (hf : fillPV place pc (ids.zip ps) = some (pre, rc)) (hp : pre) :
    ∃ v', Instr.fill place vc (ids.zip vs) = some v' ∧ CellsRep w S rc v' ∧ (∀ c ∈ rc, c.one = true) := by
  obtain ⟨v', a1, a2, a3, -⟩ := fill_rep2 (w := w) (S := S) (fun _ _ => True) (fun _ _ _ _ _ => trivial) place ids ps (ids.map fun _ => []) vs pc vc [] pre rc hl1 (by simp) hl2 hr (fun i l v e _ x hx => by
    simp only [List.getElem?_map, Option.map_eq_some_iff] at e
    obtain ⟨_, _, rfl⟩ := e; cases hx) hc (fun x hx => by cases hx) h1 hf hp
  exact ⟨v', a1, a2, a3⟩

theorem closeAll_len (m : Id → Option Blk) : ∀ (l : List SV) (p : Prop) (qs : List PV), closeAll m l = some (p, qs) → qs.length = l.length
  | [], p, qs, h => by simp only [closeAll, Option.some.injEq, Prod.mk.injEq] at h; obtain ⟨-, rfl⟩ := h; rfl
  | x :: xs, p, qs, h => by
    simp only [closeAll] at h
    split at h
    · rename_i q1 y q2 ys e1 e2
      simp only [Option.some.injEq, Prod.mk.injEq] at h
      obtain ⟨rfl, rfl⟩ := h
      simp [closeAll_len m xs _ _ e2]
    · cases h

theorem closeAll_rep (h : RelAt ρ S0 w0 N s a w) : ∀ (l : List Operand) (p : Prop) (qs : List PV), closeAll s.m (l.map s.ev) = some (p, qs) → p →
    ∀ (i : Nat) (q : PV) (v : Value), qs[i]? = some q → (l.map a.eval)[i]? = some v → Rep w (Imm S0 w0.heap.size s.m ρ) q v ∧ q.ok = true
  | [], p, qs, hc, hp, i, q, v, h1, h2 => by simp at h2
  | x :: xs, p, qs, hc, hp, i, q, v, h1, h2 => by
    simp only [List.map_cons, closeAll] at hc
    split at hc
    · rename_i q1 y q2 ys e1 e2
      simp only [Option.some.injEq, Prod.mk.injEq] at hc
      obtain ⟨rfl, rfl⟩ := hc
      cases i with
      | zero =>
        simp only [List.map_cons, List.getElem?_cons_zero, Option.some.injEq] at h1 h2
        subst h1; subst h2
        exact closeV_rep h (ev_rep h x) e1 hp.1
      | succ i =>
        simp only [List.map_cons, List.getElem?_cons_succ] at h1 h2
        exact closeAll_rep h xs _ _ e2 hp.2 i q v h1 h2
    · cases hc

theorem closeLs_len (m : Id → Option Blk) : ∀ (l : List SV) (p : Prop) (qs : List PV) (ks : List (List Lnk)), closeLs m l = some (p, qs, ks) → qs.length = l.length ∧ ks.length = l.length
  | [], p, qs, ks, h => by simp only [closeLs, Option.some.injEq, Prod.mk.injEq] at h; obtain ⟨-, rfl, rfl⟩ := h; exact ⟨rfl, rfl⟩
  | x :: xs, p, qs, ks, h => by
    simp only [closeLs] at h
    split at h
    · rename_i q1 y l1 q2 ys ls e1 e2
      simp only [Option.some.injEq, Prod.mk.injEq] at h
      obtain ⟨rfl, rfl, rfl⟩ := h
      have := closeLs_len m xs _ _ _ e2
      simp [this.1, this.2]
    · cases h

theorem closeLs_rep (h : RelAt ρ S0 w0 N s a w) : ∀ (l : List Operand) (p : Prop) (qs : List PV) (ks : List (List Lnk)), closeLs s.m (l.map s.ev) = some (p, qs, ks) → p →
    ∀ (i : Nat) (v : Value), (l.map a.eval)[i]? = some v → (∀ q, qs[i]? = some q → Rep w (Imm S0 w0.heap.size s.m ρ) q v ∧ q.ok = true) ∧ ∀ k, ks[i]? = some k → ∀ x ∈ k, ∃ y, v.cells[x.1]? = some y ∧ OwnC ρ s.g x.2.1 x.2.2 y
  | [], p, qs, ks, hc, hp, i, v, h2 => by simp at h2
  | x :: xs, p, qs, ks, hc, hp, i, v, h2 => by
    simp only [List.map_cons, closeLs] at hc
    split at hc
    · rename_i q1 y l1 q2 ys ls e1 e2
      simp only [Option.some.injEq, Prod.mk.injEq] at hc
      obtain ⟨rfl, rfl, rfl⟩ := hc
      cases i with
      | zero =>
        simp only [List.map_cons, List.getElem?_cons_zero, Option.some.injEq] at h2
        subst h2
        obtain ⟨g1, g2, g3⟩ := closeL_rep h (ev_rep h x) e1 hp.1
        refine ⟨fun q hq => ?_, fun k hk => ?_⟩
        · simp only [List.getElem?_cons_zero, Option.some.injEq] at hq; subst hq; exact ⟨g1, g2⟩
        · simp only [List.getElem?_cons_zero, Option.some.injEq] at hk; subst hk; exact g3
      | succ i =>
        simp only [List.map_cons, List.getElem?_cons_succ] at h2 ⊢
        exact closeLs_rep h xs _ _ _ e2 hp.2 i v h2
    · cases hc

theorem places_all (P : Program) : ∀ (fs : List Field), (fs.all fun f => (P.info? f.type).isSome) = true → fs.mapM (fun f => (P.info? f.type).map fun i => (f.offset, i.size)) = some (fs.map fun f => (f.offset, P.cellsOf f.type))
  | [], _ => rfl
  | f :: fs, h => by
    simp only [List.all_cons, Bool.and_eq_true] at h
    obtain ⟨i, hi⟩ := Option.isSome_iff_exists.1 h.1
    simp [List.mapM_cons, hi, places_all P fs h.2, Program.cellsOf]

theorem tinf_fok {T : TypeId} {ti : TI} (h : tinf P T = some ti) {gs : Array Field} (hd : P.underlying T = some (.struct gs)) : ti.fok = gs.toList.all fun f => (P.info? f.type).isSome := by
  unfold tinf at h
  split at h
  · rename_i i d hi hd'
    rw [hd] at hd'; simp only [Option.some.injEq] at hd'; subst hd'
    simp only [Option.some.injEq] at h
    subst h; rfl
  · cases h

theorem exec_build (h : RelAt ρ S0 w0 N s a w) {o : Oper} {T : TypeId} {parts : Array (Nat × Operand)} (ho : o.op = .build T parts) (nid : Id) {pre : Prop} {sv : SV} {eff : Eff} (he : aExec P o.op s.ev s.m nid = some (pre, sv, eff)) (hp : pre) :
    Good1 P S0 w0 N s a w o nid sv eff := by
  rw [ho] at he
  simp only [aExec] at he
  split at he
  case h_2 => cases he
  rename_i fs size bytes z comp fok ht
  split at he
  case h_2 => cases he
  rename_i q ps ks hcl
  split at he
  case h_2 => cases he
  rename_i r cs hfill
  simp only [Option.some.injEq, Prod.mk.injEq] at he
  obtain ⟨rfl, rfl, rfl⟩ := he
  obtain ⟨hfok, hq, hr, hone⟩ := hp
  obtain ⟨i, d, hi, hd, h1, -, -, h4⟩ := tinf_some ht
  have hd' : ∃ gs : Array Field, d = .struct gs ∧ fs = gs.toList.map fun f => (f.offset, P.cellsOf f.type, f.type) := by
    cases d <;> simp [tkOf] at h1
    exact ⟨_, rfl, h1⟩
  obtain ⟨gs, rfl, rfl⟩ := hd'
  obtain ⟨z0, hz0, rfl⟩ : ∃ z0, i.zero = some z0 ∧ z = constPV z0 := by
    cases hz : i.zero with
    | none => simp [hz] at h4
    | some z0 => simp only [hz, Option.map_some, Option.some.injEq] at h4; exact ⟨z0, rfl, h4⟩
  have hgs := tinf_fok ht hd
  simp only at hgs
  rw [hfok] at hgs
  have hcl' : closeLs s.m ((parts.toList.map (·.2)).map s.ev) = some (q, ps, ks) := by rw [List.map_map]; exact hcl
  obtain ⟨hlen, hlen2⟩ := closeLs_len _ _ _ _ _ hcl'
  simp only [List.length_map] at hlen hlen2
  have hreps := closeLs_rep h (parts.toList.map (·.2)) q ps ks hcl' hq
  obtain ⟨v', e1, e2, e3, e4⟩ := fill_rep2 (w := w) (S := Imm S0 w0.heap.size s.m ρ) (fun x y => OwnC ρ s.g x.2.1 x.2.2 y) (fun _ _ _ _ h => h) _ (parts.toList.map (·.1)) ps ks ((parts.toList.map (·.2)).map a.eval) (constPV z0).cells z0.cells [] r cs (by simpa using hlen) (by simpa using hlen2) (by simp)
    (fun i p v a1 a2 => ((hreps i v a2).1 p a1).1) (fun i l v a1 a2 => (hreps i v a2).2 l a1)
    ⟨by rw [constPV_cells]; simp, fun j c x a1 a2 => by
      rw [constPV_cells] at a1
      simp only [List.getElem?_map, Array.getElem?_toList, a2, Option.map_some, Option.some.injEq] at a1
      subst a1; exact rep_cell _ _⟩
    (fun _ h => by cases h) (all_one hone) hfill hr
  have hplace : (fun i : Nat => (((gs.toList.map fun f => (f.offset, P.cellsOf f.type, f.type))[i]?).map fun f => (f.1, f.2.1))) = fun i : Nat => (gs.toList.map fun f => (f.offset, P.cellsOf f.type)).toArray[i]? := by
    funext i; simp only [List.getElem?_map, List.getElem?_toArray, Option.map_map]; rfl
  rw [hplace] at e1
  have hzip : (parts.toList.map (·.1)).zip ((parts.toList.map (·.2)).map a.eval) = (parts.map fun (i, x) => (i, a.eval x)).toList := by
    rw [Array.toList_map, List.map_map, List.zip_map']
    rfl
  rw [hzip] at e1
  have hbuilt : P.built T (parts.map fun (i, x) => (i, a.eval x)).toList = some v' := by
    unfold Program.built
    simp only [hi, hd, hz0, places_all P gs.toList hgs.symm]
    exact e1
  have hst : ∀ ls : List Lnk, (∀ x ∈ ls, ∃ y, v'[x.1]? = some y ∧ OwnC ρ s.g x.2.1 x.2.2 y) → SRep w (Imm S0 w0.heap.size s.m ρ) ρ s.g (stOf (.agg cs) ls) (.agg v') := fun ls hls => by
    cases ls with
    | nil => exact .c _ _ (.agg _ _ e2.1 e3 e2.2)
    | cons l ls => exact .st _ _ _ (.agg _ _ e2.1 e3 e2.2) hls
  refine good_none h (v := .agg v') ?_ (hst _ e4)
  unfold execOp
  simp only [ho, Sem.run_bind, run_build w T _ v' hbuilt, Result.andThen, Sem.run_pure]

theorem flat_get (sz : Nat) : ∀ (ps : List PV), (∀ p ∈ ps, p.cells.length = sz) → ∀ (i j : Nat) (p : PV) (c : PV), ps[i]? = some p → p.cells[j]? = some c → (ps.flatMap PV.cells)[i * sz + j]? = some c
  | [], _, i, j, p, c, hi, _ => by simp at hi
  | q :: ps, h, i, j, p, c, hi, hj => by
    have hq := h q (List.mem_cons_self)
    cases i with
    | zero =>
      simp only [List.getElem?_cons_zero, Option.some.injEq] at hi; subst hi
      have := (List.getElem?_eq_some_iff.1 hj).1
      rw [List.flatMap_cons, List.getElem?_append_left (by omega)]
      simpa using hj
    | succ i =>
      simp only [List.getElem?_cons_succ] at hi
      have ih := flat_get sz ps (fun p hp => h p (List.mem_cons_of_mem _ hp)) i j p c hi hj
      rw [List.flatMap_cons, List.getElem?_append_right (by rw [hq, Nat.add_mul]; omega), hq, Nat.add_mul, Nat.one_mul]
      rw [show i * sz + sz + j - sz = i * sz + j by omega]
      exact ih

theorem fill_flat (sz : Nat) : ∀ (ps : List PV) (k : Nat) (pc : List PV), (∀ p ∈ ps, p.ok = true ∧ p.cells.length = sz) → pc.length = (k + ps.length) * sz →
    ∃ pre, fillPV (fun i => some (i * sz, sz)) pc ((List.range' k ps.length).zip ps) = some (pre, pc.take (k * sz) ++ ps.flatMap PV.cells) ∧ pre
  | [], k, pc, _, hl => by
    refine ⟨True, ?_, trivial⟩
    simp only [List.length_nil, Nat.add_zero] at hl
    simp only [List.length_nil, List.range'_zero, List.zip_nil_left, fillPV, List.flatMap_nil, List.append_nil]
    rw [List.take_of_length_le (by omega)]
  | p :: ps, k, pc, h, hl => by
    obtain ⟨hok, hp⟩ := h p List.mem_cons_self
    simp only [List.length_cons] at hl
    have e1 : (k + (ps.length + 1)) * sz = k * sz + sz + ps.length * sz := by rw [Nat.add_mul, Nat.add_mul, Nat.one_mul]; omega
    have hfit : k * sz + p.cells.length ≤ pc.length := by omega
    obtain ⟨pre, hf, hpre⟩ := fill_flat sz ps (k + 1) (setCells pc (k * sz) p.cells) (fun q hq => h q (List.mem_cons_of_mem _ hq)) (by
      rw [show (setCells pc (k * sz) p.cells).length = pc.length from length_setCells _ _ _ hfit, hl]; congr 1; omega)
    refine ⟨p.ok = true ∧ p.cells.length = sz ∧ k * sz + sz ≤ pc.length ∧ pre, ?_, hok, hp, by omega, hpre⟩
    simp only [List.length_cons, List.range'_succ, List.zip_cons_cons, fillPV, hf, Option.some.injEq, Prod.mk.injEq, true_and]
    rw [List.flatMap_cons, ← List.append_assoc]
    congr 1
    rw [Nat.add_mul, Nat.one_mul]
    simp only [setCells]
    rw [List.take_append_of_le_length (by simp; omega)]
    rw [List.take_of_length_le (by simp; omega)]

theorem exec_buildSliceW (h : RelAt ρ S0 w0 N s a w) {o : Oper} {T : TypeId} {len : Nat} {parts : Array (Nat × Operand)} (ho : o.op = .buildSlice T len parts) (d : Nat) (hd0 : d ≠ 0) {pre : Prop} {sv : SV} {eff : Eff} (he : aExec P o.op s.ev s.m (d, s.g d) = some (pre, sv, eff)) (hp : pre) (r : Bool) :
    ∃ b, eff = .new b ∧ Good1 P S0 w0 N s a w o (d, s.g d) sv (.new { b with rw := r }) := by
  rw [ho] at he
  simp only [aExec] at he
  split at he
  case h_2 => cases he
  rename_i e size bytes zo comp fok ht
  split at he
  case h_2 => cases he
  rename_i te q ps hte hcl
  split at he
  case isFalse => cases he
  rename_i hids
  simp only [Option.some.injEq, Prod.mk.injEq] at he
  obtain ⟨rfl, rfl, rfl⟩ := he
  obtain ⟨hq, hpos, hshape, hsmall, hzs⟩ := hp
  obtain ⟨i, dd, hi, hd, h1, -, -, -⟩ := tinf_some ht
  have hd' : dd = .slice e := by
    cases dd <;> simp [tkOf] at h1
    rw [h1]
  subst hd'
  obtain ⟨ie, d2, hie, hd2, h5, h6, h7, h8⟩ := tinf_some hte
  obtain ⟨z0, hz0, hz1⟩ : ∃ z0, ie.zero = some z0 ∧ (constPV z0).cells.all PV.one = true := by
    cases hz : ie.zero with
    | none => rw [h8, hz] at hzs; simp at hzs
    | some z0 => rw [h8, hz] at hzs; exact ⟨z0, rfl, by simpa using hzs⟩
  have hcl' : closeAll s.m ((parts.toList.map (·.2)).map s.ev) = some (q, ps) := by rw [List.map_map]; exact hcl
  have hlen := closeAll_len _ _ _ _ hcl'
  simp only [List.length_map] at hlen
  have hpl : parts.toList.length = len := by
    have := congrArg List.length hids
    simpa using this
  have hreps := closeAll_rep h (parts.toList.map (·.2)) q ps hcl' hq
  have hpz : parts.size = len := by simpa using hpl
  have hps : ps.length = len := by rw [hlen]; simpa using hpl
  have hmost : ps.length ≤ maxLen := by
    have : ps.length * 1 ≤ ps.length * te.size := Nat.mul_le_mul_left _ hpos
    unfold maxLen; omega
  have hzip : (List.range len).zip ((parts.toList.map (·.2)).map a.eval) = (parts.map fun (i, x) => (i, a.eval x)).toList := by
    rw [← hids, Array.toList_map, List.map_map, List.zip_map']
    rfl
  obtain ⟨cells, hrun, hcs, hcr⟩ : ∃ cells, (Instr.buildSlice T len (parts.map fun (i, x) => (i, a.eval x))).run P w = .ok (.slice (some ⟨w.heap.size, 0, none⟩) len len) (w.alloc (.cells cells e)) ∧ cells.size = len * te.size ∧
      CellsRep w (Imm S0 w0.heap.size s.m ρ) (ps.flatMap PV.cells) cells := by
    let vc : Array Value := (Array.range (len * ie.size)).map (z0.cells[· % z0.cells.size]!)
    obtain ⟨pre, hf, hpre⟩ := fill_flat te.size ps 0 (vc.toList.map .v) hshape (by simp [vc, h6, hps])
    have hones : ∀ c ∈ ps.flatMap PV.cells, c.one = true := by
      intro c hc
      obtain ⟨p, hp1, hp2⟩ := List.mem_flatMap.1 hc
      obtain ⟨j, hj⟩ := List.getElem?_of_mem hp1
      have hj' := (List.getElem?_eq_some_iff.1 hj).1
      have hv : ((parts.toList.map (·.2)).map a.eval)[j]? = some (((parts.toList.map (·.2)).map a.eval)[j]'(by simp only [List.length_map, Array.length_toList]; omega)) := List.getElem?_eq_getElem _
      have := hreps j p _ hj hv
      exact this.1.cells_one this.2 c hp2
    by_cases h0 : len = 0
    · subst h0
      have hps0 : ps = [] := List.length_eq_zero_iff.1 hps
      have hparts : parts = #[] := by
        have : parts.toList = [] := List.length_eq_zero_iff.1 hpl
        exact Array.toList_eq_nil_iff.1 this
      subst hps0
      refine ⟨#[], ?_, by simp, rfl, fun j c x a1 _ => by simp at a1⟩
      subst hparts
      simp only [Instr.buildSlice, run_underlying hd, sizeOf, typeInfo, hie, newRow, Sem.run_bind, Result.andThen, run_program, Sem.run_pure, Nat.zero_mul]
      simp [Instr.fill, Array.range_zero']
    · have hpos2 : 0 < len * ie.size := by rw [← h6]; exact Nat.mul_pos (by omega) hpos
      have hvone : ∀ c ∈ vc.toList.map PV.v, c.one = true := by
        intro c hc
        simp only [vc, List.mem_map, Array.toList_map] at hc
        obtain ⟨x, ⟨k, -, rfl⟩, rfl⟩ := hc
        show (z0.cells[k % z0.cells.size]!).oneCell' = true
        rcases Nat.lt_or_ge (k % z0.cells.size) z0.cells.size with hk | hk
        · have h9 := all_one hz1
          rw [constPV_cells] at h9
          have h10 := h9 (cellPV z0.cells[k % z0.cells.size]) (List.mem_map_of_mem (Array.getElem_mem_toList hk))
          rw [getElem!_pos z0.cells _ hk]
          unfold cellPV at h10
          split at h10
          · rename_i h11; rw [h11]; rfl
          · exact h10
        · rw [getElem!_neg z0.cells _ (by omega)]; rfl
      obtain ⟨v', e1, e2, _⟩ := fill_rep (w := w) (S := Imm S0 w0.heap.size s.m ρ) (fun i => some (i * te.size, te.size)) (List.range' 0 ps.length) ps ((parts.toList.map (·.2)).map a.eval) (vc.toList.map .v) vc pre _ (by simp) (by simp; omega)
        (fun i p v a1 a2 => (hreps i p v a1 a2).1)
        ⟨by simp, fun j c x a1 a2 => by
          simp only [List.getElem?_map, Array.getElem?_toList, a2, Option.map_some, Option.some.injEq] at a1
          subst a1; exact .v _⟩ hvone hf hpre
      rw [show 0 * te.size = 0 by omega, List.take_zero, List.nil_append] at e2
      rw [← List.range_eq_range', hps, hzip, h6] at e1
      refine ⟨v', run_buildSlice w T e len _ v' ie z0 hd hie hz0 (by rw [← h6, ← hps]; omega) (by omega) e1, ?_, e2⟩
      rw [← e2.1]
      have : ∀ l : List PV, (∀ p ∈ l, p.cells.length = te.size) → (l.flatMap PV.cells).length = l.length * te.size := by
        intro l; induction l with
        | nil => intro _; simp
        | cons p l ih => intro hl; rw [List.flatMap_cons, List.length_append, hl p List.mem_cons_self, ih (fun q hq => hl q (List.mem_cons_of_mem _ hq)), List.length_cons, Nat.add_mul, Nat.one_mul]; omega
      rw [this ps (fun p hp => (hshape p hp).2), hps]
  refine ⟨_, rfl, ?_⟩
  refine good_new h hd0 (cells := cells) (cap := len) (v := .slice (some ⟨w.heap.size, 0, none⟩) len len) ?_ hcs (by rw [hps]; exact Nat.le_refl _) (by rw [← hps]; exact hmost) ?_ ?_ (fun _ h => by cases h) (.inr ⟨rfl, by simp only [hps]⟩)
  · unfold execOp
    simp only [ho, Sem.run_bind, hrun, Result.andThen, Sem.run_pure]
  · intro p hp
    refine ⟨(hshape p hp).2, ?_⟩
    obtain ⟨j, hj⟩ := List.getElem?_of_mem hp
    have hj' : j < ps.length := (List.getElem?_eq_some_iff.1 hj).1
    have hv : ((parts.toList.map (·.2)).map a.eval)[j]? = some (((parts.toList.map (·.2)).map a.eval)[j]'(by simp only [List.length_map, Array.length_toList]; omega)) := List.getElem?_eq_getElem _
    have := hreps j p _ hj hv
    exact this.1.cells_one this.2
  · intro i p j c x hi' hj hx
    exact hcr.2 _ c x (flat_get te.size ps (fun p hp => (hshape p hp).2) i j p c hi' hj) hx
theorem exec_buildSlice (h : RelAt ρ S0 w0 N s a w) {o : Oper} {T : TypeId} {len : Nat} {parts : Array (Nat × Operand)} (ho : o.op = .buildSlice T len parts) (d : Nat) (hd0 : d ≠ 0) {pre : Prop} {sv : SV} {eff : Eff} (he : aExec P o.op s.ev s.m (d, s.g d) = some (pre, sv, eff)) (hp : pre) :
    Good1 P S0 w0 N s a w o (d, s.g d) sv eff := by
  cases eff with
  | new b =>
    obtain ⟨b', e, g⟩ := exec_buildSliceW h ho d hd0 he hp b.rw
    simp only [Eff.new.injEq] at e
    subst e; exact g
  | none => obtain ⟨b', e, g⟩ := exec_buildSliceW h ho d hd0 he hp false; cases e
  | set id b => obtain ⟨b', e, g⟩ := exec_buildSliceW h ho d hd0 he hp false; cases e
end
end Go.Ab
