/-
  The function on plain values is right, sixth part.
  Conditions: none.
-/
import Derived.Test.YtaoiffinodfcfaaAb7
namespace Go.Ab
open Go.RowKit

section
variable {P : Program} {ρ : Id → Option BI} {S0 : Env} {w0 : World} {N : Nat} {s : ASt} {a : Act} {w : World}

theorem exec_un (h : RelAt ρ S0 w0 N s a w) {o : Oper} {op : UnOp} {T : TypeId} {x : Operand} (ho : o.op = .unOp op T x) (nid : Id) {pre : Prop} {sv : SV} {eff : Eff} (he : aExec P o.op s.ev s.m nid = some (pre, sv, eff)) :
    Good1 P S0 w0 N s a w o nid sv eff := by
  have hx := ev_rep h x
  rw [ho] at he
  simp only [aExec, aUn] at he
  split at he
  case h_4 => cases he
  all_goals
    rename_i e1
    rw [e1] at hx
    have hx' := srep_v hx
    simp only [Option.some.injEq, Prod.mk.injEq] at he
    obtain ⟨-, rfl, rfl⟩ := he
    refine good_none h ?_ (.c _ _ (.v _))
    unfold execOp
    simp only [ho, hx', Op.unary, Op.intArith, intBits_xor, Sem.run_bind, Sem.run_pure, Result.andThen]

theorem tinf_under {T : TypeId} {ti : TI} (h : tinf P T = some ti) : ∃ d, P.underlying T = some d ∧ ti.k = tkOf P d := by
  obtain ⟨_, d, _, hd, h1, _⟩ := tinf_some h
  exact ⟨d, hd, h1⟩
theorem tinf_int {T : TypeId} {k : IntKind} {size bytes : Nat} {zero : Option PV} {comp : Option (List CK)} {fok : Bool} (h : tinf P T = some ⟨.int k, size, bytes, zero, comp, fok⟩) : P.underlying T = some (.int k) := by
  obtain ⟨i, d, _, hd, h1, _⟩ := tinf_some h
  cases d <;> simp [tkOf] at h1
  rw [h1]; exact hd

theorem exec_conv (h : RelAt ρ S0 w0 N s a w) {o : Oper} {S T : TypeId} {x : Operand} (ho : o.op = .convert S T x) (nid : Id) {pre : Prop} {sv : SV} {eff : Eff} (he : aExec P o.op s.ev s.m nid = some (pre, sv, eff)) :
    Good1 P S0 w0 N s a w o nid sv eff := by
  have hx := ev_rep h x
  rw [ho] at he
  simp only [aExec, aConv] at he
  split at he
  · rename_i ti k _ _ _ _ _ _ n h1 h2 e1
    rw [e1] at hx
    have hx' := srep_v hx
    simp only [Option.some.injEq, Prod.mk.injEq] at he
    obtain ⟨-, rfl, rfl⟩ := he
    obtain ⟨d, hd, _⟩ := tinf_under h1
    have h2' := tinf_int h2
    have hk : P.intKind T = k := by simp [Program.intKind, h2']
    refine good_none h (v := .int k (k.wrap n)) ?_ (.c _ _ (.v _))
    unfold execOp
    have := run_convert_int (P := P) w S T (by assumption) n (by rw [hd]; rfl) (by rw [hk]; exact h2')
    rw [hk] at this
    simp only [ho, hx', Sem.run_bind, this, Sem.run_pure, Result.andThen]
  · rename_i _ _ _ _ _ _ _ _ _ _ str h1 h2 e1
    rw [e1] at hx
    have hx' := srep_v hx
    simp only [Option.some.injEq, Prod.mk.injEq] at he
    obtain ⟨-, rfl, rfl⟩ := he
    refine good_none h (v := .string str) ?_ (.c _ _ (.v _))
    unfold execOp
    simp only [ho, hx', convert, Sem.run_bind, run_underlying (tinf_str h1), run_underlying (tinf_str h2), Sem.run_pure, Result.andThen]
  · cases he

theorem slice_rep {S : Addr → Prop} {L : List PV} {b : Option Addr} {n cap lo hi size : Nat} (hr : Rep w S (.sl L) (.slice b n cap)) (h1 : lo ≤ hi) (h2 : hi ≤ L.length) (hs : lo = 0 ∨ ∀ e ∈ L, e.cells.length = size) :
    Rep w S (.sl ((L.take hi).drop lo)) (sliced b lo hi cap size) := by
  cases hr with
  | slNil =>
    simp only [List.length_nil] at h2
    obtain rfl : hi = 0 := by omega
    obtain rfl : lo = 0 := by omega
    exact .slNil
  | slAt sz _ b o _ _ f hn hcap hsz hone hcell hh =>
    have hlen : ((L.take hi).drop lo).length = hi - lo := by simp; omega
    unfold sliced
    by_cases e : cap = lo
    · rw [if_pos e]
      have h0 : (L.take hi).drop lo = [] := List.length_eq_zero_iff.1 (by omega)
      rw [h0]
      rw [h0] at hlen
      exact .slAt sz [] b o _ _ f (by rw [← hlen]) (by omega) (by simp) (by simp) (by simp) (by simp)
    · rw [if_neg e]
      simp only [Option.map_some, Addr.add_lit]
      have hmem : ∀ {e}, e ∈ (L.take hi).drop lo → e ∈ L := fun he => List.mem_of_mem_take (List.mem_of_mem_drop he)
      have hget : ∀ {i : Nat} {e : PV}, ((L.take hi).drop lo)[i]? = some e → L[lo + i]? = some e := fun he => by
        rw [List.getElem?_drop, List.getElem?_take] at he
        split at he
        · exact he
        · cases he
      have hoff : ∀ (i j : Nat) (e : PV), ((L.take hi).drop lo)[i]? = some e → o + lo * size + i * sz + j = o + (lo + i) * sz + j := fun i j e he => by
        have hm := List.mem_of_getElem? (hget he)
        rw [Nat.add_mul]
        rcases hs with rfl | hs
        · omega
        · have : size = sz := by rw [← hs e hm, hsz e hm]
          subst this; omega
      refine .slAt sz _ b (o + lo * size) _ _ (fun i j => f (lo + i) j) (by rw [hlen]) (by omega) (fun e he => hsz e (hmem he)) (fun e he => hone e (hmem he)) (fun i e j c hi' hj => ?_) (fun i e j c hi' hj => hh (lo + i) e j c (hget hi') hj)
      rw [hoff i j e hi']
      exact hcell (lo + i) e j c (hget hi') hj

theorem exec_slice (h : RelAt ρ S0 w0 N s a w) {o : Oper} {T : TypeId} {x : Operand} {lo hi : Option Operand} (ho : o.op = .slice T x lo hi none) (nid : Id) {pre : Prop} {sv : SV} {eff : Eff} (he : aExec P o.op s.ev s.m nid = some (pre, sv, eff)) (hp : pre) :
    Good1 P S0 w0 N s a w o nid sv eff := by
  have hx := ev_rep h x
  rw [ho] at he
  simp only [aExec, aSlice] at he
  split at he
  · rename_i e size bytes zo comp fok L ht e1
    have hu := tinf_slice ht
    have hue : P.underlying T = some (.slice (P.elem T)) := by simp [Program.elem, hu]
    have hel : P.elem T = e := by simp [Program.elem, hu]
    rw [e1] at hx
    generalize hv : a.eval x = v at hx
    cases hx with
    | c _ _ hr =>
    obtain ⟨b, n, cap, rfl, hnL, hcapL⟩ : ∃ b n cap, v = .slice b n cap ∧ n = L.length ∧ n ≤ cap := by
      cases hr with
      | slNil => exact ⟨_, _, _, rfl, rfl, Nat.le_refl _⟩
      | slAt _ _ _ _ _ _ _ h1 h2 => exact ⟨_, _, _, rfl, h1, h2⟩
    have hsize : ∀ te, tinf P e = some te → (sizeOf (P.elem T)).run P w = .ok te.size w := fun te hte => by
      obtain ⟨ie, _, hie, _, _, h6, _⟩ := tinf_some hte
      rw [hel, run_sizeOf _ hie]; simp [Program.cellsOf, hie, h6]
    have fin : ∀ (L' : List PV) (v' : Value), (Instr.slice T (.slice b n cap) (lo.map a.eval) (hi.map a.eval) none).run P w = .ok v' w → Rep w (Imm S0 w0.heap.size s.m ρ) (.sl L') v' → Good1 P S0 w0 N s a w o nid (.c (.sl L')) .none := fun L' v' h1 h2 => by
      refine good_none h (v := v') ?_ (.c _ _ h2)
      unfold execOp
      simp only [ho, hv, Option.map_none, Sem.run_bind, run_sliceAt_slice w T _ _ _ _ hue, h1, Sem.run_pure, Result.andThen]
    split at he
    · rename_i te hte hlo hhi
      simp only [Option.some.injEq, Prod.mk.injEq] at he
      obtain ⟨-, rfl, rfl⟩ := he
      have e2 : lo = none := by cases lo <;> simp_all
      have e3 : hi = none := by cases hi <;> simp_all
      subst e2; subst e3
      refine fin L _ (by rw [Option.map_none]; rw [run_slice_all w T b n cap hue, hsize te hte]; rfl) ?_
      have := slice_rep (lo := 0) (hi := L.length) (size := te.size) hr (Nat.zero_le _) (Nat.le_refl _) (.inl rfl)
      rw [List.take_length, List.drop_zero, ← hnL] at this
      exact this
    · rename_i te k i hte hlo hhi
      simp only [Option.some.injEq, Prod.mk.injEq] at he
      obtain ⟨rfl, rfl, rfl⟩ := he
      have e3 : hi = none := by cases hi <;> simp_all
      subst e3
      cases lo with
      | none => simp at hlo
      | some lo =>
      simp only [Option.map_some, Option.some.injEq] at hlo
      have hlo' := ev_rep h lo
      rw [hlo] at hlo'
      have hl := srep_v hlo'
      refine fin _ _ (by rw [Option.map_some, Option.map_none, hl]; rw [run_slice_l w T b n cap hue k i hp.1 (by omega), hsize te hte]; rfl) ?_
      have := slice_rep (lo := i.toNat) (hi := L.length) (size := te.size) hr (by omega) (Nat.le_refl _) (.inr hp.2.2)
      rw [List.take_length, ← hnL] at this
      exact this
    · rename_i te k i hte hlo hhi
      simp only [Option.some.injEq, Prod.mk.injEq] at he
      obtain ⟨rfl, rfl, rfl⟩ := he
      have e3 : lo = none := by cases lo <;> simp_all
      subst e3
      cases hi with
      | none => simp at hhi
      | some hi =>
      simp only [Option.map_some, Option.some.injEq] at hhi
      have hhi' := ev_rep h hi
      rw [hhi] at hhi'
      have hl := srep_v hhi'
      refine fin _ _ (by rw [Option.map_some, Option.map_none, hl]; rw [run_slice_h w T b n cap hue k i hp.1 (by omega), hsize te hte]; rfl) ?_
      have := slice_rep (lo := 0) (hi := i.toNat) (size := te.size) hr (by omega) (by omega) (.inl rfl)
      rw [List.drop_zero] at this
      exact this
    · rename_i te k i k2 j hte hlo hhi
      simp only [Option.some.injEq, Prod.mk.injEq] at he
      obtain ⟨rfl, rfl, rfl⟩ := he
      cases hi with
      | none => simp at hhi
      | some hi =>
      cases lo with
      | none => simp at hlo
      | some lo =>
      simp only [Option.map_some, Option.some.injEq] at hhi hlo
      have hhi' := ev_rep h hi
      rw [hhi] at hhi'
      have hl := srep_v hhi'
      have hlo' := ev_rep h lo
      rw [hlo] at hlo'
      have hl2 := srep_v hlo'
      refine fin _ _ (by rw [Option.map_some, Option.map_some, hl, hl2]; rw [run_slice_lh w T b n cap hue k k2 i j hp.1 hp.2.1 (by omega), hsize te hte]; rfl) ?_
      exact slice_rep hr (by omega) (by omega) (.inr hp.2.2.2)
    · cases he
  · rename_i size bytes zo comp fok str ht e1
    have hu := tinf_str ht
    rw [e1] at hx
    have hv := srep_v hx
    have fin : ∀ (v' : ByteArray), (Instr.slice T (.string str) (lo.map a.eval) (hi.map a.eval) none).run P w = .ok (.string v') w → Good1 P S0 w0 N s a w o nid (.c (.v (.string v'))) .none := fun v' h1 => by
      refine good_none h (v := .string v') ?_ (.c _ _ (.v _))
      unfold execOp
      simp only [ho, hv, Option.map_none, Sem.run_bind, run_sliceAt_string w T _ _ _ _ hu, h1, Sem.run_pure, Result.andThen]
    split at he
    · rename_i hlo hhi
      simp only [Option.some.injEq, Prod.mk.injEq] at he
      obtain ⟨-, rfl, rfl⟩ := he
      have e2 : lo = none := by cases lo <;> simp_all
      have e3 : hi = none := by cases hi <;> simp_all
      subst e2; subst e3
      exact fin _ (run_slice_string_all w T str hu)
    · rename_i k i hlo hhi
      simp only [Option.some.injEq, Prod.mk.injEq] at he
      obtain ⟨rfl, rfl, rfl⟩ := he
      have e3 : hi = none := by cases hi <;> simp_all
      subst e3
      cases lo with
      | none => simp at hlo
      | some lo =>
      simp only [Option.map_some, Option.some.injEq] at hlo
      have hlo' := ev_rep h lo
      rw [hlo] at hlo'
      have hl := srep_v hlo'
      exact fin _ (by rw [Option.map_some, Option.map_none, hl]; exact run_slice_string_l w T str hu k i hp.1 hp.2)
    · rename_i k i hlo hhi
      simp only [Option.some.injEq, Prod.mk.injEq] at he
      obtain ⟨rfl, rfl, rfl⟩ := he
      have e3 : lo = none := by cases lo <;> simp_all
      subst e3
      cases hi with
      | none => simp at hhi
      | some hi =>
      simp only [Option.map_some, Option.some.injEq] at hhi
      have hhi' := ev_rep h hi
      rw [hhi] at hhi'
      have hl := srep_v hhi'
      exact fin _ (by rw [Option.map_some, Option.map_none, hl]; exact run_slice_string_h w T str hu k i hp.1 hp.2)
    · rename_i k i k2 j hlo hhi
      simp only [Option.some.injEq, Prod.mk.injEq] at he
      obtain ⟨rfl, rfl, rfl⟩ := he
      cases hi with
      | none => simp at hhi
      | some hi =>
      cases lo with
      | none => simp at hlo
      | some lo =>
      simp only [Option.map_some, Option.some.injEq] at hhi hlo
      have hhi' := ev_rep h hi
      rw [hhi] at hhi'
      have hl := srep_v hhi'
      have hlo' := ev_rep h lo
      rw [hlo] at hlo'
      have hl2 := srep_v hlo'
      refine fin _ ?_
      rw [Option.map_some, Option.map_some, hl, hl2]
      have h0 : 0 ≤ j := by omega
      have h3 := run_sliceBound (P := P) w k i j.toNat .sliceB hp.1 (by omega)
      simp [Instr.slice, run_underlying hu, Instr.sliceBounds, run_sliceBound, hp.1, hp.2.2, h0, h3]
    · cases he
  · rename_i id n e1
    rw [e1] at hx
    split at he
    case h_2 => cases he
    rename_i b hm
    unfold aSliceOwn at he
    split at he
    case h_2 => cases he
    rename_i e size bytes zo comp fok ht
    have hu := tinf_slice ht
    have hue : P.underlying T = some (.slice (P.elem T)) := by simp [Program.elem, hu]
    have hel : P.elem T = e := by simp [Program.elem, hu]
    generalize hv : a.eval x = v at hx
    cases hx with
    | own _ _ _ hg hh hrow =>
    obtain ⟨_, bi, hρ, B⟩ := h.blk id b hm
    have hsize : ∀ te, tinf P e = some te → (sizeOf (P.elem T)).run P w = .ok te.size w := fun te hte => by
      obtain ⟨ie, _, hie, _, _, h6, _⟩ := tinf_some hte
      rw [hel, run_sizeOf _ hie]; simp [Program.cellsOf, hie, h6]
    have fin : ∀ (l hh' : Nat) (te : TI), n = b.elems.length → te.size = b.sz → l < n → l ≤ hh' → hh' ≤ n → (∀ k, bi.base = some k → (Instr.slice T (.slice (some ⟨k, 0, none⟩) n bi.cap) (lo.map a.eval) (hi.map a.eval) none).run P w = .ok (sliced (some ⟨k, 0, none⟩) l hh' bi.cap te.size) w) → Good1 P S0 w0 N s a w o nid (.pc id n l (hh' - l)) .none := fun l hh' te hn hsz hl h1 h2 hrun => by
      obtain ⟨g1, g2⟩ := hh bi hρ
      have hx := g2 (by rw [B.len, hn])
      cases hb : bi.base with
      | none => have := B.nil hb; have := B.cap; have := B.len; omega
      | some k =>
        rw [hb, Option.map_some] at hx
        have hcap := B.cap
        have hlen := B.len
        refine good_none h (v := .slice (some ⟨k, l * bi.sz, none⟩) (hh' - l) (bi.cap - l)) ?_ ?_
        · unfold execOp
          have := hrun k hb
          rw [sliced, if_neg (by omega), Option.map_some, Addr.add_lit, Nat.zero_add, hsz, ← B.sz] at this
          simp only [ho, hv, hx, Option.map_none, Sem.run_bind, run_sliceAt_slice w T _ _ _ _ hue, this, Sem.run_pure, Result.andThen]
        · refine .pc _ _ _ _ _ hg (by omega) (fun bi' hb' => ⟨(hh bi' hb').1, fun _ => ?_⟩) hrow
          rw [hρ] at hb'; simp only [Option.some.injEq] at hb'; subst hb'
          exact ⟨k, hb, rfl⟩
    split at he
    · rename_i te k i hte hlo hhi
      simp only [Option.some.injEq, Prod.mk.injEq] at he
      obtain ⟨rfl, rfl, rfl⟩ := he
      obtain ⟨hn, hsz, h0, h1⟩ := hp
      have e3 : hi = none := by cases hi <;> simp_all
      subst e3
      cases lo with
      | none => simp at hlo
      | some lo =>
      simp only [Option.map_some, Option.some.injEq] at hlo
      have hlo' := ev_rep h lo
      rw [hlo] at hlo'
      have hl := srep_v hlo'
      refine fin i.toNat n te hn hsz (by omega) (by omega) (Nat.le_refl _) fun kk hb => ?_
      have hcap := B.cap
      have hlen := B.len
      rw [Option.map_some, Option.map_none, hl, run_slice_l w T (some ⟨kk, 0, none⟩) n bi.cap hue k i h0 (by omega), hsize te hte]; rfl
    · rename_i te k i hte hlo hhi
      simp only [Option.some.injEq, Prod.mk.injEq] at he
      obtain ⟨rfl, rfl, rfl⟩ := he
      obtain ⟨hn, hsz, hpos, h0, h1⟩ := hp
      have e3 : lo = none := by cases lo <;> simp_all
      subst e3
      cases hi with
      | none => simp at hhi
      | some hi =>
      simp only [Option.map_some, Option.some.injEq] at hhi
      have hhi' := ev_rep h hi
      rw [hhi] at hhi'
      have hl := srep_v hhi'
      have hcap := B.cap
      have hlen := B.len
      have := fin 0 i.toNat te hn hsz hpos (Nat.zero_le _) (by omega) fun kk hb => by
        rw [Option.map_some, Option.map_none, hl, run_slice_h w T (some ⟨kk, 0, none⟩) n bi.cap hue k i h0 (by omega), hsize te hte]; rfl
      exact this
    · rename_i te k i k2 j hte hlo hhi
      simp only [Option.some.injEq, Prod.mk.injEq] at he
      obtain ⟨rfl, rfl, rfl⟩ := he
      obtain ⟨hn, hsz, h0, h1, h2, h3⟩ := hp
      cases hi with
      | none => simp at hhi
      | some hi =>
      cases lo with
      | none => simp at hlo
      | some lo =>
      simp only [Option.map_some, Option.some.injEq] at hhi hlo
      have hhi' := ev_rep h hi
      rw [hhi] at hhi'
      have hl := srep_v hhi'
      have hlo' := ev_rep h lo
      rw [hlo] at hlo'
      have hl2 := srep_v hlo'
      have hcap := B.cap
      have hlen := B.len
      refine fin i.toNat j.toNat te hn hsz (by omega) (by omega) (by omega) fun kk hb => ?_
      rw [Option.map_some, Option.map_some, hl, hl2, run_slice_lh w T (some ⟨kk, 0, none⟩) n bi.cap hue k k2 i j h0 h2 (by omega), hsize te hte]; rfl
    · cases he
  · cases he

theorem exec_field (h : RelAt ρ S0 w0 N s a w) {o : Oper} {T : TypeId} {x : Operand} {f : Nat} (ho : o.op = .field T x f) (nid : Id) {pre : Prop} {sv : SV} {eff : Eff} (he : aExec P o.op s.ev s.m nid = some (pre, sv, eff)) (hp : pre) :
    Good1 P S0 w0 N s a w o nid sv eff := by
  have hx := ev_rep h x
  rw [ho] at he
  simp only [aExec, aField] at he
  split at he
  case h_2 => cases he
  rename_i fs _ _ _ _ _ cs ht e1
  rw [e1] at hx
  split at he
  case h_2 => cases he
  rename_i off size ty hf
  split at he
  case h_2 => cases he
  rename_i ti hti
  split at he
  · cases he
  rename_i hk
  split at he
  case h_2 => cases he
  rename_i p q hpart
  simp only [Option.some.injEq, Prod.mk.injEq] at he
  obtain ⟨rfl, rfl, rfl⟩ := he
  obtain ⟨i, d, hi, hd, h1, -⟩ := tinf_some ht
  have hd' : ∃ gs : Array Field, d = .struct gs ∧ fs = gs.toList.map fun f => (f.offset, P.cellsOf f.type, f.type) := by
    cases d <;> simp [tkOf] at h1
    exact ⟨_, rfl, h1⟩
  obtain ⟨gs, rfl, rfl⟩ := hd'
  obtain ⟨F, hF, hFF⟩ : ∃ F, gs[f]? = some F ∧ (F.offset, P.cellsOf F.type, F.type) = (off, size, ty) := by
    simp only [List.getElem?_map, Option.map_eq_some_iff, Array.getElem?_toList] at hf
    exact hf
  simp only [Prod.mk.injEq] at hFF
  obtain ⟨rfl, rfl, rfl⟩ := hFF
  generalize hv : a.eval x = v at hx
  cases hx with
  | c _ _ hr =>
  cases hr with
  | agg _ vs hl hone hrr =>
  have hA := isAgg_run (P := P) (w := w) hti (by simpa using hk)
  obtain ⟨j, d2, hj, hd2, _, hsz, _⟩ := tinf_some hti
  have hsize : (sizeOf F.type).run P w = .ok ti.size w := by rw [run_sizeOf _ hj]; simp [Program.cellsOf, hj, hsz]
  have fin : ∀ v', (part F.type vs F.offset).run P w = .ok v' w → Rep w (Imm S0 w0.heap.size s.m ρ) q v' → Good1 P S0 w0 N s a w o nid (.c q) .none := fun v' h1 h2 => by
    refine good_none h (v := v') ?_ (.c _ _ h2)
    unfold execOp
    simp only [ho, hv, Instr.field, Sem.run_bind, run_underlying hd, Result.andThen, hF, asAgg, Sem.run_pure, h1]
  unfold partPV at hpart
  cases ha : ti.agg with
  | true =>
    simp only [ha, Option.some.injEq, Prod.mk.injEq] at hpart
    obtain ⟨rfl, rfl⟩ := hpart
    simp only [PV.cells] at hp
    refine fin (.agg (vs.extract F.offset (F.offset + ti.size))) ?_ (.agg _ _ ?_ ?_ ?_)
    · unfold part
      rw [Sem.run_bind, hA, ha]
      simp only [Result.andThen, if_true, Sem.run_bind, hsize, Sem.run_pure]
    · simp only [PV.cells, List.length_take, List.length_drop, Array.size_extract]; omega
    · intro c hc
      exact hone c (List.mem_of_mem_drop (List.mem_of_mem_take hc))
    · intro j c y hc hy
      simp only [PV.cells, List.getElem?_take] at hc
      split at hc
      · rw [List.getElem?_drop] at hc
        rw [Array.getElem?_extract] at hy
        split at hy
        · exact hrr _ c y hc hy
        · cases hy
      · cases hc
  | false =>
    simp only [ha, PV.cells] at hpart
    cases hc : cs[F.offset]? with
    | none => simp [hc] at hpart
    | some c =>
      simp only [hc, Option.some.injEq, Prod.mk.injEq] at hpart
      obtain ⟨rfl, rfl⟩ := hpart
      have hlt := (List.getElem?_eq_some_iff.1 hc).1
      obtain ⟨y, hy⟩ := getE (vs := vs) (i := F.offset) (by omega)
      refine fin y ?_ (hrr _ c y hc hy)
      unfold part
      rw [Sem.run_bind, hA, ha]
      simp [hy]

theorem exec_indexAddr (h : RelAt ρ S0 w0 N s a w) {o : Oper} {T : TypeId} {x ix : Operand} (ho : o.op = .indexAddr T x ix) (nid : Id) {pre : Prop} {sv : SV} {eff : Eff} (he : aExec P o.op s.ev s.m nid = some (pre, sv, eff)) (hp : pre) :
    Good1 P S0 w0 N s a w o nid sv eff := by
  have hx := ev_rep h x
  have hi := ev_rep h ix
  rw [ho] at he
  simp only [aExec, aIndexAddr] at he
  have run : ∀ {e : TypeId} {te : TI} {b o' n cap : Nat} {k : IntKind} {i : Int}, P.underlying T = some (.slice e) → tinf P e = some te → a.eval x = .slice (some ⟨b, o', none⟩) n cap → a.eval ix = .int k i → 0 ≤ i → i < n →
      (execOp a.eval o).run P w = .ok (.value (.pointer (some ⟨b, o' + i.toNat * te.size, none⟩))) w := by
    intro e te b o' n cap k i hu hte h1 h2 h3 h4
    have hue : P.underlying T = some (.slice (P.elem T)) := by simp [Program.elem, hu]
    have hel : P.elem T = e := by simp [Program.elem, hu]
    obtain ⟨ie, _, hie, _, _, h6, _⟩ := tinf_some hte
    unfold execOp
    simp only [ho, h1, h2, Sem.run_bind, run_indexAt_slice w T _ n cap k i hue]
    rw [if_pos ⟨h3, h4⟩, hel, run_sizeOf _ hie]
    simp only [Result.andThen, Addr.add_lit, Sem.run_pure, Program.cellsOf, hie, Option.map_some, Option.getD_some, h6]
  split at he
  case h_2 => cases he
  rename_i k i e2
  rw [e2] at hi
  have hi' := srep_v hi
  split at he
  · rename_i id n e1
    rw [e1] at hx
    split at he
    case h_2 => cases he
    rename_i b hm
    unfold aIdxOwn at he
    split at he
    case h_2 => cases he
    rename_i e _ _ _ _ _ ht
    split at he
    case h_2 => cases he
    rename_i te hte
    simp only [Option.some.injEq, Prod.mk.injEq] at he
    obtain ⟨rfl, rfl, rfl⟩ := he
    obtain ⟨hn, hsz, h0, h1⟩ := hp
    generalize hv : a.eval x = v at hx
    cases hx with
    | own _ _ _ hg hh =>
    obtain ⟨_, bi, hρ, B⟩ := h.blk id b hm
    have hx' := (hh bi hρ).2 (by rw [B.len, hn])
    cases hb : bi.base with
    | none => have := B.nil hb; have := B.cap; have := B.len; omega
    | some kk =>
      rw [hb, Option.map_some] at hx'
      refine good_none h (run (tinf_slice ht) hte (hv.trans hx') hi' h0 h1) ?_
      refine .ptr _ _ _ _ _ hg fun bi' hb' => ⟨(hh bi' hb').1, fun _ => ?_⟩
      rw [hρ] at hb'; simp only [Option.some.injEq] at hb'; subst hb'
      exact ⟨kk, hb, by rw [B.sz, hsz]; simp⟩
  · rename_i L e1
    rw [e1] at hx
    unfold aIdxSl at he
    split at he
    case h_2 => cases he
    rename_i e _ _ _ _ _ ht
    split at he
    case h_2 => cases he
    rename_i te hte
    simp only [Option.some.injEq, Prod.mk.injEq] at he
    obtain ⟨rfl, rfl, rfl⟩ := he
    obtain ⟨⟨h0, h1⟩, hsz⟩ := hp
    generalize hv : a.eval x = v at hx
    cases hx with
    | c _ _ hr =>
    cases hr with
    | slNil => simp at h1; omega
    | slAt sz _ b o' n cap f hn hcap hszs hone hcell hh =>
      have hget : L[i.toNat]? = some (L.getD i.toNat default) := by
        rw [List.getD_eq_getElem?_getD, List.getElem?_eq_getElem (by omega)]; rfl
      have hmem := List.mem_of_getElem? hget
      have hs2 : te.size = sz := by rw [← hsz, hszs _ hmem]
      refine good_none h (run (tinf_slice ht) hte hv hi' h0 (by omega)) ?_
      rw [hs2]
      exact .iptr _ 0 b (o' + i.toNat * sz) (f i.toNat) (hone _ hmem) (fun j c hj => hcell _ _ j c hget hj) (fun j c hj => hh _ _ j c hget hj)
  · rename_i id n lo len e1
    rw [e1] at hx
    split at he
    case h_2 => cases he
    rename_i b hm
    unfold aIdxPc at he
    split at he
    case h_2 => cases he
    rename_i e _ _ _ _ _ ht
    split at he
    case h_2 => cases he
    rename_i te hte
    simp only [Option.some.injEq, Prod.mk.injEq] at he
    obtain ⟨rfl, rfl, rfl⟩ := he
    obtain ⟨hn, hsz, h0, h1⟩ := hp
    generalize hv : a.eval x = v at hx
    cases hx with
    | pc _ _ _ _ _ hg hln hh =>
    obtain ⟨_, bi, hρ, B⟩ := h.blk id b hm
    obtain ⟨kk, hb, hx'⟩ := (hh bi hρ).2 (by rw [B.len, hn])
    refine good_none h (run (tinf_slice ht) hte (hv.trans hx') hi' h0 h1) ?_
    refine .ptr _ _ _ _ _ hg fun bi' hb' => ⟨(hh bi' hb').1, fun _ => ?_⟩
    rw [hρ] at hb'; simp only [Option.some.injEq] at hb'; subst hb'
    exact ⟨kk, hb, by rw [B.sz, hsz, Nat.add_mul]; simp⟩
  · cases he

theorem exec_index (h : RelAt ρ S0 w0 N s a w) {o : Oper} {T : TypeId} {x ix : Operand} (ho : o.op = .index T x ix) (nid : Id) {pre : Prop} {sv : SV} {eff : Eff} (he : aExec P o.op s.ev s.m nid = some (pre, sv, eff)) (hp : pre) :
    Good1 P S0 w0 N s a w o nid sv eff := by
  have hx := ev_rep h x
  have hi := ev_rep h ix
  rw [ho] at he
  simp only [aExec] at he
  split at he
  case h_2 => cases he
  rename_i _ _ _ _ _ str k i ht e1 e2
  rw [e1] at hx; rw [e2] at hi
  have hx' := srep_v hx
  have hi' := srep_v hi
  simp only [Option.some.injEq, Prod.mk.injEq] at he
  obtain ⟨rfl, rfl, rfl⟩ := he
  refine good_none h (v := .int .u8 ((str.data.toList.getD i.toNat 0).toNat : Int)) ?_ (.c _ _ (.v _))
  have hlt : i.toNat < str.size := by omega
  have e3 : str.data.toList.getD i.toNat 0 = str[i.toNat] := by
    rw [List.getD_eq_getElem?_getD, List.getElem?_eq_getElem (by simpa using hlt)]; rfl
  unfold execOp
  simp only [ho, hx', hi', Sem.run_bind, run_index_string w T str k i (tinf_str ht)]
  rw [dif_pos hp, e3]
  simp only [Result.andThen, Sem.run_pure]

theorem exec_extract (h : RelAt ρ S0 w0 N s a w) {o : Oper} {x : Operand} {i : Nat} (ho : o.op = .extract x i) (nid : Id) {pre : Prop} {sv : SV} {eff : Eff} (he : aExec P o.op s.ev s.m nid = some (pre, sv, eff)) :
    Good1 P S0 w0 N s a w o nid sv eff := by
  have hx := ev_rep h x
  rw [ho] at he
  simp only [aExec] at he
  split at he
  case h_2 => cases he
  rename_i l e1
  rw [e1] at hx
  split at he
  case h_2 => cases he
  rename_i p hl
  simp only [Option.some.injEq, Prod.mk.injEq] at he
  obtain ⟨-, rfl, rfl⟩ := he
  generalize hv : a.eval x = v at hx
  cases hx with
  | c _ _ hr =>
  cases hr with
  | tup _ vs hlen hrr =>
  have hlt := (List.getElem?_eq_some_iff.1 hl).1
  obtain ⟨y, hy⟩ := getE (vs := vs) (i := i) (by omega)
  refine good_none h (v := y) ?_ (.c _ _ (hrr i p y hl hy))
  unfold execOp
  simp only [ho, hv, Instr.extract, hy, Sem.run_bind, Sem.run_pure, Result.andThen]

theorem exec_makeInterface (h : RelAt ρ S0 w0 N s a w) {o : Oper} {T : TypeId} {x : Operand} (ho : o.op = .makeInterface T x) (nid : Id) {pre : Prop} {sv : SV} {eff : Eff} (he : aExec P o.op s.ev s.m nid = some (pre, sv, eff)) (hp : pre) :
    Good1 P S0 w0 N s a w o nid sv eff := by
  have hx := ev_rep h x
  rw [ho] at he
  simp only [aExec] at he
  split at he
  case h_2 => cases he
  rename_i ti q p ht hcl
  obtain ⟨d, hd, h1⟩ := tinf_under ht
  split at he
  · cases he
  rename_i hni
  simp only [Option.some.injEq, Prod.mk.injEq] at he
  obtain ⟨rfl, rfl, rfl⟩ := he
  obtain ⟨hr, _⟩ := closeV_rep h hx hcl hp
  refine good_none h (v := .iface T (a.eval x)) ?_ (.c _ _ (.iface _ _ _ hr))
  unfold execOp
  simp only [ho, Instr.makeInterface, Sem.run_bind, run_underlying hd, Result.andThen]
  cases d <;> first | rfl | (exact absurd h1 hni)

theorem exec_makeFunc (h : RelAt ρ S0 w0 N s a w) {o : Oper} {k : Nat} {first captured : Array Operand} (ho : o.op = .makeFunc (.func k) first captured) (nid : Id) {pre : Prop} {sv : SV} {eff : Eff} (he : aExec P o.op s.ev s.m nid = some (pre, sv, eff)) (hp : pre) :
    Good1 P S0 w0 N s a w o nid sv eff := by
  rw [ho] at he
  simp only [aExec] at he
  split at he
  case h_2 => cases he
  rename_i q ps hf hcl
  simp only [Option.some.injEq, Prod.mk.injEq] at he
  obtain ⟨rfl, rfl, rfl⟩ := he
  have hlen := closeAll_len _ _ _ _ hcl
  have hr := closeAll_rep h captured.toList q ps hcl hp
  have e0 : first = #[] := by
    have := congrArg List.toArray hf
    simpa using this
  refine good_none h (v := .func (.func k) #[] (captured.map a.eval)) ?_ (.c _ _ (.fn _ _ _ (by simpa using hlen) fun i c x h1 h2 => (hr i c x h1 (by simpa using h2)).1))
  unfold execOp
  simp only [ho, e0, Instr.makeFunc, Sem.run_bind, Sem.run_pure, Result.andThen, Array.map_empty]

theorem exec_nilCheck (h : RelAt ρ S0 w0 N s a w) {o : Oper} {x : Operand} (ho : o.op = .nilCheck x) (nid : Id) {pre : Prop} {sv : SV} {eff : Eff} (he : aExec P o.op s.ev s.m nid = some (pre, sv, eff)) (hp : pre) :
    Good1 P S0 w0 N s a w o nid sv eff := by
  have hx := ev_rep h x
  rw [ho] at he
  simp only [aExec] at he
  have run : ∀ A, a.eval x = .pointer (some A) → (execOp a.eval o).run P w = .ok (.value (a.eval x)) w := fun A hA => by
    unfold execOp
    simp only [ho, hA, Sem.run_pure]
  split at he
  · rename_i id n i off e1
    rw [e1] at hx
    split at he
    case h_2 => cases he
    rename_i b hm
    simp only [Option.some.injEq, Prod.mk.injEq] at he
    obtain ⟨rfl, rfl, rfl⟩ := he
    refine good_none h (v := a.eval x) ?_ hx
    cases hx with
    | ptr _ _ _ _ _ hg hh =>
    obtain ⟨_, bi, hρ, B⟩ := h.blk id b hm
    obtain ⟨k, _, hv⟩ := (hh bi hρ).2 (by rw [B.len, hp.1])
    exact run _ hv
  · rename_i y off e1
    rw [e1] at hx
    simp only [Option.some.injEq, Prod.mk.injEq] at he
    obtain ⟨-, rfl, rfl⟩ := he
    refine good_none h (v := a.eval x) ?_ hx
    obtain ⟨k, o1, hv, _⟩ := iptr_reads hx
    exact run _ hv
  · rename_i y e1
    rw [e1] at hx
    simp only [Option.some.injEq, Prod.mk.injEq] at he
    obtain ⟨-, rfl, rfl⟩ := he
    refine good_none h (v := a.eval x) ?_ hx
    obtain ⟨k, o1, hv, _⟩ := ref_reads hx
    exact run _ hv
  · cases he

theorem exec_makeSlice (h : RelAt ρ S0 w0 N s a w) {o : Oper} {T : TypeId} {l c : Operand} (ho : o.op = .makeSlice T l c) (d : Nat) (hd0 : d ≠ 0) {pre : Prop} {sv : SV} {eff : Eff} (he : aExec P o.op s.ev s.m (d, s.g d) = some (pre, sv, eff)) (hp : pre) :
    Good1 P S0 w0 N s a w o (d, s.g d) sv eff := by
  have hl := ev_rep h l
  have hc := ev_rep h c
  rw [ho] at he
  simp only [aExec] at he
  split at he
  case h_2 => cases he
  rename_i e _ _ _ _ _ k1 x k2 y ht e1 e2
  rw [e1] at hl; rw [e2] at hc
  have hl' := srep_v hl
  have hc' := srep_v hc
  split at he
  case h_2 => cases he
  rename_i kk size bytes z comp fok hte
  simp only [Option.some.injEq, Prod.mk.injEq] at he
  obtain ⟨rfl, rfl, rfl⟩ := he
  obtain ⟨hok, hone, hpos, hz, h0, hxy, hmost, hbytes⟩ := hp
  obtain ⟨ie, dd, hie, hd, -, h6, h7, h8⟩ := tinf_some hte
  simp only at h6 h7 h8
  obtain ⟨z0, hz0, rfl⟩ : ∃ z0, ie.zero = some z0 ∧ z = constPV z0 := by
    cases hz : ie.zero with
    | none => simp [hz] at h8
    | some z0 => simp only [hz, Option.map_some, Option.some.injEq] at h8; exact ⟨z0, rfl, h8⟩
  rw [constPV_cells] at hz hone
  simp only [List.length_map, Array.length_toList] at hz
  have hrun := run_make (P := P) w T e ie z0 (tinf_slice ht) hie hz0 k1 k2 x y h0 hxy (by rw [← h7]; exact hbytes) hmost
  refine good_new h hd0 (cells := madeCells z0.cells (y.toNat * ie.size)) (cap := y.toNat) (v := .slice (some ⟨w.heap.size, 0, none⟩) x.toNat y.toNat) ?_ (by rw [size_madeCells, h6]) (by simp; omega) (by unfold maxLen; omega) ?_ ?_ (fun _ h => by cases h) (.inr ⟨by simp, by simp⟩)
  · unfold execOp
    simp only [ho, hl', hc', Sem.run_bind, hrun, Result.andThen, Sem.run_pure]
  · intro e' he'
    simp only [List.mem_replicate] at he'
    obtain ⟨_, rfl⟩ := he'
    rw [constPV_cells]
    exact ⟨by simpa using hz, all_one hone⟩
  · intro i e' j c' v hi hj hv
    have hi' := (List.getElem?_eq_some_iff.1 hi).1
    simp only [List.length_replicate] at hi'
    rw [List.getElem?_replicate, if_pos hi', Option.some.injEq] at hi
    subst hi
    rw [constPV_cells] at hj
    have hj' := (List.getElem?_eq_some_iff.1 hj).1
    simp only [List.length_map, Array.length_toList] at hj'
    simp only [madeCells, Array.getElem?_map, Option.map_eq_some_iff] at hv
    obtain ⟨m, hm, rfl⟩ := hv
    have hm' : m = i * size + j := by
      rw [Array.getElem?_range] at hm
      split at hm
      · simpa using hm.symm
      · cases hm
    subst hm'
    have hmod : (i * size + j) % z0.cells.size = j := by
      rw [hz, Nat.add_comm, Nat.add_mul_mod_self_right, Nat.mod_eq_of_lt (by omega)]
    simp only [List.getElem?_map, Array.getElem?_toList] at hj
    rw [hmod, getElem!_pos z0.cells j hj']
    rw [Array.getElem?_eq_getElem hj', Option.map_some, Option.some.injEq] at hj
    rw [← hj]
    exact rep_cell _ _

theorem constPV_nil {z : Value} (h : constPV z = .sl []) : z = .slice none 0 0 := by
  have : ∀ x, cellPV x = .sl [] → x = .slice none 0 0 := fun x hx => by
    unfold cellPV at hx
    split at hx
    · rfl
    · cases hx
  unfold constPV at h
  split at h
  · cases h
  · exact this z h
/-- a row whose elements are rows that are nil: just nil -/
theorem exec_makeSliceZ (h : RelAt ρ S0 w0 N s a w) {o : Oper} {T : TypeId} {l c : Operand} (ho : o.op = .makeSlice T l c) (d : Nat) (hd0 : d ≠ 0) {pre : Prop} {sv : SV} {b : Blk} (he : aExec P o.op s.ev s.m (d, s.g d) = some (pre, sv, .new b)) (hp : pre)
    (hz : ∀ e ∈ b.elems, e = .sl []) : Good1 P S0 w0 N s a w o (d, s.g d) sv (.new { b with elems := b.elems.map fun _ => .v (.slice none 0 0) }) := by
  have hl := ev_rep h l
  have hc := ev_rep h c
  rw [ho] at he
  simp only [aExec] at he
  split at he
  case h_2 => cases he
  rename_i e _ _ _ _ _ k1 x k2 y ht e1 e2
  rw [e1] at hl; rw [e2] at hc
  have hl' := srep_v hl
  have hc' := srep_v hc
  split at he
  case h_2 => cases he
  rename_i kk size bytes z comp fok hte
  simp only [Option.some.injEq, Prod.mk.injEq, Eff.new.injEq] at he
  obtain ⟨rfl, rfl, rfl⟩ := he
  obtain ⟨hok, hone, hpos, hzl, h0, hxy, hmost, hbytes⟩ := hp
  obtain ⟨ie, dd, hie, hd, -, h6, h7, h8⟩ := tinf_some hte
  simp only at h6 h7 h8
  obtain ⟨z0, hz0, rfl⟩ : ∃ z0, ie.zero = some z0 ∧ z = constPV z0 := by
    cases hz : ie.zero with
    | none => simp [hz] at h8
    | some z0 => simp only [hz, Option.map_some, Option.some.injEq] at h8; exact ⟨z0, rfl, h8⟩
  have hrun := run_make (P := P) w T e ie z0 (tinf_slice ht) hie hz0 k1 k2 x y h0 hxy (by rw [← h7]; exact hbytes) hmost
  rw [constPV_cells] at hzl
  simp only [List.length_map, Array.length_toList] at hzl
  refine good_new h hd0 (cells := madeCells z0.cells (y.toNat * ie.size)) (cap := y.toNat) (v := .slice (some ⟨w.heap.size, 0, none⟩) x.toNat y.toNat) ?_ (by rw [size_madeCells, h6]) (by simp; omega) (by unfold maxLen; omega) ?_ ?_ (fun _ h => by cases h) (.inr ⟨by simp, by simp⟩)
  · unfold execOp
    simp only [ho, hl', hc', Sem.run_bind, hrun, Result.andThen, Sem.run_pure]
  · intro e' he'
    obtain ⟨e0, g0, rfl⟩ := List.mem_map.1 he'
    have g1 := hz e0 g0
    simp only [List.mem_replicate] at g0
    have g2 : constPV z0 = .sl [] := by rw [← g0.2]; exact g1
    rw [constPV_nil g2] at hzl
    refine ⟨hzl, fun c hc => ?_⟩
    simp only [PV.cells, List.mem_singleton] at hc
    subst hc; rfl
  · intro i e' j c' v hi hj hv
    have hi' := (List.getElem?_eq_some_iff.1 hi).1
    simp only [List.length_map, List.length_replicate] at hi'
    rw [List.getElem?_map, List.getElem?_replicate, if_pos hi', Option.map_some, Option.some.injEq] at hi
    subst hi
    have g2 : constPV z0 = .sl [] := hz _ (List.mem_replicate.2 ⟨by omega, rfl⟩)
    have g3 := constPV_nil g2
    rw [g3] at hzl hv
    have hzl : 1 = size := hzl
    subst hzl
    cases j with
    | succ j => simp [PV.cells] at hj
    | zero =>
      simp only [PV.cells, List.getElem?_cons_zero, Option.some.injEq] at hj
      subst hj
      simp only [madeCells, Array.getElem?_map, Option.map_eq_some_iff] at hv
      obtain ⟨m, hm, rfl⟩ := hv
      have : (Value.slice none 0 0).cells[m % (Value.slice none 0 0).cells.size]! = .slice none 0 0 := by
        show (#[Value.slice none 0 0])[m % 1]! = _
        rw [Nat.mod_one]; rfl
      rw [this]
      exact .v _
end
end Go.Ab
