/-
  The function on plain values is right, fifth part: reckoning, places in slices, lengths, cuts, conversions.
  Conditions: none.
-/
import Derived.Test.YtaoiffinodfcfaaAb6
namespace Go.Ab
set_option linter.unusedSimpArgs false
open Go.RowKit

section
variable {P : Program} {ρ : Id → Option BI} {S0 : Env} {w0 : World} {N : Nat} {s : ASt} {a : Act} {w : World}

theorem tinf_bool {T : TypeId} {size bytes : Nat} {zero : Option PV} {comp : Option (List CK)} {fok : Bool} (h : tinf P T = some ⟨.bool, size, bytes, zero, comp, fok⟩) : P.underlying T = some .bool := by
  obtain ⟨i, d, _, hd, h1, _⟩ := tinf_some h
  cases d <;> simp [tkOf] at h1
  exact hd
theorem tinf_slice {T e : TypeId} {size bytes : Nat} {zero : Option PV} {comp : Option (List CK)} {fok : Bool} (h : tinf P T = some ⟨.slice e, size, bytes, zero, comp, fok⟩) : P.underlying T = some (.slice e) := by
  obtain ⟨i, d, _, hd, h1, _⟩ := tinf_some h
  cases d <;> simp [tkOf] at h1
  rw [h1]; exact hd
theorem tinf_str {T : TypeId} {size bytes : Nat} {zero : Option PV} {comp : Option (List CK)} {fok : Bool} (h : tinf P T = some ⟨.str, size, bytes, zero, comp, fok⟩) : P.underlying T = some .string := by
  obtain ⟨i, d, _, hd, h1, _⟩ := tinf_some h
  cases d <;> simp [tkOf] at h1
  exact hd

theorem vInt_run {op : BinOp} {k : IntKind} {x y : Int} {p : Prop} {v : Value} (hv : vInt op k x y = some (p, v)) (hp : p) (T : TypeId) : (binOp op T (.int k x) (.int k y)).run P w = .ok v w := by
  cases op <;> simp only [vInt, Option.some.injEq, Prod.mk.injEq, reduceCtorEq] at hv <;> (try exact hv.elim) <;> obtain ⟨rfl, rfl⟩ := hv
  case quo => simp [binOp_quo, Op.intDiv, hp]
  case rem => simp [binOp_rem, Op.intDiv, hp]
  all_goals simp [binOp_add, binOp_sub, binOp_mul, binOp_and, binOp_or, binOp_xor, binOp_andNot, binOp_eql, binOp_neq, binOp_lss, binOp_leq, binOp_gtr, binOp_geq, Op.intArith, intBits_and, intBits_or, intBits_xor, intBits_andNot]

theorem vStr_run {op : BinOp} {x y : ByteArray} {p : Prop} {v : Value} (hv : vStr op x y = some (p, v)) (hp : p) (T : TypeId) : (binOp op T (.string x) (.string y)).run P w = .ok v w := by
  cases op <;> simp only [vStr, Option.some.injEq, Prod.mk.injEq, reduceCtorEq] at hv <;> (try exact hv.elim) <;> obtain ⟨rfl, rfl⟩ := hv
  case add =>
    simp only [binOp, Op.stringOp]
    rw [if_neg (by rw [IntKind.max_i64]; omega)]
    rfl
  all_goals simp [binOp, Op.stringOp]

theorem eqGuard_v (op : BinOp) (T : TypeId) (x y : Operand) (v v' : Value) (hv : (∃ k n, v = .int k n) ∨ (∃ b, v = .string b) ∨ (∃ b, v = .bool b)) : (eqGuard op T x y v v').run P w = .ok () w := by
  rcases hv with ⟨k, n, rfl⟩ | ⟨b, rfl⟩ | ⟨b, rfl⟩
  · rw [eqGuard_at_int]; rfl
  · rw [eqGuard_at_string]; rfl
  · rw [eqGuard_at_bool]; rfl

theorem eqGuard_o (op : BinOp) (T : TypeId) (x y : Operand) (v v' : Value) (hv : (∃ b n c, v = .slice b n c) ∨ (∃ b, v = .pointer b)) : (eqGuard op T x y v v').run P w = .ok () w := by
  rcases hv with ⟨b, n, c, rfl⟩ | ⟨b, rfl⟩ <;> (unfold eqGuard; split <;> simp [Sem.run_pure])
theorem tinf_ptrslice {T e : TypeId} {size bytes : Nat} {zero : Option PV} {comp : Option (List CK)} {fok : Bool} (h : tinf P T = some ⟨.ptr e, size, bytes, zero, comp, fok⟩) : P.underlying T = some (.pointer e) := by
  obtain ⟨_, d, _, h1, h2, _⟩ := tinf_some h
  cases d <;> simp_all [tkOf]
theorem eqIn_ss (d : Nat) {T e : TypeId} (h : P.underlying T = some (.slice e)) (b : Addr) (n c : Nat) : (Op.equalIn (d + 1) T (.slice (some b) n c) (.slice none 0 0)).run P w = .ok false w := by
  simp [Op.equalIn, run_underlying h]
theorem eqIn_s0 (d : Nat) {T e : TypeId} (h : P.underlying T = some (.slice e)) : (Op.equalIn (d + 1) T (.slice none 0 0) (.slice none 0 0)).run P w = .ok true w := by
  simp [Op.equalIn, run_underlying h]
theorem eqIn_pp (d : Nat) {T e : TypeId} (h : P.underlying T = some (.pointer e)) (b : Addr) : (Op.equalIn (d + 1) T (.pointer (some b)) (.pointer none)).run P w = .ok false w := by
  simp [Op.equalIn, run_underlying h]
theorem eqIn_p0 (d : Nat) {T e : TypeId} (h : P.underlying T = some (.pointer e)) : (Op.equalIn (d + 1) T (.pointer none) (.pointer none)).run P w = .ok true w := by
  simp [Op.equalIn, run_underlying h]

theorem binOp_run {o : Oper} {op : BinOp} {T T' : TypeId} {x y : Operand} (ho : o.op = .binOp op T x y T') {v : Value} (hg : (eqGuard op T x y (a.eval x) (a.eval y)).run P w = .ok () w) (hr : (binOp op T (a.eval x) (a.eval y)).run P w = .ok v w) :
    (execOp a.eval o).run P w = .ok (.value v) w := by
  unfold execOp
  simp only [ho, Sem.run_bind, hg, Result.andThen, hr, Sem.run_pure]


theorem getE {vs : Array Value} {i : Nat} (h : i < vs.size) : ∃ x, vs[i]? = some x := ⟨_, Array.getElem?_eq_getElem h⟩

theorem part_run {T : TypeId} {d : TypeDesc} (hd : P.underlying T = some d) (hn : (match d with | .struct _ | .array _ _ => true | _ => false) = false) {vs : Array Value} {i : Nat} {x : Value} (hx : vs[i]? = some x) :
    (part T vs i).run P w = .ok x w := by
  have h1 : (isAgg T).run P w = .ok false w := by
    unfold isAgg
    rw [Sem.run_bind, run_underlying hd]
    cases d <;> first | rfl | cases hn
  unfold part
  rw [Sem.run_bind, h1]
  simp [hx]

/-- fields that are plain, one after the other -/
theorem eqFields_run (d : Nat) {S : Addr → Prop} (vs us : Array Value) : ∀ (fs : List Field) (k : Nat) (ks : List CK) (xs ys : List PV) (p : Prop) (r : Bool), simpleFields P k fs = some ks →
    (∀ (j : Nat) (c : PV) (x : Value), xs[j]? = some c → vs[k + j]? = some x → Rep w S c x) → (∀ (j : Nat) (c : PV) (x : Value), ys[j]? = some c → us[k + j]? = some x → Rep w S c x) →
    k + xs.length = vs.size → k + ys.length = us.size → eqCells ks xs ys = some (p, r) → p → (Op.eqFields (d + 1) vs us fs).run P w = .ok r w := by
  intro fs
  induction fs with
  | nil =>
    intro k ks xs ys p r hs _ _ _ _ he _
    simp only [simpleFields, Option.some.injEq] at hs
    subst hs
    cases xs <;> cases ys <;> simp only [eqCells, Option.some.injEq, Prod.mk.injEq, reduceCtorEq] at he
    obtain ⟨-, rfl⟩ := he
    simp [Op.eqFields]
  | cons f fs ih =>
    intro k ks xs ys p r hs hx hy hlx hly he hp
    simp only [simpleFields] at hs
    split at hs
    case h_2 => cases hs
    rename_i c cs h1 h2
    simp only [Option.some.injEq] at hs
    subst hs
    have step : ∀ (x y : PV) (xs' ys' : List PV), xs = x :: xs' → ys = y :: ys' → ∀ (p' : Prop) (r' : Bool) (e : Bool) (v u : Value), eqCells cs xs' ys' = some (p', r') → p' → vs[k]? = some v → us[k]? = some u →
        (part f.type vs k).run P w = .ok v w → (part f.type us k).run P w = .ok u w → (Op.equalIn (d + 1) f.type v u).run P w = .ok e w → f.offset = k → f.name ≠ "_" → (Op.eqFields (d + 1) vs us (f :: fs)).run P w = .ok (e && r') w := by
      intro x y xs' ys' ex ey p' r' e v u hc hp' hv hu hpv hpu heq hoff hname
      subst ex; subst ey
      have hrec := ih (k + 1) cs xs' ys' p' r' h2 (fun j c x a1 a2 => hx (j + 1) c x (by simpa using a1) (by rw [← a2]; congr 1; omega)) (fun j c x a1 a2 => hy (j + 1) c x (by simpa using a1) (by rw [← a2]; congr 1; omega))
        (by simp only [List.length_cons] at hlx; omega) (by simp only [List.length_cons] at hly; omega) hc hp'
      simp only [Op.eqFields, hoff]
      rw [if_pos hname]
      simp only [Sem.run_bind, hpv, hpu, Result.andThen, heq]
      cases e
      · simp
      · simpa using hrec
    unfold simpleField at h1
    cases xs with
    | nil => cases c <;> simp [eqCells] at he
    | cons x xs =>
      cases ys with
      | nil =>
        cases c <;> simp [eqCells] at he
      | cons y ys =>
        obtain ⟨v, hv⟩ := getE (vs := vs) (i := k) (by simp only [List.length_cons] at hlx; omega)
        obtain ⟨u, hu⟩ := getE (vs := us) (i := k) (by simp only [List.length_cons] at hly; omega)
        have hrx := hx 0 x v rfl hv
        have hry := hy 0 y u rfl hu
        split at h1
        · rename_i kk hb hd
          simp only [Option.some.injEq] at h1; subst h1
          simp only [Bool.and_eq_true, beq_iff_eq, bne_iff_ne, ne_eq] at hb
          unfold eqCells at he
          split at he
          case h_1 => rename_i e _ _; cases e
          case h_3 => rename_i e _ _; cases e
          case h_4 => rename_i e _ _; cases e
          case h_5 => cases he
          rename_i ks' k1 a1 xs' k2 b1 ys' e1 e2 e3
          cases e1; cases e2; cases e3
          split at he
          case h_2 => cases he
          rename_i p' r' hrec
          simp only [Option.some.injEq, Prod.mk.injEq] at he
          obtain ⟨rfl, rfl⟩ := he
          cases hrx; cases hry
          obtain ⟨rfl, hp'⟩ := hp
          exact step _ _ _ _ rfl rfl p' r' _ _ _ hrec hp' hv hu (part_run hd rfl hv) (part_run hd rfl hu) (run_equalIn_int _ d f.type k1 kk a1 b1 hd) hb.1 hb.2
        · rename_i hb hd
          simp only [Option.some.injEq] at h1; subst h1
          simp only [Bool.and_eq_true, beq_iff_eq, bne_iff_ne, ne_eq] at hb
          unfold eqCells at he
          split at he
          case h_1 => rename_i e _ _; cases e
          case h_2 => rename_i e _ _; cases e
          case h_4 => rename_i e _ _; cases e
          case h_5 => cases he
          rename_i ks' a1 xs' b1 ys' e1 e2 e3
          cases e1; cases e2; cases e3
          split at he
          case h_2 => cases he
          rename_i p' r' hrec
          simp only [Option.some.injEq, Prod.mk.injEq] at he
          obtain ⟨rfl, rfl⟩ := he
          cases hrx; cases hry
          exact step _ _ _ _ rfl rfl p' r' _ _ _ hrec hp hv hu (part_run hd rfl hv) (part_run hd rfl hu) (run_equalIn_bool' _ d f.type a1 b1 hd) hb.1 hb.2
        · rename_i hb hd
          simp only [Option.some.injEq] at h1; subst h1
          simp only [Bool.and_eq_true, beq_iff_eq, bne_iff_ne, ne_eq] at hb
          unfold eqCells at he
          split at he
          case h_1 => rename_i e _ _; cases e
          case h_2 => rename_i e _ _; cases e
          case h_3 => rename_i e _ _; cases e
          case h_5 => cases he
          rename_i ks' a1 xs' b1 ys' e1 e2 e3
          cases e1; cases e2; cases e3
          split at he
          case h_2 => cases he
          rename_i p' r' hrec
          simp only [Option.some.injEq, Prod.mk.injEq] at he
          obtain ⟨rfl, rfl⟩ := he
          cases hrx; cases hry
          exact step _ _ _ _ rfl rfl p' r' _ _ _ hrec hp hv hu (part_run hd rfl hv) (part_run hd rfl hu) (run_equalIn_string _ d f.type a1 b1 hd) hb.1 hb.2
        · cases h1

theorem tinf_comp {T : TypeId} {ti : TI} {ks : List CK} (h : tinf P T = some ti) (hc : ti.comp = some ks) : ∃ gs : Array Field, P.underlying T = some (.struct gs) ∧ simpleFields P 0 gs.toList = some ks ∧ P.stoodInHeld T = false ∧ P.eqGuardType P.depth T = false := by
  unfold tinf at h
  split at h
  case h_2 => cases h
  rename_i i d hi hd
  simp only [Option.some.injEq] at h
  subst h
  simp only at hc
  split at hc
  case h_2 => cases hc
  rename_i gs
  split at hc
  case isFalse => cases hc
  rename_i hh
  simp only [Bool.and_eq_true, Bool.not_eq_true'] at hh
  exact ⟨gs, hd, hc, hh.1.2, hh.2⟩

theorem exec_bin (h : RelAt ρ S0 w0 N s a w) {o : Oper} {op : BinOp} {T T' : TypeId} {x y : Operand} (ho : o.op = .binOp op T x y T') (nid : Id) {pre : Prop} {sv : SV} {eff : Eff} (he : aExec P o.op s.ev s.m nid = some (pre, sv, eff)) (hp : pre) :
    Good1 P S0 w0 N s a w o nid sv eff := by
  have hx := ev_rep h x
  have hy := ev_rep h y
  rw [ho] at he
  simp only [aExec, aBin] at he
  split at he
  · rename_i k1 a1 k2 b1 e1 e2
    rw [e1] at hx; rw [e2] at hy
    have hx' := srep_v hx
    have hy' := srep_v hy
    have hg : (eqGuard op T x y (a.eval x) (a.eval y)).run P w = .ok () w := eqGuard_v _ _ _ _ _ _ (.inl ⟨_, _, hx'⟩)
    split at he
    · simp only [Option.some.injEq, Prod.mk.injEq] at he
      obtain ⟨rfl, rfl, rfl⟩ := he
      refine good_none h (binOp_run ho hg ?_) (.c _ _ (.v _))
      rw [hx', hy', binOp_shl]
      simp [Op.shift, show ¬ b1 < 0 by omega]
    · simp only [Option.some.injEq, Prod.mk.injEq] at he
      obtain ⟨rfl, rfl, rfl⟩ := he
      refine good_none h (binOp_run ho hg ?_) (.c _ _ (.v _))
      rw [hx', hy', binOp_shr]
      simp [Op.shift, show ¬ b1 < 0 by omega]
    · split at he
      case h_2 => cases he
      rename_i p v hv
      simp only [Option.some.injEq, Prod.mk.injEq] at he
      obtain ⟨rfl, rfl, rfl⟩ := he
      obtain ⟨rfl, hp⟩ := hp
      refine good_none h (binOp_run ho hg ?_) (.c _ _ (.v _))
      rw [hx', hy']
      exact vInt_run hv hp T
  · rename_i a1 b1 e1 e2
    rw [e1] at hx; rw [e2] at hy
    have hx' := srep_v hx
    have hy' := srep_v hy
    have hg : (eqGuard op T x y (a.eval x) (a.eval y)).run P w = .ok () w := eqGuard_v _ _ _ _ _ _ (.inr (.inl ⟨_, hx'⟩))
    split at he
    case h_2 => cases he
    rename_i p v hv
    simp only [Option.some.injEq, Prod.mk.injEq] at he
    obtain ⟨rfl, rfl, rfl⟩ := he
    refine good_none h (binOp_run ho hg ?_) (.c _ _ (.v _))
    rw [hx', hy']
    exact vStr_run hv hp T
  · rename_i a1 b1 e1 e2
    rw [e1] at hx; rw [e2] at hy
    have hx' := srep_v hx
    have hy' := srep_v hy
    have hg : (eqGuard op T x y (a.eval x) (a.eval y)).run P w = .ok () w := eqGuard_v _ _ _ _ _ _ (.inr (.inr ⟨_, hx'⟩))
    split at he
    case h_2 => cases he
    rename_i ht
    have hu := tinf_bool ht
    split at he
    · simp only [Option.some.injEq, Prod.mk.injEq] at he
      obtain ⟨rfl, rfl, rfl⟩ := he
      refine good_none h (binOp_run ho hg ?_) (.c _ _ (.v _))
      rw [hx', hy']
      simp only [binOp, Op.equal, Op.maxDepth, Sem.run_bind, run_equalIn_bool' w 9999 T a1 b1 hu, Result.andThen, Sem.run_pure]
    · simp only [Option.some.injEq, Prod.mk.injEq] at he
      obtain ⟨rfl, rfl, rfl⟩ := he
      refine good_none h (binOp_run ho hg ?_) (.c _ _ (.v _))
      rw [hx', hy']
      simp only [binOp, Op.equal, Op.maxDepth, Sem.run_bind, run_equalIn_bool' w 9999 T a1 b1 hu, Result.andThen, Sem.run_pure]
    · cases he
  · rename_i as bs e1 e2
    rw [e1] at hx; rw [e2] at hy
    split at he
    case h_2 => cases he
    rename_i k0 size bytes zero ks fok ht
    obtain ⟨gs, hu, hsf, hst, hgd⟩ := tinf_comp ht rfl
    split at he
    case h_2 => cases he
    rename_i p r hc
    generalize hvx : a.eval x = vx at hx
    generalize hvy : a.eval y = vy at hy
    cases hx with
    | c _ _ hx =>
    cases hy with
    | c _ _ hy =>
    cases hx with
    | agg _ vs hl1 _ hr1 =>
    cases hy with
    | agg _ us hl2 _ hr2 =>
    have hff : P.underlying T = some (.struct (P.fieldsOf T)) := by simp [Program.fieldsOf, hu]
    have hgf : P.fieldsOf T = gs := by simp [Program.fieldsOf, hu]
    have hg : (eqGuard op T x y (a.eval x) (a.eval y)).run P w = .ok () w := by rw [hvx, hvy]; exact run_eqGuard_agg w op T x y vs us hgd
    have heq : p → (Op.equalIn 10000 T (.agg vs) (.agg us)).run P w = .ok r w := fun hp => by
      rw [run_equalIn_agg w 9999 T vs us hff hst, hgf]
      exact eqFields_run 9998 vs us gs.toList 0 ks as bs p r hsf (fun j c x a1 a2 => hr1 j c x a1 (by simpa using a2)) (fun j c x a1 a2 => hr2 j c x a1 (by simpa using a2)) (by omega) (by omega) hc hp
    split at he
    · simp only [Option.some.injEq, Prod.mk.injEq] at he
      obtain ⟨rfl, rfl, rfl⟩ := he
      refine good_none h (binOp_run ho hg ?_) (.c _ _ (.v _))
      rw [hvx, hvy, run_eql_struct, heq hp]; rfl
    · simp only [Option.some.injEq, Prod.mk.injEq] at he
      obtain ⟨rfl, rfl, rfl⟩ := he
      refine good_none h (binOp_run ho hg ?_) (.c _ _ (.v _))
      rw [hvx, hvy, run_neq_struct, heq hp]; rfl
    · cases he
  · rename_i e1 e2
    rw [e1] at hx; rw [e2] at hy
    split at he
    case h_2 => cases he
    rename_i ht
    have hu := tinf_slice ht
    generalize hvx : a.eval x = vx at hx
    generalize hvy : a.eval y = vy at hy
    cases hx with
    | c _ _ hx =>
    cases hy
    have key : ∃ b, ∀ (o1 : BinOp), o1 = .eql ∨ o1 = .neq → (eqGuard o1 T x y (a.eval x) (a.eval y)).run P w = .ok () w ∧ (binOp o1 T vx (.slice none 0 0)).run P w = .ok (.bool (bif o1 == .eql then b else !b)) w := by
      cases hx with
      | slNil =>
        refine ⟨true, fun o1 h1 => ⟨by rw [hvx, hvy]; exact eqGuard_o _ _ _ _ _ _ (.inl ⟨_, _, _, rfl⟩), ?_⟩⟩
        rcases h1 with rfl | rfl <;> simp only [binOp, Op.equal, Op.maxDepth, Sem.run_bind, eqIn_s0 9999 hu, Result.andThen, Sem.run_pure] <;> rfl
      | slAt sz l b o n cap f _ _ _ _ _ _ =>
        refine ⟨false, fun o1 h1 => ⟨by rw [hvx, hvy]; exact eqGuard_o _ _ _ _ _ _ (.inl ⟨_, _, _, rfl⟩), ?_⟩⟩
        rcases h1 with rfl | rfl <;> simp only [binOp, Op.equal, Op.maxDepth, Sem.run_bind, eqIn_ss 9999 hu, Result.andThen, Sem.run_pure] <;> rfl
    obtain ⟨b, hb⟩ := key
    split at he
    · simp only [Option.some.injEq, Prod.mk.injEq] at he
      obtain ⟨rfl, rfl, rfl⟩ := he
      obtain ⟨h1, h2⟩ := hb .eql (.inl rfl)
      exact good_none h (binOp_run ho h1 (by rw [hvx, hvy]; exact h2)) (.anyb _)
    · simp only [Option.some.injEq, Prod.mk.injEq] at he
      obtain ⟨rfl, rfl, rfl⟩ := he
      obtain ⟨h1, h2⟩ := hb .neq (.inr rfl)
      exact good_none h (binOp_run ho h1 (by rw [hvx, hvy]; exact h2)) (.anyb _)
    · cases he
  all_goals try (cases he; done)
  all_goals
    rename_i e1 e2
    rw [e1] at hx; rw [e2] at hy
    split at he
    case h_2 => cases he
    rename_i ht
    first | have hu := tinf_slice ht | have hu := tinf_ptrslice ht
    generalize hvx : a.eval x = vx at hx
    generalize hvy : a.eval y = vy at hy
    cases hx
    cases hy
  · rename_i hx
    simp only [aNil] at he
    cases hx with
    | slNil => split at he <;> first | (cases he; done) | (simp only [Option.some.injEq, Prod.mk.injEq] at he; obtain ⟨rfl, rfl, rfl⟩ := he; exact absurd rfl hp)
    | slAt sz l b o n cap f _ _ _ _ _ _ =>
      have hg : (eqGuard op T x y (a.eval x) (a.eval y)).run P w = .ok () w := by rw [hvx, hvy]; exact eqGuard_o _ _ _ _ _ _ (.inl ⟨_, _, _, rfl⟩)
      split at he <;> first | (cases he; done) | skip
      all_goals
        simp only [Option.some.injEq, Prod.mk.injEq] at he
        obtain ⟨rfl, rfl, rfl⟩ := he
        refine good_none h (binOp_run ho hg ?_) (.c _ _ (.v _))
        rw [hvx, hvy]
        simp only [binOp, Op.equal, Op.maxDepth, Sem.run_bind, eqIn_ss 9999 hu, Result.andThen, Sem.run_pure, Bool.not_false, Bool.not_true]
  · simp only [aNil] at he
    have hg : (eqGuard op T x y (a.eval x) (a.eval y)).run P w = .ok () w := by rw [hvx, hvy]; exact eqGuard_o _ _ _ _ _ _ (.inl ⟨_, _, _, rfl⟩)
    split at he <;> first | (cases he; done) | skip
    all_goals
      simp only [Option.some.injEq, Prod.mk.injEq] at he
      obtain ⟨rfl, rfl, rfl⟩ := he
      refine good_none h (binOp_run ho hg ?_) (.c _ _ (.v _))
      rw [hvx, hvy]
      simp only [binOp, Op.equal, Op.maxDepth, Sem.run_bind, eqIn_s0 9999 hu, Result.andThen, Sem.run_pure, Bool.not_false, Bool.not_true]
  all_goals
    rename_i hx hy
    cases hx
    cases hy
    simp only [aNil] at he
    have hg : (eqGuard op T x y (a.eval x) (a.eval y)).run P w = .ok () w := by rw [hvx, hvy]; exact eqGuard_o _ _ _ _ _ _ (.inr ⟨_, rfl⟩)
    split at he <;> first | (cases he; done) | skip
    all_goals
      simp only [Option.some.injEq, Prod.mk.injEq] at he
      obtain ⟨rfl, rfl, rfl⟩ := he
      refine good_none h (binOp_run ho hg ?_) (.c _ _ (.v _))
      rw [hvx, hvy]
      first | (simp only [binOp, Op.equal, Op.maxDepth, Sem.run_bind, eqIn_pp 9999 hu, Result.andThen, Sem.run_pure, Bool.not_false, Bool.not_true]; done) | (simp only [binOp, Op.equal, Op.maxDepth, Sem.run_bind, eqIn_p0 9999 hu, Result.andThen, Sem.run_pure, Bool.not_false, Bool.not_true]; done)
end
end Go.Ab
