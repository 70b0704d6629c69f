/-
  The surface: steps of the run, calls, ends, tests, loops, each with the tactic that shows what it asks (a default argument); a seat's text must hold 'mixed', 'TIS', 'RES' and 'ENC' in its namespace.
  Conditions: none.
-/
import Derived.Test.YtaoiffinodfcfaaAb22
namespace Go.Ab
open Go.RowKit
set_option linter.unusedVariables false

/-- one block named anew -/
def sw (A B i : Id) : Id := if i = A then B else i
theorem id_contains_nil (y : Id) : List.contains ([] : List Id) y = false := rfl
theorem id_contains (x y : Id) (l : List Id) : List.contains (x :: l) y = (y == x || List.contains l y) := by
  simp only [List.contains_cons]
theorem id_beq (a b c d : Nat) : (((a, b) : Id) == (c, d)) = (a == c && b == d) := rfl
theorem rgs : List.range 0 = [] ∧ List.range 1 = [0] ∧ List.range 2 = [0, 1] ∧ List.range 3 = [0, 1, 2] ∧ List.range 4 = [0, 1, 2, 3] ∧ List.range 5 = [0, 1, 2, 3, 4] ∧ List.range 6 = [0, 1, 2, 3, 4, 5] ∧ List.range 7 = [0, 1, 2, 3, 4, 5, 6] ∧ List.range 8 = [0, 1, 2, 3, 4, 5, 6, 7] :=
  ⟨rfl, rfl, rfl, rfl, rfl, rfl, rfl, rfl, rfl⟩

section
variable {P : Program} {S0 : Env} {w0 : World} {N : Nat} {s s1 s2 s' : ASt} {ops : Array Oper}

/-- ████ the run's own rules ████ -/
theorem EW :
    (∀ (P : Program) (ops : Array Oper) (l : List Oper) (s : ASt) (p : Prop) (Λ : List Lab), goM P ops 0 l s p Λ = some (p, l, s, Λ)) ∧
    (∀ (P : Program) (ops : Array Oper) (n : Nat) (o : Oper) (l : List Oper) (s : ASt) (p : Prop) (Λ : List Lab), goM P ops (n + 1) (o :: l) s p Λ = goY (goM P ops n l) p Λ (stepS1 P o s (guardS ops o s))) ∧
    (∀ (k : Nat) (v : SV) (l : List (Nat × SV)) (i : Nat), lk ((k, v) :: l) i = if i = k then v else lk l i) ∧
    (∀ (k : Id) (v : Option Blk) (l : List (Id × Option Blk)) (i : Id), lkM ((k, v) :: l) i = if i = k then v else lkM l i) ∧
    (∀ (k v : Nat) (l : List (Nat × Nat)) (c i : Nat), lkG ((k, v) :: l) c i = if i = k then v else lkG l c i) ∧
    (∀ (c i : Nat), lkG [] c i = c) ∧ (∀ i : Nat, lk [] i = .any) ∧ (∀ i : Id, lkM [] i = none) ∧
    (∀ (l : List (Nat × SV)) (d : Nat) (x : SV), putT (lk l) (some d) x = lk ((d, x) :: l)) ∧
    (∀ (t : Nat → SV) (x : SV), putT t none x = t) ∧
    (∀ (l : List (Id × Option Blk)) (d : Id) (x : Option Blk), updM (lkM l) d x = lkM ((d, x) :: l)) ∧
    (∀ (l : List (Nat × Nat)) (c d x : Nat), upd (lkG l c) d x = lkG ((d, x) :: l) c) ∧
    (∀ (l : List (Nat × SV)) (d : Nat) (x : SV), upd (lk l) d x = lk ((d, x) :: l)) ∧
    (∀ (t : Nat → SV) (m : Id → Option Blk) (g : Nat → Nat) (i : Nat), ASt.ev ⟨t, m, g⟩ (.tmp i) = t i) ∧
    (∀ (s : ASt) (b : Bool), s.ev (.const (.bool b)) = .c (.v (.bool b))) ∧
    (∀ (s : ASt) (k : IntKind) (n : Int), s.ev (.const (.int k n)) = .c (.v (.int k n))) ∧
    (∀ (s : ASt) (b : ByteArray), s.ev (.const (.string b)) = .c (.v (.string b))) ∧
    (∀ (s : ASt), s.ev (.const (.slice none 0 0)) = .nil) ∧
    (∀ (s : ASt), s.ev (.const (.pointer none)) = .c (.v (.pointer none))) ∧
    (∀ (s : ASt) (k : Nat), s.ev (.func k) = .c (.v (.func (.func k) #[] #[]))) ∧
    (∀ (s : ASt), s.ev (.const .nilIface) = .c (.v .nilIface)) :=
  ⟨fun _ _ _ _ _ _ => rfl, fun _ _ _ _ _ _ _ _ => rfl, fun _ _ _ _ => rfl, fun _ _ _ _ => rfl, fun _ _ _ _ _ => rfl, fun _ _ => rfl, fun _ => rfl, fun _ => rfl, fun _ _ _ => rfl, fun _ _ => rfl, fun _ _ _ => rfl, fun _ _ _ _ => rfl, fun _ _ _ => rfl, fun _ _ _ _ => rfl, fun _ _ => rfl, fun _ _ _ => rfl, fun _ _ => rfl, fun _ => rfl, fun _ => rfl, fun _ _ => rfl, fun _ => rfl⟩

/-- what data's cells are, by its form -/
theorem PVR : (∀ x, (PV.v x).cells = [.v x]) ∧ (∀ l, (PV.agg l).cells = l) ∧ (∀ l, (PV.tup l).cells = [.tup l]) ∧ (∀ l, (PV.sl l).cells = [.sl l]) ∧ (∀ x, (PV.ref x).cells = [.ref x]) ∧ (∀ t x, (PV.iface t x).cells = [.iface t x]) ∧ (PV.hole.cells = [.hole]) ∧ (∀ k l, (PV.fn k l).cells = [.fn k l]) ∧ (∀ k l, (PV.fn k l).ok = true) ∧ (∀ k l, (PV.fn k l).one = true) ∧ (∀ k l m, (PV.mp k l m).cells = [.mp k l m]) ∧ (∀ k l m, (PV.mp k l m).ok = true) ∧ (∀ k l m, (PV.mp k l m).one = true) ∧
    (∀ x, (PV.v x).ok = x.oneCell') ∧ (∀ l, (PV.agg l).ok = true) ∧ (∀ l, (PV.tup l).ok = false) ∧ (∀ l, (PV.sl l).ok = true) ∧ (∀ x, (PV.ref x).ok = true) ∧ (∀ t x, (PV.iface t x).ok = true) ∧ (PV.hole.ok = true) ∧
    (∀ x, (PV.v x).one = x.oneCell') ∧ (∀ l, (PV.agg l).one = false) ∧ (∀ l, (PV.tup l).one = false) ∧ (∀ l, (PV.sl l).one = true) ∧ (∀ x, (PV.ref x).one = true) ∧ (∀ t x, (PV.iface t x).one = true) ∧ (PV.hole.one = true) :=
  ⟨fun _ => rfl, fun _ => rfl, fun _ => rfl, fun _ => rfl, fun _ => rfl, fun _ _ => rfl, rfl, fun _ _ => rfl, fun _ _ => rfl, fun _ _ => rfl, fun _ _ _ => rfl, fun _ _ _ => rfl, fun _ _ _ => rfl, fun _ => rfl, fun _ => rfl, fun _ => rfl, fun _ => rfl, fun _ => rfl, fun _ _ => rfl, rfl, fun _ => rfl, fun _ => rfl, fun _ => rfl, fun _ => rfl, fun _ => rfl, fun _ _ => rfl, rfl⟩
/-- maps that are empty yet -/
theorem MPR : (∀ a, keyM [] a = [a]) ∧ (∀ a x, insM [] [] a x = [x]) ∧ (∀ z a, atM [] [] z a = z) := ⟨fun _ => rfl, fun _ _ => rfl, fun _ _ => rfl⟩
/-- the tactics, each written once: as default arguments -/
theorem evR {p : Prop} (h : p := by (simp (disch := omega) only [All, mentLt, keepT, keepM, goY, stepS1, stepS2, guardS, execS, addC, pickS, cndAll, cndB, unw, mentsU, rdS, shS, labS, shp, keepOp, mk, wrapG, effG, newOk, usesNid, wrIn, wrOf, plainV, ASt.evU, Op.operands, Call.operands, aExec, aLoad, aStore, aBin, aNil, aUn, aConv, vInt, vStr, eqCells, aIndexAddr, aIdxOwn, aIdxSl, aLen, srcOf, aAppend, aAppOwn, aSlice, aFieldAddr, aField, partPV, setCells, fillPV, closeV, closeAll, closeC, closeCs, closeW, closeWs, ASt.app, ASt.eff, argSlots, argSlotsW, argSlotsP, dnum, TI.agg, TI.known, resPV, resAll, resOf, iPV, uPV, bPV, ren, ment, skipV, fnV, PV.flat, PV.flatN, Value.oneCell', closeL, closeLs, lnkAt, mvL, dropL, fillL, stOf, loadL, lsIn, aIdxPc, aSliceOwn, lsLt, blkLt, renL, aLookup, aMapUp, frzV, noId, noIdB, sw, ↓reduceIte, reduceIte, Nat.reduceEqDiff, reduceCtorEq, Nat.reduceAdd, Nat.reduceSub, Nat.reduceMul, Nat.reduceLeDiff, Nat.reduceBEq, Nat.reduceBNe, Int.reduceLT, Int.reduceLE, Int.reduceNeg, Int.reduceToNat, Int.reduceBEq, Int.reduceBNe, cond_true, cond_false, Option.getD_some, Option.getD_none, Option.map_some, Option.map_none, Option.bind_some, Option.bind_none, Prod.mk.injEq, false_and, and_false, true_and, and_true, and_self, decide_true, decide_false, Bool.false_eq_true, Bool.not_true, Bool.not_false, Bool.true_and, Bool.and_true, Bool.false_and, Bool.and_false, Bool.or_true, Bool.true_or, Bool.or_false, Bool.false_or, beq_self_eq_true, bne_self_eq_false, List.map_cons, List.map_nil, List.length_cons, List.length_nil, List.length_map, List.length_append, List.length_replicate, List.length_set, List.map_set, List.getElem?_cons_zero, List.getElem?_cons_succ, List.getD_cons_zero, List.getD_cons_succ, List.zip_cons_cons, List.zip_nil_left, List.zip_nil_right, List.take_succ_cons, List.take_zero, List.take_nil, List.drop_succ_cons, List.drop_zero, List.drop_nil, List.cons_append, List.nil_append, List.append_nil, List.set_cons_zero, List.set_cons_succ, List.all_cons, List.all_nil, List.toList_toArray, Nat.zero_add, Nat.add_zero, List.size_toArray, List.append_toArray, Array.toList_append, List.getElem?_toArray, gt_iff_lt, ge_iff_le, not_false_eq_true, ne_eq, not_true_eq_false, ↓forall_map, ↓List.forall_mem_cons, Int.toNat_natCast, Nat.lt_irrefl, Nat.le_refl, beq_iff_eq, List.range_zero, EW, PVR, rgs, resS_t, resS_m, resS_g, resV, eq_self, imp_self, implies_true, cnd_and, cnd_or, forall_const, true_imp_iff, beq_true, beq_false, List.isEmpty_nil, List.isEmpty_cons, List.mem_cons, List.not_mem_nil, or_false, false_or, or_true, true_or, List.filterMap_cons, List.filterMap_nil, id_contains_nil, id_contains, id_beq, MPR, decide_not, Bool.not_not, FAM, Nat.mul_one, Nat.zero_mul, wrap_i64, wrap_u64, wrap_u32, wrap_u8, getD_map, TIS, RES, ENC, *] <;> rfl)) : p := h
theorem evT {p : Prop} (h : p := by (simp (disch := omega) only [All, mentLt, keepT, keepM, goY, stepS1, stepS2, guardS, execS, addC, pickS, cndAll, cndB, unw, mentsU, rdS, shS, labS, shp, keepOp, mk, wrapG, effG, newOk, usesNid, wrIn, wrOf, plainV, ASt.evU, Op.operands, Call.operands, aExec, aLoad, aStore, aBin, aNil, aUn, aConv, vInt, vStr, eqCells, aIndexAddr, aIdxOwn, aIdxSl, aLen, srcOf, aAppend, aAppOwn, aSlice, aFieldAddr, aField, partPV, setCells, fillPV, closeV, closeAll, closeC, closeCs, closeW, closeWs, ASt.app, ASt.eff, argSlots, argSlotsW, argSlotsP, dnum, TI.agg, TI.known, resPV, resAll, resOf, iPV, uPV, bPV, ren, ment, skipV, fnV, PV.flat, PV.flatN, Value.oneCell', closeL, closeLs, lnkAt, mvL, dropL, fillL, stOf, loadL, lsIn, aIdxPc, aSliceOwn, lsLt, blkLt, renL, aLookup, aMapUp, frzV, noId, noIdB, sw, ↓reduceIte, reduceIte, Nat.reduceEqDiff, reduceCtorEq, Nat.reduceAdd, Nat.reduceSub, Nat.reduceMul, Nat.reduceLeDiff, Nat.reduceBEq, Nat.reduceBNe, Int.reduceLT, Int.reduceLE, Int.reduceNeg, Int.reduceToNat, Int.reduceBEq, Int.reduceBNe, cond_true, cond_false, Option.getD_some, Option.getD_none, Option.map_some, Option.map_none, Option.bind_some, Option.bind_none, Prod.mk.injEq, false_and, and_false, true_and, and_true, and_self, decide_true, decide_false, Bool.false_eq_true, Bool.not_true, Bool.not_false, Bool.true_and, Bool.and_true, Bool.false_and, Bool.and_false, Bool.or_true, Bool.true_or, Bool.or_false, Bool.false_or, beq_self_eq_true, bne_self_eq_false, List.map_cons, List.map_nil, List.length_cons, List.length_nil, List.length_map, List.length_append, List.length_replicate, List.length_set, List.map_set, List.getElem?_cons_zero, List.getElem?_cons_succ, List.getD_cons_zero, List.getD_cons_succ, List.zip_cons_cons, List.zip_nil_left, List.zip_nil_right, List.take_succ_cons, List.take_zero, List.take_nil, List.drop_succ_cons, List.drop_zero, List.drop_nil, List.cons_append, List.nil_append, List.append_nil, List.set_cons_zero, List.set_cons_succ, List.all_cons, List.all_nil, List.toList_toArray, Nat.zero_add, Nat.add_zero, List.size_toArray, List.append_toArray, Array.toList_append, List.getElem?_toArray, gt_iff_lt, ge_iff_le, not_false_eq_true, ne_eq, not_true_eq_false, ↓forall_map, ↓List.forall_mem_cons, Int.toNat_natCast, Nat.lt_irrefl, Nat.le_refl, beq_iff_eq, List.range_zero, EW, PVR, rgs, resS_t, resS_m, resS_g, resV, eq_self, imp_self, implies_true, cnd_and, cnd_or, forall_const, true_imp_iff, beq_true, beq_false, List.isEmpty_nil, List.isEmpty_cons, List.mem_cons, List.not_mem_nil, or_false, false_or, or_true, true_or, List.filterMap_cons, List.filterMap_nil, id_contains_nil, id_contains, id_beq, MPR, decide_not, Bool.not_not, FAM, Nat.mul_one, Nat.zero_mul, wrap_i64, wrap_u64, wrap_u32, wrap_u8, getD_map, TIS, RES, ENC, *])) : p := h
theorem vc {p : Prop} (h : p := by ((try simp (disch := omega) only [All, mentLt, keepT, keepM, goY, stepS1, stepS2, guardS, execS, addC, pickS, cndAll, cndB, unw, mentsU, rdS, shS, labS, shp, keepOp, mk, wrapG, effG, newOk, usesNid, wrIn, wrOf, plainV, ASt.evU, Op.operands, Call.operands, aExec, aLoad, aStore, aBin, aNil, aUn, aConv, vInt, vStr, eqCells, aIndexAddr, aIdxOwn, aIdxSl, aLen, srcOf, aAppend, aAppOwn, aSlice, aFieldAddr, aField, partPV, setCells, fillPV, closeV, closeAll, closeC, closeCs, closeW, closeWs, ASt.app, ASt.eff, argSlots, argSlotsW, argSlotsP, dnum, TI.agg, TI.known, resPV, resAll, resOf, iPV, uPV, bPV, ren, ment, skipV, fnV, PV.flat, PV.flatN, Value.oneCell', closeL, closeLs, lnkAt, mvL, dropL, fillL, stOf, loadL, lsIn, aIdxPc, aSliceOwn, lsLt, blkLt, renL, aLookup, aMapUp, frzV, noId, noIdB, sw, ↓reduceIte, reduceIte, Nat.reduceEqDiff, reduceCtorEq, Nat.reduceAdd, Nat.reduceSub, Nat.reduceMul, Nat.reduceLeDiff, Nat.reduceBEq, Nat.reduceBNe, Int.reduceLT, Int.reduceLE, Int.reduceNeg, Int.reduceToNat, Int.reduceBEq, Int.reduceBNe, cond_true, cond_false, Option.getD_some, Option.getD_none, Option.map_some, Option.map_none, Option.bind_some, Option.bind_none, Prod.mk.injEq, false_and, and_false, true_and, and_true, and_self, decide_true, decide_false, Bool.false_eq_true, Bool.not_true, Bool.not_false, Bool.true_and, Bool.and_true, Bool.false_and, Bool.and_false, Bool.or_true, Bool.true_or, Bool.or_false, Bool.false_or, beq_self_eq_true, bne_self_eq_false, List.map_cons, List.map_nil, List.length_cons, List.length_nil, List.length_map, List.length_append, List.length_replicate, List.length_set, List.map_set, List.getElem?_cons_zero, List.getElem?_cons_succ, List.getD_cons_zero, List.getD_cons_succ, List.zip_cons_cons, List.zip_nil_left, List.zip_nil_right, List.take_succ_cons, List.take_zero, List.take_nil, List.drop_succ_cons, List.drop_zero, List.drop_nil, List.cons_append, List.nil_append, List.append_nil, List.set_cons_zero, List.set_cons_succ, List.all_cons, List.all_nil, List.toList_toArray, Nat.zero_add, Nat.add_zero, List.size_toArray, List.append_toArray, Array.toList_append, List.getElem?_toArray, gt_iff_lt, ge_iff_le, not_false_eq_true, ne_eq, not_true_eq_false, ↓forall_map, ↓List.forall_mem_cons, Int.toNat_natCast, Nat.lt_irrefl, Nat.le_refl, beq_iff_eq, List.range_zero, EW, PVR, rgs, resS_t, resS_m, resS_g, resV, eq_self, imp_self, implies_true, cnd_and, cnd_or, forall_const, true_imp_iff, beq_true, beq_false, List.isEmpty_nil, List.isEmpty_cons, List.mem_cons, List.not_mem_nil, or_false, false_or, or_true, true_or, List.filterMap_cons, List.filterMap_nil, id_contains_nil, id_contains, id_beq, MPR, decide_not, Bool.not_not, FAM, Nat.mul_one, Nat.zero_mul, wrap_i64, wrap_u64, wrap_u32, wrap_u8, getD_map, SV.c.injEq, SV.mo.injEq, PV.mp.injEq, SV.own.injEq, SV.ptr.injEq, SV.st.injEq, SV.pc.injEq, PV.v.injEq, PV.sl.injEq, PV.agg.injEq, PV.tup.injEq, PV.iface.injEq, PV.fn.injEq, PV.ref.injEq, Value.int.injEq, Value.bool.injEq, Value.string.injEq, Option.some.injEq, List.cons.injEq, Blk.mk.injEq, TIS, RES, ENC, *]); all_goals (first | trivial | omega | rfl | (simp; done) | (simp_all; done) | ((repeat' apply And.intro) <;> first | trivial | omega | rfl | (simp; done) | (simp_all; done) | (intros; first | omega | (simp_all; done) | (simp_all; omega))) | grind (splits := 40)))) : p := h
theorem resS_t (s : ASt) (i : Nat) : (resS s).t i = resV (s.t i) := rfl
theorem resS_m (s : ASt) : (resS s).m = s.m := rfl
theorem resS_g (s : ASt) : (resS s).g = s.g := rfl
theorem cnd_and (a b : Bool) : (bif a then b else false) = (a && b) := by cases a <;> rfl
theorem cnd_or (a b : Bool) : (bif a then true else b) = (a || b) := by cases a <;> rfl
/-- a call begins -/
theorem ent {f : Nat} {fn : Func} {c : Code} {args : List PV} {r : PV} (hf : P.funcs[f]? = some fn) (h : AW P fn.ntmps c (EndK P fn r) ⟨lk (argSlots 0 args), lkM [], lkG [] 0⟩) (hb : fn.body = some c := by rfl) (hpl : plainFn P f = true := by kernel_rfl) (hn : args.length ≤ fn.ntmps := by exact of_decide_eq_true (by kernel_rfl)) : ACalls P f args r := calls_of hf hb hpl hn h
theorem entW {f : Nat} {fn : Func} {c : Code} {args : List WA} {b : Blk} {r : PV} {es : List PV} (hf : P.funcs[f]? = some fn) (h : AW P fn.ntmps c (EndW P fn r b es) ⟨lk (argSlotsW b.elems.length 0 args), lkM [((0, 0), some ⟨b.T, b.sz, b.elems, true, [], none⟩)], lkG [(0, 1)] 0⟩) (hb : fn.body = some c := by rfl) (hpl : plainFn P f = true := by kernel_rfl) (hn : args.length ≤ fn.ntmps := by exact of_decide_eq_true (by kernel_rfl)) (hfl : r.flat = true := by rfl) (hlen : es.length = b.elems.length := by (first | rfl | (simp; done))) (hls : b.ls = [] := by rfl) (hmp : b.mp = none := by rfl) : WCalls P f args b r es := wcalls_of hf hb hpl hn hfl hlen hls hmp h
theorem entF {f : Nat} {fn : Func} {c : Code} {args : List PV} {b : Blk} (hf : P.funcs[f]? = some fn) (h : AW P fn.ntmps c (EndF fn b) ⟨lk (argSlots 0 args), lkM [], lkG [] 0⟩) (hb : fn.body = some c := by rfl) (hpl : plainFn P f = true := by kernel_rfl) (hn : args.length ≤ fn.ntmps := by exact of_decide_eq_true (by kernel_rfl)) (hls : b.ls = [] := by rfl) (hmp : b.mp = none := by rfl) : FCalls P f args b := fcalls_of hf hb hpl hn hls hmp h
theorem entG {f : Nat} {fn : Func} {c : Code} {args : List PV} {p : PV} {j : Nat} {b : Blk} (hf : P.funcs[f]? = some fn) (h : AW P fn.ntmps c (EndG P fn p j b) ⟨lk (argSlots 0 args), lkM [], lkG [] 0⟩) (hb : fn.body = some c := by rfl) (hpl : plainFn P f = true := by kernel_rfl) (hn : args.length ≤ fn.ntmps := by exact of_decide_eq_true (by kernel_rfl)) (hls : b.ls = [] := by rfl) (hmp : b.mp = none := by rfl) : GCalls P f args p j b := gcalls_of hf hb hpl hn hls hmp h
theorem entP {f : Nat} {fn : Func} {c : Code} {args : List WA} {b : Blk} {es : List PV} (hf : P.funcs[f]? = some fn) (h : AW P fn.ntmps c (EndP fn ⟨b.T, b.sz, es, true, [], none⟩) ⟨lk (argSlotsP b.elems.length 0 args), lkM [((0, 1), some ⟨b.T, b.sz, b.elems, true, [], none⟩)], lkG [(0, 2)] 0⟩) (hb : fn.body = some c := by rfl) (hpl : plainFn P f = true := by kernel_rfl) (hn : args.length ≤ fn.ntmps := by exact of_decide_eq_true (by kernel_rfl)) (hls : b.ls = [] := by rfl) (hmp : b.mp = none := by rfl) : PCalls P f args b es := pcalls_of hf hb hpl hn hls hmp h
/-- a region begins -/
theorem reg {id : Nat} {draw : Bool} {K : Exit → ASt → Prop} (h : Gos P ops ops.toList s [] (fun s' Λ => (draw = true → okRegionL ops Λ = true) ∧ K .normal (resS s')))
    (hd : dstOk N ops = true := by kernel_rfl) (hm : P.follows .mixedOrders = true := by exact mixed) : AW P N (.region id ops draw) K s := AW_reg hd hm h
/-- so many operations -/
theorem run {K : ASt → List Lab → Prop} (n : Nat) {l r : List Oper} {Λ Λ1 : List Lab} {p : Prop} (hk : Gos P ops r s1 Λ1 K)
    (h : goM P ops n l s True Λ = some (p, r, s1, Λ1) := by exact Go.Ab.evR) (hp : p := by exact Go.Ab.vc) : Gos P ops l s Λ K := (gos_runs n l s True Λ h hp hk).2
/-- a call by a contract -/
theorem call {K : ASt → List Lab → Prop} {o : Oper} {l : List Oper} {Λ : List Lab} {k : Nat} {f : Operand} {args : Array Operand} {ts : Array TypeId} {c : Bool} {p q : Prop} {ys : List PV} {r : PV} (hA : c = true → ACalls P k ys r)
    (hk : Gos P ops l (s.app o (wrapG o c (.c r)) .none) (Λ ++ [labS s o .none]) K)
    (ho : o.op = .call ⟨.value f, args, ts⟩ := by rfl) (hg : guardS ops o s = some c := by exact Go.Ab.evR) (hc : closeCs s.m (args.toList.map s.evU) = some (p, q, ys) := by exact Go.Ab.evR)
    (hf : s.evU f = fnV k := by exact Go.Ab.evT)
    (hp : c = true → (cndAll s o.op.operands.toList ∧ p ∧ (q ∨ r.flat = true)) := by exact Go.Ab.vc) : Gos P ops (o :: l) s Λ K := by
  refine ⟨_, _, stepL_sym (eff := .none) hg (by unfold effG; cases o.guard <;> rfl) rfl rfl (fun e => ?_) (fun _ id e => by cases e) (.inr (.inl fun _ _ e => by cases e)), hk⟩
  obtain ⟨h1, h2, h3⟩ := hp e
  have hin : ∀ x ∈ args.toList, (resS s).ev x = s.evU x := fun x hx => cndAll_mem h1 x (by rw [ho]; simp only [Op.operands, Call.operands]; simp only [Array.toList_append, List.mem_append]; exact .inr hx)
  refine .call f k args ts p q ys r ho ?_ ?_ h2 h3 (hA e)
  · rw [cndAll_mem h1 f (by rw [ho]; simp [Op.operands, Call.operands])]; exact hf
  · rw [List.map_congr_left hin]; exact hc
/-- a call of a closure by a contract -/
theorem ccall {K : ASt → List Lab → Prop} {o : Oper} {l : List Oper} {Λ : List Lab} {k : Nat} {cs : List PV} {f : Operand} {args : Array Operand} {ts : Array TypeId} {c : Bool} {p q : Prop} {ys : List PV} {r : PV} (hA : c = true → ACalls P k (ys ++ cs) r)
    (hk : Gos P ops l (s.app o (wrapG o c (.c r)) .none) (Λ ++ [labS s o .none]) K)
    (ho : o.op = .call ⟨.value f, args, ts⟩ := by rfl) (hg : guardS ops o s = some c := by exact Go.Ab.evR) (hc : closeCs s.m (args.toList.map s.evU) = some (p, q, ys) := by exact Go.Ab.evR)
    (hf : s.evU f = .c (.fn k cs) := by exact Go.Ab.evT)
    (hp : c = true → (cndAll s o.op.operands.toList ∧ p ∧ (q ∨ r.flat = true)) := by exact Go.Ab.vc) : Gos P ops (o :: l) s Λ K := by
  refine ⟨_, _, stepL_sym (eff := .none) hg (by unfold effG; cases o.guard <;> rfl) rfl rfl (fun e => ?_) (fun _ id e => by cases e) (.inr (.inl fun _ _ e => by cases e)), hk⟩
  obtain ⟨h1, h2, h3⟩ := hp e
  have hin : ∀ x ∈ args.toList, (resS s).ev x = s.evU x := fun x hx => cndAll_mem h1 x (by rw [ho]; simp only [Op.operands, Call.operands]; simp only [Array.toList_append, List.mem_append]; exact .inr hx)
  refine .ccall f k cs args ts p q ys r ho ?_ ?_ h2 h3 (hA e)
  · rw [cndAll_mem h1 f (by rw [ho]; simp [Op.operands, Call.operands])]; exact hf
  · rw [List.map_congr_left hin]; exact hc
/-- a call that writes a block -/
theorem wcall {K : ASt → List Lab → Prop} {o : Oper} {l : List Oper} {Λ : List Lab} {k : Nat} {f : Operand} {args : Array Operand} {ts : Array TypeId} {p : Prop} {ys : List WA} {b : Blk} {r : PV} {es : List PV} (id : Id) (hA : WCalls P k ys b r es)
    (hk : Gos P ops l (s.app o (.c r) (.set id { b with elems := es })) (Λ ++ [labS s o (.set id { b with elems := es })]) K)
    (ho : o.op = .call ⟨.value f, args, ts⟩ := by rfl) (hg : o.guard = none := by rfl) (hm : s.m id = some b := by exact Go.Ab.evR) (hrw : b.rw = true := by rfl) (hid : id ∈ (args.toList.map s.evU).filterMap ment := by exact Go.Ab.evT) (hc : closeWs s.m id (args.toList.map s.evU) = some (p, ys) := by exact Go.Ab.evR)
    (hf : s.evU f = fnV k := by exact Go.Ab.evT)
    (hp : cndAll s o.op.operands.toList ∧ p := by exact Go.Ab.vc) : Gos P ops (o :: l) s Λ K := by
  have hw : wrapG o true (.c r) = .c r := by unfold wrapG; rw [hg]
  have hin : ∀ x ∈ args.toList, (resS s).ev x = s.evU x := fun x hx => cndAll_mem hp.1 x (by rw [ho]; simp only [Op.operands, Call.operands]; simp only [Array.toList_append, List.mem_append]; exact .inr hx)
  refine ⟨_, _, ?_, hk⟩
  have := stepL_sym (P := P) (ops := ops) (s := s) (o := o) (c := true) (r := .c r) (eff := .set id { b with elems := es }) (by simp [guardS, hg]) (by simp [effG, hg]) rfl rfl (fun _ => ?_) (fun _ id' e => ?_) (.inl fun _ _ e => by cases e)
  · rw [hw] at this; exact this
  · refine .wcall f k args ts id b p ys r es ho ?_ hm hrw ?_ ?_ hp.2 hA
    · rw [cndAll_mem hp.1 f (by rw [ho]; simp [Op.operands, Call.operands])]; exact hf
    · rw [List.map_congr_left hin]; exact hid
    · rw [List.map_congr_left hin]; exact hc
  · simp only [wrOf, Option.some.injEq] at e
    subst e
    obtain ⟨z, hz, hz2⟩ := List.mem_filterMap.1 hid
    obtain ⟨y, hy, rfl⟩ := List.mem_map.1 hz
    unfold rdOf; rw [if_neg (by rw [ho]; simp [mk, shp])]
    exact mem_ments.2 ⟨y, by rw [ho]; simp only [Op.operands, Call.operands]; simp only [Array.toList_append, List.mem_append]; exact .inr hy, by rw [hin y hy]; exact hz2⟩
/-- a call that makes a row grow -/
theorem pcall {K : ASt → List Lab → Prop} {o : Oper} {l : List Oper} {Λ : List Lab} {k : Nat} {f : Operand} {args : Array Operand} {ts : Array TypeId} {p : Prop} {ys : List WA} {b : Blk} {es : List PV} (id : Id) (hA : PCalls P k ys b es)
    (hk : Gos P ops l (s.app o (.own id es.length) (.set id { b with elems := es })) (Λ ++ [⟨rdS s o, shS s o, some id, false⟩]) K)
    (ho : o.op = .call ⟨.value f, args, ts⟩ := by rfl) (hg : o.guard = none := by rfl) (hm : s.m id = some b := by exact Go.Ab.evR) (hrw : b.rw = true := by rfl) (hne : id.1 ≠ 0 ∨ id.2 ≠ 0 := by exact Go.Ab.vc) (hid : id ∈ (args.toList.map s.evU).filterMap ment := by exact Go.Ab.evT) (hc : closeWs s.m id (args.toList.map s.evU) = some (p, ys) := by exact Go.Ab.evR)
    (hf : s.evU f = fnV k := by exact Go.Ab.evT)
    (hp : cndAll s o.op.operands.toList ∧ p := by exact Go.Ab.vc) : Gos P ops (o :: l) s Λ K := by
  have hw : wrapG o true (.own id es.length) = .own id es.length := by unfold wrapG; rw [hg]
  have hin : ∀ x ∈ args.toList, (resS s).ev x = s.evU x := fun x hx => cndAll_mem hp.1 x (by rw [ho]; simp only [Op.operands, Call.operands]; simp only [Array.toList_append, List.mem_append]; exact .inr hx)
  refine ⟨_, _, ?_, hk⟩
  have := stepL_sym2 (P := P) (ops := ops) (s := s) (o := o) (c := true) false (r := .own id es.length) (eff := .set id { b with elems := es }) (by simp [guardS, hg]) (by simp [effG, hg]) rfl rfl (fun _ => ?_) (fun _ id' e => ?_) (fun e => by cases e)
  · rw [hw] at this; exact this
  · refine .pcall f k args ts id b p ys es _ rfl ho ?_ hm hrw hne ?_ ?_ hp.2 hA
    · rw [cndAll_mem hp.1 f (by rw [ho]; simp [Op.operands, Call.operands])]; exact hf
    · rw [List.map_congr_left hin]; exact hid
    · rw [List.map_congr_left hin]; exact hc
  · simp only [wrOf, Option.some.injEq] at e
    subst e
    obtain ⟨z, hz, hz2⟩ := List.mem_filterMap.1 hid
    obtain ⟨y, hy, rfl⟩ := List.mem_map.1 hz
    unfold rdOf; rw [if_neg (by rw [ho]; simp [mk, shp])]
    exact mem_ments.2 ⟨y, by rw [ho]; simp only [Op.operands, Call.operands]; simp only [Array.toList_append, List.mem_append]; exact .inr hy, by rw [hin y hy]; exact hz2⟩
/-- a call that hands back a new row -/
theorem fcall {K : ASt → List Lab → Prop} {o : Oper} {l : List Oper} {Λ : List Lab} {k : Nat} {f : Operand} {args : Array Operand} {ts : Array TypeId} {p q : Prop} {ys : List PV} {b : Blk} (hA : FCalls P k ys b)
    (hk : Gos P ops l (s.app o (.own (dnum o, s.g (dnum o)) b.elems.length) (.new b)) (Λ ++ [labS s o (.new b)]) K)
    (ho : o.op = .call ⟨.value f, args, ts⟩ := by rfl) (hg : o.guard = none := by rfl) (hc : closeCs s.m (args.toList.map s.evU) = some (p, q, ys) := by exact Go.Ab.evR)
    (hf : s.evU f = fnV k := by exact Go.Ab.evT)
    (hp : cndAll s o.op.operands.toList ∧ p ∧ q := by exact Go.Ab.vc) : Gos P ops (o :: l) s Λ K := by
  have hw : wrapG o true (.own (dnum o, s.g (dnum o)) b.elems.length) = .own (dnum o, s.g (dnum o)) b.elems.length := by unfold wrapG; rw [hg]
  have hin : ∀ x ∈ args.toList, (resS s).ev x = s.evU x := fun x hx => cndAll_mem hp.1 x (by rw [ho]; simp only [Op.operands, Call.operands]; simp only [Array.toList_append, List.mem_append]; exact .inr hx)
  refine ⟨_, _, ?_, hk⟩
  have := stepL_sym (P := P) (ops := ops) (s := s) (o := o) (c := true) (r := .own (dnum o, s.g (dnum o)) b.elems.length) (eff := .new b) (by simp [guardS, hg]) (by simp [effG, hg]) (by rw [ho]; rfl) rfl (fun _ => ?_) (fun _ id' e => by cases e) (.inr (.inl fun _ _ e => by cases e))
  · rw [hw] at this; exact this
  · refine .fcall f k args ts p q ys b _ rfl ho ?_ ?_ hp.2.1 hp.2.2 hA
    · rw [cndAll_mem hp.1 f (by rw [ho]; simp [Op.operands, Call.operands])]; exact hf
    · rw [List.map_congr_left hin]; exact hc
/-- a row that is written out, and may be written later -/
theorem opW {K : ASt → List Lab → Prop} {o : Oper} {l : List Oper} {Λ : List Lab} {T : TypeId} {len : Nat} {parts : Array (Nat × Operand)} {p : Prop} {sv : SV} {b : Blk}
    (hk : Gos P ops l (s.app o sv (.new { b with rw := true })) (Λ ++ [labS s o (.new { b with rw := true })]) K)
    (ho : o.op = .buildSlice T len parts := by rfl) (hg : o.guard = none := by rfl) (he : aExec P o.op s.evU s.m (dnum o, s.g (dnum o)) = some (p, sv, .new b) := by exact Go.Ab.evR) (hpl : plainV sv = true := by rfl)
    (hp : cndAll s o.op.operands.toList ∧ p := by exact Go.Ab.vc) : Gos P ops (o :: l) s Λ K := by
  have hw : wrapG o true sv = sv := by unfold wrapG; rw [hg]
  refine ⟨_, _, ?_, hk⟩
  have := stepL_sym (P := P) (ops := ops) (s := s) (o := o) (c := true) (r := sv) (eff := .new { b with rw := true }) (by simp [guardS, hg]) (by simp [effG, hg]) (by rw [ho]; rfl) hpl (fun _ => ?_) (fun _ id' e => by cases e) (.inr (.inl fun _ _ e => by cases e))
  · rw [hw] at this; exact this
  · refine .opW p sv b T len parts true ho ?_ hp.2
    have : aExec P o.op (resS s).ev (resS s).m (dnum o, (resS s).g (dnum o)) = aExec P o.op s.evU s.m (dnum o, s.g (dnum o)) :=
      exec_same (fun x hx => cndAll_mem hp.1 x (by simpa using hx)) (fun _ _ _ _ => rfl) (fun _ => rfl)
    rw [this]; exact he
/-- a row literal that is appended to, and read alone then -/
theorem opR {K : ASt → List Lab → Prop} {o : Oper} {l : List Oper} {Λ : List Lab} {T : TypeId} {len : Nat} {parts : Array (Nat × Operand)} {p : Prop} {sv : SV} {b : Blk}
    (hk : Gos P ops l (s.app o sv (.new { b with rw := false })) (Λ ++ [labS s o (.new { b with rw := false })]) K)
    (ho : o.op = .buildSlice T len parts := by rfl) (hg : o.guard = none := by rfl) (he : aExec P o.op s.evU s.m (dnum o, s.g (dnum o)) = some (p, sv, .new b) := by exact Go.Ab.evR) (hpl : plainV sv = true := by rfl)
    (hp : cndAll s o.op.operands.toList ∧ p := by exact Go.Ab.vc) : Gos P ops (o :: l) s Λ K := by
  have hw : wrapG o true sv = sv := by unfold wrapG; rw [hg]
  refine ⟨_, _, ?_, hk⟩
  have := stepL_sym (P := P) (ops := ops) (s := s) (o := o) (c := true) (r := sv) (eff := .new { b with rw := false }) (by simp [guardS, hg]) (by simp [effG, hg]) (by rw [ho]; rfl) hpl (fun _ => ?_) (fun _ id' e => by cases e) (.inr (.inl fun _ _ e => by cases e))
  · rw [hw] at this; exact this
  · refine .opW p sv b T len parts false ho ?_ hp.2
    have : aExec P o.op (resS s).ev (resS s).m (dnum o, (resS s).g (dnum o)) = aExec P o.op s.evU s.m (dnum o, s.g (dnum o)) :=
      exec_same (fun x hx => cndAll_mem hp.1 x (by simpa using hx)) (fun _ _ _ _ => rfl) (fun _ => rfl)
    rw [this]; exact he
/-- a row whose elements are rows that are nil: just nil -/
theorem opZ {K : ASt → List Lab → Prop} {o : Oper} {l : List Oper} {Λ : List Lab} {T : TypeId} {x y : Operand} {p : Prop} {sv : SV} {b : Blk} {n : Nat}
    (hk : Gos P ops l (s.app o sv (.new { b with elems := List.replicate n (.v (.slice none 0 0)) })) (Λ ++ [labS s o (.new { b with elems := List.replicate n (.v (.slice none 0 0)) })]) K)
    (ho : o.op = .makeSlice T x y := by rfl) (hg : o.guard = none := by rfl) (he : aExec P o.op s.evU s.m (dnum o, s.g (dnum o)) = some (p, sv, .new b) := by exact Go.Ab.evR) (hb : b.elems = List.replicate n (.sl []) := by rfl) (hpl : plainV sv = true := by rfl)
    (hp : cndAll s o.op.operands.toList ∧ p := by exact Go.Ab.vc) : Gos P ops (o :: l) s Λ K := by
  have hw : wrapG o true sv = sv := by unfold wrapG; rw [hg]
  have hz : ∀ e ∈ b.elems, e = .sl [] := fun e h => by rw [hb] at h; exact (List.mem_replicate.1 h).2
  have hm : b.elems.map (fun _ => PV.v (.slice none 0 0)) = List.replicate n (.v (.slice none 0 0)) := by rw [hb, List.map_replicate]
  refine ⟨_, _, ?_, hk⟩
  have := stepL_sym (P := P) (ops := ops) (s := s) (o := o) (c := true) (r := sv) (eff := .new { b with elems := b.elems.map fun _ => .v (.slice none 0 0) }) (by simp [guardS, hg]) (by simp [effG, hg]) (by rw [ho]; rfl) hpl (fun _ => ?_) (fun _ id' e => by cases e) (.inr (.inl fun _ _ e => by cases e))
  · rw [hw, hm] at this; exact this
  · refine .opZ p sv b T x y ho ?_ hp.2 hz
    have : aExec P o.op (resS s).ev (resS s).m (dnum o, (resS s).g (dnum o)) = aExec P o.op s.evU s.m (dnum o, s.g (dnum o)) :=
      exec_same (fun x hx => cndAll_mem hp.1 x (by simpa using hx)) (fun _ _ _ _ => rfl) (fun _ => rfl)
    rw [this]; exact he
/-- the same, under a test that is known to hold -/
theorem fcallI {K : ASt → List Lab → Prop} {o : Oper} {l : List Oper} {Λ : List Lab} {k : Nat} {f : Operand} {args : Array Operand} {ts : Array TypeId} {p q : Prop} {ys : List PV} {b : Blk} (hA : FCalls P k ys b)
    (hk : Gos P ops l (s.app o (wrapG o true (.own (dnum o, s.g (dnum o)) b.elems.length)) (.new b)) (Λ ++ [labS s o (.new b)]) K)
    (ho : o.op = .call ⟨.value f, args, ts⟩ := by rfl) (hg : guardS ops o s = some true := by exact Go.Ab.evR) (hc : closeCs s.m (args.toList.map s.evU) = some (p, q, ys) := by exact Go.Ab.evR)
    (hf : s.evU f = fnV k := by exact Go.Ab.evT)
    (hp : cndAll s o.op.operands.toList ∧ p ∧ q := by exact Go.Ab.vc) : Gos P ops (o :: l) s Λ K := by
  have hin : ∀ x ∈ args.toList, (resS s).ev x = s.evU x := fun x hx => cndAll_mem hp.1 x (by rw [ho]; simp only [Op.operands, Call.operands]; simp only [Array.toList_append, List.mem_append]; exact .inr hx)
  refine ⟨_, _, stepL_sym (P := P) (ops := ops) (s := s) (o := o) (c := true) (r := .own (dnum o, s.g (dnum o)) b.elems.length) (eff := .new b) hg (by unfold effG; cases o.guard <;> rfl) (by rw [ho]; rfl) rfl (fun _ => ?_) (fun _ id' e => by cases e) (.inr (.inl fun _ _ e => by cases e)), hk⟩
  refine .fcall f k args ts p q ys b _ rfl ho ?_ ?_ hp.2.1 hp.2.2 hA
  · rw [cndAll_mem hp.1 f (by rw [ho]; simp [Op.operands, Call.operands])]; exact hf
  · rw [List.map_congr_left hin]; exact hc
/-- a call that hands back a struct with a new row -/
theorem gcall {K : ASt → List Lab → Prop} {o : Oper} {l : List Oper} {Λ : List Lab} {k : Nat} {f : Operand} {args : Array Operand} {ts : Array TypeId} {p q : Prop} {ys : List PV} {x : PV} {j : Nat} {b : Blk} (hA : GCalls P k ys x j b)
    (hk : Gos P ops l (s.app o (.st x [(j, (dnum o, s.g (dnum o)), some b.elems.length)]) (.new b)) (Λ ++ [labS s o (.new b)]) K)
    (ho : o.op = .call ⟨.value f, args, ts⟩ := by rfl) (hg : o.guard = none := by rfl) (hc : closeCs s.m (args.toList.map s.evU) = some (p, q, ys) := by exact Go.Ab.evR)
    (hf : s.evU f = fnV k := by exact Go.Ab.evT)
    (hp : cndAll s o.op.operands.toList ∧ p ∧ q := by exact Go.Ab.vc) : Gos P ops (o :: l) s Λ K := by
  have hw : wrapG o true (.st x [(j, (dnum o, s.g (dnum o)), some b.elems.length)]) = .st x [(j, (dnum o, s.g (dnum o)), some b.elems.length)] := by unfold wrapG; rw [hg]
  have hin : ∀ x ∈ args.toList, (resS s).ev x = s.evU x := fun x hx => cndAll_mem hp.1 x (by rw [ho]; simp only [Op.operands, Call.operands]; simp only [Array.toList_append, List.mem_append]; exact .inr hx)
  refine ⟨_, _, ?_, hk⟩
  have := stepL_sym (P := P) (ops := ops) (s := s) (o := o) (c := true) (r := .st x [(j, (dnum o, s.g (dnum o)), some b.elems.length)]) (eff := .new b) (by simp [guardS, hg]) (by simp [effG, hg]) (by rw [ho]; rfl) rfl (fun _ => ?_) (fun _ id' e => by cases e) (.inr (.inl fun _ _ e => by cases e))
  · rw [hw] at this; exact this
  · refine .gcall f k args ts p q ys x j b _ rfl ho ?_ ?_ hp.2.1 hp.2.2 hA
    · rw [cndAll_mem hp.1 f (by rw [ho]; simp [Op.operands, Call.operands])]; exact hf
    · rw [List.map_congr_left hin]; exact hc
/-- a row that is not there yet gets a name -/
theorem seed {c : Code} {K : Exit → ASt → Prop} (i d T sz : Nat) (h : AW P N c K s1) (hi : s.t i = .nil := by exact Go.Ab.evR) (hd0 : d ≠ 0 := by decide)
    (hs : ASt.mk (upd s.t i (.own (d, s.g d) 0)) (updM s.m (d, s.g d) (some ⟨T, sz, [], true, [], none⟩)) (upd s.g d (s.g d + 1)) = s1 := by exact Go.Ab.evR) : AW P N c K s :=
  AW_seed i d T sz hd0 hi (by rw [hs]; exact h)
/-- a variable is written no more -/
theorem ro {c : Code} {K : Exit → ASt → Prop} (ir : Id) {b2 : Blk} (h : AW P N c K s1) (h2 : s.m ir = some b2 := by exact Go.Ab.evR)
    (hs : ASt.mk s.t (updM s.m ir (some { b2 with rw := false })) s.g = s1 := by exact Go.Ab.evR) : AW P N c K s :=
  AW_ro ir (by show AW P N c K (ASt.mk s.t _ s.g); rw [hs]; exact h) h2
/-- a struct's row is written no more: what the struct holds is data from here on -/
theorem frz {c : Code} {K : Exit → ASt → Prop} (iv : Id) {b1 b2 : Blk} {e : PV} {j : Nat} {ir : Id} {n : Option Nat} {rest : List Lnk} {p : Prop} {q : PV} (h : AW P N c K s1)
    (h1 : s.m iv = some b1 := by exact Go.Ab.evR) (he : b1.elems = [e] := by rfl) (hl : b1.ls = (j, ir, n) :: rest := by rfl) (h2 : s.m ir = some b2 := by exact Go.Ab.evR) (hq : frzV b2 n = some (p, q) := by exact Go.Ab.evR) (hn : p := by exact Go.Ab.vc) (hne : iv ≠ ir := by decide)
    (hs : ASt.mk s.t (updM (updM s.m ir (some { b2 with rw := false })) iv (some { b1 with elems := [.agg (e.cells.set j q)], ls := rest })) s.g = s1 := by exact Go.Ab.evR) : AW P N c K s :=
  AW_frz iv (by show AW P N c K (ASt.mk s.t _ s.g); rw [hs]; exact h) h1 he hl h2 hq hn hne
/-- a row is cut off -/
theorem cut {c : Code} {K : Exit → ASt → Prop} {lt : List (Nat × SV)} {lm : List (Id × Option Blk)} {g : Nat → Nat} (i : Nat) {id : Id} {n len : Nat} {b : Blk} (h : AW P N c K s1)
    (hi : lk lt i = .pc id n 0 len := by exact Go.Ab.evR) (hm : lkM lm id = some b := by exact Go.Ab.evR) (hn : n = b.elems.length := by exact Go.Ab.vc) (hrw : b.rw = true := by rfl) (hls : b.ls = [] := by rfl) (h0 : id.1 ≠ 0 := by exact Go.Ab.vc)
    (ht : All (fun x : Nat × SV => x.1 = i ∨ noId id x.2) lt := by exact Go.Ab.vc) (hl : All (fun x : Id × Option Blk => noIdB id x.2) lm := by exact Go.Ab.vc)
    (hs : ASt.mk (lk ((i, .own id len) :: lt)) (lkM ((id, some { b with elems := b.elems.take len }) :: lm)) g = s1 := by exact Go.Ab.evR) : AW P N c K ⟨lk lt, lkM lm, g⟩ :=
  AW_cut i (by rw [hs]; exact h) hi hm hn hrw hls h0 ht hl
/-- the region's end: what is kept -/
theorem fin {y : Code} {K : Exit → ASt → Prop} {Λ : List Lab} {draw : Bool} (ks : List Nat) (ms : List Id) (hk : AW P N y K s1)
    (h : ASt.mk (lk (keepT s.t ks)) (lkM (keepM s.m ms)) s.g = s1 := by exact Go.Ab.evR) (hpl : ((keepT s.t ks).all fun x => plainV x.2) = true := by exact Go.Ab.evT) (hok : draw = true → okRegionL ops Λ = true := by (first | (intro h; cases h; done) | (intro _; kernel_rfl))) :
    Gos P ops [] s Λ (fun s' Λ => (draw = true → okRegionL ops Λ = true) ∧ thenK (AW P N y K) K .normal (resS s')) := by
  refine ⟨hok, ?_⟩
  show AW P N y K (resS s)
  refine AW_keep ks ms ?_
  have : (ks.map fun i => (i, (resS s).t i)) = keepT s.t ks := by
    rw [keepT_eq] at hpl ⊢
    refine List.map_congr_left fun i hi => ?_
    have := List.all_eq_true.1 hpl (i, s.t i) (List.mem_map.2 ⟨i, hi, rfl⟩)
    simp only [resS]
    cases e : s.t i <;> simp_all [plainV, resV]
  rw [this, ← keepM_eq]
  show AW P N y K ⟨lk (keepT s.t ks), lkM (keepM s.m ms), s.g⟩
  rw [h]; exact hk
/-- the region's end, with nothing behind it -/
theorem finN {K : Exit → ASt → Prop} {Λ : List Lab} {draw : Bool} (hk : K .normal (resS s)) (hok : draw = true → okRegionL ops Λ = true := by (first | (intro h; cases h; done) | (intro _; kernel_rfl))) :
    Gos P ops [] s Λ (fun s' Λ => (draw = true → okRegionL ops Λ = true) ∧ K .normal (resS s')) := ⟨hok, hk⟩
/-- what comes behind is taken once, from states that are written out -/
theorem join {ι : Type} {x y : Code} {K : Exit → ASt → Prop} (canon : ι → ASt) (F : ι → Prop) (h : AW P N x (thenK (fun s' => ∃ j, F j ∧ ∃ r, Weak r s' (canon j)) K) s) (next : ∀ i, F i → AW P N y K (canon i)) : AW P N x (thenK (AW P N y K) K) s :=
  AW_mono h fun e s h => by
    cases e <;> first | exact h | (obtain ⟨j, hF, r, W⟩ := h; exact AW_weak _ W (next j hF))
/-- only what is kept -/
theorem kp {y : Code} {K : Exit → ASt → Prop} (ks : List Nat) (ms : List Id) (hk : AW P N y K s1) (h : ASt.mk (lk (keepT s.t ks)) (lkM (keepM s.m ms)) s.g = s1 := by exact Go.Ab.evR) : AW P N y K s := by
  refine AW_keep ks ms ?_
  rw [← keepT_eq, ← keepM_eq, h]; exact hk
/-- a state, forgotten down to lists -/
theorem wk {lt : List (Nat × SV)} {lm : List (Id × Option Blk)} {G : Nat} (ht : All (fun x => x.2 = s.t x.1) lt := by exact Go.Ab.vc) (hg : All (fun x => mentLt G x.2 = true) lt := by exact Go.Ab.vc)
    (hm : All (fun x => x.2 = s.m x.1) lm := by exact Go.Ab.vc) (hmg : All (blkLt G) lm := by exact Go.Ab.vc) : ∃ r, Weak r s ⟨lk lt, lkM lm, lkG [] G⟩ := ⟨fun i => i, weak_id lt lm G ht hg hm hmg⟩
/-- a test -/
theorem tst {c : Operand} {x y : Code} {K : Exit → ASt → Prop} {b : Bool} (ht : b = true → AW P N x K s) (hf : b = false → AW P N y K s) (hc : s.ev c = .c (.v (.bool b)) := by exact Go.Ab.evR) : AW P N (.cond c x y) K s := AW_cond hc ht hf
theorem tstA {c : Operand} {x y : Code} {K : Exit → ASt → Prop} (ht : AW P N x K s) (hf : AW P N y K s) (hc : s.ev c = .anyb := by exact Go.Ab.evT) : AW P N (.cond c x y) K s := AW_condA hc ht hf
theorem tstT {c : Operand} {x y : Code} {K : Exit → ASt → Prop} (ht : AW P N x K s) (hc : s.ev c = .c (.v (.bool true)) := by exact Go.Ab.evT) : AW P N (.cond c x y) K s := AW_cond hc (fun _ => ht) (fun h => by cases h)
theorem tstF {c : Operand} {x y : Code} {K : Exit → ASt → Prop} (hf : AW P N y K s) (hc : s.ev c = .c (.v (.bool false)) := by exact Go.Ab.evT) : AW P N (.cond c x y) K s := AW_cond hc (fun h => by cases h) (fun _ => hf)
theorem ret {fn : Func} {r r' : PV} {p : Prop} (e : r' = r) (h : resPV P fn s = some (p, r') := by exact Go.Ab.evR) (hp : p := by exact Go.Ab.vc) : EndK P fn r .ret s := ⟨p, e ▸ h, hp⟩
theorem retN {fn : Func} {r r' : PV} {p : Prop} (e : r' = r) (h : resPV P fn s = some (p, r') := by exact Go.Ab.evR) (hp : p := by exact Go.Ab.vc) : EndK P fn r .normal s := ⟨p, e ▸ h, hp⟩
theorem retW {fn : Func} {r : PV} {b b' : Blk} {es : List PV} {p : Prop} (e : b' = ⟨b.T, b.sz, es, true, [], none⟩) (h : resPV P fn s = some (p, r) := by exact Go.Ab.evR) (hm : s.m (0, 0) = some b' := by exact Go.Ab.evR) (hp : p := by exact Go.Ab.vc) : EndW P fn r b es .ret s := ⟨⟨p, h, hp⟩, e ▸ hm⟩
theorem retWN {fn : Func} {r : PV} {b b' : Blk} {es : List PV} {p : Prop} (e : b' = ⟨b.T, b.sz, es, true, [], none⟩) (h : resPV P fn s = some (p, r) := by exact Go.Ab.evR) (hm : s.m (0, 0) = some b' := by exact Go.Ab.evR) (hp : p := by exact Go.Ab.vc) : EndW P fn r b es .normal s := ⟨⟨p, h, hp⟩, e ▸ hm⟩
theorem retF {fn : Func} {b b' : Blk} {t : Nat} {id : Id} {n : Nat} (e : b' = b) (hr : fn.results.toList = [.tmp t] := by exact Go.Ab.evR) (ht : s.t t = .own id n := by exact Go.Ab.evR) (hid : id.1 ≠ 0 := by exact Go.Ab.vc) (hm : s.m id = some b' := by exact Go.Ab.evR) (hrw : b'.rw = true := by rfl) (hn : n = b'.elems.length := by exact Go.Ab.vc) : EndF fn b .ret s := ⟨t, id, n, hr, ht, hid, e ▸ hm, e ▸ hrw, e ▸ hn⟩
theorem retP {fn : Func} {b b' : Blk} {t n : Nat} (e : b' = b) (hr : fn.results.toList = [.tmp t] := by exact Go.Ab.evR) (ht : s.t t = .own (0, 1) n := by exact Go.Ab.evR) (hm : s.m (0, 1) = some b' := by exact Go.Ab.evR) (hrw : b'.rw = true := by rfl) (hn : n = b'.elems.length := by exact Go.Ab.vc) : EndP fn b .ret s := ⟨t, n, hr, ht, e ▸ hm, e ▸ hrw, e ▸ hn⟩
theorem retPN {fn : Func} {b b' : Blk} {t n : Nat} (e : b' = b) (hr : fn.results.toList = [.tmp t] := by exact Go.Ab.evR) (ht : s.t t = .own (0, 1) n := by exact Go.Ab.evR) (hm : s.m (0, 1) = some b' := by exact Go.Ab.evR) (hrw : b'.rw = true := by rfl) (hn : n = b'.elems.length := by exact Go.Ab.vc) : EndP fn b .normal s := ⟨t, n, hr, ht, e ▸ hm, e ▸ hrw, e ▸ hn⟩
theorem retG {fn : Func} {p p' : PV} {j : Nat} {b b' : Blk} {r : Nat} {T : TypeId} {id : Id} {n : Nat} {q : Prop} {eff : Eff} (e : p' = p) (e2 : b' = b) (hr : fn.results.toList = [.cell r T] := by exact Go.Ab.evR) (hl : aLoad P s.m T (s.t r) = some (q, .st p' [(j, id, some n)], eff) := by exact Go.Ab.evR) (hq : q := by exact Go.Ab.vc) (hid : id.1 ≠ 0 := by exact Go.Ab.vc) (hm : s.m id = some b' := by exact Go.Ab.evR) (hrw : b'.rw = true := by rfl) (hn : n = b'.elems.length := by exact Go.Ab.vc) : EndG P fn p j b .ret s := ⟨r, T, id, n, q, eff, hr, e ▸ hl, hq, hid, e2 ▸ hm, e2 ▸ hrw, e2 ▸ hn⟩
theorem retGN {fn : Func} {p p' : PV} {j : Nat} {b b' : Blk} {r : Nat} {T : TypeId} {id : Id} {n : Nat} {q : Prop} {eff : Eff} (e : p' = p) (e2 : b' = b) (hr : fn.results.toList = [.cell r T] := by exact Go.Ab.evR) (hl : aLoad P s.m T (s.t r) = some (q, .st p' [(j, id, some n)], eff) := by exact Go.Ab.evR) (hq : q := by exact Go.Ab.vc) (hid : id.1 ≠ 0 := by exact Go.Ab.vc) (hm : s.m id = some b' := by exact Go.Ab.evR) (hrw : b'.rw = true := by rfl) (hn : n = b'.elems.length := by exact Go.Ab.vc) : EndG P fn p j b .normal s := ⟨r, T, id, n, q, eff, hr, e ▸ hl, hq, hid, e2 ▸ hm, e2 ▸ hrw, e2 ▸ hn⟩
end
end Go.Ab
