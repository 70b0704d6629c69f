/-
  Contracts of the layer part on plain data: what a vertex hangs below, the partition of edges; the document's answer.
  Conditions: not too many places.
-/
import Derived.Test.YtlhgjaogpeoaeaaPartG
namespace Go.Proofs.Ytlhgjaogpeoaeaa
open Go Go.Ab
set_option linter.unusedVariables false
set_option linter.unusedSimpArgs false

theorem top_any (U : List Int) (v : Nat) (hL : Low U) (hv : v < U.length) (hl : U.length ≤ 1024) (T : List Int × Nat) (hT : topR v U v = T) (hTl : T.1.length = U.length) : WCalls Try.prog 21 [.own, .d (iPV v)] ⟨3, 1, (U).map iPV, true, [], none⟩ (iPV T.2) (T.1.map iPV) := by
  refine entW Try.func21 ?_ (hlen := by simpa using hTl)
  repeat (refine AW_seq ?_)
  refine reg ?_
  refine run 1 ?_
  refine fin [0, 1] [(0, 0)] ?_
  repeat (refine AW_seq ?_)
  refine AW_block ?_
  refine AW_loops (ι := Nat × List Int × Nat) (fun z => ⟨lk [(0, .own (0, 0) z.2.1.length), (1, .c (iPV z.2.2))], lkM [((0, 0), some ⟨3, 1, (z.2.1).map iPV, true, [], none⟩)], lkG [] 1⟩) (fun z => z.2.1.length = U.length ∧ Low z.2.1 ∧ z.2.2 ≤ z.1 ∧ z.2.2 < U.length ∧ topR z.1 z.2.1 z.2.2 = T) (fun z => z.2.2) (v, U, v) ⟨rfl, hL, Nat.le_refl _, hv, hT⟩ wk ?_
  rintro ⟨f, X, w⟩ ⟨hXl, hXL, hf, hw, hT⟩
  simp only at hXl hXL hf hw hT
  obtain ⟨k, gk, bk⟩ := low_nat hXL (i := w) (by omega)
  obtain ⟨k2, gk2, bk2⟩ := low_nat hXL (i := k) (by omega)
  obtain ⟨hXL, -⟩ : Go.RowKit.Hid (Low X) ∧ True := ⟨hXL, trivial⟩
  rename_i hXL0
  clear hXL0
  obtain ⟨hT, -⟩ : Go.RowKit.Hid (topR f X w = T) ∧ True := ⟨hT, trivial⟩
  rename_i hT0
  clear hT0
  repeat (refine AW_seq ?_)
  refine reg ?_
  refine run 2 ?_
  refine run 2 ?_
  refine run 2 ?_
  refine fin [0, 1, 10] [(0, 0)] ?_
  repeat (refine AW_seq ?_)
  refine tst (fun h1 => ?_) (fun h1 => ?_)
  · simp at h1
    obtain ⟨X2, eX2⟩ : ∃ k, X.set w (k2 : Int) = k := ⟨_, rfl⟩
    have mX2 : (X.map iPV).set w (PV.v (.int .i64 (k2 : Int))) = X2.map iPV := by rw [← eX2, List.map_set]; rfl
    have lX2 : X2.length = X.length := by rw [← eX2, List.length_set]
    have gX2 : X2.getD w default = (k2 : Int) := by rw [← eX2, getD_set (by omega), if_pos rfl]
    obtain ⟨eX2, -⟩ : Go.RowKit.Hid (X.set w (k2 : Int) = X2) ∧ True := ⟨eX2, trivial⟩
    rename_i eX20
    clear eX20
    refine AW_skip ?_
    repeat (refine AW_seq ?_)
    refine AW_block ?_
    repeat (refine AW_seq ?_)
    refine reg ?_
    refine run 2 ?_
    refine run 2 ?_
    refine run 2 ?_
    refine run 2 ?_
    refine run 2 ?_
    refine run 1 ?_
    refine fin [0, 1] [(0, 0)] ?_
    repeat (refine AW_seq ?_)
    refine reg ?_
    refine run 2 ?_
    refine run 2 ?_
    refine run 1 ?_
    refine finN ?_
    obtain ⟨f', rfl⟩ : ∃ f', f = f' + 1 := ⟨f - 1, by omega⟩
    refine ⟨(f', X2, k2), by show k2 < w; omega, ⟨by show X2.length = _; omega, by show Low X2; rw [← eX2.out]; exact hXL.out.set (by omega) (by omega) (by omega), by show k2 ≤ f'; omega, by show k2 < _; omega, by show topR f' X2 k2 = T; rw [← eX2.out, ← topR_step gk gk2 (by omega)]; exact hT.out⟩, wk⟩
  · simp at h1
    have eT : (X, w) = T := by rw [← hT.out, topR_end (by rw [gk]; omega)]
    subst eT
    simp only
    refine AW_exit ?_
    repeat (refine AW_seq ?_)
    refine reg ?_
    refine run 2 ?_
    refine fin [4] [(0, 0)] ?_
    refine AW_ret (retW ?_)
    rfl

def ofPV (n : Nat) (l : List Ed) : PV := if MayE n l then .tup [.sl ((partR n l).map iPV), iPV 0] else .tup [.sl [], iPV 1]

theorem of_out (n : Int) (l : List Ed) (h : n < 0 ∨ 1024 < n) : ACalls Try.prog 10 [iPV n, .sl (l.map edPV)] (.tup [.sl [], iPV 1]) := by
  refine ent Try.func10 ?_
  repeat (refine AW_seq ?_)
  refine reg ?_
  refine run 2 ?_
  refine fin [0, 1] [] ?_
  repeat (refine AW_seq ?_)
  refine reg ?_
  refine run 2 ?_
  refine run 2 ?_
  refine run 2 ?_
  refine fin [0, 1, 17] [] ?_
  repeat (refine AW_seq ?_)
  refine tst (fun h1 => ?_) (fun h1 => ?_)
  · simp at h1
    repeat (refine AW_seq ?_)
    refine reg ?_
    refine run 2 ?_
    refine fin [4, 5] [] ?_
    refine AW_ret (ret ?_)
    rfl
  · (exfalso; grind)

theorem of_any (n : Nat) (hn : n ≤ 1024) (l : List Ed) (hl : l.length < 1099511627776) : ACalls Try.prog 10 [iPV n, .sl (l.map edPV)] (ofPV n l) := by
  refine ent Try.func10 ?_
  have c0 := alone_any n hn
  have hA := aloneR_len n
  have hS : Low (aloneR n) ∧ ∀ f, Hang (aloneR n) f ↔ Resp (l.take 0) f := ⟨aloneR_low n, fun f => ⟨fun _ e he => by simp at he, fun _ => aloneR_hang n f⟩⟩
  obtain ⟨A0, eA0⟩ : ∃ k, aloneR n = k := ⟨_, rfl⟩
  rw [eA0] at c0 hA hS
  obtain ⟨hS, -⟩ : Go.RowKit.Hid (Low A0 ∧ ∀ f, Hang A0 f ↔ Resp (l.take 0) f) ∧ True := ⟨hS, trivial⟩
  rename_i hS0
  clear hS0
  clear eA0
  repeat (refine AW_seq ?_)
  refine reg ?_
  refine run 2 ?_
  refine fin [0, 1] [] ?_
  repeat (refine AW_seq ?_)
  refine reg ?_
  refine run 2 ?_
  refine run 2 ?_
  refine run 2 ?_
  refine fin [0, 1, 17] [] ?_
  repeat (refine AW_seq ?_)
  refine tst (fun h1 => ?_) (fun h1 => ?_)
  · (exfalso; simp at h1; omega)
  · simp at h1
    refine AW_skip ?_
    repeat (refine AW_seq ?_)
    refine reg ?_
    refine run 1 ?_
    refine fcall (c0) ?_
    refine run 1 ?_
    refine fin [0, 1, 6] [(20, 0)] ?_
    repeat (refine AW_seq ?_)
    refine reg ?_
    refine run 2 ?_
    refine run 1 ?_
    refine fin [0, 6, 20, 21, 22] [(20, 0)] ?_
    repeat (refine AW_seq ?_)
    refine AW_block ?_
    refine AW_loops (ι := Nat × List Int) (fun z => ⟨lk [(0, .c (iPV n)), (6, .own (20, 0) z.2.length), (20, .c (.sl (l.map edPV))), (21, .c (iPV l.length)), (22, .c (iPV z.1))], lkM [((20, 0), some ⟨3, 1, (z.2).map iPV, true, [], none⟩)], lkG [] 1⟩) (fun z => z.1 ≤ l.length ∧ z.2.length = n ∧ Low z.2 ∧ (∀ k, k < z.1 → EdIn n (l.getD k default)) ∧ ∀ f, Hang z.2 f ↔ Resp (l.take z.1) f) (fun z => l.length - z.1) (0, A0) ⟨Nat.zero_le _, hA, hS.out.1, fun k h => absurd h (Nat.not_lt_zero k), hS.out.2⟩ wk ?_
    rintro ⟨i, X⟩ ⟨hi, hXl, hXL, hE, hF⟩
    simp only at hi hXl hXL hE hF
    obtain ⟨hXL, -⟩ : Go.RowKit.Hid (Low X) ∧ True := ⟨hXL, trivial⟩
    rename_i hXL0
    clear hXL0
    obtain ⟨hE, -⟩ : Go.RowKit.Hid (∀ k, k < i → EdIn n (l.getD k default)) ∧ True := ⟨hE, trivial⟩
    rename_i hE0
    clear hE0
    obtain ⟨hF, -⟩ : Go.RowKit.Hid (∀ f, Hang X f ↔ Resp (l.take i) f) ∧ True := ⟨hF, trivial⟩
    rename_i hF0
    clear hF0
    repeat (refine AW_seq ?_)
    refine reg ?_
    refine run 1 ?_
    refine fin [0, 6, 20, 21, 22, 23] [(20, 0)] ?_
    repeat (refine AW_seq ?_)
    refine tst (fun h2 => ?_) (fun h2 => ?_)
    · simp at h2
      obtain ⟨x, hx, gx⟩ := getD_at h2
      obtain ⟨xu, xv, xt⟩ := x
      refine AW_skip ?_
      repeat (refine AW_seq ?_)
      refine AW_block ?_
      repeat (refine AW_seq ?_)
      refine reg ?_
      refine run 2 ?_
      refine run 2 ?_
      refine fin [0, 6, 8, 20, 21, 22] [(9, 1), (20, 0)] ?_
      repeat (refine AW_seq ?_)
      refine reg ?_
      refine run 2 ?_
      refine run 1 ?_
      refine call (fun _ => isPlace_any n xu) ?_
      refine run 2 ?_
      refine run 2 ?_
      refine run 1 ?_
      refine call (fun _ => isPlace_any n xv) ?_
      refine run 2 ?_
      refine fin [0, 6, 8, 20, 21, 22, 37] [(9, 1), (20, 0)] ?_
      repeat (refine AW_seq ?_)
      refine tst (fun h3 => ?_) (fun h3 => ?_)
      · simp at h3
        repeat (refine AW_seq ?_)
        refine reg ?_
        refine run 2 ?_
        refine fin [4, 5] [] ?_
        refine AW_ret (ret ?_)
        rw [ofPV, if_neg (fun g => by have := g _ (List.mem_of_getElem? hx); unfold EdIn at this; dsimp only at this; omega)]; rfl
      · simp at h3
        have hu : 0 ≤ xu ∧ xu < n := by omega
        have hv : 0 ≤ xv ∧ xv < n := by omega
        clear h3
        obtain ⟨u, rfl⟩ : ∃ k : Nat, xu = k := ⟨xu.toNat, by omega⟩
        obtain ⟨v, rfl⟩ : ∃ k : Nat, xv = k := ⟨xv.toNat, by omega⟩
        have ok1 := topR_ok u X u hXL.out (by omega) (Nat.le_refl _)
        obtain ⟨T1, e1⟩ : ∃ T, topR u X u = T := ⟨_, rfl⟩
        rw [e1] at ok1
        have c3 := top_any X u hXL.out (by omega) (by omega) T1 e1 ok1.len
        obtain ⟨Y, a⟩ := T1
        simp only at ok1 c3
        have lY := ok1.len
        have ok2 := topR_ok v Y v ok1.low (by omega) (Nat.le_refl _)
        obtain ⟨T2, e2⟩ : ∃ T, topR v Y v = T := ⟨_, rfl⟩
        rw [e2] at ok2
        have c4 := top_any Y v ok1.low (by omega) (by omega) T2 e2 ok2.len
        obtain ⟨Z, b⟩ := T2
        simp only at ok2 c4
        have lZ := ok2.len
        have ba := ok1.le
        have bb := ok2.le
        clear e1 e2
        obtain ⟨m1, e1⟩ : ∃ k, min a b = k := ⟨_, rfl⟩
        obtain ⟨m2, e2⟩ : ∃ k, max a b = k := ⟨_, rfl⟩
        have em1 : (if (b : Int) < (a : Int) then (b : Int) else (a : Int)) = (m1 : Int) := by omega
        have em2 : (if (a : Int) < (b : Int) then (b : Int) else (a : Int)) = (m2 : Int) := by omega
        have em3 : (if b < a then (b : Int) else (a : Int)) = (m1 : Int) := by omega
        have em4 : (if a < b then (b : Int) else (a : Int)) = (m2 : Int) := by omega
        have bm2 : m2 < n := by omega
        obtain ⟨W, eW⟩ : ∃ k, Z.set m2 (m1 : Int) = k := ⟨_, rfl⟩
        have mW : (Z.map iPV).set m2 (PV.v (.int .i64 (m1 : Int))) = W.map iPV := by rw [← eW, List.map_set]; rfl
        have lW : W.length = Z.length := by rw [← eW, List.length_set]
        have hso := step_ok hXl hx hF.out ok1 ok2 (by omega) (by omega) e1 e2 eW
        obtain ⟨hso, -⟩ : Go.RowKit.Hid (W.length = n ∧ Low W ∧ ∀ f, Hang W f ↔ Resp (l.take (i + 1)) f) ∧ True := ⟨hso, trivial⟩
        rename_i hso0
        clear hso0
        clear eW e1 e2 ok1 ok2
        refine AW_skip ?_
        repeat (refine AW_seq ?_)
        refine reg ?_
        refine run 2 ?_
        refine run 1 ?_
        refine wcall (20, 0) (c3) ?_
        refine run 2 ?_
        refine run 1 ?_
        refine wcall (20, 0) (c4) ?_
        refine run 2 ?_
        refine fin [0, 6, 9, 10, 20, 21, 22] [(20, 0)] ?_
        repeat (refine AW_seq ?_)
        refine reg ?_
        refine run 2 ?_
        refine run 2 ?_
        refine run 2 ?_
        refine run 2 ?_
        refine run 1 ?_
        refine finN ?_
        refine kp [0, 6, 20, 21, 22] [(20, 0)] ?_
        repeat (refine AW_seq ?_)
        refine reg ?_
        refine run 2 ?_
        refine finN ?_
        refine ⟨(i + 1, W), by show l.length - (i + 1) < l.length - i; omega, ⟨by show i + 1 ≤ _; omega, hso.out.1, hso.out.2.1, fun k g => ?_, hso.out.2.2⟩, wk⟩
        rcases Nat.lt_or_ge k i with g3 | g3
        · exact hE.out k g3
        · have g : k < i + 1 := g
          obtain rfl : k = i := by omega
          rw [gx]; unfold EdIn; dsimp only; omega
    · simp at h2
      have hmay : MayE n l := may_all (by omega) hE.out
      have hF2 : ∀ f, Hang X f ↔ Resp l f := by
        have e : l.take i = l := List.take_of_length_le (by omega)
        have := hF.out
        rwa [e] at this
      obtain ⟨hmay, -⟩ : Go.RowKit.Hid (MayE n l) ∧ True := ⟨hmay, trivial⟩
      rename_i hmay0
      clear hmay0
      refine AW_exit ?_
      repeat (refine AW_seq ?_)
      refine reg ?_
      refine run 2 ?_
      refine run 1 ?_
      refine fin [6, 56, 57] [(20, 0)] ?_
      repeat (refine AW_seq ?_)
      refine AW_block ?_
      refine AW_loops (ι := Nat × List Int) (fun z => ⟨lk [(6, .own (20, 0) z.2.length), (56, .c (iPV n)), (57, .c (iPV z.1))], lkM [((20, 0), some ⟨3, 1, (z.2).map iPV, true, [], none⟩)], lkG [] 1⟩) (fun z => z.1 ≤ n ∧ z.2.length = n ∧ Low z.2 ∧ (∀ f, Hang z.2 f ↔ Resp l f) ∧ ∀ j : Nat, j < z.1 → z.2.getD (z.2.getD j default).toNat default = z.2.getD j default) (fun z => n - z.1) (0, X) ⟨Nat.zero_le _, hXl, hXL.out, hF2, fun k h => absurd h (Nat.not_lt_zero k)⟩ wk ?_
      rintro ⟨i, X⟩ ⟨hi, hXl, hXL, hF, hC⟩
      simp only at hi hXl hXL hF hC
      obtain ⟨hXL, -⟩ : Go.RowKit.Hid (Low X) ∧ True := ⟨hXL, trivial⟩
      rename_i hXL0
      clear hXL0
      obtain ⟨hF, -⟩ : Go.RowKit.Hid (∀ f, Hang X f ↔ Resp l f) ∧ True := ⟨hF, trivial⟩
      rename_i hF0
      clear hF0
      obtain ⟨hC, -⟩ : Go.RowKit.Hid (∀ j : Nat, j < i → X.getD (X.getD j default).toNat default = X.getD j default) ∧ True := ⟨hC, trivial⟩
      rename_i hC0
      clear hC0
      repeat (refine AW_seq ?_)
      refine reg ?_
      refine run 1 ?_
      refine fin [6, 56, 57, 58] [(20, 0)] ?_
      repeat (refine AW_seq ?_)
      refine tst (fun h4 => ?_) (fun h4 => ?_)
      · simp at h4
        obtain ⟨k, gk, bk⟩ := low_nat hXL.out (i := i) (by omega)
        obtain ⟨k2, gk2, bk2⟩ := low_nat hXL.out (i := k) (by omega)
        have hst := flat_step hXL.out (by omega) gk gk2 bk hC.out
        obtain ⟨X2, eX2⟩ : ∃ k, X.set i (k2 : Int) = k := ⟨_, rfl⟩
        have mX2 : (X.map iPV).set i (PV.v (.int .i64 (k2 : Int))) = X2.map iPV := by rw [← eX2, List.map_set]; rfl
        have lX2 : X2.length = X.length := by rw [← eX2, List.length_set]
        obtain ⟨hst, -⟩ : Go.RowKit.Hid ((∀ f, Hang (X.set i (k2 : Int)) f ↔ Hang X f) ∧ (∀ j : Nat, j < i + 1 → (X.set i (k2 : Int)).getD ((X.set i (k2 : Int)).getD j default).toNat default = (X.set i (k2 : Int)).getD j default) ∧ k2 ≤ i) ∧ True := ⟨hst, trivial⟩
        rename_i hst0
        clear hst0
        obtain ⟨eX2, -⟩ : Go.RowKit.Hid (X.set i (k2 : Int) = X2) ∧ True := ⟨eX2, trivial⟩
        rename_i eX20
        clear eX20
        refine AW_skip ?_
        repeat (refine AW_seq ?_)
        refine AW_block ?_
        repeat (refine AW_seq ?_)
        refine reg ?_
        refine run 2 ?_
        refine fin [6, 11, 56, 57] [(20, 0)] ?_
        repeat (refine AW_seq ?_)
        refine reg ?_
        refine run 2 ?_
        refine run 2 ?_
        refine run 2 ?_
        refine run 2 ?_
        refine run 2 ?_
        refine run 1 ?_
        refine finN ?_
        refine kp [6, 56, 57] [(20, 0)] ?_
        repeat (refine AW_seq ?_)
        refine reg ?_
        refine run 2 ?_
        refine finN ?_
        refine ⟨(i + 1, X2), by show n - (i + 1) < n - i; omega, ⟨by show i + 1 ≤ n; omega, by show X2.length = n; omega, by show Low X2; rw [← eX2.out]; exact hXL.out.set (by omega) (by omega) (by omega), ?_, ?_⟩, wk⟩
        · show ∀ f, Hang X2 f ↔ Resp l f
          rw [← eX2.out]; exact fun f => (hst.out.1 f).trans (hF.out f)
        · show ∀ j : Nat, j < i + 1 → X2.getD (X2.getD j default).toNat default = X2.getD j default
          rw [← eX2.out]; exact hst.out.2.1
      · simp at h4
        refine AW_exit ?_
        repeat (refine AW_seq ?_)
        refine dt 6 (20, 0) ?_
        refine reg ?_
        refine run 2 ?_
        refine run 1 ?_
        refine fin [4, 5] [(20, 0)] ?_
        refine AW_ret (ret ?_)
        have e1 : i = n := by omega
        rw [ofPV, if_pos hmay.out, partR_eq hmay.out (isP_of_hang hXl hXL.out hF.out (fun j hj => hC.out j (by omega)))]; rfl

end Go.Proofs.Ytlhgjaogpeoaeaa