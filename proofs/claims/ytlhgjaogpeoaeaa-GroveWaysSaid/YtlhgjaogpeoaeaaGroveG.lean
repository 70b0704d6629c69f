/-
  Contracts of the layer grove on plain data: the steps towards a root.
  Conditions: not too many edges.
-/
import Derived.Test.YtlhgjaogpeoaeaaGroveF
namespace Go.Proofs.Ytlhgjaogpeoaeaa
open Go Go.Ab
set_option linter.unusedVariables false
set_option linter.unusedSimpArgs false

/-- numbers of vertices -/
def In (n : Nat) (O : List Int) : Prop := ∀ x ∈ O, 0 ≤ x ∧ x < n
theorem snocCase {O : List Int} (h : 0 < O.length) : ∃ O1 x, O = O1 ++ [x] := ⟨O.dropLast, O.getLast (by intro g; rw [g] at h; cases h), (List.dropLast_concat_getLast _).symm⟩
theorem getD_snoc (O1 : List Int) (x : Int) : (O1 ++ [x]).getD O1.length default = x := by
  rw [List.getD_eq_getElem?_getD, List.getElem?_append_right (Nat.le_refl _), Nat.sub_self]; rfl
theorem drop_at {α : Type} [Inhabited α] {l : List α} {j : Nat} (h : j < l.length) : l.drop j = l.getD j default :: l.drop (j + 1) := by
  rw [List.drop_eq_getElem_cons h, List.getD_eq_getElem?_getD, List.getElem?_eq_getElem h]; rfl
theorem outR_end {l : List Ed} {f : Nat} {B T : List St} {O : List Int} (h : outR l f B O = (T, [])) (hO : O.length = 0) : B = T := by
  rw [List.length_eq_zero_iff.1 hO, outR_nil] at h
  simpa using h
theorem outR_pos {l : List Ed} {f : Nat} {B T : List St} {O : List Int} (h : outR l f B O = (T, [])) (hO : 0 < O.length) : ∃ f', f = f' + 1 := by
  cases f with
  | zero => simp only [outR, Prod.mk.injEq] at h; rw [h.2] at hO; cases hO
  | succ f => exact ⟨f, rfl⟩
theorem arnd_in {n v : Nat} {l : List Ed} (hm : MayE n l) {s : St} (h : s ∈ arnd l v) : 0 ≤ s.w ∧ s.w < n := by
  obtain ⟨h1, h2⟩ := arnd_mem h
  have := hm _ h1
  unfold EdIn at this; unfold jn at h2; omega

theorem steps_any (n r : Nat) (hn : n ≤ 1024) (l : List Ed) (hl : l.length ≤ 1024) (hm : MayE n l) (hr : r < n) (T : List St) (hT : outR l n ((List.replicate n default).set r ⟨default, r⟩) [(r : Int)] = (T, [])) : FCalls Try.prog 18 [iPV n, .sl (l.map edPV), iPV r] ⟨47, 4, (T).map stPV, true, [], none⟩ := by
  refine entF Try.func18 ?_
  have hsr : ∀ l, srPV l = .sl (l.map stPV) := fun _ => rfl
  have c1 := (around_any n hn l (by omega) hm).a
  have hAl := aroundR_len n l
  have hAg : ∀ v, v < n → (aroundR n l).getD v default = arnd l v := fun v hv => by
    unfold aroundR
    rw [List.getD_eq_getElem?_getD, List.getElem?_map, List.getElem?_range hv]; rfl
  obtain ⟨B0, eB0⟩ : ∃ B0, (List.replicate n (default : St)).set r ⟨default, r⟩ = B0 := ⟨_, rfl⟩
  have mB0 : (List.replicate n (PV.agg [PV.v (.int .i64 0), PV.v (.int .i64 0), PV.v (.int .i64 0), PV.v (.int .i64 0)])).set r (PV.agg [PV.v (.int .i64 0), PV.v (.int .i64 0), PV.v (.int .i64 0), PV.v (.int .i64 (r : Int))]) = B0.map stPV := by rw [← eB0, List.map_set, List.map_replicate]; rfl
  have lB0 : B0.length = n := by rw [← eB0]; simp
  rw [eB0] at hT
  clear eB0
  obtain ⟨hT, -⟩ : Go.RowKit.Hid (outR l n B0 [(r : Int)] = (T, [])) ∧ True := ⟨hT, trivial⟩
  rename_i hT0
  clear hT0
  obtain ⟨hm, -⟩ : Go.RowKit.Hid (MayE n l) ∧ True := ⟨hm, trivial⟩
  rename_i hm0
  clear hm0
  obtain ⟨AA, eAA⟩ : ∃ zz, aroundR n l = zz := ⟨_, rfl⟩
  rw [eAA] at c1 hAl hAg
  obtain ⟨hAg, -⟩ : Go.RowKit.Hid (∀ v, v < n → AA.getD v default = arnd l v) ∧ True := ⟨hAg, trivial⟩
  rename_i hAg0
  clear hAg0
  repeat (refine AW_seq ?_)
  refine reg ?_
  refine run 1 ?_
  refine fin [0, 1, 2] [] ?_
  repeat (refine AW_seq ?_)
  refine reg ?_
  refine run 2 ?_
  refine call (fun _ => c1) ?_
  refine run 1 ?_
  refine fin [0, 2, 7] [] ?_
  repeat (refine AW_seq ?_)
  refine reg ?_
  refine run 2 ?_
  refine run 1 ?_
  refine fin [2, 7, 8] [(18, 0)] ?_
  repeat (refine AW_seq ?_)
  refine reg ?_
  refine run 2 ?_
  refine run 2 ?_
  refine run 2 ?_
  refine fin [2, 7, 8] [(18, 0)] ?_
  repeat (refine AW_seq ?_)
  refine reg ?_
  refine run 1 ?_
  refine opW ?_
  refine run 1 ?_
  refine fin [7, 8, 9] [(18, 0), (25, 0)] ?_
  repeat (refine AW_seq ?_)
  refine AW_block ?_
  refine AW_loops (ι := Nat × List St × List Int) (fun z => ⟨lk [(7, .c (.sl (AA.map srPV))), (8, .own (18, 0) z.2.1.length), (9, .own (25, 0) z.2.2.length)], lkM ([((18, 0), some ⟨47, 4, (z.2.1).map stPV, true, [], none⟩), ((25, 0), some ⟨3, 1, (z.2.2).map iPV, true, [], none⟩)]), lkG [] 1⟩) (fun z => z.1 ≤ n ∧ outR l z.1 z.2.1 z.2.2 = (T, []) ∧ z.2.1.length = n ∧ In n z.2.2 ∧ z.2.2.length ≤ 1 + (n - z.1) * 2048) (fun z => z.1) (n, B0, [(r : Int)]) ⟨Nat.le_refl _, hT.out, lB0, (fun x hx => by rw [List.mem_singleton] at hx; omega), by show 1 ≤ _; omega⟩ wk ?_
  rintro ⟨fo, B, O⟩ ⟨hf, hO, hB, hI, hOl⟩
  simp only at hf hO hB hI hOl
  obtain ⟨hO, -⟩ : Go.RowKit.Hid (outR l fo B O = (T, [])) ∧ True := ⟨hO, trivial⟩
  rename_i hO0
  clear hO0
  obtain ⟨hI, -⟩ : Go.RowKit.Hid (In n O) ∧ True := ⟨hI, trivial⟩
  rename_i hI0
  clear hI0
  repeat (refine AW_seq ?_)
  refine reg ?_
  refine run 2 ?_
  refine run 1 ?_
  refine fin [7, 8, 9, 27] [(18, 0), (25, 0)] ?_
  repeat (refine AW_seq ?_)
  refine tst (fun h1 => ?_) (fun h1 => ?_)
  · simp at h1
    obtain ⟨O1, x, hO1⟩ := snocCase h1
    have hx := hI.out x (by rw [hO1]; exact List.mem_append_right _ List.mem_cons_self)
    obtain ⟨v, rfl⟩ : ∃ k : Nat, x = k := ⟨x.toNat, by omega⟩
    have hv : v < n := by omega
    clear hx
    have hlen : O.length = O1.length + 1 := by rw [hO1, List.length_append]; rfl
    have f1 : ((O1.length + 1 : Nat) : Int) - 1 = (O1.length : Int) := by omega
    have f2 : (O1.length : Int) + 1 - 1 = (O1.length : Int) := by omega
    have gx : O.getD O1.length default = (v : Int) := by rw [hO1]; exact getD_snoc O1 v
    have mO1 : (O.map iPV).take O1.length = O1.map iPV := by rw [← List.map_take, hO1, List.take_left]
    obtain ⟨f, rfl⟩ := outR_pos hO.out h1
    have hI1 : In n O1 := fun y hy => hI.out y (by rw [hO1]; exact List.mem_append_left _ hy)
    obtain ⟨A, eA⟩ : ∃ A, arnd l v = A := ⟨_, rfl⟩
    have gA := hAg.out v hv
    rw [eA] at gA
    have hAm : ∀ s ∈ A, 0 ≤ s.w ∧ s.w < n := fun s hs => arnd_in hm.out (by rw [eA]; exact hs)
    have hAl2 : A.length ≤ 2048 := by rw [← eA]; have := arnd_len v l; omega
    obtain ⟨P, eP⟩ : ∃ P, inn v A B O1 = P := ⟨_, rfl⟩
    have hP2 : outR l f P.1 P.2 = (T, []) := by
      have := hO.out
      rw [hO1, outR_snoc, eA, eP] at this; exact this
    clear hO1 hI hO
    obtain ⟨hI1, -⟩ : Go.RowKit.Hid (In n O1) ∧ True := ⟨hI1, trivial⟩
    rename_i hI10
    clear hI10
    obtain ⟨eP, -⟩ : Go.RowKit.Hid (inn v A B O1 = P) ∧ True := ⟨eP, trivial⟩
    rename_i eP0
    clear eP0
    obtain ⟨hAm, -⟩ : Go.RowKit.Hid (∀ s ∈ A, 0 ≤ s.w ∧ s.w < n) ∧ True := ⟨hAm, trivial⟩
    rename_i hAm0
    clear hAm0
    obtain ⟨hP2, -⟩ : Go.RowKit.Hid (outR l f P.1 P.2 = (T, [])) ∧ True := ⟨hP2, trivial⟩
    rename_i hP20
    clear hP20
    refine AW_skip ?_
    repeat (refine AW_seq ?_)
    refine AW_block ?_
    repeat (refine AW_seq ?_)
    refine reg ?_
    refine run 2 ?_
    refine run 2 ?_
    refine run 2 ?_
    refine run 1 ?_
    refine fin [7, 8, 9, 10] [(18, 0), (25, 0)] ?_
    repeat (refine AW_seq ?_)
    refine reg ?_
    refine run 2 ?_
    refine run 2 ?_
    refine run 2 ?_
    refine fin [7, 8, 9, 10] [(18, 0), (25, 0)] ?_
    refine cut 9 ?_
    repeat (refine AW_seq ?_)
    refine reg ?_
    refine run 2 ?_
    refine run 2 ?_
    refine run 2 ?_
    refine fin [7, 8, 9, 10, 42, 43, 44] [(18, 0), (25, 0)] ?_
    repeat (refine AW_seq ?_)
    refine AW_block ?_
    refine AW_loops (ι := Nat × List St × List Int) (fun z => ⟨lk [(7, .c (.sl (AA.map srPV))), (8, .own (18, 0) z.2.1.length), (9, .own (25, 0) z.2.2.length), (10, .c (iPV v)), (42, .c (.sl (A.map stPV))), (43, .c (iPV A.length)), (44, .c (iPV z.1))], lkM ([((18, 0), some ⟨47, 4, (z.2.1).map stPV, true, [], none⟩), ((25, 0), some ⟨3, 1, (z.2.2).map iPV, true, [], none⟩)]), lkG [] 1⟩) (fun z => z.1 ≤ A.length ∧ inn v (A.drop z.1) z.2.1 z.2.2 = P ∧ z.2.1.length = n ∧ In n z.2.2 ∧ z.2.2.length ≤ 1 + (n - (f + 1)) * 2048 + z.1) (fun z => A.length - z.1) (0, B, O1) ⟨Nat.zero_le _, eP.out, hB, hI1.out, by show O1.length ≤ _; omega⟩ wk ?_
    rintro ⟨j, B, O⟩ ⟨hj, hP, hB, hI, hOl⟩
    simp only at hj hP hB hI hOl
    obtain ⟨hP, -⟩ : Go.RowKit.Hid (inn v (A.drop j) B O = P) ∧ True := ⟨hP, trivial⟩
    rename_i hP0
    clear hP0
    obtain ⟨hI, -⟩ : Go.RowKit.Hid (In n O) ∧ True := ⟨hI, trivial⟩
    rename_i hI0
    clear hI0
    repeat (refine AW_seq ?_)
    refine reg ?_
    refine run 1 ?_
    refine fin [7, 8, 9, 10, 42, 43, 44, 45] [(18, 0), (25, 0)] ?_
    repeat (refine AW_seq ?_)
    refine tst (fun h2 => ?_) (fun h2 => ?_)
    · simp at h2
      obtain ⟨s, hs, gs⟩ := getD_at h2
      have hw := hAm.out s (List.mem_of_getElem? hs)
      obtain ⟨⟨su, sv, st⟩, sw⟩ := s
      simp only at hw
      obtain ⟨w, rfl⟩ : ∃ k : Nat, sw = k := ⟨sw.toNat, by omega⟩
      have hw2 : w < n := by omega
      clear hw
      obtain ⟨bw, gw⟩ : ∃ q, (B.getD v default).w = q := ⟨_, rfl⟩
      refine AW_skip ?_
      repeat (refine AW_seq ?_)
      refine AW_block ?_
      repeat (refine AW_seq ?_)
      refine reg ?_
      refine run 2 ?_
      refine run 2 ?_
      refine fin [7, 8, 9, 10, 12, 42, 43, 44] [(13, 1), (18, 0), (25, 0)] ?_
      repeat (refine AW_seq ?_)
      refine reg ?_
      refine run 2 ?_
      refine run 2 ?_
      refine run 2 ?_
      refine run 2 ?_
      refine fin [7, 8, 9, 10, 12, 42, 43, 44, 55] [(13, 1), (18, 0), (25, 0)] ?_
      repeat (refine AW_seq ?_)
      refine tst (fun h3 => ?_) (fun h3 => ?_)
      · simp at h3
        obtain ⟨B2, eB2⟩ : ∃ q, B.set w (⟨⟨su, sv, st⟩, v⟩ : St) = q := ⟨_, rfl⟩
        have mB2 : (B.map stPV).set w (PV.agg [PV.v (.int .i64 su), PV.v (.int .i64 sv), PV.v (.int .i64 st), PV.v (.int .i64 (v : Int))]) = B2.map stPV := by rw [← eB2, List.map_set]; rfl
        have lB2 : B2.length = B.length := by rw [← eB2, List.length_set]
        obtain ⟨O2, eO2⟩ : ∃ q, O ++ [(w : Int)] = q := ⟨_, rfl⟩
        have mO2 : O.map iPV ++ [PV.v (.int .i64 (w : Int))] = O2.map iPV := by rw [← eO2, List.map_append]; rfl
        have lO2 : O2.length = O.length + 1 := by rw [← eO2, List.length_append]; rfl
        obtain ⟨eB2, -⟩ : Go.RowKit.Hid (B.set w (⟨⟨su, sv, st⟩, v⟩ : St) = B2) ∧ True := ⟨eB2, trivial⟩
        rename_i eB20
        clear eB20
        obtain ⟨eO2, -⟩ : Go.RowKit.Hid (O ++ [(w : Int)] = O2) ∧ True := ⟨eO2, trivial⟩
        rename_i eO20
        clear eO20
        repeat (refine AW_seq ?_)
        refine reg ?_
        refine run 2 ?_
        refine run 2 ?_
        refine run 2 ?_
        refine run 2 ?_
        refine run 1 ?_
        refine fin [7, 8, 9, 10, 12, 42, 43, 44] [(13, 1), (18, 0), (25, 0)] ?_
        repeat (refine AW_seq ?_)
        refine reg ?_
        refine run 2 ?_
        refine run 2 ?_
        refine run 2 ?_
        refine finN ?_
        refine kp [7, 8, 9, 10, 42, 43, 44] [(18, 0), (25, 0)] ?_
        repeat (refine AW_seq ?_)
        refine reg ?_
        refine run 2 ?_
        refine finN ?_
        exact ⟨(j + 1, B2, O2), by show A.length - (j + 1) < A.length - j; omega, ⟨by show j + 1 ≤ _; omega, by
          show inn v (A.drop (j + 1)) B2 O2 = P
          have := hP.out
          rw [drop_at h2, gs, inn, if_pos (by rw [gw]; exact h3)] at this
          rw [← eB2.out, ← eO2.out]; exact this, by show B2.length = n; omega, by
          show In n O2
          rw [← eO2.out]; intro y hy
          rcases List.mem_append.1 hy with hy | hy
          · exact hI.out y hy
          · rw [List.mem_singleton] at hy; omega, by show O2.length ≤ 1 + (n - (f + 1)) * 2048 + (j + 1); omega⟩, wk⟩
      · simp at h3
        refine AW_skip ?_
        repeat (refine AW_seq ?_)
        refine reg ?_
        refine run 2 ?_
        refine finN ?_
        exact ⟨(j + 1, B, O), by show A.length - (j + 1) < A.length - j; omega, ⟨by show j + 1 ≤ _; omega, by
          show inn v (A.drop (j + 1)) B O = P
          have := hP.out
          rw [drop_at h2, gs, inn, if_neg (by rw [gw]; exact fun g => g h3)] at this
          exact this, hB, hI.out, by show O.length ≤ 1 + (n - (f + 1)) * 2048 + (j + 1); omega⟩, wk⟩
    · simp at h2
      refine AW_exit ?_
      have e1 : P = (B, O) := by
        have := hP.out
        rw [List.drop_eq_nil_of_le (by omega), inn] at this; exact this.symm
      exact ⟨(f, B, O), by show f < f + 1; omega, ⟨by show f ≤ n; omega, by
        have := hP2.out
        rw [e1] at this; exact this, hB, hI.out, by show O.length ≤ 1 + (n - f) * 2048; omega⟩, wk⟩
  · simp at h1
    refine AW_exit ?_
    repeat (refine AW_seq ?_)
    refine reg ?_
    refine run 2 ?_
    refine fin [6] [(18, 0)] ?_
    refine AW_ret (retF ?_)
    rw [outR_end hO.out (by simp [h1])]

end Go.Proofs.Ytlhgjaogpeoaeaa