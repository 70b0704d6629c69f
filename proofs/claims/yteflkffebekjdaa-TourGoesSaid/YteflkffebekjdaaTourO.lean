/-
  The law of whatever is linked, cut and rerooted, on plain data.
  Conditions: none.
-/
import Derived.Test.YteflkffebekjdaaTourJ
namespace Go.Proofs.Yteflkffebekjdaa
open Go Go.Ab
set_option linter.unusedVariables false
set_option linter.unusedSimpArgs false

theorem join2 {P : Program} {N : Nat} {s : ASt} {ι : Type} {x y : Code} {K : Exit → ASt → Prop} (canon : ι → ASt) (F : ι → Prop) (h : AW P N x (thenK (fun s' => ∀ y K', (∀ i, F i → AW P N y K' (canon i)) → AW P N y K' s') K) s) (next : ∀ i, F i → AW P N y K (canon i)) : AW P N x (thenK (AW P N y K) K) s :=
  AW_mono h fun e s h => by
    cases e <;> first | exact h | exact h y K next
theorem toJ {P : Program} {N : Nat} {s : ASt} {ι : Type} {y : Code} {K : Exit → ASt → Prop} {canon : ι → ASt} {F : ι → Prop} (nx : ∀ i, F i → AW P N y K (canon i)) (j : ι) (hF : F j) (W : ∃ r, Weak r s (canon j)) : AW P N y K s := by
  obtain ⟨r, W⟩ := W
  exact AW_weak _ W (nx j hF)

theorem at_any (T : List (List Int)) (v : Int) (hl : T.length < 1000) (ht : Go.RowKit.Hid (∀ t ∈ T, t.length < 1000)) : ACalls Try.prog 12 [.sl (T.map rowPV), iPV v] (iPV (atR T v)) := by
  refine ent Try.func12 ?_
  have hrow : ∀ t, rowPV t = .sl (t.map iPV) := fun _ => rfl
  repeat (refine AW_seq ?_)
  refine reg ?_
  refine run 1 ?_
  refine fin [0, 1] [] ?_
  repeat (refine AW_seq ?_)
  refine reg ?_
  refine run 2 ?_
  refine run 1 ?_
  refine fin [1, 7, 8, 9] [] ?_
  repeat (refine AW_seq ?_)
  refine AW_block ?_
  refine AW_loops (ι := Nat) (fun i => ⟨lk [(1, .c (iPV v)), (7, .c (.sl (T.map rowPV))), (8, .c (iPV T.length)), (9, .c (iPV i))], lkM [], lkG [] 0⟩) (fun i => i ≤ T.length ∧ ∀ (k : Nat) (y : List Int), k < i → T[k]? = some y → v ∉ y) (fun i => T.length - i) 0 ⟨Nat.zero_le _, fun k y h => absurd h (Nat.not_lt_zero k)⟩ wk ?_
  rintro i ⟨hi, hF⟩
  obtain ⟨hF, -⟩ : Go.RowKit.Hid (∀ (k : Nat) (y : List Int), k < i → T[k]? = some y → v ∉ y) ∧ True := ⟨hF, trivial⟩
  rename_i hF0
  clear hF0
  repeat (refine AW_seq ?_)
  refine reg ?_
  refine run 1 ?_
  refine fin [1, 7, 8, 9, 10] [] ?_
  repeat (refine AW_seq ?_)
  refine tst (fun h1 => ?_) (fun h1 => ?_)
  · simp at h1
    obtain ⟨t, hx, gx⟩ := getD_at h1
    have cf := first_any t v (by have := ht.out t (List.mem_of_getElem? hx); omega)
    obtain ⟨G, eG⟩ : ∃ k, fstP t v = k := ⟨_, rfl⟩
    rw [eG] at cf
    obtain ⟨eG, -⟩ : Go.RowKit.Hid (fstP t v = G) ∧ True := ⟨eG, trivial⟩
    rename_i eG0
    clear eG0
    refine AW_skip ?_
    repeat (refine AW_seq ?_)
    refine AW_block ?_
    repeat (refine AW_seq ?_)
    refine reg ?_
    refine run 2 ?_
    refine run 2 ?_
    refine run 1 ?_
    refine fin [1, 5, 6, 7, 8, 9] [] ?_
    repeat (refine AW_seq ?_)
    refine reg ?_
    refine run 2 ?_
    refine call (fun _ => cf) ?_
    refine run 1 ?_
    refine fin [1, 5, 7, 8, 9, 17] [] ?_
    repeat (refine AW_seq ?_)
    refine tst (fun h2 => ?_) (fun h2 => ?_)
    · simp at h2
      repeat (refine AW_seq ?_)
      refine reg ?_
      refine run 2 ?_
      refine fin [4] [] ?_
      refine AW_ret (ret ?_)
      rw [atR_at hx (by have := fst_ge t v; rw [eG.out] at this; simp_all) hF.out]; rfl
    · simp at h2
      refine AW_skip ?_
      repeat (refine AW_seq ?_)
      refine reg ?_
      refine run 2 ?_
      refine finN ?_
      exact ⟨i + 1, by omega, ⟨by omega, fun k y g1 g2 => by
        rcases Nat.lt_or_ge k i with g3 | g3
        · exact hF.out k y g3 g2
        · obtain rfl : k = i := by omega
          rw [hx, Option.some.injEq] at g2; subst g2
          intro hv; have := fst_ge t v; rw [eG.out, decide_eq_true hv] at this; simp at this; omega⟩, wk⟩
  · simp at h1
    refine AW_exit ?_
    repeat (refine AW_seq ?_)
    refine reg ?_
    refine run 1 ?_
    refine fin [4] [] ?_
    refine AW_ret (ret ?_)
    rw [atR_none (by omega) hF.out]; rfl

set_option maxHeartbeats 4000000 in
theorem tourGoes_any (l : List Stp) : ACalls Try.prog 4 [.sl (l.map stpPV)] (bPV true) := by
  refine ent Try.func4 ?_
  have hrow : ∀ t, rowPV t = .sl (t.map iPV) := fun _ => rfl
  have h00 : ((0 : Nat) : Int) = 0 := rfl
  repeat (refine AW_seq ?_)
  refine reg ?_
  refine run 1 ?_
  refine fin [0] [] ?_
  repeat (refine AW_seq ?_)
  refine reg ?_
  refine run 2 ?_
  refine run 1 ?_
  refine fin [0, 27] [] ?_
  repeat (refine AW_seq ?_)
  refine tst (fun h1 => ?_) (fun h1 => ?_)
  · simp at h1
    repeat (refine AW_seq ?_)
    refine reg ?_
    refine call (fun _ => awake_true) ?_
    refine run 1 ?_
    refine fin [2] [] ?_
    refine AW_ret (ret ?_)
    rfl
  · simp at h1
    refine AW_skip ?_
    repeat (refine AW_seq ?_)
    refine reg ?_
    refine run 1 ?_
    refine fin [0, 3] [] ?_
    refine seed 3 4 22 1 ?_
    repeat (refine AW_seq ?_)
    refine reg ?_
    refine run 1 ?_
    refine fin [0, 3, 4] [(4, 0)] ?_
    refine seed 4 5 38 3 ?_
    repeat (refine AW_seq ?_)
    refine reg ?_
    refine run 1 ?_
    refine fin [0, 3, 4, 29] [(4, 0), (5, 0)] ?_
    repeat (refine AW_seq ?_)
    refine AW_block ?_
    refine AW_loops (ι := Nat × List (List Int)) (fun z => ⟨lk [(0, .c (.sl (l.map stpPV))), (3, .own (4, 0) z.2.length), (4, .own (5, 0) 0), (29, .c (iPV z.1))], lkM [((4, 0), some ⟨22, 1, (z.2).map rowPV, true, [], none⟩), ((5, 0), some ⟨38, 3, [], true, [], none⟩)], lkG [] 1⟩) (fun z => z.1 ≤ 8 ∧ z.2.length = z.1 ∧ z.2 = (List.range z.1).map fun k : Nat => [(k : Int)]) (fun z => 8 - z.1) (0, []) ⟨Nat.zero_le _, rfl, rfl⟩ wk ?_
    rintro ⟨i, T⟩ ⟨hi, hTl, hT⟩
    simp only at hi hTl hT
    obtain ⟨hT, -⟩ : Go.RowKit.Hid (T = (List.range i).map fun k : Nat => [(k : Int)]) ∧ True := ⟨hT, trivial⟩
    rename_i hT0
    clear hT0
    repeat (refine AW_seq ?_)
    refine reg ?_
    refine run 1 ?_
    refine fin [0, 3, 4, 29, 30] [(4, 0), (5, 0)] ?_
    repeat (refine AW_seq ?_)
    refine tst (fun h2 => ?_) (fun h2 => ?_)
    · simp at h2
      obtain ⟨T2, eT2⟩ : ∃ k, T ++ [[(i : Int)]] = k := ⟨_, rfl⟩
      have mT2 : T.map rowPV ++ [PV.sl [PV.v (.int .i64 (i : Int))]] = T2.map rowPV := by rw [← eT2, List.map_append]; rfl
      have lT2 : T2.length = T.length + 1 := by rw [← eT2, List.length_append]; rfl
      obtain ⟨eT2, -⟩ : Go.RowKit.Hid (T ++ [[(i : Int)]] = T2) ∧ True := ⟨eT2, trivial⟩
      rename_i eT20
      clear eT20
      refine AW_skip ?_
      repeat (refine AW_seq ?_)
      refine AW_block ?_
      repeat (refine AW_seq ?_)
      refine reg ?_
      refine run 2 ?_
      refine fin [0, 3, 4, 5, 29] [(4, 0), (5, 0)] ?_
      repeat (refine AW_seq ?_)
      refine reg ?_
      refine run 2 ?_
      refine run 2 ?_
      refine run 2 ?_
      refine finN ?_
      refine kp [0, 3, 4, 29] [(4, 0), (5, 0)] ?_
      repeat (refine AW_seq ?_)
      refine reg ?_
      refine run 2 ?_
      refine finN ?_
      refine ⟨(i + 1, T2), by show 8 - (i + 1) < 8 - i; omega, ⟨by show i + 1 ≤ 8; omega, by show T2.length = i + 1; omega, by show T2 = _; rw [← eT2.out, List.range_succ, List.map_append, ← hT.out]; rfl⟩, wk⟩
    · simp at h2
      have hi8 : i = 8 := by omega
      have hS : Inv T [] := by rw [hT.out, hi8]; exact Inv.start
      refine AW_exit ?_
      repeat (refine AW_seq ?_)
      refine reg ?_
      refine run 2 ?_
      refine run 1 ?_
      refine fin [3, 4, 38, 39, 40] [(4, 0), (5, 0)] ?_
      repeat (refine AW_seq ?_)
      refine AW_block ?_
      refine AW_loops (ι := Nat × List (List Int) × List Ed) (fun z => ⟨lk [(3, .own (4, 0) z.2.1.length), (4, .own (5, 0) z.2.2.length), (38, .c (.sl (l.map stpPV))), (39, .c (iPV l.length)), (40, .c (iPV z.1))], lkM [((4, 0), some ⟨22, 1, (z.2.1).map rowPV, true, [], none⟩), ((5, 0), some ⟨38, 3, (z.2.2).map edPV, true, [], none⟩)], lkG [] 1⟩) (fun z => z.1 ≤ l.length ∧ Inv z.2.1 z.2.2) (fun z => l.length - z.1) (0, T, []) ⟨Nat.zero_le _, hS⟩ wk ?_
      rintro ⟨i, T, A⟩ ⟨hi, hI⟩
      simp only at hi hI
      have bT := hI.many
      have bA := hI.fewE
      obtain ⟨hI, -⟩ : Go.RowKit.Hid (Inv T A) ∧ True := ⟨hI, trivial⟩
      rename_i hI0
      clear hI0
      repeat (refine AW_seq ?_)
      refine reg ?_
      refine run 1 ?_
      refine fin [3, 4, 38, 39, 40, 41] [(4, 0), (5, 0)] ?_
      repeat (refine AW_seq ?_)
      refine tst (fun h3 => ?_) (fun h3 => ?_)
      · simp at h3
        obtain ⟨x, hx, gx⟩ := getD_at h3
        obtain ⟨cu, rt, u, v⟩ := x
        have hl2 : ∀ t ∈ T, t.length ≤ 15 := fun t h => hI.out.len h
        obtain ⟨hl2, -⟩ : Go.RowKit.Hid (∀ t ∈ T, t.length ≤ 15) ∧ True := ⟨hl2, trivial⟩
        rename_i hl20
        clear hl20
        refine AW_skip ?_
        repeat (refine AW_seq ?_)
        refine AW_block ?_
        repeat (refine AW_seq ?_)
        refine reg ?_
        refine run 2 ?_
        refine run 2 ?_
        refine fin [3, 4, 7, 38, 39, 40] [(4, 0), (5, 0), (8, 1)] ?_
        repeat (refine AW_seq ?_)
        refine reg ?_
        refine run 2 ?_
        refine run 2 ?_
        refine run 2 ?_
        refine run 2 ?_
        refine run 2 ?_
        refine run 2 ?_
        refine run 2 ?_
        refine run 2 ?_
        refine run 2 ?_
        refine fin [3, 4, 7, 38, 39, 40, 61] [(4, 0), (5, 0), (8, 1)] ?_
        repeat (refine AW_seq ?_)
        refine tst (fun h4 => ?_) (fun h4 => ?_)
        · simp at h4
          repeat (refine AW_seq ?_)
          refine reg ?_
          refine call (fun _ => awake_true) ?_
          refine run 1 ?_
          refine fin [2] [] ?_
          refine AW_ret (ret ?_)
          rfl
        · simp at h4
          have hu0 : 0 ≤ u ∧ u ≤ 7 := by omega
          have hv0 : 0 ≤ v ∧ v ≤ 7 := by omega
          obtain ⟨ni, ti, xi, ui, ai⟩ := hI.out.has hu0.1 hu0.2
          obtain ⟨nj, tj, xj, vj, aj⟩ := hI.out.has hv0.1 hv0.2
          have c1 := at_any T u (by omega) (fun t ht => by have := hl2.out t ht; omega)
          have c2 := at_any T v (by omega) (fun t ht => by have := hl2.out t ht; omega)
          rw [ai] at c1
          rw [aj] at c2
          have fi : decide ((ni : Int) < 0) = false := by simp
          have fj : decide ((nj : Int) < 0) = false := by simp
          have li := (List.getElem?_eq_some_iff.1 xi).1
          have lj := (List.getElem?_eq_some_iff.1 xj).1
          have gi : T.getD ni default = ti := by rw [List.getD_eq_getElem?_getD, xi]; rfl
          have gj : T.getD nj default = tj := by rw [List.getD_eq_getElem?_getD, xj]; rfl
          have bi := hl2.out _ (List.mem_of_getElem? xi)
          have bj := hl2.out _ (List.mem_of_getElem? xj)
          have isi := hI.out.tours ti (List.mem_of_getElem? xi)
          have isj := hI.out.tours tj (List.mem_of_getElem? xj)
          obtain ⟨eu, heu⟩ : ∃ k, min u v = k := ⟨_, rfl⟩
          obtain ⟨ev, hev⟩ : ∃ k, max u v = k := ⟨_, rfl⟩
          have hed : ed u v = ⟨eu, ev, 0⟩ := by rw [ed, heu, hev]
          have heu1 : (if v < u then v else u) = eu := by omega
          have hev1 : (if v > u then v else u) = ev := by omega
          have hev2 : (if u < v then v else u) = ev := by omega
          obtain ⟨hed, -⟩ : Go.RowKit.Hid (ed u v = ⟨eu, ev, 0⟩) ∧ True := ⟨hed, trivial⟩
          rename_i hed0
          clear hed0
          obtain ⟨xi, -⟩ : Go.RowKit.Hid (T[ni]? = some ti) ∧ True := ⟨xi, trivial⟩
          rename_i xi0
          clear xi0
          obtain ⟨xj, -⟩ : Go.RowKit.Hid (T[nj]? = some tj) ∧ True := ⟨xj, trivial⟩
          rename_i xj0
          clear xj0
          obtain ⟨ui, -⟩ : Go.RowKit.Hid (u ∈ ti) ∧ True := ⟨ui, trivial⟩
          rename_i ui0
          clear ui0
          obtain ⟨vj, -⟩ : Go.RowKit.Hid (v ∈ tj) ∧ True := ⟨vj, trivial⟩
          rename_i vj0
          clear vj0
          obtain ⟨isi, -⟩ : Go.RowKit.Hid (isT ti = true) ∧ True := ⟨isi, trivial⟩
          rename_i isi0
          clear isi0
          obtain ⟨isj, -⟩ : Go.RowKit.Hid (isT tj = true) ∧ True := ⟨isj, trivial⟩
          rename_i isj0
          clear isj0
          clear ai aj heu hev
          have hln := hI.out.linkR xi.out xj.out ui.out vj.out
          obtain ⟨hln, -⟩ : Go.RowKit.Hid ((ni = nj → (linkR ti tj u v).2 = 4) ∧ (ni ≠ nj → linkR ti tj u v = (frm ti u ++ frm tj v ++ [u], 0))) ∧ True := ⟨hln, trivial⟩
          rename_i hln0
          clear hln0
          refine AW_skip ?_
          repeat (refine AW_seq ?_)
          refine reg ?_
          refine run 2 ?_
          refine run 1 ?_
          refine call (fun _ => c1) ?_
          refine run 2 ?_
          refine run 1 ?_
          refine call (fun _ => c2) ?_
          refine run 2 ?_
          refine fin [3, 4, 7, 8, 9, 38, 39, 40] [(4, 0), (5, 0), (8, 1)] ?_
          repeat (refine AW_seq ?_)
          refine reg ?_
          refine run 2 ?_
          refine run 2 ?_
          refine run 2 ?_
          refine fin [3, 4, 7, 8, 9, 38, 39, 40, 76] [(4, 0), (5, 0), (8, 1)] ?_
          repeat (refine AW_seq ?_)
          refine tstF ?_
          refine AW_skip ?_
          repeat (refine AW_seq ?_)
          refine reg ?_
          refine run 2 ?_
          refine run 2 ?_
          refine run 2 ?_
          refine run 2 ?_
          refine run 2 ?_
          refine run 2 ?_
          refine run 1 ?_
          refine fin [3, 4, 7, 8, 9, 10, 38, 39, 40] [(4, 0), (5, 0), (8, 1), (11, 1)] ?_
          repeat (refine AW_seq ?_)
          refine reg ?_
          refine run 1 ?_
          refine fin [3, 4, 7, 8, 9, 10, 11, 38, 39, 40] [(4, 0), (5, 0), (8, 1), (11, 1)] ?_
          repeat (refine AW_seq ?_)
          refine reg ?_
          refine run 2 ?_
          refine run 1 ?_
          refine fin [3, 4, 7, 8, 9, 10, 11, 38, 39, 40, 88, 89, 90] [(4, 0), (5, 0), (8, 1), (11, 1)] ?_
          repeat (refine AW_seq ?_)
          refine AW_block ?_
          have e0 : lstE A ⟨eu, ev, 0⟩ 0 = -1 := rfl
          refine AW_loops (ι := Nat) (fun k => ⟨lk [(3, .own (4, 0) T.length), (4, .own (5, 0) A.length), (7, .ptr (8, 1) 1 0 0), (8, .c (iPV ni)), (9, .c (iPV nj)), (10, .ptr (11, 1) 1 0 0), (11, .c (iPV (lstE A ⟨eu, ev, 0⟩ k))), (38, .c (.sl (l.map stpPV))), (39, .c (iPV l.length)), (40, .c (iPV i)), (88, .own (5, 0) A.length), (89, .c (iPV A.length)), (90, .c (iPV k))], lkM [((4, 0), some ⟨22, 1, (T).map rowPV, true, [], none⟩), ((5, 0), some ⟨38, 3, (A).map edPV, true, [], none⟩), ((8, 1), some ⟨35, 4, [stpPV ⟨cu, rt, u, v⟩], true, [], none⟩), ((11, 1), some ⟨38, 3, [edPV ⟨eu, ev, 0⟩], true, [], none⟩)], lkG [] 2⟩) (fun k => k ≤ A.length) (fun k => A.length - k) 0 (Nat.zero_le _) wk ?_
          rintro k hk
          obtain ⟨W, eW⟩ : ∃ w, lstE A ⟨eu, ev, 0⟩ k = w := ⟨_, rfl⟩
          rw [eW]
          obtain ⟨eW, -⟩ : Go.RowKit.Hid (lstE A ⟨eu, ev, 0⟩ k = W) ∧ True := ⟨eW, trivial⟩
          rename_i eW0
          clear eW0
          repeat (refine AW_seq ?_)
          refine reg ?_
          refine run 1 ?_
          refine fin [3, 4, 7, 8, 9, 10, 11, 38, 39, 40, 88, 89, 90, 91] [(4, 0), (5, 0), (8, 1), (11, 1)] ?_
          repeat (refine AW_seq ?_)
          refine tst (fun h6 => ?_) (fun h6 => ?_)
          · simp at h6
            obtain ⟨x, hy, gx⟩ := getD_at h6
            obtain ⟨xu, xv, xt⟩ := x
            refine AW_skip ?_
            repeat (refine AW_seq ?_)
            refine AW_block ?_
            repeat (refine AW_seq ?_)
            refine reg ?_
            refine run 2 ?_
            refine run 2 ?_
            refine run 2 ?_
            refine fin [3, 4, 7, 8, 9, 10, 11, 12, 13, 38, 39, 40, 88, 89, 90] [(4, 0), (5, 0), (8, 1), (11, 1), (14, 2)] ?_
            repeat (refine AW_seq ?_)
            refine reg ?_
            refine run 2 ?_
            refine run 1 ?_
            refine fin [3, 4, 7, 8, 9, 10, 11, 12, 38, 39, 40, 88, 89, 90, 97] [(4, 0), (5, 0), (8, 1), (11, 1)] ?_
            repeat (refine AW_seq ?_)
            refine tst (fun h7 => ?_) (fun h7 => ?_)
            · simp at h7
              repeat (refine AW_seq ?_)
              refine reg ?_
              refine run 2 ?_
              refine finN ?_
              refine kp [3, 4, 7, 8, 9, 10, 11, 38, 39, 40, 88, 89, 90] [(4, 0), (5, 0), (8, 1), (11, 1)] ?_
              repeat (refine AW_seq ?_)
              refine reg ?_
              refine run 2 ?_
              refine finN ?_
              have e1 : lstE A ⟨eu, ev, 0⟩ (k + 1) = k := by rw [lstE, if_pos (by rw [gx]; exact ed_eq h7.1 h7.2.1 h7.2.2)]
              exact ⟨k + 1, by omega, by omega, wk⟩
            · simp at h7
              refine AW_skip ?_
              repeat (refine AW_seq ?_)
              refine reg ?_
              refine run 2 ?_
              refine finN ?_
              have e1 : lstE A ⟨eu, ev, 0⟩ (k + 1) = W := by rw [lstE, if_neg (by rw [gx]; intro q; exact h7 (congrArg Ed.u q) (congrArg Ed.v q) (congrArg Ed.t q)), eW.out]
              exact ⟨k + 1, by omega, by omega, wk⟩
          · simp at h6
            have hW : (W = -1 ∧ ∀ k, k < A.length → A[k]? ≠ some (ed u v)) ∨ ∃ k : Nat, W = k ∧ k < A.length ∧ A[k]? = some (ed u v) := by
              have := lstE_spec (A := A) (e := ⟨eu, ev, 0⟩) A.length (Nat.le_refl _)
              rw [← eW.out, show k = A.length by omega, hed.out]; exact this
            obtain ⟨hW, -⟩ : Go.RowKit.Hid ((W = -1 ∧ ∀ k, k < A.length → A[k]? ≠ some (ed u v)) ∨ ∃ k : Nat, W = k ∧ k < A.length ∧ A[k]? = some (ed u v)) ∧ True := ⟨hW, trivial⟩
            rename_i hW0
            clear hW0
            clear eW h6 hk
            refine AW_exit ?_
            repeat (refine AW_seq ?_)
            refine join2 (ι := List (List Int) × List Ed) (fun z => ⟨lk [(3, .own (4, 0) z.1.length), (4, .own (5, 0) z.2.length), (38, .c (.sl (l.map stpPV))), (39, .c (iPV l.length)), (40, .c (iPV i))], lkM [((4, 0), some ⟨22, 1, (z.1).map rowPV, true, [], none⟩), ((5, 0), some ⟨38, 3, (z.2).map edPV, true, [], none⟩)], lkG [] 2⟩) (fun z => Inv z.1 z.2) ?_ ?_
            · skip
              repeat (refine AW_seq ?_)
              refine AW_block ?_
              repeat (refine AW_seq ?_)
              refine reg ?_
              refine run 2 ?_
              refine run 1 ?_
              refine fin [3, 4, 7, 8, 9, 10, 11, 38, 39, 40, 164] [(4, 0), (5, 0), (8, 1), (11, 1)] ?_
              repeat (refine AW_seq ?_)
              refine tst (fun h8 => ?_) (fun h8 => ?_)
              · skip
                have c3 := reroot_any ti u (by omega)
                rw [rrPV, rrR_ok isi.out ui.out] at c3
                have lR := (frm_T isi.out ui.out).2.2.2
                have gR : (frm ti u).getD 0 default = u := by obtain ⟨l', e'⟩ := frm_head ui.out; rw [e']; rfl
                have hI2 := hI.out.reroot xi.out ui.out
                have pR : 0 < ti.length := List.length_pos_of_mem ui.out
                obtain ⟨R, eR⟩ : ∃ k, frm ti u = k := ⟨_, rfl⟩
                rw [eR] at c3 lR gR hI2
                obtain ⟨T2, eT2⟩ : ∃ k, T.set ni R = k := ⟨_, rfl⟩
                rw [eT2] at hI2
                have mT2 : (T.map rowPV).set ni (PV.sl (R.map iPV)) = T2.map rowPV := by rw [← eT2, List.map_set]; rfl
                have lT2 : T2.length = T.length := by rw [← eT2, List.length_set]
                obtain ⟨hI2, -⟩ : Go.RowKit.Hid (Inv T2 A) ∧ True := ⟨hI2, trivial⟩
                rename_i hI20
                clear hI20
                clear eR eT2
                repeat (refine AW_seq ?_)
                refine reg ?_
                refine run 2 ?_
                refine run 2 ?_
                refine run 2 ?_
                refine call (fun _ => c3) ?_
                refine run 2 ?_
                refine run 2 ?_
                refine run 1 ?_
                refine fin [3, 4, 7, 8, 14, 15, 38, 39, 40] [(4, 0), (5, 0), (8, 1)] ?_
                repeat (refine AW_seq ?_)
                refine reg ?_
                refine run 2 ?_
                refine run 2 ?_
                refine run 2 ?_
                refine run 2 ?_
                refine run 2 ?_
                refine run 2 ?_
                refine run 2 ?_
                refine run 2 ?_
                refine run 2 ?_
                refine run 2 ?_
                refine fin [3, 4, 8, 14, 38, 39, 40, 196] [(4, 0), (5, 0)] ?_
                repeat (refine AW_seq ?_)
                refine tstF ?_
                refine AW_skip ?_
                repeat (refine AW_seq ?_)
                refine reg ?_
                refine run 2 ?_
                refine run 2 ?_
                refine run 1 ?_
                refine finN ?_
                intro y K' nx
                exact toJ nx (T2, A) hI2.out wk
              · skip
                repeat (refine AW_seq ?_)
                refine reg ?_
                refine run 2 ?_
                refine run 1 ?_
                refine fin [3, 4, 7, 8, 9, 10, 11, 38, 39, 40, 201] [(4, 0), (5, 0), (8, 1), (11, 1)] ?_
                repeat (refine AW_seq ?_)
                refine tst (fun h10 => ?_) (fun h10 => ?_)
                · skip
                  have c4 := cut_any ti u v (by omega)
                  rw [cutPV] at c4
                  have hc := hI.out.cutR xi.out ui.out hW.out
                  obtain ⟨X, eX⟩ : ∃ k, (cutR ti u v).1.1 = k := ⟨_, rfl⟩
                  rw [eX] at c4 hc
                  obtain ⟨Y, eY⟩ : ∃ k, (cutR ti u v).1.2 = k := ⟨_, rfl⟩
                  rw [eY] at c4 hc
                  obtain ⟨E, eE⟩ : ∃ k, (cutR ti u v).2 = k := ⟨_, rfl⟩
                  rw [eE] at c4 hc
                  have hEW : (E == 0) = decide (0 ≤ W) := by
                    rcases hc with ⟨h1, h2⟩ | ⟨k', h1, -, h2, -⟩
                    · rw [h1, h2]; decide
                    · rw [h1, h2]; simp
                  have hEW2 : decide (E = 0) = decide (0 ≤ W) := by rw [← hEW]; rfl
                  obtain ⟨hc, -⟩ : Go.RowKit.Hid ((W = -1 ∧ E = 3) ∨ ∃ k : Nat, W = k ∧ k < A.length ∧ E = 0 ∧ Inv (T.set ni X ++ [Y]) (A.take k ++ A.drop (k + 1))) ∧ True := ⟨hc, trivial⟩
                  rename_i hc0
                  clear hc0
                  repeat (refine AW_seq ?_)
                  refine reg ?_
                  refine run 2 ?_
                  refine run 2 ?_
                  refine run 2 ?_
                  refine run 2 ?_
                  refine call (fun _ => c4) ?_
                  refine run 2 ?_
                  refine run 2 ?_
                  refine run 2 ?_
                  refine run 1 ?_
                  refine fin [3, 4, 8, 11, 16, 17, 18, 38, 39, 40] [(4, 0), (5, 0)] ?_
                  repeat (refine AW_seq ?_)
                  refine reg ?_
                  refine run 2 ?_
                  refine run 2 ?_
                  refine run 1 ?_
                  refine fin [3, 4, 8, 11, 16, 17, 18, 38, 39, 40, 221] [(4, 0), (5, 0)] ?_
                  repeat (refine AW_seq ?_)
                  refine tstF ?_
                  refine AW_skip ?_
                  repeat (refine AW_seq ?_)
                  refine reg ?_
                  refine run 2 ?_
                  refine fin [3, 4, 8, 11, 16, 17, 38, 39, 40, 223] [(4, 0), (5, 0)] ?_
                  repeat (refine AW_seq ?_)
                  refine tst (fun h12 => ?_) (fun h12 => ?_)
                  · skip
                    have hc2 : ∃ k : Nat, W = k ∧ k < A.length ∧ E = 0 ∧ Inv (T.set ni X ++ [Y]) (A.take k ++ A.drop (k + 1)) := by
                      rcases hc.out with ⟨h1, h2⟩ | h1
                      · rw [h1] at h12; simp at h12
                      · exact h1
                    obtain ⟨k', hWk, hk', -, hI2⟩ := hc2
                    obtain ⟨T1, eT1⟩ : ∃ k, T.set ni X = k := ⟨_, rfl⟩
                    rw [eT1] at hI2
                    obtain ⟨T2, eT2⟩ : ∃ k, T1 ++ [Y] = k := ⟨_, rfl⟩
                    rw [eT2] at hI2
                    have mT1 : (T.map rowPV).set ni (PV.sl (X.map iPV)) = T1.map rowPV := by rw [← eT1, List.map_set]; rfl
                    have lT1 : T1.length = T.length := by rw [← eT1, List.length_set]
                    have mT2 : T1.map rowPV ++ [PV.sl (Y.map iPV)] = T2.map rowPV := by rw [← eT2, List.map_append]; rfl
                    have lT2 : T2.length = T.length + 1 := by rw [← eT2, List.length_append, lT1]; rfl
                    have lP : (A.take k').length = k' := by rw [List.length_take]; omega
                    have lS : (A.drop (k' + 1)).length = A.length - (k' + 1) := List.length_drop
                    obtain ⟨P1, eP1⟩ : ∃ k, A.take k' = k := ⟨_, rfl⟩
                    rw [eP1] at hI2 lP
                    obtain ⟨P2, eP2⟩ : ∃ k, A.drop (k' + 1) = k := ⟨_, rfl⟩
                    rw [eP2] at hI2 lS
                    obtain ⟨A2, eA2⟩ : ∃ k, P1 ++ P2 = k := ⟨_, rfl⟩
                    rw [eA2] at hI2
                    have mP1 : (A.map edPV).take k' = P1.map edPV := by rw [← eP1, List.map_take]
                    have mP2 : (A.map edPV).drop (k' + 1) = P2.map edPV := by rw [← eP2, List.map_drop]
                    have mA2 : P1.map edPV ++ P2.map edPV = A2.map edPV := by rw [← eA2, List.map_append]
                    have lA2 : A2.length = A.length - 1 := by rw [← eA2, List.length_append, lP, lS]; omega
                    have kk : ((k' : Int) + 1).toNat = k' + 1 := by omega
                    obtain ⟨hI2, -⟩ : Go.RowKit.Hid (Inv T2 A2) ∧ True := ⟨hI2, trivial⟩
                    rename_i hI20
                    clear hI20
                    clear eT1 eT2 eP1 eP2 eA2 h12 hEW hEW2
                    repeat (refine AW_seq ?_)
                    refine reg ?_
                    refine run 2 ?_
                    refine run 2 ?_
                    refine run 1 ?_
                    refine fin [3, 4, 11, 17, 38, 39, 40] [(4, 0), (5, 0)] ?_
                    repeat (refine AW_seq ?_)
                    refine reg ?_
                    refine run 2 ?_
                    refine run 2 ?_
                    refine run 1 ?_
                    refine fin [3, 4, 11, 38, 39, 40] [(4, 0), (5, 0)] ?_
                    repeat (refine AW_seq ?_)
                    refine dt 4 (5, 0) ?_
                    refine reg ?_
                    refine opW ?_
                    refine run 2 ?_
                    refine run 2 ?_
                    refine run 2 ?_
                    refine run 2 ?_
                    refine run 2 ?_
                    refine finN ?_
                    intro y K' nx
                    exact toJ nx (T2, A2) hI2.out (wkr (5, 0) (233, 2))
                  · skip
                    refine AW_skip ?_
                    intro y K' nx
                    exact toJ nx (T, A) hI.out wk
                · skip
                  have c5 := link_any ti tj u v (by omega) (by omega)
                  rw [linkPV] at c5
                  have hE2 : ((linkR ti tj u v).2 == 0) = ((ni : Int) != nj) := by
                    by_cases e : ni = nj
                    · rw [hln.out.1 e, e]; simp
                    · rw [hln.out.2 e]; simp; omega
                  obtain ⟨E2, eE2⟩ : ∃ k, (linkR ti tj u v).2 = k := ⟨_, rfl⟩
                  rw [eE2] at c5 hE2
                  obtain ⟨L, eL⟩ : ∃ k, (linkR ti tj u v).1 = k := ⟨_, rfl⟩
                  rw [eL] at c5
                  obtain ⟨eL, -⟩ : Go.RowKit.Hid ((linkR ti tj u v).1 = L) ∧ True := ⟨eL, trivial⟩
                  rename_i eL0
                  clear eL0
                  have hE3 : decide (E2 = 0) = !decide ((ni : Int) = nj) := by rw [show decide (E2 = 0) = (E2 == 0) from rfl, hE2]; rfl
                  repeat (refine AW_seq ?_)
                  refine reg ?_
                  refine run 2 ?_
                  refine run 2 ?_
                  refine run 2 ?_
                  refine run 2 ?_
                  refine run 2 ?_
                  refine run 2 ?_
                  refine call (fun _ => c5) ?_
                  refine run 2 ?_
                  refine run 2 ?_
                  refine run 1 ?_
                  refine fin [3, 4, 8, 9, 10, 19, 20, 38, 39, 40] [(4, 0), (5, 0), (11, 1)] ?_
                  repeat (refine AW_seq ?_)
                  refine reg ?_
                  refine run 2 ?_
                  refine run 2 ?_
                  refine run 2 ?_
                  refine fin [3, 4, 8, 9, 10, 19, 20, 38, 39, 40, 121] [(4, 0), (5, 0), (11, 1)] ?_
                  repeat (refine AW_seq ?_)
                  refine tstF ?_
                  refine AW_skip ?_
                  repeat (refine AW_seq ?_)
                  refine reg ?_
                  refine run 2 ?_
                  refine fin [3, 4, 8, 9, 10, 19, 38, 39, 40, 123] [(4, 0), (5, 0), (11, 1)] ?_
                  repeat (refine AW_seq ?_)
                  refine tst (fun h14 => ?_) (fun h14 => ?_)
                  · skip
                    have hij : ni ≠ nj := by intro e; simp [e] at h14
                    obtain ⟨n, hn⟩ : ∃ n, T.length = n + 1 := ⟨T.length - 1, by omega⟩
                    obtain ⟨z, xz, gz⟩ := getD_at (l := T) (i := n) (by omega)
                    have bz := hl2.out _ (List.mem_of_getElem? xz)
                    have hL : L = frm ti u ++ frm tj v ++ [u] := by rw [← eL.out, hln.out.2 hij]
                    obtain ⟨hL, -⟩ : Go.RowKit.Hid (L = frm ti u ++ frm tj v ++ [u]) ∧ True := ⟨hL, trivial⟩
                    rename_i hL0
                    clear hL0
                    obtain ⟨xz, -⟩ : Go.RowKit.Hid (T[n]? = some z) ∧ True := ⟨xz, trivial⟩
                    rename_i xz0
                    clear xz0
                    obtain ⟨hij, -⟩ : Go.RowKit.Hid (ni ≠ nj) ∧ True := ⟨hij, trivial⟩
                    rename_i hij0
                    clear hij0
                    obtain ⟨T1, eT1⟩ : ∃ k, T.set ni L = k := ⟨_, rfl⟩
                    obtain ⟨T2, eT2⟩ : ∃ k, T1.set nj z = k := ⟨_, rfl⟩
                    obtain ⟨A2, eA2⟩ : ∃ k, A ++ [Ed.mk eu ev 0] = k := ⟨_, rfl⟩
                    have mT1 : (T.map rowPV).set ni (PV.sl (L.map iPV)) = T1.map rowPV := by rw [← eT1, List.map_set]; rfl
                    have mT2 : (T1.map rowPV).set nj (PV.sl (z.map iPV)) = T2.map rowPV := by rw [← eT2, List.map_set]; rfl
                    have lT1 : T1.length = n + 1 := by rw [← eT1, List.length_set, hn]
                    have lT2 : T2.length = n + 1 := by rw [← eT2, List.length_set, lT1]
                    have mA2 : A.map edPV ++ [PV.agg [PV.v (.int .i64 eu), PV.v (.int .i64 ev), PV.v (.int .i64 0)]] = A2.map edPV := by rw [← eA2, List.map_append]; rfl
                    have lA2 : A2.length = A.length + 1 := by rw [← eA2, List.length_append]; rfl
                    have cn1 : ((n + 1 : Nat) : Int) - 1 = (n : Int) := by omega
                    have cn2 : (n : Int) + 1 - 1 = (n : Int) := by omega
                    have li2 : ni < n + 1 := by omega
                    have lj2 : nj < n + 1 := by omega
                    have ln : n < 8 := by omega
                    obtain ⟨eT1, -⟩ : Go.RowKit.Hid (T.set ni L = T1) ∧ True := ⟨eT1, trivial⟩
                    rename_i eT10
                    clear eT10
                    obtain ⟨eT2, -⟩ : Go.RowKit.Hid (T1.set nj z = T2) ∧ True := ⟨eT2, trivial⟩
                    rename_i eT20
                    clear eT20
                    obtain ⟨eA2, -⟩ : Go.RowKit.Hid (A ++ [Ed.mk eu ev 0] = A2) ∧ True := ⟨eA2, trivial⟩
                    rename_i eA20
                    clear eA20
                    clear h14
                    repeat (refine AW_seq ?_)
                    refine reg ?_
                    refine run 2 ?_
                    refine run 2 ?_
                    refine run 1 ?_
                    refine fin [3, 4, 8, 9, 19, 38, 39, 40] [(4, 0), (5, 0)] ?_
                    repeat (refine AW_seq ?_)
                    refine reg ?_
                    refine run 2 ?_
                    refine run 2 ?_
                    refine run 2 ?_
                    refine run 2 ?_
                    refine run 2 ?_
                    refine run 2 ?_
                    refine run 2 ?_
                    refine run 1 ?_
                    refine fin [3, 4, 8, 9, 19, 38, 39, 40] [(4, 0), (5, 0)] ?_
                    repeat (refine AW_seq ?_)
                    refine reg ?_
                    refine run 2 ?_
                    refine run 2 ?_
                    refine run 2 ?_
                    refine run 2 ?_
                    refine run 2 ?_
                    refine run 2 ?_
                    refine fin [3, 4, 8, 9, 19, 38, 39, 40, 152] [(4, 0), (5, 0)] ?_
                    repeat (refine AW_seq ?_)
                    refine tst (fun h15 => ?_) (fun h15 => ?_)
                    · simp at h15
                      have hI4 := hI.out.link xi.out xj.out hij.out ui.out vj.out hL.out (swA hn xz.out xj.out li2 hij.out (by omega))
                      rw [hed.out, eT1.out, eT2.out, eA2.out] at hI4
                      obtain ⟨mn, emn⟩ : ∃ k, min ni nj = k := ⟨_, rfl⟩
                      rw [emn] at hI4
                      have em1 : (if (nj : Int) < (ni : Int) then (nj : Int) else (ni : Int)) = (mn : Int) := by omega
                      have em2 : (if nj < ni then (nj : Int) else (ni : Int)) = (mn : Int) := by omega
                      have lm : mn < n + 1 := by omega
                      obtain ⟨T3, eT3⟩ : ∃ k, T2.set mn L = k := ⟨_, rfl⟩
                      rw [eT3] at hI4
                      obtain ⟨T4, eT4⟩ : ∃ k, T3.take n = k := ⟨_, rfl⟩
                      rw [eT4] at hI4
                      have mT3 : (T2.map rowPV).set mn (PV.sl (L.map iPV)) = T3.map rowPV := by rw [← eT3, List.map_set]; rfl
                      have lT3 : T3.length = n + 1 := by rw [← eT3, List.length_set, lT2]
                      have mT4 : (T3.map rowPV).take n = T4.map rowPV := by rw [← eT4, List.map_take]
                      have lT4 : T4.length = n := by rw [← eT4, List.length_take, lT3]; omega
                      obtain ⟨hI4, -⟩ : Go.RowKit.Hid (Inv T4 A2) ∧ True := ⟨hI4, trivial⟩
                      rename_i hI40
                      clear hI40
                      clear eT3 eT4 emn h15
                      repeat (refine AW_seq ?_)
                      refine reg ?_
                      refine run 2 ?_
                      refine run 2 ?_
                      refine run 2 ?_
                      refine run 1 ?_
                      refine fin [3, 4, 38, 39, 40] [(4, 0), (5, 0)] ?_
                      repeat (refine AW_seq ?_)
                      refine reg ?_
                      refine run 2 ?_
                      refine run 2 ?_
                      refine run 2 ?_
                      refine finN ?_
                      intro y K' nx
                      refine kp [3, 4, 38, 39, 40] [(4, 0), (5, 0)] ?_
                      refine cut 3 ?_
                      exact toJ nx (T4, A2) hI4.out wk
                    · simp at h15
                      have hI4 := hI.out.link xi.out xj.out hij.out ui.out vj.out hL.out (swB hn xz.out xj.out (by omega) hij.out)
                      rw [hed.out, eT1.out, eT2.out, eA2.out] at hI4
                      obtain ⟨T4, eT4⟩ : ∃ k, T2.take n = k := ⟨_, rfl⟩
                      rw [eT4] at hI4
                      have mT4 : (T2.map rowPV).take n = T4.map rowPV := by rw [← eT4, List.map_take]
                      have lT4 : T4.length = n := by rw [← eT4, List.length_take, lT2]; omega
                      obtain ⟨hI4, -⟩ : Go.RowKit.Hid (Inv T4 A2) ∧ True := ⟨hI4, trivial⟩
                      rename_i hI40
                      clear hI40
                      clear eT4
                      refine AW_skip ?_
                      repeat (refine AW_seq ?_)
                      refine reg ?_
                      refine run 2 ?_
                      refine run 2 ?_
                      refine run 2 ?_
                      refine finN ?_
                      intro y K' nx
                      refine kp [3, 4, 38, 39, 40] [(4, 0), (5, 0)] ?_
                      refine cut 3 ?_
                      exact toJ nx (T4, A2) hI4.out wk
                  · skip
                    refine AW_skip ?_
                    intro y K' nx
                    exact toJ nx (T, A) hI.out wk
            rintro ⟨Q, D⟩ hQ
            simp only at hQ
            have bQ := hQ.many
            have bD := hQ.fewE
            obtain ⟨hQ, -⟩ : Go.RowKit.Hid (Inv Q D) ∧ True := ⟨hQ, trivial⟩
            rename_i hQ0
            clear hQ0
            clear c1 c2
            repeat (refine AW_seq ?_)
            refine reg ?_
            refine run 1 ?_
            refine fin [3, 4, 21, 38, 39, 40] [(4, 0), (5, 0)] ?_
            refine seed 21 22 38 3 ?_
            repeat (refine AW_seq ?_)
            refine reg ?_
            refine run 1 ?_
            refine fin [3, 4, 21, 22, 38, 39, 40] [(4, 0), (5, 0), (22, 2)] ?_
            repeat (refine AW_seq ?_)
            refine reg ?_
            refine run 2 ?_
            refine run 1 ?_
            refine fin [3, 4, 21, 22, 38, 39, 40, 242, 243, 244] [(4, 0), (5, 0), (22, 2)] ?_
            repeat (refine AW_seq ?_)
            refine AW_block ?_
            refine AW_loops (ι := Nat × List Ed × Nat) (fun z => ⟨lk [(3, .own (4, 0) Q.length), (4, .own (5, 0) D.length), (21, .own (22, 2) z.2.1.length), (22, .c (iPV z.2.2)), (38, .c (.sl (l.map stpPV))), (39, .c (iPV l.length)), (40, .c (iPV i)), (242, .own (4, 0) Q.length), (243, .c (iPV Q.length)), (244, .c (iPV z.1))], lkM [((4, 0), some ⟨22, 1, (Q).map rowPV, true, [], none⟩), ((5, 0), some ⟨38, 3, (D).map edPV, true, [], none⟩), ((22, 2), some ⟨38, 3, (z.2.1).map edPV, true, [], none⟩)], lkG [] 3⟩) (fun z => z.1 ≤ Q.length ∧ z.2.1 = (Q.take z.1).flatMap edges ∧ z.2.2 = ((Q.take z.1).flatMap verts).length) (fun z => Q.length - z.1) (0, [], 0) ⟨Nat.zero_le _, rfl, rfl⟩ wk ?_
            rintro ⟨k, G, M⟩ ⟨hk, hG, hM⟩
            simp only at hk hG hM
            have bG : G.length ≤ 8 := by have h1 := part_le edges Q k; rw [hQ.out.edg.length_eq] at h1; rw [hG]; omega
            have bM : M ≤ 8 := by have h1 := part_le verts Q k; rw [hQ.out.all.length_eq] at h1; rw [hM]; exact h1
            obtain ⟨hG, -⟩ : Go.RowKit.Hid (G = (Q.take k).flatMap edges) ∧ True := ⟨hG, trivial⟩
            rename_i hG0
            clear hG0
            obtain ⟨hM, -⟩ : Go.RowKit.Hid (M = ((Q.take k).flatMap verts).length) ∧ True := ⟨hM, trivial⟩
            rename_i hM0
            clear hM0
            repeat (refine AW_seq ?_)
            refine reg ?_
            refine run 1 ?_
            refine fin [3, 4, 21, 22, 38, 39, 40, 242, 243, 244, 245] [(4, 0), (5, 0), (22, 2)] ?_
            repeat (refine AW_seq ?_)
            refine tst (fun h16 => ?_) (fun h16 => ?_)
            · simp at h16
              obtain ⟨t, hx, gx⟩ := getD_at h16
              have tt := hQ.out.tours t (List.mem_of_getElem? hx)
              have bt := hQ.out.len (List.mem_of_getElem? hx)
              have c6 := right_any t (by omega)
              rw [tt] at c6
              have c7 := (edges_any t (by omega)).a
              have c8 := (vertices_any t (by omega)).a
              have b2 := part_le edges Q (k + 1)
              rw [part_next edges hx, hQ.out.edg.length_eq, List.length_append, ← hG.out] at b2
              have b3 := part_le verts Q (k + 1)
              rw [part_next verts hx, hQ.out.all.length_eq, List.length_append, ← hM.out, show R8.length = 8 from rfl] at b3
              obtain ⟨GE, eGE⟩ : ∃ k, edges t = k := ⟨_, rfl⟩
              rw [eGE] at c7 b2
              obtain ⟨GV, eGV⟩ : ∃ k, verts t = k := ⟨_, rfl⟩
              rw [eGV] at c8 b3
              obtain ⟨G2, eG2⟩ : ∃ k, G ++ GE = k := ⟨_, rfl⟩
              obtain ⟨M2, eM2⟩ : ∃ k, M + GV.length = k := ⟨_, rfl⟩
              have mG2 : G.map edPV ++ GE.map edPV = G2.map edPV := by rw [← eG2, List.map_append]
              have lG2 : G2.length = G.length + GE.length := by rw [← eG2, List.length_append]
              have cM2 : (M : Int) + (GV.length : Int) = (M2 : Int) := by omega
              obtain ⟨eGE, -⟩ : Go.RowKit.Hid (edges t = GE) ∧ True := ⟨eGE, trivial⟩
              rename_i eGE0
              clear eGE0
              obtain ⟨eGV, -⟩ : Go.RowKit.Hid (verts t = GV) ∧ True := ⟨eGV, trivial⟩
              rename_i eGV0
              clear eGV0
              obtain ⟨eG2, -⟩ : Go.RowKit.Hid (G ++ GE = G2) ∧ True := ⟨eG2, trivial⟩
              rename_i eG20
              clear eG20
              obtain ⟨eM2, -⟩ : Go.RowKit.Hid (M + GV.length = M2) ∧ True := ⟨eM2, trivial⟩
              rename_i eM20
              clear eM20
              clear tt
              refine AW_skip ?_
              repeat (refine AW_seq ?_)
              refine AW_block ?_
              repeat (refine AW_seq ?_)
              refine reg ?_
              refine run 2 ?_
              refine run 1 ?_
              refine fin [3, 4, 21, 22, 24, 38, 39, 40, 242, 243, 244] [(4, 0), (5, 0), (22, 2)] ?_
              repeat (refine AW_seq ?_)
              refine reg ?_
              refine run 1 ?_
              refine call (fun _ => c6) ?_
              refine run 1 ?_
              refine fin [3, 4, 21, 22, 24, 38, 39, 40, 242, 243, 244, 250] [(4, 0), (5, 0), (22, 2)] ?_
              repeat (refine AW_seq ?_)
              refine tstF ?_
              refine AW_skip ?_
              repeat (refine AW_seq ?_)
              refine reg ?_
              refine run 2 ?_
              refine call (fun _ => c7) ?_
              refine run 2 ?_
              refine fin [3, 4, 21, 22, 24, 38, 39, 40, 242, 243, 244] [(4, 0), (5, 0), (22, 2)] ?_
              repeat (refine AW_seq ?_)
              refine reg ?_
              refine run 2 ?_
              refine call (fun _ => c8) ?_
              refine run 2 ?_
              refine run 1 ?_
              refine finN ?_
              refine kp [3, 4, 21, 22, 38, 39, 40, 242, 243, 244] [(4, 0), (5, 0), (22, 2)] ?_
              repeat (refine AW_seq ?_)
              refine reg ?_
              refine run 2 ?_
              refine finN ?_
              refine ⟨(k + 1, G2, M2), by show Q.length - (k + 1) < Q.length - k; omega, ⟨by show k + 1 ≤ _; omega, by show G2 = _; rw [part_next edges hx, ← hG.out, eGE.out, eG2.out], by show M2 = _; rw [part_next verts hx, List.length_append, ← hM.out, ← eM2.out, eGV.out]⟩, wk⟩
            · simp at h16
              have hk2 : k = Q.length := by omega
              have hG2 : G = Q.flatMap edges := by rw [hG.out, hk2, List.take_length]
              have hM2 : M = 8 := by rw [hM.out, hk2, List.take_length, hQ.out.all.length_eq]; rfl
              have c9 := edgesL_any G D (by omega) (by omega) (srt_eq (by rw [hG2]; exact hQ.out.edg) (by rw [hG2]; exact fm_flat Q))
              clear hG2 hk2
              have h88 : ((8 : Nat) : Int) = 8 := rfl
              refine AW_exit ?_
              repeat (refine AW_seq ?_)
              refine reg ?_
              refine run 2 ?_
              refine call (fun _ => c9) ?_
              refine run 2 ?_
              refine run 2 ?_
              refine run 1 ?_
              refine fin [3, 4, 38, 39, 40, 268] [(4, 0), (5, 0)] ?_
              repeat (refine AW_seq ?_)
              refine tstF ?_
              refine AW_skip ?_
              repeat (refine AW_seq ?_)
              refine reg ?_
              refine run 2 ?_
              refine finN ?_
              refine ⟨(i + 1, Q, D), by show l.length - (i + 1) < l.length - i; omega, ⟨by show i + 1 ≤ _; omega, hQ.out⟩, wk⟩
      · simp at h3
        refine AW_exit ?_
        repeat (refine AW_seq ?_)
        refine reg ?_
        refine call (fun _ => awake_true) ?_
        refine run 1 ?_
        refine fin [2] [] ?_
        refine AW_ret (ret ?_)
        rfl

end Go.Proofs.Yteflkffebekjdaa