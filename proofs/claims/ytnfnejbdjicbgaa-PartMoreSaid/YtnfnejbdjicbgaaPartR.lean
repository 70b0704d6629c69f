/-
  The document's answer for the partition of edges, and the fixed answer, on plain data.
  Conditions: not too many places.
-/
import Derived.Test.YtnfnejbdjicbgaaPartO
namespace Go.Proofs.Ytnfnejbdjicbgaa
open Go Go.Ab
set_option linter.unusedVariables false
set_option linter.unusedSimpArgs false

theorem con_edge {l : List Ed} {i : Nat} {x : Ed} (h : l[i]? = some x) : Con l x.u x.v := fun f hf => hf x (List.mem_of_getElem? h)
theorem con_symm {l : List Ed} {a b : Int} (h : Con l a b) : Con l b a := fun f hf => (h f hf).symm
theorem all_eq {l : List Ed} {P : List Int} {i : Nat} (hi : l.length ≤ i) (h : ∀ k, k < i → at0 P (l.getD k default).u = at0 P (l.getD k default).v) : ∀ e ∈ l, at0 P e.u = at0 P e.v := fun e he => by
  obtain ⟨k, hk⟩ := List.getElem?_of_mem he
  have := h k (by have := (List.getElem?_eq_some_iff.1 hk).1; omega)
  rwa [List.getD_eq_getElem?_getD, hk] at this
theorem sum_mu {s s0 : Nat} {g : Bool} (h : s + g.toNat ≤ s0) : 2 * s + g.toNat < 2 * s0 + true.toNat := by
  cases g <;> simp at * <;> omega
theorem sum_next {s s2 s0 : Nat} {g : Bool} (h : s + g.toNat ≤ s0) (h2 : s2 < s) : s2 + true.toNat ≤ s0 := by
  simp; omega

theorem refOf_any (n : Nat) (hn : n ≤ 1024) (l : List Ed) (hl : l.length < 1099511627776) (hm : MayE n l) : FCalls Try.prog 13 [iPV n, .sl (l.map edPV)] ⟨3, 1, (partR n l).map iPV, true, [], none⟩ := by
  refine entF Try.func13 ?_
  obtain ⟨hm, -⟩ : Go.RowKit.Hid (MayE n l) ∧ True := ⟨hm, trivial⟩
  rename_i hm0
  clear hm0
  repeat (refine AW_seq ?_)
  refine reg ?_
  refine run 1 ?_
  refine fin [0, 1] [] ?_
  repeat (refine AW_seq ?_)
  refine reg ?_
  refine run 1 ?_
  refine fin [0, 1, 5] [] ?_
  refine seed 5 6 3 1 ?_
  repeat (refine AW_seq ?_)
  refine reg ?_
  refine run 1 ?_
  refine fin [0, 1, 5, 6] [(6, 0)] ?_
  repeat (refine AW_seq ?_)
  refine AW_block ?_
  refine AW_loops (ι := Nat × List Int) (fun z => ⟨lk [(0, .c (iPV n)), (1, .c (.sl (l.map edPV))), (5, .own (6, 0) z.2.length), (6, .c (iPV z.1))], lkM [((6, 0), some ⟨3, 1, (z.2).map iPV, true, [], none⟩)], lkG [] 1⟩) (fun z => z.1 ≤ n ∧ z.2.length = z.1 ∧ z.2 = aloneR z.1) (fun z => n - z.1) (0, []) ⟨Nat.zero_le _, rfl, rfl⟩ wk ?_
  rintro ⟨i, X⟩ ⟨hi, hXl, hX⟩
  simp only at hi hXl hX
  obtain ⟨hX, -⟩ : Go.RowKit.Hid (X = aloneR i) ∧ True := ⟨hX, trivial⟩
  rename_i hX0
  clear hX0
  repeat (refine AW_seq ?_)
  refine reg ?_
  refine run 2 ?_
  refine run 1 ?_
  refine fin [0, 1, 5, 6, 13] [(6, 0)] ?_
  repeat (refine AW_seq ?_)
  refine tst (fun h1 => ?_) (fun h1 => ?_)
  · simp at h1
    obtain ⟨X2, eX2⟩ : ∃ k, X ++ [(i : Int)] = k := ⟨_, rfl⟩
    have mX2 : X.map iPV ++ [PV.v (.int .i64 (i : Int))] = X2.map iPV := by rw [← eX2, List.map_append]; rfl
    have lX2 : X2.length = X.length + 1 := by rw [← eX2, List.length_append]; rfl
    obtain ⟨eX2, -⟩ : Go.RowKit.Hid (X ++ [(i : Int)] = X2) ∧ True := ⟨eX2, trivial⟩
    rename_i eX20
    clear eX20
    refine AW_skip ?_
    repeat (refine AW_seq ?_)
    refine AW_block ?_
    repeat (refine AW_seq ?_)
    refine reg ?_
    refine run 2 ?_
    refine run 2 ?_
    refine run 1 ?_
    refine finN ?_
    refine kp [0, 1, 5, 6] [(6, 0)] ?_
    repeat (refine AW_seq ?_)
    refine reg ?_
    refine run 2 ?_
    refine run 1 ?_
    refine finN ?_
    refine ⟨(i + 1, X2), by show n - (i + 1) < n - i; omega, ⟨by show i + 1 ≤ n; omega, by show X2.length = i + 1; omega, by show X2 = aloneR (i + 1); rw [← eX2.out, hX.out, aloneR, aloneR, List.range_succ, List.map_append]; rfl⟩, wk⟩
  · simp at h1
    have hR0 : Run n l X := by rw [hX.out, show i = n by omega]; exact run_alone n l
    refine AW_exit ?_
    repeat (refine AW_seq ?_)
    refine reg ?_
    refine run 1 ?_
    refine fin [1, 5, 7] [(6, 0)] ?_
    repeat (refine AW_seq ?_)
    refine AW_block ?_
    refine AW_loops (ι := Bool × List Int) (fun z => ⟨lk [(1, .c (.sl (l.map edPV))), (5, .own (6, 0) z.2.length), (7, .c (.v (.bool z.1)))], lkM [((6, 0), some ⟨3, 1, (z.2).map iPV, true, [], none⟩)], lkG [] 1⟩) (fun z => z.2.length = n ∧ Run n l z.2 ∧ (z.1 = false → ∀ e ∈ l, at0 z.2 e.u = at0 z.2 e.v)) (fun z => 2 * sumN z.2 + z.1.toNat) (true, X) ⟨by show X.length = n; omega, hR0, fun h => by cases h⟩ wk ?_
    rintro ⟨g0, P0⟩ ⟨hP0l, hP0, hE0⟩
    simp only at hP0l hP0 hE0
    obtain ⟨hP0, -⟩ : Go.RowKit.Hid (Run n l P0) ∧ True := ⟨hP0, trivial⟩
    rename_i hP00
    clear hP00
    obtain ⟨hE0, -⟩ : Go.RowKit.Hid (g0 = false → ∀ e ∈ l, at0 P0 e.u = at0 P0 e.v) ∧ True := ⟨hE0, trivial⟩
    rename_i hE00
    clear hE00
    repeat (refine AW_seq ?_)
    refine reg ?_
    refine run 1 ?_
    refine fin [1, 5, 20] [(6, 0)] ?_
    repeat (refine AW_seq ?_)
    refine tst (fun h2 => ?_) (fun h2 => ?_)
    · skip
      subst h2
      refine AW_skip ?_
      repeat (refine AW_seq ?_)
      refine AW_block ?_
      repeat (refine AW_seq ?_)
      refine reg ?_
      refine run 1 ?_
      refine fin [1, 5, 7] [(6, 0)] ?_
      repeat (refine AW_seq ?_)
      refine reg ?_
      refine run 1 ?_
      refine fin [1, 5, 7, 8] [(6, 0)] ?_
      repeat (refine AW_seq ?_)
      refine AW_block ?_
      refine AW_loops (ι := Nat × Bool × List Int) (fun z => ⟨lk [(1, .c (.sl (l.map edPV))), (5, .own (6, 0) z.2.2.length), (7, .c (.v (.bool z.2.1))), (8, .c (iPV z.1))], lkM [((6, 0), some ⟨3, 1, (z.2.2).map iPV, true, [], none⟩)], lkG [] 1⟩) (fun z => z.1 ≤ l.length ∧ z.2.2.length = n ∧ Run n l z.2.2 ∧ sumN z.2.2 + z.2.1.toNat ≤ sumN P0 ∧ (z.2.1 = false → ∀ k, k < z.1 → at0 z.2.2 (l.getD k default).u = at0 z.2.2 (l.getD k default).v)) (fun z => l.length - z.1) (0, false, P0) ⟨Nat.zero_le _, hP0l, hP0.out, Nat.le_refl _, fun _ k h => absurd h (Nat.not_lt_zero k)⟩ wk ?_
      rintro ⟨i, g, P⟩ ⟨hi, hPl, hP, hs, hE⟩
      simp only at hi hPl hP hs hE
      obtain ⟨s0, hz⟩ : ∃ s, sumN P0 = s := ⟨_, rfl⟩
      rw [hz] at hs
      clear hE0 hP0 hP0l
      obtain ⟨hP, -⟩ : Go.RowKit.Hid (Run n l P) ∧ True := ⟨hP, trivial⟩
      rename_i hP0
      clear hP0
      obtain ⟨hE, -⟩ : Go.RowKit.Hid (g = false → ∀ k, k < i → at0 P (l.getD k default).u = at0 P (l.getD k default).v) ∧ True := ⟨hE, trivial⟩
      rename_i hE0
      clear hE0
      obtain ⟨hs, -⟩ : Go.RowKit.Hid (sumN P + g.toNat ≤ s0) ∧ True := ⟨hs, trivial⟩
      rename_i hs0
      clear hs0
      obtain ⟨hz, -⟩ : Go.RowKit.Hid (sumN P0 = s0) ∧ True := ⟨hz, trivial⟩
      rename_i hz0
      clear hz0
      repeat (refine AW_seq ?_)
      refine reg ?_
      refine run 2 ?_
      refine run 2 ?_
      refine fin [1, 5, 7, 8, 24] [(6, 0)] ?_
      repeat (refine AW_seq ?_)
      refine tst (fun h3 => ?_) (fun h3 => ?_)
      · simp at h3
        obtain ⟨x, hx, gx⟩ := getD_at h3
        obtain ⟨xu, xv, xt⟩ := x
        have hb := hm.out _ (List.mem_of_getElem? hx)
        unfold EdIn at hb
        simp only at hb
        obtain ⟨u, rfl⟩ : ∃ k : Nat, xu = k := ⟨xu.toNat, by omega⟩
        obtain ⟨v, rfl⟩ : ∃ k : Nat, xv = k := ⟨xv.toNat, by omega⟩
        have bu : u < n := by omega
        have bv : v < n := by omega
        clear hb
        obtain ⟨a, ga, ba⟩ := low_nat hP.out.low (i := u) (by omega)
        obtain ⟨b, gb, bb⟩ := low_nat hP.out.low (i := v) (by omega)
        have hc : Con l u v := con_edge hx
        obtain ⟨hc, -⟩ : Go.RowKit.Hid (Con l u v) ∧ True := ⟨hc, trivial⟩
        rename_i hc0
        clear hc0
        refine AW_skip ?_
        repeat (refine AW_seq ?_)
        refine AW_block ?_
        repeat (refine AW_seq ?_)
        refine reg ?_
        refine run 2 ?_
        refine run 2 ?_
        refine run 2 ?_
        refine run 2 ?_
        refine run 2 ?_
        refine run 2 ?_
        refine run 2 ?_
        refine run 2 ?_
        refine run 2 ?_
        refine fin [1, 5, 7, 8, 9, 10] [(6, 0)] ?_
        repeat (refine AW_seq ?_)
        refine reg ?_
        refine run 2 ?_
        refine run 1 ?_
        refine fin [1, 5, 7, 8, 9, 10, 45] [(6, 0)] ?_
        repeat (refine AW_seq ?_)
        refine tst (fun h4 => ?_) (fun h4 => ?_)
        · simp at h4
          have h4' : a < b := by omega
          have h5' : decide ((b : Int) < (a : Int)) = false := by simp; omega
          obtain ⟨P2, eP2⟩ : ∃ k, P.set v (a : Int) = k := ⟨_, rfl⟩
          have mP2 : (P.map iPV).set v (PV.v (.int .i64 (a : Int))) = P2.map iPV := by rw [← eP2, List.map_set]; rfl
          have lP2 : P2.length = P.length := by rw [← eP2, List.length_set]
          have hP2 : Run n l P2 := by rw [← eP2]; exact hP.out.set bu bv ga (by omega) hc.out
          have hs2 : sumN P2 < sumN P := by rw [← eP2]; exact sumN_set (by rw [hPl]; omega) gb (by omega)
          obtain ⟨hP2, -⟩ : Go.RowKit.Hid (Run n l P2) ∧ True := ⟨hP2, trivial⟩
          rename_i hP20
          clear hP20
          obtain ⟨hs2, -⟩ : Go.RowKit.Hid (sumN P2 < sumN P) ∧ True := ⟨hs2, trivial⟩
          rename_i hs20
          clear hs20
          clear eP2
          repeat (refine AW_seq ?_)
          refine reg ?_
          refine run 2 ?_
          refine run 2 ?_
          refine run 2 ?_
          refine run 2 ?_
          refine run 1 ?_
          refine fin [1, 5, 8, 9, 10] [(6, 0)] ?_
          repeat (refine AW_seq ?_)
          refine reg ?_
          refine run 1 ?_
          refine fin [1, 5, 7, 8, 9, 10] [(6, 0)] ?_
          repeat (refine AW_seq ?_)
          refine reg ?_
          refine run 2 ?_
          refine run 1 ?_
          refine fin [1, 5, 7, 8, 10, 56] [(6, 0)] ?_
          repeat (refine AW_seq ?_)
          refine tstF ?_
          refine AW_skip ?_
          repeat (refine AW_seq ?_)
          refine reg ?_
          refine run 2 ?_
          refine run 1 ?_
          refine finN ?_
          exact ⟨(i + 1, true, P2), by show l.length - (i + 1) < l.length - i; omega, ⟨by show i + 1 ≤ _; omega, by show P2.length = n; omega, hP2.out, by show sumN P2 + true.toNat ≤ _; rw [hz.out]; exact sum_next hs.out hs2.out, fun h => by cases h⟩, wk⟩
        · simp at h4
          have h4' : b ≤ a := by omega
          refine AW_skip ?_
          repeat (refine AW_seq ?_)
          refine reg ?_
          refine run 2 ?_
          refine run 1 ?_
          refine fin [1, 5, 7, 8, 10, 56] [(6, 0)] ?_
          repeat (refine AW_seq ?_)
          refine tst (fun h6 => ?_) (fun h6 => ?_)
          · simp at h6
            have h6' : b < a := by omega
            obtain ⟨P2, eP2⟩ : ∃ k, P.set u (b : Int) = k := ⟨_, rfl⟩
            have mP2 : (P.map iPV).set u (PV.v (.int .i64 (b : Int))) = P2.map iPV := by rw [← eP2, List.map_set]; rfl
            have lP2 : P2.length = P.length := by rw [← eP2, List.length_set]
            have hP2 : Run n l P2 := by rw [← eP2]; exact hP.out.set bv bu gb (by omega) (con_symm hc.out)
            have hs2 : sumN P2 < sumN P := by rw [← eP2]; exact sumN_set (by rw [hPl]; omega) ga (by omega)
            obtain ⟨hP2, -⟩ : Go.RowKit.Hid (Run n l P2) ∧ True := ⟨hP2, trivial⟩
            rename_i hP20
            clear hP20
            obtain ⟨hs2, -⟩ : Go.RowKit.Hid (sumN P2 < sumN P) ∧ True := ⟨hs2, trivial⟩
            rename_i hs20
            clear hs20
            clear eP2
            repeat (refine AW_seq ?_)
            refine reg ?_
            refine run 2 ?_
            refine run 2 ?_
            refine run 2 ?_
            refine run 2 ?_
            refine run 1 ?_
            refine fin [1, 5, 8] [(6, 0)] ?_
            repeat (refine AW_seq ?_)
            refine reg ?_
            refine run 1 ?_
            refine finN ?_
            refine kp [1, 5, 7, 8] [(6, 0)] ?_
            repeat (refine AW_seq ?_)
            refine reg ?_
            refine run 2 ?_
            refine run 1 ?_
            refine finN ?_
            exact ⟨(i + 1, true, P2), by show l.length - (i + 1) < l.length - i; omega, ⟨by show i + 1 ≤ _; omega, by show P2.length = n; omega, hP2.out, by show sumN P2 + true.toNat ≤ _; rw [hz.out]; exact sum_next hs.out hs2.out, fun h => by cases h⟩, wk⟩
          · simp at h6
            refine AW_skip ?_
            repeat (refine AW_seq ?_)
            refine reg ?_
            refine run 2 ?_
            refine run 1 ?_
            refine finN ?_
            exact ⟨(i + 1, g, P), by show l.length - (i + 1) < l.length - i; omega, ⟨by show i + 1 ≤ _; omega, hPl, hP.out, by show sumN P + g.toNat ≤ _; rw [hz.out]; exact hs.out, fun h k g2 => by
              rcases Nat.lt_or_ge k i with g3 | g3
              · exact hE.out h k g3
              · have g2 : k < i + 1 := g2
                obtain rfl : k = i := by omega
                rw [gx]; show P.getD u default = P.getD v default; rw [ga, gb]; omega⟩, wk⟩
      · simp at h3
        refine AW_exit ?_
        have hE2 : g = false → ∀ e ∈ l, at0 P e.u = at0 P e.v := fun h => all_eq (by omega) (hE.out h)
        exact ⟨(g, P), by show 2 * sumN P + g.toNat < 2 * sumN P0 + true.toNat; rw [hz.out]; exact sum_mu hs.out, ⟨hPl, hP.out, hE2⟩, wk⟩
    · skip
      have hPP : partR n l = P0 := partR_eq hm.out (hP0.out.is (hE0.out h2))
      refine AW_exit ?_
      repeat (refine AW_seq ?_)
      refine reg ?_
      refine run 2 ?_
      refine fin [4] [(6, 0)] ?_
      refine AW_ret (retF ?_)
      rw [hPP]

end Go.Proofs.Ytnfnejbdjicbgaa