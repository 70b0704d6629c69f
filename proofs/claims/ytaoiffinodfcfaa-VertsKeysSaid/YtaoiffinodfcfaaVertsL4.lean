/-
  The law VertsKeeps on plain data.
  Conditions: numbers are those of their kinds.
-/
import Derived.Test.YtaoiffinodfcfaaVertsJ
namespace Go.Proofs.Ytaoiffinodfcfaa
open Go Go.Ab
set_option linter.unusedVariables false
set_option linter.unusedSimpArgs false

theorem lastK_eq {K : List Int} {x : Int} {t : Nat} (h : K.getD t default = x) : lastK K x (t + 1) = t := by rw [lastK, if_pos h]
theorem lastK_ne {K : List Int} {x : Int} {t : Nat} (h : K.getD t default ≠ x) : lastK K x (t + 1) = lastK K x t := by rw [lastK, if_neg h]

set_option maxHeartbeats 4000000 in
theorem keeps_ih (m s : Nat) (acts : List Slt) (hm : m ≤ 255) (hs : m % 12 + 1 = s) : ACalls Try.prog 4 [.v (.int .u8 m), .sl (acts.map stPV)] (bPV true) := by
  refine ent Try.func4 ?_
  have hq : ((m : Int).tmod 12) = ((m % 12 : Nat) : Int) := rfl
  obtain ⟨r, er⟩ : ∃ r, m % 12 = r := ⟨_, rfl⟩
  rw [er] at hq hs
  have hs1 : 1 ≤ s ∧ s ≤ 12 := by omega
  have hsum : (1 : Int) + (r : Int) = (s : Int) := by omega
  have hw8 : IntKind.u8.wrap (r : Int) = (r : Int) := wrap_u8 _ (by omega) (by omega)
  have cN := new_yes s (by omega)
  have hS := KInv.start (s := s) (by omega)
  obtain ⟨L0, eL0⟩ : ∃ L, List.replicate s (⟨false, 0⟩ : Slt) = L := ⟨_, rfl⟩
  rw [eL0] at cN hS
  clear eL0 er hm
  obtain ⟨hS, -⟩ : Go.RowKit.Hid (KInv s [] [] L0) ∧ True := ⟨hS, trivial⟩
  rename_i hS0
  clear hS0
  repeat (refine AW_seq ?_)
  refine reg ?_
  refine run 1 ?_
  refine fin [0, 1] [] ?_
  repeat (refine AW_seq ?_)
  refine reg ?_
  refine run 2 ?_
  refine run 1 ?_
  refine fin [0, 1, 26] [] ?_
  repeat (refine AW_seq ?_)
  refine tst (fun h1 => ?_) (fun h1 => ?_)
  · simp at h1
    repeat (refine AW_seq ?_)
    refine reg ?_
    refine call (fun _ => awake_true) ?_
    refine run 1 ?_
    refine fin [4] [] ?_
    refine AW_ret (ret ?_)
    rfl
  · simp at h1
    have h60 : acts.length ≤ 60 := by omega
    clear h1
    refine AW_skip ?_
    repeat (refine AW_seq ?_)
    refine reg ?_
    refine run 2 ?_
    refine run 2 ?_
    refine run 1 ?_
    refine fin [1, 5] [] ?_
    repeat (refine AW_seq ?_)
    refine reg ?_
    refine run 1 ?_
    refine call (fun _ => cN) ?_
    refine run 2 ?_
    refine run 2 ?_
    refine run 1 ?_
    refine fin [1, 5, 6, 7] [] ?_
    repeat (refine AW_seq ?_)
    refine reg ?_
    refine run 1 ?_
    refine fin [1, 5, 6, 7, 8] [] ?_
    refine seed 8 9 23 1 ?_
    repeat (refine AW_seq ?_)
    refine reg ?_
    refine run 1 ?_
    refine fin [1, 5, 6, 7, 8, 9] [(9, 0)] ?_
    refine seed 9 10 3 1 ?_
    repeat (refine AW_seq ?_)
    refine reg ?_
    refine run 2 ?_
    refine run 1 ?_
    refine fin [5, 6, 7, 8, 9, 37, 38, 39] [(9, 0), (10, 0)] ?_
    repeat (refine AW_seq ?_)
    refine AW_block ?_
    refine AW_loops (ι := Nat × List Int × List Int × List Slt) (fun z => ⟨lk [(5, .c (iPV s)), (6, .c (.sl (z.2.2.2.map stPV))), (7, .c (iPV 0)), (8, .own (9, 0) z.2.1.length), (9, .own (10, 0) z.2.2.1.length), (37, .c (.sl (acts.map stPV))), (38, .c (iPV acts.length)), (39, .c (iPV z.1))], lkM ([((9, 0), some ⟨23, 1, (z.2.1).map uPV, true, [], none⟩), ((10, 0), some ⟨3, 1, (z.2.2.1).map iPV, true, [], none⟩)]), lkG [] 1⟩) (fun z => z.1 ≤ acts.length ∧ KInv s z.2.1 z.2.2.1 z.2.2.2) (fun z => acts.length - z.1) (0, [], [], L0) ⟨Nat.zero_le _, hS.out⟩ wk ?_
    rintro ⟨i, K, A, l⟩ ⟨hi, hI⟩
    simp only at hi hI
    have bK := hI.less
    have lA := hI.alen
    have ll := hI.len
    obtain ⟨hI, -⟩ : Go.RowKit.Hid (KInv s K A l) ∧ True := ⟨hI, trivial⟩
    rename_i hI0
    clear hI0
    repeat (refine AW_seq ?_)
    refine reg ?_
    refine run 1 ?_
    refine fin [5, 6, 7, 8, 9, 37, 38, 39, 40] [(9, 0), (10, 0)] ?_
    repeat (refine AW_seq ?_)
    refine tst (fun h2 => ?_) (fun h2 => ?_)
    · simp at h2
      obtain ⟨x, hx, gx⟩ := getD_at h2
      obtain ⟨b, q⟩ := x
      refine AW_skip ?_
      repeat (refine AW_seq ?_)
      refine AW_block ?_
      repeat (refine AW_seq ?_)
      refine reg ?_
      refine run 2 ?_
      refine run 2 ?_
      refine fin [5, 6, 7, 8, 9, 11, 37, 38, 39] [(9, 0), (10, 0), (12, 1)] ?_
      repeat (refine AW_seq ?_)
      refine reg ?_
      refine run 1 ?_
      refine fin [5, 6, 7, 8, 9, 11, 12, 37, 38, 39] [(9, 0), (10, 0), (12, 1)] ?_
      repeat (refine AW_seq ?_)
      refine reg ?_
      refine run 2 ?_
      refine run 1 ?_
      refine fin [5, 6, 7, 8, 9, 11, 12, 37, 38, 39, 43, 44, 45] [(9, 0), (10, 0), (12, 1)] ?_
      repeat (refine AW_seq ?_)
      refine AW_block ?_
      have e0 : lastK K q 0 = -1 := rfl
      refine AW_loops (ι := Nat) (fun t => ⟨lk [(5, .c (iPV s)), (6, .c (.sl (l.map stPV))), (7, .c (iPV 0)), (8, .own (9, 0) K.length), (9, .own (10, 0) A.length), (11, .ptr (12, 1) 1 0 0), (12, .c (iPV (lastK K q t))), (37, .c (.sl (acts.map stPV))), (38, .c (iPV acts.length)), (39, .c (iPV i)), (43, .own (9, 0) K.length), (44, .c (iPV K.length)), (45, .c (iPV t))], lkM ([((9, 0), some ⟨23, 1, (K).map uPV, true, [], none⟩), ((10, 0), some ⟨3, 1, (A).map iPV, true, [], none⟩), ((12, 1), some ⟨51, 2, [stPV ⟨b, q⟩], true, [], none⟩)]), lkG [] 2⟩) (fun t => t ≤ K.length) (fun t => K.length - t) 0 (Nat.zero_le _) wk ?_
      rintro t ht
      obtain ⟨W, eW⟩ : ∃ w, lastK K q t = w := ⟨_, rfl⟩
      rw [eW]
      obtain ⟨eW, -⟩ : Go.RowKit.Hid (lastK K q t = W) ∧ True := ⟨eW, trivial⟩
      rename_i eW0
      clear eW0
      repeat (refine AW_seq ?_)
      refine reg ?_
      refine run 1 ?_
      refine fin [5, 6, 7, 8, 9, 11, 12, 37, 38, 39, 43, 44, 45, 46] [(9, 0), (10, 0), (12, 1)] ?_
      repeat (refine AW_seq ?_)
      refine tst (fun h3 => ?_) (fun h3 => ?_)
      · simp at h3
        obtain ⟨y, hy, gy⟩ := getD_at h3
        refine AW_skip ?_
        repeat (refine AW_seq ?_)
        refine AW_block ?_
        repeat (refine AW_seq ?_)
        refine reg ?_
        refine run 2 ?_
        refine run 2 ?_
        refine run 1 ?_
        refine fin [5, 6, 7, 8, 9, 11, 12, 13, 14, 37, 38, 39, 43, 44, 45] [(9, 0), (10, 0), (12, 1)] ?_
        repeat (refine AW_seq ?_)
        refine reg ?_
        refine run 2 ?_
        refine run 2 ?_
        refine fin [5, 6, 7, 8, 9, 11, 12, 13, 37, 38, 39, 43, 44, 45, 53] [(9, 0), (10, 0), (12, 1)] ?_
        repeat (refine AW_seq ?_)
        refine tst (fun h4 => ?_) (fun h4 => ?_)
        · simp at h4
          repeat (refine AW_seq ?_)
          refine reg ?_
          refine run 2 ?_
          refine finN ?_
          refine kp [5, 6, 7, 8, 9, 11, 12, 37, 38, 39, 43, 44, 45] [(9, 0), (10, 0), (12, 1)] ?_
          repeat (refine AW_seq ?_)
          refine reg ?_
          refine run 2 ?_
          refine finN ?_
          have e1 : lastK K q (t + 1) = t := lastK_eq (by rw [gy, h4])
          exact ⟨t + 1, by omega, by omega, wk⟩
        · simp at h4
          refine AW_skip ?_
          repeat (refine AW_seq ?_)
          refine reg ?_
          refine run 2 ?_
          refine finN ?_
          have e1 : lastK K q (t + 1) = W := by rw [lastK_ne (by rw [gy]; exact h4), eW.out]
          exact ⟨t + 1, by omega, by omega, wk⟩
      · simp at h3
        have hW : (W = -1 ∧ ∀ i, i < K.length → K.getD i default ≠ q) ∨ ∃ t : Nat, W = t ∧ t < K.length ∧ K.getD t default = q := by
          have := lastK_spec K q K.length
          have e : t = K.length := by omega
          rw [← e, eW.out] at this; rw [← e]; exact this
        
        obtain ⟨hW, -⟩ : Go.RowKit.Hid ((W = -1 ∧ ∀ i, i < K.length → K.getD i default ≠ q) ∨ ∃ t : Nat, W = t ∧ t < K.length ∧ K.getD t default = q) ∧ True := ⟨hW, trivial⟩
        rename_i hW0
        clear hW0
        clear eW h3 ht
        refine AW_exit ?_
        repeat (refine AW_seq ?_)
        refine reg ?_
        refine run 2 ?_
        refine fin [5, 6, 7, 8, 9, 11, 12, 37, 38, 39, 57] [(9, 0), (10, 0), (12, 1)] ?_
        refine join (ι := List Int × List Int × List Slt) (fun y => ⟨lk [(5, .c (iPV s)), (6, .c (.sl (y.2.2.map stPV))), (7, .c (iPV 0)), (8, .own (9, 0) y.1.length), (9, .own (10, 0) y.2.1.length), (37, .c (.sl (acts.map stPV))), (38, .c (iPV acts.length)), (39, .c (iPV i))], lkM [((9, 0), some ⟨23, 1, (y.1).map uPV, true, [], none⟩), ((10, 0), some ⟨3, 1, (y.2.1).map iPV, true, [], none⟩)], lkG [] 2⟩) (fun y => KInv s y.1 y.2.1 y.2.2) ?_ ?_
        · skip
          repeat (refine AW_seq ?_)
          refine tst (fun h5 => ?_) (fun h5 => ?_)
          · skip
            obtain ⟨⟨M, E⟩, eM⟩ : ∃ z, remR l q = z := ⟨_, rfl⟩
            have hc := hI.out.remR q eM hW.out
            have cM := vRem_is (by omega) eM
            have hEW : (E == 0) = decide (0 ≤ W) := by
              rcases hc with ⟨g1, g2, -⟩ | ⟨k', g1, -, g2, -⟩
              · rw [g1, g2]; decide
              · rw [g1, g2]; simp
            have hEW2 : decide (E = 0) = decide (0 ≤ W) := by rw [← hEW]; rfl
            obtain ⟨hc, -⟩ : Go.RowKit.Hid ((W = -1 ∧ E = 7 ∧ M = l) ∨ ∃ t : Nat, W = t ∧ t < K.length ∧ E = 0 ∧ KInv s (K.take t ++ K.drop (t + 1)) (A.take t ++ A.drop (t + 1)) M) ∧ True := ⟨hc, trivial⟩
            rename_i hc0
            clear hc0
            clear eM
            repeat (refine AW_seq ?_)
            refine reg ?_
            refine run 2 ?_
            refine run 1 ?_
            refine call (fun _ => cM) ?_
            refine run 2 ?_
            refine run 2 ?_
            refine run 1 ?_
            refine fin [5, 7, 8, 9, 12, 15, 16, 37, 38, 39] [(9, 0), (10, 0)] ?_
            repeat (refine AW_seq ?_)
            refine reg ?_
            refine run 2 ?_
            refine run 2 ?_
            refine run 1 ?_
            refine fin [5, 7, 8, 9, 12, 15, 37, 38, 39, 69] [(9, 0), (10, 0)] ?_
            repeat (refine AW_seq ?_)
            refine tstF ?_
            refine AW_skip ?_
            repeat (refine AW_seq ?_)
            refine reg ?_
            refine run 2 ?_
            refine fin [5, 7, 8, 9, 12, 15, 37, 38, 39, 71] [(9, 0), (10, 0)] ?_
            repeat (refine AW_seq ?_)
            refine tst (fun h7 => ?_) (fun h7 => ?_)
            · skip
              have hc2 : ∃ t : Nat, W = t ∧ t < K.length ∧ E = 0 ∧ KInv s (K.take t ++ K.drop (t + 1)) (A.take t ++ A.drop (t + 1)) M := by
                rcases hc.out with ⟨g1, -⟩ | g1
                · rw [g1] at h7; simp at h7
                · exact g1
              obtain ⟨t, hWt, htK, -, hN⟩ := hc2
              obtain ⟨p1, ep1⟩ : ∃ zz, K.take t = zz := ⟨_, rfl⟩
              have mp1 : (K.map uPV).take t = p1.map uPV := by rw [← ep1]; first | exact (List.map_take ..).symm | exact (List.map_drop ..).symm | exact (List.map_append ..).symm | (simp [uPV, iPV]; done)
              have lp1 : p1.length = t := by rw [← ep1]; simp; try omega
              obtain ⟨p2, ep2⟩ : ∃ zz, K.drop (t + 1) = zz := ⟨_, rfl⟩
              have mp2 : (K.map uPV).drop (t + 1) = p2.map uPV := by rw [← ep2]; first | exact (List.map_take ..).symm | exact (List.map_drop ..).symm | exact (List.map_append ..).symm | (simp [uPV, iPV]; done)
              have lp2 : p2.length = K.length - (t + 1) := by rw [← ep2]; simp; try omega
              obtain ⟨p3, ep3⟩ : ∃ zz, p1 ++ p2 = zz := ⟨_, rfl⟩
              have mp3 : p1.map uPV ++ p2.map uPV = p3.map uPV := by rw [← ep3]; first | exact (List.map_take ..).symm | exact (List.map_drop ..).symm | exact (List.map_append ..).symm | (simp [uPV, iPV]; done)
              have lp3 : p3.length = p1.length + p2.length := by rw [← ep3]; simp; try omega
              obtain ⟨n1, en1⟩ : ∃ zz, A.take t = zz := ⟨_, rfl⟩
              have mn1 : (A.map iPV).take t = n1.map iPV := by rw [← en1]; first | exact (List.map_take ..).symm | exact (List.map_drop ..).symm | exact (List.map_append ..).symm | (simp [uPV, iPV]; done)
              have ln1 : n1.length = t := by rw [← en1]; simp; try omega
              obtain ⟨n2, en2⟩ : ∃ zz, A.drop (t + 1) = zz := ⟨_, rfl⟩
              have mn2 : (A.map iPV).drop (t + 1) = n2.map iPV := by rw [← en2]; first | exact (List.map_take ..).symm | exact (List.map_drop ..).symm | exact (List.map_append ..).symm | (simp [uPV, iPV]; done)
              have ln2 : n2.length = A.length - (t + 1) := by rw [← en2]; simp; try omega
              obtain ⟨n3, en3⟩ : ∃ zz, n1 ++ n2 = zz := ⟨_, rfl⟩
              have mn3 : n1.map iPV ++ n2.map iPV = n3.map iPV := by rw [← en3]; first | exact (List.map_take ..).symm | exact (List.map_drop ..).symm | exact (List.map_append ..).symm | (simp [uPV, iPV]; done)
              have ln3 : n3.length = n1.length + n2.length := by rw [← en3]; simp; try omega
              rw [ep1, ep2, ep3, en1, en2, en3] at hN
              have kk : ((t : Int) + 1).toNat = t + 1 := by omega
              obtain ⟨hN, -⟩ : Go.RowKit.Hid (KInv s p3 n3 M) ∧ True := ⟨hN, trivial⟩
              rename_i hN0
              clear hN0
              clear ep1 ep2 ep3 en1 en2 en3 hEW hEW2
              repeat (refine AW_seq ?_)
              refine dt 8 (9, 0) ?_
              refine reg ?_
              refine opW ?_
              refine run 2 ?_
              refine run 2 ?_
              refine run 2 ?_
              refine run 2 ?_
              refine run 2 ?_
              refine fin [5, 7, 8, 9, 12, 15, 37, 38, 39] [(10, 0), (73, 2)] ?_
              repeat (refine AW_seq ?_)
              refine dt 9 (10, 0) ?_
              refine reg ?_
              refine opW ?_
              refine run 2 ?_
              refine run 2 ?_
              refine run 2 ?_
              refine run 2 ?_
              refine run 2 ?_
              refine fin [5, 7, 8, 9, 15, 37, 38, 39] [(73, 2), (83, 2)] ?_
              repeat (refine AW_seq ?_)
              refine reg ?_
              refine run 2 ?_
              refine finN ?_
              exact ⟨(p3, n3, M), hN.out, wkr2 (9, 0) (73, 2) (10, 0) (83, 2)⟩
            · skip
              have hN : KInv s K A M := by
                rcases hc.out with ⟨-, -, g⟩ | ⟨t, g, -⟩
                · rw [g]; exact hI.out
                · rw [g] at h7; simp at h7
              obtain ⟨hN, -⟩ : Go.RowKit.Hid (KInv s K A M) ∧ True := ⟨hN, trivial⟩
              rename_i hN0
              clear hN0
              refine AW_skip ?_
              repeat (refine AW_seq ?_)
              refine reg ?_
              refine run 2 ?_
              refine finN ?_
              exact ⟨(K, A, M), hN.out, wk⟩
          · skip
            obtain ⟨⟨M, v, E⟩, eM⟩ : ∃ z, addR l q = z := ⟨_, rfl⟩
            have hc := hI.out.addR q eM hW.out
            have cM := vAdd_is (by omega) eM
            have hEA : (E == 0) = (decide (W < 0) && decide ((K.length : Int) < (s : Int))) := by
              rcases hc with ⟨g1, -, g3⟩ | ⟨g1, g2, g3, -⟩
              · rw [show (E == 0) = false by simpa using g1]; simp; omega
              · rw [g1]; simp; omega
            have hEA2 : decide (E = 0) = (decide (W < 0) && decide ((K.length : Int) < (s : Int))) := by rw [← hEA]; rfl
            obtain ⟨hc, -⟩ : Go.RowKit.Hid ((E ≠ 0 ∧ M = l ∧ ¬ (W < 0 ∧ K.length < s)) ∨ (E = 0 ∧ W < 0 ∧ K.length < s ∧ KInv s (K ++ [q]) (A ++ [v]) M)) ∧ True := ⟨hc, trivial⟩
            rename_i hc0
            clear hc0
            clear eM
            repeat (refine AW_seq ?_)
            refine reg ?_
            refine run 2 ?_
            refine run 1 ?_
            refine call (fun _ => cM) ?_
            refine run 2 ?_
            refine run 2 ?_
            refine run 2 ?_
            refine run 1 ?_
            refine fin [5, 7, 8, 9, 11, 12, 17, 18, 19, 37, 38, 39] [(9, 0), (10, 0), (12, 1)] ?_
            repeat (refine AW_seq ?_)
            refine reg ?_
            refine run 2 ?_
            refine run 2 ?_
            refine run 2 ?_
            refine run 2 ?_
            refine run 2 ?_
            refine run 1 ?_
            refine fin [5, 7, 8, 9, 11, 17, 18, 19, 37, 38, 39, 111] [(9, 0), (10, 0), (12, 1)] ?_
            repeat (refine AW_seq ?_)
            refine tstF ?_
            refine AW_skip ?_
            repeat (refine AW_seq ?_)
            refine reg ?_
            refine run 2 ?_
            refine fin [5, 7, 8, 9, 11, 17, 18, 37, 38, 39, 113] [(9, 0), (10, 0), (12, 1)] ?_
            repeat (refine AW_seq ?_)
            refine tst (fun h9 => ?_) (fun h9 => ?_)
            · skip
              have hN : KInv s (K ++ [q]) (A ++ [v]) M := by
                rcases hc.out with ⟨-, -, g⟩ | ⟨-, -, -, g⟩
                · exact absurd (by simpa using h9) g
                · exact g
              obtain ⟨p3, ep3⟩ : ∃ zz, K ++ [q] = zz := ⟨_, rfl⟩
              have mp3 : K.map uPV ++ [PV.v (.int .u64 q)] = p3.map uPV := by rw [← ep3]; first | exact (List.map_take ..).symm | exact (List.map_drop ..).symm | exact (List.map_append ..).symm | (simp [uPV, iPV]; done)
              have lp3 : p3.length = K.length + 1 := by rw [← ep3]; simp; try omega
              obtain ⟨n3, en3⟩ : ∃ zz, A ++ [v] = zz := ⟨_, rfl⟩
              have mn3 : A.map iPV ++ [PV.v (.int .i64 v)] = n3.map iPV := by rw [← en3]; first | exact (List.map_take ..).symm | exact (List.map_drop ..).symm | exact (List.map_append ..).symm | (simp [uPV, iPV]; done)
              have ln3 : n3.length = A.length + 1 := by rw [← en3]; simp; try omega
              rw [ep3, en3] at hN
              obtain ⟨hN, -⟩ : Go.RowKit.Hid (KInv s p3 n3 M) ∧ True := ⟨hN, trivial⟩
              rename_i hN0
              clear hN0
              clear ep3 en3
              repeat (refine AW_seq ?_)
              refine reg ?_
              refine run 2 ?_
              refine run 2 ?_
              refine run 2 ?_
              refine run 2 ?_
              refine run 2 ?_
              refine run 1 ?_
              refine fin [5, 7, 8, 9, 17, 37, 38, 39] [(9, 0), (10, 0)] ?_
              repeat (refine AW_seq ?_)
              refine reg ?_
              refine run 2 ?_
              refine finN ?_
              exact ⟨(p3, n3, M), hN.out, wk⟩
            · skip
              have hN : KInv s K A M := by
                rcases hc.out with ⟨-, g, -⟩ | ⟨-, g, g2, -⟩
                · rw [g]; exact hI.out
                · exfalso; simp at h9; omega
              obtain ⟨hN, -⟩ : Go.RowKit.Hid (KInv s K A M) ∧ True := ⟨hN, trivial⟩
              rename_i hN0
              clear hN0
              refine AW_skip ?_
              repeat (refine AW_seq ?_)
              refine reg ?_
              refine run 2 ?_
              refine finN ?_
              exact ⟨(K, A, M), hN.out, wk⟩
        rintro ⟨K2, A2, l2⟩ hJ
        simp only at hJ
        have bK2 := hJ.less
        have lA2 := hJ.alen
        have ll2 := hJ.len
        have cR := vRight_yes hJ.right
        have cK := vKeys_any l2 (by omega)
        have bk := hJ.keys
        obtain ⟨k2, ek2⟩ : ∃ k, keysR l2 = k := ⟨_, rfl⟩
        rw [ek2] at cK bk
        clear ek2
        obtain ⟨hJ, -⟩ : Go.RowKit.Hid (KInv s K2 A2 l2) ∧ True := ⟨hJ, trivial⟩
        rename_i hJ0
        clear hJ0
        repeat (refine AW_seq ?_)
        refine reg ?_
        refine run 2 ?_
        refine run 1 ?_
        refine fin [5, 6, 7, 8, 9, 37, 38, 39, 124, 125, 126] [(9, 0), (10, 0)] ?_
        repeat (refine AW_seq ?_)
        refine AW_block ?_
        refine AW_loops (ι := Nat) (fun t => ⟨lk [(5, .c (iPV s)), (6, .c (.sl (l2.map stPV))), (7, .c (iPV 0)), (8, .own (9, 0) K2.length), (9, .own (10, 0) A2.length), (37, .c (.sl (acts.map stPV))), (38, .c (iPV acts.length)), (39, .c (iPV i)), (124, .own (9, 0) K2.length), (125, .c (iPV K2.length)), (126, .c (iPV t))], lkM ([((9, 0), some ⟨23, 1, (K2).map uPV, true, [], none⟩), ((10, 0), some ⟨3, 1, (A2).map iPV, true, [], none⟩)]), lkG [] 2⟩) (fun t => t ≤ K2.length) (fun t => K2.length - t) 0 (Nat.zero_le _) wk ?_
        rintro t ht
        repeat (refine AW_seq ?_)
        refine reg ?_
        refine run 1 ?_
        refine fin [5, 6, 7, 8, 9, 37, 38, 39, 124, 125, 126, 127] [(9, 0), (10, 0)] ?_
        repeat (refine AW_seq ?_)
        refine tst (fun h10 => ?_) (fun h10 => ?_)
        · simp at h10
          obtain ⟨y, hy, gy⟩ := getD_at h10
          obtain ⟨w, gw, bw, hf⟩ := hJ.out.find h10
          rw [gy] at hf
          have cF := vFind_some hJ.out.right hf
          have htA : t < A2.length := by omega
          clear hf
          refine AW_skip ?_
          repeat (refine AW_seq ?_)
          refine AW_block ?_
          repeat (refine AW_seq ?_)
          refine reg ?_
          refine run 2 ?_
          refine run 2 ?_
          refine run 1 ?_
          refine fin [5, 6, 7, 8, 9, 20, 21, 37, 38, 39, 124, 125, 126] [(9, 0), (10, 0)] ?_
          repeat (refine AW_seq ?_)
          refine reg ?_
          refine run 2 ?_
          refine call (fun _ => cF) ?_
          refine run 2 ?_
          refine run 2 ?_
          refine run 1 ?_
          refine fin [5, 6, 7, 8, 9, 20, 22, 23, 37, 38, 39, 124, 125, 126] [(9, 0), (10, 0)] ?_
          repeat (refine AW_seq ?_)
          refine reg ?_
          refine run 2 ?_
          refine run 2 ?_
          refine run 2 ?_
          refine run 2 ?_
          refine run 2 ?_
          refine fin [5, 6, 7, 8, 9, 37, 38, 39, 124, 125, 126, 146] [(9, 0), (10, 0)] ?_
          repeat (refine AW_seq ?_)
          refine tstF ?_
          refine AW_skip ?_
          repeat (refine AW_seq ?_)
          refine reg ?_
          refine run 2 ?_
          refine finN ?_
          exact ⟨t + 1, by omega, by omega, wk⟩
        · simp at h10
          refine AW_exit ?_
          repeat (refine AW_seq ?_)
          refine reg ?_
          refine run 1 ?_
          refine call (fun _ => cR) ?_
          refine run 2 ?_
          refine run 1 ?_
          refine call (fun _ => cK) ?_
          refine run 2 ?_
          refine run 2 ?_
          refine run 2 ?_
          refine run 2 ?_
          refine run 2 ?_
          refine run 1 ?_
          refine fin [5, 6, 7, 8, 9, 37, 38, 39, 164] [(9, 0), (10, 0)] ?_
          repeat (refine AW_seq ?_)
          refine tstF ?_
          refine AW_skip ?_
          repeat (refine AW_seq ?_)
          refine reg ?_
          refine run 2 ?_
          refine finN ?_
          exact ⟨(i + 1, K2, A2, l2), by show acts.length - (i + 1) < acts.length - i; omega, ⟨by show i + 1 ≤ _; omega, hJ.out⟩, wk⟩
    · simp at h2
      refine AW_exit ?_
      repeat (refine AW_seq ?_)
      refine reg ?_
      refine run 2 ?_
      refine run 1 ?_
      refine call (fun _ => awake_true) ?_
      refine run 2 ?_
      refine fin [4] [] ?_
      refine AW_ret (ret ?_)
      rfl

theorem keeps_all (n : Int) (acts : List Slt) (hn : 0 ≤ n ∧ n ≤ 255) : ACalls Try.prog 4 [.v (.int .u8 n), .sl (acts.map stPV)] (bPV true) := by
  obtain ⟨m, rfl⟩ : ∃ m : Nat, n = m := ⟨n.toNat, by omega⟩
  exact keeps_ih m _ acts (by omega) rfl
end Go.Proofs.Ytaoiffinodfcfaa
