/-
  The law of vertices alone and all connected, on plain data.
  Conditions: none.
-/
import Derived.Test.YtnfnejbdjicbgaaPartL
namespace Go.Proofs.Ytnfnejbdjicbgaa
open Go Go.Ab
set_option linter.unusedVariables false
set_option linter.unusedSimpArgs false

def pathR (j : Nat) : List Ed := (List.range j).map fun i : Nat => ⟨(i : Int) + 1, i, 0⟩
theorem pathR_len (j : Nat) : (pathR j).length = j := by simp [pathR]
theorem pathR_next (j : Nat) : pathR (j + 1) = pathR j ++ [⟨(j : Int) + 1, j, 0⟩] := by
  rw [pathR, pathR, List.range_succ, List.map_append]; rfl
theorem pathR_may {j k : Nat} (h : j + 1 ≤ k ∨ j = 0) : MayE k (pathR j) := fun e he => by
  unfold pathR at he
  obtain ⟨i, hi, rfl⟩ := List.mem_map.1 he
  rw [List.mem_range] at hi
  unfold EdIn; dsimp only; omega
theorem getD_rep (k i : Nat) : (List.replicate k (0 : Int)).getD i default = 0 := by
  rw [List.getD_eq_getElem?_getD, List.getElem?_replicate]
  split <;> rfl
theorem pathR_con {j : Nat} : ∀ i : Nat, i ≤ j → Con (pathR j) (i : Int) 0
  | 0, _ => fun f _ => rfl
  | i + 1, h => fun f hf => by
    have h1 := pathR_con (j := j) i (by omega) f hf
    have h2 := hf ⟨(i : Int) + 1, i, 0⟩ (List.mem_map.2 ⟨i, List.mem_range.2 (by omega), rfl⟩)
    rw [← h1, ← h2]; rfl
theorem pathR_is {j k : Nat} (h : k ≤ j + 1) : IsP k (pathR j) (List.replicate k 0) where
  len := List.length_replicate
  low := fun i hi => by rw [getD_rep]; omega
  con := fun i hi => by rw [getD_rep]; exact pathR_con i (by omega)
  edg := fun e he => by unfold at0; rw [getD_rep, getD_rep]
theorem many_alone (n : Nat) : ∀ i, i ≤ n → manyN (aloneR n) i = i
  | 0, _ => rfl
  | i + 1, h => by rw [manyN, if_pos (aloneR_get (by omega)), many_alone n i (by omega)]
theorem many_rep (n : Nat) : ∀ i, manyN (List.replicate n 0) i = min i 1
  | 0 => rfl
  | i + 1 => by
    rw [manyN, getD_rep, many_rep n i]
    split <;> omega

theorem partNone_any (n : Int) (hn : 0 ≤ n ∧ n ≤ 255) : ACalls Try.prog 8 [.v (.int .u8 n)] (bPV true) := by
  refine ent Try.func8 ?_
  obtain ⟨m, rfl⟩ : ∃ m : Nat, n = m := ⟨n.toNat, by omega⟩
  have hq : ((m : Int).tmod 61) = ((m % 61 : Nat) : Int) := rfl
  obtain ⟨k, ek⟩ : ∃ k, m % 61 = k := ⟨_, rfl⟩
  have hk : k ≤ 60 := by omega
  rw [ek] at hq
  clear ek
  repeat (refine AW_seq ?_)
  refine reg ?_
  refine run 1 ?_
  refine fin [0] [] ?_
  repeat (refine AW_seq ?_)
  refine reg ?_
  refine run 2 ?_
  refine run 2 ?_
  refine fin [3] [] ?_
  repeat (refine AW_seq ?_)
  refine reg ?_
  refine run 1 ?_
  refine fin [3, 4] [] ?_
  refine seed 4 5 33 3 ?_
  repeat (refine AW_seq ?_)
  refine reg ?_
  refine run 1 ?_
  refine fin [3, 4, 5] [(5, 0)] ?_
  repeat (refine AW_seq ?_)
  refine AW_block ?_
  refine AW_loops (ι := Nat × List Ed) (fun z => ⟨lk [(3, .c (iPV k)), (4, .own (5, 0) z.2.length), (5, .c (iPV ((z.1 + 1 : Nat) : Int)))], lkM [((5, 0), some ⟨33, 3, (z.2).map edPV, true, [], none⟩)], lkG [] 1⟩) (fun z => (z.1 + 1 ≤ k ∨ z.1 = 0) ∧ z.2.length = z.1 ∧ z.2 = pathR z.1) (fun z => k - z.1) (0, []) ⟨.inr rfl, rfl, rfl⟩ wk ?_
  rintro ⟨j, X⟩ ⟨hj, hXl, hX⟩
  simp only at hj hXl hX
  have cj : ((j + 1 : Nat) : Int) - 1 = (j : Int) := by omega
  obtain ⟨hX, -⟩ : Go.RowKit.Hid (X = pathR j) ∧ True := ⟨hX, trivial⟩
  rename_i hX0
  clear hX0
  repeat (refine AW_seq ?_)
  refine reg ?_
  refine run 2 ?_
  refine run 1 ?_
  refine fin [3, 4, 5, 16] [(5, 0)] ?_
  repeat (refine AW_seq ?_)
  refine tst (fun h1 => ?_) (fun h1 => ?_)
  · simp at h1
    obtain ⟨X2, eX2⟩ : ∃ x, X ++ [(⟨((j + 1 : Nat) : Int), j, 0⟩ : Ed)] = x := ⟨_, rfl⟩
    have mX2 : X.map edPV ++ [PV.agg [PV.v (.int .i64 ((j + 1 : Nat) : Int)), PV.v (.int .i64 (j : Int)), PV.v (.int .i64 0)]] = X2.map edPV := by rw [← eX2, List.map_append]; rfl
    have lX2 : X2.length = X.length + 1 := by rw [← eX2, List.length_append]; rfl
    obtain ⟨eX2, -⟩ : Go.RowKit.Hid (X ++ [(⟨((j + 1 : Nat) : Int), j, 0⟩ : Ed)] = X2) ∧ True := ⟨eX2, trivial⟩
    rename_i eX20
    clear eX20
    refine AW_skip ?_
    repeat (refine AW_seq ?_)
    refine AW_block ?_
    repeat (refine AW_seq ?_)
    refine reg ?_
    refine run 2 ?_
    refine run 2 ?_
    refine run 2 ?_
    refine run 2 ?_
    refine finN ?_
    refine kp [3, 4, 5] [(5, 0)] ?_
    repeat (refine AW_seq ?_)
    refine reg ?_
    refine run 2 ?_
    refine run 1 ?_
    refine finN ?_
    exact ⟨(j + 1, X2), by show k - (j + 1) < k - j; omega, ⟨by show j + 1 + 1 ≤ k ∨ j + 1 = 0; omega, by show X2.length = j + 1; omega, by show X2 = pathR (j + 1); rw [← eX2.out, hX.out, pathR_next]; rfl⟩, wk⟩
  · simp at h1
    have hm : MayE k X := by rw [hX.out]; exact pathR_may hj
    have c1 := of_yes k (by omega) [] (by decide) (fun e he => by cases he)
    have c2 := of_yes k (by omega) X (by omega) hm
    have hP := isP_alone k
    rw [partR_eq (fun e he => by cases he) hP] at c1
    have hQ : IsP k X (List.replicate k 0) := by rw [hX.out]; exact pathR_is (by omega)
    rw [partR_eq hm hQ] at c2
    have hr := refP_of hP hQ fun f _ e he => by cases he
    have c3 := many_any (aloneR k) (by rw [aloneR_len]; omega)
    rw [manyR, if_pos hP.right, aloneR_len, many_alone k k (Nat.le_refl _)] at c3
    have c4 := many_any (List.replicate k 0) (by rw [List.length_replicate]; omega)
    rw [manyR, if_pos hQ.right, List.length_replicate, many_rep] at c4
    have c5 := refines_any (aloneR k) (List.replicate k 0) (by rw [aloneR_len]; omega) (by rw [List.length_replicate]; omega)
    rw [decide_eq_true hr] at c5
    have lP := aloneR_len k
    have lQ : (List.replicate k (0 : Int)).length = k := List.length_replicate
    have gP := @aloneR_get k
    have gQ := getD_rep k
    obtain ⟨P, eP⟩ : ∃ zz, aloneR k = zz := ⟨_, rfl⟩
    rw [eP] at c1 c3 c5 lP gP
    obtain ⟨Q, eQ⟩ : ∃ zz, List.replicate k (0 : Int) = zz := ⟨_, rfl⟩
    rw [eQ] at c2 c4 c5 lQ gQ
    obtain ⟨M, eM⟩ : ∃ zz, min k 1 = zz := ⟨_, rfl⟩
    rw [eM] at c4
    have em1 : (if (1 : Int) < (k : Int) then 1 else (k : Int)) = (M : Int) := by omega
    have em2 : (if 1 < k then (1 : Int) else (k : Int)) = (M : Int) := by omega
    obtain ⟨gP, -⟩ : Go.RowKit.Hid (∀ {i : Nat}, i < k → P.getD i default = (i : Int)) ∧ True := ⟨gP, trivial⟩
    rename_i gP0
    clear gP0
    obtain ⟨gQ, -⟩ : Go.RowKit.Hid (∀ i : Nat, Q.getD i default = 0) ∧ True := ⟨gQ, trivial⟩
    rename_i gQ0
    clear gQ0
    clear hm hP hQ hr eP eQ eM
    refine AW_exit ?_
    repeat (refine AW_seq ?_)
    refine dt 4 (5, 0) ?_
    refine reg ?_
    refine run 1 ?_
    refine call (fun _ => c1) ?_
    refine run 2 ?_
    refine run 2 ?_
    refine run 1 ?_
    refine fin [3, 4, 6, 7] [(5, 0)] ?_
    repeat (refine AW_seq ?_)
    refine reg ?_
    refine run 2 ?_
    refine call (fun _ => c2) ?_
    refine run 2 ?_
    refine run 2 ?_
    refine run 1 ?_
    refine fin [3, 6, 7, 8, 9] [] ?_
    repeat (refine AW_seq ?_)
    refine reg ?_
    refine run 2 ?_
    refine run 2 ?_
    refine run 2 ?_
    refine run 2 ?_
    refine run 2 ?_
    refine fin [3, 6, 7, 8, 9, 46] [] ?_
    repeat (refine AW_seq ?_)
    refine tstF ?_
    refine AW_skip ?_
    repeat (refine AW_seq ?_)
    refine reg ?_
    refine run 2 ?_
    refine fin [3, 6, 7, 8, 9, 47, 48] [] ?_
    repeat (refine AW_seq ?_)
    refine AW_block ?_
    refine AW_loops (ι := Nat) (fun i => ⟨lk [(3, .c (iPV k)), (6, .c (.sl (P.map iPV))), (7, .c (iPV 0)), (8, .c (.sl (Q.map iPV))), (9, .c (iPV 0)), (47, .c (iPV k)), (48, .c (iPV i))], lkM [], lkG [] 1⟩) (fun i => i ≤ k) (fun i => k - i) 0 (Nat.zero_le _) wk ?_
    rintro i hi
    repeat (refine AW_seq ?_)
    refine reg ?_
    refine run 1 ?_
    refine fin [3, 6, 7, 8, 9, 47, 48, 49] [] ?_
    repeat (refine AW_seq ?_)
    refine tst (fun h3 => ?_) (fun h3 => ?_)
    · simp at h3
      have gx := gP.out (i := i) (by omega)
      have gy := gQ.out i
      refine AW_skip ?_
      repeat (refine AW_seq ?_)
      refine AW_block ?_
      repeat (refine AW_seq ?_)
      refine reg ?_
      refine run 2 ?_
      refine fin [3, 6, 7, 8, 9, 10, 47, 48] [] ?_
      repeat (refine AW_seq ?_)
      refine reg ?_
      refine run 2 ?_
      refine run 2 ?_
      refine run 2 ?_
      refine run 2 ?_
      refine run 2 ?_
      refine run 2 ?_
      refine run 1 ?_
      refine fin [3, 6, 7, 8, 9, 47, 48, 63] [] ?_
      repeat (refine AW_seq ?_)
      refine tstF ?_
      refine AW_skip ?_
      repeat (refine AW_seq ?_)
      refine reg ?_
      refine run 2 ?_
      refine finN ?_
      exact ⟨i + 1, by omega, by omega, wk⟩
    · simp at h3
      refine AW_exit ?_
      repeat (refine AW_seq ?_)
      refine reg ?_
      refine run 2 ?_
      refine run 2 ?_
      refine run 2 ?_
      refine run 2 ?_
      refine call (fun _ => c3) ?_
      refine run 2 ?_
      refine run 2 ?_
      refine run 1 ?_
      refine call (fun _ => c4) ?_
      refine run 2 ?_
      refine run 2 ?_
      refine run 2 ?_
      refine run 1 ?_
      refine call (fun _ => c5) ?_
      refine run 2 ?_
      refine call (fun _ => awake_true) ?_
      refine run 2 ?_
      refine fin [2] [] ?_
      refine AW_ret (ret ?_)
      rfl

end Go.Proofs.Ytnfnejbdjicbgaa