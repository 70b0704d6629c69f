/-
  Contracts of the layer verts on plain data: the dictionary of the keys, what is found, added and removed, all keys.
  Conditions: not too many slots.
-/
import Derived.Test.YtaoiffinodfcfaaVertsM
namespace Go.Proofs.Ytaoiffinodfcfaa
open Go Go.Ab
set_option linter.unusedVariables false
set_option linter.unusedSimpArgs false


theorem isSize_any (n : Int) : ACalls Try.prog 31 [iPV n] (bPV (decide (1 ≤ n) && decide (n ≤ 1024))) := by
  refine ent Try.func31 ?_
  repeat (refine AW_seq ?_)
  refine reg ?_
  refine run 1 ?_
  refine fin [0] [] ?_
  repeat (refine AW_seq ?_)
  refine reg ?_
  refine run 2 ?_
  refine run 2 ?_
  refine run 2 ?_
  refine run 1 ?_
  refine fin [2] [] ?_
  refine AW_ret (ret ?_)
  rfl

theorem by_size (l : List Slt) (hl : l.length < 1099511627776) (h : ¬ (1 ≤ l.length ∧ l.length ≤ 1024)) : ACalls Try.prog 24 [.sl (l.map stPV)] (.tup [.agg [sqPV .nil], bPV false]) := by
  refine ent Try.func24 ?_
  have c1 := isSize_any l.length
  rw [show (decide (1 ≤ (l.length : Int)) && decide ((l.length : Int) ≤ 1024)) = false by simp; omega] at c1
  repeat (refine AW_seq ?_)
  refine reg ?_
  refine run 2 ?_
  refine fin [0, 2] [(3, 0)] ?_
  repeat (refine AW_seq ?_)
  refine reg ?_
  refine run 2 ?_
  refine call (fun _ => c1) ?_
  refine run 1 ?_
  refine fin [0, 2, 11] [(3, 0)] ?_
  repeat (refine AW_seq ?_)
  refine tstT ?_
  repeat (refine AW_seq ?_)
  refine reg ?_
  refine run 2 ?_
  refine run 1 ?_
  refine fin [2, 3] [(3, 0)] ?_
  refine AW_ret (ret ?_)
  rfl

theorem by_main (l : List Slt) (h : 1 ≤ l.length ∧ l.length ≤ 1024) : ACalls Try.prog 24 [.sl (l.map stPV)] (.tup [.agg [sqPV (byT l)], bPV (decide (RightP l))]) := by
  refine ent Try.func24 ?_
  have c1 := isSize_any l.length
  rw [show (decide (1 ≤ (l.length : Int)) && decide ((l.length : Int) ≤ 1024)) = true by simp; omega] at c1
  obtain ⟨ha, hb⟩ := h
  repeat (refine AW_seq ?_)
  refine reg ?_
  refine run 2 ?_
  refine fin [0, 2] [(3, 0)] ?_
  repeat (refine AW_seq ?_)
  refine reg ?_
  refine run 2 ?_
  refine call (fun _ => c1) ?_
  refine run 1 ?_
  refine fin [0, 2, 11] [(3, 0)] ?_
  repeat (refine AW_seq ?_)
  refine tstF ?_
  refine AW_skip ?_
  repeat (refine AW_seq ?_)
  refine reg ?_
  refine run 1 ?_
  refine fin [0, 2, 4] [(3, 0), (5, 0)] ?_
  repeat (refine AW_seq ?_)
  refine reg ?_
  refine run 1 ?_
  refine fin [0, 2, 4, 5] [(3, 0), (5, 0)] ?_
  repeat (refine AW_seq ?_)
  refine reg ?_
  refine run 2 ?_
  refine run 1 ?_
  refine fin [2, 4, 5, 13, 14, 15] [(3, 0), (5, 0)] ?_
  repeat (refine AW_seq ?_)
  refine AW_block ?_
  have e0 : ((usN l 0 : Nat) : Int) = 0 := rfl
  have e00 : tN l 0 = .nil := rfl
  refine AW_loops (ι := Nat) (fun i => ⟨lk [(2, .ptr (3, 0) 1 0 0), (4, .ptr (5, 0) 1 0 0), (5, .c (iPV (usN l i))), (13, .c (.sl (l.map stPV))), (14, .c (iPV l.length)), (15, .c (iPV i))], lkM ([((3, 0), some ⟨60, 1, [.agg [sqPV .nil]], true, [], none⟩), ((5, 0), some ⟨60, 1, [.agg [sqPV (tN l i)]], true, [], none⟩)]), lkG [] 1⟩) (fun i => i ≤ l.length ∧ Emp l i) (fun i => l.length - i) 0 ⟨Nat.zero_le _, fun j hj => absurd hj (Nat.not_lt_zero j)⟩ wk ?_
  rintro i ⟨hi, hE⟩
  clear e0 e00
  obtain ⟨hE, -⟩ : Go.RowKit.Hid (Emp l i) ∧ True := ⟨hE, trivial⟩
  rename_i hE0
  clear hE0
  have bm := usN_le l i
  have dO := dN_ok l i
  have dL := dN_len l i
  obtain ⟨m, em⟩ : ∃ m, usN l i = m := ⟨_, rfl⟩
  obtain ⟨t, et⟩ : ∃ t, tN l i = t := ⟨_, rfl⟩
  rw [em] at bm dL ⊢
  rw [et] at dO ⊢
  obtain ⟨em, -⟩ : Go.RowKit.Hid (usN l i = m) ∧ True := ⟨em, trivial⟩
  rename_i em0
  clear em0
  obtain ⟨et, -⟩ : Go.RowKit.Hid (tN l i = t) ∧ True := ⟨et, trivial⟩
  rename_i et0
  clear et0
  repeat (refine AW_seq ?_)
  refine reg ?_
  refine run 1 ?_
  refine fin [2, 4, 5, 13, 14, 15, 16] [(3, 0), (5, 0)] ?_
  repeat (refine AW_seq ?_)
  refine tst (fun h2 => ?_) (fun h2 => ?_)
  · simp at h2
    obtain ⟨x, hx, gx⟩ := getD_at h2
    obtain ⟨b, k⟩ := x
    refine AW_skip ?_
    repeat (refine AW_seq ?_)
    refine AW_block ?_
    repeat (refine AW_seq ?_)
    refine reg ?_
    refine run 2 ?_
    refine run 2 ?_
    refine run 2 ?_
    refine fin [2, 4, 5, 6, 7, 13, 14, 15] [(3, 0), (5, 0), (8, 1)] ?_
    repeat (refine AW_seq ?_)
    refine reg ?_
    refine run 2 ?_
    refine fin [2, 4, 5, 6, 7, 13, 14, 15, 21] [(3, 0), (5, 0), (8, 1)] ?_
    repeat (refine AW_seq ?_)
    refine tst (fun h3 => ?_) (fun h3 => ?_)
    · skip
      have hu := us_of gx
      rw [h3] at hu
      repeat (refine AW_seq ?_)
      refine reg ?_
      refine run 2 ?_
      refine run 2 ?_
      refine call (fun _ => dO.cPut (by omega) k i) ?_
      refine run 1 ?_
      refine fin [2, 4, 5, 13, 14, 15] [(3, 0), (5, 0)] ?_
      repeat (refine AW_seq ?_)
      refine reg ?_
      refine run 2 ?_
      refine run 1 ?_
      refine finN ?_
      refine kp [2, 4, 5, 13, 14, 15] [(3, 0), (5, 0)] ?_
      repeat (refine AW_seq ?_)
      refine reg ?_
      refine run 2 ?_
      refine finN ?_
      have e1 : ((usN l (i + 1) : Nat) : Int) = (m : Int) + 1 := by rw [usN, if_pos hu, em.out]; omega
      have e2 : tN l (i + 1) = putT t k i := by rw [tN, if_pos hu, et.out, ke_of gx]
      exact ⟨i + 1, by omega, ⟨by omega, emp_next hE.out fun g => absurd (hu.symm.trans g) (by decide)⟩, wk⟩
    · skip
      have hu := us_of gx
      rw [h3] at hu
      repeat (refine AW_seq ?_)
      refine reg ?_
      refine run 2 ?_
      refine run 1 ?_
      refine fin [2, 4, 5, 13, 14, 15, 31] [(3, 0), (5, 0)] ?_
      repeat (refine AW_seq ?_)
      refine tst (fun h4 => ?_) (fun h4 => ?_)
      · simp at h4
        repeat (refine AW_seq ?_)
        refine reg ?_
        refine run 2 ?_
        refine run 1 ?_
        refine fin [2, 3] [(3, 0)] ?_
        refine AW_ret (ret ?_)
        have hn : ¬ RightP l := fun g => h4 (by have := g.2.2.1 i (by omega) hu; rwa [ke_of gx] at this)
        rw [byT, if_neg hn, decide_eq_false hn]
        rfl
      · simp at h4
        refine AW_skip ?_
        repeat (refine AW_seq ?_)
        refine reg ?_
        refine run 2 ?_
        refine finN ?_
        have e1 : ((usN l (i + 1) : Nat) : Int) = (m : Int) := by rw [usN, if_neg (by rw [hu]; decide), em.out]
        have e2 : tN l (i + 1) = t := by rw [tN, if_neg (by rw [hu]; decide), et.out]
        exact ⟨i + 1, by omega, ⟨by omega, emp_next hE.out fun _ => by rw [ke_of gx]; exact h4⟩, wk⟩
  · simp at h2
    refine AW_exit ?_
    repeat (refine AW_seq ?_)
    refine reg ?_
    refine run 1 ?_
    refine call (fun _ => dO.cMany) ?_
    refine run 2 ?_
    refine fin [2, 4, 37] [(3, 0), (5, 0)] ?_
    repeat (refine AW_seq ?_)
    refine tst (fun h5 => ?_) (fun h5 => ?_)
    · simp at h5
      repeat (refine AW_seq ?_)
      refine reg ?_
      refine run 2 ?_
      refine run 1 ?_
      refine fin [2, 3] [(3, 0)] ?_
      refine AW_ret (ret ?_)
      have e1 : i = l.length := by omega
      have hn : ¬ RightP l := fun g => by have := (dN_uni l l.length).2 g.2.2.2; rw [← e1, em.out] at this; omega
      rw [byT, if_neg hn, decide_eq_false hn]
      rfl
    · simp at h5
      refine AW_skip ?_
      repeat (refine AW_seq ?_)
      refine reg ?_
      refine run 2 ?_
      refine run 1 ?_
      refine fin [2, 3] [(3, 0)] ?_
      refine AW_ret (ret ?_)
      have e1 : i = l.length := by omega
      have hn : RightP l := ⟨ha, hb, by rw [← e1]; exact hE.out, by rw [← e1]; exact (dN_uni l i).1 (by rw [em.out]; omega)⟩
      rw [byT, if_pos hn, decide_eq_true hn, ← e1, et.out]
      rfl

theorem by_any (l : List Slt) (hl : l.length < 1099511627776) : ACalls Try.prog 24 [.sl (l.map stPV)] (.tup [.agg [sqPV (byT l)], bPV (decide (RightP l))]) := by
  by_cases h : 1 ≤ l.length ∧ l.length ≤ 1024
  · exact by_main l h
  · have hn : ¬ RightP l := fun g => h ⟨g.1, g.2.1⟩
    have := by_size l hl h
    rwa [byT, if_neg hn, decide_eq_false hn]

theorem vRight_any (l : List Slt) (hl : l.length < 1099511627776) : ACalls Try.prog 18 [.sl (l.map stPV)] (bPV (decide (RightP l))) := by
  refine ent Try.func18 ?_
  have c1 := by_any l hl
  repeat (refine AW_seq ?_)
  refine reg ?_
  refine run 1 ?_
  refine fin [0] [] ?_
  repeat (refine AW_seq ?_)
  refine reg ?_
  refine run 1 ?_
  refine call (fun _ => c1) ?_
  refine run 2 ?_
  refine run 2 ?_
  refine run 2 ?_
  refine fin [4] [] ?_
  repeat (refine AW_seq ?_)
  refine reg ?_
  refine run 2 ?_
  refine fin [2] [] ?_
  refine AW_ret (ret ?_)
  rfl

theorem vFind_ih (l : List Slt) (k : Int) (o : Option Int) (hl : l.length < 1099511627776) (ho : getL (byL l) k = o) : ACalls Try.prog 16 [.sl (l.map stPV), uPV k] (.tup [iPV (o.getD 0), bPV o.isSome]) := by
  refine ent Try.func16 ?_
  have c1 := by_any l hl
  have bl := by_len l
  have c2 := (by_ok l).cGet (by omega) k
  rw [ho, gotPV] at c2
  clear ho
  repeat (refine AW_seq ?_)
  refine reg ?_
  refine run 2 ?_
  refine fin [0, 1] [] ?_
  repeat (refine AW_seq ?_)
  refine reg ?_
  refine run 1 ?_
  refine call (fun _ => c1) ?_
  refine run 2 ?_
  refine run 2 ?_
  refine run 2 ?_
  refine fin [1, 6] [(7, 0)] ?_
  repeat (refine AW_seq ?_)
  refine reg ?_
  refine run 2 ?_
  refine call (fun _ => c2) ?_
  refine run 2 ?_
  refine run 2 ?_
  refine fin [4, 5] [] ?_
  refine AW_ret (ret ?_)
  rfl

theorem vFind_any (l : List Slt) (k : Int) (hl : l.length < 1099511627776) : ACalls Try.prog 16 [.sl (l.map stPV), uPV k] (.tup [iPV ((getL (byL l) k).getD 0), bPV (getL (byL l) k).isSome]) := vFind_ih l k _ hl rfl

theorem vKeys_ih (l : List Slt) (L : List Pr) (hl : l.length < 1099511627776) (hL : byL l = L) : ACalls Try.prog 17 [.sl (l.map stPV)] (.sl ((L.map (·.1)).map uPV)) := by
  refine ent Try.func17 ?_
  have c1 := by_any l hl
  have bl := by_len l
  have c2 := (by_ok l).cPairs (by omega)
  rw [hL] at c2 bl
  clear hL
  repeat (refine AW_seq ?_)
  refine reg ?_
  refine run 1 ?_
  refine fin [0] [] ?_
  repeat (refine AW_seq ?_)
  refine reg ?_
  refine run 1 ?_
  refine call (fun _ => c1) ?_
  refine run 2 ?_
  refine run 2 ?_
  refine run 2 ?_
  refine fin [3] [(4, 0)] ?_
  repeat (refine AW_seq ?_)
  refine reg ?_
  refine run 1 ?_
  refine fin [3, 5] [(4, 0)] ?_
  refine seed 5 6 23 1 ?_
  repeat (refine AW_seq ?_)
  refine reg ?_
  refine run 1 ?_
  refine call (fun _ => c2) ?_
  refine run 2 ?_
  refine fin [5, 14, 15, 16] [(6, 0)] ?_
  repeat (refine AW_seq ?_)
  refine AW_block ?_
  refine AW_loops (ι := Nat × List Int) (fun z => ⟨lk [(5, .own (6, 0) z.2.length), (14, .c (.sl (L.map pPV))), (15, .c (iPV L.length)), (16, .c (iPV z.1))], lkM ([((6, 0), some ⟨23, 1, (z.2).map uPV, true, [], none⟩)]), lkG [] 1⟩) (fun z => z.1 ≤ L.length ∧ z.2 = (L.take z.1).map (·.1)) (fun z => L.length - z.1) (0, []) ⟨Nat.zero_le _, rfl⟩ wk ?_
  rintro ⟨i, o⟩ ⟨hi, ho⟩
  simp only at hi ho
  have hol : o.length = i := by rw [ho, List.length_map, List.length_take]; omega
  obtain ⟨ho, -⟩ : Go.RowKit.Hid (o = (L.take i).map (·.1)) ∧ True := ⟨ho, trivial⟩
  rename_i ho0
  clear ho0
  repeat (refine AW_seq ?_)
  refine reg ?_
  refine run 1 ?_
  refine fin [5, 14, 15, 16, 17] [(6, 0)] ?_
  repeat (refine AW_seq ?_)
  refine tst (fun h1 => ?_) (fun h1 => ?_)
  · simp at h1
    have hi' : i < L.length := by omega
    obtain ⟨x, hx⟩ : ∃ x, L.getD i default = x := ⟨_, rfl⟩
    have htk := take_map hi' hx
    obtain ⟨o2, ho2⟩ : ∃ o2, o ++ [x.1] = o2 := ⟨_, rfl⟩
    have hom : o.map uPV ++ [PV.v (.int .u64 x.1)] = o2.map uPV := by rw [← ho2, List.map_append]; rfl
    have ho2l : o2.length = o.length + 1 := by rw [← ho2, List.length_append]; rfl
    obtain ⟨ho2, -⟩ : Go.RowKit.Hid (o ++ [x.1] = o2) ∧ True := ⟨ho2, trivial⟩
    rename_i ho20
    clear ho20
    obtain ⟨htk, -⟩ : Go.RowKit.Hid (L.take (i + 1) = L.take i ++ [x]) ∧ True := ⟨htk, trivial⟩
    rename_i htk0
    clear htk0
    refine AW_skip ?_
    repeat (refine AW_seq ?_)
    refine AW_block ?_
    repeat (refine AW_seq ?_)
    refine reg ?_
    refine run 2 ?_
    refine run 2 ?_
    refine fin [5, 7, 14, 15, 16] [(6, 0), (8, 1)] ?_
    repeat (refine AW_seq ?_)
    refine reg ?_
    refine run 2 ?_
    refine run 2 ?_
    refine run 2 ?_
    refine finN ?_
    refine kp [5, 14, 15, 16] [(6, 0)] ?_
    repeat (refine AW_seq ?_)
    refine reg ?_
    refine run 2 ?_
    refine finN ?_
    refine ⟨(i + 1, o2), by show L.length - (i + 1) < L.length - i; omega, ⟨by show i + 1 ≤ _; omega, by show o2 = _; rw [htk.out, List.map_append, ← ho.out]; exact ho2.out.symm⟩, wk⟩
  · simp at h1
    have hoo : o = L.map (·.1) := by rw [ho.out, List.take_of_length_le (by omega)]
    refine AW_exit ?_
    repeat (refine AW_seq ?_)
    refine reg ?_
    refine run 2 ?_
    refine fin [2] [(6, 0)] ?_
    refine AW_ret (ret ?_)
    rw [← hoo]

theorem vKeys_any (l : List Slt) (hl : l.length < 1099511627776) : ACalls Try.prog 17 [.sl (l.map stPV)] (.sl ((keysR l).map uPV)) := vKeys_ih l _ hl rfl

theorem cloneS_cons (x : Slt) (p : List Slt) (hl : p.length < 1099511627776) : FCalls Try.prog 36 [.sl ((x :: p).map stPV)] ⟨55, 2, (x :: p).map stPV, true, [], none⟩ := by
  refine entF Try.func36 ?_
  repeat (refine AW_seq ?_)
  refine reg ?_
  refine run 1 ?_
  refine fin [0] [] ?_
  repeat (refine AW_seq ?_)
  refine reg ?_
  refine run 2 ?_
  refine fin [0, 4] [] ?_
  repeat (refine AW_seq ?_)
  refine tstF ?_
  refine AW_skip ?_
  repeat (refine AW_seq ?_)
  refine reg ?_
  refine opW ?_
  refine run 2 ?_
  refine run 1 ?_
  refine fin [2] [(6, 0)] ?_
  refine AW_ret (retF ?_)
  rfl

theorem with_ih (x : Slt) (l l2 : List Slt) (v : Nat) (s : Slt) (hl : l.length < 1099511627776) (hv : v < (x :: l).length) (h2 : (x :: l).set v s = l2) : FCalls Try.prog 28 [.sl ((x :: l).map stPV), iPV v, stPV s] ⟨55, 2, (l2).map stPV, true, [], none⟩ := by
  refine entF Try.func28 ?_
  have c0 := cloneS_cons x l hl
  obtain ⟨L, hL⟩ : ∃ L, x :: l = L := ⟨_, rfl⟩
  rw [hL] at hv h2 c0 ⊢
  have m2 : (L.map stPV).set v (PV.agg [PV.v (.bool s.used), PV.v (.int .u64 s.key)]) = l2.map stPV := by rw [← h2, List.map_set]; rfl
  have l2l : l2.length = L.length := by rw [← h2, List.length_set]
  have bL : L.length < 1099511627777 := by rw [← hL]; simp; omega
  clear h2 hL
  repeat (refine AW_seq ?_)
  refine reg ?_
  refine run 2 ?_
  refine fin [0, 1, 5] [(6, 0)] ?_
  repeat (refine AW_seq ?_)
  refine reg ?_
  refine run 1 ?_
  refine fcall (c0) ?_
  refine run 1 ?_
  refine fin [0, 1, 5] [(6, 0), (9, 0)] ?_
  repeat (refine AW_seq ?_)
  refine reg ?_
  refine run 2 ?_
  refine run 2 ?_
  refine run 1 ?_
  refine fin [0] [(9, 0)] ?_
  repeat (refine AW_seq ?_)
  refine reg ?_
  refine run 2 ?_
  refine fin [6] [(9, 0)] ?_
  refine AW_ret (retF ?_)
  rfl

theorem with_any (l : List Slt) (v : Nat) (s : Slt) (hl : l.length < 1099511627776) (hv : v < l.length) : ACalls Try.prog 28 [.sl (l.map stPV), iPV v, stPV s] (.sl ((l.set v s).map stPV)) := by
  cases l with
  | nil => simp at hv
  | cons x l => exact (with_ih x l _ v s (by simp at hl; omega) hv rfl).a
def idxI : Option Nat → Int
  | none => -1
  | some v => v

theorem index_any (l : List Slt) (hl : l.length < 1099511627776) (f : Nat) (cs : List PV) (p : Slt → Bool) (hp : ∀ s, ACalls Try.prog f ([stPV s] ++ cs) (bPV (p s))) : ACalls Try.prog 26 [.sl (l.map stPV), .fn f cs] (iPV (idxI (l.findIdx? p))) := by
  refine ent Try.func26 ?_
  obtain ⟨hp, -⟩ : Go.RowKit.Hid (∀ s, ACalls Try.prog f ([stPV s] ++ cs) (bPV (p s))) ∧ True := ⟨hp, trivial⟩
  rename_i hp0
  clear hp0
  repeat (refine AW_seq ?_)
  refine reg ?_
  refine run 1 ?_
  refine fin [0, 1] [] ?_
  repeat (refine AW_seq ?_)
  refine reg ?_
  refine run 2 ?_
  refine run 1 ?_
  refine fin [0, 1, 7, 8] [] ?_
  repeat (refine AW_seq ?_)
  refine AW_block ?_
  refine AW_loops (ι := Nat) (fun i => ⟨lk [(0, .c (.sl (l.map stPV))), (1, .c (.fn f cs)), (7, .c (iPV l.length)), (8, .c (iPV i))], lkM ([]), lkG [] 0⟩) (fun i => i ≤ l.length ∧ ∀ j, j < i → p (l.getD j default) = false) (fun i => l.length - i) 0 ⟨Nat.zero_le _, fun j hj => absurd hj (Nat.not_lt_zero j)⟩ wk ?_
  rintro i ⟨hi, hE⟩
  obtain ⟨hE, -⟩ : Go.RowKit.Hid (∀ j, j < i → p (l.getD j default) = false) ∧ True := ⟨hE, trivial⟩
  rename_i hE0
  clear hE0
  repeat (refine AW_seq ?_)
  refine reg ?_
  refine run 1 ?_
  refine fin [0, 1, 7, 8, 9] [] ?_
  repeat (refine AW_seq ?_)
  refine tst (fun h1 => ?_) (fun h1 => ?_)
  · simp at h1
    obtain ⟨x, hx, gx⟩ := getD_at h1
    have hc := hp.out x
    obtain ⟨B, hB⟩ : ∃ B, p x = B := ⟨_, rfl⟩
    rw [hB] at hc
    refine AW_skip ?_
    repeat (refine AW_seq ?_)
    refine AW_block ?_
    repeat (refine AW_seq ?_)
    refine reg ?_
    refine run 2 ?_
    refine fin [0, 1, 5, 7, 8] [] ?_
    repeat (refine AW_seq ?_)
    refine reg ?_
    refine run 2 ?_
    refine run 2 ?_
    refine run 1 ?_
    refine ccall (fun _ => hc) ?_
    refine fin [0, 1, 5, 7, 8, 16] [] ?_
    repeat (refine AW_seq ?_)
    refine tst (fun h2 => ?_) (fun h2 => ?_)
    · skip
      repeat (refine AW_seq ?_)
      refine reg ?_
      refine run 2 ?_
      refine fin [4] [] ?_
      refine AW_ret (ret ?_)
      have e1 : l.findIdx? p = some i := fst_some.2 ⟨by omega, by rw [gx, hB, h2], hE.out⟩
      rw [e1]
      rfl
    · skip
      refine AW_skip ?_
      repeat (refine AW_seq ?_)
      refine reg ?_
      refine run 2 ?_
      refine finN ?_
      exact ⟨i + 1, by omega, ⟨by omega, fun j hj => by
        rcases Nat.lt_or_ge j i with h3 | h3
        · exact hE.out j h3
        · obtain rfl : j = i := by omega
          rw [gx, hB, h2]⟩, wk⟩
  · simp at h1
    refine AW_exit ?_
    repeat (refine AW_seq ?_)
    refine reg ?_
    refine run 1 ?_
    refine fin [4] [] ?_
    refine AW_ret (ret ?_)
    have e1 : l.findIdx? p = none := fst_none.2 fun j hj => hE.out j (by omega)
    rw [e1]
    rfl

theorem add1_any (s : Slt) : ACalls Try.prog 27 [stPV s] (bPV (!s.used)) := by
  refine ent Try.func27 ?_
  repeat (refine AW_seq ?_)
  refine reg ?_
  refine run 2 ?_
  refine fin [1] [(2, 0)] ?_
  repeat (refine AW_seq ?_)
  refine reg ?_
  refine run 2 ?_
  refine run 2 ?_
  refine fin [2] [] ?_
  refine AW_ret (ret ?_)
  rfl

end Go.Proofs.Ytaoiffinodfcfaa