/-
  The laws of layer dict on plain data: what is put and deleted again; what is done by another key.
  Conditions: numbers are those of their kinds.
-/
import Derived.Test.YtinlmjgdhkalnaaDictA
namespace Go.Proofs.Ytinlmjgdhkalnaa
open Go Go.Ab
set_option linter.unusedVariables false
set_option linter.unusedSimpArgs false

instance : Inhabited Act := ⟨⟨false, 0, 0⟩⟩

set_option maxHeartbeats 4000000 in
theorem dictBack_any (acts : List Act) (k n m : Int) : ACalls Try.prog 4 [.sl (acts.map actPV), uPV k, iPV n, iPV m] (bPV true) := by
  refine ent Try.func4 ?_
  repeat (refine AW_seq ?_)
  refine reg ?_
  refine run 1 ?_
  refine fin [0, 1, 2, 3] [] ?_
  repeat (refine AW_seq ?_)
  refine reg ?_
  refine run 2 ?_
  refine run 1 ?_
  refine fin [0, 1, 2, 3, 21] [] ?_
  repeat (refine AW_seq ?_)
  refine tst (fun h1 => ?_) (fun h1 => ?_)
  · simp at h1
    repeat (refine AW_seq ?_)
    refine reg ?_
    refine call (fun _ => awake_true) ?_
    refine run 1 ?_
    refine fin [8] [] ?_
    refine AW_ret (ret ?_)
    rfl
  · simp at h1
    have hlen : acts.length ≤ 60 := by omega
    clear h1
    refine AW_skip ?_
    repeat (refine AW_seq ?_)
    refine reg ?_
    refine run 1 ?_
    refine fin [0, 1, 2, 3, 9] [(10, 0)] ?_
    repeat (refine AW_seq ?_)
    refine reg ?_
    refine run 2 ?_
    refine run 1 ?_
    refine fin [1, 2, 3, 9, 23, 24, 25] [(10, 0)] ?_
    repeat (refine AW_seq ?_)
    refine AW_block ?_
    refine AW_loops (ι := Nat × Tr Pr × List Pr) (fun z => ⟨lk [(1, .c (uPV k)), (2, .c (iPV n)), (3, .c (iPV m)), (9, .ptr (10, 0) 1 0 0), (23, .c (.sl (acts.map actPV))), (24, .c (iPV acts.length)), (25, .c (iPV z.1))], lkM [((10, 0), some ⟨27, 1, [.agg [sqPV z.2.1]], true, []⟩)], lkG [] 1⟩) (fun z => z.1 ≤ acts.length ∧ DOk z.2.1 z.2.2 ∧ z.2.2.length ≤ z.1) (fun z => acts.length - z.1) (0, .nil, []) ⟨Nat.zero_le _, DOk.nil, Nat.le_refl _⟩ wk ?_
    rintro ⟨i, t, l⟩ ⟨hi, hD, hll⟩
    simp only at hi hD hll
    repeat (refine AW_seq ?_)
    refine reg ?_
    refine run 1 ?_
    refine fin [1, 2, 3, 9, 23, 24, 25, 26] [(10, 0)] ?_
    repeat (refine AW_seq ?_)
    refine tst (fun h2 => ?_) (fun h2 => ?_)
    · simp at h2
      have hi' : i < acts.length := by omega
      obtain ⟨a, ha⟩ : ∃ a, acts.getD i default = a := ⟨_, rfl⟩
      refine AW_skip ?_
      repeat (refine AW_seq ?_)
      refine AW_block ?_
      repeat (refine AW_seq ?_)
      refine reg ?_
      refine run 2 ?_
      refine run 2 ?_
      refine fin [1, 2, 3, 9, 11, 23, 24, 25] [(10, 0), (12, 1)] ?_
      repeat (refine AW_seq ?_)
      refine reg ?_
      refine run 2 ?_
      refine fin [1, 2, 3, 9, 11, 23, 24, 25, 30] [(10, 0), (12, 1)] ?_
      repeat (refine AW_seq ?_)
      refine tst (fun h3 => ?_) (fun h3 => ?_)
      · skip
        repeat (refine AW_seq ?_)
        refine reg ?_
        refine run 2 ?_
        refine run 1 ?_
        refine call (fun _ => hD.cDel (by omega) a.key) ?_
        refine run 2 ?_
        refine run 2 ?_
        refine finN ?_
        refine kp [1, 2, 3, 9, 23, 24, 25] [(10, 0)] ?_
        repeat (refine AW_seq ?_)
        refine reg ?_
        refine run 2 ?_
        refine finN ?_
        refine ⟨(i + 1, delT t a.key, delL l a.key), by show acts.length - (i + 1) < acts.length - i; omega, ⟨by show i + 1 ≤ _; omega, hD.del _, by show (delL l a.key).length ≤ i + 1; have := delL_len l a.key; omega⟩, wk⟩
      · skip
        repeat (refine AW_seq ?_)
        refine reg ?_
        refine run 2 ?_
        refine run 2 ?_
        refine run 1 ?_
        refine call (fun _ => hD.cPut (by omega) a.key a.n) ?_
        refine run 1 ?_
        refine finN ?_
        refine kp [1, 2, 3, 9, 23, 24, 25] [(10, 0)] ?_
        repeat (refine AW_seq ?_)
        refine reg ?_
        refine run 2 ?_
        refine finN ?_
        refine ⟨(i + 1, putT t a.key a.n, putL l a.key a.n), by show acts.length - (i + 1) < acts.length - i; omega, ⟨by show i + 1 ≤ _; omega, hD.put _ _, by show (putL l a.key a.n).length ≤ i + 1; have := putL_len l a.key a.n; omega⟩, wk⟩
    · simp at h2
      have hl60 : l.length ≤ 60 := by omega
      have D1 := hD.put k n
      have D2 := D1.put k m
      have b1 := putL_len l k n
      have b2 := putL_len (putL l k n) k m
      have c1 := hD.cPut (by omega) k n
      have c2 := D1.cPut (by omega) k m
      have c3 := D2.cGet (by omega) k
      have c4 := D2.cDel (by omega) k
      have c7 := (D2.del k).cPairs (by have := delL_len (putL (putL l k n) k m) k; omega)
      rw [get_put_same D1.inc] at c3 c4
      rw [del_put D1.inc, del_put hD.inc] at c7
      have c5 := hD.cGet (by omega) k
      have b3 := delL_len l k
      have cr := refs_any (delL l k) (by omega)
      have cs := same_any (delL l k) (by omega)
      replace c3 : ACalls Try.prog 18 [.agg [sqPV (putT (putT t k n) k m)], uPV k] (.tup [iPV m, bPV true]) := c3
      obtain ⟨t2, ht2⟩ : ∃ t2, putT (putT t k n) k m = t2 := ⟨_, rfl⟩
      rw [ht2] at c2 c3 c4 c7
      obtain ⟨q, hq⟩ : ∃ q, delT t2 k = q := ⟨_, rfl⟩
      rw [hq] at c4 c7
      replace c4 : ACalls Try.prog 10 [.agg [sqPV t2], uPV k] (.tup [.agg [sqPV q], bPV true]) := c4
      obtain ⟨p1, hp1⟩ : ∃ p1, putT t k n = p1 := ⟨_, rfl⟩
      rw [hp1] at c1 c2
      obtain ⟨G, hG⟩ : ∃ G, delL l k = G := ⟨_, rfl⟩
      rw [hG] at c7 cr cs
      have c6 := hD.cDel (by omega) k
      obtain ⟨O, hO⟩ : ∃ O, (getL l k).isSome = O := ⟨_, rfl⟩
      obtain ⟨V, hV⟩ : ∃ V, (getL l k).getD 0 = V := ⟨_, rfl⟩
      rw [gotPV, hO, hV] at c5
      rw [hO] at c6
      obtain ⟨d1, hd1⟩ : ∃ d1, delT t k = d1 := ⟨_, rfl⟩
      rw [hd1] at c6
      obtain ⟨hD, -⟩ : Go.RowKit.Hid (DOk t l) ∧ True := ⟨hD, trivial⟩
      rename_i hid0
      clear hid0 D1 D2 ht2 hq hp1 hV hll hi
      refine AW_exit ?_
      repeat (refine AW_seq ?_)
      refine reg ?_
      refine run 2 ?_
      refine run 1 ?_
      refine call (fun _ => c1) ?_
      refine run 2 ?_
      refine call (fun _ => c2) ?_
      refine run 2 ?_
      refine fin [1, 3, 9, 12] [(10, 0), (13, 1)] ?_
      repeat (refine AW_seq ?_)
      refine reg ?_
      refine run 2 ?_
      refine call (fun _ => c3) ?_
      refine run 2 ?_
      refine run 2 ?_
      refine run 1 ?_
      refine fin [1, 3, 9, 12, 13, 14] [(10, 0), (13, 1)] ?_
      repeat (refine AW_seq ?_)
      refine reg ?_
      refine run 2 ?_
      refine call (fun _ => c4) ?_
      refine run 2 ?_
      refine run 2 ?_
      refine run 2 ?_
      refine fin [1, 3, 9, 13, 14, 15, 16] [(10, 0), (16, 1)] ?_
      repeat (refine AW_seq ?_)
      refine reg ?_
      refine run 2 ?_
      refine call (fun _ => c5) ?_
      refine run 2 ?_
      refine run 2 ?_
      refine run 1 ?_
      refine fin [1, 3, 9, 13, 14, 15, 16, 18] [(10, 0), (16, 1)] ?_
      repeat (refine AW_seq ?_)
      refine reg ?_
      refine run 1 ?_
      refine fin [1, 3, 9, 13, 14, 15, 16, 70] [(10, 0), (16, 1)] ?_
      repeat (refine AW_seq ?_)
      refine tst (fun h4 => ?_) (fun h4 => ?_)
      · skip
        have c8 := (hD.out.del k).cPairs (by omega)
        rw [hd1, hG] at c8
        clear hO hd1 hG b1 b2 b3
        repeat (refine AW_seq ?_)
        refine reg ?_
        refine run 2 ?_
        refine call (fun _ => c6) ?_
        refine run 2 ?_
        refine run 2 ?_
        refine fin [3, 9, 13, 14, 15, 16] [(10, 0), (16, 1)] ?_
        repeat (refine AW_seq ?_)
        refine reg ?_
        refine run 2 ?_
        refine run 2 ?_
        refine run 2 ?_
        refine run 2 ?_
        refine run 2 ?_
        refine run 1 ?_
        refine call (fun _ => c7) ?_
        refine call (fun _ => cr) ?_
        refine run 1 ?_
        refine call (fun _ => c8) ?_
        refine call (fun _ => cr) ?_
        refine call (fun _ => cs) ?_
        refine run 2 ?_
        refine call (fun _ => awake_true) ?_
        refine run 2 ?_
        refine fin [8] [] ?_
        refine AW_ret (ret ?_)
        rfl
      · skip
        have hno : getL l k = none := by rw [h4] at hO; cases e : getL l k with
          | none => rfl
          | some y => rw [e] at hO; cases hO
        have c8 := hD.out.cPairs (by omega)
        rw [← del_none hD.out.inc hno, hG] at c8
        clear hO hd1 hG b1 b2 b3 hno
        refine AW_skip ?_
        repeat (refine AW_seq ?_)
        refine reg ?_
        refine run 2 ?_
        refine run 2 ?_
        refine run 2 ?_
        refine run 2 ?_
        refine run 2 ?_
        refine run 1 ?_
        refine call (fun _ => c7) ?_
        refine call (fun _ => cr) ?_
        refine run 1 ?_
        refine call (fun _ => c8) ?_
        refine call (fun _ => cr) ?_
        refine call (fun _ => cs) ?_
        refine run 2 ?_
        refine call (fun _ => awake_true) ?_
        refine run 2 ?_
        refine fin [8] [] ?_
        refine AW_ret (ret ?_)
        rfl

set_option maxHeartbeats 4000000 in
theorem dictApart_any (acts : List Act) (x y n : Int) : ACalls Try.prog 7 [.sl (acts.map actPV), uPV x, uPV y, iPV n] (bPV true) := by
  refine ent Try.func7 ?_
  repeat (refine AW_seq ?_)
  refine reg ?_
  refine run 1 ?_
  refine fin [0, 1, 2, 3] [] ?_
  repeat (refine AW_seq ?_)
  refine reg ?_
  refine run 2 ?_
  refine run 2 ?_
  refine run 2 ?_
  refine run 2 ?_
  refine fin [0, 1, 2, 3, 32] [] ?_
  repeat (refine AW_seq ?_)
  refine tst (fun h1 => ?_) (fun h1 => ?_)
  · skip
    repeat (refine AW_seq ?_)
    refine reg ?_
    refine call (fun _ => awake_true) ?_
    refine run 1 ?_
    refine fin [8] [] ?_
    refine AW_ret (ret ?_)
    rfl
  · skip
    have hlen : acts.length ≤ 60 := by simp at h1; omega
    have hxy : y ≠ x := by simp at h1; omega
    clear h1
    refine AW_skip ?_
    repeat (refine AW_seq ?_)
    refine reg ?_
    refine run 1 ?_
    refine fin [0, 1, 2, 3, 9] [(10, 0)] ?_
    repeat (refine AW_seq ?_)
    refine reg ?_
    refine run 2 ?_
    refine run 1 ?_
    refine fin [1, 2, 3, 9, 34, 35, 36] [(10, 0)] ?_
    repeat (refine AW_seq ?_)
    refine AW_block ?_
    refine AW_loops (ι := Nat × Tr Pr × List Pr) (fun z => ⟨lk [(1, .c (uPV x)), (2, .c (uPV y)), (3, .c (iPV n)), (9, .ptr (10, 0) 1 0 0), (34, .c (.sl (acts.map actPV))), (35, .c (iPV acts.length)), (36, .c (iPV z.1))], lkM [((10, 0), some ⟨27, 1, [.agg [sqPV z.2.1]], true, []⟩)], lkG [] 1⟩) (fun z => z.1 ≤ acts.length ∧ DOk z.2.1 z.2.2 ∧ z.2.2.length ≤ z.1) (fun z => acts.length - z.1) (0, .nil, []) ⟨Nat.zero_le _, DOk.nil, Nat.le_refl _⟩ wk ?_
    rintro ⟨i, t, l⟩ ⟨hi, hD, hll⟩
    simp only at hi hD hll
    repeat (refine AW_seq ?_)
    refine reg ?_
    refine run 1 ?_
    refine fin [1, 2, 3, 9, 34, 35, 36, 37] [(10, 0)] ?_
    repeat (refine AW_seq ?_)
    refine tst (fun h2 => ?_) (fun h2 => ?_)
    · simp at h2
      have hi' : i < acts.length := by omega
      obtain ⟨a, ha⟩ : ∃ a, acts.getD i default = a := ⟨_, rfl⟩
      refine AW_skip ?_
      repeat (refine AW_seq ?_)
      refine AW_block ?_
      repeat (refine AW_seq ?_)
      refine reg ?_
      refine run 2 ?_
      refine run 2 ?_
      refine fin [1, 2, 3, 9, 11, 34, 35, 36] [(10, 0), (12, 1)] ?_
      repeat (refine AW_seq ?_)
      refine reg ?_
      refine run 2 ?_
      refine fin [1, 2, 3, 9, 11, 34, 35, 36, 41] [(10, 0), (12, 1)] ?_
      repeat (refine AW_seq ?_)
      refine tst (fun h3 => ?_) (fun h3 => ?_)
      · skip
        repeat (refine AW_seq ?_)
        refine reg ?_
        refine run 2 ?_
        refine run 1 ?_
        refine call (fun _ => hD.cDel (by omega) a.key) ?_
        refine run 2 ?_
        refine run 2 ?_
        refine finN ?_
        refine kp [1, 2, 3, 9, 34, 35, 36] [(10, 0)] ?_
        repeat (refine AW_seq ?_)
        refine reg ?_
        refine run 2 ?_
        refine finN ?_
        refine ⟨(i + 1, delT t a.key, delL l a.key), by show acts.length - (i + 1) < acts.length - i; omega, ⟨by show i + 1 ≤ _; omega, hD.del _, by show (delL l a.key).length ≤ i + 1; have := delL_len l a.key; omega⟩, wk⟩
      · skip
        repeat (refine AW_seq ?_)
        refine reg ?_
        refine run 2 ?_
        refine run 2 ?_
        refine run 1 ?_
        refine call (fun _ => hD.cPut (by omega) a.key a.n) ?_
        refine run 1 ?_
        refine finN ?_
        refine kp [1, 2, 3, 9, 34, 35, 36] [(10, 0)] ?_
        repeat (refine AW_seq ?_)
        refine reg ?_
        refine run 2 ?_
        refine finN ?_
        refine ⟨(i + 1, putT t a.key a.n, putL l a.key a.n), by show acts.length - (i + 1) < acts.length - i; omega, ⟨by show i + 1 ≤ _; omega, hD.put _ _, by show (putL l a.key a.n).length ≤ i + 1; have := putL_len l a.key a.n; omega⟩, wk⟩
    · simp at h2
      have D1 := hD.put x n
      have D2 := D1.del x
      have b1 := putL_len l x n
      have b2 := delL_len (putL l x n) x
      have c1 := hD.cGet (by omega) y
      have c2 := hD.cPut (by omega) x n
      have c3 := D1.cGet (by omega) y
      have c4 := D1.cDel (by omega) x
      have c5 := D2.cGet (by omega) y
      have c6 := D1.cGet (by omega) x
      have c7 := D2.cGet (by omega) x
      rw [get_put_else hD.inc n hxy] at c3
      rw [get_del_else D1.inc hxy, get_put_else hD.inc n hxy] at c5
      rw [get_put_same hD.inc] at c4 c6
      rw [get_del_same D1.inc] at c7
      obtain ⟨p, hp⟩ : ∃ p, putT t x n = p := ⟨_, rfl⟩
      rw [hp] at c2 c3 c4 c5 c6 c7
      obtain ⟨q, hq⟩ : ∃ q, delT p x = q := ⟨_, rfl⟩
      rw [hq] at c4 c5 c7
      obtain ⟨O, hO⟩ : ∃ O, (getL l y).isSome = O := ⟨_, rfl⟩
      obtain ⟨V, hV⟩ : ∃ V, (getL l y).getD 0 = V := ⟨_, rfl⟩
      rw [gotPV, hO, hV] at c1 c3 c5
      replace c4 : ACalls Try.prog 10 [.agg [sqPV p], uPV x] (.tup [.agg [sqPV q], bPV true]) := c4
      replace c6 : ACalls Try.prog 18 [.agg [sqPV p], uPV x] (.tup [iPV n, bPV true]) := c6
      replace c7 : ACalls Try.prog 18 [.agg [sqPV q], uPV x] (.tup [iPV 0, bPV false]) := c7
      clear D1 D2 hD hp hq hO hV b1 b2 hxy hll hi
      refine AW_exit ?_
      repeat (refine AW_seq ?_)
      refine reg ?_
      refine run 2 ?_
      refine call (fun _ => c1) ?_
      refine run 2 ?_
      refine run 2 ?_
      refine run 1 ?_
      refine fin [1, 2, 3, 9, 12, 13] [(10, 0)] ?_
      repeat (refine AW_seq ?_)
      refine reg ?_
      refine run 2 ?_
      refine run 1 ?_
      refine call (fun _ => c2) ?_
      refine run 2 ?_
      refine fin [1, 2, 3, 12, 13, 14] [(15, 1)] ?_
      repeat (refine AW_seq ?_)
      refine reg ?_
      refine run 2 ?_
      refine call (fun _ => c3) ?_
      refine run 2 ?_
      refine run 2 ?_
      refine run 1 ?_
      refine fin [1, 2, 3, 12, 13, 14, 15, 16] [(15, 1)] ?_
      repeat (refine AW_seq ?_)
      refine reg ?_
      refine run 2 ?_
      refine call (fun _ => c4) ?_
      refine run 2 ?_
      refine run 2 ?_
      refine run 2 ?_
      refine fin [1, 2, 3, 12, 13, 14, 15, 16, 17] [(15, 1), (18, 1)] ?_
      repeat (refine AW_seq ?_)
      refine reg ?_
      refine run 2 ?_
      refine call (fun _ => c5) ?_
      refine run 2 ?_
      refine run 2 ?_
      refine run 1 ?_
      refine fin [1, 3, 12, 13, 14, 15, 16, 17, 19, 20] [(15, 1), (18, 1)] ?_
      repeat (refine AW_seq ?_)
      refine reg ?_
      refine run 2 ?_
      refine call (fun _ => c6) ?_
      refine run 2 ?_
      refine run 2 ?_
      refine run 1 ?_
      refine fin [1, 3, 12, 13, 15, 16, 17, 19, 20, 21, 22] [(18, 1)] ?_
      repeat (refine AW_seq ?_)
      refine reg ?_
      refine run 2 ?_
      refine call (fun _ => c7) ?_
      refine run 2 ?_
      refine run 2 ?_
      refine run 1 ?_
      refine fin [3, 12, 13, 15, 16, 19, 20, 21, 22, 24] [] ?_
      repeat (refine AW_seq ?_)
      refine reg ?_
      refine run 2 ?_
      refine run 2 ?_
      refine run 2 ?_
      refine run 2 ?_
      refine run 2 ?_
      refine run 2 ?_
      refine run 2 ?_
      refine run 2 ?_
      refine run 2 ?_
      refine run 2 ?_
      refine run 2 ?_
      refine run 2 ?_
      refine run 2 ?_
      refine run 2 ?_
      refine run 2 ?_
      refine run 1 ?_
      refine call (fun _ => awake_true) ?_
      refine run 2 ?_
      refine fin [8] [] ?_
      refine AW_ret (ret ?_)
      rfl

end Go.Proofs.Ytinlmjgdhkalnaa