/-
  The law of fewer and more edges, on plain data.
  Conditions: none.
-/
import Derived.Test.YtnfnejbdjicbgaaPartL2
namespace Go.Proofs.Ytnfnejbdjicbgaa
open Go Go.Ab
set_option linter.unusedVariables false
set_option linter.unusedSimpArgs false

theorem many_glue {p : List Int} {lo hi : Nat} (hR : IsR p) (hlh : lo ≤ hi) (hh : hi < p.length) (gh : p.getD hi default = (hi : Int)) : ∀ i, i ≤ p.length → manyN (p.map (glue (lo : Int) (hi : Int))) i + (if lo < hi ∧ hi < i then 1 else 0) = manyN p i
  | 0, _ => by simp [manyN]
  | i + 1, h => by
    have ih := many_glue hR hlh hh gh i (by omega)
    have hb := hR i (by omega)
    unfold okI at hb
    rw [manyN, manyN, getD_mapI (by omega), glue]
    by_cases e : p.getD i default = (hi : Int)
    · rw [if_pos e]
      by_cases e2 : lo = hi
      · have t1 : ¬(lo < hi ∧ hi < i) := by omega
        have t2 : ¬(lo < hi ∧ hi < i + 1) := by omega
        rw [if_neg t1] at ih; rw [if_neg t2, e, e2]
        rw [e2] at ih
        split <;> omega
      · have t0 : ¬((lo : Int) = (i : Int)) := by omega
        rw [if_neg t0, e]
        by_cases e3 : hi = i
        · have t1 : ¬(lo < hi ∧ hi < i) := by omega
          have t2 : lo < hi ∧ hi < i + 1 := by omega
          have t3 : (hi : Int) = (i : Int) := by omega
          rw [if_neg t1] at ih; rw [if_pos t2, if_pos t3]; omega
        · have t1 : lo < hi ∧ hi < i := by omega
          have t2 : lo < hi ∧ hi < i + 1 := by omega
          have t3 : ¬((hi : Int) = (i : Int)) := by omega
          rw [if_pos t1] at ih; rw [if_pos t2, if_neg t3]; omega
    · rw [if_neg e]
      have e3 : hi ≠ i := fun x => e (by rw [← x]; exact gh)
      have e4 : (lo < hi ∧ hi < i + 1) ↔ (lo < hi ∧ hi < i) := by omega
      simp only [e4]
      split <;> omega
theorem many_join {p : List Int} {u v : Int} (hR : IsR p) (hi : InP p u v) : manyR (joinR p u v) ≤ manyR p ∧ manyR p ≤ manyR (joinR p u v) + 1 := by
  have hJ := joinR_right u v hR
  unfold manyR
  rw [if_pos hR, if_pos hJ, joinR_len]
  have hj : joinR p u v = p.map (glue (min (at0 p u) (at0 p v)) (max (at0 p u) (at0 p v))) := if_pos ⟨hR, hi⟩
  rw [hj]
  unfold InP at hi
  obtain ⟨x, rfl⟩ : ∃ w : Nat, u = w := ⟨u.toNat, by omega⟩
  obtain ⟨y, rfl⟩ : ∃ w : Nat, v = w := ⟨v.toNat, by omega⟩
  obtain ⟨a, ga, ba⟩ := isR_nat hR (i := x) (by omega)
  obtain ⟨b, gb, bb⟩ := isR_nat hR (i := y) (by omega)
  have ra := (hR x (by omega)).2.2
  have rb := (hR y (by omega)).2.2
  rw [ga, Int.toNat_natCast] at ra
  rw [gb, Int.toNat_natCast] at rb
  rw [at0_nat, at0_nat, ga, gb, show min (a : Int) (b : Int) = ((min a b : Nat) : Int) by omega, show max (a : Int) (b : Int) = ((max a b : Nat) : Int) by omega]
  have := many_glue (lo := min a b) (hi := max a b) hR (by omega) (by omega) (by
    rcases Nat.le_total a b with h | h
    · rw [Nat.max_eq_right h]; exact rb
    · rw [Nat.max_eq_left h]; exact ra) p.length (Nat.le_refl _)
  split at this <;> omega
theorem manyR_le (p : List Int) : manyR p ≤ p.length := by
  unfold manyR; split
  · exact manyN_le p _
  · omega
/-! edges in another order, each the other way round -/
def swp (x : Ed) : Ed := ⟨x.v, x.u, 0⟩
def turnR (l : List Ed) (b i : Nat) : List Ed := (List.range i).map fun j => swp (l.getD ((l.length - j + b) % l.length) default)
theorem turnR_next (l : List Ed) (b i : Nat) : turnR l b (i + 1) = turnR l b i ++ [swp (l.getD ((l.length - i + b) % l.length) default)] := by
  rw [turnR, turnR, List.range_succ, List.map_append]; rfl
theorem turn_mem {l : List Ed} {b : Nat} {e : Ed} (h : e ∈ turnR l b l.length) : ∃ x ∈ l, e = swp x := by
  unfold turnR at h
  obtain ⟨j, hj, rfl⟩ := List.mem_map.1 h
  rw [List.mem_range] at hj
  have hq : (l.length - j + b) % l.length < l.length := Nat.mod_lt _ (by omega)
  refine ⟨_, ?_, rfl⟩
  rw [List.getD_eq_getElem?_getD, List.getElem?_eq_getElem hq]
  exact List.getElem_mem hq
theorem turn_has {l : List Ed} {b : Nat} {e : Ed} (h : e ∈ l) : swp e ∈ turnR l b l.length := by
  obtain ⟨j, hj⟩ := List.getElem?_of_mem h
  have hl := (List.getElem?_eq_some_iff.1 hj).1
  unfold turnR
  refine List.mem_map.2 ⟨(b + (l.length - j)) % l.length, List.mem_range.2 (Nat.mod_lt _ (by omega)), ?_⟩
  have hd := Nat.div_add_mod (b + (l.length - j)) l.length
  have hm : (b + (l.length - j)) % l.length < l.length := Nat.mod_lt _ (by omega)
  have e1 : l.length - (b + (l.length - j)) % l.length + b = j + l.length * ((b + (l.length - j)) / l.length) := by
    generalize l.length * ((b + (l.length - j)) / l.length) = m at hd ⊢
    omega
  rw [e1, Nat.add_mul_mod_self_left, Nat.mod_eq_of_lt hl, List.getD_eq_getElem?_getD, hj]; rfl
theorem turn_resp {l : List Ed} {b : Nat} (f : Int → Int) : Resp (turnR l b l.length) f ↔ Resp l f := by
  constructor
  · intro h e he
    exact (h _ (turn_has he)).symm
  · intro h e he
    obtain ⟨x, hx, rfl⟩ := turn_mem he
    exact (h x hx).symm
theorem turn_may {n : Nat} {l : List Ed} {b : Nat} (h : MayE n l) : MayE n (turnR l b l.length) := fun e he => by
  obtain ⟨x, hx, rfl⟩ := turn_mem he
  have := h x hx
  unfold EdIn at this ⊢
  unfold swp; dsimp only; omega

theorem partMore_big (n : Int) (l : List Ed) (u v b : Int) (h : 60 < l.length ∨ 60 < n ∨ n < 1) : ACalls Try.prog 4 [iPV n, .sl (l.map edPV), iPV u, iPV v, .v (.int .u8 b)] (bPV true) := by
  refine ent Try.func4 ?_
  have hB : (decide (60 < (l.length : Int)) || decide (60 < n) || decide (n < 1)) = true := by
    simp only [Bool.or_eq_true, decide_eq_true_eq]; omega
  repeat (refine AW_seq ?_)
  refine reg ?_
  refine run 1 ?_
  refine fin [0, 1, 2, 3, 4] [] ?_
  repeat (refine AW_seq ?_)
  refine reg ?_
  refine run 2 ?_
  refine run 2 ?_
  refine run 2 ?_
  refine run 2 ?_
  refine run 2 ?_
  refine run 2 ?_
  refine run 2 ?_
  refine run 2 ?_
  refine run 2 ?_
  refine run 2 ?_
  refine run 1 ?_
  refine skpV (.c (.v (.bool false))) ?_
  refine run 2 ?_
  refine fin [0, 1, 2, 3, 4, 43] [] ?_
  repeat (refine AW_seq ?_)
  refine tstT ?_
  repeat (refine AW_seq ?_)
  refine reg ?_
  refine call (fun _ => awake_true) ?_
  refine run 1 ?_
  refine fin [10] [] ?_
  refine AW_ret (ret ?_)
  rfl

theorem partMore_no (n : Nat) (l : List Ed) (u v b : Int) (hl : l.length ≤ 60) (hn : 1 ≤ n ∧ n ≤ 60) (hm : ¬ MayE n (l ++ [⟨u, v, 0⟩])) : ACalls Try.prog 4 [iPV n, .sl (l.map edPV), iPV u, iPV v, .v (.int .u8 b)] (bPV true) := by
  refine ent Try.func4 ?_
  have hB : (decide (60 < (l.length : Int)) || decide (60 < (n : Int)) || decide ((n : Int) < 1)) = false := by
    simp only [Bool.or_eq_false_iff, decide_eq_false_iff_not]; omega
  obtain ⟨l2, el2⟩ : ∃ zz, l ++ [(⟨u, v, 0⟩ : Ed)] = zz := ⟨_, rfl⟩
  have ml2 : l.map edPV ++ [PV.agg [PV.v (.int .i64 u), PV.v (.int .i64 v), PV.v (.int .i64 0)]] = l2.map edPV := by rw [← el2, List.map_append]; rfl
  have ll2 : l2.length = l.length + 1 := by rw [← el2, List.length_append]; rfl
  rw [el2] at hm
  have c1 := may_any n l2 (by omega)
  rw [decide_eq_false hm] at c1
  clear hm el2
  repeat (refine AW_seq ?_)
  refine reg ?_
  refine run 1 ?_
  refine fin [0, 1, 2, 3, 4] [] ?_
  repeat (refine AW_seq ?_)
  refine reg ?_
  refine run 2 ?_
  refine run 2 ?_
  refine run 2 ?_
  refine run 2 ?_
  refine run 2 ?_
  refine run 2 ?_
  refine run 2 ?_
  refine run 2 ?_
  refine run 2 ?_
  refine run 2 ?_
  refine run 1 ?_
  refine call (fun _ => c1) ?_
  refine run 2 ?_
  refine fin [0, 1, 2, 3, 4, 43] [] ?_
  repeat (refine AW_seq ?_)
  refine tstT ?_
  repeat (refine AW_seq ?_)
  refine reg ?_
  refine call (fun _ => awake_true) ?_
  refine run 1 ?_
  refine fin [10] [] ?_
  refine AW_ret (ret ?_)
  rfl

theorem partMore_yes (n : Nat) (l : List Ed) (u v : Int) (b : Nat) (hb : b ≤ 255) (hl : l.length ≤ 60) (hn : 1 ≤ n ∧ n ≤ 60) (hm : MayE n (l ++ [⟨u, v, 0⟩])) : ACalls Try.prog 4 [iPV n, .sl (l.map edPV), iPV u, iPV v, .v (.int .u8 b)] (bPV true) := by
  refine ent Try.func4 ?_
  have hB : (decide (60 < (l.length : Int)) || decide (60 < (n : Int)) || decide ((n : Int) < 1)) = false := by
    simp only [Bool.or_eq_false_iff, decide_eq_false_iff_not]; omega
  obtain ⟨l2, el2⟩ : ∃ zz, l ++ [(⟨u, v, 0⟩ : Ed)] = zz := ⟨_, rfl⟩
  have ml2 : l.map edPV ++ [PV.agg [PV.v (.int .i64 u), PV.v (.int .i64 v), PV.v (.int .i64 0)]] = l2.map edPV := by rw [← el2, List.map_append]; rfl
  have ll2 : l2.length = l.length + 1 := by rw [← el2, List.length_append]; rfl
  have hm1 : MayE n l := fun e he => hm e (List.mem_append_left _ he)
  have hi : EdIn n ⟨u, v, 0⟩ := hm _ (by simp)
  have hP := partR_is hm1
  have hPl := partR_len n l
  have hiP : InP (partR n l) u v := by unfold InP; rw [hPl]; exact hi
  have hQ := hP.join hm1 hi
  have hQe := partR_eq hm hQ
  have hr := refP_of hP hQ fun f hf => (Resp.app.1 hf).1
  have hmn := many_join hP.right hiP
  have bmn := manyR_le (partR n l)
  have c2 := of_yes n (by omega) l (by omega) hm1
  have c3 := of_yes n (by omega) (l ++ [⟨u, v, 0⟩]) (by rw [el2]; omega) hm
  rw [hQe] at c3
  rw [el2] at hm c3
  have c1 := may_any n l2 (by omega)
  rw [decide_eq_true hm] at c1
  have hQl := joinR_len (partR n l) u v
  have c6 := (join_any (partR n l) u v (by omega)).a
  have hT : ∀ X, X = turnR l b l.length → ACalls Try.prog 10 [iPV n, .sl (X.map edPV)] (.tup [.sl ((partR n l).map iPV), iPV 0]) := fun X hX => by
    have h1 := turn_may (b := b) hm1
    have h2 : turnR l b l.length = X := hX.symm
    have h3 : X.length = l.length := by rw [hX]; simp [turnR]
    have c := of_yes n (by omega) X (by omega) (by rw [hX]; exact h1)
    have h4 := partR_eq h1 (hP.congr fun f => (turn_resp (b := b) f).symm)
    rw [← hX] at h4
    rwa [h4] at c
  obtain ⟨Q, eQ⟩ : ∃ zz, joinR (partR n l) u v = zz := ⟨_, rfl⟩
  rw [eQ] at c3 c6 hr hmn hQl
  obtain ⟨P, eP⟩ : ∃ zz, partR n l = zz := ⟨_, rfl⟩
  rw [eP] at c2 c6 hr hmn bmn hPl hQl hT
  have c5 := refines_any P Q (by omega) (by omega)
  rw [decide_eq_true hr] at c5
  have c7 := same_any Q Q (by omega) (by omega)
  have c8 := same_any P P (by omega) (by omega)
  rw [decide_eq_true rfl] at c7 c8
  have c9 := many_any Q (by omega)
  have c10 := many_any P (by omega)
  obtain ⟨mp, emp⟩ : ∃ zz, manyR P = zz := ⟨_, rfl⟩
  rw [emp] at c10 hmn bmn
  obtain ⟨mq, emq⟩ : ∃ zz, manyR Q = zz := ⟨_, rfl⟩
  rw [emq] at c9 hmn
  have hd1 : decide ((mq : Int) ≤ (mp : Int)) = true := by simp; omega
  have hd2 : decide ((mp : Int) - 1 ≤ (mq : Int)) = true := by simp; omega
  have h00 : ((0 : Nat) : Int) = 0 := rfl
  clear hm hm1 hi hP hiP hQ hQe hr el2 emp emq eP eQ
  obtain ⟨hT, -⟩ : Go.RowKit.Hid (∀ X, X = turnR l b l.length → ACalls Try.prog 10 [iPV n, .sl (X.map edPV)] (.tup [.sl (P.map iPV), iPV 0])) ∧ True := ⟨hT, trivial⟩
  rename_i hT0
  clear hT0
  repeat (refine AW_seq ?_)
  refine reg ?_
  refine run 1 ?_
  refine fin [0, 1, 2, 3, 4] [] ?_
  repeat (refine AW_seq ?_)
  refine reg ?_
  refine run 2 ?_
  refine run 2 ?_
  refine run 2 ?_
  refine run 2 ?_
  refine run 2 ?_
  refine run 2 ?_
  refine run 2 ?_
  refine run 2 ?_
  refine run 2 ?_
  refine run 2 ?_
  refine run 1 ?_
  refine call (fun _ => c1) ?_
  refine run 2 ?_
  refine fin [0, 1, 2, 3, 4, 43] [] ?_
  repeat (refine AW_seq ?_)
  refine tstF ?_
  refine AW_skip ?_
  repeat (refine AW_seq ?_)
  refine reg ?_
  refine run 2 ?_
  refine call (fun _ => c2) ?_
  refine run 2 ?_
  refine run 2 ?_
  refine run 1 ?_
  refine fin [0, 1, 2, 3, 4, 11, 12] [] ?_
  repeat (refine AW_seq ?_)
  refine reg ?_
  refine run 1 ?_
  refine opR ?_
  refine run 2 ?_
  refine run 2 ?_
  refine run 2 ?_
  refine run 1 ?_
  refine call (fun _ => c3) ?_
  refine run 2 ?_
  refine run 2 ?_
  refine run 1 ?_
  refine fin [0, 1, 2, 3, 4, 11, 12, 13, 14] [] ?_
  repeat (refine AW_seq ?_)
  refine reg ?_
  refine run 1 ?_
  refine fin [0, 1, 2, 3, 4, 11, 12, 13, 14, 15] [] ?_
  refine seed 15 16 33 3 ?_
  repeat (refine AW_seq ?_)
  refine reg ?_
  refine run 2 ?_
  refine run 1 ?_
  refine fin [0, 1, 2, 3, 4, 11, 12, 13, 14, 15, 65, 66] [(16, 0)] ?_
  repeat (refine AW_seq ?_)
  refine AW_block ?_
  refine AW_loops (ι := Nat × List Ed) (fun z => ⟨lk [(0, .c (iPV n)), (1, .c (.sl (l.map edPV))), (2, .c (iPV u)), (3, .c (iPV v)), (4, .c (.v (.int .u8 b))), (11, .c (.sl (P.map iPV))), (12, .c (iPV 0)), (13, .c (.sl (Q.map iPV))), (14, .c (iPV 0)), (15, .own (16, 0) z.2.length), (65, .c (iPV l.length)), (66, .c (iPV z.1))], lkM [((16, 0), some ⟨33, 3, (z.2).map edPV, true, [], none⟩)], lkG [] 1⟩) (fun z => z.1 ≤ l.length ∧ z.2.length = z.1 ∧ z.2 = turnR l b z.1) (fun z => l.length - z.1) (0, []) ⟨Nat.zero_le _, rfl, rfl⟩ wk ?_
  rintro ⟨i, X⟩ ⟨hi, hXl, hX⟩
  simp only at hi hXl hX
  obtain ⟨hX, -⟩ : Go.RowKit.Hid (X = turnR l b i) ∧ True := ⟨hX, trivial⟩
  rename_i hX0
  clear hX0
  repeat (refine AW_seq ?_)
  refine reg ?_
  refine run 1 ?_
  refine fin [0, 1, 2, 3, 4, 11, 12, 13, 14, 15, 65, 66, 67] [(16, 0)] ?_
  repeat (refine AW_seq ?_)
  refine tst (fun h2 => ?_) (fun h2 => ?_)
  · simp at h2
    obtain ⟨c, ec⟩ : ∃ c, l.length - i = c := ⟨_, rfl⟩
    obtain ⟨d, ed⟩ : ∃ d, c + b = d := ⟨_, rfl⟩
    obtain ⟨q, eq⟩ : ∃ q, d % l.length = q := ⟨_, rfl⟩
    have hq : q < l.length := by rw [← eq]; exact Nat.mod_lt _ (by omega)
    have f1 : (l.length : Int) - (i : Int) = (c : Int) := by omega
    have f2 : (c : Int) + (b : Int) = (d : Int) := by omega
    have f3 : (d : Int).tmod (l.length : Int) = (q : Int) := by rw [← eq]; rfl
    have bd : d ≤ 400 := by omega
    obtain ⟨x, hx, gx⟩ := getD_at hq
    obtain ⟨xu, xv, xt⟩ := x
    obtain ⟨X2, eX2⟩ : ∃ zz, X ++ [(⟨xv, xu, 0⟩ : Ed)] = zz := ⟨_, rfl⟩
    have mX2 : X.map edPV ++ [PV.agg [PV.v (.int .i64 xv), PV.v (.int .i64 xu), PV.v (.int .i64 0)]] = X2.map edPV := by rw [← eX2, List.map_append]; rfl
    have lX2 : X2.length = X.length + 1 := by rw [← eX2, List.length_append]; rfl
    obtain ⟨ec, -⟩ : Go.RowKit.Hid (l.length - i = c) ∧ True := ⟨ec, trivial⟩
    rename_i ec0
    clear ec0
    obtain ⟨ed, -⟩ : Go.RowKit.Hid (c + b = d) ∧ True := ⟨ed, trivial⟩
    rename_i ed0
    clear ed0
    obtain ⟨eq, -⟩ : Go.RowKit.Hid (d % l.length = q) ∧ True := ⟨eq, trivial⟩
    rename_i eq0
    clear eq0
    obtain ⟨eX2, -⟩ : Go.RowKit.Hid (X ++ [(⟨xv, xu, 0⟩ : Ed)] = X2) ∧ True := ⟨eX2, trivial⟩
    rename_i eX20
    clear eX20
    refine AW_skip ?_
    repeat (refine AW_seq ?_)
    refine AW_block ?_
    repeat (refine AW_seq ?_)
    refine reg ?_
    refine run 2 ?_
    refine fin [0, 1, 2, 3, 4, 11, 12, 13, 14, 15, 16, 65, 66] [(16, 0)] ?_
    repeat (refine AW_seq ?_)
    refine reg ?_
    refine run 2 ?_
    refine run 2 ?_
    refine run 2 ?_
    refine run 2 ?_
    refine run 2 ?_
    refine run 2 ?_
    refine run 2 ?_
    refine run 1 ?_
    refine fin [0, 1, 2, 3, 4, 11, 12, 13, 14, 15, 17, 65, 66] [(16, 0), (18, 1)] ?_
    repeat (refine AW_seq ?_)
    refine reg ?_
    refine run 2 ?_
    refine run 2 ?_
    refine run 2 ?_
    refine run 2 ?_
    refine run 1 ?_
    refine finN ?_
    refine kp [0, 1, 2, 3, 4, 11, 12, 13, 14, 15, 65, 66] [(16, 0)] ?_
    repeat (refine AW_seq ?_)
    refine reg ?_
    refine run 2 ?_
    refine finN ?_
    exact ⟨(i + 1, X2), by show l.length - (i + 1) < l.length - i; omega, ⟨by show i + 1 ≤ _; omega, by show X2.length = i + 1; omega, by show X2 = turnR l b (i + 1); rw [← eX2.out, hX.out, turnR_next, ec.out, ed.out, eq.out, gx]; rfl⟩, wk⟩
  · simp at h2
    have c4 := hT.out X (by rw [hX.out, show i = l.length by omega])
    refine AW_exit ?_
    repeat (refine AW_seq ?_)
    refine dt 15 (16, 0) ?_
    refine reg ?_
    refine run 2 ?_
    refine call (fun _ => c4) ?_
    refine run 2 ?_
    refine run 2 ?_
    refine run 1 ?_
    refine fin [2, 3, 11, 12, 13, 14, 18, 19] [] ?_
    repeat (refine AW_seq ?_)
    refine reg ?_
    refine run 2 ?_
    refine run 2 ?_
    refine run 2 ?_
    refine run 2 ?_
    refine run 2 ?_
    refine run 2 ?_
    refine run 1 ?_
    refine call (fun _ => c5) ?_
    refine run 2 ?_
    refine run 2 ?_
    refine run 2 ?_
    refine call (fun _ => c6) ?_
    refine call (fun _ => c7) ?_
    refine run 2 ?_
    refine run 2 ?_
    refine call (fun _ => c8) ?_
    refine run 2 ?_
    refine run 1 ?_
    refine call (fun _ => c9) ?_
    refine run 1 ?_
    refine call (fun _ => c10) ?_
    refine run 2 ?_
    refine run 2 ?_
    refine call (fun _ => c9) ?_
    refine run 1 ?_
    refine call (fun _ => c10) ?_
    refine run 2 ?_
    refine run 2 ?_
    refine call (fun _ => awake_true) ?_
    refine run 2 ?_
    refine fin [10] [] ?_
    refine AW_ret (ret ?_)
    rfl

theorem partMore_any (n : Int) (l : List Ed) (u v b : Int) (hb : 0 ≤ b ∧ b ≤ 255) : ACalls Try.prog 4 [iPV n, .sl (l.map edPV), iPV u, iPV v, .v (.int .u8 b)] (bPV true) := by
  by_cases h : 60 < l.length ∨ 60 < n ∨ n < 1
  · exact partMore_big n l u v b h
  · obtain ⟨k, rfl⟩ : ∃ k : Nat, n = k := ⟨n.toNat, by omega⟩
    obtain ⟨c, rfl⟩ : ∃ k : Nat, b = k := ⟨b.toNat, by omega⟩
    by_cases hm : MayE k (l ++ [⟨u, v, 0⟩])
    · exact partMore_yes k l u v c (by omega) (by omega) (by omega) hm
    · exact partMore_no k l u v c (by omega) (by omega) hm

end Go.Proofs.Ytnfnejbdjicbgaa