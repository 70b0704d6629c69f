/-
  Spanning forests, few vertices and edges, and the fixed answer of the layer grove, on plain data.
  Conditions: not too many edges.
-/
import Derived.Test.YtlhgjaogpeoaeaaGroveO
namespace Go.Proofs.Ytlhgjaogpeoaeaa
open Go Go.Ab
set_option linter.unusedVariables false
set_option linter.unusedSimpArgs false

def spanF (P : List Int) (X : List Ed) : List Ed → List Ed
  | [] => X
  | e :: l => if at0 P e.u ≠ at0 P e.v then spanF (joinR P e.u e.v) (X ++ [e]) l else spanF P X l

theorem span_any (n : Nat) (hn : n ≤ 1024) (l : List Ed) (hl : l.length < 1099511627776) (hm : MayE n l) (R : List Ed) (hR : spanF (aloneR n) [] l = R) : ACalls Try.prog 16 [iPV n, .sl (l.map edPV)] (.tup [.sl (R.map edPV), iPV 0]) := by
  refine ent Try.func16 ?_
  have c1 := ofYes n hn l hl hm
  have c2 := ofYes n hn [] (by decide) (fun e he => by cases he)
  rw [show partR n [] = aloneR n from rfl, List.map_nil] at c2
  have hAl := aloneR_len n
  obtain ⟨hm, -⟩ : Go.RowKit.Hid (MayE n l) ∧ True := ⟨hm, trivial⟩
  rename_i hm0
  clear hm0
  obtain ⟨P1, eP1⟩ : ∃ zz, partR n l = zz := ⟨_, rfl⟩
  rw [eP1] at c1
  clear eP1
  obtain ⟨A0, eA0⟩ : ∃ zz, aloneR n = zz := ⟨_, rfl⟩
  rw [eA0] at c2 hAl hR
  obtain ⟨hR, -⟩ : Go.RowKit.Hid (spanF A0 [] l = R) ∧ True := ⟨hR, trivial⟩
  rename_i hR0
  clear hR0
  clear eA0
  repeat (refine AW_seq ?_)
  refine reg ?_
  refine run 2 ?_
  refine fin [0, 1] [] ?_
  repeat (refine AW_seq ?_)
  refine reg ?_
  refine run 2 ?_
  refine call (fun _ => c1) ?_
  refine run 2 ?_
  refine run 2 ?_
  refine run 1 ?_
  refine fin [0, 1, 7] [] ?_
  repeat (refine AW_seq ?_)
  refine reg ?_
  refine run 2 ?_
  refine fin [0, 1, 7, 20] [] ?_
  repeat (refine AW_seq ?_)
  refine tstF ?_
  refine AW_skip ?_
  repeat (refine AW_seq ?_)
  refine reg ?_
  refine run 1 ?_
  refine fin [0, 1, 8] [] ?_
  repeat (refine AW_seq ?_)
  refine reg ?_
  refine run 1 ?_
  refine call (fun _ => c2) ?_
  refine run 2 ?_
  refine run 2 ?_
  refine run 1 ?_
  refine fin [1, 8, 9] [] ?_
  refine seed 8 9 29 3 ?_
  repeat (refine AW_seq ?_)
  refine reg ?_
  refine run 2 ?_
  refine run 1 ?_
  refine fin [8, 9, 27, 28, 29] [(9, 0)] ?_
  repeat (refine AW_seq ?_)
  refine AW_block ?_
  refine AW_loops (ι := Nat × List Ed × List Int) (fun z => ⟨lk [(8, .own (9, 0) z.2.1.length), (9, .c (.sl (z.2.2.map iPV))), (27, .c (.sl (l.map edPV))), (28, .c (iPV l.length)), (29, .c (iPV z.1))], lkM ([((9, 0), some ⟨29, 3, (z.2.1).map edPV, true, [], none⟩)]), lkG [] 1⟩) (fun z => z.1 ≤ l.length ∧ z.2.1.length ≤ z.1 ∧ z.2.2.length = n ∧ spanF z.2.2 z.2.1 (l.drop z.1) = R) (fun z => l.length - z.1) (0, [], A0) ⟨Nat.zero_le _, Nat.le_refl _, hAl, hR.out⟩ wk ?_
  rintro ⟨i, X, P⟩ ⟨hi, hX, hP, hF⟩
  simp only at hi hX hP hF
  obtain ⟨hF, -⟩ : Go.RowKit.Hid (spanF P X (l.drop i) = R) ∧ True := ⟨hF, trivial⟩
  rename_i hF0
  clear hF0
  repeat (refine AW_seq ?_)
  refine reg ?_
  refine run 1 ?_
  refine fin [8, 9, 27, 28, 29, 30] [(9, 0)] ?_
  repeat (refine AW_seq ?_)
  refine tst (fun h2 => ?_) (fun h2 => ?_)
  · simp at h2
    obtain ⟨x, hx, gx⟩ := getD_at h2
    obtain ⟨xu, xv, xt⟩ := x
    have hb := hm.out _ (List.mem_of_getElem? hx)
    unfold EdIn at hb
    simp only at hb
    obtain ⟨u, rfl⟩ : ∃ k : Nat, xu = k := ⟨xu.toNat, by omega⟩
    obtain ⟨v, rfl⟩ : ∃ k : Nat, xv = k := ⟨xv.toNat, by omega⟩
    have hu : u < n := by omega
    have hv : v < n := by omega
    clear hb
    obtain ⟨a, ga⟩ : ∃ q, P.getD u default = q := ⟨_, rfl⟩
    obtain ⟨b, gb⟩ : ∃ q, P.getD v default = q := ⟨_, rfl⟩
    refine AW_skip ?_
    repeat (refine AW_seq ?_)
    refine AW_block ?_
    repeat (refine AW_seq ?_)
    refine reg ?_
    refine run 2 ?_
    refine run 2 ?_
    refine fin [8, 9, 12, 27, 28, 29] [(9, 0), (13, 1)] ?_
    repeat (refine AW_seq ?_)
    refine reg ?_
    refine run 2 ?_
    refine run 2 ?_
    refine run 2 ?_
    refine run 2 ?_
    refine run 2 ?_
    refine run 1 ?_
    refine fin [8, 9, 12, 27, 28, 29, 43] [(9, 0), (13, 1)] ?_
    repeat (refine AW_seq ?_)
    refine tst (fun h3 => ?_) (fun h3 => ?_)
    · simp at h3
      have c5 := (join_any P u v (by omega)).a
      have hQl := joinR_len P u v
      obtain ⟨Q, eQ⟩ : ∃ zz, joinR P u v = zz := ⟨_, rfl⟩
      rw [eQ] at c5 hQl
      rw [hP] at hQl
      obtain ⟨X2, eX2⟩ : ∃ zz, X ++ [(⟨u, v, xt⟩ : Ed)] = zz := ⟨_, rfl⟩
      have mX2 : X.map edPV ++ [PV.agg [PV.v (.int .i64 (u : Int)), PV.v (.int .i64 (v : Int)), PV.v (.int .i64 xt)]] = X2.map edPV := by rw [← eX2, List.map_append]; rfl
      have lX2 : X2.length = X.length + 1 := by rw [← eX2, List.length_append]; rfl
      obtain ⟨eX2, -⟩ : Go.RowKit.Hid (X ++ [(⟨u, v, xt⟩ : Ed)] = X2) ∧ True := ⟨eX2, trivial⟩
      rename_i eX20
      clear eX20
      obtain ⟨eQ, -⟩ : Go.RowKit.Hid (joinR P u v = Q) ∧ True := ⟨eQ, trivial⟩
      rename_i eQ0
      clear eQ0
      repeat (refine AW_seq ?_)
      refine reg ?_
      refine run 2 ?_
      refine run 2 ?_
      refine run 1 ?_
      refine fin [8, 9, 12, 27, 28, 29] [(9, 0), (13, 1)] ?_
      repeat (refine AW_seq ?_)
      refine reg ?_
      refine run 2 ?_
      refine run 2 ?_
      refine run 1 ?_
      refine call (fun _ => c5) ?_
      refine run 1 ?_
      refine finN ?_
      refine kp [8, 9, 27, 28, 29] [(9, 0)] ?_
      repeat (refine AW_seq ?_)
      refine reg ?_
      refine run 2 ?_
      refine finN ?_
      exact ⟨(i + 1, X2, Q), by show l.length - (i + 1) < l.length - i; omega, ⟨by show i + 1 ≤ _; omega, by show X2.length ≤ i + 1; omega, hQl, by
        show spanF Q X2 (l.drop (i + 1)) = R
        have := hF.out
        rw [drop_at h2, gx, spanF, if_pos (by show P.getD u default ≠ P.getD v default; rw [ga, gb]; exact h3)] at this
        rw [← eX2.out, ← eQ.out]; exact this⟩, wk⟩
    · simp at h3
      refine AW_skip ?_
      repeat (refine AW_seq ?_)
      refine reg ?_
      refine run 2 ?_
      refine finN ?_
      exact ⟨(i + 1, X, P), by show l.length - (i + 1) < l.length - i; omega, ⟨by show i + 1 ≤ _; omega, by show X.length ≤ i + 1; omega, hP, by
        show spanF P X (l.drop (i + 1)) = R
        have := hF.out
        rw [drop_at h2, gx, spanF, if_neg (by show ¬ P.getD u default ≠ P.getD v default; rw [ga, gb]; exact fun g => g h3)] at this
        exact this⟩, wk⟩
  · simp at h2
    refine AW_exit ?_
    repeat (refine AW_seq ?_)
    refine reg ?_
    refine run 2 ?_
    refine run 1 ?_
    refine fin [4, 5] [(9, 0)] ?_
    refine AW_ret (ret ?_)
    have e1 : X = R := by
      have := hF.out
      rw [List.drop_eq_nil_of_le (by omega)] at this; exact this
    rw [e1]; rfl

def smallB (n : Int) (l : List Ed) : Bool := decide ((l.length : Int) ≤ 30) && (decide (n ≤ 30) || decide (1024 < n))

theorem small_any (n : Int) (l : List Ed) : ACalls Try.prog 6 [iPV n, .sl (l.map edPV)] (bPV (smallB n l)) := by
  refine ent Try.func6 ?_
  repeat (refine AW_seq ?_)
  refine reg ?_
  refine run 1 ?_
  refine fin [0, 1] [] ?_
  repeat (refine AW_seq ?_)
  refine reg ?_
  refine run 2 ?_
  refine run 2 ?_
  refine run 2 ?_
  refine run 2 ?_
  refine run 2 ?_
  refine run 2 ?_
  refine fin [4] [] ?_
  refine AW_ret (ret ?_)
  unfold smallB
  first | rfl | (generalize decide ((l.length : Int) ≤ 30) = x; generalize decide (n ≤ 30) = y; generalize decide (1024 < n) = z; cases x <;> cases y <;> cases z <;> rfl)

theorem awake_true  : ACalls Try.prog 8 [] (bPV true) := by
  refine ent Try.func8 ?_
  have hF : IsF 5 [⟨0, 1, 2⟩, ⟨1, 2, 1⟩, ⟨3, 4, 0⟩] := by decide +kernel
  have c1 := path_yes 5 2 0 (by decide) [⟨0, 1, 2⟩, ⟨1, 2, 1⟩, ⟨3, 4, 0⟩] (by decide) hF (by decide) (by decide) [⟨1, 2, 1⟩, ⟨0, 1, 2⟩] (by simp [Walk, oth]) (by decide)
  have c2 := path_none 5 2 3 (by decide) [⟨0, 1, 2⟩, ⟨1, 2, 1⟩, ⟨3, 4, 0⟩] (by decide) hF (by decide) (by decide) (fun g => absurd ((con_iff hF.1 ⟨by decide, by decide⟩ ⟨by decide, by decide⟩).1 g) (by decide +kernel))
  have c3 := great_any ⟨1, 2, 1⟩ [⟨0, 1, 2⟩] _ rfl (by decide) ⟨0, 1, 2⟩ (by decide)
  have c4 := span_any 5 (by decide) [⟨0, 1, 2⟩, ⟨1, 2, 1⟩, ⟨3, 4, 0⟩, ⟨0, 2, 0⟩] (by decide) (by unfold MayE; decide) [⟨0, 1, 2⟩, ⟨1, 2, 1⟩, ⟨3, 4, 0⟩] (by decide +kernel)
  have c5 := gRight_any 5 [⟨0, 1, 2⟩, ⟨1, 2, 1⟩, ⟨3, 4, 0⟩] (by decide)
  rw [show decide (IsFi 5 [⟨0, 1, 2⟩, ⟨1, 2, 1⟩, ⟨3, 4, 0⟩]) = true by decide +kernel] at c5
  have c6 := gRight_any 3 [⟨0, 1, 2⟩, ⟨1, 2, 1⟩, ⟨3, 4, 0⟩] (by decide)
  rw [show decide (IsFi 3 [⟨0, 1, 2⟩, ⟨1, 2, 1⟩, ⟨3, 4, 0⟩]) = false by decide +kernel] at c6
  have c7 := tree_yes 5 (by decide) [⟨0, 1, 2⟩, ⟨1, 2, 1⟩, ⟨3, 4, 0⟩] (by decide) hF 4
  rw [show clsR (partR 5 [⟨0, 1, 2⟩, ⟨1, 2, 1⟩, ⟨3, 4, 0⟩]) 4 = [3, 4] by decide +kernel] at c7
  have s1 := same_any [3, 4] [3, 4] (by decide) (by decide)
  rw [decide_eq_true rfl] at s1
  clear hF
  repeat (refine AW_seq ?_)
  refine reg ?_
  refine run 1 ?_
  refine fin [] [] ?_
  repeat (refine AW_seq ?_)
  refine reg ?_
  refine run 2 ?_
  refine run 2 ?_
  refine run 1 ?_
  refine fin [1] [(14, 0)] ?_
  repeat (refine AW_seq ?_)
  refine reg ?_
  refine run 1 ?_
  refine call (fun _ => c1) ?_
  refine run 2 ?_
  refine run 2 ?_
  refine run 1 ?_
  refine fin [1, 2, 3] [(14, 0)] ?_
  repeat (refine AW_seq ?_)
  refine reg ?_
  refine run 1 ?_
  refine call (fun _ => c2) ?_
  refine run 2 ?_
  refine run 2 ?_
  refine run 1 ?_
  refine fin [1, 2, 3, 5] [(14, 0)] ?_
  repeat (refine AW_seq ?_)
  refine reg ?_
  refine run 1 ?_
  refine call (fun _ => c3) ?_
  refine run 2 ?_
  refine run 2 ?_
  refine run 2 ?_
  refine fin [1, 2, 3, 5, 6, 7] [(7, 0), (14, 0)] ?_
  repeat (refine AW_seq ?_)
  refine dup 1 ?_
  refine reg ?_
  refine run 2 ?_
  refine run 2 ?_
  refine call (fun _ => c4) ?_
  refine run 2 ?_
  refine run 2 ?_
  refine run 1 ?_
  refine fin [1, 2, 3, 5, 6, 7, 8, 9] [(7, 0), (14, 0)] ?_
  refine und 1 ?_
  repeat (refine AW_seq ?_)
  refine reg ?_
  refine run 2 ?_
  refine run 2 ?_
  refine run 2 ?_
  refine run 2 ?_
  refine run 2 ?_
  refine run 2 ?_
  refine run 2 ?_
  refine run 2 ?_
  refine run 2 ?_
  refine run 2 ?_
  refine run 2 ?_
  refine run 2 ?_
  refine run 2 ?_
  refine run 2 ?_
  refine run 2 ?_
  refine run 2 ?_
  refine run 2 ?_
  refine run 2 ?_
  refine run 2 ?_
  refine run 2 ?_
  refine run 1 ?_
  refine call (fun _ => c5) ?_
  refine run 2 ?_
  refine run 1 ?_
  refine call (fun _ => c6) ?_
  refine run 2 ?_
  refine run 2 ?_
  refine call (fun _ => c7) ?_
  refine run 1 ?_
  refine call (fun _ => s1) ?_
  refine run 2 ?_
  refine fin [0] [] ?_
  refine AW_ret (ret ?_)
  rfl

end Go.Proofs.Ytlhgjaogpeoaeaa