/-
  The fixed answer of layer part, and the law of the partition of any edges, on plain data.
  Conditions: none.
-/
import Derived.Test.YtnfnejbdjicbgaaPartR
namespace Go.Proofs.Ytnfnejbdjicbgaa
open Go Go.Ab
set_option linter.unusedVariables false
set_option linter.unusedSimpArgs false

theorem of_yes (n : Nat) (hn : n ≤ 1024) (l : List Ed) (hl : l.length < 1099511627776) (hm : MayE n l) : ACalls Try.prog 10 [iPV n, .sl (l.map edPV)] (.tup [.sl ((partR n l).map iPV), iPV 0]) := by
  have := of_any n hn l hl
  rwa [ofPV, if_pos hm] at this
theorem of_no (n : Nat) (hn : n ≤ 1024) (l : List Ed) (hl : l.length < 1099511627776) (hm : ¬ MayE n l) : ACalls Try.prog 10 [iPV n, .sl (l.map edPV)] (.tup [.sl [], iPV 1]) := by
  have := of_any n hn l hl
  rwa [ofPV, if_neg hm] at this

theorem awake_true  : ACalls Try.prog 9 [] (bPV true) := by
  refine ent Try.func9 ?_
  have c1 := of_yes 4 (by decide) [⟨0, 2, 0⟩, ⟨2, 3, 0⟩] (by decide) (by decide)
  rw [show partR 4 [⟨0, 2, 0⟩, ⟨2, 3, 0⟩] = [0, 1, 0, 0] by decide +kernel] at c1
  have c2 := of_no 2 (by decide) [⟨0, 2, 0⟩] (by decide) (by decide)
  have s1 := same_any [0, 1, 0, 0] [0, 1, 0, 0] (by decide) (by decide)
  have c3 := many_any [0, 1, 0, 0] (by decide)
  rw [show manyR [0, 1, 0, 0] = 2 by decide +kernel] at c3
  have c4 := class_any [0, 1, 0, 0] 3 (by decide)
  rw [show clsR [0, 1, 0, 0] 3 = [0, 2, 3] by decide +kernel] at c4
  have s2 := same_any [0, 2, 3] [0, 2, 3] (by decide) (by decide)
  have c5 := refines_any [0, 1, 2, 0] [0, 1, 0, 0] (by decide) (by decide)
  rw [show decide (RefP [0, 1, 2, 0] [0, 1, 0, 0]) = true by decide +kernel] at c5
  have c6 := refines_any [0, 1, 0, 0] [0, 1, 2, 0] (by decide) (by decide)
  rw [show decide (RefP [0, 1, 0, 0] [0, 1, 2, 0]) = false by decide +kernel] at c6
  have c7 := (join_any [0, 1, 0, 0] 1 2 (by decide)).a
  rw [show joinR [0, 1, 0, 0] 1 2 = [0, 0, 0, 0] by decide +kernel] at c7
  have s3 := same_any [0, 0, 0, 0] [0, 0, 0, 0] (by decide) (by decide)
  have c8 := right_any [1] (by decide)
  rw [show decide (IsR [1]) = false by decide +kernel] at c8
  rw [decide_eq_true rfl] at s1 s2 s3
  repeat (refine AW_seq ?_)
  refine reg ?_
  refine run 1 ?_
  refine fin [] [] ?_
  repeat (refine AW_seq ?_)
  refine reg ?_
  refine run 2 ?_
  refine run 1 ?_
  refine call (fun _ => c1) ?_
  refine run 2 ?_
  refine run 2 ?_
  refine run 1 ?_
  refine fin [1, 2] [] ?_
  repeat (refine AW_seq ?_)
  refine reg ?_
  refine run 2 ?_
  refine call (fun _ => c2) ?_
  refine run 2 ?_
  refine run 2 ?_
  refine run 1 ?_
  refine fin [1, 2, 4] [] ?_
  repeat (refine AW_seq ?_)
  refine reg ?_
  refine run 2 ?_
  refine call (fun _ => s1) ?_
  refine run 2 ?_
  refine run 2 ?_
  refine run 2 ?_
  refine run 2 ?_
  refine run 2 ?_
  refine call (fun _ => c3) ?_
  refine run 2 ?_
  refine run 2 ?_
  refine call (fun _ => c4) ?_
  refine run 1 ?_
  refine call (fun _ => s2) ?_
  refine run 2 ?_
  refine run 2 ?_
  refine call (fun _ => c5) ?_
  refine run 2 ?_
  refine run 2 ?_
  refine call (fun _ => c6) ?_
  refine run 2 ?_
  refine run 2 ?_
  refine call (fun _ => c7) ?_
  refine run 1 ?_
  refine call (fun _ => s3) ?_
  refine run 2 ?_
  refine run 1 ?_
  refine call (fun _ => c8) ?_
  refine run 2 ?_
  refine run 2 ?_
  refine run 1 ?_
  refine fin [0] [] ?_
  refine AW_ret (ret ?_)
  rfl

theorem partOf_out (n : Int) (l : List Ed) (h : n < 0 ∨ 1024 < n) : ACalls Try.prog 3 [iPV n, .sl (l.map edPV)] (bPV true) := by
  refine ent Try.func3 ?_
  have hB : (decide (n < 0) || decide (1024 < n)) = true := by simpa using h
  have c1 := of_out n l h
  repeat (refine AW_seq ?_)
  refine reg ?_
  refine run 1 ?_
  refine fin [0, 1] [] ?_
  repeat (refine AW_seq ?_)
  refine reg ?_
  refine run 2 ?_
  refine run 2 ?_
  refine run 2 ?_
  refine run 2 ?_
  refine run 2 ?_
  refine run 1 ?_
  refine fin [0, 1, 17] [] ?_
  repeat (refine AW_seq ?_)
  refine tst (fun h1 => ?_) (fun h1 => ?_)
  · simp at h1
    repeat (refine AW_seq ?_)
    refine reg ?_
    refine call (fun _ => awake_true) ?_
    refine run 1 ?_
    refine fin [4] [] ?_
    refine AW_ret (ret ?_)
    rfl
  · simp at h1
    refine AW_skip ?_
    repeat (refine AW_seq ?_)
    refine reg ?_
    refine run 2 ?_
    refine call (fun _ => c1) ?_
    refine run 2 ?_
    refine run 2 ?_
    refine run 1 ?_
    refine fin [0, 1, 5, 6] [] ?_
    repeat (refine AW_seq ?_)
    refine reg ?_
    refine run 2 ?_
    refine run 2 ?_
    refine run 2 ?_
    refine run 2 ?_
    refine run 1 ?_
    refine skpV (.c (.v (.bool false))) ?_
    refine run 2 ?_
    refine fin [0, 1, 5, 6, 36] [] ?_
    repeat (refine AW_seq ?_)
    refine tstT ?_
    repeat (refine AW_seq ?_)
    refine reg ?_
    refine run 2 ?_
    refine run 2 ?_
    refine run 2 ?_
    refine run 2 ?_
    refine call (fun _ => awake_true) ?_
    refine run 2 ?_
    refine fin [4] [] ?_
    refine AW_ret (ret ?_)
    rfl

theorem partOf_no (n : Nat) (l : List Ed) (hn : n ≤ 1024) (hm : ¬ MayE n l) : ACalls Try.prog 3 [iPV n, .sl (l.map edPV)] (bPV true) := by
  refine ent Try.func3 ?_
  repeat (refine AW_seq ?_)
  refine reg ?_
  refine run 1 ?_
  refine fin [0, 1] [] ?_
  repeat (refine AW_seq ?_)
  refine reg ?_
  refine run 2 ?_
  refine run 2 ?_
  refine run 2 ?_
  refine run 2 ?_
  refine run 2 ?_
  refine run 1 ?_
  refine fin [0, 1, 17] [] ?_
  repeat (refine AW_seq ?_)
  refine tst (fun h1 => ?_) (fun h1 => ?_)
  · simp at h1
    repeat (refine AW_seq ?_)
    refine reg ?_
    refine call (fun _ => awake_true) ?_
    refine run 1 ?_
    refine fin [4] [] ?_
    refine AW_ret (ret ?_)
    rfl
  · simp at h1
    have hl : l.length < 1099511627776 := by omega
    have c1 := of_no n hn l hl hm
    have c2 := may_any n l hl
    rw [decide_eq_false hm] at c2
    have hB : (decide ((n : Int) < 0) || decide ((1024 : Int) < (n : Int))) = false := by simp; omega
    clear hm
    refine AW_skip ?_
    repeat (refine AW_seq ?_)
    refine reg ?_
    refine run 2 ?_
    refine call (fun _ => c1) ?_
    refine run 2 ?_
    refine run 2 ?_
    refine run 1 ?_
    refine fin [0, 1, 5, 6] [] ?_
    repeat (refine AW_seq ?_)
    refine reg ?_
    refine run 2 ?_
    refine run 2 ?_
    refine run 2 ?_
    refine run 2 ?_
    refine run 1 ?_
    refine call (fun _ => c2) ?_
    refine run 2 ?_
    refine fin [0, 1, 5, 6, 36] [] ?_
    repeat (refine AW_seq ?_)
    refine tstT ?_
    repeat (refine AW_seq ?_)
    refine reg ?_
    refine run 2 ?_
    refine run 2 ?_
    refine run 2 ?_
    refine run 2 ?_
    refine call (fun _ => awake_true) ?_
    refine run 2 ?_
    refine fin [4] [] ?_
    refine AW_ret (ret ?_)
    rfl

theorem partOf_yes (n : Nat) (l : List Ed) (hn : n ≤ 1024) (hm : MayE n l) : ACalls Try.prog 3 [iPV n, .sl (l.map edPV)] (bPV true) := by
  refine ent Try.func3 ?_
  repeat (refine AW_seq ?_)
  refine reg ?_
  refine run 1 ?_
  refine fin [0, 1] [] ?_
  repeat (refine AW_seq ?_)
  refine reg ?_
  refine run 2 ?_
  refine run 2 ?_
  refine run 2 ?_
  refine run 2 ?_
  refine run 2 ?_
  refine run 1 ?_
  refine fin [0, 1, 17] [] ?_
  repeat (refine AW_seq ?_)
  refine tst (fun h1 => ?_) (fun h1 => ?_)
  · simp at h1
    repeat (refine AW_seq ?_)
    refine reg ?_
    refine call (fun _ => awake_true) ?_
    refine run 1 ?_
    refine fin [4] [] ?_
    refine AW_ret (ret ?_)
    rfl
  · simp at h1
    have hl : l.length < 1099511627776 := by omega
    have c1 := of_yes n hn l hl hm
    have c2 := may_any n l hl
    rw [decide_eq_true hm] at c2
    have c3 := (refOf_any n hn l hl hm).a
    have hR := (partR_is hm).right
    have hPl := partR_len n l
    obtain ⟨P, eP⟩ : ∃ P, partR n l = P := ⟨_, rfl⟩
    rw [eP] at c1 c3 hR hPl
    have c4 := same_any P P (by omega) (by omega)
    rw [decide_eq_true rfl] at c4
    have c5 := right_any P (by omega)
    rw [decide_eq_true hR] at c5
    have hB : (decide ((n : Int) < 0) || decide ((1024 : Int) < (n : Int))) = false := by simp; omega
    clear hm hR eP
    refine AW_skip ?_
    repeat (refine AW_seq ?_)
    refine reg ?_
    refine run 2 ?_
    refine call (fun _ => c1) ?_
    refine run 2 ?_
    refine run 2 ?_
    refine run 1 ?_
    refine fin [0, 1, 5, 6] [] ?_
    repeat (refine AW_seq ?_)
    refine reg ?_
    refine run 2 ?_
    refine run 2 ?_
    refine run 2 ?_
    refine run 2 ?_
    refine run 1 ?_
    refine call (fun _ => c2) ?_
    refine run 2 ?_
    refine fin [0, 1, 5, 6, 36] [] ?_
    repeat (refine AW_seq ?_)
    refine tstF ?_
    refine AW_skip ?_
    repeat (refine AW_seq ?_)
    refine reg ?_
    refine run 2 ?_
    refine run 2 ?_
    refine run 2 ?_
    refine call (fun _ => c3) ?_
    refine call (fun _ => c4) ?_
    refine run 2 ?_
    refine run 1 ?_
    refine call (fun _ => c5) ?_
    refine run 2 ?_
    refine call (fun _ => awake_true) ?_
    refine run 2 ?_
    refine fin [4] [] ?_
    refine AW_ret (ret ?_)
    rfl

theorem partOf_any (n : Int) (l : List Ed) : ACalls Try.prog 3 [iPV n, .sl (l.map edPV)] (bPV true) := by
  by_cases h : n < 0 ∨ 1024 < n
  · exact partOf_out n l h
  · obtain ⟨k, rfl⟩ : ∃ k : Nat, n = k := ⟨n.toNat, by omega⟩
    by_cases hm : MayE k l
    · exact partOf_yes k l (by omega) hm
    · exact partOf_no k l (by omega) hm

end Go.Proofs.Ytnfnejbdjicbgaa