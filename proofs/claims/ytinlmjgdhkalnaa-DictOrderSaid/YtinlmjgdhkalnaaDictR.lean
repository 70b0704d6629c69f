/-
  The document's answers for the layer dict on plain data: lists of pairs by rising keys; the fixed answer.
  Conditions: not too many pairs.
-/
import Derived.Test.YtinlmjgdhkalnaaDictG
namespace Go.Proofs.Ytinlmjgdhkalnaa
open Go Go.Ab
set_option linter.unusedVariables false
set_option linter.unusedSimpArgs false

theorem take_map {l : List Pr} {i : Nat} {x : Pr} (hi : i < l.length) (hx : l.getD i default = x) : l.take (i + 1) = l.take i ++ [x] := by
  rw [List.getD_eq_getElem?_getD, List.getElem?_eq_getElem hi] at hx
  rw [List.take_add_one, List.getElem?_eq_getElem hi, Option.toList_some]; simp at hx; rw [hx]
theorem drop_cons {l : List Pr} {i : Nat} {x : Pr} (hi : i < l.length) (hx : l.getD i default = x) : l.drop i = x :: l.drop (i + 1) := by
  rw [List.getD_eq_getElem?_getD, List.getElem?_eq_getElem hi] at hx
  rw [List.drop_eq_getElem_cons hi]; simp at hx; rw [hx]
def putStep (k n : Int) (s : Bool × List Pr) (x : Pr) : Bool × List Pr :=
  if x.1 ≠ k then ((s.1 || decide (k ≤ x.1)), (if s.1 = false ∧ k ≤ x.1 then s.2 ++ [(k, n)] else s.2) ++ [x])
  else ((s.1 || decide (k ≤ x.1)), (if s.1 = false ∧ k ≤ x.1 then s.2 ++ [(k, n)] else s.2))
def putS (l : List Pr) (k n : Int) : Bool × List Pr := l.foldl (putStep k n) (false, [])
def putR (l : List Pr) (k n : Int) : List Pr := if (putS l k n).1 = true then (putS l k n).2 else (putS l k n).2 ++ [(k, n)]
theorem putS_snoc (l : List Pr) (x : Pr) (k n : Int) : putS (l ++ [x]) k n = putStep k n (putS l k n) x := by
  simp [putS, List.foldl_append]
theorem inc_snoc {l : List Pr} {x : Pr} (h : Inc (l ++ [x])) : Inc l ∧ ∀ p ∈ l, p.1 < x.1 := by
  have := List.pairwise_append.1 h
  exact ⟨this.1, fun p hp => this.2.2 p hp x List.mem_cons_self⟩
theorem putS_is (k n : Int) : ∀ (m : Nat) (l : List Pr), l.length = m → Inc l → putS l k n = (l.any (fun p => decide (k ≤ p.1)), lo l k ++ if l.any (fun p => decide (k ≤ p.1)) = true then (k, n) :: hi l k else [])
  | 0, l, hm, h => by rw [List.length_eq_zero_iff.1 hm]; rfl
  | m + 1, l, hm, h => by
    obtain ⟨l', x, rfl⟩ : ∃ l' x, l = l' ++ [x] := ⟨l.dropLast, l.getLast (by intro e; rw [e] at hm; simp at hm), (List.dropLast_concat_getLast _).symm⟩
    obtain ⟨h1, h2⟩ := inc_snoc h
    have ih := putS_is k n m l' (by simp at hm; exact hm) h1
    rw [putS_snoc, ih]
    have ea : (l' ++ [x]).any (fun p => decide (k ≤ p.1)) = (l'.any (fun p => decide (k ≤ p.1)) || decide (k ≤ x.1)) := by simp
    rw [ea]
    cases ha : l'.any (fun p => decide (k ≤ p.1)) with
    | true =>
      obtain ⟨p, hp, hp2⟩ := List.any_eq_true.1 ha
      have hp3 : k ≤ p.1 := by simpa using hp2
      have hkx : k < x.1 := by have := h2 p hp; omega
      have e1 : lo (l' ++ [x]) k = lo l' k := by simp [lo, show ¬ x.1 < k by omega]
      have e2 : hi (l' ++ [x]) k = hi l' k ++ [x] := by simp [hi, hkx]
      rw [e1, e2]
      simp [putStep, show x.1 ≠ k by omega]
    | false =>
      have hn : ∀ p ∈ l', p.1 < k := fun p hp => by
        have := List.any_eq_false.1 ha p hp
        simp at this; omega
      have eh : hi l' k = [] := by simp only [hi, List.filter_eq_nil_iff, decide_eq_true_eq]; intro p hp; have := hn p hp; omega
      by_cases hkx : x.1 < k
      · have e1 : lo (l' ++ [x]) k = lo l' k ++ [x] := by simp [lo, hkx]
        rw [e1]
        simp [putStep, show x.1 ≠ k by omega, show ¬ k ≤ x.1 by omega]
      · have e1 : lo (l' ++ [x]) k = lo l' k := by simp [lo, hkx]
        by_cases hke : x.1 = k
        · have e2 : hi (l' ++ [x]) k = [] := by rw [show hi (l' ++ [x]) k = hi l' k ++ hi [x] k from List.filter_append .., eh]; simp [hi, hke]
          rw [e1, e2]
          simp [putStep, hke]
        · have e2 : hi (l' ++ [x]) k = [x] := by rw [show hi (l' ++ [x]) k = hi l' k ++ hi [x] k from List.filter_append .., eh]; simp [hi, show k < x.1 by omega]
          rw [e1, e2]
          simp [putStep, hke, show k ≤ x.1 by omega]
theorem putR_is {l : List Pr} (h : Inc l) (k n : Int) : putR l k n = putL l k n := by
  rw [putR, putS_is k n _ l rfl h, putL]
  cases ha : l.any (fun p => decide (k ≤ p.1)) with
  | true => simp
  | false =>
    have eh : hi l k = [] := by
      simp only [hi, List.filter_eq_nil_iff, decide_eq_true_eq]; intro p hp
      have := List.any_eq_false.1 ha p hp
      simp at this; omega
    simp [eh]
theorem putStep_len (k n : Int) (s : Bool × List Pr) (x : Pr) : (putStep k n s x).2.length ≤ s.2.length + 2 := by
  unfold putStep; split <;> split <;> simp
theorem putStep_1 {k n : Int} {out : List Pr} {x : Pr} (h : k ≤ x.1) (h2 : x.1 ≠ k) : putStep k n (false, out) x = (true, out ++ [(k, n)] ++ [x]) := by simp [putStep, h, h2]
theorem putStep_2 {k n : Int} {out : List Pr} {x : Pr} (h2 : x.1 = k) : putStep k n (false, out) x = (true, out ++ [(k, n)]) := by simp [putStep, h2]
theorem putStep_3 {k n : Int} {d : Bool} {out : List Pr} {x : Pr} (h : ¬ (d = false ∧ k ≤ x.1)) (h2 : x.1 ≠ k) : putStep k n (d, out) x = (d, out ++ [x]) := by
  cases d <;> simp_all [putStep]
theorem putStep_4 {k n : Int} {d : Bool} {out : List Pr} {x : Pr} (h : ¬ (d = false ∧ k ≤ x.1)) (h2 : x.1 = k) : putStep k n (d, out) x = (d, out) := by
  cases d <;> simp_all [putStep]

theorem refs_any (l : List Pr) (hl : l.length < 1099511627776) : ACalls Try.prog 15 [.sl (l.map pPV)] (.sl (l.map pPV)) := by
  refine ent Try.func15 ?_
  repeat (refine AW_seq ?_)
  refine reg ?_
  refine run 1 ?_
  refine fin [0] [] ?_
  repeat (refine AW_seq ?_)
  refine reg ?_
  refine run 1 ?_
  refine fin [0, 3] [] ?_
  refine seed 3 4 55 2 ?_
  repeat (refine AW_seq ?_)
  refine reg ?_
  refine run 2 ?_
  refine run 1 ?_
  refine fin [3, 6, 7, 8] [(4, 0)] ?_
  repeat (refine AW_seq ?_)
  refine AW_block ?_
  refine AW_loops (ι := Nat × List Pr) (fun z => ⟨lk [(3, .own (4, 0) z.2.length), (6, .c (.sl (l.map pPV))), (7, .c (iPV l.length)), (8, .c (iPV z.1))], lkM [((4, 0), some ⟨55, 2, (z.2).map pPV, true, []⟩)], lkG [] 1⟩) (fun z => z.1 ≤ l.length ∧ z.2 = l.take z.1) (fun z => l.length - z.1) (0, []) ⟨Nat.zero_le _, rfl⟩ wk ?_
  rintro ⟨i, o⟩ ⟨hi, ho⟩
  simp only at hi ho
  have hol : o.length = i := by rw [ho, List.length_take]; omega
  obtain ⟨ho, -⟩ : Go.RowKit.Hid (o = l.take i) ∧ True := ⟨ho, trivial⟩
  rename_i ho0
  clear ho0
  repeat (refine AW_seq ?_)
  refine reg ?_
  refine run 1 ?_
  refine fin [3, 6, 7, 8, 9] [(4, 0)] ?_
  repeat (refine AW_seq ?_)
  refine tst (fun h1 => ?_) (fun h1 => ?_)
  · simp at h1
    have hi' : i < l.length := by omega
    obtain ⟨x, hx⟩ : ∃ x, l.getD i default = x := ⟨_, rfl⟩
    have htk := take_map hi' hx
    obtain ⟨o2, ho2⟩ : ∃ o2, o ++ [x] = o2 := ⟨_, rfl⟩
    have hom : o.map pPV ++ [PV.agg [PV.v (.int .u64 x.1), PV.v (.int .i64 x.2)]] = o2.map pPV := by rw [← ho2, List.map_append]; rfl
    have ho2l : o2.length = o.length + 1 := by rw [← ho2, List.length_append]; rfl
    obtain ⟨ho2, -⟩ : Go.RowKit.Hid (o ++ [x] = o2) ∧ True := ⟨ho2, trivial⟩
    rename_i h0
    clear h0
    obtain ⟨htk, -⟩ : Go.RowKit.Hid (l.take (i + 1) = l.take i ++ [x]) ∧ True := ⟨htk, trivial⟩
    rename_i h0
    clear h0
    refine AW_skip ?_
    repeat (refine AW_seq ?_)
    refine AW_block ?_
    repeat (refine AW_seq ?_)
    refine reg ?_
    refine run 2 ?_
    refine run 2 ?_
    refine fin [3, 5, 6, 7, 8] [(4, 0), (6, 1)] ?_
    repeat (refine AW_seq ?_)
    refine reg ?_
    refine run 2 ?_
    refine run 2 ?_
    refine run 1 ?_
    refine finN ?_
    refine kp [3, 6, 7, 8] [(4, 0)] ?_
    repeat (refine AW_seq ?_)
    refine reg ?_
    refine run 2 ?_
    refine finN ?_
    refine ⟨(i + 1, o2), by show l.length - (i + 1) < l.length - i; omega, ⟨by show i + 1 ≤ _; omega, by show o2 = _; rw [htk, ← ho.out]; exact ho2.out.symm⟩, wk⟩
  · simp at h1
    have hoo : o = l := by rw [ho.out, List.take_of_length_le (by omega)]
    refine AW_exit ?_
    repeat (refine AW_seq ?_)
    refine reg ?_
    refine run 2 ?_
    refine fin [2] [(4, 0)] ?_
    refine AW_ret (ret ?_)
    rw [← hoo]

theorem putR_any (l : List Pr) (k n : Int) (hl : l.length < 1099511627776) : ACalls Try.prog 13 [.sl (l.map pPV), uPV k, iPV n] (.sl ((putR l k n).map pPV)) := by
  refine ent Try.func13 ?_
  repeat (refine AW_seq ?_)
  refine reg ?_
  refine run 1 ?_
  refine fin [0, 1, 2] [] ?_
  repeat (refine AW_seq ?_)
  refine reg ?_
  refine run 1 ?_
  refine fin [0, 1, 2, 7] [] ?_
  refine seed 7 8 55 2 ?_
  repeat (refine AW_seq ?_)
  refine reg ?_
  refine run 1 ?_
  refine fin [0, 1, 2, 7, 8] [(8, 0)] ?_
  repeat (refine AW_seq ?_)
  refine reg ?_
  refine run 1 ?_
  refine fin [0, 1, 2, 7, 8, 9] [(8, 0)] ?_
  repeat (refine AW_seq ?_)
  refine AW_block ?_
  refine AW_loops (ι := Nat × Bool × List Pr) (fun z => ⟨lk [(0, .c (.sl (l.map pPV))), (1, .c (uPV k)), (2, .c (iPV n)), (7, .own (8, 0) z.2.2.length), (8, .c (bPV z.2.1)), (9, .c (iPV z.1))], lkM [((8, 0), some ⟨55, 2, (z.2.2).map pPV, true, []⟩)], lkG [] 1⟩) (fun z => z.1 ≤ l.length ∧ z.2 = putS (l.take z.1) k n ∧ z.2.2.length ≤ 2 * z.1) (fun z => l.length - z.1) (0, false, []) ⟨Nat.zero_le _, rfl, Nat.le_refl _⟩ wk ?_
  rintro ⟨i, d, o⟩ ⟨hi, ho, hol⟩
  simp only at hi ho hol
  obtain ⟨ho, -⟩ : Go.RowKit.Hid ((d, o) = putS (l.take i) k n) ∧ True := ⟨ho, trivial⟩
  rename_i hid0
  clear hid0
  repeat (refine AW_seq ?_)
  refine reg ?_
  refine run 2 ?_
  refine run 2 ?_
  refine fin [0, 1, 2, 7, 8, 9, 13] [(8, 0)] ?_
  repeat (refine AW_seq ?_)
  refine tst (fun h1 => ?_) (fun h1 => ?_)
  · simp at h1
    have hi' : i < l.length := by omega
    obtain ⟨x, hx⟩ : ∃ x, l.getD i default = x := ⟨_, rfl⟩
    have htk := take_map hi' hx
    obtain ⟨htk, -⟩ : Go.RowKit.Hid (l.take (i + 1) = l.take i ++ [x]) ∧ True := ⟨htk, trivial⟩
    rename_i hid0
    clear hid0
    refine AW_skip ?_
    repeat (refine AW_seq ?_)
    refine AW_block ?_
    repeat (refine AW_seq ?_)
    refine reg ?_
    refine run 2 ?_
    refine run 2 ?_
    refine run 2 ?_
    refine run 2 ?_
    refine run 2 ?_
    refine run 1 ?_
    refine fin [0, 1, 2, 7, 8, 9, 26] [(8, 0)] ?_
    repeat (refine AW_seq ?_)
    refine tst (fun h2 => ?_) (fun h2 => ?_)
    · skip
      have hd : d = false := by cases d <;> simp at h2 ⊢
      subst hd
      have hk2 : k ≤ x.1 := by simpa using h2
      clear h2
      have hd : (false : Bool) = false := rfl
      obtain ⟨o2, ho2⟩ : ∃ o', o ++ [(k, n)] = o' := ⟨_, rfl⟩
      have mo2 : o.map pPV ++ [PV.agg [PV.v (.int .u64 k), PV.v (.int .i64 n)]] = o2.map pPV := by rw [← ho2, List.map_append]; rfl
      have lo2 : o2.length = o.length + 1 := by rw [← ho2, List.length_append]; rfl
      obtain ⟨ho2, -⟩ : Go.RowKit.Hid (o ++ [(k, n)] = o2) ∧ True := ⟨ho2, trivial⟩
      rename_i hid0
      clear hid0
      repeat (refine AW_seq ?_)
      refine reg ?_
      refine run 2 ?_
      refine run 2 ?_
      refine run 2 ?_
      refine run 1 ?_
      refine fin [0, 1, 2, 7, 9] [(8, 0)] ?_
      repeat (refine AW_seq ?_)
      refine reg ?_
      refine run 1 ?_
      refine fin [0, 1, 2, 7, 8, 9] [(8, 0)] ?_
      repeat (refine AW_seq ?_)
      refine reg ?_
      refine run 2 ?_
      refine run 2 ?_
      refine run 2 ?_
      refine run 1 ?_
      refine fin [0, 1, 2, 7, 8, 9, 39] [(8, 0)] ?_
      repeat (refine AW_seq ?_)
      refine tst (fun h3 => ?_) (fun h3 => ?_)
      · simp at h3
        obtain ⟨o3, ho3⟩ : ∃ o', o2 ++ [x] = o' := ⟨_, rfl⟩
        have mo3 : o2.map pPV ++ [PV.agg [PV.v (.int .u64 x.1), PV.v (.int .i64 x.2)]] = o3.map pPV := by rw [← ho3, List.map_append]; rfl
        have lo3 : o3.length = o2.length + 1 := by rw [← ho3, List.length_append]; rfl
        obtain ⟨ho3, -⟩ : Go.RowKit.Hid (o2 ++ [x] = o3) ∧ True := ⟨ho3, trivial⟩
        rename_i hid0
        clear hid0
        repeat (refine AW_seq ?_)
        refine reg ?_
        refine run 2 ?_
        refine run 2 ?_
        refine run 2 ?_
        refine run 2 ?_
        refine finN ?_
        refine kp [0, 1, 2, 7, 8, 9] [(8, 0)] ?_
        repeat (refine AW_seq ?_)
        refine reg ?_
        refine run 2 ?_
        refine run 1 ?_
        refine finN ?_
        refine ⟨(i + 1, true, o3), by show l.length - (i + 1) < l.length - i; omega, ⟨by show i + 1 ≤ _; omega, by show (true, o3) = _; rw [htk.out, putS_snoc, ← ho.out, hd, putStep_1 hk2 h3, ho2.out, ho3.out], by show o3.length ≤ 2 * (i + 1); omega⟩, wk⟩
      · simp at h3
        refine AW_skip ?_
        repeat (refine AW_seq ?_)
        refine reg ?_
        refine run 2 ?_
        refine run 1 ?_
        refine finN ?_
        refine ⟨(i + 1, true, o2), by show l.length - (i + 1) < l.length - i; omega, ⟨by show i + 1 ≤ _; omega, by show (true, o2) = _; rw [htk.out, putS_snoc, ← ho.out, hd, putStep_2 h3, ho2.out], by show o2.length ≤ 2 * (i + 1); omega⟩, wk⟩
    · skip
      have hn : ¬ (d = false ∧ k ≤ x.1) := by cases d <;> simp at h2 ⊢; exact h2
      obtain ⟨hn, -⟩ : Go.RowKit.Hid (¬ (d = false ∧ k ≤ x.1)) ∧ True := ⟨hn, trivial⟩
      rename_i hid0
      clear hid0
      clear h2
      refine AW_skip ?_
      repeat (refine AW_seq ?_)
      refine reg ?_
      refine run 2 ?_
      refine run 2 ?_
      refine run 2 ?_
      refine run 1 ?_
      refine fin [0, 1, 2, 7, 8, 9, 39] [(8, 0)] ?_
      repeat (refine AW_seq ?_)
      refine tst (fun h4 => ?_) (fun h4 => ?_)
      · simp at h4
        obtain ⟨o2, ho2⟩ : ∃ o', o ++ [x] = o' := ⟨_, rfl⟩
        have mo2 : o.map pPV ++ [PV.agg [PV.v (.int .u64 x.1), PV.v (.int .i64 x.2)]] = o2.map pPV := by rw [← ho2, List.map_append]; rfl
        have lo2 : o2.length = o.length + 1 := by rw [← ho2, List.length_append]; rfl
        obtain ⟨ho2, -⟩ : Go.RowKit.Hid (o ++ [x] = o2) ∧ True := ⟨ho2, trivial⟩
        rename_i hid0
        clear hid0
        repeat (refine AW_seq ?_)
        refine reg ?_
        refine run 2 ?_
        refine run 2 ?_
        refine run 2 ?_
        refine run 2 ?_
        refine finN ?_
        refine kp [0, 1, 2, 7, 8, 9] [(8, 0)] ?_
        repeat (refine AW_seq ?_)
        refine reg ?_
        refine run 2 ?_
        refine run 1 ?_
        refine finN ?_
        refine ⟨(i + 1, d, o2), by show l.length - (i + 1) < l.length - i; omega, ⟨by show i + 1 ≤ _; omega, by show (d, o2) = _; rw [htk.out, putS_snoc, ← ho.out, putStep_3 hn.out h4, ho2.out], by show o2.length ≤ 2 * (i + 1); omega⟩, wk⟩
      · simp at h4
        refine AW_skip ?_
        repeat (refine AW_seq ?_)
        refine reg ?_
        refine run 2 ?_
        refine run 1 ?_
        refine finN ?_
        refine ⟨(i + 1, d, o), by show l.length - (i + 1) < l.length - i; omega, ⟨by show i + 1 ≤ _; omega, by show (d, o) = _; rw [htk.out, putS_snoc, ← ho.out, putStep_4 hn.out h4], by show o.length ≤ 2 * (i + 1); omega⟩, wk⟩
  · simp at h1
    have hoo : (d, o) = putS l k n := by rw [ho.out, List.take_of_length_le (by omega)]
    obtain ⟨hoo, -⟩ : Go.RowKit.Hid ((d, o) = putS l k n) ∧ True := ⟨hoo, trivial⟩
    rename_i hid0
    clear hid0
    refine AW_exit ?_
    repeat (refine AW_seq ?_)
    refine reg ?_
    refine run 2 ?_
    refine fin [1, 2, 7, 48] [(8, 0)] ?_
    repeat (refine AW_seq ?_)
    refine tst (fun h5 => ?_) (fun h5 => ?_)
    · skip
      have hd : d = false := by cases d <;> simp at h5 ⊢
      have hpr : putR l k n = o ++ [(k, n)] := by rw [putR, ← hoo.out, hd]; rfl
      obtain ⟨o2, ho2⟩ : ∃ o', o ++ [(k, n)] = o' := ⟨_, rfl⟩
      have mo2 : o.map pPV ++ [PV.agg [PV.v (.int .u64 k), PV.v (.int .i64 n)]] = o2.map pPV := by rw [← ho2, List.map_append]; rfl
      have lo2 : o2.length = o.length + 1 := by rw [← ho2, List.length_append]; rfl
      obtain ⟨ho2, -⟩ : Go.RowKit.Hid (o ++ [(k, n)] = o2) ∧ True := ⟨ho2, trivial⟩
      rename_i hid0
      clear hid0
      rw [hpr, ho2.out]
      repeat (refine AW_seq ?_)
      refine reg ?_
      refine run 2 ?_
      refine run 2 ?_
      refine run 2 ?_
      refine run 1 ?_
      refine fin [7] [(8, 0)] ?_
      repeat (refine AW_seq ?_)
      refine reg ?_
      refine run 2 ?_
      refine fin [6] [(8, 0)] ?_
      refine AW_ret (ret ?_)
      rfl
    · skip
      have hd : d = true := by cases d <;> simp at h5 ⊢
      have hpr : putR l k n = o := by rw [putR, ← hoo.out, hd]; rfl
      rw [hpr]
      refine AW_skip ?_
      repeat (refine AW_seq ?_)
      refine reg ?_
      refine run 2 ?_
      refine fin [6] [(8, 0)] ?_
      refine AW_ret (ret ?_)
      rfl

theorem delR_any (l : List Pr) (k : Int) (hl : l.length < 1099511627776) : ACalls Try.prog 11 [.sl (l.map pPV), uPV k] (.sl ((delL l k).map pPV)) := by
  refine ent Try.func11 ?_
  repeat (refine AW_seq ?_)
  refine reg ?_
  refine run 1 ?_
  refine fin [0, 1] [] ?_
  repeat (refine AW_seq ?_)
  refine reg ?_
  refine run 1 ?_
  refine fin [0, 1, 5] [] ?_
  refine seed 5 6 55 2 ?_
  repeat (refine AW_seq ?_)
  refine reg ?_
  refine run 1 ?_
  refine fin [0, 1, 5, 6] [(6, 0)] ?_
  repeat (refine AW_seq ?_)
  refine AW_block ?_
  refine AW_loops (ι := Nat × List Pr) (fun z => ⟨lk [(0, .c (.sl (l.map pPV))), (1, .c (uPV k)), (5, .own (6, 0) z.2.length), (6, .c (iPV z.1))], lkM [((6, 0), some ⟨55, 2, (z.2).map pPV, true, []⟩)], lkG [] 1⟩) (fun z => z.1 ≤ l.length ∧ z.2 = delL (l.take z.1) k ∧ z.2.length ≤ z.1) (fun z => l.length - z.1) (0, []) ⟨Nat.zero_le _, rfl, Nat.le_refl _⟩ wk ?_
  rintro ⟨i, o⟩ ⟨hi, ho, hol⟩
  simp only at hi ho hol
  obtain ⟨ho, -⟩ : Go.RowKit.Hid (o = delL (l.take i) k) ∧ True := ⟨ho, trivial⟩
  rename_i hid0
  clear hid0
  repeat (refine AW_seq ?_)
  refine reg ?_
  refine run 2 ?_
  refine run 2 ?_
  refine fin [0, 1, 5, 6, 10] [(6, 0)] ?_
  repeat (refine AW_seq ?_)
  refine tst (fun h1 => ?_) (fun h1 => ?_)
  · simp at h1
    have hi' : i < l.length := by omega
    obtain ⟨x, hx⟩ : ∃ x, l.getD i default = x := ⟨_, rfl⟩
    have htk := take_map hi' hx
    obtain ⟨htk, -⟩ : Go.RowKit.Hid (l.take (i + 1) = l.take i ++ [x]) ∧ True := ⟨htk, trivial⟩
    rename_i hid0
    clear hid0
    refine AW_skip ?_
    repeat (refine AW_seq ?_)
    refine AW_block ?_
    repeat (refine AW_seq ?_)
    refine reg ?_
    refine run 2 ?_
    refine run 2 ?_
    refine run 2 ?_
    refine run 1 ?_
    refine fin [0, 1, 5, 6, 19] [(6, 0)] ?_
    repeat (refine AW_seq ?_)
    refine tst (fun h2 => ?_) (fun h2 => ?_)
    · simp at h2
      obtain ⟨o2, ho2⟩ : ∃ o', o ++ [x] = o' := ⟨_, rfl⟩
      have mo2 : o.map pPV ++ [PV.agg [PV.v (.int .u64 x.1), PV.v (.int .i64 x.2)]] = o2.map pPV := by rw [← ho2, List.map_append]; rfl
      have lo2 : o2.length = o.length + 1 := by rw [← ho2, List.length_append]; rfl
      obtain ⟨ho2, -⟩ : Go.RowKit.Hid (o ++ [x] = o2) ∧ True := ⟨ho2, trivial⟩
      rename_i hid0
      clear hid0
      repeat (refine AW_seq ?_)
      refine reg ?_
      refine run 2 ?_
      refine run 2 ?_
      refine run 2 ?_
      refine run 2 ?_
      refine finN ?_
      refine kp [0, 1, 5, 6] [(6, 0)] ?_
      repeat (refine AW_seq ?_)
      refine reg ?_
      refine run 2 ?_
      refine run 1 ?_
      refine finN ?_
      refine ⟨(i + 1, o2), by show l.length - (i + 1) < l.length - i; omega, ⟨by show i + 1 ≤ _; omega, by show o2 = _; rw [htk.out, show delL (l.take i ++ [x]) k = delL (l.take i) k ++ delL [x] k from List.filter_append .., ← ho.out, ← ho2.out]; simp [delL, h2], by show o2.length ≤ i + 1; omega⟩, wk⟩
    · simp at h2
      refine AW_skip ?_
      repeat (refine AW_seq ?_)
      refine reg ?_
      refine run 2 ?_
      refine run 1 ?_
      refine finN ?_
      refine ⟨(i + 1, o), by show l.length - (i + 1) < l.length - i; omega, ⟨by show i + 1 ≤ _; omega, by show o = _; rw [htk.out, show delL (l.take i ++ [x]) k = delL (l.take i) k ++ delL [x] k from List.filter_append .., ← ho.out]; simp [delL, h2], by show o.length ≤ i + 1; omega⟩, wk⟩
  · simp at h1
    have hoo : o = delL l k := by rw [ho.out, List.take_of_length_le (by omega)]
    refine AW_exit ?_
    repeat (refine AW_seq ?_)
    refine reg ?_
    refine run 2 ?_
    refine fin [4] [(6, 0)] ?_
    refine AW_ret (ret ?_)
    rw [← hoo]

theorem getR_any (l : List Pr) (k : Int) (hl : l.length < 1099511627776) : ACalls Try.prog 9 [.sl (l.map pPV), uPV k] (gotPV (getL l k)) := by
  refine ent Try.func9 ?_
  repeat (refine AW_seq ?_)
  refine reg ?_
  refine run 2 ?_
  refine fin [0, 1] [] ?_
  repeat (refine AW_seq ?_)
  refine reg ?_
  refine run 1 ?_
  refine fin [0, 1, 6] [] ?_
  repeat (refine AW_seq ?_)
  refine AW_block ?_
  refine AW_loops (ι := Nat) (fun i => ⟨lk [(0, .c (.sl (l.map pPV))), (1, .c (uPV k)), (6, .c (iPV i))], lkM [], lkG [] 0⟩) (fun i => i ≤ l.length ∧ getL (l.drop i) k = getL l k) (fun i => l.length - i) 0 ⟨Nat.zero_le _, rfl⟩ wk ?_
  rintro i ⟨hi, hg⟩
  obtain ⟨hg, -⟩ : Go.RowKit.Hid (getL (l.drop i) k = getL l k) ∧ True := ⟨hg, trivial⟩
  rename_i hid0
  clear hid0
  repeat (refine AW_seq ?_)
  refine reg ?_
  refine run 2 ?_
  refine run 2 ?_
  refine fin [0, 1, 6, 10] [] ?_
  repeat (refine AW_seq ?_)
  refine tst (fun h1 => ?_) (fun h1 => ?_)
  · simp at h1
    have hi' : i < l.length := by omega
    obtain ⟨x, hx⟩ : ∃ x, l.getD i default = x := ⟨_, rfl⟩
    have hdr := drop_cons hi' hx
    obtain ⟨hdr, -⟩ : Go.RowKit.Hid (l.drop i = x :: l.drop (i + 1)) ∧ True := ⟨hdr, trivial⟩
    rename_i hid0
    clear hid0
    refine AW_skip ?_
    repeat (refine AW_seq ?_)
    refine AW_block ?_
    repeat (refine AW_seq ?_)
    refine reg ?_
    refine run 2 ?_
    refine run 2 ?_
    refine run 2 ?_
    refine run 1 ?_
    refine fin [0, 1, 6, 19] [] ?_
    repeat (refine AW_seq ?_)
    refine tst (fun h2 => ?_) (fun h2 => ?_)
    · simp at h2
      have hs : getL l k = some x.2 := by rw [← hg.out, hdr.out]; simp [getL, h2]
      repeat (refine AW_seq ?_)
      refine reg ?_
      refine run 2 ?_
      refine run 2 ?_
      refine run 2 ?_
      refine run 1 ?_
      refine fin [4, 5] [] ?_
      refine AW_ret (ret ?_)
      rw [hs]
      rfl
    · simp at h2
      refine AW_skip ?_
      repeat (refine AW_seq ?_)
      refine reg ?_
      refine run 2 ?_
      refine run 1 ?_
      refine finN ?_
      refine ⟨i + 1, by omega, ⟨by omega, by rw [← hg.out, hdr.out]; simp [getL, h2]⟩, wk⟩
  · simp at h1
    have hn : getL l k = none := by rw [← hg.out, List.drop_eq_nil_of_le (by omega)]; rfl
    refine AW_exit ?_
    repeat (refine AW_seq ?_)
    refine reg ?_
    refine run 2 ?_
    refine fin [4, 5] [] ?_
    refine AW_ret (ret ?_)
    rw [hn]
    rfl

theorem lessR_any (l : List Pr) (k : Int) (hl : l.length < 1099511627776) : ACalls Try.prog 20 [.sl (l.map pPV), uPV k] (iPV (lo l k).length) := by
  refine ent Try.func20 ?_
  repeat (refine AW_seq ?_)
  refine reg ?_
  refine run 1 ?_
  refine fin [0, 1] [] ?_
  repeat (refine AW_seq ?_)
  refine reg ?_
  refine run 1 ?_
  refine fin [0, 1, 5] [] ?_
  repeat (refine AW_seq ?_)
  refine reg ?_
  refine run 1 ?_
  refine fin [0, 1, 5, 6] [] ?_
  repeat (refine AW_seq ?_)
  refine AW_block ?_
  refine AW_loops (ι := Nat × Nat) (fun z => ⟨lk [(0, .c (.sl (l.map pPV))), (1, .c (uPV k)), (5, .c (iPV z.2)), (6, .c (iPV z.1))], lkM [], lkG [] 0⟩) (fun z => z.1 ≤ l.length ∧ z.2 = (lo (l.take z.1) k).length ∧ z.2 ≤ z.1) (fun z => l.length - z.1) (0, 0) ⟨Nat.zero_le _, rfl, Nat.le_refl _⟩ wk ?_
  rintro ⟨i, c⟩ ⟨hi, ho, hol⟩
  simp only at hi ho hol
  obtain ⟨ho, -⟩ : Go.RowKit.Hid (c = (lo (l.take i) k).length) ∧ True := ⟨ho, trivial⟩
  rename_i hid0
  clear hid0
  repeat (refine AW_seq ?_)
  refine reg ?_
  refine run 2 ?_
  refine run 2 ?_
  refine fin [0, 1, 5, 6, 10] [] ?_
  repeat (refine AW_seq ?_)
  refine tst (fun h1 => ?_) (fun h1 => ?_)
  · simp at h1
    have hi' : i < l.length := by omega
    obtain ⟨x, hx⟩ : ∃ x, l.getD i default = x := ⟨_, rfl⟩
    have htk := take_map hi' hx
    obtain ⟨htk, -⟩ : Go.RowKit.Hid (l.take (i + 1) = l.take i ++ [x]) ∧ True := ⟨htk, trivial⟩
    rename_i hid0
    clear hid0
    refine AW_skip ?_
    repeat (refine AW_seq ?_)
    refine AW_block ?_
    repeat (refine AW_seq ?_)
    refine reg ?_
    refine run 2 ?_
    refine run 2 ?_
    refine run 2 ?_
    refine run 1 ?_
    refine fin [0, 1, 5, 6, 19] [] ?_
    repeat (refine AW_seq ?_)
    refine tst (fun h2 => ?_) (fun h2 => ?_)
    · simp at h2
      repeat (refine AW_seq ?_)
      refine reg ?_
      refine run 2 ?_
      refine run 1 ?_
      refine finN ?_
      refine kp [0, 1, 5, 6] [] ?_
      repeat (refine AW_seq ?_)
      refine reg ?_
      refine run 2 ?_
      refine run 1 ?_
      refine finN ?_
      refine ⟨(i + 1, c + 1), by show l.length - (i + 1) < l.length - i; omega, ⟨by show i + 1 ≤ _; omega, by show c + 1 = _; rw [htk.out, show lo (l.take i ++ [x]) k = lo (l.take i) k ++ lo [x] k from List.filter_append .., List.length_append, ← ho.out]; simp [lo, h2], by show c + 1 ≤ i + 1; omega⟩, wk⟩
    · simp at h2
      refine AW_skip ?_
      repeat (refine AW_seq ?_)
      refine reg ?_
      refine run 2 ?_
      refine run 1 ?_
      refine finN ?_
      refine ⟨(i + 1, c), by show l.length - (i + 1) < l.length - i; omega, ⟨by show i + 1 ≤ _; omega, by show c = _; rw [htk.out, show lo (l.take i ++ [x]) k = lo (l.take i) k ++ lo [x] k from List.filter_append .., List.length_append, ← ho.out]; simp [lo]; omega, by show c ≤ i + 1; omega⟩, wk⟩
  · simp at h1
    have hoo : c = (lo l k).length := by rw [ho.out, List.take_of_length_le (by omega)]
    refine AW_exit ?_
    repeat (refine AW_seq ?_)
    refine reg ?_
    refine run 2 ?_
    refine fin [4] [] ?_
    refine AW_ret (ret ?_)
    rw [← hoo]
    rfl

theorem same_any (l : List Pr) (hl : l.length < 1099511627776) : ACalls Try.prog 14 [.sl (l.map pPV), .sl (l.map pPV)] (bPV true) := by
  refine ent Try.func14 ?_
  repeat (refine AW_seq ?_)
  refine reg ?_
  refine run 1 ?_
  refine fin [0, 1] [] ?_
  repeat (refine AW_seq ?_)
  refine reg ?_
  refine run 2 ?_
  refine run 2 ?_
  refine run 1 ?_
  refine fin [0, 1, 10] [] ?_
  repeat (refine AW_seq ?_)
  refine tstF ?_
  refine AW_skip ?_
  repeat (refine AW_seq ?_)
  refine reg ?_
  refine run 1 ?_
  refine fin [0, 1, 5] [] ?_
  repeat (refine AW_seq ?_)
  refine AW_block ?_
  refine AW_loops (ι := Nat) (fun i => ⟨lk [(0, .c (.sl (l.map pPV))), (1, .c (.sl (l.map pPV))), (5, .c (iPV i))], lkM [], lkG [] 0⟩) (fun i => i ≤ l.length) (fun i => l.length - i) 0 (Nat.zero_le _) wk ?_
  rintro i hi
  repeat (refine AW_seq ?_)
  refine reg ?_
  refine run 2 ?_
  refine run 2 ?_
  refine fin [0, 1, 5, 14] [] ?_
  repeat (refine AW_seq ?_)
  refine tst (fun h2 => ?_) (fun h2 => ?_)
  · simp at h2
    obtain ⟨x, hx⟩ : ∃ x, l.getD i default = x := ⟨_, rfl⟩
    refine AW_skip ?_
    repeat (refine AW_seq ?_)
    refine AW_block ?_
    repeat (refine AW_seq ?_)
    refine reg ?_
    refine run 2 ?_
    refine run 2 ?_
    refine run 2 ?_
    refine run 2 ?_
    refine run 1 ?_
    refine fin [0, 1, 5, 25] [] ?_
    repeat (refine AW_seq ?_)
    refine tstF ?_
    refine AW_skip ?_
    repeat (refine AW_seq ?_)
    refine reg ?_
    refine run 2 ?_
    refine run 1 ?_
    refine finN ?_
    exact ⟨i + 1, by omega, by omega, wk⟩
  · simp at h2
    refine AW_exit ?_
    repeat (refine AW_seq ?_)
    refine reg ?_
    refine run 1 ?_
    refine fin [4] [] ?_
    refine AW_ret (ret ?_)
    rfl

theorem least_pow : ∀ n, Tr.least n < 2 ^ n ∧ Tr.least (n + 1) < 2 ^ (n + 1)
  | 0 => by decide
  | n + 1 => by
    have h := least_pow n
    refine ⟨h.2, ?_⟩
    simp only [Tr.least]; rw [Nat.pow_succ]
    have := Nat.pow_succ 2 n
    omega
theorem least_lt (i : Nat) (h : i ≤ 60) : Tr.least i < 2305843009213693952 ∧ Tr.least (i + 1) < 2305843009213693952 := by
  have h1 := least_pow i
  have h2 : 2 ^ i ≤ 2 ^ 60 := Nat.pow_le_pow_right (by omega) h
  have h3 : 2 ^ (i + 1) ≤ 2 ^ 61 := Nat.pow_le_pow_right (by omega) (by omega)
  omega

theorem least_any (h : Nat) (hh : h ≤ 60) : ACalls Try.prog 22 [iPV h] (iPV (Tr.least h)) := by
  refine ent Try.func22 ?_
  repeat (refine AW_seq ?_)
  refine reg ?_
  refine run 1 ?_
  refine fin [0] [] ?_
  repeat (refine AW_seq ?_)
  refine reg ?_
  refine run 2 ?_
  refine fin [0, 3, 4] [] ?_
  repeat (refine AW_seq ?_)
  refine reg ?_
  refine run 1 ?_
  refine fin [0, 3, 4, 5] [] ?_
  repeat (refine AW_seq ?_)
  refine AW_block ?_
  have z0 : Tr.least 0 = 0 := rfl
  have z1 : Tr.least (0 + 1) = 1 := rfl
  have z2 : Tr.least 1 = 1 := rfl
  refine AW_loops (ι := Nat) (fun i => ⟨lk [(0, .c (iPV h)), (3, .c (iPV (Tr.least i))), (4, .c (iPV (Tr.least (i + 1)))), (5, .c (iPV i))], lkM [], lkG [] 0⟩) (fun i => i ≤ h) (fun i => h - i) 0 (Nat.zero_le _) wk ?_
  rintro i hi
  clear z0 z1 z2
  have hb := least_lt i (by omega)
  have e2 : Tr.least (i + 1 + 1) = Tr.least (i + 1) + Tr.least i + 1 := rfl
  obtain ⟨a, ha⟩ : ∃ a, Tr.least i = a := ⟨_, rfl⟩
  obtain ⟨b, hb2⟩ : ∃ b, Tr.least (i + 1) = b := ⟨_, rfl⟩
  obtain ⟨c, hc⟩ : ∃ c, Tr.least (i + 1 + 1) = c := ⟨_, rfl⟩
  rw [ha, hb2] at hb
  rw [ha, hb2, hc] at e2
  have e3 : (1 : Int) + a + b = (c : Int) := by omega
  repeat (refine AW_seq ?_)
  refine reg ?_
  refine run 2 ?_
  refine run 1 ?_
  refine fin [0, 3, 4, 5, 8] [] ?_
  repeat (refine AW_seq ?_)
  refine tst (fun h1 => ?_) (fun h1 => ?_)
  · simp at h1
    refine AW_skip ?_
    repeat (refine AW_seq ?_)
    refine AW_block ?_
    repeat (refine AW_seq ?_)
    refine reg ?_
    refine run 2 ?_
    refine run 2 ?_
    refine run 2 ?_
    refine run 1 ?_
    refine finN ?_
    refine kp [0, 3, 4, 5] [] ?_
    repeat (refine AW_seq ?_)
    refine reg ?_
    refine run 2 ?_
    refine run 1 ?_
    refine finN ?_
    exact ⟨i + 1, by omega, by omega, wk⟩
  · simp at h1
    have hih : i = h := by omega
    subst hih
    refine AW_exit ?_
    repeat (refine AW_seq ?_)
    refine reg ?_
    refine run 2 ?_
    refine fin [2] [] ?_
    refine AW_ret (ret ?_)
    rw [ha]
    rfl

end Go.Proofs.Ytinlmjgdhkalnaa