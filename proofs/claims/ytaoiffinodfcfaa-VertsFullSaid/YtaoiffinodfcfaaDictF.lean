/-
  Contracts of the layer dict on plain data: the search by halves, how many keys are less, the number by a key, putting and deleting.
  Conditions: not too many keys; they rise.
-/
import Derived.Test.YtaoiffinodfcfaaDictS3
import Derived.Test.YtaoiffinodfcfaaDictM
import Derived.Test.YtaoiffinodfcfaaAb29
namespace Go.Proofs.Ytaoiffinodfcfaa
open Go Go.Ab
set_option linter.unusedVariables false
set_option linter.unusedSimpArgs false

theorem half_i64 (i j : Nat) : ((i : Int) + (j : Int)).fdiv (2 ^ min 1 IntKind.u64.bits) = (((i + j) / 2 : Nat) : Int) := by
  rw [show min 1 IntKind.u64.bits = 1 from rfl]
  rw [Int.fdiv_eq_ediv_of_nonneg _ (by decide)]; omega

theorem search_any (n : Nat) (hn : n < 2305843009213693952) (k : Nat) (cs : List PV) (p : Nat → Bool) (hp : ∀ i : Nat, i < n → ACalls Try.prog k ([iPV i] ++ cs) (bPV (p i))) : ACalls Try.prog 42 [iPV n, .fn k cs] (iPV (bs p 0 n)) := by
  refine ent Try.func42 ?_
  obtain ⟨hp, -⟩ : Go.RowKit.Hid (∀ i : Nat, i < n → ACalls Try.prog k ([iPV i] ++ cs) (bPV (p i))) ∧ True := ⟨hp, trivial⟩
  rename_i hp0
  clear hp0
  repeat (refine AW_seq ?_)
  refine reg ?_
  refine run 1 ?_
  refine fin [0, 1] [] ?_
  repeat (refine AW_seq ?_)
  refine reg ?_
  refine run 2 ?_
  refine run 1 ?_
  refine fin [1, 5, 6] [] ?_
  repeat (refine AW_seq ?_)
  refine AW_block ?_
  refine AW_loops (ι := Nat × Nat) (fun z => ⟨lk [(1, .c (.fn k cs)), (5, .c (iPV z.1)), (6, .c (iPV z.2))], lkM ([]), lkG [] 0⟩) (fun z => bs p z.1 z.2 = bs p 0 n ∧ z.1 ≤ z.2 ∧ z.2 ≤ n) (fun z => z.2 - z.1) (0, n) ⟨rfl, Nat.zero_le _, Nat.le_refl _⟩ wk ?_
  rintro ⟨i, j⟩ ⟨hF, hij, hjn⟩
  simp only at hF hij hjn
  obtain ⟨hF, -⟩ : Go.RowKit.Hid (bs p i j = bs p 0 n) ∧ True := ⟨hF, trivial⟩
  rename_i hF0
  clear hF0
  have hh := half_i64 i j
  obtain ⟨m, hm⟩ : ∃ m, (i + j) / 2 = m := ⟨_, rfl⟩
  rw [hm] at hh
  repeat (refine AW_seq ?_)
  refine reg ?_
  refine run 2 ?_
  refine run 1 ?_
  refine fin [1, 5, 6, 11] [] ?_
  repeat (refine AW_seq ?_)
  refine tst (fun h1 => ?_) (fun h1 => ?_)
  · simp at h1
    have hc := hp.out m (by omega)
    have hmn : m < n := by omega
    refine AW_skip ?_
    repeat (refine AW_seq ?_)
    refine AW_block ?_
    repeat (refine AW_seq ?_)
    refine reg ?_
    refine run 2 ?_
    refine run 2 ?_
    refine run 2 ?_
    refine run 1 ?_
    refine fin [1, 5, 6, 7] [] ?_
    repeat (refine AW_seq ?_)
    refine reg ?_
    refine run 2 ?_
    refine ccall (fun _ => hc) ?_
    refine run 1 ?_
    refine fin [1, 5, 6, 7, 21] [] ?_
    repeat (refine AW_seq ?_)
    refine tst (fun h2 => ?_) (fun h2 => ?_)
    · simp at h2
      repeat (refine AW_seq ?_)
      refine reg ?_
      refine run 2 ?_
      refine run 1 ?_
      refine finN ?_
      exact ⟨(m + 1, j), by show j - (m + 1) < j - i; omega, ⟨by show bs p (m + 1) j = _; rw [← hF.out, bs_f h1 (by rw [hm]; simpa using h2), hm], by show m + 1 ≤ j; omega, hjn⟩, wk⟩
    · simp at h2
      repeat (refine AW_seq ?_)
      refine reg ?_
      refine run 2 ?_
      refine finN ?_
      exact ⟨(i, m), by show m - i < j - i; omega, ⟨by show bs p i m = _; rw [← hF.out, bs_t h1 (by rw [hm]; simpa using h2), hm], by show i ≤ m; omega, by show m ≤ n; omega⟩, wk⟩
  · simp at h1
    refine AW_exit ?_
    repeat (refine AW_seq ?_)
    refine reg ?_
    refine run 2 ?_
    refine fin [4] [] ?_
    refine AW_ret (ret ?_)
    rw [← hF.out, bs_end (by omega)]
    rfl

theorem many_any (t : Tr Pr) : ACalls Try.prog 33 [.agg [sqPV t]] (iPV t.cnt) := by
  refine ent Try.func33 ?_
  repeat (refine AW_seq ?_)
  refine reg ?_
  refine run 2 ?_
  refine fin [1] [(2, 0)] ?_
  repeat (refine AW_seq ?_)
  refine reg ?_
  refine run 2 ?_
  refine call (fun _ => len_any t) ?_
  refine run 1 ?_
  refine fin [2] [] ?_
  refine AW_ret (ret ?_)
  rfl

theorem get_at (t : Tr Pr) (i : Nat) (h : i < t.list.length) : getPV t i = .tup [pPV t.list[i], bPV true] := by
  rw [getPV, Tr.get_list, if_pos (by omega), Int.toNat_natCast, List.getElem?_eq_getElem h]; rfl

theorem from_at (t : Tr Pr) (k : Int) (i : Nat) (x : Pr) (hc : t.cnt < 1152921504606846976) (hi : i < t.cnt) (hx : getPV t i = .tup [pPV x, bPV true]) : ACalls Try.prog 43 [iPV i, .ref (.agg [sqPV t]), .ref (uPV k)] (bPV (decide (k ≤ x.1))) := by
  refine ent Try.func43 ?_
  have hg := at_any t i hc (by omega)
  rw [hx] at hg
  repeat (refine AW_seq ?_)
  refine reg ?_
  refine run 1 ?_
  refine fin [0, 1, 2] [] ?_
  repeat (refine AW_seq ?_)
  refine reg ?_
  refine run 2 ?_
  refine run 1 ?_
  refine call (fun _ => hg) ?_
  refine run 2 ?_
  refine run 2 ?_
  refine run 2 ?_
  refine fin [2, 5] [(6, 0)] ?_
  repeat (refine AW_seq ?_)
  refine reg ?_
  refine run 2 ?_
  refine run 2 ?_
  refine run 1 ?_
  refine fin [4] [] ?_
  refine AW_ret (ret ?_)
  rfl

/-- how many keys are less, as the search by halves finds it -/
theorem bs_less (t : Tr Pr) (k : Int) (h : Inc t.list) (p : Nat → Bool) (hp : ∀ (i : Nat) (hi : i < t.list.length), p i = decide (k ≤ (t.list[i]).1)) : bs p 0 t.cnt = (lo t.list k).length := by
  rw [← Tr.list_len]
  refine bs_spec p _ 0 _ (Nat.zero_le _) (lo_len _ _) fun x hx => ?_
  rw [hp x hx, decide_eq_true_eq]; exact at_ge h k x hx

theorem from_ih (t : Tr Pr) (k : Int) (hc : t.cnt < 1152921504606846976) (m : Nat) (hs : ACalls Try.prog 42 [iPV t.cnt, .fn 43 [.ref (.agg [sqPV t]), .ref (uPV k)]] (iPV m)) : ACalls Try.prog 35 [.agg [sqPV t], uPV k] (iPV m) := by
  refine ent Try.func35 ?_
  repeat (refine AW_seq ?_)
  refine reg ?_
  refine run 2 ?_
  refine run 1 ?_
  refine fin [2, 3] [(3, 0), (4, 0)] ?_
  refine ro (3, 0) ?_
  refine ro (4, 0) ?_
  repeat (refine AW_seq ?_)
  refine reg ?_
  refine run 1 ?_
  refine call (fun _ => many_any t) ?_
  refine run 1 ?_
  refine call (fun _ => hs) ?_
  refine run 1 ?_
  refine fin [4] [] ?_
  refine AW_ret (ret ?_)
  rfl

theorem from_any (t : Tr Pr) (k : Int) (hc : t.cnt < 1152921504606846976) (h : Inc t.list) : ACalls Try.prog 35 [.agg [sqPV t], uPV k] (iPV (lo t.list k).length) := by
  have hl := Tr.list_len t
  have hb := bs_less t k h (fun i => decide (k ≤ (t.list[i]?.getD (0, 0)).1)) (fun i hi => by simp only [List.getElem?_eq_getElem hi, Option.getD_some])
  refine from_ih t k hc _ ?_
  rw [← hb]
  refine search_any t.cnt (by omega) _ _ _ fun i hi => ?_
  have hi' : i < t.list.length := by omega
  have hx : getPV t i = .tup [pPV (t.list[i]?.getD (0, 0)), bPV true] := by rw [get_at t i hi', List.getElem?_eq_getElem hi']; rfl
  exact from_at t k i _ hc hi hx

end Go.Proofs.Ytaoiffinodfcfaa