/-
  The fixed answer of layer dict.
  Conditions: none.
-/
import Derived.Test.YtinlmjgdhkalnaaDictR
namespace Go.Proofs.Ytinlmjgdhkalnaa
open Go Go.Ab
set_option linter.unusedVariables false
set_option linter.unusedSimpArgs false

/-- a dictionary that stands well and has these pairs -/
structure DOk (t : Tr Pr) (l : List Pr) : Prop where
  list : t.list = l
  inc : Inc l
  bal : t.bal
theorem DOk.nil : DOk .nil [] := ⟨rfl, inc_nil, trivial⟩
theorem DOk.put {t : Tr Pr} {l : List Pr} (h : DOk t l) (k n : Int) : DOk (putT t k n) (putL l k n) := by
  obtain ⟨rfl, h2, h3⟩ := h; exact ⟨putT_list h2 k n, putL_inc h2 k n, putT_bal h3 k n⟩
theorem DOk.del {t : Tr Pr} {l : List Pr} (h : DOk t l) (k : Int) : DOk (delT t k) (delL l k) := by
  obtain ⟨rfl, h2, h3⟩ := h; exact ⟨delT_list h2 k, delL_inc h2 k, delT_bal h3 k⟩
theorem DOk.cnt {t : Tr Pr} {l : List Pr} (h : DOk t l) : t.cnt = l.length := by rw [← h.list, Tr.list_len]
section
variable {t : Tr Pr} {l : List Pr}
theorem DOk.cPut (h : DOk t l) (hl : l.length < 1099511627776) (k n : Int) : ACalls Try.prog 12 [.agg [sqPV t], uPV k, iPV n] (.agg [sqPV (putT t k n)]) := put_any t k n (by rw [h.cnt]; exact hl) (by rw [h.list]; exact h.inc)
theorem DOk.cDel (h : DOk t l) (hl : l.length < 1099511627776) (k : Int) : ACalls Try.prog 10 [.agg [sqPV t], uPV k] (.tup [.agg [sqPV (delT t k)], bPV (getL l k).isSome]) := by
  have := del_any t k (by rw [h.cnt]; exact hl) (by rw [h.list]; exact h.inc); rwa [h.list] at this
theorem DOk.cGet (h : DOk t l) (hl : l.length < 1099511627776) (k : Int) : ACalls Try.prog 18 [.agg [sqPV t], uPV k] (gotPV (getL l k)) := by
  have := get_any t k (by rw [h.cnt]; omega) (by rw [h.list]; exact h.inc); rwa [h.list] at this
theorem DOk.cFrom (h : DOk t l) (hl : l.length < 1099511627776) (k : Int) : ACalls Try.prog 19 [.agg [sqPV t], uPV k] (iPV (lo l k).length) := by
  have := from_any t k (by rw [h.cnt]; omega) (by rw [h.list]; exact h.inc); rwa [h.list] at this
theorem DOk.cPairs (h : DOk t l) (hl : l.length < 1099511627776) : ACalls Try.prog 16 [.agg [sqPV t]] (.sl (l.map pPV)) := by
  have := pairs_any t (by rw [h.cnt]; exact hl); rwa [h.list] at this
theorem DOk.cMany (h : DOk t l) : ACalls Try.prog 17 [.agg [sqPV t]] (iPV l.length) := by
  have := many_any t; rwa [h.cnt] at this
end
theorem ht_two {t : Tr Pr} (h : t.cnt = 2) : t.ht = 2 := by
  have z : ∀ t : Tr Pr, t.cnt = 0 → t.ht = 0 := fun t ht => by cases t with | nil => rfl | node a x b => simp [Tr.cnt] at ht
  have o : ∀ t : Tr Pr, t.cnt = 1 → t.ht = 1 := fun t ht => by
    cases t with
    | nil => simp [Tr.cnt] at ht
    | node a x b => simp only [Tr.cnt] at ht; simp [Tr.ht, z a (by omega), z b (by omega)]
  cases t with
  | nil => simp [Tr.cnt] at h
  | node a x b =>
    simp only [Tr.cnt] at h
    rcases Nat.eq_zero_or_pos a.cnt with h1 | h1
    · simp [Tr.ht, z a h1, o b (by omega)]
    · simp [Tr.ht, o a (by omega), z b (by omega)]

theorem awake_ih (d g e f f' : Tr Pr) (h1 : ACalls Try.prog 12 [.agg [sqPV .nil], uPV 5, iPV 50] (.agg [sqPV d])) (h2 : ACalls Try.prog 12 [.agg [sqPV d], uPV 3, iPV 30] (.agg [sqPV g])) (h3 : ACalls Try.prog 12 [.agg [sqPV g], uPV 5, iPV 51] (.agg [sqPV e])) (h4 : ACalls Try.prog 10 [.agg [sqPV e], uPV 3] (.tup [.agg [sqPV f], bPV true])) (h5 : ACalls Try.prog 18 [.agg [sqPV e], uPV 5] (.tup [iPV 51, bPV true])) (h6 : ACalls Try.prog 10 [.agg [sqPV f], uPV 3] (.tup [.agg [sqPV f'], bPV false])) (h7 : ACalls Try.prog 16 [.agg [sqPV e]] (.sl [pPV (3, 30), pPV (5, 51)])) (h8 : ACalls Try.prog 17 [.agg [sqPV d]] (iPV 1)) (h9 : ACalls Try.prog 19 [.agg [sqPV e], uPV 4] (iPV 1)) (h10 : ACalls Try.prog 21 [.agg [sqPV e]] (iPV 2)) : ACalls Try.prog 8 [] (bPV true) := by
  refine ent Try.func8 ?_
  repeat (refine AW_seq ?_)
  refine reg ?_
  refine run 1 ?_
  refine fin [] [] ?_
  repeat (refine AW_seq ?_)
  refine reg ?_
  refine run 1 ?_
  refine fin [1] [(2, 0)] ?_
  repeat (refine AW_seq ?_)
  refine reg ?_
  refine run 1 ?_
  refine call (fun _ => h1) ?_
  refine run 1 ?_
  refine fin [1] [(2, 0)] ?_
  repeat (refine AW_seq ?_)
  refine reg ?_
  refine run 1 ?_
  refine call (fun _ => h2) ?_
  refine call (fun _ => h3) ?_
  refine run 2 ?_
  refine fin [1, 2] [(2, 0), (3, 0)] ?_
  repeat (refine AW_seq ?_)
  refine reg ?_
  refine run 1 ?_
  refine call (fun _ => h4) ?_
  refine run 2 ?_
  refine run 2 ?_
  refine run 2 ?_
  refine fin [1, 2, 3, 4] [(2, 0), (3, 0), (4, 0)] ?_
  repeat (refine AW_seq ?_)
  refine reg ?_
  refine run 1 ?_
  refine call (fun _ => h5) ?_
  refine run 2 ?_
  refine run 2 ?_
  refine run 1 ?_
  refine fin [1, 2, 3, 4, 5, 6] [(2, 0), (3, 0), (4, 0)] ?_
  repeat (refine AW_seq ?_)
  refine reg ?_
  refine run 1 ?_
  refine call (fun _ => h6) ?_
  refine run 2 ?_
  refine run 2 ?_
  refine run 2 ?_
  refine fin [1, 2, 4, 5, 6, 8] [(2, 0), (3, 0)] ?_
  repeat (refine AW_seq ?_)
  refine reg ?_
  refine run 1 ?_
  refine call (fun _ => h7) ?_
  refine run 1 ?_
  refine fin [1, 2, 4, 5, 6, 8, 9] [(2, 0), (3, 0)] ?_
  repeat (refine AW_seq ?_)
  refine reg ?_
  refine run 2 ?_
  refine run 2 ?_
  refine run 2 ?_
  refine run 2 ?_
  refine run 2 ?_
  refine run 2 ?_
  refine run 2 ?_
  refine run 2 ?_
  refine run 2 ?_
  refine run 2 ?_
  refine run 2 ?_
  refine run 2 ?_
  refine run 2 ?_
  refine call (fun _ => h8) ?_
  refine run 2 ?_
  refine run 2 ?_
  refine call (fun _ => h9) ?_
  refine run 2 ?_
  refine run 2 ?_
  refine call (fun _ => h10) ?_
  refine run 2 ?_
  refine run 1 ?_
  refine fin [0] [] ?_
  refine AW_ret (ret ?_)
  rfl

theorem awake_true : ACalls Try.prog 8 [] (bPV true) := by
  have d := DOk.nil.put 5 50
  have d2 := d.put 3 30
  have d3 := d2.put 5 51
  have d4 := d3.del 3
  have h10 := height_any (putT (putT (putT .nil 5 50) 3 30) 5 51)
  rw [ht_two d3.cnt] at h10
  exact awake_ih _ _ _ _ _ (DOk.nil.cPut (by decide) 5 50) (d.cPut (by decide) 3 30) (d2.cPut (by decide) 5 51) (d3.cDel (by decide) 3) (d3.cGet (by decide) 5) (d4.cDel (by decide) 3) (d3.cPairs (by decide)) d.cMany (d3.cFrom (by decide) 4) h10

end Go.Proofs.Ytinlmjgdhkalnaa