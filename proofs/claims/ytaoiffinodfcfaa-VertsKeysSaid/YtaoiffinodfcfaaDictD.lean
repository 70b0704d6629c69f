/-
  A dictionary with these pairs, that stands well, and its calls, on plain data.
  Conditions: not too many pairs.
-/
import Derived.Test.YtaoiffinodfcfaaDictG
namespace Go.Proofs.Ytaoiffinodfcfaa
open Go Go.Ab
set_option linter.unusedVariables false
set_option linter.unusedSimpArgs false

/-- a dictionary that stands well and has these pairs -/
structure DOk (t : Tr Pr) (l : List Pr) : Prop where
  list : t.list = l
  inc : Inc l
  bal : t.bal
theorem DOk.nil : DOk .nil [] := ⟨rfl, inc_nil, trivial⟩
theorem DOk.put {t : Tr Pr} {l : List Pr} (h : DOk t l) (k n : Int) : DOk (putT t k n) (putL l k n) := by
  obtain ⟨rfl, h2, h3⟩ := h; exact ⟨putT_list h2 k n, putL_inc h2 k n, putT_bal h3 k n⟩
theorem DOk.del {t : Tr Pr} {l : List Pr} (h : DOk t l) (k : Int) : DOk (delT t k) (delL l k) := by
  obtain ⟨rfl, h2, h3⟩ := h; exact ⟨delT_list h2 k, delL_inc h2 k, delT_bal h3 k⟩
theorem DOk.cnt {t : Tr Pr} {l : List Pr} (h : DOk t l) : t.cnt = l.length := by rw [← h.list, Tr.list_len]
section
variable {t : Tr Pr} {l : List Pr}
theorem DOk.cPut (h : DOk t l) (hl : l.length < 1099511627776) (k n : Int) : ACalls Try.prog 32 [.agg [sqPV t], uPV k, iPV n] (.agg [sqPV (putT t k n)]) := put_any t k n (by rw [h.cnt]; exact hl) (by rw [h.list]; exact h.inc)
theorem DOk.cGet (h : DOk t l) (hl : l.length < 1099511627776) (k : Int) : ACalls Try.prog 25 [.agg [sqPV t], uPV k] (gotPV (getL l k)) := by
  have := get_any t k (by rw [h.cnt]; omega) (by rw [h.list]; exact h.inc); rwa [h.list] at this
theorem DOk.cFrom (h : DOk t l) (hl : l.length < 1099511627776) (k : Int) : ACalls Try.prog 35 [.agg [sqPV t], uPV k] (iPV (lo l k).length) := by
  have := from_any t k (by rw [h.cnt]; omega) (by rw [h.list]; exact h.inc); rwa [h.list] at this
theorem DOk.cPairs (h : DOk t l) (hl : l.length < 1099511627776) : ACalls Try.prog 30 [.agg [sqPV t]] (.sl (l.map pPV)) := by
  have := pairs_any t (by rw [h.cnt]; exact hl); rwa [h.list] at this
theorem DOk.cMany (h : DOk t l) : ACalls Try.prog 33 [.agg [sqPV t]] (iPV l.length) := by
  have := many_any t; rwa [h.cnt] at this
end
end Go.Proofs.Ytaoiffinodfcfaa
