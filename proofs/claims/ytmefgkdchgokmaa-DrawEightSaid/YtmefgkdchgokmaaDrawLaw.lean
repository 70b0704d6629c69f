/-
  Mathematics of the laws of the layer draw: forms of the answers, and several numbers in two turns.
  Conditions: none.
-/
import Derived.Test.YtmefgkdchgokmaaDraw5
import Derived.Test.YtmefgkdchgokmaaDraw6
import Derived.Test.YtmefgkdchgokmaaAb18
import Derived.OpenShut
namespace Go.Proofs.Ytmefgkdchgokmaa
open Go Go.Ab
set_option linter.unusedVariables false

theorem belowE_form (l : List Int) (a : Int) : ∃ x c e, belowE l a = .tup [uPV x, wordsPV l c, iPV e] := by
  unfold belowE
  split
  · split
    · exact ⟨_, _, _, rfl⟩
    · exact ⟨_, _, _, rfl⟩
  · exact ⟨_, _, _, rfl⟩
theorem hashesE_form (l : List Int) (a n : Int) : ∃ (ps : List (Int × Int)) (c e : Int), hashesE l a n = .tup [.sl (ps.map hashPV), wordsPV l c, iPV e] ∧ ps.length ≤ 128 := by
  unfold hashesE
  split
  · rename_i h
    split
    · exact ⟨_, _, _, rfl, by rw [pairsN_len]; omega⟩
    · exact ⟨[], _, _, rfl, by simp⟩
  · exact ⟨[], _, _, rfl, by simp⟩
theorem left_eq {l : List Int} {a : Int} (h : 0 ≤ a ∧ a ≤ l.length) (hl : l.length < 1099511627776) : ACalls Try.prog 14 [wordsPV l a] (iPV (l.length - a)) := by
  have := left_any l a hl
  rwa [if_pos h] at this
theorem left_zero {l : List Int} {a : Int} (h : ¬ (0 ≤ a ∧ a ≤ l.length)) (hl : l.length < 1099511627776) : ACalls Try.prog 14 [wordsPV l a] (iPV 0) := by
  have := left_any l a hl
  rwa [if_neg h] at this
theorem w64_wf {l : List Int} (h : ∀ n ∈ l, (Lit.int .u64 n).wf = true) : W64 l := fun x hx => bounds_u64 (h x hx)
end Go.Proofs.Ytmefgkdchgokmaa
