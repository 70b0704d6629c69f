/-
  The laws of layer verts, and how what comes in is plain data.
  Conditions: none.
-/
import Derived.Test.YtaoiffinodfcfaaVertsL
import Derived.Test.YtaoiffinodfcfaaVertsL2
import Derived.Test.YtaoiffinodfcfaaVertsL3
import Derived.Test.YtaoiffinodfcfaaVertsL4
import Derived.Test.YtaoiffinodfcfaaVertsK
namespace Go.Proofs.Ytaoiffinodfcfaa
open Go Go.Ab
set_option linter.unusedVariables false
theorem vertsTells_any (l : List Slt) (k : Int) (hk : 0 ≤ k ∧ k ≤ 18446744073709551615) : ACalls Try.prog 3 [.sl (l.map stPV), uPV k] (bPV true) := tells_any l k
theorem vertsKeeps_any (n : Int) (acts : List Slt) (hn : 0 ≤ n ∧ n ≤ 255) : ACalls Try.prog 4 [.v (.int .u8 n), .sl (acts.map stPV)] (bPV true) := keeps_all n acts hn
theorem vertsNew_any (n k : Int) (hk : 0 ≤ k ∧ k ≤ 18446744073709551615) : ACalls Try.prog 5 [iPV n, uPV k] (bPV true) := vertsNew_all n k
theorem vertsBack_any (l : List Slt) (k : Int) (hk : 0 ≤ k ∧ k ≤ 18446744073709551615) : ACalls Try.prog 6 [.sl (l.map stPV), uPV k] (bPV true) := vertsBack_all l k
theorem vertsKeys_any (l : List Slt) (k : Int) (hk : 0 ≤ k ∧ k ≤ 18446744073709551615) : ACalls Try.prog 7 [.sl (l.map stPV), uPV k] (bPV true) := vertsKeys_all l k
theorem vertsFull_any (n f : Int) (hn : 0 ≤ n ∧ n ≤ 255) (hf : 0 ≤ f ∧ f ≤ 18446744073709551615) : ACalls Try.prog 8 [.v (.int .u8 n), uPV f] (bPV true) := vertsFull_all n f hn hf
end Go.Proofs.Ytaoiffinodfcfaa
