/-
  The laws of layer grove, and how what comes in is plain data.
  Conditions: none.
-/
import Derived.Test.YtlhgjaogpeoaeaaGroveL2
import Derived.Test.YtlhgjaogpeoaeaaPartK
namespace Go.Proofs.Ytlhgjaogpeoaeaa
open Go Go.Ab
theorem groveSwaps_any (n : Int) (l : List Ed) (u v b : Int) (hb : 0 ≤ b ∧ b ≤ 255) : ACalls Try.prog 3 [iPV n, .sl (l.map edPV), iPV u, iPV v, .v (.int .u8 b)] (bPV true) := swaps_any n l u v b hb
theorem groveWays_any (n : Int) (l : List Ed) (u v : Int) : ACalls Try.prog 4 [iPV n, .sl (l.map edPV), iPV u, iPV v] (bPV true) := ways_any n l u v
theorem groveTrees_any (n : Int) (l : List Ed) : ACalls Try.prog 5 [iPV n, .sl (l.map edPV)] (bPV true) := trees_any n l
end Go.Proofs.Ytlhgjaogpeoaeaa
