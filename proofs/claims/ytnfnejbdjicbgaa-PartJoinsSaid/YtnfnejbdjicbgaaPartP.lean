/-
  The laws of layer part, and how what comes in is plain data.
  Conditions: none.
-/
import Derived.Test.YtnfnejbdjicbgaaPartL5
import Derived.Test.YtnfnejbdjicbgaaPartK
