/-
  The laws of layer tour, and how what comes in is plain data.
  Conditions: none.
-/
import Derived.Test.YteflkffebekjdaaTourO
import Derived.Test.YteflkffebekjdaaTourK
