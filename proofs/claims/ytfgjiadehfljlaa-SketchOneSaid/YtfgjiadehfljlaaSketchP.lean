/-
  The laws of layer sketch and how arguments are plain data, together.
  Conditions: none.
-/
import Derived.Test.YtfgjiadehfljlaaSketchLX
import Derived.Test.YtfgjiadehfljlaaSketchK
