/-
  The laws of layer dict, and how what comes in is plain data.
  Conditions: none.
-/
import Derived.Test.YtinlmjgdhkalnaaDictL3
import Derived.Test.YtinlmjgdhkalnaaDictL4
import Derived.Test.YtinlmjgdhkalnaaDictK
