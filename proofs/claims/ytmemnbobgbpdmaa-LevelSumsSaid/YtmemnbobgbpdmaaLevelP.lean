/-
  The laws of layer level and how a hash is plain data, together.
  Conditions: none.
-/
import Derived.Test.YtmemnbobgbpdmaaLevelL
import Derived.Test.YtmemnbobgbpdmaaLevelK
