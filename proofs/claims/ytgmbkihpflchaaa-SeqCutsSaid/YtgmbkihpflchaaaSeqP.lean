/-
  The laws of layer seq, and how numbers that come in are plain data.
  Conditions: none.
-/
import Derived.Test.YtgmbkihpflchaaaSeqL
import Derived.Test.YtgmbkihpflchaaaSeqL2
import Derived.Test.YtgmbkihpflchaaaSeqL3
import Derived.Test.YtgmbkihpflchaaaAb24
namespace Go.Proofs.Ytgmbkihpflchaaa
open Go Go.Ab Go.ChangeShapes
theorem i_shows : Shows Try.prog 3 3 (fun _ : Int => True) iPV where
  flat := by kernel_rfl
  of := fun r h hl => by
    simp only [FlatV, Try.underlying3] at h
    obtain ⟨x, rfl, hx⟩ := h
    exact ⟨x, trivial, rfl, by simp [Value.oneCell']⟩
end Go.Proofs.Ytgmbkihpflchaaa
