/-
  How an edge that comes in is plain data.
  Conditions: none.
-/
import Derived.Test.YtgkajfmjpobenaaTypes
import Derived.Test.YtgkajfmjpobenaaAb24
namespace Go.Proofs.Ytgkajfmjpobenaa
open Go Go.Ab
theorem ed_shows : Shows Try.prog 3 24 (fun _ : Ed => True) edPV where
  flat := by kernel_rfl
  of := fun r h hl => by
    have hc : Try.prog.cellsOf 24 = 3 := by kernel_rfl
    have h3 : Try.prog.cellsOf 3 = 1 := by kernel_rfl
    rw [hc] at hl
    match r, hl with
    | [a, b, c], _ =>
      simp only [FlatV, Try.underlying24] at h
      simp [h3, hc, Try.underlying3] at h
      obtain ⟨⟨x, rfl, _⟩, ⟨y, rfl, _⟩, ⟨z, rfl, _⟩⟩ := h
      exact ⟨⟨x, y, z⟩, trivial, rfl, by simp [Value.oneCell']⟩
end Go.Proofs.Ytgkajfmjpobenaa
