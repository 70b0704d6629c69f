/-
  How numbers, and edges, that come in are plain data.
  Conditions: none.
-/
import Derived.Test.YtlhgjaogpeoaeaaTypes
import Derived.Test.YtlhgjaogpeoaeaaAb24
namespace Go.Proofs.Ytlhgjaogpeoaeaa
open Go Go.Ab Go.ChangeShapes
theorem ed_shows : Shows Try.prog 3 29 (fun _ : Ed => True) edPV where
  flat := by kernel_rfl
  of := fun r h hl => by
    have hc : Try.prog.cellsOf 29 = 3 := by kernel_rfl
    have h3 : Try.prog.cellsOf 3 = 1 := by kernel_rfl
    rw [hc] at hl
    match r, hl with
    | [a, b, c], _ =>
      simp only [FlatV, Try.underlying29] at h
      simp [h3, hc, Try.underlying3] at h
      obtain ⟨⟨x, rfl, _⟩, ⟨y, rfl, _⟩, ⟨z, rfl, _⟩⟩ := h
      exact ⟨⟨x, y, z⟩, trivial, rfl, by simp [Value.oneCell']⟩
theorem i_shows : Shows Try.prog 3 3 (fun _ : Int => True) iPV where
  flat := by kernel_rfl
  of := fun r h hl => by
    simp only [FlatV, Try.underlying3] at h
    obtain ⟨x, rfl, hx⟩ := h
    exact ⟨x, trivial, rfl, by simp [Value.oneCell']⟩
end Go.Proofs.Ytlhgjaogpeoaeaa
