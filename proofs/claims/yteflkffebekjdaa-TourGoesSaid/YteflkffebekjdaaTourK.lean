/-
  How numbers, and something that is done, that come in are plain data.
  Conditions: none.
-/
import Derived.Test.YteflkffebekjdaaTypes
import Derived.Test.YteflkffebekjdaaAb24
namespace Go.Proofs.Yteflkffebekjdaa
open Go Go.Ab Go.ChangeShapes
theorem stp_shows : Shows Try.prog 3 35 (fun _ : Stp => True) stpPV where
  flat := by kernel_rfl
  of := fun r h hl => by
    have hc : Try.prog.cellsOf 35 = 4 := by kernel_rfl
    have h1 : Try.prog.cellsOf 4 = 1 := by kernel_rfl
    have h3 : Try.prog.cellsOf 3 = 1 := by kernel_rfl
    rw [hc] at hl
    match r, hl with
    | [a, b, c, d], _ =>
      simp only [FlatV, Try.underlying35] at h
      simp [h1, h3, hc, Try.underlying3, Try.underlying4] at h
      obtain ⟨hx, hy, ⟨z, rfl, _⟩, ⟨u, rfl, _⟩⟩ := h
      obtain ⟨x, rfl⟩ : ∃ x, a = Value.bool x := hx.elim (fun e => ⟨false, e⟩) (fun e => ⟨true, e⟩)
      obtain ⟨y, rfl⟩ : ∃ y, b = Value.bool y := hy.elim (fun e => ⟨false, e⟩) (fun e => ⟨true, e⟩)
      exact ⟨⟨x, y, z, u⟩, trivial, rfl, by simp [Value.oneCell']⟩
theorem i_shows : Shows Try.prog 3 3 (fun _ : Int => True) iPV where
  flat := by kernel_rfl
  of := fun r h hl => by
    simp only [FlatV, Try.underlying3] at h
    obtain ⟨x, rfl, hx⟩ := h
    exact ⟨x, trivial, rfl, by simp [Value.oneCell']⟩
end Go.Proofs.Yteflkffebekjdaa
