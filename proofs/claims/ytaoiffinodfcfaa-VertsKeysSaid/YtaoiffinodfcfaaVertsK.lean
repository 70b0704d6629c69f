/-
  How slots, and keys that are added or removed, that come in are plain data.
  Conditions: none.
-/
import Derived.Test.YtaoiffinodfcfaaTypes
import Derived.Test.YtaoiffinodfcfaaAb24
namespace Go.Proofs.Ytaoiffinodfcfaa
open Go Go.Ab Go.ChangeShapes
theorem slot_shows : Shows Try.prog 3 55 (fun _ : Slt => True) stPV where
  flat := by kernel_rfl
  of := fun r h hl => by
    have hc : Try.prog.cellsOf 55 = 2 := by kernel_rfl
    have h1 : Try.prog.cellsOf 4 = 1 := by kernel_rfl
    have h2 : Try.prog.cellsOf 23 = 1 := by kernel_rfl
    rw [hc] at hl
    match r, hl with
    | [a, b], _ =>
      simp only [FlatV, Try.underlying55] at h
      simp [h1, h2, hc, Try.underlying23, Try.underlying4] at h
      obtain ⟨hx, ⟨y, rfl, _⟩⟩ := h
      obtain ⟨x, rfl⟩ : ∃ x, a = Value.bool x := hx.elim (fun e => ⟨false, e⟩) (fun e => ⟨true, e⟩)
      exact ⟨⟨x, y⟩, trivial, rfl, by simp [Value.oneCell']⟩
theorem act_shows : Shows Try.prog 3 51 (fun _ : Slt => True) stPV where
  flat := by kernel_rfl
  of := fun r h hl => by
    have hc : Try.prog.cellsOf 51 = 2 := by kernel_rfl
    have h1 : Try.prog.cellsOf 4 = 1 := by kernel_rfl
    have h2 : Try.prog.cellsOf 23 = 1 := by kernel_rfl
    rw [hc] at hl
    match r, hl with
    | [a, b], _ =>
      simp only [FlatV, Try.underlying51] at h
      simp [h1, h2, hc, Try.underlying23, Try.underlying4] at h
      obtain ⟨hx, ⟨y, rfl, _⟩⟩ := h
      obtain ⟨x, rfl⟩ : ∃ x, a = Value.bool x := hx.elim (fun e => ⟨false, e⟩) (fun e => ⟨true, e⟩)
      exact ⟨⟨x, y⟩, trivial, rfl, by simp [Value.oneCell']⟩
end Go.Proofs.Ytaoiffinodfcfaa
