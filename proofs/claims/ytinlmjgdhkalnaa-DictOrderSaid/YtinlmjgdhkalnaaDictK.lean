/-
  How something that is done, and a key, that come in are plain data.
  Conditions: none.
-/
import Derived.Test.YtinlmjgdhkalnaaTypes
import Derived.Test.YtinlmjgdhkalnaaAb24
namespace Go.Proofs.Ytinlmjgdhkalnaa
open Go Go.Ab Go.ChangeShapes
theorem act_shows : Shows Try.prog 3 30 (fun _ : Act => True) actPV where
  flat := by kernel_rfl
  of := fun r h hl => by
    have hc : Try.prog.cellsOf 30 = 3 := by kernel_rfl
    have h1 : Try.prog.cellsOf 4 = 1 := by kernel_rfl
    have h2 : Try.prog.cellsOf 23 = 1 := by kernel_rfl
    have h3 : Try.prog.cellsOf 3 = 1 := by kernel_rfl
    rw [hc] at hl
    match r, hl with
    | [a, b, c], _ =>
      simp only [FlatV, Try.underlying30] at h
      simp [h1, h2, h3, hc, Try.underlying3, Try.underlying23, Try.underlying4] at h
      obtain ⟨hx, ⟨y, rfl, _⟩, ⟨z, rfl, _⟩⟩ := h
      obtain ⟨x, rfl⟩ : ∃ x, a = Value.bool x := hx.elim (fun e => ⟨false, e⟩) (fun e => ⟨true, e⟩)
      exact ⟨⟨x, y, z⟩, trivial, rfl, by simp [Value.oneCell']⟩
theorem u_shows : Shows Try.prog 3 23 (fun n : Int => 0 ≤ n ∧ n ≤ 18446744073709551615) uPV where
  flat := by kernel_rfl
  of := fun r h hl => by
    simp only [FlatV, Try.underlying23] at h
    obtain ⟨x, rfl, hx⟩ := h
    exact ⟨x, bounds_u64 hx, rfl, by simp [Value.oneCell']⟩
end Go.Proofs.Ytinlmjgdhkalnaa
