/-
  How a hash that comes in is plain data.
  Conditions: none.
-/
import Derived.Test.YtmemnbobgbpdmaaTypes
import Derived.Test.YtmemnbobgbpdmaaAb24
namespace Go.Proofs.Ytmemnbobgbpdmaa
open Go Go.Ab
theorem hs_shows : Shows Try.prog 3 24 (fun h : Hs => (0 ≤ h.a ∧ h.a ≤ 18446744073709551615) ∧ (0 ≤ h.b ∧ h.b ≤ 18446744073709551615)) hsPV where
  flat := by kernel_rfl
  of := fun r h hl => by
    have hc : Try.prog.cellsOf 24 = 2 := by kernel_rfl
    have h3 : Try.prog.cellsOf 22 = 1 := by kernel_rfl
    rw [hc] at hl
    match r, hl with
    | [a, b], _ =>
      simp only [FlatV, Try.underlying24] at h
      simp [h3, hc, Try.underlying22] at h
      obtain ⟨⟨x, rfl, hx⟩, ⟨y, rfl, hy⟩⟩ := h
      exact ⟨⟨x, y⟩, ⟨bounds_u64 hx, bounds_u64 hy⟩, rfl, by simp [Value.oneCell']⟩
end Go.Proofs.Ytmemnbobgbpdmaa
