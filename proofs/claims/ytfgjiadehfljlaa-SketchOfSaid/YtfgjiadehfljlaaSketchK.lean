/-
  How hashes, numbers and sketches that come in are plain data.
  Conditions: none.
-/
import Derived.Test.YtfgjiadehfljlaaSketchM
import Derived.Test.YtfgjiadehfljlaaAb24
namespace Go.Proofs.Ytfgjiadehfljlaa
open Go Go.Ab Go.ChangeShapes
theorem hs_shows : Shows Try.prog 3 46 (fun h : Hs => (0 ≤ h.a ∧ h.a ≤ 18446744073709551615) ∧ (0 ≤ h.b ∧ h.b ≤ 18446744073709551615)) hsPV where
  flat := by kernel_rfl
  of := fun r h hl => by
    have hc : Try.prog.cellsOf 46 = 2 := by kernel_rfl
    have h3 : Try.prog.cellsOf 31 = 1 := by kernel_rfl
    rw [hc] at hl
    match r, hl with
    | [a, b], _ =>
      simp only [FlatV, Try.underlying46] at h
      simp [h3, hc, Try.underlying31] at h
      obtain ⟨⟨x, rfl, hx⟩, ⟨y, rfl, hy⟩⟩ := h
      exact ⟨⟨x, y⟩, ⟨bounds_u64 hx, bounds_u64 hy⟩, rfl, by simp [Value.oneCell']⟩
theorem u_shows : Shows Try.prog 3 31 (fun n : Int => 0 ≤ n ∧ n ≤ 18446744073709551615) uPV where
  flat := by kernel_rfl
  of := fun r h hl => by
    simp only [FlatV, Try.underlying31] at h
    obtain ⟨x, rfl, hx⟩ := h
    exact ⟨x, bounds_u64 hx, rfl, by simp [Value.oneCell']⟩
theorem sk_open {H : Type} {enc : TypeId × Value → H} {w : World} {base : Nat} {spare : Nat → Bool} {held : Bool} {r : Reach} {b0 : Nat} {v : Value} {d : DataW H} {ps : List MemPlace}
    (hv : Value.okWide Try.prog w r b0 26 v) (h : DataW.Trod enc Try.prog w base spare held 26 v d ps) : ∃ s : Sk, (∀ x ∈ s.ws, 0 ≤ x ∧ x ≤ 18446744073709551615) ∧ Rep w (fun _ => True) (skPV s) v := by
  obtain ⟨cs, rfl, hsz, hcells⟩ := okWide_row (ts := [3, 3, 23]) Try.underlying26 (by kernel_rfl) hv
  obtain ⟨fuel, hf⟩ := h
  obtain ⟨xs, m, _, _, hl, hxl, hg⟩ := DataW.trod_struct Try.underlying26 hf
  have h3 : Try.prog.cellsOf 3 = 1 := by kernel_rfl
  have h4 : Try.prog.cellsOf 23 = 1 := by kernel_rfl
  have hc : Try.prog.cellsOf 26 = 3 := by kernel_rfl
  rw [hc] at hsz
  obtain ⟨cs⟩ := cs
  match cs, hsz with
  | [y0, y1, y2], _ =>
    match xs, hxl with
    | [x0, x1, x2], _ =>
      have g0 := hg 0 _ rfl
      have g1 := hg 1 _ rfl
      have g2 := hg 2 _ rfl
      simp [Value.cells, h3, h4] at g0 g1 g2
      obtain ⟨a, e0, _, _⟩ := DataW.trod_int Try.underlying3 g0
      obtain ⟨b, e1, _, _⟩ := DataW.trod_int Try.underlying3 g1
      simp only [List.cons.injEq, and_true] at e0 e1
      subst e0; subst e1
      obtain ⟨l, _, hu, hr⟩ := open_rows_c u_shows Try.underlying23 (fun a len cap e => by
        subst e
        obtain ⟨u, hu, hk⟩ := hcells 2 _ rfl
        simp at hu; subst hu
        exact cell_spot Try.underlying23 hk) g2
      refine ⟨⟨a, b, l⟩, hu, open_agg (by rfl) (by simp [iPV, PV.one, Value.oneCell']) fun i p y hp hy => ?_⟩
      match i, hp, hy with
      | 0, hp, hy => simp at hp hy; subst hp; subst hy; exact .v _
      | 1, hp, hy => simp at hp hy; subst hp; subst hy; exact .v _
      | 2, hp, hy => simp at hp hy; subst hp; subst hy; exact hr
end Go.Proofs.Ytfgjiadehfljlaa
