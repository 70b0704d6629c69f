/-
  The law SketchMerges on plain data.
  Conditions: numbers are those of their kinds; at most 600 words each.
-/
import Derived.Test.YtfgjiadehfljlaaSketchLO
namespace Go.Proofs.Ytfgjiadehfljlaa
open Go Go.Ab
open Go.Proofs.Ytfgjiadehfljlaa.M
set_option linter.unusedVariables false
set_option linter.unusedSimpArgs false

def WU (s : Sk) : Prop := ∀ w ∈ s.ws, U64 w
def Mg (a b : Sk) : Prop := IsSk a ∧ IsSk b ∧ a.r = b.r ∧ a.v = b.v
instance (a b : Sk) : Decidable (Mg a b) := by unfold Mg; infer_instance
def mrg (a b : Sk) : Sk := ⟨a.r, a.v, List.zipWith xorI a.ws b.ws⟩
theorem Mg.len {a b : Sk} (h : Mg a b) : a.ws.length = b.ws.length := by
  obtain ⟨⟨_, h1⟩, ⟨_, h2⟩, h3, h4⟩ := h
  rw [h3, h4, ← h2] at h1; omega
theorem merge_ok {a b : Sk} (h : Mg a b) : mergeE a b = .tup [skPV (mrg a b), iPV 0] := by
  rw [mergeE, if_pos (show IsSk a ∧ IsSk b ∧ a.r = b.r ∧ a.v = b.v from h), merge_zip h.len]; rfl
theorem merge_no {a b : Sk} (h : ¬ Mg a b) : mergeE a b = .tup [skPV noSk, iPV 1] := if_neg h
theorem zip_get {a b : List Int} {k : Nat} (h : a.length = b.length) : (List.zipWith xorI a b)[k]? = (a[k]?).map fun x => xorI x (b.getD k default) := by
  rw [List.getElem?_zipWith]
  cases ha : a[k]? with
  | none => rfl
  | some x =>
    have hk := (List.getElem?_eq_some_iff.1 ha).1
    have hk2 : k < b.length := by omega
    simp only [Option.map_some, List.getElem?_eq_getElem hk2, List.getD_eq_getElem?_getD, Option.getD_some]
theorem getD_u {b : List Int} (h : ∀ w ∈ b, U64 w) (k : Nat) : U64 (b.getD k default) := by
  rw [List.getD_eq_getElem?_getD]
  cases hb : b[k]? with
  | none => exact u_zero
  | some x => exact h x (List.mem_of_getElem? hb)
theorem zip_comm {a b : List Int} (hl : a.length = b.length) (ha : ∀ w ∈ a, U64 w) (hb : ∀ w ∈ b, U64 w) : List.zipWith xorI a b = List.zipWith xorI b a := by
  refine List.ext_getElem? fun k => ?_
  rw [List.getElem?_zipWith, List.getElem?_zipWith]
  cases h1 : a[k]? <;> cases h2 : b[k]? <;> simp only
  rw [xorI_comm (ha _ (List.mem_of_getElem? h1)) (hb _ (List.mem_of_getElem? h2))]
theorem zip_assoc {a b c : List Int} (ha : ∀ w ∈ a, U64 w) (hb : ∀ w ∈ b, U64 w) (hc : ∀ w ∈ c, U64 w) : List.zipWith xorI (List.zipWith xorI a b) c = List.zipWith xorI a (List.zipWith xorI b c) := by
  refine List.ext_getElem? fun k => ?_
  simp only [List.getElem?_zipWith]
  cases h1 : a[k]? <;> cases h2 : b[k]? <;> cases h3 : c[k]? <;> simp only
  rw [xorI_assoc (ha _ (List.mem_of_getElem? h1)) (hb _ (List.mem_of_getElem? h2)) (hc _ (List.mem_of_getElem? h3))]
theorem zip_self {a : List Int} (ha : ∀ w ∈ a, U64 w) : List.zipWith xorI a a = List.replicate a.length 0 := by
  refine List.ext_getElem? fun k => ?_
  rw [List.getElem?_zipWith, List.getElem?_replicate]
  cases h1 : a[k]? with
  | none => rw [if_neg (by have := List.getElem?_eq_none_iff.1 h1; omega)]
  | some x => rw [if_pos (List.getElem?_eq_some_iff.1 h1).1]; simp only [xorI_self (ha x (List.mem_of_getElem? h1))]
theorem zip_zeros {a : List Int} (ha : ∀ w ∈ a, U64 w) : List.zipWith xorI a (List.replicate a.length 0) = a := by
  refine List.ext_getElem? fun k => ?_
  rw [List.getElem?_zipWith, List.getElem?_replicate]
  cases h1 : a[k]? with
  | none => rfl
  | some x => rw [if_pos (List.getElem?_eq_some_iff.1 h1).1]; simp only [xorI_zero (ha x (List.mem_of_getElem? h1))]
theorem mrg_is {a b : Sk} (h : Mg a b) : IsSk (mrg a b) := by
  refine ⟨h.1.1, ?_⟩
  simp only [mrg, List.length_zipWith, h.len, Nat.min_self]
  rw [← h.len]; exact h.1.2
theorem noSk_no (a : Sk) : ¬ Mg a noSk := by
  rintro ⟨_, h, _⟩; exact absurd h (by decide)
theorem no_noSk (a : Sk) : ¬ Mg noSk a := by
  rintro ⟨h, _⟩; exact absurd h (by decide)
theorem is_len {a : Sk} (h : IsSk a) : a.ws.length ≤ 488 := by
  have := size_mul h.1; have := h.2; omega
/-- both ways -/
theorem merges2 {a b : Sk} (ha : WU a) (hb : WU b) : ∃ (X : Sk) (e : Int), mergeE a b = .tup [skPV X, iPV e] ∧ mergeE b a = .tup [skPV X, iPV e] ∧ X.ws.length ≤ 488 ∧ (e = 0 ∨ e = 1) ∧ (e = 0 → Mg a b ∧ X = mrg a b) := by
  by_cases h : Mg a b
  · have h' : Mg b a := ⟨h.2.1, h.1, h.2.2.1.symm, h.2.2.2.symm⟩
    refine ⟨mrg a b, 0, merge_ok h, ?_, is_len (mrg_is h), .inl rfl, fun _ => ⟨h, rfl⟩⟩
    rw [merge_ok h', mrg, mrg, zip_comm h.len ha hb, h.2.2.1, h.2.2.2]
  · have h' : ¬ Mg b a := fun h' => h ⟨h'.2.1, h'.1, h'.2.2.1.symm, h'.2.2.2.symm⟩
    exact ⟨noSk, 1, merge_no h, merge_no h', by decide, .inr rfl, fun h => by omega⟩
/-- in any grouping -/
theorem merges3 {a b c : Sk} (h : Mg a b) (ha : WU a) (hb : WU b) (hc : WU c) : ∃ (P Q : Sk) (e e' : Int), mergeE (mrg a b) c = .tup [skPV P, iPV e] ∧ mergeE b c = .tup [skPV Q, iPV e'] ∧ mergeE a Q = .tup [skPV P, iPV e] ∧ P.ws.length ≤ 488 := by
  by_cases h3 : Mg b c
  · have h1 : Mg (mrg a b) c := ⟨mrg_is h, h3.2.1, h.2.2.1.trans h3.2.2.1, h.2.2.2.trans h3.2.2.2⟩
    have h2 : Mg a (mrg b c) := ⟨h.1, mrg_is h3, h.2.2.1, h.2.2.2⟩
    refine ⟨mrg (mrg a b) c, mrg b c, 0, 0, merge_ok h1, merge_ok h3, ?_, is_len (mrg_is h1)⟩
    rw [merge_ok h2]
    simp only [mrg, zip_assoc ha hb hc]
  · have h1 : ¬ Mg (mrg a b) c := fun h1 => h3 ⟨h.2.1, h1.2.1, h.2.2.1.symm.trans h1.2.2.1, h.2.2.2.symm.trans h1.2.2.2⟩
    exact ⟨noSk, noSk, 1, 1, merge_no h1, merge_no h3, merge_no (noSk_no a), by decide⟩
/-- with itself, and with a new one -/
theorem merges1 {a : Sk} (h : IsSk a) (ha : WU a) : ∃ Z : Sk, mergeE a a = .tup [skPV Z, iPV 0] ∧ newE a.r a.v = .tup [skPV Z, iPV 0] ∧ mergeE a Z = .tup [skPV a, iPV 0] ∧ Z.ws.length ≤ 488 := by
  have h1 : Mg a a := ⟨h, h, rfl, rfl⟩
  have hm := size_mul h.1
  have hz : mrg a a = emptySk a.r a.v := by
    rw [mrg, emptySk, zip_self ha]; congr 2; have := h.2; omega
  have hi : IsSk (emptySk a.r a.v) := ⟨h.1, by simp only [emptySk, List.length_replicate]; omega⟩
  refine ⟨emptySk a.r a.v, by rw [merge_ok h1, hz], new_ok h.1, ?_, is_len hi⟩
  have h2 : Mg a (emptySk a.r a.v) := ⟨h, hi, rfl, rfl⟩
  rw [merge_ok h2, mrg, emptySk, show (a.r * a.v).toNat = a.ws.length by have := h.2; omega, zip_zeros ha]
theorem same_self (a : Sk) (hl : a.ws.length ≤ 600) : ACalls Try.prog 12 [skPV a, iPV a.r, iPV a.v, .sl (a.ws.map uPV)] (bPV true) := by
  have := sameL_any a a.r a.v a.ws (by omega)
  rwa [decide_eq_true ⟨rfl, rfl, rfl⟩] at this

set_option maxHeartbeats 8000000 in
theorem sketchMerges_any (a b c : Sk) (ha : WU a) (hb : WU b) (hc : WU c) : ACalls Try.prog 5 [skPV a, skPV b, skPV c] (bPV true) := by
  refine ent Try.func5 ?_
  obtain ⟨X, e, hx1, hx2, hx3, hx4, hx5⟩ := merges2 ha hb
  have c1 := hx1 ▸ merge_any a b
  have c2 := hx2 ▸ merge_any b a
  have sX := same_self X (by omega)
  have hee : (e != e) = false := by simp
  obtain ⟨hx5, -⟩ : Go.RowKit.Hid (e = 0 → Mg a b ∧ X = mrg a b) ∧ True := ⟨hx5, trivial⟩
  rename_i hx50
  clear hx50 hx1 hx2
  repeat (refine AW_seq ?_)
  refine reg ?_
  refine run 4 ?_
  refine fin [3, 4, 5] [(4, 0), (5, 0), (6, 0)] ?_
  repeat (refine AW_seq ?_)
  refine reg ?_
  refine run 1 ?_
  refine call (fun _ => smallL_any a) ?_
  refine run 3 ?_
  refine call (fun _ => smallL_any b) ?_
  refine run 4 ?_
  refine call (fun _ => smallL_any c) ?_
  refine run 2 ?_
  refine fin [3, 4, 5, 34] [(4, 0), (5, 0), (6, 0)] ?_
  repeat (refine AW_seq ?_)
  refine tst (fun h1 => ?_) (fun h1 => ?_)
  · simp at h1
    repeat (refine AW_seq ?_)
    refine reg ?_
    refine call (fun _ => awake_true) ?_
    refine run 1 ?_
    refine fin [6] [] ?_
    refine AW_ret (ret ?_)
    rfl
  · simp at h1
    have hA6 : a.ws.length ≤ 600 := by omega
    refine AW_skip ?_
    repeat (refine AW_seq ?_)
    refine reg ?_
    refine run 2 ?_
    refine call (fun _ => c1) ?_
    refine run 6 ?_
    refine fin [3, 4, 5, 7, 8] [(4, 0), (5, 0), (6, 0), (8, 0)] ?_
    repeat (refine AW_seq ?_)
    refine reg ?_
    refine run 2 ?_
    refine call (fun _ => c2) ?_
    refine run 6 ?_
    refine fin [3, 4, 5, 7, 8, 9, 10] [(4, 0), (5, 0), (6, 0), (8, 0), (10, 0)] ?_
    repeat (refine AW_seq ?_)
    refine reg ?_
    refine run 11 ?_
    refine call (fun _ => sX) ?_
    refine run 2 ?_
    refine fin [3, 4, 5, 7, 8, 61] [(4, 0), (5, 0), (6, 0), (8, 0)] ?_
    repeat (refine AW_seq ?_)
    refine tstF ?_
    refine AW_skip ?_
    repeat (refine AW_seq ?_)
    refine reg ?_
    refine run 2 ?_
    refine fin [3, 4, 5, 7, 8, 63] [(4, 0), (5, 0), (6, 0), (8, 0)] ?_
    repeat (refine AW_seq ?_)
    refine tst (fun h3 => ?_) (fun h3 => ?_)
    · simp at h3
      have he1 : e = 1 := by omega
      repeat (refine AW_seq ?_)
      refine reg ?_
      refine run 3 ?_
      refine call (fun _ => awake_true) ?_
      refine run 2 ?_
      refine fin [6] [] ?_
      refine AW_ret (ret ?_)
      simp [bPV, he1]
    · simp at h3
      obtain ⟨hM, hX⟩ := hx5.out h3
      obtain ⟨P, Q, g, g', p1, p2, p3, p4⟩ := merges3 hM ha hb hc
      obtain ⟨Z, z1, z2, z3, z4⟩ := merges1 hM.1 ha
      rw [← hX] at p1
      have c3 := p1 ▸ merge_any X c
      have c4 := p2 ▸ merge_any b c
      have c5 := p3 ▸ merge_any a Q
      have c6 := z1 ▸ merge_any a a
      have cN := z2 ▸ new_any a.r a.v
      have c7 := z3 ▸ merge_any a Z
      have sP := same_self P (by omega)
      have sZ := same_self Z (by omega)
      have sa := same_self a hA6
      have hgg : (g == g) = true := by simp
      clear p1 p2 p3 z1 z2 z3 hM hX
      refine AW_skip ?_
      repeat (refine AW_seq ?_)
      refine reg ?_
      refine run 2 ?_
      refine call (fun _ => c3) ?_
      refine run 6 ?_
      refine fin [3, 4, 5, 11, 12] [(4, 0), (5, 0), (6, 0), (12, 0)] ?_
      repeat (refine AW_seq ?_)
      refine reg ?_
      refine run 2 ?_
      refine call (fun _ => c4) ?_
      refine run 6 ?_
      refine fin [3, 11, 12, 13] [(4, 0), (12, 0), (14, 0)] ?_
      repeat (refine AW_seq ?_)
      refine reg ?_
      refine run 2 ?_
      refine call (fun _ => c5) ?_
      refine run 5 ?_
      refine fin [3, 11, 12, 13, 15] [(4, 0), (12, 0), (14, 0)] ?_
      repeat (refine AW_seq ?_)
      refine reg ?_
      refine run 2 ?_
      refine call (fun _ => c6) ?_
      refine run 6 ?_
      refine fin [3, 11, 12, 13, 15, 16] [(4, 0), (12, 0), (14, 0), (17, 0)] ?_
      repeat (refine AW_seq ?_)
      refine reg ?_
      refine run 4 ?_
      refine call (fun _ => cN) ?_
      refine run 6 ?_
      refine fin [3, 11, 12, 13, 15, 16, 18] [(4, 0), (12, 0), (14, 0), (17, 0), (19, 0)] ?_
      repeat (refine AW_seq ?_)
      refine reg ?_
      refine run 2 ?_
      refine call (fun _ => c7) ?_
      refine run 6 ?_
      refine fin [3, 11, 12, 13, 15, 16, 18, 20] [(4, 0), (12, 0), (14, 0), (17, 0), (19, 0), (21, 0)] ?_
      repeat (refine AW_seq ?_)
      refine reg ?_
      refine run 11 ?_
      refine call (fun _ => sP) ?_
      refine run 9 ?_
      refine call (fun _ => sZ) ?_
      refine run 9 ?_
      refine call (fun _ => sa) ?_
      refine run 2 ?_
      refine call (fun _ => awake_true) ?_
      refine run 2 ?_
      refine fin [6] [] ?_
      refine AW_ret (ret ?_)
      first | rfl | (simp [bPV]; done)

end Go.Proofs.Ytfgjiadehfljlaa