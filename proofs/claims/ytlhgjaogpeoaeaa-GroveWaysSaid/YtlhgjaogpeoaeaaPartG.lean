/-
  Contracts of the layer part on plain data: a class, refinement, two classes made one.
  Conditions: not too many places.
-/
import Derived.Test.YtlhgjaogpeoaeaaPartF
namespace Go.Proofs.Ytlhgjaogpeoaeaa
open Go Go.Ab
set_option linter.unusedVariables false
set_option linter.unusedSimpArgs false

theorem clsR_no {p : List Int} {v : Int} (h : ¬ (IsR p ∧ 0 ≤ v ∧ v < p.length)) : clsR p v = [] := if_neg h

theorem class_no (p : List Int) (v : Int) (hl : p.length < 1099511627776) (h : ¬ (IsR p ∧ 0 ≤ v ∧ v < p.length)) : ACalls Try.prog 13 [.sl (p.map iPV), iPV v] (.sl []) := by
  refine ent Try.func13 ?_
  have c1 := right_any p hl
  repeat (refine AW_seq ?_)
  refine reg ?_
  refine run 1 ?_
  refine fin [0, 1] [] ?_
  repeat (refine AW_seq ?_)
  refine reg ?_
  refine run 1 ?_
  refine call (fun _ => c1) ?_
  refine run 2 ?_
  refine run 2 ?_
  refine run 1 ?_
  refine call (fun _ => isPlace_any p.length v) ?_
  refine run 2 ?_
  refine fin [0, 1, 17] [] ?_
  repeat (refine AW_seq ?_)
  refine tst (fun h1 => ?_) (fun h1 => ?_)
  · simp at h1
    repeat (refine AW_seq ?_)
    refine reg ?_
    refine run 1 ?_
    refine fin [4] [] ?_
    refine AW_ret (ret ?_)
    rfl
  · (exfalso; grind)

theorem class_yes (p : List Int) (w : Nat) (hl : p.length < 1099511627776) (h : IsR p) (hw : w < p.length) : FCalls Try.prog 13 [.sl (p.map iPV), iPV w] ⟨3, 1, (clsN p (p.getD w default) p.length).map iPV, true, [], none⟩ := by
  refine entF Try.func13 ?_
  have c1 := right_any p hl
  rw [decide_eq_true h] at c1
  have c2 := isPlace_any p.length w
  rw [show (decide (0 ≤ (w : Int)) && decide ((w : Int) < (p.length : Int))) = true by simp; exact hw] at c2
  obtain ⟨y, gy⟩ : ∃ y, p.getD w default = y := ⟨_, rfl⟩
  rw [gy]
  repeat (refine AW_seq ?_)
  refine reg ?_
  refine run 1 ?_
  refine fin [0, 1] [] ?_
  repeat (refine AW_seq ?_)
  refine reg ?_
  refine run 1 ?_
  refine call (fun _ => c1) ?_
  refine run 2 ?_
  refine run 2 ?_
  refine run 1 ?_
  refine call (fun _ => c2) ?_
  refine run 2 ?_
  refine fin [0, 1, 17] [] ?_
  repeat (refine AW_seq ?_)
  refine tstF ?_
  refine AW_skip ?_
  repeat (refine AW_seq ?_)
  refine reg ?_
  refine run 1 ?_
  refine fin [0, 1, 5] [] ?_
  refine seed 5 6 3 1 ?_
  repeat (refine AW_seq ?_)
  refine reg ?_
  refine run 2 ?_
  refine run 1 ?_
  refine fin [0, 1, 5, 18, 19, 20] [(6, 0)] ?_
  repeat (refine AW_seq ?_)
  refine AW_block ?_
  refine AW_loops (ι := Nat × List Int) (fun z => ⟨lk [(0, .c (.sl (p.map iPV))), (1, .c (iPV w)), (5, .own (6, 0) z.2.length), (18, .c (.sl (p.map iPV))), (19, .c (iPV p.length)), (20, .c (iPV z.1))], lkM [((6, 0), some ⟨3, 1, (z.2).map iPV, true, [], none⟩)], lkG [] 1⟩) (fun z => z.1 ≤ p.length ∧ clsN p y z.1 = z.2) (fun z => p.length - z.1) (0, []) ⟨Nat.zero_le _, rfl⟩ wk ?_
  rintro ⟨i, X⟩ ⟨hi, hX⟩
  simp only at hi hX
  have bX := clsN_len p y i
  rw [hX] at bX
  obtain ⟨hX, -⟩ : Go.RowKit.Hid (clsN p y i = X) ∧ True := ⟨hX, trivial⟩
  rename_i hX0
  clear hX0
  repeat (refine AW_seq ?_)
  refine reg ?_
  refine run 1 ?_
  refine fin [0, 1, 5, 18, 19, 20, 21] [(6, 0)] ?_
  repeat (refine AW_seq ?_)
  refine tst (fun h2 => ?_) (fun h2 => ?_)
  · simp at h2
    obtain ⟨x, hx, gx⟩ := getD_at h2
    refine AW_skip ?_
    repeat (refine AW_seq ?_)
    refine AW_block ?_
    repeat (refine AW_seq ?_)
    refine reg ?_
    refine run 2 ?_
    refine run 2 ?_
    refine run 1 ?_
    refine fin [0, 1, 5, 6, 7, 18, 19, 20] [(6, 0)] ?_
    repeat (refine AW_seq ?_)
    refine reg ?_
    refine run 2 ?_
    refine run 2 ?_
    refine run 2 ?_
    refine fin [0, 1, 5, 6, 18, 19, 20, 30] [(6, 0)] ?_
    repeat (refine AW_seq ?_)
    refine tst (fun h3 => ?_) (fun h3 => ?_)
    · simp at h3
      obtain ⟨X2, eX2⟩ : ∃ k, X ++ [(i : Int)] = k := ⟨_, rfl⟩
      have mX2 : X.map iPV ++ [PV.v (.int .i64 (i : Int))] = X2.map iPV := by rw [← eX2, List.map_append]; rfl
      have lX2 : X2.length = X.length + 1 := by rw [← eX2, List.length_append]; rfl
      obtain ⟨eX2, -⟩ : Go.RowKit.Hid (X ++ [(i : Int)] = X2) ∧ True := ⟨eX2, trivial⟩
      rename_i eX20
      clear eX20
      repeat (refine AW_seq ?_)
      refine reg ?_
      refine run 2 ?_
      refine run 2 ?_
      refine run 1 ?_
      refine finN ?_
      refine kp [0, 1, 5, 18, 19, 20] [(6, 0)] ?_
      repeat (refine AW_seq ?_)
      refine reg ?_
      refine run 2 ?_
      refine finN ?_
      refine ⟨(i + 1, X2), by show p.length - (i + 1) < p.length - i; omega, ⟨by show i + 1 ≤ _; omega, by show clsN p y (i + 1) = X2; rw [clsN, if_pos (by rw [gx]; exact h3), hX.out, eX2.out]⟩, wk⟩
    · simp at h3
      refine AW_skip ?_
      repeat (refine AW_seq ?_)
      refine reg ?_
      refine run 2 ?_
      refine finN ?_
      refine ⟨(i + 1, X), by show p.length - (i + 1) < p.length - i; omega, ⟨by show i + 1 ≤ _; omega, by show clsN p y (i + 1) = X; rw [clsN, if_neg (by rw [gx]; exact h3), hX.out]⟩, wk⟩
  · simp at h2
    refine AW_exit ?_
    repeat (refine AW_seq ?_)
    refine reg ?_
    refine run 2 ?_
    refine fin [4] [(6, 0)] ?_
    refine AW_ret (retF ?_)
    have e1 : i = p.length := by omega
    rw [← hX.out, e1]

theorem class_any (p : List Int) (v : Int) (hl : p.length < 1099511627776) : ACalls Try.prog 13 [.sl (p.map iPV), iPV v] (.sl ((clsR p v).map iPV)) := by
  by_cases h : IsR p ∧ 0 ≤ v ∧ v < p.length
  · obtain ⟨w, rfl⟩ : ∃ w : Nat, v = w := ⟨v.toNat, by omega⟩
    have := (class_yes p w hl h.1 (by omega)).a
    unfold clsR; rw [if_pos h]; exact this
  · rw [clsR_no h]; exact class_no p v hl h
theorem refP_no {p q : List Int} {i : Nat} (hi : i < p.length) (h : q.getD i default ≠ q.getD (p.getD i default).toNat default) : decide (RefP p q) = false := by
  simp only [decide_eq_false_iff_not]; exact fun g => h (g.2.2.2 i hi)

def joinN (p : List Int) (lo hi : Int) : Nat → List Int
  | 0 => p
  | i + 1 => if p.getD i default = hi then (joinN p lo hi i).set i lo else joinN p lo hi i
theorem joinN_len (p : List Int) (lo hi : Int) : ∀ i, (joinN p lo hi i).length = p.length
  | 0 => rfl
  | i + 1 => by rw [joinN]; split <;> simp [joinN_len p lo hi i]
theorem joinN_get (p : List Int) (lo hi : Int) : ∀ i, i ≤ p.length → ∀ k, k < p.length → (joinN p lo hi i).getD k default = if k < i then glue lo hi (p.getD k default) else p.getD k default
  | 0, _, k, hk => by rw [joinN, if_neg (by omega)]
  | i + 1, hi', k, hk => by
    have ih := joinN_get p lo hi i (by omega) k hk
    rw [joinN]
    split
    · rename_i h
      rw [getD_set (by rw [joinN_len]; omega)]
      by_cases e : i = k
      · subst e; rw [if_pos rfl, if_pos (by omega), glue, if_pos h]
      · rw [if_neg e, ih]
        by_cases e2 : k < i
        · rw [if_pos e2, if_pos (by omega)]
        · rw [if_neg e2, if_neg (by omega)]
    · rename_i h
      rw [ih]
      by_cases e : i = k
      · subst e; rw [if_neg (by omega), if_pos (by omega), glue, if_neg h]
      · by_cases e2 : k < i
        · rw [if_pos e2, if_pos (by omega)]
        · rw [if_neg e2, if_neg (by omega)]
theorem joinN_all (p : List Int) (lo hi : Int) : joinN p lo hi p.length = p.map (glue lo hi) :=
  ext_getD (by rw [joinN_len, List.length_map]) fun k hk => by
    rw [joinN_len] at hk
    rw [joinN_get p lo hi _ (Nat.le_refl _) k hk, if_pos hk, getD_mapI hk]

theorem join_no (p : List Int) (u v : Int) (hl : p.length < 1099511627776) (h : ¬ (IsR p ∧ InP p u v)) : FCalls Try.prog 25 [.sl (p.map iPV), iPV u, iPV v] ⟨3, 1, (p).map iPV, true, [], none⟩ := by
  refine entF Try.func25 ?_
  unfold InP at h
  have c1 := right_any p hl
  have c0 := clone_any p hl
  repeat (refine AW_seq ?_)
  refine reg ?_
  refine run 1 ?_
  refine fin [0, 1, 2] [] ?_
  repeat (refine AW_seq ?_)
  refine reg ?_
  refine run 1 ?_
  refine fcall (c0) ?_
  refine run 1 ?_
  refine fin [0, 1, 2, 7] [(14, 0)] ?_
  repeat (refine AW_seq ?_)
  refine reg ?_
  refine run 1 ?_
  refine call (fun _ => c1) ?_
  refine run 2 ?_
  refine run 2 ?_
  refine run 1 ?_
  refine call (fun _ => isPlace_any p.length u) ?_
  refine run 2 ?_
  refine run 2 ?_
  refine run 2 ?_
  refine call (fun _ => isPlace_any p.length v) ?_
  refine run 2 ?_
  refine fin [0, 1, 2, 7, 30] [(14, 0)] ?_
  repeat (refine AW_seq ?_)
  refine tst (fun h1 => ?_) (fun h1 => ?_)
  · simp at h1
    repeat (refine AW_seq ?_)
    refine reg ?_
    refine run 2 ?_
    refine fin [6] [(14, 0)] ?_
    refine AW_ret (retF ?_)
    rfl
  · (exfalso; grind)

theorem join_yes (p : List Int) (u v a b lo hi : Nat) (hl : p.length < 1099511627776) (h : IsR p) (hu : u < p.length) (hv : v < p.length) (ga : p.getD u default = (a : Int)) (gb : p.getD v default = (b : Int)) (hlo : min a b = lo) (hhi : max a b = hi) : FCalls Try.prog 25 [.sl (p.map iPV), iPV u, iPV v] ⟨3, 1, (joinN p lo hi p.length).map iPV, true, [], none⟩ := by
  refine entF Try.func25 ?_
  have c1 := right_any p hl
  have c0 := clone_any p hl
  rw [decide_eq_true h] at c1
  have c2 := isPlace_any p.length u
  rw [show (decide (0 ≤ (u : Int)) && decide ((u : Int) < (p.length : Int))) = true by simp; exact hu] at c2
  have c3 := isPlace_any p.length v
  rw [show (decide (0 ≤ (v : Int)) && decide ((v : Int) < (p.length : Int))) = true by simp; exact hv] at c3
  have em1 : (if (b : Int) < (a : Int) then (b : Int) else (a : Int)) = (lo : Int) := by omega
  have em2 : (if (a : Int) < (b : Int) then (b : Int) else (a : Int)) = (hi : Int) := by omega
  have em3 : (if b < a then (b : Int) else (a : Int)) = (lo : Int) := by omega
  have em4 : (if a < b then (b : Int) else (a : Int)) = (hi : Int) := by omega
  clear h hlo hhi
  repeat (refine AW_seq ?_)
  refine reg ?_
  refine run 1 ?_
  refine fin [0, 1, 2] [] ?_
  repeat (refine AW_seq ?_)
  refine reg ?_
  refine run 1 ?_
  refine fcall (c0) ?_
  refine run 1 ?_
  refine fin [0, 1, 2, 7] [(14, 0)] ?_
  repeat (refine AW_seq ?_)
  refine reg ?_
  refine run 1 ?_
  refine call (fun _ => c1) ?_
  refine run 2 ?_
  refine run 2 ?_
  refine run 1 ?_
  refine call (fun _ => c2) ?_
  refine run 2 ?_
  refine run 2 ?_
  refine run 2 ?_
  refine call (fun _ => c3) ?_
  refine run 2 ?_
  refine fin [0, 1, 2, 7, 30] [(14, 0)] ?_
  repeat (refine AW_seq ?_)
  refine tstF ?_
  refine AW_skip ?_
  repeat (refine AW_seq ?_)
  refine reg ?_
  refine run 2 ?_
  refine run 2 ?_
  refine run 2 ?_
  refine run 2 ?_
  refine run 2 ?_
  refine run 2 ?_
  refine run 2 ?_
  refine run 2 ?_
  refine run 2 ?_
  refine run 2 ?_
  refine fin [0, 7, 8, 9] [(14, 0)] ?_
  repeat (refine AW_seq ?_)
  refine reg ?_
  refine run 2 ?_
  refine run 1 ?_
  refine fin [7, 8, 9, 50, 51, 52] [(14, 0)] ?_
  repeat (refine AW_seq ?_)
  refine AW_block ?_
  refine AW_loops (ι := Nat × List Int) (fun z => ⟨lk [(7, .own (14, 0) z.2.length), (8, .c (iPV lo)), (9, .c (iPV hi)), (50, .c (.sl (p.map iPV))), (51, .c (iPV p.length)), (52, .c (iPV z.1))], lkM [((14, 0), some ⟨3, 1, (z.2).map iPV, true, [], none⟩)], lkG [] 1⟩) (fun z => z.1 ≤ p.length ∧ z.2 = joinN p lo hi z.1) (fun z => p.length - z.1) (0, p) ⟨Nat.zero_le _, rfl⟩ wk ?_
  rintro ⟨i, J⟩ ⟨hi1, hJ⟩
  simp only at hi1 hJ
  have bJ := joinN_len p lo hi i
  rw [← hJ] at bJ
  obtain ⟨hJ, -⟩ : Go.RowKit.Hid (J = joinN p lo hi i) ∧ True := ⟨hJ, trivial⟩
  rename_i hJ0
  clear hJ0
  repeat (refine AW_seq ?_)
  refine reg ?_
  refine run 1 ?_
  refine fin [7, 8, 9, 50, 51, 52, 53] [(14, 0)] ?_
  repeat (refine AW_seq ?_)
  refine tst (fun h2 => ?_) (fun h2 => ?_)
  · simp at h2
    obtain ⟨x, hx, gx⟩ := getD_at h2
    refine AW_skip ?_
    repeat (refine AW_seq ?_)
    refine AW_block ?_
    repeat (refine AW_seq ?_)
    refine reg ?_
    refine run 2 ?_
    refine run 2 ?_
    refine run 1 ?_
    refine fin [7, 8, 9, 10, 11, 50, 51, 52] [(14, 0)] ?_
    repeat (refine AW_seq ?_)
    refine reg ?_
    refine run 2 ?_
    refine run 1 ?_
    refine fin [7, 8, 9, 10, 50, 51, 52, 59] [(14, 0)] ?_
    repeat (refine AW_seq ?_)
    refine tst (fun h3 => ?_) (fun h3 => ?_)
    · simp at h3
      obtain ⟨J2, eJ2⟩ : ∃ k, J.set i (lo : Int) = k := ⟨_, rfl⟩
      have mJ2 : (J.map iPV).set i (PV.v (.int .i64 (lo : Int))) = J2.map iPV := by rw [← eJ2, List.map_set]; rfl
      have lJ2 : J2.length = J.length := by rw [← eJ2, List.length_set]
      obtain ⟨eJ2, -⟩ : Go.RowKit.Hid (J.set i (lo : Int) = J2) ∧ True := ⟨eJ2, trivial⟩
      rename_i eJ20
      clear eJ20
      repeat (refine AW_seq ?_)
      refine reg ?_
      refine run 2 ?_
      refine run 2 ?_
      refine run 1 ?_
      refine finN ?_
      refine kp [7, 8, 9, 50, 51, 52] [(14, 0)] ?_
      repeat (refine AW_seq ?_)
      refine reg ?_
      refine run 2 ?_
      refine finN ?_
      refine ⟨(i + 1, J2), by show p.length - (i + 1) < p.length - i; omega, ⟨by show i + 1 ≤ _; omega, by show J2 = joinN p lo hi (i + 1); rw [joinN, if_pos (by rw [gx]; exact h3), ← hJ.out, eJ2.out]⟩, wk⟩
    · simp at h3
      refine AW_skip ?_
      repeat (refine AW_seq ?_)
      refine reg ?_
      refine run 2 ?_
      refine finN ?_
      refine ⟨(i + 1, J), by show p.length - (i + 1) < p.length - i; omega, ⟨by show i + 1 ≤ _; omega, by show J = joinN p lo hi (i + 1); rw [joinN, if_neg (by rw [gx]; exact h3), ← hJ.out]⟩, wk⟩
  · simp at h2
    refine AW_exit ?_
    repeat (refine AW_seq ?_)
    refine reg ?_
    refine run 2 ?_
    refine fin [6] [(14, 0)] ?_
    refine AW_ret (retF ?_)
    have e1 : i = p.length := by omega
    rw [hJ.out, e1]

theorem join_any (p : List Int) (u v : Int) (hl : p.length < 1099511627776) : FCalls Try.prog 25 [.sl (p.map iPV), iPV u, iPV v] ⟨3, 1, (joinR p u v).map iPV, true, [], none⟩ := by
  by_cases h : IsR p ∧ InP p u v
  · have hi := h.2
    unfold InP at hi
    obtain ⟨x, rfl⟩ : ∃ w : Nat, u = w := ⟨u.toNat, by omega⟩
    obtain ⟨y, rfl⟩ : ∃ w : Nat, v = w := ⟨v.toNat, by omega⟩
    obtain ⟨a, ga, -⟩ := isR_nat h.1 (i := x) (by omega)
    obtain ⟨b, gb, -⟩ := isR_nat h.1 (i := y) (by omega)
    have := join_yes p x y a b _ _ hl h.1 (by omega) (by omega) ga gb rfl rfl
    unfold joinR; rw [if_pos h, at0_nat, at0_nat, ga, gb]
    rw [joinN_all] at this
    rw [show min (a : Int) (b : Int) = ((min a b : Nat) : Int) by omega, show max (a : Int) (b : Int) = ((max a b : Nat) : Int) by omega]
    exact this
  · have := join_no p u v hl h
    unfold joinR; rw [if_neg h]; exact this

end Go.Proofs.Ytlhgjaogpeoaeaa