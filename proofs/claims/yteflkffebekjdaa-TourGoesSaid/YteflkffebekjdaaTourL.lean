/-
  The document's answer for two lists that are linked, the fixed answer, and the law of what any two lists make, on plain data.
  Conditions: not too many places.
-/
import Derived.Test.YteflkffebekjdaaTourR
namespace Go.Proofs.Yteflkffebekjdaa
open Go Go.Ab
set_option linter.unusedVariables false
set_option linter.unusedSimpArgs false

theorem any_yes {a b : List Int} {x : Int} (h1 : x ∈ a) (h2 : x ∈ b) : (b.any fun x => decide (x ∈ a)) = true := List.any_eq_true.2 ⟨x, h2, by simpa using h1⟩
theorem any_no {a b : List Int} (h : ∀ (k : Nat) (x : Int), k < a.length → a[k]? = some x → x ∉ b) : (b.any fun x => decide (x ∈ a)) = false := by
  rw [List.any_eq_false]
  intro x hx hm
  obtain ⟨k, hk⟩ := List.getElem?_of_mem (by simpa using hm : x ∈ a)
  exact h k x (List.getElem?_eq_some_iff.1 hk).1 hk hx
theorem frm_len {t : List Int} {v : Int} (h : v ∈ t) : (frm t v).length = t.length := rot_len (idx_lt h)

theorem refLink_any (a b : List Int) (u v : Int) (ha : a.length < 274877906944) (hb : b.length < 274877906944) : ACalls Try.prog 10 [.sl (a.map iPV), .sl (b.map iPV), iPV u, iPV v] (linkPV a b u v) := by
  refine ent Try.func10 ?_
  have hr1 := refR_any a (by omega)
  have hr2 := refR_any b (by omega)
  have hc1 := has_any a u (by omega)
  have hc2 := has_any b v (by omega)
  obtain ⟨A, eA⟩ : ∃ k, isT a = k := ⟨_, rfl⟩
  rw [eA] at hr1
  obtain ⟨eA, -⟩ : Go.RowKit.Hid (isT a = A) ∧ True := ⟨eA, trivial⟩
  rename_i eA0
  clear eA0
  obtain ⟨B, eB⟩ : ∃ k, isT b = k := ⟨_, rfl⟩
  rw [eB] at hr2
  obtain ⟨eB, -⟩ : Go.RowKit.Hid (isT b = B) ∧ True := ⟨eB, trivial⟩
  rename_i eB0
  clear eB0
  obtain ⟨M, eM⟩ : ∃ k, decide (u ∈ a) = k := ⟨_, rfl⟩
  rw [eM] at hc1
  obtain ⟨eM, -⟩ : Go.RowKit.Hid (decide (u ∈ a) = M) ∧ True := ⟨eM, trivial⟩
  rename_i eM0
  clear eM0
  obtain ⟨N, eN⟩ : ∃ k, decide (v ∈ b) = k := ⟨_, rfl⟩
  rw [eN] at hc2
  obtain ⟨eN, -⟩ : Go.RowKit.Hid (decide (v ∈ b) = N) ∧ True := ⟨eN, trivial⟩
  rename_i eN0
  clear eN0
  repeat (refine AW_seq ?_)
  refine reg ?_
  refine run 2 ?_
  refine fin [0, 1, 2, 3] [] ?_
  repeat (refine AW_seq ?_)
  refine reg ?_
  refine run 1 ?_
  refine call (fun _ => hr1) ?_
  refine run 1 ?_
  refine call (fun _ => hr2) ?_
  refine run 2 ?_
  refine fin [0, 1, 2, 3, 10, 11] [] ?_
  repeat (refine AW_seq ?_)
  refine reg ?_
  refine run 2 ?_
  refine run 2 ?_
  refine run 2 ?_
  refine fin [0, 1, 2, 3, 22] [] ?_
  repeat (refine AW_seq ?_)
  refine tst (fun h1 => ?_) (fun h1 => ?_)
  · simp at h1
    repeat (refine AW_seq ?_)
    refine reg ?_
    refine run 2 ?_
    refine fin [8, 9] [] ?_
    refine AW_ret (ret ?_)
    rw [linkPV, linkR, eA.out, eB.out, if_pos (by cases A <;> cases B <;> simp_all)]; rfl
  · simp at h1
    refine AW_skip ?_
    repeat (refine AW_seq ?_)
    refine reg ?_
    refine run 2 ?_
    refine call (fun _ => hc1) ?_
    refine run 2 ?_
    refine run 2 ?_
    refine call (fun _ => hc2) ?_
    refine run 2 ?_
    refine fin [0, 1, 2, 3, 32] [] ?_
    repeat (refine AW_seq ?_)
    refine tst (fun h2 => ?_) (fun h2 => ?_)
    · simp at h2
      repeat (refine AW_seq ?_)
      refine reg ?_
      refine run 2 ?_
      refine fin [8, 9] [] ?_
      refine AW_ret (ret ?_)
      rw [linkPV, linkR, eA.out, eB.out, eM.out, eN.out, if_neg (by cases A <;> cases B <;> simp_all), if_pos (by cases M <;> cases N <;> simp_all)]; rfl
    · simp at h2
      refine AW_skip ?_
      repeat (refine AW_seq ?_)
      refine reg ?_
      refine run 1 ?_
      refine fin [0, 1, 2, 3, 12] [] ?_
      repeat (refine AW_seq ?_)
      refine AW_block ?_
      refine AW_loops (ι := Nat) (fun i => ⟨lk [(0, .c (.sl (a.map iPV))), (1, .c (.sl (b.map iPV))), (2, .c (iPV u)), (3, .c (iPV v)), (12, .c (iPV i))], lkM [], lkG [] 0⟩) (fun i => i ≤ a.length ∧ ∀ (k : Nat) (x : Int), k < i → a[k]? = some x → x ∉ b) (fun i => a.length - i) 0 ⟨Nat.zero_le _, fun k x h => absurd h (Nat.not_lt_zero k)⟩ wk ?_
      rintro i ⟨hi, hF⟩
      obtain ⟨hF, -⟩ : Go.RowKit.Hid (∀ (k : Nat) (x : Int), k < i → a[k]? = some x → x ∉ b) ∧ True := ⟨hF, trivial⟩
      rename_i hF0
      clear hF0
      repeat (refine AW_seq ?_)
      refine reg ?_
      refine run 2 ?_
      refine run 2 ?_
      refine fin [0, 1, 2, 3, 12, 36] [] ?_
      repeat (refine AW_seq ?_)
      refine tst (fun h3 => ?_) (fun h3 => ?_)
      · simp at h3
        obtain ⟨x, hx, gx⟩ := getD_at h3
        have hx1 := has_any b x (by omega)
        obtain ⟨G, eG⟩ : ∃ k, decide (x ∈ b) = k := ⟨_, rfl⟩
        rw [eG] at hx1
        obtain ⟨eG, -⟩ : Go.RowKit.Hid (decide (x ∈ b) = G) ∧ True := ⟨eG, trivial⟩
        rename_i eG0
        clear eG0
        refine AW_skip ?_
        repeat (refine AW_seq ?_)
        refine AW_block ?_
        repeat (refine AW_seq ?_)
        refine reg ?_
        refine run 2 ?_
        refine run 2 ?_
        refine run 1 ?_
        refine call (fun _ => hx1) ?_
        refine fin [0, 1, 2, 3, 12, 44] [] ?_
        repeat (refine AW_seq ?_)
        refine tst (fun h4 => ?_) (fun h4 => ?_)
        · skip
          repeat (refine AW_seq ?_)
          refine reg ?_
          refine run 2 ?_
          refine fin [8, 9] [] ?_
          refine AW_ret (ret ?_)
          have hq := any_yes (a := a) (b := b) (x := x) (List.mem_of_getElem? hx) (by have := eG.out; rw [h4] at this; simpa using this)
          rw [linkPV, linkR, eA.out, eB.out, eM.out, eN.out, hq, if_neg (by cases A <;> cases B <;> simp_all), if_neg (by cases M <;> cases N <;> simp_all), if_pos rfl]; rfl
        · skip
          refine AW_skip ?_
          repeat (refine AW_seq ?_)
          refine reg ?_
          refine run 2 ?_
          refine run 1 ?_
          refine finN ?_
          exact ⟨i + 1, by omega, ⟨by omega, fun k y g1 g2 => by
            rcases Nat.lt_or_ge k i with g3 | g3
            · exact hF.out k y g3 g2
            · obtain rfl : k = i := by omega
              rw [hx, Option.some.injEq] at g2; subst g2
              have := eG.out; rw [h4] at this; simpa using this⟩, wk⟩
      · simp at h3
        have hu : u ∈ a := by have := eM.out; cases M <;> simp_all
        have hv : v ∈ b := by have := eN.out; cases N <;> simp_all
        have hf1 := refRr_any a u hu (by omega)
        have hf2 := refRr_any b v hv (by omega)
        have l1 := frm_len hu
        have l2 := frm_len hv
        have hb1 := (both_any (frm a u) (frm b v) (by omega) (by omega)).a
        have hb2 := (both_any (frm a u ++ frm b v) [u] (by rw [List.length_append]; omega) (by show 1 < 1099511627776; decide)).a
        obtain ⟨L, eL⟩ : ∃ k, frm a u ++ frm b v ++ [u] = k := ⟨_, rfl⟩
        rw [eL] at hb2
        obtain ⟨X, eX⟩ : ∃ k, frm a u ++ frm b v = k := ⟨_, rfl⟩
        rw [eX] at hb1 hb2
        obtain ⟨P1, eP1⟩ : ∃ k, frm a u = k := ⟨_, rfl⟩
        rw [eP1] at hf1 hb1
        obtain ⟨P2, eP2⟩ : ∃ k, frm b v = k := ⟨_, rfl⟩
        rw [eP2] at hf2 hb1
        skip
        have hL : frm a u ++ frm b v ++ [u] = L := by rw [← eL]
        obtain ⟨hL, -⟩ : Go.RowKit.Hid (frm a u ++ frm b v ++ [u] = L) ∧ True := ⟨hL, trivial⟩
        rename_i hL0
        clear hL0
        clear eX eP1 eP2 eL l1 l2 hu hv
        refine AW_exit ?_
        repeat (refine AW_seq ?_)
        refine reg ?_
        refine run 2 ?_
        refine call (fun _ => hf1) ?_
        refine run 2 ?_
        refine call (fun _ => hf2) ?_
        refine call (fun _ => hb1) ?_
        refine run 2 ?_
        refine call (fun _ => hb2) ?_
        refine run 2 ?_
        refine fin [8, 9] [] ?_
        refine AW_ret (ret ?_)
        have hq := any_no (a := a) (b := b) (fun k x g1 g2 => hF.out k x (by omega) g2)
        rw [linkPV, linkR, eA.out, eB.out, eM.out, eN.out, hq, if_neg (by cases A <;> cases B <;> simp_all), if_neg (by cases M <;> cases N <;> simp_all), if_neg (by simp), hL.out]; rfl

theorem awake_true  : ACalls Try.prog 8 [] (bPV true) := by
  refine ent Try.func8 ?_
  have q1 : linkR [1] [2] 1 2 = ([1, 2, 1], 0) := by decide +kernel
  have q2 : linkR [1, 2, 1] [3] 2 3 = ([2, 1, 2, 3, 2], 0) := by decide +kernel
  have q3 : cutR [2, 1, 2, 3, 2] 2 1 = (([2, 3, 2], [1]), 0) := by decide +kernel
  have q4 : rrR [1, 2, 1] 9 = ([], 3) := by decide +kernel
  have q5 : linkR [1, 2, 1] [1, 2, 1] 1 2 = ([], 4) := by decide +kernel
  have q6 : isT [2, 1, 2, 3, 2] = true := by decide +kernel
  have q7 : isT [] = false := rfl
  have c1 := link_any [1] [2] 1 2 (by decide) (by decide)
  have c2 := link_any [1, 2, 1] [3] 2 3 (by decide) (by decide)
  have c3 := cut_any [2, 1, 2, 3, 2] 2 1 (by decide)
  have c4 := reroot_any [1, 2, 1] 9 (by decide)
  have c5 := link_any [1, 2, 1] [1, 2, 1] 1 2 (by decide) (by decide)
  have c6 := right_any [2, 1, 2, 3, 2] (by decide)
  have c7 := right_any [] (by decide)
  rw [linkPV, q1] at c1
  rw [linkPV, q2] at c2
  rw [cutPV, q3] at c3
  rw [rrPV, q4] at c4
  rw [linkPV, q5] at c5
  rw [q6] at c6
  rw [q7] at c7
  have s1 := same_any [1, 2, 1] (by decide)
  have s2 := same_any [2, 1, 2, 3, 2] (by decide)
  have s3 := same_any [2, 3, 2] (by decide)
  have s4 := same_any [1] (by decide)
  clear q1 q2 q3 q4 q5 q6 q7
  repeat (refine AW_seq ?_)
  refine reg ?_
  refine run 1 ?_
  refine fin [] [] ?_
  repeat (refine AW_seq ?_)
  refine reg ?_
  refine run 2 ?_
  refine call (fun _ => c1) ?_
  refine run 2 ?_
  refine run 2 ?_
  refine run 1 ?_
  refine fin [1, 2] [] ?_
  repeat (refine AW_seq ?_)
  refine reg ?_
  refine run 2 ?_
  refine call (fun _ => c2) ?_
  refine run 2 ?_
  refine run 2 ?_
  refine run 1 ?_
  refine fin [1, 2, 3, 4] [] ?_
  repeat (refine AW_seq ?_)
  refine reg ?_
  refine run 1 ?_
  refine call (fun _ => c3) ?_
  refine run 2 ?_
  refine run 2 ?_
  refine run 2 ?_
  refine run 1 ?_
  refine fin [1, 2, 3, 4, 5, 6, 7] [] ?_
  repeat (refine AW_seq ?_)
  refine reg ?_
  refine run 1 ?_
  refine call (fun _ => c4) ?_
  refine run 2 ?_
  refine run 2 ?_
  refine run 1 ?_
  refine fin [1, 2, 3, 4, 5, 6, 7, 9] [] ?_
  repeat (refine AW_seq ?_)
  refine reg ?_
  refine run 2 ?_
  refine call (fun _ => c5) ?_
  refine run 2 ?_
  refine run 2 ?_
  refine run 1 ?_
  refine fin [1, 2, 3, 4, 5, 6, 7, 9, 11] [] ?_
  repeat (refine AW_seq ?_)
  refine reg ?_
  refine run 2 ?_
  refine call (fun _ => s1) ?_
  refine run 2 ?_
  refine run 2 ?_
  refine run 2 ?_
  refine run 1 ?_
  refine call (fun _ => s2) ?_
  refine run 2 ?_
  refine run 2 ?_
  refine run 2 ?_
  refine run 2 ?_
  refine call (fun _ => s3) ?_
  refine run 2 ?_
  refine run 2 ?_
  refine call (fun _ => s4) ?_
  refine run 2 ?_
  refine run 2 ?_
  refine run 2 ?_
  refine run 2 ?_
  refine run 2 ?_
  refine run 2 ?_
  refine run 2 ?_
  refine run 1 ?_
  refine call (fun _ => c6) ?_
  refine run 2 ?_
  refine call (fun _ => c7) ?_
  refine run 2 ?_
  refine run 1 ?_
  refine fin [0] [] ?_
  refine AW_ret (ret ?_)
  rfl

theorem tourLinks_any (a b : List Int) (u v : Int) : ACalls Try.prog 3 [.sl (a.map iPV), .sl (b.map iPV), iPV u, iPV v] (bPV true) := by
  refine ent Try.func3 ?_
  repeat (refine AW_seq ?_)
  refine reg ?_
  refine run 1 ?_
  refine fin [0, 1, 2, 3] [] ?_
  repeat (refine AW_seq ?_)
  refine reg ?_
  refine run 2 ?_
  refine run 2 ?_
  refine run 2 ?_
  refine run 2 ?_
  refine fin [0, 1, 2, 3, 20] [] ?_
  repeat (refine AW_seq ?_)
  refine tst (fun h1 => ?_) (fun h1 => ?_)
  · simp at h1
    repeat (refine AW_seq ?_)
    refine reg ?_
    refine call (fun _ => awake_true) ?_
    refine run 1 ?_
    refine fin [8] [] ?_
    refine AW_ret (ret ?_)
    rfl
  · simp at h1
    have c1 := link_any a b u v (by omega) (by omega)
    have c2 := refLink_any a b u v (by omega) (by omega)
    rw [linkPV] at c1 c2
    have hll : (linkR a b u v).1.length < 1099511627776 := by
      have h1 : ∀ (t : List Int) (x : Int), (frm t x).length ≤ 2 * t.length + 1 := fun t x => by simp only [frm, rot, List.length_append, List.length_drop, List.length_take]; omega
      have h2 := h1 a u
      have h3 := h1 b v
      unfold linkR
      repeat' split
      all_goals simp only [List.length_nil, List.length_append, List.length_cons]; omega
    have s1 := same_any (linkR a b u v).1 hll
    obtain ⟨L, eL⟩ : ∃ k, (linkR a b u v).1 = k := ⟨_, rfl⟩
    rw [eL] at c1 c2 s1
    obtain ⟨E, eE⟩ : ∃ k, (linkR a b u v).2 = k := ⟨_, rfl⟩
    rw [eE] at c1 c2
    clear eL eE hll
    refine AW_skip ?_
    repeat (refine AW_seq ?_)
    refine reg ?_
    refine run 2 ?_
    refine run 2 ?_
    refine call (fun _ => c1) ?_
    refine run 2 ?_
    refine run 2 ?_
    refine run 1 ?_
    refine fin [0, 1, 2, 3, 9, 10] [] ?_
    repeat (refine AW_seq ?_)
    refine reg ?_
    refine run 2 ?_
    refine run 2 ?_
    refine call (fun _ => c2) ?_
    refine run 2 ?_
    refine run 2 ?_
    refine run 1 ?_
    refine fin [9, 10, 11, 12] [] ?_
    repeat (refine AW_seq ?_)
    refine reg ?_
    refine run 2 ?_
    refine call (fun _ => s1) ?_
    refine run 2 ?_
    refine run 2 ?_
    refine run 2 ?_
    refine call (fun _ => awake_true) ?_
    refine run 2 ?_
    refine fin [8] [] ?_
    refine AW_ret (ret ?_)
    rfl

end Go.Proofs.Yteflkffebekjdaa