/-
  Contracts of the document's answers for the layer verts on plain data.
  Conditions: not too many slots.
-/
import Derived.Test.YtaoiffinodfcfaaVertsG
namespace Go.Proofs.Ytaoiffinodfcfaa
open Go Go.Ab
set_option linter.unusedVariables false
set_option linter.unusedSimpArgs false

theorem same_no {α : Type} [DecidableEq α] [Inhabited α] {a b : List α} {i : Nat} (hi : i < a.length) (h : a.getD i default ≠ b.getD i default) : decide (a = b) = false := by
  simp only [decide_eq_false_iff_not]; intro e; exact h (by rw [e])
theorem same_len {α : Type} [DecidableEq α] {a b : List α} (h : a.length ≠ b.length) : decide (a = b) = false := by
  simp only [decide_eq_false_iff_not]; intro e; exact h (by rw [e])
theorem same_yes {α : Type} [DecidableEq α] [Inhabited α] {a b : List α} {i : Nat} (hl : a.length = b.length) (hi : a.length ≤ i) (h : ∀ k, k < i → a.getD k default = b.getD k default) : decide (a = b) = true := by
  simp only [decide_eq_true_eq]; exact ext_getD hl fun k hk => h k (by omega)

theorem sameU_any (a b : List Int) (ha : a.length < 1099511627776) (hb : b.length < 1099511627776) : ACalls Try.prog 21 [.sl (a.map uPV), .sl (b.map uPV)] (bPV (decide (a = b))) := by
  refine ent Try.func21 ?_
  repeat (refine AW_seq ?_)
  refine reg ?_
  refine run 1 ?_
  refine fin [0, 1] [] ?_
  repeat (refine AW_seq ?_)
  refine reg ?_
  refine run 2 ?_
  refine run 2 ?_
  refine run 1 ?_
  refine fin [0, 1, 10] [] ?_
  repeat (refine AW_seq ?_)
  refine tst (fun h1 => ?_) (fun h1 => ?_)
  · simp at h1
    repeat (refine AW_seq ?_)
    refine reg ?_
    refine run 1 ?_
    refine fin [4] [] ?_
    refine AW_ret (ret ?_)
    rw [same_len (by omega)]; rfl
  · simp at h1
    have hlen : a.length = b.length := by omega
    refine AW_skip ?_
    repeat (refine AW_seq ?_)
    refine reg ?_
    refine run 1 ?_
    refine fin [0, 1, 5] [] ?_
    repeat (refine AW_seq ?_)
    refine AW_block ?_
    refine AW_loops (ι := Nat) (fun i => ⟨lk [(0, .c (.sl (a.map uPV))), (1, .c (.sl (b.map uPV))), (5, .c (iPV i))], lkM ([]), lkG [] 0⟩) (fun i => i ≤ a.length ∧ ∀ k, k < i → a.getD k default = b.getD k default) (fun i => a.length - i) 0 ⟨Nat.zero_le _, fun k h => absurd h (Nat.not_lt_zero k)⟩ wk ?_
    rintro i ⟨hi, hF⟩
    obtain ⟨hF, -⟩ : Go.RowKit.Hid (∀ k, k < i → a.getD k default = b.getD k default) ∧ True := ⟨hF, trivial⟩
    rename_i hF0
    clear hF0
    repeat (refine AW_seq ?_)
    refine reg ?_
    refine run 2 ?_
    refine run 2 ?_
    refine fin [0, 1, 5, 14] [] ?_
    repeat (refine AW_seq ?_)
    refine tst (fun h2 => ?_) (fun h2 => ?_)
    · simp at h2
      obtain ⟨x, hx, gx⟩ := getD_at (l := a) (i := i) (by omega)
      obtain ⟨y, hy, gy⟩ := getD_at (l := b) (i := i) (by omega)
      refine AW_skip ?_
      repeat (refine AW_seq ?_)
      refine AW_block ?_
      repeat (refine AW_seq ?_)
      refine reg ?_
      refine run 2 ?_
      refine run 2 ?_
      refine run 2 ?_
      refine run 2 ?_
      refine run 1 ?_
      refine fin [0, 1, 5, 25] [] ?_
      repeat (refine AW_seq ?_)
      refine tst (fun h3 => ?_) (fun h3 => ?_)
      · simp at h3
        have h4 := h3
        repeat (refine AW_seq ?_)
        refine reg ?_
        refine run 1 ?_
        refine fin [4] [] ?_
        refine AW_ret (ret ?_)
        rw [same_no (i := i) (by omega) (by rw [gx, gy]; exact h4)]; rfl
      · simp at h3
        have h4 := h3
        refine AW_skip ?_
        repeat (refine AW_seq ?_)
        refine reg ?_
        refine run 2 ?_
        refine run 1 ?_
        refine finN ?_
        exact ⟨i + 1, by omega, ⟨by omega, fun k g => by
          rcases Nat.lt_or_ge k i with g3 | g3
          · exact hF.out k g3
          · obtain rfl : k = i := by omega
            rw [gx, gy]; exact h4⟩, wk⟩
    · simp at h2
      refine AW_exit ?_
      repeat (refine AW_seq ?_)
      refine reg ?_
      refine run 1 ?_
      refine fin [4] [] ?_
      refine AW_ret (ret ?_)
      rw [same_yes hlen (by omega) hF.out]; rfl

theorem sameS_any (a b : List Slt) (ha : a.length < 1099511627776) (hb : b.length < 1099511627776) : ACalls Try.prog 19 [.sl (a.map stPV), .sl (b.map stPV)] (bPV (decide (a = b))) := by
  refine ent Try.func19 ?_
  repeat (refine AW_seq ?_)
  refine reg ?_
  refine run 1 ?_
  refine fin [0, 1] [] ?_
  repeat (refine AW_seq ?_)
  refine reg ?_
  refine run 2 ?_
  refine run 2 ?_
  refine run 1 ?_
  refine fin [0, 1, 10] [] ?_
  repeat (refine AW_seq ?_)
  refine tst (fun h1 => ?_) (fun h1 => ?_)
  · simp at h1
    repeat (refine AW_seq ?_)
    refine reg ?_
    refine run 1 ?_
    refine fin [4] [] ?_
    refine AW_ret (ret ?_)
    rw [same_len (by omega)]; rfl
  · simp at h1
    have hlen : a.length = b.length := by omega
    refine AW_skip ?_
    repeat (refine AW_seq ?_)
    refine reg ?_
    refine run 1 ?_
    refine fin [0, 1, 5] [] ?_
    repeat (refine AW_seq ?_)
    refine AW_block ?_
    refine AW_loops (ι := Nat) (fun i => ⟨lk [(0, .c (.sl (a.map stPV))), (1, .c (.sl (b.map stPV))), (5, .c (iPV i))], lkM ([]), lkG [] 0⟩) (fun i => i ≤ a.length ∧ ∀ k, k < i → a.getD k default = b.getD k default) (fun i => a.length - i) 0 ⟨Nat.zero_le _, fun k h => absurd h (Nat.not_lt_zero k)⟩ wk ?_
    rintro i ⟨hi, hF⟩
    obtain ⟨hF, -⟩ : Go.RowKit.Hid (∀ k, k < i → a.getD k default = b.getD k default) ∧ True := ⟨hF, trivial⟩
    rename_i hF0
    clear hF0
    repeat (refine AW_seq ?_)
    refine reg ?_
    refine run 2 ?_
    refine run 2 ?_
    refine fin [0, 1, 5, 14] [] ?_
    repeat (refine AW_seq ?_)
    refine tst (fun h2 => ?_) (fun h2 => ?_)
    · simp at h2
      obtain ⟨x, hx, gx⟩ := getD_at (l := a) (i := i) (by omega)
      obtain ⟨y, hy, gy⟩ := getD_at (l := b) (i := i) (by omega)
      obtain ⟨xb, xk⟩ := x
      obtain ⟨yb, yk⟩ := y
      refine AW_skip ?_
      repeat (refine AW_seq ?_)
      refine AW_block ?_
      repeat (refine AW_seq ?_)
      refine reg ?_
      refine run 2 ?_
      refine run 2 ?_
      refine run 2 ?_
      refine run 2 ?_
      refine run 1 ?_
      refine fin [0, 1, 5, 25] [] ?_
      repeat (refine AW_seq ?_)
      refine tst (fun h3 => ?_) (fun h3 => ?_)
      · skip
        have h4 : (⟨xb, xk⟩ : Slt) ≠ ⟨yb, yk⟩ := by intro e; simp only [Slt.mk.injEq] at e; obtain ⟨rfl, rfl⟩ := e; simp at h3
        repeat (refine AW_seq ?_)
        refine reg ?_
        refine run 1 ?_
        refine fin [4] [] ?_
        refine AW_ret (ret ?_)
        rw [same_no (i := i) (by omega) (by rw [gx, gy]; exact h4)]; rfl
      · skip
        have h4 : (⟨xb, xk⟩ : Slt) = ⟨yb, yk⟩ := by simpa using h3
        refine AW_skip ?_
        repeat (refine AW_seq ?_)
        refine reg ?_
        refine run 2 ?_
        refine run 1 ?_
        refine finN ?_
        exact ⟨i + 1, by omega, ⟨by omega, fun k g => by
          rcases Nat.lt_or_ge k i with g3 | g3
          · exact hF.out k g3
          · obtain rfl : k = i := by omega
            rw [gx, gy]; exact h4⟩, wk⟩
    · simp at h2
      refine AW_exit ?_
      repeat (refine AW_seq ?_)
      refine reg ?_
      refine run 1 ?_
      refine fin [4] [] ?_
      refine AW_ret (ret ?_)
      rw [same_yes hlen (by omega) hF.out]; rfl

theorem rRight_any (l : List Slt) (hl : l.length < 1099511627776) : ACalls Try.prog 11 [.sl (l.map stPV)] (bPV (decide (RightP l))) := by
  refine ent Try.func11 ?_
  repeat (refine AW_seq ?_)
  refine reg ?_
  refine run 1 ?_
  refine fin [0] [] ?_
  repeat (refine AW_seq ?_)
  refine reg ?_
  refine run 2 ?_
  refine run 2 ?_
  refine run 2 ?_
  refine run 2 ?_
  refine fin [0, 12] [] ?_
  repeat (refine AW_seq ?_)
  refine tst (fun h1 => ?_) (fun h1 => ?_)
  · skip
    have hn : ¬ RightP l := fun g => by have := g.1; have := g.2.1; simp at h1; omega
    repeat (refine AW_seq ?_)
    refine reg ?_
    refine run 1 ?_
    refine fin [2] [] ?_
    refine AW_ret (ret ?_)
    rw [decide_eq_false hn]; rfl
  · skip
    have hs : 1 ≤ l.length ∧ l.length ≤ 1024 := by simp at h1; omega
    clear h1
    refine AW_skip ?_
    repeat (refine AW_seq ?_)
    refine reg ?_
    refine run 1 ?_
    refine fin [0, 3] [] ?_
    repeat (refine AW_seq ?_)
    refine AW_block ?_
    refine AW_loops (ι := Nat) (fun i => ⟨lk [(0, .c (.sl (l.map stPV))), (3, .c (iPV i))], lkM ([]), lkG [] 0⟩) (fun i => i ≤ l.length ∧ Emp l i ∧ Uni l i) (fun i => l.length - i) 0 ⟨Nat.zero_le _, fun j hj => absurd hj (Nat.not_lt_zero j), fun j hj => absurd hj (Nat.not_lt_zero j)⟩ wk ?_
    rintro i ⟨hi, hE, hU⟩
    obtain ⟨hE, -⟩ : Go.RowKit.Hid (Emp l i) ∧ True := ⟨hE, trivial⟩
    rename_i hE0
    clear hE0
    obtain ⟨hU, -⟩ : Go.RowKit.Hid (Uni l i) ∧ True := ⟨hU, trivial⟩
    rename_i hU0
    clear hU0
    repeat (refine AW_seq ?_)
    refine reg ?_
    refine run 2 ?_
    refine run 2 ?_
    refine fin [0, 3, 16] [] ?_
    repeat (refine AW_seq ?_)
    refine tst (fun h2 => ?_) (fun h2 => ?_)
    · simp at h2
      obtain ⟨x, hx, gx⟩ := getD_at h2
      obtain ⟨b, k⟩ := x
      refine AW_skip ?_
      repeat (refine AW_seq ?_)
      refine AW_block ?_
      repeat (refine AW_seq ?_)
      refine reg ?_
      refine run 2 ?_
      refine run 2 ?_
      refine run 2 ?_
      refine run 2 ?_
      refine run 2 ?_
      refine run 2 ?_
      refine run 2 ?_
      refine fin [0, 3, 32] [] ?_
      repeat (refine AW_seq ?_)
      refine tst (fun h3 => ?_) (fun h3 => ?_)
      · skip
        have hn : ¬ RightP l := fun g => by
          have := g.2.2.1 i (by omega)
          rw [us_of gx, ke_of gx] at this
          simp at h3
          exact h3.2 (this h3.1)
        repeat (refine AW_seq ?_)
        refine reg ?_
        refine run 1 ?_
        refine fin [2] [] ?_
        refine AW_ret (ret ?_)
        rw [decide_eq_false hn]; rfl
      · skip
        have hk0 : b = false → k = 0 := by simpa using h3
        clear h3
        refine AW_skip ?_
        repeat (refine AW_seq ?_)
        refine reg ?_
        refine run 1 ?_
        refine fin [0, 3, 4] [] ?_
        repeat (refine AW_seq ?_)
        refine AW_block ?_
        refine AW_loops (ι := Nat) (fun z => ⟨lk [(0, .c (.sl (l.map stPV))), (3, .c (iPV i)), (4, .c (iPV z))], lkM ([]), lkG [] 0⟩) (fun z => z ≤ i ∧ ∀ j, j < z → b = true → Us l j = true → Ke l j ≠ k) (fun z => i - z) 0 ⟨Nat.zero_le _, fun j hj => absurd hj (Nat.not_lt_zero j)⟩ wk ?_
        rintro z ⟨hz, hK⟩
        obtain ⟨hK, -⟩ : Go.RowKit.Hid (∀ j, j < z → b = true → Us l j = true → Ke l j ≠ k) ∧ True := ⟨hK, trivial⟩
        rename_i hK0
        clear hK0
        repeat (refine AW_seq ?_)
        refine reg ?_
        refine run 2 ?_
        refine run 1 ?_
        refine fin [0, 3, 4, 35] [] ?_
        repeat (refine AW_seq ?_)
        refine tst (fun h4 => ?_) (fun h4 => ?_)
        · simp at h4
          obtain ⟨y, hy, gy⟩ := getD_at (l := l) (i := z) (by omega)
          obtain ⟨c, m⟩ := y
          refine AW_skip ?_
          repeat (refine AW_seq ?_)
          refine AW_block ?_
          repeat (refine AW_seq ?_)
          refine reg ?_
          refine run 2 ?_
          refine run 2 ?_
          refine run 2 ?_
          refine run 2 ?_
          refine run 2 ?_
          refine run 2 ?_
          refine run 2 ?_
          refine run 2 ?_
          refine run 2 ?_
          refine run 2 ?_
          refine run 2 ?_
          refine run 2 ?_
          refine run 1 ?_
          refine fin [0, 3, 4, 62] [] ?_
          repeat (refine AW_seq ?_)
          refine tst (fun h5 => ?_) (fun h5 => ?_)
          · skip
            have hn : ¬ RightP l := fun g => by
              have := g.2.2.2 i (by omega) z (by omega)
              rw [us_of gx, ke_of gx, us_of gy, ke_of gy] at this
              simp at h5
              exact this h5.1.1 h5.1.2 h5.2
            repeat (refine AW_seq ?_)
            refine reg ?_
            refine run 1 ?_
            refine fin [2] [] ?_
            refine AW_ret (ret ?_)
            rw [decide_eq_false hn]; rfl
          · skip
            have h7 : b = true → c = true → m ≠ k := by simpa using h5
            clear h5
            refine AW_skip ?_
            repeat (refine AW_seq ?_)
            refine reg ?_
            refine run 2 ?_
            refine run 1 ?_
            refine finN ?_
            exact ⟨z + 1, by omega, ⟨by omega, fun j hj => by
              rcases Nat.lt_or_ge j z with h8 | h8
              · exact hK.out j h8
              · obtain rfl : j = z := by omega
                rw [us_of gy, ke_of gy]; exact h7⟩, wk⟩
        · simp at h4
          have hzi : z = i := by omega
          refine AW_exit ?_
          repeat (refine AW_seq ?_)
          refine reg ?_
          refine run 2 ?_
          refine run 1 ?_
          refine finN ?_
          exact ⟨i + 1, by omega, ⟨by omega, emp_next hE.out (by rw [us_of gx, ke_of gx]; exact hk0), uni_next hU.out fun j hj => by rw [us_of gx, ke_of gx]; exact hK.out j (by omega)⟩, wk⟩
    · simp at h2
      refine AW_exit ?_
      repeat (refine AW_seq ?_)
      refine reg ?_
      refine run 1 ?_
      refine fin [2] [] ?_
      refine AW_ret (ret ?_)
      have e1 : i = l.length := by omega
      rw [decide_eq_true (show RightP l from ⟨hs.1, hs.2, by rw [← e1]; exact hE.out, by rw [← e1]; exact hU.out⟩)]; rfl

theorem rFind_any (l : List Slt) (k : Int) (hl : l.length < 1099511627776) : ACalls Try.prog 20 [.sl (l.map stPV), uPV k] (iPV (idxI (findN l k))) := by
  refine ent Try.func20 ?_
  repeat (refine AW_seq ?_)
  refine reg ?_
  refine run 1 ?_
  refine fin [0, 1] [] ?_
  repeat (refine AW_seq ?_)
  refine reg ?_
  refine run 1 ?_
  refine fin [0, 1, 5] [] ?_
  repeat (refine AW_seq ?_)
  refine AW_block ?_
  refine AW_loops (ι := Nat) (fun i => ⟨lk [(0, .c (.sl (l.map stPV))), (1, .c (uPV k)), (5, .c (iPV i))], lkM ([]), lkG [] 0⟩) (fun i => i ≤ l.length ∧ ∀ j, j < i → ¬ (Us l j = true ∧ Ke l j = k)) (fun i => l.length - i) 0 ⟨Nat.zero_le _, fun j hj => absurd hj (Nat.not_lt_zero j)⟩ wk ?_
  rintro i ⟨hi, hF⟩
  obtain ⟨hF, -⟩ : Go.RowKit.Hid (∀ j, j < i → ¬ (Us l j = true ∧ Ke l j = k)) ∧ True := ⟨hF, trivial⟩
  rename_i hF0
  clear hF0
  repeat (refine AW_seq ?_)
  refine reg ?_
  refine run 2 ?_
  refine run 2 ?_
  refine fin [0, 1, 5, 9] [] ?_
  repeat (refine AW_seq ?_)
  refine tst (fun h1 => ?_) (fun h1 => ?_)
  · simp at h1
    obtain ⟨x, hx, gx⟩ := getD_at h1
    obtain ⟨b, m⟩ := x
    refine AW_skip ?_
    repeat (refine AW_seq ?_)
    refine AW_block ?_
    repeat (refine AW_seq ?_)
    refine reg ?_
    refine run 2 ?_
    refine run 2 ?_
    refine run 2 ?_
    refine run 2 ?_
    refine run 2 ?_
    refine run 2 ?_
    refine run 2 ?_
    refine fin [0, 1, 5, 25] [] ?_
    repeat (refine AW_seq ?_)
    refine tst (fun h2 => ?_) (fun h2 => ?_)
    · skip
      have h4 : b = true ∧ m = k := by simpa using h2
      repeat (refine AW_seq ?_)
      refine reg ?_
      refine run 2 ?_
      refine fin [4] [] ?_
      refine AW_ret (ret ?_)
      rw [find_first (v := i) (by omega) (by rw [us_of gx]; exact h4.1) (by rw [ke_of gx]; exact h4.2) hF.out]; rfl
    · skip
      have h4 : ¬ (b = true ∧ m = k) := by simpa using h2
      refine AW_skip ?_
      repeat (refine AW_seq ?_)
      refine reg ?_
      refine run 2 ?_
      refine run 1 ?_
      refine finN ?_
      exact ⟨i + 1, by omega, ⟨by omega, fun j hj => by
        rcases Nat.lt_or_ge j i with h8 | h8
        · exact hF.out j h8
        · obtain rfl : j = i := by omega
          rw [us_of gx, ke_of gx]; exact h4⟩, wk⟩
  · simp at h1
    refine AW_exit ?_
    repeat (refine AW_seq ?_)
    refine reg ?_
    refine run 1 ?_
    refine fin [4] [] ?_
    refine AW_ret (ret ?_)
    rw [find_none.2 fun j hj => hF.out j (by omega)]; rfl

theorem set_ih (x : Slt) (l l2 : List Slt) (v : Nat) (s : Slt) (hl : l.length < 1099511627776) (hv : v < (x :: l).length) (h2 : (x :: l).set v s = l2) : FCalls Try.prog 29 [.sl ((x :: l).map stPV), iPV v, stPV s] ⟨57, 2, (l2).map stPV, true, [], none⟩ := by
  refine entF Try.func29 ?_
  obtain ⟨L, hL⟩ : ∃ L, x :: l = L := ⟨_, rfl⟩
  rw [hL] at hv h2 ⊢
  have m2 : (L.map stPV).set v (PV.agg [PV.v (.bool s.used), PV.v (.int .u64 s.key)]) = l2.map stPV := by rw [← h2, List.map_set]; rfl
  have l2l : l2.length = L.length := by rw [← h2, List.length_set]
  have bL : L.length < 1099511627777 := by rw [← hL]; simp; omega
  clear h2 hL
  repeat (refine AW_seq ?_)
  refine reg ?_
  refine run 2 ?_
  refine fin [0, 1, 5] [(6, 0)] ?_
  repeat (refine AW_seq ?_)
  refine reg ?_
  refine run 1 ?_
  refine fin [0, 1, 5, 7] [(6, 0)] ?_
  refine seed 7 8 57 2 ?_
  repeat (refine AW_seq ?_)
  refine reg ?_
  refine run 2 ?_
  refine run 2 ?_
  refine fin [1, 5, 7] [(6, 0), (8, 0)] ?_
  repeat (refine AW_seq ?_)
  refine reg ?_
  refine run 2 ?_
  refine run 2 ?_
  refine run 1 ?_
  refine fin [7] [(8, 0)] ?_
  repeat (refine AW_seq ?_)
  refine reg ?_
  refine run 2 ?_
  refine fin [6] [(8, 0)] ?_
  refine AW_ret (retF ?_)
  rfl

theorem set_any (l : List Slt) (v : Nat) (s : Slt) (hl : l.length < 1099511627776) (hv : v < l.length) : ACalls Try.prog 29 [.sl (l.map stPV), iPV v, stPV s] (.sl ((l.set v s).map stPV)) := by
  cases l with
  | nil => simp at hv
  | cons x l => exact (set_ih x l _ v s (by simp at hl; omega) hv rfl).a

theorem rAdd_not (l : List Slt) (k : Int) (hl : l.length < 1099511627776) (h : ¬ RightP l) : ACalls Try.prog 13 [.sl (l.map stPV), uPV k] (.tup [.sl (l.map stPV), iPV 0, iPV 1]) := by
  refine ent Try.func13 ?_
  have c1 := rRight_any l hl
  rw [decide_eq_false h] at c1
  repeat (refine AW_seq ?_)
  refine reg ?_
  refine run 2 ?_
  refine run 1 ?_
  refine fin [0, 1] [] ?_
  repeat (refine AW_seq ?_)
  refine reg ?_
  refine run 1 ?_
  refine call (fun _ => c1) ?_
  refine run 1 ?_
  refine fin [0, 1, 7] [] ?_
  repeat (refine AW_seq ?_)
  refine reg ?_
  refine run 2 ?_
  refine fin [0, 1, 12] [] ?_
  repeat (refine AW_seq ?_)
  refine tstT ?_
  repeat (refine AW_seq ?_)
  refine reg ?_
  refine run 2 ?_
  refine run 2 ?_
  refine fin [4, 5, 6] [] ?_
  refine AW_ret (ret ?_)
  rfl

theorem rAdd_there (l : List Slt) (k : Int) (v : Nat) (hl : l.length < 1099511627776) (h : RightP l) (hf : findN l k = some v) : ACalls Try.prog 13 [.sl (l.map stPV), uPV k] (.tup [.sl (l.map stPV), iPV 0, iPV 4]) := by
  refine ent Try.func13 ?_
  have c1 := rRight_any l hl
  rw [decide_eq_true h] at c1
  have c2 := rFind_any l k hl
  rw [hf, idxI] at c2
  clear h hf
  repeat (refine AW_seq ?_)
  refine reg ?_
  refine run 2 ?_
  refine run 1 ?_
  refine fin [0, 1] [] ?_
  repeat (refine AW_seq ?_)
  refine reg ?_
  refine run 1 ?_
  refine call (fun _ => c1) ?_
  refine run 1 ?_
  refine fin [0, 1, 7] [] ?_
  repeat (refine AW_seq ?_)
  refine reg ?_
  refine run 2 ?_
  refine fin [0, 1, 12] [] ?_
  repeat (refine AW_seq ?_)
  refine tstF ?_
  refine AW_skip ?_
  repeat (refine AW_seq ?_)
  refine reg ?_
  refine run 2 ?_
  refine call (fun _ => c2) ?_
  refine run 1 ?_
  refine fin [0, 1, 17] [] ?_
  repeat (refine AW_seq ?_)
  refine tst (fun h2 => ?_) (fun h2 => ?_)
  · simp at h2
    repeat (refine AW_seq ?_)
    refine reg ?_
    refine run 2 ?_
    refine run 2 ?_
    refine fin [4, 5, 6] [] ?_
    refine AW_ret (ret ?_)
    rfl
  · (exfalso; grind)

theorem rAdd_else (l : List Slt) (k : Int) (hl : l.length < 1099511627776) (h : RightP l) (hf : findN l k = none) : ACalls Try.prog 13 [.sl (l.map stPV), uPV k] (addPV (addR l k)) := by
  refine ent Try.func13 ?_
  have c1 := rRight_any l hl
  rw [decide_eq_true h] at c1
  have c2 := rFind_any l k hl
  rw [hf, idxI] at c2
  obtain ⟨h, -⟩ : Go.RowKit.Hid (RightP l) ∧ True := ⟨h, trivial⟩
  rename_i h0
  clear h0
  obtain ⟨hf, -⟩ : Go.RowKit.Hid (findN l k = none) ∧ True := ⟨hf, trivial⟩
  rename_i hf0
  clear hf0
  repeat (refine AW_seq ?_)
  refine reg ?_
  refine run 2 ?_
  refine run 1 ?_
  refine fin [0, 1] [] ?_
  repeat (refine AW_seq ?_)
  refine reg ?_
  refine run 1 ?_
  refine call (fun _ => c1) ?_
  refine run 1 ?_
  refine fin [0, 1, 7] [] ?_
  repeat (refine AW_seq ?_)
  refine reg ?_
  refine run 2 ?_
  refine fin [0, 1, 12] [] ?_
  repeat (refine AW_seq ?_)
  refine tstF ?_
  refine AW_skip ?_
  repeat (refine AW_seq ?_)
  refine reg ?_
  refine run 2 ?_
  refine call (fun _ => c2) ?_
  refine run 1 ?_
  refine fin [0, 1, 17] [] ?_
  repeat (refine AW_seq ?_)
  refine tstF ?_
  refine AW_skip ?_
  repeat (refine AW_seq ?_)
  refine reg ?_
  refine run 1 ?_
  refine fin [0, 1, 8] [] ?_
  repeat (refine AW_seq ?_)
  refine AW_block ?_
  refine AW_loops (ι := Nat) (fun i => ⟨lk [(0, .c (.sl (l.map stPV))), (1, .c (uPV k)), (8, .c (iPV i))], lkM ([]), lkG [] 0⟩) (fun i => i ≤ l.length ∧ ∀ j, j < i → Us l j = true) (fun i => l.length - i) 0 ⟨Nat.zero_le _, fun j hj => absurd hj (Nat.not_lt_zero j)⟩ wk ?_
  rintro i ⟨hi, hF⟩
  obtain ⟨hF, -⟩ : Go.RowKit.Hid (∀ j, j < i → Us l j = true) ∧ True := ⟨hF, trivial⟩
  rename_i hF0
  clear hF0
  repeat (refine AW_seq ?_)
  refine reg ?_
  refine run 2 ?_
  refine run 2 ?_
  refine fin [0, 1, 8, 22] [] ?_
  repeat (refine AW_seq ?_)
  refine tst (fun h3 => ?_) (fun h3 => ?_)
  · simp at h3
    obtain ⟨x, hx, gx⟩ := getD_at h3
    obtain ⟨b, m⟩ := x
    have c4 := set_any l i ⟨true, k⟩ hl (by omega)
    obtain ⟨l2, e2⟩ : ∃ l2, l.set i ⟨true, k⟩ = l2 := ⟨_, rfl⟩
    rw [e2] at c4
    obtain ⟨e2, -⟩ : Go.RowKit.Hid (l.set i ⟨true, k⟩ = l2) ∧ True := ⟨e2, trivial⟩
    rename_i e20
    clear e20
    refine AW_skip ?_
    repeat (refine AW_seq ?_)
    refine AW_block ?_
    repeat (refine AW_seq ?_)
    refine reg ?_
    refine run 2 ?_
    refine run 2 ?_
    refine run 2 ?_
    refine fin [0, 1, 8, 30] [] ?_
    repeat (refine AW_seq ?_)
    refine tst (fun h4 => ?_) (fun h4 => ?_)
    · skip
      have h5 : b = false := by simpa using h4
      repeat (refine AW_seq ?_)
      refine reg ?_
      refine run 2 ?_
      refine run 2 ?_
      refine call (fun _ => c4) ?_
      refine run 2 ?_
      refine run 2 ?_
      refine fin [4, 5, 6] [] ?_
      refine AW_ret (ret ?_)
      rw [addR_new h.out hf.out (free_of.2 ⟨by omega, by rw [us_of gx]; exact h5, hF.out⟩), e2.out]; rfl
    · skip
      have h5 : b = true := by simpa using h4
      refine AW_skip ?_
      repeat (refine AW_seq ?_)
      refine reg ?_
      refine run 2 ?_
      refine run 1 ?_
      refine finN ?_
      exact ⟨i + 1, by omega, ⟨by omega, fun j hj => by
        rcases Nat.lt_or_ge j i with h8 | h8
        · exact hF.out j h8
        · obtain rfl : j = i := by omega
          rw [us_of gx]; exact h5⟩, wk⟩
  · simp at h3
    refine AW_exit ?_
    repeat (refine AW_seq ?_)
    refine reg ?_
    refine run 2 ?_
    refine run 2 ?_
    refine fin [4, 5, 6] [] ?_
    refine AW_ret (ret ?_)
    rw [addR_full h.out hf.out (free_none.2 fun j hj => hF.out j (by omega))]; rfl

theorem rAdd_any (l : List Slt) (k : Int) (hl : l.length < 1099511627776) : ACalls Try.prog 13 [.sl (l.map stPV), uPV k] (addPV (addR l k)) := by
  by_cases h : RightP l
  · cases hf : findN l k with
    | some v => rw [addR_there h hf]; exact rAdd_there l k v hl h hf
    | none => exact rAdd_else l k hl h hf
  · rw [addR_not h]; exact rAdd_not l k hl h

theorem rRem_not (l : List Slt) (k : Int) (hl : l.length < 1099511627776) (h : ¬ RightP l) : ACalls Try.prog 15 [.sl (l.map stPV), uPV k] (.tup [.sl (l.map stPV), iPV 1]) := by
  refine ent Try.func15 ?_
  have c1 := rRight_any l hl
  rw [decide_eq_false h] at c1
  repeat (refine AW_seq ?_)
  refine reg ?_
  refine run 2 ?_
  refine fin [0, 1] [] ?_
  repeat (refine AW_seq ?_)
  refine reg ?_
  refine run 1 ?_
  refine call (fun _ => c1) ?_
  refine run 1 ?_
  refine fin [0, 1, 6] [] ?_
  repeat (refine AW_seq ?_)
  refine reg ?_
  refine run 2 ?_
  refine fin [0, 1, 11] [] ?_
  repeat (refine AW_seq ?_)
  refine tstT ?_
  repeat (refine AW_seq ?_)
  refine reg ?_
  refine run 2 ?_
  refine run 1 ?_
  refine fin [4, 5] [] ?_
  refine AW_ret (ret ?_)
  rfl

theorem rRem_none (l : List Slt) (k : Int) (hl : l.length < 1099511627776) (h : RightP l) (hf : findN l k = none) : ACalls Try.prog 15 [.sl (l.map stPV), uPV k] (.tup [.sl (l.map stPV), iPV 7]) := by
  refine ent Try.func15 ?_
  have c1 := rRight_any l hl
  rw [decide_eq_true h] at c1
  have c2 := rFind_any l k hl
  rw [hf, idxI] at c2
  clear h hf
  repeat (refine AW_seq ?_)
  refine reg ?_
  refine run 2 ?_
  refine fin [0, 1] [] ?_
  repeat (refine AW_seq ?_)
  refine reg ?_
  refine run 1 ?_
  refine call (fun _ => c1) ?_
  refine run 1 ?_
  refine fin [0, 1, 6] [] ?_
  repeat (refine AW_seq ?_)
  refine reg ?_
  refine run 2 ?_
  refine fin [0, 1, 11] [] ?_
  repeat (refine AW_seq ?_)
  refine tstF ?_
  refine AW_skip ?_
  repeat (refine AW_seq ?_)
  refine reg ?_
  refine run 2 ?_
  refine call (fun _ => c2) ?_
  refine run 1 ?_
  refine fin [0, 7] [] ?_
  repeat (refine AW_seq ?_)
  refine reg ?_
  refine run 2 ?_
  refine fin [0, 7, 17] [] ?_
  repeat (refine AW_seq ?_)
  refine tstT ?_
  repeat (refine AW_seq ?_)
  refine reg ?_
  refine run 2 ?_
  refine run 1 ?_
  refine fin [4, 5] [] ?_
  refine AW_ret (ret ?_)
  rfl

theorem rRem_some (l l2 : List Slt) (k : Int) (v : Nat) (hl : l.length < 1099511627776) (h : RightP l) (hf : findN l k = some v) (h2 : l.set v ⟨false, 0⟩ = l2) : ACalls Try.prog 15 [.sl (l.map stPV), uPV k] (.tup [.sl (l2.map stPV), iPV 0]) := by
  refine ent Try.func15 ?_
  have c1 := rRight_any l hl
  rw [decide_eq_true h] at c1
  have c2 := rFind_any l k hl
  rw [hf, idxI] at c2
  have c4 := set_any l v ⟨false, 0⟩ hl (find_of hf).1
  rw [h2] at c4
  clear h hf h2
  repeat (refine AW_seq ?_)
  refine reg ?_
  refine run 2 ?_
  refine fin [0, 1] [] ?_
  repeat (refine AW_seq ?_)
  refine reg ?_
  refine run 1 ?_
  refine call (fun _ => c1) ?_
  refine run 1 ?_
  refine fin [0, 1, 6] [] ?_
  repeat (refine AW_seq ?_)
  refine reg ?_
  refine run 2 ?_
  refine fin [0, 1, 11] [] ?_
  repeat (refine AW_seq ?_)
  refine tstF ?_
  refine AW_skip ?_
  repeat (refine AW_seq ?_)
  refine reg ?_
  refine run 2 ?_
  refine call (fun _ => c2) ?_
  refine run 1 ?_
  refine fin [0, 7] [] ?_
  repeat (refine AW_seq ?_)
  refine reg ?_
  refine run 2 ?_
  refine fin [0, 7, 17] [] ?_
  repeat (refine AW_seq ?_)
  refine tst (fun h2 => ?_) (fun h2 => ?_)
  · (exfalso; grind)
  · simp at h2
    refine AW_skip ?_
    repeat (refine AW_seq ?_)
    refine reg ?_
    refine run 2 ?_
    refine run 1 ?_
    refine call (fun _ => c4) ?_
    refine run 2 ?_
    refine fin [4, 5] [] ?_
    refine AW_ret (ret ?_)
    rfl

theorem rRem_any (l : List Slt) (k : Int) (hl : l.length < 1099511627776) : ACalls Try.prog 15 [.sl (l.map stPV), uPV k] (remPV (remR l k)) := by
  by_cases h : RightP l
  · cases hf : findN l k with
    | none => rw [remR_none h hf]; exact rRem_none l k hl h hf
    | some v => rw [remR_some h hf]; exact rRem_some l _ k v hl h hf rfl
  · rw [remR_not h]; exact rRem_not l k hl h

end Go.Proofs.Ytaoiffinodfcfaa