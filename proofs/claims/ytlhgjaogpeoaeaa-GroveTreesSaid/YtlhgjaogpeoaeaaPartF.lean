/-
  Contracts of the layer part on plain data: a place, a partition, vertices alone, a copy, lists compared, edges that may be.
  Conditions: not too many places.
-/
import Derived.Test.YtlhgjaogpeoaeaaPartN
import Derived.Test.YtlhgjaogpeoaeaaAb29
namespace Go.Proofs.Ytlhgjaogpeoaeaa
open Go Go.Ab
set_option linter.unusedVariables false
set_option linter.unusedSimpArgs false

theorem okCase (p : List Int) (i : Nat) : (∃ x, p.getD i default = x ∧ (x < 0 ∨ (i : Int) < x) ∧ (decide (x < 0) || decide ((i : Int) < x)) = true) ∨ ∃ k : Nat, p.getD i default = (k : Int) ∧ k ≤ i := by
  by_cases h : p.getD i default < 0 ∨ (i : Int) < p.getD i default
  · exact .inl ⟨_, rfl, h, by simpa using h⟩
  · exact .inr ⟨(p.getD i default).toNat, by omega, by omega⟩
/-- an operation whose test is known not to hold: passed over, whatever its slot would hold -/
theorem skpV {P : Program} {ops : Array Oper} {s : ASt} {o : Oper} {l : List Oper} {Λ : List Lab} {K : ASt → List Lab → Prop} (x : SV) (hk : Gos P ops l (s.app o (.when false x) .none) (Λ ++ [labS s o .none]) K) (hx : plainV x = true := by rfl)
    (hg : guardS ops o s = some false := by exact Go.Ab.evR) (hgd : o.guard.isSome = true := by rfl) : Gos P ops (o :: l) s Λ K := by
  have hw : wrapG o false x = .when false x := by unfold wrapG; cases h : o.guard <;> simp_all
  refine ⟨_, _, ?_, hk⟩
  rw [← hw]
  exact stepL_sym hg (by unfold effG; cases o.guard <;> rfl) rfl hx (fun e => by cases e) (fun e => by cases e) (.inr (.inl fun _ _ e => by cases e))
theorem notR {p : List Int} {i : Nat} (hi : i < p.length) (h : ¬ okI p i) : decide (IsR p) = false := by
  simp only [decide_eq_false_iff_not]; exact fun g => h (g i hi)
theorem yesR {p : List Int} {i : Nat} (hi : p.length ≤ i) (h : ∀ k, k < i → okI p k) : decide (IsR p) = true := by
  simp only [decide_eq_true_eq]; exact fun k hk => h k (by omega)

theorem isPlace_any (n v : Int) : ACalls Try.prog 20 [iPV n, iPV v] (bPV (decide (0 ≤ v) && decide (v < n))) := by
  refine ent Try.func20 ?_
  repeat (refine AW_seq ?_)
  refine reg ?_
  refine run 1 ?_
  refine fin [0, 1] [] ?_
  repeat (refine AW_seq ?_)
  refine reg ?_
  refine run 2 ?_
  refine run 2 ?_
  refine run 2 ?_
  refine run 2 ?_
  refine fin [4] [] ?_
  refine AW_ret (ret ?_)
  rfl

theorem right_any (p : List Int) (hl : p.length < 1099511627776) : ACalls Try.prog 22 [.sl (p.map iPV)] (bPV (decide (IsR p))) := by
  refine ent Try.func22 ?_
  repeat (refine AW_seq ?_)
  refine reg ?_
  refine run 1 ?_
  refine fin [0] [] ?_
  repeat (refine AW_seq ?_)
  refine reg ?_
  refine run 2 ?_
  refine run 1 ?_
  refine fin [0, 5, 6, 7] [] ?_
  repeat (refine AW_seq ?_)
  refine AW_block ?_
  refine AW_loops (ι := Nat) (fun i => ⟨lk [(0, .c (.sl (p.map iPV))), (5, .c (.sl (p.map iPV))), (6, .c (iPV p.length)), (7, .c (iPV i))], lkM [], lkG [] 0⟩) (fun i => i ≤ p.length ∧ ∀ k, k < i → okI p k) (fun i => p.length - i) 0 ⟨Nat.zero_le _, fun k h => absurd h (Nat.not_lt_zero k)⟩ wk ?_
  rintro i ⟨hi, hF⟩
  obtain ⟨hF, -⟩ : Go.RowKit.Hid (∀ k, k < i → okI p k) ∧ True := ⟨hF, trivial⟩
  rename_i hF0
  clear hF0
  rcases okCase p i with ⟨x, gx, hb, hB⟩ | ⟨x, gx, hb⟩
  · skip
    repeat (refine AW_seq ?_)
    refine reg ?_
    refine run 1 ?_
    refine fin [0, 5, 6, 7, 8] [] ?_
    repeat (refine AW_seq ?_)
    refine tst (fun h1 => ?_) (fun h1 => ?_)
    · simp at h1
      refine AW_skip ?_
      repeat (refine AW_seq ?_)
      refine AW_block ?_
      repeat (refine AW_seq ?_)
      refine reg ?_
      refine run 2 ?_
      refine run 2 ?_
      refine run 1 ?_
      refine fin [0, 3, 4, 5, 6, 7] [] ?_
      repeat (refine AW_seq ?_)
      refine reg ?_
      refine run 2 ?_
      refine run 2 ?_
      refine run 2 ?_
      refine run 2 ?_
      refine run 2 ?_
      refine run 1 ?_
      refine skpV (.c (.v (.int .i64 0))) ?_
      refine run 2 ?_
      refine run 1 ?_
      refine fin [0, 5, 6, 7, 26] [] ?_
      repeat (refine AW_seq ?_)
      refine tstT ?_
      repeat (refine AW_seq ?_)
      refine reg ?_
      refine run 1 ?_
      refine fin [2] [] ?_
      refine AW_ret (ret ?_)
      rw [notR (i := i) (by omega) (by unfold okI; rw [gx]; omega)]; rfl
    · simp at h1
      refine AW_exit ?_
      repeat (refine AW_seq ?_)
      refine reg ?_
      refine run 1 ?_
      refine fin [2] [] ?_
      refine AW_ret (ret ?_)
      rw [yesR (i := i) (by omega) hF.out]; rfl
  · obtain ⟨y, gy⟩ : ∃ y, p.getD x default = y := ⟨_, rfl⟩
    repeat (refine AW_seq ?_)
    refine reg ?_
    refine run 1 ?_
    refine fin [0, 5, 6, 7, 8] [] ?_
    repeat (refine AW_seq ?_)
    refine tst (fun h1 => ?_) (fun h1 => ?_)
    · simp at h1
      refine AW_skip ?_
      repeat (refine AW_seq ?_)
      refine AW_block ?_
      repeat (refine AW_seq ?_)
      refine reg ?_
      refine run 2 ?_
      refine run 2 ?_
      refine run 1 ?_
      refine fin [0, 3, 4, 5, 6, 7] [] ?_
      repeat (refine AW_seq ?_)
      refine reg ?_
      refine run 2 ?_
      refine run 2 ?_
      refine run 2 ?_
      refine run 2 ?_
      refine run 2 ?_
      refine run 2 ?_
      refine run 2 ?_
      refine run 1 ?_
      refine fin [0, 5, 6, 7, 26] [] ?_
      repeat (refine AW_seq ?_)
      refine tst (fun h2 => ?_) (fun h2 => ?_)
      · simp at h2
        have h3 : y ≠ (x : Int) := by omega
        repeat (refine AW_seq ?_)
        refine reg ?_
        refine run 1 ?_
        refine fin [2] [] ?_
        refine AW_ret (ret ?_)
        rw [notR (i := i) (by omega) (by unfold okI; rw [gx, Int.toNat_natCast, gy]; omega)]; rfl
      · simp at h2
        have h3 : y = (x : Int) := by omega
        refine AW_skip ?_
        repeat (refine AW_seq ?_)
        refine reg ?_
        refine run 2 ?_
        refine finN ?_
        exact ⟨i + 1, by omega, ⟨by omega, fun k g => by
          rcases Nat.lt_or_ge k i with g3 | g3
          · exact hF.out k g3
          · obtain rfl : k = i := by omega
            unfold okI; rw [gx, Int.toNat_natCast, gy]; omega⟩, wk⟩
    · simp at h1
      refine AW_exit ?_
      repeat (refine AW_seq ?_)
      refine reg ?_
      refine run 1 ?_
      refine fin [2] [] ?_
      refine AW_ret (ret ?_)
      rw [yesR (i := i) (by omega) hF.out]; rfl

theorem alone_any (n : Nat) (hn : n ≤ 1024) : FCalls Try.prog 19 [iPV n] ⟨3, 1, (aloneR n).map iPV, true, [], none⟩ := by
  refine entF Try.func19 ?_
  have hr0 : (List.replicate n (0 : Int)).map iPV = List.replicate n (PV.v (.int .i64 0)) := by rw [List.map_replicate]; rfl
  repeat (refine AW_seq ?_)
  refine reg ?_
  refine run 1 ?_
  refine fin [0] [] ?_
  repeat (refine AW_seq ?_)
  refine reg ?_
  refine run 2 ?_
  refine run 1 ?_
  refine fin [3] [(7, 0)] ?_
  repeat (refine AW_seq ?_)
  refine reg ?_
  refine run 2 ?_
  refine run 1 ?_
  refine fin [3, 8, 9] [(7, 0)] ?_
  repeat (refine AW_seq ?_)
  refine AW_block ?_
  refine AW_loops (ι := Nat × List Int) (fun z => ⟨lk [(3, .own (7, 0) z.2.length), (8, .c (iPV n)), (9, .c (iPV z.1))], lkM [((7, 0), some ⟨3, 1, (z.2).map iPV, true, [], none⟩)], lkG [] 1⟩) (fun z => z.1 ≤ n ∧ z.2.length = n ∧ ∀ k : Nat, k < z.1 → z.2.getD k default = k) (fun z => n - z.1) (0, List.replicate n 0) ⟨Nat.zero_le _, List.length_replicate, fun k h => absurd h (Nat.not_lt_zero k)⟩ wk ?_
  rintro ⟨i, L⟩ ⟨hi, hL, hF⟩
  simp only at hi hL hF
  obtain ⟨hF, -⟩ : Go.RowKit.Hid (∀ k : Nat, k < i → L.getD k default = k) ∧ True := ⟨hF, trivial⟩
  rename_i hF0
  clear hF0
  repeat (refine AW_seq ?_)
  refine reg ?_
  refine run 1 ?_
  refine fin [3, 8, 9, 10] [(7, 0)] ?_
  repeat (refine AW_seq ?_)
  refine tst (fun h1 => ?_) (fun h1 => ?_)
  · simp at h1
    obtain ⟨L2, eL2⟩ : ∃ k, L.set i (i : Int) = k := ⟨_, rfl⟩
    have mL2 : (L.map iPV).set i (PV.v (.int .i64 (i : Int))) = L2.map iPV := by rw [← eL2, List.map_set]; rfl
    have lL2 : L2.length = L.length := by rw [← eL2, List.length_set]
    obtain ⟨eL2, -⟩ : Go.RowKit.Hid (L.set i (i : Int) = L2) ∧ True := ⟨eL2, trivial⟩
    rename_i eL20
    clear eL20
    refine AW_skip ?_
    repeat (refine AW_seq ?_)
    refine AW_block ?_
    repeat (refine AW_seq ?_)
    refine reg ?_
    refine run 2 ?_
    refine fin [3, 4, 8, 9] [(7, 0)] ?_
    repeat (refine AW_seq ?_)
    refine reg ?_
    refine run 2 ?_
    refine run 2 ?_
    refine run 1 ?_
    refine finN ?_
    refine kp [3, 8, 9] [(7, 0)] ?_
    repeat (refine AW_seq ?_)
    refine reg ?_
    refine run 2 ?_
    refine finN ?_
    refine ⟨(i + 1, L2), by show n - (i + 1) < n - i; omega, ⟨by show i + 1 ≤ n; omega, by show L2.length = n; omega, fun k g => ?_⟩, wk⟩
    show L2.getD k default = k
    rw [← eL2.out, getD_set (by omega)]
    split
    · omega
    · exact hF.out k (by omega)
  · simp at h1
    refine AW_exit ?_
    repeat (refine AW_seq ?_)
    refine reg ?_
    refine run 2 ?_
    refine fin [2] [(7, 0)] ?_
    refine AW_ret (retF ?_)
    have e1 : L = aloneR n := ext_getD (by rw [hL, aloneR_len]) fun k hk => by
      rw [hF.out k (by omega), aloneR_get (by omega)]
    rw [e1]

theorem same_no {a b : List Int} {i : Nat} (hi : i < a.length) (h : a.getD i default ≠ b.getD i default) : decide (a = b) = false := by
  simp only [decide_eq_false_iff_not]; intro e; exact h (by rw [e])
theorem same_len {a b : List Int} (h : a.length ≠ b.length) : decide (a = b) = false := by
  simp only [decide_eq_false_iff_not]; intro e; exact h (by rw [e])
theorem same_yes {a b : List Int} {i : Nat} (hl : a.length = b.length) (hi : a.length ≤ i) (h : ∀ k, k < i → a.getD k default = b.getD k default) : decide (a = b) = true := by
  simp only [decide_eq_true_eq]; exact ext_getD hl fun k hk => h k (by omega)

theorem same_any (a b : List Int) (ha : a.length < 1099511627776) (hb : b.length < 1099511627776) : ACalls Try.prog 11 [.sl (a.map iPV), .sl (b.map iPV)] (bPV (decide (a = b))) := by
  refine ent Try.func11 ?_
  repeat (refine AW_seq ?_)
  refine reg ?_
  refine run 1 ?_
  refine fin [0, 1] [] ?_
  repeat (refine AW_seq ?_)
  refine reg ?_
  refine run 2 ?_
  refine run 2 ?_
  refine run 1 ?_
  refine fin [0, 1, 10] [] ?_
  repeat (refine AW_seq ?_)
  refine tst (fun h1 => ?_) (fun h1 => ?_)
  · simp at h1
    repeat (refine AW_seq ?_)
    refine reg ?_
    refine run 1 ?_
    refine fin [4] [] ?_
    refine AW_ret (ret ?_)
    rw [same_len (by omega)]; rfl
  · simp at h1
    have hlen : a.length = b.length := by omega
    refine AW_skip ?_
    repeat (refine AW_seq ?_)
    refine reg ?_
    refine run 1 ?_
    refine fin [0, 1, 5] [] ?_
    repeat (refine AW_seq ?_)
    refine AW_block ?_
    refine AW_loops (ι := Nat) (fun i => ⟨lk [(0, .c (.sl (a.map iPV))), (1, .c (.sl (b.map iPV))), (5, .c (iPV i))], lkM [], lkG [] 0⟩) (fun i => i ≤ a.length ∧ ∀ k, k < i → a.getD k default = b.getD k default) (fun i => a.length - i) 0 ⟨Nat.zero_le _, fun k h => absurd h (Nat.not_lt_zero k)⟩ wk ?_
    rintro i ⟨hi, hF⟩
    obtain ⟨hF, -⟩ : Go.RowKit.Hid (∀ k, k < i → a.getD k default = b.getD k default) ∧ True := ⟨hF, trivial⟩
    rename_i hF0
    clear hF0
    repeat (refine AW_seq ?_)
    refine reg ?_
    refine run 2 ?_
    refine run 2 ?_
    refine fin [0, 1, 5, 14] [] ?_
    repeat (refine AW_seq ?_)
    refine tst (fun h2 => ?_) (fun h2 => ?_)
    · simp at h2
      obtain ⟨x, hx, gx⟩ := getD_at (l := a) (i := i) (by omega)
      obtain ⟨y, hy, gy⟩ := getD_at (l := b) (i := i) (by omega)
      refine AW_skip ?_
      repeat (refine AW_seq ?_)
      refine AW_block ?_
      repeat (refine AW_seq ?_)
      refine reg ?_
      refine run 2 ?_
      refine run 2 ?_
      refine run 2 ?_
      refine run 2 ?_
      refine run 1 ?_
      refine fin [0, 1, 5, 25] [] ?_
      repeat (refine AW_seq ?_)
      refine tst (fun h3 => ?_) (fun h3 => ?_)
      · simp at h3
        repeat (refine AW_seq ?_)
        refine reg ?_
        refine run 1 ?_
        refine fin [4] [] ?_
        refine AW_ret (ret ?_)
        rw [same_no (i := i) (by omega) (by rw [gx, gy]; exact h3)]; rfl
      · simp at h3
        refine AW_skip ?_
        repeat (refine AW_seq ?_)
        refine reg ?_
        refine run 2 ?_
        refine run 1 ?_
        refine finN ?_
        exact ⟨i + 1, by omega, ⟨by omega, fun k g => by
          rcases Nat.lt_or_ge k i with g3 | g3
          · exact hF.out k g3
          · obtain rfl : k = i := by omega
            rw [gx, gy, h3]⟩, wk⟩
    · simp at h2
      refine AW_exit ?_
      repeat (refine AW_seq ?_)
      refine reg ?_
      refine run 1 ?_
      refine fin [4] [] ?_
      refine AW_ret (ret ?_)
      rw [same_yes hlen (by omega) hF.out]; rfl

theorem clone_nil  : FCalls Try.prog 28 [.sl []] ⟨3, 1, ([]).map iPV, true, [], none⟩ := by
  refine entF Try.func28 ?_
  repeat (refine AW_seq ?_)
  refine reg ?_
  refine run 1 ?_
  refine fin [0] [] ?_
  repeat (refine AW_seq ?_)
  refine reg ?_
  refine run 2 ?_
  refine fin [0, 4] [] ?_
  repeat (refine AW_seq ?_)
  refine tstA ?_ ?_
  · skip
    repeat (refine AW_seq ?_)
    refine reg ?_
    refine run 1 ?_
    refine fin [2] [] ?_
    refine seed 2 3 3 1 ?_
    refine AW_ret (retF ?_)
    rfl
  · skip
    refine AW_skip ?_
    repeat (refine AW_seq ?_)
    refine reg ?_
    refine opW ?_
    refine run 2 ?_
    refine run 1 ?_
    refine fin [2] [(6, 0)] ?_
    refine AW_ret (retF ?_)
    rfl

theorem clone_cons (x : Int) (p : List Int) (hl : p.length < 1099511627776) : FCalls Try.prog 28 [.sl ((x :: p).map iPV)] ⟨3, 1, (x :: p).map iPV, true, [], none⟩ := by
  refine entF Try.func28 ?_
  repeat (refine AW_seq ?_)
  refine reg ?_
  refine run 1 ?_
  refine fin [0] [] ?_
  repeat (refine AW_seq ?_)
  refine reg ?_
  refine run 2 ?_
  refine fin [0, 4] [] ?_
  repeat (refine AW_seq ?_)
  refine tstF ?_
  refine AW_skip ?_
  repeat (refine AW_seq ?_)
  refine reg ?_
  refine opW ?_
  refine run 2 ?_
  refine run 1 ?_
  refine fin [2] [(6, 0)] ?_
  refine AW_ret (retF ?_)
  rfl

theorem clone_any (p : List Int) (hl : p.length < 1099511627776) : FCalls Try.prog 28 [.sl (p.map iPV)] ⟨3, 1, p.map iPV, true, [], none⟩ := by
  cases p with
  | nil => exact clone_nil
  | cons x p => exact clone_cons x p (by simp at hl; omega)
instance (n : Nat) (l : List Ed) : Decidable (MayE n l) := by unfold MayE; infer_instance
theorem may_no {n : Nat} {l : List Ed} {i : Nat} {x : Ed} (hx : l[i]? = some x) (h : ¬ EdIn n x) : decide (MayE n l) = false := by
  simp only [decide_eq_false_iff_not]; exact fun g => h (g x (List.mem_of_getElem? hx))
theorem may_all {n : Nat} {l : List Ed} {i : Nat} (hi : l.length ≤ i) (h : ∀ k, k < i → EdIn n (l.getD k default)) : MayE n l := fun e he => by
  obtain ⟨k, hk⟩ := List.getElem?_of_mem he
  have := h k (by have := (List.getElem?_eq_some_iff.1 hk).1; omega)
  rwa [List.getD_eq_getElem?_getD, hk] at this

theorem low_nat {U : List Int} (h : Low U) {i : Nat} (hi : i < U.length) : ∃ k : Nat, U.getD i default = (k : Int) ∧ k ≤ i :=
  ⟨(U.getD i default).toNat, by have := h i hi; omega, by have := h i hi; omega⟩
theorem isR_nat {U : List Int} (h : IsR U) {i : Nat} (hi : i < U.length) : ∃ k : Nat, U.getD i default = (k : Int) ∧ k ≤ i :=
  ⟨(U.getD i default).toNat, by have := h i hi; unfold okI at this; omega, by have := h i hi; unfold okI at this; omega⟩

theorem many_any (p : List Int) (hl : p.length < 1099511627776) : ACalls Try.prog 23 [.sl (p.map iPV)] (iPV (manyR p)) := by
  refine ent Try.func23 ?_
  have c1 := right_any p hl
  repeat (refine AW_seq ?_)
  refine reg ?_
  refine run 1 ?_
  refine fin [0] [] ?_
  repeat (refine AW_seq ?_)
  refine reg ?_
  refine run 1 ?_
  refine call (fun _ => c1) ?_
  refine run 1 ?_
  refine fin [0, 8] [] ?_
  repeat (refine AW_seq ?_)
  refine tst (fun h1 => ?_) (fun h1 => ?_)
  · simp at h1
    repeat (refine AW_seq ?_)
    refine reg ?_
    refine run 1 ?_
    refine fin [2] [] ?_
    refine AW_ret (ret ?_)
    rw [manyR, if_neg h1]; rfl
  · simp at h1
    refine AW_skip ?_
    repeat (refine AW_seq ?_)
    refine reg ?_
    refine run 1 ?_
    refine fin [0, 3] [] ?_
    repeat (refine AW_seq ?_)
    refine reg ?_
    refine run 2 ?_
    refine run 1 ?_
    refine fin [3, 9, 10, 11] [] ?_
    repeat (refine AW_seq ?_)
    refine AW_block ?_
    have e0 : ((manyN p 0 : Nat) : Int) = 0 := rfl
    refine AW_loops (ι := Nat) (fun i => ⟨lk [(3, .c (iPV (manyN p i))), (9, .c (.sl (p.map iPV))), (10, .c (iPV p.length)), (11, .c (iPV i))], lkM [], lkG [] 0⟩) (fun i => i ≤ p.length) (fun i => p.length - i) 0 (Nat.zero_le _) wk ?_
    rintro i hi
    have bm := manyN_le p i
    obtain ⟨m, em⟩ : ∃ m, manyN p i = m := ⟨_, rfl⟩
    rw [em] at bm ⊢
    obtain ⟨em, -⟩ : Go.RowKit.Hid (manyN p i = m) ∧ True := ⟨em, trivial⟩
    rename_i em0
    clear em0
    repeat (refine AW_seq ?_)
    refine reg ?_
    refine run 1 ?_
    refine fin [3, 9, 10, 11, 12] [] ?_
    repeat (refine AW_seq ?_)
    refine tst (fun h2 => ?_) (fun h2 => ?_)
    · simp at h2
      obtain ⟨x, hx, gx⟩ := getD_at h2
      refine AW_skip ?_
      repeat (refine AW_seq ?_)
      refine AW_block ?_
      repeat (refine AW_seq ?_)
      refine reg ?_
      refine run 2 ?_
      refine run 2 ?_
      refine run 1 ?_
      refine fin [3, 4, 5, 9, 10, 11] [] ?_
      repeat (refine AW_seq ?_)
      refine reg ?_
      refine run 2 ?_
      refine run 1 ?_
      refine fin [3, 9, 10, 11, 18] [] ?_
      repeat (refine AW_seq ?_)
      refine tst (fun h3 => ?_) (fun h3 => ?_)
      · simp at h3
        repeat (refine AW_seq ?_)
        refine reg ?_
        refine run 2 ?_
        refine run 1 ?_
        refine finN ?_
        refine kp [3, 9, 10, 11] [] ?_
        repeat (refine AW_seq ?_)
        refine reg ?_
        refine run 2 ?_
        refine finN ?_
        have e1 : ((manyN p (i + 1) : Nat) : Int) = (m : Int) + 1 := by rw [manyN, if_pos (by rw [gx]; exact h3.symm), em.out]; omega
        exact ⟨i + 1, by omega, by omega, wk⟩
      · simp at h3
        refine AW_skip ?_
        repeat (refine AW_seq ?_)
        refine reg ?_
        refine run 2 ?_
        refine finN ?_
        have e1 : ((manyN p (i + 1) : Nat) : Int) = (m : Int) := by rw [manyN, if_neg (by rw [gx]; omega), em.out]
        exact ⟨i + 1, by omega, by omega, wk⟩
    · simp at h2
      refine AW_exit ?_
      repeat (refine AW_seq ?_)
      refine reg ?_
      refine run 2 ?_
      refine fin [2] [] ?_
      refine AW_ret (ret ?_)
      have e1 : i = p.length := by omega
      rw [manyR, if_pos h1, ← e1, em.out]; rfl

end Go.Proofs.Ytlhgjaogpeoaeaa