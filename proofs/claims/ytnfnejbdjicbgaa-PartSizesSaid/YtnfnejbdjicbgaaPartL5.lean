/-
  The law of all classes together, and of refinement, on plain data.
  Conditions: none.
-/
import Derived.Test.YtnfnejbdjicbgaaPartL4
namespace Go.Proofs.Ytnfnejbdjicbgaa
open Go Go.Ab
set_option linter.unusedVariables false
set_option linter.unusedSimpArgs false

/-- how often each vertex has been seen, once the classes that begin below i are gone through -/
def Seen (p : List Int) (i : Nat) (S : List Int) : Prop := S.length = p.length ∧ ∀ v : Nat, v < p.length → S.getD v default = if p.getD v default < (i : Int) then 1 else 0
/-- the same, within the class that begins with i -/
def SeenIn (p C : List Int) (i k : Nat) (S : List Int) : Prop := S.length = p.length ∧ ∀ v : Nat, v < p.length → S.getD v default = if p.getD v default < (i : Int) ∨ (v : Int) ∈ C.take k then 1 else 0
theorem seen_start {p : List Int} (hR : IsR p) : Seen p 0 (List.replicate p.length 0) := ⟨List.length_replicate, fun v hv => by
  have := (hR v hv).1
  rw [getD_rep, if_neg (by omega)]⟩
theorem seen_skip {p S : List Int} {i : Nat} (hR : IsR p) (h : Seen p i S) (hn : p.getD i default ≠ (i : Int)) : Seen p (i + 1) S := ⟨h.1, fun v hv => by
  obtain ⟨a, ga, ba⟩ := isR_nat hR hv
  have ra := (hR v hv).2.2
  rw [ga, Int.toNat_natCast] at ra
  rw [h.2 v hv, ga]
  have : a ≠ i := fun e => hn (by rw [← e]; exact ra)
  split <;> split <;> omega⟩
theorem seen_in {p S C : List Int} {i : Nat} (h : Seen p i S) : SeenIn p C i 0 S := ⟨h.1, fun v hv => by
  rw [h.2 v hv]; simp⟩
theorem seen_zero {p S C : List Int} {i k : Nat} {m : Nat} (hOK : ClsOK p i C) (hi : p.getD i default = (i : Int)) (h : SeenIn p C i k S) (hk : k < C.length) (hm : C.getD k default = (m : Int)) : m < p.length ∧ S.getD m default = 0 := by
  have h1 := (hOK.mem (C.getD k default)).1 (getD_mem hk)
  obtain ⟨j, hj, e, hj2⟩ := h1
  rw [hm] at e
  obtain rfl : m = j := by omega
  refine ⟨hj, ?_⟩
  rw [h.2 m hj, if_neg]
  rw [hj2, hi]
  rintro (h3 | h3)
  · omega
  · obtain ⟨t, ht⟩ := List.getElem?_of_mem h3
    rw [List.getElem?_take] at ht
    by_cases h4 : t < k
    · rw [if_pos h4] at ht
      have := sorted_lt hOK.sorted h4 hk
      rw [hm, List.getD_eq_getElem?_getD, ht] at this
      simp at this
    · rw [if_neg h4] at ht; cases ht
theorem seen_step {p S C : List Int} {i k : Nat} {m : Nat} (h : SeenIn p C i k S) (hm : C[k]? = some (m : Int)) (hml : m < p.length) : SeenIn p C i (k + 1) (S.set m 1) := ⟨by rw [List.length_set, h.1], fun v hv => by
  rw [getD_set (by rw [h.1]; exact hml), List.take_add_one, hm]
  by_cases e : m = v
  · subst e; simp
  · rw [if_neg e, h.2 v hv]
    have : (v : Int) ≠ (m : Int) := by omega
    simp [this]⟩
theorem seen_all {p S C : List Int} {i k : Nat} (hOK : ClsOK p i C) (hi : p.getD i default = (i : Int)) (h : SeenIn p C i k S) (hk : C.length ≤ k) : Seen p (i + 1) S := ⟨h.1, fun v hv => by
  rw [h.2 v hv, List.take_of_length_le hk]
  have : (p.getD v default < (i : Int) ∨ (v : Int) ∈ C) ↔ p.getD v default < ((i + 1 : Nat) : Int) := by
    rw [hOK.mem, hi]
    constructor
    · rintro (h1 | ⟨j, h1, h2, h3⟩)
      · omega
      · obtain rfl : v = j := by omega
        omega
    · intro h1
      by_cases h2 : p.getD v default = (i : Int)
      · exact .inr ⟨v, hv, rfl, h2⟩
      · exact .inl (by omega)
  simp only [this]⟩
theorem seen_end {p S : List Int} {i v : Nat} (hR : IsR p) (h : Seen p i S) (hi : p.length ≤ i) (hv : v < p.length) : S.getD v default = 1 := by
  rw [h.2 v hv, if_pos]
  have := (hR v hv).2.1
  omega
theorem refP_trans {p q r : List Int} (h1 : RefP p q) (h2 : RefP q r) : RefP p r := by
  refine ⟨h1.1.trans h2.1, h1.2.1, h2.2.2.1, fun i hi => ?_⟩
  obtain ⟨a, ga, ba⟩ := isR_nat h1.2.1 hi
  have l1 := h1.1
  have e1 := h1.2.2.2 i hi
  have e2 := h2.2.2.2 i (by omega)
  rw [ga, Int.toNat_natCast] at e1 ⊢
  have e3 := h2.2.2.2 a (by omega)
  rw [e2, e3, e1]
theorem refP_anti {p q : List Int} (h1 : RefP p q) (h2 : RefP q p) : p = q := by
  refine ext_getD h1.1 fun i hi => ?_
  have l1 := h1.1
  obtain ⟨a, ga, ba⟩ := isR_nat h1.2.1 hi
  obtain ⟨b, gb, bb⟩ := isR_nat h2.2.1 (i := i) (by omega)
  have e1 := h1.2.2.2 i hi
  have e2 := h2.2.2.2 i (by omega)
  rw [ga, gb, Int.toNat_natCast] at e1
  rw [gb, ga, Int.toNat_natCast] at e2
  have b1 := (h1.2.2.1 a (by omega)).2.1
  have b2 := (h2.2.2.1 b (by omega)).2.1
  rw [ga, gb]
  omega
theorem refP_self {p : List Int} (h : IsR p) : RefP p p := ⟨rfl, h, h, fun i hi => (h i hi).2.2.symm⟩

theorem partSizes_big (p q r : List Int) (h : (60 < p.length ∨ 60 < q.length ∨ 60 < r.length)) : ACalls Try.prog 5 [.sl (p.map iPV), .sl (q.map iPV), .sl (r.map iPV)] (bPV true) := by
  refine ent Try.func5 ?_
  have hB : (decide (60 < (p.length : Int)) || decide (60 < (q.length : Int)) || decide (60 < (r.length : Int))) = true := by
    simp only [Bool.or_eq_true, decide_eq_true_eq]; omega
  repeat (refine AW_seq ?_)
  refine reg ?_
  refine run 1 ?_
  refine fin [0, 1, 2] [] ?_
  repeat (refine AW_seq ?_)
  refine reg ?_
  refine run 2 ?_
  refine run 2 ?_
  refine run 2 ?_
  refine run 2 ?_
  refine run 2 ?_
  refine run 2 ?_
  refine run 2 ?_
  refine run 1 ?_
  refine skpV (.c (.v (.bool false))) ?_
  refine run 2 ?_
  refine run 2 ?_
  refine skpV (.c (.v (.bool false))) ?_
  refine run 2 ?_
  refine run 2 ?_
  refine skpV (.c (.v (.bool false))) ?_
  refine run 2 ?_
  refine fin [0, 1, 2, 45] [] ?_
  repeat (refine AW_seq ?_)
  refine tstT ?_
  repeat (refine AW_seq ?_)
  refine reg ?_
  refine call (fun _ => awake_true) ?_
  refine run 1 ?_
  refine fin [6] [] ?_
  refine AW_ret (ret ?_)
  rfl

set_option maxHeartbeats 4000000 in
theorem partSizes_any (p q r : List Int) : ACalls Try.prog 5 [.sl (p.map iPV), .sl (q.map iPV), .sl (r.map iPV)] (bPV true) := by
  by_cases hb : (60 < p.length ∨ 60 < q.length ∨ 60 < r.length)
  · exact partSizes_big p q r hb
  refine ent Try.func5 ?_
  have b1 : p.length ≤ 60 := by omega
  have b2 : q.length ≤ 60 := by omega
  have b3 : r.length ≤ 60 := by omega
  clear hb
  have c1 := right_any p (by omega)
  have c2 := right_any q (by omega)
  have c3 := right_any r (by omega)
  have hr0 : (List.replicate p.length (0 : Int)).map iPV = List.replicate p.length (PV.v (.int .i64 0)) := by rw [List.map_replicate]; rfl
  repeat (refine AW_seq ?_)
  refine reg ?_
  refine run 1 ?_
  refine fin [0, 1, 2] [] ?_
  repeat (refine AW_seq ?_)
  refine reg ?_
  refine run 2 ?_
  refine run 2 ?_
  refine run 2 ?_
  refine run 2 ?_
  refine run 2 ?_
  refine run 2 ?_
  refine run 2 ?_
  refine run 1 ?_
  refine call (fun _ => c1) ?_
  refine run 2 ?_
  refine run 2 ?_
  refine call (fun _ => c2) ?_
  refine run 2 ?_
  refine run 2 ?_
  refine call (fun _ => c3) ?_
  refine run 2 ?_
  refine fin [0, 1, 2, 45] [] ?_
  repeat (refine AW_seq ?_)
  refine tst (fun h1 => ?_) (fun h1 => ?_)
  · simp at h1
    repeat (refine AW_seq ?_)
    refine reg ?_
    refine call (fun _ => awake_true) ?_
    refine run 1 ?_
    refine fin [6] [] ?_
    refine AW_ret (ret ?_)
    rfl
  · simp at h1
    have hR : IsR p := by grind
    have hRq : IsR q := by grind
    have hRr : IsR r := by grind
    clear h1 c1 c2 c3
    obtain ⟨hR, -⟩ : Go.RowKit.Hid (IsR p) ∧ True := ⟨hR, trivial⟩
    rename_i hR0
    clear hR0
    obtain ⟨hRq, -⟩ : Go.RowKit.Hid (IsR q) ∧ True := ⟨hRq, trivial⟩
    rename_i hRq0
    clear hRq0
    obtain ⟨hRr, -⟩ : Go.RowKit.Hid (IsR r) ∧ True := ⟨hRr, trivial⟩
    rename_i hRr0
    clear hRr0
    refine AW_skip ?_
    repeat (refine AW_seq ?_)
    refine reg ?_
    refine run 2 ?_
    refine run 2 ?_
    refine fin [0, 1, 2, 7] [(50, 0)] ?_
    repeat (refine AW_seq ?_)
    refine reg ?_
    refine run 1 ?_
    refine fin [0, 1, 2, 7, 8] [(50, 0)] ?_
    repeat (refine AW_seq ?_)
    refine reg ?_
    refine run 2 ?_
    refine run 1 ?_
    refine fin [0, 1, 2, 7, 8, 50, 51, 52] [(50, 0)] ?_
    repeat (refine AW_seq ?_)
    refine AW_block ?_
    have e0 : ((manyN p 0 : Nat) : Int) = 0 := rfl
    refine AW_loops (ι := Nat × List Int) (fun z => ⟨lk [(0, .c (.sl (p.map iPV))), (1, .c (.sl (q.map iPV))), (2, .c (.sl (r.map iPV))), (7, .own (50, 0) z.2.length), (8, .c (iPV (manyN p z.1))), (50, .c (.sl (p.map iPV))), (51, .c (iPV p.length)), (52, .c (iPV z.1))], lkM [((50, 0), some ⟨3, 1, (z.2).map iPV, true, [], none⟩)], lkG [] 1⟩) (fun z => z.1 ≤ p.length ∧ z.2.length = p.length ∧ Seen p z.1 z.2) (fun z => p.length - z.1) (0, List.replicate p.length 0) ⟨Nat.zero_le _, List.length_replicate, seen_start hR.out⟩ wk ?_
    rintro ⟨i, S⟩ ⟨hi, hSl, hS⟩
    simp only at hi hSl hS
    have bm := manyN_le p i
    obtain ⟨m, em⟩ : ∃ m, manyN p i = m := ⟨_, rfl⟩
    rw [em] at bm
    have em0 : ((manyN p i : Nat) : Int) = (m : Int) := by rw [em]
    obtain ⟨em, -⟩ : Go.RowKit.Hid (manyN p i = m) ∧ True := ⟨em, trivial⟩
    rename_i em0
    clear em0
    obtain ⟨hS, -⟩ : Go.RowKit.Hid (Seen p i S) ∧ True := ⟨hS, trivial⟩
    rename_i hS0
    clear hS0
    repeat (refine AW_seq ?_)
    refine reg ?_
    refine run 1 ?_
    refine fin [0, 1, 2, 7, 8, 50, 51, 52, 53] [(50, 0)] ?_
    repeat (refine AW_seq ?_)
    refine tst (fun h2 => ?_) (fun h2 => ?_)
    · simp at h2
      obtain ⟨x, gx, bx⟩ := isR_nat hR.out (i := i) (by omega)
      refine AW_skip ?_
      repeat (refine AW_seq ?_)
      refine AW_block ?_
      repeat (refine AW_seq ?_)
      refine reg ?_
      refine run 2 ?_
      refine run 2 ?_
      refine run 1 ?_
      refine fin [0, 1, 2, 7, 8, 9, 10, 50, 51, 52] [(50, 0)] ?_
      repeat (refine AW_seq ?_)
      refine reg ?_
      refine run 2 ?_
      refine run 1 ?_
      refine fin [0, 1, 2, 7, 8, 9, 50, 51, 52, 59] [(50, 0)] ?_
      repeat (refine AW_seq ?_)
      refine tst (fun h3 => ?_) (fun h3 => ?_)
      · simp at h3
        refine AW_exit ?_
        repeat (refine AW_seq ?_)
        refine reg ?_
        refine run 2 ?_
        refine finN ?_
        have e1 : ((manyN p (i + 1) : Nat) : Int) = (m : Int) := by rw [manyN, if_neg (by rw [gx]; omega), em.out]
        exact ⟨(i + 1, S), by show p.length - (i + 1) < p.length - i; omega, ⟨by show i + 1 ≤ _; omega, hSl, seen_skip hR.out hS.out (by rw [gx]; omega)⟩, wk⟩
      · simp at h3
        have hpi : p.getD i default = (i : Int) := by rw [gx]; omega
        obtain rfl : i = x := by omega
        have e1 : ((manyN p (i + 1) : Nat) : Int) = (m : Int) + 1 := by rw [manyN, if_pos hpi, em.out]; omega
        have c4 := class_any p i (by omega)
        have hOK := clsOK hR.out (v := i) (by omega)
        obtain ⟨C, eC⟩ : ∃ zz, clsR p i = zz := ⟨_, rfl⟩
        rw [eC] at c4 hOK
        have bC := hOK.len
        clear eC
        obtain ⟨hpi, -⟩ : Go.RowKit.Hid (p.getD i default = (i : Int)) ∧ True := ⟨hpi, trivial⟩
        rename_i hpi0
        clear hpi0
        obtain ⟨hOK, -⟩ : Go.RowKit.Hid (ClsOK p i C) ∧ True := ⟨hOK, trivial⟩
        rename_i hOK0
        clear hOK0
        refine AW_skip ?_
        repeat (refine AW_seq ?_)
        refine reg ?_
        refine run 2 ?_
        refine run 1 ?_
        refine fin [0, 1, 2, 7, 8, 9, 50, 51, 52] [(50, 0)] ?_
        repeat (refine AW_seq ?_)
        refine reg ?_
        refine run 2 ?_
        refine call (fun _ => c4) ?_
        refine run 2 ?_
        refine fin [0, 1, 2, 7, 8, 50, 51, 52, 64, 65, 66] [(50, 0)] ?_
        repeat (refine AW_seq ?_)
        refine AW_block ?_
        refine AW_loops (ι := Nat × List Int) (fun z => ⟨lk [(0, .c (.sl (p.map iPV))), (1, .c (.sl (q.map iPV))), (2, .c (.sl (r.map iPV))), (7, .own (50, 0) z.2.length), (8, .c (iPV (manyN p (i + 1)))), (50, .c (.sl (p.map iPV))), (51, .c (iPV p.length)), (52, .c (iPV i)), (64, .c (.sl (C.map iPV))), (65, .c (iPV C.length)), (66, .c (iPV z.1))], lkM [((50, 0), some ⟨3, 1, (z.2).map iPV, true, [], none⟩)], lkG [] 1⟩) (fun z => z.1 ≤ C.length ∧ z.2.length = p.length ∧ SeenIn p C i z.1 z.2) (fun z => C.length - z.1) (0, S) ⟨Nat.zero_le _, hSl, seen_in hS.out⟩ wk ?_
        rintro ⟨k, S2⟩ ⟨hk, hS2l, hS2⟩
        simp only at hk hS2l hS2
        obtain ⟨hS2, -⟩ : Go.RowKit.Hid (SeenIn p C i k S2) ∧ True := ⟨hS2, trivial⟩
        rename_i hS20
        clear hS20
        repeat (refine AW_seq ?_)
        refine reg ?_
        refine run 1 ?_
        refine fin [0, 1, 2, 7, 8, 50, 51, 52, 64, 65, 66, 67] [(50, 0)] ?_
        repeat (refine AW_seq ?_)
        refine tst (fun h4 => ?_) (fun h4 => ?_)
        · simp at h4
          obtain ⟨y, hx, gy⟩ := getD_at (l := C) (i := k) (by omega)
          obtain ⟨n, rfl⟩ : ∃ n : Nat, y = n := by
            obtain ⟨j, -, e, -⟩ := (hOK.out.mem y).1 (List.mem_of_getElem? hx)
            exact ⟨j, e⟩
          obtain ⟨bn, gz⟩ := seen_zero hOK.out hpi.out hS2.out (by omega) gy
          obtain ⟨S3, eS3⟩ : ∃ zz, S2.set n (1 : Int) = zz := ⟨_, rfl⟩
          have mS3 : (S2.map iPV).set n (PV.v (.int .i64 1)) = S3.map iPV := by rw [← eS3, List.map_set]; rfl
          have lS3 : S3.length = S2.length := by rw [← eS3, List.length_set]
          have hn0 : (decide ((n : Int) < 0) || decide ((p.length : Int) ≤ (n : Int))) = false := by simp; omega
          obtain ⟨hx2, -⟩ : Go.RowKit.Hid (C[k]? = some (n : Int)) ∧ True := ⟨hx, trivial⟩
          clear hx
          obtain ⟨eS3, -⟩ : Go.RowKit.Hid (S2.set n (1 : Int) = S3) ∧ True := ⟨eS3, trivial⟩
          rename_i eS30
          clear eS30
          refine AW_skip ?_
          repeat (refine AW_seq ?_)
          refine AW_block ?_
          repeat (refine AW_seq ?_)
          refine reg ?_
          refine run 2 ?_
          refine run 1 ?_
          refine fin [0, 1, 2, 7, 8, 12, 50, 51, 52, 64, 65, 66] [(50, 0)] ?_
          repeat (refine AW_seq ?_)
          refine reg ?_
          refine run 2 ?_
          refine run 2 ?_
          refine run 2 ?_
          refine run 2 ?_
          refine fin [0, 1, 2, 7, 8, 12, 50, 51, 52, 64, 65, 66, 77] [(50, 0)] ?_
          repeat (refine AW_seq ?_)
          refine tstF ?_
          refine AW_skip ?_
          repeat (refine AW_seq ?_)
          refine reg ?_
          refine run 2 ?_
          refine run 2 ?_
          refine run 2 ?_
          refine run 1 ?_
          refine finN ?_
          refine kp [0, 1, 2, 7, 8, 50, 51, 52, 64, 65, 66] [(50, 0)] ?_
          repeat (refine AW_seq ?_)
          refine reg ?_
          refine run 2 ?_
          refine finN ?_
          exact ⟨(k + 1, S3), by show C.length - (k + 1) < C.length - k; omega, ⟨by show k + 1 ≤ _; omega, by show S3.length = _; omega, by show SeenIn p C i (k + 1) S3; rw [← eS3.out]; exact seen_step hS2.out hx2.out bn⟩, wk⟩
        · simp at h4
          refine AW_exit ?_
          repeat (refine AW_seq ?_)
          refine reg ?_
          refine run 2 ?_
          refine finN ?_
          exact ⟨(i + 1, S2), by show p.length - (i + 1) < p.length - i; omega, ⟨by show i + 1 ≤ _; omega, hS2l, seen_all hOK.out hpi.out hS2.out (by omega)⟩, wk⟩
    · simp at h2
      have hil : i = p.length := by omega
      have hone : ∀ v, v < p.length → S.getD v default = 1 := fun v hv => seen_end hR.out hS.out (by omega) hv
      have c5 := many_any p (by omega)
      rw [manyR, if_pos hR.out, ← hil, em.out] at c5
      have r1 := refines_any p q (by omega) (by omega)
      have r2 := refines_any q r (by omega) (by omega)
      have r3 := refines_any p r (by omega) (by omega)
      have r4 := refines_any q p (by omega) (by omega)
      have s1 := same_any p q (by omega) (by omega)
      have hT : ((!decide (RefP p q) || !decide (RefP q r)) || decide (RefP p r)) = true := by
        by_cases g1 : RefP p q <;> by_cases g2 : RefP q r <;> simp [g1, g2]
        exact refP_trans g1 g2
      have hD : (decide (RefP p q) && decide (RefP q p)) = decide (p = q) := by
        by_cases g : p = q
        · subst g; simp [refP_self hR.out]
        · simp [g]; exact fun g1 g2 => g (refP_anti g1 g2)
      obtain ⟨ra, era⟩ : ∃ zz, decide (RefP p q) = zz := ⟨_, rfl⟩
      rw [era] at r1 hT hD
      obtain ⟨rb, erb⟩ : ∃ zz, decide (RefP q r) = zz := ⟨_, rfl⟩
      rw [erb] at r2 hT
      obtain ⟨rc, erc⟩ : ∃ zz, decide (RefP p r) = zz := ⟨_, rfl⟩
      rw [erc] at r3 hT
      obtain ⟨rd, erd⟩ : ∃ zz, decide (RefP q p) = zz := ⟨_, rfl⟩
      rw [erd] at r4 hD
      obtain ⟨re, ere⟩ : ∃ zz, decide (p = q) = zz := ⟨_, rfl⟩
      rw [ere] at s1 hD
      obtain ⟨hone, -⟩ : Go.RowKit.Hid (∀ v, v < p.length → S.getD v default = 1) ∧ True := ⟨hone, trivial⟩
      rename_i hone0
      clear hone0
      obtain ⟨hT, -⟩ : Go.RowKit.Hid (((!ra || !rb) || rc) = true) ∧ True := ⟨hT, trivial⟩
      rename_i hT0
      clear hT0
      obtain ⟨hD, -⟩ : Go.RowKit.Hid ((ra && rd) = re) ∧ True := ⟨hD, trivial⟩
      rename_i hD0
      clear hD0
      clear era erb erc erd ere hil
      refine AW_exit ?_
      repeat (refine AW_seq ?_)
      refine reg ?_
      refine run 2 ?_
      refine run 1 ?_
      refine fin [0, 1, 2, 8, 86, 87, 88] [(50, 0)] ?_
      repeat (refine AW_seq ?_)
      refine AW_block ?_
      refine AW_loops (ι := Nat) (fun w => ⟨lk [(0, .c (.sl (p.map iPV))), (1, .c (.sl (q.map iPV))), (2, .c (.sl (r.map iPV))), (8, .c (iPV m)), (86, .own (50, 0) S.length), (87, .c (iPV p.length)), (88, .c (iPV w))], lkM [((50, 0), some ⟨3, 1, (S).map iPV, true, [], none⟩)], lkG [] 1⟩) (fun w => w ≤ p.length) (fun w => p.length - w) 0 (Nat.zero_le _) wk ?_
      rintro w hw
      repeat (refine AW_seq ?_)
      refine reg ?_
      refine run 1 ?_
      refine fin [0, 1, 2, 8, 86, 87, 88, 89] [(50, 0)] ?_
      repeat (refine AW_seq ?_)
      refine tst (fun h6 => ?_) (fun h6 => ?_)
      · simp at h6
        have gy := hone.out w (by omega)
        refine AW_skip ?_
        repeat (refine AW_seq ?_)
        refine AW_block ?_
        repeat (refine AW_seq ?_)
        refine reg ?_
        refine run 2 ?_
        refine run 1 ?_
        refine fin [0, 1, 2, 8, 14, 86, 87, 88] [(50, 0)] ?_
        repeat (refine AW_seq ?_)
        refine reg ?_
        refine run 2 ?_
        refine fin [0, 1, 2, 8, 86, 87, 88, 93] [(50, 0)] ?_
        repeat (refine AW_seq ?_)
        refine tstF ?_
        refine AW_skip ?_
        repeat (refine AW_seq ?_)
        refine reg ?_
        refine run 2 ?_
        refine finN ?_
        exact ⟨w + 1, by omega, by omega, wk⟩
      · simp at h6
        refine AW_exit ?_
        repeat (refine AW_seq ?_)
        refine reg ?_
        refine run 2 ?_
        refine call (fun _ => r1) ?_
        refine run 2 ?_
        refine call (fun _ => r2) ?_
        refine run 2 ?_
        refine call (fun _ => r3) ?_
        refine run 2 ?_
        refine run 1 ?_
        refine fin [0, 1, 8, 15, 16, 17] [] ?_
        repeat (refine AW_seq ?_)
        refine reg ?_
        refine run 2 ?_
        refine call (fun _ => c5) ?_
        refine run 2 ?_
        refine run 2 ?_
        refine run 2 ?_
        refine run 2 ?_
        refine run 2 ?_
        refine run 2 ?_
        refine run 2 ?_
        refine run 2 ?_
        refine run 1 ?_
        refine call (fun _ => r4) ?_
        refine run 2 ?_
        refine run 1 ?_
        refine call (fun _ => s1) ?_
        refine run 2 ?_
        refine run 1 ?_
        refine call (fun _ => awake_true) ?_
        refine run 2 ?_
        refine fin [6] [] ?_
        refine AW_ret (ret ?_)
        refine congrArg bPV ?_
        rw [hT.out, hD.out]
        simp

end Go.Proofs.Ytnfnejbdjicbgaa