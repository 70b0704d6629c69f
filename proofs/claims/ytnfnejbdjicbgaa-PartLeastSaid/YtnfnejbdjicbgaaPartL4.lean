/-
  The law of a class's least vertex, on plain data.
  Conditions: none.
-/
import Derived.Test.YtnfnejbdjicbgaaPartL3
namespace Go.Proofs.Ytnfnejbdjicbgaa
open Go Go.Ab
set_option linter.unusedVariables false
set_option linter.unusedSimpArgs false

theorem clsN_sorted (p : List Int) (x : Int) : ∀ i, (clsN p x i).Pairwise (· < ·)
  | 0 => List.Pairwise.nil
  | i + 1 => by
    rw [clsN]
    split
    · refine List.pairwise_append.2 ⟨clsN_sorted p x i, List.pairwise_singleton _ _, fun a ha b hb => ?_⟩
      rw [List.mem_singleton] at hb
      obtain ⟨k, h1, h2, -⟩ := clsN_mem.1 ha
      omega
    · exact clsN_sorted p x i
/-- what a class of a partition is -/
structure ClsOK (p : List Int) (v : Nat) (C : List Int) : Prop where
  len : C.length ≤ p.length
  pos : 0 < C.length
  sorted : C.Pairwise (· < ·)
  first : C.getD 0 default = p.getD v default
  mem : ∀ w : Int, w ∈ C ↔ ∃ k : Nat, k < p.length ∧ w = k ∧ p.getD k default = p.getD v default
theorem sorted_lt {C : List Int} (h : C.Pairwise (· < ·)) {i j : Nat} (hij : i < j) (hj : j < C.length) : C.getD i default < C.getD j default := by
  have := List.pairwise_iff_getElem.1 h i j (by omega) hj hij
  rwa [List.getD_eq_getElem?_getD, List.getD_eq_getElem?_getD, List.getElem?_eq_getElem hj, List.getElem?_eq_getElem (by omega)]
theorem getD_mem {C : List Int} {i : Nat} (h : i < C.length) : C.getD i default ∈ C := by
  rw [List.getD_eq_getElem?_getD, List.getElem?_eq_getElem h]; exact List.getElem_mem h
theorem clsOK {p : List Int} (hR : IsR p) {v : Nat} (hv : v < p.length) : ClsOK p v (clsR p v) := by
  have hc : clsR p v = clsN p (p.getD v default) p.length := by
    unfold clsR
    rw [if_pos ⟨hR, by omega, by omega⟩]; rfl
  obtain ⟨a, ga, ba⟩ := isR_nat hR hv
  have ra := (hR v hv).2.2
  rw [ga, Int.toNat_natCast] at ra
  have hm : (a : Int) ∈ clsR p v := by
    rw [hc]; exact clsN_mem.2 ⟨a, by omega, rfl, by rw [ra, ga]⟩
  have hpos : 0 < (clsR p v).length := List.length_pos_of_mem hm
  refine ⟨clsR_len p v, hpos, by rw [hc]; exact clsN_sorted _ _ _, ?_, fun w => by rw [hc]; exact clsN_mem⟩
  obtain ⟨k, hk⟩ := List.getElem?_of_mem hm
  have hk1 := (List.getElem?_eq_some_iff.1 hk).1
  have hk2 : (clsR p v).getD k default = (a : Int) := by rw [List.getD_eq_getElem?_getD, hk]; rfl
  have h0 := getD_mem hpos
  rw [hc] at h0
  obtain ⟨j, hj1, hj2, hj3⟩ := clsN_mem.1 h0
  rw [← hc] at hj2
  have hb := (hR j hj1).2.1
  rw [hj3, ga] at hb
  rw [ga]
  rcases Nat.eq_zero_or_pos k with e | e
  · rw [← hk2, e]
  · have := sorted_lt (by rw [hc]; exact clsN_sorted _ _ _ : (clsR p v).Pairwise (· < ·)) e hk1
    rw [hk2, hj2] at this
    omega
theorem cls_eq {p : List Int} (hR : IsR p) {v w : Nat} (hv : v < p.length) (hw : w < p.length) : decide (clsR p w = clsR p v) = decide (p.getD v default = p.getD w default) := by
  have h1 := (clsOK hR hv).first
  have h2 := (clsOK hR hw).first
  have : clsR p w = clsR p v ↔ p.getD v default = p.getD w default := by
    constructor
    · intro e; rw [e] at h2; rw [← h1, h2]
    · intro e
      unfold clsR
      rw [if_pos ⟨hR, by omega, by omega⟩, if_pos ⟨hR, by omega, by omega⟩, at0_nat, at0_nat, e]
  simp only [this]
theorem mem_take_succ {C : List Int} {k : Nat} {x w : Int} (h : C[k]? = some x) : decide (w ∈ C.take (k + 1)) = (decide (w ∈ C.take k) || decide (x = w)) := by
  rw [List.take_add_one, h]
  simp [eq_comm]

theorem partLeast_big (p : List Int) (h : 60 < p.length) : ACalls Try.prog 7 [.sl (p.map iPV)] (bPV true) := by
  refine ent Try.func7 ?_
  have hB : decide (60 < (p.length : Int)) = true := by simp; omega
  repeat (refine AW_seq ?_)
  refine reg ?_
  refine run 1 ?_
  refine fin [0] [] ?_
  repeat (refine AW_seq ?_)
  refine reg ?_
  refine run 2 ?_
  refine run 2 ?_
  refine run 1 ?_
  refine skpV (.c (.v (.bool false))) ?_
  refine run 2 ?_
  refine fin [0, 16] [] ?_
  repeat (refine AW_seq ?_)
  refine tstT ?_
  repeat (refine AW_seq ?_)
  refine reg ?_
  refine call (fun _ => awake_true) ?_
  refine run 1 ?_
  refine fin [2] [] ?_
  refine AW_ret (ret ?_)
  rfl

theorem partLeast_any (p : List Int) : ACalls Try.prog 7 [.sl (p.map iPV)] (bPV true) := by
  by_cases hlp : 60 < p.length
  · exact partLeast_big p hlp
  refine ent Try.func7 ?_
  have c0 := right_any p (by omega)
  have h00 : ((0 : Nat) : Int) = 0 := rfl
  repeat (refine AW_seq ?_)
  refine reg ?_
  refine run 1 ?_
  refine fin [0] [] ?_
  repeat (refine AW_seq ?_)
  refine reg ?_
  refine run 2 ?_
  refine run 2 ?_
  refine run 1 ?_
  refine call (fun _ => c0) ?_
  refine run 2 ?_
  refine fin [0, 16] [] ?_
  repeat (refine AW_seq ?_)
  refine tst (fun h1 => ?_) (fun h1 => ?_)
  · simp at h1
    repeat (refine AW_seq ?_)
    refine reg ?_
    refine call (fun _ => awake_true) ?_
    refine run 1 ?_
    refine fin [2] [] ?_
    refine AW_ret (ret ?_)
    rfl
  · simp at h1
    have hR : IsR p := by grind
    clear h1 c0
    obtain ⟨hR, -⟩ : Go.RowKit.Hid (IsR p) ∧ True := ⟨hR, trivial⟩
    rename_i hR0
    clear hR0
    refine AW_skip ?_
    repeat (refine AW_seq ?_)
    refine reg ?_
    refine run 2 ?_
    refine run 1 ?_
    refine fin [0, 19, 20] [] ?_
    repeat (refine AW_seq ?_)
    refine AW_block ?_
    refine AW_loops (ι := Nat) (fun i => ⟨lk [(0, .c (.sl (p.map iPV))), (19, .c (iPV p.length)), (20, .c (iPV i))], lkM [], lkG [] 0⟩) (fun i => i ≤ p.length) (fun i => p.length - i) 0 (Nat.zero_le _) wk ?_
    rintro i hi
    repeat (refine AW_seq ?_)
    refine reg ?_
    refine run 1 ?_
    refine fin [0, 19, 20, 21] [] ?_
    repeat (refine AW_seq ?_)
    refine tst (fun h2 => ?_) (fun h2 => ?_)
    · simp at h2
      have c1 := class_any p i (by omega)
      have hOK := clsOK hR.out (v := i) (by omega)
      obtain ⟨C, eC⟩ : ∃ zz, clsR p i = zz := ⟨_, rfl⟩
      rw [eC] at c1 hOK
      have bC := hOK.len
      obtain ⟨z, gz⟩ : ∃ zz, p.getD i default = zz := ⟨_, rfl⟩
      have g0 := hOK.first
      rw [gz] at g0
      obtain ⟨hOK, -⟩ : Go.RowKit.Hid (ClsOK p i C) ∧ True := ⟨hOK, trivial⟩
      rename_i hOK0
      clear hOK0
      obtain ⟨eC, -⟩ : Go.RowKit.Hid (clsR p i = C) ∧ True := ⟨eC, trivial⟩
      rename_i eC0
      clear eC0
      refine AW_skip ?_
      repeat (refine AW_seq ?_)
      refine AW_block ?_
      repeat (refine AW_seq ?_)
      refine reg ?_
      refine run 2 ?_
      refine fin [0, 3, 19, 20] [] ?_
      repeat (refine AW_seq ?_)
      refine reg ?_
      refine run 2 ?_
      refine call (fun _ => c1) ?_
      refine run 1 ?_
      refine fin [0, 3, 4, 19, 20] [] ?_
      repeat (refine AW_seq ?_)
      refine reg ?_
      refine run 1 ?_
      refine fin [0, 3, 4, 5, 19, 20] [] ?_
      repeat (refine AW_seq ?_)
      refine reg ?_
      refine run 2 ?_
      refine run 1 ?_
      refine fin [0, 3, 4, 5, 19, 20, 26, 27, 28] [] ?_
      repeat (refine AW_seq ?_)
      refine AW_block ?_
      have e0 : decide ((i : Int) ∈ C.take 0) = false := by simp
      refine AW_loops (ι := Nat) (fun k => ⟨lk [(0, .c (.sl (p.map iPV))), (3, .c (iPV i)), (4, .c (.sl (C.map iPV))), (5, .c (.v (.bool (decide ((i : Int) ∈ C.take k))))), (19, .c (iPV p.length)), (20, .c (iPV i)), (26, .c (.sl (C.map iPV))), (27, .c (iPV C.length)), (28, .c (iPV k))], lkM [], lkG [] 0⟩) (fun k => k ≤ C.length) (fun k => C.length - k) 0 (Nat.zero_le _) wk ?_
      rintro k hk
      obtain ⟨G, eG⟩ : ∃ zz, decide ((i : Int) ∈ C.take k) = zz := ⟨_, rfl⟩
      rw [eG]
      obtain ⟨eG, -⟩ : Go.RowKit.Hid (decide ((i : Int) ∈ C.take k) = G) ∧ True := ⟨eG, trivial⟩
      rename_i eG0
      clear eG0
      cases k with
      | zero =>
        repeat (refine AW_seq ?_)
        refine reg ?_
        refine run 1 ?_
        refine fin [0, 3, 4, 5, 19, 20, 26, 27, 28, 29] [] ?_
        repeat (refine AW_seq ?_)
        refine tst (fun h3 => ?_) (fun h3 => ?_)
        · simp at h3
          obtain ⟨x, hx, gx⟩ := getD_at (l := C) (i := 0) (by omega)
          have e1 := mem_take_succ (w := (i : Int)) hx
          rw [eG.out] at e1
          clear hx
          refine AW_skip ?_
          repeat (refine AW_seq ?_)
          refine AW_block ?_
          repeat (refine AW_seq ?_)
          refine reg ?_
          refine run 2 ?_
          refine run 2 ?_
          refine run 1 ?_
          refine fin [0, 3, 4, 5, 6, 7, 19, 20, 26, 27, 28] [] ?_
          repeat (refine AW_seq ?_)
          refine reg ?_
          refine run 2 ?_
          refine run 2 ?_
          refine run 2 ?_
          refine run 1 ?_
          refine fin [0, 3, 4, 5, 6, 7, 19, 20, 26, 27, 28] [] ?_
          repeat (refine AW_seq ?_)
          refine reg ?_
          refine run 2 ?_
          refine run 2 ?_
          refine run 2 ?_
          refine run 2 ?_
          refine run 2 ?_
          refine run 1 ?_
          refine fin [0, 3, 4, 5, 19, 20, 26, 27, 28, 49] [] ?_
          repeat (refine AW_seq ?_)
          refine tstF ?_
          refine AW_skip ?_
          repeat (refine AW_seq ?_)
          refine reg ?_
          refine run 2 ?_
          refine finN ?_
          exact ⟨0 + 1, by omega, by omega, wk⟩
        · (exfalso; have := hOK.out.pos; rw [decide_eq_false_iff_not] at h3; omega)
      | succ k =>
        repeat (refine AW_seq ?_)
        refine reg ?_
        refine run 1 ?_
        refine fin [0, 3, 4, 5, 19, 20, 26, 27, 28, 29] [] ?_
        repeat (refine AW_seq ?_)
        refine tst (fun h3 => ?_) (fun h3 => ?_)
        · simp at h3
          obtain ⟨x, hx, gx⟩ := getD_at (l := C) (i := k + 1) (by omega)
          have e1 := mem_take_succ (w := (i : Int)) hx
          rw [eG.out] at e1
          obtain ⟨y, gy⟩ : ∃ y, C.getD k default = y := ⟨_, rfl⟩
          have hs := sorted_lt hOK.out.sorted (i := k) (j := k + 1) (by omega) (by omega)
          rw [gx, gy] at hs
          have hk1 : ((k + 1 : Nat) : Int) - 1 = (k : Int) := by omega
          have h4' : decide (x ≤ y) = false := by simp; omega
          have h5' : decide ((0 : Int) < ((k + 1 : Nat) : Int)) = true := by first | (simp; done) | (simp; omega)
          clear hx
          refine AW_skip ?_
          repeat (refine AW_seq ?_)
          refine AW_block ?_
          repeat (refine AW_seq ?_)
          refine reg ?_
          refine run 2 ?_
          refine run 2 ?_
          refine run 1 ?_
          refine fin [0, 3, 4, 5, 6, 7, 19, 20, 26, 27, 28] [] ?_
          repeat (refine AW_seq ?_)
          refine reg ?_
          refine run 2 ?_
          refine run 2 ?_
          refine run 2 ?_
          refine run 1 ?_
          refine fin [0, 3, 4, 5, 6, 7, 19, 20, 26, 27, 28] [] ?_
          repeat (refine AW_seq ?_)
          refine reg ?_
          refine run 2 ?_
          refine run 2 ?_
          refine run 2 ?_
          refine run 2 ?_
          refine run 2 ?_
          refine run 1 ?_
          refine fin [0, 3, 4, 5, 19, 20, 26, 27, 28, 49] [] ?_
          repeat (refine AW_seq ?_)
          refine tstF ?_
          refine AW_skip ?_
          repeat (refine AW_seq ?_)
          refine reg ?_
          refine run 2 ?_
          refine finN ?_
          exact ⟨k + 1 + 1, by omega, by omega, wk⟩
        · simp at h3
          have hkl : k + 1 = C.length := by omega
          have hG : G = true := by
            rw [← eG.out, hkl, List.take_length, decide_eq_true_eq]
            exact (hOK.out.mem _).2 ⟨i, by omega, rfl, rfl⟩
          subst hG
          have c0pos := hOK.out.pos
          clear hkl
          refine AW_exit ?_
          repeat (refine AW_seq ?_)
          refine reg ?_
          refine run 2 ?_
          refine run 2 ?_
          refine run 2 ?_
          refine run 2 ?_
          refine run 2 ?_
          refine run 2 ?_
          refine fin [0, 3, 4, 19, 20, 62] [] ?_
          repeat (refine AW_seq ?_)
          refine tstF ?_
          refine AW_skip ?_
          repeat (refine AW_seq ?_)
          refine reg ?_
          refine run 2 ?_
          refine run 1 ?_
          refine fin [0, 3, 4, 19, 20, 64, 65] [] ?_
          repeat (refine AW_seq ?_)
          refine AW_block ?_
          refine AW_loops (ι := Nat) (fun w => ⟨lk [(0, .c (.sl (p.map iPV))), (3, .c (iPV i)), (4, .c (.sl (C.map iPV))), (19, .c (iPV p.length)), (20, .c (iPV i)), (64, .c (iPV p.length)), (65, .c (iPV w))], lkM [], lkG [] 0⟩) (fun w => w ≤ p.length) (fun w => p.length - w) 0 (Nat.zero_le _) wk ?_
          rintro w hw
          repeat (refine AW_seq ?_)
          refine reg ?_
          refine run 1 ?_
          refine fin [0, 3, 4, 19, 20, 64, 65, 66] [] ?_
          repeat (refine AW_seq ?_)
          refine tst (fun h6 => ?_) (fun h6 => ?_)
          · simp at h6
            obtain ⟨y, hy, gy⟩ := getD_at h6
            have c2 := class_any p w (by omega)
            have lD := clsR_len p w
            have hE := cls_eq hR.out (v := i) (w := w) (by omega) (by omega)
            rw [eC.out, gz, gy] at hE
            obtain ⟨D, eD⟩ : ∃ zz, clsR p w = zz := ⟨_, rfl⟩
            rw [eD] at c2 lD hE
            have c3 := same_any D C (by omega) (by omega)
            rw [hE, show decide (z = y) = (z == y) from rfl] at c3
            clear hE hy eD
            refine AW_skip ?_
            repeat (refine AW_seq ?_)
            refine AW_block ?_
            repeat (refine AW_seq ?_)
            refine reg ?_
            refine run 2 ?_
            refine fin [0, 3, 4, 8, 19, 20, 64, 65] [] ?_
            repeat (refine AW_seq ?_)
            refine reg ?_
            refine run 2 ?_
            refine call (fun _ => c2) ?_
            refine run 1 ?_
            refine call (fun _ => c3) ?_
            refine run 2 ?_
            refine run 2 ?_
            refine run 2 ?_
            refine run 2 ?_
            refine run 2 ?_
            refine fin [0, 3, 4, 19, 20, 64, 65, 82] [] ?_
            repeat (refine AW_seq ?_)
            refine tstF ?_
            refine AW_skip ?_
            repeat (refine AW_seq ?_)
            refine reg ?_
            refine run 2 ?_
            refine finN ?_
            exact ⟨w + 1, by omega, by omega, wk⟩
          · simp at h6
            refine AW_exit ?_
            repeat (refine AW_seq ?_)
            refine reg ?_
            refine run 2 ?_
            refine finN ?_
            exact ⟨i + 1, by omega, by omega, wk⟩
    · simp at h2
      refine AW_exit ?_
      repeat (refine AW_seq ?_)
      refine reg ?_
      refine call (fun _ => awake_true) ?_
      refine run 1 ?_
      refine fin [2] [] ?_
      refine AW_ret (ret ?_)
      rfl

end Go.Proofs.Ytnfnejbdjicbgaa