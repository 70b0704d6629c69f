/-
  Contracts of the document's answers for layer tour on plain data.
  Conditions: not too many places.
-/
import Derived.Test.YteflkffebekjdaaTourG
namespace Go.Proofs.Yteflkffebekjdaa
open Go Go.Ab
set_option linter.unusedVariables false
set_option linter.unusedSimpArgs false

theorem okAll_no {t : List Int} {i : Nat} (h0 : 0 < i) (h1 : i < t.length) (h : okP t i = false) : okAll t = false := by
  unfold okAll
  have : ((List.range t.length).all fun i => i == 0 || okP t i) = false := by
    rw [List.all_eq_false]
    exact ⟨i, List.mem_range.2 h1, by simp [h]; omega⟩
  rw [this]; simp
theorem okAll_yes {t : List Int} (h0 : t ≠ []) (h1 : t.getD 0 0 = t.getD (t.length - 1) 0) (h : ∀ k, 0 < k → k < t.length → okP t k = true) : okAll t = true := by
  unfold okAll
  simp only [Bool.and_eq_true, decide_eq_true_eq, List.all_eq_true, List.mem_range, Bool.or_eq_true, beq_iff_eq]
  exact ⟨h0, h1, fun i hi => by
    rcases Nat.eq_zero_or_pos i with h2 | h2
    · exact .inl h2
    · exact .inr (h i h2 hi)⟩
theorem okAll_ends {t : List Int} (h : t.getD 0 0 ≠ t.getD (t.length - 1) 0) : okAll t = false := by
  unfold okAll; simp only [h, decide_false, Bool.false_and, Bool.and_false]
theorem lst_below {t : List Int} {x : Int} (h0 : t.getD 0 0 = t.getD (t.length - 1) 0) (hl : 0 < t.length) (hi : 0 < idx t x) : -1 ≤ lst (-1) t x t.length ∧ lst (-1) t x t.length + 1 < t.length := by
  obtain ⟨n, hn⟩ : ∃ n, t.length = n + 1 := ⟨t.length - 1, by omega⟩
  have hx : t.getD n 0 ≠ x := by
    rw [hn, Nat.add_sub_cancel] at h0
    rw [← h0]
    intro e
    cases t with
    | nil => cases hl
    | cons y t => simp only [List.getD_cons_zero] at e; rw [idx, if_pos e] at hi; omega
  rw [hn, lst, if_neg hx]
  have := @lst_lt (-1) t x (by omega) n
  omega
theorem getD_ok {l : List Int} {i : Nat} : l.getD i default = l.getD i 0 := rfl
theorem okP_first {t : List Int} {i k : Nat} {x y w : Int} (hx : t.getD i 0 = x) (hy : t.getD (i - 1) 0 = y) (hi : idx t x = i) (hk : lst (-1) t x t.length + 1 = (k : Int)) (hw : t.getD k 0 = w) : okP t i = (decide (k < t.length) && decide (w = y)) := by
  unfold okP
  rw [hx, hy, if_pos (by rw [hi]), hk, Int.toNat_natCast, hw]
  congr 1
  simp
theorem okP_back {t : List Int} {i n : Nat} {x y z L : Int} (hx : t.getD i 0 = x) (hy : t.getD (i - 1) 0 = y) (hi : idx t x ≠ i) (hn : idx t y = n) (hL : lst (-1) t y t.length = L) (hz : t.getD (n - 1) 0 = z) : okP t i = (decide (y ≠ x) && (decide (n ≠ 0) && (decide (L = (i : Int) - 1) && decide (z = x)))) := by
  unfold okP
  rw [hx, hy, if_neg (by omega), hn, hL, hz]

theorem refRr_ih (t A B : List Int) (v : Int) (k : Nat) (hk : k < t.length) (hl : t.length < 549755813888) (hf : ACalls Try.prog 29 [.sl (t.map iPV), iPV v] (iPV k)) (h0 : k = 0 → t = A ++ B) (hA : t.drop k = A) (hB : (t.take (k + 1)).drop 1 = B) : ACalls Try.prog 28 [.sl (t.map iPV), iPV v] (.sl ((A ++ B).map iPV)) := by
  refine ent Try.func28 ?_
  have hAm : (t.map iPV).drop k = A.map iPV := by rw [← hA, List.map_drop]
  have hBm : ((t.map iPV).take (k + 1)).drop 1 = B.map iPV := by rw [← hB, List.map_drop, List.map_take]
  have hAl : A.length ≤ t.length := by rw [← hA, List.length_drop]; omega
  have hBl : B.length ≤ t.length := by rw [← hB, List.length_drop, List.length_take]; omega
  have hb := both_any A B (by omega) (by omega)
  have hk1 : ((k : Int) + 1).toNat = k + 1 := by omega
  obtain ⟨X, eX⟩ : ∃ k, A ++ B = k := ⟨_, rfl⟩
  rw [eX] at hb h0 ⊢
  obtain ⟨h0, -⟩ : Go.RowKit.Hid (k = 0 → t = X) ∧ True := ⟨h0, trivial⟩
  rename_i h00
  clear h00
  clear eX
  repeat (refine AW_seq ?_)
  refine reg ?_
  refine run 1 ?_
  refine fin [0, 1] [] ?_
  repeat (refine AW_seq ?_)
  refine reg ?_
  refine run 2 ?_
  refine call (fun _ => hf) ?_
  refine run 1 ?_
  refine fin [0, 5] [] ?_
  repeat (refine AW_seq ?_)
  refine reg ?_
  refine run 2 ?_
  refine fin [0, 5, 10] [] ?_
  repeat (refine AW_seq ?_)
  refine tst (fun h1 => ?_) (fun h1 => ?_)
  · simp at h1
    repeat (refine AW_seq ?_)
    refine reg ?_
    refine run 2 ?_
    refine fin [4] [] ?_
    refine AW_ret (ret ?_)
    rw [h0.out (by omega)]
  · simp at h1
    refine AW_skip ?_
    repeat (refine AW_seq ?_)
    refine reg ?_
    refine run 2 ?_
    refine run 2 ?_
    refine run 2 ?_
    refine run 1 ?_
    refine fcall (hb) ?_
    refine run 1 ?_
    refine fin [4] [(20, 0)] ?_
    refine AW_ret (ret ?_)
    rfl

theorem refRr_any (t : List Int) (v : Int) (hv : v ∈ t) (hl : t.length < 549755813888) : ACalls Try.prog 28 [.sl (t.map iPV), iPV v] (.sl ((frm t v).map iPV)) := by
  have hf := first_any t v (by omega)
  rw [fst_in hv] at hf
  exact refRr_ih t _ _ v _ (idx_lt hv) hl hf (fun h => by
    have := rot_zero t
    rw [← h] at this; exact this.symm) rfl rfl

/-- an operation whose test is known not to hold: passed over, whatever its slot would hold -/
theorem skpV {P : Program} {ops : Array Oper} {s : ASt} {o : Oper} {l : List Oper} {Λ : List Lab} {K : ASt → List Lab → Prop} (x : SV) (hk : Gos P ops l (s.app o (.when false x) .none) (Λ ++ [labS s o .none]) K) (hx : plainV x = true := by rfl)
    (hg : guardS ops o s = some false := by exact Go.Ab.evR) (hgd : o.guard.isSome = true := by rfl) : Gos P ops (o :: l) s Λ K := by
  have hw : wrapG o false x = .when false x := by unfold wrapG; cases h : o.guard <;> simp_all
  refine ⟨_, _, ?_, hk⟩
  rw [← hw]
  exact stepL_sym hg (by unfold effG; cases o.guard <;> rfl) rfl hx (fun e => by cases e) (fun e => by cases e) (.inr (.inl fun _ _ e => by cases e))
theorem refR_nil  : ACalls Try.prog 25 [.sl []] (bPV false) := by
  refine ent Try.func25 ?_
  have h00 : ((0 : Nat) : Int) = 0 := rfl
  repeat (refine AW_seq ?_)
  refine reg ?_
  refine run 1 ?_
  refine fin [0] [] ?_
  repeat (refine AW_seq ?_)
  refine reg ?_
  refine run 2 ?_
  refine run 2 ?_
  refine run 2 ?_
  refine run 2 ?_
  refine run 2 ?_
  refine run 2 ?_
  refine run 1 ?_
  refine skpV (.c (.v (.bool false))) ?_
  refine run 1 ?_
  refine fin [0, 21] [] ?_
  repeat (refine AW_seq ?_)
  refine tstT ?_
  repeat (refine AW_seq ?_)
  refine reg ?_
  refine run 1 ?_
  refine fin [2] [] ?_
  refine AW_ret (ret ?_)
  rfl

theorem refR_cons (t : List Int) (hp : 0 < t.length) (hl : t.length < 549755813888) : ACalls Try.prog 25 [.sl (t.map iPV)] (bPV (okAll t)) := by
  refine ent Try.func25 ?_
  have hne : ((t.length : Int) == 0) = false := by simp; intro h; rw [h] at hp; simp at hp
  have hll : ((t.length : Int) - 1).toNat = t.length - 1 := by omega
  obtain ⟨z0, hz0, gz0⟩ := getD_at (l := t) (i := 0) hp
  obtain ⟨z1, hz1, gz1⟩ := getD_at (l := t) (i := t.length - 1) (by omega)
  clear hz0 hz1
  repeat (refine AW_seq ?_)
  refine reg ?_
  refine run 1 ?_
  refine fin [0] [] ?_
  repeat (refine AW_seq ?_)
  refine reg ?_
  refine run 2 ?_
  refine run 2 ?_
  refine run 2 ?_
  refine run 2 ?_
  refine run 2 ?_
  refine run 2 ?_
  refine run 2 ?_
  refine run 1 ?_
  refine fin [0, 21] [] ?_
  repeat (refine AW_seq ?_)
  refine tst (fun h1 => ?_) (fun h1 => ?_)
  · simp at h1
    have e1 : t.getD 0 0 ≠ t.getD (t.length - 1) 0 := by rw [← getD_ok, ← getD_ok, gz0, gz1]; exact h1
    repeat (refine AW_seq ?_)
    refine reg ?_
    refine run 1 ?_
    refine fin [2] [] ?_
    refine AW_ret (ret ?_)
    rw [okAll_ends e1]; rfl
  · simp at h1
    have hee : t.getD 0 0 = t.getD (t.length - 1) 0 := by rw [← getD_ok, ← getD_ok, gz0, gz1]; exact h1
    obtain ⟨hee, -⟩ : Go.RowKit.Hid (t.getD 0 0 = t.getD (t.length - 1) 0) ∧ True := ⟨hee, trivial⟩
    rename_i hee0
    clear hee0
    refine AW_skip ?_
    repeat (refine AW_seq ?_)
    refine reg ?_
    refine run 1 ?_
    refine fin [0, 3] [] ?_
    repeat (refine AW_seq ?_)
    refine AW_block ?_
    refine AW_loops (ι := Nat) (fun i => ⟨lk [(0, .c (.sl (t.map iPV))), (3, .c (iPV i))], lkM [], lkG [] 0⟩) (fun i => 1 ≤ i ∧ i ≤ t.length ∧ ∀ k, 0 < k → k < i → okP t k = true) (fun i => t.length - i) 1 ⟨Nat.le_refl _, by omega, fun k h1 h2 => by omega⟩ wk ?_
    rintro i ⟨hi0, hi, hF⟩
    obtain ⟨hF, -⟩ : Go.RowKit.Hid (∀ k, 0 < k → k < i → okP t k = true) ∧ True := ⟨hF, trivial⟩
    rename_i hF0
    clear hF0
    repeat (refine AW_seq ?_)
    refine reg ?_
    refine run 2 ?_
    refine run 2 ?_
    refine fin [0, 3, 25] [] ?_
    repeat (refine AW_seq ?_)
    refine tst (fun h2 => ?_) (fun h2 => ?_)
    · simp at h2
      obtain ⟨x, hx, gx⟩ := getD_at h2
      obtain ⟨y, hy, gy⟩ := getD_at (l := t) (i := i - 1) (by omega)
      have hi1 : (i : Int) - 1 = ((i - 1 : Nat) : Int) := by omega
      have hf1 := first_any t x (by omega)
      rw [fst_in (List.mem_of_getElem? hx)] at hf1
      have hf2 := first_any t y (by omega)
      rw [fst_in (List.mem_of_getElem? hy)] at hf2
      have k1 := idx_lt (List.mem_of_getElem? hx)
      have k2 := idx_lt (List.mem_of_getElem? hy)
      have hl1 := last_any t x (by omega)
      have hl2 := last_any t y (by omega)
      obtain ⟨n1, en1⟩ : ∃ k, idx t x = k := ⟨_, rfl⟩
      rw [en1] at hf1 k1
      obtain ⟨en1, -⟩ : Go.RowKit.Hid (idx t x = n1) ∧ True := ⟨en1, trivial⟩
      rename_i en10
      clear en10
      obtain ⟨n2, en2⟩ : ∃ k, idx t y = k := ⟨_, rfl⟩
      rw [en2] at hf2 k2
      obtain ⟨en2, -⟩ : Go.RowKit.Hid (idx t y = n2) ∧ True := ⟨en2, trivial⟩
      rename_i en20
      clear en20
      have hn2 : ((n2 : Int) - 1).toNat = n2 - 1 := by omega
      obtain ⟨z, hz, gz⟩ := getD_at (l := t) (i := n2 - 1) (by omega)
      clear hz
      have b2 := @lst_lt (-1) t y (by omega) t.length
      obtain ⟨L2, eL2⟩ : ∃ k, lst (-1) t y t.length = k := ⟨_, rfl⟩
      rw [eL2] at hl2 b2
      obtain ⟨eL2, -⟩ : Go.RowKit.Hid (lst (-1) t y t.length = L2) ∧ True := ⟨eL2, trivial⟩
      rename_i eL20
      clear eL20
      refine AW_skip ?_
      repeat (refine AW_seq ?_)
      refine AW_block ?_
      repeat (refine AW_seq ?_)
      refine reg ?_
      refine run 2 ?_
      refine run 2 ?_
      refine run 1 ?_
      refine call (fun _ => hf1) ?_
      refine run 2 ?_
      refine run 1 ?_
      refine fin [0, 3, 4] [] ?_
      repeat (refine AW_seq ?_)
      refine reg ?_
      refine run 1 ?_
      refine fin [0, 3, 36] [] ?_
      repeat (refine AW_seq ?_)
      refine tst (fun h3 => ?_) (fun h3 => ?_)
      · simp at h3
        have b1 := lst_below (x := x) hee.out hp (by rw [en1.out]; omega)
        obtain ⟨L1, eL1⟩ : ∃ k, lst (-1) t x t.length = k := ⟨_, rfl⟩
        rw [eL1] at hl1 b1
        obtain ⟨eL1, -⟩ : Go.RowKit.Hid (lst (-1) t x t.length = L1) ∧ True := ⟨eL1, trivial⟩
        rename_i eL10
        clear eL10
        obtain ⟨k3, hk3⟩ : ∃ k : Nat, L1 + 1 = (k : Int) := ⟨(L1 + 1).toNat, by omega⟩
        obtain ⟨w1, hw1, gw1⟩ := getD_at (l := t) (i := k3) (by omega)
        clear hw1
        have hok := okP_first (t := t) (i := i) (x := x) (y := y) (w := w1) (k := k3) (by rw [← getD_ok, gx]) (by rw [← getD_ok, gy]) (by rw [en1.out]; omega) (by rw [eL1.out, hk3]) (by rw [← getD_ok, gw1])
        obtain ⟨hok, -⟩ : Go.RowKit.Hid (okP t i = (decide (k3 < t.length) && decide (w1 = y))) ∧ True := ⟨hok, trivial⟩
        rename_i hok0
        clear hok0
        repeat (refine AW_seq ?_)
        refine reg ?_
        refine run 2 ?_
        refine run 2 ?_
        refine run 1 ?_
        refine call (fun _ => hl1) ?_
        refine run 1 ?_
        refine fin [0, 3, 5] [] ?_
        repeat (refine AW_seq ?_)
        refine reg ?_
        refine run 2 ?_
        refine run 2 ?_
        refine run 2 ?_
        refine run 2 ?_
        refine run 2 ?_
        refine run 2 ?_
        refine run 2 ?_
        refine run 2 ?_
        refine run 2 ?_
        refine fin [0, 3, 60] [] ?_
        repeat (refine AW_seq ?_)
        refine tst (fun h4 => ?_) (fun h4 => ?_)
        · simp at h4
          repeat (refine AW_seq ?_)
          refine reg ?_
          refine run 1 ?_
          refine fin [2] [] ?_
          refine AW_ret (ret ?_)
          rw [okAll_no (i := i) (by omega) h2 (by rw [hok.out]; grind)]; rfl
        · simp at h4
          refine AW_skip ?_
          refine AW_exit ?_
          repeat (refine AW_seq ?_)
          refine reg ?_
          refine run 2 ?_
          refine run 1 ?_
          refine finN ?_
          have e1 : okP t i = true := by rw [hok.out]; simp only [Bool.and_eq_true, decide_eq_true_eq]; constructor <;> first | omega | (simp_all; done) | grind
          exact ⟨i + 1, by omega, ⟨by omega, by omega, fun k g1 g2 => by
            rcases Nat.lt_or_ge k i with g3 | g3
            · exact hF.out k g1 g3
            · obtain rfl : k = i := by omega
              exact e1⟩, wk⟩
      · simp at h3
        have hok := okP_back (t := t) (i := i) (x := x) (y := y) (z := z) (n := n2) (L := L2) (by rw [← getD_ok, gx]) (by rw [← getD_ok, gy]) (by rw [en1.out]; omega) en2.out eL2.out (by rw [← getD_ok, gz])
        obtain ⟨hok, -⟩ : Go.RowKit.Hid (okP t i = (decide (y ≠ x) && (decide (n2 ≠ 0) && (decide (L2 = (i : Int) - 1) && decide (z = x))))) ∧ True := ⟨hok, trivial⟩
        rename_i hok0
        clear hok0
        refine AW_skip ?_
        repeat (refine AW_seq ?_)
        refine reg ?_
        refine run 2 ?_
        refine run 2 ?_
        refine run 2 ?_
        refine fin [0, 3, 6] [] ?_
        repeat (refine AW_seq ?_)
        refine reg ?_
        refine run 2 ?_
        refine run 2 ?_
        refine run 2 ?_
        refine run 2 ?_
        refine run 1 ?_
        refine call (fun _ => hf2) ?_
        refine run 2 ?_
        refine run 2 ?_
        refine run 1 ?_
        refine call (fun _ => hl2) ?_
        refine run 2 ?_
        refine run 2 ?_
        refine run 2 ?_
        refine run 2 ?_
        refine call (fun _ => hf2) ?_
        refine run 2 ?_
        refine run 2 ?_
        refine run 2 ?_
        refine run 2 ?_
        refine run 1 ?_
        refine fin [0, 3, 99] [] ?_
        repeat (refine AW_seq ?_)
        refine tst (fun h5 => ?_) (fun h5 => ?_)
        · simp at h5
          repeat (refine AW_seq ?_)
          refine reg ?_
          refine run 1 ?_
          refine fin [2] [] ?_
          refine AW_ret (ret ?_)
          rw [okAll_no (i := i) (by omega) h2 (by rw [hok.out]; grind)]; rfl
        · simp at h5
          refine AW_skip ?_
          repeat (refine AW_seq ?_)
          refine reg ?_
          refine run 2 ?_
          refine run 1 ?_
          refine finN ?_
          have e1 : okP t i = true := by rw [hok.out]; simp only [Bool.and_eq_true, decide_eq_true_eq]; grind
          exact ⟨i + 1, by omega, ⟨by omega, by omega, fun k g1 g2 => by
            rcases Nat.lt_or_ge k i with g3 | g3
            · exact hF.out k g1 g3
            · obtain rfl : k = i := by omega
              exact e1⟩, wk⟩
    · simp at h2
      refine AW_exit ?_
      repeat (refine AW_seq ?_)
      refine reg ?_
      refine run 1 ?_
      refine fin [2] [] ?_
      refine AW_ret (ret ?_)
      rw [okAll_yes (by intro e; subst e; cases hp) hee.out (fun k g1 g2 => hF.out k g1 (by omega))]; rfl

theorem refR_any (t : List Int) (hl : t.length < 549755813888) : ACalls Try.prog 25 [.sl (t.map iPV)] (bPV (isT t)) := by
  rw [← okAll_eq]
  cases t with
  | nil => exact refR_nil
  | cons x t => exact refR_cons (x :: t) (by simp) hl

end Go.Proofs.Yteflkffebekjdaa