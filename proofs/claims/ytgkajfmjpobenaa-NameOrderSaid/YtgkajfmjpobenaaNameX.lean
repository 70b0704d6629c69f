/-
  Contracts of the library's stable sort as a whole, and of the layer name's Sort.
  Conditions: fewer than 2^40 edges.
-/
import Derived.Test.YtgkajfmjpobenaaNameW
namespace Go.Proofs.Ytgkajfmjpobenaa
open Go Go.Ab
set_option linter.unusedVariables false
set_option linter.unusedSimpArgs false

theorem blk_step {D R : List Ed} {T : List Ed} (h : D ++ blk lessB 20 R.length R = T) (h20 : 20 ≤ R.length) : (D ++ iso lessB (R.take 20)) ++ blk lessB 20 (R.drop 20).length (R.drop 20) = T := by
  rw [blk_eq (by omega) R.length R (Nat.le_refl _), if_neg (by omega)] at h
  rw [← h]; simp
theorem blk_end {D R : List Ed} {T : List Ed} (h : D ++ blk lessB 20 R.length R = T) (h20 : R.length < 20) : D ++ iso lessB R = T := by
  rw [blk_eq (by omega) R.length R (Nat.le_refl _), if_pos h20] at h; exact h
theorem isort_at (D R : List Ed) (k : Nat) (hk : k ≤ R.length) : isortL lessB (D ++ R) D.length (D.length + k) = D ++ iso lessB (R.take k) ++ R.drop k := by
  have := isortL_lists lessB_rank D (R.take k) (R.drop k)
  rw [List.append_assoc, List.take_append_drop, List.length_take, Nat.min_eq_left hk] at this
  exact this
theorem pass_step {D R T : List Ed} {m : Nat} (h : D ++ passL lessB m R.length R = T) (hm : 2 * m ≤ R.length) (h0 : 0 < m) : (D ++ smerge lessB (R.take m) ((R.drop m).take m)) ++ passL lessB m (R.drop (2 * m)).length (R.drop (2 * m)) = T := by
  rw [passL_eq R.length R (Nat.le_refl _), if_neg (by omega)] at h
  rw [← h]; simp
theorem pass_last {D R T : List Ed} {m : Nat} (h : D ++ passL lessB m R.length R = T) (hm : R.length < 2 * m) (h0 : m < R.length) : D ++ smerge lessB (R.take m) (R.drop m) ++ [] = T := by
  rw [passL_eq R.length R (Nat.le_refl _), if_neg (by omega)] at h
  have e : (R.drop m).take m = R.drop m := List.take_of_length_le (by simp; omega)
  rw [← h, List.drop_of_length_le (by omega : R.length ≤ 2 * m), e]
  simp [passL]
theorem pass_none {D R T : List Ed} {m : Nat} (h : D ++ passL lessB m R.length R = T) (h0 : R.length ≤ m) : D ++ R = T := by
  rw [passL_eq R.length R (Nat.le_refl _), if_pos h0] at h; exact h
theorem split3 (D R : List Ed) (m : Nat) : D ++ R = D ++ R.take m ++ (R.drop m).take m ++ R.drop (2 * m) := by
  have e : R.drop (2 * m) = (R.drop m).drop m := by rw [List.drop_drop]; congr 1; omega
  rw [e, List.append_assoc, List.append_assoc, List.take_append_drop, List.take_append_drop]
def UpF (len : Nat) (T : List Ed) (m : Nat) (L : List Ed) : Prop := 0 < m ∧ m ≤ 2 * len + 40 ∧ L.length = len ∧ Chunks lessB m L ∧ ∃ f, len ≤ m + f ∧ upL lessB f m L = T
theorem up_more {len m : Nat} {T L : List Ed} (h : UpF len T m L) (hm : m < len) : UpF len T (m * 2) (passL lessB m L.length L) := by
  obtain ⟨h1, h2, h3, h4, f, h5, h6⟩ := h
  obtain ⟨p1, p2, p3⟩ := passL_spec lessB_rank h1 L.length L rfl h4
  cases f with
  | zero => omega
  | succ f =>
    rw [upL, if_pos (by omega)] at h6
    exact ⟨by omega, by omega, by rw [p1.length_eq]; exact h3, p2, f, by omega, h6⟩
theorem up_end {len m : Nat} {T L : List Ed} (h : UpF len T m L) (hm : len ≤ m) : L = T := by
  obtain ⟨h1, h2, h3, h4, f, h5, h6⟩ := h
  cases f with
  | zero => exact h6
  | succ f => rw [upL, if_neg (by omega)] at h6; exact h6
theorem chunks_dropTwo {m : Nat} {l : List Ed} (h : Chunks lessB m l) : Chunks lessB m (l.drop (2 * m)) := by
  have e : l.drop (2 * m) = (l.drop m).drop m := by rw [List.drop_drop]; congr 1; omega
  rw [e]; exact h.tail.tail

set_option maxHeartbeats 4000000 in
theorem stab_any (E0 : List Ed) (hl : E0.length < 1099511627776) : WCalls Try.prog 21 [.own, .d (iPV E0.length), .d (.v (.func (.func 20) #[] #[]))] ⟨24, 3, (E0).map edPV, true⟩ (.tup []) ((ssort lessB E0).map edPV) := by
  refine entW Try.func21 ?_ (hlen := by rw [List.length_map, List.length_map, ssort_len lessB_rank])
  obtain ⟨T, hT⟩ : ∃ T, ssort lessB E0 = T := ⟨_, rfl⟩
  rw [hT]
  obtain ⟨T1, hT1⟩ : ∃ T1, blk lessB 20 E0.length E0 = T1 := ⟨_, rfl⟩
  obtain ⟨b1, b2, b3⟩ := blk_spec lessB_rank (m := 20) (by omega) E0.length E0 rfl
  have hup : UpF E0.length T 20 T1 := ⟨by omega, by omega, by rw [← hT1]; exact b1.length_eq, by rw [← hT1]; exact b2, E0.length, by omega, by rw [← hT1]; exact hT⟩
  clear b1 b2 b3
  repeat (refine AW_seq ?_)
  refine reg ?_
  refine run 1 ?_
  refine fin [0, 1, 2, 6] [(0, 0)] ?_
  repeat (refine AW_seq ?_)
  refine reg ?_
  refine run 3 ?_
  refine fin [0, 1, 2, 6, 7, 8] [(0, 0)] ?_
  repeat (refine AW_seq ?_)
  refine AW_block ?_
  refine AW_loops (ι := List Ed × List Ed) (fun x => ⟨lk [(0, .own (0, 0) E0.length), (1, .c (iPV E0.length)), (2, fnV 20), (6, .c (iPV 20)), (7, .c (iPV x.1.length)), (8, .c (iPV ((x.1.length + 20 : Nat) : Int)))], lkM [((0, 0), some ⟨24, 3, (x.1 ++ x.2).map edPV, true⟩)], lkG [] 1⟩) (fun x => x.1.length + x.2.length = E0.length ∧ x.1 ++ blk lessB 20 x.2.length x.2 = T1) (fun x => x.2.length) ([], E0) ⟨by simp, hT1⟩ wk ?_
  rintro ⟨D, R⟩ ⟨hDR, hbk⟩
  simp only at hDR hbk
  repeat (refine AW_seq ?_)
  refine reg ?_
  refine run 3 ?_
  refine fin [0, 1, 2, 6, 7, 8, 13] [(0, 0)] ?_
  repeat (refine AW_seq ?_)
  refine tst (fun h1 => ?_) (fun h1 => ?_)
  · simp at h1
    have hil : (iso lessB (R.take 20)).length = 20 := by rw [iso_len]; simp; omega
    have hb1 := blk_step hbk (by omega)
    have hq := isort_at D R 20 (by omega)
    refine AW_skip ?_
    repeat (refine AW_seq ?_)
    refine AW_block ?_
    repeat (refine AW_seq ?_)
    refine reg ?_
    refine run 4 ?_
    refine wcall (0, 0) (isort_any (D ++ R) D.length (D.length + 20) (by omega) (by simp; omega) (by simp; omega)) ?_
    refine fin [0, 1, 2, 6, 8] [(0, 0)] ?_
    repeat (refine AW_seq ?_)
    refine reg ?_
    refine run 2 ?_
    refine fin [0, 1, 2, 6, 7, 8] [(0, 0)] ?_
    repeat (refine AW_seq ?_)
    refine reg ?_
    refine run 4 ?_
    refine finN ?_
    exact ⟨(D ++ iso lessB (R.take 20), R.drop 20), by simp only [List.length_drop]; omega, ⟨by simp only [List.length_append, List.length_drop, hil]; omega, hb1⟩, wk⟩
  · simp at h1
    have hq : isortL lessB (D ++ R) D.length E0.length = T1 := by
      have := isort_at D R R.length (Nat.le_refl _)
      rw [hDR, List.take_of_length_le (Nat.le_refl _), List.drop_of_length_le (Nat.le_refl _), List.append_nil] at this
      rw [this]; exact blk_end hbk (by omega)
    refine AW_exit ?_
    repeat (refine AW_seq ?_)
    refine reg ?_
    refine run 4 ?_
    refine wcall (0, 0) (isort_any (D ++ R) D.length E0.length (by omega) (by simp; omega) (by simp; omega)) ?_
    refine fin [0, 1, 2, 6] [(0, 0)] ?_
    repeat (refine AW_seq ?_)
    refine AW_block ?_
    refine AW_loops (ι := Nat × List Ed) (fun x => ⟨lk [(0, .own (0, 0) E0.length), (1, .c (iPV E0.length)), (2, fnV 20), (6, .c (iPV x.1))], lkM [((0, 0), some ⟨24, 3, (x.2).map edPV, true⟩)], lkG [] 1⟩) (fun x => UpF E0.length T x.1 x.2) (fun x => E0.length - x.1) (20, T1) hup wk ?_
    rintro ⟨m, L⟩ hL
    have hL2 : 0 < m ∧ m ≤ 2 * E0.length + 40 ∧ L.length = E0.length := ⟨hL.1, hL.2.1, hL.2.2.1⟩
    obtain ⟨hm0, hm1, hLl⟩ := hL2
    repeat (refine AW_seq ?_)
    refine reg ?_
    refine run 3 ?_
    refine fin [0, 1, 2, 6, 30] [(0, 0)] ?_
    repeat (refine AW_seq ?_)
    refine tst (fun h2 => ?_) (fun h2 => ?_)
    · simp at h2
      refine AW_skip ?_
      repeat (refine AW_seq ?_)
      refine AW_block ?_
      repeat (refine AW_seq ?_)
      refine reg ?_
      refine run 4 ?_
      refine fin [0, 1, 2, 6, 7, 8] [(0, 0)] ?_
      repeat (refine AW_seq ?_)
      refine AW_block ?_
      obtain ⟨T2, hT2⟩ : ∃ T2, passL lessB m L.length L = T2 := ⟨_, rfl⟩
      have hup2 := up_more hL (by omega)
      rw [hT2] at hup2
      refine AW_loops (ι := List Ed × List Ed) (fun x => ⟨lk [(0, .own (0, 0) E0.length), (1, .c (iPV E0.length)), (2, fnV 20), (6, .c (iPV m)), (7, .c (iPV x.1.length)), (8, .c (iPV ((x.1.length + 2 * m : Nat) : Int)))], lkM [((0, 0), some ⟨24, 3, (x.1 ++ x.2).map edPV, true⟩)], lkG [] 1⟩) (fun x => x.1.length + x.2.length = E0.length ∧ Chunks lessB m x.2 ∧ x.1 ++ passL lessB m x.2.length x.2 = T2) (fun x => x.2.length) ([], L) ⟨by simp; exact hLl, hL.2.2.2.1, hT2⟩ wk ?_
      rintro ⟨D, R⟩ ⟨hDR, hch, hps⟩
      simp only at hDR hch hps
      have hc1 : (D.length : Int) + (m : Int) = ((D.length + m : Nat) : Int) := by omega
      repeat (refine AW_seq ?_)
      refine reg ?_
      refine run 3 ?_
      refine fin [0, 1, 2, 6, 7, 8, 35] [(0, 0)] ?_
      repeat (refine AW_seq ?_)
      refine tst (fun h3 => ?_) (fun h3 => ?_)
      · simp at h3
        have hil : (smerge lessB (R.take m) ((R.drop m).take m)).length = 2 * m := by rw [smerge_len]; simp; omega
        have hp1 := pass_step hps (by omega) hm0
        have hsy : SymIn (D ++ R) D (R.take m) ((R.drop m).take m) (R.drop (2 * m)) D.length (D.length + m) (D.length + 2 * m) := ⟨split3 D R m, rfl, by simp; omega, by simp; omega, by simp; omega, by simp; omega, hch.head, hch.tail.head⟩
        refine AW_skip ?_
        repeat (refine AW_seq ?_)
        refine AW_block ?_
        repeat (refine AW_seq ?_)
        refine reg ?_
        refine run 7 ?_
        refine wcall (0, 0) (symM_any _ (D ++ R) D (R.take m) ((R.drop m).take m) (R.drop (2 * m)) D.length (D.length + m) (D.length + 2 * m) rfl hsy (by simp; omega)) ?_
        refine fin [0, 1, 2, 6, 8] [(0, 0)] ?_
        repeat (refine AW_seq ?_)
        refine reg ?_
        refine run 2 ?_
        refine fin [0, 1, 2, 6, 7, 8] [(0, 0)] ?_
        repeat (refine AW_seq ?_)
        refine reg ?_
        refine run 5 ?_
        refine finN ?_
        exact ⟨(D ++ smerge lessB (R.take m) ((R.drop m).take m), R.drop (2 * m)), by simp only [List.length_drop]; omega, ⟨by simp only [List.length_append, List.length_drop, hil]; omega, chunks_dropTwo hch, hp1⟩, wk⟩
      · simp at h3
        refine AW_exit ?_
        repeat (refine AW_seq ?_)
        refine reg ?_
        refine run 4 ?_
        refine fin [0, 1, 2, 6, 7, 9] [(0, 0)] ?_
        repeat (refine AW_seq ?_)
        refine reg ?_
        refine run 3 ?_
        refine fin [0, 1, 2, 6, 7, 9, 54] [(0, 0)] ?_
        repeat (refine AW_seq ?_)
        refine tst (fun h4 => ?_) (fun h4 => ?_)
        · simp at h4
          have hp1 := pass_last hps (by omega) (by omega)
          have hsy : SymIn (D ++ R) D (R.take m) (R.drop m) [] D.length (D.length + m) E0.length := ⟨by simp, rfl, by simp; omega, by simp; omega, by simp; omega, by simp; omega, hch.head, by have := hch.tail.head; rwa [List.take_of_length_le (by simp; omega)] at this⟩
          repeat (refine AW_seq ?_)
          refine reg ?_
          refine run 5 ?_
          refine wcall (0, 0) (symM_any _ (D ++ R) D (R.take m) (R.drop m) [] D.length (D.length + m) E0.length rfl hsy (by simp; omega)) ?_
          refine fin [0, 1, 2, 6] [(0, 0)] ?_
          repeat (refine AW_seq ?_)
          refine reg ?_
          refine run 3 ?_
          refine finN ?_
          exact ⟨(m * 2, T2), by simp only; omega, hup2, wk⟩
        · simp at h4
          have hp1 := pass_none hps (by omega)
          refine AW_skip ?_
          repeat (refine AW_seq ?_)
          refine reg ?_
          refine run 3 ?_
          refine finN ?_
          exact ⟨(m * 2, T2), by simp only; omega, hup2, wk⟩
    · simp at h2
      have e1 : L = T := up_end hL (by omega)
      refine AW_exit ?_
      refine retWN ?_
      rfl

theorem sortS_any (E0 : List Ed) (hl : E0.length < 1099511627776) : WCalls Try.prog 19 [.own, .d (.v (.func (.func 20) #[] #[]))] ⟨24, 3, (E0).map edPV, true⟩ (.tup []) ((ssort lessB E0).map edPV) := by
  refine entW Try.func19 ?_ (hlen := by rw [List.length_map, List.length_map, ssort_len lessB_rank])
  repeat (refine AW_seq ?_)
  refine reg ?_
  refine run 4 ?_
  refine wcall (0, 0) (stab_any E0 hl) ?_
  refine finN ?_
  refine retWN ?_
  rfl

end Go.Proofs.Ytgkajfmjpobenaa