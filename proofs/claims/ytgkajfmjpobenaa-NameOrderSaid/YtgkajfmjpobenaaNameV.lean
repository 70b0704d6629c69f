/-
  Contracts of the library's stable sort, at edges in the order of their ends.
  Conditions: fewer than 2^40 edges.
-/
import Derived.Test.YtgkajfmjpobenaaNameF
import Derived.Test.YtgkajfmjpobenaaAb27
namespace Go.Proofs.Ytgkajfmjpobenaa
open Go Go.Ab
set_option linter.unusedVariables false
set_option linter.unusedSimpArgs false

theorem lessB_rank : Rank lessB where
  asym := fun a b h => by simp [lessB] at h ⊢; omega
  trans := fun a b c h1 h2 => by simp [lessB] at h1 h2 ⊢; omega
theorem ordE_lt (a b : Ed) : decide (ordE a b < 0) = lessB a b := by
  unfold ordE
  cases lessB a b <;> cases lessB b a <;> rfl
theorem swp_map (E : List Ed) (p q : Nat) : (swp E p q).map edPV = ((E.map edPV).set p (edPV (E.getD q default))).set q (edPV (E.getD p default)) := by simp only [swp, List.map_set]
def RotF (m : Nat) (T : List Ed) (len i j : Nat) (E : List Ed) : Prop := ∃ f, i + j ≤ f ∧ rotE m f i j E = T ∧ 0 < i ∧ 0 < j ∧ i ≤ m ∧ m + j ≤ len ∧ E.length = len
theorem rot_more {m f i j len : Nat} {T L : List Ed} (hf : i + j ≤ f) (hR : rotE m f i j L = T) (hi : 0 < i) (hj : 0 < j) (hi2 : i ≤ m) (hj2 : m + j ≤ len) (hL : L.length = len) (h : j < i) : RotF m T len (i - j) j (swr L (m - i) m j) := by
  cases f with
  | zero => omega
  | succ f =>
    rw [rotE, if_neg (by omega), if_pos h] at hR
    exact ⟨f, by omega, hR, by omega, hj, by omega, hj2, by rw [swr_len]; exact hL⟩
theorem rot_less {m f i j len : Nat} {T L : List Ed} (hf : i + j ≤ f) (hR : rotE m f i j L = T) (hi : 0 < i) (hj : 0 < j) (hi2 : i ≤ m) (hj2 : m + j ≤ len) (hL : L.length = len) (h : i < j) : RotF m T len i (j - i) (swr L (m - i) (m + j - i) i) := by
  cases f with
  | zero => omega
  | succ f =>
    rw [rotE, if_neg (by omega), if_neg (by omega)] at hR
    exact ⟨f, by omega, hR, hi, by omega, hi2, by omega, by rw [swr_len]; exact hL⟩
theorem rot_end {m f i j : Nat} {T L : List Ed} (hf : i + j ≤ f) (hR : rotE m f i j L = T) (hi : 0 < i) (hj : 0 < j) (h : i = j) : swr L (m - i) m i = T := by
  cases f with
  | zero => omega
  | succ f => rw [rotE, if_pos h] at hR; exact hR
theorem fdiv2 (x : Int) : x.fdiv (2 ^ (min 1 IntKind.u64.bits)) = x / 2 := by
  rw [show (2 : Int) ^ (min 1 IntKind.u64.bits) = 2 by decide]; exact Int.fdiv_eq_ediv_of_nonneg _ (by omega)

theorem isort_any (E0 : List Ed) (a b : Nat) (hab : a ≤ b) (hb : b ≤ E0.length) (hl : E0.length < 1099511627776) : WCalls Try.prog 22 [.own, .d (iPV a), .d (iPV b), .d (.v (.func (.func 20) #[] #[]))] ⟨24, 3, E0.map edPV, true⟩ (.tup []) ((isortL lessB E0 a b).map edPV) := by
  refine entW Try.func22 ?_ (hlen := by simp [isortL_len])
  have hlt := ordE_lt
  have hsm := swp_map
  repeat (refine AW_seq ?_)
  refine reg ?_
  refine run 3 ?_
  refine fin [0, 1, 2, 3, 8] [(0, 0)] ?_
  repeat (refine AW_seq ?_)
  refine AW_block ?_
  refine AW_loops (ι := Nat × List Ed) (fun x => ⟨lk [(0, .own (0, 0) E0.length), (1, .c (iPV a)), (2, .c (iPV b)), (3, fnV 20), (8, .c (iPV x.1))], lkM [((0, 0), some ⟨24, 3, x.2.map edPV, true⟩)], lkG [] 1⟩) (fun x => a < x.1 ∧ (x.1 ≤ b ∨ x.1 = a + 1) ∧ x.2.length = E0.length ∧ outr lessB a (b - x.1) x.1 x.2 = isortL lessB E0 a b) (fun x => b + 1 - x.1) (a + 1, E0) ⟨Nat.lt_succ_self _, .inr rfl, rfl, rfl⟩ wk ?_
  rintro ⟨i, L⟩ ⟨hi, hi2, hL, hout⟩
  simp only at hi hi2 hL hout
  repeat (refine AW_seq ?_)
  refine reg ?_
  refine run 3 ?_
  refine fin [0, 1, 2, 3, 8, 14] [(0, 0)] ?_
  repeat (refine AW_seq ?_)
  refine tst (fun h1 => ?_) (fun h1 => ?_)
  · simp at h1
    refine AW_skip ?_
    repeat (refine AW_seq ?_)
    refine AW_block ?_
    repeat (refine AW_seq ?_)
    refine reg ?_
    refine run 2 ?_
    refine fin [0, 1, 2, 3, 8, 9] [(0, 0)] ?_
    repeat (refine AW_seq ?_)
    refine AW_block ?_
    refine AW_loops (ι := Nat × List Ed) (fun x => ⟨lk [(0, .own (0, 0) E0.length), (1, .c (iPV a)), (2, .c (iPV b)), (3, fnV 20), (8, .c (iPV i)), (9, .c (iPV x.1))], lkM [((0, 0), some ⟨24, 3, x.2.map edPV, true⟩)], lkG [] 1⟩) (fun x => a ≤ x.1 ∧ x.1 ≤ i ∧ x.2.length = E0.length ∧ bub lessB a x.1 x.2 = bub lessB a i L) (fun x => x.1) (i, L) ⟨by omega, Nat.le_refl _, hL, rfl⟩ wk ?_
    rintro ⟨j, M⟩ ⟨hj1, hj2, hM, hbub⟩
    simp only at hj1 hj2 hM hbub
    have hM0 : 0 < M.length := by omega
    have ej : ((j : Int) - 1).toNat = j - 1 := by omega
    repeat (refine AW_seq ?_)
    refine reg ?_
    refine run 14 ?_
    refine call (fun _ => order_any (M.getD j default) (M.getD (j - 1) default)) ?_
    refine run 2 ?_
    refine fin [0, 1, 2, 3, 8, 9, 34] [(0, 0)] ?_
    repeat (refine AW_seq ?_)
    refine tst (fun h2 => ?_) (fun h2 => ?_)
    · simp at h2
      obtain ⟨k, rfl⟩ : ∃ k, j = k + 1 := ⟨j - 1, by omega⟩
      have e1 : bub lessB a (k + 1) M = bub lessB a k (swp M (k + 1) k) := by rw [bub, if_pos ⟨by omega, by simpa using h2.2⟩]
      have ek : ((((k + 1 : Nat) : Int)) - 1).toNat = k := by omega
      clear ej hlt
      refine AW_skip ?_
      repeat (refine AW_seq ?_)
      refine AW_block ?_
      repeat (refine AW_seq ?_)
      refine reg ?_
      refine run 18 ?_
      refine finN ?_
      refine kp [0, 1, 2, 3, 8, 9] [(0, 0)] ?_
      repeat (refine AW_seq ?_)
      refine reg ?_
      refine run 3 ?_
      refine finN ?_
      exact ⟨(k, swp M (k + 1) k), Nat.lt_succ_self _, ⟨by simp only; omega, by simp only; omega, by simp only [swp_len]; exact hM, by simp only; rw [← e1]; exact hbub⟩, wk⟩
    · simp at h2
      have e1 : bub lessB a j M = M := by
        cases j with
        | zero => rfl
        | succ k => rw [bub, if_neg]; rintro ⟨g1, g2⟩; have := h2 (by omega); simp at this g2; rw [this] at g2; cases g2
      clear ej hlt
      refine AW_exit ?_
      repeat (refine AW_seq ?_)
      refine reg ?_
      refine run 3 ?_
      refine finN ?_
      refine ⟨(i + 1, M), by simp only; omega, ⟨by simp only; omega, by simp only; omega, hM, ?_⟩, wk⟩
      simp only
      rw [← hout, show b - i = (b - (i + 1)) + 1 by omega, outr, ← hbub, e1]
  · simp at h1
    have e1 : L = isortL lessB E0 a b := by rw [← hout, show b - i = 0 by omega]; rfl
    refine AW_exit ?_
    refine retWN ?_
    rfl

theorem swr_any (E0 : List Ed) (a b n : Nat) (hab : a + n ≤ b) (hb : b + n ≤ E0.length) (hl : E0.length < 1099511627776) : WCalls Try.prog 25 [.own, .d (iPV a), .d (iPV b), .d (iPV n), .d (.v (.func (.func 20) #[] #[]))] ⟨24, 3, E0.map edPV, true⟩ (.tup []) ((swr E0 a b n).map edPV) := by
  refine entW Try.func25 ?_ (hlen := by simp [swr_len])
  have hsm := swp_map
  repeat (refine AW_seq ?_)
  refine reg ?_
  refine run 1 ?_
  refine fin [0, 1, 2, 3, 10] [(0, 0)] ?_
  repeat (refine AW_seq ?_)
  refine AW_block ?_
  refine AW_loops (ι := Nat × List Ed) (fun x => ⟨lk [(0, .own (0, 0) E0.length), (1, .c (iPV a)), (2, .c (iPV b)), (3, .c (iPV n)), (10, .c (iPV x.1))], lkM [((0, 0), some ⟨24, 3, x.2.map edPV, true⟩)], lkG [] 1⟩) (fun x => x.1 ≤ n ∧ x.2 = swr E0 a b x.1) (fun x => n - x.1) (0, E0) ⟨Nat.zero_le _, rfl⟩ wk ?_
  rintro ⟨i, L⟩ ⟨hi, hL⟩
  simp only at hi hL
  have hLl : L.length = E0.length := by rw [hL, swr_len]
  have ia : ((a : Int) + (i : Int)).toNat = a + i := by omega
  have ib : ((b : Int) + (i : Int)).toNat = b + i := by omega
  obtain ⟨hL', -⟩ : Go.RowKit.Hid (L = swr E0 a b i) ∧ True := ⟨hL, trivial⟩
  clear hL
  repeat (refine AW_seq ?_)
  refine reg ?_
  refine run 3 ?_
  refine fin [0, 1, 2, 3, 10, 13] [(0, 0)] ?_
  repeat (refine AW_seq ?_)
  refine tst (fun h1 => ?_) (fun h1 => ?_)
  · simp at h1
    refine AW_skip ?_
    repeat (refine AW_seq ?_)
    refine AW_block ?_
    repeat (refine AW_seq ?_)
    refine reg ?_
    refine run 22 ?_
    refine run 2 ?_
    refine finN ?_
    refine kp [0, 1, 2, 3, 10] [(0, 0)] ?_
    repeat (refine AW_seq ?_)
    refine reg ?_
    refine run 3 ?_
    refine finN ?_
    exact ⟨(i + 1, swp L (a + i) (b + i)), by simp only; omega, ⟨by simp only; omega, by simp only; rw [swr, ← hL'.out]⟩, wk⟩
  · simp at h1
    have e1 : L = swr E0 a b n := by rw [hL'.out, show i = n by omega]
    refine AW_exit ?_
    refine retWN ?_
    rfl

theorem rot_any (E0 : List Ed) (a m b : Nat) (hab : a < m) (hmb : m < b) (hb : b ≤ E0.length) (hl : E0.length < 1099511627776) : WCalls Try.prog 24 [.own, .d (iPV a), .d (iPV m), .d (iPV b), .d (.v (.func (.func 20) #[] #[]))] ⟨24, 3, E0.map edPV, true⟩ (.tup []) ((rotE m (b - a) (m - a) (b - m) E0).map edPV) := by
  refine entW Try.func24 ?_ (hlen := by simp [rotE_len])
  obtain ⟨T, hT⟩ : ∃ T, rotE m (b - a) (m - a) (b - m) E0 = T := ⟨_, rfl⟩
  rw [hT]
  repeat (refine AW_seq ?_)
  refine reg ?_
  refine run 4 ?_
  refine fin [0, 2, 3, 4, 10] [(0, 0)] ?_
  repeat (refine AW_seq ?_)
  refine reg ?_
  refine run 4 ?_
  refine fin [0, 2, 4, 10, 11] [(0, 0)] ?_
  repeat (refine AW_seq ?_)
  refine AW_block ?_
  refine AW_loops (ι := Nat × Nat × List Ed) (fun x => ⟨lk [(0, .own (0, 0) E0.length), (2, .c (iPV m)), (4, fnV 20), (10, .c (iPV x.1)), (11, .c (iPV x.2.1))], lkM [((0, 0), some ⟨24, 3, x.2.2.map edPV, true⟩)], lkG [] 1⟩) (fun x => RotF m T E0.length x.1 x.2.1 x.2.2) (fun x => x.1 + x.2.1) (m - a, b - m, E0) ⟨b - a, by simp only; omega, hT, by simp only; omega, by simp only; omega, by simp only; omega, by simp only; omega, rfl⟩ wk ?_
  rintro ⟨i, j, L⟩ ⟨f, hf, hR, hi, hj, hi2, hj2, hL⟩
  simp only at hf hR hi hj hi2 hj2 hL
  have hmi : (m : Int) - (i : Int) = ((m - i : Nat) : Int) := by omega
  repeat (refine AW_seq ?_)
  refine reg ?_
  refine run 3 ?_
  refine fin [0, 2, 4, 10, 11, 20] [(0, 0)] ?_
  repeat (refine AW_seq ?_)
  refine tst (fun h1 => ?_) (fun h1 => ?_)
  · simp at h1
    refine AW_skip ?_
    repeat (refine AW_seq ?_)
    refine AW_block ?_
    repeat (refine AW_seq ?_)
    refine reg ?_
    refine run 3 ?_
    refine fin [0, 2, 4, 10, 11, 23] [(0, 0)] ?_
    repeat (refine AW_seq ?_)
    refine tst (fun h2 => ?_) (fun h2 => ?_)
    · simp at h2
      have e1 : RotF m T E0.length (i - j) j (swr L (m - i) m j) := rot_more hf hR hi hj hi2 hj2 hL (by omega)
      repeat (refine AW_seq ?_)
      refine reg ?_
      refine run 7 ?_
      refine wcall (0, 0) (swr_any L (m - i) m j (by omega) (by omega) (by omega)) ?_
      refine fin [0, 2, 4, 10, 11] [(0, 0)] ?_
      repeat (refine AW_seq ?_)
      refine reg ?_
      refine run 4 ?_
      refine finN ?_
      exact ⟨(i - j, j, swr L (m - i) m j), by simp only; omega, e1, wk⟩
    · simp at h2
      have e1 : RotF m T E0.length i (j - i) (swr L (m - i) (m + j - i) i) := rot_less hf hR hi hj hi2 hj2 hL (by omega)
      have hmj : (m : Int) + (j : Int) - (i : Int) = ((m + j - i : Nat) : Int) := by omega
      repeat (refine AW_seq ?_)
      refine reg ?_
      refine run 11 ?_
      refine wcall (0, 0) (swr_any L (m - i) (m + j - i) i (by omega) (by omega) (by omega)) ?_
      refine fin [0, 2, 4, 10, 11] [(0, 0)] ?_
      repeat (refine AW_seq ?_)
      refine reg ?_
      refine run 4 ?_
      refine finN ?_
      exact ⟨(i, j - i, swr L (m - i) (m + j - i) i), by simp only; omega, e1, wk⟩
  · simp at h1
    obtain rfl : i = j := by omega
    have e1 : swr L (m - i) m i = T := rot_end hf hR hi hj rfl
    clear h1
    refine AW_exit ?_
    repeat (refine AW_seq ?_)
    refine reg ?_
    refine run 7 ?_
    refine wcall (0, 0) (swr_any L (m - i) m i (by omega) (by omega) (by omega)) ?_
    refine finN ?_
    refine retWN ?_
    rfl

end Go.Proofs.Ytgkajfmjpobenaa