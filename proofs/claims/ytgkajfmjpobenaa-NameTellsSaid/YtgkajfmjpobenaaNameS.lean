/-
  Contracts of the library's stable sort, as far as layer name calls it.
  Conditions: fewer than 2^40 edges.
-/
import Derived.Test.YtgkajfmjpobenaaNameF
namespace Go.Proofs.Ytgkajfmjpobenaa
open Go Go.Ab
set_option linter.unusedVariables false
set_option linter.unusedSimpArgs false

def swapL (L : List Ed) (j : Nat) : List Ed := (L.set (j + 1) (L.getD j default)).set j (L.getD (j + 1) default)
def bub (a : Nat) : Nat → List Ed → List Ed
  | 0, L => L
  | j + 1, L => if a ≤ j ∧ lessB (L.getD (j + 1) default) (L.getD j default) = true then bub a j (swapL L j) else L
def outr (a : Nat) : Nat → Nat → List Ed → List Ed
  | 0, _, L => L
  | n + 1, i, L => outr a n (i + 1) (bub a i L)
def isortL (L : List Ed) (a b : Nat) : List Ed := outr a (b - (a + 1)) (a + 1) L
theorem swapL_len (L : List Ed) (j : Nat) : (swapL L j).length = L.length := by simp [swapL]
theorem bub_len (a : Nat) : ∀ (j : Nat) (L : List Ed), (bub a j L).length = L.length
  | 0, L => rfl
  | j + 1, L => by rw [bub]; split; rw [bub_len a j, swapL_len]; rfl
theorem ordE_lt (a b : Ed) : decide (ordE a b < 0) = lessB a b := by
  unfold ordE
  cases lessB a b <;> cases lessB b a <;> rfl

theorem outr_len (a : Nat) : ∀ (n i : Nat) (L : List Ed), (outr a n i L).length = L.length
  | 0, _, L => rfl
  | n + 1, i, L => by rw [outr, outr_len a n, bub_len]
theorem isortL_len (L : List Ed) (a b : Nat) : (isortL L a b).length = L.length := outr_len _ _ _ _

theorem isort_any (l : List Ed) (a b : Nat) (hab : a ≤ b) (hb : b ≤ l.length) (hl : l.length < 1099511627776) : WCalls Try.prog 22 [.own, .d (iPV a), .d (iPV b), .d (.v (.func (.func 20) #[] #[]))] ⟨24, 3, l.map edPV, true⟩ (.tup []) ((isortL l a b).map edPV) := by
  refine entW Try.func22 ?_ (hlen := by simp [isortL_len])
  repeat (refine AW_seq ?_)
  refine reg ?_
  refine run 3 ?_
  refine fin [0, 1, 2, 3, 8] [(0, 0)] ?_
  refine AW_block ?_
  refine AW_loops (ι := Nat × List Ed) (fun x => ⟨lk [(0, .own (0, 0) l.length), (1, .c (iPV a)), (2, .c (iPV b)), (3, fnV 20), (8, .c (iPV x.1))], lkM [((0, 0), some ⟨24, 3, x.2.map edPV, true⟩)], lkG [] 1⟩)
    (fun x => a < x.1 ∧ (x.1 ≤ b ∨ x.1 = a + 1) ∧ x.2.length = l.length ∧ outr a (b - x.1) x.1 x.2 = isortL l a b) (fun x => b + 1 - x.1) (a + 1, l) ?_ ?_ ?_
  · exact ⟨Nat.lt_succ_self _, .inr rfl, rfl, rfl⟩
  · exact wk
  rintro ⟨i, L⟩ ⟨hi, hi2, hL, hout⟩
  simp only at hi hi2 hL hout
  repeat (refine AW_seq ?_)
  refine reg ?_
  refine run 3 ?_
  refine fin [0, 1, 2, 3, 8, 14] [(0, 0)] ?_
  refine tst (fun h1 => ?_) (fun h1 => ?_)
  · simp at h1
    refine AW_skip ?_
    repeat (refine AW_seq ?_)
    refine AW_block ?_
    repeat (refine AW_seq ?_)
    refine reg ?_
    refine run 2 ?_
    refine fin [0, 1, 2, 3, 8, 9] [(0, 0)] ?_
    repeat (refine AW_seq ?_)
    refine AW_block ?_
    refine AW_loops (ι := Nat × List Ed) (fun x => ⟨lk [(0, .own (0, 0) l.length), (1, .c (iPV a)), (2, .c (iPV b)), (3, fnV 20), (8, .c (iPV i)), (9, .c (iPV x.1))], lkM [((0, 0), some ⟨24, 3, x.2.map edPV, true⟩)], lkG [] 1⟩)
      (fun x => a ≤ x.1 ∧ x.1 ≤ i ∧ x.2.length = l.length ∧ bub a x.1 x.2 = bub a i L) (fun x => x.1) (i, L) ?_ wk ?_
    · exact ⟨by omega, Nat.le_refl _, hL, rfl⟩
    rintro ⟨j, M⟩ ⟨hj1, hj2, hM, hbub⟩
    simp only at hj1 hj2 hM hbub
    have hM0 : 0 < M.length := by omega
    have ej : ((j : Int) - 1).toNat = j - 1 := by omega
    have hlt := ordE_lt
    repeat (refine AW_seq ?_)
    refine reg ?_
    refine run 14 ?_
    refine call (fun _ => order_any (M.getD j default) (M.getD (j - 1) default)) ?_
    refine run 2 ?_
    refine fin [0, 1, 2, 3, 8, 9, 34] [(0, 0)] ?_
    refine tst (fun h2 => ?_) (fun h2 => ?_)
    · simp at h2
      obtain ⟨k, rfl⟩ : ∃ k, j = k + 1 := ⟨j - 1, by omega⟩
      have e1 : bub a (k + 1) M = bub a k (swapL M k) := by rw [bub, if_pos ⟨by omega, by simpa using h2.2⟩]
      have ek : ((((k + 1 : Nat) : Int)) - 1).toNat = k := by omega
      have es : (swapL M k).map edPV = ((M.map edPV).set (k + 1) (edPV (M.getD k default))).set k (edPV (M.getD (k + 1) default)) := by simp only [swapL, List.map_set]
      clear ej hlt
      refine AW_skip ?_
      repeat (refine AW_seq ?_)
      refine AW_block ?_
      repeat (refine AW_seq ?_)
      refine reg ?_
      refine run 18 ?_
      refine finN ?_
      refine kp [0, 1, 2, 3, 8, 9] [(0, 0)] ?_
      repeat (refine AW_seq ?_)
      refine reg ?_
      refine run 3 ?_
      refine finN ?_
      exact ⟨(k, swapL M k), Nat.lt_succ_self _, ⟨by simp only; omega, by simp only; omega, by simp only [swapL_len]; exact hM, by simp only; rw [← e1]; exact hbub⟩, wk⟩
    · simp at h2
      have e1 : bub a j M = M := by
        cases j with
        | zero => rfl
        | succ k => rw [bub, if_neg]; rintro ⟨g1, g2⟩; have := h2 (by omega); simp at this g2; rw [this] at g2; cases g2
      clear ej hlt
      refine AW_exit ?_
      repeat (refine AW_seq ?_)
      refine reg ?_
      refine run 3 ?_
      refine finN ?_
      refine ⟨(i + 1, M), by simp only; omega, ⟨by simp only; omega, by simp only; omega, hM, ?_⟩, wk⟩
      simp only
      rw [← hout, show b - i = (b - (i + 1)) + 1 by omega, outr, ← hbub, e1]
  · simp at h1
    have e1 : L = isortL l a b := by rw [← hout, show b - i = 0 by omega]; rfl
    refine AW_exit ?_
    refine retWN ?_
    rfl
end Go.Proofs.Ytgkajfmjpobenaa
