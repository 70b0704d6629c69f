/-
  Mathematics of the layer draw: numbers out of raw words.
  Conditions: none.
-/
import Derived.Test.YtmefgkdchgokmaaTypes
namespace Go.Proofs.Ytmefgkdchgokmaa
open Go Go.Ab
set_option linter.unusedVariables false

def words (l : List Int) : PV := .sl (l.map uPV)
def wordsPV (l : List Int) (at_ : Int) : PV := .agg [words l, iPV at_]
def W64 (l : List Int) : Prop := ∀ x ∈ l, 0 ≤ x ∧ x ≤ 18446744073709551615

/-- the first number of the words that is none of P's, and how many words are taken -/
def drawL : List Int → Option (Int × Nat)
  | [] => none
  | x :: xs => if x % 2305843009213693952 = 2305843009213693951 then (match drawL xs with | some (v, k) => some (v, k + 1) | none => none) else some (x % 2305843009213693952, 1)
def belowE (l : List Int) (at_ : Int) : PV :=
  if 0 ≤ at_ ∧ at_ ≤ l.length then
    (match drawL (l.drop at_.toNat) with
    | some (v, k) => .tup [uPV v, wordsPV l (at_ + k), iPV 0]
    | none => .tup [uPV 0, wordsPV l at_, iPV 5])
  else .tup [uPV 0, wordsPV l at_, iPV 1]

theorem drop_getD (l : List Int) (k : Nat) (h : k < l.length) : l.drop k = l.getD k default :: l.drop (k + 1) := by
  rw [List.drop_eq_getElem_cons h]; congr 1
  rw [List.getD_eq_getElem?_getD, List.getElem?_eq_getElem h]; rfl
theorem w64_at {l : List Int} (h : W64 l) {k : Nat} (hk : k < l.length) : 0 ≤ l.getD k default ∧ l.getD k default ≤ 18446744073709551615 := by
  rw [List.getD_eq_getElem?_getD, List.getElem?_eq_getElem hk]; exact h _ (List.getElem_mem hk)

/-- behind k words that are passed over -/
def Passed (l : List Int) (a k : Nat) : Prop := drawL (l.drop a) = (match drawL (l.drop k) with | some (v, n) => some (v, n + (k - a)) | none => none)
theorem passed_start (l : List Int) (a : Nat) : Passed l a a := by
  unfold Passed; rw [Nat.sub_self]; cases drawL (l.drop a) with
  | none => rfl
  | some p => rfl
theorem passed_next {l : List Int} {a k : Nat} (h : Passed l a k) (ha : a ≤ k) (hk : k < l.length) (hx : l.getD k default % 2305843009213693952 = 2305843009213693951) : Passed l a (k + 1) := by
  unfold Passed at *
  rw [h, drop_getD l k hk, drawL, if_pos hx]
  cases drawL (l.drop (k + 1)) with
  | none => rfl
  | some p => simp only [Option.some.injEq, Prod.mk.injEq, true_and]; omega
theorem passed_found {l : List Int} {a k : Nat} (h : Passed l a k) (ha : a ≤ k) (hk : k < l.length) (hx : ¬ l.getD k default % 2305843009213693952 = 2305843009213693951) : drawL (l.drop a) = some (l.getD k default % 2305843009213693952, k + 1 - a) := by
  unfold Passed at h
  rw [h, drop_getD l k hk, drawL, if_neg hx]
  simp only [Option.some.injEq, Prod.mk.injEq, true_and]; omega
theorem passed_end {l : List Int} {a k : Nat} (h : Passed l a k) (hk : l.length ≤ k) : drawL (l.drop a) = none := by
  unfold Passed at h
  rw [h, List.drop_of_length_le hk]; rfl

theorem below_found {l : List Int} {at_ : Int} {k : Nat} (h0 : 0 ≤ at_) (h1 : at_ ≤ l.length) (h : Passed l at_.toNat k) (ha : at_.toNat ≤ k) (hk : k < l.length) (hx : ¬ l.getD k default % 2305843009213693952 = 2305843009213693951) :
    belowE l at_ = .tup [uPV (l.getD k default % 2305843009213693952), wordsPV l (k + 1), iPV 0] := by
  unfold belowE
  rw [if_pos ⟨h0, h1⟩, passed_found h ha hk hx]
  simp only
  rw [show at_ + ((k + 1 - at_.toNat : Nat) : Int) = (k : Int) + 1 by omega]
theorem below_end {l : List Int} {at_ : Int} {k : Nat} (h0 : 0 ≤ at_) (h1 : at_ ≤ l.length) (h : Passed l at_.toNat k) (hk : l.length ≤ k) : belowE l at_ = .tup [uPV 0, wordsPV l at_, iPV 5] := by
  unfold belowE
  rw [if_pos ⟨h0, h1⟩, passed_end h hk]
theorem below_arg {l : List Int} {at_ : Int} (h : ¬ (0 ≤ at_ ∧ at_ ≤ l.length)) : belowE l at_ = .tup [uPV 0, wordsPV l at_, iPV 1] := by
  unfold belowE
  rw [if_neg h]

/-! several numbers -/
theorem drawL_some : ∀ {l : List Int} {x : Int} {k : Nat}, drawL l = some (x, k) → 1 ≤ k ∧ k ≤ l.length ∧ 0 ≤ x ∧ x ≤ 2305843009213693950
  | [], x, k, h => by simp [drawL] at h
  | y :: l, x, k, h => by
    simp only [drawL] at h
    split at h
    · split at h
      · rename_i v n hr
        simp only [Option.some.injEq, Prod.mk.injEq] at h
        obtain ⟨rfl, rfl⟩ := h
        have := drawL_some hr
        simp only [List.length_cons]; omega
      · cases h
    · rename_i hy
      simp only [Option.some.injEq, Prod.mk.injEq] at h
      obtain ⟨rfl, rfl⟩ := h
      simp only [List.length_cons]; omega
theorem drawL_at {l : List Int} {a : Nat} {x : Int} {k : Nat} (h : drawL (l.drop a) = some (x, k)) : 1 ≤ k ∧ a + k ≤ l.length ∧ 0 ≤ x ∧ x ≤ 2305843009213693950 := by
  have := drawL_some h
  rw [List.length_drop] at this; omega

def numbersL (l : List Int) : Nat → Nat → Option (List Int × Nat)
  | 0, a => some ([], a)
  | m + 1, a => match drawL (l.drop a) with
    | none => none
    | some (x, k) => match numbersL l m (a + k) with
      | none => none
      | some (xs, e) => some (x :: xs, e)
/-- m numbers from a on: xs are there, m' are left, from a' on -/
def Got (l : List Int) (m a : Nat) (xs : List Int) (m' a' : Nat) : Prop := numbersL l m a = (match numbersL l m' a' with | some (r, e) => some (xs ++ r, e) | none => none)
theorem got_start (l : List Int) (m a : Nat) : Got l m a [] m a := by
  unfold Got; cases numbersL l m a with
  | none => rfl
  | some p => rfl
theorem got_next {l : List Int} {m a : Nat} {xs : List Int} {m' a' : Nat} (h : Got l m a xs (m' + 1) a') {x : Int} {k : Nat} (hd : drawL (l.drop a') = some (x, k)) : Got l m a (xs ++ [x]) m' (a' + k) := by
  unfold Got at *
  rw [h, numbersL, hd]
  simp only
  cases numbersL l m' (a' + k) with
  | none => rfl
  | some p => simp
theorem got_none {l : List Int} {m a : Nat} {xs : List Int} {m' a' : Nat} (h : Got l m a xs (m' + 1) a') (hd : drawL (l.drop a') = none) : numbersL l m a = none := by
  unfold Got at h
  rw [h, numbersL, hd]
theorem got_end {l : List Int} {m a : Nat} {xs : List Int} {a' : Nat} (h : Got l m a xs 0 a') : numbersL l m a = some (xs, a') := by
  unfold Got at h
  rw [h, numbersL]; simp
def hashPV (p : Int × Int) : PV := .agg [uPV p.1, uPV p.2]
def pairsN (xs : List Int) (n : Nat) : List (Int × Int) := (List.range n).map fun j => (xs.getD (2 * j) default, xs.getD (2 * j + 1) default)
theorem pairsN_len (xs : List Int) (n : Nat) : (pairsN xs n).length = n := by simp [pairsN]
theorem pairsN_succ (xs : List Int) (n : Nat) : pairsN xs (n + 1) = pairsN xs n ++ [(xs.getD (2 * n) default, xs.getD (2 * n + 1) default)] := by
  simp [pairsN, List.range_succ]
theorem getD_append_left {α : Type} (l r : List α) (i : Nat) (d : α) (h : i < l.length) : (l ++ r).getD i d = l.getD i d := by
  simp only [List.getD_eq_getElem?_getD, List.getElem?_append_left h]
theorem pairsN_more (xs : List Int) (n : Nat) (x y : Int) (h : xs.length = 2 * n) : pairsN (xs ++ [x] ++ [y]) (n + 1) = pairsN xs n ++ [(x, y)] := by
  rw [pairsN_succ]
  congr 1
  · unfold pairsN
    refine List.map_congr_left fun j hj => ?_
    have hj' := List.mem_range.1 hj
    rw [List.append_assoc, getD_append_left _ _ _ _ (by omega), getD_append_left _ _ _ _ (by omega)]
  · simp [List.getD_eq_getElem?_getD, h]
theorem set_at {α : Type} (A : List α) (m : Nat) (z v : α) (n : Nat) (h : n = A.length) : (A ++ List.replicate (m + 1) z).set n v = A ++ [v] ++ List.replicate m z := by
  subst h
  rw [List.set_append_right _ _ (Nat.le_refl _), Nat.sub_self, List.replicate_succ, List.set_cons_zero, List.append_assoc]; rfl

def hashesE (l : List Int) (at_ n : Int) : PV :=
  if (0 ≤ at_ ∧ at_ ≤ l.length) ∧ 0 ≤ n ∧ n ≤ 128 then
    (match numbersL l (2 * n.toNat) at_.toNat with
    | some (xs, e) => .tup [.sl ((pairsN xs n.toNat).map hashPV), wordsPV l e, iPV 0]
    | none => .tup [.sl [], wordsPV l at_, iPV 5])
  else .tup [.sl [], wordsPV l at_, iPV 1]
theorem hashes_arg {l : List Int} {at_ n : Int} (h : ¬ ((0 ≤ at_ ∧ at_ ≤ l.length) ∧ 0 ≤ n ∧ n ≤ 128)) : hashesE l at_ n = .tup [.sl [], wordsPV l at_, iPV 1] := if_neg h
theorem hashes_none {l : List Int} {a n : Nat} (h0 : a ≤ l.length) (h1 : n ≤ 128) (h : numbersL l (2 * n) a = none) : hashesE l a n = .tup [.sl [], wordsPV l a, iPV 5] := by
  unfold hashesE
  rw [if_pos (by omega)]
  simp only [Int.toNat_natCast, h]
theorem hashes_some {l : List Int} {a n : Nat} (h0 : a ≤ l.length) (h1 : n ≤ 128) {xs : List Int} {e : Nat} (h : numbersL l (2 * n) a = some (xs, e)) : hashesE l a n = .tup [.sl ((pairsN xs n).map hashPV), wordsPV l e, iPV 0] := by
  unfold hashesE
  rw [if_pos (by omega)]
  simp only [Int.toNat_natCast, h]
end Go.Proofs.Ytmefgkdchgokmaa
