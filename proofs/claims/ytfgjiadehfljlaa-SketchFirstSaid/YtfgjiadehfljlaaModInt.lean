/-
  What the layer mod answers, as functions on whole numbers: what a number leaves over modulo P, powers, and the number that one is multiplied by to leave over 1; and the laws of these.
  Conditions: none.
-/
import Derived.Test.YtfgjiadehfljlaaModMath
namespace Go.Proofs.Ytfgjiadehfljlaa.M

/-- what a number leaves over -/
def mP (x : Int) : Int := x % 2305843009213693951
/-- a power, modulo P -/
def powP (a n : Int) : Int := mP (a ^ n.toNat)
/-- the number that a is multiplied by to leave over 1 -/
def invP (a : Int) : Int := powP a 2305843009213693949

theorem mP_nonneg (x : Int) : 0 ≤ mP x := by unfold mP; omega
theorem mP_lt (x : Int) : mP x < 2305843009213693951 := by unfold mP; omega
theorem mP_le (x : Int) : mP x ≤ 2305843009213693950 := by unfold mP; omega
theorem mP_mP (x : Int) : mP (mP x) = mP x := by unfold mP; omega
theorem mP_small (x : Int) (h : 0 ≤ x) (h' : x < 2305843009213693951) : mP x = x := by unfold mP; omega
theorem mP_add_l (x y : Int) : mP (mP x + y) = mP (x + y) := by unfold mP; omega
theorem mP_add_r (x y : Int) : mP (x + mP y) = mP (x + y) := by unfold mP; omega
theorem mP_add (x y : Int) : mP (mP x + mP y) = mP (x + y) := by unfold mP; omega
theorem mP_sub_l (x y : Int) : mP (mP x - y) = mP (x - y) := by unfold mP; omega
theorem mP_sub_r (x y : Int) : mP (x - mP y) = mP (x - y) := by unfold mP; omega
theorem mP_sub (x y : Int) : mP (mP x + 2305843009213693951 - mP y) = mP (x - y) := by unfold mP; omega
theorem mP_mul_l (x y : Int) : mP (mP x * y) = mP (x * y) := by unfold mP; rw [Int.mul_emod, Int.emod_emod_of_dvd _ (Int.dvd_refl _), ← Int.mul_emod]
theorem mP_mul_r (x y : Int) : mP (x * mP y) = mP (x * y) := by rw [Int.mul_comm, mP_mul_l, Int.mul_comm]
theorem mP_mul (x y : Int) : mP (mP x * mP y) = mP (x * y) := by rw [mP_mul_l, mP_mul_r]
theorem mP_congr_mul (x y z : Int) (h : mP x = mP y) : mP (x * z) = mP (y * z) := by rw [← mP_mul_l, h, mP_mul_l]

theorem mP_pow (x : Int) : ∀ n : Nat, mP (mP x ^ n) = mP (x ^ n)
  | 0 => by simp
  | n + 1 => by rw [Int.pow_succ, Int.pow_succ, mP_mul_r, ← mP_mul_l, mP_pow x n, mP_mul_l]

theorem powP_nonneg (a n : Int) : 0 ≤ powP a n := mP_nonneg _
theorem powP_le (a n : Int) : powP a n ≤ 2305843009213693950 := mP_le _
theorem invP_nonneg (a : Int) : 0 ≤ invP a := mP_nonneg _
theorem invP_le (a : Int) : invP a ≤ 2305843009213693950 := mP_le _
theorem mP_powP (a n : Int) : mP (powP a n) = powP a n := mP_mP _
theorem mP_invP (a : Int) : mP (invP a) = invP a := mP_mP _
theorem powP_mP (a n : Int) : powP (mP a) n = powP a n := mP_pow a _
theorem invP_mP (a : Int) : invP (mP a) = invP a := powP_mP a _

theorem powP_add (a n m : Int) (hn : 0 ≤ n) (hm : 0 ≤ m) : mP (powP a n * powP a m) = powP a (n + m) := by
  unfold powP
  rw [mP_mul, Int.toNat_add hn hm, Int.pow_add]

theorem powP_mul (a n m : Int) (hn : 0 ≤ n) (hm : 0 ≤ m) : powP (powP a n) m = powP a (n * m) := by
  unfold powP
  rw [mP_pow, ← Int.pow_mul, Int.toNat_mul hn hm]

theorem natCast_mP (k : Nat) : mP (k : Int) = ((k % PN : Nat) : Int) := by unfold mP PN; omega

/-- P - 1 as an exponent -/
theorem fermatI (b : Int) (h0 : 0 ≤ b) (hb : mP b ≠ 0) : mP (b ^ QN) = 1 := by
  obtain ⟨k, rfl⟩ := Int.eq_ofNat_of_zero_le h0
  have hk : k % PN ≠ 0 := by
    intro h; apply hb; rw [natCast_mP, h]; rfl
  have e : ((k : Int) ^ QN) = ((k ^ QN : Nat) : Int) := by rw [Int.natCast_pow]
  rw [e, natCast_mP, fermat k hk]; rfl

theorem step_exp (n : Nat) (hn : 2 ≤ n) : (n - 1) * (n - 1) = n * (n - 2) + 1 := by
  obtain ⟨k, rfl⟩ : ∃ k, n = k + 2 := ⟨n - 2, by omega⟩
  show (k + 1) * (k + 1) = (k + 2) * k + 1
  rw [Nat.add_mul, Nat.mul_add, Nat.add_mul]; omega

/-- the exponent of Inv -/
theorem expInv : ((2305843009213693949 : Int)).toNat = QN - 1 := by decide +kernel

theorem invP_eq (b : Int) : invP b = mP (b ^ (QN - 1)) := by
  unfold invP powP; rw [expInv]

theorem pow_from (b : Int) (n : Nat) (hn : 2 ≤ n) : b ^ (n - 1) * b = b ^ n := by
  rw [← Int.pow_succ]
  exact congrArg (fun k => b ^ k) (show n - 1 + 1 = n by omega)

theorem invP_spec (b : Int) (h0 : 0 ≤ b) (hb : mP b ≠ 0) : mP (b * invP b) = 1 := by
  rw [invP_eq, mP_mul_r, Int.mul_comm, pow_from b QN (by decide +kernel)]
  exact fermatI b h0 hb

theorem pow_one (x : Int) (h : mP x = 1) (k : Nat) : mP (x ^ k) = 1 := by
  rw [← mP_pow, h, Int.one_pow]; decide +kernel

theorem inv_exp (b : Int) (n : Nat) (hn : 2 ≤ n) (h : mP (b ^ n) = 1) : mP (mP (b ^ (n - 1)) ^ (n - 1)) = mP b := by
  rw [mP_pow, ← Int.pow_mul, step_exp n hn, Int.pow_succ, Int.pow_mul, ← mP_mul_l, pow_one _ h, Int.one_mul]

theorem invP_invP (b : Int) (h0 : 0 ≤ b) (hb : mP b ≠ 0) : invP (invP b) = mP b := by
  rw [invP_eq (invP b), invP_eq b]
  exact inv_exp b QN (by decide +kernel) (fermatI b h0 hb)

theorem invP_zero : invP 0 = 0 := by
  rw [invP_eq, show QN - 1 = (QN - 2) + 1 by decide +kernel, Int.pow_succ, Int.mul_zero]; decide +kernel

theorem invP_of_zero (b : Int) (h : mP b = 0) : invP b = 0 := by rw [← invP_mP, h, invP_zero]

theorem two61 (k : Nat) : mP ((2 ^ 61 : Int) ^ k) = 1 := pow_one _ (by decide +kernel) k

theorem inv_two_at (k n : Nat) (h : n = 61 * k + 60) : mP ((2 : Int) ^ n) = 1152921504606846976 := by
  rw [h, Int.pow_add, Int.pow_mul, ← mP_mul_l, two61, Int.one_mul]; decide +kernel

theorem invP_two : invP 2 = 1152921504606846976 := by
  rw [invP_eq]
  exact inv_two_at ((QN - 1 - 60) / 61) (QN - 1) (by decide +kernel)

theorem powP_zero (a : Int) : powP a 0 = 1 := by
  unfold powP
  rw [show (0 : Int).toNat = 0 from rfl, Int.pow_zero]; decide +kernel

/-! the laws, in the very forms in which the statements ask them -/
theorem law_back_sub (a b : Int) : mP (mP (a + b) - b) = mP a := by unfold mP; omega
theorem law_back_add (a b : Int) : mP (mP (a - b) + b) = mP a := by unfold mP; omega
theorem law_div (a b : Int) (h0 : 0 ≤ b) (hb : mP b ≠ 0) : mP (mP (a * b) * invP b) = mP a := by
  rw [mP_mul_l, Int.mul_assoc, ← mP_mul_r, invP_spec b h0 hb, Int.mul_one]
theorem law_mul_zero (a b : Int) (hb : mP b = 0) : mP (a * b) = 0 := by rw [← mP_mul_r, hb, Int.mul_zero]; decide +kernel
theorem law_half (a : Int) : mP (mP (a * 1152921504606846976) + mP (a * 1152921504606846976)) = mP a := by unfold mP; omega
theorem law_twice (a : Int) : mP (a + a) = mP (2 * a) := by rw [show a + a = 2 * a by omega]
theorem law_distr (a b c : Int) : mP (mP (a + b) * c) = mP (mP (a * c) + mP (b * c)) := by rw [mP_mul_l, mP_add, Int.add_mul]
theorem law_mul_assoc (a b c : Int) : mP (mP (a * b) * c) = mP (a * mP (b * c)) := by rw [mP_mul_l, mP_mul_r, Int.mul_assoc]
theorem law_add_assoc (a b c : Int) : mP (mP (a + b) + c) = mP (a + mP (b + c)) := by unfold mP; omega
theorem law_add_comm (a b : Int) : mP (a + b) = mP (b + a) := by rw [Int.add_comm]
theorem law_mul_comm (a b : Int) : mP (a * b) = mP (b * a) := by rw [Int.mul_comm]

end Go.Proofs.Ytfgjiadehfljlaa.M
