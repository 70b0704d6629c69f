/-
  What each function of the layer mod answers, and each of the document's own answers for it, for every number of 64 bits: contracts, each out of a walk of its text.
  Conditions: each argument is a number of 64 bits.
-/
import Derived.Test.YtnbinkpbbfkhaaaChecked
import Derived.Test.YtnbinkpbbfkhaaaModInt
import Derived.Shelf.Bits.Mul64
import Derived.WalkKit
import Derived.WalkSpells
import Derived.Lib.Hide
import Derived.Laws.Bits64
import Derived.Laws.Bits64b
import Derived.Laws.BitsAllLaws
namespace Go.Proofs.Ytnbinkpbbfkhaaa
open Go.RowKit Go.Shelf
open Go.Proofs.Ytnbinkpbbfkhaaa.M
set_option linter.unusedVariables false

def mulRen : Go.Shelf.Ren := ⟨fun | 264 => 19 | n => n, fun | 53 => 22 | 46 => 34 | n => n, fun | n => n⟩
theorem mulLays : Go.Proofs.Lays.n264 Try.prog mulRen := {
  mixed := by kernel_rfl
  f264 := Try.func19.trans (congrArg some (by kernel_rfl))
  t46 := Try.underlying34
  a46 := Try.isAgg34
  z46 := Try.sizeOf34
  v46 := Try.zeroValue34
  t53 := Try.underlying22
  a53 := Try.isAgg22
  z53 := Try.sizeOf22
  v53 := Try.zeroValue22 }

/-- the upper and the lower half of a product -/
def hiQ (x y : Int) : Int := x * y / 18446744073709551616
def loQ (x y : Int) : Int := x * y % 18446744073709551616

theorem bitsMul_any (x y : Int) (hx : 0 ≤ x) (hx' : x < 18446744073709551616) (hy : 0 ≤ y) (hy' : y < 18446744073709551616) (w : World) :
    Calls Try.prog 19 #[.int .u64 x, .int .u64 y] w fun e w' => e = .returned (.tuple #[.int .u64 (hiQ x y), .int .u64 (loQ x y)]) ∧ w = w' := by
  obtain ⟨a, rfl⟩ := Int.eq_ofNat_of_zero_le hx
  obtain ⟨b, rfl⟩ := Int.eq_ofNat_of_zero_le hy
  refine (Any.bits_Mul64 mulLays a b (by omega) (by omega) w).mono ?_
  intro e w' h
  refine ⟨?_, h.2.symm⟩
  rw [h.1]
  unfold hiQ loQ
  rw [← Int.natCast_mul]
  rfl

/-- the bits of a product from 61 on, and those below -/
def topQ (x y : Int) : Int := hiQ x y * 8 + loQ x y / 2305843009213693952
def lowQ (x y : Int) : Int := loQ x y % 2305843009213693952

theorem top_nonneg (x y : Int) (hx : 0 ≤ x) (hy : 0 ≤ y) : 0 ≤ topQ x y := by
  have h := Int.mul_nonneg hx hy
  unfold topQ hiQ loQ; omega
theorem low_nonneg (x y : Int) : 0 ≤ lowQ x y := by unfold lowQ; omega
theorem low_le (x y : Int) : lowQ x y ≤ 2305843009213693951 := by unfold lowQ; omega
theorem prod_le (x y : Int) (hx : 0 ≤ x) (hx' : x ≤ 2305843009213693950) (hy : 0 ≤ y) (hy' : y ≤ 2305843009213693950) : x * y ≤ 2305843009213693950 * 2305843009213693950 :=
  Int.mul_le_mul hx' hy' hy (by omega)
theorem top_le (x y : Int) (hx : 0 ≤ x) (hx' : x ≤ 2305843009213693950) (hy : 0 ≤ y) (hy' : y ≤ 2305843009213693950) : topQ x y ≤ 2305843009213693951 := by
  have h := prod_le x y hx hx' hy hy'
  have h' := Int.mul_nonneg hx hy
  unfold topQ hiQ loQ; omega
theorem fold_eq (x y : Int) : mP (topQ x y + lowQ x y) = mP (x * y) := by
  unfold topQ lowQ hiQ loQ mP; omega
theorem top_bits (x y : Int) (hx : 0 ≤ x) (hx' : x ≤ 2305843009213693950) (hy : 0 ≤ y) (hy' : y ≤ 2305843009213693950) :
    bits .or .u64 (IntKind.u64.wrap (hiQ x y * 8)) (loQ x y / 2305843009213693952) = topQ x y := by
  have h := prod_le x y hx hx' hy hy'
  have h' := Int.mul_nonneg hx hy
  have e1 : 0 ≤ hiQ x y := by unfold hiQ; omega
  have e2 : hiQ x y * 8 < 18446744073709551616 := by unfold hiQ; omega
  have e3 : 0 ≤ loQ x y := by unfold loQ; omega
  have e4 : loQ x y < 18446744073709551616 := by unfold loQ; omega
  rw [IntKind.wrap_u64, Int.emod_eq_of_lt (by omega) e2]
  unfold topQ
  generalize hiQ x y = p at e1 e2 ⊢
  generalize loQ x y = q at e3 e4 ⊢
  rw [u64_or _ _ (by omega) e2 (by omega) (by omega), nat_join 3 _ _ (by omega) (by omega)]
  omega
theorem low_bits (x y : Int) : bits .and .u64 (loQ x y) 2305843009213693951 = lowQ x y := by
  have e3 : 0 ≤ loQ x y := by unfold loQ; omega
  have e4 : loQ x y < 18446744073709551616 := by unfold loQ; omega
  unfold lowQ
  generalize loQ x y = q at e3 e4 ⊢
  rw [u64_and _ _ e3 e4 (by decide) (by decide), show (2305843009213693951 : Int).toNat = 2305843009213693951 by decide, nat_mask61]
  omega

theorem of_any (a : Int) (h0 : 0 ≤ a) (w : World) :
    Calls Try.prog 9 #[.int .u64 a] w fun e w' => e = .returned (.int .u64 (mP a)) ∧ w = w' := by
  go_enter Try.func9, Try.ntmps9
  go_wp2
  go_ret
  exact ⟨rfl, rfl⟩

theorem add_any (a b : Int) (h0 : 0 ≤ a) (h1 : 0 ≤ b) (w : World) :
    Calls Try.prog 10 #[.int .u64 a, .int .u64 b] w fun e w' => e = .returned (.int .u64 (mP (a + b))) ∧ w = w' := by
  have a1 := mP_nonneg a
  have a2 := mP_le a
  have b1 := mP_nonneg b
  have b2 := mP_le b
  have H := mP_add a b
  go_enter Try.func10, Try.ntmps10
  go_wp2_with (go_at_call 9; refine (of_any _ (by omega) _).mono ?_; rintro e w' ⟨rfl, rfl⟩)
  go_ret
  exact ⟨rfl, rfl⟩

theorem sub_any (a b : Int) (h0 : 0 ≤ a) (h1 : 0 ≤ b) (w : World) :
    Calls Try.prog 12 #[.int .u64 a, .int .u64 b] w fun e w' => e = .returned (.int .u64 (mP (a - b))) ∧ w = w' := by
  have a1 := mP_nonneg a
  have a2 := mP_le a
  have b1 := mP_nonneg b
  have b2 := mP_le b
  have H := mP_sub a b
  go_enter Try.func12, Try.ntmps12
  go_wp2_with (go_at_call 9; refine (of_any _ (by omega) _).mono ?_; rintro e w' ⟨rfl, rfl⟩)
  go_ret
  exact ⟨rfl, rfl⟩

theorem mul_any (a b : Int) (h0 : 0 ≤ a) (h1 : 0 ≤ b) (w : World) :
    Calls Try.prog 14 #[.int .u64 a, .int .u64 b] w fun e w' => e = .returned (.int .u64 (mP (a * b))) ∧ w = w' := by
  have a1 := mP_nonneg a
  have a2 := mP_le a
  have b1 := mP_nonneg b
  have b2 := mP_le b
  have H1 := top_bits (mP a) (mP b) a1 a2 b1 b2
  have H2 := low_bits (mP a) (mP b)
  have H3 : mP (topQ (mP a) (mP b) + lowQ (mP a) (mP b)) = mP (a * b) := by rw [fold_eq, mP_mul]
  have c1 := top_nonneg (mP a) (mP b) a1 b1
  have c2 := low_nonneg (mP a) (mP b)
  go_enter Try.func14, Try.ntmps14
  go_wp2_with (first | (go_at_call 9; refine (of_any _ (by omega) _).mono ?_; rintro e w' ⟨rfl, rfl⟩) | (go_at_call 19; refine (bitsMul_any _ _ (by omega) (by omega) (by omega) (by omega) _).mono ?_; rintro e w' ⟨rfl, rfl⟩) | (go_at_call 10; refine (add_any _ _ (by omega) (by omega) _).mono ?_; rintro e w' ⟨rfl, rfl⟩))
  go_ret
  exact ⟨rfl, rfl⟩

/-! powers -/
/-- what is left to multiply, at the head of each round -/
def powR (p s k : Int) : Int := mP (p * s ^ k.toNat)
theorem powR_end (p s : Int) (h0 : 0 ≤ p) (h1 : p ≤ 2305843009213693950) : powR p s 0 = p := by
  unfold powR; rw [show (0 : Int).toNat = 0 from rfl, Int.pow_zero, Int.mul_one]; exact mP_small _ h0 (by omega)
theorem half_toNat (k : Int) (h : 0 ≤ k) : k.toNat = k % 2 + 2 * (k / 2).toNat := by omega
theorem powR_even (p s k : Int) (h : 0 ≤ k) (hk : k % 2 = 0) : powR p (mP (s * s)) (k / 2) = powR p s k := by
  unfold powR
  have e : k.toNat = 2 * (k / 2).toNat := by omega
  rw [← mP_mul_r p, mP_pow, mP_mul_r, e, Int.pow_mul, show s ^ 2 = s * s from by rw [Int.pow_succ, Int.pow_succ, Int.pow_zero, Int.one_mul]]
theorem powR_odd (p s k : Int) (h : 0 ≤ k) (hk : k % 2 = 1) : powR (mP (p * s)) (mP (s * s)) (k / 2) = powR p s k := by
  unfold powR
  have e : k.toNat = 2 * (k / 2).toNat + 1 := by omega
  rw [mP_mul_l, ← mP_mul_r (p * s), mP_pow, mP_mul_r, e, Int.pow_succ, Int.pow_mul, show s ^ 2 = s * s from by rw [Int.pow_succ, Int.pow_succ, Int.pow_zero, Int.one_mul], Int.mul_assoc, Int.mul_comm s]
theorem powR_start (a n : Int) : powR 1 (mP a) n = powP a n := by
  unfold powR powP; rw [Int.one_mul, mP_pow]
theorem and_one (k : Int) (h0 : 0 ≤ k) (h1 : k < 18446744073709551616) : bits .and .u64 k 1 = k % 2 := by
  rw [u64_and _ _ h0 h1 (by decide) (by decide), show (1 : Int).toNat = 1 by decide, nat_mask1]
  omega

/-- at the head of a round: 'k' of the exponent is left, 'p' is the power so far, 's' the square -/
def PowAt (r k p s : Int) : Prop := 0 ≤ k ∧ k ≤ 18446744073709551615 ∧ 0 ≤ p ∧ p ≤ 2305843009213693950 ∧ 0 ≤ s ∧ powR p s k = r

theorem pow_any (a n : Int) (h0 : 0 ≤ a) (h1 : 0 ≤ n) (h2 : n ≤ 18446744073709551615) (w : World) :
    Calls Try.prog 18 #[.int .u64 a, .int .u64 n] w fun e w' => e = .returned (.int .u64 (powP a n)) ∧ w = w' := by
  have hs : PowAt (powP a n) n 1 (mP a) := ⟨h1, h2, by omega, by omega, mP_nonneg a, powR_start a n⟩
  generalize powP a n = r at hs
  go_enter Try.func18, Try.ntmps18
  go_wp2_with (go_at_call 9; refine (of_any _ (by omega) _).mono ?_; rintro e w' ⟨rfl, rfl⟩)
  go_loop [1, 5, 6] (fun n p s => ∃ k p' s' : Int, PowAt r k p' s' ∧ n = .int .u64 k ∧ p = .int .u64 p' ∧ s = .int .u64 s') (fun n _ _ => (intOf n).toNat)
  case atStart => exact ⟨n, 1, mP a, hs, rfl, rfl, rfl⟩
  case round =>
    obtain ⟨k, p, s, hr, rfl, rfl, rfl⟩ := hrel
    clear hs
    obtain ⟨k0, k1, p0, p1, s0, hp⟩ := hr
    have HP := Lib.hid hp
    clear hp
    by_cases hk : 0 < k
    · have HB := and_one k k0 (by omega)
      by_cases hodd : k % 2 = 1
      · go_wp2_with (go_at_call 14; refine (mul_any _ _ (by first | assumption | exact mP_nonneg _) (by first | assumption | exact mP_nonneg _) _).mono ?_; rintro e w' ⟨rfl, rfl⟩)
        go_round
        case rel => exact ⟨k / 2, mP (p * s), mP (s * s), ⟨by omega, by omega, mP_nonneg _, mP_le _, mP_nonneg _, by rw [powR_odd p s k k0 hodd]; exact HP.out⟩, rfl, rfl, rfl⟩
        case measure => simp [intOf]; omega
      · go_wp2_with (go_at_call 14; refine (mul_any _ _ (by first | assumption | exact mP_nonneg _) (by first | assumption | exact mP_nonneg _) _).mono ?_; rintro e w' ⟨rfl, rfl⟩)
        go_round
        case rel => exact ⟨k / 2, p, mP (s * s), ⟨by omega, by omega, p0, p1, mP_nonneg _, by rw [powR_even p s k k0 (by omega)]; exact HP.out⟩, rfl, rfl, rfl⟩
        case measure => simp [intOf]; omega
    · have hk0 : k = 0 := by omega
      have hr : p = r := by rw [← HP.out, hk0, powR_end p s p0 p1]
      clear HP
      subst hr
      go_wp2
      go_ret
      exact ⟨rfl, rfl⟩

theorem inv_any (a : Int) (h0 : 0 ≤ a) (w : World) :
    Calls Try.prog 17 #[.int .u64 a] w fun e w' => e = .returned (.int .u64 (invP a)) ∧ w = w' := by
  go_enter Try.func17, Try.ntmps17
  go_wp2_with (go_at_call 18; refine (pow_any _ _ (by omega) (by omega) (by omega) _).mono ?_; rintro e w' ⟨rfl, rfl⟩)
  go_ret
  exact ⟨rfl, rfl⟩

/-! the document's own answers -/
theorem ret_int {k : IntKind} {a b : Int} (h : a = b) : Ending.returned (.int k a) = .returned (.int k b) := by rw [h]

theorem refAdd_any (a b : Int) (h0 : 0 ≤ a) (h1 : 0 ≤ b) (w : World) :
    Calls Try.prog 11 #[.int .u64 a, .int .u64 b] w fun e w' => e = .returned (.int .u64 (mP (a + b))) ∧ w = w' := by
  have a1 := mP_nonneg a
  have a2 := mP_le a
  have b1 := mP_nonneg b
  have b2 := mP_le b
  have H : mP a + mP b ≤ 4611686018427387900 := by omega
  have Ha : a % 2305843009213693951 = mP a := rfl
  have Hb : b % 2305843009213693951 = mP b := rfl
  have Hc : (mP a + mP b) % 2305843009213693951 = mP (a + b) := mP_add a b
  go_enter Try.func11, Try.ntmps11
  go_wp2
  go_ret
  exact ⟨ret_int Hc, rfl⟩

theorem refSub_any (a b : Int) (h0 : 0 ≤ a) (h1 : 0 ≤ b) (w : World) :
    Calls Try.prog 13 #[.int .u64 a, .int .u64 b] w fun e w' => e = .returned (.int .u64 (mP (a - b))) ∧ w = w' := by
  have a1 := mP_nonneg a
  have a2 := mP_le a
  have b1 := mP_nonneg b
  have b2 := mP_le b
  have Ha : a % 2305843009213693951 = mP a := rfl
  have Hb : b % 2305843009213693951 = mP b := rfl
  have Hc : (mP a + 2305843009213693951 - mP b) % 2305843009213693951 = mP (a - b) := mP_sub a b
  go_enter Try.func13, Try.ntmps13
  go_wp2
  go_ret
  exact ⟨ret_int Hc, rfl⟩

/-- at the head of a round: 'j' bits of 'B' are left, what those above make is 'o' -/
def MulAt (A B j o : Int) : Prop := 0 ≤ j ∧ j ≤ 61 ∧ o = mP (A * (B / 2 ^ j.toNat))

theorem mulAt_start (A B : Int) (hB : 0 ≤ B) (hB' : B < 2305843009213693951) : MulAt A B 61 0 := by
  refine ⟨by omega, by omega, ?_⟩
  have e : B / 2 ^ (61 : Int).toNat = 0 := by
    rw [show (61 : Int).toNat = 61 by decide]; omega
  rw [e, Int.mul_zero]; decide +kernel
theorem half_pow (B : Int) (n : Nat) : B / 2 ^ (n + 1) = B / 2 ^ n / 2 := by
  rw [Int.pow_succ, Int.ediv_ediv_of_nonneg (Int.pow_nonneg (by decide))]
theorem mul_split (A q r o : Int) (ho : o = mP (A * q)) : mP (mP (o + o) + A * r) = mP (A * (2 * q + r)) := by
  rw [ho, mP_add_l, Int.mul_add, Int.mul_left_comm, Int.two_mul]
  rw [← mP_add_l, mP_add, mP_add_l]
theorem mulAt_one (A B j o : Int) (h : MulAt A B j o) (hj : 1 ≤ j) (hB : 0 ≤ B) (hb : (B / 2 ^ (j.toNat - 1)).tmod 2 = 1) : MulAt A B (j - 1) (mP (mP (o + o) + A)) := by
  obtain ⟨h0, h1, h2⟩ := h
  refine ⟨by omega, by omega, ?_⟩
  have e : j.toNat = (j.toNat - 1) + 1 := by omega
  have e' : (j - 1).toNat = j.toNat - 1 := by omega
  rw [e, half_pow] at h2
  rw [e']
  have hn : 0 ≤ B / 2 ^ (j.toNat - 1) := Int.ediv_nonneg hB (Int.pow_nonneg (by decide))
  generalize B / 2 ^ (j.toNat - 1) = q at h2 hb hn ⊢
  rw [Int.tmod_eq_emod_of_nonneg hn] at hb
  have h3 := mul_split A (q / 2) 1 o h2
  rw [Int.mul_one] at h3
  rw [h3, show 2 * (q / 2) + 1 = q by omega]
theorem mulAt_zero (A B j o : Int) (h : MulAt A B j o) (hj : 1 ≤ j) (hB : 0 ≤ B) (hb : ¬ (B / 2 ^ (j.toNat - 1)).tmod 2 = 1) : MulAt A B (j - 1) (mP (o + o)) := by
  obtain ⟨h0, h1, h2⟩ := h
  refine ⟨by omega, by omega, ?_⟩
  have e : j.toNat = (j.toNat - 1) + 1 := by omega
  have e' : (j - 1).toNat = j.toNat - 1 := by omega
  rw [e, half_pow] at h2
  rw [e']
  have hn : 0 ≤ B / 2 ^ (j.toNat - 1) := Int.ediv_nonneg hB (Int.pow_nonneg (by decide))
  generalize B / 2 ^ (j.toNat - 1) = q at h2 hb hn ⊢
  rw [Int.tmod_eq_emod_of_nonneg hn] at hb
  have h3 := mul_split A (q / 2) 0 o h2
  rw [Int.mul_zero, Int.add_zero, mP_mP] at h3
  rw [h3, show 2 * (q / 2) + 0 = q by omega]
theorem mulAt_end (a b j o : Int) (h : MulAt (a % 2305843009213693951) (b % 2305843009213693951) j o) (hj : ¬ 1 ≤ j) : o = mP (a * b) := by
  obtain ⟨h0, _, h2⟩ := h
  obtain rfl : j = 0 := by omega
  rw [h2, show (0 : Int).toNat = 0 from rfl, Int.pow_zero, Int.ediv_one]
  exact mP_mul a b

theorem refMul_any (a b : Int) (h0 : 0 ≤ a) (h1 : 0 ≤ b) (w : World) :
    Calls Try.prog 15 #[.int .u64 a, .int .u64 b] w fun e w' => e = .returned (.int .u64 (mP (a * b))) ∧ w = w' := by
  have a1 := mP_nonneg a
  have b1 : 0 ≤ b % 2305843009213693951 := mP_nonneg b
  have b2 : b % 2305843009213693951 < 2305843009213693951 := mP_lt b
  go_enter Try.func15, Try.ntmps15
  go_wp2
  go_loop [5, 6] (fun o i => ∃ j o' : Int, MulAt (a % 2305843009213693951) (b % 2305843009213693951) j o' ∧ o = .int .u64 o' ∧ i = .int .i64 (j - 1)) (fun _ i => (intOf i + 1).toNat)
  case atStart => exact ⟨61, 0, mulAt_start _ _ b1 b2, rfl, rfl⟩
  case round =>
    obtain ⟨j, o, hr, rfl, rfl⟩ := hrel
    have j0 := hr.1
    have j1 := hr.2.1
    have HR := Lib.hid hr
    clear hr
    have o0 : 0 ≤ o := by rw [HR.out.2.2]; exact mP_nonneg _
    by_cases hj : 1 ≤ j
    · by_cases ht : (b % 2305843009213693951 / 2 ^ (j.toNat - 1)).tmod 2 = 1
      · have HT : ((b % 2305843009213693951 / 2 ^ (j.toNat - 1)).tmod 2 == 1) = true := by rw [ht]; rfl
        have HM := Lib.hid (mulAt_one _ _ j o HR.out hj b1 ht)
        clear ht
        go_wp2_with (go_at_call 11; refine (refAdd_any _ _ (by first | assumption | exact mP_nonneg _) (by first | assumption | exact mP_nonneg _) _).mono ?_; rintro e w' ⟨rfl, rfl⟩)
        go_round
        case rel => exact ⟨j - 1, _, HM.out, rfl, rfl⟩
        case measure => simp [intOf]; omega
      · have HT : ((b % 2305843009213693951 / 2 ^ (j.toNat - 1)).tmod 2 == 1) = false := by simpa using ht
        have HM := Lib.hid (mulAt_zero _ _ j o HR.out hj b1 ht)
        clear ht
        go_wp2_with (go_at_call 11; refine (refAdd_any _ _ (by first | assumption | exact mP_nonneg _) (by first | assumption | exact mP_nonneg _) _).mono ?_; rintro e w' ⟨rfl, rfl⟩)
        go_round
        case rel => exact ⟨j - 1, _, HM.out, rfl, rfl⟩
        case measure => simp [intOf]; omega
    · have he := mulAt_end a b j o HR.out hj
      clear HR
      subst he
      go_wp2
      go_ret
      exact ⟨rfl, rfl⟩

/-! the fixed answers -/
theorem ret_as {r : Ending} {x y : Int} {w w' : World} (h : x = y) (h' : r = .returned (.int .u64 x) ∧ w = w') : r = .returned (.int .u64 y) ∧ w = w' := by rw [← h]; exact h'
theorem awake_mul (w : World) : Calls Try.prog 14 #[.int .u64 1152921504606846976, .int .u64 2] w fun e w' => e = .returned (.int .u64 1) ∧ w = w' :=
  (mul_any _ _ (by decide) (by decide) w).mono fun _ _ h => ret_as (by decide +kernel) h
theorem awake_sub (w : World) : Calls Try.prog 12 #[.int .u64 0, .int .u64 1] w fun e w' => e = .returned (.int .u64 2305843009213693950) ∧ w = w' :=
  (sub_any _ _ (by decide) (by decide) w).mono fun _ _ h => ret_as (by decide +kernel) h
theorem awake_of (w : World) : Calls Try.prog 9 #[.int .u64 18446744073709551615] w fun e w' => e = .returned (.int .u64 7) ∧ w = w' :=
  (of_any _ (by decide) w).mono fun _ _ h => ret_as (by decide +kernel) h
theorem awake_inv (w : World) : Calls Try.prog 17 #[.int .u64 2] w fun e w' => e = .returned (.int .u64 1152921504606846976) ∧ w = w' :=
  (inv_any _ (by decide) w).mono fun _ _ h => ret_as invP_two h
theorem awake_inv0 (w : World) : Calls Try.prog 17 #[.int .u64 0] w fun e w' => e = .returned (.int .u64 0) ∧ w = w' :=
  (inv_any _ (by decide) w).mono fun _ _ h => ret_as invP_zero h
theorem awake_pow (w : World) : Calls Try.prog 18 #[.int .u64 5, .int .u64 0] w fun e w' => e = .returned (.int .u64 1) ∧ w = w' :=
  (pow_any _ _ (by decide) (by decide) (by decide) w).mono fun _ _ h => ret_as (powP_zero 5) h
theorem awake_any (w : World) :
    Calls Try.prog 16 #[] w fun e w' => e = .returned (.bool true) ∧ w = w' := by
  go_enter Try.func16, Try.ntmps16
  go_wp2_with fail
  refine (awake_mul _).mono ?_; rintro e w' ⟨rfl, rfl⟩
  go_wp2_with fail
  refine (awake_sub _).mono ?_; rintro e w' ⟨rfl, rfl⟩
  go_wp2_with fail
  refine (awake_of _).mono ?_; rintro e w' ⟨rfl, rfl⟩
  go_wp2_with fail
  refine (awake_inv _).mono ?_; rintro e w' ⟨rfl, rfl⟩
  go_wp2_with fail
  refine (awake_inv0 _).mono ?_; rintro e w' ⟨rfl, rfl⟩
  go_wp2_with fail
  refine (awake_pow _).mono ?_; rintro e w' ⟨rfl, rfl⟩
  go_wp2_with fail
  go_ret
  exact ⟨rfl, rfl⟩
end Go.Proofs.Ytnbinkpbbfkhaaa
