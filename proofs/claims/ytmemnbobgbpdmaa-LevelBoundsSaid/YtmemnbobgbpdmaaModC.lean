/-
  What each function of the layer mod answers, for every number of 64 bits: contracts, each out of a walk of its text; and as contracts on plain data. And bits.Len.
  Conditions: each argument is a number of 64 bits.
-/
import Derived.Test.YtmemnbobgbpdmaaTypes
import Derived.Test.YtmemnbobgbpdmaaAb28
import Derived.Shelf.Small.Bits
import Derived.Test.YtmemnbobgbpdmaaModInt
import Derived.Shelf.Bits.Mul64
import Derived.WalkKit
import Derived.WalkSpells
import Derived.Lib.Hide
import Derived.Laws.Bits64
import Derived.Laws.Bits64b
import Derived.Laws.BitsAllLaws
namespace Go.Proofs.Ytmemnbobgbpdmaa
open Go.RowKit Go.Shelf
open Go.Proofs.Ytmemnbobgbpdmaa.M
set_option linter.unusedVariables false

def mulRen : Go.Shelf.Ren := ⟨fun | 264 => 16 | n => n, fun | 53 => 22 | 46 => 37 | n => n, fun | n => n⟩
theorem mulLays : Go.Proofs.Lays.n264 Try.prog mulRen := {
  mixed := by kernel_rfl
  f264 := Try.func16.trans (congrArg some (by kernel_rfl))
  t46 := Try.underlying37
  a46 := Try.isAgg37
  z46 := Try.sizeOf37
  v46 := Try.zeroValue37
  t53 := Try.underlying22
  a53 := Try.isAgg22
  z53 := Try.sizeOf22
  v53 := Try.zeroValue22 }

/-- the upper and the lower half of a product -/
def hiQ (x y : Int) : Int := x * y / 18446744073709551616
def loQ (x y : Int) : Int := x * y % 18446744073709551616

theorem bitsMul_any (x y : Int) (hx : 0 ≤ x) (hx' : x < 18446744073709551616) (hy : 0 ≤ y) (hy' : y < 18446744073709551616) (w : World) :
    Calls Try.prog 16 #[.int .u64 x, .int .u64 y] w fun e w' => e = .returned (.tuple #[.int .u64 (hiQ x y), .int .u64 (loQ x y)]) ∧ w = w' := by
  obtain ⟨a, rfl⟩ := Int.eq_ofNat_of_zero_le hx
  obtain ⟨b, rfl⟩ := Int.eq_ofNat_of_zero_le hy
  refine (Any.bits_Mul64 mulLays a b (by omega) (by omega) w).mono ?_
  intro e w' h
  refine ⟨?_, h.2.symm⟩
  rw [h.1]
  unfold hiQ loQ
  rw [← Int.natCast_mul]
  rfl

/-- the bits of a product from 61 on, and those below -/
def topQ (x y : Int) : Int := hiQ x y * 8 + loQ x y / 2305843009213693952
def lowQ (x y : Int) : Int := loQ x y % 2305843009213693952

theorem top_nonneg (x y : Int) (hx : 0 ≤ x) (hy : 0 ≤ y) : 0 ≤ topQ x y := by
  have h := Int.mul_nonneg hx hy
  unfold topQ hiQ loQ; omega
theorem low_nonneg (x y : Int) : 0 ≤ lowQ x y := by unfold lowQ; omega
theorem low_le (x y : Int) : lowQ x y ≤ 2305843009213693951 := by unfold lowQ; omega
theorem prod_le (x y : Int) (hx : 0 ≤ x) (hx' : x ≤ 2305843009213693950) (hy : 0 ≤ y) (hy' : y ≤ 2305843009213693950) : x * y ≤ 2305843009213693950 * 2305843009213693950 :=
  Int.mul_le_mul hx' hy' hy (by omega)
theorem top_le (x y : Int) (hx : 0 ≤ x) (hx' : x ≤ 2305843009213693950) (hy : 0 ≤ y) (hy' : y ≤ 2305843009213693950) : topQ x y ≤ 2305843009213693951 := by
  have h := prod_le x y hx hx' hy hy'
  have h' := Int.mul_nonneg hx hy
  unfold topQ hiQ loQ; omega
theorem fold_eq (x y : Int) : mP (topQ x y + lowQ x y) = mP (x * y) := by
  unfold topQ lowQ hiQ loQ mP; omega
theorem top_bits (x y : Int) (hx : 0 ≤ x) (hx' : x ≤ 2305843009213693950) (hy : 0 ≤ y) (hy' : y ≤ 2305843009213693950) :
    bits .or .u64 (IntKind.u64.wrap (hiQ x y * 8)) (loQ x y / 2305843009213693952) = topQ x y := by
  have h := prod_le x y hx hx' hy hy'
  have h' := Int.mul_nonneg hx hy
  have e1 : 0 ≤ hiQ x y := by unfold hiQ; omega
  have e2 : hiQ x y * 8 < 18446744073709551616 := by unfold hiQ; omega
  have e3 : 0 ≤ loQ x y := by unfold loQ; omega
  have e4 : loQ x y < 18446744073709551616 := by unfold loQ; omega
  rw [IntKind.wrap_u64, Int.emod_eq_of_lt (by omega) e2]
  unfold topQ
  generalize hiQ x y = p at e1 e2 ⊢
  generalize loQ x y = q at e3 e4 ⊢
  rw [u64_or _ _ (by omega) e2 (by omega) (by omega), nat_join 3 _ _ (by omega) (by omega)]
  omega
theorem low_bits (x y : Int) : bits .and .u64 (loQ x y) 2305843009213693951 = lowQ x y := by
  have e3 : 0 ≤ loQ x y := by unfold loQ; omega
  have e4 : loQ x y < 18446744073709551616 := by unfold loQ; omega
  unfold lowQ
  generalize loQ x y = q at e3 e4 ⊢
  rw [u64_and _ _ e3 e4 (by decide) (by decide), show (2305843009213693951 : Int).toNat = 2305843009213693951 by decide, nat_mask61]
  omega

theorem modOf_calls (a : Int) (h0 : 0 ≤ a) (w : World) :
    Calls Try.prog 6 #[.int .u64 a] w fun e w' => e = .returned (.int .u64 (mP a)) ∧ w = w' := by
  go_enter Try.func6, Try.ntmps6
  go_wp2
  go_ret
  exact ⟨rfl, rfl⟩

theorem modAdd_calls (a b : Int) (h0 : 0 ≤ a) (h1 : 0 ≤ b) (w : World) :
    Calls Try.prog 13 #[.int .u64 a, .int .u64 b] w fun e w' => e = .returned (.int .u64 (mP (a + b))) ∧ w = w' := by
  have a1 := mP_nonneg a
  have a2 := mP_le a
  have b1 := mP_nonneg b
  have b2 := mP_le b
  have H := mP_add a b
  go_enter Try.func13, Try.ntmps13
  go_wp2_with (go_at_call 6; refine (modOf_calls _ (by omega) _).mono ?_; rintro e w' ⟨rfl, rfl⟩)
  go_ret
  exact ⟨rfl, rfl⟩

theorem modSub_calls (a b : Int) (h0 : 0 ≤ a) (h1 : 0 ≤ b) (w : World) :
    Calls Try.prog 10 #[.int .u64 a, .int .u64 b] w fun e w' => e = .returned (.int .u64 (mP (a - b))) ∧ w = w' := by
  have a1 := mP_nonneg a
  have a2 := mP_le a
  have b1 := mP_nonneg b
  have b2 := mP_le b
  have H := mP_sub a b
  go_enter Try.func10, Try.ntmps10
  go_wp2_with (go_at_call 6; refine (modOf_calls _ (by omega) _).mono ?_; rintro e w' ⟨rfl, rfl⟩)
  go_ret
  exact ⟨rfl, rfl⟩

theorem modMul_calls (a b : Int) (h0 : 0 ≤ a) (h1 : 0 ≤ b) (w : World) :
    Calls Try.prog 9 #[.int .u64 a, .int .u64 b] w fun e w' => e = .returned (.int .u64 (mP (a * b))) ∧ w = w' := by
  have a1 := mP_nonneg a
  have a2 := mP_le a
  have b1 := mP_nonneg b
  have b2 := mP_le b
  have H1 := top_bits (mP a) (mP b) a1 a2 b1 b2
  have H2 := low_bits (mP a) (mP b)
  have H3 : mP (topQ (mP a) (mP b) + lowQ (mP a) (mP b)) = mP (a * b) := by rw [fold_eq, mP_mul]
  have c1 := top_nonneg (mP a) (mP b) a1 b1
  have c2 := low_nonneg (mP a) (mP b)
  go_enter Try.func9, Try.ntmps9
  go_wp2_with (first | (go_at_call 6; refine (modOf_calls _ (by omega) _).mono ?_; rintro e w' ⟨rfl, rfl⟩) | (go_at_call 16; refine (bitsMul_any _ _ (by omega) (by omega) (by omega) (by omega) _).mono ?_; rintro e w' ⟨rfl, rfl⟩) | (go_at_call 13; refine (modAdd_calls _ _ (by omega) (by omega) _).mono ?_; rintro e w' ⟨rfl, rfl⟩))
  go_ret
  exact ⟨rfl, rfl⟩

/-! powers -/
/-- what is left to multiply, at the head of each round -/
def powR (p s k : Int) : Int := mP (p * s ^ k.toNat)
theorem powR_end (p s : Int) (h0 : 0 ≤ p) (h1 : p ≤ 2305843009213693950) : powR p s 0 = p := by
  unfold powR; rw [show (0 : Int).toNat = 0 from rfl, Int.pow_zero, Int.mul_one]; exact mP_small _ h0 (by omega)
theorem half_toNat (k : Int) (h : 0 ≤ k) : k.toNat = k % 2 + 2 * (k / 2).toNat := by omega
theorem powR_even (p s k : Int) (h : 0 ≤ k) (hk : k % 2 = 0) : powR p (mP (s * s)) (k / 2) = powR p s k := by
  unfold powR
  have e : k.toNat = 2 * (k / 2).toNat := by omega
  rw [← mP_mul_r p, mP_pow, mP_mul_r, e, Int.pow_mul, show s ^ 2 = s * s from by rw [Int.pow_succ, Int.pow_succ, Int.pow_zero, Int.one_mul]]
theorem powR_odd (p s k : Int) (h : 0 ≤ k) (hk : k % 2 = 1) : powR (mP (p * s)) (mP (s * s)) (k / 2) = powR p s k := by
  unfold powR
  have e : k.toNat = 2 * (k / 2).toNat + 1 := by omega
  rw [mP_mul_l, ← mP_mul_r (p * s), mP_pow, mP_mul_r, e, Int.pow_succ, Int.pow_mul, show s ^ 2 = s * s from by rw [Int.pow_succ, Int.pow_succ, Int.pow_zero, Int.one_mul], Int.mul_assoc, Int.mul_comm s]
theorem powR_start (a n : Int) : powR 1 (mP a) n = powP a n := by
  unfold powR powP; rw [Int.one_mul, mP_pow]
theorem and_one (k : Int) (h0 : 0 ≤ k) (h1 : k < 18446744073709551616) : bits .and .u64 k 1 = k % 2 := by
  rw [u64_and _ _ h0 h1 (by decide) (by decide), show (1 : Int).toNat = 1 by decide, nat_mask1]
  omega

/-- at the head of a round: 'k' of the exponent is left, 'p' is the power so far, 's' the square -/
def PowAt (r k p s : Int) : Prop := 0 ≤ k ∧ k ≤ 18446744073709551615 ∧ 0 ≤ p ∧ p ≤ 2305843009213693950 ∧ 0 ≤ s ∧ powR p s k = r

theorem modPow_calls (a n : Int) (h0 : 0 ≤ a) (h1 : 0 ≤ n) (h2 : n ≤ 18446744073709551615) (w : World) :
    Calls Try.prog 17 #[.int .u64 a, .int .u64 n] w fun e w' => e = .returned (.int .u64 (powP a n)) ∧ w = w' := by
  have hs : PowAt (powP a n) n 1 (mP a) := ⟨h1, h2, by omega, by omega, mP_nonneg a, powR_start a n⟩
  generalize powP a n = r at hs
  go_enter Try.func17, Try.ntmps17
  go_wp2_with (go_at_call 6; refine (modOf_calls _ (by omega) _).mono ?_; rintro e w' ⟨rfl, rfl⟩)
  go_loop [1, 5, 6] (fun n p s => ∃ k p' s' : Int, PowAt r k p' s' ∧ n = .int .u64 k ∧ p = .int .u64 p' ∧ s = .int .u64 s') (fun n _ _ => (intOf n).toNat)
  case atStart => exact ⟨n, 1, mP a, hs, rfl, rfl, rfl⟩
  case round =>
    obtain ⟨k, p, s, hr, rfl, rfl, rfl⟩ := hrel
    clear hs
    obtain ⟨k0, k1, p0, p1, s0, hp⟩ := hr
    have HP := Lib.hid hp
    clear hp
    by_cases hk : 0 < k
    · have HB := and_one k k0 (by omega)
      by_cases hodd : k % 2 = 1
      · go_wp2_with (go_at_call 9; refine (modMul_calls _ _ (by first | assumption | exact mP_nonneg _) (by first | assumption | exact mP_nonneg _) _).mono ?_; rintro e w' ⟨rfl, rfl⟩)
        go_round
        case rel => exact ⟨k / 2, mP (p * s), mP (s * s), ⟨by omega, by omega, mP_nonneg _, mP_le _, mP_nonneg _, by rw [powR_odd p s k k0 hodd]; exact HP.out⟩, rfl, rfl, rfl⟩
        case measure => simp [intOf]; omega
      · go_wp2_with (go_at_call 9; refine (modMul_calls _ _ (by first | assumption | exact mP_nonneg _) (by first | assumption | exact mP_nonneg _) _).mono ?_; rintro e w' ⟨rfl, rfl⟩)
        go_round
        case rel => exact ⟨k / 2, p, mP (s * s), ⟨by omega, by omega, p0, p1, mP_nonneg _, by rw [powR_even p s k k0 (by omega)]; exact HP.out⟩, rfl, rfl, rfl⟩
        case measure => simp [intOf]; omega
    · have hk0 : k = 0 := by omega
      have hr : p = r := by rw [← HP.out, hk0, powR_end p s p0 p1]
      clear HP
      subst hr
      go_wp2
      go_ret
      exact ⟨rfl, rfl⟩

theorem modInv_calls (a : Int) (h0 : 0 ≤ a) (w : World) :
    Calls Try.prog 11 #[.int .u64 a] w fun e w' => e = .returned (.int .u64 (invP a)) ∧ w = w' := by
  go_enter Try.func11, Try.ntmps11
  go_wp2_with (go_at_call 17; refine (modPow_calls _ _ (by omega) (by omega) (by omega) _).mono ?_; rintro e w' ⟨rfl, rfl⟩)
  go_ret
  exact ⟨rfl, rfl⟩

/-! bits.Len -/
def lenRen : Go.Shelf.Ren := ⟨fun | 125 => 18 | 128 => 19 | 129 => 20 | n => n, fun | 3 => 3 | 4 => 4 | 5 => 5 | 9 => 9 | 46 => 37 | 51 => 40 | 53 => 22 | n => n, fun | n => n⟩
theorem lenLays : Go.Proofs.Lays.n125 Try.prog lenRen := {
  mixed := by kernel_rfl
  f125 := Try.func18.trans (congrArg some (by kernel_rfl))
  f128 := Try.func19.trans (congrArg some (by kernel_rfl))
  f129 := Try.func20.trans (congrArg some (by kernel_rfl))
  t3 := Try.underlying3
  a3 := Try.isAgg3
  z3 := Try.sizeOf3
  v3 := Try.zeroValue3
  t4 := Try.underlying4
  a4 := Try.isAgg4
  z4 := Try.sizeOf4
  v4 := Try.zeroValue4
  t5 := Try.underlying5
  a5 := Try.isAgg5
  z5 := Try.sizeOf5
  v5 := Try.zeroValue5
  t9 := Try.underlying9
  a9 := Try.isAgg9
  z9 := Try.sizeOf9
  v9 := Try.zeroValue9
  t46 := Try.underlying37
  a46 := Try.isAgg37
  z46 := Try.sizeOf37
  v46 := Try.zeroValue37
  t51 := Try.underlying40
  a51 := Try.isAgg40
  z51 := Try.sizeOf40
  v51 := Try.zeroValue40
  t53 := Try.underlying22
  a53 := Try.isAgg22
  z53 := Try.sizeOf22
  v53 := Try.zeroValue22 }

section
open Go.Ab
theorem modOf_any (a : Int) (h0 : 0 ≤ a) : ACalls Try.prog 6 [uPV a] (uPV (mP a)) :=
  acalls_of (by rfl) [.int .u64 a] (fun _ _ => .v _) fun w => (modOf_calls a h0 w).mono fun _ _ h => ⟨h.1, h.2.symm⟩
theorem modInv_any (a : Int) (h0 : 0 ≤ a) : ACalls Try.prog 11 [uPV a] (uPV (invP a)) :=
  acalls_of (by rfl) [.int .u64 a] (fun _ _ => .v _) fun w => (modInv_calls a h0 w).mono fun _ _ h => ⟨h.1, h.2.symm⟩
theorem modAdd_any (a b : Int) (h0 : 0 ≤ a) (h1 : 0 ≤ b) : ACalls Try.prog 13 [uPV a, uPV b] (uPV (mP (a + b))) :=
  acalls_of (by rfl) [.int .u64 a, .int .u64 b] (fun _ _ => .v _) fun w => (modAdd_calls a b h0 h1 w).mono fun _ _ h => ⟨h.1, h.2.symm⟩
theorem modSub_any (a b : Int) (h0 : 0 ≤ a) (h1 : 0 ≤ b) : ACalls Try.prog 10 [uPV a, uPV b] (uPV (mP (a - b))) :=
  acalls_of (by rfl) [.int .u64 a, .int .u64 b] (fun _ _ => .v _) fun w => (modSub_calls a b h0 h1 w).mono fun _ _ h => ⟨h.1, h.2.symm⟩
theorem modMul_any (a b : Int) (h0 : 0 ≤ a) (h1 : 0 ≤ b) : ACalls Try.prog 9 [uPV a, uPV b] (uPV (mP (a * b))) :=
  acalls_of (by rfl) [.int .u64 a, .int .u64 b] (fun _ _ => .v _) fun w => (modMul_calls a b h0 h1 w).mono fun _ _ h => ⟨h.1, h.2.symm⟩
theorem bitsLen_any (x : Int) (h0 : 0 ≤ x) (h1 : x ≤ 18446744073709551615) : ACalls Try.prog 18 [.v (.int .u64 x)] (iPV (Lib.bitLen x.toNat : Nat)) :=
  acalls_of (by rfl) [.int .u64 x] (fun _ _ => .v _) fun w => Any.bits_Len lenLays x w h0 h1
end
end Go.Proofs.Ytmemnbobgbpdmaa
