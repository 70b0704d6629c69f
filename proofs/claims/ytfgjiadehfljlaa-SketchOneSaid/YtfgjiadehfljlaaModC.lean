/-
  What each function of the layer mod answers, for every number of 64 bits: contracts, each out of a walk of its text; and as contracts on plain data. And bits.Len.
  Conditions: each argument is a number of 64 bits.
-/
import Derived.Test.YtfgjiadehfljlaaTypes
import Derived.Test.YtfgjiadehfljlaaAb28
import Derived.Test.YtfgjiadehfljlaaModInt
import Derived.Shelf.Bits.Mul64
import Derived.WalkKit
import Derived.WalkSpells
import Derived.Lib.Hide
import Derived.Laws.Bits64
import Derived.Laws.Bits64b
import Derived.Laws.BitsAllLaws
namespace Go.Proofs.Ytfgjiadehfljlaa
open Go.RowKit Go.Shelf
open Go.Proofs.Ytfgjiadehfljlaa.M
set_option linter.unusedVariables false

def mulRen : Go.Shelf.Ren := ⟨fun | 264 => 33 | n => n, fun | 53 => 31 | 46 => 54 | n => n, fun | n => n⟩
theorem mulLays : Go.Proofs.Lays.n264 Try.prog mulRen := {
  mixed := by kernel_rfl
  f264 := Try.func33.trans (congrArg some (by kernel_rfl))
  t46 := Try.underlying54
  a46 := Try.isAgg54
  z46 := Try.sizeOf54
  v46 := Try.zeroValue54
  t53 := Try.underlying31
  a53 := Try.isAgg31
  z53 := Try.sizeOf31
  v53 := Try.zeroValue31 }

/-- the upper and the lower half of a product -/
def hiQ (x y : Int) : Int := x * y / 18446744073709551616
def loQ (x y : Int) : Int := x * y % 18446744073709551616

theorem bitsMul_any (x y : Int) (hx : 0 ≤ x) (hx' : x < 18446744073709551616) (hy : 0 ≤ y) (hy' : y < 18446744073709551616) (w : World) :
    Calls Try.prog 33 #[.int .u64 x, .int .u64 y] w fun e w' => e = .returned (.tuple #[.int .u64 (hiQ x y), .int .u64 (loQ x y)]) ∧ w = w' := by
  obtain ⟨a, rfl⟩ := Int.eq_ofNat_of_zero_le hx
  obtain ⟨b, rfl⟩ := Int.eq_ofNat_of_zero_le hy
  refine (Any.bits_Mul64 mulLays a b (by omega) (by omega) w).mono ?_
  intro e w' h
  refine ⟨?_, h.2.symm⟩
  rw [h.1]
  unfold hiQ loQ
  rw [← Int.natCast_mul]
  rfl

/-- the bits of a product from 61 on, and those below -/
def topQ (x y : Int) : Int := hiQ x y * 8 + loQ x y / 2305843009213693952
def lowQ (x y : Int) : Int := loQ x y % 2305843009213693952

theorem top_nonneg (x y : Int) (hx : 0 ≤ x) (hy : 0 ≤ y) : 0 ≤ topQ x y := by
  have h := Int.mul_nonneg hx hy
  unfold topQ hiQ loQ; omega
theorem low_nonneg (x y : Int) : 0 ≤ lowQ x y := by unfold lowQ; omega
theorem low_le (x y : Int) : lowQ x y ≤ 2305843009213693951 := by unfold lowQ; omega
theorem prod_le (x y : Int) (hx : 0 ≤ x) (hx' : x ≤ 2305843009213693950) (hy : 0 ≤ y) (hy' : y ≤ 2305843009213693950) : x * y ≤ 2305843009213693950 * 2305843009213693950 :=
  Int.mul_le_mul hx' hy' hy (by omega)
theorem top_le (x y : Int) (hx : 0 ≤ x) (hx' : x ≤ 2305843009213693950) (hy : 0 ≤ y) (hy' : y ≤ 2305843009213693950) : topQ x y ≤ 2305843009213693951 := by
  have h := prod_le x y hx hx' hy hy'
  have h' := Int.mul_nonneg hx hy
  unfold topQ hiQ loQ; omega
theorem fold_eq (x y : Int) : mP (topQ x y + lowQ x y) = mP (x * y) := by
  unfold topQ lowQ hiQ loQ mP; omega
theorem top_bits (x y : Int) (hx : 0 ≤ x) (hx' : x ≤ 2305843009213693950) (hy : 0 ≤ y) (hy' : y ≤ 2305843009213693950) :
    bits .or .u64 (IntKind.u64.wrap (hiQ x y * 8)) (loQ x y / 2305843009213693952) = topQ x y := by
  have h := prod_le x y hx hx' hy hy'
  have h' := Int.mul_nonneg hx hy
  have e1 : 0 ≤ hiQ x y := by unfold hiQ; omega
  have e2 : hiQ x y * 8 < 18446744073709551616 := by unfold hiQ; omega
  have e3 : 0 ≤ loQ x y := by unfold loQ; omega
  have e4 : loQ x y < 18446744073709551616 := by unfold loQ; omega
  rw [IntKind.wrap_u64, Int.emod_eq_of_lt (by omega) e2]
  unfold topQ
  generalize hiQ x y = p at e1 e2 ⊢
  generalize loQ x y = q at e3 e4 ⊢
  rw [u64_or _ _ (by omega) e2 (by omega) (by omega), nat_join 3 _ _ (by omega) (by omega)]
  omega
theorem low_bits (x y : Int) : bits .and .u64 (loQ x y) 2305843009213693951 = lowQ x y := by
  have e3 : 0 ≤ loQ x y := by unfold loQ; omega
  have e4 : loQ x y < 18446744073709551616 := by unfold loQ; omega
  unfold lowQ
  generalize loQ x y = q at e3 e4 ⊢
  rw [u64_and _ _ e3 e4 (by decide) (by decide), show (2305843009213693951 : Int).toNat = 2305843009213693951 by decide, nat_mask61]
  omega

theorem modOf_calls (a : Int) (h0 : 0 ≤ a) (w : World) :
    Calls Try.prog 32 #[.int .u64 a] w fun e w' => e = .returned (.int .u64 (mP a)) ∧ w = w' := by
  go_enter Try.func32, Try.ntmps32
  go_wp2
  go_ret
  exact ⟨rfl, rfl⟩

theorem modAdd_calls (a b : Int) (h0 : 0 ≤ a) (h1 : 0 ≤ b) (w : World) :
    Calls Try.prog 30 #[.int .u64 a, .int .u64 b] w fun e w' => e = .returned (.int .u64 (mP (a + b))) ∧ w = w' := by
  have a1 := mP_nonneg a
  have a2 := mP_le a
  have b1 := mP_nonneg b
  have b2 := mP_le b
  have H := mP_add a b
  go_enter Try.func30, Try.ntmps30
  go_wp2_with (go_at_call 32; refine (modOf_calls _ (by omega) _).mono ?_; rintro e w' ⟨rfl, rfl⟩)
  go_ret
  exact ⟨rfl, rfl⟩

theorem modMul_calls (a b : Int) (h0 : 0 ≤ a) (h1 : 0 ≤ b) (w : World) :
    Calls Try.prog 31 #[.int .u64 a, .int .u64 b] w fun e w' => e = .returned (.int .u64 (mP (a * b))) ∧ w = w' := by
  have a1 := mP_nonneg a
  have a2 := mP_le a
  have b1 := mP_nonneg b
  have b2 := mP_le b
  have H1 := top_bits (mP a) (mP b) a1 a2 b1 b2
  have H2 := low_bits (mP a) (mP b)
  have H3 : mP (topQ (mP a) (mP b) + lowQ (mP a) (mP b)) = mP (a * b) := by rw [fold_eq, mP_mul]
  have c1 := top_nonneg (mP a) (mP b) a1 b1
  have c2 := low_nonneg (mP a) (mP b)
  go_enter Try.func31, Try.ntmps31
  go_wp2_with (first | (go_at_call 32; refine (modOf_calls _ (by omega) _).mono ?_; rintro e w' ⟨rfl, rfl⟩) | (go_at_call 33; refine (bitsMul_any _ _ (by omega) (by omega) (by omega) (by omega) _).mono ?_; rintro e w' ⟨rfl, rfl⟩) | (go_at_call 30; refine (modAdd_calls _ _ (by omega) (by omega) _).mono ?_; rintro e w' ⟨rfl, rfl⟩))
  go_ret
  exact ⟨rfl, rfl⟩

/-! the document's own answers -/
theorem ret_int {k : IntKind} {a b : Int} (h : a = b) : Ending.returned (.int k a) = .returned (.int k b) := by rw [h]

theorem refAdd_calls (a b : Int) (h0 : 0 ≤ a) (h1 : 0 ≤ b) (w : World) :
    Calls Try.prog 28 #[.int .u64 a, .int .u64 b] w fun e w' => e = .returned (.int .u64 (mP (a + b))) ∧ w = w' := by
  have a1 := mP_nonneg a
  have a2 := mP_le a
  have b1 := mP_nonneg b
  have b2 := mP_le b
  have H : mP a + mP b ≤ 4611686018427387900 := by omega
  have Ha : a % 2305843009213693951 = mP a := rfl
  have Hb : b % 2305843009213693951 = mP b := rfl
  have Hc : (mP a + mP b) % 2305843009213693951 = mP (a + b) := mP_add a b
  go_enter Try.func28, Try.ntmps28
  go_wp2
  go_ret
  exact ⟨ret_int Hc, rfl⟩

/-- at the head of a round: 'j' bits of 'B' are left, what those above make is 'o' -/
def MulAt (A B j o : Int) : Prop := 0 ≤ j ∧ j ≤ 61 ∧ o = mP (A * (B / 2 ^ j.toNat))

theorem mulAt_start (A B : Int) (hB : 0 ≤ B) (hB' : B < 2305843009213693951) : MulAt A B 61 0 := by
  refine ⟨by omega, by omega, ?_⟩
  have e : B / 2 ^ (61 : Int).toNat = 0 := by
    rw [show (61 : Int).toNat = 61 by decide]; omega
  rw [e, Int.mul_zero]; decide +kernel
theorem half_pow (B : Int) (n : Nat) : B / 2 ^ (n + 1) = B / 2 ^ n / 2 := by
  rw [Int.pow_succ, Int.ediv_ediv_of_nonneg (Int.pow_nonneg (by decide))]
theorem mul_split (A q r o : Int) (ho : o = mP (A * q)) : mP (mP (o + o) + A * r) = mP (A * (2 * q + r)) := by
  rw [ho, mP_add_l, Int.mul_add, Int.mul_left_comm, Int.two_mul]
  rw [← mP_add_l, mP_add, mP_add_l]
theorem mulAt_one (A B j o : Int) (h : MulAt A B j o) (hj : 1 ≤ j) (hB : 0 ≤ B) (hb : (B / 2 ^ (j.toNat - 1)).tmod 2 = 1) : MulAt A B (j - 1) (mP (mP (o + o) + A)) := by
  obtain ⟨h0, h1, h2⟩ := h
  refine ⟨by omega, by omega, ?_⟩
  have e : j.toNat = (j.toNat - 1) + 1 := by omega
  have e' : (j - 1).toNat = j.toNat - 1 := by omega
  rw [e, half_pow] at h2
  rw [e']
  have hn : 0 ≤ B / 2 ^ (j.toNat - 1) := Int.ediv_nonneg hB (Int.pow_nonneg (by decide))
  generalize B / 2 ^ (j.toNat - 1) = q at h2 hb hn ⊢
  rw [Int.tmod_eq_emod_of_nonneg hn] at hb
  have h3 := mul_split A (q / 2) 1 o h2
  rw [Int.mul_one] at h3
  rw [h3, show 2 * (q / 2) + 1 = q by omega]
theorem mulAt_zero (A B j o : Int) (h : MulAt A B j o) (hj : 1 ≤ j) (hB : 0 ≤ B) (hb : ¬ (B / 2 ^ (j.toNat - 1)).tmod 2 = 1) : MulAt A B (j - 1) (mP (o + o)) := by
  obtain ⟨h0, h1, h2⟩ := h
  refine ⟨by omega, by omega, ?_⟩
  have e : j.toNat = (j.toNat - 1) + 1 := by omega
  have e' : (j - 1).toNat = j.toNat - 1 := by omega
  rw [e, half_pow] at h2
  rw [e']
  have hn : 0 ≤ B / 2 ^ (j.toNat - 1) := Int.ediv_nonneg hB (Int.pow_nonneg (by decide))
  generalize B / 2 ^ (j.toNat - 1) = q at h2 hb hn ⊢
  rw [Int.tmod_eq_emod_of_nonneg hn] at hb
  have h3 := mul_split A (q / 2) 0 o h2
  rw [Int.mul_zero, Int.add_zero, mP_mP] at h3
  rw [h3, show 2 * (q / 2) + 0 = q by omega]
theorem mulAt_end (a b j o : Int) (h : MulAt (a % 2305843009213693951) (b % 2305843009213693951) j o) (hj : ¬ 1 ≤ j) : o = mP (a * b) := by
  obtain ⟨h0, _, h2⟩ := h
  obtain rfl : j = 0 := by omega
  rw [h2, show (0 : Int).toNat = 0 from rfl, Int.pow_zero, Int.ediv_one]
  exact mP_mul a b

theorem refMul_calls (a b : Int) (h0 : 0 ≤ a) (h1 : 0 ≤ b) (w : World) :
    Calls Try.prog 29 #[.int .u64 a, .int .u64 b] w fun e w' => e = .returned (.int .u64 (mP (a * b))) ∧ w = w' := by
  have a1 := mP_nonneg a
  have b1 : 0 ≤ b % 2305843009213693951 := mP_nonneg b
  have b2 : b % 2305843009213693951 < 2305843009213693951 := mP_lt b
  go_enter Try.func29, Try.ntmps29
  go_wp2
  go_loop [5, 6] (fun o i => ∃ j o' : Int, MulAt (a % 2305843009213693951) (b % 2305843009213693951) j o' ∧ o = .int .u64 o' ∧ i = .int .i64 (j - 1)) (fun _ i => (intOf i + 1).toNat)
  case atStart => exact ⟨61, 0, mulAt_start _ _ b1 b2, rfl, rfl⟩
  case round =>
    obtain ⟨j, o, hr, rfl, rfl⟩ := hrel
    have j0 := hr.1
    have j1 := hr.2.1
    have HR := Lib.hid hr
    clear hr
    have o0 : 0 ≤ o := by rw [HR.out.2.2]; exact mP_nonneg _
    by_cases hj : 1 ≤ j
    · by_cases ht : (b % 2305843009213693951 / 2 ^ (j.toNat - 1)).tmod 2 = 1
      · have HT : ((b % 2305843009213693951 / 2 ^ (j.toNat - 1)).tmod 2 == 1) = true := by rw [ht]; rfl
        have HM := Lib.hid (mulAt_one _ _ j o HR.out hj b1 ht)
        clear ht
        go_wp2_with (go_at_call 28; refine (refAdd_calls _ _ (by first | assumption | exact mP_nonneg _) (by first | assumption | exact mP_nonneg _) _).mono ?_; rintro e w' ⟨rfl, rfl⟩)
        go_round
        case rel => exact ⟨j - 1, _, HM.out, rfl, rfl⟩
        case measure => simp [intOf]; omega
      · have HT : ((b % 2305843009213693951 / 2 ^ (j.toNat - 1)).tmod 2 == 1) = false := by simpa using ht
        have HM := Lib.hid (mulAt_zero _ _ j o HR.out hj b1 ht)
        clear ht
        go_wp2_with (go_at_call 28; refine (refAdd_calls _ _ (by first | assumption | exact mP_nonneg _) (by first | assumption | exact mP_nonneg _) _).mono ?_; rintro e w' ⟨rfl, rfl⟩)
        go_round
        case rel => exact ⟨j - 1, _, HM.out, rfl, rfl⟩
        case measure => simp [intOf]; omega
    · have he := mulAt_end a b j o HR.out hj
      clear HR
      subst he
      go_wp2
      go_ret
      exact ⟨rfl, rfl⟩

section
open Go.Ab
theorem modOf_any (a : Int) (h0 : 0 ≤ a) : ACalls Try.prog 32 [uPV a] (uPV (mP a)) :=
  acalls_of (by rfl) [.int .u64 a] (fun _ _ => .v _) fun w => (modOf_calls a h0 w).mono fun _ _ h => ⟨h.1, h.2.symm⟩
theorem modAdd_any (a b : Int) (h0 : 0 ≤ a) (h1 : 0 ≤ b) : ACalls Try.prog 30 [uPV a, uPV b] (uPV (mP (a + b))) :=
  acalls_of (by rfl) [.int .u64 a, .int .u64 b] (fun _ _ => .v _) fun w => (modAdd_calls a b h0 h1 w).mono fun _ _ h => ⟨h.1, h.2.symm⟩
theorem modMul_any (a b : Int) (h0 : 0 ≤ a) (h1 : 0 ≤ b) : ACalls Try.prog 31 [uPV a, uPV b] (uPV (mP (a * b))) :=
  acalls_of (by rfl) [.int .u64 a, .int .u64 b] (fun _ _ => .v _) fun w => (modMul_calls a b h0 h1 w).mono fun _ _ h => ⟨h.1, h.2.symm⟩
theorem refAdd_any (a b : Int) (h0 : 0 ≤ a) (h1 : 0 ≤ b) : ACalls Try.prog 28 [uPV a, uPV b] (uPV (mP (a + b))) :=
  acalls_of (by rfl) [.int .u64 a, .int .u64 b] (fun _ _ => .v _) fun w => (refAdd_calls a b h0 h1 w).mono fun _ _ h => ⟨h.1, h.2.symm⟩
theorem refMul_any (a b : Int) (h0 : 0 ≤ a) (h1 : 0 ≤ b) : ACalls Try.prog 29 [uPV a, uPV b] (uPV (mP (a * b))) :=
  acalls_of (by rfl) [.int .u64 a, .int .u64 b] (fun _ _ => .v _) fun w => (refMul_calls a b h0 h1 w).mono fun _ _ h => ⟨h.1, h.2.symm⟩
end
end Go.Proofs.Ytfgjiadehfljlaa
