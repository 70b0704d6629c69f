/-
  Plain mathematics modulo the prime P = 2^61 - 1, with no word of the program: sums and products modulo P, powers, and that a number that leaves something over, to the power of P - 1, leaves over 1.
  Conditions: none. (37 generates all residues but 0: its powers are unlike till P - 1, by the factors of P - 1; so each residue is a power of it.)
-/
namespace Go.Proofs.Ytfgjiadehfljlaa.M

/-- an injective map of 0 .. n - 1 into itself meets each place -/
theorem onto : ∀ (n : Nat) (f : Nat → Nat), (∀ i, i < n → f i < n) → (∀ i j, i < n → j < n → f i = f j → i = j) → ∀ b, b < n → ∃ i, i < n ∧ f i = b
  | 0, _, _, _, b, hb => absurd hb (Nat.not_lt_zero b)
  | n + 1, f, hlt, hinj, b, hb => by
    have ih := onto n (fun i => if f i = n then f n else f i)
      (by
        intro i hi
        have h1 := hlt i (by omega)
        have h2 := hlt n (by omega)
        have h3 := hinj i n (by omega) (by omega)
        show (if f i = n then f n else f i) < n
        by_cases h : f i = n
        · rw [if_pos h]
          by_cases h4 : f n = n
          · have := h3 (by omega); omega
          · omega
        · rw [if_neg h]; omega)
      (by
        intro i j hi hj hij
        have hij' : (if f i = n then f n else f i) = (if f j = n then f n else f j) := hij
        have a1 := hinj i j (by omega) (by omega)
        have a2 := hinj i n (by omega) (by omega)
        have a3 := hinj j n (by omega) (by omega)
        by_cases h : f i = n
        · by_cases h' : f j = n
          · exact a1 (by omega)
          · rw [if_pos h, if_neg h'] at hij'; have := a3 hij'.symm; omega
        · by_cases h' : f j = n
          · rw [if_neg h, if_pos h'] at hij'; have := a2 hij'; omega
          · rw [if_neg h, if_neg h'] at hij'; exact a1 hij')
    by_cases hc : f n = b
    · exact ⟨n, by omega, hc⟩
    · have hfn := hlt n (by omega)
      by_cases hbn : b = n
      · obtain ⟨i, hi, he⟩ := ih (f n) (by omega)
        have he' : (if f i = n then f n else f i) = f n := he
        by_cases h : f i = n
        · exact ⟨i, by omega, by omega⟩
        · rw [if_neg h] at he'; have := hinj i n (by omega) (by omega) he'; omega
      · obtain ⟨i, hi, he⟩ := ih b (by omega)
        have he' : (if f i = n then f n else f i) = b := he
        by_cases h : f i = n
        · rw [if_pos h] at he'; exact absurd he' hc
        · rw [if_neg h] at he'; exact ⟨i, by omega, he'⟩

theorem pow_one_mul (p a x y : Nat) (hp : 1 < p) (h : a ^ x % p = 1) : a ^ (x * y) % p = 1 := by
  rw [Nat.pow_mul, Nat.pow_mod, h, Nat.one_pow, Nat.mod_eq_of_lt hp]

theorem pow_gcd (p a : Nat) (hp : 1 < p) : ∀ x y : Nat, a ^ x % p = 1 → a ^ y % p = 1 → a ^ Nat.gcd x y % p = 1 := by
  intro x y
  induction x, y using Nat.gcd.induction with
  | H0 y => intro _ h; rw [Nat.gcd_zero_left]; exact h
  | H1 x y hx ih =>
    intro h1 h2
    rw [Nat.gcd_rec]
    refine ih ?_ h1
    have e : a ^ y % p = a ^ (y % x) % p := by
      have e1 : y = x * (y / x) + y % x := (Nat.div_add_mod y x).symm
      calc a ^ y % p = a ^ (x * (y / x) + y % x) % p := by rw [← e1]
        _ = (a ^ (x * (y / x)) * a ^ (y % x)) % p := by rw [Nat.pow_add]
        _ = ((a ^ (x * (y / x)) % p) * (a ^ (y % x) % p)) % p := by rw [Nat.mul_mod]
        _ = a ^ (y % x) % p := by rw [pow_one_mul p a x _ hp h1, Nat.one_mul, Nat.mod_mod]
    rw [← e]; exact h2

/-- of a generator's powers each number that leaves something over leaves over 1 at the n-th power -/
theorem fermat_of (p n a : Nat) (hn : n + 1 = p) (hn1 : 1 < n) (ha : a ^ n % p = 1) (hord : ∀ d, 0 < d → d < n → a ^ d % p ≠ 1) (b : Nat) (hb : b % p ≠ 0) : b ^ n % p = 1 := by
  have hp : 1 < p := by omega
  have hpos : ∀ i, i ≤ n → a ^ i % p ≠ 0 := by
    intro i hi h0
    have : a ^ n % p = 0 := by
      have e : n = i + (n - i) := by omega
      rw [e, Nat.pow_add, Nat.mul_mod, h0, Nat.zero_mul, Nat.zero_mod]
    omega
  have hle : ∀ i j, i ≤ j → j < n → a ^ i % p = a ^ j % p → i = j := by
    intro i j hij hj he
    by_cases hd : j - i = 0
    · omega
    · exfalso
      refine hord (j - i) (by omega) (by omega) ?_
      -- a^(n - i) brings both to the front
      have e1 : (a ^ i * a ^ (n - i)) % p = (a ^ j * a ^ (n - i)) % p := by
        rw [Nat.mul_mod, he, ← Nat.mul_mod]
      rw [← Nat.pow_add, ← Nat.pow_add, show i + (n - i) = n by omega, show j + (n - i) = n + (j - i) by omega, Nat.pow_add, Nat.mul_mod, ha, Nat.one_mul, Nat.mod_mod] at e1
      omega
  have hsur := onto n (fun i => a ^ i % p - 1)
    (by
      intro i hi
      have h1 := hpos i (by omega)
      have h2 := Nat.mod_lt (a ^ i) (show 0 < p by omega)
      show a ^ i % p - 1 < n
      omega)
    (by
      intro i j hi hj he
      have he' : a ^ i % p - 1 = a ^ j % p - 1 := he
      have h1 := hpos i (by omega)
      have h2 := hpos j (by omega)
      rcases Nat.le_total i j with h | h
      · exact hle i j h hj (by omega)
      · exact (hle j i h hi (by omega)).symm)
  have hbp := Nat.mod_lt b (show 0 < p by omega)
  obtain ⟨i, hi, he⟩ := hsur (b % p - 1) (by omega)
  have he' : a ^ i % p - 1 = b % p - 1 := he
  have h1 := hpos i (by omega)
  have e : b % p = a ^ i % p := by omega
  rw [Nat.pow_mod, e, ← Nat.pow_mod, ← Nat.pow_mul, Nat.mul_comm]
  exact pow_one_mul p a n i hp ha

/-- powers modulo p, halving the exponent -/
def pm (p a : Nat) : Nat → Nat → Nat
  | 0, _ => 1
  | f + 1, e => if e = 0 then 1 else
      if e % 2 = 1 then pm p a f (e / 2) * pm p a f (e / 2) % p * a % p else pm p a f (e / 2) * pm p a f (e / 2) % p

theorem pm_eq (p a : Nat) (hp : 1 < p) : ∀ f e, e < 2 ^ f → pm p a f e = a ^ e % p
  | 0, e, h => by
    have : e = 0 := by simpa using h
    subst this; simp [pm, Nat.mod_eq_of_lt hp]
  | f + 1, e, h => by
    have ih := pm_eq p a hp f (e / 2) (by rw [Nat.pow_succ] at h; omega)
    unfold pm
    by_cases h0 : e = 0
    · subst h0; simp [Nat.mod_eq_of_lt hp]
    · rw [if_neg h0, ih]
      have sq : a ^ (e / 2) % p * (a ^ (e / 2) % p) % p = a ^ (e / 2 * 2) % p := by
        rw [← Nat.mul_mod, ← Nat.pow_add, Nat.mul_two]
      by_cases h1 : e % 2 = 1
      · rw [if_pos h1, sq]
        have e1 : e = e / 2 * 2 + 1 := by omega
        calc a ^ (e / 2 * 2) % p * a % p = (a ^ (e / 2 * 2) * a) % p := by rw [Nat.mul_mod, Nat.mod_mod, ← Nat.mul_mod]
          _ = a ^ (e / 2 * 2 + 1) % p := by rw [Nat.pow_succ]
          _ = a ^ e % p := by rw [← e1]
      · rw [if_neg h1, sq]
        have e1 : e = e / 2 * 2 := by omega
        rw [← e1]

/-- the prime -/
def PN : Nat := 2305843009213693951
/-- one less -/
def QN : Nat := 2305843009213693950

theorem pm_at (e v : Nat) (he : e < 2 ^ 64) (h : pm PN 37 64 e = v) : 37 ^ e % PN = v := by
  rw [← pm_eq PN 37 (by decide +kernel) 64 e he]; exact h

theorem cop_of (m q : Nat) (hq : 1 < q) (hprime : ∀ r, r < q → r ≠ 0 → Nat.gcd r q = 1) (h : ¬ q ∣ m) : Nat.gcd m q = 1 := by
  have h1 : m % q ≠ 0 := fun h0 => h (Nat.dvd_of_mod_eq_zero h0)
  have h2 := hprime (m % q) (Nat.mod_lt _ (by omega)) h1
  rw [Nat.gcd_comm, Nat.gcd_rec, h2]

def allPrimeTo (q : Nat) : Nat → Bool
  | 0 => true
  | r + 1 => (r == 0 || Nat.gcd r q == 1) && allPrimeTo q r

theorem allPrimeTo_at (q : Nat) : ∀ k, allPrimeTo q k = true → ∀ r, r < k → r ≠ 0 → Nat.gcd r q = 1
  | 0, _, r, hr, _ => absurd hr (Nat.not_lt_zero r)
  | k + 1, h, r, hr, h0 => by
    simp only [allPrimeTo, Bool.and_eq_true, Bool.or_eq_true, beq_iff_eq] at h
    rcases Nat.lt_succ_iff_lt_or_eq.mp hr with h' | h'
    · exact allPrimeTo_at q k h.2 r h' h0
    · subst h'; exact h.1.resolve_left h0

def qs : List Nat := [2, 3, 5, 7, 11, 13, 31, 41, 61, 151, 331, 1321]

theorem qs_prime : ∀ q, q ∈ qs → 1 < q ∧ allPrimeTo q q = true := by
  have h : (qs.all fun q => decide (1 < q) && allPrimeTo q q) = true := by decide +kernel
  intro q hq
  have := List.all_eq_true.mp h q hq
  simpa using this

theorem qs_low : ∀ q, q ∈ qs → q ∣ QN ∧ 37 ^ (QN / q) % PN ≠ 1 := by
  have h : (qs.all fun q => decide (QN % q = 0) && (decide (QN / q < 2 ^ 64) && !(pm PN 37 64 (QN / q) == 1))) = true := by decide +kernel
  intro q hq
  have := List.all_eq_true.mp h q hq
  simp only [Bool.and_eq_true, decide_eq_true_eq, Bool.not_eq_true', beq_eq_false_iff_ne] at this
  refine ⟨Nat.dvd_of_mod_eq_zero this.1, ?_⟩
  rw [pm_at (QN / q) _ this.2.1 rfl]
  exact this.2.2

/-- a divisor of P - 1 but 1 is divided by one of its primes -/
theorem some_q (m : Nat) (hm : m ∣ QN) (h1 : m ≠ 1) : ∃ q, q ∈ qs ∧ q ∣ m := by
  apply Classical.byContradiction
  intro hno
  have hc : ∀ q, q ∈ qs → Nat.Coprime m q := by
    intro q hq
    have hp := qs_prime q hq
    exact cop_of m q hp.1 (allPrimeTo_at q q hp.2) (fun hd => hno ⟨q, hq, hd⟩)
  have c : ∀ q, q ∈ qs → ∀ x, Nat.Coprime m x → Nat.Coprime m (q * x) := fun q hq x hx => Nat.Coprime.mul_right (hc q hq) hx
  have big : Nat.Coprime m (2 * (3 * (3 * (5 * (5 * (7 * (11 * (13 * (31 * (41 * (61 * (151 * (331 * (1321 * 1)))))))))))))) := by
    have one : Nat.Coprime m 1 := Nat.coprime_one_right m
    refine c 2 (by decide) _ (c 3 (by decide) _ (c 3 (by decide) _ (c 5 (by decide) _ (c 5 (by decide) _ (c 7 (by decide) _ (c 11 (by decide) _ (c 13 (by decide) _ (c 31 (by decide) _ (c 41 (by decide) _ (c 61 (by decide) _ (c 151 (by decide) _ (c 331 (by decide) _ (c 1321 (by decide) _ one)))))))))))))
  have e : 2 * (3 * (3 * (5 * (5 * (7 * (11 * (13 * (31 * (41 * (61 * (151 * (331 * (1321 * 1))))))))))))) = QN := by decide +kernel
  rw [e] at big
  have : Nat.gcd m QN = m := Nat.gcd_eq_left hm
  exact h1 (this ▸ big)

theorem gen_all : 37 ^ QN % PN = 1 := pm_at QN 1 (by decide +kernel) (by decide +kernel)

theorem gen_ord (d : Nat) (h0 : 0 < d) (hd : d < QN) : 37 ^ d % PN ≠ 1 := by
  intro h
  have hp : 1 < PN := by decide +kernel
  have hg := pow_gcd PN 37 hp d QN h gen_all
  have hgd : Nat.gcd d QN ∣ QN := Nat.gcd_dvd_right d QN
  have hle : Nat.gcd d QN ≤ d := Nat.le_of_dvd h0 (Nat.gcd_dvd_left d QN)
  generalize Nat.gcd d QN = g at hg hgd hle
  obtain ⟨m, hm⟩ := hgd
  have hm1 : m ≠ 1 := by intro h1; rw [h1, Nat.mul_one] at hm; omega
  obtain ⟨q, hq, k, hk⟩ := some_q m ⟨g, by rw [hm, Nat.mul_comm]⟩ hm1
  have hl := (qs_low q hq).2
  apply hl
  have hq0 := (qs_prime q hq).1
  have e : QN / q = g * k := by
    rw [hm, hk, ← Nat.mul_assoc, Nat.mul_comm g q, Nat.mul_assoc, Nat.mul_div_cancel_left _ (by omega)]
  rw [e]
  exact pow_one_mul PN 37 g k hp hg

theorem fermat (b : Nat) (hb : b % PN ≠ 0) : b ^ QN % PN = 1 :=
  fermat_of PN QN 37 (by decide +kernel) (by decide +kernel) gen_all gen_ord b hb

end Go.Proofs.Ytfgjiadehfljlaa.M
