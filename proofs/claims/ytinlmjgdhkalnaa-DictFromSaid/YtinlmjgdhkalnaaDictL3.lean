/-
  The law DictOrder on plain data.
  Conditions: numbers are those of their kinds.
-/
import Derived.Test.YtinlmjgdhkalnaaDictL2
namespace Go.Proofs.Ytinlmjgdhkalnaa
open Go Go.Ab
set_option linter.unusedVariables false
set_option linter.unusedSimpArgs false

/-- the other order -/
def oth (n b i : Nat) : Nat := (n - i + b) % n
theorem oth_lt {n b i : Nat} (h : i < n) : oth n b i < n := Nat.mod_lt _ (by omega)
theorem oth_oth {n b i : Nat} (h : i < n) : oth n b (oth n b i) = i := by
  have h1 := Nat.div_add_mod (n - i + b) n
  have h2 : (n - i + b) % n < n := Nat.mod_lt _ (by omega)
  unfold oth
  have e : n - (n - i + b) % n + b = i + n * ((n - i + b) / n) := by omega
  rw [e, Nat.add_mul_mod_self_left, Nat.mod_eq_of_lt h]
theorem oth_int {n b i : Nat} (h : i < n) : ((n : Int) - (i : Int) + (b : Int)).tmod (n : Int) = (oth n b i : Int) := by
  rw [show (n : Int) - (i : Int) + (b : Int) = ((n - i + b : Nat) : Int) by omega]
  rfl
def KD (keys : List Int) (i : Nat) : Prop := ∀ j, j < i → ∀ j', j' < j → keys.getD j' default ≠ keys.getD j default
theorem KD.ne {keys : List Int} {i j k : Nat} (h : KD keys i) (hj : j < i) (hk : k < i) (e : j ≠ k) : keys.getD j default ≠ keys.getD k default := by
  rcases Nat.lt_or_gt_of_ne e with h1 | h1
  · exact h k hk j h1
  · exact fun e => h j hj k h1 e.symm
/-- of the keys at these places each has its place -/
def Has (keys : List Int) (f : Nat → Nat) (i : Nat) (l : List Pr) : Prop := l.length = i ∧ ∀ p, p ∈ l ↔ ∃ j, j < i ∧ p = (keys.getD (f j) default, (f j : Int))
theorem putL_new {l : List Pr} (h : Inc l) {k : Int} (hk : ∀ p ∈ l, p.1 ≠ k) (n : Int) : (putL l k n).length = l.length + 1 := by
  have e : delL l k = l := List.filter_eq_self.2 fun p hp => by simpa using hk p hp
  have := lo_hi h k
  rw [e] at this
  have h2 := congrArg List.length this
  rw [List.length_append] at h2
  simp only [putL, List.length_append, List.length_cons]; omega
theorem Has.put {keys : List Int} {f : Nat → Nat} {i : Nat} {l : List Pr} (h : Has keys f i l) (hI : Inc l) (hd : KD keys keys.length) (hf : ∀ j, j ≤ i → f j < keys.length) (hinj : ∀ j, j < i → f j ≠ f i) : Has keys f (i + 1) (putL l (keys.getD (f i) default) (f i)) := by
  have hne : ∀ p ∈ l, p.1 ≠ keys.getD (f i) default := fun p hp => by
    obtain ⟨j, hj, rfl⟩ := (h.2 p).1 hp
    exact hd.ne (hf j (by omega)) (hf i (Nat.le_refl _)) (hinj j hj)
  refine ⟨by rw [putL_new hI hne, h.1], fun p => ?_⟩
  rw [mem_put]
  constructor
  · rintro (rfl | ⟨h1, _⟩)
    · exact ⟨i, by omega, rfl⟩
    · obtain ⟨j, hj, e⟩ := (h.2 p).1 h1; exact ⟨j, by omega, e⟩
  · rintro ⟨j, hj, rfl⟩
    by_cases e : j = i
    · subst e; exact .inl rfl
    · have hm := (h.2 (keys.getD (f j) default, (f j : Int))).2 ⟨j, by omega, rfl⟩
      exact .inr ⟨hm, hne _ hm⟩
theorem has_same {keys : List Int} {b : Nat} {l m : List Pr} (hl : Has keys id keys.length l) (hm : Has keys (oth keys.length b) keys.length m) (h1 : Inc l) (h2 : Inc m) : m = l :=
  inc_ext h2 h1 fun p => by
    rw [hl.2, hm.2]
    constructor
    · rintro ⟨j, hj, rfl⟩; exact ⟨oth keys.length b j, oth_lt hj, rfl⟩
    · rintro ⟨j, hj, rfl⟩; exact ⟨oth keys.length b j, oth_lt hj, by rw [oth_oth hj]; rfl⟩
theorem inc_next {l : List Pr} (h : Inc l) {i : Nat} {x y : Pr} (hi : i + 1 < l.length) (hx : l.getD i default = x) (hy : l.getD (i + 1) default = y) : x.1 < y.1 := by
  have e1 := (getD_mem (by omega) hx).2
  have e2 := (getD_mem hi hy).2
  have := List.pairwise_iff_getElem.1 h i (i + 1) (by omega) hi (by omega)
  rw [e1, e2] at this; exact this

set_option maxHeartbeats 4000000 in
theorem dictOrder_any (keys : List Int) (by_ : Int) (hk0 : ∀ k ∈ keys, 0 ≤ k ∧ k ≤ 18446744073709551615) (hby : 0 ≤ by_ ∧ by_ ≤ 255) : ACalls Try.prog 5 [.sl (keys.map uPV), .v (.int .u8 by_)] (bPV true) := by
  refine ent Try.func5 ?_
  clear hk0
  obtain ⟨b, rfl⟩ : ∃ b : Nat, by_ = (b : Int) := ⟨by_.toNat, by omega⟩
  have hwb : IntKind.i64.wrap (b : Int) = (b : Int) := wrap_i64 _ (by omega) (by omega)
  repeat (refine AW_seq ?_)
  refine reg ?_
  refine run 1 ?_
  refine fin [0, 1] [] ?_
  repeat (refine AW_seq ?_)
  refine reg ?_
  refine run 2 ?_
  refine run 1 ?_
  refine fin [0, 1, 17] [] ?_
  repeat (refine AW_seq ?_)
  refine tst (fun h1 => ?_) (fun h1 => ?_)
  · simp at h1
    repeat (refine AW_seq ?_)
    refine reg ?_
    refine call (fun _ => awake_true) ?_
    refine run 1 ?_
    refine fin [4] [] ?_
    refine AW_ret (ret ?_)
    rfl
  · simp at h1
    have hlen : keys.length ≤ 60 := by omega
    clear h1
    refine AW_skip ?_
    repeat (refine AW_seq ?_)
    refine reg ?_
    refine run 2 ?_
    refine fin [0, 1, 5, 6] [(6, 0), (7, 0)] ?_
    repeat (refine AW_seq ?_)
    refine reg ?_
    refine run 2 ?_
    refine run 1 ?_
    refine fin [0, 1, 5, 6, 20, 21] [(6, 0), (7, 0)] ?_
    repeat (refine AW_seq ?_)
    refine AW_block ?_
    refine AW_loops (ι := Nat) (fun i => ⟨lk [(0, .c (.sl (keys.map uPV))), (1, .c (.v (.int .u8 b))), (5, .ptr (6, 0) 1 0 0), (6, .ptr (7, 0) 1 0 0), (20, .c (iPV keys.length)), (21, .c (iPV i))], lkM [((6, 0), some ⟨27, 1, [.agg [sqPV .nil]], true, []⟩), ((7, 0), some ⟨27, 1, [.agg [sqPV .nil]], true, []⟩)], lkG [] 1⟩) (fun i => i ≤ keys.length ∧ KD keys i) (fun i => keys.length - i) 0 ⟨Nat.zero_le _, fun j hj => by omega⟩ wk ?_
    rintro i ⟨hi, hK⟩
    obtain ⟨hK, -⟩ : Go.RowKit.Hid (KD keys i) ∧ True := ⟨hK, trivial⟩
    rename_i hid0
    clear hid0
    repeat (refine AW_seq ?_)
    refine reg ?_
    refine run 1 ?_
    refine fin [0, 1, 5, 6, 20, 21, 22] [(6, 0), (7, 0)] ?_
    repeat (refine AW_seq ?_)
    refine tst (fun h2 => ?_) (fun h2 => ?_)
    · simp at h2
      have hi' : i < keys.length := by omega
      obtain ⟨K1, hK1⟩ : ∃ K1, keys.take i = K1 := ⟨_, rfl⟩
      have e1 : (keys.map uPV).take i = K1.map uPV := by rw [← hK1]; exact (List.map_take ..).symm
      have hK1l : K1.length = i := by rw [← hK1, List.length_take]; omega
      refine AW_skip ?_
      repeat (refine AW_seq ?_)
      refine AW_block ?_
      repeat (refine AW_seq ?_)
      refine reg ?_
      refine run 2 ?_
      refine fin [0, 1, 5, 6, 7, 20, 21] [(6, 0), (7, 0)] ?_
      repeat (refine AW_seq ?_)
      refine reg ?_
      refine run 2 ?_
      refine run 2 ?_
      refine run 1 ?_
      refine fin [0, 1, 5, 6, 7, 20, 21, 26, 27, 28] [(6, 0), (7, 0)] ?_
      repeat (refine AW_seq ?_)
      refine AW_block ?_
      refine AW_loops (ι := Nat) (fun j => ⟨lk [(0, .c (.sl (keys.map uPV))), (1, .c (.v (.int .u8 b))), (5, .ptr (6, 0) 1 0 0), (6, .ptr (7, 0) 1 0 0), (7, .c (iPV i)), (20, .c (iPV keys.length)), (21, .c (iPV i)), (26, .c (.sl (K1.map uPV))), (27, .c (iPV i)), (28, .c (iPV j))], lkM [((6, 0), some ⟨27, 1, [.agg [sqPV .nil]], true, []⟩), ((7, 0), some ⟨27, 1, [.agg [sqPV .nil]], true, []⟩)], lkG [] 1⟩) (fun j => j ≤ i ∧ ∀ j', j' < j → keys.getD j' default ≠ keys.getD i default) (fun j => i - j) 0 ⟨Nat.zero_le _, fun j hj => by omega⟩ wk ?_
      rintro j ⟨hji, hJ⟩
      obtain ⟨hJ, -⟩ : Go.RowKit.Hid (∀ j', j' < j → keys.getD j' default ≠ keys.getD i default) ∧ True := ⟨hJ, trivial⟩
      rename_i hid0
      clear hid0
      repeat (refine AW_seq ?_)
      refine reg ?_
      refine run 1 ?_
      refine fin [0, 1, 5, 6, 7, 20, 21, 26, 27, 28, 29] [(6, 0), (7, 0)] ?_
      repeat (refine AW_seq ?_)
      refine tst (fun h3 => ?_) (fun h3 => ?_)
      · simp at h3
        have hKj : K1.getD j default = keys.getD j default := by rw [← hK1, List.getD_eq_getElem?_getD, List.getD_eq_getElem?_getD, List.getElem?_take_of_lt (by omega)]
        obtain ⟨kj, hkj⟩ : ∃ kj, K1.getD j default = kj := ⟨_, rfl⟩
        obtain ⟨ki, hki⟩ : ∃ ki, keys.getD i default = ki := ⟨_, rfl⟩
        have hKj2 : keys.getD j default = kj := by rw [← hKj, hkj]
        clear hKj
        refine AW_skip ?_
        repeat (refine AW_seq ?_)
        refine AW_block ?_
        repeat (refine AW_seq ?_)
        refine reg ?_
        refine run 2 ?_
        refine run 1 ?_
        refine fin [0, 1, 5, 6, 7, 9, 20, 21, 26, 27, 28] [(6, 0), (7, 0)] ?_
        repeat (refine AW_seq ?_)
        refine reg ?_
        refine run 2 ?_
        refine run 2 ?_
        refine run 2 ?_
        refine fin [0, 1, 5, 6, 7, 20, 21, 26, 27, 28, 37] [(6, 0), (7, 0)] ?_
        repeat (refine AW_seq ?_)
        refine tst (fun h4 => ?_) (fun h4 => ?_)
        · simp at h4
          repeat (refine AW_seq ?_)
          refine reg ?_
          refine call (fun _ => awake_true) ?_
          refine run 1 ?_
          refine fin [4] [] ?_
          refine AW_ret (ret ?_)
          rfl
        · simp at h4
          refine AW_skip ?_
          repeat (refine AW_seq ?_)
          refine reg ?_
          refine run 2 ?_
          refine finN ?_
          exact ⟨j + 1, by omega, ⟨by omega, fun j' hj' => by
            rcases Nat.lt_or_ge j' j with h5 | h5
            · exact hJ.out j' h5
            · obtain rfl : j' = j := by omega
              rw [hKj2, hki]; exact h4⟩, wk⟩
      · simp at h3
        obtain rfl : i = j := by omega
        refine AW_exit ?_
        repeat (refine AW_seq ?_)
        refine reg ?_
        refine run 2 ?_
        refine finN ?_
        exact ⟨i + 1, by omega, ⟨by omega, fun j hj j' hj' => by
          rcases Nat.lt_or_ge j i with h4 | h4
          · exact hK.out j h4 j' hj'
          · obtain rfl : j = i := by omega
            exact hJ.out j' (by omega)⟩, wk⟩
    · simp at h2
      obtain rfl : i = keys.length := by omega
      refine AW_exit ?_
      repeat (refine AW_seq ?_)
      refine reg ?_
      refine run 2 ?_
      refine run 1 ?_
      refine fin [0, 1, 5, 6, 41, 42, 43] [(6, 0), (7, 0)] ?_
      repeat (refine AW_seq ?_)
      refine AW_block ?_
      refine AW_loops (ι := Nat × (Tr Pr × List Pr) × (Tr Pr × List Pr)) (fun z => ⟨lk [(0, .c (.sl (keys.map uPV))), (1, .c (.v (.int .u8 b))), (5, .ptr (6, 0) 1 0 0), (6, .ptr (7, 0) 1 0 0), (41, .c (.sl (keys.map uPV))), (42, .c (iPV keys.length)), (43, .c (iPV z.1))], lkM [((6, 0), some ⟨27, 1, [.agg [sqPV z.2.1.1]], true, []⟩), ((7, 0), some ⟨27, 1, [.agg [sqPV z.2.2.1]], true, []⟩)], lkG [] 1⟩) (fun z => z.1 ≤ keys.length ∧ DOk z.2.1.1 z.2.1.2 ∧ DOk z.2.2.1 z.2.2.2 ∧ Has keys id z.1 z.2.1.2 ∧ Has keys (oth keys.length b) z.1 z.2.2.2) (fun z => keys.length - z.1) (0, (.nil, []), (.nil, [])) ⟨Nat.zero_le _, DOk.nil, DOk.nil, ⟨rfl, fun p => ⟨fun h => by (cases h), fun ⟨j, hj, _⟩ => by omega⟩⟩, ⟨rfl, fun p => ⟨fun h => by (cases h), fun ⟨j, hj, _⟩ => by omega⟩⟩⟩ wk ?_
      rintro ⟨i, ⟨t, l⟩, ⟨u, m⟩⟩ ⟨hi, hD, hU, hL, hM⟩
      simp only at hi hD hU hL hM
      have hll := hL.1
      have hml := hM.1
      obtain ⟨hL, -⟩ : Go.RowKit.Hid (Has keys id i l) ∧ True := ⟨hL, trivial⟩
      rename_i hid0
      clear hid0
      obtain ⟨hM, -⟩ : Go.RowKit.Hid (Has keys (oth keys.length b) i m) ∧ True := ⟨hM, trivial⟩
      rename_i hid0
      clear hid0
      repeat (refine AW_seq ?_)
      refine reg ?_
      refine run 1 ?_
      refine fin [0, 1, 5, 6, 41, 42, 43, 44] [(6, 0), (7, 0)] ?_
      repeat (refine AW_seq ?_)
      refine tst (fun h5 => ?_) (fun h5 => ?_)
      · simp at h5
        have hi' : i < keys.length := by omega
        obtain ⟨k, hk⟩ : ∃ k, keys.getD i default = k := ⟨_, rfl⟩
        have hso := oth_int (b := b) hi'
        have hsl := oth_lt (b := b) hi'
        obtain ⟨s, hs⟩ : ∃ s, oth keys.length b i = s := ⟨_, rfl⟩
        rw [hs] at hso hsl
        obtain ⟨k2, hk2⟩ : ∃ k2, keys.getD s default = k2 := ⟨_, rfl⟩
        refine AW_skip ?_
        repeat (refine AW_seq ?_)
        refine AW_block ?_
        repeat (refine AW_seq ?_)
        refine reg ?_
        refine run 2 ?_
        refine run 2 ?_
        refine run 1 ?_
        refine fin [0, 1, 5, 6, 10, 11, 41, 42, 43] [(6, 0), (7, 0)] ?_
        repeat (refine AW_seq ?_)
        refine reg ?_
        refine run 2 ?_
        refine run 1 ?_
        refine call (fun _ => hD.cPut (by omega) k i) ?_
        refine run 1 ?_
        refine fin [0, 1, 5, 6, 10, 41, 42, 43] [(6, 0), (7, 0)] ?_
        repeat (refine AW_seq ?_)
        refine reg ?_
        refine run 2 ?_
        refine run 2 ?_
        refine run 2 ?_
        refine run 2 ?_
        refine run 2 ?_
        refine run 1 ?_
        refine fin [0, 1, 5, 6, 12, 41, 42, 43] [(6, 0), (7, 0)] ?_
        repeat (refine AW_seq ?_)
        refine reg ?_
        refine run 2 ?_
        refine run 2 ?_
        refine run 2 ?_
        refine call (fun _ => hU.cPut (by omega) k2 s) ?_
        refine run 1 ?_
        refine finN ?_
        refine kp [0, 1, 5, 6, 41, 42, 43] [(6, 0), (7, 0)] ?_
        repeat (refine AW_seq ?_)
        refine reg ?_
        refine run 2 ?_
        refine finN ?_
        refine ⟨(i + 1, (putT t k i, putL l k i), (putT u k2 s, putL m k2 s)), by show keys.length - (i + 1) < keys.length - i; omega, ⟨by show i + 1 ≤ _; omega, hD.put _ _, hU.put _ _, ?_, ?_⟩, wk⟩
        · show Has keys id (i + 1) (putL l k i)
          have := hL.out.put hD.inc hK.out (fun j hj => by show j < _; omega) (fun j hj => by show j ≠ i; omega)
          rwa [show id i = i from rfl, hk] at this
        · show Has keys (oth keys.length b) (i + 1) (putL m k2 s)
          have := hM.out.put hU.inc hK.out (fun j hj => oth_lt (by omega)) (fun j hj e => by
            have := congrArg (oth keys.length b) e
            rw [oth_oth (by omega), oth_oth (by omega)] at this; omega)
          rwa [hs, hk2] at this
      · simp at h5
        obtain rfl : i = keys.length := by omega
        have cp := hD.cPairs (by omega)
        obtain rfl : l = m := (has_same hL.out hM.out hD.inc hU.inc).symm
        have cu := hU.cPairs (by omega)
        refine AW_exit ?_
        repeat (refine AW_seq ?_)
        refine reg ?_
        refine run 1 ?_
        refine call (fun _ => cp) ?_
        refine run 1 ?_
        refine fin [0, 6, 13] [(7, 0)] ?_
        repeat (refine AW_seq ?_)
        refine reg ?_
        refine run 2 ?_
        refine run 1 ?_
        refine fin [0, 6, 13, 73, 74] [(7, 0)] ?_
        repeat (refine AW_seq ?_)
        refine AW_block ?_
        refine AW_loops (ι := Nat) (fun e => ⟨lk [(0, .c (.sl (keys.map uPV))), (6, .ptr (7, 0) 1 0 0), (13, .c (.sl (l.map pPV))), (73, .c (iPV l.length)), (74, .c (iPV e))], lkM [((7, 0), some ⟨27, 1, [.agg [sqPV u]], true, []⟩)], lkG [] 1⟩) (fun e => e ≤ l.length) (fun e => l.length - e) 0 (Nat.zero_le _) wk ?_
        rintro e he
        cases e with
        | zero =>
          repeat (refine AW_seq ?_)
          refine reg ?_
          refine run 1 ?_
          refine fin [0, 6, 13, 73, 74, 75] [(7, 0)] ?_
          repeat (refine AW_seq ?_)
          refine tst (fun h6 => ?_) (fun h6 => ?_)
          · simp at h6
            obtain ⟨y, hy⟩ : ∃ y, l.getD 0 default = y := ⟨_, rfl⟩
            have hp0 : ¬ ((0 : Int) < ((0 : Nat) : Int)) := by omega
            refine AW_skip ?_
            repeat (refine AW_seq ?_)
            refine AW_block ?_
            repeat (refine AW_seq ?_)
            refine reg ?_
            refine run 2 ?_
            refine fin [0, 6, 13, 14, 73, 74] [(7, 0)] ?_
            repeat (refine AW_seq ?_)
            refine reg ?_
            refine run 2 ?_
            refine run 2 ?_
            refine run 2 ?_
            refine run 2 ?_
            refine run 2 ?_
            refine run 2 ?_
            refine run 2 ?_
            refine run 2 ?_
            refine fin [0, 6, 13, 73, 74, 92] [(7, 0)] ?_
            repeat (refine AW_seq ?_)
            refine tstF ?_
            refine AW_skip ?_
            repeat (refine AW_seq ?_)
            refine reg ?_
            refine run 2 ?_
            refine finN ?_
            exact ⟨1, by show l.length - 1 < l.length - 0; omega, by show 1 ≤ l.length; omega, wk⟩
          · simp at h6
            have cr := refs_any l (by omega)
            have cs := same_any l (by omega)
            refine AW_exit ?_
            repeat (refine AW_seq ?_)
            refine reg ?_
            refine run 2 ?_
            refine run 2 ?_
            refine run 2 ?_
            refine run 1 ?_
            refine call (fun _ => cr) ?_
            refine run 1 ?_
            refine call (fun _ => cu) ?_
            refine call (fun _ => cr) ?_
            refine call (fun _ => cs) ?_
            refine run 2 ?_
            refine call (fun _ => awake_true) ?_
            refine run 2 ?_
            refine fin [4] [] ?_
            refine AW_ret (ret ?_)
            rfl
        | succ e =>
          repeat (refine AW_seq ?_)
          refine reg ?_
          refine run 1 ?_
          refine fin [0, 6, 13, 73, 74, 75] [(7, 0)] ?_
          repeat (refine AW_seq ?_)
          refine tst (fun h6 => ?_) (fun h6 => ?_)
          · simp at h6
            obtain ⟨x, hx⟩ : ∃ x, l.getD e default = x := ⟨_, rfl⟩
            obtain ⟨y, hy⟩ : ∃ y, l.getD (e + 1) default = y := ⟨_, rfl⟩
            have hlt := inc_next hD.inc (by omega) hx hy
            have hge : ¬ (y.1 ≤ x.1) := by omega
            have hc1 : ((e + 1 : Nat) : Int) - 1 = (e : Int) := by omega
            have hp0 : (0 : Int) < ((e + 1 : Nat) : Int) := by omega
            refine AW_skip ?_
            repeat (refine AW_seq ?_)
            refine AW_block ?_
            repeat (refine AW_seq ?_)
            refine reg ?_
            refine run 2 ?_
            refine fin [0, 6, 13, 14, 73, 74] [(7, 0)] ?_
            repeat (refine AW_seq ?_)
            refine reg ?_
            refine run 2 ?_
            refine run 2 ?_
            refine run 2 ?_
            refine run 2 ?_
            refine run 2 ?_
            refine run 2 ?_
            refine run 2 ?_
            refine run 2 ?_
            refine fin [0, 6, 13, 73, 74, 92] [(7, 0)] ?_
            repeat (refine AW_seq ?_)
            refine tstF ?_
            refine AW_skip ?_
            repeat (refine AW_seq ?_)
            refine reg ?_
            refine run 2 ?_
            refine finN ?_
            exact ⟨e + 1 + 1, by omega, by omega, wk⟩
          · simp at h6
            have cr := refs_any l (by omega)
            have cs := same_any l (by omega)
            refine AW_exit ?_
            repeat (refine AW_seq ?_)
            refine reg ?_
            refine run 2 ?_
            refine run 2 ?_
            refine run 2 ?_
            refine run 1 ?_
            refine call (fun _ => cr) ?_
            refine run 1 ?_
            refine call (fun _ => cu) ?_
            refine call (fun _ => cr) ?_
            refine call (fun _ => cs) ?_
            refine run 2 ?_
            refine call (fun _ => awake_true) ?_
            refine run 2 ?_
            refine fin [4] [] ?_
            refine AW_ret (ret ?_)
            rfl

end Go.Proofs.Ytinlmjgdhkalnaa