/-
  The laws VertsKeys and VertsFull on plain data.
  Conditions: numbers are those of their kinds.
-/
import Derived.Test.YtaoiffinodfcfaaVertsN
namespace Go.Proofs.Ytaoiffinodfcfaa
open Go Go.Ab
set_option linter.unusedVariables false
set_option linter.unusedSimpArgs false

theorem snoc_mem {K : List Int} {k x : Int} : (decide (k ∈ K) || x == k) = decide (k ∈ K ++ [x]) := by
  rw [Bool.eq_iff_iff]
  simp only [Bool.or_eq_true, decide_eq_true_eq, beq_iff_eq, List.mem_append, List.mem_singleton]
  exact or_congr Iff.rfl ⟨Eq.symm, Eq.symm⟩

theorem keys_big (l : List Slt) (k : Int) (h : 60 < l.length) : ACalls Try.prog 7 [.sl (l.map stPV), uPV k] (bPV true) := by
  refine ent Try.func7 ?_
  have hB : decide ((60 : Int) < (l.length : Int)) = true := by simp; omega
  repeat (refine AW_seq ?_)
  refine reg ?_
  refine run 1 ?_
  refine fin [0, 1] [] ?_
  repeat (refine AW_seq ?_)
  refine reg ?_
  refine run 2 ?_
  refine run 2 ?_
  refine run 1 ?_
  refine skpV (.c (.v (.bool false))) ?_
  refine run 2 ?_
  refine fin [0, 1, 20] [] ?_
  repeat (refine AW_seq ?_)
  refine tstT ?_
  repeat (refine AW_seq ?_)
  refine reg ?_
  refine call (fun _ => awake_true) ?_
  refine run 1 ?_
  refine fin [4] [] ?_
  refine AW_ret (ret ?_)
  rfl

theorem keys_small (l : List Slt) (k : Int) (h6 : l.length ≤ 60) (h : ¬ RightP l) : ACalls Try.prog 7 [.sl (l.map stPV), uPV k] (bPV true) := by
  refine ent Try.func7 ?_
  have cR := vRight_any l (by omega)
  rw [decide_eq_false h] at cR
  have hB : decide ((60 : Int) < (l.length : Int)) = false := by simp; omega
  repeat (refine AW_seq ?_)
  refine reg ?_
  refine run 1 ?_
  refine fin [0, 1] [] ?_
  repeat (refine AW_seq ?_)
  refine reg ?_
  refine run 2 ?_
  refine run 2 ?_
  refine run 1 ?_
  refine call (fun _ => cR) ?_
  refine run 2 ?_
  refine fin [0, 1, 20] [] ?_
  repeat (refine AW_seq ?_)
  refine tstT ?_
  repeat (refine AW_seq ?_)
  refine reg ?_
  refine call (fun _ => awake_true) ?_
  refine run 1 ?_
  refine fin [4] [] ?_
  refine AW_ret (ret ?_)
  rfl

set_option maxHeartbeats 4000000 in
theorem keys_yes (l : List Slt) (k : Int) (h6 : l.length ≤ 60) (h : RightP l) : ACalls Try.prog 7 [.sl (l.map stPV), uPV k] (bPV true) := by
  refine ent Try.func7 ?_
  have cR := vRight_yes h
  have hB : decide ((60 : Int) < (l.length : Int)) = false := by simp; omega
  have cK := vKeys_any l (by omega)
  have bK := keysR_len l
  have hF : ∀ x ∈ keysR l, ∃ v, v < l.length ∧ findN l x = some v ∧ l.getD v default = ⟨true, x⟩ := fun x hx => by
    obtain ⟨j, h1, h2, h3⟩ := (mem_keys h x).1 hx
    exact ⟨j, h1, find_is h.2.2.2 h1 h2 h3, slot_eq h2 h3⟩
  have hlt : ∀ i, i + 1 < (keysR l).length → (keysR l).getD i default < (keysR l).getD (i + 1) default := fun i hi => keys_lt hi
  have hkf := keys_find h k
  have cG := vFind_any l k (by omega)
  rw [by_get h] at cG
  obtain ⟨K, eK⟩ : ∃ K, keysR l = K := ⟨_, rfl⟩
  rw [eK] at cK bK hF hlt hkf
  obtain ⟨hF, -⟩ : Go.RowKit.Hid (∀ x ∈ K, ∃ v, v < l.length ∧ findN l x = some v ∧ l.getD v default = ⟨true, x⟩) ∧ True := ⟨hF, trivial⟩
  rename_i hF0
  clear hF0
  obtain ⟨hlt, -⟩ : Go.RowKit.Hid (∀ i, i + 1 < K.length → K.getD i default < K.getD (i + 1) default) ∧ True := ⟨hlt, trivial⟩
  rename_i hlt0
  clear hlt0
  obtain ⟨w, ew⟩ : ∃ w, (((findN l k).map fun n => (n : Int)).getD 0) = w := ⟨_, rfl⟩
  obtain ⟨O, eO⟩ : ∃ O, (findN l k).isSome = O := ⟨_, rfl⟩
  rw [show ((findN l k).map fun n => (n : Int)).isSome = (findN l k).isSome by cases findN l k <;> rfl] at cG
  rw [ew, eO] at cG
  rw [eO] at hkf
  clear ew eO eK
  obtain ⟨hkf, -⟩ : Go.RowKit.Hid (decide (k ∈ K) = O) ∧ True := ⟨hkf, trivial⟩
  rename_i hkf0
  clear hkf0
  obtain ⟨h, -⟩ : Go.RowKit.Hid (RightP l) ∧ True := ⟨h, trivial⟩
  rename_i h0
  clear h0
  repeat (refine AW_seq ?_)
  refine reg ?_
  refine run 1 ?_
  refine fin [0, 1] [] ?_
  repeat (refine AW_seq ?_)
  refine reg ?_
  refine run 2 ?_
  refine run 2 ?_
  refine run 1 ?_
  refine call (fun _ => cR) ?_
  refine run 2 ?_
  refine fin [0, 1, 20] [] ?_
  repeat (refine AW_seq ?_)
  refine tstF ?_
  refine AW_skip ?_
  repeat (refine AW_seq ?_)
  refine reg ?_
  refine run 1 ?_
  refine fin [0, 1, 5] [] ?_
  repeat (refine AW_seq ?_)
  refine reg ?_
  refine run 1 ?_
  refine call (fun _ => cK) ?_
  refine run 1 ?_
  refine fin [0, 1, 5, 6] [] ?_
  repeat (refine AW_seq ?_)
  refine reg ?_
  refine run 2 ?_
  refine run 1 ?_
  refine fin [0, 1, 5, 6, 24, 25, 26] [] ?_
  repeat (refine AW_seq ?_)
  refine AW_block ?_
  refine AW_loops (ι := Nat × Bool) (fun z => ⟨lk [(0, .c (.sl (l.map stPV))), (1, .c (uPV k)), (5, .c (bPV z.2)), (6, .c (.sl (K.map uPV))), (24, .c (.sl (K.map uPV))), (25, .c (iPV K.length)), (26, .c (iPV z.1))], lkM ([]), lkG [] 0⟩) (fun z => z.1 ≤ K.length ∧ z.2 = decide (k ∈ K.take z.1)) (fun z => K.length - z.1) (0, false) ⟨Nat.zero_le _, by simp⟩ wk ?_
  rintro ⟨i, b⟩ ⟨hi, hb⟩
  simp only at hi hb
  obtain ⟨hb, -⟩ : Go.RowKit.Hid (b = decide (k ∈ K.take i)) ∧ True := ⟨hb, trivial⟩
  rename_i hb0
  clear hb0
  cases i with
  | zero =>
    repeat (refine AW_seq ?_)
    refine reg ?_
    refine run 1 ?_
    refine fin [0, 1, 5, 6, 24, 25, 26, 27] [] ?_
    repeat (refine AW_seq ?_)
    refine tst (fun h2 => ?_) (fun h2 => ?_)
    · skip
      have g2 : 0 < K.length := by simpa using h2
      obtain ⟨x, hx, gx⟩ := getD_at g2
      have htk := take_map g2 gx
      obtain ⟨v, hv, hf, gv⟩ := hF.out x (List.mem_of_getElem? hx)
      have cF := vFind_some h.out hf
      have hp0 : ¬ ((0 : Int) < ((0 : Nat) : Int)) := by omega
      have n1 : decide ((v : Int) < 0) = false := by simp
      have n2 : decide ((l.length : Int) ≤ (v : Int)) = false := by simp; omega
      clear hf
      obtain ⟨htk, -⟩ : Go.RowKit.Hid (K.take (0 + 1) = K.take 0 ++ [x]) ∧ True := ⟨htk, trivial⟩
      rename_i htk0
      clear htk0
      refine AW_skip ?_
      repeat (refine AW_seq ?_)
      refine AW_block ?_
      repeat (refine AW_seq ?_)
      refine reg ?_
      refine run 2 ?_
      refine run 2 ?_
      refine run 1 ?_
      refine fin [0, 1, 5, 6, 7, 8, 24, 25, 26] [] ?_
      repeat (refine AW_seq ?_)
      refine reg ?_
      refine run 2 ?_
      refine call (fun _ => cF) ?_
      refine run 2 ?_
      refine run 2 ?_
      refine run 1 ?_
      refine fin [0, 1, 5, 6, 7, 8, 9, 10, 24, 25, 26] [] ?_
      repeat (refine AW_seq ?_)
      refine reg ?_
      refine run 2 ?_
      refine run 2 ?_
      refine run 2 ?_
      refine run 2 ?_
      refine run 2 ?_
      refine run 2 ?_
      refine run 2 ?_
      refine run 2 ?_
      refine run 2 ?_
      refine run 2 ?_
      refine run 2 ?_
      refine run 2 ?_
      refine run 2 ?_
      refine run 2 ?_
      refine run 2 ?_
      refine run 2 ?_
      refine run 2 ?_
      refine run 2 ?_
      refine run 2 ?_
      refine run 2 ?_
      refine run 2 ?_
      refine fin [0, 1, 5, 6, 8, 24, 25, 26, 78] [] ?_
      repeat (refine AW_seq ?_)
      refine tstF ?_
      refine AW_skip ?_
      repeat (refine AW_seq ?_)
      refine reg ?_
      refine run 2 ?_
      refine run 2 ?_
      refine run 2 ?_
      refine run 1 ?_
      refine finN ?_
      refine kp [0, 1, 5, 6, 24, 25, 26] [] ?_
      repeat (refine AW_seq ?_)
      refine reg ?_
      refine run 2 ?_
      refine finN ?_
      exact ⟨(0 + 1, b || x == k), by show K.length - (0 + 1) < K.length - 0; omega, ⟨by show 0 + 1 ≤ _; omega, by show (b || x == k) = _; rw [htk.out, hb.out, snoc_mem]⟩, wk⟩
    · skip
      have g2 : K.length ≤ 0 := by simp at h2; simp [h2]
      obtain rfl : b = O := by rw [hb.out, ← hkf.out, List.take_of_length_le (by omega)]
      refine AW_exit ?_
      repeat (refine AW_seq ?_)
      refine reg ?_
      refine run 2 ?_
      refine call (fun _ => cG) ?_
      refine run 2 ?_
      refine run 2 ?_
      refine run 1 ?_
      refine fin [5, 12] [] ?_
      repeat (refine AW_seq ?_)
      refine reg ?_
      refine run 2 ?_
      refine run 2 ?_
      refine call (fun _ => awake_true) ?_
      refine run 2 ?_
      refine fin [4] [] ?_
      refine AW_ret (ret ?_)
      rfl
  | succ i =>
    repeat (refine AW_seq ?_)
    refine reg ?_
    refine run 1 ?_
    refine fin [0, 1, 5, 6, 24, 25, 26, 27] [] ?_
    repeat (refine AW_seq ?_)
    refine tst (fun h2 => ?_) (fun h2 => ?_)
    · skip
      have g2 : i + 1 < K.length := by simp at h2; omega
      obtain ⟨x, hx, gx⟩ := getD_at g2
      have htk := take_map g2 gx
      obtain ⟨v, hv, hf, gv⟩ := hF.out x (List.mem_of_getElem? hx)
      have cF := vFind_some h.out hf
      have hp0 : (0 : Int) < ((i + 1 : Nat) : Int) := by omega
      have n1 : decide ((v : Int) < 0) = false := by simp
      have n2 : decide ((l.length : Int) ≤ (v : Int)) = false := by simp; omega
      obtain ⟨y, hy⟩ : ∃ y, K.getD i default = y := ⟨_, rfl⟩
      have hc1 : ((i + 1 : Nat) : Int) - 1 = (i : Int) := by omega
      have hyx := hlt.out i g2
      rw [hy, gx] at hyx
      have hge : ¬ (x ≤ y) := by omega
      have n3 : decide (x ≤ y) = false := by simp; omega
      clear hf
      obtain ⟨htk, -⟩ : Go.RowKit.Hid (K.take (i + 1 + 1) = K.take (i + 1) ++ [x]) ∧ True := ⟨htk, trivial⟩
      rename_i htk0
      clear htk0
      refine AW_skip ?_
      repeat (refine AW_seq ?_)
      refine AW_block ?_
      repeat (refine AW_seq ?_)
      refine reg ?_
      refine run 2 ?_
      refine run 2 ?_
      refine run 1 ?_
      refine fin [0, 1, 5, 6, 7, 8, 24, 25, 26] [] ?_
      repeat (refine AW_seq ?_)
      refine reg ?_
      refine run 2 ?_
      refine call (fun _ => cF) ?_
      refine run 2 ?_
      refine run 2 ?_
      refine run 1 ?_
      refine fin [0, 1, 5, 6, 7, 8, 9, 10, 24, 25, 26] [] ?_
      repeat (refine AW_seq ?_)
      refine reg ?_
      refine run 2 ?_
      refine run 2 ?_
      refine run 2 ?_
      refine run 2 ?_
      refine run 2 ?_
      refine run 2 ?_
      refine run 2 ?_
      refine run 2 ?_
      refine run 2 ?_
      refine run 2 ?_
      refine run 2 ?_
      refine run 2 ?_
      refine run 2 ?_
      refine run 2 ?_
      refine run 2 ?_
      refine run 2 ?_
      refine run 2 ?_
      refine run 2 ?_
      refine run 2 ?_
      refine run 2 ?_
      refine run 2 ?_
      refine fin [0, 1, 5, 6, 8, 24, 25, 26, 78] [] ?_
      repeat (refine AW_seq ?_)
      refine tstF ?_
      refine AW_skip ?_
      repeat (refine AW_seq ?_)
      refine reg ?_
      refine run 2 ?_
      refine run 2 ?_
      refine run 2 ?_
      refine run 1 ?_
      refine finN ?_
      refine kp [0, 1, 5, 6, 24, 25, 26] [] ?_
      repeat (refine AW_seq ?_)
      refine reg ?_
      refine run 2 ?_
      refine finN ?_
      exact ⟨(i + 1 + 1, b || x == k), by show K.length - (i + 1 + 1) < K.length - (i + 1); omega, ⟨by show i + 1 + 1 ≤ _; omega, by show (b || x == k) = _; rw [htk.out, hb.out, snoc_mem]⟩, wk⟩
    · skip
      have g2 : K.length ≤ i + 1 := by simp at h2; omega
      obtain rfl : b = O := by rw [hb.out, ← hkf.out, List.take_of_length_le (by omega)]
      refine AW_exit ?_
      repeat (refine AW_seq ?_)
      refine reg ?_
      refine run 2 ?_
      refine call (fun _ => cG) ?_
      refine run 2 ?_
      refine run 2 ?_
      refine run 1 ?_
      refine fin [5, 12] [] ?_
      repeat (refine AW_seq ?_)
      refine reg ?_
      refine run 2 ?_
      refine run 2 ?_
      refine call (fun _ => awake_true) ?_
      refine run 2 ?_
      refine fin [4] [] ?_
      refine AW_ret (ret ?_)
      rfl

theorem vertsKeys_all (l : List Slt) (k : Int) : ACalls Try.prog 7 [.sl (l.map stPV), uPV k] (bPV true) := by
  by_cases h6 : l.length ≤ 60
  · by_cases h : RightP l
    · exact keys_yes l k h6 h
    · exact keys_small l k h6 h
  · exact keys_big l k (by omega)

theorem full_ih (m s : Nat) (f : Int) (hm : m ≤ 255) (hs : m % 60 + 1 = s) (hf : 0 ≤ f ∧ f ≤ 18446744073709551615) : ACalls Try.prog 8 [.v (.int .u8 m), uPV f] (bPV true) := by
  refine ent Try.func8 ?_
  have hq : ((m : Int).tmod 60) = ((m % 60 : Nat) : Int) := rfl
  obtain ⟨r, er⟩ : ∃ r, m % 60 = r := ⟨_, rfl⟩
  rw [er] at hq hs
  have hs1 : 1 ≤ s ∧ s ≤ 60 := by omega
  have hsum : (1 : Int) + (r : Int) = (s : Int) := by omega
  have hw8 : IntKind.u8.wrap (r : Int) = (r : Int) := wrap_u8 _ (by omega) (by omega)
  have cN := new_yes s (by omega)
  rw [← fullF_zero s f] at cN
  have hf0 : fullF s f 0 = fullF s f (((0 : Nat) : Int)).toNat := rfl
  clear hf0
  have hmore := fullF_more (n := s) (f := f) (by omega)
  have cM := vAdd_is (by rw [fullF_len]; omega) hmore
  have cK := vKeys_any (fullF s f s) (by rw [fullF_len]; omega)
  have bK := fullF_keys (n := s) (f := f) (by omega)
  obtain ⟨K, eK⟩ : ∃ K, keysR (fullF s f s) = K := ⟨_, rfl⟩
  rw [eK] at cK bK
  clear hmore eK hm er
  repeat (refine AW_seq ?_)
  refine reg ?_
  refine run 1 ?_
  refine fin [0, 1] [] ?_
  repeat (refine AW_seq ?_)
  refine reg ?_
  refine run 2 ?_
  refine run 2 ?_
  refine run 1 ?_
  refine fin [1, 5] [] ?_
  repeat (refine AW_seq ?_)
  refine reg ?_
  refine run 1 ?_
  refine call (fun _ => cN) ?_
  refine run 2 ?_
  refine run 2 ?_
  refine run 1 ?_
  refine fin [1, 5, 6, 7] [] ?_
  repeat (refine AW_seq ?_)
  refine reg ?_
  refine run 2 ?_
  refine fin [1, 5, 6, 7, 24, 25] [] ?_
  repeat (refine AW_seq ?_)
  refine AW_block ?_
  refine AW_loops (ι := Nat) (fun i => ⟨lk [(1, .c (uPV f)), (5, .c (iPV s)), (6, .c (.sl ((fullF s f i).map stPV))), (7, .c (iPV 0)), (24, .c (iPV s)), (25, .c (iPV i))], lkM ([]), lkG [] 0⟩) (fun i => i ≤ s) (fun i => s - i) 0 (Nat.zero_le _) wk ?_
  rintro i hi
  repeat (refine AW_seq ?_)
  refine reg ?_
  refine run 1 ?_
  refine fin [1, 5, 6, 7, 24, 25, 26] [] ?_
  repeat (refine AW_seq ?_)
  refine tst (fun h1 => ?_) (fun h1 => ?_)
  · simp at h1
    have hi2 : i < s := by omega
    have hadd := fullF_add (n := s) (f := f) (i := i) (by omega) hi2
    have cA := vAdd_is (by rw [fullF_len]; omega) hadd
    have hk : IntKind.u64.wrap (f + (i : Int)) = keyF f i := rfl
    clear hadd
    refine AW_skip ?_
    repeat (refine AW_seq ?_)
    refine AW_block ?_
    repeat (refine AW_seq ?_)
    refine reg ?_
    refine run 2 ?_
    refine fin [1, 5, 6, 7, 8, 24, 25] [] ?_
    repeat (refine AW_seq ?_)
    refine reg ?_
    refine run 2 ?_
    refine run 2 ?_
    refine run 1 ?_
    refine call (fun _ => cA) ?_
    refine run 2 ?_
    refine run 2 ?_
    refine run 2 ?_
    refine run 1 ?_
    refine fin [1, 5, 7, 8, 9, 10, 11, 24, 25] [] ?_
    repeat (refine AW_seq ?_)
    refine reg ?_
    refine run 2 ?_
    refine run 2 ?_
    refine run 2 ?_
    refine run 1 ?_
    refine fin [1, 5, 7, 9, 24, 25, 44] [] ?_
    repeat (refine AW_seq ?_)
    refine tstF ?_
    refine AW_skip ?_
    repeat (refine AW_seq ?_)
    refine reg ?_
    refine run 2 ?_
    refine finN ?_
    refine kp [1, 5, 6, 7, 24, 25] [] ?_
    repeat (refine AW_seq ?_)
    refine reg ?_
    refine run 2 ?_
    refine finN ?_
    exact ⟨i + 1, by omega, by omega, wk⟩
  · simp at h1
    obtain rfl : i = s := by omega
    refine AW_exit ?_
    repeat (refine AW_seq ?_)
    refine reg ?_
    refine run 2 ?_
    refine run 1 ?_
    refine call (fun _ => cM) ?_
    refine run 2 ?_
    refine run 2 ?_
    refine run 2 ?_
    refine run 1 ?_
    refine fin [5, 6, 7, 13, 14] [] ?_
    repeat (refine AW_seq ?_)
    refine reg ?_
    refine run 2 ?_
    refine run 2 ?_
    refine run 2 ?_
    refine run 2 ?_
    refine run 2 ?_
    refine run 2 ?_
    refine call (fun _ => cK) ?_
    refine run 2 ?_
    refine run 2 ?_
    refine run 1 ?_
    refine call (fun _ => awake_true) ?_
    refine run 2 ?_
    refine fin [4] [] ?_
    refine AW_ret (ret ?_)
    rfl

theorem vertsFull_all (n f : Int) (hn : 0 ≤ n ∧ n ≤ 255) (hf : 0 ≤ f ∧ f ≤ 18446744073709551615) : ACalls Try.prog 8 [.v (.int .u8 n), uPV f] (bPV true) := by
  obtain ⟨m, rfl⟩ : ∃ m : Nat, n = m := ⟨n.toNat, by omega⟩
  exact full_ih m _ f (by omega) rfl hf
end Go.Proofs.Ytaoiffinodfcfaa
