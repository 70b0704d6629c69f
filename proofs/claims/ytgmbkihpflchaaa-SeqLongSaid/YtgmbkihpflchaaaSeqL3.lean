/-
  The law SeqLong on plain data.
  Conditions: numbers are those of their kinds.
-/
import Derived.Test.YtgmbkihpflchaaaSeqT
namespace Go.Proofs.Ytgmbkihpflchaaa
open Go Go.Ab
set_option linter.unusedVariables false
set_option linter.unusedSimpArgs false

/-- a sequence that grows, at the front or at the end -/
def growT (front : Bool) : Nat → Tr Int
  | 0 => .nil
  | i + 1 => if front = true then (Tr.ofL [(i : Int)]).join (growT front i) else (growT front i).join (Tr.ofL [(i : Int)])
theorem growT_cnt (front : Bool) : ∀ i, (growT front i).cnt = i
  | 0 => rfl
  | i + 1 => by
    have := growT_cnt front i
    rw [growT]; split <;> rw [Tr.join_cnt, Tr.ofL_cnt, this] <;> simp only [List.length_cons, List.length_nil] <;> omega
theorem ofL_one (x : Int) : Tr.ofL [x] = .node .nil x .nil := by
  rw [ofL_ne _ (by simp)]; simp [Tr.ofL_nil]
theorem growT_bal (front : Bool) : ∀ i, (growT front i).bal
  | 0 => trivial
  | i + 1 => by
    have h := growT_bal front i
    have h1 : (Tr.ofL [(i : Int)]).bal := by rw [ofL_one]; exact ⟨trivial, trivial, by simp [Tr.ht], by simp [Tr.ht]⟩
    rw [growT]; split
    · exact Tr.join_bal h1 h
    · exact Tr.join_bal h h1
theorem growT_first (front : Bool) : ∀ i, (growT front (i + 1)).list[0]? = some (if front = true then (i : Int) else 0)
  | 0 => by
    rw [growT]; split <;> simp [Tr.join_list, Tr.ofL_list, growT, Tr.list]
  | i + 1 => by
    have h := growT_first front i
    rw [growT]; split
    · simp [Tr.join_list, Tr.ofL_list]
    · rename_i hf
      rw [if_neg hf] at h
      rw [Tr.join_list, List.getElem?_append_left (List.getElem?_eq_some_iff.1 h).1, h]
theorem least_high (J : Nat) (h : J ≤ 9) : 2 ^ J ≤ Tr.least ((3 * J + 3) / 2) := by
  have : J = 0 ∨ J = 1 ∨ J = 2 ∨ J = 3 ∨ J = 4 ∨ J = 5 ∨ J = 6 ∨ J = 7 ∨ J = 8 ∨ J = 9 := by omega
  rcases this with rfl | rfl | rfl | rfl | rfl | rfl | rfl | rfl | rfl | rfl <;> simp [Tr.least]
theorem pow_wrap (j : Nat) (h : j ≤ 9) : IntKind.i64.wrap (2 ^ min j IntKind.i64.bits) = ((2 ^ j : Nat) : Int) := by
  have : ∀ j : Fin 10, IntKind.i64.wrap (2 ^ min j.val IntKind.i64.bits) = ((2 ^ j.val : Nat) : Int) := by decide +kernel
  exact this ⟨j, by omega⟩
theorem high_ok {t : Tr Int} {N J : Nat} (hb : t.bal) (hc : t.cnt = N) (hJ : J ≤ 9) (hN : N < 2 ^ J) : 2 * t.ht ≤ 3 * J + 1 := by
  rcases Nat.lt_or_ge (3 * J + 1) (2 * t.ht) with h | h
  · have h1 := Tr.least_le t hb
    have h2 := least_high J hJ
    have h3 := Tr.least_mono (show (3 * J + 3) / 2 ≤ t.ht by omega)
    omega
  · exact h

set_option maxHeartbeats 4000000 in
theorem seqLong_any (n : Int) (front : Bool) (hn1 : 0 ≤ n) (hn2 : n ≤ 65535) : ACalls Try.prog 5 [.v (.int .u16 n), bPV front] (bPV true) := by
  refine ent Try.func5 ?_
  obtain ⟨N, hN, hN4⟩ : ∃ N : Nat, n.tmod 400 = (N : Int) ∧ N < 400 := ⟨(n.tmod 400).toNat, by have := Int.tmod_nonneg 400 hn1; omega, by have := Int.tmod_lt_of_pos n (show (0 : Int) < 400 by omega); omega⟩
  have hNw : IntKind.i64.wrap (N : Int) = (N : Int) := wrap_i64 _ (by omega) (by omega)
  clear hn1 hn2
  have hg0 : growT front 0 = .nil := rfl
  repeat (refine AW_seq ?_)
  refine reg ?_
  refine run 1 ?_
  refine fin [0, 1] [] ?_
  repeat (refine AW_seq ?_)
  refine reg ?_
  refine run 4 ?_
  refine fin [1, 5] [] ?_
  repeat (refine AW_seq ?_)
  refine reg ?_
  refine run 1 ?_
  refine fin [1, 5, 6] [] ?_
  repeat (refine AW_seq ?_)
  refine reg ?_
  refine run 2 ?_
  refine fin [1, 5, 6, 14, 15] [] ?_
  repeat (refine AW_seq ?_)
  refine AW_block ?_
  refine AW_loops (ι := Nat) (fun i => ⟨lk [(1, .c (bPV front)), (5, .c (iPV N)), (6, .c (sqPV (growT front i))), (14, .c (iPV N)), (15, .c (iPV i))], lkM [], lkG [] 0⟩) (fun i => i ≤ N) (fun i => N - i) 0 (Nat.zero_le _) wk ?_
  rintro i hi
  repeat (refine AW_seq ?_)
  refine reg ?_
  refine run 1 ?_
  refine fin [1, 5, 6, 14, 15, 16] [] ?_
  repeat (refine AW_seq ?_)
  refine tst (fun h1 => ?_) (fun h1 => ?_)
  · simp at h1
    have ho := of_any [(i : Int)] (by simp)
    obtain ⟨o, hoe⟩ : ∃ o, Tr.ofL [(i : Int)] = o := ⟨_, rfl⟩
    have hoc : o.cnt = 1 := by rw [← hoe, Tr.ofL_cnt]; rfl
    rw [hoe] at ho
    have hgc := growT_cnt front i
    refine AW_skip ?_
    repeat (refine AW_seq ?_)
    refine AW_block ?_
    repeat (refine AW_seq ?_)
    refine reg ?_
    refine run 2 ?_
    refine fin [1, 5, 6, 7, 14, 15] [] ?_
    repeat (refine AW_seq ?_)
    refine reg ?_
    refine run 1 ?_
    refine fin [1, 5, 6, 7, 14, 15, 18] [] ?_
    repeat (refine AW_seq ?_)
    refine tst (fun h2 => ?_) (fun h2 => ?_)
    · skip
      have hj := join_any o (growT front i) (by omega)
      have hgs : growT front (i + 1) = o.join (growT front i) := by rw [growT, if_pos h2, hoe]
      clear hoe
      repeat (refine AW_seq ?_)
      refine reg ?_
      refine run 2 ?_
      refine call (fun _ => ho) ?_
      refine run 1 ?_
      refine call (fun _ => hj) ?_
      refine run 1 ?_
      refine finN ?_
      refine kp [1, 5, 6, 14, 15] [] ?_
      repeat (refine AW_seq ?_)
      refine reg ?_
      refine run 2 ?_
      refine finN ?_
      exact ⟨i + 1, by omega, by omega, wk⟩
    · skip
      have hj := join_any (growT front i) o (by omega)
      have hgs : growT front (i + 1) = (growT front i).join o := by rw [growT, if_neg (by rw [h2]; decide), hoe]
      clear hoe
      repeat (refine AW_seq ?_)
      refine reg ?_
      refine run 3 ?_
      refine call (fun _ => ho) ?_
      refine call (fun _ => hj) ?_
      refine run 1 ?_
      refine finN ?_
      refine kp [1, 5, 6, 14, 15] [] ?_
      repeat (refine AW_seq ?_)
      refine reg ?_
      refine run 2 ?_
      refine finN ?_
      exact ⟨i + 1, by omega, by omega, wk⟩
  · simp at h1
    obtain rfl : N = i := by omega
    refine AW_exit ?_
    repeat (refine AW_seq ?_)
    refine reg ?_
    refine run 1 ?_
    refine fin [1, 5, 6, 8] [] ?_
    repeat (refine AW_seq ?_)
    refine AW_block ?_
    refine AW_loops (ι := Nat) (fun j => ⟨lk [(1, .c (bPV front)), (5, .c (iPV N)), (6, .c (sqPV (growT front N))), (8, .c (iPV j))], lkM [], lkG [] 0⟩) (fun j => j ≤ 9 ∧ ∀ i, i < j → 2 ^ i ≤ N) (fun j => 9 - j) 0 ⟨Nat.zero_le _, fun i h => by omega⟩ wk ?_
    rintro j ⟨hj9, hjN⟩
    obtain ⟨hjN, -⟩ : Go.RowKit.Hid (∀ i, i < j → 2 ^ i ≤ N) ∧ True := ⟨hjN, trivial⟩
    rename_i hjN0
    clear hjN0
    have h2j : 2 ^ j ≤ 2 ^ 9 := Nat.pow_le_pow_right (by omega) hj9
    have hp := pow_wrap j hj9
    obtain ⟨hp, -⟩ : Go.RowKit.Hid (IntKind.i64.wrap (2 ^ min j IntKind.i64.bits) = ((2 ^ j : Nat) : Int)) ∧ True := ⟨hp, trivial⟩
    rename_i hp0
    clear hp0
    repeat (refine AW_seq ?_)
    refine reg ?_
    refine run 4 ?_
    refine fin [1, 5, 6, 8, 33] [] ?_
    repeat (refine AW_seq ?_)
    refine tst (fun h3 => ?_) (fun h3 => ?_)
    · simp at h3
      rw [hp.out] at h3
      replace h3 : 2 ^ j ≤ N := by omega
      have hj8 : j ≤ 8 := by
        rcases Nat.lt_or_ge j 9 with h | h
        · omega
        · obtain rfl : j = 9 := by omega
          omega
      clear h2j
      refine AW_skip ?_
      repeat (refine AW_seq ?_)
      refine AW_block ?_
      repeat (refine AW_seq ?_)
      refine reg ?_
      refine run 3 ?_
      refine finN ?_
      exact ⟨j + 1, by omega, ⟨by omega, fun i h => by
        rcases Nat.lt_or_ge i j with h4 | h4
        · exact hjN.out i h4
        · obtain rfl : i = j := by omega
          exact h3⟩, wk⟩
    · simp at h3
      rw [hp.out] at h3
      replace h3 : N < 2 ^ j := by omega
      have hH := high_ok (growT_bal front N) (growT_cnt front N) hj9 h3
      clear h2j hp hjN h3
      have hA := at_any (growT front N) 0 (by rw [growT_cnt]; omega) ⟨by omega, by omega⟩
      rw [getPV, Tr.get_list, if_pos (by omega)] at hA
      have hl := len_any (growT front N)
      rw [growT_cnt] at hl
      have hh := ht_any (growT front N)
      have hv : 0 < N → (growT front N).list[(0 : Int).toNat]? = some (if front = true then (N : Int) - 1 else 0) := fun h => by
        obtain ⟨m, rfl⟩ : ∃ m, N = m + 1 := ⟨N - 1, by omega⟩
        rw [show (0 : Int).toNat = 0 from rfl, growT_first]; simp
      obtain ⟨g, hg⟩ : ∃ g, (growT front N).list[(0 : Int).toNat]? = g := ⟨_, rfl⟩
      rw [hg] at hA hv
      obtain ⟨V, hV⟩ : ∃ V, g.getD 0 = V := ⟨_, rfl⟩
      obtain ⟨O, hO⟩ : ∃ O, g.isSome = O := ⟨_, rfl⟩
      rw [hV, hO] at hA
      obtain ⟨hv, -⟩ : Go.RowKit.Hid (0 < N → O = true ∧ V = if front = true then (N : Int) - 1 else 0) ∧ True := ⟨fun h => by rw [← hO, ← hV, hv h]; exact ⟨rfl, rfl⟩, trivial⟩
      rename_i hv0
      clear hv0 hg hV hO
      obtain ⟨H, hHe⟩ : ∃ H, (growT front N).ht = H := ⟨_, rfl⟩
      rw [hHe] at hh hH
      clear hHe
      obtain ⟨s, hs⟩ : ∃ s, growT front N = s := ⟨_, rfl⟩
      rw [hs] at hl hA hh ⊢
      refine AW_exit ?_
      repeat (refine AW_seq ?_)
      refine reg ?_
      refine run 1 ?_
      refine call (fun _ => hA) ?_
      refine run 5 ?_
      refine fin [1, 5, 6, 8, 9, 10] [] ?_
      repeat (refine AW_seq ?_)
      refine reg ?_
      refine run 10 ?_ (hp := by grind (splits := 40))
      refine run 10 ?_ (hp := by grind (splits := 40))
      refine run 3 ?_ (hp := by grind (splits := 40))
      refine fin [5, 6, 8, 63] [] ?_
      repeat (refine AW_seq ?_)
      refine tst (fun h4 => ?_) (fun h4 => ?_)
      · exfalso
        have h5 : 0 < N := by
          rcases Nat.eq_zero_or_pos N with h | h
          · subst h; simp at h4
          · exact h
        obtain ⟨k1, k2⟩ := hv h5
        subst k1; subst k2
        cases front <;> simp at h4
      · simp at h4
        clear h4
        have hH2 : 2 * (H : Int) ≤ 3 * (j : Int) + 1 := by omega
        refine AW_skip ?_
        repeat (refine AW_seq ?_)
        refine reg ?_
        refine run 1 ?_
        refine call (fun _ => hl) ?_
        refine run 1 ?_
        refine run 1 ?_
        refine run 1 ?_
        refine run 1 ?_
        refine call (fun _ => hh) ?_
        refine run 1 ?_
        refine run 1 ?_
        refine run 1 ?_
        refine run 1 ?_
        refine run 1 ?_
        refine run 1 ?_
        refine run 1 ?_
        refine call (fun _ => awake_true) ?_
        refine run 1 ?_
        refine run 1 ?_
        refine fin [4] [] ?_
        refine AW_ret (ret ?_)
        rfl

end Go.Proofs.Ytgmbkihpflchaaa