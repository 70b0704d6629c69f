/-
  The laws of layer seq on plain data.
  Conditions: numbers are those of their kinds.
-/
import Derived.Test.YtgmbkihpflchaaaSeqT
namespace Go.Proofs.Ytgmbkihpflchaaa
open Go Go.Ab
set_option linter.unusedVariables false
set_option linter.unusedSimpArgs false


theorem cut_mid (l : List Int) (A B : Nat) (h : A ≤ B) : (l.drop A).take (B - A) = (l.take B).drop A := by
  rw [List.drop_take]
theorem cut_min (l : List Int) (A B : Nat) : (l.take (min B l.length)).drop (min A l.length) = (l.take B).drop A := by
  refine List.ext_getElem? fun i => ?_
  simp only [List.getElem?_drop, List.getElem?_take]
  rcases Nat.lt_or_ge A l.length with h | h
  · rw [Nat.min_eq_left (Nat.le_of_lt h)]
    by_cases h2 : A + i < l.length
    · by_cases h3 : A + i < B
      · rw [if_pos (by omega), if_pos h3]
      · rw [if_neg (by omega), if_neg h3]
    · rw [List.getElem?_eq_none (by omega)]; simp
  · rw [Nat.min_eq_right h, List.getElem?_eq_none (l := l) (i := l.length + i) (by omega), List.getElem?_eq_none (l := l) (i := A + i) (by omega)]; simp

set_option maxHeartbeats 4000000 in
theorem seqCuts_any (l : List Int) (i k : Int) (hi : 0 ≤ i ∧ i ≤ 255) (hk : 0 ≤ k ∧ k ≤ 255) : ACalls Try.prog 4 [.sl (l.map iPV), .v (.int .u8 i), .v (.int .u8 k)] (bPV true) := by
  refine ent Try.func4 ?_
  have hwi : IntKind.i64.wrap i = i := wrap_i64 _ (by omega) (by omega)
  have hwk : IntKind.i64.wrap k = k := wrap_i64 _ (by omega) (by omega)
  repeat (refine AW_seq ?_)
  refine reg ?_
  refine run 1 ?_
  refine fin [0, 1, 2] [] ?_
  repeat (refine AW_seq ?_)
  refine reg ?_
  refine run 3 ?_
  refine fin [0, 1, 2, 18] [] ?_
  repeat (refine AW_seq ?_)
  refine tst (fun h1 => ?_) (fun h1 => ?_)
  · simp at h1
    repeat (refine AW_seq ?_)
    refine reg ?_
    refine call (fun _ => awake_true) ?_
    refine run 1 ?_
    refine fin [6] [] ?_
    refine AW_ret (ret ?_)
    rfl
  · simp at h1
    have hl : l.length ≤ 200 := by omega
    clear h1
    have ho := of_any l (by omega)
    have cs := Tr.ofL_cnt l
    have ls := Tr.ofL_list l
    obtain ⟨s, hs⟩ : ∃ s, Tr.ofL l = s := ⟨_, rfl⟩
    rw [hs] at ho cs ls
    clear hs
    obtain ⟨A, hA, hAe⟩ : ∃ A : Nat, (if k < i then k else i) = (A : Int) ∧ A = (min i k).toNat := ⟨(min i k).toNat, by split <;> omega, rfl⟩
    obtain ⟨B, hB, hBe⟩ : ∃ B : Nat, (if i < k then k else i) = (B : Int) ∧ B = (max i k).toNat := ⟨(max i k).toNat, by split <;> omega, rfl⟩
    have hAB : A ≤ B ∧ B ≤ 255 := by omega
    clear hAe hBe
    have hs1 := split_any s A (by omega)
    have hs3 := split_any s B (by omega)
    have l1 := (Tr.split_list s A).2
    have l3 := (Tr.split_list s B).1
    have c1 := Tr.split_cnt s A
    have c3 := Tr.split_cnt s B
    rw [splitPV] at hs1 hs3
    rw [ls] at l1 l3
    obtain ⟨p1, e1⟩ : ∃ p, (s.split A).1 = p := ⟨_, rfl⟩
    obtain ⟨x1, e2⟩ : ∃ p, (s.split A).2 = p := ⟨_, rfl⟩
    obtain ⟨y1, e3⟩ : ∃ p, (s.split B).1 = p := ⟨_, rfl⟩
    obtain ⟨q1, e4⟩ : ∃ p, (s.split B).2 = p := ⟨_, rfl⟩
    rw [e1, e2] at hs1 c1
    rw [e3, e4] at hs3 c3
    rw [e2] at l1
    rw [e3] at l3
    clear e1 e2 e3 e4
    have hs2 := split_any x1 ((B : Int) - A) (by omega)
    have hs4 := split_any y1 A (by omega)
    have l2 := (Tr.split_list x1 ((B : Int) - A)).1
    have l4 := (Tr.split_list y1 A).2
    have c2 := Tr.split_cnt x1 ((B : Int) - A)
    have c4 := Tr.split_cnt y1 A
    rw [splitPV] at hs2 hs4
    rw [l1] at l2
    rw [l3] at l4
    obtain ⟨x2, e1⟩ : ∃ p, (x1.split ((B : Int) - A)).1 = p := ⟨_, rfl⟩
    obtain ⟨p2, e2⟩ : ∃ p, (x1.split ((B : Int) - A)).2 = p := ⟨_, rfl⟩
    obtain ⟨q2, e3⟩ : ∃ p, (y1.split A).1 = p := ⟨_, rfl⟩
    obtain ⟨y2, e4⟩ : ∃ p, (y1.split A).2 = p := ⟨_, rfl⟩
    rw [e1, e2] at hs2 c2
    rw [e3, e4] at hs4 c4
    rw [e1] at l2
    rw [e4] at l4
    clear e1 e2 e3 e4
    rw [show ((B : Int) - A).toNat = B - A by omega, Int.toNat_natCast, cut_mid l A B hAB.1] at l2
    rw [Int.toNat_natCast, Int.toNat_natCast] at l4
    have hm := cut_min l A B
    obtain ⟨M, hM⟩ : ∃ M, (l.take B).drop A = M := ⟨_, rfl⟩
    rw [hM] at l2 l4 hm
    have hl1 := list_any x2 (by omega)
    have hl2 := list_any y2 (by omega)
    rw [l2] at hl1
    rw [l4] at hl2
    have hsm := same_any M (by rw [← hM, List.length_drop, List.length_take]; omega)
    have hh := ht_any x2
    obtain ⟨H, hH⟩ : ∃ H, x2.ht = H := ⟨_, rfl⟩
    rw [hH] at hh
    have hH0 : (0 : Int) ≤ (H : Int) := by omega
    obtain ⟨lo, hlo, hloe⟩ : ∃ lo : Nat, (if (l.length : Int) < (A : Int) then (l.length : Int) else (A : Int)) = (lo : Int) ∧ lo = min A l.length := ⟨min A l.length, by split <;> omega, rfl⟩
    obtain ⟨hi2, hhi, hhie⟩ : ∃ hi : Nat, (if (l.length : Int) < (B : Int) then (l.length : Int) else (B : Int)) = (hi : Int) ∧ hi = min B l.length := ⟨min B l.length, by split <;> omega, rfl⟩
    have hmm : ((l.map iPV).take hi2).drop lo = M.map iPV := by rw [hloe, hhie, ← hm, List.map_drop, List.map_take]
    have hb : lo ≤ hi2 ∧ hi2 ≤ l.length := by omega
    obtain ⟨hb1, hb2⟩ := hb
    obtain ⟨hAB1, hAB2⟩ := hAB
    clear l1 l2 l3 l4 c1 c2 c3 c4 hm hM hH hloe hhie cs ls hi hk
    refine AW_skip ?_
    repeat (refine AW_seq ?_)
    refine reg ?_
    refine run 12 ?_
    refine fin [0, 7, 8] [] ?_
    repeat (refine AW_seq ?_)
    refine reg ?_
    refine run 1 ?_
    refine call (fun _ => ho) ?_
    refine run 1 ?_
    refine fin [0, 7, 8, 9] [] ?_
    repeat (refine AW_seq ?_)
    refine reg ?_
    refine run 2 ?_
    refine call (fun _ => hs1) ?_
    refine run 5 ?_
    refine fin [0, 7, 8, 9, 11] [] ?_
    repeat (refine AW_seq ?_)
    refine reg ?_
    refine run 4 ?_
    refine call (fun _ => hs2) ?_
    refine run 4 ?_
    refine fin [0, 7, 8, 9, 11] [] ?_
    repeat (refine AW_seq ?_)
    refine reg ?_
    refine run 2 ?_
    refine call (fun _ => hs3) ?_
    refine run 5 ?_
    refine fin [0, 7, 8, 11, 12] [] ?_
    repeat (refine AW_seq ?_)
    refine reg ?_
    refine run 2 ?_
    refine call (fun _ => hs4) ?_
    refine run 4 ?_
    refine fin [0, 7, 8, 11, 12] [] ?_
    repeat (refine AW_seq ?_)
    refine reg ?_
    refine run 10 ?_
    refine fin [0, 11, 12, 14, 15] [] ?_
    repeat (refine AW_seq ?_)
    refine reg ?_
    refine run 1 ?_
    refine fcall (hl1) ?_
    refine run 4 ?_
    refine call (fun _ => hsm) ?_
    refine run 2 ?_
    refine fcallI (hl2) ?_
    refine run 4 ?_
    refine call (fun _ => hsm) ?_
    refine run 3 ?_
    refine call (fun _ => hh) ?_
    refine run 3 ?_
    refine call (fun _ => awake_true) ?_
    refine run 2 ?_
    refine fin [6] [] ?_
    refine AW_ret (ret ?_)
    rfl

end Go.Proofs.Ytgmbkihpflchaaa