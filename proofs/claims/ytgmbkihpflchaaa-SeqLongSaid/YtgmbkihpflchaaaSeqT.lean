/-
  Contracts of the layer seq on plain data: the things of a sequence; two lists compared; the fixed answer.
  Conditions: not too many things.
-/
import Derived.Test.YtgmbkihpflchaaaSeqG
namespace Go.Proofs.Ytgmbkihpflchaaa
open Go Go.Ab
set_option linter.unusedVariables false
set_option linter.unusedSimpArgs false


theorem app_nil (l : List Int) (hl : l.length < 1099511627776) : PCalls Try.prog 17 [.own, .d (sqPV .nil)] ⟨3, 1, (l).map iPV, true, []⟩ (l.map iPV) := by
  refine entP Try.func17 ?_
  repeat (refine AW_seq ?_)
  refine reg ?_
  refine run 1 ?_
  refine fin [0, 1] [(0, 1)] ?_
  repeat (refine AW_seq ?_)
  refine reg ?_
  refine run 2 ?_
  refine fin [0, 1, 6] [(0, 1)] ?_
  repeat (refine AW_seq ?_)
  refine tstT ?_
  repeat (refine AW_seq ?_)
  refine reg ?_
  refine run 2 ?_
  refine fin [4] [(0, 1)] ?_
  refine AW_ret (retP ?_)
  rfl

theorem app_node (l : List Int) (a : Tr Int) (x : Int) (b : Tr Int) (hl : l.length + a.list.length + 1 < 1099511627776) (h1 : PCalls Try.prog 17 [.own, .d (sqPV a)] ⟨3, 1, (l).map iPV, true, []⟩ ((l ++ a.list).map iPV)) (h2 : PCalls Try.prog 17 [.own, .d (sqPV b)] ⟨3, 1, (l ++ a.list ++ [x]).map iPV, true, []⟩ ((l ++ a.list ++ [x] ++ b.list).map iPV)) : PCalls Try.prog 17 [.own, .d (sqPV (.node a x b))] ⟨3, 1, (l).map iPV, true, []⟩ ((l ++ a.list ++ [x] ++ b.list).map iPV) := by
  refine entP Try.func17 ?_
  obtain ⟨l1, e1⟩ : ∃ l1, l ++ a.list = l1 := ⟨_, rfl⟩
  have hl1 : l1.length = l.length + a.list.length := by rw [← e1, List.length_append]
  rw [e1] at h1 h2 ⊢
  obtain ⟨l2, e2⟩ : ∃ l2, l1 ++ [x] = l2 := ⟨_, rfl⟩
  have m2 : l1.map iPV ++ [PV.v (.int .i64 x)] = l2.map iPV := by rw [← e2, List.map_append]; rfl
  have hl2 : l1.length + 1 = l2.length := by rw [← e2, List.length_append]; rfl
  rw [e2] at h2 ⊢
  clear e1
  repeat (refine AW_seq ?_)
  refine reg ?_
  refine run 1 ?_
  refine fin [0, 1] [(0, 1)] ?_
  repeat (refine AW_seq ?_)
  refine reg ?_
  refine run 2 ?_
  refine fin [0, 1, 6] [(0, 1)] ?_
  repeat (refine AW_seq ?_)
  refine tstF ?_
  refine AW_skip ?_
  repeat (refine AW_seq ?_)
  refine reg ?_
  refine run 5 ?_
  refine pcall (0, 1) (h1) ?_
  refine run 7 ?_
  refine fin [0, 1] [(0, 1)] ?_
  repeat (refine AW_seq ?_)
  refine reg ?_
  refine run 5 ?_
  refine pcall (0, 1) (h2) ?_
  refine run 1 ?_
  refine fin [4] [(0, 1)] ?_
  refine AW_ret (retP ?_)
  rfl

theorem app_any : ∀ (t : Tr Int) (l : List Int), l.length + t.list.length < 1099511627776 → PCalls Try.prog 17 [.own, .d (sqPV t)] ⟨3, 1, l.map iPV, true, []⟩ ((l ++ t.list).map iPV)
  | .nil, l, hl => by
    have := app_nil l (by simp only [Tr.list, List.length_nil] at hl; omega)
    simpa [Tr.list] using this
  | .node a x b, l, hl => by
    have hl' : l.length + a.list.length + 1 + b.list.length < 1099511627776 := by simp only [Tr.list, List.length_append, List.length_cons] at hl; omega
    have h1 := app_any a l (by omega)
    have h2 := app_any b (l ++ a.list ++ [x]) (by simp only [List.length_append, List.length_cons, List.length_nil]; omega)
    have := app_node l a x b (by omega) h1 h2
    simpa [Tr.list] using this

theorem list_ih (t : Tr Int) (ht : t.cnt < 1099511627776) (h : PCalls Try.prog 17 [.own, .d (sqPV t)] ⟨3, 1, [], true, []⟩ (t.list.map iPV)) : FCalls Try.prog 11 [sqPV t] ⟨3, 1, (t.list).map iPV, true, []⟩ := by
  refine entF Try.func11 ?_
  repeat (refine AW_seq ?_)
  refine reg ?_
  refine run 1 ?_
  refine fin [0] [] ?_
  repeat (refine AW_seq ?_)
  refine reg ?_
  refine run 1 ?_
  refine call (fun _ => len_any t) ?_
  refine run 2 ?_
  refine pcall (6, 0) (h) ?_
  refine run 1 ?_
  refine fin [2] [(6, 0)] ?_
  refine AW_ret (retF ?_)
  rfl

theorem list_any (t : Tr Int) (ht : t.cnt < 1099511627776) : FCalls Try.prog 11 [sqPV t] ⟨3, 1, t.list.map iPV, true, []⟩ :=
  list_ih t ht (app_any t [] (by rw [Tr.list_len]; simpa using ht))

theorem same_any (l : List Int) (hl : l.length < 1099511627776) : ACalls Try.prog 10 [.sl (l.map iPV), .sl (l.map iPV)] (bPV true) := by
  refine ent Try.func10 ?_
  repeat (refine AW_seq ?_)
  refine reg ?_
  refine run 1 ?_
  refine fin [0, 1] [] ?_
  repeat (refine AW_seq ?_)
  refine reg ?_
  refine run 5 ?_
  refine fin [0, 1, 10] [] ?_
  repeat (refine AW_seq ?_)
  refine tstF ?_
  refine AW_skip ?_
  repeat (refine AW_seq ?_)
  refine reg ?_
  refine run 1 ?_
  refine fin [0, 1, 5] [] ?_
  repeat (refine AW_seq ?_)
  refine AW_block ?_
  refine AW_loops (ι := Nat) (fun i => ⟨lk [(0, .c (.sl (l.map iPV))), (1, .c (.sl (l.map iPV))), (5, .c (iPV i))], lkM [], lkG [] 0⟩) (fun i => i ≤ l.length) (fun i => l.length - i) 0 (Nat.zero_le _) wk ?_
  rintro i hi
  repeat (refine AW_seq ?_)
  refine reg ?_
  refine run 4 ?_
  refine fin [0, 1, 5, 14] [] ?_
  repeat (refine AW_seq ?_)
  refine tst (fun h2 => ?_) (fun h2 => ?_)
  · simp at h2
    refine AW_skip ?_
    repeat (refine AW_seq ?_)
    refine AW_block ?_
    repeat (refine AW_seq ?_)
    refine reg ?_
    refine run 9 ?_
    refine fin [0, 1, 5, 25] [] ?_
    repeat (refine AW_seq ?_)
    refine tstF ?_
    refine AW_skip ?_
    repeat (refine AW_seq ?_)
    refine reg ?_
    refine run 3 ?_
    refine finN ?_
    exact ⟨i + 1, by omega, by omega, wk⟩
  · simp at h2
    refine AW_exit ?_
    repeat (refine AW_seq ?_)
    refine reg ?_
    refine run 1 ?_
    refine fin [4] [] ?_
    refine AW_ret (ret ?_)
    rfl

theorem awake_true  : ACalls Try.prog 6 [] (bPV true) := by
  refine ent Try.func6 ?_
  have hs := split_any (Tr.ofL [3, 1, 2]) 1 (by rw [Tr.ofL_cnt]; decide)
  have h2 := at_any (Tr.ofL [3, 1, 2]) 2 (by rw [Tr.ofL_cnt]; decide) (by decide)
  have h3 := at_any (Tr.ofL [3, 1, 2]) 3 (by rw [Tr.ofL_cnt]; decide) (by decide)
  have ho := of_any [3, 1, 2] (by decide)
  have hh := ht_any (Tr.ofL [3, 1, 2])
  have hn := len_any (Tr.ofL [3, 1, 2])
  rw [Tr.ofL_cnt] at hn
  have hht : (Tr.ofL ([3, 1, 2] : List Int)).ht = 2 := by decide +kernel
  rw [hht] at hh
  rw [getPV, Tr.get_list, Tr.ofL_list] at h2 h3
  have hsp := Tr.split_list (Tr.ofL ([3, 1, 2] : List Int)) 1
  have hsc := Tr.split_cnt (Tr.ofL ([3, 1, 2] : List Int)) 1
  rw [splitPV] at hs
  rw [Tr.ofL_list] at hsp
  rw [Tr.ofL_cnt] at hsc
  obtain ⟨s, hse⟩ : ∃ s, Tr.ofL ([3, 1, 2] : List Int) = s := ⟨_, rfl⟩
  rw [hse] at hs h2 h3 ho hh hn hsp hsc
  obtain ⟨a, ha⟩ : ∃ a, (s.split 1).1 = a := ⟨_, rfl⟩
  obtain ⟨b, hb⟩ : ∃ b, (s.split 1).2 = b := ⟨_, rfl⟩
  rw [ha, hb] at hs hsc
  rw [ha] at hsp
  rw [hb] at hsp
  have hla := list_any a (by simp at hsc; omega)
  rw [hsp.1] at hla
  have hj := join_any b a (by simp at hsc; omega)
  have hlj := list_any (b.join a) (by rw [Tr.join_cnt]; simp at hsc; omega)
  rw [Tr.join_list, hsp.1, hsp.2] at hlj
  obtain ⟨j, hj2⟩ : ∃ j, b.join a = j := ⟨_, rfl⟩
  rw [hj2] at hj hlj
  have hm1 := same_any [3] (by decide)
  have hm2 := same_any [1, 2, 3] (by decide)
  replace hn : ACalls Try.prog 12 [sqPV s] (iPV 3) := hn
  replace hh : ACalls Try.prog 14 [sqPV s] (iPV 2) := hh
  replace h2 : ACalls Try.prog 9 [sqPV s, iPV 2] (.tup [iPV 2, bPV true]) := h2
  replace h3 : ACalls Try.prog 9 [sqPV s, iPV 3] (.tup [iPV 0, bPV false]) := h3
  replace hla : FCalls Try.prog 11 [sqPV a] ⟨3, 1, ([3] : List Int).map iPV, true, []⟩ := hla
  replace hlj : FCalls Try.prog 11 [sqPV j] ⟨3, 1, ([1, 2, 3] : List Int).map iPV, true, []⟩ := hlj
  clear hsp hsc hht hse ha hb hj2
  repeat (refine AW_seq ?_)
  refine reg ?_
  refine run 1 ?_
  refine fin [] [] ?_
  repeat (refine AW_seq ?_)
  refine reg ?_
  refine run 1 ?_
  refine call (fun _ => ho) ?_
  refine run 1 ?_
  refine fin [1] [] ?_
  repeat (refine AW_seq ?_)
  refine reg ?_
  refine run 1 ?_
  refine call (fun _ => hs) ?_
  refine run 5 ?_
  refine fin [1, 2, 3] [] ?_
  repeat (refine AW_seq ?_)
  refine reg ?_
  refine run 1 ?_
  refine call (fun _ => h2) ?_
  refine run 5 ?_
  refine fin [1, 2, 3, 4, 5] [] ?_
  repeat (refine AW_seq ?_)
  refine reg ?_
  refine run 1 ?_
  refine call (fun _ => h3) ?_
  refine run 5 ?_
  refine fin [1, 2, 3, 4, 5, 7] [] ?_
  repeat (refine AW_seq ?_)
  refine reg ?_
  refine run 1 ?_
  refine fcall (hla) ?_
  refine run 1 ?_
  refine call (fun _ => hm1) ?_
  refine run 3 ?_
  refine call (fun _ => hj) ?_
  refine fcallI (hlj) ?_
  refine run 1 ?_
  refine call (fun _ => hm2) ?_
  refine run 14 ?_
  refine call (fun _ => hn) ?_
  refine run 4 ?_
  refine call (fun _ => hh) ?_
  refine run 3 ?_
  refine fin [0] [] ?_
  refine AW_ret (ret ?_)
  rfl

end Go.Proofs.Ytgmbkihpflchaaa