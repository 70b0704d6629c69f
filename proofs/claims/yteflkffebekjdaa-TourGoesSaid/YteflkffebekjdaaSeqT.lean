/-
  Contracts of the layer seq on plain data: the things of a sequence; two lists compared; the fixed answer.
  Conditions: not too many things.
-/
import Derived.Test.YteflkffebekjdaaSeqG
namespace Go.Proofs.Yteflkffebekjdaa
open Go Go.Ab
set_option linter.unusedVariables false
set_option linter.unusedSimpArgs false


theorem app_nil (l : List Int) (hl : l.length < 1099511627776) : PCalls Try.prog 41 [.own, .d (sqPV .nil)] ⟨3, 1, (l).map iPV, true, [], none⟩ (l.map iPV) := by
  refine entP Try.func41 ?_
  repeat (refine AW_seq ?_)
  refine reg ?_
  refine run 1 ?_
  refine fin [0, 1] [(0, 1)] ?_
  repeat (refine AW_seq ?_)
  refine reg ?_
  refine run 2 ?_
  refine fin [0, 1, 6] [(0, 1)] ?_
  repeat (refine AW_seq ?_)
  refine tstT ?_
  repeat (refine AW_seq ?_)
  refine reg ?_
  refine run 2 ?_
  refine fin [4] [(0, 1)] ?_
  refine AW_ret (retP ?_)
  rfl

theorem app_node (l : List Int) (a : Tr Int) (x : Int) (b : Tr Int) (hl : l.length + a.list.length + 1 < 1099511627776) (h1 : PCalls Try.prog 41 [.own, .d (sqPV a)] ⟨3, 1, (l).map iPV, true, [], none⟩ ((l ++ a.list).map iPV)) (h2 : PCalls Try.prog 41 [.own, .d (sqPV b)] ⟨3, 1, (l ++ a.list ++ [x]).map iPV, true, [], none⟩ ((l ++ a.list ++ [x] ++ b.list).map iPV)) : PCalls Try.prog 41 [.own, .d (sqPV (.node a x b))] ⟨3, 1, (l).map iPV, true, [], none⟩ ((l ++ a.list ++ [x] ++ b.list).map iPV) := by
  refine entP Try.func41 ?_
  obtain ⟨l1, e1⟩ : ∃ l1, l ++ a.list = l1 := ⟨_, rfl⟩
  have hl1 : l1.length = l.length + a.list.length := by rw [← e1, List.length_append]
  rw [e1] at h1 h2 ⊢
  obtain ⟨l2, e2⟩ : ∃ l2, l1 ++ [x] = l2 := ⟨_, rfl⟩
  have m2 : l1.map iPV ++ [PV.v (.int .i64 x)] = l2.map iPV := by rw [← e2, List.map_append]; rfl
  have hl2 : l1.length + 1 = l2.length := by rw [← e2, List.length_append]; rfl
  rw [e2] at h2 ⊢
  clear e1
  repeat (refine AW_seq ?_)
  refine reg ?_
  refine run 1 ?_
  refine fin [0, 1] [(0, 1)] ?_
  repeat (refine AW_seq ?_)
  refine reg ?_
  refine run 2 ?_
  refine fin [0, 1, 6] [(0, 1)] ?_
  repeat (refine AW_seq ?_)
  refine tstF ?_
  refine AW_skip ?_
  repeat (refine AW_seq ?_)
  refine reg ?_
  refine run 2 ?_
  refine run 2 ?_
  refine run 1 ?_
  refine pcall (0, 1) (h1) ?_
  refine run 2 ?_
  refine run 2 ?_
  refine run 2 ?_
  refine run 1 ?_
  refine fin [0, 1] [(0, 1)] ?_
  repeat (refine AW_seq ?_)
  refine reg ?_
  refine run 2 ?_
  refine run 2 ?_
  refine run 1 ?_
  refine pcall (0, 1) (h2) ?_
  refine run 1 ?_
  refine fin [4] [(0, 1)] ?_
  refine AW_ret (retP ?_)
  rfl

theorem app_any : ∀ (t : Tr Int) (l : List Int), l.length + t.list.length < 1099511627776 → PCalls Try.prog 41 [.own, .d (sqPV t)] ⟨3, 1, l.map iPV, true, [], none⟩ ((l ++ t.list).map iPV)
  | .nil, l, hl => by
    have := app_nil l (by simp only [Tr.list, List.length_nil] at hl; omega)
    simpa [Tr.list] using this
  | .node a x b, l, hl => by
    have hl' : l.length + a.list.length + 1 + b.list.length < 1099511627776 := by simp only [Tr.list, List.length_append, List.length_cons] at hl; omega
    have h1 := app_any a l (by omega)
    have h2 := app_any b (l ++ a.list ++ [x]) (by simp only [List.length_append, List.length_cons, List.length_nil]; omega)
    have := app_node l a x b (by omega) h1 h2
    simpa [Tr.list] using this

theorem list_ih (t : Tr Int) (ht : t.cnt < 1099511627776) (h : PCalls Try.prog 41 [.own, .d (sqPV t)] ⟨3, 1, [], true, [], none⟩ (t.list.map iPV)) : FCalls Try.prog 21 [sqPV t] ⟨3, 1, (t.list).map iPV, true, [], none⟩ := by
  refine entF Try.func21 ?_
  repeat (refine AW_seq ?_)
  refine reg ?_
  refine run 1 ?_
  refine fin [0] [] ?_
  repeat (refine AW_seq ?_)
  refine reg ?_
  refine run 1 ?_
  refine call (fun _ => len_any t) ?_
  refine run 2 ?_
  refine pcall (6, 0) (h) ?_
  refine run 1 ?_
  refine fin [2] [(6, 0)] ?_
  refine AW_ret (retF ?_)
  rfl

theorem list_any (t : Tr Int) (ht : t.cnt < 1099511627776) : FCalls Try.prog 21 [sqPV t] ⟨3, 1, t.list.map iPV, true, [], none⟩ :=
  list_ih t ht (app_any t [] (by rw [Tr.list_len]; simpa using ht))

theorem same_any (l : List Int) (hl : l.length < 1099511627776) : ACalls Try.prog 11 [.sl (l.map iPV), .sl (l.map iPV)] (bPV true) := by
  refine ent Try.func11 ?_
  repeat (refine AW_seq ?_)
  refine reg ?_
  refine run 1 ?_
  refine fin [0, 1] [] ?_
  repeat (refine AW_seq ?_)
  refine reg ?_
  refine run 2 ?_
  refine run 2 ?_
  refine run 1 ?_
  refine fin [0, 1, 10] [] ?_
  repeat (refine AW_seq ?_)
  refine tstF ?_
  refine AW_skip ?_
  repeat (refine AW_seq ?_)
  refine reg ?_
  refine run 1 ?_
  refine fin [0, 1, 5] [] ?_
  repeat (refine AW_seq ?_)
  refine AW_block ?_
  refine AW_loops (ι := Nat) (fun i => ⟨lk [(0, .c (.sl (l.map iPV))), (1, .c (.sl (l.map iPV))), (5, .c (iPV i))], lkM [], lkG [] 0⟩) (fun i => i ≤ l.length) (fun i => l.length - i) 0 (Nat.zero_le _) wk ?_
  rintro i hi
  repeat (refine AW_seq ?_)
  refine reg ?_
  refine run 2 ?_
  refine run 2 ?_
  refine fin [0, 1, 5, 14] [] ?_
  repeat (refine AW_seq ?_)
  refine tst (fun h2 => ?_) (fun h2 => ?_)
  · simp at h2
    refine AW_skip ?_
    repeat (refine AW_seq ?_)
    refine AW_block ?_
    repeat (refine AW_seq ?_)
    refine reg ?_
    refine run 2 ?_
    refine run 2 ?_
    refine run 2 ?_
    refine run 2 ?_
    refine run 1 ?_
    refine fin [0, 1, 5, 25] [] ?_
    repeat (refine AW_seq ?_)
    refine tstF ?_
    refine AW_skip ?_
    repeat (refine AW_seq ?_)
    refine reg ?_
    refine run 2 ?_
    refine run 1 ?_
    refine finN ?_
    exact ⟨i + 1, by omega, by omega, wk⟩
  · simp at h2
    refine AW_exit ?_
    repeat (refine AW_seq ?_)
    refine reg ?_
    refine run 1 ?_
    refine fin [4] [] ?_
    refine AW_ret (ret ?_)
    rfl

end Go.Proofs.Yteflkffebekjdaa