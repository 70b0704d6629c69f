/-
  Contracts of the layer seq on plain data: the things of a sequence.
  Conditions: not too many things.
-/
import Derived.Test.YtaoiffinodfcfaaDictS2
namespace Go.Proofs.Ytaoiffinodfcfaa
open Go Go.Ab
set_option linter.unusedVariables false
set_option linter.unusedSimpArgs false


theorem app_nil (l : List Pr) (hl : l.length < 1099511627776) : PCalls Try.prog 44 [.own, .d (sqPV .nil)] ⟨71, 2, (l).map pPV, true, [], none⟩ (l.map pPV) := by
  refine entP Try.func44 ?_
  repeat (refine AW_seq ?_)
  refine reg ?_
  refine run 1 ?_
  refine fin [0, 1] [(0, 1)] ?_
  repeat (refine AW_seq ?_)
  refine reg ?_
  refine run 2 ?_
  refine fin [0, 1, 6] [(0, 1)] ?_
  repeat (refine AW_seq ?_)
  refine tstT ?_
  repeat (refine AW_seq ?_)
  refine reg ?_
  refine run 2 ?_
  refine fin [4] [(0, 1)] ?_
  refine AW_ret (retP ?_)
  rfl

theorem app_node (l : List Pr) (a : Tr Pr) (x : Pr) (b : Tr Pr) (hl : l.length + a.list.length + 1 < 1099511627776) (h1 : PCalls Try.prog 44 [.own, .d (sqPV a)] ⟨71, 2, (l).map pPV, true, [], none⟩ ((l ++ a.list).map pPV)) (h2 : PCalls Try.prog 44 [.own, .d (sqPV b)] ⟨71, 2, (l ++ a.list ++ [x]).map pPV, true, [], none⟩ ((l ++ a.list ++ [x] ++ b.list).map pPV)) : PCalls Try.prog 44 [.own, .d (sqPV (.node a x b))] ⟨71, 2, (l).map pPV, true, [], none⟩ ((l ++ a.list ++ [x] ++ b.list).map pPV) := by
  refine entP Try.func44 ?_
  obtain ⟨l1, e1⟩ : ∃ l1, l ++ a.list = l1 := ⟨_, rfl⟩
  have hl1 : l1.length = l.length + a.list.length := by rw [← e1, List.length_append]
  rw [e1] at h1 h2 ⊢
  obtain ⟨l2, e2⟩ : ∃ l2, l1 ++ [x] = l2 := ⟨_, rfl⟩
  have m2 : l1.map pPV ++ [PV.agg [PV.v (.int .u64 x.1), PV.v (.int .i64 x.2)]] = l2.map pPV := by rw [← e2, List.map_append]; rfl
  have hl2 : l1.length + 1 = l2.length := by rw [← e2, List.length_append]; rfl
  rw [e2] at h2 ⊢
  clear e1
  repeat (refine AW_seq ?_)
  refine reg ?_
  refine run 1 ?_
  refine fin [0, 1] [(0, 1)] ?_
  repeat (refine AW_seq ?_)
  refine reg ?_
  refine run 2 ?_
  refine fin [0, 1, 6] [(0, 1)] ?_
  repeat (refine AW_seq ?_)
  refine tstF ?_
  refine AW_skip ?_
  repeat (refine AW_seq ?_)
  refine reg ?_
  refine run 2 ?_
  refine run 2 ?_
  refine run 1 ?_
  refine pcall (0, 1) (h1) ?_
  refine run 2 ?_
  refine run 2 ?_
  refine run 2 ?_
  refine run 1 ?_
  refine fin [0, 1] [(0, 1)] ?_
  repeat (refine AW_seq ?_)
  refine reg ?_
  refine run 2 ?_
  refine run 2 ?_
  refine run 1 ?_
  refine pcall (0, 1) (h2) ?_
  refine run 1 ?_
  refine fin [4] [(0, 1)] ?_
  refine AW_ret (retP ?_)
  rfl

theorem app_any : ∀ (t : Tr Pr) (l : List Pr), l.length + t.list.length < 1099511627776 → PCalls Try.prog 44 [.own, .d (sqPV t)] ⟨71, 2, l.map pPV, true, [], none⟩ ((l ++ t.list).map pPV)
  | .nil, l, hl => by
    have := app_nil l (by simp only [Tr.list, List.length_nil] at hl; omega)
    simpa [Tr.list] using this
  | .node a x b, l, hl => by
    have hl' : l.length + a.list.length + 1 + b.list.length < 1099511627776 := by simp only [Tr.list, List.length_append, List.length_cons] at hl; omega
    have h1 := app_any a l (by omega)
    have h2 := app_any b (l ++ a.list ++ [x]) (by simp only [List.length_append, List.length_cons, List.length_nil]; omega)
    have := app_node l a x b (by omega) h1 h2
    simpa [Tr.list] using this

theorem list_ih (t : Tr Pr) (ht : t.cnt < 1099511627776) (h : PCalls Try.prog 44 [.own, .d (sqPV t)] ⟨71, 2, [], true, [], none⟩ (t.list.map pPV)) : FCalls Try.prog 37 [sqPV t] ⟨71, 2, (t.list).map pPV, true, [], none⟩ := by
  refine entF Try.func37 ?_
  repeat (refine AW_seq ?_)
  refine reg ?_
  refine run 1 ?_
  refine fin [0] [] ?_
  repeat (refine AW_seq ?_)
  refine reg ?_
  refine run 1 ?_
  refine call (fun _ => len_any t) ?_
  refine run 2 ?_
  refine pcall (6, 0) (h) ?_
  refine run 1 ?_
  refine fin [2] [(6, 0)] ?_
  refine AW_ret (retF ?_)
  rfl

theorem list_any (t : Tr Pr) (ht : t.cnt < 1099511627776) : FCalls Try.prog 37 [sqPV t] ⟨71, 2, t.list.map pPV, true, [], none⟩ :=
  list_ih t ht (app_any t [] (by rw [Tr.list_len]; simpa using ht))

end Go.Proofs.Ytaoiffinodfcfaa