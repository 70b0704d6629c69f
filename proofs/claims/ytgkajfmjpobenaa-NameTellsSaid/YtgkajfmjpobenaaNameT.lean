/-
  Contracts of the layer name: sorting few edges, finding an edge; the laws' fixed answer.
  Conditions: fewer than 20 edges where they are sorted; fewer than 2^40 where one is found.
-/
import Derived.Test.YtgkajfmjpobenaaNameS
namespace Go.Proofs.Ytgkajfmjpobenaa
open Go Go.Ab
set_option linter.unusedVariables false
set_option linter.unusedSimpArgs false

theorem stab_few (l : List Ed) (hl : l.length < 20) : WCalls Try.prog 21 [.own, .d (iPV l.length), .d (.v (.func (.func 20) #[] #[]))] ⟨24, 3, l.map edPV, true⟩ (.tup []) ((isortL l 0 l.length).map edPV) := by
  refine entW Try.func21 ?_ (hlen := by simp [isortL_len])
  repeat (refine AW_seq ?_)
  refine reg ?_
  refine run 1 ?_
  refine fin [0, 1, 2, 6] [(0, 0)] ?_
  repeat (refine AW_seq ?_)
  refine reg ?_
  refine run 3 ?_
  refine fin [0, 1, 2, 6, 7, 8] [(0, 0)] ?_
  repeat (refine AW_seq ?_)
  refine AW_block ?_
  refine AW_loops (ι := Unit) (fun _ => ⟨lk [(0, .own (0, 0) l.length), (1, .c (iPV l.length)), (2, fnV 20), (6, .c (iPV 20)), (7, .c (iPV 0)), (8, .c (iPV 20))], lkM [((0, 0), some ⟨24, 3, l.map edPV, true⟩)], lkG [] 1⟩) (fun _ => True) (fun _ => 0) () trivial wk ?_
  rintro ⟨⟩ -
  repeat (refine AW_seq ?_)
  refine reg ?_
  refine run 3 ?_
  refine fin [0, 1, 2, 6, 7, 8, 13] [(0, 0)] ?_
  repeat (refine AW_seq ?_)
  refine tst (fun h1 => ?_) (fun h1 => ?_)
  · simp at h1; omega
  · refine AW_exit ?_
    repeat (refine AW_seq ?_)
    refine reg ?_
    refine run 4 ?_
    refine wcall (0, 0) (isort_any l 0 l.length (Nat.zero_le _) (Nat.le_refl _) (by omega)) ?_
    refine fin [0, 1, 2, 6] [(0, 0)] ?_
    repeat (refine AW_seq ?_)
    refine AW_block ?_
    refine AW_loops (ι := Unit) (fun _ => ⟨lk [(0, .own (0, 0) l.length), (1, .c (iPV l.length)), (2, fnV 20), (6, .c (iPV 20))], lkM [((0, 0), some ⟨24, 3, (isortL l 0 l.length).map edPV, true⟩)], lkG [] 1⟩) (fun _ => True) (fun _ => 0) () trivial wk ?_
    rintro ⟨⟩ -
    repeat (refine AW_seq ?_)
    refine reg ?_
    refine run 3 ?_
    refine fin [0, 1, 2, 6, 30] [(0, 0)] ?_
    repeat (refine AW_seq ?_)
    refine tst (fun h2 => ?_) (fun h2 => ?_)
    · simp at h2; omega
    · refine AW_exit ?_
      refine retWN ?_
      rfl

theorem sortS_few (l : List Ed) (hl : l.length < 20) : WCalls Try.prog 19 [.own, .d (.v (.func (.func 20) #[] #[]))] ⟨24, 3, l.map edPV, true⟩ (.tup []) ((isortL l 0 l.length).map edPV) := by
  refine entW Try.func19 ?_ (hlen := by simp [isortL_len])
  repeat (refine AW_seq ?_)
  refine reg ?_
  refine run 4 ?_
  refine wcall (0, 0) (stab_few l hl) ?_
  refine finN ?_
  refine retWN ?_
  rfl

theorem clone_any (l : List Ed) (h0 : l ≠ []) (hl : l.length < 1099511627776) : FCalls Try.prog 18 [edsPV l] ⟨24, 3, l.map edPV, true⟩ := by
  refine entF Try.func18 ?_
  repeat (refine AW_seq ?_)
  refine reg ?_
  refine run 1 ?_
  refine fin [0] [] ?_
  repeat (refine AW_seq ?_)
  refine reg ?_
  refine run 2 ?_
  refine fin [0, 4] [] ?_
  repeat (refine AW_seq ?_)
  refine tstF ?_
  refine AW_skip ?_
  repeat (refine AW_seq ?_)
  refine reg ?_
  refine run 4 ?_
  refine fin [2] [(6, 0)] ?_
  refine AW_ret (retF ?_)
  rfl
theorem sort_few (l : List Ed) (h0 : l ≠ []) (hl : l.length < 20) : ACalls Try.prog 14 [edsPV l] (edsPV (isortL l 0 l.length)) := by
  have hs := sortS_few l hl
  have hn := isortL_len l 0 l.length
  refine ent Try.func14 ?_
  repeat (refine AW_seq ?_)
  refine reg ?_
  refine run 1 ?_
  refine fin [0] [] ?_
  repeat (refine AW_seq ?_)
  refine reg ?_
  refine run 1 ?_
  refine fcall (clone_any l h0 (by omega)) ?_
  refine run 1 ?_
  refine fin [3] [(6, 0)] ?_
  repeat (refine AW_seq ?_)
  refine reg ?_
  refine run 1 ?_
  refine wcall (6, 0) hs ?_
  refine fin [3] [(6, 0)] ?_
  repeat (refine AW_seq ?_)
  refine reg ?_
  refine run 2 ?_
  refine fin [2] [(6, 0)] ?_
  refine AW_ret (ret ?_)
  rfl
end Go.Proofs.Ytgkajfmjpobenaa
