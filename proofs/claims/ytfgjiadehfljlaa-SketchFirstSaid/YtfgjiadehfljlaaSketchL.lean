/-
  The laws of layer sketch on plain data, first part: what is the same, the fixed answer.
  Conditions: numbers are those of their kinds.
-/
import Derived.Test.YtfgjiadehfljlaaSketchM
namespace Go.Proofs.Ytfgjiadehfljlaa
open Go Go.Ab
open Go.Proofs.Ytfgjiadehfljlaa.M
set_option linter.unusedVariables false
set_option linter.unusedSimpArgs false

/-- the sketch of these names -/
def skW (l : List Hs) (V : Nat) (ns : List Int) : Sk := ⟨l.length, V, wordsE l V ns⟩
theorem skW_is {l : List Hs} {V : Nat} (h : SizeOk l.length V) (ns : List Int) : IsSk (skW l V ns) := ⟨h, by simp only [skW, words_len, Int.natCast_mul]⟩
theorem new_ok {r v : Int} (h : SizeOk r v) : newE r v = .tup [skPV (emptySk r v), iPV 0] := if_pos h
theorem new_no {r v : Int} (h : ¬ SizeOk r v) : newE r v = .tup [skPV noSk, iPV 1] := if_neg h
theorem new_words {l : List Hs} {V : Nat} (h : SizeOk l.length V) : newE l.length V = .tup [skPV (skW l V []), iPV 0] := by
  rw [new_ok h, emptySk, skW, words_nil, ← Int.natCast_mul, Int.toNat_natCast]
theorem tog_words {l : List Hs} {V : Nat} (h : SizeOk l.length V) (ns : List Int) (n : Int) : togE (skW l V ns) l n = .tup [skPV (skW l V (ns ++ [n])), iPV 0] := by
  rw [togE, if_pos ⟨skW_is h ns, rfl⟩]
  simp only [skW, Int.toNat_natCast, words_tog]
theorem names_words {l : List Hs} {V : Nat} (h : SizeOk l.length V) (ns : List Int) : namesE (skW l V ns) = .sl ((nmE (wordsE l V ns)).map uPV) := by
  rw [namesE, if_pos (skW_is h ns)]; rfl

theorem sameL_any (a : Sk) (r v : Int) (ws : List Int) (hl : a.ws.length < 1099511627776) : ACalls Try.prog 12 [skPV a, iPV r, iPV v, .sl (ws.map uPV)] (bPV (decide (a.r = r ∧ a.v = v ∧ a.ws = ws))) := by
  refine ent Try.func12 ?_
  repeat (refine AW_seq ?_)
  refine reg ?_
  refine run 2 ?_
  refine fin [1, 2, 3, 4] [(5, 0)] ?_
  repeat (refine AW_seq ?_)
  refine reg ?_
  refine run 14 ?_
  refine call (fun _ => same'_any a.ws ws hl) ?_
  refine run 2 ?_
  refine fin [8] [] ?_
  refine AW_ret (ret ?_)
  by_cases h1 : a.r = r <;> by_cases h2 : a.v = v <;> by_cases h3 : a.ws = ws <;> simp [bPV, h1, h2, h3]

theorem smallL_any (a : Sk) : ACalls Try.prog 16 [skPV a] (bPV (decide (a.ws.length ≤ 600))) := by
  refine ent Try.func16 ?_
  repeat (refine AW_seq ?_)
  refine reg ?_
  refine run 2 ?_
  refine fin [1] [(2, 0)] ?_
  repeat (refine AW_seq ?_)
  refine reg ?_
  refine run 5 ?_
  refine fin [2] [] ?_
  refine AW_ret (ret ?_)
  simp [bPV]; omega


theorem aw1 : togW [⟨0, 288230376151711744⟩] 4 5 [0, 0, 0, 0] 4 = [5, 5, 5, 0] := by decide +kernel
theorem aw2 : mergeW [5, 5, 5, 0] [5, 5, 5, 0] 4 = [0, 0, 0, 0] := by decide +kernel

set_option maxHeartbeats 4000000 in
theorem awake_true  : ACalls Try.prog 8 [] (bPV true) := by
  refine ent Try.func8 ?_
  have hN : ACalls Try.prog 7 [iPV 1, iPV 4] (.tup [skPV ⟨1, 4, [0, 0, 0, 0]⟩, iPV 0]) := by have := new_any 1 4; rwa [newE, if_pos (by decide)] at this
  have hT : ACalls Try.prog 9 [skPV ⟨1, 4, [0, 0, 0, 0]⟩, .sl ([(⟨0, 288230376151711744⟩ : Hs)].map hsPV), uPV 5] (.tup [skPV ⟨1, 4, [5, 5, 5, 0]⟩, iPV 0]) := by
    have := toggle_any ⟨1, 4, [0, 0, 0, 0]⟩ [⟨0, 288230376151711744⟩] 5 (by simp) (by decide)
    rw [togE, if_pos (by decide), show (togW [⟨0, 288230376151711744⟩] (4 : Int).toNat 5 [0, 0, 0, 0] [(0 : Int), 0, 0, 0].length) = [5, 5, 5, 0] from aw1] at this
    exact this
  have hM : ACalls Try.prog 10 [skPV ⟨1, 4, [5, 5, 5, 0]⟩, skPV ⟨1, 4, [5, 5, 5, 0]⟩] (.tup [skPV ⟨1, 4, [0, 0, 0, 0]⟩, iPV 0]) := by
    have := merge_any ⟨1, 4, [5, 5, 5, 0]⟩ ⟨1, 4, [5, 5, 5, 0]⟩
    rw [mergeE, if_pos (by decide), show mergeW [5, 5, 5, 0] [5, 5, 5, 0] [(5 : Int), 5, 5, 0].length = [0, 0, 0, 0] from aw2] at this
    exact this
  have hE : ACalls Try.prog 9 [skPV ⟨1, 4, [5, 5, 5, 0]⟩, .sl [], uPV 5] (.tup [skPV ⟨1, 4, [5, 5, 5, 0]⟩, iPV 1]) := by
    have := toggle_any ⟨1, 4, [5, 5, 5, 0]⟩ [] 5 (by simp) (by decide)
    rw [togE, if_neg (by decide)] at this
    exact this
  have hA : ACalls Try.prog 15 [skPV ⟨1, 4, [5, 5, 5, 0]⟩] (.sl [uPV 5, uPV 5, uPV 5]) := by
    have := names_any ⟨1, 4, [5, 5, 5, 0]⟩ (by simp [U64])
    rw [namesE, if_pos (by decide), show nmE [5, 5, 5, 0] = [5, 5, 5] from by decide] at this
    exact this
  have hS1 : ACalls Try.prog 13 [.sl ([(5 : Int), 5, 5, 0].map uPV), .sl ([(5 : Int), 5, 5, 0].map uPV)] (bPV true) := same'_any [5, 5, 5, 0] [5, 5, 5, 0] (by decide)
  have hS2 : ACalls Try.prog 13 [.sl ([(0 : Int), 0, 0, 0].map uPV), .sl ([(0 : Int), 0, 0, 0].map uPV)] (bPV true) := same'_any [0, 0, 0, 0] [0, 0, 0, 0] (by decide)
  have hR : ACalls Try.prog 18 [skPV ⟨1, 4, [5, 5, 5, 0]⟩] (bPV true) := right_any ⟨1, 4, [5, 5, 5, 0]⟩
  repeat (refine AW_seq ?_)
  refine reg ?_
  refine run 1 ?_
  refine fin [] [] ?_
  repeat (refine AW_seq ?_)
  refine reg ?_
  refine call (fun _ => hN) ?_
  refine run 6 ?_
  refine fin [1, 2] [(2, 0)] ?_
  repeat (refine AW_seq ?_)
  refine reg ?_
  refine run 3 ?_
  refine call (fun _ => hT) ?_
  refine run 5 ?_
  refine fin [1, 2, 3] [(2, 0)] ?_
  repeat (refine AW_seq ?_)
  refine reg ?_
  refine run 2 ?_
  refine call (fun _ => hM) ?_
  refine run 6 ?_
  refine fin [1, 2, 3, 4, 5] [(2, 0), (5, 0)] ?_
  repeat (refine AW_seq ?_)
  refine reg ?_
  refine run 1 ?_
  refine call (fun _ => hE) ?_
  refine run 6 ?_
  refine fin [1, 2, 3, 4, 5, 7] [(2, 0), (5, 0)] ?_
  repeat (refine AW_seq ?_)
  refine reg ?_
  refine run 1 ?_
  refine call (fun _ => hA) ?_
  refine run 1 ?_
  refine fin [1, 2, 3, 4, 5, 7, 8] [(2, 0), (5, 0)] ?_
  repeat (refine AW_seq ?_)
  refine reg ?_
  refine run 10 ?_
  refine call (fun _ => hS1) ?_
  refine run 20 ?_
  refine call (fun _ => hS2) ?_
  refine run 7 ?_
  refine call (fun _ => hR) ?_
  refine run 2 ?_
  refine fin [0] [] ?_
  refine AW_ret (ret ?_)
  rfl

end Go.Proofs.Ytfgjiadehfljlaa