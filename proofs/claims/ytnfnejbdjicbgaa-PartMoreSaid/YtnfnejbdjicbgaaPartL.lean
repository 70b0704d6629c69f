/-
  The laws of joins, and of vertices alone and all connected, on plain data.
  Conditions: none.
-/
import Derived.Test.YtnfnejbdjicbgaaPartA
namespace Go.Proofs.Ytnfnejbdjicbgaa
open Go Go.Ab
set_option linter.unusedVariables false
set_option linter.unusedSimpArgs false

theorem joinR_comm (p : List Int) (u v : Int) : joinR p u v = joinR p v u := by
  unfold joinR InP
  rw [Int.min_comm, Int.max_comm]
  by_cases h : IsR p ∧ 0 ≤ u ∧ u < p.length ∧ 0 ≤ v ∧ v < p.length
  · rw [if_pos h, if_pos ⟨h.1, h.2.2.2.1, h.2.2.2.2, h.2.1, h.2.2.1⟩]
  · rw [if_neg h, if_neg fun g => h ⟨g.1, g.2.2.2.1, g.2.2.2.2, g.2.1, g.2.2.1⟩]
theorem joinR_is {p : List Int} {u v : Int} (h : IsR p) (hi : InP p u v) : IsP p.length (edgesOf p ++ [⟨u, v, 0⟩]) (joinR p u v) := h.isP.join (edgesOf_may h) hi
theorem joinR_out {p : List Int} {u v : Int} (hi : ¬ InP p u v) : joinR p u v = p := if_neg fun g => hi g.2
theorem joinR_right {p : List Int} (u v : Int) (h : IsR p) : IsR (joinR p u v) := by
  by_cases hi : InP p u v
  · exact (joinR_is h hi).right
  · rw [joinR_out hi]; exact h
theorem refP_of {n : Nat} {l m : List Ed} {P Q : List Int} (hP : IsP n l P) (hQ : IsP n m Q) (h : ∀ f, Resp m f → Resp l f) : RefP P Q :=
  ⟨by rw [hP.len, hQ.len], hP.right, hQ.right, fun i hi => by
    have := hP.con i (by rw [← hP.len]; exact hi) (at0 Q) (h _ hQ.edg)
    rw [at0_nat] at this; exact this⟩
theorem joinR_ref {p : List Int} (u v : Int) (h : IsR p) : RefP p (joinR p u v) := by
  by_cases hi : InP p u v
  · exact refP_of h.isP (joinR_is h hi) fun f hf => (Resp.app.1 hf).1
  · rw [joinR_out hi]; exact refP_of h.isP h.isP fun f hf => hf
theorem joinR_join {p : List Int} {u v w : Int} (h : IsR p) (hi : InP p u v) (hj : InP p v w) : joinR (joinR p u v) v w = joinR (joinR p v w) u v := by
  have l1 : InP (joinR p u v) v w := by unfold InP at *; rw [joinR_len]; exact hj
  have l2 : InP (joinR p v w) u v := by unfold InP at *; rw [joinR_len]; exact hi
  have m1 : ∀ {u v : Int}, InP p u v → MayE p.length (edgesOf p ++ [⟨u, v, 0⟩]) := fun {u v} hi e he => by
    rcases List.mem_append.1 he with he | he
    · exact edgesOf_may h e he
    · rw [List.mem_singleton] at he; subst he; exact hi
  have a1 := (joinR_is h hi).join (m1 hi) (u := v) (v := w) (t := 0) hj
  have a2 := (joinR_is h hj).join (m1 hj) (u := u) (v := v) (t := 0) hi
  refine a1.uniq (a2.congr fun f => ?_)
  rw [Resp.app, Resp.app, Resp.app, Resp.app]
  exact ⟨fun ⟨⟨g1, g2⟩, g3⟩ => ⟨⟨g1, g3⟩, g2⟩, fun ⟨⟨g1, g2⟩, g3⟩ => ⟨⟨g1, g3⟩, g2⟩⟩
theorem joinR_idem {p : List Int} (u v : Int) (h : IsR p) : joinR (joinR p u v) u v = joinR p u v := by
  by_cases hi : InP p u v
  · have m1 : MayE p.length (edgesOf p ++ [⟨u, v, 0⟩]) := fun e he => by
      rcases List.mem_append.1 he with he | he
      · exact edgesOf_may h e he
      · rw [List.mem_singleton] at he; subst he; exact hi
    have a0 := joinR_is h hi
    have a1 := a0.join m1 (u := u) (v := v) (t := 0) hi
    refine a1.uniq (a0.congr fun f => ?_)
    exact ⟨fun g => Resp.app.2 ⟨g, (Resp.app.1 g).2⟩, fun g => (Resp.app.1 g).1⟩
  · rw [joinR_out hi, joinR_out hi]
theorem and_true4 {a b c : Bool} (ha : a = true) (hb : b = true) (hc : c = true) : (a && b && c) = true := by rw [ha, hb, hc]; rfl

theorem partJoins_big (p : List Int) (u v w : Int) (h : 60 < p.length) : ACalls Try.prog 6 [.sl (p.map iPV), iPV u, iPV v, iPV w] (bPV true) := by
  refine ent Try.func6 ?_
  have hB : decide (60 < (p.length : Int)) = true := by simp; omega
  repeat (refine AW_seq ?_)
  refine reg ?_
  refine run 1 ?_
  refine fin [0, 1, 2, 3] [] ?_
  repeat (refine AW_seq ?_)
  refine reg ?_
  refine run 2 ?_
  refine run 2 ?_
  refine run 1 ?_
  refine skpV (.c (.v (.bool false))) ?_
  refine run 2 ?_
  refine fin [0, 1, 2, 3, 21] [] ?_
  repeat (refine AW_seq ?_)
  refine tstT ?_
  repeat (refine AW_seq ?_)
  refine reg ?_
  refine call (fun _ => awake_true) ?_
  refine run 1 ?_
  refine fin [8] [] ?_
  refine AW_ret (ret ?_)
  rfl

theorem partJoins_any (p : List Int) (u v w : Int) : ACalls Try.prog 6 [.sl (p.map iPV), iPV u, iPV v, iPV w] (bPV true) := by
  by_cases hlp : 60 < p.length
  · exact partJoins_big p u v w hlp
  refine ent Try.func6 ?_
  have c0 := right_any p (by omega)
  repeat (refine AW_seq ?_)
  refine reg ?_
  refine run 1 ?_
  refine fin [0, 1, 2, 3] [] ?_
  repeat (refine AW_seq ?_)
  refine reg ?_
  refine run 2 ?_
  refine run 2 ?_
  refine run 1 ?_
  refine call (fun _ => c0) ?_
  refine run 2 ?_
  refine fin [0, 1, 2, 3, 21] [] ?_
  repeat (refine AW_seq ?_)
  refine tst (fun h1 => ?_) (fun h1 => ?_)
  · simp at h1
    repeat (refine AW_seq ?_)
    refine reg ?_
    refine call (fun _ => awake_true) ?_
    refine run 1 ?_
    refine fin [8] [] ?_
    refine AW_ret (ret ?_)
    rfl
  · simp at h1
    have hR : IsR p := by grind
    have hAR := joinR_right u v hR
    have hBR := joinR_right v w hR
    have j1 := (join_any p u v (by omega)).a
    have j2 := (join_any p v u (by omega)).a
    rw [joinR_comm p v u] at j2
    have j4 := (join_any p v w (by omega)).a
    have lA := joinR_len p u v
    have lB := joinR_len p v w
    have hRef := joinR_ref u v hR
    have hId := joinR_idem u v hR
    have hE := fun g1 g2 => @joinR_join p u v w hR g1 g2
    obtain ⟨A, eA⟩ : ∃ k, joinR p u v = k := ⟨_, rfl⟩
    rw [eA] at j1 j2 lA hAR hRef hId hE
    obtain ⟨B, eB⟩ : ∃ k, joinR p v w = k := ⟨_, rfl⟩
    rw [eB] at j4 lB hBR hE
    have j3 := (join_any A v w (by omega)).a
    have j5 := (join_any B u v (by omega)).a
    have j6 := (join_any A u v (by omega)).a
    rw [hId] at j6
    have lX := joinR_len A v w
    have lY := joinR_len B u v
    obtain ⟨X, eX⟩ : ∃ k, joinR A v w = k := ⟨_, rfl⟩
    rw [eX] at j3 lX hE
    obtain ⟨Y, eY⟩ : ∃ k, joinR B u v = k := ⟨_, rfl⟩
    rw [eY] at j5 lY hE
    have s1 := same_any A A (by omega) (by omega)
    rw [decide_eq_true rfl] at s1
    have s2 := same_any X Y (by omega) (by omega)
    have s3 := s1
    have c4 := right_any A (by omega)
    rw [decide_eq_true hAR] at c4
    have r1 := refines_any p A (by omega) (by omega)
    rw [decide_eq_true hRef] at r1
    obtain ⟨E, eE⟩ : ∃ k, decide (X = Y) = k := ⟨_, rfl⟩
    rw [eE] at s2
    have hE2 : InP p u v → InP p v w → E = true := fun g1 g2 => by rw [← eE]; simpa using hE g1 g2
    obtain ⟨hE2, -⟩ : Go.RowKit.Hid (InP p u v → InP p v w → E = true) ∧ True := ⟨hE2, trivial⟩
    rename_i hE20
    clear hE20
    clear hR hAR hBR hRef hId hE eA eB eX eY eE h1
    refine AW_skip ?_
    repeat (refine AW_seq ?_)
    refine reg ?_
    refine run 2 ?_
    refine run 1 ?_
    refine call (fun _ => j1) ?_
    refine run 2 ?_
    refine run 1 ?_
    refine call (fun _ => j2) ?_
    refine run 2 ?_
    refine fin [0, 1, 2, 3, 9, 10] [] ?_
    repeat (refine AW_seq ?_)
    refine reg ?_
    refine run 2 ?_
    refine run 1 ?_
    refine call (fun _ => j1) ?_
    refine run 2 ?_
    refine call (fun _ => j3) ?_
    refine run 2 ?_
    refine run 1 ?_
    refine call (fun _ => j4) ?_
    refine run 2 ?_
    refine call (fun _ => j5) ?_
    refine run 2 ?_
    refine fin [0, 1, 2, 3, 9, 10, 11, 12] [] ?_
    repeat (refine AW_seq ?_)
    refine reg ?_
    refine run 2 ?_
    refine call (fun _ => s1) ?_
    refine run 2 ?_
    refine run 1 ?_
    refine call (fun _ => c4) ?_
    refine run 2 ?_
    refine run 2 ?_
    refine run 1 ?_
    refine call (fun _ => r1) ?_
    refine run 2 ?_
    refine fin [0, 1, 2, 3, 9, 11, 12, 59] [] ?_
    repeat (refine AW_seq ?_)
    refine tstF ?_
    refine AW_skip ?_
    repeat (refine AW_seq ?_)
    refine reg ?_
    refine run 2 ?_
    refine run 2 ?_
    refine run 2 ?_
    refine run 2 ?_
    refine run 2 ?_
    refine run 2 ?_
    refine run 2 ?_
    refine run 2 ?_
    refine run 2 ?_
    refine run 2 ?_
    refine run 2 ?_
    refine run 2 ?_
    refine run 2 ?_
    refine run 2 ?_
    refine run 1 ?_
    refine fin [1, 2, 9, 11, 12, 13] [] ?_
    repeat (refine AW_seq ?_)
    refine reg ?_
    refine run 2 ?_
    refine run 2 ?_
    refine run 1 ?_
    refine call (fun _ => s2) ?_
    refine run 2 ?_
    refine run 2 ?_
    refine run 1 ?_
    refine call (fun _ => j6) ?_
    refine run 1 ?_
    refine call (fun _ => s3) ?_
    refine run 2 ?_
    refine call (fun _ => awake_true) ?_
    refine run 2 ?_
    refine fin [8] [] ?_
    refine AW_ret (ret ?_)
    refine congrArg bPV ?_
    have := hE2.out
    unfold InP at this
    cases E
    · simp only [imp_false, Bool.false_eq_true] at this
      simp; grind
    · simp

end Go.Proofs.Ytnfnejbdjicbgaa