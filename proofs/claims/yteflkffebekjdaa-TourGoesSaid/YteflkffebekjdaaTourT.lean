/-
  Three laws of layer tour on plain data: a tour that is rerooted; what was linked is cut again; how often a vertex stands in a tour.
  Conditions: none.
-/
import Derived.Test.YteflkffebekjdaaTourS
namespace Go.Proofs.Yteflkffebekjdaa
open Go Go.Ab
set_option linter.unusedVariables false
set_option linter.unusedSimpArgs false

theorem rrR_no {t : List Int} {v : Int} (h : isT t = true) (h0 : (rrR t v).2 ≠ 0) : (rrR t v).2 = 3 := by
  unfold rrR at h0 ⊢
  rw [if_neg (by rw [h]; simp)] at h0 ⊢
  by_cases e : v ∈ t
  · rw [if_neg (by simp [e])] at h0; exact absurd rfl h0
  · rw [if_pos (by simp [e])]
theorem rrR_in {t : List Int} {v : Int} (h : isT t = true) (h0 : (rrR t v).2 = 0) : v ∈ t ∧ (rrR t v).1 = frm t v := by
  unfold rrR at h0 ⊢
  rw [if_neg (by rw [h]; simp)] at h0 ⊢
  by_cases e : v ∈ t
  · rw [if_neg (by simp [e])]; exact ⟨e, rfl⟩
  · rw [if_pos (by simp [e])] at h0; cases h0
theorem rrR_ok {t : List Int} {v : Int} (h : isT t = true) (hv : v ∈ t) : rrR t v = (frm t v, 0) := by
  unfold rrR
  rw [if_neg (by rw [h]; simp), if_neg (by simp [hv])]
theorem linkR_ok {a b : List Int} {u v : Int} (h : (linkR a b u v).2 = 0) : isT a = true ∧ isT b = true ∧ u ∈ a ∧ v ∈ b ∧ (∀ x ∈ a, x ∉ b) ∧ (linkR a b u v).1 = frm a u ++ frm b v ++ [u] := by
  unfold linkR at h ⊢
  split at h
  · cases h
  · rename_i h1
    rw [if_neg h1]
    split at h
    · cases h
    · rename_i h2
      rw [if_neg h2]
      split at h
      · cases h
      · rename_i h3
        rw [if_neg h3]
        simp only [Bool.not_eq_false, Bool.and_eq_true, decide_eq_true_eq] at h1 h2
        refine ⟨h1.1, h1.2, h2.1, h2.2, fun x hx hb => h3 (any_yes hx hb), rfl⟩
theorem linkR_no {a b : List Int} {u v : Int} (h : (linkR a b u v).2 ≠ 0) : (linkR a b u v).1 = [] := by
  unfold linkR at h ⊢
  split
  · rfl
  · rename_i h1; rw [if_neg h1] at h
    split
    · rfl
    · rename_i h2; rw [if_neg h2] at h
      split
      · rfl
      · rename_i h3; rw [if_neg h3] at h; exact absurd rfl h
theorem cutL_form {A M : List Int} {x w : Int} (h1 : w ∉ A) (h2 : w ≠ x) (h3 : M.head? = some w) (h4 : M.getLast? = some w) : cutL (A ++ M ++ [x]) w = (A, M) := by
  obtain ⟨e1, e2, e3⟩ := ends_of (d := 0) (B := [x]) h1 (by simpa using h2) h3 h4
  rw [cutL, e1, e2, Int.toNat_natCast]
  have l1 : (A ++ M ++ [x]).length = A.length + M.length + 1 := by simp only [List.length_append, List.length_cons, List.length_nil]
  congr 1
  · rw [List.append_assoc, List.take_left, List.drop_of_length_le (by rw [← List.append_assoc, l1]; omega), List.append_nil]
  · rw [show A.length + M.length - 1 + 1 = (A ++ M).length by rw [List.length_append]; omega, List.take_left, List.drop_left]
theorem head_last {t : List Int} {v : Int} {l : List Int} (h : isT t = true) (e : t = v :: l) : t.head? = some v ∧ t.getLast? = some v := by
  obtain ⟨r, h1, h2⟩ := isT_last h
  rw [e] at h1
  simp only [List.head?_cons, Option.some.injEq] at h1
  subst h1
  exact ⟨by rw [e]; rfl, h2⟩
theorem split_T {a b : List Int} {u v : Int} (ha : isT a = true) (hb : isT b = true) (hu : u ∈ a) (hv : v ∈ b) (hd : ∀ x ∈ a, x ∉ b) :
    cutR (frm a u ++ frm b v ++ [u]) u v = ((frm a u, frm b v), 0) ∧ cutR (frm a u ++ frm b v ++ [u]) v u = ((frm b v, frm a u), 0) := by
  obtain ⟨a', ea⟩ := frm_head hu
  obtain ⟨b', eb⟩ := frm_head hv
  have ta := (frm_T ha hu).1
  have tb := (frm_T hb hv).1
  have hd' : ∀ x ∈ frm a u, x ∉ frm b v := fun x hx hy => hd x ((frm_mem ha hu x).1 hx) ((frm_mem hb hv x).1 hy)
  obtain ⟨A, eA⟩ : ∃ A, frm a u = A := ⟨_, rfl⟩
  obtain ⟨B, eB⟩ : ∃ B, frm b v = B := ⟨_, rfl⟩
  rw [eA] at ea ta hd' ⊢
  rw [eB] at eb tb hd' ⊢
  obtain ⟨ha1, ha2⟩ := head_last ta ea
  obtain ⟨hb1, hb2⟩ := head_last tb eb
  obtain ⟨t1, t2, t3⟩ := link_T (u := u) (v := v) (a := a') (b := b') (by rw [← ea]; exact ta) (by rw [← eb]; exact tb) (by rw [← ea, ← eb]; exact hd')
  rw [← ea, ← eb] at t1 t2
  have hvA : v ∉ A := fun h => hd' v h (by rw [eb]; exact List.mem_cons_self)
  have huB : u ∉ B := fun h => hd' u (by rw [ea]; exact List.mem_cons_self) h
  have huv : v ≠ u := fun e => by subst e; exact hvA (by rw [ea]; exact List.mem_cons_self)
  have he : ed u v ∈ edges (A ++ B ++ [u]) := by rw [t2]; simp
  constructor
  · rw [cutR, if_neg (by rw [t1]; simp), if_neg (by rw [decide_eq_true he]; simp), frm_self (l := a' ++ B ++ [u]) (by rw [ea]; rfl), cutL_form hvA huv hb1 hb2]
  · have hidx : idx (A ++ B ++ [u]) v = A.length := by rw [List.append_assoc, idx_app hvA, eb]; simp [idx]
    have hfr : frm (A ++ B ++ [u]) v = B ++ A ++ [v] := by
      rw [frm, hidx, rot, List.append_assoc, List.drop_left, List.take_append, List.take_of_length_le (by omega), show A.length + 1 - A.length = 1 by omega, eb, ea]
      simp
    rw [cutR, if_neg (by rw [t1]; simp), if_neg (by rw [ed_comm, decide_eq_true he]; simp), hfr, cutL_form huB huv.symm ha1 ha2]
theorem cnt_next {l : List Int} {i : Nat} {x v : Int} (h : l[i]? = some x) : (l.take (i + 1)).count v = (l.take i).count v + if x = v then 1 else 0 := by
  rw [List.take_add_one, h, List.count_append]
  by_cases e : x = v <;> simp [e]
theorem near_next {l : List Ed} {i : Nat} {x : Ed} {v : Int} (h : l[i]? = some x) : nearE v (l.take (i + 1)) = nearE v (l.take i) + if x.u = v ∨ x.v = v then 1 else 0 := by
  rw [nearE, nearE, List.take_add_one, h, List.countP_append]
  by_cases e : x.u = v ∨ x.v = v <;> simp [e]

theorem tourTurns_big (t : List Int) (v : Int) (hl : 60 < t.length) : ACalls Try.prog 5 [.sl (t.map iPV), iPV v] (bPV true) := by
  refine ent Try.func5 ?_
  have hb : decide ((60 : Int) < (t.length : Int)) = true := by simp; omega
  repeat (refine AW_seq ?_)
  refine reg ?_
  refine run 1 ?_
  refine fin [0, 1] [] ?_
  repeat (refine AW_seq ?_)
  refine reg ?_
  refine run 2 ?_
  refine run 2 ?_
  refine run 1 ?_
  refine skpV (.c (.v (.bool false))) ?_
  refine run 2 ?_
  refine fin [0, 1, 16] [] ?_
  repeat (refine AW_seq ?_)
  refine tstT ?_
  repeat (refine AW_seq ?_)
  refine reg ?_
  refine call (fun _ => awake_true) ?_
  refine run 1 ?_
  refine fin [4] [] ?_
  refine AW_ret (ret ?_)
  rfl

theorem tourTurns_ok (t : List Int) (v : Int) (hl : t.length ≤ 60) : ACalls Try.prog 5 [.sl (t.map iPV), iPV v] (bPV true) := by
  refine ent Try.func5 ?_
  have hb : decide ((60 : Int) < (t.length : Int)) = false := by simp; omega
  have r0' := right_any t (by omega)
  obtain ⟨A, eA⟩ : ∃ k, isT t = k := ⟨_, rfl⟩
  rw [eA] at r0'
  obtain ⟨eA, -⟩ : Go.RowKit.Hid (isT t = A) ∧ True := ⟨eA, trivial⟩
  rename_i eA0
  clear eA0
  repeat (refine AW_seq ?_)
  refine reg ?_
  refine run 1 ?_
  refine fin [0, 1] [] ?_
  repeat (refine AW_seq ?_)
  refine reg ?_
  refine run 2 ?_
  refine run 2 ?_
  refine run 1 ?_
  refine call (fun _ => r0') ?_
  refine run 2 ?_
  refine fin [0, 1, 16] [] ?_
  repeat (refine AW_seq ?_)
  refine tst (fun h1 => ?_) (fun h1 => ?_)
  · skip
    repeat (refine AW_seq ?_)
    refine reg ?_
    refine call (fun _ => awake_true) ?_
    refine run 1 ?_
    refine fin [4] [] ?_
    refine AW_ret (ret ?_)
    rfl
  · skip
    have hT : isT t = true := by rw [eA.out]; cases A <;> simp_all
    have c1 := reroot_any t v (by omega)
    rw [rrPV] at c1
    have hno := rrR_no (v := v) hT
    have hin := rrR_in (v := v) hT
    obtain ⟨R, eR⟩ : ∃ k, (rrR t v).1 = k := ⟨_, rfl⟩
    rw [eR] at c1 hin
    obtain ⟨E, eE⟩ : ∃ k, (rrR t v).2 = k := ⟨_, rfl⟩
    rw [eE] at c1 hno hin
    clear eR eE
    obtain ⟨hno, -⟩ : Go.RowKit.Hid (E ≠ 0 → E = 3) ∧ True := ⟨hno, trivial⟩
    rename_i hno0
    clear hno0
    obtain ⟨hin, -⟩ : Go.RowKit.Hid (E = 0 → v ∈ t ∧ R = frm t v) ∧ True := ⟨hin, trivial⟩
    rename_i hin0
    clear hin0
    obtain ⟨hT, -⟩ : Go.RowKit.Hid (isT t = true) ∧ True := ⟨hT, trivial⟩
    rename_i hT0
    clear hT0
    refine AW_skip ?_
    repeat (refine AW_seq ?_)
    refine reg ?_
    refine run 2 ?_
    refine call (fun _ => c1) ?_
    refine run 2 ?_
    refine run 2 ?_
    refine run 1 ?_
    refine fin [0, 5, 6] [] ?_
    repeat (refine AW_seq ?_)
    refine reg ?_
    refine run 2 ?_
    refine fin [0, 5, 6, 25] [] ?_
    repeat (refine AW_seq ?_)
    refine tst (fun h2 => ?_) (fun h2 => ?_)
    · simp at h2
      have hE := hno.out h2
      repeat (refine AW_seq ?_)
      refine reg ?_
      refine run 2 ?_
      refine run 1 ?_
      refine call (fun _ => awake_true) ?_
      refine run 2 ?_
      refine fin [4] [] ?_
      refine AW_ret (ret ?_)
      rfl
    · simp at h2
      obtain ⟨hv, hR⟩ := hin.out h2
      obtain ⟨t1, t2, t3, t4⟩ := frm_T hT.out hv
      rw [← hR] at t1 t2 t3 t4
      have tl := isT_len hT.out
      obtain ⟨r0, x0, y0⟩ := getD_at (l := t) (i := 0) (by omega)
      have hr0 := (frm_mem hT.out hv r0).2 (List.mem_of_getElem? x0)
      rw [← hR] at hr0
      have c2 := reroot_any R r0 (by omega)
      rw [rrPV, rrR_ok t1 hr0] at c2
      obtain ⟨s1, s2, s3, s4⟩ := frm_T t1 hr0
      obtain ⟨B', hB'⟩ := frm_head hr0
      have r1 := right_any R (by omega)
      rw [t1] at r1
      have r2 := right_any (frm R r0) (by omega)
      rw [s1] at r2
      have d0 := (edges_any t (by omega)).a
      have d1 := (edges_any R (by omega)).a
      have d2 := (edges_any (frm R r0) (by omega)).a
      have m0 := edges_len t
      have m1 := edges_len R
      have m2 := edges_len (frm R r0)
      have g1 := edgesL_any (edges R) (edges t) (by omega) (by omega) (srt_eq t2 (edges_flat _))
      have g2 := edgesL_any (edges (frm R r0)) (edges t) (by omega) (by omega) (srt_eq (s2.trans t2) (edges_flat _))
      have v0 := (vertices_any t (by omega)).a
      have v1 := (vertices_any R (by omega)).a
      have vl := t3.length_eq
      have y1 : (frm R r0).getD 0 default = r0 := by rw [hB']; rfl
      have bl : (frm R r0).length = t.length := by omega
      have bp : 0 < (frm R r0).length := by omega
      obtain ⟨Bk, eBk⟩ : ∃ k, frm R r0 = k := ⟨_, rfl⟩
      rw [eBk] at c2 r2 d2 g2 y1 bl bp
      obtain ⟨E0, eE0⟩ : ∃ k, edges t = k := ⟨_, rfl⟩
      rw [eE0] at d0 g1 g2
      obtain ⟨E1, eE1⟩ : ∃ k, edges R = k := ⟨_, rfl⟩
      rw [eE1] at d1 g1
      obtain ⟨E2, eE2⟩ : ∃ k, edges Bk = k := ⟨_, rfl⟩
      rw [eE2] at d2 g2
      obtain ⟨V0, eV0⟩ : ∃ k, verts t = k := ⟨_, rfl⟩
      rw [eV0] at v0 vl tl
      obtain ⟨V1, eV1⟩ : ∃ k, verts R = k := ⟨_, rfl⟩
      rw [eV1] at v1 vl
      have tI : (t.length : Int) = 2 * (V0.length : Int) - 1 := by omega
      have tl0 : 0 < V0.length := tl.2
      have vb : V0.length < 100 := by omega
      clear hB' s1 s2 s3 s4 t1 t2 t3 t4 m0 m1 m2 hR hr0 hv tl eBk eE0 eE1 eE2 eV0 eV1
      refine AW_skip ?_
      repeat (refine AW_seq ?_)
      refine reg ?_
      refine run 2 ?_
      refine run 2 ?_
      refine call (fun _ => c2) ?_
      refine run 2 ?_
      refine run 2 ?_
      refine run 1 ?_
      refine fin [0, 5, 7, 8] [] ?_
      repeat (refine AW_seq ?_)
      refine reg ?_
      refine run 1 ?_
      refine call (fun _ => r1) ?_
      refine run 2 ?_
      refine run 2 ?_
      refine run 2 ?_
      refine call (fun _ => r2) ?_
      refine run 2 ?_
      refine run 2 ?_
      refine run 2 ?_
      refine run 2 ?_
      refine run 2 ?_
      refine run 2 ?_
      refine run 2 ?_
      refine run 2 ?_
      refine run 2 ?_
      refine run 1 ?_
      refine call (fun _ => d1) ?_
      refine run 1 ?_
      refine call (fun _ => d0) ?_
      refine call (fun _ => g1) ?_
      refine run 2 ?_
      refine run 1 ?_
      refine call (fun _ => d2) ?_
      refine run 1 ?_
      refine call (fun _ => d0) ?_
      refine call (fun _ => g2) ?_
      refine run 2 ?_
      refine run 1 ?_
      refine call (fun _ => v1) ?_
      refine run 2 ?_
      refine call (fun _ => v0) ?_
      refine run 2 ?_
      refine run 2 ?_
      refine run 2 ?_
      refine run 1 ?_
      refine call (fun _ => v0) ?_
      refine run 2 ?_
      refine run 2 ?_
      refine run 2 ?_
      refine call (fun _ => awake_true) ?_
      refine run 2 ?_
      refine fin [4] [] ?_
      refine AW_ret (ret ?_)
      rfl

theorem tourTurns_any (t : List Int) (v : Int) : ACalls Try.prog 5 [.sl (t.map iPV), iPV v] (bPV true) := by
  rcases Nat.lt_or_ge 60 t.length with h | h
  · exact tourTurns_big t v h
  · exact tourTurns_ok t v h

/-- a region's operations by a name: of a great region only where each test's operation writes is looked at -/
theorem gos_ops {P : Program} {OPS : Array Oper} {l : List Oper} {s : ASt} {Λ : List Lab} {K : ASt → Prop} (h : ∀ ops : Array Oper, (∀ j : Nat, (ops[j]?).bind (fun o => o.dst) = (OPS[j]?).bind (fun o => o.dst)) → Gos P ops l s Λ (fun s' Λ => (false = true → okRegionL ops Λ = true) ∧ K (resS s'))) :
    Gos P OPS l s Λ (fun s' Λ => (false = true → okRegionL OPS Λ = true) ∧ K (resS s')) := h OPS fun _ => rfl

theorem tourSplits_any (a b : List Int) (u v : Int) : ACalls Try.prog 6 [.sl (a.map iPV), .sl (b.map iPV), iPV u, iPV v] (bPV true) := by
  refine ent Try.func6 ?_
  repeat (refine AW_seq ?_)
  refine reg ?_
  refine run 1 ?_
  refine fin [0, 1, 2, 3] [] ?_
  repeat (refine AW_seq ?_)
  refine reg ?_
  refine run 2 ?_
  refine run 2 ?_
  refine run 2 ?_
  refine run 2 ?_
  refine fin [0, 1, 2, 3, 24] [] ?_
  repeat (refine AW_seq ?_)
  refine tst (fun h1 => ?_) (fun h1 => ?_)
  · simp at h1
    repeat (refine AW_seq ?_)
    refine reg ?_
    refine call (fun _ => awake_true) ?_
    refine run 1 ?_
    refine fin [8] [] ?_
    refine AW_ret (ret ?_)
    rfl
  · simp at h1
    obtain ⟨la, lb⟩ := h1
    have c1 := link_any a b u v (by omega) (by omega)
    rw [linkPV] at c1
    have hno := @linkR_no a b u v
    have hin := @linkR_ok a b u v
    obtain ⟨L, eL⟩ : ∃ k, (linkR a b u v).1 = k := ⟨_, rfl⟩
    rw [eL] at c1 hno hin
    obtain ⟨E, eE⟩ : ∃ k, (linkR a b u v).2 = k := ⟨_, rfl⟩
    rw [eE] at c1 hno hin
    clear eL eE
    obtain ⟨hno, -⟩ : Go.RowKit.Hid (E ≠ 0 → L = []) ∧ True := ⟨hno, trivial⟩
    rename_i hno0
    clear hno0
    obtain ⟨hin, -⟩ : Go.RowKit.Hid (E = 0 → isT a = true ∧ isT b = true ∧ u ∈ a ∧ v ∈ b ∧ (∀ x ∈ a, x ∉ b) ∧ L = frm a u ++ frm b v ++ [u]) ∧ True := ⟨hin, trivial⟩
    rename_i hin0
    clear hin0
    refine AW_skip ?_
    repeat (refine AW_seq ?_)
    refine reg ?_
    refine run 2 ?_
    refine run 2 ?_
    refine call (fun _ => c1) ?_
    refine run 2 ?_
    refine run 2 ?_
    refine run 1 ?_
    refine fin [0, 1, 2, 3, 9, 10] [] ?_
    repeat (refine AW_seq ?_)
    refine reg ?_
    refine run 2 ?_
    refine fin [0, 1, 2, 3, 9, 35] [] ?_
    repeat (refine AW_seq ?_)
    refine tst (fun h2 => ?_) (fun h2 => ?_)
    · simp at h2
      have hL := hno.out h2
      have h00 : ((0 : Nat) : Int) = 0 := rfl
      repeat (refine AW_seq ?_)
      refine reg ?_
      refine run 2 ?_
      refine run 2 ?_
      refine call (fun _ => awake_true) ?_
      refine run 2 ?_
      refine fin [8] [] ?_
      refine AW_ret (ret ?_)
      rfl
    · simp at h2
      obtain ⟨ta, tb, hu, hv, hd, hL⟩ := hin.out h2
      obtain ⟨q1, q2⟩ := split_T ta tb hu hv hd
      obtain ⟨s1, s2, s3, s4⟩ := frm_T ta hu
      obtain ⟨t1, t2, t3, t4⟩ := frm_T tb hv
      rw [← hL] at q1 q2
      have Ll : L.length = a.length + b.length + 1 := by rw [hL, List.length_append, List.length_append, s4, t4]; rfl
      have c2 := cut_any L u v (by omega)
      have c3 := cut_any L v u (by omega)
      rw [cutPV, q1] at c2
      rw [cutPV, q2] at c3
      have d0 := (edges_any a (by omega)).a
      have d1 := (edges_any (frm a u) (by omega)).a
      have d2 := (edges_any b (by omega)).a
      have d3 := (edges_any (frm b v) (by omega)).a
      have m0 := edges_len a
      have m1 := edges_len (frm a u)
      have m2 := edges_len b
      have m3 := edges_len (frm b v)
      have g1 := edgesL_any (edges (frm a u)) (edges a) (by omega) (by omega) (srt_eq s2 (edges_flat _))
      have g2 := edgesL_any (edges (frm b v)) (edges b) (by omega) (by omega) (srt_eq t2 (edges_flat _))
      have v1 := (vertices_any (frm a u) (by omega)).a
      have vl := isT_len s1
      have sm := same_any (verts (frm a u)) (by omega)
      have hp : decide ((0 : Int) < (a.length : Int)) = true := by rw [decide_eq_true_eq]; omega
      obtain ⟨X, eX⟩ : ∃ k, frm a u = k := ⟨_, rfl⟩
      rw [eX] at c2 c3 d1 g1 v1 sm s4
      obtain ⟨Y, eY⟩ : ∃ k, frm b v = k := ⟨_, rfl⟩
      rw [eY] at c2 c3 d3 g2 t4
      obtain ⟨E0, eE0⟩ : ∃ k, edges a = k := ⟨_, rfl⟩
      rw [eE0] at d0 g1
      obtain ⟨E1, eE1⟩ : ∃ k, edges X = k := ⟨_, rfl⟩
      rw [eE1] at d1 g1
      obtain ⟨E2, eE2⟩ : ∃ k, edges b = k := ⟨_, rfl⟩
      rw [eE2] at d2 g2
      obtain ⟨E3, eE3⟩ : ∃ k, edges Y = k := ⟨_, rfl⟩
      rw [eE3] at d3 g2
      obtain ⟨V, eV⟩ : ∃ k, verts X = k := ⟨_, rfl⟩
      rw [eV] at v1 sm
      have Ll2 : (L.length : Int) = (a.length : Int) + (b.length : Int) + 1 := by omega
      clear q1 q2 hL hd ta tb hu hv s1 s2 s3 t1 t2 t3 m0 m1 m2 m3 vl Ll eX eY eE0 eE1 eE2 eE3 eV
      refine AW_skip ?_
      repeat (refine AW_seq ?_)
      refine reg ?_
      refine run 2 ?_
      refine run 1 ?_
      refine call (fun _ => c2) ?_
      refine run 2 ?_
      refine run 2 ?_
      refine run 2 ?_
      refine run 1 ?_
      refine fin [0, 1, 2, 3, 9, 11, 12, 13] [] ?_
      repeat (refine AW_seq ?_)
      refine reg ?_
      refine run 2 ?_
      refine run 1 ?_
      refine call (fun _ => c3) ?_
      refine run 2 ?_
      refine run 2 ?_
      refine run 2 ?_
      refine run 1 ?_
      refine fin [0, 1, 9, 11, 12, 13, 14, 15, 16] [] ?_
      repeat (refine AW_seq ?_)
      refine reg ?_
      refine gos_ops fun ops ho => ?_
      have o2 : (ops[2]?).bind (fun o => o.dst) = some 60 := (ho 2).trans rfl
      have o6 : (ops[6]?).bind (fun o => o.dst) = some 64 := (ho 6).trans rfl
      have o13 : (ops[13]?).bind (fun o => o.dst) = some 71 := (ho 13).trans rfl
      have o20 : (ops[20]?).bind (fun o => o.dst) = some 78 := (ho 20).trans rfl
      have o31 : (ops[31]?).bind (fun o => o.dst) = some 89 := (ho 31).trans rfl
      have o38 : (ops[38]?).bind (fun o => o.dst) = some 96 := (ho 38).trans rfl
      have o45 : (ops[45]?).bind (fun o => o.dst) = some 103 := (ho 45).trans rfl
      have o52 : (ops[52]?).bind (fun o => o.dst) = some 110 := (ho 52).trans rfl
      have o59 : (ops[59]?).bind (fun o => o.dst) = some 117 := (ho 59).trans rfl
      have o70 : (ops[70]?).bind (fun o => o.dst) = some 128 := (ho 70).trans rfl
      clear ho
      simp only [List.toList_toArray, List.append_eq, List.cons_append, List.nil_append]
      refine run 2 ?_
      refine run 2 ?_
      refine run 2 ?_
      refine run 2 ?_
      refine call (fun _ => d1) ?_
      refine run 1 ?_
      refine call (fun _ => d0) ?_
      refine call (fun _ => g1) ?_
      refine run 2 ?_
      refine run 1 ?_
      refine call (fun _ => d3) ?_
      refine run 1 ?_
      refine call (fun _ => d2) ?_
      refine call (fun _ => g2) ?_
      refine run 2 ?_
      refine run 1 ?_
      refine call (fun _ => v1) ?_
      refine run 1 ?_
      refine call (fun _ => v1) ?_
      refine call (fun _ => sm) ?_
      refine run 2 ?_
      refine run 2 ?_
      refine run 2 ?_
      refine run 2 ?_
      refine run 2 ?_
      refine run 2 ?_
      refine run 2 ?_
      refine run 2 ?_
      refine run 2 ?_
      refine run 2 ?_
      refine run 2 ?_
      refine run 2 ?_
      refine run 2 ?_
      refine run 2 ?_
      refine run 2 ?_
      refine run 2 ?_
      refine run 2 ?_
      refine run 2 ?_
      refine run 2 ?_
      refine run 2 ?_
      refine run 2 ?_
      refine run 2 ?_
      refine run 1 ?_
      refine call (fun _ => awake_true) ?_
      refine run 2 ?_
      refine fin [8] [] ?_
      refine AW_ret (ret ?_)
      rfl

theorem tourLeaf_big (t : List Int) (hl : 60 < t.length) : ACalls Try.prog 7 [.sl (t.map iPV)] (bPV true) := by
  refine ent Try.func7 ?_
  have hb : decide ((60 : Int) < (t.length : Int)) = true := by simp; omega
  repeat (refine AW_seq ?_)
  refine reg ?_
  refine run 1 ?_
  refine fin [0] [] ?_
  repeat (refine AW_seq ?_)
  refine reg ?_
  refine run 2 ?_
  refine run 2 ?_
  refine run 1 ?_
  refine skpV (.c (.v (.bool false))) ?_
  refine run 2 ?_
  refine fin [0, 18] [] ?_
  repeat (refine AW_seq ?_)
  refine tstT ?_
  repeat (refine AW_seq ?_)
  refine reg ?_
  refine call (fun _ => awake_true) ?_
  refine run 1 ?_
  refine fin [2] [] ?_
  refine AW_ret (ret ?_)
  rfl

theorem tourLeaf_ok (t : List Int) (hl : t.length ≤ 60) : ACalls Try.prog 7 [.sl (t.map iPV)] (bPV true) := by
  refine ent Try.func7 ?_
  have hb : decide ((60 : Int) < (t.length : Int)) = false := by simp; omega
  have r0' := right_any t (by omega)
  obtain ⟨A, eA⟩ : ∃ k, isT t = k := ⟨_, rfl⟩
  rw [eA] at r0'
  obtain ⟨eA, -⟩ : Go.RowKit.Hid (isT t = A) ∧ True := ⟨eA, trivial⟩
  rename_i eA0
  clear eA0
  repeat (refine AW_seq ?_)
  refine reg ?_
  refine run 1 ?_
  refine fin [0] [] ?_
  repeat (refine AW_seq ?_)
  refine reg ?_
  refine run 2 ?_
  refine run 2 ?_
  refine run 1 ?_
  refine call (fun _ => r0') ?_
  refine run 2 ?_
  refine fin [0, 18] [] ?_
  repeat (refine AW_seq ?_)
  refine tst (fun h1 => ?_) (fun h1 => ?_)
  · skip
    repeat (refine AW_seq ?_)
    refine reg ?_
    refine call (fun _ => awake_true) ?_
    refine run 1 ?_
    refine fin [2] [] ?_
    refine AW_ret (ret ?_)
    rfl
  · skip
    have hT : isT t = true := by rw [eA.out]; cases A <;> simp_all
    obtain ⟨r, l, hrl⟩ : ∃ r l, t = r :: l := by
      obtain ⟨r, b, e, -⟩ := (isT_iff t).1 hT
      exact ⟨r, _, e⟩
    have hv := (vertices_any t (by omega)).a
    have he := (edges_any t (by omega)).a
    have hleaf : ∀ v, t.count v = nearE v (edges t) + if v = r then 1 else 0 := fun v => by rw [hrl] at hT ⊢; exact leaf_T hT v
    have hlast : t.getD (t.length - 1) default = r := by
      obtain ⟨r', x1, x2⟩ := isT_last hT
      rw [hrl] at x1
      simp only [List.head?_cons, Option.some.injEq] at x1
      subst x1
      rw [List.getLast?_eq_getElem?] at x2
      rw [List.getD_eq_getElem?_getD, x2]; rfl
    have hfst : t.getD 0 default = r := by rw [hrl]; rfl
    have hpos : 0 < t.length := by rw [hrl]; simp
    have hel := edges_len t
    obtain ⟨V, eV⟩ : ∃ k, verts t = k := ⟨_, rfl⟩
    rw [eV] at hv
    obtain ⟨E, eE⟩ : ∃ k, edges t = k := ⟨_, rfl⟩
    rw [eE] at he hleaf hel
    obtain ⟨hleaf, -⟩ : Go.RowKit.Hid (∀ v, t.count v = nearE v E + if v = r then 1 else 0) ∧ True := ⟨hleaf, trivial⟩
    rename_i hleaf0
    clear hleaf0
    have hll : ((t.length : Int) - 1).toNat = t.length - 1 := by omega
    have vlen : V.length ≤ 60 := by rw [← eV, verts, List.length_map]; have := visR_len t; omega
    clear hrl eV eE hT
    refine AW_skip ?_
    repeat (refine AW_seq ?_)
    refine reg ?_
    refine run 1 ?_
    refine call (fun _ => hv) ?_
    refine run 2 ?_
    refine fin [0, 21, 22, 23] [] ?_
    repeat (refine AW_seq ?_)
    refine AW_block ?_
    refine AW_loops (ι := Nat) (fun i => ⟨lk [(0, .c (.sl (t.map iPV))), (21, .c (.sl (V.map iPV))), (22, .c (iPV V.length)), (23, .c (iPV i))], lkM [], lkG [] 0⟩) (fun i => i ≤ V.length) (fun i => V.length - i) 0 (Nat.zero_le _) wk ?_
    rintro i hi
    repeat (refine AW_seq ?_)
    refine reg ?_
    refine run 1 ?_
    refine fin [0, 21, 22, 23, 24] [] ?_
    repeat (refine AW_seq ?_)
    refine tst (fun h2 => ?_) (fun h2 => ?_)
    · simp at h2
      obtain ⟨v, hv1, gv⟩ := getD_at h2
      refine AW_skip ?_
      repeat (refine AW_seq ?_)
      refine AW_block ?_
      repeat (refine AW_seq ?_)
      refine reg ?_
      refine run 2 ?_
      refine run 1 ?_
      refine fin [0, 4, 21, 22, 23] [] ?_
      repeat (refine AW_seq ?_)
      refine reg ?_
      refine run 2 ?_
      refine fin [0, 4, 5, 6, 21, 22, 23] [] ?_
      repeat (refine AW_seq ?_)
      refine reg ?_
      refine run 2 ?_
      refine run 1 ?_
      refine fin [0, 4, 5, 6, 21, 22, 23, 27, 28, 29] [] ?_
      repeat (refine AW_seq ?_)
      refine AW_block ?_
      refine AW_loops (ι := Nat) (fun j => ⟨lk [(0, .c (.sl (t.map iPV))), (4, .c (iPV v)), (5, .c (iPV ((t.take j).count v : Nat))), (6, .c (iPV 0)), (21, .c (.sl (V.map iPV))), (22, .c (iPV V.length)), (23, .c (iPV i)), (27, .c (.sl (t.map iPV))), (28, .c (iPV t.length)), (29, .c (iPV j))], lkM [], lkG [] 0⟩) (fun j => j ≤ t.length) (fun j => t.length - j) 0 (Nat.zero_le _) wk ?_
      rintro j hj
      have hcl : (t.take j).count v ≤ t.length := Nat.le_trans List.count_le_length (by rw [List.length_take]; omega)
      obtain ⟨C, eC⟩ : ∃ k, (t.take j).count v = k := ⟨_, rfl⟩
      rw [eC] at hcl
      rw [eC]
      obtain ⟨eC, -⟩ : Go.RowKit.Hid ((t.take j).count v = C) ∧ True := ⟨eC, trivial⟩
      rename_i eC0
      clear eC0
      repeat (refine AW_seq ?_)
      refine reg ?_
      refine run 1 ?_
      refine fin [0, 4, 5, 6, 21, 22, 23, 27, 28, 29, 30] [] ?_
      repeat (refine AW_seq ?_)
      refine tst (fun h3 => ?_) (fun h3 => ?_)
      · simp at h3
        obtain ⟨x, hx, gx⟩ := getD_at h3
        refine AW_skip ?_
        repeat (refine AW_seq ?_)
        refine AW_block ?_
        repeat (refine AW_seq ?_)
        refine reg ?_
        refine run 2 ?_
        refine run 1 ?_
        refine fin [0, 4, 5, 6, 8, 21, 22, 23, 27, 28, 29] [] ?_
        repeat (refine AW_seq ?_)
        refine reg ?_
        refine run 2 ?_
        refine run 1 ?_
        refine fin [0, 4, 5, 6, 21, 22, 23, 27, 28, 29, 35] [] ?_
        repeat (refine AW_seq ?_)
        refine tst (fun h4 => ?_) (fun h4 => ?_)
        · simp at h4
          repeat (refine AW_seq ?_)
          refine reg ?_
          refine run 2 ?_
          refine run 1 ?_
          refine finN ?_
          refine kp [0, 4, 5, 6, 21, 22, 23, 27, 28, 29] [] ?_
          repeat (refine AW_seq ?_)
          refine reg ?_
          refine run 2 ?_
          refine finN ?_
          have e1 : (((t.take (j + 1)).count v : Nat) : Int) = (C : Int) + 1 := by rw [cnt_next hx, eC.out, if_pos h4]; rfl
          exact ⟨j + 1, by omega, by omega, wk⟩
        · simp at h4
          refine AW_skip ?_
          repeat (refine AW_seq ?_)
          refine reg ?_
          refine run 2 ?_
          refine finN ?_
          have e1 : (t.take (j + 1)).count v = C := by rw [cnt_next hx, eC.out, if_neg h4]; rfl
          exact ⟨j + 1, by omega, by omega, wk⟩
      · simp at h3
        have hC : C = t.count v := by rw [← eC.out, List.take_of_length_le (by omega)]
        obtain ⟨hC, -⟩ : Go.RowKit.Hid (C = t.count v) ∧ True := ⟨hC, trivial⟩
        rename_i hC0
        clear hC0
        refine AW_exit ?_
        repeat (refine AW_seq ?_)
        refine reg ?_
        refine run 1 ?_
        refine call (fun _ => he) ?_
        refine run 2 ?_
        refine fin [0, 4, 5, 6, 21, 22, 23, 40, 41, 42] [] ?_
        repeat (refine AW_seq ?_)
        refine AW_block ?_
        refine AW_loops (ι := Nat) (fun j => ⟨lk [(0, .c (.sl (t.map iPV))), (4, .c (iPV v)), (5, .c (iPV C)), (6, .c (iPV (nearE v (E.take j) : Nat))), (21, .c (.sl (V.map iPV))), (22, .c (iPV V.length)), (23, .c (iPV i)), (40, .c (.sl (E.map edPV))), (41, .c (iPV E.length)), (42, .c (iPV j))], lkM [], lkG [] 0⟩) (fun j => j ≤ E.length) (fun j => E.length - j) 0 (Nat.zero_le _) wk ?_
        rintro j hj
        have hdl : nearE v (E.take j) ≤ E.length := Nat.le_trans List.countP_le_length (by rw [List.length_take]; omega)
        obtain ⟨D, eD⟩ : ∃ k, nearE v (E.take j) = k := ⟨_, rfl⟩
        rw [eD] at hdl
        rw [eD]
        obtain ⟨eD, -⟩ : Go.RowKit.Hid (nearE v (E.take j) = D) ∧ True := ⟨eD, trivial⟩
        rename_i eD0
        clear eD0
        repeat (refine AW_seq ?_)
        refine reg ?_
        refine run 1 ?_
        refine fin [0, 4, 5, 6, 21, 22, 23, 40, 41, 42, 43] [] ?_
        repeat (refine AW_seq ?_)
        refine tst (fun h5 => ?_) (fun h5 => ?_)
        · simp at h5
          obtain ⟨x, hx, gx⟩ := getD_at h5
          refine AW_skip ?_
          repeat (refine AW_seq ?_)
          refine AW_block ?_
          repeat (refine AW_seq ?_)
          refine reg ?_
          refine run 2 ?_
          refine run 2 ?_
          refine fin [0, 4, 5, 6, 10, 21, 22, 23, 40, 41, 42] [(11, 0)] ?_
          repeat (refine AW_seq ?_)
          refine reg ?_
          refine run 2 ?_
          refine run 2 ?_
          refine run 2 ?_
          refine run 2 ?_
          refine run 2 ?_
          refine fin [0, 4, 5, 6, 21, 22, 23, 40, 41, 42, 55] [] ?_
          repeat (refine AW_seq ?_)
          refine tst (fun h6 => ?_) (fun h6 => ?_)
          · simp at h6
            repeat (refine AW_seq ?_)
            refine reg ?_
            refine run 2 ?_
            refine run 1 ?_
            refine finN ?_
            refine kp [0, 4, 5, 6, 21, 22, 23, 40, 41, 42] [] ?_
            repeat (refine AW_seq ?_)
            refine reg ?_
            refine run 2 ?_
            refine finN ?_
            have e1 : ((nearE v (E.take (j + 1)) : Nat) : Int) = (D : Int) + 1 := by rw [near_next hx, eD.out, if_pos (by grind)]; rfl
            exact ⟨j + 1, by omega, by omega, wk⟩
          · simp at h6
            refine AW_skip ?_
            repeat (refine AW_seq ?_)
            refine reg ?_
            refine run 2 ?_
            refine finN ?_
            have e1 : nearE v (E.take (j + 1)) = D := by rw [near_next hx, eD.out, if_neg (by grind)]; rfl
            exact ⟨j + 1, by omega, by omega, wk⟩
        · simp at h5
          have hD : D = nearE v E := by rw [← eD.out, List.take_of_length_le (by omega)]
          obtain ⟨hD, -⟩ : Go.RowKit.Hid (D = nearE v E) ∧ True := ⟨hD, trivial⟩
          rename_i hD0
          clear hD0
          refine AW_exit ?_
          repeat (refine AW_seq ?_)
          refine reg ?_
          refine run 2 ?_
          refine run 2 ?_
          refine run 1 ?_
          refine fin [0, 5, 6, 21, 22, 23, 63] [] ?_
          repeat (refine AW_seq ?_)
          refine tst (fun h7 => ?_) (fun h7 => ?_)
          · simp at h7
            have hh := hleaf.out v
            rw [if_pos h7, ← hC.out, ← hD.out] at hh
            have hh2 : (C : Int) = (D : Int) + 1 := by omega
            clear hh
            repeat (refine AW_seq ?_)
            refine reg ?_
            refine run 2 ?_
            refine run 1 ?_
            refine fin [0, 5, 6, 21, 22, 23] [] ?_
            repeat (refine AW_seq ?_)
            refine reg ?_
            refine run 2 ?_
            refine run 1 ?_
            refine fin [0, 21, 22, 23, 68] [] ?_
            repeat (refine AW_seq ?_)
            refine tstF ?_
            refine AW_skip ?_
            repeat (refine AW_seq ?_)
            refine reg ?_
            refine run 2 ?_
            refine finN ?_
            exact ⟨i + 1, by omega, by omega, wk⟩
          · simp at h7
            have hh := hleaf.out v
            rw [if_neg h7, ← hC.out, ← hD.out] at hh
            refine AW_skip ?_
            repeat (refine AW_seq ?_)
            refine reg ?_
            refine run 2 ?_
            refine run 1 ?_
            refine fin [0, 21, 22, 23, 68] [] ?_
            repeat (refine AW_seq ?_)
            refine tstF ?_
            refine AW_skip ?_
            repeat (refine AW_seq ?_)
            refine reg ?_
            refine run 2 ?_
            refine finN ?_
            exact ⟨i + 1, by omega, by omega, wk⟩
    · simp at h2
      refine AW_exit ?_
      repeat (refine AW_seq ?_)
      refine reg ?_
      refine run 2 ?_
      refine run 2 ?_
      refine run 2 ?_
      refine run 2 ?_
      refine run 2 ?_
      refine run 1 ?_
      refine call (fun _ => awake_true) ?_
      refine run 2 ?_
      refine fin [2] [] ?_
      refine AW_ret (ret ?_)
      rfl

theorem tourLeaf_any (t : List Int) : ACalls Try.prog 7 [.sl (t.map iPV)] (bPV true) := by
  rcases Nat.lt_or_ge 60 t.length with h | h
  · exact tourLeaf_big t h
  · exact tourLeaf_ok t h

end Go.Proofs.Yteflkffebekjdaa