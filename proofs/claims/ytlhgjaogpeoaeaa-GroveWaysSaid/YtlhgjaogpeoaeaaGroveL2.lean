/-
  The law of trees, on plain data.
  Conditions: none.
-/
import Derived.Test.YtlhgjaogpeoaeaaGroveL
namespace Go.Proofs.Ytlhgjaogpeoaeaa
open Go Go.Ab
set_option linter.unusedVariables false
set_option linter.unusedSimpArgs false

/-- how many edges begin in a class -/
def ecn (P : List Int) (x : Int) : List Ed → Nat
  | [] => 0
  | e :: l => (if at0 P e.u = x then 1 else 0) + ecn P x l
theorem ecn_app (P : List Int) (x : Int) (l : List Ed) (e : Ed) : ecn P x (l ++ [e]) = ecn P x l + (if at0 P e.u = x then 1 else 0) := by
  induction l with
  | nil => simp [ecn]
  | cons y l ih => rw [List.cons_append, ecn, ecn, ih]; omega
theorem cls_len (P : List Int) (x : Int) (i : Nat) : (clsN P x (i + 1)).length = (clsN P x i).length + (if P.getD i default = x then 1 else 0) := by
  rw [clsN]; split <;> simp
theorem cls_alone {n i : Nat} : ∀ k, k ≤ n → (clsN (aloneR n) (i : Int) k).length = if i < k then 1 else 0
  | 0, _ => by simp [clsN]
  | k + 1, h => by
    rw [cls_len, cls_alone k (by omega), aloneR_get (by omega)]
    by_cases e : k = i
    · subst e; simp
    · rw [if_neg (show ¬ ((k : Int) = (i : Int)) by omega)]
      by_cases e2 : i < k
      · rw [if_pos e2, if_pos (by omega)]
      · rw [if_neg e2, if_neg (by omega)]
theorem cls_glue {P : List Int} {lo hi : Int} (hne : lo ≠ hi) (x : Int) : ∀ i, i ≤ P.length → (clsN (P.map (glue lo hi)) x i).length = if x = lo then (clsN P lo i).length + (clsN P hi i).length else if x = hi then 0 else (clsN P x i).length
  | 0, _ => by simp [clsN]
  | i + 1, h => by
    rw [cls_len, cls_glue hne x i (by omega), getD_mapI (by omega), cls_len, cls_len, cls_len]
    unfold glue
    obtain ⟨y, hy⟩ : ∃ y, P.getD i default = y := ⟨_, rfl⟩
    rw [hy]
    by_cases e1 : y = hi
    · subst e1
      rw [if_pos rfl]
      by_cases e2 : x = lo
      · subst e2
        rw [if_pos rfl, if_pos rfl, if_pos rfl, if_neg hne.symm, if_pos rfl]; omega
      · rw [if_neg e2, if_neg e2]
        by_cases e3 : x = y
        · rw [if_pos e3, if_pos e3, if_neg (fun g => e2 g.symm)]
        · rw [if_neg e3, if_neg e3, if_neg (fun g => e2 g.symm), if_neg (fun g => e3 g.symm)]
    · rw [if_neg e1]
      by_cases e2 : x = lo
      · subst e2
        rw [if_pos rfl, if_pos rfl, if_neg e1]; omega
      · rw [if_neg e2, if_neg e2]
        by_cases e3 : x = hi
        · subst e3; rw [if_pos rfl, if_pos rfl, if_neg e1]
        · rw [if_neg e3, if_neg e3]
theorem ecn_glue {n : Nat} {P : List Int} (hP : P.length = n) {lo hi : Int} (hne : lo ≠ hi) (x : Int) : ∀ l : List Ed, MayE n l → ecn (P.map (glue lo hi)) x l = if x = lo then ecn P lo l + ecn P hi l else if x = hi then 0 else ecn P x l
  | [], _ => by simp [ecn]
  | e :: l, h => by
    have he := h e List.mem_cons_self
    unfold EdIn at he
    have hg : at0 (P.map (glue lo hi)) e.u = glue lo hi (at0 P e.u) := by unfold at0; exact getD_mapI (by rw [hP]; omega)
    rw [ecn, ecn, ecn, ecn, ecn_glue hP hne x l (fun y hy => h y (List.mem_cons_of_mem _ hy)), hg]
    unfold glue
    obtain ⟨y, hy⟩ : ∃ y, at0 P e.u = y := ⟨_, rfl⟩
    rw [hy]
    by_cases e1 : y = hi
    · subst e1
      rw [if_pos rfl]
      by_cases e2 : x = lo
      · subst e2
        rw [if_pos rfl, if_pos rfl, if_pos rfl, if_neg hne.symm, if_pos rfl]; omega
      · rw [if_neg e2, if_neg e2, if_neg (fun g => e2 g.symm)]
        by_cases e3 : x = y
        · rw [if_pos e3, if_pos e3]
        · rw [if_neg e3, if_neg e3, if_neg (fun g => e3 g.symm)]
    · rw [if_neg e1]
      by_cases e2 : x = lo
      · subst e2
        rw [if_pos rfl, if_pos rfl, if_neg e1]; omega
      · rw [if_neg e2, if_neg e2]
        by_cases e3 : x = hi
        · subst e3; rw [if_pos rfl, if_pos rfl, if_neg e1]
        · rw [if_neg e3, if_neg e3]
/-- a tree has one vertex more than edges -/
theorem tree_count {n : Nat} (l : List Ed) : IsF n l → ∀ i, i < n → (clsN (partR n l) ((partR n l).getD i default) n).length = ecn (partR n l) ((partR n l).getD i default) l + 1 := by
  refine snocInd (p := fun l => IsF n l → ∀ i, i < n → (clsN (partR n l) ((partR n l).getD i default) n).length = ecn (partR n l) ((partR n l).getD i default) l + 1) (fun _ i hi => ?_) (fun l e ih h i hi => ?_) l
  · rw [show partR n [] = aloneR n from rfl, aloneR_get hi, cls_alone n (Nat.le_refl _), if_pos hi]; rfl
  · have hm := IsF.mid (a := l) (b := []) h
    rw [List.append_nil] at hm
    obtain ⟨hnc, hF⟩ := hm
    obtain ⟨h1, he⟩ := MayE.app.1 h.1
    have hPl := partR_len n l
    have hR := (partR_is h1).right
    have hIn : InP (partR n l) e.u e.v := by unfold InP; rw [hPl]; exact he
    have hJ : partR n (l ++ [e]) = (partR n l).map (glue (min (at0 (partR n l) e.u) (at0 (partR n l) e.v)) (max (at0 (partR n l) e.u) (at0 (partR n l) e.v))) := by
      rw [partR_app h1 he]; exact if_pos ⟨hR, hIn⟩
    have hne : at0 (partR n l) e.u ≠ at0 (partR n l) e.v := fun g => hnc ((con_iff h1 ⟨he.1, he.2.1⟩ he.2.2).2 g)
    have ihu := ih hF e.u.toNat (by have := he; unfold EdIn at this; omega)
    have ihv := ih hF e.v.toNat (by have := he; unfold EdIn at this; omega)
    have ihi := ih hF i hi
    have gu : (partR n l).getD e.u.toNat default = at0 (partR n l) e.u := rfl
    have gv : (partR n l).getD e.v.toNat default = at0 (partR n l) e.v := rfl
    rw [gu] at ihu; rw [gv] at ihv
    rw [hJ]
    obtain ⟨P, eP⟩ : ∃ P, partR n l = P := ⟨_, rfl⟩
    rw [eP] at hPl hne ihu ihv ihi ⊢
    obtain ⟨a, ea⟩ : ∃ a, at0 P e.u = a := ⟨_, rfl⟩
    obtain ⟨b, eb⟩ : ∃ a, at0 P e.v = a := ⟨_, rfl⟩
    rw [ea] at ihu hne ⊢; rw [eb] at ihv hne ⊢
    obtain ⟨lo, elo⟩ : ∃ a', min a b = a' := ⟨_, rfl⟩
    obtain ⟨hi', ehi⟩ : ∃ a', max a b = a' := ⟨_, rfl⟩
    rw [elo, ehi]
    have hlh : lo ≠ hi' := by omega
    have hg : at0 (P.map (glue lo hi')) e.u = lo := by
      have : at0 (P.map (glue lo hi')) e.u = glue lo hi' (at0 P e.u) := by unfold at0; exact getD_mapI (by rw [hPl]; have := he; unfold EdIn at this; omega)
      rw [this, ea]; unfold glue; split <;> omega
    have sum : (clsN P lo n).length + (clsN P hi' n).length = ecn P lo l + ecn P hi' l + 2 := by
      rcases Int.le_total a b with h' | h'
      · rw [Int.min_eq_left h'] at elo; rw [Int.max_eq_right h'] at ehi
        subst elo; subst ehi; omega
      · rw [Int.min_eq_right h'] at elo; rw [Int.max_eq_left h'] at ehi
        subst elo; subst ehi; omega
    rw [getD_mapI (by omega), cls_glue hlh _ n (by omega), ecn_app, ecn_glue hPl hlh _ l h1, hg]
    by_cases e1 : P.getD i default = hi'
    · have : glue lo hi' (P.getD i default) = lo := if_pos e1
      rw [this, if_pos rfl, if_pos rfl, if_pos rfl, sum]
    · have : glue lo hi' (P.getD i default) = P.getD i default := if_neg e1
      rw [this]
      by_cases e2 : P.getD i default = lo
      · rw [e2, if_pos rfl, if_pos rfl, if_pos rfl, sum]
      · rw [if_neg e2, if_neg e2, if_neg e1, if_neg e1, if_neg (fun g => e2 g.symm), ihi]
theorem ecn_next {P : List Int} {x : Int} {l : List Ed} {i : Nat} {e : Ed} (h : l[i]? = some e) : ecn P x (l.take (i + 1)) = ecn P x (l.take i) + (if at0 P e.u = x then 1 else 0) := by
  rw [List.take_add_one, h, Option.toList_some, ecn_app]

theorem trees_big (n : Int) (l : List Ed)  (h : smallB n l = false) : ACalls Try.prog 5 [iPV n, .sl (l.map edPV)] (bPV true) := by
  refine ent Try.func5 ?_
  have c0 := small_any n l
  rw [h] at c0
  clear h
  repeat (refine AW_seq ?_)
  refine reg ?_
  refine run 1 ?_
  refine fin [0, 1] [] ?_
  repeat (refine AW_seq ?_)
  refine reg ?_
  refine run 2 ?_
  refine call (fun _ => c0) ?_
  refine run 2 ?_
  refine run 2 ?_
  refine skpV (.c (.v (.bool false))) ?_
  refine run 2 ?_
  refine fin [0, 1, 21] [] ?_
  repeat (refine AW_seq ?_)
  refine tstT ?_
  repeat (refine AW_seq ?_)
  refine reg ?_
  refine call (fun _ => awake_true) ?_
  refine run 1 ?_
  refine fin [4] [] ?_
  refine AW_ret (ret ?_)
  rfl

theorem trees_not (n : Int) (l : List Ed)  (h : smallB n l = true) (hF : ¬ IsFi n l) : ACalls Try.prog 5 [iPV n, .sl (l.map edPV)] (bPV true) := by
  refine ent Try.func5 ?_
  have hl : l.length < 1099511627776 := by unfold smallB at h; simp at h; omega
  have c0 := small_any n l
  rw [h] at c0
  have c1 := gRight_no n l hl hF
  clear h hF
  repeat (refine AW_seq ?_)
  refine reg ?_
  refine run 1 ?_
  refine fin [0, 1] [] ?_
  repeat (refine AW_seq ?_)
  refine reg ?_
  refine run 2 ?_
  refine call (fun _ => c0) ?_
  refine run 2 ?_
  refine run 2 ?_
  refine call (fun _ => c1) ?_
  refine run 2 ?_
  refine fin [0, 1, 21] [] ?_
  repeat (refine AW_seq ?_)
  refine tstT ?_
  repeat (refine AW_seq ?_)
  refine reg ?_
  refine call (fun _ => awake_true) ?_
  refine run 1 ?_
  refine fin [4] [] ?_
  refine AW_ret (ret ?_)
  rfl

theorem trees_yes (n : Nat) (l : List Ed) (h : smallB n l = true) (hn : n ≤ 1024) (hF : IsF n l) : ACalls Try.prog 5 [iPV n, .sl (l.map edPV)] (bPV true) := by
  refine ent Try.func5 ?_
  have c0 := small_any n l
  rw [h] at c0
  obtain ⟨hl, hn30⟩ := small_le h hn
  clear h
  have c1 := gRight_yes n hn l (by omega) hF
  have c2 := ofYes n hn l (by omega) hF.1
  have hPl := partR_len n l
  have hm := hF.1
  have hR := (partR_is hF.1).right
  have hT : ∀ v : Nat, v < n → ∃ C : List Int, C.length = ecn (partR n l) ((partR n l).getD v default) l + 1 ∧ C.length ≤ n ∧ ACalls Try.prog 12 [iPV n, .sl (l.map edPV), iPV v] (.sl (C.map iPV)) ∧ ACalls Try.prog 13 [.sl ((partR n l).map iPV), iPV v] (.sl (C.map iPV)) := fun v hv => by
    have e1 : clsR (partR n l) (v : Int) = clsN (partR n l) ((partR n l).getD v default) n := by
      unfold clsR
      rw [if_pos ⟨hR, by omega, by rw [hPl]; omega⟩, hPl]; rfl
    refine ⟨clsR (partR n l) v, by rw [e1]; exact tree_count l hF v hv, by have := clsR_len (partR n l) (v : Int); omega, tree_yes n hn l (by omega) hF v, class_any (partR n l) v (by omega)⟩
  clear hF hR
  obtain ⟨P, eP⟩ : ∃ zz, partR n l = zz := ⟨_, rfl⟩
  rw [eP] at c2 hPl hT
  clear eP
  obtain ⟨hm, -⟩ : Go.RowKit.Hid (MayE n l) ∧ True := ⟨hm, trivial⟩
  rename_i hm0
  clear hm0
  obtain ⟨hT, -⟩ : Go.RowKit.Hid (∀ v : Nat, v < n → ∃ C : List Int, C.length = ecn P (P.getD v default) l + 1 ∧ C.length ≤ n ∧ ACalls Try.prog 12 [iPV n, .sl (l.map edPV), iPV v] (.sl (C.map iPV)) ∧ ACalls Try.prog 13 [.sl (P.map iPV), iPV v] (.sl (C.map iPV))) ∧ True := ⟨hT, trivial⟩
  rename_i hT0
  clear hT0
  repeat (refine AW_seq ?_)
  refine reg ?_
  refine run 1 ?_
  refine fin [0, 1] [] ?_
  repeat (refine AW_seq ?_)
  refine reg ?_
  refine run 2 ?_
  refine call (fun _ => c0) ?_
  refine run 2 ?_
  refine run 2 ?_
  refine call (fun _ => c1) ?_
  refine run 2 ?_
  refine fin [0, 1, 21] [] ?_
  repeat (refine AW_seq ?_)
  refine tstF ?_
  refine AW_skip ?_
  repeat (refine AW_seq ?_)
  refine reg ?_
  refine run 2 ?_
  refine call (fun _ => c2) ?_
  refine run 2 ?_
  refine run 2 ?_
  refine run 1 ?_
  refine fin [0, 1, 5, 6] [] ?_
  repeat (refine AW_seq ?_)
  refine reg ?_
  refine run 2 ?_
  refine fin [0, 1, 5, 6, 29, 30] [] ?_
  repeat (refine AW_seq ?_)
  refine AW_block ?_
  refine AW_loops (ι := Nat) (fun v => ⟨lk [(0, .c (iPV n)), (1, .c (.sl (l.map edPV))), (5, .c (.sl (P.map iPV))), (6, .c (iPV 0)), (29, .c (iPV n)), (30, .c (iPV v))], lkM ([]), lkG [] 0⟩) (fun v => v ≤ n) (fun v => n - v) 0 (Nat.zero_le _) wk ?_
  rintro v hv
  repeat (refine AW_seq ?_)
  refine reg ?_
  refine run 1 ?_
  refine fin [0, 1, 5, 6, 29, 30, 31] [] ?_
  repeat (refine AW_seq ?_)
  refine tst (fun h2 => ?_) (fun h2 => ?_)
  · simp at h2
    obtain ⟨C, hC, hCn, c3, c4⟩ := hT.out v h2
    have c5 := same_any C C (by omega) (by omega)
    rw [decide_eq_true rfl] at c5
    obtain ⟨x, gx⟩ : ∃ x, P.getD v default = x := ⟨_, rfl⟩
    rw [gx] at hC
    obtain ⟨hC, -⟩ : Go.RowKit.Hid (C.length = ecn P x l + 1) ∧ True := ⟨hC, trivial⟩
    rename_i hC0
    clear hC0
    have h00 : ((0 : Nat) : Int) = 0 := rfl
    refine AW_skip ?_
    repeat (refine AW_seq ?_)
    refine AW_block ?_
    repeat (refine AW_seq ?_)
    refine reg ?_
    refine run 2 ?_
    refine fin [0, 1, 5, 6, 7, 29, 30] [] ?_
    repeat (refine AW_seq ?_)
    refine reg ?_
    refine run 2 ?_
    refine run 1 ?_
    refine call (fun _ => c3) ?_
    refine run 1 ?_
    refine fin [0, 1, 5, 6, 7, 8, 29, 30] [] ?_
    repeat (refine AW_seq ?_)
    refine reg ?_
    refine run 1 ?_
    refine fin [0, 1, 5, 6, 7, 8, 9, 29, 30] [] ?_
    repeat (refine AW_seq ?_)
    refine reg ?_
    refine run 2 ?_
    refine run 1 ?_
    refine fin [0, 1, 5, 6, 7, 8, 9, 29, 30, 37, 38, 39] [] ?_
    repeat (refine AW_seq ?_)
    refine AW_block ?_
    refine AW_loops (ι := Nat × Nat) (fun z => ⟨lk [(0, .c (iPV n)), (1, .c (.sl (l.map edPV))), (5, .c (.sl (P.map iPV))), (6, .c (iPV 0)), (7, .c (iPV v)), (8, .c (.sl (C.map iPV))), (9, .c (iPV z.2)), (29, .c (iPV n)), (30, .c (iPV v)), (37, .c (.sl (l.map edPV))), (38, .c (iPV l.length)), (39, .c (iPV z.1))], lkM ([]), lkG [] 0⟩) (fun z => z.1 ≤ l.length ∧ z.2 ≤ z.1 ∧ ecn P x (l.take z.1) = z.2) (fun z => l.length - z.1) (0, 0) ⟨Nat.zero_le _, Nat.le_refl _, rfl⟩ wk ?_
    rintro ⟨j, m⟩ ⟨hj, hmj, hE⟩
    simp only at hj hmj hE
    obtain ⟨hE, -⟩ : Go.RowKit.Hid (ecn P x (l.take j) = m) ∧ True := ⟨hE, trivial⟩
    rename_i hE0
    clear hE0
    repeat (refine AW_seq ?_)
    refine reg ?_
    refine run 1 ?_
    refine fin [0, 1, 5, 6, 7, 8, 9, 29, 30, 37, 38, 39, 40] [] ?_
    repeat (refine AW_seq ?_)
    refine tst (fun h3 => ?_) (fun h3 => ?_)
    · simp at h3
      obtain ⟨y, hy, gy⟩ := getD_at h3
      obtain ⟨yu, yv, yt⟩ := y
      have hb := hm.out _ (List.mem_of_getElem? hy)
      unfold EdIn at hb
      simp only at hb
      obtain ⟨u, rfl⟩ : ∃ k : Nat, yu = k := ⟨yu.toNat, by omega⟩
      have hu : u < n := by omega
      clear hb
      obtain ⟨a, ga⟩ : ∃ q, P.getD u default = q := ⟨_, rfl⟩
      refine AW_skip ?_
      repeat (refine AW_seq ?_)
      refine AW_block ?_
      repeat (refine AW_seq ?_)
      refine reg ?_
      refine run 2 ?_
      refine run 2 ?_
      refine fin [0, 1, 5, 6, 7, 8, 9, 11, 29, 30, 37, 38, 39] [(12, 0)] ?_
      repeat (refine AW_seq ?_)
      refine reg ?_
      refine run 2 ?_
      refine run 2 ?_
      refine run 2 ?_
      refine run 2 ?_
      refine run 2 ?_
      refine fin [0, 1, 5, 6, 7, 8, 9, 29, 30, 37, 38, 39, 52] [] ?_
      repeat (refine AW_seq ?_)
      refine tst (fun h4 => ?_) (fun h4 => ?_)
      · simp at h4
        repeat (refine AW_seq ?_)
        refine reg ?_
        refine run 2 ?_
        refine run 1 ?_
        refine finN ?_
        refine kp [0, 1, 5, 6, 7, 8, 9, 29, 30, 37, 38, 39] [] ?_
        repeat (refine AW_seq ?_)
        refine reg ?_
        refine run 2 ?_
        refine finN ?_
        exact ⟨(j + 1, m + 1), by show l.length - (j + 1) < l.length - j; omega, ⟨by show j + 1 ≤ _; omega, by show m + 1 ≤ j + 1; omega, by
          show ecn P x (l.take (j + 1)) = m + 1
          rw [ecn_next hy, hE.out, if_pos (by show P.getD u default = x; rw [ga]; exact h4)]⟩, wk⟩
      · simp at h4
        refine AW_skip ?_
        repeat (refine AW_seq ?_)
        refine reg ?_
        refine run 2 ?_
        refine finN ?_
        exact ⟨(j + 1, m), by show l.length - (j + 1) < l.length - j; omega, ⟨by show j + 1 ≤ _; omega, by show m ≤ j + 1; omega, by
          show ecn P x (l.take (j + 1)) = m
          rw [ecn_next hy, hE.out, if_neg (by show ¬ P.getD u default = x; rw [ga]; exact h4)]; rfl⟩, wk⟩
    · simp at h3
      have hB : ((C.length : Int) != (m : Int) + 1) = false := by
        have h1 := hE.out
        have h2 := hC.out
        rw [List.take_of_length_le (by omega)] at h1
        rw [bne_eq_false_iff_eq]; omega
      refine AW_exit ?_
      repeat (refine AW_seq ?_)
      refine reg ?_
      refine run 2 ?_
      refine run 1 ?_
      refine call (fun _ => c4) ?_
      refine call (fun _ => c5) ?_
      refine run 2 ?_
      refine run 2 ?_
      refine run 2 ?_
      refine run 2 ?_
      refine fin [0, 1, 5, 6, 29, 30, 68] [] ?_
      repeat (refine AW_seq ?_)
      refine tstF ?_
      refine AW_skip ?_
      repeat (refine AW_seq ?_)
      refine reg ?_
      refine run 2 ?_
      refine finN ?_
      exact ⟨v + 1, by omega, by omega, wk⟩
  · simp at h2
    refine AW_exit ?_
    repeat (refine AW_seq ?_)
    refine reg ?_
    refine run 2 ?_
    refine run 1 ?_
    refine call (fun _ => awake_true) ?_
    refine run 2 ?_
    refine fin [4] [] ?_
    refine AW_ret (ret ?_)
    rfl

theorem trees_any (n : Int) (l : List Ed) : ACalls Try.prog 5 [iPV n, .sl (l.map edPV)] (bPV true) := by
  cases h : smallB n l with
  | false => exact trees_big n l h
  | true =>
    by_cases hF : IsFi n l
    · obtain ⟨k, rfl⟩ : ∃ k : Nat, n = k := ⟨n.toNat, by have := hF.1; omega⟩
      have hn : k ≤ 1024 := by have := hF.2.1; omega
      rw [isFi_nat hn] at hF
      exact trees_yes k l h hn hF
    · exact trees_not n l h hF

end Go.Proofs.Ytlhgjaogpeoaeaa