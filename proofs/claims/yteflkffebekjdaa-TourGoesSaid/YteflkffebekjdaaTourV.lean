/-
  Contracts of the layer tour on plain data: the walk that tells whether a list is a tour, its vertices, its edges.
  Conditions: not too many places.
-/
import Derived.Test.YteflkffebekjdaaTourF
namespace Go.Proofs.Yteflkffebekjdaa
open Go Go.Ab
set_option linter.unusedVariables false
set_option linter.unusedSimpArgs false

def visPV (t : List Int) : PV := .tup [.sl ((visR t).1.map vsPV), bPV (visR t).2]
theorem wlk_len : ∀ (l st : List Int) (vis vis' : List Vs) (st' : List Int), wlk st vis l = some (vis', st') → vis'.length ≤ vis.length + l.length
  | [], st, vis, vis', st', h => by simp only [wlk, Option.some.injEq, Prod.mk.injEq] at h; rw [← h.1]; simp
  | v :: l, st, vis, vis', st', h => by
    rw [wlk] at h
    split at h
    · have := wlk_len l _ _ _ _ h; simp only [List.length_cons]; omega
    · split at h
      · cases h
      · have := wlk_len l _ _ _ _ h; simp only [List.length_cons, List.length_append, List.length_nil] at this ⊢; omega
theorem visR_len (t : List Int) : (visR t).1.length ≤ t.length := by
  cases t with
  | nil => exact Nat.le_refl _
  | cons r l =>
    simp only [visR]
    cases h : wlk [r] [(r, 0)] l with
    | none => exact Nat.zero_le _
    | some y =>
      obtain ⟨vis, st⟩ := y
      have := wlk_len _ _ _ _ _ h
      cases st with
      | nil => exact Nat.zero_le _
      | cons x st => cases st with
        | nil => simp only [fin1, List.length_cons, List.length_nil] at this ⊢; omega
        | cons y st => exact Nat.zero_le _
theorem way_last {c : Int} {w W : List Int} (h : W = (c :: w).reverse) : W.getD (W.length - 1) default = c := by
  subst h; simp
theorem way_snd {c : Int} {w W : List Int} (h : W = (c :: w).reverse) (h1 : 0 < w.length) : ∃ w', w = (W[w.length - 1]?.getD 0) :: w' := by
  subst h
  cases w with
  | nil => simp at h1
  | cons q w => exact ⟨w, by simp⟩
theorem way_len {c : Int} {w W : List Int} (h : W = (c :: w).reverse) : W.length = w.length + 1 := by subst h; simp
theorem way_cut {c : Int} {w W : List Int} (h : W = (c :: w).reverse) : W.take (W.length - 1) = w.reverse := by subst h; simp
theorem drop_at {l : List Int} {i : Nat} {x : Int} (h : l[i]? = some x) : l.drop i = x :: l.drop (i + 1) := by
  obtain ⟨h1, h2⟩ := List.getElem?_eq_some_iff.1 h
  rw [List.drop_eq_getElem_cons h1, h2]
theorem wlk_up {c q : Int} {w : List Int} {vis : List Vs} {l : List Int} : wlk (c :: q :: w) vis (q :: l) = wlk (q :: w) vis l := by
  rw [wlk]; simp only [List.tail_cons, List.head?_cons, ↓reduceIte]
theorem wlk_dn {c x : Int} {w : List Int} {vis : List Vs} {l : List Int} (h : w.head? ≠ some x) (hm : x ∉ vis.map Prod.fst) : wlk (c :: w) vis (x :: l) = wlk (x :: c :: w) (vis ++ [(x, c)]) l := by
  rw [wlk]; simp only [List.tail_cons, h, hm, ↓reduceIte, List.headD_cons]
theorem wlk_no {c x : Int} {w : List Int} {vis : List Vs} {l : List Int} (h : w.head? ≠ some x) (hm : x ∈ vis.map Prod.fst) : wlk (c :: w) vis (x :: l) = none := by
  rw [wlk]; simp only [List.tail_cons, h, hm, ↓reduceIte]
theorem head_ne {c : Int} {w W : List Int} {x : Int} (h : W = (c :: w).reverse) (hn : 0 < w.length → ¬ x = W[w.length - 1]?.getD 0) : w.head? ≠ some x := by
  intro e
  cases w with
  | nil => cases e
  | cons q w =>
    simp only [List.head?_cons, Option.some.injEq] at e
    subst e
    obtain ⟨w', h2⟩ := way_snd h (by simp)
    exact hn (by simp) (List.cons.inj h2).1

set_option maxHeartbeats 4000000 in
theorem visits_any (t : List Int) (hl : t.length < 1099511627776) : ACalls Try.prog 35 [.sl (t.map iPV)] (visPV t) := by
  refine ent Try.func35 ?_
  repeat (refine AW_seq ?_)
  refine reg ?_
  refine run 2 ?_
  refine fin [0] [] ?_
  repeat (refine AW_seq ?_)
  refine reg ?_
  refine run 2 ?_
  refine run 1 ?_
  refine fin [0, 13] [] ?_
  repeat (refine AW_seq ?_)
  refine tst (fun h1 => ?_) (fun h1 => ?_)
  · simp at h1
    repeat (refine AW_seq ?_)
    refine reg ?_
    refine run 2 ?_
    refine fin [2, 3] [] ?_
    refine AW_ret (ret ?_)
    rw [h1]; rfl
  · simp at h1
    obtain ⟨r, l, rfl⟩ : ∃ r l, t = r :: l := List.exists_cons_of_ne_nil h1
    clear h1
    simp only [List.length_cons] at hl
    obtain ⟨R, hR0⟩ : ∃ R, wlk [r] [(r, 0)] l = R := ⟨_, rfl⟩
    obtain ⟨hR0, -⟩ : Go.RowKit.Hid (wlk [r] [(r, 0)] l = R) ∧ True := ⟨hR0, trivial⟩
    rename_i hR00
    clear hR00
    have ho1 : ∀ x, one1 x = PV.v (.int .i64 1) := fun _ => rfl
    refine AW_skip ?_
    repeat (refine AW_seq ?_)
    refine reg ?_
    refine run 2 ?_
    refine run 2 ?_
    refine fin [0, 4] [] ?_
    repeat (refine AW_seq ?_)
    refine reg ?_
    refine run 2 ?_
    refine run 2 ?_
    refine fin [0, 4, 5] [(20, 0)] ?_
    repeat (refine AW_seq ?_)
    refine reg ?_
    refine run 2 ?_
    refine run 2 ?_
    refine run 1 ?_
    refine fin [0, 4, 5, 6] [(20, 0), (21, 0)] ?_
    repeat (refine AW_seq ?_)
    refine reg ?_
    refine run 1 ?_
    refine opW ?_
    refine run 1 ?_
    refine fin [0, 5, 6, 7] [(20, 0), (21, 0), (25, 0)] ?_
    repeat (refine AW_seq ?_)
    refine reg ?_
    refine run 2 ?_
    refine run 2 ?_
    refine fin [5, 6, 7, 26, 27, 28] [(20, 0), (21, 0), (25, 0)] ?_
    repeat (refine AW_seq ?_)
    refine AW_block ?_
    refine AW_loops (ι := Nat × List Int × List Vs × List Int) (fun z => ⟨lk [(5, .own (20, 0) z.2.2.1.length), (6, .mo (21, 0)), (7, .own (25, 0) z.2.1.length), (26, .c (.sl (l.map iPV))), (27, .c (iPV l.length)), (28, .c (iPV z.1))], lkM [((20, 0), some ⟨66, 2, z.2.2.1.map vsPV, false, [], none⟩), ((21, 0), some ⟨68, 1, [], true, [], some (.i64, z.2.2.2, z.2.2.2.map one1)⟩), ((25, 0), some ⟨3, 1, z.2.1.map iPV, true, [], none⟩)], lkG [] 1⟩) (fun z => z.1 ≤ l.length ∧ z.2.1.length ≤ z.1 + 1 ∧ z.2.2.1.length ≤ z.1 + 1 ∧ z.2.2.2 = z.2.2.1.map Prod.fst ∧ ∃ c w, z.2.1 = (c :: w).reverse ∧ wlk (c :: w) z.2.2.1 (l.drop z.1) = R) (fun z => l.length - z.1) (0, [r], [(r, 0)], [r]) ⟨Nat.zero_le _, by simp, by simp, rfl, r, [], rfl, hR0.out⟩ wk ?_
    rintro ⟨i, W, vis, ks⟩ ⟨hi, hWl, hvl, hks, c, w, hW, hR⟩
    simp only at hi hWl hvl hks hW hR
    obtain ⟨hks, -⟩ : Go.RowKit.Hid (ks = vis.map Prod.fst) ∧ True := ⟨hks, trivial⟩
    rename_i hks0
    clear hks0
    obtain ⟨hW, -⟩ : Go.RowKit.Hid (W = (c :: w).reverse) ∧ True := ⟨hW, trivial⟩
    rename_i hW0
    clear hW0
    obtain ⟨hR, -⟩ : Go.RowKit.Hid (wlk (c :: w) vis (l.drop i) = R) ∧ True := ⟨hR, trivial⟩
    rename_i hR0
    clear hR0
    have hw1 := way_len hW.out
    have hlast : (W.length : Int) - 1 = ((W.length - 1 : Nat) : Int) := by omega
    have hc := way_last hW.out
    repeat (refine AW_seq ?_)
    refine reg ?_
    refine run 1 ?_
    refine fin [5, 6, 7, 26, 27, 28, 29] [(20, 0), (21, 0), (25, 0)] ?_
    repeat (refine AW_seq ?_)
    refine tst (fun h2 => ?_) (fun h2 => ?_)
    · simp at h2
      obtain ⟨x, hx, hg⟩ := getD_at h2
      refine AW_skip ?_
      repeat (refine AW_seq ?_)
      refine AW_block ?_
      repeat (refine AW_seq ?_)
      refine reg ?_
      refine run 2 ?_
      refine run 1 ?_
      refine fin [5, 6, 7, 9, 26, 27, 28] [(20, 0), (21, 0), (25, 0)] ?_
      repeat (refine AW_seq ?_)
      refine reg ?_
      refine run 2 ?_
      refine run 2 ?_
      refine fin [5, 6, 7, 9, 10, 26, 27, 28] [(20, 0), (21, 0), (25, 0)] ?_
      repeat (refine AW_seq ?_)
      refine reg ?_
      refine run 2 ?_
      refine run 2 ?_
      refine run 2 ?_
      refine run 2 ?_
      refine run 2 ?_
      refine run 1 ?_
      refine fin [5, 6, 7, 9, 10, 26, 27, 28, 45] [(20, 0), (21, 0), (25, 0)] ?_
      repeat (refine AW_seq ?_)
      refine tst (fun h3 => ?_) (fun h3 => ?_)
      · simp at h3
        obtain ⟨w', hw'⟩ := way_snd hW.out h3.1
        obtain ⟨q, hq⟩ : ∃ q, W[w.length - 1]?.getD 0 = q := ⟨_, rfl⟩
        rw [hq] at hw' h3
        obtain ⟨W2, hW2⟩ : ∃ W2, w.reverse = W2 := ⟨_, rfl⟩
        have hW2l : W.length - 1 = W2.length := by rw [← hW2, List.length_reverse]; omega
        have hct : (W.map iPV).take W2.length = W2.map iPV := by rw [← List.map_take, ← hW2l, way_cut hW.out, hW2]
        have hF : ∃ c w, W2 = (c :: w).reverse ∧ wlk (c :: w) vis (l.drop (i + 1)) = R := ⟨q, w', by rw [← hW2, hw'], by rw [← hR.out, drop_at hx, hw', h3.2, wlk_up]⟩
        obtain ⟨hF, -⟩ : Go.RowKit.Hid (∃ c w, W2 = (c :: w).reverse ∧ wlk (c :: w) vis (l.drop (i + 1)) = R) ∧ True := ⟨hF, trivial⟩
        rename_i hF0
        clear hF0
        clear hw' hW2 hq
        repeat (refine AW_seq ?_)
        refine reg ?_
        refine run 2 ?_
        refine run 2 ?_
        refine fin [5, 6, 7, 26, 27, 28] [(20, 0), (21, 0), (25, 0)] ?_
        refine cut 7 ?_
        refine AW_exit ?_
        repeat (refine AW_seq ?_)
        refine reg ?_
        refine run 2 ?_
        refine finN ?_
        exact ⟨(i + 1, W2, vis, ks), by show l.length - (i + 1) < l.length - i; omega, ⟨by show i + 1 ≤ _; omega, by show W2.length ≤ i + 1 + 1; omega, by show vis.length ≤ i + 1 + 1; omega, hks.out, hF⟩, wk⟩
      · simp at h3
        have hne := head_ne (x := x) hW.out (fun hh => h3 (by omega))
        obtain ⟨hne, -⟩ : Go.RowKit.Hid (w.head? ≠ some x) ∧ True := ⟨hne, trivial⟩
        rename_i hne0
        clear hne0
        have ha := atM_one ks x
        obtain ⟨V, hV⟩ : ∃ V, (if x ∈ ks then (1 : Int) else 0) = V := ⟨_, rfl⟩
        rw [hV] at ha
        obtain ⟨hV, -⟩ : Go.RowKit.Hid ((if x ∈ ks then (1 : Int) else 0) = V) ∧ True := ⟨hV, trivial⟩
        rename_i hV0
        clear hV0
        refine AW_skip ?_
        repeat (refine AW_seq ?_)
        refine reg ?_
        refine run 2 ?_
        refine run 2 ?_
        refine fin [5, 6, 7, 9, 10, 26, 27, 28, 52] [(20, 0), (21, 0), (25, 0)] ?_
        repeat (refine AW_seq ?_)
        refine tst (fun h4 => ?_) (fun h4 => ?_)
        · simp at h4
          have hm : x ∈ ks := by
            have := hV.out
            by_cases e : x ∈ ks
            · exact e
            · rw [if_neg e] at this; omega
          have hRn : R = none := by rw [← hR.out, drop_at hx, wlk_no hne.out (by rw [← hks.out]; exact hm)]
          clear hm
          obtain ⟨hRn, -⟩ : Go.RowKit.Hid (R = none) ∧ True := ⟨hRn, trivial⟩
          rename_i hRn0
          clear hRn0
          repeat (refine AW_seq ?_)
          refine reg ?_
          refine run 2 ?_
          refine fin [2, 3] [] ?_
          refine AW_ret (ret ?_)
          rw [visPV, visR, hR0.out, hRn.out]; rfl
        · simp at h4
          have hm : x ∉ ks := by
            intro e
            have := hV.out
            rw [if_pos e] at this; omega
          obtain ⟨ks2, hk2⟩ : ∃ k, keyM ks x = k := ⟨_, rfl⟩
          have hio := insM_one ks x
          rw [hk2] at hio
          obtain ⟨vis2, hv2⟩ : ∃ k, vis ++ [(x, c)] = k := ⟨_, rfl⟩
          have hv2m : vis.map vsPV ++ [PV.agg [PV.v (.int .i64 x), PV.v (.int .i64 c)]] = vis2.map vsPV := by rw [← hv2, List.map_append]; rfl
          have hv2l : vis.length + 1 = vis2.length := by rw [← hv2, List.length_append]; rfl
          obtain ⟨W3, hW3⟩ : ∃ k, W ++ [x] = k := ⟨_, rfl⟩
          have hW3m : W.map iPV ++ [PV.v (.int .i64 x)] = W3.map iPV := by rw [← hW3, List.map_append]; rfl
          have hW3l : W.length + 1 = W3.length := by rw [← hW3, List.length_append]; rfl
          have hF : ks2 = vis2.map Prod.fst ∧ ∃ c w, W3 = (c :: w).reverse ∧ wlk (c :: w) vis2 (l.drop (i + 1)) = R := ⟨by rw [← hk2, keyM_new hm, ← hv2, List.map_append, hks.out]; rfl, x, c :: w, by rw [← hW3, hW.out]; simp, by rw [← hR.out, drop_at hx, wlk_dn hne.out (by rw [← hks.out]; exact hm), hv2]⟩
          obtain ⟨hF, -⟩ : Go.RowKit.Hid (ks2 = vis2.map Prod.fst ∧ ∃ c w, W3 = (c :: w).reverse ∧ wlk (c :: w) vis2 (l.drop (i + 1)) = R) ∧ True := ⟨hF, trivial⟩
          rename_i hF0
          clear hF0
          clear hm hv2 hW3
          refine AW_skip ?_
          repeat (refine AW_seq ?_)
          refine reg ?_
          refine run 2 ?_
          refine run 1 ?_
          refine fin [5, 6, 7, 9, 10, 26, 27, 28] [(20, 0), (21, 0), (25, 0)] ?_
          repeat (refine AW_seq ?_)
          refine reg ?_
          refine run 2 ?_
          refine run 2 ?_
          refine run 2 ?_
          refine run 2 ?_
          refine run 2 ?_
          refine fin [5, 6, 7, 9, 26, 27, 28] [(20, 0), (21, 0), (25, 0)] ?_
          repeat (refine AW_seq ?_)
          refine reg ?_
          refine run 2 ?_
          refine run 2 ?_
          refine run 1 ?_
          refine finN ?_
          refine kp [5, 6, 7, 26, 27, 28] [(20, 0), (21, 0), (25, 0)] ?_
          repeat (refine AW_seq ?_)
          refine reg ?_
          refine run 2 ?_
          refine finN ?_
          exact ⟨(i + 1, W3, vis2, ks2), by show l.length - (i + 1) < l.length - i; omega, ⟨by show i + 1 ≤ _; omega, by show W3.length ≤ i + 1 + 1; omega, by show vis2.length ≤ i + 1 + 1; omega, hF⟩, wk⟩
    · simp at h2
      refine AW_exit ?_
      repeat (refine AW_seq ?_)
      refine reg ?_
      refine run 2 ?_
      refine run 1 ?_
      refine fin [5, 71] [(20, 0)] ?_
      repeat (refine AW_seq ?_)
      refine tst (fun h5 => ?_) (fun h5 => ?_)
      · simp at h5
        repeat (refine AW_seq ?_)
        refine reg ?_
        refine run 2 ?_
        refine fin [2, 3] [] ?_
        refine AW_ret (ret ?_)
        have hw : ∃ q w', w = q :: w' := by
          cases w with
          | nil => exact absurd h5 (by simp)
          | cons q w' => exact ⟨q, w', rfl⟩
        obtain ⟨q', w', rfl⟩ := hw
        rw [visPV, visR, hR0.out, ← hR.out, List.drop_of_length_le (by omega)]; rfl
      · simp at h5
        refine AW_skip ?_
        repeat (refine AW_seq ?_)
        refine reg ?_
        refine run 2 ?_
        refine run 1 ?_
        refine fin [2, 3] [(20, 0)] ?_
        refine AW_ret (ret ?_)
        have hw : w = [] := by
          first | exact h5 | exact List.length_eq_zero_iff.1 (by omega)
        subst hw
        rw [visPV, visR, hR0.out, ← hR.out, List.drop_of_length_le (by omega)]; rfl

theorem right_any (t : List Int) (hl : t.length < 1099511627776) : ACalls Try.prog 15 [.sl (t.map iPV)] (bPV (isT t)) := by
  refine ent Try.func15 ?_
  have hv := visits_any t hl
  rw [visPV, show (visR t).2 = isT t from rfl] at hv
  obtain ⟨V, hV⟩ : ∃ V, (visR t).1 = V := ⟨_, rfl⟩
  obtain ⟨B, hB⟩ : ∃ B, isT t = B := ⟨_, rfl⟩
  rw [hV, hB] at hv
  rw [hB]
  clear hV hB
  repeat (refine AW_seq ?_)
  refine reg ?_
  refine run 1 ?_
  refine fin [0] [] ?_
  repeat (refine AW_seq ?_)
  refine reg ?_
  refine run 1 ?_
  refine call (fun _ => hv) ?_
  refine run 2 ?_
  refine run 2 ?_
  refine run 1 ?_
  refine fin [4] [] ?_
  repeat (refine AW_seq ?_)
  refine reg ?_
  refine run 2 ?_
  refine fin [2] [] ?_
  refine AW_ret (ret ?_)
  rfl

theorem map_take {α β : Type} (f : α → β) (l : List α) (i : Nat) : (l.map f).take i = (l.take i).map f := List.map_take.symm
theorem take_next {α : Type} {l : List α} {i : Nat} {x : α} (h : l[i]? = some x) : l.take (i + 1) = l.take i ++ [x] := by rw [List.take_add_one, h]; rfl
def ed2 (x : Vs) : Ed := ed x.1 x.2
theorem tail_map {α β : Type} (f : α → β) (l : List α) (i : Nat) : ((l.take (i + 1)).drop 1).map f = ((l.drop 1).take i).map f := by
  cases l <;> simp

theorem vertices_any (t : List Int) (hl : t.length < 1099511627776) : FCalls Try.prog 17 [.sl (t.map iPV)] ⟨3, 1, (verts t).map iPV, true, [], none⟩ := by
  refine entF Try.func17 ?_
  have hv := visits_any t hl
  rw [visPV] at hv
  obtain ⟨V, hV⟩ : ∃ V, (visR t).1 = V := ⟨_, rfl⟩
  obtain ⟨B, hB⟩ : ∃ B, (visR t).2 = B := ⟨_, rfl⟩
  rw [hV, hB] at hv
  have hVl : V.length < 1099511627776 := by rw [← hV]; exact Nat.lt_of_le_of_lt (visR_len t) hl
  rw [verts, hV]
  clear hV hB
  repeat (refine AW_seq ?_)
  refine reg ?_
  refine run 1 ?_
  refine fin [0] [] ?_
  repeat (refine AW_seq ?_)
  refine reg ?_
  refine run 1 ?_
  refine fin [0, 3] [] ?_
  refine seed 3 4 3 1 ?_
  repeat (refine AW_seq ?_)
  refine reg ?_
  refine run 1 ?_
  refine call (fun _ => hv) ?_
  refine run 2 ?_
  refine run 2 ?_
  refine run 1 ?_
  refine fin [3, 4] [(4, 0)] ?_
  repeat (refine AW_seq ?_)
  refine reg ?_
  refine run 2 ?_
  refine run 1 ?_
  refine fin [3, 13, 14, 15] [(4, 0)] ?_
  repeat (refine AW_seq ?_)
  refine AW_block ?_
  refine AW_loops (ι := Nat × List Int) (fun z => ⟨lk [(3, .own (4, 0) z.2.length), (13, .c (.sl (V.map vsPV))), (14, .c (iPV V.length)), (15, .c (iPV z.1))], lkM [((4, 0), some ⟨3, 1, z.2.map iPV, true, [], none⟩)], lkG [] 1⟩) (fun z => z.1 ≤ V.length ∧ z.2 = (V.take z.1).map Prod.fst) (fun z => V.length - z.1) (0, []) ⟨Nat.zero_le _, rfl⟩ wk ?_
  rintro ⟨i, o⟩ ⟨hi, ho⟩
  simp only at hi ho
  have hol : o.length = i := by rw [ho, List.length_map, List.length_take]; omega
  obtain ⟨ho, -⟩ : Go.RowKit.Hid (o = (V.take i).map Prod.fst) ∧ True := ⟨ho, trivial⟩
  rename_i ho0
  clear ho0
  repeat (refine AW_seq ?_)
  refine reg ?_
  refine run 1 ?_
  refine fin [3, 13, 14, 15, 16] [(4, 0)] ?_
  repeat (refine AW_seq ?_)
  refine tst (fun h1 => ?_) (fun h1 => ?_)
  · simp at h1
    obtain ⟨x, hx, hg⟩ := getD_at h1
    obtain ⟨o2, ho2⟩ : ∃ k, o ++ [x.1] = k := ⟨_, rfl⟩
    have ho2m : o.map iPV ++ [PV.v (.int .i64 x.1)] = o2.map iPV := by rw [← ho2, List.map_append]; rfl
    have ho2l : o.length + 1 = o2.length := by rw [← ho2, List.length_append]; rfl
    obtain ⟨ho2, -⟩ : Go.RowKit.Hid (o ++ [x.1] = o2) ∧ True := ⟨ho2, trivial⟩
    rename_i ho20
    clear ho20
    refine AW_skip ?_
    repeat (refine AW_seq ?_)
    refine AW_block ?_
    repeat (refine AW_seq ?_)
    refine reg ?_
    refine run 2 ?_
    refine run 2 ?_
    refine fin [3, 7, 13, 14, 15] [(4, 0), (8, 1)] ?_
    repeat (refine AW_seq ?_)
    refine reg ?_
    refine run 2 ?_
    refine run 2 ?_
    refine run 2 ?_
    refine finN ?_
    refine kp [3, 13, 14, 15] [(4, 0)] ?_
    repeat (refine AW_seq ?_)
    refine reg ?_
    refine run 2 ?_
    refine finN ?_
    refine ⟨(i + 1, o2), by show V.length - (i + 1) < V.length - i; omega, ⟨by show i + 1 ≤ _; omega, ?_⟩, wk⟩
    show o2 = (V.take (i + 1)).map Prod.fst
    rw [← ho2.out, ho.out, take_next hx, List.map_append]; rfl
  · simp at h1
    refine AW_exit ?_
    repeat (refine AW_seq ?_)
    refine reg ?_
    refine run 2 ?_
    refine fin [2] [(4, 0)] ?_
    refine AW_ret (retF ?_)
    have e1 : o = V.map Prod.fst := by rw [ho.out, List.take_of_length_le (by omega)]
    rw [e1]

theorem edges_any (t : List Int) (hl : t.length < 1099511627776) : FCalls Try.prog 16 [.sl (t.map iPV)] ⟨38, 3, (edges t).map edPV, true, [], none⟩ := by
  refine entF Try.func16 ?_
  have hv := visits_any t hl
  rw [visPV] at hv
  obtain ⟨V, hV⟩ : ∃ V, (visR t).1 = V := ⟨_, rfl⟩
  obtain ⟨B, hB⟩ : ∃ B, (visR t).2 = B := ⟨_, rfl⟩
  rw [hV, hB] at hv
  have hVl : V.length < 1099511627776 := by rw [← hV]; exact Nat.lt_of_le_of_lt (visR_len t) hl
  rw [edges, hV, show (fun x : Vs => ed x.1 x.2) = ed2 from rfl]
  clear hV hB
  repeat (refine AW_seq ?_)
  refine reg ?_
  refine run 1 ?_
  refine fin [0] [] ?_
  repeat (refine AW_seq ?_)
  refine reg ?_
  refine run 1 ?_
  refine fin [0, 3] [] ?_
  refine seed 3 4 38 3 ?_
  repeat (refine AW_seq ?_)
  refine reg ?_
  refine run 1 ?_
  refine call (fun _ => hv) ?_
  refine run 2 ?_
  refine run 2 ?_
  refine run 1 ?_
  refine fin [3, 4] [(4, 0)] ?_
  repeat (refine AW_seq ?_)
  refine reg ?_
  refine run 2 ?_
  refine run 1 ?_
  refine fin [3, 13, 14, 15] [(4, 0)] ?_
  repeat (refine AW_seq ?_)
  refine AW_block ?_
  refine AW_loops (ι := Nat × List Ed) (fun z => ⟨lk [(3, .own (4, 0) z.2.length), (13, .c (.sl (V.map vsPV))), (14, .c (iPV V.length)), (15, .c (iPV z.1))], lkM [((4, 0), some ⟨38, 3, z.2.map edPV, true, [], none⟩)], lkG [] 1⟩) (fun z => z.1 ≤ V.length ∧ z.2 = ((V.take z.1).drop 1).map ed2) (fun z => V.length - z.1) (0, []) ⟨Nat.zero_le _, rfl⟩ wk ?_
  rintro ⟨i, o⟩ ⟨hi, ho⟩
  simp only at hi ho
  have hol : o.length ≤ i := by rw [ho, List.length_map, List.length_drop, List.length_take]; omega
  obtain ⟨ho, -⟩ : Go.RowKit.Hid (o = ((V.take i).drop 1).map ed2) ∧ True := ⟨ho, trivial⟩
  rename_i ho0
  clear ho0
  repeat (refine AW_seq ?_)
  refine reg ?_
  refine run 1 ?_
  refine fin [3, 13, 14, 15, 16] [(4, 0)] ?_
  repeat (refine AW_seq ?_)
  refine tst (fun h1 => ?_) (fun h1 => ?_)
  · simp at h1
    obtain ⟨x, hx, hg⟩ := getD_at h1
    refine AW_skip ?_
    repeat (refine AW_seq ?_)
    refine AW_block ?_
    repeat (refine AW_seq ?_)
    refine reg ?_
    refine run 2 ?_
    refine run 2 ?_
    refine run 2 ?_
    refine fin [3, 6, 7, 13, 14, 15] [(4, 0), (8, 1)] ?_
    repeat (refine AW_seq ?_)
    refine reg ?_
    refine run 2 ?_
    refine fin [3, 7, 13, 14, 15, 21] [(4, 0), (8, 1)] ?_
    repeat (refine AW_seq ?_)
    refine tst (fun h2 => ?_) (fun h2 => ?_)
    · simp at h2
      obtain ⟨o2, ho2⟩ : ∃ k, o ++ [ed x.1 x.2] = k := ⟨_, rfl⟩
      have ho2m : o.map edPV ++ [PV.agg [PV.v (.int .i64 (ed x.1 x.2).u), PV.v (.int .i64 (ed x.1 x.2).v), PV.v (.int .i64 (ed x.1 x.2).t)]] = o2.map edPV := by rw [← ho2, List.map_append]; rfl
      have ho2l : o.length + 1 = o2.length := by rw [← ho2, List.length_append]; rfl
      obtain ⟨ho2, -⟩ : Go.RowKit.Hid (o ++ [ed x.1 x.2] = o2) ∧ True := ⟨ho2, trivial⟩
      rename_i ho20
      clear ho20
      repeat (refine AW_seq ?_)
      refine reg ?_
      refine run 2 ?_
      refine run 2 ?_
      refine run 1 ?_
      refine call (fun _ => edge_any x.1 x.2) ?_
      refine run 2 ?_
      refine run 1 ?_
      refine finN ?_
      refine kp [3, 13, 14, 15] [(4, 0)] ?_
      repeat (refine AW_seq ?_)
      refine reg ?_
      refine run 2 ?_
      refine finN ?_
      refine ⟨(i + 1, o2), by show V.length - (i + 1) < V.length - i; omega, ⟨by show i + 1 ≤ _; omega, ?_⟩, wk⟩
      show o2 = ((V.take (i + 1)).drop 1).map ed2
      rw [← ho2.out, ho.out, take_next hx, List.drop_append_of_le_length (by rw [List.length_take]; omega), List.map_append]; rfl
    · simp at h2
      refine AW_skip ?_
      repeat (refine AW_seq ?_)
      refine reg ?_
      refine run 2 ?_
      refine finN ?_
      refine ⟨(i + 1, o), by show V.length - (i + 1) < V.length - i; omega, ⟨by show i + 1 ≤ _; omega, ?_⟩, wk⟩
      show o = ((V.take (i + 1)).drop 1).map ed2
      have hi0 : i = 0 := by omega
      rw [ho.out, hi0]; cases V <;> rfl
  · simp at h1
    refine AW_exit ?_
    repeat (refine AW_seq ?_)
    refine reg ?_
    refine run 2 ?_
    refine fin [2] [(4, 0)] ?_
    refine AW_ret (retF ?_)
    have e1 : o = (V.drop 1).map ed2 := by rw [ho.out, List.take_of_length_le (by omega)]
    rw [e1]

end Go.Proofs.Yteflkffebekjdaa