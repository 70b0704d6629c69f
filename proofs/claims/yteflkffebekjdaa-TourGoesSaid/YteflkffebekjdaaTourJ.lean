/-
  Many tours together: what stays so whatever is linked, cut and rerooted.
  Conditions: none.
-/
import Derived.Test.YteflkffebekjdaaTourT
namespace Go.Proofs.Yteflkffebekjdaa
open Go Go.Ab
set_option linter.unusedVariables false
set_option linter.unusedSimpArgs false

def R8 : List Int := [0, 1, 2, 3, 4, 5, 6, 7]
/-- tours, apart, of just the vertices from 0 to 7, and of just these edges -/
structure Inv (T : List (List Int)) (A : List Ed) : Prop where
  tours : ∀ t ∈ T, isT t = true
  all : (T.flatMap verts).Perm R8
  edg : (T.flatMap edges).Perm A

section
variable {α β : Type}
theorem set_perm : ∀ {l : List α} {i : Nat} {x y : α}, l[i]? = some x → (x :: l.set i y).Perm (y :: l)
  | [], i, x, y, h => by simp at h
  | a :: l, 0, x, y, h => by
    simp only [List.getElem?_cons_zero, Option.some.injEq] at h
    subst h
    exact List.Perm.swap _ _ _
  | a :: l, i + 1, x, y, h => by
    simp only [List.getElem?_cons_succ] at h
    simp only [List.set_cons_succ]
    exact (List.Perm.swap _ _ _).trans (((set_perm h).cons a).trans (List.Perm.swap _ _ _))
theorem erase_perm : ∀ {l : List α} {i : Nat} {x : α}, l[i]? = some x → (x :: l.eraseIdx i).Perm l
  | [], i, x, h => by simp at h
  | a :: l, 0, x, h => by
    simp only [List.getElem?_cons_zero, Option.some.injEq] at h
    subst h; exact .refl _
  | a :: l, i + 1, x, h => by
    simp only [List.getElem?_cons_succ] at h
    simp only [List.eraseIdx_cons_succ]
    exact (List.Perm.swap _ _ _).trans ((erase_perm h).cons a)
theorem fm_cons (f : α → List β) (x : α) (l : List α) : (x :: l).flatMap f = f x ++ l.flatMap f := rfl
theorem fm_perm (f : α → List β) {a b : List α} (h : a.Perm b) : (a.flatMap f).Perm (b.flatMap f) := List.Perm.flatMap_right f h
/-- the last one comes to the place of one that goes -/
theorem swap_out {l : List α} {j n : Nat} {x z : α} (hn : l.length = n + 1) (hz : l[n]? = some z) (hj : l[j]? = some x) : ((l.set j z).take n).Perm (l.eraseIdx j) := by
  obtain ⟨L, hL⟩ : ∃ L, l = L ++ [z] := by
    refine ⟨l.take n, ?_⟩
    obtain ⟨h1, h2⟩ := List.getElem?_eq_some_iff.1 hz
    rw [← h2, List.take_append_getElem, List.take_of_length_le (by omega)]
  subst hL
  have hLn : L.length = n := by simp at hn; omega
  have hjl := (List.getElem?_eq_some_iff.1 hj).1
  rw [List.length_append, List.length_cons, List.length_nil] at hjl
  by_cases e : j = n
  · subst e
    rw [List.set_append_right _ _ (by omega), show j - L.length = 0 by omega, List.set_cons_zero, ← hLn, List.take_left, List.eraseIdx_append_of_length_le (by omega)]
    simp
  · rw [List.set_append_left _ _ (by omega), ← hLn, show L.length = (L.set j z).length by simp, List.take_left, List.eraseIdx_append_of_lt_length (by omega)]
    have hj' : L[j]? = some x := by rw [List.getElem?_append_left (by omega)] at hj; exact hj
    have h1 := set_perm (y := z) hj'
    have h2 := (erase_perm hj').symm
    have h3 : (x :: L.set j z).Perm (x :: (L.eraseIdx j ++ [z])) := h1.trans ((h2.cons z).trans (by
      have : (z :: x :: L.eraseIdx j).Perm (x :: z :: L.eraseIdx j) := List.Perm.swap _ _ _
      exact this.trans ((List.perm_append_singleton z (L.eraseIdx j)).symm.cons x)))
    exact List.Perm.cons_inv h3
end

/-! ## which tour has a vertex -/
def atN (v : Int) : List (List Int) → Nat
  | [] => 0
  | t :: T => if v ∈ t then 0 else atN v T + 1
def atR (T : List (List Int)) (v : Int) : Int := if (T.any fun t => decide (v ∈ t)) = true then (atN v T : Int) else -1
theorem atN_eq {v : Int} : ∀ {T : List (List Int)} {i : Nat} {t : List Int}, T[i]? = some t → v ∈ t → (∀ (k : Nat) (y : List Int), k < i → T[k]? = some y → v ∉ y) → atN v T = i
  | [], i, t, h, _, _ => by simp at h
  | z :: T, i, t, h, hv, hm => by
    simp only [atN]
    cases i with
    | zero => simp only [List.getElem?_cons_zero, Option.some.injEq] at h; subst h; rw [if_pos hv]
    | succ i => rw [if_neg (hm 0 z (by omega) rfl), atN_eq (i := i) (by simpa using h) hv (fun k y hk hy => hm (k + 1) y (by omega) (by simpa using hy))]
theorem atR_at {v : Int} {T : List (List Int)} {i : Nat} {t : List Int} (h : T[i]? = some t) (hv : v ∈ t) (hm : ∀ (k : Nat) (y : List Int), k < i → T[k]? = some y → v ∉ y) : atR T v = i := by
  rw [atR, if_pos (List.any_eq_true.2 ⟨t, List.mem_of_getElem? h, by simpa using hv⟩), atN_eq h hv hm]
theorem atR_none {v : Int} {T : List (List Int)} {i : Nat} (hi : T.length ≤ i) (hm : ∀ (k : Nat) (y : List Int), k < i → T[k]? = some y → v ∉ y) : atR T v = -1 := by
  rw [atR, if_neg]
  intro h
  obtain ⟨x, hx, hp⟩ := List.any_eq_true.1 h
  obtain ⟨k, hk⟩ := List.getElem?_of_mem hx
  exact hm k x (by have := (List.getElem?_eq_some_iff.1 hk).1; omega) hk (by simpa using hp)

variable {T : List (List Int)} {A : List Ed}
theorem Inv.nodup (h : Inv T A) : (T.flatMap verts).Nodup := h.all.nodup_iff.2 (by decide)
/-- a vertex is in one tour -/
theorem Inv.one (h : Inv T A) {i j : Nat} {a b : List Int} {v : Int} (hi : T[i]? = some a) (hj : T[j]? = some b) (ha : v ∈ a) (hb : v ∈ b) : i = j := by
  rcases Nat.lt_trichotomy i j with h1 | h1 | h1
  · exfalso
    have hp := (erase_perm hi).symm
    have hn := (fm_perm verts hp).nodup_iff.1 h.nodup
    rw [fm_cons] at hn
    have := (List.nodup_append.1 hn).2.2 v ((mem_verts (h.tours a (List.mem_of_getElem? hi)) v).2 ha) v (by
      refine List.mem_flatMap.2 ⟨b, ?_, (mem_verts (h.tours b (List.mem_of_getElem? hj)) v).2 hb⟩
      refine List.mem_of_getElem? (i := j - 1) ?_
      rw [List.getElem?_eraseIdx, if_neg (by omega), show j - 1 + 1 = j by omega]; exact hj)
    exact this rfl
  · exact h1
  · exfalso
    have hp := (erase_perm hj).symm
    have hn := (fm_perm verts hp).nodup_iff.1 h.nodup
    rw [fm_cons] at hn
    have := (List.nodup_append.1 hn).2.2 v ((mem_verts (h.tours b (List.mem_of_getElem? hj)) v).2 hb) v (by
      refine List.mem_flatMap.2 ⟨a, ?_, (mem_verts (h.tours a (List.mem_of_getElem? hi)) v).2 ha⟩
      refine List.mem_of_getElem? (i := i - 1) ?_
      rw [List.getElem?_eraseIdx, if_neg (by omega), show i - 1 + 1 = i by omega]; exact hi)
    exact this rfl
theorem Inv.has (h : Inv T A) {v : Int} (h0 : 0 ≤ v) (h7 : v ≤ 7) : ∃ (i : Nat) (t : List Int), T[i]? = some t ∧ v ∈ t ∧ atR T v = i := by
  have hv : v ∈ R8 := by simp only [R8, List.mem_cons, List.not_mem_nil, or_false]; omega
  obtain ⟨t, ht, hm⟩ := List.mem_flatMap.1 (h.all.mem_iff.2 hv)
  obtain ⟨i, hi⟩ := List.getElem?_of_mem ht
  have hvt := (mem_verts (h.tours t ht) v).1 hm
  exact ⟨i, t, hi, hvt, atR_at hi hvt fun k y hk hy hvy => by have := h.one hy hi hvy hvt; omega⟩
theorem fm_len {β : Type} {f : List Int → List β} {T : List (List Int)} {t : List Int} (ht : t ∈ T) : (f t).length ≤ (T.flatMap f).length := by
  obtain ⟨i, hi⟩ := List.getElem?_of_mem ht
  have := ((fm_perm f (erase_perm hi).symm)).length_eq
  rw [fm_cons, List.length_append] at this
  omega
theorem Inv.len (h : Inv T A) {t : List Int} (ht : t ∈ T) : t.length ≤ 15 := by
  have h1 := fm_len (f := verts) ht
  rw [h.all.length_eq] at h1
  have h2 := isT_len (h.tours t ht)
  have : R8.length = 8 := rfl
  omega
theorem many_le : ∀ {T : List (List Int)}, (∀ t ∈ T, isT t = true) → T.length ≤ (T.flatMap verts).length
  | [], _ => Nat.le_refl _
  | t :: T, h => by
    have h1 := many_le fun t ht => h t (List.mem_cons_of_mem _ ht)
    have h2 := isT_len (h t List.mem_cons_self)
    rw [fm_cons, List.length_append, List.length_cons]; omega
theorem edges_count {t : List Int} (h : isT t = true) : (edges t).length ≤ (verts t).length := by
  rw [edges, verts, List.length_map, List.length_map, List.length_drop]; omega
theorem fm_le : ∀ {T : List (List Int)}, (∀ t ∈ T, isT t = true) → (T.flatMap edges).length ≤ (T.flatMap verts).length
  | [], _ => Nat.le_refl _
  | t :: T, h => by
    have h1 := fm_le fun t ht => h t (List.mem_cons_of_mem _ ht)
    have h2 := edges_count (h t List.mem_cons_self)
    rw [fm_cons, fm_cons, List.length_append, List.length_append]; omega
theorem Inv.many (h : Inv T A) : T.length ≤ 8 := by
  have := many_le h.tours; rw [h.all.length_eq] at this; exact this
theorem Inv.fewE (h : Inv T A) : A.length ≤ 8 := by
  have := fm_le h.tours; rw [h.all.length_eq, h.edg.length_eq] at this; exact this
theorem fm_flat : ∀ (T : List (List Int)), Flat0 (T.flatMap edges) := fun T e he => by
  obtain ⟨t, -, h⟩ := List.mem_flatMap.1 he
  exact edges_flat t e h
theorem mem_set {l : List (List Int)} {i : Nat} {x y : List Int} (h : y ∈ l.set i x) : y ∈ l ∨ y = x := List.mem_or_eq_of_mem_set h

/-! ## what is done -/
theorem Inv.reroot (h : Inv T A) {i : Nat} {t : List Int} {v : Int} (hi : T[i]? = some t) (hv : v ∈ t) : Inv (T.set i (frm t v)) A := by
  have ht := h.tours t (List.mem_of_getElem? hi)
  obtain ⟨h1, h2, h3, -⟩ := frm_T ht hv
  have hp := set_perm (y := frm t v) hi
  refine ⟨fun y hy => (mem_set hy).elim (h.tours y) (fun e => by rw [e]; exact h1), ?_, ?_⟩
  · have := fm_perm verts hp
    rw [fm_cons, fm_cons] at this
    exact ((List.perm_append_left_iff _).1 (this.trans (h3.append_right _))).trans h.all
  · have := fm_perm edges hp
    rw [fm_cons, fm_cons] at this
    exact ((List.perm_append_left_iff _).1 (this.trans (h2.append_right _))).trans h.edg
theorem cut_sound {t : List Int} {u v : Int} (ht : isT t = true) (he : ed u v ∈ edges t) : isT (cutL (frm t u) v).1 = true ∧ isT (cutL (frm t u) v).2 = true ∧
    (edges t).Perm (ed u v :: (edges (cutL (frm t u) v).1 ++ edges (cutL (frm t u) v).2)) ∧ (verts t).Perm (verts (cutL (frm t u) v).1 ++ verts (cutL (frm t u) v).2) := by
  have hu := (edges_in ht he).1
  obtain ⟨f1, f2, f3, f4⟩ := frm_T ht hu
  obtain ⟨l, el⟩ := frm_head hu
  rw [el] at f1 f2 f3 ⊢
  obtain ⟨P, M, B, e1, e2, e3, e4, e5, e6, e7, e8, e9, -⟩ := cut_T f1 (f2.mem_iff.2 he)
  have hX : cutL (u :: l) v = (P ++ B, M) := by
    obtain ⟨g1, g2, g3⟩ := ends_of (d := 0) e2 e3 e4 e5
    have e1' : u :: l = P ++ M ++ u :: B := by rw [e1]
    rw [e1', cutL, g1, g2, Int.toNat_natCast]
    congr 1
    · rw [show P.length + M.length - 1 + 2 = (P ++ M ++ [u]).length by simp only [List.length_append, List.length_cons, List.length_nil]; omega, List.append_assoc, List.take_left, ← List.append_assoc, show P ++ M ++ u :: B = (P ++ M ++ [u]) ++ B by simp, List.drop_left]
    · rw [show P.length + M.length - 1 + 1 = (P ++ M).length by rw [List.length_append]; omega, List.take_left, List.drop_left]
  rw [hX]
  exact ⟨e6, e7, f2.symm.trans e8, f3.symm.trans e9⟩
theorem Inv.cut (h : Inv T A) {i k : Nat} {t X Y : List Int} {u v : Int} (hi : T[i]? = some t) (he : ed u v ∈ edges t) (hX : cutL (frm t u) v = (X, Y)) (hk : A[k]? = some (ed u v)) : Inv (T.set i X ++ [Y]) (A.take k ++ A.drop (k + 1)) := by
  have ht := h.tours t (List.mem_of_getElem? hi)
  obtain ⟨h1, h2, h3, h4⟩ := cut_sound ht he
  rw [hX] at h1 h2 h3 h4
  have hp := set_perm (y := X) hi
  refine ⟨fun y hy => ?_, ?_, ?_⟩
  · rcases List.mem_append.1 hy with hy | hy
    · exact (mem_set hy).elim (h.tours y) (fun e => by rw [e]; exact h1)
    · simp only [List.mem_singleton] at hy; rw [hy]; exact h2
  · rw [List.flatMap_append, show [Y].flatMap verts = verts Y by simp]
    have := fm_perm verts hp
    rw [fm_cons, fm_cons] at this
    -- verts t ++ S ~ verts X ++ old
    refine List.Perm.trans ?_ h.all
    refine (List.perm_append_left_iff (verts X)).1 ?_
    have q : (verts X ++ ((T.set i X).flatMap verts ++ verts Y)).Perm (verts t ++ (T.set i X).flatMap verts) := by
      refine List.Perm.trans ?_ ((h4.append_right _).symm)
      rw [List.append_assoc]
      exact List.Perm.append_left _ List.perm_append_comm
    exact q.trans this
  · rw [List.flatMap_append, show [Y].flatMap edges = edges Y by simp]
    have := fm_perm edges hp
    rw [fm_cons, fm_cons] at this
    have hA : A.Perm (ed u v :: (A.take k ++ A.drop (k + 1))) := by
      rw [← List.eraseIdx_eq_take_drop_succ]; exact (erase_perm hk).symm
    refine List.Perm.cons_inv (a := ed u v) ?_
    refine List.Perm.trans ?_ hA
    refine List.Perm.trans ?_ h.edg
    refine (List.perm_append_left_iff (edges X)).1 ?_
    have q : (edges X ++ ed u v :: ((T.set i X).flatMap edges ++ edges Y)).Perm (edges t ++ (T.set i X).flatMap edges) := by
      refine List.Perm.trans ?_ ((h3.append_right _).symm)
      refine List.perm_middle.trans ?_
      rw [List.cons_append]
      refine List.Perm.cons _ ?_
      rw [List.append_assoc]
      exact List.Perm.append_left _ List.perm_append_comm
    exact q.trans this
/-- what is left when two of them become one -/
theorem Inv.link (h : Inv T A) {i j : Nat} {a b L : List Int} {u v : Int} (hi : T[i]? = some a) (hj : T[j]? = some b) (hij : i ≠ j) (hu : u ∈ a) (hv : v ∈ b) (hL : L = frm a u ++ frm b v ++ [u]) {T4 : List (List Int)} (hT : T4.Perm ((T.set i L).eraseIdx j)) : Inv T4 (A ++ [ed u v]) := by
  have ta := h.tours a (List.mem_of_getElem? hi)
  have tb := h.tours b (List.mem_of_getElem? hj)
  have hd : ∀ x ∈ a, x ∉ b := fun x hx hy => hij (h.one hi hj hx hy)
  obtain ⟨fa1, fa2, fa3, -⟩ := frm_T ta hu
  obtain ⟨fb1, fb2, fb3, -⟩ := frm_T tb hv
  obtain ⟨a', ea⟩ := frm_head hu
  obtain ⟨b', eb⟩ := frm_head hv
  obtain ⟨t1, t2, t3⟩ := link_T (u := u) (v := v) (a := a') (b := b') (by rw [← ea]; exact fa1) (by rw [← eb]; exact fb1) (by rw [← ea, ← eb]; exact fun x hx hy => hd x ((frm_mem ta hu x).1 hx) ((frm_mem tb hv x).1 hy))
  rw [← ea, ← eb, ← hL] at t1 t2 t3
  have hj' : (T.set i L)[j]? = some b := by rw [List.getElem?_set_ne hij]; exact hj
  have hp1 := set_perm (y := L) hi
  have hp2 := (erase_perm hj')
  refine ⟨fun y hy => ?_, ?_, ?_⟩
  · have hy' := hp2.mem_iff.1 (List.mem_cons_of_mem _ (hT.mem_iff.1 hy))
    exact (mem_set hy').elim (h.tours y) (fun e => by rw [e]; exact t1)
  · refine (fm_perm verts hT).trans (List.Perm.trans ?_ h.all)
    have q1 := fm_perm verts hp1
    have q2 := fm_perm verts hp2
    rw [fm_cons, fm_cons] at q1
    rw [fm_cons] at q2
    rw [t3] at q1
    refine (List.perm_append_left_iff (verts a ++ verts b)).1 ?_
    rw [List.append_assoc]
    refine ((q2.append_left (verts a)).trans q1).trans ?_
    exact (fa3.append fb3).append_right _
  · refine (fm_perm edges hT).trans (List.Perm.trans ?_ (h.edg.append_right [ed u v]))
    have q1 := fm_perm edges hp1
    have q2 := fm_perm edges hp2
    rw [fm_cons, fm_cons] at q1
    rw [fm_cons] at q2
    rw [t2] at q1
    refine (List.perm_append_left_iff (edges a ++ edges b)).1 ?_
    rw [List.append_assoc]
    refine ((q2.append_left (edges a)).trans q1).trans ?_
    refine (((fa2.append (fb2.cons (ed u v))).append_right _)).trans ?_
    rw [List.append_assoc, List.cons_append]
    refine List.perm_middle.trans ?_
    rw [← List.append_assoc, ← List.append_assoc]
    exact (List.perm_append_singleton _ _).symm
theorem Inv.edge_in (h : Inv T A) {i : Nat} {t : List Int} {u v : Int} (hi : T[i]? = some t) (hu : u ∈ t) : ed u v ∈ edges t ↔ ed u v ∈ A := by
  rw [← h.edg.mem_iff]
  constructor
  · exact fun he => List.mem_flatMap.2 ⟨t, List.mem_of_getElem? hi, he⟩
  · intro he
    obtain ⟨y, hy, hey⟩ := List.mem_flatMap.1 he
    obtain ⟨k, hk⟩ := List.getElem?_of_mem hy
    have := h.one hk hi (edges_in (h.tours y hy) hey).1 hu
    subst this
    rw [hk, Option.some.injEq] at hi
    subst hi; exact hey
theorem Inv.start : Inv ((List.range 8).map fun k : Nat => [(k : Int)]) [] := ⟨by decide +kernel, by decide +kernel, by decide +kernel⟩
/-- the last place of an edge -/
def lstE (A : List Ed) (e : Ed) : Nat → Int
  | 0 => -1
  | n + 1 => if A.getD n default = e then (n : Int) else lstE A e n
theorem lstE_spec {A : List Ed} {e : Ed} : ∀ n, n ≤ A.length → (lstE A e n = -1 ∧ ∀ k, k < n → A[k]? ≠ some e) ∨ ∃ k : Nat, lstE A e n = k ∧ k < n ∧ A[k]? = some e
  | 0, _ => .inl ⟨rfl, fun k h => absurd h (Nat.not_lt_zero k)⟩
  | n + 1, hn => by
    simp only [lstE]
    have e1 : A.getD n default = A[n]'(by omega) := by rw [List.getD_eq_getElem?_getD, List.getElem?_eq_getElem (show n < A.length by omega)]; rfl
    split
    · rename_i h
      refine .inr ⟨n, rfl, by omega, ?_⟩
      rw [List.getElem?_eq_getElem (show n < A.length by omega), ← e1, h]
    · rename_i h
      rcases lstE_spec (A := A) (e := e) n (by omega) with ⟨h1, h2⟩ | ⟨k, h1, h2, h3⟩
      · refine .inl ⟨h1, fun k hk => ?_⟩
        rcases Nat.lt_or_ge k n with h3 | h3
        · exact h2 k h3
        · obtain rfl : k = n := by omega
          rw [List.getElem?_eq_getElem (show k < A.length by omega), ← e1]
          intro hh; exact h (Option.some.inj hh)
      · exact .inr ⟨k, h1, by omega, h3⟩
/-! ## what the document's calls answer of tours that are apart -/
def rowPV (t : List Int) : PV := .sl (t.map iPV)
theorem swA {T : List (List Int)} {L x z : List Int} {i j n : Nat} (hn : T.length = n + 1) (hz : T[n]? = some z) (hj : T[j]? = some x) (hi : i < n + 1) (hij : i ≠ j) (h : j = n ∨ i = n) : ((((T.set i L).set j z).set (min i j) L).take n).Perm ((T.set i L).eraseIdx j) := by
  have hjl := (List.getElem?_eq_some_iff.1 hj).1
  have hj' : (T.set i L)[j]? = some x := by rw [List.getElem?_set_ne hij]; exact hj
  rcases h with h | h
  · subst h
    rw [show min i j = i by omega, List.set_comm _ _ (Ne.symm hij), List.set_set]
    exact swap_out (by rw [List.length_set]; exact hn) (by rw [List.getElem?_set_ne hij]; exact hz) hj'
  · subst h
    rw [show min i j = j by omega, List.set_set]
    exact swap_out (by rw [List.length_set]; exact hn) (by rw [List.getElem?_set_self (by omega)]) hj'
theorem swB {T : List (List Int)} {L x z : List Int} {i j n : Nat} (hn : T.length = n + 1) (hz : T[n]? = some z) (hj : T[j]? = some x) (hi : i ≠ n) (hij : i ≠ j) : (((T.set i L).set j z).take n).Perm ((T.set i L).eraseIdx j) :=
  swap_out (by rw [List.length_set]; exact hn) (by rw [List.getElem?_set_ne hi]; exact hz) (by rw [List.getElem?_set_ne hij]; exact hj)
theorem cutR_ok {t : List Int} {u v : Int} (h : isT t = true) (he : ed u v ∈ edges t) : cutR t u v = (cutL (frm t u) v, 0) := by
  rw [cutR, if_neg (by rw [h]; simp), if_neg (by rw [decide_eq_true he]; simp)]
theorem cutR_no {t : List Int} {u v : Int} (h : isT t = true) (he : ed u v ∉ edges t) : (cutR t u v).2 = 3 := by
  rw [cutR, if_neg (by rw [h]; simp), if_pos (by rw [decide_eq_false he])]
theorem linkR_yes {a b : List Int} {u v : Int} (ha : isT a = true) (hb : isT b = true) (hu : u ∈ a) (hv : v ∈ b) (hd : ∀ x ∈ a, x ∉ b) : linkR a b u v = (frm a u ++ frm b v ++ [u], 0) := by
  rw [linkR, if_neg (by rw [ha, hb]; simp), if_neg (by rw [decide_eq_true hu, decide_eq_true hv]; simp), if_neg]
  intro h
  obtain ⟨x, h1, h2⟩ := List.any_eq_true.1 h
  exact hd x (by simpa using h2) h1
theorem linkR_one {a : List Int} {u v : Int} (ha : isT a = true) (hu : u ∈ a) (hv : v ∈ a) : (linkR a a u v).2 = 4 := by
  rw [linkR, if_neg (by rw [ha]; simp), if_neg (by rw [decide_eq_true hu, decide_eq_true hv]; simp), if_pos (any_yes hu hu)]
theorem Inv.linkR (h : Inv T A) {i j : Nat} {a b : List Int} {u v : Int} (hi : T[i]? = some a) (hj : T[j]? = some b) (hu : u ∈ a) (hv : v ∈ b) :
    (i = j → (linkR a b u v).2 = 4) ∧ (i ≠ j → linkR a b u v = (frm a u ++ frm b v ++ [u], 0)) := by
  have ta := h.tours a (List.mem_of_getElem? hi)
  have tb := h.tours b (List.mem_of_getElem? hj)
  refine ⟨fun e => ?_, fun e => linkR_yes ta tb hu hv fun x hx hy => e (h.one hi hj hx hy)⟩
  subst e
  rw [hi, Option.some.injEq] at hj
  subst hj
  exact linkR_one ta hu hv
/-- what a cut of the tree of u answers, and the place of the edge -/
theorem Inv.cutR (h : Inv T A) {i : Nat} {t : List Int} {u v : Int} (hi : T[i]? = some t) (hu : u ∈ t) {W : Int}
    (hW : (W = -1 ∧ ∀ k, k < A.length → A[k]? ≠ some (ed u v)) ∨ ∃ k : Nat, W = k ∧ k < A.length ∧ A[k]? = some (ed u v)) :
    (W = -1 ∧ (cutR t u v).2 = 3) ∨ ∃ k : Nat, W = k ∧ k < A.length ∧ (cutR t u v).2 = 0 ∧ Inv (T.set i (cutR t u v).1.1 ++ [(cutR t u v).1.2]) (A.take k ++ A.drop (k + 1)) := by
  have tt := h.tours t (List.mem_of_getElem? hi)
  rcases hW with ⟨h1, h2⟩ | ⟨k, h1, h2, h3⟩
  · refine .inl ⟨h1, cutR_no tt fun he => ?_⟩
    obtain ⟨k, hk⟩ := List.getElem?_of_mem ((h.edge_in hi hu).1 he)
    exact h2 k (List.getElem?_eq_some_iff.1 hk).1 hk
  · have he := (h.edge_in hi hu).2 (List.mem_of_getElem? h3)
    refine .inr ⟨k, h1, h2, ?_, ?_⟩
    · rw [cutR_ok tt he]
    · rw [cutR_ok tt he]
      exact h.cut hi he rfl h3
/-- part of them has no more -/
theorem part_le {β : Type} (f : List Int → List β) (T : List (List Int)) (k : Nat) : ((T.take k).flatMap f).length ≤ (T.flatMap f).length := by
  have h : T.flatMap f = (T.take k).flatMap f ++ (T.drop k).flatMap f := by rw [← List.flatMap_append, List.take_append_drop]
  rw [h, List.length_append]; omega
theorem part_next {β : Type} (f : List Int → List β) {T : List (List Int)} {k : Nat} {t : List Int} (h : T[k]? = some t) : (T.take (k + 1)).flatMap f = (T.take k).flatMap f ++ f t := by
  rw [List.take_add_one, h, List.flatMap_append]
  simp
end Go.Proofs.Yteflkffebekjdaa
