/-
  Contracts of the layer sketch on plain data: a name toggled, two sketches merged.
  Conditions: numbers are those of their kinds.
-/
import Derived.Test.YtfgjiadehfljlaaSketchF
namespace Go.Proofs.Ytfgjiadehfljlaa
open Go Go.Ab
open Go.Proofs.Ytfgjiadehfljlaa.M
set_option linter.unusedVariables false
set_option linter.unusedSimpArgs false

def xorI (a b : Int) : Int := bits .xor .u64 a b
/-- some words, as far as they have been changed -/
def upT (c : Nat → Bool) (f : Nat → Int → Int) (ws : List Int) (m : Nat) : List Int := ws.mapIdx fun k w => if k < m ∧ c k = true then f k w else w
theorem upT_len (c : Nat → Bool) (f : Nat → Int → Int) (ws : List Int) (m : Nat) : (upT c f ws m).length = ws.length := by simp [upT]
theorem upT_get (c : Nat → Bool) (f : Nat → Int → Int) (ws : List Int) (m k : Nat) : (upT c f ws m)[k]? = (ws[k]?).map fun w => if k < m ∧ c k = true then f k w else w := by
  simp [upT, List.getElem?_mapIdx]
theorem upT_zero (c : Nat → Bool) (f : Nat → Int → Int) (ws : List Int) : upT c f ws 0 = ws := by
  refine List.ext_getElem? fun k => ?_
  rw [upT_get]; simp
theorem upT_getD {c : Nat → Bool} {f : Nat → Int → Int} {ws : List Int} {m : Nat} (h : m < ws.length) : (upT c f ws m).getD m default = ws.getD m default := by
  rw [List.getD_eq_getElem?_getD, upT_get, List.getD_eq_getElem?_getD]; simp
theorem upT_step {c : Nat → Bool} {f : Nat → Int → Int} {ws : List Int} {m : Nat} (h : m < ws.length) (hc : c m = true) : upT c f ws (m + 1) = (upT c f ws m).set m (f m ((upT c f ws m).getD m default)) := by
  refine List.ext_getElem? fun k => ?_
  rw [upT_getD h, List.getElem?_set, upT_get, upT_get, upT_len]
  by_cases e : m = k
  · subst e
    rw [if_pos rfl, if_pos h, List.getElem?_eq_getElem h, List.getD_eq_getElem?_getD, List.getElem?_eq_getElem h]
    simp [hc]
  · rw [if_neg e]
    have : (k < m + 1 ∧ c k = true) ↔ (k < m ∧ c k = true) := by constructor <;> rintro ⟨a, b⟩ <;> exact ⟨by omega, b⟩
    simp only [this]
theorem upT_skip {c : Nat → Bool} {f : Nat → Int → Int} {ws : List Int} {m m' : Nat} (hm : m ≤ m') (h : ∀ k, m ≤ k → k < m' → c k = false) : upT c f ws m' = upT c f ws m := by
  refine List.ext_getElem? fun k => ?_
  rw [upT_get, upT_get]
  have : (k < m' ∧ c k = true) ↔ (k < m ∧ c k = true) := by
    constructor
    · rintro ⟨a, b⟩
      refine ⟨?_, b⟩
      rcases Nat.lt_or_ge k m with h1 | h1
      · exact h1
      · rw [h k h1 a] at b; cases b
    · rintro ⟨a, b⟩; exact ⟨by omega, b⟩
  simp only [this]

/-! how deep a value goes -/
theorem boundE_step : ∀ k : Fin 61, boundE ((k.val : Int) + 1) ≤ boundE (k.val : Int) := by decide +kernel
theorem boundE_anti (i : Nat) : ∀ d : Nat, i + d ≤ 61 → boundE ((i + d : Nat) : Int) ≤ boundE (i : Int)
  | 0, _ => Int.le_refl _
  | d + 1, h => by
    have h1 := boundE_anti i d (by omega)
    have h2 := boundE_step ⟨i + d, by omega⟩
    simp only at h2
    rw [show ((i + (d + 1) : Nat) : Int) = ((i + d : Nat) : Int) + 1 by omega]
    omega
theorem deepG_spec (v : Int) (L : Nat) : ∀ (f i : Nat), L ≤ i + f → i ≤ L → ∃ d : Nat, deepG v L f i = d ∧ i ≤ d ∧ d ≤ L ∧ (∀ j : Nat, i ≤ j → j < d → v < boundE j) ∧ (d < L → ¬ v < boundE d)
  | 0, i, h, h2 => ⟨i, rfl, Nat.le_refl _, h2, fun j a b => by omega, fun a => by omega⟩
  | f + 1, i, h, h2 => by
    rw [deepG]
    split
    · rename_i hc
      obtain ⟨d, e1, e2, e3, e4, e5⟩ := deepG_spec v L f (i + 1) (by omega) (by omega)
      refine ⟨d, by rw [← e1]; rfl, by omega, e3, fun j a b => ?_, e5⟩
      by_cases e : j = i
      · subst e; exact hc.2
      · exact e4 j (by omega) b
    · rename_i hc
      refine ⟨i, rfl, Nat.le_refl _, h2, fun j a b => by omega, fun a hv => hc ⟨by omega, hv⟩⟩
theorem deep_spec (v : Int) (L : Nat) (hL : L ≤ 61) : ∃ d : Nat, deepE v L = d ∧ d ≤ L ∧ (∀ j : Nat, j < d → v < boundE j) ∧ (∀ j : Nat, d ≤ j → j < L → ¬ v < boundE j) := by
  obtain ⟨d, e1, _, e3, e4, e5⟩ := deepG_spec v L 62 0 (by omega) (by omega)
  refine ⟨d, e1, e3, fun j h => e4 j (by omega) h, fun j h1 h2 hv => ?_⟩
  have h3 := boundE_anti d (j - d) (by omega)
  rw [show d + (j - d) = j by omega] at h3
  exact e5 (by omega) (by omega)

/-- is the word at k changed by a name? -/
def cnd (l : List Hs) (V : Nat) (n : Int) (k : Nat) : Bool := decide (valE (l.getD (k / V) default) n < boundE ((k % V : Nat) : Int))
theorem cnd_at (l : List Hs) (V : Nat) (n : Int) (i j : Nat) (hj : j < V) : cnd l V n (i * V + j) = decide (valE (l.getD i default) n < boundE (j : Int)) := by
  unfold cnd
  rw [Nat.mul_comm, Nat.mul_add_div (by omega), Nat.div_eq_of_lt hj, Nat.mul_add_mod, Nat.mod_eq_of_lt hj, Nat.add_zero]
def togW (l : List Hs) (V : Nat) (n : Int) (ws : List Int) (m : Nat) : List Int := upT (cnd l V n) (fun _ w => xorI w n) ws m
def togE (s : Sk) (l : List Hs) (n : Int) : PV := if IsSk s ∧ (l.length : Int) = s.r then .tup [skPV ⟨s.r, s.v, togW l s.v.toNat n s.ws s.ws.length⟩, iPV 0] else .tup [skPV s, iPV 1]
theorem row_in {i R V : Nat} (hi : i < R) : i * V + V ≤ R * V := by
  have := Nat.mul_le_mul_right V hi
  rwa [Nat.succ_mul] at this
theorem tog_skip {l : List Hs} {V : Nat} {n : Int} {ws : List Int} {i j d : Nat} (hd : ∀ j : Nat, d ≤ j → j < V → ¬ valE (l.getD i default) n < boundE (j : Int)) (hj : j = d) (hdV : d ≤ V) : togW l V n ws ((i + 1) * V) = togW l V n ws (i * V + j) := by
  subst hj
  refine upT_skip (by rw [Nat.succ_mul]; omega) fun k h1 h2 => ?_
  rw [Nat.succ_mul] at h2
  obtain ⟨q, rfl⟩ : ∃ q, k = i * V + q := ⟨k - i * V, by omega⟩
  rw [cnd_at _ _ _ _ _ (by omega)]
  exact decide_eq_false (hd q (by omega) (by omega))

set_option maxHeartbeats 4000000 in
theorem toggle_any (s : Sk) (l : List Hs) (n : Int) (hl : ∀ h ∈ l, 0 ≤ h.a ∧ 0 ≤ h.b) (hn : 0 ≤ n) : ACalls Try.prog 9 [skPV s, .sl (l.map hsPV), uPV n] (togE s l n) := by
  refine ent Try.func9 ?_
  repeat (refine AW_seq ?_)
  refine reg ?_
  refine run 3 ?_
  refine fin [1, 2, 3, 6] [(4, 0), (7, 0)] ?_
  repeat (refine AW_seq ?_)
  refine reg ?_
  refine run 1 ?_
  refine call (fun _ => right_any s) ?_
  refine run 8 ?_
  refine fin [1, 2, 3, 6, 22] [(4, 0), (7, 0)] ?_
  repeat (refine AW_seq ?_)
  refine tst (fun h1 => ?_) (fun h1 => ?_)
  · simp at h1
    repeat (refine AW_seq ?_)
    refine reg ?_
    refine run 3 ?_
    refine fin [6, 7] [(7, 0)] ?_
    refine AW_ret (ret ?_)
    rw [togE, if_neg (by rintro ⟨a, b⟩; exact h1.elim (fun h => h a) (fun h => h b))]; rfl
  · simp at h1
    obtain ⟨⟨hsz, hlen⟩, hlr⟩ := h1
    obtain ⟨V, hV⟩ : ∃ V : Nat, s.v = (V : Int) := ⟨s.v.toNat, by have := hsz.2.2.1; omega⟩
    obtain ⟨R, hR⟩ : ∃ R : Nat, s.r = (R : Int) := ⟨s.r.toNat, by have := hsz.1; omega⟩
    have hm := size_mul hsz
    rw [hR, hV] at hlen hsz hm
    have hRV : s.ws.length = R * V := by rw [← Int.natCast_mul] at hlen; omega
    have hVs := hsz.2.2
    have hR8 := hsz.2.1
    have hlR : l.length = R := by omega
    obtain ⟨x, xs, hx⟩ : ∃ x xs, s.ws = x :: xs := by
      cases hw : s.ws with
      | nil => rw [hw] at hRV; simp at hRV; rw [← Int.natCast_mul] at hm; omega
      | cons x xs => exact ⟨x, xs, rfl⟩
    have hx1 : R * V = xs.length + 1 := by rw [← hRV, hx]; rfl
    have hxl : xs.length < 1099511627776 := by rw [← Int.natCast_mul] at hm; omega
    have hT0 : (togW l V n s.ws (0 * V)).map uPV = uPV x :: xs.map uPV := by rw [Nat.zero_mul, togW, upT_zero, hx]; rfl
    have hTl : ∀ m, (togW l V n s.ws m).length = xs.length + 1 := fun m => by rw [togW, upT_len, hRV, hx1]
    have hb : ∀ i, i < R → 0 ≤ (l.getD i default).a ∧ 0 ≤ (l.getD i default).b := fun i h => by rw [List.getD_eq_getElem?_getD, List.getElem?_eq_getElem (by omega)]; exact hl _ (List.getElem_mem _)
    have hin : ∀ i, i < R → i * V + V ≤ xs.length + 1 := fun i h => by rw [← hx1]; exact row_in h
    have hfin : togE s l n = .tup [.agg [iPV R, iPV V, .sl ((togW l V n s.ws (R * V)).map uPV)], iPV 0] := by rw [togE, if_pos ⟨⟨by rw [hR, hV]; exact hsz, by rw [hR, hV]; exact hlen⟩, hlr⟩, hV, hR, hRV]; rfl
    obtain ⟨hVs1, hVs2⟩ := hVs
    obtain ⟨hx, -⟩ : Go.RowKit.Hid (s.ws = x :: xs) ∧ True := ⟨hx, trivial⟩
    rename_i hx0
    clear hx0 hlen hsz hm hl hlr hRV
    refine AW_skip ?_
    repeat (refine AW_seq ?_)
    refine reg ?_
    refine run 1 ?_
    refine gcall (clone_any s x xs hx.out hxl) ?_
    refine run 2 ?_
    refine fin [1, 2, 3, 6, 8] [(4, 0), (7, 0), (9, 0), (26, 0)] ?_
    repeat (refine AW_seq ?_)
    refine reg ?_
    refine run 3 ?_
    refine fin [2, 3, 6, 8, 26, 27, 28] [(4, 0), (7, 0), (9, 0), (26, 0)] ?_
    repeat (refine AW_seq ?_)
    refine AW_block ?_
    refine AW_loops (ι := Nat) (fun i => ⟨lk [(2, .c (uPV n)), (3, .ptr (4, 0) 1 0 0), (6, .ptr (7, 0) 1 0 0), (8, .ptr (9, 0) 1 0 0), (26, .c (.sl (l.map hsPV))), (27, .c (iPV l.length)), (28, .c (iPV i))], lkM [((4, 0), some ⟨26, 3, [.agg [iPV R, iPV V, .sl (s.ws.map uPV)]], true, []⟩), ((7, 0), some ⟨26, 3, [.agg [iPV 0, iPV 0, .sl []]], true, []⟩), ((9, 0), some ⟨26, 3, [.agg [iPV R, iPV V, .hole]], true, [(2, (26, 0), xs.length + 1)]⟩), ((26, 0), some ⟨31, 1, (togW l V n s.ws (i * V)).map uPV, true, []⟩)], lkG [] 1⟩) (fun i => i ≤ R) (fun i => R - i) 0 (Nat.zero_le _) wk ?_
    rintro i hi
    repeat (refine AW_seq ?_)
    refine reg ?_
    refine run 1 ?_
    refine fin [2, 3, 6, 8, 26, 27, 28, 29] [(4, 0), (7, 0), (9, 0), (26, 0)] ?_
    repeat (refine AW_seq ?_)
    refine tst (fun h2 => ?_) (fun h2 => ?_)
    · simp at h2
      have hiR : i < R := by omega
      have hin' := hin i hiR
      obtain ⟨h, hh⟩ : ∃ h, l.getD i default = h := ⟨_, rfl⟩
      obtain ⟨d, hd, hd1, hd2, hd3⟩ := deep_spec (valE h n) V (by omega)
      have hw : IntKind.i64.wrap ((i : Int) * (V : Int)) = ((i * V : Nat) : Int) := by rw [← Int.natCast_mul]; exact wrap_i64 _ (by omega) (by omega)
      have hbi := hb i hiR
      rw [hh] at hbi
      refine AW_skip ?_
      repeat (refine AW_seq ?_)
      refine AW_block ?_
      repeat (refine AW_seq ?_)
      refine reg ?_
      refine run 6 ?_
      refine fin [2, 3, 6, 8, 9, 10, 26, 27, 28] [(4, 0), (7, 0), (9, 0), (11, 1), (26, 0)] ?_
      repeat (refine AW_seq ?_)
      refine reg ?_
      refine run 8 ?_
      refine fin [2, 3, 6, 8, 10, 11, 26, 27, 28] [(4, 0), (7, 0), (9, 0), (11, 1), (26, 0)] ?_
      repeat (refine AW_seq ?_)
      refine reg ?_
      refine run 4 ?_
      refine call (fun _ => hd ▸ deep_any h n V hbi.1 hbi.2 hn) ?_
      refine run 1 ?_
      refine fin [2, 3, 6, 8, 11, 26, 27, 28, 44, 45] [(4, 0), (7, 0), (9, 0), (26, 0)] ?_
      repeat (refine AW_seq ?_)
      refine AW_block ?_
      have ha0 : i * V + 0 = i * V := Nat.add_zero _
      refine AW_loops (ι := Nat) (fun j => ⟨lk [(2, .c (uPV n)), (3, .ptr (4, 0) 1 0 0), (6, .ptr (7, 0) 1 0 0), (8, .ptr (9, 0) 1 0 0), (11, .pc (26, 0) (xs.length + 1) (i * V) (xs.length + 1 - i * V)), (26, .c (.sl (l.map hsPV))), (27, .c (iPV l.length)), (28, .c (iPV i)), (44, .c (iPV d)), (45, .c (iPV j))], lkM [((4, 0), some ⟨26, 3, [.agg [iPV R, iPV V, .sl (s.ws.map uPV)]], true, []⟩), ((7, 0), some ⟨26, 3, [.agg [iPV 0, iPV 0, .sl []]], true, []⟩), ((9, 0), some ⟨26, 3, [.agg [iPV R, iPV V, .hole]], true, [(2, (26, 0), xs.length + 1)]⟩), ((26, 0), some ⟨31, 1, (togW l V n s.ws (i * V + j)).map uPV, true, []⟩)], lkG [] 2⟩) (fun j => j ≤ d) (fun j => d - j) 0 (Nat.zero_le _) wk ?_
      rintro j hj
      repeat (refine AW_seq ?_)
      refine reg ?_
      refine run 1 ?_
      refine fin [2, 3, 6, 8, 11, 26, 27, 28, 44, 45, 46] [(4, 0), (7, 0), (9, 0), (26, 0)] ?_
      repeat (refine AW_seq ?_)
      refine tst (fun h3 => ?_) (fun h3 => ?_)
      · simp at h3
        have hst : (togW l V n s.ws (i * V + (j + 1))).map uPV = ((togW l V n s.ws (i * V + j)).map uPV).set (i * V + j) (uPV (bits .xor .u64 ((togW l V n s.ws (i * V + j)).getD (i * V + j) default) n)) := by
          rw [← Nat.add_assoc, togW, upT_step (by rw [hx.out]; simp; omega) (by rw [cnd_at _ _ _ _ _ (by omega), hh]; exact decide_eq_true (hd2 j (by omega))), List.map_set]; rfl
        have hlm : i * V + j < xs.length + 1 := by omega
        have hlm2 : i * V + j < (togW l V n s.ws (i * V + j)).length := by rw [hTl]; exact hlm
        refine AW_skip ?_
        repeat (refine AW_seq ?_)
        refine AW_block ?_
        repeat (refine AW_seq ?_)
        refine reg ?_
        refine run 2 ?_
        refine fin [2, 3, 6, 8, 11, 12, 26, 27, 28, 44, 45] [(4, 0), (7, 0), (9, 0), (26, 0)] ?_
        repeat (refine AW_seq ?_)
        refine reg ?_
        refine run 8 ?_
        refine finN ?_
        refine kp [2, 3, 6, 8, 11, 26, 27, 28, 44, 45] [(4, 0), (7, 0), (9, 0), (26, 0)] ?_
        repeat (refine AW_seq ?_)
        refine reg ?_
        refine run 2 ?_
        refine finN ?_
        exact ⟨j + 1, by omega, by omega, wk⟩
      · simp at h3
        have hsk : (togW l V n s.ws ((i + 1) * V)).map uPV = (togW l V n s.ws (i * V + j)).map uPV := by
          rw [tog_skip (d := d) (j := j) (i := i) (ws := s.ws) (fun j a b => by rw [hh]; exact hd3 j a b) (by omega) (by omega)]
        refine AW_exit ?_
        repeat (refine AW_seq ?_)
        refine reg ?_
        refine run 2 ?_
        refine finN ?_
        exact ⟨i + 1, by omega, by omega, wk⟩
    · simp at h2
      have hie : i = R := by omega
      refine frz (9, 0) ?_
      refine AW_exit ?_
      repeat (refine AW_seq ?_)
      refine reg ?_
      refine run 3 ?_
      refine fin [6, 7] [(7, 0), (26, 0)] ?_
      refine AW_ret (ret ?_)
      rw [hfin, hx1]; rfl


def mergeW (a b : List Int) (m : Nat) : List Int := upT (fun _ => true) (fun k w => xorI w (b.getD k default)) a m
def mergeE (a b : Sk) : PV := if IsSk a ∧ IsSk b ∧ a.r = b.r ∧ a.v = b.v then .tup [skPV ⟨a.r, a.v, mergeW a.ws b.ws a.ws.length⟩, iPV 0] else .tup [skPV noSk, iPV 1]

set_option maxHeartbeats 4000000 in
theorem merge_any (a b : Sk) : ACalls Try.prog 10 [skPV a, skPV b] (mergeE a b) := by
  refine ent Try.func10 ?_
  repeat (refine AW_seq ?_)
  refine reg ?_
  refine run 4 ?_
  refine fin [2, 3, 4] [(3, 0), (4, 0), (5, 0)] ?_
  repeat (refine AW_seq ?_)
  refine reg ?_
  refine run 1 ?_
  refine call (fun _ => right_any a) ?_
  refine run 3 ?_
  refine call (fun _ => right_any b) ?_
  refine run 16 ?_
  refine fin [2, 3, 4, 30] [(3, 0), (4, 0), (5, 0)] ?_
  repeat (refine AW_seq ?_)
  refine tst (fun h1 => ?_) (fun h1 => ?_)
  · simp at h1
    repeat (refine AW_seq ?_)
    refine reg ?_
    refine run 3 ?_
    refine fin [4, 5] [(5, 0)] ?_
    refine AW_ret (ret ?_)
    rw [mergeE, if_neg (by rintro ⟨a, b, c, d⟩; exact h1.elim (fun h => h.elim (fun h => h.elim (fun h => h a) (fun h => h b)) (fun h => h c)) (fun h => h d))]; rfl
  · simp at h1
    obtain ⟨⟨⟨⟨ha1, ha2⟩, hb1, hb2⟩, hr⟩, hv⟩ := h1
    have hm := size_mul ha1
    obtain ⟨x, xs, hx⟩ : ∃ x xs, a.ws = x :: xs := by
      cases hw : a.ws with
      | nil => rw [hw] at ha2; simp at ha2; omega
      | cons x xs => exact ⟨x, xs, rfl⟩
    have hx1 : a.ws.length = xs.length + 1 := by rw [hx]; rfl
    have hbl : b.ws.length = xs.length + 1 := by rw [← hr, ← hv] at hb2; omega
    have hxl : xs.length < 1099511627776 := by omega
    have hT0 : (mergeW a.ws b.ws 0).map uPV = uPV x :: xs.map uPV := by rw [mergeW, upT_zero, hx]; rfl
    have hTl : ∀ m, (mergeW a.ws b.ws m).length = xs.length + 1 := fun m => by rw [mergeW, upT_len, hx1]
    have hfin : mergeE a b = .tup [.agg [iPV a.r, iPV a.v, .sl ((mergeW a.ws b.ws (xs.length + 1)).map uPV)], iPV 0] := by rw [mergeE, if_pos ⟨⟨ha1, ha2⟩, ⟨hb1, hb2⟩, hr, hv⟩, hx1]; rfl
    have hx9 : xs.length + 1 ≤ 488 := by omega
    obtain ⟨hx, -⟩ : Go.RowKit.Hid (a.ws = x :: xs) ∧ True := ⟨hx, trivial⟩
    rename_i hx0
    clear hx0 ha1 ha2 hb1 hb2 hr hv hm
    refine AW_skip ?_
    repeat (refine AW_seq ?_)
    refine reg ?_
    refine run 1 ?_
    refine gcall (clone_any a x xs hx.out hxl) ?_
    refine run 2 ?_
    refine fin [3, 4, 6] [(4, 0), (5, 0), (7, 0), (34, 0)] ?_
    repeat (refine AW_seq ?_)
    refine reg ?_
    refine run 4 ?_
    refine fin [4, 6, 35, 36, 37] [(5, 0), (7, 0), (34, 0)] ?_
    repeat (refine AW_seq ?_)
    refine AW_block ?_
    refine AW_loops (ι := Nat) (fun i => ⟨lk [(4, .ptr (5, 0) 1 0 0), (6, .ptr (7, 0) 1 0 0), (35, .c (.sl (b.ws.map uPV))), (36, .c (iPV b.ws.length)), (37, .c (iPV i))], lkM [((5, 0), some ⟨26, 3, [.agg [iPV 0, iPV 0, .sl []]], true, []⟩), ((7, 0), some ⟨26, 3, [.agg [iPV a.r, iPV a.v, .hole]], true, [(2, (34, 0), xs.length + 1)]⟩), ((34, 0), some ⟨31, 1, (mergeW a.ws b.ws i).map uPV, true, []⟩)], lkG [] 1⟩) (fun i => i ≤ xs.length + 1) (fun i => xs.length + 1 - i) 0 (Nat.zero_le _) wk ?_
    rintro i hi
    repeat (refine AW_seq ?_)
    refine reg ?_
    refine run 1 ?_
    refine fin [4, 6, 35, 36, 37, 38] [(5, 0), (7, 0), (34, 0)] ?_
    repeat (refine AW_seq ?_)
    refine tst (fun h2 => ?_) (fun h2 => ?_)
    · simp at h2
      have hst : (mergeW a.ws b.ws (i + 1)).map uPV = ((mergeW a.ws b.ws i).map uPV).set i (uPV (bits .xor .u64 ((mergeW a.ws b.ws i).getD i default) (b.ws.getD i default))) := by
        rw [mergeW, upT_step (by omega) rfl, List.map_set]; rfl
      have hlm2 : i < (mergeW a.ws b.ws i).length := by rw [hTl]; omega
      refine AW_skip ?_
      repeat (refine AW_seq ?_)
      refine AW_block ?_
      repeat (refine AW_seq ?_)
      refine reg ?_
      refine run 5 ?_
      refine fin [4, 6, 7, 8, 35, 36, 37] [(5, 0), (7, 0), (34, 0)] ?_
      repeat (refine AW_seq ?_)
      refine reg ?_
      refine run 9 ?_
      refine finN ?_
      refine kp [4, 6, 35, 36, 37] [(5, 0), (7, 0), (34, 0)] ?_
      repeat (refine AW_seq ?_)
      refine reg ?_
      refine run 2 ?_
      refine finN ?_
      exact ⟨i + 1, by omega, by omega, wk⟩
    · simp at h2
      have hie : i = xs.length + 1 := by omega
      refine frz (7, 0) ?_
      refine AW_exit ?_
      repeat (refine AW_seq ?_)
      refine reg ?_
      refine run 3 ?_
      refine fin [4, 5] [(5, 0), (34, 0)] ?_
      refine AW_ret (ret ?_)
      rw [hfin]; rfl

end Go.Proofs.Ytfgjiadehfljlaa