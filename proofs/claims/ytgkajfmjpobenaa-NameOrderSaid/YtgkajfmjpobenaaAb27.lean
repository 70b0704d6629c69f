/-
  Mathematics of merging in place: binary searches, and where they end.
  Conditions: none.
-/
import Derived.Test.YtgkajfmjpobenaaAb26
namespace Go.Ab
set_option linter.unusedSectionVars false
section
variable {α : Type} [Inhabited α] {lt : α → α → Bool}

/-- a search between lo and hi: below i all are, from j on none is -/
def Srch (p : Nat → Bool) (lo hi i j : Nat) : Prop :=
  lo ≤ i ∧ i ≤ j ∧ j ≤ hi ∧ (∀ k, lo ≤ k → k < i → p k = true) ∧ (∀ k, j ≤ k → k < hi → p k = false)
def Mono (p : Nat → Bool) (lo hi : Nat) : Prop := ∀ k h, lo ≤ k → k < h → h < hi → p h = true → p k = true
theorem Srch.start (p : Nat → Bool) {lo hi : Nat} (h : lo ≤ hi) : Srch p lo hi lo hi := ⟨Nat.le_refl _, h, Nat.le_refl _, fun k h1 h2 => by omega, fun k h1 h2 => by omega⟩
theorem Srch.more {p : Nat → Bool} {lo hi i j h : Nat} (M : Mono p lo hi) (S : Srch p lo hi i j) (h1 : i ≤ h) (h2 : h < j) (hp : p h = true) : Srch p lo hi (h + 1) j := by
  obtain ⟨a1, a2, a3, a4, a5⟩ := S
  refine ⟨by omega, by omega, a3, fun k g1 g2 => ?_, a5⟩
  rcases Nat.lt_or_eq_of_le (Nat.lt_succ_iff.1 g2) with g3 | g3
  · exact M k h g1 g3 (by omega) hp
  · subst g3; exact hp
theorem Srch.less {p : Nat → Bool} {lo hi i j h : Nat} (M : Mono p lo hi) (S : Srch p lo hi i j) (h1 : i ≤ h) (h2 : h < j) (hp : p h = false) : Srch p lo hi i h := by
  obtain ⟨a1, a2, a3, a4, a5⟩ := S
  refine ⟨a1, h1, by omega, a4, fun k g1 g2 => ?_⟩
  rcases Nat.lt_or_eq_of_le g1 with g3 | g3
  · cases hk : p k with
    | false => rfl
    | true => have := M h k (by omega) g3 g2 hk; rw [hp] at this; cases this
  · subst g3; exact hp
theorem Srch.bounds {p : Nat → Bool} {lo hi i j : Nat} (S : Srch p lo hi i j) : lo ≤ i ∧ i ≤ j ∧ j ≤ hi := ⟨S.1, S.2.1, S.2.2.1⟩

theorem getD_in (pre X post : List α) (k : Nat) (d : α) (h1 : pre.length ≤ k) (h2 : k < pre.length + X.length) : (pre ++ X ++ post).getD k d = X.getD (k - pre.length) d := by
  simp only [List.getD_eq_getElem?_getD]
  rw [List.append_assoc, List.getElem?_append_right h1, List.getElem?_append_left (by omega)]
theorem mem_at {X : List α} {x : α} (h : x ∈ X) (d : α) : ∃ k, k < X.length ∧ X.getD k d = x := by
  obtain ⟨k, hk, e⟩ := List.getElem_of_mem h
  exact ⟨k, hk, by rw [List.getD_eq_getElem?_getD, List.getElem?_eq_getElem hk, ← e]; rfl⟩
theorem order_in (pre X post : List α) (h : InOrder lt X) (p q : Nat) (h1 : pre.length ≤ p) (h2 : p < q) (h3 : q < pre.length + X.length) : lt ((pre ++ X ++ post).getD q default) ((pre ++ X ++ post).getD p default) = false := by
  rw [getD_in pre X post q _ (by omega) h3, getD_in pre X post p _ h1 (by omega)]
  exact h.get (by omega) (by omega) _

/-- one thing ahead of a row -/
theorem mono1 (R : Rank lt) (pre : List α) (x : α) (Y post : List α) (hY : InOrder lt Y) : Mono (fun k => lt ((pre ++ [x] ++ Y ++ post).getD k default) ((pre ++ [x] ++ Y ++ post).getD pre.length default)) (pre.length + 1) (pre.length + 1 + Y.length) := by
  intro k h h1 h2 h3 hp
  have := order_in (pre ++ [x]) Y post hY k h (by simp <;> omega) h2 (by simp <;> omega)
  exact R.lt_of' this hp
theorem end1 (pre : List α) (x : α) (Y post : List α) (i : Nat) (S : Srch (fun k => lt ((pre ++ [x] ++ Y ++ post).getD k default) ((pre ++ [x] ++ Y ++ post).getD pre.length default)) (pre.length + 1) (pre.length + 1 + Y.length) i i) :
    shr (pre ++ [x] ++ Y ++ post) pre.length (i - 1 - pre.length) = pre ++ smerge lt [x] Y ++ post := by
  obtain ⟨b1, b2, b3, b4, b5⟩ := S
  obtain ⟨Y1, Y2, rfl, hY1⟩ := split_at (l := Y) (n := i - (pre.length + 1)) (by omega)
  have hx : (pre ++ [x] ++ (Y1 ++ Y2) ++ post).getD pre.length default = x := by
    have : pre ++ [x] ++ (Y1 ++ Y2) ++ post = pre ++ x :: (Y1 ++ Y2 ++ post) := by simp
    rw [this]; exact getD_mid _ _ _ _ _ rfl
  rw [hx] at b4 b5
  simp only [] at b4 b5
  rw [smerge_one_left x Y1 Y2 (fun y hy => ?_) (fun y hy => ?_)]
  · have e : pre ++ [x] ++ (Y1 ++ Y2) ++ post = pre ++ x :: Y1 ++ (Y2 ++ post) := by simp
    rw [e, show i - 1 - pre.length = Y1.length by omega, shr_lists Y1 pre x (Y2 ++ post) _ rfl]; simp
  · obtain ⟨k, hk, rfl⟩ := mem_at hy default
    have := b4 (pre.length + 1 + k) (by omega) (by omega)
    have e : pre ++ [x] ++ (Y1 ++ Y2) ++ post = (pre ++ [x]) ++ Y1 ++ (Y2 ++ post) := by simp
    rw [e, getD_in (pre ++ [x]) Y1 _ _ _ (by simp <;> omega) (by simp <;> omega)] at this
    simpa using this
  · obtain ⟨k, hk, rfl⟩ := mem_at hy default
    have := b5 (i + k) (by omega) (by simp <;> omega)
    have e : pre ++ [x] ++ (Y1 ++ Y2) ++ post = (pre ++ [x] ++ Y1) ++ Y2 ++ post := by simp
    rw [e, getD_in (pre ++ [x] ++ Y1) Y2 _ _ _ (by simp <;> omega) (by simp <;> omega)] at this
    have e2 : i + k - (pre ++ [x] ++ Y1).length = k := by simp; omega
    rwa [e2] at this
/-- one thing behind a row -/
theorem mono2 (R : Rank lt) (pre X : List α) (y : α) (post : List α) (hX : InOrder lt X) : Mono (fun k => !lt ((pre ++ X ++ [y] ++ post).getD (pre.length + X.length) default) ((pre ++ X ++ [y] ++ post).getD k default)) pre.length (pre.length + X.length) := by
  intro k h h1 h2 h3 hp
  have e : pre ++ X ++ [y] ++ post = pre ++ X ++ ([y] ++ post) := by simp
  have := order_in pre X ([y] ++ post) hX k h h1 h2 h3
  simp only [Bool.not_eq_true'] at hp ⊢
  rw [e] at hp ⊢
  exact R.trans _ _ _ hp this
theorem end2 (pre X : List α) (y : α) (post : List α) (i : Nat) (S : Srch (fun k => !lt ((pre ++ X ++ [y] ++ post).getD (pre.length + X.length) default) ((pre ++ X ++ [y] ++ post).getD k default)) pre.length (pre.length + X.length) i i) :
    shl (pre ++ X ++ [y] ++ post) (pre.length + X.length) (pre.length + X.length - i) = pre ++ smerge lt X [y] ++ post := by
  obtain ⟨b1, b2, b3, b4, b5⟩ := S
  obtain ⟨X1, X2, rfl, hX1⟩ := split_at (l := X) (n := i - pre.length) (by omega)
  have hy : (pre ++ (X1 ++ X2) ++ [y] ++ post).getD (pre.length + (X1 ++ X2).length) default = y := by
    have : pre ++ (X1 ++ X2) ++ [y] ++ post = (pre ++ (X1 ++ X2)) ++ y :: post := by simp
    rw [this]; exact getD_mid _ _ _ _ _ (by simp)
  rw [hy] at b4 b5
  simp only [] at b4 b5
  simp only [List.length_append] at b3 b5 ⊢
  rw [smerge_one_right y X1 X2 (fun x hx => ?_) (fun x hx => ?_)]
  · have e : pre ++ (X1 ++ X2) ++ [y] ++ post = (pre ++ X1) ++ X2 ++ y :: post := by simp
    rw [e, show pre.length + (X1.length + X2.length) - i = X2.length by omega, shl_lists X2.length X2 (pre ++ X1) y post _ rfl (by simp <;> omega)]; simp
  · obtain ⟨k, hk, rfl⟩ := mem_at hx default
    have := b4 (pre.length + k) (by omega) (by omega)
    have e : pre ++ (X1 ++ X2) ++ [y] ++ post = pre ++ X1 ++ (X2 ++ [y] ++ post) := by simp
    rw [e, getD_in pre X1 _ _ _ (by omega) (by omega)] at this
    simpa using this
  · obtain ⟨k, hk, rfl⟩ := mem_at hx default
    have := b5 (i + k) (by omega) (by omega)
    have e : pre ++ (X1 ++ X2) ++ [y] ++ post = (pre ++ X1) ++ X2 ++ ([y] ++ post) := by simp
    rw [e, getD_in (pre ++ X1) X2 _ _ _ (by simp <;> omega) (by simp <;> omega)] at this
    have e2 : i + k - (pre ++ X1).length = k := by simp; omega
    rw [e2] at this; simpa using this
/-- two rows -/
theorem mono3 (R : Rank lt) (pre X Y post : List α) (hX : InOrder lt X) (hY : InOrder lt Y) (n lo hi : Nat) (h0 : pre.length ≤ lo) (h1 : hi ≤ pre.length + X.length) (h2 : n - lo ≤ pre.length + X.length + Y.length) (h3 : pre.length + X.length ≤ n - hi) (h4 : hi < n) :
    Mono (fun k => !lt ((pre ++ X ++ Y ++ post).getD (n - 1 - k) default) ((pre ++ X ++ Y ++ post).getD k default)) lo hi := by
  intro k h g1 g2 g3 hp
  simp only [Bool.not_eq_true'] at hp ⊢
  have e : pre ++ X ++ Y ++ post = pre ++ X ++ (Y ++ post) := by simp
  have a1 : lt ((pre ++ X ++ Y ++ post).getD h default) ((pre ++ X ++ Y ++ post).getD k default) = false := by
    rw [e]; exact order_in pre X (Y ++ post) hX k h (by omega) g2 (by omega)
  have a2 := order_in (pre ++ X) Y post hY (n - 1 - h) (n - 1 - k) (by simp <;> omega) (by omega) (by simp <;> omega)
  exact R.trans _ _ _ (R.trans _ _ _ a2 hp) a1
theorem end3 (R : Rank lt) (pre X Y post : List α) (hX : InOrder lt X) (hY : InOrder lt Y) (n lo hi s : Nat) (h0 : pre.length ≤ lo) (h1 : hi ≤ pre.length + X.length) (h2 : n - lo ≤ pre.length + X.length + Y.length) (h3 : pre.length + X.length ≤ n - hi) (h4 : hi < n)
    (hlo : lo = pre.length ∨ n - lo = pre.length + X.length + Y.length) (hhi : hi = pre.length + X.length ∨ n - hi = pre.length + X.length)
    (S : Srch (fun k => !lt ((pre ++ X ++ Y ++ post).getD (n - 1 - k) default) ((pre ++ X ++ Y ++ post).getD k default)) lo hi s s) :
    ∃ A1 A2 B1 B2, X = A1 ++ A2 ∧ Y = B1 ++ B2 ∧ A1.length = s - pre.length ∧ B1.length = n - s - (pre.length + X.length) ∧ smerge lt X Y = smerge lt A1 B1 ++ smerge lt A2 B2 := by
  obtain ⟨b1, b2, b3, b4, b5⟩ := S
  obtain ⟨A1, A2, rfl, hA⟩ := split_at (l := X) (n := s - pre.length) (by omega)
  obtain ⟨B1, B2, rfl, hB⟩ := split_at (l := Y) (n := n - s - (pre.length + (A1 ++ A2).length)) (by omega)
  refine ⟨A1, A2, B1, B2, rfl, rfl, hA, hB, ?_⟩
  simp only [List.length_append] at *
  refine smerge_halves R _ A1 B1 A2 B2 rfl (fun x hx z hz => (List.pairwise_append.1 hX).2.2 x hx z hz) (fun y hy z hz => ?_) (fun x hx w hw => ?_)
  · obtain ⟨k, hk, rfl⟩ := mem_at hy default
    obtain ⟨l, hl, rfl⟩ := mem_at hz default
    have hs : s < hi := by omega
    have hp := b5 s (Nat.le_refl _) hs
    simp only [Bool.not_eq_false'] at hp
    have ez : (pre ++ (A1 ++ A2) ++ (B1 ++ B2) ++ post).getD s default = A2.getD 0 default := by
      have e : pre ++ (A1 ++ A2) ++ (B1 ++ B2) ++ post = (pre ++ A1) ++ A2 ++ (B1 ++ B2 ++ post) := by simp
      rw [e, getD_in (pre ++ A1) A2 _ _ _ (by simp <;> omega) (by simp <;> omega)]; congr 1; simp; omega
    have ey : (pre ++ (A1 ++ A2) ++ (B1 ++ B2) ++ post).getD (n - 1 - s) default = B1.getD (B1.length - 1) default := by
      have e : pre ++ (A1 ++ A2) ++ (B1 ++ B2) ++ post = (pre ++ A1 ++ A2) ++ B1 ++ (B2 ++ post) := by simp
      rw [e, getD_in (pre ++ A1 ++ A2) B1 _ _ _ (by simp <;> omega) (by simp <;> omega)]; congr 1; simp; omega
    rw [ez, ey] at hp
    have hB1 : InOrder lt B1 := (List.pairwise_append.1 hY).1
    have hA2 : InOrder lt A2 := (List.pairwise_append.1 hX).2.1
    have c1 : lt (B1.getD (B1.length - 1) default) (B1.getD k default) = false := by
      rcases Nat.lt_or_ge k (B1.length - 1) with g | g
      · exact hB1.get g (by omega) _
      · rw [show k = B1.length - 1 by omega]; exact R.irr _
    have c2 : lt (A2.getD l default) (A2.getD 0 default) = false := by
      rcases Nat.eq_zero_or_pos l with g | g
      · rw [g]; exact R.irr _
      · exact hA2.get g hl _
    exact R.lt_of (R.lt_of' c1 hp) c2
  · obtain ⟨k, hk, rfl⟩ := mem_at hx default
    obtain ⟨l, hl, rfl⟩ := mem_at hw default
    have hs : lo < s := by omega
    have hp := b4 (s - 1) (by omega) (by omega)
    simp only [Bool.not_eq_true'] at hp
    have ex : (pre ++ (A1 ++ A2) ++ (B1 ++ B2) ++ post).getD (s - 1) default = A1.getD (A1.length - 1) default := by
      have e : pre ++ (A1 ++ A2) ++ (B1 ++ B2) ++ post = pre ++ A1 ++ (A2 ++ (B1 ++ B2) ++ post) := by simp
      rw [e, getD_in pre A1 _ _ _ (by omega) (by omega)]; congr 1; omega
    have ew : (pre ++ (A1 ++ A2) ++ (B1 ++ B2) ++ post).getD (n - 1 - (s - 1)) default = B2.getD 0 default := by
      have e : pre ++ (A1 ++ A2) ++ (B1 ++ B2) ++ post = (pre ++ A1 ++ A2 ++ B1) ++ B2 ++ post := by simp
      rw [e, getD_in (pre ++ A1 ++ A2 ++ B1) B2 _ _ _ (by simp <;> omega) (by simp <;> omega)]; congr 1; simp; omega
    rw [ex, ew] at hp
    have hA1 : InOrder lt A1 := (List.pairwise_append.1 hX).1
    have hB2 : InOrder lt B2 := (List.pairwise_append.1 hY).2.1
    have c1 : lt (A1.getD (A1.length - 1) default) (A1.getD k default) = false := by
      rcases Nat.lt_or_ge k (A1.length - 1) with g | g
      · exact hA1.get g (by omega) _
      · rw [show k = A1.length - 1 by omega]; exact R.irr _
    have c2 : lt (B2.getD l default) (B2.getD 0 default) = false := by
      rcases Nat.eq_zero_or_pos l with g | g
      · rw [g]; exact R.irr _
      · exact hB2.get g hl _
    exact R.trans _ _ _ (R.trans _ _ _ c2 hp) c1
end
end Go.Ab
