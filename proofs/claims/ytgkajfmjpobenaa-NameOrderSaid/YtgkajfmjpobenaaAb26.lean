/-
  Mathematics of the library's stable sort, by places: changing two things, rows of them, turning a row, sorting by insertion.
  Conditions: none.
-/
import Derived.Test.YtgkajfmjpobenaaAb25
namespace Go.Ab
section
variable {α : Type} [Inhabited α] {lt : α → α → Bool}

def swp (E : List α) (p q : Nat) : List α := (E.set p (E.getD q default)).set q (E.getD p default)
theorem swp_len (E : List α) (p q : Nat) : (swp E p q).length = E.length := by simp [swp]
theorem swp_two (A B C : List α) (x y : α) (p q : Nat) (hp : p = A.length) (hq : q = A.length + 1 + B.length) : swp (A ++ x :: (B ++ y :: C)) p q = A ++ y :: (B ++ x :: C) := by
  have e1 : (A ++ x :: (B ++ y :: C)).getD p default = x := getD_mid _ _ _ _ _ hp
  have e2 : (A ++ x :: (B ++ y :: C)).getD q default = y := by
    have : A ++ x :: (B ++ y :: C) = (A ++ x :: B) ++ y :: C := by simp
    rw [this]; exact getD_mid _ _ _ _ _ (by simp; omega)
  rw [swp, e1, e2, swap_two A B C x y p q hp hq]
theorem swp_two' (A B C : List α) (x y : α) (p q : Nat) (hp : p = A.length) (hq : q = A.length + 1 + B.length) : swp (A ++ x :: (B ++ y :: C)) q p = A ++ y :: (B ++ x :: C) := by
  rw [← swp_two A B C x y p q hp hq]
  unfold swp
  rw [List.set_comm]; omega

def swr (E : List α) (a b : Nat) : Nat → List α
  | 0 => E
  | n + 1 => swp (swr E a b n) (a + n) (b + n)
theorem swr_len (E : List α) (a b : Nat) : ∀ n, (swr E a b n).length = E.length
  | 0 => rfl
  | n + 1 => by rw [swr, swp_len, swr_len E a b n]
theorem swr_lists (P M Q : List α) : ∀ (n : Nat) (X1 X2 Y1 Y2 : List α), X1.length = n → Y1.length = n → X2.length = Y2.length →
    swr (P ++ (X1 ++ X2) ++ M ++ (Y1 ++ Y2) ++ Q) P.length (P.length + (X1 ++ X2).length + M.length) n = P ++ (Y1 ++ X2) ++ M ++ (X1 ++ Y2) ++ Q
  | 0, X1, X2, Y1, Y2, h1, h2, _ => by
    have e1 := List.length_eq_zero_iff.1 h1
    have e2 := List.length_eq_zero_iff.1 h2
    subst e1; subst e2; rfl
  | n + 1, X1, X2, Y1, Y2, h1, h2, h3 => by
    obtain ⟨X1, x, rfl⟩ := snoc_of (l := X1) (by omega)
    obtain ⟨Y1, y, rfl⟩ := snoc_of (l := Y1) (by omega)
    simp only [List.length_append, List.length_cons, List.length_nil] at h1 h2
    have ih := swr_lists P M Q n X1 (x :: X2) Y1 (y :: Y2) (by omega) (by omega) (by simp [h3])
    have e : X1 ++ [x] ++ X2 = X1 ++ x :: X2 := by simp
    have e' : Y1 ++ [y] ++ Y2 = Y1 ++ y :: Y2 := by simp
    rw [e, e', swr, ih]
    have e2 : P ++ (Y1 ++ x :: X2) ++ M ++ (X1 ++ y :: Y2) ++ Q = (P ++ Y1) ++ x :: ((X2 ++ M ++ X1) ++ y :: (Y2 ++ Q)) := by simp
    rw [e2, swp_two (P ++ Y1) (X2 ++ M ++ X1) (Y2 ++ Q) x y _ _ (by simp; omega) (by simp; omega)]
    simp
theorem swr_all (P X M Y Q : List α) (h : X.length = Y.length) : swr (P ++ X ++ M ++ Y ++ Q) P.length (P.length + X.length + M.length) X.length = P ++ Y ++ M ++ X ++ Q := by
  have := swr_lists P M Q X.length X [] Y [] rfl h.symm rfl
  simpa using this

/-- turning a row round: i things ahead of m, j from m on -/
def rotE (m : Nat) : Nat → Nat → Nat → List α → List α
  | 0, _, _, E => E
  | f + 1, i, j, E => if i = j then swr E (m - i) m i else if j < i then rotE m f (i - j) j (swr E (m - i) m j) else rotE m f i (j - i) (swr E (m - i) (m + j - i) i)
theorem rotE_len (m : Nat) : ∀ (f i j : Nat) (E : List α), (rotE m f i j E).length = E.length
  | 0, _, _, _ => rfl
  | f + 1, i, j, E => by
    rw [rotE]; split
    · exact swr_len _ _ _ _
    · split
      · rw [rotE_len m f, swr_len]
      · rw [rotE_len m f, swr_len]
theorem rotE_lists (m : Nat) : ∀ (f : Nat) (P I J Q : List α), 0 < I.length → 0 < J.length → I.length + J.length ≤ f → P.length + I.length = m → rotE m f I.length J.length (P ++ I ++ J ++ Q) = P ++ J ++ I ++ Q
  | 0, P, I, J, Q, h1, h2, h3, _ => by omega
  | f + 1, P, I, J, Q, h1, h2, h3, hm => by
    rw [rotE]
    split
    · rename_i h
      have := swr_all P I [] J Q h
      simp only [List.append_nil, List.length_nil, Nat.add_zero] at this
      rw [show m - I.length = P.length by omega, ← hm]; exact this
    · split
      · rename_i h0 h
        obtain ⟨I1, I2, rfl, hI⟩ := split_at (l := I) (n := J.length) (by omega)
        simp only [List.length_append] at h1 h3 hm h h0 ⊢
        have e := swr_all P I1 I2 J Q (by omega)
        have e1 : P ++ (I1 ++ I2) ++ J ++ Q = P ++ I1 ++ I2 ++ J ++ Q := by simp
        have e0 : swr (P ++ (I1 ++ I2) ++ J ++ Q) (m - (I1.length + I2.length)) m J.length = P ++ J ++ I2 ++ I1 ++ Q := by
          rw [e1, show m - (I1.length + I2.length) = P.length by omega, show m = P.length + I1.length + I2.length by omega, show J.length = I1.length by omega]; exact e
        rw [e0]
        have ih := rotE_lists m f (P ++ J) I2 I1 Q (by omega) (by omega) (by omega) (by simp; omega)
        rw [show I1.length + I2.length - J.length = I2.length by omega, show J.length = I1.length by omega]
        rw [ih]; simp
      · rename_i h0 h
        obtain ⟨J1, J2, rfl, hJ⟩ := split_at (l := J) (n := J.length - I.length) (by omega)
        simp only [List.length_append] at h2 h3 hJ h h0 ⊢
        have e := swr_all P I J1 J2 Q (by omega)
        have e1 : P ++ I ++ (J1 ++ J2) ++ Q = P ++ I ++ J1 ++ J2 ++ Q := by simp
        have e0 : swr (P ++ I ++ (J1 ++ J2) ++ Q) (m - I.length) (m + (J1.length + J2.length) - I.length) I.length = P ++ J2 ++ J1 ++ I ++ Q := by
          rw [e1, show m - I.length = P.length by omega, show m + (J1.length + J2.length) - I.length = P.length + I.length + J1.length by omega]; exact e
        rw [e0]
        have ih := rotE_lists m f P J2 J1 (I ++ Q) (by omega) (by omega) (by omega) (by omega)
        rw [show J1.length + J2.length - I.length = J1.length by omega, show I.length = J2.length by omega]
        have e3 : P ++ J2 ++ J1 ++ I ++ Q = P ++ J2 ++ J1 ++ (I ++ Q) := by simp
        rw [e3, ih]; simp

/-- one thing goes behind others -/
def shr (E : List α) (k : Nat) : Nat → List α
  | 0 => E
  | n + 1 => shr (swp E k (k + 1)) (k + 1) n
theorem shr_lists : ∀ (Y P : List α) (x : α) (Q : List α) (k : Nat), k = P.length → shr (P ++ x :: Y ++ Q) k Y.length = P ++ Y ++ x :: Q
  | [], P, x, Q, k, h => by simp [shr]
  | y :: Y, P, x, Q, k, h => by
    have e : P ++ x :: (y :: Y) ++ Q = P ++ x :: ([] ++ y :: (Y ++ Q)) := by simp
    rw [List.length_cons, shr, e, swp_two P [] (Y ++ Q) x y k (k + 1) h (by simp; omega)]
    have ih := shr_lists Y (P ++ [y]) x Q (k + 1) (by simp; omega)
    have e2 : P ++ y :: ([] ++ x :: (Y ++ Q)) = P ++ [y] ++ x :: Y ++ Q := by simp
    rw [e2, ih]; simp
/-- one thing goes ahead of others -/
def shl (E : List α) : Nat → Nat → List α
  | _, 0 => E
  | k, n + 1 => shl (swp E k (k - 1)) (k - 1) n
theorem shl_lists : ∀ (n : Nat) (X P : List α) (y : α) (Q : List α) (k : Nat), X.length = n → k = P.length + X.length → shl (P ++ X ++ y :: Q) k n = P ++ y :: X ++ Q
  | 0, X, P, y, Q, k, hn, h => by
    have e := List.length_eq_zero_iff.1 hn
    subst e; simp [shl]
  | n + 1, X, P, y, Q, k, hn, h => by
    obtain ⟨X, x, rfl⟩ := snoc_of (l := X) (by omega)
    simp only [List.length_append, List.length_cons, List.length_nil] at hn h
    have e : P ++ (X ++ [x]) ++ y :: Q = (P ++ X) ++ x :: ([] ++ y :: Q) := by simp
    rw [shl, e, swp_two' (P ++ X) [] Q x y (k - 1) k (by simp; omega) (by simp; omega)]
    have ih := shl_lists n X P y (x :: Q) (k - 1) (by omega) (by omega)
    rw [List.nil_append, ih]; simp

/-! ## sorting by insertion -/
def bub (lt : α → α → Bool) (a : Nat) : Nat → List α → List α
  | 0, L => L
  | j + 1, L => if a ≤ j ∧ lt (L.getD (j + 1) default) (L.getD j default) = true then bub lt a j (swp L (j + 1) j) else L
def outr (lt : α → α → Bool) (a : Nat) : Nat → Nat → List α → List α
  | 0, _, L => L
  | n + 1, i, L => outr lt a n (i + 1) (bub lt a i L)
def isortL (lt : α → α → Bool) (L : List α) (a b : Nat) : List α := outr lt a (b - (a + 1)) (a + 1) L
theorem bub_len (a : Nat) : ∀ (j : Nat) (L : List α), (bub lt a j L).length = L.length
  | 0, L => rfl
  | j + 1, L => by rw [bub]; split; rw [bub_len a j, swp_len]; rfl
theorem outr_len (a : Nat) : ∀ (n i : Nat) (L : List α), (outr lt a n i L).length = L.length
  | 0, _, L => rfl
  | n + 1, i, L => by rw [outr, outr_len a n, bub_len]
theorem isortL_len (L : List α) (a b : Nat) : (isortL lt L a b).length = L.length := outr_len _ _ _ _
theorem bub_lists (R : Rank lt) (pre : List α) (x : α) (S : List α) : ∀ (post : List α) (j : Nat), j = pre.length + S.length → InOrder lt S → bub lt pre.length j (pre ++ S ++ x :: post) = pre ++ smerge lt S [x] ++ post := by
  refine snoc_ind (P := fun S => ∀ (post : List α) (j : Nat), j = pre.length + S.length → InOrder lt S → bub lt pre.length j (pre ++ S ++ x :: post) = pre ++ smerge lt S [x] ++ post) ?_ ?_ S
  · intro post j hj _
    simp only [List.length_nil, Nat.add_zero] at hj
    subst hj
    rw [nil_smerge]
    have : bub lt pre.length pre.length (pre ++ [] ++ x :: post) = pre ++ [] ++ x :: post := by
      cases h : pre.length with
      | zero => rfl
      | succ n => rw [bub, if_neg (by omega)]
    rw [this]; simp
  · intro S y ih post j hj ho
    simp only [List.length_append, List.length_cons, List.length_nil] at hj
    have ho1 : InOrder lt S := (List.pairwise_append.1 ho).1
    have hy : ∀ s ∈ S, lt y s = false := fun s hs => (List.pairwise_append.1 ho).2.2 s hs y (by simp)
    obtain ⟨k, rfl⟩ : ∃ k, j = k + 1 := ⟨j - 1, by omega⟩
    have e : pre ++ (S ++ [y]) ++ x :: post = (pre ++ S) ++ y :: ([] ++ x :: post) := by simp
    have g1 : ((pre ++ S) ++ y :: ([] ++ x :: post)).getD k default = y := getD_mid _ _ _ _ _ (by simp; omega)
    have g2 : ((pre ++ S) ++ y :: ([] ++ x :: post)).getD (k + 1) default = x := by
      have : (pre ++ S) ++ y :: ([] ++ x :: post) = (pre ++ S ++ [y]) ++ x :: post := by simp
      rw [this]; exact getD_mid _ _ _ _ _ (by simp; omega)
    rw [bub, e, g1, g2]
    split
    · rename_i h
      rw [swp_two' (pre ++ S) [] post y x k (k + 1) (by simp; omega) (by simp; omega), List.nil_append, ih (y :: post) k (by omega) ho1]
      have := smerge_halves R _ S [x] [y] [] rfl (fun s hs z hz => by simp at hz; subst hz; exact hy s hs) (fun a ha z hz => by simp at ha hz; subst ha; subst hz; exact h.2) (fun _ _ w hw => by simp at hw)
      simp only [List.append_nil] at this
      rw [this, smerge_nil]; simp
    · rename_i h
      have hxy : lt x y = false := by
        cases hc : lt x y with
        | false => rfl
        | true => exact absurd ⟨by omega, hc⟩ h
      have hin : InOrder lt ((S ++ [y]) ++ [x]) := by
        refine List.pairwise_append.2 ⟨ho, List.pairwise_singleton _ _, fun s hs z hz => ?_⟩
        simp only [List.mem_singleton] at hz; subst hz
        rcases List.mem_append.1 hs with h1 | h1
        · exact R.trans _ _ _ hxy (hy s h1)
        · simp only [List.mem_singleton] at h1; subst h1; exact hxy
      rw [smerge_done _ _ hin]; simp
theorem outr_lists (R : Rank lt) (pre post : List α) : ∀ (X2 X1 : List α) (i : Nat), i = pre.length + X1.length → outr lt pre.length X2.length i (pre ++ iso lt X1 ++ X2 ++ post) = pre ++ iso lt (X1 ++ X2) ++ post
  | [], X1, i, h => by simp [outr]
  | x :: X2, X1, i, h => by
    have e : pre ++ iso lt X1 ++ (x :: X2) ++ post = pre ++ iso lt X1 ++ x :: (X2 ++ post) := by simp
    rw [List.length_cons, outr, e, bub_lists R pre x (iso lt X1) (X2 ++ post) i (by rw [iso_len]; exact h) (iso_inOrder R _), ← iso_snoc]
    have ih := outr_lists R pre post X2 (X1 ++ [x]) (i + 1) (by simp; omega)
    have e2 : pre ++ iso lt (X1 ++ [x]) ++ (X2 ++ post) = pre ++ iso lt (X1 ++ [x]) ++ X2 ++ post := by simp
    rw [e2, ih]; simp
theorem isortL_lists (R : Rank lt) (pre X post : List α) : isortL lt (pre ++ X ++ post) pre.length (pre.length + X.length) = pre ++ iso lt X ++ post := by
  unfold isortL
  cases X with
  | nil => rw [show pre.length + ([] : List α).length - (pre.length + 1) = 0 by simp]; simp [outr, iso]
  | cons x X =>
    have := outr_lists R pre post X [x] (pre.length + 1) (by simp)
    have e : iso lt [x] = [x] := by simp [iso, smerge]
    rw [e] at this
    rw [show pre.length + (x :: X).length - (pre.length + 1) = X.length by simp; omega]
    simpa using this
end
end Go.Ab
