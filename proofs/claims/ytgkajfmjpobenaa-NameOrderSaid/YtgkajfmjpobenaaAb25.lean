/-
  Mathematics of a stable sort: merging of two lists that are in order, insertion, and what stands where in lists put together.
  Conditions: none.
-/
namespace Go.Ab

section
variable {α : Type}

theorem getD_mid (A B : List α) (x d : α) (i : Nat) (h : i = A.length) : (A ++ x :: B).getD i d = x := by
  subst h; simp [List.getD_eq_getElem?_getD]
theorem set_mid (A B : List α) (x y : α) (i : Nat) (h : i = A.length) : (A ++ x :: B).set i y = A ++ y :: B := by
  subst h; simp
/-- two places change their things -/
theorem swap_two (A B C : List α) (x y : α) (i j : Nat) (hi : i = A.length) (hj : j = A.length + 1 + B.length) : ((A ++ x :: (B ++ y :: C)).set i y).set j x = A ++ y :: (B ++ x :: C) := by
  rw [set_mid A _ x y i hi]
  have e : A ++ y :: (B ++ y :: C) = (A ++ y :: B) ++ y :: C := by simp
  rw [e, set_mid (A ++ y :: B) C y x j (by simp; omega)]
  simp
theorem split_at {l : List α} {n : Nat} (h : n ≤ l.length) : ∃ A B, l = A ++ B ∧ A.length = n := ⟨l.take n, l.drop n, (List.take_append_drop n l).symm, by simp; omega⟩
theorem cons_of {l : List α} (h : 0 < l.length) : ∃ x r, l = x :: r := by
  cases l with
  | nil => simp at h
  | cons x r => exact ⟨x, r, rfl⟩
theorem snoc_of {l : List α} (h : 0 < l.length) : ∃ r x, l = r ++ [x] := ⟨l.dropLast, l.getLast (by intro e; simp [e] at h), (List.dropLast_concat_getLast _).symm⟩

/-- a strict order of ranks -/
structure Rank (lt : α → α → Bool) : Prop where
  asym : ∀ a b, lt a b = true → lt b a = false
  trans : ∀ a b c, lt a b = false → lt b c = false → lt a c = false

variable {lt : α → α → Bool}
theorem Rank.irr (R : Rank lt) (a : α) : lt a a = false := by
  cases h : lt a a with
  | false => rfl
  | true => have := R.asym a a h; rw [h] at this; cases this
theorem Rank.lt_of (R : Rank lt) {a b c : α} (h1 : lt a b = true) (h2 : lt c b = false) : lt a c = true := by
  cases h : lt a c with
  | true => rfl
  | false => have := R.trans a c b h h2; rw [h1] at this; cases this
theorem Rank.lt_of' (R : Rank lt) {a b c : α} (h1 : lt b a = false) (h2 : lt b c = true) : lt a c = true := by
  cases h : lt a c with
  | true => rfl
  | false => have := R.trans b a c h1 h; rw [h2] at this; cases this

def InOrder (lt : α → α → Bool) (l : List α) : Prop := l.Pairwise fun a b => lt b a = false
theorem InOrder.get {l : List α} (h : InOrder lt l) {i j : Nat} (hij : i < j) (hj : j < l.length) (d : α) : lt (l.getD j d) (l.getD i d) = false := by
  rw [List.getD_eq_getElem?_getD, List.getD_eq_getElem?_getD, List.getElem?_eq_getElem hj, List.getElem?_eq_getElem (by omega)]
  exact List.pairwise_iff_getElem.1 h i j (by omega) hj hij

/-- stable merging -/
def smerge (lt : α → α → Bool) : List α → List α → List α
  | [], ys => ys
  | x :: xs, [] => x :: xs
  | x :: xs, y :: ys => if lt y x = true then y :: smerge lt (x :: xs) ys else x :: smerge lt xs (y :: ys)
termination_by xs ys => xs.length + ys.length
theorem smerge_nil (xs : List α) : smerge lt xs [] = xs := by cases xs <;> simp [smerge]
theorem nil_smerge (ys : List α) : smerge lt [] ys = ys := by simp [smerge]
theorem smerge_perm : ∀ (n : Nat) (xs ys : List α), xs.length + ys.length = n → (smerge lt xs ys).Perm (xs ++ ys) := by
  intro n
  induction n using Nat.strongRecOn with
  | _ n ih =>
    intro xs ys hn
    cases xs with
    | nil => simp [smerge]
    | cons x xs => cases ys with
      | nil => simp [smerge]
      | cons y ys =>
        rw [smerge]
        split
        · have := ih _ (by simp at hn ⊢; omega) (x :: xs) ys rfl
          exact (this.cons y).trans (List.perm_middle).symm
        · have := ih _ (by simp at hn ⊢; omega) xs (y :: ys) rfl
          exact this.cons x
theorem smerge_len (xs ys : List α) : (smerge lt xs ys).length = xs.length + ys.length := by
  have := (smerge_perm (lt := lt) _ xs ys rfl).length_eq
  simpa using this
theorem smerge_inOrder (R : Rank lt) : ∀ (n : Nat) (xs ys : List α), xs.length + ys.length = n → InOrder lt xs → InOrder lt ys → InOrder lt (smerge lt xs ys) := by
  intro n
  induction n using Nat.strongRecOn with
  | _ n ih =>
    intro xs ys hn hx hy
    cases xs with
    | nil => simpa [smerge] using hy
    | cons x xs => cases ys with
      | nil => simpa [smerge] using hx
      | cons y ys =>
        rw [smerge]
        obtain ⟨hx1, hx2⟩ := List.pairwise_cons.1 hx
        obtain ⟨hy1, hy2⟩ := List.pairwise_cons.1 hy
        split
        · rename_i h
          refine List.pairwise_cons.2 ⟨fun z hz => ?_, ih _ (by simp at hn ⊢; omega) (x :: xs) ys rfl hx hy2⟩
          rcases List.mem_append.1 ((smerge_perm _ _ _ rfl).mem_iff.1 hz) with h1 | h1
          · have hyx := R.asym y x h
            rcases List.mem_cons.1 h1 with rfl | h1
            · exact hyx
            · exact R.trans _ _ _ (hx1 z h1) hyx
          · exact hy1 z h1
        · rename_i h
          have h : lt y x = false := by simpa using h
          refine List.pairwise_cons.2 ⟨fun z hz => ?_, ih _ (by simp at hn ⊢; omega) xs (y :: ys) rfl hx2 hy⟩
          rcases List.mem_append.1 ((smerge_perm _ _ _ rfl).mem_iff.1 hz) with h1 | h1
          · exact hx1 z h1
          · rcases List.mem_cons.1 h1 with rfl | h1
            · exact h
            · exact R.trans _ _ _ (hy1 z h1) h
/-- what is in order already stays -/
theorem smerge_done (xs ys : List α) (h : InOrder lt (xs ++ ys)) : smerge lt xs ys = xs ++ ys := by
  induction xs with
  | nil => simp [smerge]
  | cons x xs ih =>
    obtain ⟨h1, h2⟩ := List.pairwise_cons.1 h
    cases ys with
    | nil => simp [smerge]
    | cons y ys =>
      rw [smerge, if_neg (by rw [h1 y (by simp)]; exact Bool.false_ne_true), ih h2]; rfl
/-- both halves apart: all that goes first is ahead of all that goes last -/
theorem smerge_halves (R : Rank lt) : ∀ (n : Nat) (A1 B1 A2 B2 : List α), A1.length + B1.length = n →
    (∀ x ∈ A1, ∀ z ∈ A2, lt z x = false) → (∀ y ∈ B1, ∀ z ∈ A2, lt y z = true) → (∀ x ∈ A1, ∀ w ∈ B2, lt w x = false) →
    smerge lt (A1 ++ A2) (B1 ++ B2) = smerge lt A1 B1 ++ smerge lt A2 B2 := by
  intro n
  induction n using Nat.strongRecOn with
  | _ n ih =>
    intro A1 B1 A2 B2 hn h1 h2 h3
    cases A1 with
    | nil =>
      rw [nil_smerge, List.nil_append]
      clear ih hn h1 h3
      induction B1 with
      | nil => rfl
      | cons y B1 ihb =>
        cases A2 with
        | nil => simp [smerge]
        | cons z A2 =>
          rw [List.cons_append, smerge, if_pos (h2 y (by simp) z (by simp))]
          have := ihb (fun y' hy' => h2 y' (by simp [hy']))
          rw [this]; rfl
    | cons x A1 =>
      cases B1 with
      | nil =>
        rw [List.nil_append, smerge_nil]
        have key : smerge lt (x :: A1 ++ A2) B2 = x :: smerge lt (A1 ++ A2) B2 := by
          cases B2 with
          | nil => rw [smerge_nil, smerge_nil]; rfl
          | cons w B2 => rw [List.cons_append, smerge, if_neg (by rw [h3 x (by simp) w (by simp)]; exact Bool.false_ne_true)]
        have := ih A1.length (by simp at hn; omega) A1 [] A2 B2 (by simp) (fun a ha => h1 a (by simp [ha])) (by simp) (fun a ha => h3 a (by simp [ha]))
        rw [key]
        rw [List.nil_append, smerge_nil] at this
        rw [this]; rfl
      | cons y B1 =>
        by_cases h : lt y x = true
        · have := ih _ (by simp at hn ⊢; omega) (x :: A1) B1 A2 B2 rfl h1 (fun a ha => h2 a (by simp [ha])) h3
          simp only [List.cons_append] at this ⊢
          rw [smerge, if_pos h, smerge, if_pos h, this]; rfl
        · have := ih _ (by simp at hn ⊢; omega) A1 (y :: B1) A2 B2 rfl (fun a ha => h1 a (by simp [ha])) h2 (fun a ha => h3 a (by simp [ha]))
          simp only [List.cons_append] at this ⊢
          rw [smerge, if_neg h, smerge, if_neg h, this]; rfl
theorem smerge_one_left (x : α) (Y1 Y2 : List α) (h1 : ∀ y ∈ Y1, lt y x = true) (h2 : ∀ y ∈ Y2, lt y x = false) : smerge lt [x] (Y1 ++ Y2) = Y1 ++ x :: Y2 := by
  induction Y1 with
  | nil =>
    cases Y2 with
    | nil => simp [smerge]
    | cons y Y2 => rw [List.nil_append, smerge, if_neg (by rw [h2 y (by simp)]; exact Bool.false_ne_true), nil_smerge]; rfl
  | cons y Y1 ih => rw [List.cons_append, smerge, if_pos (h1 y (by simp)), ih (fun a ha => h1 a (by simp [ha]))]; rfl
theorem smerge_one_right (y : α) (X1 X2 : List α) (h1 : ∀ x ∈ X1, lt y x = false) (h2 : ∀ x ∈ X2, lt y x = true) : smerge lt (X1 ++ X2) [y] = X1 ++ y :: X2 := by
  induction X1 with
  | nil =>
    cases X2 with
    | nil => simp [smerge]
    | cons x X2 => rw [List.nil_append, smerge, if_pos (h2 x (by simp)), smerge_nil]; rfl
  | cons x X1 ih => rw [List.cons_append, smerge, if_neg (by rw [h1 x (by simp)]; exact Bool.false_ne_true), ih (fun a ha => h1 a (by simp [ha]))]; rfl

/-! ## sorting by insertion, block by block, and merging the blocks -/
def iso (lt : α → α → Bool) (X : List α) : List α := X.foldl (fun S x => smerge lt S [x]) []
theorem iso_snoc (X : List α) (x : α) : iso lt (X ++ [x]) = smerge lt (iso lt X) [x] := by simp [iso]
theorem snoc_ind {P : List α → Prop} (h0 : P []) (h1 : ∀ l x, P l → P (l ++ [x])) (l : List α) : P l := by
  have : ∀ r : List α, P r.reverse := by
    intro r
    induction r with
    | nil => exact h0
    | cons x r ih => rw [List.reverse_cons]; exact h1 _ _ ih
  simpa using this l.reverse
theorem iso_perm (X : List α) : (iso lt X).Perm X := by
  refine snoc_ind (P := fun X => (iso lt X).Perm X) (List.Perm.refl _) (fun l x ih => ?_) X
  rw [iso_snoc]
  exact (smerge_perm _ _ _ rfl).trans (ih.append_right [x])
theorem iso_len (X : List α) : (iso lt X).length = X.length := (iso_perm X).length_eq
theorem iso_inOrder (R : Rank lt) (X : List α) : InOrder lt (iso lt X) := by
  refine snoc_ind (P := fun X => InOrder lt (iso lt X)) List.Pairwise.nil (fun l x ih => ?_) X
  rw [iso_snoc]
  exact smerge_inOrder R _ _ _ rfl ih (List.pairwise_singleton _ _)
theorem iso_done (X : List α) : InOrder lt X → iso lt X = X := by
  refine snoc_ind (P := fun X => InOrder lt X → iso lt X = X) (fun _ => rfl) (fun l x ih h => ?_) X
  have h1 := (List.pairwise_append.1 h).1
  rw [iso_snoc, ih h1, smerge_done _ _ h]

def blk (lt : α → α → Bool) (m : Nat) : Nat → List α → List α
  | 0, l => iso lt l
  | f + 1, l => if l.length < m then iso lt l else iso lt (l.take m) ++ blk lt m f (l.drop m)
def passL (lt : α → α → Bool) (m : Nat) : Nat → List α → List α
  | 0, l => l
  | f + 1, l => if l.length ≤ m then l else smerge lt (l.take m) ((l.drop m).take m) ++ passL lt m f (l.drop (2 * m))
def upL (lt : α → α → Bool) : Nat → Nat → List α → List α
  | 0, _, l => l
  | f + 1, m, l => if m < l.length then upL lt f (m * 2) (passL lt m l.length l) else l

inductive Chunks (lt : α → α → Bool) (m : Nat) : List α → Prop
  | last (X : List α) (h : X.length ≤ m) (ho : InOrder lt X) : Chunks lt m X
  | more (X R : List α) (h : X.length = m) (ho : InOrder lt X) (hr : Chunks lt m R) : Chunks lt m (X ++ R)
theorem InOrder.take {l : List α} (h : InOrder lt l) (n : Nat) : InOrder lt (l.take n) := h.sublist (List.take_sublist _ _)
theorem InOrder.drop {l : List α} (h : InOrder lt l) (n : Nat) : InOrder lt (l.drop n) := h.sublist (List.drop_sublist _ _)
theorem Chunks.head {m : Nat} {l : List α} (h : Chunks lt m l) : InOrder lt (l.take m) := by
  cases h with
  | last X h ho => exact ho.take m
  | more X R h ho hr => rw [List.take_append_of_le_length (by omega), List.take_of_length_le (by omega)]; exact ho
theorem Chunks.tail {m : Nat} {l : List α} (h : Chunks lt m l) : Chunks lt m (l.drop m) := by
  cases h with
  | last X h ho => rw [List.drop_of_length_le h]; exact .last _ (Nat.zero_le _) List.Pairwise.nil
  | more X R h ho hr => rw [List.drop_append_of_le_length (by omega), List.drop_of_length_le (by omega)]; exact hr

theorem blk_eq {m : Nat} (hm : 0 < m) : ∀ (f : Nat) (l : List α), l.length ≤ f → blk lt m f l = if l.length < m then iso lt l else iso lt (l.take m) ++ blk lt m (l.drop m).length (l.drop m) := by
  have key : ∀ (n f : Nat) (l : List α), l.length ≤ n → n ≤ f → blk lt m f l = blk lt m n l := by
    intro n
    induction n using Nat.strongRecOn with
    | _ n ih =>
      intro f l h1 h2
      cases n with
      | zero => cases f with
        | zero => rfl
        | succ f => rw [blk, blk, if_pos (by omega)]
      | succ n => cases f with
        | zero => omega
        | succ f =>
          rw [blk, blk]
          split
          · rfl
          · rename_i h
            have : (l.drop m).length ≤ n := by simp; omega
            rw [ih n (by omega) f _ this (by omega)]
  intro f l hf
  cases f with
  | zero =>
    have h0 : l = [] := List.length_eq_zero_iff.1 (by omega)
    subst h0
    rw [blk, if_pos (by simpa using hm)]
  | succ f =>
    rw [blk]
    split
    · rfl
    · rename_i h
      rw [key (l.drop m).length f _ (Nat.le_refl _) (by simp; omega)]
theorem passL_eq {m : Nat} : ∀ (f : Nat) (l : List α), l.length ≤ f → passL lt m f l = if l.length ≤ m then l else smerge lt (l.take m) ((l.drop m).take m) ++ passL lt m (l.drop (2 * m)).length (l.drop (2 * m)) := by
  have key : ∀ (n f : Nat) (l : List α), l.length ≤ n → n ≤ f → 0 < m → passL lt m f l = passL lt m n l := by
    intro n
    induction n using Nat.strongRecOn with
    | _ n ih =>
      intro f l h1 h2 hm
      cases n with
      | zero => cases f with
        | zero => rfl
        | succ f => rw [passL, passL, if_pos (by omega)]
      | succ n => cases f with
        | zero => omega
        | succ f =>
          rw [passL, passL]
          split
          · rfl
          · rename_i h
            have : (l.drop (2 * m)).length ≤ n := by simp; omega
            rw [ih n (by omega) f _ this (by omega) hm]
  intro f l hf
  rcases Nat.eq_zero_or_pos m with hm | hm
  · subst hm
    have z : ∀ (f : Nat) (l : List α), passL lt 0 f l = l := by
      intro f
      induction f with
      | zero => intro l; rfl
      | succ f ih => intro l; rw [passL]; split
                     · rfl
                     · rw [ih]; simp [smerge]
    rw [z, z]; split
    · rfl
    · simp [smerge]
  · cases f with
    | zero =>
      have h0 : l = [] := List.length_eq_zero_iff.1 (by omega)
      subst h0
      rw [passL, if_pos (by simp)]
    | succ f =>
      rw [passL]
      split
      · rfl
      · rename_i h
        rw [key (l.drop (2 * m)).length f _ (Nat.le_refl _) (by simp; omega) hm]

theorem blk_spec (R : Rank lt) {m : Nat} (hm : 0 < m) : ∀ (n : Nat) (l : List α), l.length = n → (blk lt m n l).Perm l ∧ Chunks lt m (blk lt m n l) ∧ (InOrder lt l → blk lt m n l = l) := by
  intro n
  induction n using Nat.strongRecOn with
  | _ n ih =>
    intro l hn
    rw [blk_eq hm n l (by omega)]
    split
    · rename_i h
      exact ⟨iso_perm l, .last _ (by rw [iso_len]; omega) (iso_inOrder R l), iso_done l⟩
    · rename_i h
      obtain ⟨h1, h2, h3⟩ := ih (l.drop m).length (by simp; omega) (l.drop m) rfl
      refine ⟨?_, .more _ _ (by rw [iso_len]; simp; omega) (iso_inOrder R _) h2, fun ho => ?_⟩
      · have := (iso_perm (lt := lt) (l.take m)).append h1
        rwa [List.take_append_drop] at this
      · rw [iso_done _ (ho.take m), h3 (ho.drop m), List.take_append_drop]
theorem passL_spec (R : Rank lt) {m : Nat} (hm : 0 < m) : ∀ (n : Nat) (l : List α), l.length = n → Chunks lt m l → (passL lt m n l).Perm l ∧ Chunks lt (m * 2) (passL lt m n l) ∧ (InOrder lt l → passL lt m n l = l) := by
  intro n
  induction n using Nat.strongRecOn with
  | _ n ih =>
    intro l hn hc
    rw [passL_eq n l (by omega)]
    split
    · rename_i h
      refine ⟨List.Perm.refl _, .last _ (by omega) ?_, fun _ => rfl⟩
      have := hc.head
      rwa [List.take_of_length_le h] at this
    · rename_i h
      have e : l.drop (2 * m) = (l.drop m).drop m := by rw [List.drop_drop]; congr 1; omega
      have hc2 : Chunks lt m (l.drop (2 * m)) := by rw [e]; exact hc.tail.tail
      obtain ⟨h1, h2, h3⟩ := ih (l.drop (2 * m)).length (by simp; omega) (l.drop (2 * m)) rfl hc2
      have split3 : l.take m ++ ((l.drop m).take m ++ l.drop (2 * m)) = l := by rw [e, List.take_append_drop, List.take_append_drop]
      have ho := smerge_inOrder R _ _ _ rfl hc.head hc.tail.head
      refine ⟨?_, ?_, fun hl => ?_⟩
      · have := (smerge_perm (lt := lt) _ (l.take m) ((l.drop m).take m) rfl).append h1
        rwa [List.append_assoc, split3] at this
      · by_cases hs : l.length < 2 * m
        · have e0 : l.drop (2 * m) = [] := List.drop_of_length_le (by omega)
          rw [e0] at h2 ⊢
          have e1 : passL lt m ([] : List α).length [] = [] := rfl
          rw [e1, List.append_nil]
          exact .last _ (by rw [smerge_len]; simp; omega) ho
        · exact .more _ _ (by rw [smerge_len]; simp; omega) ho h2
      · have h12 : InOrder lt (l.take m ++ (l.drop m).take m) := by
          have : l.take m ++ (l.drop m).take m = l.take (m + m) := by rw [List.take_add]
          rw [this]; exact hl.take _
        rw [smerge_done _ _ h12, h3 (hl.drop _), List.append_assoc, split3]
theorem upL_spec (R : Rank lt) : ∀ (f m : Nat) (l : List α), 0 < m → l.length ≤ m + f → Chunks lt m l → (upL lt f m l).Perm l ∧ InOrder lt (upL lt f m l) ∧ (InOrder lt l → upL lt f m l = l)
  | 0, m, l, hm, hl, hc => by
    refine ⟨List.Perm.refl _, ?_, fun _ => rfl⟩
    have := hc.head
    rwa [List.take_of_length_le (by omega)] at this
  | f + 1, m, l, hm, hl, hc => by
    rw [upL]
    split
    · obtain ⟨h1, h2, h3⟩ := passL_spec R hm l.length l rfl hc
      obtain ⟨g1, g2, g3⟩ := upL_spec R f (m * 2) (passL lt m l.length l) (by omega) (by rw [h1.length_eq]; omega) h2
      refine ⟨g1.trans h1, g2, fun ho => ?_⟩
      have e := h3 ho
      rw [g3 (by rw [e]; exact ho), e]
    · rename_i h
      refine ⟨List.Perm.refl _, ?_, fun _ => rfl⟩
      have := hc.head
      rwa [List.take_of_length_le (by omega)] at this
def ssort (lt : α → α → Bool) (l : List α) : List α := upL lt l.length 20 (blk lt 20 l.length l)
theorem ssort_spec (R : Rank lt) (l : List α) : (ssort lt l).Perm l ∧ InOrder lt (ssort lt l) ∧ (InOrder lt l → ssort lt l = l) := by
  obtain ⟨h1, h2, h3⟩ := blk_spec R (m := 20) (by omega) l.length l rfl
  obtain ⟨g1, g2, g3⟩ := upL_spec R l.length 20 _ (by omega) (by rw [h1.length_eq]; omega) h2
  refine ⟨g1.trans h1, g2, fun ho => ?_⟩
  unfold ssort
  have e := h3 ho
  rw [g3 (by rw [e]; exact ho), e]
theorem ssort_len (R : Rank lt) (l : List α) : (ssort lt l).length = l.length := (ssort_spec R l).1.length_eq
end
end Go.Ab
