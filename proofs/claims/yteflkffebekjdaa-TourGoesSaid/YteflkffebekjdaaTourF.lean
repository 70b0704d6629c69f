/-
  Contracts of the library's searches in lists, of the document's answers for layer 8's lists, and of what says that two lists are the same, on plain data.
  Conditions: not too many places.
-/
import Derived.Test.YteflkffebekjdaaSeqT
import Derived.Test.YteflkffebekjdaaNameF
import Derived.Test.YteflkffebekjdaaTourM2
import Derived.Test.YteflkffebekjdaaAb29
namespace Go.Proofs.Yteflkffebekjdaa
open Go Go.Ab
set_option linter.unusedVariables false
set_option linter.unusedSimpArgs false
set_option linter.unusedSectionVars false

section
variable {α : Type} [DecidableEq α]
def fstP (l : List α) (v : α) : Int := if v ∈ l then (idx l v : Int) else -1
theorem fst_at {l : List α} {v : α} {i : Nat} (h : l[i]? = some v) (hm : ∀ k, k < i → l[k]? ≠ some v) : fstP l v = i := by
  rw [fstP, if_pos (List.mem_of_getElem? h), idx_eq h hm]
theorem fst_none {l : List α} {v : α} {i : Nat} (hi : l.length ≤ i) (hm : ∀ k, k < i → l[k]? ≠ some v) : fstP l v = -1 := by
  rw [fstP, if_neg]
  intro h
  obtain ⟨k, hk⟩ := List.getElem?_of_mem h
  exact hm k (by have := (List.getElem?_eq_some_iff.1 hk).1; omega) hk
theorem fst_next {l : List α} {v x : α} {i : Nat} (hm : ∀ k, k < i → l[k]? ≠ some v) (h : l[i]? = some x) (hne : x ≠ v) : ∀ k, k < i + 1 → l[k]? ≠ some v := fun k hk => by
  rcases Nat.lt_or_ge k i with h1 | h1
  · exact hm k h1
  · obtain rfl : k = i := by omega
    rw [h]; simpa using hne
theorem fst_ge (l : List α) (v : α) : decide (0 ≤ fstP l v) = decide (v ∈ l) := by
  unfold fstP; split
  · rename_i h; simp [h]
  · rename_i h; simp [h]
theorem fst_in {l : List α} {v : α} (h : v ∈ l) : fstP l v = idx l v := by rw [fstP, if_pos h]
end
theorem getD_at {α : Type} [Inhabited α] {l : List α} {i : Nat} (h : i < l.length) : ∃ x, l[i]? = some x ∧ l.getD i default = x :=
  ⟨l[i], List.getElem?_eq_getElem h, by rw [List.getD_eq_getElem?_getD, List.getElem?_eq_getElem h]; rfl⟩
def idxF (p : Int → Bool) : List Int → Nat
  | [] => 0
  | x :: l => if p x then 0 else idxF p l + 1
def fstF (p : Int → Bool) (l : List Int) : Int := if l.any p then (idxF p l : Int) else -1
theorem idxF_eq {p : Int → Bool} : ∀ {l : List Int} {i : Nat} {x : Int}, l[i]? = some x → p x = true → (∀ (k : Nat) (y : Int), k < i → l[k]? = some y → p y = false) → idxF p l = i
  | [], i, x, h, _, _ => by simp at h
  | z :: l, i, x, h, hp, hm => by
    simp only [idxF]
    cases i with
    | zero => simp only [List.getElem?_cons_zero, Option.some.injEq] at h; subst h; rw [if_pos hp]
    | succ i =>
      have h0 := hm 0 z (by omega) rfl
      rw [h0, if_neg (by simp), idxF_eq (i := i) (by simpa using h) hp (fun k y hk hy => hm (k + 1) y (by omega) (by simpa using hy))]
theorem fstF_at {p : Int → Bool} {l : List Int} {i : Nat} {x : Int} (h : l[i]? = some x) (hp : p x = true) (hm : ∀ (k : Nat) (y : Int), k < i → l[k]? = some y → p y = false) : fstF p l = i := by
  rw [fstF, if_pos (List.any_eq_true.2 ⟨x, List.mem_of_getElem? h, hp⟩), idxF_eq h hp hm]
theorem fstF_none {p : Int → Bool} {l : List Int} {i : Nat} (hi : l.length ≤ i) (hm : ∀ (k : Nat) (y : Int), k < i → l[k]? = some y → p y = false) : fstF p l = -1 := by
  rw [fstF, if_neg]
  intro h
  obtain ⟨x, hx, hp⟩ := List.any_eq_true.1 h
  obtain ⟨k, hk⟩ := List.getElem?_of_mem hx
  rw [hm k x (by have := (List.getElem?_eq_some_iff.1 hk).1; omega) hk] at hp; cases hp
theorem fstF_next {p : Int → Bool} {l : List Int} {i : Nat} {x : Int} (hm : ∀ (k : Nat) (y : Int), k < i → l[k]? = some y → p y = false) (h : l[i]? = some x) (hp : p x = false) : ∀ (k : Nat) (y : Int), k < i + 1 → l[k]? = some y → p y = false := fun k y hk hy => by
  rcases Nat.lt_or_ge k i with h1 | h1
  · exact hm k y h1 hy
  · obtain rfl : k = i := by omega
    rw [h] at hy; simp only [Option.some.injEq] at hy; subst hy; exact hp
theorem fstF_ge (p : Int → Bool) (l : List Int) : decide (0 ≤ fstF p l) = l.any p := by
  unfold fstF; split
  · rename_i h; simp [h]
  · rename_i h; simp only [Bool.not_eq_true] at h; simp [h]
/-- maps that have 1 by each key -/
def one1 (_ : Int) : PV := .v (.int .i64 1)
theorem has_mem : ∀ (ks : List Int) (a : Int), hasM ks a = decide (a ∈ ks)
  | [], a => by simp [hasM]
  | k :: ks, a => by rw [hasM, has_mem ks a]; by_cases e : a = k <;> simp [e]
theorem atM_one : ∀ (ks : List Int) (a : Int), atM ks (ks.map one1) (PV.v (.int .i64 0)) a = PV.v (.int .i64 (if a ∈ ks then 1 else 0))
  | [], a => by simp [atM]
  | k :: ks, a => by
    simp only [List.map_cons, atM]
    by_cases e : a = k
    · subst e; simp [one1]
    · rw [if_neg e, atM_one ks a]; simp [e]
theorem insM_one : ∀ (ks : List Int) (a : Int), insM ks (ks.map one1) a (PV.v (.int .i64 1)) = (keyM ks a).map one1
  | [], a => by simp [insM, keyM, hasM, one1]
  | k :: ks, a => by
    simp only [List.map_cons, insM]
    by_cases e : a = k
    · subst e; simp [keyM, hasM, one1]
    · have hb : (a == k) = false := by simpa using e
      rw [if_neg e, insM_one ks a]
      simp only [keyM, hasM, hb, Bool.false_or]
      split <;> simp
theorem keyM_mem (ks : List Int) (a x : Int) : x ∈ keyM ks a ↔ x ∈ ks ∨ x = a := by
  unfold keyM; rw [has_mem]
  by_cases e : a ∈ ks
  · simp only [e, decide_true, if_true]
    exact ⟨.inl, fun h => h.elim id (fun h => h ▸ e)⟩
  · simp [e]
theorem keyM_new {ks : List Int} {a : Int} (h : a ∉ ks) : keyM ks a = ks ++ [a] := by unfold keyM; rw [has_mem]; simp [h]

theorem index_any (l : List Int) (v : Int) (hl : l.length < 1099511627776) : ACalls Try.prog 38 [.sl (l.map iPV), iPV v] (iPV (fstP l v)) := by
  refine ent Try.func38 ?_
  repeat (refine AW_seq ?_)
  refine reg ?_
  refine run 1 ?_
  refine fin [0, 1] [] ?_
  repeat (refine AW_seq ?_)
  refine reg ?_
  refine run 2 ?_
  refine run 1 ?_
  refine fin [0, 1, 7, 8] [] ?_
  repeat (refine AW_seq ?_)
  refine AW_block ?_
  refine AW_loops (ι := Nat) (fun i => ⟨lk [(0, .c (.sl (l.map iPV))), (1, .c (iPV v)), (7, .c (iPV l.length)), (8, .c (iPV i))], lkM [], lkG [] 0⟩) (fun i => i ≤ l.length ∧ ∀ k, k < i → l[k]? ≠ some v) (fun i => l.length - i) 0 ⟨Nat.zero_le _, fun k h => absurd h (Nat.not_lt_zero k)⟩ wk ?_
  rintro i ⟨hi, hF⟩
  obtain ⟨hF, -⟩ : Go.RowKit.Hid (∀ k, k < i → l[k]? ≠ some v) ∧ True := ⟨hF, trivial⟩
  rename_i hF0
  clear hF0
  repeat (refine AW_seq ?_)
  refine reg ?_
  refine run 1 ?_
  refine fin [0, 1, 7, 8, 9] [] ?_
  repeat (refine AW_seq ?_)
  refine tst (fun h1 => ?_) (fun h1 => ?_)
  · simp at h1
    obtain ⟨x, hx, hg⟩ := getD_at h1
    refine AW_skip ?_
    repeat (refine AW_seq ?_)
    refine AW_block ?_
    repeat (refine AW_seq ?_)
    refine reg ?_
    refine run 2 ?_
    refine fin [0, 1, 5, 7, 8] [] ?_
    repeat (refine AW_seq ?_)
    refine reg ?_
    refine run 2 ?_
    refine run 2 ?_
    refine run 2 ?_
    refine fin [0, 1, 5, 7, 8, 16] [] ?_
    repeat (refine AW_seq ?_)
    refine tst (fun h2 => ?_) (fun h2 => ?_)
    · simp at h2
      repeat (refine AW_seq ?_)
      refine reg ?_
      refine run 2 ?_
      refine fin [4] [] ?_
      refine AW_ret (ret ?_)
      rw [fst_at (by rw [hx, h2]) hF.out]; rfl
    · simp at h2
      refine AW_skip ?_
      repeat (refine AW_seq ?_)
      refine reg ?_
      refine run 2 ?_
      refine finN ?_
      exact ⟨i + 1, by omega, ⟨by omega, fst_next hF.out hx (fun e => h2 e.symm)⟩, wk⟩
  · simp at h1
    refine AW_exit ?_
    repeat (refine AW_seq ?_)
    refine reg ?_
    refine run 1 ?_
    refine fin [4] [] ?_
    refine AW_ret (ret ?_)
    rw [fst_none (by omega) hF.out]; rfl

theorem contains_any (l : List Int) (v : Int) (hl : l.length < 1099511627776) : ACalls Try.prog 19 [.sl (l.map iPV), iPV v] (bPV (decide (v ∈ l))) := by
  refine ent Try.func19 ?_
  repeat (refine AW_seq ?_)
  refine reg ?_
  refine run 1 ?_
  refine fin [0, 1] [] ?_
  repeat (refine AW_seq ?_)
  refine reg ?_
  refine run 2 ?_
  refine call (fun _ => index_any l v hl) ?_
  refine run 2 ?_
  refine fin [4] [] ?_
  refine AW_ret (ret ?_)
  rw [← fst_ge]; rfl

theorem first_any (l : List Int) (v : Int) (hl : l.length < 1099511627776) : ACalls Try.prog 29 [.sl (l.map iPV), iPV v] (iPV (fstP l v)) := by
  refine ent Try.func29 ?_
  repeat (refine AW_seq ?_)
  refine reg ?_
  refine run 1 ?_
  refine fin [0, 1] [] ?_
  repeat (refine AW_seq ?_)
  refine reg ?_
  refine run 1 ?_
  refine fin [0, 1, 5] [] ?_
  repeat (refine AW_seq ?_)
  refine AW_block ?_
  refine AW_loops (ι := Nat) (fun i => ⟨lk [(0, .c (.sl (l.map iPV))), (1, .c (iPV v)), (5, .c (iPV i))], lkM [], lkG [] 0⟩) (fun i => i ≤ l.length ∧ ∀ k, k < i → l[k]? ≠ some v) (fun i => l.length - i) 0 ⟨Nat.zero_le _, fun k h => absurd h (Nat.not_lt_zero k)⟩ wk ?_
  rintro i ⟨hi, hF⟩
  obtain ⟨hF, -⟩ : Go.RowKit.Hid (∀ k, k < i → l[k]? ≠ some v) ∧ True := ⟨hF, trivial⟩
  rename_i hF0
  clear hF0
  repeat (refine AW_seq ?_)
  refine reg ?_
  refine run 2 ?_
  refine run 2 ?_
  refine fin [0, 1, 5, 9] [] ?_
  repeat (refine AW_seq ?_)
  refine tst (fun h1 => ?_) (fun h1 => ?_)
  · simp at h1
    obtain ⟨x, hx, hg⟩ := getD_at h1
    refine AW_skip ?_
    repeat (refine AW_seq ?_)
    refine AW_block ?_
    repeat (refine AW_seq ?_)
    refine reg ?_
    refine run 2 ?_
    refine run 2 ?_
    refine run 2 ?_
    refine fin [0, 1, 5, 17] [] ?_
    repeat (refine AW_seq ?_)
    refine tst (fun h2 => ?_) (fun h2 => ?_)
    · simp at h2
      repeat (refine AW_seq ?_)
      refine reg ?_
      refine run 2 ?_
      refine fin [4] [] ?_
      refine AW_ret (ret ?_)
      rw [fst_at (by rw [hx, h2]) hF.out]; rfl
    · simp at h2
      refine AW_skip ?_
      repeat (refine AW_seq ?_)
      refine reg ?_
      refine run 2 ?_
      refine run 1 ?_
      refine finN ?_
      exact ⟨i + 1, by omega, ⟨by omega, fst_next hF.out hx h2⟩, wk⟩
  · simp at h1
    refine AW_exit ?_
    repeat (refine AW_seq ?_)
    refine reg ?_
    refine run 1 ?_
    refine fin [4] [] ?_
    refine AW_ret (ret ?_)
    rw [fst_none (by omega) hF.out]; rfl

theorem has_any (l : List Int) (v : Int) (hl : l.length < 1099511627776) : ACalls Try.prog 26 [.sl (l.map iPV), iPV v] (bPV (decide (v ∈ l))) := by
  refine ent Try.func26 ?_
  repeat (refine AW_seq ?_)
  refine reg ?_
  refine run 1 ?_
  refine fin [0, 1] [] ?_
  repeat (refine AW_seq ?_)
  refine reg ?_
  refine run 2 ?_
  refine call (fun _ => first_any l v hl) ?_
  refine run 2 ?_
  refine fin [4] [] ?_
  refine AW_ret (ret ?_)
  rw [← fst_ge]; rfl

theorem last_any (l : List Int) (v : Int) (hl : l.length < 1099511627776) : ACalls Try.prog 45 [.sl (l.map iPV), iPV v] (iPV (lst (-1) l v l.length)) := by
  refine ent Try.func45 ?_
  repeat (refine AW_seq ?_)
  refine reg ?_
  refine run 1 ?_
  refine fin [0, 1] [] ?_
  repeat (refine AW_seq ?_)
  refine reg ?_
  refine run 1 ?_
  refine fin [0, 1, 5] [] ?_
  repeat (refine AW_seq ?_)
  refine reg ?_
  refine run 1 ?_
  refine fin [0, 1, 5, 6] [] ?_
  repeat (refine AW_seq ?_)
  refine AW_block ?_
  refine AW_loops (ι := Nat) (fun i => ⟨lk [(0, .c (.sl (l.map iPV))), (1, .c (iPV v)), (5, .c (iPV (lst (-1) l v i))), (6, .c (iPV i))], lkM [], lkG [] 0⟩) (fun i => i ≤ l.length) (fun i => l.length - i) 0 (Nat.zero_le _) wk ?_
  rintro i hi
  obtain ⟨V, hV⟩ : ∃ V, lst (-1) l v i = V := ⟨_, rfl⟩
  rw [hV]
  obtain ⟨hV, -⟩ : Go.RowKit.Hid (lst (-1) l v i = V) ∧ True := ⟨hV, trivial⟩
  rename_i hV0
  clear hV0
  repeat (refine AW_seq ?_)
  refine reg ?_
  refine run 2 ?_
  refine run 2 ?_
  refine fin [0, 1, 5, 6, 10] [] ?_
  repeat (refine AW_seq ?_)
  refine tst (fun h1 => ?_) (fun h1 => ?_)
  · simp at h1
    obtain ⟨x, hx, hg⟩ := getD_at h1
    refine AW_skip ?_
    repeat (refine AW_seq ?_)
    refine AW_block ?_
    repeat (refine AW_seq ?_)
    refine reg ?_
    refine run 2 ?_
    refine run 2 ?_
    refine run 2 ?_
    refine fin [0, 1, 5, 6, 18] [] ?_
    repeat (refine AW_seq ?_)
    refine tst (fun h2 => ?_) (fun h2 => ?_)
    · simp at h2
      repeat (refine AW_seq ?_)
      refine reg ?_
      refine run 2 ?_
      refine finN ?_
      refine kp [0, 1, 5, 6] [] ?_
      repeat (refine AW_seq ?_)
      refine reg ?_
      refine run 2 ?_
      refine run 1 ?_
      refine finN ?_
      have e1 : lst (-1) l v (i + 1) = i := by rw [lst, if_pos (by rw [List.getD_eq_getElem?_getD, hx, ← h2]; rfl)]
      exact ⟨i + 1, by omega, by omega, wk⟩
    · simp at h2
      refine AW_skip ?_
      repeat (refine AW_seq ?_)
      refine reg ?_
      refine run 2 ?_
      refine run 1 ?_
      refine finN ?_
      have e1 : lst (-1) l v (i + 1) = V := by rw [lst, if_neg (by rw [List.getD_eq_getElem?_getD, hx]; exact h2), hV.out]
      exact ⟨i + 1, by omega, by omega, wk⟩
  · simp at h1
    refine AW_exit ?_
    repeat (refine AW_seq ?_)
    refine reg ?_
    refine run 2 ?_
    refine fin [4] [] ?_
    refine AW_ret (ret ?_)
    rw [← hV.out, show i = l.length by omega]; rfl

theorem indexF_any (l : List Int) (n : Nat) (cs : List PV) (p : Int → Bool) (hl : l.length < 1099511627776) (hp : ∀ x : Int, ACalls Try.prog n ([iPV x] ++ cs) (bPV (p x))) : ACalls Try.prog 48 [.sl (l.map iPV), .fn n cs] (iPV (fstF p l)) := by
  refine ent Try.func48 ?_
  obtain ⟨hp, -⟩ : Go.RowKit.Hid (∀ x : Int, ACalls Try.prog n ([iPV x] ++ cs) (bPV (p x))) ∧ True := ⟨hp, trivial⟩
  rename_i hp0
  clear hp0
  repeat (refine AW_seq ?_)
  refine reg ?_
  refine run 1 ?_
  refine fin [0, 1] [] ?_
  repeat (refine AW_seq ?_)
  refine reg ?_
  refine run 2 ?_
  refine run 1 ?_
  refine fin [0, 1, 7, 8] [] ?_
  repeat (refine AW_seq ?_)
  refine AW_block ?_
  refine AW_loops (ι := Nat) (fun i => ⟨lk [(0, .c (.sl (l.map iPV))), (1, .c (.fn n cs)), (7, .c (iPV l.length)), (8, .c (iPV i))], lkM [], lkG [] 0⟩) (fun i => i ≤ l.length ∧ ∀ (k : Nat) (y : Int), k < i → l[k]? = some y → p y = false) (fun i => l.length - i) 0 ⟨Nat.zero_le _, fun k y h => absurd h (Nat.not_lt_zero k)⟩ wk ?_
  rintro i ⟨hi, hF⟩
  obtain ⟨hF, -⟩ : Go.RowKit.Hid (∀ (k : Nat) (y : Int), k < i → l[k]? = some y → p y = false) ∧ True := ⟨hF, trivial⟩
  rename_i hF0
  clear hF0
  repeat (refine AW_seq ?_)
  refine reg ?_
  refine run 1 ?_
  refine fin [0, 1, 7, 8, 9] [] ?_
  repeat (refine AW_seq ?_)
  refine tst (fun h1 => ?_) (fun h1 => ?_)
  · simp at h1
    obtain ⟨x, hx, hg⟩ := getD_at h1
    have hc := hp.out x
    refine AW_skip ?_
    repeat (refine AW_seq ?_)
    refine AW_block ?_
    repeat (refine AW_seq ?_)
    refine reg ?_
    refine run 2 ?_
    refine fin [0, 1, 5, 7, 8] [] ?_
    repeat (refine AW_seq ?_)
    refine reg ?_
    refine run 2 ?_
    refine run 2 ?_
    refine run 1 ?_
    refine ccall (fun _ => hc) ?_
    refine fin [0, 1, 5, 7, 8, 16] [] ?_
    repeat (refine AW_seq ?_)
    refine tst (fun h2 => ?_) (fun h2 => ?_)
    · skip
      repeat (refine AW_seq ?_)
      refine reg ?_
      refine run 2 ?_
      refine fin [4] [] ?_
      refine AW_ret (ret ?_)
      rw [fstF_at hx h2 hF.out]; rfl
    · skip
      refine AW_skip ?_
      repeat (refine AW_seq ?_)
      refine reg ?_
      refine run 2 ?_
      refine finN ?_
      exact ⟨i + 1, by omega, ⟨by omega, fstF_next hF.out hx h2⟩, wk⟩
  · simp at h1
    refine AW_exit ?_
    repeat (refine AW_seq ?_)
    refine reg ?_
    refine run 1 ?_
    refine fin [4] [] ?_
    refine AW_ret (ret ?_)
    rw [fstF_none (by omega) hF.out]; rfl

theorem containsF_any (l : List Int) (n : Nat) (cs : List PV) (p : Int → Bool) (hl : l.length < 1099511627776) (hp : ∀ x : Int, ACalls Try.prog n ([iPV x] ++ cs) (bPV (p x))) : ACalls Try.prog 39 [.sl (l.map iPV), .fn n cs] (bPV (l.any p)) := by
  refine ent Try.func39 ?_
  obtain ⟨hp, -⟩ : Go.RowKit.Hid (∀ x : Int, ACalls Try.prog n ([iPV x] ++ cs) (bPV (p x))) ∧ True := ⟨hp, trivial⟩
  rename_i hp0
  clear hp0
  repeat (refine AW_seq ?_)
  refine reg ?_
  refine run 1 ?_
  refine fin [0, 1] [] ?_
  repeat (refine AW_seq ?_)
  refine reg ?_
  refine run 2 ?_
  refine call (fun _ => indexF_any l n cs p hl hp.out) ?_
  refine run 2 ?_
  refine fin [4] [] ?_
  refine AW_ret (ret ?_)
  rw [← fstF_ge]; rfl

theorem meet1_any (v : Int) (ks : List Int) : ACalls Try.prog 40 [iPV v, .ref (.agg [.mp .i64 ks (ks.map one1)])] (bPV (decide (v ∈ ks))) := by
  refine ent Try.func40 ?_
  have ha := atM_one ks v
  repeat (refine AW_seq ?_)
  refine reg ?_
  refine run 1 ?_
  refine fin [0, 1] [] ?_
  repeat (refine AW_seq ?_)
  refine reg ?_
  refine run 2 ?_
  refine run 2 ?_
  refine run 1 ?_
  refine fin [3] [] ?_
  refine AW_ret (ret ?_)
  by_cases h : v ∈ ks <;> simp [h, bPV]

theorem meet_any (a b : List Int) (ha : a.length < 1099511627776) (hb : b.length < 1099511627776) : ACalls Try.prog 20 [.sl (a.map iPV), .sl (b.map iPV)] (bPV (b.any fun x => decide (x ∈ a))) := by
  refine ent Try.func20 ?_
  repeat (refine AW_seq ?_)
  refine reg ?_
  refine run 1 ?_
  refine fin [0, 1] [] ?_
  repeat (refine AW_seq ?_)
  refine reg ?_
  refine run 2 ?_
  refine run 1 ?_
  refine fin [0, 1, 5] [(6, 0), (9, 0)] ?_
  repeat (refine AW_seq ?_)
  refine reg ?_
  refine run 2 ?_
  refine run 1 ?_
  refine fin [1, 5, 9, 10, 11] [(6, 0), (9, 0)] ?_
  repeat (refine AW_seq ?_)
  refine AW_block ?_
  refine AW_loops (ι := Nat × List Int) (fun z => ⟨lk [(1, .c (.sl (b.map iPV))), (5, .ptr (6, 0) 1 0 0), (9, .c (.sl (a.map iPV))), (10, .c (iPV a.length)), (11, .c (iPV z.1))], lkM [((6, 0), some ⟨68, 1, [.hole], true, [(0, (9, 0), none)], none⟩), ((9, 0), some ⟨68, 1, [], true, [], some (.i64, z.2, z.2.map one1)⟩)], lkG [] 1⟩) (fun z => z.1 ≤ a.length ∧ ∀ x, x ∈ z.2 ↔ x ∈ a.take z.1) (fun z => a.length - z.1) (0, []) ⟨Nat.zero_le _, by simp⟩ wk ?_
  rintro ⟨i, ks⟩ ⟨hi, hF⟩
  simp only at hi hF
  obtain ⟨hF, -⟩ : Go.RowKit.Hid (∀ x, x ∈ ks ↔ x ∈ a.take i) ∧ True := ⟨hF, trivial⟩
  rename_i hF0
  clear hF0
  have hio : ∀ v, insM ks (ks.map one1) v (PV.v (.int .i64 1)) = (keyM ks v).map one1 := insM_one ks
  repeat (refine AW_seq ?_)
  refine reg ?_
  refine run 1 ?_
  refine fin [1, 5, 9, 10, 11, 12] [(6, 0), (9, 0)] ?_
  repeat (refine AW_seq ?_)
  refine tst (fun h1 => ?_) (fun h1 => ?_)
  · simp at h1
    obtain ⟨x, hx, hg⟩ := getD_at h1
    refine AW_skip ?_
    repeat (refine AW_seq ?_)
    refine AW_block ?_
    repeat (refine AW_seq ?_)
    refine reg ?_
    refine run 2 ?_
    refine run 1 ?_
    refine fin [1, 5, 7, 9, 10, 11] [(6, 0), (9, 0)] ?_
    repeat (refine AW_seq ?_)
    refine reg ?_
    refine run 2 ?_
    refine run 1 ?_
    refine finN ?_
    refine kp [1, 5, 9, 10, 11] [(6, 0), (9, 0)] ?_
    repeat (refine AW_seq ?_)
    refine reg ?_
    refine run 2 ?_
    refine finN ?_
    refine ⟨(i + 1, keyM ks x), by show a.length - (i + 1) < a.length - i; omega, ⟨by show i + 1 ≤ _; omega, fun y => ?_⟩, wk⟩
    show y ∈ keyM ks x ↔ y ∈ a.take (i + 1)
    rw [keyM_mem, hF.out y, List.take_add_one, hx]; simp
  · simp at h1
    have hc := containsF_any b 40 [.ref (.agg [.mp .i64 ks (ks.map one1)])] (fun v => decide (v ∈ ks)) hb (fun v => meet1_any v ks)
    refine AW_exit ?_
    repeat (refine AW_seq ?_)
    refine frz (6, 0) ?_
    refine ro (6, 0) ?_
    refine reg ?_
    refine run 2 ?_
    refine call (fun _ => hc) ?_
    refine run 1 ?_
    refine fin [4] [] ?_
    refine AW_ret (ret ?_)
    have e1 : (fun v => decide (v ∈ ks)) = fun v => decide (v ∈ a) := by
      funext v; have := hF.out v; rw [List.take_of_length_le (by omega)] at this; simp [this]
    rw [e1]; rfl

theorem both_any (a b : List Int) (ha : a.length < 1099511627776) (hb : b.length < 1099511627776) : FCalls Try.prog 27 [.sl (a.map iPV), .sl (b.map iPV)] ⟨3, 1, (a ++ b).map iPV, true, [], none⟩ := by
  refine entF Try.func27 ?_
  repeat (refine AW_seq ?_)
  refine reg ?_
  refine run 1 ?_
  refine fin [0, 1] [] ?_
  repeat (refine AW_seq ?_)
  refine reg ?_
  refine run 1 ?_
  refine fin [0, 1, 5] [] ?_
  repeat (refine AW_seq ?_)
  refine reg ?_
  refine run 2 ?_
  refine run 2 ?_
  refine fin [1, 5] [(9, 0)] ?_
  repeat (refine AW_seq ?_)
  refine reg ?_
  refine run 2 ?_
  refine run 2 ?_
  refine fin [4] [(9, 0)] ?_
  refine AW_ret (retF ?_)
  rw [List.map_append]

theorem edge_any (u v : Int) : ACalls Try.prog 31 [iPV u, iPV v] (edPV (ed u v)) := by
  refine ent Try.func31 ?_
  repeat (refine AW_seq ?_)
  refine reg ?_
  refine run 1 ?_
  refine fin [0, 1, 4] [(5, 0)] ?_
  repeat (refine AW_seq ?_)
  refine reg ?_
  refine run 2 ?_
  refine run 2 ?_
  refine run 2 ?_
  refine run 2 ?_
  refine fin [4] [(5, 0)] ?_
  refine AW_ret (ret ?_)
  rw [ed, edPV, show (if v < u then v else u) = min u v by omega, show (if v > u then v else u) = max u v by omega]; rfl

end Go.Proofs.Yteflkffebekjdaa