/-
  Trees that are cut and joined: what they hold, and how high they are (mathematics).
  Conditions: none.
-/
import Derived.Test.YtaoiffinodfcfaaTypes
namespace Go.Proofs.Ytaoiffinodfcfaa
open Go Go.Ab
set_option linter.unusedVariables false
set_option linter.unusedSimpArgs false

theorem ht_le {α : Type} : ∀ t : Tr α, t.ht ≤ t.cnt
  | .nil => Nat.le_refl _
  | .node a x b => by have := ht_le a; have := ht_le b; simp only [Tr.ht, Tr.cnt]; omega
namespace Tr
variable {α : Type}
def list : Tr α → List α
  | .nil => []
  | .node a x b => a.list ++ x :: b.list
theorem list_len : ∀ t : Tr α, t.list.length = t.cnt
  | .nil => rfl
  | .node a x b => by simp only [list, cnt, List.length_append, List.length_cons, list_len a, list_len b]; omega
def leanA (a : Tr α) (x : α) (b : Tr α) : Tr α :=
  if a.ht ≤ b.ht + 1 then .node a x b else
  match a with
  | .nil => .node .nil x b
  | .node l y r => if r.ht ≤ l.ht then .node l y (.node r x b) else
    match r with
    | .nil => .node (.node l y .nil) x b
    | .node rl z rr => .node (.node l y rl) z (.node rr x b)
def leanB (a : Tr α) (x : α) (b : Tr α) : Tr α :=
  if b.ht ≤ a.ht + 1 then .node a x b else
  match b with
  | .nil => .node a x .nil
  | .node l y r => if l.ht ≤ r.ht then .node (.node a x l) y r else
    match l with
    | .nil => .node a x (.node .nil y r)
    | .node ll z lr => .node (.node a x ll) z (.node lr y r)
def around (a : Tr α) (x : α) (b : Tr α) : Tr α :=
  if b.ht + 1 < a.ht then (match a with | .nil => .node .nil x b | .node l y r => leanB l y (around r x b))
  else if a.ht + 1 < b.ht then (match b with | .nil => .node a x .nil | .node l y r => leanA (around a x l) y r)
  else .node a x b
termination_by a.cnt + b.cnt
decreasing_by all_goals (simp only [cnt]; omega)
def split : Tr α → Int → Tr α × Tr α
  | .nil, _ => (.nil, .nil)
  | .node a x b, at_ =>
    if at_ ≤ 0 then (.nil, .node a x b)
    else if (a.cnt + 1 + b.cnt : Int) ≤ at_ then (.node a x b, .nil)
    else if at_ ≤ a.cnt then ((split a at_).1, around (split a at_).2 x b)
    else (around a x (split b (at_ - a.cnt - 1)).1, (split b (at_ - a.cnt - 1)).2)
def thing? : Tr α → Option α
  | .nil => none
  | .node _ x _ => some x
def join (a b : Tr α) : Tr α := match (split b 1).1 with
  | .nil => a
  | .node _ x _ => around a x (split b 1).2
def get? : Tr α → Int → Option α
  | .nil, _ => none
  | .node a x b, i => if i = a.cnt then some x else if i < a.cnt then a.get? i else b.get? (i - a.cnt - 1)

theorem node_of {t : Tr α} (h : 0 < t.ht) : ∃ a x b, t = .node a x b := by
  cases t with
  | nil => simp [ht] at h
  | node a x b => exact ⟨a, x, b, rfl⟩

theorem leanA_list (a : Tr α) (x : α) (b : Tr α) : (leanA a x b).list = a.list ++ x :: b.list := by
  unfold leanA
  split
  · rfl
  · split
    · rfl
    · split
      · simp [list]
      · split <;> simp [list]
theorem leanB_list (a : Tr α) (x : α) (b : Tr α) : (leanB a x b).list = a.list ++ x :: b.list := by
  unfold leanB
  split
  · rfl
  · split
    · rfl
    · split
      · simp [list]
      · split <;> simp [list]
theorem around_list (a : Tr α) (x : α) (b : Tr α) : (around a x b).list = a.list ++ x :: b.list := by
  fun_induction around a x b <;> simp_all [leanA_list, leanB_list, list]
theorem around_cnt (a : Tr α) (x : α) (b : Tr α) : (around a x b).cnt = a.cnt + 1 + b.cnt := by
  rw [← list_len, around_list, List.length_append, List.length_cons, list_len, list_len]; omega

theorem split_list : ∀ (t : Tr α) (i : Int), (split t i).1.list = t.list.take i.toNat ∧ (split t i).2.list = t.list.drop i.toNat
  | .nil, i => by simp [split, list]
  | .node a x b, i => by
    have ha := split_list a i
    have hb := split_list b (i - a.cnt - 1)
    have la := list_len a
    have lb := list_len b
    rw [split]
    split
    · have : i.toNat = 0 := by omega
      simp [this, list]
    · split
      · have h1 : (Tr.node a x b).list.length ≤ i.toNat := by simp only [list, List.length_append, List.length_cons, la, lb]; omega
        exact ⟨(List.take_of_length_le h1).symm, (List.drop_eq_nil_of_le h1).symm⟩
      · split
        · have h1 : i.toNat - a.list.length = 0 := by omega
          simp only [around_list, ha.1, ha.2, list, List.take_append, List.drop_append, h1]
          simp
        · obtain ⟨k, hk⟩ : ∃ k, i.toNat - a.list.length = k + 1 := ⟨i.toNat - a.list.length - 1, by omega⟩
          have h2 : (i - a.cnt - 1).toNat = k := by omega
          have h3 : a.list.length ≤ i.toNat := by omega
          simp only [around_list, hb.1, hb.2, list, List.take_append, List.drop_append, hk, h2, List.take_of_length_le h3, List.drop_eq_nil_of_le h3]
          simp
theorem split_cnt (t : Tr α) (i : Int) : (split t i).1.cnt + (split t i).2.cnt = t.cnt := by
  have h := split_list t i
  rw [← list_len, ← list_len, ← list_len, h.1, h.2, ← List.length_append, List.take_append_drop]
theorem split_low (t : Tr α) (i : Int) (h : i ≤ 0) : split t i = (.nil, t) := by
  cases t with
  | nil => rfl
  | node a x b => rw [split, if_pos h]
theorem split_high (t : Tr α) (i : Int) (h0 : ¬ i ≤ 0) (h : (t.cnt : Int) ≤ i) : split t i = (t, .nil) := by
  cases t with
  | nil => rfl
  | node a x b => rw [split, if_neg h0, if_pos (by simp only [cnt] at h; omega)]
theorem one_of {t : Tr α} (h : t.cnt = 1) : ∃ x, t = .node .nil x .nil := by
  cases t with
  | nil => simp [cnt] at h
  | node a x b =>
    simp only [cnt] at h
    have z : ∀ t : Tr α, t.cnt = 0 → t = .nil := fun t ht => by cases t with | nil => rfl | node a x b => simp [cnt] at ht
    exact ⟨x, by rw [z a (by omega), z b (by omega)]⟩
theorem nil_of {t : Tr α} (h : t.list = []) : t = .nil := by
  cases t with
  | nil => rfl
  | node a x b => simp [list] at h
/-- the first of some -/
theorem split_one (a : Tr α) (y : α) (b : Tr α) : ∃ x, (split (.node a y b) 1).1 = .node .nil x .nil := by
  refine one_of ?_
  rw [← list_len, (split_list _ _).1]
  have : (Tr.node a y b).list.length = a.cnt + 1 + b.cnt := by rw [list_len]; rfl
  rw [List.length_take, this, show (1 : Int).toNat = 1 from rfl]
  omega
theorem join_list (a b : Tr α) : (join a b).list = a.list ++ b.list := by
  unfold join
  cases b with
  | nil => simp [split, list]
  | node l y r =>
    obtain ⟨x, hx⟩ := split_one l y r
    have h := split_list (.node l y r) 1
    rw [hx] at h ⊢
    simp only [around_list]
    rw [h.2]
    have e := List.take_append_drop (1 : Int).toNat (Tr.node l y r).list
    rw [← h.1] at e
    simp only [list] at e ⊢
    rw [← e]; simp
theorem join_cnt (a b : Tr α) : (join a b).cnt = a.cnt + b.cnt := by
  rw [← list_len, join_list, List.length_append, list_len, list_len]
theorem get_list : ∀ (t : Tr α) (i : Int), t.get? i = if 0 ≤ i then t.list[i.toNat]? else none
  | .nil, i => by simp [get?, list]
  | .node a x b, i => by
    have ha := get_list a i
    have hb := get_list b (i - a.cnt - 1)
    have la := list_len a
    rw [get?]
    split
    · rename_i h
      have : i.toNat = a.list.length := by omega
      rw [if_pos (by omega), list, this]; simp
    · split
      · rw [ha]
        by_cases h0 : 0 ≤ i
        · rw [if_pos h0, if_pos h0, list, List.getElem?_append_left (by omega)]
        · rw [if_neg h0, if_neg h0]
      · rw [hb, if_pos (by omega), if_pos (by omega), list, List.getElem?_append_right (by omega)]
        rw [show i.toNat - a.list.length = (i - a.cnt - 1).toNat + 1 by omega]; simp
/-! ## what stands well -/
def bal : Tr α → Prop
  | .nil => True
  | .node a _ b => a.bal ∧ b.bal ∧ a.ht ≤ b.ht + 1 ∧ b.ht ≤ a.ht + 1
theorem leanB_bal {a : Tr α} (x : α) {b : Tr α} (ha : a.bal) (hb : b.bal) (h1 : b.ht ≤ a.ht + 2) (h2 : a.ht ≤ b.ht + 1) :
    (leanB a x b).bal ∧ (b.ht ≤ a.ht + 1 → (leanB a x b).ht = max a.ht b.ht + 1) ∧ (a.ht + 1 < b.ht → b.ht ≤ (leanB a x b).ht ∧ (leanB a x b).ht ≤ b.ht + 1) := by
  fun_cases leanB a x b <;> simp_all [bal, ht] <;> omega
theorem leanA_bal {a : Tr α} (x : α) {b : Tr α} (ha : a.bal) (hb : b.bal) (h1 : a.ht ≤ b.ht + 2) (h2 : b.ht ≤ a.ht + 1) :
    (leanA a x b).bal ∧ (a.ht ≤ b.ht + 1 → (leanA a x b).ht = max a.ht b.ht + 1) ∧ (b.ht + 1 < a.ht → a.ht ≤ (leanA a x b).ht ∧ (leanA a x b).ht ≤ a.ht + 1) := by
  fun_cases leanA a x b <;> simp_all [bal, ht] <;> omega
theorem around_bal {a : Tr α} (x : α) {b : Tr α} (ha : a.bal) (hb : b.bal) : (around a x b).bal ∧ max a.ht b.ht ≤ (around a x b).ht ∧ (around a x b).ht ≤ max a.ht b.ht + 1 := by
  fun_induction around a x b with
  | case1 b h => simp [ht] at h
  | case2 b l y r h ih =>
    simp only [bal, ht] at ha h ⊢
    obtain ⟨i1, i2, i3⟩ := ih ha.2.1 hb
    obtain ⟨j1, j2, j3⟩ := leanB_bal y ha.1 i1 (by omega) (by omega)
    refine ⟨j1, ?_⟩
    rcases Nat.lt_or_ge (l.ht + 1) (around r x b).ht with h3 | h3
    · have := j3 h3; omega
    · have := j2 h3; omega
  | case3 a h h2 => simp [ht] at h2
  | case4 a l y r h h2 ih =>
    simp only [bal, ht] at hb h h2 ⊢
    obtain ⟨i1, i2, i3⟩ := ih ha hb.1
    obtain ⟨j1, j2, j3⟩ := leanA_bal y i1 hb.2.1 (by omega) (by omega)
    refine ⟨j1, ?_⟩
    rcases Nat.lt_or_ge (r.ht + 1) (around a x l).ht with h3 | h3
    · have := j3 h3; omega
    · have := j2 h3; omega
  | case5 a b h h2 => simp only [bal, ht]; exact ⟨⟨ha, hb, by omega, by omega⟩, by omega, by omega⟩
theorem split_bal : ∀ (t : Tr α) (i : Int), t.bal → (split t i).1.bal ∧ (split t i).2.bal
  | .nil, i, h => ⟨trivial, trivial⟩
  | .node a x b, i, h => by
    rw [split]
    split
    · exact ⟨trivial, h⟩
    · split
      · exact ⟨h, trivial⟩
      · split
        · have := split_bal a i h.1; exact ⟨this.1, (around_bal x this.2 h.2.1).1⟩
        · have := split_bal b (i - a.cnt - 1) h.2.1; exact ⟨(around_bal x h.1 this.1).1, this.2⟩
theorem join_bal {a b : Tr α} (ha : a.bal) (hb : b.bal) : (join a b).bal := by
  unfold join
  split
  · exact ha
  · exact (around_bal _ ha (split_bal b 1 hb).2).1
/-- how many a tree of a height has at least -/
def least : Nat → Nat
  | 0 => 0
  | 1 => 1
  | n + 2 => least (n + 1) + least n + 1
theorem least_up : ∀ n, least n ≤ least (n + 1)
  | 0 => by decide
  | n + 1 => by simp only [least]; omega
theorem least_le : ∀ (t : Tr α), t.bal → least t.ht ≤ t.cnt
  | .nil, _ => Nat.le_refl _
  | .node a x b, h => by
    have ha := least_le a h.1
    have hb := least_le b h.2.1
    have h1 := h.2.2.1
    have h2 := h.2.2.2
    simp only [ht, cnt]
    rcases Nat.lt_trichotomy a.ht b.ht with h3 | h3 | h3
    · have e1 : max a.ht b.ht = a.ht + 1 := by omega
      have e2 : b.ht = a.ht + 1 := by omega
      rw [e2] at hb; rw [e1, least]; omega
    · have e1 : max a.ht b.ht = a.ht := by omega
      rw [← h3] at hb; rw [e1]
      cases hh : a.ht with
      | zero => simp [least]; omega
      | succ n => rw [hh] at ha hb; have := least_up n; simp only [least]; omega
    · have e1 : max a.ht b.ht = b.ht + 1 := by omega
      have e2 : a.ht = b.ht + 1 := by omega
      rw [e2] at ha; rw [e1, least]; omega
theorem least_mono {m n : Nat} (h : m ≤ n) : least m ≤ least n := by
  induction h with
  | refl => exact Nat.le_refl _
  | step _ ih => exact Nat.le_trans ih (least_up _)
/-- things as a tree, halved -/
def ofL (l : List α) : Tr α :=
  if h : 0 < l.length then .node (ofL (l.take (l.length / 2))) (l[l.length / 2]'(by omega)) (ofL (l.drop (l.length / 2 + 1))) else .nil
termination_by l.length
decreasing_by all_goals (simp; omega)
theorem ofL_nil : ofL ([] : List α) = .nil := by rw [ofL]; rfl
theorem ofL_list (l : List α) : (ofL l).list = l := by
  fun_induction ofL l with
  | case1 l h i1 i2 => simp only [list, i1, i2]; rw [← List.drop_eq_getElem_cons, List.take_append_drop]
  | case2 l h =>
    have : l = [] := List.length_eq_zero_iff.1 (by omega)
    rw [this]; rfl
theorem ofL_cnt (l : List α) : (ofL l).cnt = l.length := by rw [← list_len, ofL_list]
/-! ## what leaning, joining far apart and cutting are, case by case -/
theorem leanB_1 {a : Tr α} {x : α} {b : Tr α} (h : b.ht ≤ a.ht + 1) : leanB a x b = .node a x b := by
  cases b <;> (unfold leanB; rw [if_pos h])
theorem leanB_2 {a : Tr α} {x : α} {l : Tr α} {y : α} {r : Tr α} (h : ¬ max l.ht r.ht + 1 ≤ a.ht + 1) (h2 : l.ht ≤ r.ht) : leanB a x (.node l y r) = .node (.node a x l) y r := by
  have h : ¬ (Tr.node l y r).ht ≤ a.ht + 1 := h
  unfold leanB; rw [if_neg h]; simp only [if_pos h2]
theorem leanB_3 {a : Tr α} {x : α} {l : Tr α} {z : α} {r : Tr α} {y : α} {s : Tr α} (h : ¬ max (max l.ht r.ht + 1) s.ht + 1 ≤ a.ht + 1) (h2 : ¬ max l.ht r.ht + 1 ≤ s.ht) : leanB a x (.node (.node l z r) y s) = .node (.node a x l) z (.node r y s) := by
  have h : ¬ (Tr.node (Tr.node l z r) y s).ht ≤ a.ht + 1 := h
  have h2 : ¬ (Tr.node l z r).ht ≤ s.ht := h2
  unfold leanB; rw [if_neg h]; simp only [if_neg h2]
theorem leanA_1 {a : Tr α} {x : α} {b : Tr α} (h : a.ht ≤ b.ht + 1) : leanA a x b = .node a x b := by
  cases a <;> (unfold leanA; rw [if_pos h])
theorem leanA_2 {b : Tr α} {x : α} {l : Tr α} {y : α} {r : Tr α} (h : ¬ max l.ht r.ht + 1 ≤ b.ht + 1) (h2 : r.ht ≤ l.ht) : leanA (.node l y r) x b = .node l y (.node r x b) := by
  have h : ¬ (Tr.node l y r).ht ≤ b.ht + 1 := h
  unfold leanA; rw [if_neg h]; simp only [if_pos h2]
theorem leanA_3 {b : Tr α} {x : α} {l : Tr α} {z : α} {r : Tr α} {y : α} {s : Tr α} (h : ¬ max s.ht (max l.ht r.ht + 1) + 1 ≤ b.ht + 1) (h2 : ¬ max l.ht r.ht + 1 ≤ s.ht) : leanA (.node s y (.node l z r)) x b = .node (.node s y l) z (.node r x b) := by
  have h : ¬ (Tr.node s y (Tr.node l z r)).ht ≤ b.ht + 1 := h
  have h2 : ¬ (Tr.node l z r).ht ≤ s.ht := h2
  unfold leanA; rw [if_neg h]; simp only [if_neg h2]
theorem around_1 {l : Tr α} {y : α} {r : Tr α} {x : α} {b : Tr α} (h : b.ht + 1 < max l.ht r.ht + 1) : around (.node l y r) x b = leanB l y (around r x b) := by
  have h : b.ht + 1 < (Tr.node l y r).ht := h
  rw [around.eq_def, if_pos h]
theorem around_2 {a : Tr α} {x : α} {l : Tr α} {y : α} {r : Tr α} (h : ¬ max l.ht r.ht + 1 + 1 < a.ht) (h2 : a.ht + 1 < max l.ht r.ht + 1) : around a x (.node l y r) = leanA (around a x l) y r := by
  have h : ¬ (Tr.node l y r).ht + 1 < a.ht := h
  have h2 : a.ht + 1 < (Tr.node l y r).ht := h2
  rw [around.eq_def, if_neg h, if_pos h2]
theorem around_3 {a : Tr α} {x : α} {b : Tr α} (h : ¬ b.ht + 1 < a.ht) (h2 : ¬ a.ht + 1 < b.ht) : around a x b = .node a x b := by
  cases a <;> cases b <;> rw [around.eq_def, if_neg h, if_neg h2]
end Tr
end Go.Proofs.Ytaoiffinodfcfaa
