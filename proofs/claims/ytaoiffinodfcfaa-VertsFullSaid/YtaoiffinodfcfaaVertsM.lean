/-
  The mathematics of directories: slots, the dictionary of their keys, what is found, free, added and removed.
  Conditions: none.
-/
import Derived.Test.YtaoiffinodfcfaaDictD
namespace Go.Proofs.Ytaoiffinodfcfaa
open Go Go.Ab
set_option linter.unusedVariables false
set_option linter.unusedSimpArgs false

theorem getD_at {α : Type} [Inhabited α] {l : List α} {i : Nat} (h : i < l.length) : ∃ x, l[i]? = some x ∧ l.getD i default = x :=
  ⟨l[i], List.getElem?_eq_getElem h, by rw [List.getD_eq_getElem?_getD, List.getElem?_eq_getElem h]; rfl⟩
theorem getD_el {α : Type} [Inhabited α] {l : List α} {i : Nat} (h : i < l.length) : l.getD i default = l[i] := by
  rw [List.getD_eq_getElem?_getD, List.getElem?_eq_getElem h]; rfl
theorem getD_setA {α : Type} [Inhabited α] {l : List α} {i j : Nat} {x : α} (h : i < l.length) : (l.set i x).getD j default = if i = j then x else l.getD j default := by
  rw [List.getD_eq_getElem?_getD, List.getElem?_set, List.getD_eq_getElem?_getD]
  by_cases e : i = j
  · subst e; rw [if_pos rfl, if_pos rfl, if_pos h]; rfl
  · rw [if_neg e, if_neg e]
theorem ext_getD {α : Type} [Inhabited α] {a b : List α} (h : a.length = b.length) (h2 : ∀ i, i < a.length → a.getD i default = b.getD i default) : a = b := by
  refine List.ext_getElem h fun i h3 h4 => ?_
  have := h2 i h3
  rwa [getD_el h3, getD_el h4] at this
theorem take_map {α : Type} [Inhabited α] {l : List α} {i : Nat} {x : α} (hi : i < l.length) (hx : l.getD i default = x) : l.take (i + 1) = l.take i ++ [x] := by
  rw [getD_el hi] at hx
  rw [List.take_add_one, List.getElem?_eq_getElem hi, Option.toList_some, hx]

def Us (l : List Slt) (i : Nat) : Bool := (l.getD i default).used
def Ke (l : List Slt) (i : Nat) : Int := (l.getD i default).key
theorem us_of {l : List Slt} {i : Nat} {b : Bool} {k : Int} (h : l.getD i default = ⟨b, k⟩) : Us l i = b := by rw [Us, h]
theorem ke_of {l : List Slt} {i : Nat} {b : Bool} {k : Int} (h : l.getD i default = ⟨b, k⟩) : Ke l i = k := by rw [Ke, h]
theorem us_set {l : List Slt} {v i : Nat} {s : Slt} (h : v < l.length) : Us (l.set v s) i = if v = i then s.used else Us l i := by
  rw [Us, getD_setA h]; split <;> rfl
theorem ke_set {l : List Slt} {v i : Nat} {s : Slt} (h : v < l.length) : Ke (l.set v s) i = if v = i then s.key else Ke l i := by
  rw [Ke, getD_setA h]; split <;> rfl
/-- slots that are not used have no key -/
def Emp (l : List Slt) (n : Nat) : Prop := ∀ i, i < n → Us l i = false → Ke l i = 0
/-- no key is in two of the first slots -/
def Uni (l : List Slt) (n : Nat) : Prop := ∀ i, i < n → ∀ k, k < i → Us l i = true → Us l k = true → Ke l k ≠ Ke l i
def RightP (l : List Slt) : Prop := 1 ≤ l.length ∧ l.length ≤ 1024 ∧ Emp l l.length ∧ Uni l l.length
instance (l : List Slt) (n : Nat) : Decidable (Emp l n) := by unfold Emp; infer_instance
instance (l : List Slt) (n : Nat) : Decidable (Uni l n) := by unfold Uni; infer_instance
instance (l : List Slt) : Decidable (RightP l) := by unfold RightP; infer_instance
theorem Uni.ne {l : List Slt} {n i j : Nat} (h : Uni l n) (hi : i < n) (hj : j < n) (u : Us l i = true) (w : Us l j = true) (e : Ke l i = Ke l j) : i = j := by
  rcases Nat.lt_trichotomy i j with h1 | h1 | h1
  · exact absurd e (h j hj i h1 w u)
  · exact h1
  · exact absurd e.symm (h i hi j h1 u w)
theorem emp_next {l : List Slt} {i : Nat} (h : Emp l i) (h2 : Us l i = false → Ke l i = 0) : Emp l (i + 1) := fun j hj => by
  rcases Nat.lt_or_ge j i with h3 | h3
  · exact h j h3
  · obtain rfl : j = i := by omega
    exact h2
theorem uni_next {l : List Slt} {i : Nat} (h : Uni l i) (h2 : ∀ k, k < i → Us l i = true → Us l k = true → Ke l k ≠ Ke l i) : Uni l (i + 1) := fun j hj => by
  rcases Nat.lt_or_ge j i with h3 | h3
  · exact h j h3
  · obtain rfl : j = i := by omega
    exact h2
theorem Uni.less {l : List Slt} {n i : Nat} (h : Uni l n) (hi : i ≤ n) : Uni l i := fun j hj => h j (by omega)

/-! ## the dictionary of the first slots' keys -/
def dN (l : List Slt) : Nat → List Pr
  | 0 => []
  | i + 1 => if Us l i = true then putL (dN l i) (Ke l i) i else dN l i
def tN (l : List Slt) : Nat → Tr Pr
  | 0 => .nil
  | i + 1 => if Us l i = true then putT (tN l i) (Ke l i) i else tN l i
def usN (l : List Slt) : Nat → Nat
  | 0 => 0
  | i + 1 => if Us l i = true then usN l i + 1 else usN l i
theorem dN_ok (l : List Slt) : ∀ i, DOk (tN l i) (dN l i)
  | 0 => DOk.nil
  | i + 1 => by
    rw [tN, dN]; split
    · exact (dN_ok l i).put _ _
    · exact dN_ok l i
theorem usN_le (l : List Slt) : ∀ i, usN l i ≤ i
  | 0 => Nat.le_refl _
  | i + 1 => by have := usN_le l i; rw [usN]; split <;> omega
theorem put_old {L : List Pr} (h : Inc L) {k m : Int} (hm : (k, m) ∈ L) (n : Int) : (putL L k n).length ≤ L.length := by
  have e := congrArg List.length (lo_hi h k)
  rw [List.length_append] at e
  have : (delL L k).length < L.length := by
    unfold delL
    exact List.length_filter_lt_length_iff_exists.2 ⟨_, hm, by simp⟩
  simp only [putL, List.length_append, List.length_cons]; omega
theorem put_new {L : List Pr} (h : Inc L) {k : Int} (hk : ∀ p ∈ L, p.1 ≠ k) (n : Int) : (putL L k n).length = L.length + 1 := by
  have e : delL L k = L := List.filter_eq_self.2 fun p hp => by simpa using hk p hp
  have := congrArg List.length (lo_hi h k)
  rw [e, List.length_append] at this
  simp only [putL, List.length_append, List.length_cons]; omega
theorem dN_len (l : List Slt) : ∀ i, (dN l i).length ≤ usN l i
  | 0 => Nat.le_refl _
  | i + 1 => by
    have := dN_len l i
    rw [dN, usN]; split
    · have := putL_len (dN l i) (Ke l i) i; omega
    · exact this
theorem dN_of {l : List Slt} {p : Pr} : ∀ {i : Nat}, p ∈ dN l i → ∃ j : Nat, j < i ∧ Us l j = true ∧ p = (Ke l j, (j : Int))
  | 0, h => by cases h
  | i + 1, h => by
    rw [dN] at h
    split at h
    · rename_i hu
      rcases mem_put.1 h with rfl | ⟨h1, _⟩
      · exact ⟨i, by omega, hu, rfl⟩
      · obtain ⟨j, h2, h3⟩ := dN_of h1; exact ⟨j, by omega, h3⟩
    · obtain ⟨j, h2, h3⟩ := dN_of h; exact ⟨j, by omega, h3⟩
theorem dN_has {l : List Slt} {j : Nat} (hu : Us l j = true) : ∀ {i : Nat}, j < i → ∃ n, (Ke l j, n) ∈ dN l i
  | 0, h => by omega
  | i + 1, h => by
    rw [dN]
    by_cases e : j = i
    · subst e; rw [if_pos hu]; exact ⟨_, mem_put.2 (.inl rfl)⟩
    · obtain ⟨n, hn⟩ := dN_has hu (i := i) (by omega)
      split
      · by_cases e2 : Ke l j = Ke l i
        · exact ⟨_, mem_put.2 (.inl (by rw [e2]))⟩
        · exact ⟨n, mem_put.2 (.inr ⟨hn, e2⟩)⟩
      · exact ⟨n, hn⟩
theorem dN_uni (l : List Slt) : ∀ i, (dN l i).length = usN l i ↔ Uni l i
  | 0 => ⟨fun _ j hj => by omega, fun _ => rfl⟩
  | i + 1 => by
    have ih := dN_uni l i
    have hb := dN_len l i
    have hI := (dN_ok l i).inc
    rw [dN, usN]
    by_cases hu : Us l i = true
    · rw [if_pos hu, if_pos hu]
      by_cases hk : ∃ j, j < i ∧ Us l j = true ∧ Ke l j = Ke l i
      · obtain ⟨j, hj, h1, h2⟩ := hk
        obtain ⟨n, hn⟩ := dN_has h1 hj
        have := put_old hI (k := Ke l i) (by rw [← h2]; exact hn) i
        exact ⟨fun h => by omega, fun h => absurd h2 (h i (by omega) j hj hu h1)⟩
      · have hn : ∀ p ∈ dN l i, p.1 ≠ Ke l i := fun p hp e => by
          obtain ⟨j, hj, h1, rfl⟩ := dN_of hp
          exact hk ⟨j, hj, h1, e⟩
        rw [put_new hI hn]
        refine ⟨fun h => uni_next (ih.1 (by omega)) fun k h1 _ h3 h4 => hk ⟨k, h1, h3, h4⟩, fun h => ?_⟩
        rw [ih.2 (h.less (by omega))]
    · rw [if_neg hu, if_neg hu]
      exact ⟨fun h => uni_next (ih.1 h) fun k _ h2 => absurd h2 hu, fun h => ih.2 (h.less (by omega))⟩
theorem dN_iff {l : List Slt} {p : Pr} : ∀ {i : Nat}, Uni l i → (p ∈ dN l i ↔ ∃ j : Nat, j < i ∧ Us l j = true ∧ p = (Ke l j, (j : Int)))
  | 0, _ => ⟨fun h => (by cases h), fun ⟨j, h, _⟩ => by omega⟩
  | i + 1, h => by
    refine ⟨dN_of, ?_⟩
    rintro ⟨j, hj, h1, rfl⟩
    rw [dN]
    by_cases e : j = i
    · subst e; rw [if_pos h1]; exact mem_put.2 (.inl rfl)
    · have h2 := (dN_iff (h.less (by omega))).2 ⟨j, (by omega : j < i), h1, rfl⟩
      split
      · rename_i hu
        exact mem_put.2 (.inr ⟨h2, h i (by omega) j (by omega) hu h1⟩)
      · exact h2
theorem usN_is (l : List Slt) : ∀ i, i ≤ l.length → usN l i = (l.take i).countP (·.used)
  | 0, _ => rfl
  | i + 1, h => by
    rw [usN, usN_is l i (by omega), take_map (by omega) rfl, List.countP_append, List.countP_singleton]
    unfold Us; split <;> rfl

/-! ## the first of a kind -/
theorem fst_some {l : List Slt} {p : Slt → Bool} {v : Nat} : l.findIdx? p = some v ↔ v < l.length ∧ p (l.getD v default) = true ∧ ∀ j, j < v → p (l.getD j default) = false := by
  rw [List.findIdx?_eq_some_iff_getElem]
  constructor
  · rintro ⟨h, h1, h2⟩
    refine ⟨h, by rw [getD_el h]; exact h1, fun j hj => ?_⟩
    rw [getD_el (by omega)]
    have := h2 j hj
    simpa using this
  · rintro ⟨h, h1, h2⟩
    refine ⟨h, by rw [getD_el h] at h1; exact h1, fun j hj => ?_⟩
    have := h2 j hj
    rw [getD_el (by omega)] at this
    simp [this]
theorem fst_none {l : List Slt} {p : Slt → Bool} : l.findIdx? p = none ↔ ∀ j, j < l.length → p (l.getD j default) = false := by
  rw [List.findIdx?_eq_none_iff]
  constructor
  · intro h j hj; rw [getD_el hj]; exact h _ (List.getElem_mem hj)
  · intro h x hx
    obtain ⟨j, hj, rfl⟩ := List.getElem_of_mem hx
    have := h j hj
    rwa [getD_el hj] at this
def findN (l : List Slt) (k : Int) : Option Nat := l.findIdx? fun s => s.used && decide (s.key = k)
def freeN (l : List Slt) : Option Nat := l.findIdx? fun s => !s.used
theorem find_of {l : List Slt} {k : Int} {v : Nat} (h : findN l k = some v) : v < l.length ∧ Us l v = true ∧ Ke l v = k := by
  have := fst_some.1 h
  simp only [Bool.and_eq_true, decide_eq_true_eq] at this
  exact ⟨this.1, this.2.1.1, this.2.1.2⟩
theorem find_first {l : List Slt} {k : Int} {v : Nat} (h : v < l.length) (h1 : Us l v = true) (h2 : Ke l v = k) (h3 : ∀ j, j < v → ¬ (Us l j = true ∧ Ke l j = k)) : findN l k = some v := by
  refine fst_some.2 ⟨h, ?_, fun j hj => ?_⟩
  · simp only [Bool.and_eq_true, decide_eq_true_eq]; exact ⟨h1, h2⟩
  · have := h3 j hj
    unfold Us Ke at this
    cases hc : (l.getD j default).used with
    | false => rfl
    | true => rw [hc] at this; simpa using this
theorem find_none {l : List Slt} {k : Int} : findN l k = none ↔ ∀ j, j < l.length → ¬ (Us l j = true ∧ Ke l j = k) := by
  unfold findN; rw [fst_none]
  refine forall_congr' fun j => forall_congr' fun hj => ?_
  unfold Us Ke
  cases (l.getD j default).used <;> simp
theorem find_is {l : List Slt} {k : Int} {v : Nat} (hU : Uni l l.length) (h : v < l.length) (h1 : Us l v = true) (h2 : Ke l v = k) : findN l k = some v :=
  find_first h h1 h2 fun j hj ⟨h3, h4⟩ => by
    have := hU.ne (by omega) h h3 h1 (by rw [h4, h2]); omega
theorem free_of {l : List Slt} {v : Nat} : freeN l = some v ↔ v < l.length ∧ Us l v = false ∧ ∀ j, j < v → Us l j = true := by
  unfold freeN; rw [fst_some]; simp [Us]
theorem free_none {l : List Slt} : freeN l = none ↔ ∀ j, j < l.length → Us l j = true := by
  unfold freeN; rw [fst_none]; simp [Us]
theorem get_find {l : List Slt} (h : Uni l l.length) (k : Int) : getL (dN l l.length) k = (findN l k).map fun n => (n : Int) := by
  have hI := (dN_ok l l.length).inc
  cases e : findN l k with
  | none =>
    cases g : getL (dN l l.length) k with
    | none => rfl
    | some n =>
      obtain ⟨j, hj, h1, h2⟩ := dN_of ((getL_some hI).1 g)
      simp only [Prod.mk.injEq] at h2
      exact absurd ⟨h1, h2.1.symm⟩ (find_none.1 e j hj)
  | some v =>
    obtain ⟨h1, h2, h3⟩ := find_of e
    exact (getL_some hI).2 ((dN_iff h).2 ⟨v, h1, h2, by rw [h3]⟩)

/-! ## the dictionary of any slots, and what is answered -/
def byL (l : List Slt) : List Pr := if RightP l then dN l l.length else []
def byT (l : List Slt) : Tr Pr := if RightP l then tN l l.length else .nil
theorem by_ok (l : List Slt) : DOk (byT l) (byL l) := by
  unfold byT byL; split
  · exact dN_ok l _
  · exact DOk.nil
theorem by_len (l : List Slt) : (byL l).length ≤ 1024 := by
  unfold byL; split
  · rename_i h; have := dN_len l l.length; have := usN_le l l.length; have := h.2.1; omega
  · exact Nat.zero_le _
theorem by_not {l : List Slt} (h : ¬ RightP l) : byL l = [] := if_neg h
theorem by_get {l : List Slt} (h : RightP l) (k : Int) : getL (byL l) k = (findN l k).map fun n => (n : Int) := by
  rw [byL, if_pos h, get_find h.2.2.2]
theorem by_cnt {l : List Slt} (h : RightP l) : (byL l).length = l.countP (·.used) := by
  rw [byL, if_pos h, (dN_uni l _).2 h.2.2.2, usN_is l _ (Nat.le_refl _), List.take_length]
def addR (l : List Slt) (k : Int) : List Slt × Int × Int :=
  if RightP l then (match findN l k with | some _ => (l, 0, 4) | none => match freeN l with | none => (l, 0, 10) | some v => (l.set v ⟨true, k⟩, v, 0)) else (l, 0, 1)
def remR (l : List Slt) (k : Int) : List Slt × Int :=
  if RightP l then (match findN l k with | none => (l, 7) | some v => (l.set v ⟨false, 0⟩, 0)) else (l, 1)
def keysR (l : List Slt) : List Int := (byL l).map (·.1)
theorem addR_not {l : List Slt} (h : ¬ RightP l) (k : Int) : addR l k = (l, 0, 1) := if_neg h
theorem addR_there {l : List Slt} (h : RightP l) {k : Int} {v : Nat} (hf : findN l k = some v) : addR l k = (l, 0, 4) := by
  rw [addR, if_pos h, hf]
theorem addR_full {l : List Slt} (h : RightP l) {k : Int} (hf : findN l k = none) (h2 : freeN l = none) : addR l k = (l, 0, 10) := by
  rw [addR, if_pos h, hf, h2]
theorem addR_new {l : List Slt} (h : RightP l) {k : Int} (hf : findN l k = none) {v : Nat} (h2 : freeN l = some v) : addR l k = (l.set v ⟨true, k⟩, (v : Int), 0) := by
  rw [addR, if_pos h, hf, h2]
theorem remR_not {l : List Slt} (h : ¬ RightP l) (k : Int) : remR l k = (l, 1) := if_neg h
theorem remR_none {l : List Slt} (h : RightP l) {k : Int} (hf : findN l k = none) : remR l k = (l, 7) := by
  rw [remR, if_pos h, hf]
theorem remR_some {l : List Slt} (h : RightP l) {k : Int} {v : Nat} (hf : findN l k = some v) : remR l k = (l.set v ⟨false, 0⟩, 0) := by
  rw [remR, if_pos h, hf]
theorem addR_len (l : List Slt) (k : Int) : (addR l k).1.length = l.length := by
  unfold addR; split
  · split
    · rfl
    · split
      · rfl
      · exact List.length_set
  · rfl
theorem remR_len (l : List Slt) (k : Int) : (remR l k).1.length = l.length := by
  unfold remR; split
  · split
    · rfl
    · exact List.length_set
  · rfl

/-! ## keys one by one to their places -/
def insR : List Int → Int → List Int
  | [], k => [k]
  | x :: l, k => if x < k then x :: insR l k else k :: x :: l
/-- how many of the first are less -/
def less (l : List Int) (k : Int) : Nat := (l.takeWhile fun x => decide (x < k)).length
theorem insR_is : ∀ (l : List Int) (k : Int), insR l k = l.take (less l k) ++ k :: l.drop (less l k)
  | [], k => rfl
  | x :: l, k => by
    unfold insR less
    split
    · rename_i h
      rw [List.takeWhile_cons, if_pos (by simpa using h), List.length_cons, List.take_succ_cons, List.drop_succ_cons, insR_is l k]; rfl
    · rename_i h
      rw [List.takeWhile_cons, if_neg (by simpa using h)]; rfl
theorem ins_put : ∀ {L : List Pr}, Inc L → ∀ {k : Int} (n : Int), (∀ p ∈ L, p.1 ≠ k) → (putL L k n).map (·.1) = insR (L.map (·.1)) k
  | [], _, k, n, _ => rfl
  | p :: L, h, k, n, hk => by
    have h1 := List.pairwise_cons.1 h
    have ih := ins_put h1.2 n fun q hq => hk q (List.mem_cons_of_mem _ hq)
    have h3 := hk p List.mem_cons_self
    rw [List.map_cons, insR]
    by_cases hp : p.1 < k
    · rw [if_pos hp, ← ih]
      have e1 : lo (p :: L) k = p :: lo L k := by simp [lo, hp]
      have e2 : hi (p :: L) k = hi L k := by simp [hi, show ¬ k < p.1 by omega]
      rw [putL, e1, e2]; rfl
    · rw [if_neg hp]
      have hall : ∀ q ∈ p :: L, k < q.1 := fun q hq => by
        rcases List.mem_cons.1 hq with rfl | hq
        · omega
        · have := h1.1 q hq; omega
      have e1 : lo (p :: L) k = [] := by
        simp only [lo, List.filter_eq_nil_iff, decide_eq_true_eq]; intro q hq; have := hall q hq; omega
      have e2 : hi (p :: L) k = p :: L := by
        simp only [hi, List.filter_eq_self, decide_eq_true_eq]; exact hall
      rw [putL, e1, e2]; rfl
def keysN (l : List Slt) : Nat → List Int
  | 0 => []
  | i + 1 => if Us l i = true then insR (keysN l i) (Ke l i) else keysN l i
theorem keysN_is {l : List Slt} : ∀ {i : Nat}, Uni l i → keysN l i = (dN l i).map (·.1)
  | 0, _ => rfl
  | i + 1, h => by
    have ih := keysN_is (h.less (Nat.le_succ i))
    rw [keysN, dN]
    split
    · rename_i hu
      rw [ih, ins_put (dN_ok l i).inc]
      intro p hp e
      obtain ⟨j, hj, h1, rfl⟩ := dN_of hp
      exact h i (by omega) j hj hu h1 e
    · exact ih
theorem insR_len (l : List Int) (k : Int) : (insR l k).length = l.length + 1 := by
  induction l with
  | nil => rfl
  | cons x l ih => rw [insR]; split <;> simp [ih]
theorem keysN_len (l : List Slt) : ∀ i, (keysN l i).length ≤ i
  | 0 => Nat.le_refl _
  | i + 1 => by
    have := keysN_len l i
    rw [keysN]; split
    · rw [insR_len]; omega
    · omega
theorem keysN_all {l : List Slt} (h : RightP l) : keysN l l.length = keysR l := by
  rw [keysR, byL, if_pos h, keysN_is h.2.2.2]
end Go.Proofs.Ytaoiffinodfcfaa
