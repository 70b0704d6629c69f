/-
  Lists of data; loops by states that are written out; ends; the facts that the run is written with.
  Conditions: none.
-/
import Derived.Test.YtaoiffinodfcfaaAb14
namespace Go.Ab
open Go.RowKit

def iPV (x : Int) : PV := .v (.int .i64 x)
def uPV (x : Int) : PV := .v (.int .u64 x)
def bPV (x : Bool) : PV := .v (.bool x)

section
variable {P : Program} {N : Nat} {s s' : ASt}

/-- a state, forgotten down to lists -/
theorem weak_lists {r : Id → Id} (lt : List (Nat × SV)) (lm : List (Id × Option Blk)) (G : Nat)
    (ht : ∀ x ∈ lt, ren r x.2 = s.t x.1) (hg : ∀ x ∈ lt, ∀ id, ment x.2 = some id → id.2 < G)
    (hm : ∀ x ∈ lm, ∀ b, x.2 = some b → (∃ b0, s.m (r x.1) = some b0 ∧ b.T = b0.T ∧ b.sz = b0.sz ∧ b.elems = b0.elems ∧ (b.rw = b0.rw ∨ b.rw = false) ∧ renL r b.ls = b0.ls ∧ b.mp = b0.mp) ∧ x.1.2 < G)
    (hlt : ∀ x ∈ lt, ∀ p ls, x.2 = .st p ls → ∀ l ∈ ls, l.2.1.2 < G) (hlm : ∀ x ∈ lm, ∀ b, x.2 = some b → ∀ l ∈ b.ls, l.2.1.2 < G)
    (hi : ∀ x ∈ lm, ∀ y ∈ lm, r x.1 = r y.1 → x.1 = y.1) (hc : ∀ x ∈ lm, (x.1.1 = 0 ↔ (r x.1).1 = 0) ∧ (x.1.1 = 0 → x.1.2 = 0 → (r x.1).2 = 0)) : Weak r s ⟨lk lt, lkM lm, lkG [] G⟩ where
  t := fun i => by
    by_cases e : lk lt i = .any
    · exact .inl e
    · right
      have := ht _ (lk_mem rfl e)
      exact this
  m := fun id b hb => (hm _ (lkM_mem hb) b rfl).1
  inj := fun id id' b b' h1 h2 e => hi _ (lkM_mem h1) _ (lkM_mem h2) e
  gm := fun id b hb => (hm _ (lkM_mem hb) b rfl).2
  gt := fun i id hid => by
    have e : lk lt i ≠ .any := fun e => by simp only [e, ment, reduceCtorEq] at hid
    exact hg _ (lk_mem rfl e) id hid
  cls := fun id b hb => hc _ (lkM_mem hb)
  glt := fun i p ls h l hl _ => hlt _ (lk_mem h (by simp)) p ls rfl l hl
  glm := fun id b hb l hl _ => hlm _ (lkM_mem hb) b rfl l hl

def All {α : Type} (p : α → Prop) : List α → Prop
  | [] => True
  | x :: xs => p x ∧ All p xs
theorem All.get1 {α : Type} {p : α → Prop} : ∀ {l : List α}, All p l → ∀ x ∈ l, p x
  | _ :: _, h, x, hx => by
    rcases List.mem_cons.1 hx with rfl | hx
    · exact h.1
    · exact All.get1 h.2 x hx
def lsLt (G : Nat) : List Lnk → Bool
  | [] => true
  | (_, id, _) :: ls => decide (id.2 < G) && lsLt G ls
theorem lsLt_at {G : Nat} : ∀ {ls : List Lnk}, lsLt G ls = true → ∀ l ∈ ls, l.2.1.2 < G
  | (j, id, n) :: ls, h, l, hl => by
    simp only [lsLt, Bool.and_eq_true, decide_eq_true_eq] at h
    rcases List.mem_cons.1 hl with rfl | hl
    · exact h.1
    · exact lsLt_at h.2 l hl
def mentLt (G : Nat) : SV → Bool
  | .own id _ => decide (id.2 < G)
  | .ptr id _ _ _ => decide (id.2 < G)
  | .pc id _ _ _ => decide (id.2 < G)
  | .mo id => decide (id.2 < G)
  | .st _ ls => lsLt G ls
  | _ => true
theorem mentLt_ment {G : Nat} {x : SV} (h : mentLt G x = true) {id : Id} (hid : ment x = some id) : id.2 < G := by
  cases x with
  | st p ls =>
    obtain ⟨l, n, rest, rfl, rfl⟩ := ment_st hid
    simp only [mentLt, lsLt, Bool.and_eq_true, decide_eq_true_eq] at h
    exact h.1
  | own => simp only [ment, Option.some.injEq] at hid; subst hid; simpa [mentLt] using h
  | ptr => simp only [ment, Option.some.injEq] at hid; subst hid; simpa [mentLt] using h
  | pc => simp only [ment, Option.some.injEq] at hid; subst hid; simpa [mentLt] using h
  | mo => simp only [ment, Option.some.injEq] at hid; subst hid; simpa [mentLt] using h
  | _ => simp only [ment, reduceCtorEq] at hid
/-- a block's name, and its links' -/
def blkLt (G : Nat) (x : Id × Option Blk) : Prop := x.1.2 < G ∧ match x.2 with | some b => lsLt G b.ls = true | none => True
/-- the same, with all names as they are -/
theorem weak_id (lt : List (Nat × SV)) (lm : List (Id × Option Blk)) (G : Nat) (ht : All (fun x => x.2 = s.t x.1) lt) (hg : All (fun x => mentLt G x.2 = true) lt)
    (hm : All (fun x => x.2 = s.m x.1) lm) (hmg : All (blkLt G) lm) : Weak (fun i => i) s ⟨lk lt, lkM lm, lkG [] G⟩ :=
  weak_lists lt lm G (fun x hx => by
      have := ht.get1 x hx
      rw [← this]; cases x.2 <;> first | rfl | exact congrArg _ (renL_id _))
    (fun x hx id hid => mentLt_ment (hg.get1 x hx) hid)
    (fun x hx b hb => ⟨⟨b, by have := hm.get1 x hx; rw [hb] at this; exact this.symm, rfl, rfl, rfl, .inl rfl, renL_id _, rfl⟩, (hmg.get1 x hx).1⟩)
    (fun x hx p ls e l hl => by have := hg.get1 x hx; rw [e] at this; exact lsLt_at this l hl)
    (fun x hx b hb l hl => by have := (hmg.get1 x hx).2; rw [hb] at this; exact lsLt_at this l hl) (fun _ _ _ _ e => e) (fun _ _ => ⟨Iff.rfl, fun _ e => e⟩)

/-- a loop, its states written out -/
theorem AW_loops {ι : Type} {c : Code} {K : Exit → ASt → Prop} (canon : ι → ASt) (F : ι → Prop) (μ : ι → Nat) (i0 : ι) (h0 : F i0) (hw : ∃ r, Weak r s (canon i0))
    (round : ∀ i, F i → AW P N c (thenK (fun s' => ∃ j, μ j < μ i ∧ F j ∧ ∃ r, Weak r s' (canon j)) K) (canon i)) : AW P N (.loop c) K s :=
  AW_loop (fun i s => F i ∧ ∃ r, Weak r s (canon i)) μ i0 ⟨h0, hw⟩ fun i _ ⟨hF, _, W⟩ => AW_weak _ W (round i hF)

/-- what comes behind is taken once, from states that are written out -/
theorem AW_seqs {ι : Type} {x y : Code} {K : Exit → ASt → Prop} (canon : ι → ASt) (F : ι → Prop) (h : AW P N x (thenK (fun s' => ∃ j, F j ∧ ∃ r, Weak r s' (canon j)) K) s)
    (next : ∀ i, F i → AW P N y K (canon i)) : AW P N (.seq x y) K s :=
  AW_seq (AW_mono h fun e s h => by
    cases e <;> first | exact h | (obtain ⟨j, hF, r, W⟩ := h; exact AW_weak _ W (next j hF)))

theorem end_ret {fn : Func} {r r' : PV} {p : Prop} (h : resPV P fn s = some (p, r')) (e : r' = r) (hp : p) : EndK P fn r .ret s := ⟨p, e ▸ h, hp⟩
theorem end_normal {fn : Func} {r r' : PV} {p : Prop} (h : resPV P fn s = some (p, r')) (e : r' = r) (hp : p) : EndK P fn r .normal s := ⟨p, e ▸ h, hp⟩
end

theorem wrap_i64 (x : Int) (h1 : -9223372036854775808 ≤ x) (h2 : x ≤ 9223372036854775807) : IntKind.i64.wrap x = x := by
  have e1 : IntKind.i64.wrap x = if x % 18446744073709551616 ≥ 9223372036854775808 then x % 18446744073709551616 - 18446744073709551616 else x % 18446744073709551616 := by
    simp [IntKind.wrap, IntKind.bits, IntKind.signed]
  rw [e1]; split <;> omega
theorem wrap_u64 (x : Int) (h1 : 0 ≤ x) (h2 : x ≤ 18446744073709551615) : IntKind.u64.wrap x = x := by
  have e1 : IntKind.u64.wrap x = x % 18446744073709551616 := by simp [IntKind.wrap, IntKind.bits, IntKind.signed]
  rw [e1]; omega
theorem wrap_u32 (x : Int) (h1 : 0 ≤ x) (h2 : x ≤ 4294967295) : IntKind.u32.wrap x = x := by
  have e1 : IntKind.u32.wrap x = x % 4294967296 := by simp [IntKind.wrap, IntKind.bits, IntKind.signed]
  rw [e1]; omega
theorem wrap_u8 (x : Int) (h1 : 0 ≤ x) (h2 : x ≤ 255) : IntKind.u8.wrap x = x := by
  have e1 : IntKind.u8.wrap x = x % 256 := by simp [IntKind.wrap, IntKind.bits, IntKind.signed]
  rw [e1]; omega

theorem dlt_t (a b : Int) (h : a < b) : decide (a < b) = true := decide_eq_true h
theorem dlt_f (a b : Int) (h : b ≤ a) : decide (a < b) = false := decide_eq_false (by omega)
theorem dle_t (a b : Int) (h : a ≤ b) : decide (a ≤ b) = true := decide_eq_true h
theorem dle_f (a b : Int) (h : b < a) : decide (a ≤ b) = false := decide_eq_false (by omega)
theorem beq_t (a b : Int) (h : a = b) : (a == b) = true := by simpa using h
theorem beq_f (a b : Int) (h : a ≠ b) : (a == b) = false := by simpa using h
theorem bne_t (a b : Int) (h : a ≠ b) : (a != b) = true := by simpa using h
theorem bne_f (a b : Int) (h : a = b) : (a != b) = false := by simpa using h

theorem getD_map {α : Type} [Inhabited α] (f : α → PV) (l : List α) (i : Nat) (d : PV) (h : i < l.length) : (l.map f).getD i d = f (l.getD i default) := by
  simp only [List.getD_eq_getElem?_getD, List.getElem?_map, List.getElem?_eq_getElem h, Option.map_some, Option.getD_some]
theorem forall_map {α β : Type} (f : α → β) (l : List α) (p : β → Prop) : (∀ y ∈ l.map f, p y) ↔ ∀ x ∈ l, p (f x) := by simp
def keepT (t : Nat → SV) : List Nat → List (Nat × SV)
  | [] => []
  | k :: ks => (k, t k) :: keepT t ks
def keepM (m : Id → Option Blk) : List Id → List (Id × Option Blk)
  | [] => []
  | k :: ks => (k, m k) :: keepM m ks
theorem keepT_eq (t : Nat → SV) : ∀ ks, keepT t ks = ks.map fun i => (i, t i)
  | [] => rfl
  | k :: ks => by simp only [keepT, keepT_eq t ks, List.map_cons]
theorem keepM_eq (m : Id → Option Blk) : ∀ ks, keepM m ks = ks.map fun i => (i, m i)
  | [] => rfl
  | k :: ks => by simp only [keepM, keepM_eq m ks, List.map_cons]
end Go.Ab
