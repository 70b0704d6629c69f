/-
  The mathematics of partitions of edges: vertices that hang from one another, with ways made shorter; what is the same in the end.
  Conditions: none.
-/
import Derived.Test.YtlhgjaogpeoaeaaPartM
namespace Go.Proofs.Ytlhgjaogpeoaeaa
open Go Go.Ab
set_option linter.unusedVariables false

theorem Hang.set {U : List Int} {v : Nat} {x : Int} {f : Int → Int} (hv : v < U.length) : Hang (U.set v x) f ↔ (∀ i : Nat, i < U.length → i ≠ v → f i = f (U.getD i default)) ∧ f v = f x := by
  unfold Hang
  rw [List.length_set]
  constructor
  · intro h
    refine ⟨fun i hi hne => ?_, ?_⟩
    · have := h i hi
      rwa [getD_set hv, if_neg (fun e => hne e.symm)] at this
    · have := h v hv
      rwa [getD_set hv, if_pos rfl] at this
  · rintro ⟨h1, h2⟩ i hi
    rw [getD_set hv]
    split
    · rename_i e; subst e; exact h2
    · rename_i e; exact h1 i hi (fun e2 => e e2.symm)
/-- the way is made shorter -/
theorem Hang.half {U : List Int} {v k k2 : Nat} {f : Int → Int} (hv : v < U.length) (hk : k < U.length) (g : U.getD v default = (k : Int)) (g2 : U.getD k default = (k2 : Int)) (hne : k ≠ v) : Hang (U.set v (k2 : Int)) f ↔ Hang U f := by
  rw [Hang.set hv]
  constructor
  · rintro ⟨h1, h2⟩ i hi
    by_cases e : i = v
    · subst e
      have := h1 k hk hne
      rw [g2] at this
      rw [g, this, h2]
    · exact h1 i hi e
  · intro h
    refine ⟨fun i hi _ => h i hi, ?_⟩
    have h1 := h v hv
    have h2 := h k hk
    rw [g] at h1; rw [g2] at h2
    rw [h1, h2]
theorem Low.set {U : List Int} (h : Low U) {v : Nat} {x : Int} (hv : v < U.length) (h0 : 0 ≤ x) (h1 : x ≤ v) : Low (U.set v x) := fun i hi => by
  rw [List.length_set] at hi
  rw [getD_set hv]
  split
  · rename_i e; subst e; exact ⟨h0, h1⟩
  · exact h i hi
/-- the least vertex that v hangs below, and what hangs from what then -/
def topR : Nat → List Int → Nat → List Int × Nat
  | 0, U, v => (U, v)
  | f + 1, U, v => if U.getD v default = v then (U, v) else topR f (U.set v (U.getD (U.getD v default).toNat default)) (U.getD (U.getD v default).toNat default).toNat
theorem topR_end {U : List Int} {v : Nat} (h : U.getD v default = v) : ∀ f, topR f U v = (U, v)
  | 0 => rfl
  | f + 1 => by rw [topR, if_pos h]
theorem topR_step {U : List Int} {v k k2 f : Nat} (g : U.getD v default = (k : Int)) (g2 : U.getD k default = (k2 : Int)) (h : k ≠ v) : topR (f + 1) U v = topR f (U.set v (k2 : Int)) k2 := by
  rw [topR, if_neg (by rw [g]; omega), g, Int.toNat_natCast, g2, Int.toNat_natCast]
structure TopOK (U : List Int) (v : Nat) (U2 : List Int) (r : Nat) : Prop where
  len : U2.length = U.length
  low : Low U2
  hang : ∀ f, Hang U2 f ↔ Hang U f
  le : r ≤ v
  top : U2.getD r default = r
  same : ∀ f, Hang U f → f v = f r
  keep : ∀ i : Nat, U.getD i default = i → U2.getD i default = i
theorem topR_ok : ∀ (f : Nat) (U : List Int) (v : Nat), Low U → v < U.length → v ≤ f → TopOK U v (topR f U v).1 (topR f U v).2
  | 0, U, v, hL, hv, hf => ⟨rfl, hL, fun _ => Iff.rfl, Nat.le_refl _, by
      show U.getD v default = v
      obtain rfl : v = 0 := by omega
      have := hL 0 hv; omega, fun _ _ => rfl, fun _ h => h⟩
  | f + 1, U, v, hL, hv, hf => by
    have h0 := hL v hv
    obtain ⟨k, g⟩ : ∃ k : Nat, U.getD v default = (k : Int) := ⟨(U.getD v default).toNat, by omega⟩
    by_cases e : k = v
    · subst e
      rw [topR_end g]
      exact ⟨rfl, hL, fun _ => Iff.rfl, Nat.le_refl _, g, fun _ _ => rfl, fun _ h => h⟩
    · have h1 := hL k (by omega)
      obtain ⟨k2, g2⟩ : ∃ k2 : Nat, U.getD k default = (k2 : Int) := ⟨(U.getD k default).toNat, by omega⟩
      rw [topR_step g g2 e]
      have ih := topR_ok f (U.set v (k2 : Int)) k2 (hL.set hv (by omega) (by omega)) (by rw [List.length_set]; omega) (by omega)
      have hh : ∀ f, Hang (U.set v (k2 : Int)) f ↔ Hang U f := fun f => Hang.half hv (by omega) g g2 e
      refine ⟨by rw [ih.len, List.length_set], ih.low, fun f => (ih.hang f).trans (hh f), by have := ih.le; omega, ih.top, fun f hf => ?_, fun i hi => ih.keep i ?_⟩
      · rw [← ih.same f ((hh f).2 hf)]
        exact ((Hang.set hv).1 ((hh f).2 hf)).2
      · rw [getD_set hv, if_neg ?_]
        · exact hi
        · intro e2; subst e2; rw [g] at hi; omega
/-- two classes made one -/
theorem Hang.unite {U : List Int} {a b : Nat} {f : Int → Int} (ha : a < U.length) (hb : b < U.length) (ga : U.getD a default = (a : Int)) (gb : U.getD b default = (b : Int)) : Hang (U.set (max a b) ((min a b : Nat) : Int)) f ↔ Hang U f ∧ f a = f b := by
  have hm : max a b < U.length := by omega
  have gm : U.getD (max a b) default = ((max a b : Nat) : Int) := by
    rcases Nat.le_total a b with h | h
    · rw [Nat.max_eq_right h]; exact gb
    · rw [Nat.max_eq_left h]; exact ga
  rw [Hang.set hm]
  have e : f ((max a b : Nat) : Int) = f ((min a b : Nat) : Int) ↔ f a = f b := by
    rcases Nat.le_total a b with h | h
    · rw [Nat.max_eq_right h, Nat.min_eq_left h]; exact eq_comm
    · rw [Nat.max_eq_left h, Nat.min_eq_right h]
  rw [e]
  constructor
  · rintro ⟨h1, h2⟩
    refine ⟨fun i hi => ?_, h2⟩
    by_cases e2 : i = max a b
    · rw [e2, gm]
    · exact h1 i hi e2
  · rintro ⟨h1, h2⟩
    exact ⟨fun i hi _ => h1 i hi, h2⟩
/-- vertices alone -/
def aloneR (n : Nat) : List Int := (List.range n).map fun k : Nat => (k : Int)
theorem aloneR_len (n : Nat) : (aloneR n).length = n := by simp [aloneR]
theorem aloneR_get {n k : Nat} (h : k < n) : (aloneR n).getD k default = (k : Int) := by
  unfold aloneR
  rw [List.getD_eq_getElem?_getD, List.getElem?_map, List.getElem?_range h]; rfl
theorem aloneR_low (n : Nat) : Low (aloneR n) := fun i hi => by
  rw [aloneR_len] at hi
  rw [aloneR_get hi]; omega
theorem aloneR_hang (n : Nat) (f : Int → Int) : Hang (aloneR n) f := fun i hi => by
  rw [aloneR_len] at hi
  rw [aloneR_get hi]
theorem isP_alone (n : Nat) : IsP n [] (aloneR n) :=
  ⟨aloneR_len n, aloneR_low n, fun i hi f _ => by rw [aloneR_get hi], fun e he => by cases he⟩
/-- some of them, as they hang, and what they are told to be in the end: each is told by one that has itself -/
theorem isP_of_hang {n : Nat} {l : List Ed} {U : List Int} (hn : U.length = n) (hL : Low U) (hh : ∀ f, Hang U f ↔ Resp l f) (hc : ∀ i : Nat, i < n → U.getD (U.getD i default).toNat default = U.getD i default) : IsP n l U where
  len := hn
  low := hL
  con := fun i hi f hf => (hh f).2 hf i (by omega)
  edg := (hh _).1 fun i hi => by rw [at0_nat]; exact (hc i (by omega)).symm
/-- the step that tells a vertex by what it hangs from in the end -/
theorem flat_step {U : List Int} {i k k2 : Nat} (hL : Low U) (hi : i < U.length) (g : U.getD i default = (k : Int)) (g2 : U.getD k default = (k2 : Int)) (hk : k ≤ i)
    (hc : ∀ j : Nat, j < i → U.getD (U.getD j default).toNat default = U.getD j default) :
    (∀ f, Hang (U.set i (k2 : Int)) f ↔ Hang U f) ∧ (∀ j : Nat, j < i + 1 → (U.set i (k2 : Int)).getD ((U.set i (k2 : Int)).getD j default).toNat default = (U.set i (k2 : Int)).getD j default) ∧ k2 ≤ i := by
  have l1 := hL k (by omega)
  have hk2 : k2 ≤ i := by omega
  refine ⟨fun f => ?_, fun j hj => ?_, hk2⟩
  · by_cases e : k = i
    · subst e
      rw [g] at g2
      have : k = k2 := by omega
      subst this
      rw [Hang.set hi]
      constructor
      · rintro ⟨h1, -⟩ j hj
        by_cases e : j = k
        · subst e; rw [g]
        · exact h1 j hj e
      · exact fun h => ⟨fun j hj _ => h j hj, rfl⟩
    · exact Hang.half hi (by omega) g g2 e
  · have gi : ∀ j : Nat, (U.set i (k2 : Int)).getD j default = if i = j then (k2 : Int) else U.getD j default := fun j => getD_set hi
    by_cases e : j = i
    · subst e
      have gj := gi j
      rw [if_pos rfl] at gj
      rw [gj, Int.toNat_natCast, gi k2]
      split
      · rfl
      · rename_i hne
        by_cases e2 : k = j
        · subst e2; rw [g] at g2; omega
        · have := hc k (by omega)
          rw [g2, Int.toNat_natCast] at this
          exact this
    · have lj := hL j (by omega)
      have gj := gi j
      rw [if_neg (fun x => e x.symm)] at gj
      rw [gj, gi, if_neg (by omega)]
      exact hc j (by omega)
/-- one edge more -/
theorem step_ok {n : Nat} {l : List Ed} {i : Nat} {X Y Z W : List Int} {u v a b m1 m2 : Nat} {t : Int} (hXl : X.length = n) (hx : l[i]? = some ⟨u, v, t⟩) (hh : ∀ f, Hang X f ↔ Resp (l.take i) f) (h1 : TopOK X u Y a) (h2 : TopOK Y v Z b) (hu : u < n) (hv : v < n)
    (e1 : min a b = m1) (e2 : max a b = m2) (hW : Z.set m2 (m1 : Int) = W) : W.length = n ∧ Low W ∧ ∀ f, Hang W f ↔ Resp (l.take (i + 1)) f := by
  have lY := h1.len
  have lZ := h2.len
  have ba := h1.le
  have bb := h2.le
  subst hW
  refine ⟨by rw [List.length_set]; omega, h2.low.set (by omega) (by omega) (by omega), fun f => ?_⟩
  rw [← e1, ← e2, Hang.unite (by omega) (by omega) (h2.keep a h1.top) h2.top]
  have ht : l.take (i + 1) = l.take i ++ [⟨u, v, t⟩] := by rw [List.take_add_one, hx]; rfl
  rw [ht, Resp.app, ← hh, h2.hang, h1.hang]
  constructor
  · rintro ⟨g1, g2⟩
    exact ⟨g1, by show f u = f v; rw [h1.same f g1, h2.same f ((h1.hang f).2 g1), g2]⟩
  · rintro ⟨g1, g2⟩
    refine ⟨g1, ?_⟩
    have : f u = f v := g2
    rw [← h1.same f g1, ← h2.same f ((h1.hang f).2 g1), this]
/-- the partition of edges, as one function -/
def partF (P : List Int) : List Ed → List Int
  | [] => P
  | e :: l => partF (P.map (glue (min (at0 P e.u) (at0 P e.v)) (max (at0 P e.u) (at0 P e.v)))) l
def partR (n : Nat) (l : List Ed) : List Int := partF (aloneR n) l
theorem partF_is {n : Nat} : ∀ (l m : List Ed) (P : List Int), IsP n m P → MayE n m → MayE n l → IsP n (m ++ l) (partF P l)
  | [], m, P, h, hm, hl => by rw [List.append_nil]; exact h
  | e :: l, m, P, h, hm, hl => by
    have he : EdIn n e := hl e List.mem_cons_self
    have := partF_is l (m ++ [e]) _ (h.glue hm he) (fun x hx => by
      rcases List.mem_append.1 hx with hx | hx
      · exact hm x hx
      · rw [List.mem_singleton] at hx; subst hx; exact he) (fun x hx => hl x (List.mem_cons_of_mem _ hx))
    rw [List.append_assoc] at this
    exact this
theorem partR_is {n : Nat} {l : List Ed} (hl : MayE n l) : IsP n l (partR n l) := by
  have := partF_is l [] _ (isP_alone n) (fun e he => by cases he) hl
  exact this
theorem partR_eq {n : Nat} {l : List Ed} {P : List Int} (hl : MayE n l) (h : IsP n l P) : partR n l = P := (partR_is hl).uniq h
theorem partF_len : ∀ (l : List Ed) (P : List Int), (partF P l).length = P.length
  | [], _ => rfl
  | e :: l, P => by rw [partF, partF_len l, List.length_map]
theorem partR_len (n : Nat) (l : List Ed) : (partR n l).length = n := by rw [partR, partF_len, aloneR_len]

/-! the document's answer -/
/-- each is told by one that it is connected with, none above it -/
structure Run (n : Nat) (l : List Ed) (P : List Int) : Prop where
  len : P.length = n
  low : Low P
  con : ∀ i : Nat, i < n → Con l i (P.getD i default)
theorem run_alone (n : Nat) (l : List Ed) : Run n l (aloneR n) := ⟨aloneR_len n, aloneR_low n, fun i hi f _ => by rw [aloneR_get hi]⟩
theorem Run.is {n : Nat} {l : List Ed} {P : List Int} (h : Run n l P) (he : ∀ e ∈ l, at0 P e.u = at0 P e.v) : IsP n l P := ⟨h.len, h.low, h.con, he⟩
theorem Run.set {n : Nat} {l : List Ed} {P : List Int} (h : Run n l P) {u v a : Nat} (hu : u < n) (hv : v < n) (ha : P.getD u default = (a : Int)) (hle : a ≤ v) (hc : Con l u v) : Run n l (P.set v (a : Int)) := by
  refine ⟨by rw [List.length_set, h.len], h.low.set (by rw [h.len]; exact hv) (by omega) (by omega), fun i hi f hf => ?_⟩
  rw [getD_set (by rw [h.len]; exact hv)]
  split
  · rename_i e; subst e
    have := h.con u hu f hf
    rw [ha] at this
    rw [← this]; exact (hc f hf).symm
  · exact h.con i hi f hf
/-- the numbers, all together -/
def sumN : List Int → Nat
  | [] => 0
  | x :: l => x.toNat + sumN l
theorem sumN_set : ∀ {P : List Int} {v a : Nat} {b : Nat}, v < P.length → P.getD v default = (b : Int) → a < b → sumN (P.set v (a : Int)) < sumN P
  | x :: P, 0, a, b, _, hg, h => by
    simp only [List.getD_cons_zero] at hg
    subst hg
    simp only [List.set_cons_zero, sumN, Int.toNat_natCast]; omega
  | x :: P, v + 1, a, b, hv, hg, h => by
    simp only [List.getD_cons_succ] at hg
    simp only [List.set_cons_succ, sumN]
    have := sumN_set (P := P) (v := v) (by simpa using hv) hg h
    omega
end Go.Proofs.Ytlhgjaogpeoaeaa
