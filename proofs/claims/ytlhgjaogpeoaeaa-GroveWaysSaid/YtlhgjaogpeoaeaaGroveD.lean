/-
  The mathematics of forests: the steps that lead back to a root, as they are found; the path that they tell.
  Conditions: none.
-/
import Derived.Test.YtlhgjaogpeoaeaaGroveM
namespace Go.Proofs.Ytlhgjaogpeoaeaa
open Go Go.Ab
set_option linter.unusedVariables false

/-- the steps from a vertex -/
def stp (v : Nat) (e : Ed) : List St := (if e.u = v then [⟨e, e.v⟩] else []) ++ (if e.v = v then [⟨e, e.u⟩] else [])
def arnd : List Ed → Nat → List St
  | [], _ => []
  | e :: l, v => stp v e ++ arnd l v
theorem arnd_app (l m : List Ed) (v : Nat) : arnd (l ++ m) v = arnd l v ++ arnd m v := by
  induction l with
  | nil => rfl
  | cons e l ih => rw [List.cons_append, arnd, arnd, ih, List.append_assoc]
def jn (e : Ed) (a b : Int) : Prop := (e.u = a ∧ e.v = b) ∨ (e.v = a ∧ e.u = b)
theorem jn.symm {e : Ed} {a b : Int} (h : jn e a b) : jn e b a := by unfold jn at *; omega
theorem stp_mem {v : Nat} {e : Ed} {s : St} (h : s ∈ stp v e) : s.e = e ∧ jn e v s.w := by
  unfold stp at h
  rcases List.mem_append.1 h with h | h
  · split at h
    · rename_i e1
      rw [List.mem_singleton] at h; subst h
      exact ⟨rfl, .inl ⟨e1, rfl⟩⟩
    · cases h
  · split at h
    · rename_i e1
      rw [List.mem_singleton] at h; subst h
      exact ⟨rfl, .inr ⟨e1, rfl⟩⟩
    · cases h
theorem arnd_mem {v : Nat} {s : St} : ∀ {l : List Ed}, s ∈ arnd l v → s.e ∈ l ∧ jn s.e v s.w
  | e :: l, h => by
    rcases List.mem_append.1 h with h | h
    · obtain ⟨rfl, h2⟩ := stp_mem h
      exact ⟨List.mem_cons_self, h2⟩
    · obtain ⟨h1, h2⟩ := arnd_mem h
      exact ⟨List.mem_cons_of_mem _ h1, h2⟩
theorem arnd_has {v : Nat} {e : Ed} {b : Int} (hj : jn e v b) : ∀ {l : List Ed}, e ∈ l → (⟨e, b⟩ : St) ∈ arnd l v
  | x :: l, h => by
    rcases List.mem_cons.1 h with rfl | h
    · refine List.mem_append_left _ ?_
      unfold stp
      rcases hj with ⟨h1, rfl⟩ | ⟨h1, rfl⟩
      · rw [if_pos h1]; exact List.mem_append_left _ List.mem_cons_self
      · rw [if_pos h1]; exact List.mem_append_right _ List.mem_cons_self
    · exact List.mem_append_right _ (arnd_has hj h)
theorem arnd_nodup {v : Nat} : ∀ {l : List Ed}, l.Nodup → (∀ e ∈ l, e.u ≠ e.v) → ((arnd l v).map (·.e)).Nodup
  | [], _, _ => List.nodup_nil
  | e :: l, hn, hu => by
    rw [List.nodup_cons] at hn
    rw [arnd, List.map_append, List.nodup_append]
    have h1 := hu e List.mem_cons_self
    refine ⟨?_, arnd_nodup hn.2 fun x hx => hu x (List.mem_cons_of_mem _ hx), ?_⟩
    · unfold stp
      split
      · rw [if_neg (by omega)]; simp
      · split <;> simp
    · intro x hx y hy e2
      obtain ⟨s, hs, rfl⟩ := List.mem_map.1 hx
      obtain ⟨t, ht, rfl⟩ := List.mem_map.1 hy
      rw [(stp_mem hs).1] at e2
      exact hn.1 (by rw [e2]; exact (arnd_mem ht).1)

/-- the steps from one vertex are gone through -/
def inn (v : Nat) : List St → List St → List Int → List St × List Int
  | [], B, O => (B, O)
  | s :: r, B, O => if s.w ≠ (B.getD v default).w then inn v r (B.set s.w.toNat ⟨s.e, v⟩) (O ++ [s.w]) else inn v r B O
/-- all that are open, the last one first -/
def outR (l : List Ed) : Nat → List St → List Int → List St × List Int
  | 0, B, O => (B, O)
  | f + 1, B, O => if O = [] then (B, O) else
    outR l f (inn (O.getD (O.length - 1) default).toNat (arnd l (O.getD (O.length - 1) default).toNat) B (O.take (O.length - 1))).1 (inn (O.getD (O.length - 1) default).toNat (arnd l (O.getD (O.length - 1) default).toNat) B (O.take (O.length - 1))).2
theorem outR_nil (l : List Ed) (f : Nat) (B : List St) : outR l f B [] = (B, []) := by cases f <;> simp [outR]
theorem outR_snoc (l : List Ed) (f : Nat) (B : List St) (O : List Int) (v : Nat) : outR l (f + 1) B (O ++ [(v : Int)]) = outR l f (inn v (arnd l v) B O).1 (inn v (arnd l v) B O).2 := by
  have h1 : (O ++ [(v : Int)]).getD ((O ++ [(v : Int)]).length - 1) default = v := by
    rw [List.getD_eq_getElem?_getD, List.length_append, List.length_singleton, Nat.add_sub_cancel, List.getElem?_append_right (Nat.le_refl _), Nat.sub_self]; rfl
  have h2 : (O ++ [(v : Int)]).take ((O ++ [(v : Int)]).length - 1) = O := by
    rw [List.length_append, List.length_singleton, Nat.add_sub_cancel, List.take_left]
  rw [outR, if_neg (by simp), h1, h2, Int.toNat_natCast]
theorem getD_setS {B : List St} {i j : Nat} {x : St} (h : i < B.length) : (B.set i x).getD j default = if i = j then x else B.getD j default := by
  rw [List.getD_eq_getElem?_getD, List.getElem?_set, List.getD_eq_getElem?_getD]
  by_cases e : i = j
  · subst e; rw [if_pos rfl, if_pos rfl, if_pos h]; rfl
  · rw [if_neg e, if_neg e]

/-- what is so while the steps are found: D are those that were come to, pth the ways from them to the root -/
structure Dfs (n : Nat) (l : List Ed) (r : Nat) (B : List St) (O : List Int) (D : List Nat) (pth : Nat → List Ed) (cur : Option Nat) (seen : List St) : Prop where
  len : B.length = n
  dn : ∀ w ∈ D, w < n
  nd : D.Nodup
  rt : r ∈ D
  prt : pth r = []
  brt : (B.getD r default).w = r
  od : ∀ x ∈ O, ∃ w, w ∈ D ∧ x = (w : Int)
  on : O.Nodup
  par : ∀ w ∈ D, w ≠ r → ∃ p : Nat, p ∈ D ∧ (p : Int) ∉ O ∧ (B.getD w default).w = p ∧ (B.getD w default).e ∈ l ∧ jn (B.getD w default).e w p ∧ pth w = (B.getD w default).e :: pth p
  ends : ∀ w ∈ D, ∀ x ∈ pth w, ∃ a b : Nat, a ∈ D ∧ b ∈ D ∧ x.u = a ∧ x.v = b
  pnd : ∀ w ∈ D, (pth w).Nodup
  walk : ∀ w ∈ D, Walk l w (pth w) r
  done : ∀ w ∈ D, (w : Int) ∉ O → cur ≠ some w → ∀ s ∈ arnd l w, ∃ z, z ∈ D ∧ s.w = (z : Nat)
  curO : ∀ v, cur = some v → (v : Int) ∉ O ∧ v ∈ D
  curs : ∀ v, cur = some v → (∀ s ∈ seen, ∃ z, z ∈ D ∧ s.w = (z : Nat)) ∧ ∀ w ∈ D, w ≠ r → (B.getD w default).w = v → ∃ s ∈ seen, s.e = (B.getD w default).e
section
variable {n : Nat} {l : List Ed} {r : Nat} {B : List St} {O : List Int} {D : List Nat} {pth : Nat → List Ed}
theorem Dfs.tree {cur : Option Nat} {seen : List St} (h : Dfs n l r B O D pth cur seen) {e : Ed} : ∀ (k w : Nat), (pth w).length ≤ k → w ∈ D → e ∈ pth w → ∃ x, x ∈ D ∧ x ≠ r ∧ (B.getD x default).e = e
  | 0, w, hk, _, he => by
    have : pth w = [] := List.length_eq_zero_iff.1 (by omega)
    rw [this] at he; cases he
  | k + 1, w, hk, hw, he => by
    by_cases e1 : w = r
    · rw [e1, h.prt] at he; cases he
    · obtain ⟨p, p1, p2, p3, p4, p5, p6⟩ := h.par w hw e1
      rw [p6] at he hk
      rcases List.mem_cons.1 he with he | he
      · exact ⟨w, hw, e1, he.symm⟩
      · exact h.tree k p (by rw [List.length_cons] at hk; omega) p1 he
/-- a step that leads on leads to one that was not come to yet -/
theorem Dfs.new {v : Nat} {seen rest : List St} {s : St} (hF : IsF n l) (h : Dfs n l r B O D pth (some v) seen) (ha : arnd l v = seen ++ s :: rest) (hne : s.w ≠ (B.getD v default).w) {z : Nat} (hz : s.w = z) : z ∉ D := fun hD => by
  obtain ⟨vO, vD⟩ := h.curO v rfl
  have hm : s ∈ arnd l v := by rw [ha]; exact List.mem_append_right _ List.mem_cons_self
  obtain ⟨el, ej⟩ := arnd_mem hm
  rw [hz] at ej
  have hc := (hF.less el).1
  have tr : s.e ∈ pth v ∨ s.e ∈ pth z → False := fun g => by
    obtain ⟨x, xD, xr, xe⟩ : ∃ x, x ∈ D ∧ x ≠ r ∧ (B.getD x default).e = s.e := by
      rcases g with g | g
      · exact h.tree _ v (Nat.le_refl _) vD g
      · exact h.tree _ z (Nat.le_refl _) hD g
    obtain ⟨p, p1, p2, p3, p4, p5, p6⟩ := h.par x xD xr
    rw [xe] at p5
    have : (x = v ∧ p = z) ∨ (x = z ∧ p = v) := by unfold jn at *; omega
    rcases this with ⟨rfl, rfl⟩ | ⟨rfl, rfl⟩
    · exact hne (by rw [p3, hz])
    · obtain ⟨s', hs, he⟩ := (h.curs p rfl).2 x xD xr p3
      have hn := arnd_nodup (v := p) (IsF.nodup l hF) fun e he => hF.ends he
      rw [ha, List.map_append, List.nodup_append] at hn
      exact hn.2.2 s'.e (List.mem_map.2 ⟨s', hs, rfl⟩) s.e (List.mem_map.2 ⟨s, List.mem_cons_self, rfl⟩) (by rw [he, xe])
  have w1 := ((h.walk v vD).less fun g => tr (.inl g)).con
  have w2 := ((h.walk z hD).less fun g => tr (.inr g)).con
  have w3 := w1.trans w2.symm
  rcases ej with ⟨e1, e2⟩ | ⟨e1, e2⟩
  · rw [e1, e2] at hc; exact hc w3
  · rw [e1, e2] at hc; exact hc w3.symm
theorem Dfs.on' {v : Nat} {seen rest : List St} {s : St} (hF : IsF n l) (h : Dfs n l r B O D pth (some v) seen) (ha : arnd l v = seen ++ s :: rest) (hne : s.w ≠ (B.getD v default).w) {z : Nat} (hz : s.w = z) :
    Dfs n l r (B.set z ⟨s.e, v⟩) (O ++ [(z : Int)]) (z :: D) (fun x => if x = z then s.e :: pth v else pth x) (some v) (seen ++ [s]) := by
  have zD := h.new hF ha hne hz
  obtain ⟨vO, vD⟩ := h.curO v rfl
  have hm : s ∈ arnd l v := by rw [ha]; exact List.mem_append_right _ List.mem_cons_self
  obtain ⟨el, ej⟩ := arnd_mem hm
  rw [hz] at ej
  have ein := hF.1 _ el
  have zn : z < n := by unfold EdIn at ein; unfold jn at ej; omega
  have zr : z ≠ r := fun e => zD (by rw [e]; exact h.rt)
  have zv : z ≠ v := fun e => zD (by rw [e]; exact vD)
  have gs : ∀ w, (B.set z ⟨s.e, (v : Int)⟩).getD w default = if z = w then ⟨s.e, (v : Int)⟩ else B.getD w default := fun w => getD_setS (by rw [h.len]; exact zn)
  have ne : ∀ w ∈ D, w ≠ z := fun w hw e => zD (by rw [← e]; exact hw)
  refine ⟨by rw [List.length_set, h.len], ?_, List.nodup_cons.2 ⟨zD, h.nd⟩, List.mem_cons_of_mem _ h.rt, ?_, ?_, ?_, ?_, ?_, ?_, ?_, ?_, ?_, ?_, ?_⟩
  · intro w hw
    rcases List.mem_cons.1 hw with rfl | hw
    · exact zn
    · exact h.dn w hw
  · show (if r = z then _ else _) = _
    rw [if_neg zr.symm]; exact h.prt
  · rw [gs, if_neg zr]; exact h.brt
  · intro x hx
    rcases List.mem_append.1 hx with hx | hx
    · obtain ⟨w, h1, h2⟩ := h.od x hx
      exact ⟨w, List.mem_cons_of_mem _ h1, h2⟩
    · rw [List.mem_singleton] at hx
      exact ⟨z, List.mem_cons_self, hx⟩
  · rw [List.nodup_append]
    refine ⟨h.on, by simp, fun x hx y hy e => ?_⟩
    rw [List.mem_singleton] at hy
    obtain ⟨w, h1, h2⟩ := h.od x hx
    exact ne w h1 (by omega)
  · intro w hw wr
    rcases List.mem_cons.1 hw with rfl | hw
    · refine ⟨v, List.mem_cons_of_mem _ vD, fun g => ?_, ?_⟩
      · rcases List.mem_append.1 g with g | g
        · exact vO g
        · rw [List.mem_singleton] at g; omega
      · rw [gs, if_pos rfl]
        refine ⟨rfl, el, ej.symm, ?_⟩
        show (if w = w then _ else _) = s.e :: (if v = w then _ else _)
        rw [if_pos rfl, if_neg zv.symm]
    · obtain ⟨p, p1, p2, p3, p4, p5, p6⟩ := h.par w hw wr
      refine ⟨p, List.mem_cons_of_mem _ p1, fun g => ?_, ?_⟩
      · rcases List.mem_append.1 g with g | g
        · exact p2 g
        · rw [List.mem_singleton] at g
          exact ne p p1 (by omega)
      · rw [gs, if_neg (ne w hw).symm]
        refine ⟨p3, p4, p5, ?_⟩
        show (if w = z then _ else _) = _ :: (if p = z then _ else _)
        rw [if_neg (ne w hw), if_neg (ne p p1)]; exact p6
  · intro w hw x hx
    rcases List.mem_cons.1 hw with rfl | hw
    · rw [if_pos rfl] at hx
      rcases List.mem_cons.1 hx with rfl | hx
      · rcases ej with ⟨e1, e2⟩ | ⟨e1, e2⟩
        · exact ⟨v, w, List.mem_cons_of_mem _ vD, List.mem_cons_self, e1, e2⟩
        · exact ⟨w, v, List.mem_cons_self, List.mem_cons_of_mem _ vD, e2, e1⟩
      · obtain ⟨a, b, h1, h2, h3⟩ := h.ends v vD x hx
        exact ⟨a, b, List.mem_cons_of_mem _ h1, List.mem_cons_of_mem _ h2, h3⟩
    · rw [if_neg (ne w hw)] at hx
      obtain ⟨a, b, h1, h2, h3⟩ := h.ends w hw x hx
      exact ⟨a, b, List.mem_cons_of_mem _ h1, List.mem_cons_of_mem _ h2, h3⟩
  · intro w hw
    rcases List.mem_cons.1 hw with rfl | hw
    · show (if w = w then _ else _ : List Ed).Nodup
      rw [if_pos rfl, List.nodup_cons]
      refine ⟨fun g => ?_, h.pnd v vD⟩
      obtain ⟨a, b, h1, h2, h3, h4⟩ := h.ends v vD _ g
      have := ne a h1
      have := ne b h2
      unfold jn at ej; omega
    · show (if w = z then _ else _ : List Ed).Nodup
      rw [if_neg (ne w hw)]; exact h.pnd w hw
  · intro w hw
    rcases List.mem_cons.1 hw with rfl | hw
    · show Walk l w (if w = w then _ else _) r
      rw [if_pos rfl]
      refine ⟨el, by unfold jn at ej; omega, ?_⟩
      have : oth s.e w = v := by unfold oth; unfold jn at ej; omega
      rw [this]; exact h.walk v vD
    · show Walk l w (if w = z then _ else _) r
      rw [if_neg (ne w hw)]; exact h.walk w hw
  · intro w hw wO wv t ht
    rcases List.mem_cons.1 hw with rfl | hw
    · exact absurd (List.mem_append_right _ List.mem_cons_self) wO
    · obtain ⟨y, h1, h2⟩ := h.done w hw (fun g => wO (List.mem_append_left _ g)) wv t ht
      exact ⟨y, List.mem_cons_of_mem _ h1, h2⟩
  · intro v' e
    simp only [Option.some.injEq] at e
    subst e
    refine ⟨fun g => ?_, List.mem_cons_of_mem _ vD⟩
    rcases List.mem_append.1 g with g | g
    · exact vO g
    · rw [List.mem_singleton] at g; omega
  · intro v' e
    simp only [Option.some.injEq] at e
    subst e
    refine ⟨fun t ht => ?_, fun w hw wr e => ?_⟩
    · rcases List.mem_append.1 ht with ht | ht
      · obtain ⟨y, h1, h2⟩ := (h.curs v rfl).1 t ht
        exact ⟨y, List.mem_cons_of_mem _ h1, h2⟩
      · rw [List.mem_singleton] at ht
        subst ht
        exact ⟨z, List.mem_cons_self, hz⟩
    · rcases List.mem_cons.1 hw with rfl | hw
      · exact ⟨s, List.mem_append_right _ List.mem_cons_self, by rw [gs, if_pos rfl]⟩
      · rw [gs, if_neg (ne w hw).symm] at e ⊢
        obtain ⟨t, h1, h2⟩ := (h.curs v rfl).2 w hw wr e
        exact ⟨t, List.mem_append_left _ h1, h2⟩
theorem Dfs.back {v : Nat} {seen : List St} {s : St} (h : Dfs n l r B O D pth (some v) seen) (he : s.w = (B.getD v default).w) : Dfs n l r B O D pth (some v) (seen ++ [s]) := by
  refine { h with curs := fun v' e => ?_ }
  simp only [Option.some.injEq] at e
  subst e
  obtain ⟨c1, c2⟩ := h.curs v rfl
  refine ⟨fun t ht => ?_, fun w hw wr e => ?_⟩
  · rcases List.mem_append.1 ht with ht | ht
    · exact c1 t ht
    · rw [List.mem_singleton] at ht
      subst ht
      by_cases e1 : v = r
      · exact ⟨r, h.rt, by rw [he, e1, h.brt]⟩
      · obtain ⟨p, p1, p2, p3, _⟩ := h.par v (h.curO v rfl).2 e1
        exact ⟨p, p1, by rw [he, p3]⟩
  · obtain ⟨t, h1, h2⟩ := c2 w hw wr e
    exact ⟨t, List.mem_append_left _ h1, h2⟩
theorem Dfs.inn (hF : IsF n l) {v : Nat} : ∀ (rest seen : List St) (B : List St) (O : List Int) (D : List Nat) (pth : Nat → List Ed), arnd l v = seen ++ rest → Dfs n l r B O D pth (some v) seen →
    ∃ D' pth', Dfs n l r (inn v rest B O).1 (inn v rest B O).2 D' pth' (some v) (arnd l v) ∧ D'.length + O.length = D.length + (inn v rest B O).2.length
  | [], seen, B, O, D, pth, ha, h => ⟨D, pth, by rw [List.append_nil] at ha; rw [ha]; exact h, rfl⟩
  | s :: rest, seen, B, O, D, pth, ha, h => by
    have ha' : arnd l v = (seen ++ [s]) ++ rest := by rw [ha, List.append_assoc]; rfl
    by_cases e : s.w ≠ (B.getD v default).w
    · have hm : s ∈ arnd l v := by rw [ha]; exact List.mem_append_right _ List.mem_cons_self
      obtain ⟨el, ej⟩ := arnd_mem hm
      have ein := hF.1 _ el
      obtain ⟨z, hz⟩ : ∃ z : Nat, s.w = z := ⟨s.w.toNat, by unfold EdIn at ein; unfold jn at ej; omega⟩
      obtain ⟨D', pth', h1, h2⟩ := Dfs.inn hF rest _ _ _ _ _ ha' (h.on' hF ha e hz)
      have e2 : Go.Proofs.Ytlhgjaogpeoaeaa.inn v (s :: rest) B O = Go.Proofs.Ytlhgjaogpeoaeaa.inn v rest (B.set z ⟨s.e, v⟩) (O ++ [(z : Int)]) := by
        rw [Go.Proofs.Ytlhgjaogpeoaeaa.inn, if_pos e, hz, Int.toNat_natCast]
      rw [e2]
      refine ⟨D', pth', h1, ?_⟩
      rw [List.length_append, List.length_singleton, List.length_cons] at h2
      omega
    · have e' : s.w = (B.getD v default).w := Classical.not_not.1 e
      have e2 : Go.Proofs.Ytlhgjaogpeoaeaa.inn v (s :: rest) B O = Go.Proofs.Ytlhgjaogpeoaeaa.inn v rest B O := by
        rw [Go.Proofs.Ytlhgjaogpeoaeaa.inn, if_neg e]
      rw [e2]
      exact Dfs.inn hF rest _ _ _ _ _ ha' (h.back e')
theorem Dfs.out (hF : IsF n l) : ∀ (f : Nat) (B : List St) (O : List Int) (D : List Nat) (pth : Nat → List Ed), Dfs n l r B O D pth none [] → n + O.length ≤ D.length + f →
    ∃ B' D' pth', outR l f B O = (B', []) ∧ Dfs n l r B' [] D' pth' none []
  | 0, B, O, D, pth, h, hf => by
    have := nodup_len n D h.nd h.dn
    have e : O = [] := List.length_eq_zero_iff.1 (by omega)
    subst e
    exact ⟨B, D, pth, rfl, h⟩
  | f + 1, B, O, D, pth, h, hf => by
    rcases Nat.eq_zero_or_pos O.length with e | e
    · have e : O = [] := List.length_eq_zero_iff.1 e
      subst e
      exact ⟨B, D, pth, outR_nil l _ B, h⟩
    · obtain ⟨O0, x, rfl⟩ : ∃ O0 x, O = O0 ++ [x] := ⟨O.dropLast, O.getLast (by intro g; rw [g] at e; cases e), (List.dropLast_concat_getLast _).symm⟩
      obtain ⟨v, vD, rfl⟩ := h.od x (List.mem_append_right _ List.mem_cons_self)
      have hon := h.on
      rw [List.nodup_append] at hon
      have vO : (v : Int) ∉ O0 := fun g => hon.2.2 _ g _ List.mem_cons_self rfl
      have h1 : Dfs n l r B O0 D pth (some v) [] := by
        refine ⟨h.len, h.dn, h.nd, h.rt, h.prt, h.brt, fun x hx => h.od x (List.mem_append_left _ hx), hon.1, fun w hw wr => ?_, h.ends, h.pnd, h.walk, fun w hw wO wv => h.done w hw (fun g => ?_) (by simp), fun v' e => ?_, fun v' e => ?_⟩
        · obtain ⟨p, p1, p2, p3⟩ := h.par w hw wr
          exact ⟨p, p1, fun g => p2 (List.mem_append_left _ g), p3⟩
        · rcases List.mem_append.1 g with g | g
          · exact wO g
          · rw [List.mem_singleton] at g
            exact wv (by congr 1; omega)
        · simp only [Option.some.injEq] at e; subst e; exact ⟨vO, vD⟩
        · simp only [Option.some.injEq] at e; subst e
          refine ⟨fun s hs => (by cases hs), fun w hw wr e => ?_⟩
          obtain ⟨p, p1, p2, p3, _⟩ := h.par w hw wr
          have : p = v := by omega
          subst this
          exact absurd (List.mem_append_right _ List.mem_cons_self) p2
      obtain ⟨D', pth', h2, h3⟩ := Dfs.inn hF (arnd l v) [] B O0 D pth rfl h1
      rw [outR_snoc]
      refine Dfs.out hF f _ _ D' pth' ?_ (by rw [List.length_append, List.length_singleton] at hf; omega)
      refine ⟨h2.len, h2.dn, h2.nd, h2.rt, h2.prt, h2.brt, h2.od, h2.on, h2.par, h2.ends, h2.pnd, h2.walk, fun w hw wO _ => ?_, (fun v e => by cases e), (fun v e => by cases e)⟩
      by_cases e : w = v
      · subst e; exact (h2.curs w rfl).1
      · exact h2.done w hw wO (by simp only [ne_eq, Option.some.injEq]; exact fun g => e g.symm)
/-- the steps, followed -/
def Fol (B : List St) (v : Nat) : Nat → List Ed → Prop
  | a, [] => a = v
  | a, e :: p => a ≠ v ∧ (B.getD a default).e = e ∧ ∃ c : Nat, (B.getD a default).w = c ∧ c < B.length ∧ Fol B v c p
theorem Dfs.fol {cur : Option Nat} {seen : List St} (h : Dfs n l r B O D pth cur seen) : ∀ (k w : Nat), (pth w).length ≤ k → w ∈ D → Fol B r w (pth w)
  | k, w, hk, hw => by
    by_cases e1 : w = r
    · rw [e1, h.prt]; rfl
    · obtain ⟨p, p1, p2, p3, p4, p5, p6⟩ := h.par w hw e1
      rw [p6] at hk ⊢
      cases k with
      | zero => simp at hk
      | succ k => exact ⟨e1, rfl, p, p3, by rw [h.len]; exact h.dn p p1, h.fol k p (by rw [List.length_cons] at hk; omega) p1⟩
theorem Dfs.all {D : List Nat} {pth : Nat → List Ed} (hF : IsF n l) (h : Dfs n l r B [] D pth none []) {u : Nat} (hc : Con l u r) : u ∈ D := by
  have hf : Resp l fun x => if 0 ≤ x ∧ x.toNat ∈ D then 1 else 0 := fun e he => by
    have ein := hF.1 e he
    have st : ∀ a b : Nat, jn e a b → a ∈ D → b ∈ D := fun a b hj ha => by
      obtain ⟨z, h1, h2⟩ := h.done a ha (by simp) (by simp) _ (arnd_has hj he)
      have : b = z := by
        have : (b : Int) = (z : Int) := h2
        omega
      rw [this]; exact h1
    unfold EdIn at ein
    obtain ⟨a, ea⟩ : ∃ a : Nat, e.u = a := ⟨e.u.toNat, by omega⟩
    obtain ⟨b, eb⟩ : ∃ b : Nat, e.v = b := ⟨e.v.toNat, by omega⟩
    simp only [ea, eb, Int.toNat_natCast]
    have : a ∈ D ↔ b ∈ D := ⟨st a b (.inl ⟨ea, eb⟩), st b a (.inr ⟨eb, ea⟩)⟩
    simp only [this]
    congr 1
    simp only [Int.natCast_nonneg, true_and]
  have := hc _ hf
  simp only [Int.toNat_natCast, Int.natCast_nonneg, true_and, h.rt, if_true] at this
  split at this
  · assumption
  · cases this
end
/-- ████ the steps of a forest lead each vertex of the root's tree to the root, each edge once ████ -/
theorem steps_spec {n : Nat} {l : List Ed} (hF : IsF n l) {r : Nat} (hr : r < n) : ∃ B, outR l n ((List.replicate n default).set r ⟨default, r⟩) [(r : Int)] = (B, []) ∧ B.length = n ∧ ∀ u : Nat, Con l u r → u < n ∧ ∃ p, Fol B r u p ∧ Walk l u p r ∧ p.Nodup := by
  have g0 : (((List.replicate n default).set r (⟨default, r⟩ : St)).getD r default).w = r := by
    rw [getD_setS (by rw [List.length_replicate]; exact hr), if_pos rfl]
  have h : Dfs n l r ((List.replicate n default).set r ⟨default, r⟩) [(r : Int)] [r] (fun _ => []) none [] := by
    refine ⟨by simp, ?_, by simp, List.mem_cons_self, rfl, g0, ?_, by simp, ?_, ?_, ?_, ?_, ?_, (fun v e => by cases e), (fun v e => by cases e)⟩
    · intro w hw; rw [List.mem_singleton] at hw; omega
    · intro x hx; rw [List.mem_singleton] at hx; exact ⟨r, List.mem_cons_self, hx⟩
    · intro w hw wr; rw [List.mem_singleton] at hw; exact absurd hw wr
    · intro w hw x hx; cases hx
    · intro w hw; exact List.nodup_nil
    · intro w hw; rw [List.mem_singleton] at hw; subst hw; rfl
    · intro w hw wO; rw [List.mem_singleton] at hw; subst hw; exact absurd List.mem_cons_self wO
  obtain ⟨B, D, pth, h1, h2⟩ := Dfs.out hF n _ _ _ _ h (by simp; omega)
  refine ⟨B, h1, h2.len, fun u hc => ?_⟩
  have hu := h2.all hF hc
  exact ⟨h2.dn u hu, pth u, h2.fol _ u (Nat.le_refl _) hu, h2.walk u hu, h2.pnd u hu⟩
end Go.Proofs.Ytlhgjaogpeoaeaa
