/-
  Tours: trees of vertices, their tours, the walk that tells whether a list is one; tours turned, linked and cut.
  Conditions: none.
-/
import Derived.Test.YteflkffebekjdaaTypes
namespace Go.Proofs.Yteflkffebekjdaa
open Go Go.Ab
set_option linter.unusedVariables false
set_option linter.unusedSimpArgs false

/-! ## places in lists -/
section
variable {α : Type} [DecidableEq α]
def idx : List α → α → Nat
  | [], _ => 0
  | x :: l, v => if x = v then 0 else idx l v + 1
theorem idx_lt {v : α} : ∀ {l : List α}, v ∈ l → idx l v < l.length
  | x :: l, h => by
    simp only [idx]
    split
    · simp
    · rename_i e
      have := idx_lt ((List.mem_cons.1 h).resolve_left (fun e' => e e'.symm))
      simp; omega
theorem idx_at {v : α} : ∀ {l : List α}, v ∈ l → l[idx l v]? = some v
  | x :: l, h => by
    simp only [idx]
    split
    · rename_i e; simp [e]
    · rename_i e
      simpa using idx_at ((List.mem_cons.1 h).resolve_left (fun e' => e e'.symm))
theorem idx_min {v : α} : ∀ {l : List α} {k : Nat}, k < idx l v → l[k]? ≠ some v
  | [], k, h => by simp
  | x :: l, k, h => by
    simp only [idx] at h
    split at h
    · omega
    · rename_i e
      cases k with
      | zero => simpa using e
      | succ k => simpa using idx_min (by omega)
theorem idx_eq {v : α} : ∀ {l : List α} {k : Nat}, l[k]? = some v → (∀ j, j < k → l[j]? ≠ some v) → idx l v = k
  | [], k, h, _ => by simp at h
  | x :: l, k, h, hm => by
    simp only [idx]
    cases k with
    | zero => simp only [List.getElem?_cons_zero, Option.some.injEq] at h; rw [if_pos h]
    | succ k =>
      have h0 := hm 0 (by omega)
      simp only [List.getElem?_cons_zero, ne_eq, Option.some.injEq] at h0
      rw [if_neg h0, idx_eq (k := k) (by simpa using h) (fun j hj => by simpa using hm (j + 1) (by omega))]
theorem idx_le {v : α} {l : List α} {k : Nat} (h : l[k]? = some v) : idx l v ≤ k := by
  rcases Nat.lt_or_ge k (idx l v) with h1 | h1
  · exact absurd h (idx_min h1)
  · exact h1
theorem idx_app {v : α} : ∀ {a b : List α}, v ∉ a → idx (a ++ b) v = a.length + idx b v
  | [], b, _ => by simp
  | x :: a, b, h => by
    simp only [List.mem_cons, not_or] at h
    simp only [List.cons_append, idx, if_neg (fun e : x = v => h.1 e.symm), idx_app h.2, List.length_cons]; omega
theorem idx_app1 {v : α} : ∀ {a b : List α}, v ∈ a → idx (a ++ b) v = idx a v
  | x :: a, b, h => by
    simp only [List.cons_append, idx]
    split
    · rfl
    · rename_i e; rw [idx_app1 ((List.mem_cons.1 h).resolve_left (fun e' => e e'.symm))]
end
/-- the last place ahead of n; d, if there is none -/
def lst (d : Int) (l : List Int) (v : Int) : Nat → Int
  | 0 => d
  | n + 1 => if l.getD n 0 = v then (n : Int) else lst d l v n
theorem lst_eq {d : Int} {l : List Int} {v : Int} {j : Nat} : ∀ {n : Nat}, j < n → l.getD j 0 = v → (∀ k, j < k → k < n → l.getD k 0 ≠ v) → lst d l v n = j
  | n + 1, h, h1, h2 => by
    simp only [lst]
    by_cases e : j = n
    · subst e; rw [if_pos h1]
    · rw [if_neg (h2 n (by omega) (by omega)), lst_eq (by omega) h1 (fun k h3 h4 => h2 k h3 (by omega))]
theorem lst_lt {d : Int} {l : List Int} {v : Int} (hd : -1 ≤ d) : ∀ {n : Nat}, -1 ≤ lst d l v n ∧ (lst d l v n < n ∨ lst d l v n = d)
  | 0 => ⟨hd, .inr rfl⟩
  | n + 1 => by
    simp only [lst]
    have := @lst_lt d l v hd n
    split <;> omega

/-! ## trees -/
/-- trees, one behind the other: a root, what is below it, the others -/
inductive Fo where
  | nil
  | cons (v : Int) (b : Fo) (r : Fo)
namespace Fo
def vs : Fo → List Int
  | nil => []
  | cons v b r => v :: (vs b ++ vs r)
/-- around each of them, and back to p -/
def fl : Int → Fo → List Int
  | _, nil => []
  | p, cons v b r => v :: (fl v b ++ p :: fl p r)
def pre : Int → Fo → List Vs
  | _, nil => []
  | p, cons v b r => (v, p) :: (pre v b ++ pre p r)
def app : Fo → Fo → Fo
  | nil, g => g
  | cons v b r, g => cons v b (app r g)
theorem vs_app : ∀ a b : Fo, (app a b).vs = a.vs ++ b.vs
  | nil, b => rfl
  | cons v x r, b => by simp [app, vs, vs_app r b]
theorem fl_app (p : Int) : ∀ a b : Fo, (app a b).fl p = a.fl p ++ b.fl p
  | nil, b => rfl
  | cons v x r, b => by simp [app, fl, fl_app p r b]
theorem pre_app (p : Int) : ∀ a b : Fo, (app a b).pre p = a.pre p ++ b.pre p
  | nil, b => rfl
  | cons v x r, b => by simp [app, pre, pre_app p r b]
theorem pre_fst (p : Int) : ∀ a : Fo, (a.pre p).map Prod.fst = a.vs
  | nil => rfl
  | cons v b r => by simp [pre, vs, pre_fst v b, pre_fst p r]
theorem mem_fl {x : Int} (p : Int) : ∀ a : Fo, x ∈ a.fl p → x = p ∨ x ∈ a.vs
  | nil, h => by simp [fl] at h
  | cons v b r, h => by
    simp only [fl, List.mem_cons, List.mem_append] at h
    simp only [vs, List.mem_cons, List.mem_append]
    rcases h with h | h | h | h
    · exact .inr (.inl h)
    · rcases mem_fl v b h with h | h
      · exact .inr (.inl h)
      · exact .inr (.inr (.inl h))
    · exact .inl h
    · rcases mem_fl p r h with h | h
      · exact .inl h
      · exact .inr (.inr (.inr h))
theorem vs_fl {x : Int} (p : Int) : ∀ a : Fo, x ∈ a.vs → x ∈ a.fl p
  | nil, h => by simp [vs] at h
  | cons v b r, h => by
    simp only [vs, List.mem_cons, List.mem_append] at h
    simp only [fl, List.mem_cons, List.mem_append]
    rcases h with h | h | h
    · exact .inl h
    · exact .inr (.inl (vs_fl v b h))
    · exact .inr (.inr (.inr (vs_fl p r h)))
theorem fl_len (p : Int) : ∀ a : Fo, (a.fl p).length = 2 * a.vs.length
  | nil => rfl
  | cons v b r => by simp only [fl, vs, List.length_cons, List.length_append, fl_len v b, fl_len p r]; omega
theorem fl_last (p : Int) : ∀ a : Fo, (p :: a.fl p).getLast? = some p
  | nil => rfl
  | cons v b r => by
    have := fl_last p r
    simp only [fl]
    rw [show p :: v :: (fl v b ++ p :: fl p r) = (p :: v :: fl v b) ++ (p :: fl p r) by simp, List.getLast?_append, this]; rfl
end Fo

/-! ## the walk -/
def ed (u v : Int) : Ed := ⟨min u v, max u v, 0⟩
theorem ed_comm (u v : Int) : ed u v = ed v u := by simp only [ed, Int.min_comm, Int.max_comm]
/-- the way down to where the walk is (the last one ahead), what it has come to -/
def wlk : List Int → List Vs → List Int → Option (List Vs × List Int)
  | st, vis, [] => some (vis, st)
  | st, vis, v :: l => if st.tail.head? = some v then wlk st.tail vis l else if v ∈ vis.map Prod.fst then none else wlk (v :: st) (vis ++ [(v, st.headD 0)]) l
def fin1 : Option (List Vs × List Int) → List Vs × Bool
  | some (vis, [_]) => (vis, true)
  | _ => ([], false)
def visR : List Int → List Vs × Bool
  | [] => ([], false)
  | r :: l => fin1 (wlk [r] [(r, 0)] l)
def isT (t : List Int) : Bool := (visR t).2
def verts (t : List Int) : List Int := (visR t).1.map Prod.fst
def edges (t : List Int) : List Ed := ((visR t).1.drop 1).map fun x => ed x.1 x.2

theorem wlk_fl : ∀ (f : Fo) (p : Int) (w : List Int) (vis : List Vs) (rest : List Int), (∀ x ∈ f.vs, x ∉ vis.map Prod.fst) → f.vs.Nodup → (∀ x ∈ (p :: w), x ∈ vis.map Prod.fst) →
    wlk (p :: w) vis (f.fl p ++ rest) = wlk (p :: w) (vis ++ f.pre p) rest
  | .nil, p, w, vis, rest, _, _, _ => by simp [Fo.fl, Fo.pre]
  | .cons v b r, p, w, vis, rest, h1, h2, h3 => by
    simp only [Fo.vs] at h1 h2
    have hv := h1 v List.mem_cons_self
    obtain ⟨n1, n2⟩ := List.nodup_cons.1 h2
    obtain ⟨n3, n4, n5⟩ := List.nodup_append.1 n2
    simp only [Fo.fl, List.cons_append, List.append_assoc]
    rw [wlk, if_neg, if_neg hv, List.headD_cons]
    · rw [wlk_fl b v (p :: w) (vis ++ [(v, p)]) (p :: (Fo.fl p r ++ rest)) ?_ n3 ?_, wlk, if_pos (by rfl), List.tail_cons, wlk_fl r p w _ rest ?_ n4 ?_]
      · simp [Fo.pre]
      · intro x hx hm
        simp only [List.map_append, List.map_cons, List.map_nil, List.mem_append, List.mem_singleton, Fo.pre_fst] at hm
        rcases hm with (hm | hm) | hm
        · exact h1 x (by simp [hx]) hm
        · subst hm; exact n1 (by simp [hx])
        · exact n5 x hm x hx rfl
      · intro x hx; have := h3 x hx; simp only [List.map_append, List.mem_append]; exact .inl (.inl this)
      · intro x hx hm
        simp only [List.map_append, List.map_cons, List.map_nil, List.mem_append, List.mem_singleton] at hm
        rcases hm with hm | hm
        · exact h1 x (by simp [hx]) hm
        · subst hm; exact n1 (by simp [hx])
      · intro x hx
        simp only [List.map_append, List.map_cons, List.map_nil, List.mem_append, List.mem_singleton]
        rcases List.mem_cons.1 hx with rfl | hx
        · exact .inr rfl
        · exact .inl (h3 x hx)
    · intro e
      simp only [List.tail_cons] at e
      have : v ∈ w := List.mem_of_mem_head? (by rw [e]; rfl)
      exact hv (h3 v (List.mem_cons_of_mem _ this))
theorem visR_fl (r : Int) (b : Fo) (h : (r :: b.vs).Nodup) : visR (r :: b.fl r) = ((r, 0) :: b.pre r, true) := by
  obtain ⟨n1, n2⟩ := List.nodup_cons.1 h
  have := wlk_fl b r [] [(r, 0)] [] (fun x hx hm => by simp at hm; subst hm; exact n1 hx) n2 (by simp)
  rw [List.append_nil] at this
  simp only [visR, this, wlk, fin1]; rfl

theorem wlk_inv : ∀ (n : Nat) (l : List Int), l.length ≤ n → ∀ (p : Int) (w : List Int) (vis vis' : List Vs) (x : Int), wlk (p :: w) vis l = some (vis', [x]) →
    ∃ (f : Fo) (rest : List Int), l = f.fl p ++ rest ∧ f.vs.Nodup ∧ (∀ y ∈ f.vs, y ∉ vis.map Prod.fst) ∧ ((w = [] ∧ rest = []) ∨ ∃ q w' rest', w = q :: w' ∧ rest = q :: rest' ∧ wlk w (vis ++ f.pre p) rest' = some (vis', [x])) := by
  intro n
  induction n with
  | zero =>
    intro l hl p w vis vis' x h
    obtain rfl : l = [] := List.length_eq_zero_iff.1 (by omega)
    simp only [wlk, Option.some.injEq, Prod.mk.injEq, List.cons.injEq] at h
    exact ⟨.nil, [], rfl, List.nodup_nil, (by simp [Fo.vs]), .inl ⟨h.2.2, rfl⟩⟩
  | succ n ih =>
    intro l hl p w vis vis' x h
    cases l with
    | nil =>
      simp only [wlk, Option.some.injEq, Prod.mk.injEq, List.cons.injEq] at h
      exact ⟨.nil, [], rfl, List.nodup_nil, (by simp [Fo.vs]), .inl ⟨h.2.2, rfl⟩⟩
    | cons v l =>
      rw [wlk] at h
      simp only [List.tail_cons, List.headD_cons] at h
      by_cases e1 : w.head? = some v
      · simp only [e1, ↓reduceIte] at h
        cases w with
        | nil => cases e1
        | cons q w' =>
          simp only [List.head?_cons, Option.some.injEq] at e1
          subst e1
          exact ⟨.nil, q :: l, rfl, List.nodup_nil, (by simp [Fo.vs]), .inr ⟨q, w', l, rfl, rfl, by simpa [Fo.pre] using h⟩⟩
      · simp only [e1, ↓reduceIte] at h
        by_cases e2 : v ∈ vis.map Prod.fst
        · simp only [e2, ↓reduceIte] at h; cases h
        · simp only [e2, ↓reduceIte] at h
          obtain ⟨b, rest, h1, h2, h3, h4⟩ := ih l (by simp only [List.length_cons] at hl; omega) v (p :: w) _ vis' x h
          rcases h4 with ⟨h4, _⟩ | ⟨q, w', rest', h4, h5, h6⟩
          · cases h4
          · obtain ⟨rfl, rfl⟩ := List.cons.inj h4
            subst h5
            obtain ⟨r, rest2, g1, g2, g3, g4⟩ := ih rest' (by rw [h1] at hl; simp only [List.length_cons, List.length_append] at hl; omega) p w _ vis' x h6
            refine ⟨.cons v b r, rest2, by rw [h1, g1]; simp [Fo.fl], ?_, ?_, ?_⟩
            · simp only [Fo.vs]
              refine List.nodup_cons.2 ⟨?_, List.nodup_append.2 ⟨h2, g2, ?_⟩⟩
              · intro hm
                rcases List.mem_append.1 hm with hm | hm
                · exact h3 v hm (by simp)
                · exact g3 v hm (by simp)
              · rintro y hy z hz rfl
                exact g3 y hz (by simp only [List.map_append, List.mem_append, Fo.pre_fst]; exact .inr hy)
            · intro y hy hm
              simp only [Fo.vs, List.mem_cons, List.mem_append] at hy
              rcases hy with rfl | hy | hy
              · exact e2 hm
              · exact h3 y hy (by simp only [List.map_append, List.mem_append]; exact .inl hm)
              · exact g3 y hy (by simp only [List.map_append, List.mem_append]; exact .inl (.inl hm))
            · refine g4.imp_right ?_
              rintro ⟨q, w', rest', k1, k2, k3⟩
              exact ⟨q, w', rest', k1, k2, by simpa [Fo.pre] using k3⟩

/-- ████ a list is a tour just if it is that of a tree ████ -/
theorem isT_iff (t : List Int) : isT t = true ↔ ∃ r b, t = r :: Fo.fl r b ∧ (r :: b.vs).Nodup := by
  constructor
  · intro h
    cases t with
    | nil => cases h
    | cons r l =>
      simp only [isT, visR] at h
      cases hr : wlk [r] [(r, 0)] l with
      | none => rw [hr] at h; cases h
      | some y =>
        obtain ⟨vis, st⟩ := y
        rw [hr] at h
        cases st with
        | nil => cases h
        | cons x st =>
          cases st with
          | cons y st => cases h
          | nil =>
            obtain ⟨f, rest, h1, h2, h3, h4⟩ := wlk_inv _ l (Nat.le_refl _) r [] _ vis x hr
            rcases h4 with ⟨_, rfl⟩ | ⟨q, w', rest', h4, _⟩
            · exact ⟨r, f, by rw [h1, List.append_nil], List.nodup_cons.2 ⟨fun hm => h3 r hm (by simp), h2⟩⟩
            · cases h4
  · rintro ⟨r, b, rfl, h⟩
    unfold isT; rw [visR_fl r b h]
theorem verts_fl (r : Int) (b : Fo) (h : (r :: b.vs).Nodup) : verts (r :: b.fl r) = r :: b.vs := by
  unfold verts; rw [visR_fl r b h]; simp [Fo.pre_fst]
def Fo.es (p : Int) (b : Fo) : List Ed := (b.pre p).map fun x => ed x.1 x.2
theorem edges_fl (r : Int) (b : Fo) (h : (r :: b.vs).Nodup) : edges (r :: b.fl r) = b.es r := by
  unfold edges; rw [visR_fl r b h]; rfl
theorem not_isT {t : List Int} (h : isT t = false) : visR t = ([], false) := by
  cases t with
  | nil => rfl
  | cons r l =>
    simp only [isT, visR] at h
    simp only [visR]
    cases hr : wlk [r] [(r, 0)] l with
    | none => rfl
    | some y =>
      obtain ⟨vis, st⟩ := y
      rw [hr] at h
      cases st with
      | nil => rfl
      | cons x st => cases st with
        | nil => cases h
        | cons y st => rfl
theorem mem_verts {t : List Int} (h : isT t = true) (x : Int) : x ∈ verts t ↔ x ∈ t := by
  obtain ⟨r, b, rfl, hn⟩ := (isT_iff t).1 h
  rw [verts_fl r b hn]
  constructor
  · intro hx
    rcases List.mem_cons.1 hx with rfl | hx
    · exact List.mem_cons_self
    · exact List.mem_cons_of_mem _ (Fo.vs_fl r b hx)
  · intro hx
    rcases List.mem_cons.1 hx with rfl | hx
    · exact List.mem_cons_self
    · rcases Fo.mem_fl r b hx with rfl | hx
      · exact List.mem_cons_self
      · exact List.mem_cons_of_mem _ hx
theorem verts_nodup {t : List Int} (h : isT t = true) : (verts t).Nodup := by
  obtain ⟨r, b, rfl, hn⟩ := (isT_iff t).1 h
  rw [verts_fl r b hn]; exact hn
theorem isT_len {t : List Int} (h : isT t = true) : t.length = 2 * (verts t).length - 1 ∧ 0 < (verts t).length := by
  obtain ⟨r, b, rfl, hn⟩ := (isT_iff t).1 h
  rw [verts_fl r b hn]
  simp only [List.length_cons, Fo.fl_len]; omega
theorem isT_last {t : List Int} (h : isT t = true) : ∃ r, t.head? = some r ∧ t.getLast? = some r := by
  obtain ⟨r, b, rfl, hn⟩ := (isT_iff t).1 h
  exact ⟨r, rfl, Fo.fl_last r b⟩

/-! ## turning -/
def rot (t : List Int) (i : Nat) : List Int := t.drop i ++ (t.take (i + 1)).drop 1
theorem Fo.es_cons (p v : Int) (b r : Fo) : (Fo.cons v b r).es p = ed v p :: (b.es v ++ r.es p) := by simp [Fo.es, Fo.pre]
theorem Fo.es_app (p : Int) (a b : Fo) : (Fo.app a b).es p = a.es p ++ b.es p := by simp [Fo.es, Fo.pre_app]
theorem rot1 {r c : Int} {l : List Int} (h : isT (r :: c :: l) = true) : isT (c :: l ++ [c]) = true ∧ (edges (c :: l ++ [c])).Perm (edges (r :: c :: l)) ∧ (verts (c :: l ++ [c])).Perm (verts (r :: c :: l)) := by
  obtain ⟨r', f, e, hn⟩ := (isT_iff _).1 h
  obtain ⟨rfl, e⟩ := List.cons.inj e
  cases f with
  | nil => cases e
  | cons v b R =>
    simp only [Fo.fl] at e
    obtain ⟨rfl, rfl⟩ := List.cons.inj e
    have e2 : c :: (Fo.fl c b ++ r :: Fo.fl r R) ++ [c] = c :: Fo.fl c (Fo.app b (.cons r R .nil)) := by simp [Fo.fl_app, Fo.fl]
    have hp : (c :: (Fo.app b (.cons r R .nil)).vs).Perm (r :: (Fo.cons c b R).vs) := by
      simp only [Fo.vs_app, Fo.vs, List.append_nil]
      have : (c :: (b.vs ++ r :: R.vs)).Perm (r :: c :: (b.vs ++ R.vs)) := ((List.perm_middle (a := r) (l₁ := c :: b.vs) (l₂ := R.vs)))
      exact this
    have hn2 := hp.nodup_iff.2 hn
    rw [e2]
    refine ⟨(isT_iff _).2 ⟨_, _, rfl, hn2⟩, ?_, ?_⟩
    · rw [edges_fl _ _ hn2, show r :: c :: (Fo.fl c b ++ r :: Fo.fl r R) = r :: Fo.fl r (.cons c b R) from rfl, edges_fl _ _ hn, Fo.es_app, Fo.es_cons, Fo.es_cons, ed_comm c r]
      simp only [Fo.es, Fo.pre, List.map_nil, List.append_nil]
      exact List.perm_middle
    · rw [verts_fl _ _ hn2, show r :: c :: (Fo.fl c b ++ r :: Fo.fl r R) = r :: Fo.fl r (.cons c b R) from rfl, verts_fl _ _ hn]
      exact hp
theorem rot_zero (t : List Int) : rot t 0 = t := by
  cases t <;> simp [rot]
theorem rot_succ {t : List Int} {i : Nat} (h : i + 1 < t.length) : ∃ r c l, rot t i = r :: c :: l ∧ rot t (i + 1) = c :: l ++ [c] := by
  have e1 : t.drop i = t[i] :: t[i + 1] :: t.drop (i + 2) := by
    rw [List.drop_eq_getElem_cons (by omega), List.drop_eq_getElem_cons (by omega)]
  have e2 : t.drop (i + 1) = t[i + 1] :: t.drop (i + 2) := List.drop_eq_getElem_cons (by omega)
  have e3 : (t.take (i + 1 + 1)).drop 1 = (t.take (i + 1)).drop 1 ++ [t[i + 1]] := by
    rw [List.take_succ_eq_append_getElem (by omega), List.drop_append_of_le_length (by rw [List.length_take]; omega)]
  refine ⟨t[i], t[i + 1], t.drop (i + 2) ++ (t.take (i + 1)).drop 1, ?_, ?_⟩
  · rw [rot, e1]; rfl
  · rw [rot, e3, e2]; simp only [List.cons_append, List.append_assoc]
theorem rot_T {t : List Int} (h : isT t = true) : ∀ i, i < t.length → isT (rot t i) = true ∧ (edges (rot t i)).Perm (edges t) ∧ (verts (rot t i)).Perm (verts t)
  | 0, _ => by rw [rot_zero]; exact ⟨h, .refl _, .refl _⟩
  | i + 1, hi => by
    obtain ⟨r, c, l, e1, e2⟩ := rot_succ hi
    obtain ⟨h1, h2, h3⟩ := rot_T h i (by omega)
    rw [e1] at h1 h2 h3
    rw [e2]
    obtain ⟨g1, g2, g3⟩ := rot1 h1
    exact ⟨g1, g2.trans h2, g3.trans h3⟩
theorem rot_len {t : List Int} {i : Nat} (h : i < t.length) : (rot t i).length = t.length := by
  simp only [rot, List.length_append, List.length_drop, List.length_take]; omega
/-- from a vertex on -/
def frm (t : List Int) (v : Int) : List Int := rot t (idx t v)
theorem frm_head {t : List Int} {v : Int} (h : v ∈ t) : ∃ l, frm t v = v :: l := by
  have h1 := idx_lt h
  have h2 := idx_at h
  rw [List.getElem?_eq_getElem h1, Option.some.injEq] at h2
  exact ⟨_, by rw [frm, rot, List.drop_eq_getElem_cons h1, h2]; rfl⟩
theorem frm_T {t : List Int} {v : Int} (h : isT t = true) (hv : v ∈ t) : isT (frm t v) = true ∧ (edges (frm t v)).Perm (edges t) ∧ (verts (frm t v)).Perm (verts t) ∧ (frm t v).length = t.length :=
  have := rot_T h (idx t v) (idx_lt hv)
  ⟨this.1, this.2.1, this.2.2, rot_len (idx_lt hv)⟩
theorem frm_mem {t : List Int} {v : Int} (h : isT t = true) (hv : v ∈ t) (x : Int) : x ∈ frm t v ↔ x ∈ t := by
  have := frm_T h hv
  rw [← mem_verts this.1, this.2.2.1.mem_iff, mem_verts h]
theorem frm_self {t : List Int} {v : Int} {l : List Int} (e : t = v :: l) : frm t v = t := by
  subst e; rw [frm, idx, if_pos rfl, rot_zero]
end Go.Proofs.Yteflkffebekjdaa
