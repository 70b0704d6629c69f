/-
  Tours linked and cut; what a list must be by places to be a tour; how often a vertex stands in a tour.
  Conditions: none.
-/
import Derived.Test.YteflkffebekjdaaTourM
namespace Go.Proofs.Yteflkffebekjdaa
open Go Go.Ab
set_option linter.unusedVariables false
set_option linter.unusedSimpArgs false

/-! ## linking and cutting -/
theorem link_T {u v : Int} {a b : List Int} (ha : isT (u :: a) = true) (hb : isT (v :: b) = true) (hd : ∀ x ∈ u :: a, x ∉ v :: b) :
    isT (u :: a ++ (v :: b) ++ [u]) = true ∧ edges (u :: a ++ (v :: b) ++ [u]) = edges (u :: a) ++ ed u v :: edges (v :: b) ∧ verts (u :: a ++ (v :: b) ++ [u]) = verts (u :: a) ++ verts (v :: b) := by
  obtain ⟨r, f, e, hn⟩ := (isT_iff _).1 ha
  obtain ⟨rfl, rfl⟩ := List.cons.inj e
  obtain ⟨r, g, e, hm⟩ := (isT_iff _).1 hb
  obtain ⟨rfl, rfl⟩ := List.cons.inj e
  have e2 : u :: Fo.fl u f ++ (v :: Fo.fl v g) ++ [u] = u :: Fo.fl u (Fo.app f (.cons v g .nil)) := by simp [Fo.fl_app, Fo.fl]
  have hk : (u :: (Fo.app f (.cons v g .nil)).vs).Nodup := by
    have : u :: (Fo.app f (.cons v g .nil)).vs = (u :: f.vs) ++ (v :: g.vs) := by simp [Fo.vs_app, Fo.vs]
    rw [this]
    refine List.nodup_append.2 ⟨hn, hm, ?_⟩
    rintro x hx y hy rfl
    refine hd x ?_ ?_
    · rcases List.mem_cons.1 hx with rfl | hx
      · exact List.mem_cons_self
      · exact List.mem_cons_of_mem _ (Fo.vs_fl u f hx)
    · rcases List.mem_cons.1 hy with rfl | hy
      · exact List.mem_cons_self
      · exact List.mem_cons_of_mem _ (Fo.vs_fl v g hy)
  rw [e2]
  refine ⟨(isT_iff _).2 ⟨_, _, rfl, hk⟩, ?_, ?_⟩
  · rw [edges_fl _ _ hk, edges_fl _ _ hn, edges_fl _ _ hm, Fo.es_app, Fo.es_cons, ed_comm]; simp [Fo.es, Fo.pre]
  · rw [verts_fl _ _ hk, verts_fl _ _ hn, verts_fl _ _ hm]; simp [Fo.vs_app, Fo.vs]

theorem ed_inj {u v x y : Int} (h : ed u v = ed x y) : (u = x ∧ v = y) ∨ (u = y ∧ v = x) := by
  simp only [ed, Ed.mk.injEq] at h
  omega
theorem es_in (p : Int) : ∀ (f : Fo) (x y : Int), ed x y ∈ f.es p → (x = p ∨ x ∈ f.vs) ∧ (y = p ∨ y ∈ f.vs)
  | .nil, x, y, h => by simp [Fo.es, Fo.pre] at h
  | .cons v b r, x, y, h => by
    rw [Fo.es_cons] at h
    simp only [Fo.vs, List.mem_cons, List.mem_append]
    rcases List.mem_cons.1 h with h | h
    · rcases ed_inj h with ⟨rfl, rfl⟩ | ⟨rfl, rfl⟩
      · exact ⟨.inr (.inl rfl), .inl rfl⟩
      · exact ⟨.inl rfl, .inr (.inl rfl)⟩
    · rcases List.mem_append.1 h with h | h
      · obtain ⟨h1, h2⟩ := es_in v b x y h
        exact ⟨.inr (h1.elim .inl fun h => .inr (.inl h)), .inr (h2.elim .inl fun h => .inr (.inl h))⟩
      · obtain ⟨h1, h2⟩ := es_in p r x y h
        exact ⟨h1.imp_right fun h => .inr (.inr h), h2.imp_right fun h => .inr (.inr h)⟩
theorem edges_in {t : List Int} (h : isT t = true) {x y : Int} (he : ed x y ∈ edges t) : x ∈ t ∧ y ∈ t := by
  obtain ⟨r, b, rfl, hn⟩ := (isT_iff t).1 h
  rw [edges_fl r b hn] at he
  obtain ⟨h1, h2⟩ := es_in r b x y he
  exact ⟨h1.elim (fun e => by subst e; exact List.mem_cons_self) fun h => List.mem_cons_of_mem _ (Fo.vs_fl r b h), h2.elim (fun e => by subst e; exact List.mem_cons_self) fun h => List.mem_cons_of_mem _ (Fo.vs_fl r b h)⟩
/-- a root's edge leads to one of its children -/
theorem child_of (u v : Int) : ∀ (f : Fo), (u :: f.vs).Nodup → ed u v ∈ f.es u → ∃ A b R, f = Fo.app A (.cons v b R)
  | .nil, _, h => by simp [Fo.es, Fo.pre] at h
  | .cons w b r, hn, h => by
    rw [Fo.es_cons] at h
    simp only [Fo.vs, List.nodup_cons, List.mem_cons, List.mem_append, not_or, List.nodup_append] at hn
    rcases List.mem_cons.1 h with h | h
    · rcases ed_inj h with ⟨h1, h2⟩ | ⟨h1, h2⟩
      · exact absurd h1 hn.1.1
      · subst h2; exact ⟨.nil, b, r, rfl⟩
    · rcases List.mem_append.1 h with h | h
      · have := (es_in w b u v h).1
        rcases this with h1 | h1
        · exact absurd h1 hn.1.1
        · exact absurd h1 hn.1.2.1
      · obtain ⟨A, b', R, rfl⟩ := child_of u v r (List.nodup_cons.2 ⟨hn.1.2.2, hn.2.2.2.1⟩) h
        exact ⟨.cons w b A, b', R, rfl⟩

theorem getD_app {l m : List Int} (d : Int) (k : Nat) : (l ++ m).getD (l.length + k) d = m.getD k d := by
  simp only [List.getD_eq_getElem?_getD]; rw [List.getElem?_append_right (by omega)]; congr 2; omega
/-- a part whose ends are its vertex, which stands nowhere else -/
theorem ends_of {A M B : List Int} {v : Int} {d : Int} (hv : v ∉ A) (hB : v ∉ B) (h1 : M.head? = some v) (h2 : M.getLast? = some v) :
    idx (A ++ M ++ B) v = A.length ∧ lst d (A ++ M ++ B) v (A ++ M ++ B).length = ((A.length + M.length - 1 : Nat) : Int) ∧ 0 < M.length := by
  have hM : 0 < M.length := by cases M <;> simp at h1 ⊢
  refine ⟨?_, ?_, hM⟩
  · rw [List.append_assoc, idx_app hv]
    cases M with
    | nil => cases h1
    | cons x M => simp only [List.head?_cons, Option.some.injEq] at h1; subst h1; simp [idx]
  · refine lst_eq (by simp only [List.length_append]; omega) ?_ fun k h3 h4 => ?_
    · rw [List.append_assoc, show A.length + M.length - 1 = A.length + (M.length - 1) by omega, getD_app, List.getD_eq_getElem?_getD, List.getElem?_append_left (by omega)]
      rw [List.getLast?_eq_getElem?] at h2
      rw [h2]; rfl
    · rw [List.length_append, List.length_append] at h4
      rw [show k = (A ++ M).length + (k - (A ++ M).length) by simp only [List.length_append]; omega, getD_app]
      intro e
      have : k - (A ++ M).length < B.length := by simp only [List.length_append]; omega
      rw [List.getD_eq_getElem?_getD, List.getElem?_eq_getElem this] at e
      exact hB (by simp only [Option.getD_some] at e; rw [← e]; exact List.getElem_mem _)

/-- ████ a root's edge is cut ████ -/
theorem cut_T {u v : Int} {l : List Int} (h : isT (u :: l) = true) (he : ed u v ∈ edges (u :: l)) :
    ∃ A M B, u :: l = A ++ M ++ u :: B ∧ v ∉ A ∧ v ∉ u :: B ∧ M.head? = some v ∧ M.getLast? = some v ∧ isT (A ++ B) = true ∧ isT M = true ∧
      (edges (u :: l)).Perm (ed u v :: (edges (A ++ B) ++ edges M)) ∧ (verts (u :: l)).Perm (verts (A ++ B) ++ verts M) ∧ A.head? = some u := by
  obtain ⟨r, f, e, hn⟩ := (isT_iff _).1 h
  obtain ⟨rfl, rfl⟩ := List.cons.inj e
  have he' := he
  rw [edges_fl _ _ hn] at he
  obtain ⟨A, b, R, rfl⟩ := child_of u v f hn he
  have hp : (u :: (Fo.app A (.cons v b R)).vs).Perm ((u :: (Fo.app A R).vs) ++ (v :: b.vs)) := by
    simp only [Fo.vs_app, Fo.vs]
    show (u :: (A.vs ++ v :: (b.vs ++ R.vs))).Perm (u :: ((A.vs ++ R.vs) ++ (v :: b.vs)))
    refine List.Perm.cons u ?_
    rw [List.append_assoc]
    refine List.Perm.append_left _ ?_
    have : v :: (b.vs ++ R.vs) = (v :: b.vs) ++ R.vs := rfl
    rw [this]; exact List.perm_append_comm
  obtain ⟨n1, n2, n3⟩ := List.nodup_append.1 (hp.nodup_iff.1 hn)
  have hvn : v ∉ u :: (Fo.app A R).vs := fun hm => n3 v hm v List.mem_cons_self rfl
  simp only [Fo.vs_app, List.mem_cons, List.mem_append, not_or] at hvn
  have e1 : u :: Fo.fl u A ++ Fo.fl u R = u :: Fo.fl u (Fo.app A R) := by rw [Fo.fl_app]; rfl
  have t1 : isT (u :: Fo.fl u A ++ Fo.fl u R) = true := by rw [e1]; exact (isT_iff _).2 ⟨_, _, rfl, n1⟩
  have t2 : isT (v :: Fo.fl v b) = true := (isT_iff _).2 ⟨_, _, rfl, n2⟩
  refine ⟨u :: Fo.fl u A, v :: Fo.fl v b, Fo.fl u R, by simp [Fo.fl_app, Fo.fl], ?_, ?_, rfl, Fo.fl_last v b, t1, t2, ?_, ?_, rfl⟩
  · intro hm
    rcases List.mem_cons.1 hm with hm | hm
    · exact hvn.1 hm
    · exact (Fo.mem_fl u A hm).elim hvn.1 hvn.2.1
  · intro hm
    rcases List.mem_cons.1 hm with hm | hm
    · exact hvn.1 hm
    · exact (Fo.mem_fl u R hm).elim hvn.1 hvn.2.2
  · rw [edges_fl _ _ hn, e1, edges_fl _ _ n1, edges_fl _ _ n2, Fo.es_app, Fo.es_app, Fo.es_cons, ed_comm v u]
    refine List.perm_middle.trans (List.Perm.cons _ ?_)
    rw [List.append_assoc]
    exact List.Perm.append_left _ List.perm_append_comm
  · rw [verts_fl _ _ hn, e1, verts_fl _ _ n1, verts_fl _ _ n2]
    exact hp

/-! ## by places -/
/-- where a place of a tour is: at a vertex's first place, or back from it -/
theorem place_of : ∀ (f : Fo) (p : Int), (p :: f.vs).Nodup → ∀ i, i < (f.fl p).length →
    ∃ A q v b B, p :: f.fl p = A ++ q :: ((v :: Fo.fl v b) ++ q :: B) ∧ (i = A.length ∨ i = A.length + (v :: Fo.fl v b).length) ∧ (∀ x ∈ v :: b.vs, x ∉ A ∧ x ≠ q ∧ x ∉ B) ∧ (∀ x ∈ v :: b.vs, x ∈ f.vs)
  | .nil, p, _, i, h => by simp [Fo.fl] at h
  | .cons v b r, p, hn, i, h => by
    have hn' := hn
    simp only [Fo.vs, List.nodup_cons, List.mem_cons, List.mem_append, not_or, List.nodup_append] at hn
    obtain ⟨⟨p1, p2, p3⟩, ⟨v1, v2⟩, b1, r1, br⟩ := hn
    have dis : ∀ x ∈ v :: b.vs, x ≠ p ∧ x ∉ r.vs := fun x hx => by
      rcases List.mem_cons.1 hx with rfl | hx
      · exact ⟨fun e => p1 e.symm, v2⟩
      · exact ⟨fun e => by subst e; exact p2 hx, fun hr => br x hx x hr rfl⟩
    have top : ∀ x ∈ v :: b.vs, x ∉ ([] : List Int) ∧ x ≠ p ∧ x ∉ Fo.fl p r := fun x hx =>
      ⟨by simp, (dis x hx).1, fun hm => (Fo.mem_fl p r hm).elim (dis x hx).1 (dis x hx).2⟩
    have sub : ∀ x ∈ v :: b.vs, x ∈ (Fo.cons v b r).vs := fun x hx => by
      simp only [Fo.vs, List.mem_cons, List.mem_append]
      rcases List.mem_cons.1 hx with rfl | hx
      · exact .inl rfl
      · exact .inr (.inl hx)
    rcases Nat.lt_trichotomy i (v :: Fo.fl v b).length with h1 | h1 | h1
    · cases i with
      | zero => exact ⟨[], p, v, b, Fo.fl p r, by simp [Fo.fl], .inl rfl, top, sub⟩
      | succ i =>
        obtain ⟨A, q, w, c, B, e1, e2, e3, e4⟩ := place_of b v (List.nodup_cons.2 ⟨v1, b1⟩) i (by simpa using h1)
        refine ⟨p :: A, q, w, c, B ++ p :: Fo.fl p r, ?_, by simp only [List.length_cons] at e2 ⊢; omega, fun x hx => ?_, fun x hx => by simp only [Fo.vs, List.mem_cons, List.mem_append]; exact .inr (.inl (e4 x hx))⟩
        · simp only [Fo.fl]
          rw [show v :: (Fo.fl v b ++ p :: Fo.fl p r) = (v :: Fo.fl v b) ++ p :: Fo.fl p r from rfl, e1]; simp
        · obtain ⟨g1, g2, g3⟩ := e3 x hx
          have hb := e4 x hx
          have g4 := dis x (List.mem_cons_of_mem _ hb)
          refine ⟨by simp [g1, g4.1], g2, ?_⟩
          simp only [List.mem_append, List.mem_cons, not_or]
          exact ⟨g3, g4.1, fun hm => (Fo.mem_fl p r hm).elim g4.1 g4.2⟩
    · exact ⟨[], p, v, b, Fo.fl p r, by simp [Fo.fl], .inr (by simp only [List.length_nil, Nat.zero_add]; exact h1), top, sub⟩
    · obtain ⟨k, hk⟩ : ∃ k, i = (v :: Fo.fl v b).length + 1 + k := ⟨i - (v :: Fo.fl v b).length - 1, by omega⟩
      have hlen : k < (Fo.fl p r).length := by
        simp only [Fo.fl, List.length_cons, List.length_append] at h hk; omega
      obtain ⟨A, q, w, c, B, e1, e2, e3, e4⟩ := place_of r p (List.nodup_cons.2 ⟨p3, r1⟩) k hlen
      refine ⟨p :: v :: Fo.fl v b ++ A, q, w, c, B, ?_, by simp only [List.length_cons, List.length_append] at e2 hk ⊢; omega, fun x hx => ?_, fun x hx => by simp only [Fo.vs, List.mem_cons, List.mem_append]; exact .inr (.inr (e4 x hx))⟩
      · simp only [Fo.fl]
        rw [e1]; simp
      · obtain ⟨g1, g2, g3⟩ := e3 x hx
        have hr := e4 x hx
        refine ⟨?_, g2, g3⟩
        simp only [List.cons_append, List.mem_cons, List.mem_append, not_or]
        refine ⟨fun e => by subst e; exact p3 hr, fun e => by subst e; exact v2 hr, fun hm => ?_, g1⟩
        rcases Fo.mem_fl v b hm with rfl | hm
        · exact v2 hr
        · exact br x hm x hr rfl

/-- what must hold at a place -/
def okP (t : List Int) (i : Nat) : Bool :=
  if (idx t (t.getD i 0) : Int) = i then decide (lst (-1) t (t.getD i 0) t.length + 1 < t.length) && decide (t.getD (lst (-1) t (t.getD i 0) t.length + 1).toNat 0 = t.getD (i - 1) 0)
  else decide (t.getD (i - 1) 0 ≠ t.getD i 0) && (decide (idx t (t.getD (i - 1) 0) ≠ 0) && (decide (lst (-1) t (t.getD (i - 1) 0) t.length = (i : Int) - 1) && decide (t.getD (idx t (t.getD (i - 1) 0) - 1) 0 = t.getD i 0)))
def okAll (t : List Int) : Bool := decide (t ≠ []) && (decide (t.getD 0 0 = t.getD (t.length - 1) 0) && (List.range t.length).all fun i => i == 0 || okP t i)

theorem okP_of {A B : List Int} {q v : Int} {b : Fo} {i : Nat} (hi : i = A.length ∨ i = A.length + (v :: Fo.fl v b).length) (hd : ∀ x ∈ v :: b.vs, x ∉ A ∧ x ≠ q ∧ x ∉ B) :
    okP (A ++ q :: ((v :: Fo.fl v b) ++ q :: B)) (i + 1) = true := by
  obtain ⟨M, hM⟩ : ∃ M, v :: Fo.fl v b = M := ⟨_, rfl⟩
  have hl : M.getLast? = some v := by rw [← hM]; exact Fo.fl_last v b
  have hh : M.head? = some v := by rw [← hM]; rfl
  have hv := hd v List.mem_cons_self
  rw [hM] at hi ⊢
  have et : A ++ q :: (M ++ q :: B) = (A ++ [q]) ++ M ++ (q :: B) := by simp
  have hvA : v ∉ A ++ [q] := by simp [hv.1, hv.2.1]
  have hvB : v ∉ q :: B := by simp [hv.2.1, hv.2.2]
  obtain ⟨x1, x2, x3⟩ := ends_of (d := -1) hvA hvB hh hl
  rw [← et] at x1 x2
  obtain ⟨t, ht⟩ : ∃ t, A ++ q :: (M ++ q :: B) = t := ⟨_, rfl⟩
  have a1 : (A ++ [q]).length = A.length + 1 := by simp
  rw [a1] at x1 x2
  have tl : t.length = A.length + 1 + M.length + 1 + B.length := by rw [← ht]; simp only [List.length_append, List.length_cons]; omega
  have g0 : t.getD A.length 0 = q := by
    have := getD_app (l := A) (m := q :: (M ++ q :: B)) 0 0
    rw [ht] at this; exact this
  have g1 : t.getD (A.length + 1) 0 = v := by
    have := getD_app (l := A) (m := q :: (M ++ q :: B)) 0 1
    rw [ht] at this
    rw [this]
    cases M with
    | nil => cases hh
    | cons x M => simp only [List.head?_cons, Option.some.injEq] at hh; subst hh; rfl
  have g2 : t.getD (A.length + M.length) 0 = v := by
    have := getD_app (l := A ++ [q]) (m := M ++ q :: B) 0 (M.length - 1)
    rw [a1, show (A ++ [q]) ++ (M ++ q :: B) = t by rw [← ht]; simp, show A.length + 1 + (M.length - 1) = A.length + M.length by omega] at this
    rw [this, List.getD_eq_getElem?_getD, List.getElem?_append_left (by omega)]
    rw [List.getLast?_eq_getElem?] at hl
    rw [hl]; rfl
  have g3 : t.getD (A.length + 1 + M.length) 0 = q := by
    have := getD_app (l := A ++ [q] ++ M) (m := q :: B) 0 0
    rw [show (A ++ [q] ++ M) ++ (q :: B) = t by rw [← ht, et], show (A ++ [q] ++ M).length = A.length + 1 + M.length by simp only [List.length_append, List.length_cons, List.length_nil]] at this
    exact this
  rw [ht] at x1 x2 ⊢
  unfold okP
  rcases hi with rfl | rfl
  · rw [g1, if_pos (by rw [x1]), x2, show A.length + 1 - 1 = A.length by omega, g0, show (((A.length + 1 + M.length - 1 : Nat) : Int) + 1).toNat = A.length + 1 + M.length by omega, g3]
    simp only [decide_true, Bool.and_true, decide_eq_true_eq]
    rw [tl]; omega
  · rw [show A.length + M.length + 1 = A.length + 1 + M.length by omega, g3, if_neg, show A.length + 1 + M.length - 1 = A.length + M.length by omega, g2, x1, x2, show A.length + 1 - 1 = A.length by omega, g0]
    · simp only [ne_eq, hv.2.1, not_false_eq_true, decide_true, Bool.true_and, Bool.and_true, Bool.and_eq_true, decide_eq_true_eq]
      exact ⟨by omega, by omega⟩
    · have : idx t q ≤ A.length := idx_le (by
        have : A.length < t.length := by omega
        rw [List.getElem?_eq_getElem this]
        rw [List.getD_eq_getElem?_getD, List.getElem?_eq_getElem this] at g0
        simpa using g0)
      omega

theorem T_ok {t : List Int} (h : isT t = true) : okAll t = true := by
  obtain ⟨r, b, rfl, hn⟩ := (isT_iff t).1 h
  have hl := Fo.fl_last r b
  unfold okAll
  simp only [Bool.and_eq_true, decide_eq_true_eq, List.all_eq_true, List.mem_range, Bool.or_eq_true, beq_iff_eq]
  refine ⟨by simp, ?_, fun i hi => ?_⟩
  · rw [List.getLast?_eq_getElem?] at hl
    rw [List.getD_eq_getElem?_getD (l := r :: Fo.fl r b) (i := (r :: Fo.fl r b).length - 1), hl]; rfl
  · cases i with
    | zero => exact .inl rfl
    | succ i =>
      obtain ⟨A, q, v, c, B, e1, e2, e3, -⟩ := place_of b r hn i (by simpa using hi)
      rw [e1]
      exact .inr (okP_of e2 e3)

/-- the walk goes well, if it holds at each place -/
theorem wlk_ok {t : List Int} (hok : ∀ i, 0 < i → i < t.length → okP t i = true) : ∀ (l2 l1 : List Int) (c : Int) (w : List Int) (vis : List Vs), t = l1 ++ l2 → l1.getLast? = some c → (∀ x, x ∈ vis.map Prod.fst ↔ x ∈ l1) → (∀ x ∈ c :: w, x ∈ l1) → (c :: w).Nodup →
    (c :: w).getLast? = t.head? → (∀ (a b : Int) (s1 s2 : List Int), c :: w = s1 ++ a :: b :: s2 → t.getD (idx t a - 1) 0 = b ∧ idx t a ≠ 0) →
    ∃ vis' c' w', wlk (c :: w) vis l2 = some (vis', c' :: w') ∧ t.getLast? = some c' ∧ (c' :: w').Nodup ∧ (c' :: w').getLast? = t.head?
  | [], l1, c, w, vis, ht, hc, hv, hs, hn, hr, hch => ⟨vis, c, w, rfl, by rw [ht, List.append_nil]; exact hc, hn, hr⟩
  | x :: l2, l1, c, w, vis, ht, hc, hv, hs, hn, hr, hch => by
    have ht' : t = (l1 ++ [x]) ++ l2 := by rw [ht]; simp
    have hlt : l1.length < t.length := by rw [ht]; simp
    have hpos : 0 < l1.length := by cases l1 <;> simp at hc ⊢
    have hx : t.getD l1.length 0 = x := by have := getD_app (l := l1) (m := x :: l2) 0 0; rw [← ht] at this; exact this
    have hcx : t.getD (l1.length - 1) 0 = c := by
      rw [List.getLast?_eq_getElem?] at hc
      rw [ht, List.getD_eq_getElem?_getD, List.getElem?_append_left (by omega), hc]; rfl
    have hk := hok l1.length hpos hlt
    unfold okP at hk
    rw [hx, hcx] at hk
    rw [wlk]
    by_cases hm : x ∈ l1
    · -- it is come back to
      have h1 : idx t x < l1.length := by rw [ht, idx_app1 hm]; exact idx_lt hm
      rw [if_neg (by omega)] at hk
      simp only [Bool.and_eq_true, decide_eq_true_eq] at hk
      obtain ⟨k1, k2, -, k4⟩ := hk
      cases w with
      | nil =>
        exfalso
        simp only [List.getLast?_singleton] at hr
        cases t with
        | nil => cases hr
        | cons y t => simp only [List.head?_cons, Option.some.injEq] at hr; subst hr; simp [idx] at k2
      | cons q w =>
        have h2 := (hch c q [] w rfl).1
        rw [k4] at h2
        subst h2
        simp only [List.tail_cons, List.head?_cons, ↓reduceIte]
        refine wlk_ok hok l2 (l1 ++ [x]) x w vis ht' (by simp) (fun y => by rw [hv y]; simp only [List.mem_append, List.mem_singleton]; exact ⟨.inl, fun h => h.elim id (fun e => by subst e; exact hm)⟩) (fun y hy => List.mem_append_left _ (hs y (List.mem_cons_of_mem _ hy))) (List.nodup_cons.1 hn).2 (by rw [← hr]; simp) (fun a b s1 s2 e => hch a b (c :: s1) s2 (by rw [e]; rfl))
    · have e1 : ¬ (w.head? = some x) := fun e => hm (hs x (List.mem_cons_of_mem _ (List.mem_of_mem_head? e)))
      have e2 : ¬ (x ∈ vis.map Prod.fst) := fun e => hm ((hv x).1 e)
      simp only [List.tail_cons, e1, e2, ↓reduceIte, List.headD_cons]
      have hix : idx t x = l1.length := by rw [ht, idx_app hm]; simp [idx]
      refine wlk_ok hok l2 (l1 ++ [x]) x (c :: w) _ ht' (by simp) (fun y => ?_) (fun y hy => ?_) (List.nodup_cons.2 ⟨fun h => hm (hs x h), hn⟩) (by rw [← hr]; simp) (fun a b s1 s2 e => ?_)
      · simp only [List.map_append, List.map_cons, List.map_nil, List.mem_append, List.mem_singleton, hv y]
      · rcases List.mem_cons.1 hy with rfl | hy
        · simp
        · exact List.mem_append_left _ (hs y hy)
      · cases s1 with
        | nil =>
          simp only [List.nil_append, List.cons.injEq] at e
          obtain ⟨rfl, rfl, -⟩ := e
          rw [hix, hcx]; exact ⟨rfl, by omega⟩
        | cons z s1 =>
          simp only [List.cons_append, List.cons.injEq] at e
          exact hch a b s1 s2 e.2
theorem ok_T {t : List Int} (h : okAll t = true) : isT t = true := by
  unfold okAll at h
  simp only [Bool.and_eq_true, decide_eq_true_eq, List.all_eq_true, List.mem_range, Bool.or_eq_true, beq_iff_eq] at h
  obtain ⟨h1, h2, h3⟩ := h
  cases t with
  | nil => exact absurd rfl h1
  | cons r l =>
    obtain ⟨vis', c', w', e1, e2, e3, e4⟩ := wlk_ok (t := r :: l) (fun i hi hl => (h3 i hl).resolve_left (by omega)) l [r] r [] [(r, 0)] rfl rfl (by simp) (by simp) (by simp) rfl (fun a b s1 s2 e => by
      have := congrArg List.length e
      simp only [List.length_cons, List.length_nil, List.length_append] at this; omega)
    have e5 : c' = r := by
      rw [List.getLast?_eq_getElem?] at e2
      rw [List.getD_eq_getElem?_getD (i := (r :: l).length - 1), e2] at h2
      simpa using h2.symm
    subst e5
    have e6 : w' = [] := by
      cases w' with
      | nil => rfl
      | cons y w' =>
        exfalso
        obtain ⟨n1, n2⟩ := List.nodup_cons.1 e3
        rw [List.getLast?_cons_cons] at e4
        exact n1 (List.mem_of_getLast? e4)
    subst e6
    simp only [isT, visR, e1, fin1]
/-- ████ a list is a tour just if it is one by places ████ -/
theorem okAll_eq (t : List Int) : okAll t = isT t := by
  cases h : isT t with
  | true => exact T_ok h
  | false =>
    cases h2 : okAll t with
    | true => rw [ok_T h2] at h; cases h
    | false => rfl

/-! ## how often a vertex stands there -/
def nearE (v : Int) (l : List Ed) : Nat := l.countP fun e => e.u == v || e.v == v
theorem near_ed (v x p : Int) : ((ed x p).u == v || (ed x p).v == v) = (x == v || p == v) := by
  rw [Bool.eq_iff_iff]; simp only [ed, Bool.or_eq_true, beq_iff_eq]; omega
theorem near_out (v p : Int) (hp : p ≠ v) : ∀ f : Fo, v ∉ f.vs → nearE v (f.es p) = 0
  | .nil, _ => rfl
  | .cons x b r, h => by
    simp only [Fo.vs, List.mem_cons, List.mem_append, not_or] at h
    have h1 := near_out v x (fun e => h.1 e.symm) b h.2.1
    have h2 := near_out v p hp r h.2.2
    simp only [nearE] at h1 h2
    simp only [nearE, Fo.es_cons, List.countP_cons, List.countP_append, near_ed, h1, h2]
    simp [hp, Ne.symm h.1]
theorem count_fl (v : Int) : ∀ (f : Fo) (p : Int), (p :: f.vs).Nodup → (f.fl p).count v = nearE v (f.es p)
  | .nil, p, _ => rfl
  | .cons x b r, p, hn => by
    simp only [Fo.vs, List.nodup_cons, List.mem_cons, List.mem_append, not_or, List.nodup_append] at hn
    obtain ⟨⟨p1, p2, p3⟩, ⟨v1, v2⟩, b1, r1, br⟩ := hn
    have h1 := count_fl v b x (List.nodup_cons.2 ⟨v1, b1⟩)
    have h2 := count_fl v r p (List.nodup_cons.2 ⟨p3, r1⟩)
    simp only [nearE] at h1 h2
    simp only [nearE, Fo.es_cons, Fo.fl, List.countP_cons, List.countP_append, near_ed, List.count_cons, List.count_append, h1, h2]
    by_cases e1 : x = v
    · subst e1
      have : ¬ (p = x) := p1
      simp [this] <;> omega
    · by_cases e2 : p = v
      · subst e2; simp [e1] <;> omega
      · simp [e1, e2]
theorem leaf_T {r : Int} {l : List Int} (h : isT (r :: l) = true) (v : Int) : (r :: l).count v = nearE v (edges (r :: l)) + if v = r then 1 else 0 := by
  obtain ⟨r', b, e, hn⟩ := (isT_iff _).1 h
  obtain ⟨rfl, rfl⟩ := List.cons.inj e
  rw [edges_fl _ _ hn, List.count_cons, count_fl v b r hn]
  by_cases e : v = r
  · simp [e]
  · simp [e, Ne.symm e]
end Go.Proofs.Yteflkffebekjdaa
