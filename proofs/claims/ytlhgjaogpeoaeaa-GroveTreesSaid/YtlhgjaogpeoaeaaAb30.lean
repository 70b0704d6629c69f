/-
  Rows of the call's own that stand in a row: they get names, grow, and are data in the end.
  Conditions: none.
-/
import Derived.Test.YtlhgjaogpeoaeaaAb29
namespace Go.Ab
open Go.RowKit
set_option linter.unusedVariables false

section
variable {P : Program} {S0 : Env} {w0 : World} {N : Nat} {s s1 : ASt} {a : Act} {w : World} {ρ : Id → Option BI}

/-- is it one of the family's names? -/
def isFam (K c n : Nat) (j : Id) : Prop := j.2 = c ∧ K ≤ j.1 ∧ j.1 < n + K
instance (K c n : Nat) (j : Id) : Decidable (isFam K c n j) := by unfold isFam; infer_instance
theorem isFam_of {K c n i : Nat} (h : i < n) : isFam K c n (i + K, c) := ⟨rfl, Nat.le_add_left _ _, by simp only; omega⟩
theorem isFam_ex {K c n : Nat} {j : Id} (h : isFam K c n j) : ∃ i, i < n ∧ j = (i + K, c) := by
  obtain ⟨x, y⟩ := j
  obtain ⟨h1, h2, h3⟩ := h
  simp only at h1 h2 h3
  exact ⟨x - K, by omega, by rw [h1]; congr 1; omega⟩

/-- rows that are nil get names -/
theorem RelAt.famS (h : RelAt ρ S0 w0 N s a w) (id : Id) (K c n T sz : Nat) {Te : TypeId} (hm : s.m id = some ⟨Te, 1, List.replicate n (.v (.slice none 0 0)), true, [], none⟩)
    (hfr : ∀ i, i < n → s.g (i + K) ≤ c) (hK : 0 < K) (g' : Nat → Nat) (hg : ∀ d, s.g d ≤ g' d) (hg' : ∀ i, i < n → c < g' (i + K)) :
    RelAt (fun j => if isFam K c n j then some ⟨none, 0, 0, sz, false⟩ else ρ j) S0 w0 N
      ⟨s.t, fun j => if isFam K c n j then some ⟨T, sz, [], true, [], none⟩ else if j = id then some ⟨Te, 1, List.replicate n .hole, true, famLs K c n fun _ => [], none⟩ else s.m j, g'⟩ a w := by
  have fresh : ∀ j, isFam K c n j → ¬ j.2 < s.g j.1 := fun j hj hlt => by
    obtain ⟨i, hi, rfl⟩ := isFam_ex hj
    have := hfr i hi
    simp only at hlt; omega
  have nm : ∀ j, isFam K c n j → s.m j = none := fun j hj => by
    cases e : s.m j with
    | none => rfl
    | some b => exact absurd (h.blk j b e).1 (fresh j hj)
  have nid : ¬ isFam K c n id := fun hj => by rw [nm id hj] at hm; cases hm
  obtain ⟨gid, bi0, hρ0, B⟩ := h.blk id _ hm
  have hmp : bi0.mp = false := by
    have := B.kd; simpa using this
  have hρ' : ∀ (j : Id) (bi : BI), j.2 < s.g j.1 → (if isFam K c n j then some (⟨none, 0, 0, sz, false⟩ : BI) else ρ j) = some bi → ∃ b0, ρ j = some b0 ∧ (bi = b0 ∨ (b0.len < bi.len ∧ b0.mp = false ∧ bi.mp = false)) := fun j bi hlt e => by
    rw [if_neg fun hj => fresh j hj hlt] at e
    exact ⟨bi, e, .inl rfl⟩
  have KK : ∀ x, Imm S0 w0.heap.size s.m ρ x → Imm S0 w0.heap.size (fun j => if isFam K c n j then some ⟨T, sz, [], true, [], none⟩ else if j = id then some ⟨Te, 1, List.replicate n .hole, true, famLs K c n fun _ => [], none⟩ else s.m j) (fun j => if isFam K c n j then some ⟨none, 0, 0, sz, false⟩ else ρ j) x := fun x hS => by
    refine ⟨hS.1, fun j bi b g1 g2 g3 => ?_⟩
    by_cases hj : isFam K c n j
    · simp only [if_pos hj, Option.some.injEq] at g1
      subst g1; cases g3
    · simp only [if_neg hj] at g1 g2
      by_cases e : j = id
      · subst e
        have := hS.2 j bi _ g1 hm g3
        cases this.1
      · rw [if_neg e] at g2
        exact hS.2 j bi b g1 g2 g3
  have K2 : Keeps w (Imm S0 w0.heap.size s.m ρ) w (Imm S0 w0.heap.size (fun j => if isFam K c n j then some ⟨T, sz, [], true, [], none⟩ else if j = id then some ⟨Te, 1, List.replicate n .hole, true, famLs K c n fun _ => [], none⟩ else s.m j) (fun j => if isFam K c n j then some ⟨none, 0, 0, sz, false⟩ else ρ j)) := fun x v hS hc => ⟨hc, KK x hS⟩
  have cellNil : ∀ k, bi0.base = some k → ∀ i, i < n → w.cell? ⟨k, i, none⟩ = some (.slice none 0 0) := fun k hk i hi => by
    obtain ⟨-, cells, g2, g3, g4⟩ := B.row hmp k hk
    have hcap := B.cap
    have hlen := B.len
    simp only [List.length_replicate] at hlen
    simp only [Nat.mul_one] at g3
    have hx : cells[i]? = some cells[i] := Array.getElem?_eq_getElem (by omega)
    have := g4 i (.v (.slice none 0 0)) 0 (.v (.slice none 0 0)) cells[i] (by simp only; rw [List.getElem?_replicate, if_pos hi]) rfl (by simp only [Nat.mul_one, Nat.add_zero]; exact hx)
    simp only [World.cell?, g2, Option.isSome_none, Bool.false_eq_true, if_false, hx]
    generalize cells[i] = y at *
    cases this; rfl
  refine ⟨h.size, h.defers, fun i => (h.slots i).mono K2 hg hρ', fun j b hb => ?_, fun j bi e => ?_, fun j j' bi bi' k e1 e2 e3 e4 => ?_, h.below, fun j bi e0 e => ?_, fun j b bi k e1 e2 e3 l hl => ?_⟩
  · by_cases hj : isFam K c n j
    · simp only [if_pos hj, Option.some.injEq] at hb
      subst hb
      obtain ⟨i, hi, rfl⟩ := isFam_ex hj
      refine ⟨hg' i hi, ⟨none, 0, 0, sz, false⟩, if_pos hj, ⟨rfl, rfl, Nat.le_refl _, Nat.zero_le _, fun _ => rfl, (fun e he => by cases he), (fun k hk => by cases hk), rfl, (fun e => by cases e), (fun e => by cases e)⟩⟩
    · simp only [if_neg hj] at hb ⊢
      by_cases e : j = id
      · subst e
        simp only [if_true, Option.some.injEq] at hb
        subst hb
        refine ⟨Nat.lt_of_lt_of_le gid (hg _), bi0, hρ0, ?_, B.sz, B.cap, B.most, B.nil, ?_, fun k hk => ?_, B.kd, (fun e => by rw [hmp] at e; cases e), (fun e => by rw [hmp] at e; cases e)⟩
        · rw [B.len]; simp
        · intro e' he'
          obtain ⟨_, rfl⟩ := List.mem_replicate.1 he'
          exact ⟨rfl, fun c hc => by simp only [PV.cells, List.mem_singleton] at hc; subst hc; rfl⟩
        · obtain ⟨g1, cells, g2, g3, g4⟩ := B.row hmp k hk
          refine ⟨g1, BlkAt.of_row rfl ⟨cells, g2, g3, fun i e' j' c' x a1 a2 a3 => ?_⟩⟩
          have hi := (List.getElem?_eq_some_iff.1 a1).1
          simp only [List.length_replicate] at hi
          simp only at a1
          rw [List.getElem?_replicate, if_pos hi, Option.some.injEq] at a1
          subst a1
          cases j' with
          | succ j' => simp [PV.cells] at a2
          | zero =>
            simp only [PV.cells, List.getElem?_cons_zero, Option.some.injEq] at a2
            subst a2
            have := g4 i (.v (.slice none 0 0)) 0 (.v (.slice none 0 0)) x (by simp only; rw [List.getElem?_replicate, if_pos hi]) rfl a3
            cases this
            exact .hole _ rfl
      · rw [if_neg e] at hb
        obtain ⟨h1, bi, h2, B'⟩ := h.blk j b hb
        exact ⟨Nat.lt_of_lt_of_le h1 (hg _), bi, h2, B'.keep KK⟩
  · by_cases hj : isFam K c n j
    · exact ⟨_, if_pos hj⟩
    · simp only [if_neg hj] at e ⊢
      by_cases e1 : j = id
      · exact ⟨_, if_pos e1⟩
      · obtain ⟨b, hb⟩ := h.dom j bi e
        exact ⟨b, by rw [if_neg e1]; exact hb⟩
  · by_cases hj : isFam K c n j
    · simp only [if_pos hj, Option.some.injEq] at e1; subst e1; cases e3
    · by_cases hj' : isFam K c n j'
      · simp only [if_pos hj', Option.some.injEq] at e2; subst e2; cases e4
      · simp only [if_neg hj] at e1; simp only [if_neg hj'] at e2
        exact h.inj j j' bi bi' k e1 e2 e3 e4
  · by_cases hj : isFam K c n j
    · obtain ⟨i, hi, rfl⟩ := isFam_ex hj
      simp only at e0; omega
    · simp only [if_neg hj] at e
      exact h.bor j bi e0 e
  · by_cases hj : isFam K c n j
    · simp only [if_pos hj, Option.some.injEq] at e1; subst e1; cases hl
    · simp only [if_neg hj] at e1 e2
      by_cases e : j = id
      · subst e
        simp only [if_true, Option.some.injEq] at e1
        subst e1
        rw [hρ0] at e2
        simp only [Option.some.injEq] at e2
        subst e2
        obtain ⟨i, hi, rfl⟩ := famLs_mem.1 hl
        refine ⟨_, cellNil k e3 i hi, hg' i hi, fun bi hb => ?_⟩
        simp only [if_pos (isFam_of hi), Option.some.injEq] at hb
        subst hb
        exact ⟨⟨Nat.le_refl _, fun _ => rfl⟩, rfl⟩
      · rw [if_neg e] at e1
        obtain ⟨y, h1, h2⟩ := h.lnk j b bi k e1 e2 e3 l hl
        exact ⟨y, h1, h2.mono hg hρ'⟩

/-- no name in these lists -/
theorem seedF {c0 : Code} {K' : Exit → ASt → Prop} {lt : List (Nat × SV)} {lm : List (Id × Option Blk)} {g : Nat → Nat} (id : Id) (K c n T sz G : Nat) {Te : TypeId}
    (h : AW P N c0 K' ⟨lk lt, lkM ((id, some ⟨Te, 1, List.replicate n .hole, true, famLs K c n fun _ => [], none⟩) :: (lm ++ famL K c n T sz fun _ => [])), lkG [] G⟩)
    (hm : lkM lm id = some ⟨Te, 1, List.replicate n (.v (.slice none 0 0)), true, [], none⟩ := by exact Go.Ab.evR)
    (hfr : ∀ i, g (i + K) ≤ c := by (intro i; simp only [lkG]; (repeat' split) <;> omega)) (hg : ∀ d, g d ≤ G := by (intro d; simp only [lkG]; (repeat' split) <;> omega))
    (hl : All (fun x : Id × Option Blk => x.1.1 < K) lm := by (simp only [All]; decide)) (hc : c < G := by decide) (hK : 0 < K := by decide) : AW P N c0 K' ⟨lk lt, lkM lm, g⟩ := by
  intro S0 w0 a w hR
  refine h S0 w0 a w ?_
  obtain ⟨ρ, hR⟩ := hR
  have hlt : id.1 < K := hl.get1 _ (lkM_mem hm)
  have h1 := hR.famS (s := ⟨lk lt, lkM lm, g⟩) id K c n T sz hm (fun i _ => hfr i) hK (lkG [] G) hg (fun i _ => hc)
  refine ⟨fun j => if isFam K c n j then some ⟨none, 0, 0, sz, false⟩ else ρ j, ?_⟩
  have e : (fun j => if isFam K c n j then some ⟨T, sz, [], true, [], none⟩ else if j = id then some ⟨Te, 1, List.replicate n .hole, true, famLs K c n fun _ => [], none⟩ else lkM lm j) = lkM ((id, some ⟨Te, 1, List.replicate n .hole, true, famLs K c n fun _ => [], none⟩) :: (lm ++ famL K c n T sz fun _ => [])) := by
    funext j
    show _ = (if j = id then _ else lkM (lm ++ famL K c n T sz fun _ => []) j)
    by_cases hj : isFam K c n j
    · obtain ⟨i, hi, rfl⟩ := isFam_ex hj
      rw [if_pos hj, if_neg (fun e => by subst e; simp only at hlt; omega), lkM_skip (fun x hx e => by have := hl.get1 x hx; rw [e] at this; simp only at this; omega), famL_at hi]
    · rw [if_neg hj]
      by_cases e : j = id
      · rw [if_pos e, if_pos e]
      · rw [if_neg e, if_neg e]
        cases e2 : lkM lm j with
        | some b => rw [lkM_front e2]
        | none =>
          have out : lkM (famL K c n T sz fun _ => []) j = none := famL_out fun i hi e => hj (by rw [e]; exact isFam_of hi)
          clear hm h hR h1 hl hlt
          induction lm with
          | nil => exact out.symm
          | cons x lm ih =>
            obtain ⟨k, v⟩ := x
            change (if j = k then v else lkM lm j) = none at e2
            show none = if j = k then v else lkM (lm ++ famL K c n T sz fun _ => []) j
            split
            · rename_i e3; rw [if_pos e3] at e2; exact e2.symm
            · rename_i e3; rw [if_neg e3] at e2; exact ih e2
  rw [← e]
  exact h1

/-- fewer links -/
theorem Rel.relink (h : Rel S0 w0 N s a w) {id : Id} {b : Blk} {ls : List Lnk} (hm : s.m id = some b) (hl : ∀ l ∈ ls, l ∈ b.ls) : Rel S0 w0 N { s with m := updM s.m id (some { b with ls := ls }) } a w := by
  obtain ⟨ρ, h⟩ := h
  have KK : ∀ x, Imm S0 w0.heap.size s.m ρ x → Imm S0 w0.heap.size (updM s.m id (some { b with ls := ls })) ρ x := fun x hS => by
    refine ⟨hS.1, fun j bi b' g1 g2 g3 => ?_⟩
    by_cases e : j = id
    · subst e
      simp only [updM, if_true, Option.some.injEq] at g2
      subst g2
      exact hS.2 j bi b g1 hm g3
    · simp only [updM, e, if_false] at g2
      exact hS.2 j bi b' g1 g2 g3
  have K2 : Keeps w (Imm S0 w0.heap.size s.m ρ) w (Imm S0 w0.heap.size (updM s.m id (some { b with ls := ls })) ρ) := fun x v hS hc => ⟨hc, KK x hS⟩
  refine ⟨ρ, h.size, h.defers, fun i => (h.slots i).mono K2 (fun _ => Nat.le_refl _) (fun id bi _ e => ⟨bi, e, .inl rfl⟩), fun j b' hb => ?_, fun j bi e => ?_, h.inj, h.below, h.bor, fun j b' bi k e1 e2 e3 l hl' => ?_⟩
  · by_cases e : j = id
    · subst e
      simp only [updM, if_true, Option.some.injEq] at hb
      subst hb
      obtain ⟨h1, bi, h2, B⟩ := h.blk j b hm
      have B' := B.keep KK
      exact ⟨h1, bi, h2, B'.len, B'.sz, B'.cap, B'.most, B'.nil, B'.shape, B'.at_, B'.kd, B'.kd0, B'.mb⟩
    · simp only [updM, e, if_false] at hb
      obtain ⟨h1, bi, h2, B⟩ := h.blk j b' hb
      exact ⟨h1, bi, h2, B.keep KK⟩
  · by_cases e1 : j = id
    · exact ⟨_, by simp only [updM, e1, if_true]; rfl⟩
    · obtain ⟨b', hb⟩ := h.dom j bi e
      exact ⟨b', by simp only [updM, e1, if_false]; exact hb⟩
  · by_cases e : j = id
    · subst e
      simp only [updM, if_true, Option.some.injEq] at e1
      subst e1
      exact h.lnk j b bi k hm e2 e3 l (hl l hl')
    · simp only [updM, e, if_false] at e1
      exact h.lnk j b' bi k e1 e2 e3 l hl'
theorem AW_relink {c : Code} {K : Exit → ASt → Prop} (id : Id) {b : Blk} (ls : List Lnk) (h : AW P N c K { s with m := updM s.m id (some { b with ls := ls }) }) (hm : s.m id = some b) (hl : ∀ l ∈ ls, l ∈ b.ls) : AW P N c K s :=
  fun S0 w0 a w hR => h S0 w0 a w (hR.relink hm hl)

/-- what is kept: slots, blocks, and the family as it is now -/
theorem AW_keepF {y : Code} {K' : Exit → ASt → Prop} (ks : List Nat) (ms : List Id) (id : Id) (K c n T sz : Nat) (X : Nat → List PV) {b : Blk}
    (h : AW P N y K' ⟨lk (keepT s.t ks), lkM ((id, some { b with ls := famLs K c n X }) :: (keepM s.m ms ++ famL K c n T sz X)), s.g⟩)
    (hm : s.m id = some b) (hls : ∀ i, i < n → (i, (i + K, c), some (X i).length) ∈ b.ls) (hf : ∀ i, i < n → s.m (i + K, c) = some ⟨T, sz, X i, true, [], none⟩) (hid : ∀ i, i < n → id ≠ (i + K, c)) (hni : ms.contains id = false) : AW P N y K' s := by
  refine AW_relink id (famLs K c n X) ?_ hm fun l hl => by
    obtain ⟨i, hi, rfl⟩ := famLs_mem.1 hl
    exact hls i hi
  refine AW_keep ks (id :: (ms ++ (List.range n).map fun i => (i + K, c))) ?_
  have e1 : ((id :: (ms ++ (List.range n).map fun i => (i + K, c))).map fun i => (i, updM s.m id (some { b with ls := famLs K c n X }) i)) = (id, some { b with ls := famLs K c n X }) :: (keepM s.m ms ++ famL K c n T sz X) := by
    rw [List.map_cons, List.map_append, keepM_eq]
    congr 1
    · simp [updM]
    · congr 1
      · refine List.map_congr_left fun i hi => ?_
        have : i ≠ id := fun e => by
          subst e
          rw [List.contains_eq_mem] at hni
          simp [hi] at hni
        simp [updM, this]
      · unfold famL
        rw [List.map_map]
        refine List.map_congr_left fun i hi => ?_
        have hi := List.mem_range.1 hi
        have := hid i hi
        have h2 : ¬ (i + K, c) = id := fun e => this e.symm
        simp only [Function.comp, updM, h2, if_false, hf i hi]
  show AW P N y K' ⟨lk (ks.map fun i => (i, s.t i)), _, s.g⟩
  rw [← keepT_eq]
  show AW P N y K' ⟨_, lkM (((id :: (ms ++ (List.range n).map fun i => (i + K, c))).map fun i => (i, updM s.m id (some { b with ls := famLs K c n X }) i))), s.g⟩
  rw [e1]; exact h
/-- the region's end -/
theorem finF {ops : Array Oper} {y : Code} {K' : Exit → ASt → Prop} {Λ : List Lab} {draw : Bool} (ks : List Nat) (ms : List Id) (id : Id) (K c n T sz : Nat) (X : Nat → List PV) {b : Blk} (hk : AW P N y K' s1)
    (hls : ∀ i, i < n → (i, (i + K, c), some (X i).length) ∈ b.ls) (hf : ∀ i, i < n → s.m (i + K, c) = some ⟨T, sz, X i, true, [], none⟩)
    (h : ASt.mk (lk (keepT s.t ks)) (lkM ((id, some { b with ls := famLs K c n X }) :: (keepM s.m ms ++ famL K c n T sz X))) s.g = s1 := by exact Go.Ab.evR)
    (hm : s.m id = some b := by exact Go.Ab.evR) (hpl : ((keepT s.t ks).all fun x => plainV x.2) = true := by exact Go.Ab.evT) (hid : id.1 < K := by decide) (hni : ms.contains id = false := by decide) (hok : draw = true → okRegionL ops Λ = true := by (first | (intro h; cases h; done) | (intro _; kernel_rfl))) :
    Gos P ops [] s Λ (fun s' Λ => (draw = true → okRegionL ops Λ = true) ∧ thenK (AW P N y K') K' .normal (resS s')) := by
  refine ⟨hok, ?_⟩
  show AW P N y K' (resS s)
  refine AW_keepF ks ms id K c n T sz X ?_ hm hls hf (fun i _ e => by rw [e] at hid; simp only at hid; omega) hni
  have : keepT (resS s).t ks = keepT s.t ks := by
    rw [keepT_eq] at hpl ⊢
    rw [keepT_eq]
    refine List.map_congr_left fun i hi => ?_
    have := List.all_eq_true.1 hpl (i, s.t i) (List.mem_map.2 ⟨i, hi, rfl⟩)
    simp only [resS]
    cases e : s.t i <;> simp_all [plainV, resV]
  rw [this]
  show AW P N y K' ⟨lk (keepT s.t ks), lkM ((id, some { b with ls := famLs K c n X }) :: (keepM s.m ms ++ famL K c n T sz X)), s.g⟩
  rw [h]; exact hk

/-- only what is kept -/
theorem kpF {y : Code} {K' : Exit → ASt → Prop} (ks : List Nat) (ms : List Id) (id : Id) (K c n T sz : Nat) (X : Nat → List PV) {b : Blk} (hk : AW P N y K' s1)
    (hls : ∀ i, i < n → (i, (i + K, c), some (X i).length) ∈ b.ls) (hf : ∀ i, i < n → s.m (i + K, c) = some ⟨T, sz, X i, true, [], none⟩)
    (h : ASt.mk (lk (keepT s.t ks)) (lkM ((id, some { b with ls := famLs K c n X }) :: (keepM s.m ms ++ famL K c n T sz X))) s.g = s1 := by exact Go.Ab.evR)
    (hm : s.m id = some b := by exact Go.Ab.evR) (hid : id.1 < K := by decide) (hni : ms.contains id = false := by decide) : AW P N y K' s :=
  AW_keepF ks ms id K c n T sz X (by rw [h]; exact hk) hm hls hf (fun i _ e => by rw [e] at hid; simp only at hid; omega) hni
theorem All_app {α : Type} {p : α → Prop} {l m : List α} (h : All p l) (g : All p m) : All p (l ++ m) := by
  induction l with
  | nil => exact g
  | cons x l ih => exact ⟨h.1, ih h.2⟩
theorem All_of {α : Type} {p : α → Prop} {l : List α} (h : ∀ x ∈ l, p x) : All p l := by
  induction l with
  | nil => trivial
  | cons x l ih => exact ⟨h x List.mem_cons_self, ih fun y hy => h y (List.mem_cons_of_mem _ hy)⟩
/-- a state, forgotten down to lists and a family -/
theorem wkF {lt : List (Nat × SV)} {lm : List (Id × Option Blk)} {G K c n T sz : Nat} {X : Nat → List PV} (ht : All (fun x => x.2 = s.t x.1) lt := by exact Go.Ab.vc) (hg : All (fun x => mentLt G x.2 = true) lt := by exact Go.Ab.vc)
    (hm : All (fun x => x.2 = s.m x.1) lm := by exact Go.Ab.vc) (hmg : All (blkLt G) lm := by exact Go.Ab.vc)
    (hf : ∀ i, i < n → s.m (i + K, c) = some ⟨T, sz, X i, true, [], none⟩ := by (intro i hi; exact Go.Ab.evT)) (hc : c < G := by decide) : ∃ r, Weak r s ⟨lk lt, lkM (lm ++ famL K c n T sz X), lkG [] G⟩ :=
  ⟨fun i => i, weak_id lt (lm ++ famL K c n T sz X) G ht hg
    (All_app hm (All_of fun x hx => by
      obtain ⟨i, hi, rfl⟩ := List.mem_map.1 hx
      exact (hf i (List.mem_range.1 hi)).symm))
    (All_app hmg (All_of fun x hx => by
      obtain ⟨i, hi, rfl⟩ := List.mem_map.1 hx
      exact ⟨hc, rfl⟩))⟩

/-- a row that is written no more: its header is data too, and may be appended to -/
theorem AW_dup {c : Code} {K' : Exit → ASt → Prop} (i : Nat) {id : Id} {n : Nat} {b : Blk} (hi : s.t i = .own id n) (hm : s.m id = some b) (hn : n = b.elems.length) (hrw : b.rw = false)
    (h : AW P N c K' { s with t := upd s.t i (.st (.sl b.elems) [(0, id, some n)]) }) : AW P N c K' s := by
  intro S0 w0 a w hR
  refine h S0 w0 a w ?_
  obtain ⟨ρ, hR⟩ := hR
  refine ⟨ρ, hR.size, hR.defers, fun j => ?_, hR.blk, hR.dom, hR.inj, hR.below, hR.bor, hR.lnk⟩
  show SRep w _ ρ s.g (upd s.t i _ j) _
  by_cases e : j = i
  · subst e
    simp only [upd, if_true]
    have hs := hR.slots j
    rw [hi] at hs
    have hr := (closeV_rep hR hs (p := n = b.elems.length ∧ (b.rw = false ∨ b.elems = [])) (q := .sl b.elems) (by simp only [closeV, hm]) ⟨hn, .inl hrw⟩).1
    generalize a.tmps.getD j undef = v at *
    refine .st _ _ _ hr fun l hl => ?_
    rw [List.mem_singleton] at hl
    subst hl
    cases hs with
    | own _ _ _ hg ho hmp =>
      have sc : ∀ (l : List PV) (S : Addr → Prop) (v : Value), Rep w S (.sl l) v → v.cells[0]? = some v := fun l S v h => by cases h <;> rfl
      exact ⟨v, sc _ _ _ hr, hg, fun bi hb => ⟨ho bi hb, hmp bi hb⟩⟩
  · simp only [upd, e, if_false]
    exact hR.slots j
theorem dup {c : Code} {K' : Exit → ASt → Prop} (i : Nat) {id : Id} {n : Nat} {b : Blk} (h : AW P N c K' s1) (hi : s.t i = .own id n := by exact Go.Ab.evR) (hm : s.m id = some b := by exact Go.Ab.evR) (hn : n = b.elems.length := by exact Go.Ab.vc) (hrw : b.rw = false := by rfl)
    (hs : ASt.mk (upd s.t i (.st (.sl b.elems) [(0, id, some n)])) s.m s.g = s1 := by exact Go.Ab.evR) : AW P N c K' s :=
  AW_dup i hi hm hn hrw (by show AW P N c K' (ASt.mk _ s.m s.g); rw [hs]; exact h)
/-- it is data alone -/
theorem AW_und {c : Code} {K' : Exit → ASt → Prop} (i : Nat) {p : PV} {ls : List Lnk} (hi : s.t i = .st p ls) (h : AW P N c K' { s with t := upd s.t i (.c p) }) : AW P N c K' s := by
  intro S0 w0 a w hR
  refine h S0 w0 a w ?_
  obtain ⟨ρ, hR⟩ := hR
  refine ⟨ρ, hR.size, hR.defers, fun j => ?_, hR.blk, hR.dom, hR.inj, hR.below, hR.bor, hR.lnk⟩
  show SRep w _ ρ s.g (upd s.t i _ j) _
  by_cases e : j = i
  · subst e
    simp only [upd, if_true]
    have hs := hR.slots j
    rw [hi] at hs
    generalize a.tmps.getD j undef = v at *
    cases hs with
    | st _ _ _ hr _ => exact .c _ _ hr
  · simp only [upd, e, if_false]
    exact hR.slots j
theorem und {c : Code} {K' : Exit → ASt → Prop} (i : Nat) {p : PV} {ls : List Lnk} (h : AW P N c K' s1) (hi : s.t i = .st p ls := by exact Go.Ab.evR) (hs : ASt.mk (upd s.t i (.c p)) s.m s.g = s1 := by exact Go.Ab.evR) : AW P N c K' s :=
  AW_und i hi (by show AW P N c K' (ASt.mk _ s.m s.g); rw [hs]; exact h)

/-- rows that are written no more: what the row holds is data from here on -/
theorem RelAt.famF (h : RelAt ρ S0 w0 N s a w) (id : Id) (n : Nat) (fid : Nat → Id) (X : Nat → List PV) {b : Blk} (B' : Nat → Blk) (hm : s.m id = some b) (hrw : b.rw = true) (hsz : b.sz = 1) (hlen : b.elems.length = n) (hmp0 : b.mp = none)
    (hls : ∀ i, i < n → (i, fid i, some (X i).length) ∈ b.ls) (hf : ∀ i, i < n → s.m (fid i) = some (B' i)) (hX : ∀ i, i < n → (B' i).elems = X i ∧ (B' i).rw = false) :
    RelAt ρ S0 w0 N { s with m := updM s.m id (some { b with elems := (List.range n).map fun i => .sl (X i), ls := [] }) } a w := by
  have KK : ∀ x, Imm S0 w0.heap.size s.m ρ x → Imm S0 w0.heap.size (updM s.m id (some { b with elems := (List.range n).map fun i => .sl (X i), ls := [] })) ρ x := fun x hS => by
    refine ⟨hS.1, fun j bi b' g1 g2 g3 => ?_⟩
    by_cases e : j = id
    · subst e
      have := hS.2 j bi b g1 hm g3
      rw [hrw] at this; cases this.1
    · simp only [updM, e, if_false] at g2
      exact hS.2 j bi b' g1 g2 g3
  have K2 : Keeps w (Imm S0 w0.heap.size s.m ρ) w (Imm S0 w0.heap.size (updM s.m id (some { b with elems := (List.range n).map fun i => .sl (X i), ls := [] })) ρ) := fun x v hS hc => ⟨hc, KK x hS⟩
  obtain ⟨gid, bi, hρ, B⟩ := h.blk id b hm
  have hbm : bi.mp = false := by rw [B.kd, hmp0]; rfl
  refine ⟨h.size, h.defers, fun i => (h.slots i).mono K2 (fun _ => Nat.le_refl _) (fun id bi _ e => ⟨bi, e, .inl rfl⟩), fun j b' hb => ?_, fun j bi e => ?_, h.inj, h.below, h.bor, fun j b' bi k e1 e2 e3 l hl' => ?_⟩
  · by_cases e : j = id
    · subst e
      simp only [updM, if_true, Option.some.injEq] at hb
      subst hb
      refine ⟨gid, bi, hρ, by rw [B.len, hlen]; simp, B.sz, B.cap, B.most, B.nil, ?_, fun k hk => ?_, B.kd, (fun e => by rw [hbm] at e; cases e), (fun e => by rw [hbm] at e; cases e)⟩
      · intro e' he'
        obtain ⟨i, _, rfl⟩ := List.mem_map.1 he'
        exact ⟨by rw [hsz]; rfl, fun c hc => by simp only [PV.cells, List.mem_singleton] at hc; subst hc; rfl⟩
      · obtain ⟨g1, cells, g2, g3, g4⟩ := B.row hbm k hk
        refine ⟨g1, BlkAt.of_row hmp0 ⟨cells, g2, g3, fun i e' j' c x a1 a2 a3 => Rep.mono K2 ?_⟩⟩
        have hi := (List.getElem?_eq_some_iff.1 a1).1
        simp only [List.length_map, List.length_range] at hi
        simp only at a1
        rw [List.getElem?_map, List.getElem?_range hi, Option.map_some, Option.some.injEq] at a1
        subst a1
        cases j' with
        | succ j' => simp [PV.cells] at a2
        | zero =>
          simp only [PV.cells, List.getElem?_cons_zero, Option.some.injEq] at a2
          subst a2
          obtain ⟨y, hy, hO⟩ := h.lnk j b bi k hm hρ hk _ (hls i hi)
          have e3 : x = y := by
            simp only [World.cell?, g2] at hy
            rw [hsz, Nat.mul_one, Nat.add_zero] at a3
            simp only [Option.isSome_none, Bool.false_eq_true, if_false] at hy
            rw [a3] at hy
            simpa using hy
          subst e3
          have hb' := hf i hi
          obtain ⟨x1, x2⟩ := hX i hi
          exact (closeV_rep h (sv := .own (fid i) (X i).length) (.own _ _ _ hO.1 (fun bi hb => (hO.2 bi hb).1) (fun bi hb => (hO.2 bi hb).2)) (p := (X i).length = (B' i).elems.length ∧ ((B' i).rw = false ∨ (B' i).elems = [])) (q := .sl (X i)) (by simp only [closeV, hb', x1]) ⟨by rw [x1], .inl x2⟩).1
    · simp only [updM, e, if_false] at hb
      obtain ⟨h1, bi, h2, B⟩ := h.blk j b' hb
      exact ⟨h1, bi, h2, B.keep KK⟩
  · by_cases e1 : j = id
    · exact ⟨_, by simp only [updM, e1, if_true]; rfl⟩
    · obtain ⟨b', hb⟩ := h.dom j bi e
      exact ⟨b', by simp only [updM, e1, if_false]; exact hb⟩
  · by_cases e : j = id
    · subst e
      simp only [updM, if_true, Option.some.injEq] at e1
      subst e1
      cases hl'
    · simp only [updM, e, if_false] at e1
      exact h.lnk j b' bi k e1 e2 e3 l hl'
theorem frzF {c0 : Code} {K' : Exit → ASt → Prop} {lt : List (Nat × SV)} {lm : List (Id × Option Blk)} {g : Nat → Nat} (id : Id) {K c n T sz : Nat} {X : Nat → List PV} {Te : TypeId}
    (h : AW P N c0 K' ⟨lk lt, lkM ((id, some ⟨Te, 1, (List.range n).map fun i => .sl (X i), true, [], none⟩) :: lm), g⟩)
    (hm : lkM lm id = some ⟨Te, 1, List.replicate n .hole, true, famLs K c n X, none⟩ := by exact Go.Ab.evR)
    (hl : All (fun x : Id × Option Blk => x.1.1 < K) lm := by (simp only [All]; decide)) : AW P N c0 K' ⟨lk lt, lkM (lm ++ famL K c n T sz X), g⟩ := by
  intro S0 w0 a w hR
  have hlt : id.1 < K := hl.get1 _ (lkM_mem hm)
  have hfm : ∀ i, i < n → lkM (lm ++ famL K c n T sz X) (i + K, c) = some ⟨T, sz, X i, true, [], none⟩ := fun i hi => by
    rw [lkM_skip (fun x hx e => by have := hl.get1 x hx; rw [e] at this; simp only at this; omega), famL_at hi]
  have hR1 : Rel S0 w0 N ⟨lk lt, fun j => if isFam K c n j then (lkM (lm ++ famL K c n T sz X) j).map fun b => { b with rw := false } else lkM (lm ++ famL K c n T sz X) j, g⟩ a w := by
    have hwf := hR.wf
    have hblk : ∀ id b, lkM (lm ++ famL K c n T sz X) id = some b → id.2 < g id.1 := fun id b hb => by obtain ⟨ρ, h⟩ := hR; exact (h.blk id b hb).1
    have hm' : ∀ id b, (if isFam K c n id then (lkM (lm ++ famL K c n T sz X) id).map fun b => { b with rw := false } else lkM (lm ++ famL K c n T sz X) id) = some b → ∃ b0, lkM (lm ++ famL K c n T sz X) id = some b0 ∧ b.T = b0.T ∧ b.sz = b0.sz ∧ b.elems = b0.elems ∧ (b.rw = b0.rw ∨ b.rw = false) ∧ b.ls = b0.ls ∧ b.mp = b0.mp := fun id b hb => by
      split at hb
      · obtain ⟨b0, e1, rfl⟩ := Option.map_eq_some_iff.1 hb
        exact ⟨b0, e1, rfl, rfl, rfl, .inr rfl, rfl, rfl⟩
      · exact ⟨b, hb, rfl, rfl, rfl, .inl rfl, rfl, rfl⟩
    refine Rel.weak (s := ⟨lk lt, lkM (lm ++ famL K c n T sz X), g⟩) (r := fun i => i) ⟨fun i => ?_, fun id b hb => ?_, fun _ _ _ _ _ _ e => e, fun id b hb => ?_, fun i id hid => hwf i id hid, fun _ _ _ => ⟨Iff.rfl, fun _ e => e⟩, fun _ _ _ _ _ _ h => h, fun _ _ _ _ _ h => h⟩ hR
    · right; simp only; cases lk lt i <;> first | rfl | (simp only [ren]; exact congrArg _ (renL_id _))
    · obtain ⟨b0, g1, g2, g3, g4, g5, g6⟩ := hm' id b hb
      exact ⟨b0, g1, g2, g3, g4, g5, by rw [renL_id]; exact g6.1, g6.2⟩
    · obtain ⟨b0, g1, _⟩ := hm' id b hb
      exact hblk id b0 g1
  obtain ⟨ρ, hR1⟩ := hR1
  have nid : ¬ isFam K c n id := fun hj => by have := hj.2.1; omega
  have hR2 := hR1.famF id n (fun i => (i + K, c)) X (fun i => ⟨T, sz, X i, false, [], none⟩) (b := ⟨Te, 1, List.replicate n .hole, true, famLs K c n X, none⟩) (by simp only [if_neg nid]; exact lkM_front hm _) rfl rfl (by simp) rfl (fun i hi => famLs_mem.2 ⟨i, hi, rfl⟩)
    (fun i hi => by simp only [if_pos (isFam_of hi), hfm i hi, Option.map_some]) (fun i _ => ⟨rfl, rfl⟩)
  refine AW_keep (s := ⟨lk lt, updM (fun j => if isFam K c n j then (lkM (lm ++ famL K c n T sz X) j).map fun b => { b with rw := false } else lkM (lm ++ famL K c n T sz X) j) id (some ⟨Te, 1, (List.range n).map fun i => .sl (X i), true, [], none⟩), g⟩) (lt.map (·.1)) (lm.map (·.1)) ?_ S0 w0 a w ⟨ρ, hR2⟩
  refine AW_weak (r := fun i => i) ⟨lk lt, lkM ((id, some ⟨Te, 1, (List.range n).map fun i => .sl (X i), true, [], none⟩) :: lm), g⟩ ?_ h
  have hk : ∀ (l : List (Nat × SV)) (f : Nat → SV) (i : Nat), lk l i ≠ .any → lk (l.map fun x => (x.1, f x.1)) i = f i := fun l f i => by
    induction l with
    | nil => intro h; exact absurd rfl h
    | cons x l ih =>
      obtain ⟨k, v⟩ := x
      intro h
      change (if i = k then v else lk l i) ≠ .any at h
      show (if i = k then f k else lk (l.map fun x => (x.1, f x.1)) i) = f i
      split
      · rename_i e; rw [e]
      · rename_i e; rw [if_neg e] at h; exact ih h
  have hkM : ∀ (l : List (Id × Option Blk)) (f : Id → Option Blk) (i : Id) (b : Blk), lkM l i = some b → lkM (l.map fun x => (x.1, f x.1)) i = f i := fun l f i b => by
    induction l with
    | nil => intro h; cases h
    | cons x l ih =>
      obtain ⟨k, v⟩ := x
      intro h
      change (if i = k then v else lkM l i) = some b at h
      show (if i = k then f k else lkM (l.map fun x => (x.1, f x.1)) i) = f i
      split
      · rename_i e; rw [e]
      · rename_i e; rw [if_neg e] at h; exact ih h
  have key : ∀ j b, lkM ((id, some ⟨Te, 1, (List.range n).map fun i => .sl (X i), true, [], none⟩) :: lm) j = some b → lkM ((lm.map (·.1)).map fun i => (i, updM (fun j => if isFam K c n j then (lkM (lm ++ famL K c n T sz X) j).map fun b => { b with rw := false } else lkM (lm ++ famL K c n T sz X) j) id (some ⟨Te, 1, (List.range n).map fun i => .sl (X i), true, [], none⟩) i)) j = some b := fun j b hb => by
    change (if j = id then some _ else lkM lm j) = some b at hb
    simp only [List.map_map, Function.comp_def]
    by_cases e : j = id
    · subst e
      rw [if_pos rfl] at hb
      rw [hkM lm _ j _ hm]
      simp only [updM, if_true]; exact hb
    · rw [if_neg e] at hb
      rw [hkM lm _ j _ hb]
      have hj : ¬ isFam K c n j := fun hj => by have := hl.get1 _ (lkM_mem hb); have := hj.2.1; simp only at *; omega
      simp only [updM, e, if_false, if_neg hj]
      exact lkM_front hb _
  refine ⟨fun i => ?_, fun j b hb => ⟨b, key j b hb, rfl, rfl, rfl, .inl rfl, renL_id _, rfl⟩, fun _ _ _ _ _ _ e => e, fun j b hb => ?_, fun i j hid => ?_, fun _ _ _ => ⟨Iff.rfl, fun _ e => e⟩, fun _ _ _ _ _ _ h => h, fun _ _ _ _ _ h => h⟩
  · by_cases e : lk lt i = .any
    · exact .inl e
    · right
      simp only [List.map_map, Function.comp_def]
      rw [hk lt (lk lt) i e]
      cases lk lt i <;> first | rfl | (simp only [ren]; exact congrArg _ (renL_id _))
  · change (if j = id then some _ else lkM lm j) = some b at hb
    by_cases e : j = id
    · subst e
      exact (hR1.blk j ⟨Te, 1, List.replicate n .hole, true, famLs K c n X, none⟩ (by simp only [if_neg nid]; exact lkM_front hm _)).1
    · rw [if_neg e] at hb
      have hj : ¬ isFam K c n j := fun hj => by have := hl.get1 _ (lkM_mem hb); have := hj.2.1; simp only at *; omega
      exact (hR1.blk j b (by simp only [if_neg hj]; exact lkM_front hb _)).1
  · exact Rel.wf ⟨ρ, hR1⟩ i j hid
end
end Go.Ab
