/-
  Contracts of the layer grove on plain data: forests, trees, paths, the greatest of edges, spanning forests.
  Conditions: not too many edges.
-/
import Derived.Test.YtlhgjaogpeoaeaaGroveG
import Derived.Test.YtlhgjaogpeoaeaaNameF
namespace Go.Proofs.Ytlhgjaogpeoaeaa
open Go Go.Ab
set_option linter.unusedVariables false
set_option linter.unusedSimpArgs false

theorem ofYes (n : Nat) (hn : n ≤ 1024) (l : List Ed) (hl : l.length < 1099511627776) (hm : MayE n l) : ACalls Try.prog 10 [iPV n, .sl (l.map edPV)] (.tup [.sl ((partR n l).map iPV), iPV 0]) := by
  have := of_any n hn l hl
  rwa [ofPV, if_pos hm] at this
theorem ofNo (n : Nat) (hn : n ≤ 1024) (l : List Ed) (hl : l.length < 1099511627776) (hm : ¬ MayE n l) : ACalls Try.prog 10 [iPV n, .sl (l.map edPV)] (.tup [.sl [], iPV 1]) := by
  have := of_any n hn l hl
  rwa [ofPV, if_neg hm] at this
def IsFi (n : Int) (l : List Ed) : Prop := 0 ≤ n ∧ n ≤ 1024 ∧ IsF n.toNat l
instance (n : Int) (l : List Ed) : Decidable (IsFi n l) := by unfold IsFi; infer_instance
theorem isFi_nat {n : Nat} {l : List Ed} (hn : n ≤ 1024) : IsFi n l ↔ IsF n l := by
  unfold IsFi
  rw [Int.toNat_natCast]
  exact ⟨fun h => h.2.2, fun h => ⟨by omega, by omega, h⟩⟩

theorem forest_yes (n : Nat) (hn : n ≤ 1024) (l : List Ed) (hl : l.length < 1099511627776) (h : IsF n l) : ACalls Try.prog 14 [iPV n, .sl (l.map edPV)] (.tup [.sl ((partR n l).map iPV), bPV true]) := by
  refine ent Try.func14 ?_
  have c1 := ofYes n hn l hl h.1
  have c2 := many_any (partR n l) (by rw [partR_len]; omega)
  have hk := h.2
  clear h
  obtain ⟨k, ek⟩ : ∃ zz, manyR (partR n l) = zz := ⟨_, rfl⟩
  rw [ek] at c2 hk
  have f1 : (n : Int) - (l.length : Int) = (k : Int) := by omega
  obtain ⟨P, eP⟩ : ∃ zz, partR n l = zz := ⟨_, rfl⟩
  rw [eP] at c1 c2 ek ⊢
  repeat (refine AW_seq ?_)
  refine reg ?_
  refine run 2 ?_
  refine fin [0, 1] [] ?_
  repeat (refine AW_seq ?_)
  refine reg ?_
  refine run 2 ?_
  refine call (fun _ => c1) ?_
  refine run 2 ?_
  refine run 2 ?_
  refine run 1 ?_
  refine fin [0, 1, 6, 7] [] ?_
  repeat (refine AW_seq ?_)
  refine reg ?_
  refine run 2 ?_
  refine run 2 ?_
  refine call (fun _ => c2) ?_
  refine run 2 ?_
  refine run 2 ?_
  refine run 2 ?_
  refine fin [6, 24] [] ?_
  repeat (refine AW_seq ?_)
  refine tstF ?_
  refine AW_skip ?_
  repeat (refine AW_seq ?_)
  refine reg ?_
  refine run 2 ?_
  refine run 1 ?_
  refine fin [4, 5] [] ?_
  refine AW_ret (ret ?_)
  rfl

theorem forest_err (n : Int) (l : List Ed) (c1 : ACalls Try.prog 10 [iPV n, .sl (l.map edPV)] (.tup [.sl [], iPV 1])) : ACalls Try.prog 14 [iPV n, .sl (l.map edPV)] (.tup [.sl [], bPV false]) := by
  refine ent Try.func14 ?_
  repeat (refine AW_seq ?_)
  refine reg ?_
  refine run 2 ?_
  refine fin [0, 1] [] ?_
  repeat (refine AW_seq ?_)
  refine reg ?_
  refine run 2 ?_
  refine call (fun _ => c1) ?_
  refine run 2 ?_
  refine run 2 ?_
  refine run 1 ?_
  refine fin [0, 1, 6, 7] [] ?_
  repeat (refine AW_seq ?_)
  refine reg ?_
  refine run 2 ?_
  refine run 2 ?_
  refine skpV (.c (iPV 0)) ?_
  refine run 2 ?_
  refine run 2 ?_
  refine run 2 ?_
  refine fin [6, 24] [] ?_
  repeat (refine AW_seq ?_)
  refine tstT ?_
  repeat (refine AW_seq ?_)
  refine reg ?_
  refine run 2 ?_
  refine fin [4, 5] [] ?_
  refine AW_ret (ret ?_)
  rfl

theorem forest_many (n : Nat) (hn : n ≤ 1024) (l : List Ed) (hl : l.length < 1099511627776) (hm : MayE n l) (h : ¬ IsF n l) : ACalls Try.prog 14 [iPV n, .sl (l.map edPV)] (.tup [.sl [], bPV false]) := by
  refine ent Try.func14 ?_
  have c1 := ofYes n hn l hl hm
  have c2 := many_any (partR n l) (by rw [partR_len]; omega)
  have hk : manyR (partR n l) + l.length ≠ n := fun g => h ⟨hm, g⟩
  clear h hm
  obtain ⟨k, ek⟩ : ∃ zz, manyR (partR n l) = zz := ⟨_, rfl⟩
  rw [ek] at c2 hk
  have f1 : ((k : Int) != (n : Int) - (l.length : Int)) = true := by simp; omega
  obtain ⟨P, eP⟩ : ∃ zz, partR n l = zz := ⟨_, rfl⟩
  rw [eP] at c1 c2 ek
  repeat (refine AW_seq ?_)
  refine reg ?_
  refine run 2 ?_
  refine fin [0, 1] [] ?_
  repeat (refine AW_seq ?_)
  refine reg ?_
  refine run 2 ?_
  refine call (fun _ => c1) ?_
  refine run 2 ?_
  refine run 2 ?_
  refine run 1 ?_
  refine fin [0, 1, 6, 7] [] ?_
  repeat (refine AW_seq ?_)
  refine reg ?_
  refine run 2 ?_
  refine run 2 ?_
  refine call (fun _ => c2) ?_
  refine run 2 ?_
  refine run 2 ?_
  refine run 2 ?_
  refine fin [6, 24] [] ?_
  repeat (refine AW_seq ?_)
  refine tstT ?_
  repeat (refine AW_seq ?_)
  refine reg ?_
  refine run 2 ?_
  refine fin [4, 5] [] ?_
  refine AW_ret (ret ?_)
  rfl

theorem forest_no (n : Int) (l : List Ed) (hl : l.length < 1099511627776) (h : ¬ IsFi n l) : ACalls Try.prog 14 [iPV n, .sl (l.map edPV)] (.tup [.sl [], bPV false]) := by
  by_cases hn : n < 0 ∨ 1024 < n
  · exact forest_err n l (of_out n l hn)
  · obtain ⟨k, rfl⟩ : ∃ k : Nat, n = k := ⟨n.toNat, by omega⟩
    rw [isFi_nat (by omega)] at h
    by_cases hm : MayE k l
    · exact forest_many k (by omega) l hl hm h
    · exact forest_err k l (ofNo k (by omega) l hl hm)

theorem gRight_yes (n : Nat) (hn : n ≤ 1024) (l : List Ed) (hl : l.length < 1099511627776) (h : IsF n l) : ACalls Try.prog 7 [iPV n, .sl (l.map edPV)] (bPV true) := by
  refine ent Try.func7 ?_
  have c1 := forest_yes n hn l hl h
  repeat (refine AW_seq ?_)
  refine reg ?_
  refine run 1 ?_
  refine fin [0, 1] [] ?_
  repeat (refine AW_seq ?_)
  refine reg ?_
  refine run 2 ?_
  refine call (fun _ => c1) ?_
  refine run 2 ?_
  refine run 2 ?_
  refine run 1 ?_
  refine fin [6] [] ?_
  repeat (refine AW_seq ?_)
  refine reg ?_
  refine run 2 ?_
  refine fin [4] [] ?_
  refine AW_ret (ret ?_)
  rfl

theorem gRight_no (n : Int) (l : List Ed) (hl : l.length < 1099511627776) (h : ¬ IsFi n l) : ACalls Try.prog 7 [iPV n, .sl (l.map edPV)] (bPV false) := by
  refine ent Try.func7 ?_
  have c1 := forest_no n l hl h
  repeat (refine AW_seq ?_)
  refine reg ?_
  refine run 1 ?_
  refine fin [0, 1] [] ?_
  repeat (refine AW_seq ?_)
  refine reg ?_
  refine run 2 ?_
  refine call (fun _ => c1) ?_
  refine run 2 ?_
  refine run 2 ?_
  refine run 1 ?_
  refine fin [6] [] ?_
  repeat (refine AW_seq ?_)
  refine reg ?_
  refine run 2 ?_
  refine fin [4] [] ?_
  refine AW_ret (ret ?_)
  rfl

theorem gRight_any (n : Int) (l : List Ed) (hl : l.length < 1099511627776) : ACalls Try.prog 7 [iPV n, .sl (l.map edPV)] (bPV (decide (IsFi n l))) := by
  by_cases h : IsFi n l
  · obtain ⟨k, rfl⟩ : ∃ k : Nat, n = k := ⟨n.toNat, by have := h.1; omega⟩
    have hn := h.2.1
    rw [decide_eq_true h]
    exact gRight_yes k (by omega) l hl ((isFi_nat (by omega)).1 h)
  · rw [decide_eq_false h]; exact gRight_no n l hl h

theorem tree_yes (n : Nat) (hn : n ≤ 1024) (l : List Ed) (hl : l.length < 1099511627776) (h : IsF n l) (v : Int) : ACalls Try.prog 12 [iPV n, .sl (l.map edPV), iPV v] (.sl ((clsR (partR n l) v).map iPV)) := by
  refine ent Try.func12 ?_
  have c1 := forest_yes n hn l hl h
  have c2 := class_any (partR n l) v (by rw [partR_len]; omega)
  clear h
  obtain ⟨Q, eQ⟩ : ∃ zz, clsR (partR n l) v = zz := ⟨_, rfl⟩
  rw [eQ] at c2 ⊢
  obtain ⟨P, eP⟩ : ∃ zz, partR n l = zz := ⟨_, rfl⟩
  rw [eP] at c1 c2 eQ
  repeat (refine AW_seq ?_)
  refine reg ?_
  refine run 1 ?_
  refine fin [0, 1, 2] [] ?_
  repeat (refine AW_seq ?_)
  refine reg ?_
  refine run 2 ?_
  refine call (fun _ => c1) ?_
  refine run 2 ?_
  refine run 2 ?_
  refine run 1 ?_
  refine fin [2, 7, 8] [] ?_
  repeat (refine AW_seq ?_)
  refine reg ?_
  refine run 2 ?_
  refine fin [2, 7, 16] [] ?_
  repeat (refine AW_seq ?_)
  refine tstF ?_
  refine AW_skip ?_
  repeat (refine AW_seq ?_)
  refine reg ?_
  refine run 2 ?_
  refine call (fun _ => c2) ?_
  refine run 1 ?_
  refine fin [6] [] ?_
  refine AW_ret (ret ?_)
  rfl

theorem path_arg (n : Nat) (hn : n ≤ 1024) (l : List Ed) (hl : l.length < 1099511627776) (h : IsF n l) (u v : Int) (ho : ¬ (0 ≤ u ∧ u < n ∧ 0 ≤ v ∧ v < n)) : ACalls Try.prog 9 [iPV n, .sl (l.map edPV), iPV u, iPV v] (.tup [.sl [], iPV 1]) := by
  refine ent Try.func9 ?_
  have c1 := forest_yes n hn l hl h
  have c2 := gPlace_any n u
  have c3 := gPlace_any n v
  clear h
  obtain ⟨P, eP⟩ : ∃ zz, partR n l = zz := ⟨_, rfl⟩
  rw [eP] at c1
  have hB : ((decide (0 ≤ u) && decide (u < (n : Int))) && (decide (0 ≤ v) && decide (v < (n : Int)))) = false := by simp; omega
  generalize (decide (0 ≤ u) && decide (u < (n : Int))) = b1 at *
  generalize (decide (0 ≤ v) && decide (v < (n : Int))) = b2 at *
  repeat (refine AW_seq ?_)
  refine reg ?_
  refine run 2 ?_
  refine fin [0, 1, 2, 3] [] ?_
  repeat (refine AW_seq ?_)
  refine reg ?_
  refine run 2 ?_
  refine call (fun _ => c1) ?_
  refine run 2 ?_
  refine run 2 ?_
  refine run 1 ?_
  refine fin [0, 1, 2, 3, 10, 11] [] ?_
  repeat (refine AW_seq ?_)
  refine reg ?_
  refine run 2 ?_
  refine run 2 ?_
  refine run 1 ?_
  refine call (fun _ => c2) ?_
  refine run 2 ?_
  refine run 2 ?_
  refine run 1 ?_
  refine call (fun _ => c3) ?_
  refine run 2 ?_
  refine fin [0, 1, 2, 3, 10, 34] [] ?_
  repeat (refine AW_seq ?_)
  refine tst (fun h1 => ?_) (fun h1 => ?_)
  · simp at h1
    repeat (refine AW_seq ?_)
    refine reg ?_
    refine run 2 ?_
    refine fin [8, 9] [] ?_
    refine AW_ret (ret ?_)
    rfl
  · (exfalso; cases b1 <;> cases b2 <;> simp_all)

theorem path_none (n u v : Nat) (hn : n ≤ 1024) (l : List Ed) (hl : l.length ≤ 1024) (h : IsF n l) (hu : u < n) (hv : v < n) (hc : ¬ Con l u v) : ACalls Try.prog 9 [iPV n, .sl (l.map edPV), iPV u, iPV v] (.tup [.sl [], iPV 3]) := by
  refine ent Try.func9 ?_
  have c1 := forest_yes n hn l (by omega) h
  have c2 := gPlace_any n u
  rw [show (decide (0 ≤ (u : Int)) && decide ((u : Int) < (n : Int))) = true by simp; exact hu] at c2
  have c3 := gPlace_any n v
  rw [show (decide (0 ≤ (v : Int)) && decide ((v : Int) < (n : Int))) = true by simp; exact hv] at c3
  have hPl := partR_len n l
  have hne : (partR n l).getD u default ≠ (partR n l).getD v default := fun g => hc ((con_iff h.1 ⟨by omega, by omega⟩ ⟨by omega, by omega⟩).2 g)
  clear h hc
  obtain ⟨P, eP⟩ : ∃ zz, partR n l = zz := ⟨_, rfl⟩
  rw [eP] at c1 hPl hne
  obtain ⟨x, gx⟩ : ∃ x, P.getD u default = x := ⟨_, rfl⟩
  obtain ⟨y, gy⟩ : ∃ x, P.getD v default = x := ⟨_, rfl⟩
  rw [gx, gy] at hne
  have hB : (x != y) = true := by simpa using hne
  repeat (refine AW_seq ?_)
  refine reg ?_
  refine run 2 ?_
  refine fin [0, 1, 2, 3] [] ?_
  repeat (refine AW_seq ?_)
  refine reg ?_
  refine run 2 ?_
  refine call (fun _ => c1) ?_
  refine run 2 ?_
  refine run 2 ?_
  refine run 1 ?_
  refine fin [0, 1, 2, 3, 10, 11] [] ?_
  repeat (refine AW_seq ?_)
  refine reg ?_
  refine run 2 ?_
  refine run 2 ?_
  refine run 1 ?_
  refine call (fun _ => c2) ?_
  refine run 2 ?_
  refine run 2 ?_
  refine run 1 ?_
  refine call (fun _ => c3) ?_
  refine run 2 ?_
  refine fin [0, 1, 2, 3, 10, 34] [] ?_
  repeat (refine AW_seq ?_)
  refine tstF ?_
  refine AW_skip ?_
  repeat (refine AW_seq ?_)
  refine reg ?_
  refine run 2 ?_
  refine run 2 ?_
  refine run 2 ?_
  refine run 2 ?_
  refine run 1 ?_
  refine fin [0, 1, 2, 3, 43] [] ?_
  repeat (refine AW_seq ?_)
  refine tstT ?_
  repeat (refine AW_seq ?_)
  refine reg ?_
  refine run 2 ?_
  refine fin [8, 9] [] ?_
  refine AW_ret (ret ?_)
  rfl

theorem Fol.cases {B : List St} {v a : Nat} {q : List Ed} (h : Fol B v a q) (hne : a ≠ v) : ∃ e q' c, q = e :: q' ∧ B.getD a default = ⟨e, (c : Nat)⟩ ∧ c < B.length ∧ Fol B v c q' := by
  cases q with
  | nil => exact absurd h hne
  | cons e q =>
    obtain ⟨h1, h2, c, h3, h4, h5⟩ := h
    refine ⟨e, q, c, rfl, ?_, h4, h5⟩
    obtain ⟨s, hs⟩ : ∃ s, B.getD a default = s := ⟨_, rfl⟩
    rw [hs] at h2 h3 ⊢
    obtain ⟨s1, s2⟩ := s
    simp only at h2 h3
    rw [h2, h3]
theorem Fol.stop {B : List St} {v : Nat} {q : List Ed} (h : Fol B v v q) : q = [] := by
  cases q with
  | nil => rfl
  | cons e q => exact absurd rfl h.1

theorem path_fol (n u v : Nat) (hn : n ≤ 1024) (l : List Ed) (hl : l.length ≤ 1024) (h : IsF n l) (hu : u < n) (hv : v < n) (hc : Con l u v) (T : List St) (hT : outR l n ((List.replicate n default).set v ⟨default, v⟩) [(v : Int)] = (T, [])) (hTl : T.length = n) (p : List Ed) (hp : Fol T v u p) (hpl : p.length ≤ 1024) : ACalls Try.prog 9 [iPV n, .sl (l.map edPV), iPV u, iPV v] (.tup [.sl (p.map edPV), iPV 0]) := by
  refine ent Try.func9 ?_
  have c1 := forest_yes n hn l (by omega) h
  have c2 := gPlace_any n u
  rw [show (decide (0 ≤ (u : Int)) && decide ((u : Int) < (n : Int))) = true by simp; exact hu] at c2
  have c3 := gPlace_any n v
  rw [show (decide (0 ≤ (v : Int)) && decide ((v : Int) < (n : Int))) = true by simp; exact hv] at c3
  have hPl := partR_len n l
  have heq : (partR n l).getD u default = (partR n l).getD v default := (con_iff h.1 ⟨by omega, by omega⟩ ⟨by omega, by omega⟩).1 hc
  have c4 := (steps_any n v hn l hl h.1 hv T hT).a
  clear h hc hT
  obtain ⟨P, eP⟩ : ∃ zz, partR n l = zz := ⟨_, rfl⟩
  rw [eP] at c1 hPl heq
  obtain ⟨x, gx⟩ : ∃ x, P.getD u default = x := ⟨_, rfl⟩
  rw [gx] at heq
  have gy := heq.symm
  clear heq
  obtain ⟨hp, -⟩ : Go.RowKit.Hid (Fol T v u p) ∧ True := ⟨hp, trivial⟩
  rename_i hp0
  clear hp0
  repeat (refine AW_seq ?_)
  refine reg ?_
  refine run 2 ?_
  refine fin [0, 1, 2, 3] [] ?_
  repeat (refine AW_seq ?_)
  refine reg ?_
  refine run 2 ?_
  refine call (fun _ => c1) ?_
  refine run 2 ?_
  refine run 2 ?_
  refine run 1 ?_
  refine fin [0, 1, 2, 3, 10, 11] [] ?_
  repeat (refine AW_seq ?_)
  refine reg ?_
  refine run 2 ?_
  refine run 2 ?_
  refine run 1 ?_
  refine call (fun _ => c2) ?_
  refine run 2 ?_
  refine run 2 ?_
  refine run 1 ?_
  refine call (fun _ => c3) ?_
  refine run 2 ?_
  refine fin [0, 1, 2, 3, 10, 34] [] ?_
  repeat (refine AW_seq ?_)
  refine tstF ?_
  refine AW_skip ?_
  repeat (refine AW_seq ?_)
  refine reg ?_
  refine run 2 ?_
  refine run 2 ?_
  refine run 2 ?_
  refine run 2 ?_
  refine run 1 ?_
  refine fin [0, 1, 2, 3, 43] [] ?_
  repeat (refine AW_seq ?_)
  refine tstF ?_
  refine AW_skip ?_
  repeat (refine AW_seq ?_)
  refine reg ?_
  refine run 1 ?_
  refine fin [0, 1, 2, 3, 12] [] ?_
  repeat (refine AW_seq ?_)
  refine reg ?_
  refine run 2 ?_
  refine run 1 ?_
  refine call (fun _ => c4) ?_
  refine run 1 ?_
  refine fin [2, 3, 12, 13] [] ?_
  repeat (refine AW_seq ?_)
  refine reg ?_
  refine run 2 ?_
  refine fin [3, 12, 13, 14] [] ?_
  refine seed 12 13 29 3 ?_
  repeat (refine AW_seq ?_)
  refine AW_block ?_
  refine AW_loops (ι := Nat × List Ed × List Ed) (fun z => ⟨lk [(3, .c (iPV v)), (12, .own (13, 0) z.2.1.length), (13, .c (.sl (T.map stPV))), (14, .c (iPV z.1))], lkM ([((13, 0), some ⟨29, 3, (z.2.1).map edPV, true, [], none⟩)]), lkG [] 1⟩) (fun z => z.1 < n ∧ Fol T v z.1 z.2.2 ∧ z.2.1 ++ z.2.2 = p ∧ z.2.1.length + z.2.2.length ≤ 1024) (fun z => z.2.2.length) (u, [], p) ⟨hu, hp.out, rfl, by simpa using hpl⟩ wk ?_
  rintro ⟨a, X, q⟩ ⟨ha, hF, hX, hl2⟩
  simp only at ha hF hX hl2
  obtain ⟨hF, -⟩ : Go.RowKit.Hid (Fol T v a q) ∧ True := ⟨hF, trivial⟩
  rename_i hF0
  clear hF0
  obtain ⟨hX, -⟩ : Go.RowKit.Hid (X ++ q = p) ∧ True := ⟨hX, trivial⟩
  rename_i hX0
  clear hX0
  repeat (refine AW_seq ?_)
  refine reg ?_
  refine run 2 ?_
  refine run 1 ?_
  refine fin [3, 12, 13, 14, 51] [(13, 0)] ?_
  repeat (refine AW_seq ?_)
  refine tst (fun h3 => ?_) (fun h3 => ?_)
  · simp at h3
    obtain ⟨e, q', c, rfl, gs, hc, hf2⟩ := hF.out.cases (by omega)
    obtain ⟨eu, ev, et⟩ := e
    have hcn : c < n := by omega
    obtain ⟨X2, eX2⟩ : ∃ zz, X ++ [(⟨eu, ev, et⟩ : Ed)] = zz := ⟨_, rfl⟩
    have mX2 : X.map edPV ++ [PV.agg [PV.v (.int .i64 eu), PV.v (.int .i64 ev), PV.v (.int .i64 et)]] = X2.map edPV := by rw [← eX2, List.map_append]; rfl
    have lX2 : X2.length = X.length + 1 := by rw [← eX2, List.length_append]; rfl
    simp only [List.length_cons] at hl2
    obtain ⟨eX2, -⟩ : Go.RowKit.Hid (X ++ [(⟨eu, ev, et⟩ : Ed)] = X2) ∧ True := ⟨eX2, trivial⟩
    rename_i eX20
    clear eX20
    obtain ⟨hf2, -⟩ : Go.RowKit.Hid (Fol T v c q') ∧ True := ⟨hf2, trivial⟩
    rename_i hf20
    clear hf20
    refine AW_skip ?_
    repeat (refine AW_seq ?_)
    refine AW_block ?_
    repeat (refine AW_seq ?_)
    refine reg ?_
    refine run 2 ?_
    refine run 2 ?_
    refine run 2 ?_
    refine run 2 ?_
    refine run 1 ?_
    refine finN ?_
    refine kp [3, 12, 13, 14] [(13, 0)] ?_
    repeat (refine AW_seq ?_)
    refine reg ?_
    refine run 2 ?_
    refine run 2 ?_
    refine run 2 ?_
    refine finN ?_
    exact ⟨(c, X2, q'), by show q'.length < q'.length + 1; omega, ⟨hcn, hf2.out, by
      show X2 ++ q' = p
      rw [← eX2.out, List.append_assoc]; exact hX.out, by show X2.length + q'.length ≤ 1024; omega⟩, wk⟩
  · simp at h3
    refine AW_exit ?_
    repeat (refine AW_seq ?_)
    refine reg ?_
    refine run 2 ?_
    refine run 1 ?_
    refine fin [8, 9] [(13, 0)] ?_
    refine AW_ret (ret ?_)
    have e1 : a = v := by omega
    have e2 : X = p := by
      have := hX.out
      rw [e1] at hF
      rw [hF.out.stop, List.append_nil] at this; exact this
    rw [e2]; rfl

/-- the path is any way whose edges are each there once -/
theorem path_yes (n u v : Nat) (hn : n ≤ 1024) (l : List Ed) (hl : l.length ≤ 1024) (h : IsF n l) (hu : u < n) (hv : v < n) (p : List Ed) (hw : Walk l u p v) (hp : p.Nodup) : ACalls Try.prog 9 [iPV n, .sl (l.map edPV), iPV u, iPV v] (.tup [.sl (p.map edPV), iPV 0]) := by
  obtain ⟨B, h1, h2, h3⟩ := steps_spec h hv
  obtain ⟨-, q, q1, q2, q3⟩ := h3 u hw.con
  have := h.nc.only q p u v q2 q3 hw hp
  subst this
  exact path_fol n u v hn l hl h hu hv hw.con B h1 h2 q q1 (by have := edge_len l q q3 q2.mem; omega)
theorem path_ex {n u v : Nat} {l : List Ed} (h : IsF n l) (hv : v < n) (hc : Con l u v) : ∃ p, Walk l u p v ∧ p.Nodup := by
  obtain ⟨B, h1, h2, h3⟩ := steps_spec h hv
  obtain ⟨-, q, q1, q2, q3⟩ := h3 u hc
  exact ⟨q, q2, q3⟩
def lessT (a b : Ed) : Bool := decide (a.t < b.t) || ((a.t == b.t) && lessB a b)
def gr (g : Ed) : List Ed → Ed
  | [] => g
  | e :: l => gr (if lessT g e = true then e else g) l

theorem gless_any (a b : Ed) : ACalls Try.prog 24 [edPV a, edPV b] (bPV (lessT a b)) := by
  refine ent Try.func24 ?_
  have c1 := less_any a b
  obtain ⟨k, ek⟩ : ∃ k, lessB a b = k := ⟨_, rfl⟩
  rw [ek] at c1
  have hr : lessT a b = (decide (a.t < b.t) || ((a.t == b.t) && k)) := by unfold lessT; rw [ek]
  rw [hr]
  clear hr ek
  repeat (refine AW_seq ?_)
  refine reg ?_
  refine run 2 ?_
  refine run 1 ?_
  refine fin [2, 3] [(3, 0), (4, 0)] ?_
  repeat (refine AW_seq ?_)
  refine reg ?_
  refine run 2 ?_
  refine run 2 ?_
  refine run 2 ?_
  refine run 2 ?_
  refine run 2 ?_
  refine run 2 ?_
  refine run 2 ?_
  refine call (fun _ => c1) ?_
  refine run 2 ?_
  refine run 1 ?_
  refine fin [4] [] ?_
  refine AW_ret (ret ?_)
  first | rfl | (congr 1; generalize (a.t == b.t) = x; generalize decide (a.t < b.t) = y; cases x <;> cases y <;> cases k <;> rfl)

theorem great_any (e : Ed) (r L : List Ed) (hL : e :: r = L) (hl : L.length < 1099511627776) (G : Ed) (hG : gr e L = G) : ACalls Try.prog 15 [.sl (L.map edPV)] (.tup [edPV G, bPV true]) := by
  refine ent Try.func15 ?_
  have g0 : L.getD 0 default = e := by rw [← hL]; rfl
  have hpos : 0 < L.length := by rw [← hL]; simp
  have h0 : ((L.length : Int) == 0) = false := by rw [beq_eq_false_iff_ne]; omega
  clear hL
  obtain ⟨hG, -⟩ : Go.RowKit.Hid (gr e L = G) ∧ True := ⟨hG, trivial⟩
  rename_i hG0
  clear hG0
  obtain ⟨eu, ev, et⟩ := e
  repeat (refine AW_seq ?_)
  refine reg ?_
  refine run 2 ?_
  refine fin [0, 2] [(3, 0)] ?_
  repeat (refine AW_seq ?_)
  refine reg ?_
  refine run 2 ?_
  refine run 1 ?_
  refine fin [0, 2, 9] [(3, 0)] ?_
  repeat (refine AW_seq ?_)
  refine tstF ?_
  refine AW_skip ?_
  repeat (refine AW_seq ?_)
  refine reg ?_
  refine run 2 ?_
  refine run 2 ?_
  refine run 1 ?_
  refine fin [0, 2, 4] [(3, 0), (5, 0)] ?_
  repeat (refine AW_seq ?_)
  refine reg ?_
  refine run 2 ?_
  refine run 1 ?_
  refine fin [2, 4, 14, 15, 16] [(3, 0), (5, 0)] ?_
  repeat (refine AW_seq ?_)
  refine AW_block ?_
  refine AW_loops (ι := Nat × Ed) (fun z => ⟨lk [(2, .ptr (3, 0) 1 0 0), (4, .ptr (5, 0) 1 0 0), (14, .c (.sl (L.map edPV))), (15, .c (iPV L.length)), (16, .c (iPV z.1))], lkM ([((3, 0), some ⟨29, 3, [edPV (⟨0, 0, 0⟩)], true, [], none⟩), ((5, 0), some ⟨29, 3, [edPV (z.2)], true, [], none⟩)]), lkG [] 1⟩) (fun z => z.1 ≤ L.length ∧ gr z.2 (L.drop z.1) = G) (fun z => L.length - z.1) (0, ⟨eu, ev, et⟩) ⟨Nat.zero_le _, hG.out⟩ wk ?_
  rintro ⟨i, g⟩ ⟨hi, hF⟩
  simp only at hi hF
  obtain ⟨hF, -⟩ : Go.RowKit.Hid (gr g (L.drop i) = G) ∧ True := ⟨hF, trivial⟩
  rename_i hF0
  clear hF0
  repeat (refine AW_seq ?_)
  refine reg ?_
  refine run 1 ?_
  refine fin [2, 4, 14, 15, 16, 17] [(3, 0), (5, 0)] ?_
  repeat (refine AW_seq ?_)
  refine tst (fun h2 => ?_) (fun h2 => ?_)
  · simp at h2
    obtain ⟨x, hx, gx⟩ := getD_at h2
    have c1 := gless_any g x
    obtain ⟨k, ek⟩ : ∃ k, lessT g x = k := ⟨_, rfl⟩
    rw [ek] at c1
    obtain ⟨ek, -⟩ : Go.RowKit.Hid (lessT g x = k) ∧ True := ⟨ek, trivial⟩
    rename_i ek0
    clear ek0
    refine AW_skip ?_
    repeat (refine AW_seq ?_)
    refine AW_block ?_
    repeat (refine AW_seq ?_)
    refine reg ?_
    refine run 2 ?_
    refine run 2 ?_
    refine fin [2, 4, 6, 14, 15, 16] [(3, 0), (5, 0), (7, 1)] ?_
    repeat (refine AW_seq ?_)
    refine reg ?_
    refine run 2 ?_
    refine call (fun _ => c1) ?_
    refine fin [2, 4, 6, 14, 15, 16, 22] [(3, 0), (5, 0), (7, 1)] ?_
    repeat (refine AW_seq ?_)
    refine tst (fun h3 => ?_) (fun h3 => ?_)
    · skip
      subst h3
      repeat (refine AW_seq ?_)
      refine reg ?_
      refine run 2 ?_
      refine finN ?_
      refine kp [2, 4, 14, 15, 16] [(3, 0), (5, 0)] ?_
      repeat (refine AW_seq ?_)
      refine reg ?_
      refine run 2 ?_
      refine finN ?_
      exact ⟨(i + 1, x), by show L.length - (i + 1) < L.length - i; omega, ⟨by show i + 1 ≤ _; omega, by
        have := hF.out
        rw [drop_at h2, gx, gr, if_pos ek.out] at this; exact this⟩, wk⟩
    · skip
      subst h3
      refine AW_skip ?_
      repeat (refine AW_seq ?_)
      refine reg ?_
      refine run 2 ?_
      refine finN ?_
      exact ⟨(i + 1, g), by show L.length - (i + 1) < L.length - i; omega, ⟨by show i + 1 ≤ _; omega, by
        have := hF.out
        rw [drop_at h2, gx, gr, if_neg (by rw [ek.out]; exact Bool.false_ne_true)] at this; exact this⟩, wk⟩
  · simp at h2
    refine AW_exit ?_
    repeat (refine AW_seq ?_)
    refine reg ?_
    refine run 2 ?_
    refine run 1 ?_
    refine fin [2, 3] [(3, 0)] ?_
    refine AW_ret (ret ?_)
    have e1 : g = G := by
      have := hF.out
      rw [List.drop_eq_nil_of_le (by omega)] at this; exact this
    rw [e1]; rfl

end Go.Proofs.Ytlhgjaogpeoaeaa