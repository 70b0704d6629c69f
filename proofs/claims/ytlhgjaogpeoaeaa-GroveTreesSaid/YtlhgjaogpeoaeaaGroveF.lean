/-
  Contracts of the layer grove on plain data: a place, the steps from each vertex.
  Conditions: not too many edges.
-/
import Derived.Test.YtlhgjaogpeoaeaaGroveD
import Derived.Test.YtlhgjaogpeoaeaaPartO
import Derived.Test.YtlhgjaogpeoaeaaAb30
namespace Go.Proofs.Ytlhgjaogpeoaeaa
open Go Go.Ab
set_option linter.unusedVariables false
set_option linter.unusedSimpArgs false

def aroundR (n : Nat) (l : List Ed) : List (List St) := (List.range n).map (arnd l)
theorem aroundR_len (n : Nat) (l : List Ed) : (aroundR n l).length = n := by simp [aroundR]
theorem stp_len (v : Nat) (e : Ed) : (stp v e).length ≤ 2 := by
  unfold stp; split <;> split <;> simp
theorem arnd_len (v : Nat) : ∀ l : List Ed, (arnd l v).length ≤ 2 * l.length
  | [] => Nat.le_refl _
  | e :: l => by rw [arnd, List.length_append, List.length_cons]; have := stp_len v e; have := arnd_len v l; omega
theorem arnd_next {l : List Ed} {i v : Nat} {x : Ed} (hx : l[i]? = some x) : arnd (l.take (i + 1)) v = arnd (l.take i) v ++ stp v x := by
  rw [List.take_add_one, hx, Option.toList_some, arnd_app]
  show _ = _
  rw [show arnd [x] v = stp v x by rw [arnd, arnd, List.append_nil]]
/-- one thing more at a place -/
def snoc (R : Nat → List St) (a : Nat) (s : St) : Nat → List St := fun v => if v = a then R v ++ [s] else R v
theorem snoc_at (R : Nat → List St) (a : Nat) (s : St) : snoc R a s a = R a ++ [s] := if_pos rfl
theorem snoc_ne {R : Nat → List St} {a v : Nat} {s : St} (h : v ≠ a) : snoc R a s v = R v := if_neg h
theorem snoc_two {R : Nat → List St} {a b v : Nat} {t : Int} : snoc (snoc R a ⟨⟨a, b, t⟩, b⟩) b ⟨⟨a, b, t⟩, a⟩ v = R v ++ stp v ⟨a, b, t⟩ := by
  unfold snoc stp
  by_cases e1 : v = a <;> by_cases e2 : v = b
  · subst e1; subst e2; simp
  · subst e1; rw [if_neg e2, if_pos rfl, if_pos rfl, if_neg (by dsimp only; omega)]; rfl
  · subst e2; rw [if_pos rfl, if_neg e1, if_neg (by dsimp only; omega), if_pos rfl]; rfl
  · rw [if_neg e2, if_neg e1, if_neg (by dsimp only; omega), if_neg (by dsimp only; omega)]; simp

theorem gPlace_any (n v : Int) : ACalls Try.prog 17 [iPV n, iPV v] (bPV (decide (0 ≤ v) && decide (v < n))) := by
  refine ent Try.func17 ?_
  repeat (refine AW_seq ?_)
  refine reg ?_
  refine run 1 ?_
  refine fin [0, 1] [] ?_
  repeat (refine AW_seq ?_)
  refine reg ?_
  refine run 2 ?_
  refine run 2 ?_
  refine run 2 ?_
  refine run 2 ?_
  refine fin [4] [] ?_
  refine AW_ret (ret ?_)
  rfl

theorem around_any (n : Nat) (hn : n ≤ 1024) (l : List Ed) (hl : l.length < 1099511627776) (hm : MayE n l) : FCalls Try.prog 26 [iPV n, .sl (l.map edPV)] ⟨44, 1, (aroundR n l).map srPV, true, [], none⟩ := by
  refine entF Try.func26 ?_
  obtain ⟨hm, -⟩ : Go.RowKit.Hid (MayE n l) ∧ True := ⟨hm, trivial⟩
  rename_i hm0
  clear hm0
  repeat (refine AW_seq ?_)
  refine reg ?_
  refine run 1 ?_
  refine fin [0, 1] [] ?_
  repeat (refine AW_seq ?_)
  refine reg ?_
  refine run 1 ?_
  refine opZ ?_
  refine run 1 ?_
  refine fin [1, 5] [(10, 0)] ?_
  refine seedF (10, 0) 1000 0 n 47 4 1 ?_
  repeat (refine AW_seq ?_)
  refine reg ?_
  refine run 2 ?_
  refine run 1 ?_
  refine finF [5, 10, 11, 12] [] (10, 0) 1000 0 (n) 47 4 (fun _ => []) ?_ ?_ ?_
  rotate_left
  · skip
    exact fun i hi => famLs_mem.2 ⟨i, hi, rfl⟩
  · skip
    intro i hi
    exact Go.Ab.evT
  repeat (refine AW_seq ?_)
  refine AW_block ?_
  refine AW_loops (ι := Nat × (Nat → List St)) (fun z => ⟨lk [(5, .own (10, 0) n), (10, .c (.sl (l.map edPV))), (11, .c (iPV l.length)), (12, .c (iPV z.1))], lkM ([((10, 0), some ⟨44, 1, List.replicate n .hole, true, famLs 1000 0 n (fun v => (z.2 v).map stPV), none⟩)] ++ famL 1000 0 (n) 47 4 (fun v => (z.2 v).map stPV)), lkG [] 1⟩) (fun z => z.1 ≤ l.length ∧ z.2 = fun v => arnd (l.take z.1) v) (fun z => l.length - z.1) (0, fun _ => []) ⟨Nat.zero_le _, rfl⟩ wkF ?_
  rintro ⟨i, R⟩ ⟨hi, hR⟩
  simp only at hi hR
  have bR : ∀ v, (R v).length ≤ 2 * i := fun v => by
    rw [hR]
    have := arnd_len v (l.take i)
    rw [List.length_take] at this
    show (arnd (l.take i) v).length ≤ _
    omega
  obtain ⟨hR, -⟩ : Go.RowKit.Hid (R = fun v => arnd (l.take i) v) ∧ True := ⟨hR, trivial⟩
  rename_i hR0
  clear hR0
  obtain ⟨bR, -⟩ : Go.RowKit.Hid (∀ v, (R v).length ≤ 2 * i) ∧ True := ⟨bR, trivial⟩
  rename_i bR0
  clear bR0
  repeat (refine AW_seq ?_)
  refine reg ?_
  refine run 1 ?_
  refine finF [5, 10, 11, 12, 13] [] (10, 0) 1000 0 (n) 47 4 (fun v => (R v).map stPV) ?_ ?_ ?_
  rotate_left
  · skip
    exact fun i hi => famLs_mem.2 ⟨i, hi, rfl⟩
  · skip
    intro i hi
    exact Go.Ab.evT
  repeat (refine AW_seq ?_)
  refine tst (fun h1 => ?_) (fun h1 => ?_)
  · simp at h1
    obtain ⟨x, hx, gx⟩ := getD_at h1
    obtain ⟨xu, xv, xt⟩ := x
    have hb := hm.out _ (List.mem_of_getElem? hx)
    unfold EdIn at hb
    simp only at hb
    obtain ⟨u, rfl⟩ : ∃ k : Nat, xu = k := ⟨xu.toNat, by omega⟩
    obtain ⟨v, rfl⟩ : ∃ k : Nat, xv = k := ⟨xv.toNat, by omega⟩
    have hu : u < n := by omega
    have hv : v < n := by omega
    clear hb
    have bu := bR.out u
    obtain ⟨R1, eR1⟩ : ∃ Q, snoc R u (⟨⟨u, v, xt⟩, v⟩ : St) = Q := ⟨_, rfl⟩
    have hR1 : R1 u = R u ++ [⟨⟨u, v, xt⟩, v⟩] ∧ ∀ i, i ≠ u → R1 i = R i := by rw [← eR1]; exact ⟨snoc_at _ _ _, fun i h => snoc_ne h⟩
    have mR1 : (R u).map stPV ++ [PV.agg [PV.v (.int .i64 (u : Int)), PV.v (.int .i64 (v : Int)), PV.v (.int .i64 xt), PV.v (.int .i64 (v : Int))]] = (R1 u).map stPV := by rw [hR1.1, List.map_append]; rfl
    have lR1 : (R1 u).length = (R u).length + 1 := by rw [hR1.1, List.length_append]; rfl
    obtain ⟨hR1, -⟩ : Go.RowKit.Hid (R1 u = R u ++ [(⟨⟨u, v, xt⟩, v⟩ : St)] ∧ ∀ i, i ≠ u → R1 i = R i) ∧ True := ⟨hR1, trivial⟩
    rename_i hR10
    clear hR10
    have bv : (R1 v).length ≤ 2 * i + 1 := by
      rw [← eR1]; unfold snoc; have := bR.out v; split
      · rw [List.length_append, List.length_singleton]; omega
      · omega
    obtain ⟨R2, eR2⟩ : ∃ Q, snoc R1 v (⟨⟨u, v, xt⟩, u⟩ : St) = Q := ⟨_, rfl⟩
    have hR2 : R2 v = R1 v ++ [⟨⟨u, v, xt⟩, u⟩] ∧ ∀ i, i ≠ v → R2 i = R1 i := by rw [← eR2]; exact ⟨snoc_at _ _ _, fun i h => snoc_ne h⟩
    have mR2 : (R1 v).map stPV ++ [PV.agg [PV.v (.int .i64 (u : Int)), PV.v (.int .i64 (v : Int)), PV.v (.int .i64 xt), PV.v (.int .i64 (u : Int))]] = (R2 v).map stPV := by rw [hR2.1, List.map_append]; rfl
    have lR2 : (R2 v).length = (R1 v).length + 1 := by rw [hR2.1, List.length_append]; rfl
    obtain ⟨hR2, -⟩ : Go.RowKit.Hid (R2 v = R1 v ++ [(⟨⟨u, v, xt⟩, u⟩ : St)] ∧ ∀ i, i ≠ v → R2 i = R1 i) ∧ True := ⟨hR2, trivial⟩
    rename_i hR20
    clear hR20
    obtain ⟨eR1, -⟩ : Go.RowKit.Hid (snoc R u ⟨⟨u, v, xt⟩, v⟩ = R1) ∧ True := ⟨eR1, trivial⟩
    rename_i eR10
    clear eR10
    obtain ⟨eR2, -⟩ : Go.RowKit.Hid (snoc R1 v ⟨⟨u, v, xt⟩, u⟩ = R2) ∧ True := ⟨eR2, trivial⟩
    rename_i eR20
    clear eR20
    refine AW_skip ?_
    repeat (refine AW_seq ?_)
    refine AW_block ?_
    repeat (refine AW_seq ?_)
    refine reg ?_
    refine run 2 ?_
    refine run 2 ?_
    refine finF [5, 7, 10, 11, 12] [(8, 1)] (10, 0) 1000 0 (n) 47 4 (fun v => (R v).map stPV) ?_ ?_ ?_
    rotate_left
    · skip
      exact fun i hi => famLs_mem.2 ⟨i, hi, rfl⟩
    · skip
      intro i hi
      exact Go.Ab.evT
    repeat (refine AW_seq ?_)
    refine reg ?_
    refine run 2 ?_
    refine run 2 ?_
    refine run 2 ?_
    refine run 2 ?_
    refine run 2 ?_
    refine run 2 ?_
    refine run 2 ?_
    refine run 2 ?_
    refine finF [5, 7, 10, 11, 12] [(8, 1)] (10, 0) 1000 0 (n) 47 4 (fun v => (R1 v).map stPV) ?_ ?_ ?_
    rotate_left
    · skip
      exact famLs_up (fun i h => by show (R1 i).map stPV = (R i).map stPV; rw [hR1.out.2 i h]) (by show ((R1 u).map stPV).length = _; rw [List.length_map, hR1.out.1, List.length_append]; rfl)
    · skip
      intro i hi
      by_cases e : i = u
      · rw [e]; exact Go.Ab.evT
      · have e2 := hR1.out.2 i e
        exact Go.Ab.evT
    repeat (refine AW_seq ?_)
    refine reg ?_
    refine run 2 ?_
    refine run 2 ?_
    refine run 2 ?_
    refine run 2 ?_
    refine run 2 ?_
    refine run 2 ?_
    refine run 2 ?_
    refine run 2 ?_
    refine finN ?_
    refine kpF [5, 10, 11, 12] [] (10, 0) 1000 0 (n) 47 4 (fun v => (R2 v).map stPV) ?_ ?_ ?_
    rotate_left
    · skip
      exact famLs_up (fun i h => by show (R2 i).map stPV = (R1 i).map stPV; rw [hR2.out.2 i h]) (by show ((R2 v).map stPV).length = _; rw [List.length_map, hR2.out.1, List.length_append]; rfl)
    · skip
      intro i hi
      by_cases e : i = v
      · rw [e]; exact Go.Ab.evT
      · have e2 := hR2.out.2 i e
        exact Go.Ab.evT
    repeat (refine AW_seq ?_)
    refine reg ?_
    refine run 2 ?_
    refine finN ?_
    exact ⟨(i + 1, R2), by show l.length - (i + 1) < l.length - i; omega, ⟨by show i + 1 ≤ _; omega, by
      show R2 = fun v => arnd (l.take (i + 1)) v
      funext w
      rw [← eR2.out, ← eR1.out, snoc_two, arnd_next hx, hR.out]⟩, wkF⟩
  · simp at h1
    refine AW_exit ?_
    repeat (refine AW_seq ?_)
    refine frzF (10, 0) (lm := [((10, 0), some _)]) ?_
    refine reg ?_
    refine run 2 ?_
    refine fin [4] [(10, 0)] ?_
    refine AW_ret (retF ?_)
    have e1 : i = l.length := by omega
    have e2 : (List.range n).map (fun i => PV.sl ((R i).map stPV)) = (aroundR n l).map srPV := by
      unfold aroundR; rw [List.map_map]
      refine List.map_congr_left fun v _ => ?_
      rw [hR.out, e1, List.take_length]; rfl
    rw [e2]

end Go.Proofs.Ytlhgjaogpeoaeaa