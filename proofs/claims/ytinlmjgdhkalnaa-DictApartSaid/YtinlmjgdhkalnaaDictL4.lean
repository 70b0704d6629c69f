/-
  The law DictTells on plain data.
  Conditions: numbers are those of their kinds.
-/
import Derived.Test.YtinlmjgdhkalnaaDictL
namespace Go.Proofs.Ytinlmjgdhkalnaa
open Go Go.Ab
set_option linter.unusedVariables false
set_option linter.unusedSimpArgs false

theorem ht_pos (t : Tr Pr) : decide (0 < (t.ht : Int)) = decide (0 < (t.cnt : Int)) := by
  cases t with
  | nil => rfl
  | node a x b => simp only [Tr.ht, Tr.cnt]; congr 1; simp only [eq_iff_iff]; omega
theorem ht_small {t : Tr Pr} (h : t.bal) (hc : t.cnt ≤ 60) : t.ht ≤ 60 := by
  rcases Nat.lt_or_ge 60 t.ht with h1 | h1
  · have h2 := Tr.least_le t h
    have h3 : Tr.least 11 ≤ Tr.least t.ht := Tr.least_mono (by omega)
    have h4 : Tr.least 11 = 232 := by simp [Tr.least]
    omega
  · exact h1

set_option maxHeartbeats 8000000 in
theorem dictTells_any (acts : List Act) (k : Int) : ACalls Try.prog 3 [.sl (acts.map actPV), uPV k] (bPV true) := by
  refine ent Try.func3 ?_
  repeat (refine AW_seq ?_)
  refine reg ?_
  refine run 1 ?_
  refine fin [0, 1] [] ?_
  repeat (refine AW_seq ?_)
  refine reg ?_
  refine run 2 ?_
  refine run 1 ?_
  refine fin [0, 1, 24] [] ?_
  repeat (refine AW_seq ?_)
  refine tst (fun h1 => ?_) (fun h1 => ?_)
  · simp at h1
    repeat (refine AW_seq ?_)
    refine reg ?_
    refine call (fun _ => awake_true) ?_
    refine run 1 ?_
    refine fin [4] [] ?_
    refine AW_ret (ret ?_)
    rfl
  · simp at h1
    have hlen : acts.length ≤ 60 := by omega
    clear h1
    refine AW_skip ?_
    repeat (refine AW_seq ?_)
    refine reg ?_
    refine run 1 ?_
    refine fin [0, 1, 5] [(6, 0)] ?_
    repeat (refine AW_seq ?_)
    refine reg ?_
    refine run 1 ?_
    refine fin [0, 1, 5, 6] [(6, 0)] ?_
    refine dat 6 ?_
    repeat (refine AW_seq ?_)
    refine reg ?_
    refine run 2 ?_
    refine run 1 ?_
    refine fin [1, 5, 6, 26, 27, 28] [(6, 0)] ?_
    repeat (refine AW_seq ?_)
    refine AW_block ?_
    refine AW_loops (ι := Nat × Tr Pr × List Pr) (fun z => ⟨lk [(1, .c (uPV k)), (5, .ptr (6, 0) 1 0 0), (6, .c (.sl (z.2.2.map pPV))), (26, .c (.sl (acts.map actPV))), (27, .c (iPV acts.length)), (28, .c (iPV z.1))], lkM [((6, 0), some ⟨27, 1, [.agg [sqPV z.2.1]], true, []⟩)], lkG [] 1⟩) (fun z => z.1 ≤ acts.length ∧ DOk z.2.1 z.2.2 ∧ z.2.2.length ≤ z.1) (fun z => acts.length - z.1) (0, .nil, []) ⟨Nat.zero_le _, DOk.nil, Nat.le_refl _⟩ wk ?_
    rintro ⟨i, t, l⟩ ⟨hi, hD, hll⟩
    simp only at hi hD hll
    repeat (refine AW_seq ?_)
    refine reg ?_
    refine run 1 ?_
    refine fin [1, 5, 6, 26, 27, 28, 29] [(6, 0)] ?_
    repeat (refine AW_seq ?_)
    refine tst (fun h2 => ?_) (fun h2 => ?_)
    · simp at h2
      have hi' : i < acts.length := by omega
      obtain ⟨a, ha⟩ : ∃ a, acts.getD i default = a := ⟨_, rfl⟩
      refine AW_skip ?_
      repeat (refine AW_seq ?_)
      refine AW_block ?_
      repeat (refine AW_seq ?_)
      refine reg ?_
      refine run 2 ?_
      refine run 2 ?_
      refine fin [1, 5, 6, 8, 26, 27, 28] [(6, 0), (9, 1)] ?_
      repeat (refine AW_seq ?_)
      refine reg ?_
      refine run 2 ?_
      refine run 2 ?_
      refine run 1 ?_
      refine fin [1, 5, 6, 8, 9, 10, 26, 27, 28] [(6, 0), (9, 1), (10, 1)] ?_
      repeat (refine AW_seq ?_)
      refine reg ?_
      refine run 2 ?_
      refine fin [1, 5, 6, 8, 9, 10, 26, 27, 28, 35] [(6, 0), (9, 1), (10, 1)] ?_
      repeat (refine AW_seq ?_)
      refine tst (fun h3 => ?_) (fun h3 => ?_)
      · skip
        have hg0 := getR_any l a.key (by omega)
        have hdl := hD.cDel (by omega) a.key
        have hdr := delR_any l a.key (by omega)
        have D2 := hD.del a.key
        have hl2 := delL_len l a.key
        obtain ⟨t2, ht2⟩ : ∃ t2, delT t a.key = t2 := ⟨_, rfl⟩
        obtain ⟨l2, hl2e⟩ : ∃ l2, delL l a.key = l2 := ⟨_, rfl⟩
        rw [ht2] at hdl D2
        rw [hl2e] at hdr D2 hl2
        clear ht2 hl2e
        obtain ⟨O, hO⟩ : ∃ O, (getL l a.key).isSome = O := ⟨_, rfl⟩
        obtain ⟨V, hV⟩ : ∃ V, (getL l a.key).getD 0 = V := ⟨_, rfl⟩
        rw [gotPV, hO, hV] at hg0
        rw [hO] at hdl
        clear hO hV
        have cp2 := D2.cPairs (by omega)
        have cp1 := hD.cPairs (by omega)
        have cr2 := refs_any l2 (by omega)
        have cr1 := refs_any l (by omega)
        have cs2 := same_any l2 (by omega)
        have cs1 := same_any l (by omega)
        have cm := D2.cMany
        have ch := height_any t2
        have hs := ht_small D2.bal (by rw [D2.cnt]; omega)
        have hlt := Tr.least_le t2 D2.bal
        have hpos := ht_pos t2
        rw [D2.cnt] at hlt hpos
        have cle := least_any t2.ht hs
        obtain ⟨H, hH⟩ : ∃ H, t2.ht = H := ⟨_, rfl⟩
        rw [hH] at ch hs hlt hpos cle
        clear hH
        obtain ⟨LE, hLE⟩ : ∃ LE, Tr.least H = LE := ⟨_, rfl⟩
        rw [hLE] at hlt cle
        clear hLE
        have f1 : ¬ ((H : Int) < 0) := by omega
        have f2 : ¬ (60 < (H : Int)) := by omega
        have f3 : ¬ ((l2.length : Int) < (LE : Int)) := by omega
        obtain ⟨K2, hK2⟩ : ∃ K2, [k, a.key] = K2 := ⟨_, rfl⟩
        have mK2 : [PV.v (.int .u64 k), PV.v (.int .u64 a.key)] = K2.map uPV := by rw [← hK2]; rfl
        have lK2 : K2.length = 2 := by rw [← hK2]; rfl
        clear hK2
        repeat (refine AW_seq ?_)
        refine reg ?_
        refine run 2 ?_
        refine run 1 ?_
        refine call (fun _ => hg0) ?_
        refine run 2 ?_
        refine run 2 ?_
        refine run 1 ?_
        refine fin [1, 5, 6, 8, 9, 10, 12, 26, 27, 28] [(6, 0), (9, 1), (10, 1)] ?_
        repeat (refine AW_seq ?_)
        refine reg ?_
        refine run 2 ?_
        refine run 1 ?_
        refine call (fun _ => hdl) ?_
        refine run 2 ?_
        refine run 2 ?_
        refine run 2 ?_
        refine fin [1, 5, 6, 8, 9, 10, 12, 13, 14, 26, 27, 28] [(6, 0), (9, 1), (10, 1), (14, 1)] ?_
        repeat (refine AW_seq ?_)
        refine reg ?_
        refine run 2 ?_
        refine run 1 ?_
        refine fin [1, 5, 6, 8, 9, 10, 13, 26, 27, 28, 52] [(6, 0), (9, 1), (10, 1), (14, 1)] ?_
        repeat (refine AW_seq ?_)
        refine tstF ?_
        refine AW_skip ?_
        repeat (refine AW_seq ?_)
        refine reg ?_
        refine run 2 ?_
        refine run 2 ?_
        refine call (fun _ => hdr) ?_
        refine run 2 ?_
        refine fin [1, 5, 6, 8, 9, 10, 26, 27, 28] [(6, 0), (9, 1), (10, 1)] ?_
        repeat (refine AW_seq ?_)
        refine reg ?_
        refine run 1 ?_
        refine call (fun _ => cp2) ?_
        refine call (fun _ => cr2) ?_
        refine run 1 ?_
        refine call (fun _ => cs2) ?_
        refine run 2 ?_
        refine run 1 ?_
        refine call (fun _ => cp1) ?_
        refine call (fun _ => cr1) ?_
        refine run 1 ?_
        refine call (fun _ => cs1) ?_
        refine run 2 ?_
        refine run 2 ?_
        refine call (fun _ => cm) ?_
        refine run 2 ?_
        refine run 2 ?_
        refine fin [1, 5, 6, 8, 26, 27, 28, 90] [(6, 0), (9, 1)] ?_
        repeat (refine AW_seq ?_)
        refine tstF ?_
        refine AW_skip ?_
        repeat (refine AW_seq ?_)
        refine reg ?_
        refine run 2 ?_
        refine run 2 ?_
        refine run 2 ?_
        refine fin [1, 5, 6, 26, 27, 28, 94, 95, 96] [(6, 0), (95, 1)] ?_
        repeat (refine AW_seq ?_)
        refine AW_block ?_
        refine AW_loops (ι := Nat) (fun j => ⟨lk [(1, .c (uPV k)), (5, .ptr (6, 0) 1 0 0), (6, .c (.sl (l2.map pPV))), (26, .c (.sl (acts.map actPV))), (27, .c (iPV acts.length)), (28, .c (iPV i)), (94, .own (95, 1) 2), (95, .c (iPV 2)), (96, .c (iPV j))], lkM [((6, 0), some ⟨27, 1, [.agg [sqPV t2]], true, []⟩), ((95, 1), some ⟨23, 1, K2.map uPV, false, []⟩)], lkG [] 2⟩) (fun j => j ≤ 2) (fun j => 2 - j) 0 (Nat.zero_le _) wk ?_
        rintro j hj
        repeat (refine AW_seq ?_)
        refine reg ?_
        refine run 1 ?_
        refine fin [1, 5, 6, 26, 27, 28, 94, 95, 96, 97] [(6, 0), (95, 1)] ?_
        repeat (refine AW_seq ?_)
        refine tst (fun h6 => ?_) (fun h6 => ?_)
        · simp at h6
          have hj' : j < 2 := by omega
          obtain ⟨y, hy⟩ : ∃ y, K2.getD j default = y := ⟨_, rfl⟩
          have cg := D2.cGet (by omega) y
          have hgk := getR_any l2 y (by omega)
          have cf := D2.cFrom (by omega) y
          have cl := lessR_any l2 y (by omega)
          obtain ⟨O2, hO2⟩ : ∃ O2, (getL l2 y).isSome = O2 := ⟨_, rfl⟩
          obtain ⟨V2, hV2⟩ : ∃ V2, (getL l2 y).getD 0 = V2 := ⟨_, rfl⟩
          rw [gotPV, hO2, hV2] at cg hgk
          clear hO2 hV2
          obtain ⟨W, hW⟩ : ∃ W, (lo l2 y).length = W := ⟨_, rfl⟩
          rw [hW] at cf cl
          clear hW
          refine AW_skip ?_
          repeat (refine AW_seq ?_)
          refine AW_block ?_
          repeat (refine AW_seq ?_)
          refine reg ?_
          refine run 2 ?_
          refine run 1 ?_
          refine fin [1, 5, 6, 16, 26, 27, 28, 94, 95, 96] [(6, 0), (95, 1)] ?_
          repeat (refine AW_seq ?_)
          refine reg ?_
          refine run 2 ?_
          refine call (fun _ => cg) ?_
          refine run 2 ?_
          refine run 2 ?_
          refine run 1 ?_
          refine fin [1, 5, 6, 16, 17, 18, 26, 27, 28, 94, 95, 96] [(6, 0), (95, 1)] ?_
          repeat (refine AW_seq ?_)
          refine reg ?_
          refine run 2 ?_
          refine call (fun _ => hgk) ?_
          refine run 2 ?_
          refine run 2 ?_
          refine run 1 ?_
          refine fin [1, 5, 6, 16, 17, 18, 19, 20, 26, 27, 28, 94, 95, 96] [(6, 0), (95, 1)] ?_
          repeat (refine AW_seq ?_)
          refine reg ?_
          refine run 2 ?_
          refine run 2 ?_
          refine run 2 ?_
          refine run 2 ?_
          refine run 2 ?_
          refine run 1 ?_
          refine call (fun _ => cf) ?_
          refine run 2 ?_
          refine call (fun _ => cl) ?_
          refine run 2 ?_
          refine fin [1, 5, 6, 26, 27, 28, 94, 95, 96, 128] [(6, 0), (95, 1)] ?_
          repeat (refine AW_seq ?_)
          refine tstF ?_
          refine AW_skip ?_
          repeat (refine AW_seq ?_)
          refine reg ?_
          refine run 2 ?_
          refine finN ?_
          exact ⟨j + 1, by omega, by omega, wk⟩
        · simp at h6
          clear mK2
          refine AW_exit ?_
          repeat (refine AW_seq ?_)
          refine reg ?_
          refine run 1 ?_
          refine call (fun _ => ch) ?_
          refine run 1 ?_
          refine fin [1, 5, 6, 21, 26, 27, 28] [(6, 0)] ?_
          repeat (refine AW_seq ?_)
          refine reg ?_
          refine run 2 ?_
          refine run 2 ?_
          refine run 2 ?_
          refine run 2 ?_
          refine call (fun _ => cle) ?_
          refine run 2 ?_
          refine run 2 ?_
          refine run 2 ?_
          refine run 2 ?_
          refine run 2 ?_
          refine run 2 ?_
          refine fin [1, 5, 6, 26, 27, 28, 152] [(6, 0)] ?_
          repeat (refine AW_seq ?_)
          refine tstF ?_
          refine AW_skip ?_
          repeat (refine AW_seq ?_)
          refine reg ?_
          refine run 2 ?_
          refine finN ?_
          exact ⟨(i + 1, t2, l2), by show acts.length - (i + 1) < acts.length - i; omega, ⟨by show i + 1 ≤ _; omega, D2, by show l2.length ≤ i + 1; omega⟩, wk⟩
      · skip
        have hdl := hD.cPut (by omega) a.key a.n
        have hdr := putR_any l a.key a.n (by omega)
        rw [putR_is hD.inc] at hdr
        have D2 := hD.put a.key a.n
        have hl2 := putL_len l a.key a.n
        obtain ⟨t2, ht2⟩ : ∃ t2, putT t a.key a.n = t2 := ⟨_, rfl⟩
        obtain ⟨l2, hl2e⟩ : ∃ l2, putL l a.key a.n = l2 := ⟨_, rfl⟩
        rw [ht2] at hdl D2
        rw [hl2e] at hdr D2 hl2
        clear ht2 hl2e
        have cp2 := D2.cPairs (by omega)
        have cp1 := hD.cPairs (by omega)
        have cr2 := refs_any l2 (by omega)
        have cr1 := refs_any l (by omega)
        have cs2 := same_any l2 (by omega)
        have cs1 := same_any l (by omega)
        have cm := D2.cMany
        have ch := height_any t2
        have hs := ht_small D2.bal (by rw [D2.cnt]; omega)
        have hlt := Tr.least_le t2 D2.bal
        have hpos := ht_pos t2
        rw [D2.cnt] at hlt hpos
        have cle := least_any t2.ht hs
        obtain ⟨H, hH⟩ : ∃ H, t2.ht = H := ⟨_, rfl⟩
        rw [hH] at ch hs hlt hpos cle
        clear hH
        obtain ⟨LE, hLE⟩ : ∃ LE, Tr.least H = LE := ⟨_, rfl⟩
        rw [hLE] at hlt cle
        clear hLE
        have f1 : ¬ ((H : Int) < 0) := by omega
        have f2 : ¬ (60 < (H : Int)) := by omega
        have f3 : ¬ ((l2.length : Int) < (LE : Int)) := by omega
        obtain ⟨K2, hK2⟩ : ∃ K2, [k, a.key] = K2 := ⟨_, rfl⟩
        have mK2 : [PV.v (.int .u64 k), PV.v (.int .u64 a.key)] = K2.map uPV := by rw [← hK2]; rfl
        have lK2 : K2.length = 2 := by rw [← hK2]; rfl
        clear hK2
        repeat (refine AW_seq ?_)
        refine reg ?_
        refine run 2 ?_
        refine run 2 ?_
        refine run 1 ?_
        refine call (fun _ => hdl) ?_
        refine run 2 ?_
        refine run 2 ?_
        refine run 1 ?_
        refine call (fun _ => hdr) ?_
        refine run 2 ?_
        refine fin [1, 5, 6, 8, 9, 10, 26, 27, 28] [(6, 0), (9, 1), (10, 1)] ?_
        repeat (refine AW_seq ?_)
        refine reg ?_
        refine run 1 ?_
        refine call (fun _ => cp2) ?_
        refine call (fun _ => cr2) ?_
        refine run 1 ?_
        refine call (fun _ => cs2) ?_
        refine run 2 ?_
        refine run 1 ?_
        refine call (fun _ => cp1) ?_
        refine call (fun _ => cr1) ?_
        refine run 1 ?_
        refine call (fun _ => cs1) ?_
        refine run 2 ?_
        refine run 2 ?_
        refine call (fun _ => cm) ?_
        refine run 2 ?_
        refine run 2 ?_
        refine fin [1, 5, 6, 8, 26, 27, 28, 90] [(6, 0), (9, 1)] ?_
        repeat (refine AW_seq ?_)
        refine tstF ?_
        refine AW_skip ?_
        repeat (refine AW_seq ?_)
        refine reg ?_
        refine run 2 ?_
        refine run 2 ?_
        refine run 2 ?_
        refine fin [1, 5, 6, 26, 27, 28, 94, 95, 96] [(6, 0), (95, 1)] ?_
        repeat (refine AW_seq ?_)
        refine AW_block ?_
        refine AW_loops (ι := Nat) (fun j => ⟨lk [(1, .c (uPV k)), (5, .ptr (6, 0) 1 0 0), (6, .c (.sl (l2.map pPV))), (26, .c (.sl (acts.map actPV))), (27, .c (iPV acts.length)), (28, .c (iPV i)), (94, .own (95, 1) 2), (95, .c (iPV 2)), (96, .c (iPV j))], lkM [((6, 0), some ⟨27, 1, [.agg [sqPV t2]], true, []⟩), ((95, 1), some ⟨23, 1, K2.map uPV, false, []⟩)], lkG [] 2⟩) (fun j => j ≤ 2) (fun j => 2 - j) 0 (Nat.zero_le _) wk ?_
        rintro j hj
        repeat (refine AW_seq ?_)
        refine reg ?_
        refine run 1 ?_
        refine fin [1, 5, 6, 26, 27, 28, 94, 95, 96, 97] [(6, 0), (95, 1)] ?_
        repeat (refine AW_seq ?_)
        refine tst (fun h10 => ?_) (fun h10 => ?_)
        · simp at h10
          have hj' : j < 2 := by omega
          obtain ⟨y, hy⟩ : ∃ y, K2.getD j default = y := ⟨_, rfl⟩
          have cg := D2.cGet (by omega) y
          have hgk := getR_any l2 y (by omega)
          have cf := D2.cFrom (by omega) y
          have cl := lessR_any l2 y (by omega)
          obtain ⟨O2, hO2⟩ : ∃ O2, (getL l2 y).isSome = O2 := ⟨_, rfl⟩
          obtain ⟨V2, hV2⟩ : ∃ V2, (getL l2 y).getD 0 = V2 := ⟨_, rfl⟩
          rw [gotPV, hO2, hV2] at cg hgk
          clear hO2 hV2
          obtain ⟨W, hW⟩ : ∃ W, (lo l2 y).length = W := ⟨_, rfl⟩
          rw [hW] at cf cl
          clear hW
          refine AW_skip ?_
          repeat (refine AW_seq ?_)
          refine AW_block ?_
          repeat (refine AW_seq ?_)
          refine reg ?_
          refine run 2 ?_
          refine run 1 ?_
          refine fin [1, 5, 6, 16, 26, 27, 28, 94, 95, 96] [(6, 0), (95, 1)] ?_
          repeat (refine AW_seq ?_)
          refine reg ?_
          refine run 2 ?_
          refine call (fun _ => cg) ?_
          refine run 2 ?_
          refine run 2 ?_
          refine run 1 ?_
          refine fin [1, 5, 6, 16, 17, 18, 26, 27, 28, 94, 95, 96] [(6, 0), (95, 1)] ?_
          repeat (refine AW_seq ?_)
          refine reg ?_
          refine run 2 ?_
          refine call (fun _ => hgk) ?_
          refine run 2 ?_
          refine run 2 ?_
          refine run 1 ?_
          refine fin [1, 5, 6, 16, 17, 18, 19, 20, 26, 27, 28, 94, 95, 96] [(6, 0), (95, 1)] ?_
          repeat (refine AW_seq ?_)
          refine reg ?_
          refine run 2 ?_
          refine run 2 ?_
          refine run 2 ?_
          refine run 2 ?_
          refine run 2 ?_
          refine run 1 ?_
          refine call (fun _ => cf) ?_
          refine run 2 ?_
          refine call (fun _ => cl) ?_
          refine run 2 ?_
          refine fin [1, 5, 6, 26, 27, 28, 94, 95, 96, 128] [(6, 0), (95, 1)] ?_
          repeat (refine AW_seq ?_)
          refine tstF ?_
          refine AW_skip ?_
          repeat (refine AW_seq ?_)
          refine reg ?_
          refine run 2 ?_
          refine finN ?_
          exact ⟨j + 1, by omega, by omega, wk⟩
        · simp at h10
          clear mK2
          refine AW_exit ?_
          repeat (refine AW_seq ?_)
          refine reg ?_
          refine run 1 ?_
          refine call (fun _ => ch) ?_
          refine run 1 ?_
          refine fin [1, 5, 6, 21, 26, 27, 28] [(6, 0)] ?_
          repeat (refine AW_seq ?_)
          refine reg ?_
          refine run 2 ?_
          refine run 2 ?_
          refine run 2 ?_
          refine run 2 ?_
          refine call (fun _ => cle) ?_
          refine run 2 ?_
          refine run 2 ?_
          refine run 2 ?_
          refine run 2 ?_
          refine run 2 ?_
          refine run 2 ?_
          refine fin [1, 5, 6, 26, 27, 28, 152] [(6, 0)] ?_
          repeat (refine AW_seq ?_)
          refine tstF ?_
          refine AW_skip ?_
          repeat (refine AW_seq ?_)
          refine reg ?_
          refine run 2 ?_
          refine finN ?_
          exact ⟨(i + 1, t2, l2), by show acts.length - (i + 1) < acts.length - i; omega, ⟨by show i + 1 ≤ _; omega, D2, by show l2.length ≤ i + 1; omega⟩, wk⟩
    · simp at h2
      refine AW_exit ?_
      repeat (refine AW_seq ?_)
      refine reg ?_
      refine call (fun _ => awake_true) ?_
      refine run 1 ?_
      refine fin [4] [] ?_
      refine AW_ret (ret ?_)
      rfl

end Go.Proofs.Ytinlmjgdhkalnaa