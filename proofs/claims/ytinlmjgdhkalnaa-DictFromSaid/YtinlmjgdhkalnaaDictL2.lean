/-
  The law DictFrom on plain data.
  Conditions: numbers are those of their kinds.
-/
import Derived.Test.YtinlmjgdhkalnaaDictL
namespace Go.Proofs.Ytinlmjgdhkalnaa
open Go Go.Ab
set_option linter.unusedVariables false
set_option linter.unusedSimpArgs false

theorem getD_mem {l : List Pr} {i : Nat} {p : Pr} (hi : i < l.length) (hp : l.getD i default = p) : p ∈ l ∧ l[i] = p := by
  rw [List.getD_eq_getElem?_getD, List.getElem?_eq_getElem hi] at hp
  have e : l[i] = p := hp
  exact ⟨e ▸ List.getElem_mem hi, e⟩
/-- each number is its key's place in the list -/
def Src (keys : List Int) (i : Nat) (l : List Pr) : Prop := ∀ p ∈ l, ∃ j : Nat, p.2 = (j : Int) ∧ j < i ∧ keys.getD j default = p.1
theorem Src.put {keys : List Int} {i : Nat} {l : List Pr} (h : Src keys i l) {k : Int} (hk : keys.getD i default = k) : Src keys (i + 1) (putL l k i) := fun p hp => by
  rcases mem_put.1 hp with rfl | ⟨h1, _⟩
  · exact ⟨i, rfl, by omega, hk⟩
  · obtain ⟨j, e1, e2, e3⟩ := h p h1
    exact ⟨j, e1, by omega, e3⟩

set_option maxHeartbeats 4000000 in
theorem dictFrom_any (keys : List Int) (a b : Int) (hk0 : ∀ k ∈ keys, 0 ≤ k ∧ k ≤ 18446744073709551615) (ha0 : 0 ≤ a) (hb0 : 0 ≤ b) : ACalls Try.prog 6 [.sl (keys.map uPV), uPV a, uPV b] (bPV true) := by
  refine ent Try.func6 ?_
  obtain ⟨hk0, -⟩ : Go.RowKit.Hid (∀ k ∈ keys, 0 ≤ k ∧ k ≤ 18446744073709551615) ∧ True := ⟨hk0, trivial⟩
  rename_i hid0
  clear hid0
  repeat (refine AW_seq ?_)
  refine reg ?_
  refine run 1 ?_
  refine fin [0, 1, 2] [] ?_
  repeat (refine AW_seq ?_)
  refine reg ?_
  refine run 2 ?_
  refine run 1 ?_
  refine fin [0, 1, 2, 18] [] ?_
  repeat (refine AW_seq ?_)
  refine tst (fun h1 => ?_) (fun h1 => ?_)
  · simp at h1
    repeat (refine AW_seq ?_)
    refine reg ?_
    refine call (fun _ => awake_true) ?_
    refine run 1 ?_
    refine fin [6] [] ?_
    refine AW_ret (ret ?_)
    rfl
  · simp at h1
    have hlen : keys.length ≤ 60 := by omega
    clear h1
    refine AW_skip ?_
    repeat (refine AW_seq ?_)
    refine reg ?_
    refine run 1 ?_
    refine fin [0, 1, 2, 7] [(8, 0)] ?_
    repeat (refine AW_seq ?_)
    refine reg ?_
    refine run 2 ?_
    refine run 1 ?_
    refine fin [0, 1, 2, 7, 20, 21, 22] [(8, 0)] ?_
    repeat (refine AW_seq ?_)
    refine AW_block ?_
    refine AW_loops (ι := Nat × Tr Pr × List Pr) (fun z => ⟨lk [(0, .c (.sl (keys.map uPV))), (1, .c (uPV a)), (2, .c (uPV b)), (7, .ptr (8, 0) 1 0 0), (20, .c (.sl (keys.map uPV))), (21, .c (iPV keys.length)), (22, .c (iPV z.1))], lkM [((8, 0), some ⟨27, 1, [.agg [sqPV z.2.1]], true, []⟩)], lkG [] 1⟩) (fun z => z.1 ≤ keys.length ∧ DOk z.2.1 z.2.2 ∧ z.2.2.length ≤ z.1 ∧ Src keys z.1 z.2.2) (fun z => keys.length - z.1) (0, .nil, []) ⟨Nat.zero_le _, DOk.nil, Nat.le_refl _, fun p hp => by cases hp⟩ wk ?_
    rintro ⟨i, t, l⟩ ⟨hi, hD, hll, hS⟩
    simp only at hi hD hll hS
    obtain ⟨hS, -⟩ : Go.RowKit.Hid (Src keys i l) ∧ True := ⟨hS, trivial⟩
    rename_i hid0
    clear hid0
    repeat (refine AW_seq ?_)
    refine reg ?_
    refine run 1 ?_
    refine fin [0, 1, 2, 7, 20, 21, 22, 23] [(8, 0)] ?_
    repeat (refine AW_seq ?_)
    refine tst (fun h2 => ?_) (fun h2 => ?_)
    · simp at h2
      have hi' : i < keys.length := by omega
      obtain ⟨k, hk⟩ : ∃ k, keys.getD i default = k := ⟨_, rfl⟩
      refine AW_skip ?_
      repeat (refine AW_seq ?_)
      refine AW_block ?_
      repeat (refine AW_seq ?_)
      refine reg ?_
      refine run 2 ?_
      refine run 2 ?_
      refine run 1 ?_
      refine fin [0, 1, 2, 7, 8, 9, 20, 21, 22] [(8, 0)] ?_
      repeat (refine AW_seq ?_)
      refine reg ?_
      refine run 2 ?_
      refine run 1 ?_
      refine call (fun _ => hD.cPut (by omega) k i) ?_
      refine run 1 ?_
      refine finN ?_
      refine kp [0, 1, 2, 7, 20, 21, 22] [(8, 0)] ?_
      repeat (refine AW_seq ?_)
      refine reg ?_
      refine run 2 ?_
      refine finN ?_
      refine ⟨(i + 1, putT t k i, putL l k i), by show keys.length - (i + 1) < keys.length - i; omega, ⟨by show i + 1 ≤ _; omega, hD.put _ _, by show (putL l k i).length ≤ i + 1; have := putL_len l k i; omega, hS.out.put hk⟩, wk⟩
    · simp at h2
      obtain rfl : i = keys.length := by omega
      have cx := hD.cFrom (by omega) (if b < a then b else a)
      have cy := hD.cFrom (by omega) (if a < b then b else a)
      have cz := hD.cFrom (by omega) 0
      have cm := hD.cMany
      have cp := hD.cPairs (by omega)
      have hz : (lo l 0).length = 0 := by
        rw [List.length_eq_zero_iff, lo, List.filter_eq_nil_iff]; intro p hp
        obtain ⟨j, _, h3, h4⟩ := hS.out p hp
        have := hk0.out p.1 (by rw [← h4, List.getD_eq_getElem?_getD, List.getElem?_eq_getElem h3]; exact List.getElem_mem h3)
        have := this.1; simp; omega
      rw [hz] at cz
      have hxy : (lo l (if b < a then b else a)).length ≤ (lo l (if a < b then b else a)).length := lo_mono l (by split <;> split <;> omega)
      have hym := lo_len l (if a < b then b else a)
      obtain ⟨X, hX⟩ : ∃ X, (lo l (if b < a then b else a)).length = X := ⟨_, rfl⟩
      obtain ⟨Y, hY⟩ : ∃ Y, (lo l (if a < b then b else a)).length = Y := ⟨_, rfl⟩
      rw [hX] at cx hxy
      rw [hY] at cy hxy hym
      clear hX hY hz
      have f1 : ¬ ((Y : Int) < (X : Int)) := by omega
      have f2 : ¬ ((l.length : Int) < (Y : Int)) := by omega
      replace cz : ACalls Try.prog 19 [.agg [sqPV t], uPV 0] (iPV 0) := cz
      refine AW_exit ?_
      repeat (refine AW_seq ?_)
      refine reg ?_
      refine run 2 ?_
      refine run 2 ?_
      refine run 2 ?_
      refine run 2 ?_
      refine fin [0, 7, 10, 11] [(8, 0)] ?_
      repeat (refine AW_seq ?_)
      refine reg ?_
      refine run 2 ?_
      refine call (fun _ => cx) ?_
      refine run 2 ?_
      refine call (fun _ => cy) ?_
      refine run 2 ?_
      refine run 2 ?_
      refine call (fun _ => cy) ?_
      refine run 1 ?_
      refine call (fun _ => cm) ?_
      refine run 2 ?_
      refine run 2 ?_
      refine call (fun _ => cz) ?_
      refine run 2 ?_
      refine fin [0, 7, 57] [(8, 0)] ?_
      repeat (refine AW_seq ?_)
      refine tstF ?_
      refine AW_skip ?_
      repeat (refine AW_seq ?_)
      refine reg ?_
      refine run 1 ?_
      refine call (fun _ => cp) ?_
      refine run 2 ?_
      refine fin [0, 7, 59, 60, 61] [(8, 0)] ?_
      repeat (refine AW_seq ?_)
      refine AW_block ?_
      refine AW_loops (ι := Nat) (fun e => ⟨lk [(0, .c (.sl (keys.map uPV))), (7, .ptr (8, 0) 1 0 0), (59, .c (.sl (l.map pPV))), (60, .c (iPV l.length)), (61, .c (iPV e))], lkM [((8, 0), some ⟨27, 1, [.agg [sqPV t]], true, []⟩)], lkG [] 1⟩) (fun e => e ≤ l.length) (fun e => l.length - e) 0 (Nat.zero_le _) wk ?_
      rintro e he
      repeat (refine AW_seq ?_)
      refine reg ?_
      refine run 1 ?_
      refine fin [0, 7, 59, 60, 61, 62] [(8, 0)] ?_
      repeat (refine AW_seq ?_)
      refine tst (fun h4 => ?_) (fun h4 => ?_)
      · simp at h4
        have he' : e < l.length := by omega
        obtain ⟨p, hp⟩ : ∃ p, l.getD e default = p := ⟨_, rfl⟩
        obtain ⟨hpm, hpe⟩ := getD_mem he' hp
        have cg := hD.cGet (by omega) p.1
        rw [(getL_some hD.inc).2 (show (p.1, p.2) ∈ l from hpm)] at cg
        replace cg : ACalls Try.prog 18 [.agg [sqPV t], uPV p.1] (.tup [iPV p.2, bPV true]) := cg
        have cf := hD.cFrom (by omega) p.1
        have hat := lo_at hD.inc e he'
        rw [hpe] at hat
        rw [hat] at cf
        obtain ⟨j, hj1, hj2, hj3⟩ := hS.out p hpm
        clear hat hpe hpm
        have f3 : ¬ ((j : Int) < 0) := by omega
        have f4 : ¬ ((keys.length : Int) ≤ (j : Int)) := by omega
        refine AW_skip ?_
        repeat (refine AW_seq ?_)
        refine AW_block ?_
        repeat (refine AW_seq ?_)
        refine reg ?_
        refine run 2 ?_
        refine run 2 ?_
        refine run 2 ?_
        refine fin [0, 7, 12, 13, 59, 60, 61] [(8, 0), (14, 1)] ?_
        repeat (refine AW_seq ?_)
        refine reg ?_
        refine run 2 ?_
        refine run 1 ?_
        refine call (fun _ => cg) ?_
        refine run 2 ?_
        refine run 2 ?_
        refine run 1 ?_
        refine fin [0, 7, 12, 13, 14, 15, 59, 60, 61] [(8, 0), (14, 1)] ?_
        repeat (refine AW_seq ?_)
        refine reg ?_
        refine run 2 ?_
        refine run 1 ?_
        refine call (fun _ => cf) ?_
        refine run 2 ?_
        refine run 2 ?_
        refine run 2 ?_
        refine run 2 ?_
        refine run 2 ?_
        refine run 2 ?_
        refine run 2 ?_
        refine run 2 ?_
        refine run 2 ?_
        refine run 2 ?_
        refine run 2 ?_
        refine run 2 ?_
        refine run 2 ?_
        refine run 2 ?_
        refine run 2 ?_
        refine run 1 ?_
        refine fin [0, 7, 59, 60, 61, 107] [(8, 0)] ?_
        repeat (refine AW_seq ?_)
        refine tstF ?_
        refine AW_skip ?_
        repeat (refine AW_seq ?_)
        refine reg ?_
        refine run 2 ?_
        refine finN ?_
        exact ⟨e + 1, by omega, by omega, wk⟩
      · simp at h4
        refine AW_exit ?_
        repeat (refine AW_seq ?_)
        refine reg ?_
        refine call (fun _ => awake_true) ?_
        refine run 1 ?_
        refine fin [6] [] ?_
        refine AW_ret (ret ?_)
        rfl

end Go.Proofs.Ytinlmjgdhkalnaa