/-
  Contracts of the layer tour on plain data: turning, linking, cutting.
  Conditions: not too many places.
-/
import Derived.Test.YteflkffebekjdaaTourV
namespace Go.Proofs.Yteflkffebekjdaa
open Go Go.Ab
set_option linter.unusedVariables false
set_option linter.unusedSimpArgs false

def pcT (s : Tr Int) (f e : Int) : Tr Int := ((s.split e).1.split f).2
theorem pcT_list (s : Tr Int) (f e : Int) : (pcT s f e).list = (s.list.take e.toNat).drop f.toNat := by
  rw [pcT, (Tr.split_list _ _).2, (Tr.split_list _ _).1]
theorem pcT_cnt (s : Tr Int) (f e : Int) : (pcT s f e).cnt ≤ s.cnt := by
  rw [← Tr.list_len, ← Tr.list_len, pcT_list, List.length_drop, List.length_take]; omega
def frT (t : List Int) (v : Int) : Tr Int := (pcT (Tr.ofL t) (idx t v) t.length).join (pcT (Tr.ofL t) 1 ((idx t v : Int) + 1))
theorem frT_list (t : List Int) (v : Int) : (frT t v).list = frm t v := by
  rw [frT, Tr.join_list, pcT_list, pcT_list, Tr.ofL_list, frm, rot, show ((idx t v : Int) + 1).toNat = idx t v + 1 by omega, Int.toNat_natCast, Int.toNat_natCast, List.take_length]; rfl
theorem frT_cnt {t : List Int} {v : Int} (h : v ∈ t) : (frT t v).cnt = t.length := by
  rw [← Tr.list_len, frT_list, frm, rot_len (idx_lt h)]
def rrR (t : List Int) (v : Int) : List Int × Int := if isT t = false then ([], 1) else if decide (v ∈ t) = false then ([], 3) else (frm t v, 0)
def rrPV (t : List Int) (v : Int) : PV := .tup [.sl ((rrR t v).1.map iPV), iPV (rrR t v).2]
def linkR (a b : List Int) (u v : Int) : List Int × Int :=
  if (isT a && isT b) = false then ([], 1) else if (decide (u ∈ a) && decide (v ∈ b)) = false then ([], 3) else if (b.any fun x => decide (x ∈ a)) = true then ([], 4) else (frm a u ++ frm b v ++ [u], 0)
def linkPV (a b : List Int) (u v : Int) : PV := .tup [.sl ((linkR a b u v).1.map iPV), iPV (linkR a b u v).2]
/-- a root's edge, cut by its places -/
def cutL (s : List Int) (v : Int) : List Int × List Int := (s.take (idx s v) ++ s.drop ((lst 0 s v s.length).toNat + 2), (s.take ((lst 0 s v s.length).toNat + 1)).drop (idx s v))
def cutR (t : List Int) (u v : Int) : (List Int × List Int) × Int :=
  if isT t = false then (([], []), 1) else if decide (ed u v ∈ edges t) = false then (([], []), 3) else (cutL (frm t u) v, 0)
def cutPV (t : List Int) (u v : Int) : PV := .tup [.sl ((cutR t u v).1.1.map iPV), .sl ((cutR t u v).1.2.map iPV), iPV (cutR t u v).2]
theorem lst0 {l : List Int} {v : Int} : ∀ n, ∃ k : Nat, lst 0 l v n = k ∧ (k < n ∨ k = 0)
  | 0 => ⟨0, rfl, .inr rfl⟩
  | n + 1 => by
    simp only [lst]
    split
    · exact ⟨n, rfl, .inl (Nat.lt_succ_self _)⟩
    · obtain ⟨k, h1, h2⟩ := @lst0 l v n; exact ⟨k, h1, by omega⟩
theorem lst_zero {d : Int} {l : List Int} {v : Int} : lst d l v 0 = d := rfl

theorem piece_any (s : Tr Int) (f e : Int) (hc : s.cnt < 1152921504606846976) : ACalls Try.prog 33 [sqPV s, iPV f, iPV e] (sqPV (pcT s f e)) := by
  refine ent Try.func33 ?_
  have h1 := split_any s e hc
  unfold splitPV at h1
  have hk := Tr.split_cnt s e
  have h2 := split_any (s.split e).1 f (by omega)
  unfold splitPV at h2
  rw [show ((s.split e).1.split f).2 = pcT s f e from rfl] at h2
  obtain ⟨p, ep⟩ : ∃ k, pcT s f e = k := ⟨_, rfl⟩
  rw [ep] at h2 ⊢
  obtain ⟨a, ea⟩ : ∃ k, (s.split e).1 = k := ⟨_, rfl⟩
  rw [ea] at h1 h2
  obtain ⟨b, eb⟩ : ∃ k, (s.split e).2 = k := ⟨_, rfl⟩
  rw [eb] at h1
  obtain ⟨c, ec⟩ : ∃ k, (a.split f).1 = k := ⟨_, rfl⟩
  rw [ec] at h2
  clear hk ep ea eb ec
  repeat (refine AW_seq ?_)
  refine reg ?_
  refine run 1 ?_
  refine fin [0, 1, 2] [] ?_
  repeat (refine AW_seq ?_)
  refine reg ?_
  refine run 2 ?_
  refine call (fun _ => h1) ?_
  refine run 2 ?_
  refine run 2 ?_
  refine fin [0, 1] [] ?_
  repeat (refine AW_seq ?_)
  refine reg ?_
  refine run 2 ?_
  refine call (fun _ => h2) ?_
  refine run 2 ?_
  refine run 2 ?_
  refine fin [0] [] ?_
  repeat (refine AW_seq ?_)
  refine reg ?_
  refine run 2 ?_
  refine fin [6] [] ?_
  refine AW_ret (ret ?_)
  rfl

theorem from_any (t : List Int) (v : Int) (hv : v ∈ t) (hl : t.length < 1099511627776) : ACalls Try.prog 23 [.sl (t.map iPV), iPV v] (sqPV (frT t v)) := by
  refine ent Try.func23 ?_
  have ho := of_any t hl
  have hoc := Tr.ofL_cnt t
  have hi := index_any t v hl
  rw [fst_in hv] at hi
  have hk := idx_lt hv
  have c1 := pcT_cnt (Tr.ofL t) (idx t v) t.length
  have c2 := pcT_cnt (Tr.ofL t) 1 ((idx t v : Int) + 1)
  have hp1 := piece_any (Tr.ofL t) (idx t v) t.length (by omega)
  have hp2 := piece_any (Tr.ofL t) 1 ((idx t v : Int) + 1) (by omega)
  have hj := join_any (pcT (Tr.ofL t) (idx t v) t.length) (pcT (Tr.ofL t) 1 ((idx t v : Int) + 1)) (by omega)
  rw [← frT] at hj
  obtain ⟨r, er⟩ : ∃ k, frT t v = k := ⟨_, rfl⟩
  rw [er] at hj ⊢
  obtain ⟨p1, ep1⟩ : ∃ k, pcT (Tr.ofL t) (idx t v) t.length = k := ⟨_, rfl⟩
  rw [ep1] at hp1 hj
  obtain ⟨p2, ep2⟩ : ∃ k, pcT (Tr.ofL t) 1 ((idx t v : Int) + 1) = k := ⟨_, rfl⟩
  rw [ep2] at hp2 hj
  obtain ⟨o, eo⟩ : ∃ k, Tr.ofL t = k := ⟨_, rfl⟩
  rw [eo] at ho hp1 hp2
  obtain ⟨k, ek⟩ : ∃ k, idx t v = k := ⟨_, rfl⟩
  rw [ek] at hi hk hp1 hp2
  clear c1 c2 er ep1 ep2 eo ek hoc
  repeat (refine AW_seq ?_)
  refine reg ?_
  refine run 1 ?_
  refine fin [0, 1] [] ?_
  repeat (refine AW_seq ?_)
  refine reg ?_
  refine run 1 ?_
  refine call (fun _ => ho) ?_
  refine run 2 ?_
  refine call (fun _ => hi) ?_
  refine run 2 ?_
  refine fin [0, 5, 6] [] ?_
  repeat (refine AW_seq ?_)
  refine reg ?_
  refine run 2 ?_
  refine run 2 ?_
  refine call (fun _ => hp1) ?_
  refine run 2 ?_
  refine run 1 ?_
  refine call (fun _ => hp2) ?_
  refine call (fun _ => hj) ?_
  refine run 1 ?_
  refine fin [4] [] ?_
  refine AW_ret (ret ?_)
  rfl

theorem reroot_any (t : List Int) (v : Int) (hl : t.length < 1099511627776) : ACalls Try.prog 13 [.sl (t.map iPV), iPV v] (rrPV t v) := by
  refine ent Try.func13 ?_
  have hr := right_any t hl
  have hc := contains_any t v hl
  obtain ⟨A, eA⟩ : ∃ k, isT t = k := ⟨_, rfl⟩
  rw [eA] at hr
  obtain ⟨eA, -⟩ : Go.RowKit.Hid (isT t = A) ∧ True := ⟨eA, trivial⟩
  rename_i eA0
  clear eA0
  obtain ⟨M, eM⟩ : ∃ k, decide (v ∈ t) = k := ⟨_, rfl⟩
  rw [eM] at hc
  obtain ⟨eM, -⟩ : Go.RowKit.Hid (decide (v ∈ t) = M) ∧ True := ⟨eM, trivial⟩
  rename_i eM0
  clear eM0
  repeat (refine AW_seq ?_)
  refine reg ?_
  refine run 2 ?_
  refine fin [0, 1] [] ?_
  repeat (refine AW_seq ?_)
  refine reg ?_
  refine run 1 ?_
  refine call (fun _ => hr) ?_
  refine run 1 ?_
  refine fin [0, 1, 8] [] ?_
  repeat (refine AW_seq ?_)
  refine tst (fun h1 => ?_) (fun h1 => ?_)
  · simp at h1
    repeat (refine AW_seq ?_)
    refine reg ?_
    refine run 2 ?_
    refine fin [4, 5] [] ?_
    refine AW_ret (ret ?_)
    rw [rrPV, rrR, eA.out, if_pos (by cases A <;> simp_all)]; rfl
  · simp at h1
    refine AW_skip ?_
    repeat (refine AW_seq ?_)
    refine reg ?_
    refine run 2 ?_
    refine call (fun _ => hc) ?_
    refine run 1 ?_
    refine fin [0, 1, 12] [] ?_
    repeat (refine AW_seq ?_)
    refine tst (fun h2 => ?_) (fun h2 => ?_)
    · simp at h2
      repeat (refine AW_seq ?_)
      refine reg ?_
      refine run 2 ?_
      refine fin [4, 5] [] ?_
      refine AW_ret (ret ?_)
      rw [rrPV, rrR, eA.out, eM.out, if_neg (by cases A <;> simp_all), if_pos (by cases M <;> simp_all)]; rfl
    · simp at h2
      have hm : v ∈ t := by have := eM.out; rw [h2] at this; simpa using this
      have hf := from_any t v hm hl
      have hls := list_any (frT t v) (by rw [frT_cnt hm]; exact hl)
      rw [frT_list] at hls
      obtain ⟨r, er⟩ : ∃ k, frT t v = k := ⟨_, rfl⟩
      rw [er] at hf hls
      obtain ⟨L, eL⟩ : ∃ k, frm t v = k := ⟨_, rfl⟩
      rw [eL] at hls
      clear er
      obtain ⟨eL, -⟩ : Go.RowKit.Hid (frm t v = L) ∧ True := ⟨eL, trivial⟩
      rename_i eL0
      clear eL0
      refine AW_skip ?_
      repeat (refine AW_seq ?_)
      refine reg ?_
      refine run 2 ?_
      refine call (fun _ => hf) ?_
      refine fcall (hls) ?_
      refine run 2 ?_
      refine fin [4, 5] [(17, 0)] ?_
      refine AW_ret (ret ?_)
      rw [rrPV, rrR, eA.out, eM.out, if_neg (by cases A <;> simp_all), if_neg (by cases M <;> simp_all), eL.out]; rfl

theorem ed_eq {a b : Ed} (h1 : a.u = b.u) (h2 : a.v = b.v) (h3 : a.t = b.t) : a = b := by cases a; cases b; simp_all

theorem indexE_any (l : List Ed) (e : Ed) (hl : l.length < 1099511627776) : ACalls Try.prog 46 [.sl (l.map edPV), edPV e] (iPV (fstP l e)) := by
  refine ent Try.func46 ?_
  repeat (refine AW_seq ?_)
  refine reg ?_
  refine run 2 ?_
  refine fin [0, 3] [(4, 0)] ?_
  repeat (refine AW_seq ?_)
  refine reg ?_
  refine run 2 ?_
  refine run 1 ?_
  refine fin [0, 3, 7, 8] [(4, 0)] ?_
  repeat (refine AW_seq ?_)
  refine AW_block ?_
  refine AW_loops (ι := Nat) (fun i => ⟨lk [(0, .c (.sl (l.map edPV))), (3, .ptr (4, 0) 1 0 0), (7, .c (iPV l.length)), (8, .c (iPV i))], lkM [((4, 0), some ⟨38, 3, [edPV e], true, [], none⟩)], lkG [] 1⟩) (fun i => i ≤ l.length ∧ ∀ k, k < i → l[k]? ≠ some e) (fun i => l.length - i) 0 ⟨Nat.zero_le _, fun k h => absurd h (Nat.not_lt_zero k)⟩ wk ?_
  rintro i ⟨hi, hF⟩
  obtain ⟨hF, -⟩ : Go.RowKit.Hid (∀ k, k < i → l[k]? ≠ some e) ∧ True := ⟨hF, trivial⟩
  rename_i hF0
  clear hF0
  repeat (refine AW_seq ?_)
  refine reg ?_
  refine run 1 ?_
  refine fin [0, 3, 7, 8, 9] [(4, 0)] ?_
  repeat (refine AW_seq ?_)
  refine tst (fun h1 => ?_) (fun h1 => ?_)
  · simp at h1
    obtain ⟨x, hx, hg⟩ := getD_at h1
    refine AW_skip ?_
    repeat (refine AW_seq ?_)
    refine AW_block ?_
    repeat (refine AW_seq ?_)
    refine reg ?_
    refine run 2 ?_
    refine fin [0, 3, 5, 7, 8] [(4, 0)] ?_
    repeat (refine AW_seq ?_)
    refine reg ?_
    refine run 2 ?_
    refine run 2 ?_
    refine run 2 ?_
    refine fin [0, 3, 5, 7, 8, 16] [(4, 0)] ?_
    repeat (refine AW_seq ?_)
    refine tst (fun h2 => ?_) (fun h2 => ?_)
    · simp at h2
      repeat (refine AW_seq ?_)
      refine reg ?_
      refine run 2 ?_
      refine fin [4] [] ?_
      refine AW_ret (ret ?_)
      rw [fst_at (i := i) (by rw [hx, ed_eq h2.1 h2.2.1 h2.2.2]) hF.out]; rfl
    · simp at h2
      refine AW_skip ?_
      repeat (refine AW_seq ?_)
      refine reg ?_
      refine run 2 ?_
      refine finN ?_
      exact ⟨i + 1, by omega, ⟨by omega, fst_next hF.out hx (fun q => h2 (by rw [q]) (by rw [q]) (by rw [q]))⟩, wk⟩
  · simp at h1
    refine AW_exit ?_
    repeat (refine AW_seq ?_)
    refine reg ?_
    refine run 1 ?_
    refine fin [4] [] ?_
    refine AW_ret (ret ?_)
    rw [fst_none (by omega) hF.out]; rfl

theorem containsE_any (l : List Ed) (e : Ed) (hl : l.length < 1099511627776) : ACalls Try.prog 30 [.sl (l.map edPV), edPV e] (bPV (decide (e ∈ l))) := by
  refine ent Try.func30 ?_
  repeat (refine AW_seq ?_)
  refine reg ?_
  refine run 2 ?_
  refine fin [0, 3] [(4, 0)] ?_
  repeat (refine AW_seq ?_)
  refine reg ?_
  refine run 2 ?_
  refine call (fun _ => indexE_any l e hl) ?_
  refine run 2 ?_
  refine fin [4] [] ?_
  refine AW_ret (ret ?_)
  rw [← fst_ge]; rfl

theorem ends_any (l : List Int) (v : Int) (hl : l.length < 1099511627776) : ACalls Try.prog 32 [.sl (l.map iPV), iPV v] (.tup [iPV (fstP l v), iPV (lst 0 l v l.length)]) := by
  refine ent Try.func32 ?_
  repeat (refine AW_seq ?_)
  refine reg ?_
  refine run 2 ?_
  refine fin [0, 1, 5] [] ?_
  repeat (refine AW_seq ?_)
  refine reg ?_
  refine run 2 ?_
  refine run 1 ?_
  refine fin [0, 1, 5, 8, 9, 10] [] ?_
  repeat (refine AW_seq ?_)
  refine AW_block ?_
  refine AW_loops (ι := Nat) (fun i => ⟨lk [(0, .c (.sl (l.map iPV))), (1, .c (iPV v)), (5, .c (iPV (lst 0 l v i))), (8, .c (.sl (l.map iPV))), (9, .c (iPV l.length)), (10, .c (iPV i))], lkM [], lkG [] 0⟩) (fun i => i ≤ l.length) (fun i => l.length - i) 0 (Nat.zero_le _) wk ?_
  rintro i hi
  obtain ⟨V, eV⟩ : ∃ k, lst 0 l v i = k := ⟨_, rfl⟩
  rw [eV]
  obtain ⟨eV, -⟩ : Go.RowKit.Hid (lst 0 l v i = V) ∧ True := ⟨eV, trivial⟩
  rename_i eV0
  clear eV0
  repeat (refine AW_seq ?_)
  refine reg ?_
  refine run 1 ?_
  refine fin [0, 1, 5, 8, 9, 10, 11] [] ?_
  repeat (refine AW_seq ?_)
  refine tst (fun h1 => ?_) (fun h1 => ?_)
  · simp at h1
    obtain ⟨x, hx, hg⟩ := getD_at h1
    refine AW_skip ?_
    repeat (refine AW_seq ?_)
    refine AW_block ?_
    repeat (refine AW_seq ?_)
    refine reg ?_
    refine run 2 ?_
    refine run 2 ?_
    refine run 1 ?_
    refine fin [0, 1, 5, 6, 7, 8, 9, 10] [] ?_
    repeat (refine AW_seq ?_)
    refine reg ?_
    refine run 2 ?_
    refine run 1 ?_
    refine fin [0, 1, 5, 6, 8, 9, 10, 17] [] ?_
    repeat (refine AW_seq ?_)
    refine tst (fun h2 => ?_) (fun h2 => ?_)
    · simp at h2
      repeat (refine AW_seq ?_)
      refine reg ?_
      refine run 2 ?_
      refine finN ?_
      refine kp [0, 1, 5, 8, 9, 10] [] ?_
      repeat (refine AW_seq ?_)
      refine reg ?_
      refine run 2 ?_
      refine finN ?_
      have e1 : lst 0 l v (i + 1) = i := by rw [lst, if_pos (by rw [List.getD_eq_getElem?_getD, hx, ← h2]; rfl)]
      exact ⟨i + 1, by omega, by omega, wk⟩
    · simp at h2
      refine AW_skip ?_
      repeat (refine AW_seq ?_)
      refine reg ?_
      refine run 2 ?_
      refine finN ?_
      have e1 : lst 0 l v (i + 1) = V := by rw [lst, if_neg (by rw [List.getD_eq_getElem?_getD, hx]; exact h2), eV.out]
      exact ⟨i + 1, by omega, by omega, wk⟩
  · simp at h1
    refine AW_exit ?_
    repeat (refine AW_seq ?_)
    refine reg ?_
    refine run 2 ?_
    refine call (fun _ => index_any l v hl) ?_
    refine run 2 ?_
    refine run 1 ?_
    refine fin [4, 5] [] ?_
    refine AW_ret (ret ?_)
    rw [← eV.out, show i = l.length by omega]; rfl

theorem link_any (a b : List Int) (u v : Int) (ha : a.length < 274877906944) (hb : b.length < 274877906944) : ACalls Try.prog 9 [.sl (a.map iPV), .sl (b.map iPV), iPV u, iPV v] (linkPV a b u v) := by
  refine ent Try.func9 ?_
  have hr1 := right_any a (by omega)
  have hr2 := right_any b (by omega)
  have hc1 := contains_any a u (by omega)
  have hc2 := contains_any b v (by omega)
  have hm := meet_any a b (by omega) (by omega)
  obtain ⟨A, eA⟩ : ∃ k, isT a = k := ⟨_, rfl⟩
  rw [eA] at hr1
  obtain ⟨eA, -⟩ : Go.RowKit.Hid (isT a = A) ∧ True := ⟨eA, trivial⟩
  rename_i eA0
  clear eA0
  obtain ⟨B, eB⟩ : ∃ k, isT b = k := ⟨_, rfl⟩
  rw [eB] at hr2
  obtain ⟨eB, -⟩ : Go.RowKit.Hid (isT b = B) ∧ True := ⟨eB, trivial⟩
  rename_i eB0
  clear eB0
  obtain ⟨M, eM⟩ : ∃ k, decide (u ∈ a) = k := ⟨_, rfl⟩
  rw [eM] at hc1
  obtain ⟨eM, -⟩ : Go.RowKit.Hid (decide (u ∈ a) = M) ∧ True := ⟨eM, trivial⟩
  rename_i eM0
  clear eM0
  obtain ⟨N, eN⟩ : ∃ k, decide (v ∈ b) = k := ⟨_, rfl⟩
  rw [eN] at hc2
  obtain ⟨eN, -⟩ : Go.RowKit.Hid (decide (v ∈ b) = N) ∧ True := ⟨eN, trivial⟩
  rename_i eN0
  clear eN0
  obtain ⟨Q, eQ⟩ : ∃ k, (b.any fun x => decide (x ∈ a)) = k := ⟨_, rfl⟩
  rw [eQ] at hm
  obtain ⟨eQ, -⟩ : Go.RowKit.Hid ((b.any fun x => decide (x ∈ a)) = Q) ∧ True := ⟨eQ, trivial⟩
  rename_i eQ0
  clear eQ0
  repeat (refine AW_seq ?_)
  refine reg ?_
  refine run 2 ?_
  refine fin [0, 1, 2, 3] [] ?_
  repeat (refine AW_seq ?_)
  refine reg ?_
  refine run 1 ?_
  refine call (fun _ => hr1) ?_
  refine run 2 ?_
  refine run 1 ?_
  refine call (fun _ => hr2) ?_
  refine run 2 ?_
  refine fin [0, 1, 2, 3, 17] [] ?_
  repeat (refine AW_seq ?_)
  refine tst (fun h1 => ?_) (fun h1 => ?_)
  · simp at h1
    repeat (refine AW_seq ?_)
    refine reg ?_
    refine run 2 ?_
    refine fin [8, 9] [] ?_
    refine AW_ret (ret ?_)
    rw [linkPV, linkR, eA.out, eB.out, if_pos (by cases A <;> cases B <;> simp_all)]; rfl
  · simp at h1
    refine AW_skip ?_
    repeat (refine AW_seq ?_)
    refine reg ?_
    refine run 2 ?_
    refine call (fun _ => hc1) ?_
    refine run 2 ?_
    refine run 2 ?_
    refine call (fun _ => hc2) ?_
    refine run 2 ?_
    refine fin [0, 1, 2, 3, 27] [] ?_
    repeat (refine AW_seq ?_)
    refine tst (fun h2 => ?_) (fun h2 => ?_)
    · simp at h2
      repeat (refine AW_seq ?_)
      refine reg ?_
      refine run 2 ?_
      refine fin [8, 9] [] ?_
      refine AW_ret (ret ?_)
      rw [linkPV, linkR, eA.out, eB.out, eM.out, eN.out, if_neg (by cases A <;> cases B <;> simp_all), if_pos (by cases M <;> cases N <;> simp_all)]; rfl
    · simp at h2
      refine AW_skip ?_
      repeat (refine AW_seq ?_)
      refine reg ?_
      refine run 2 ?_
      refine call (fun _ => hm) ?_
      refine fin [0, 1, 2, 3, 30] [] ?_
      repeat (refine AW_seq ?_)
      refine tst (fun h3 => ?_) (fun h3 => ?_)
      · skip
        repeat (refine AW_seq ?_)
        refine reg ?_
        refine run 2 ?_
        refine fin [8, 9] [] ?_
        refine AW_ret (ret ?_)
        rw [linkPV, linkR, eA.out, eB.out, eM.out, eN.out, eQ.out, if_neg (by cases A <;> cases B <;> simp_all), if_neg (by cases M <;> cases N <;> simp_all), if_pos (by cases Q <;> simp_all)]; rfl
      · skip
        have hu : u ∈ a := by have := eM.out; cases M <;> simp_all
        have hv : v ∈ b := by have := eN.out; cases N <;> simp_all
        have hf1 := from_any a u hu (by omega)
        have hf2 := from_any b v hv (by omega)
        have ho := of_any [u] (by show 1 < 1099511627776; decide)
        have k1 := frT_cnt hu
        have k2 := frT_cnt hv
        have k3 := Tr.ofL_cnt [u]
        rw [show [u].length = 1 from rfl] at k3
        have hj1 := join_any (frT a u) (frT b v) (by omega)
        have hj2 := join_any ((frT a u).join (frT b v)) (Tr.ofL [u]) (by rw [Tr.join_cnt]; omega)
        have hls := list_any (((frT a u).join (frT b v)).join (Tr.ofL [u])) (by rw [Tr.join_cnt, Tr.join_cnt]; omega)
        rw [Tr.join_list, Tr.join_list, frT_list, frT_list, Tr.ofL_list] at hls
        obtain ⟨j2, ej2⟩ : ∃ k, ((frT a u).join (frT b v)).join (Tr.ofL [u]) = k := ⟨_, rfl⟩
        rw [ej2] at hj2 hls
        obtain ⟨j1, ej1⟩ : ∃ k, (frT a u).join (frT b v) = k := ⟨_, rfl⟩
        rw [ej1] at hj1 hj2
        obtain ⟨f1, ef1⟩ : ∃ k, frT a u = k := ⟨_, rfl⟩
        rw [ef1] at hf1 hj1
        obtain ⟨f2, ef2⟩ : ∃ k, frT b v = k := ⟨_, rfl⟩
        rw [ef2] at hf2 hj1
        obtain ⟨o, eo⟩ : ∃ k, Tr.ofL [u] = k := ⟨_, rfl⟩
        rw [eo] at ho hj2
        obtain ⟨L, eL⟩ : ∃ k, frm a u ++ frm b v ++ [u] = k := ⟨_, rfl⟩
        rw [eL] at hls
        clear ej2 ej1 ef1 ef2 eo k1 k2 k3 hu hv
        obtain ⟨eL, -⟩ : Go.RowKit.Hid (frm a u ++ frm b v ++ [u] = L) ∧ True := ⟨eL, trivial⟩
        rename_i eL0
        clear eL0
        refine AW_skip ?_
        repeat (refine AW_seq ?_)
        refine reg ?_
        refine run 2 ?_
        refine call (fun _ => hf1) ?_
        refine run 2 ?_
        refine call (fun _ => hf2) ?_
        refine call (fun _ => hj1) ?_
        refine run 2 ?_
        refine call (fun _ => ho) ?_
        refine call (fun _ => hj2) ?_
        refine fcall (hls) ?_
        refine run 2 ?_
        refine fin [8, 9] [(43, 0)] ?_
        refine AW_ret (ret ?_)
        rw [linkPV, linkR, eA.out, eB.out, eM.out, eN.out, eQ.out, if_neg (by cases A <;> cases B <;> simp_all), if_neg (by cases M <;> cases N <;> simp_all), if_neg (by cases Q <;> simp_all), eL.out]; rfl

theorem cutL_in {t : List Int} {u v : Int} (h : isT t = true) (he : ed u v ∈ edges t) : u ∈ t ∧ v ∈ frm t u ∧ (frm t u).length = t.length :=
  ⟨(edges_in h he).1, (frm_mem h (edges_in h he).1 v).2 (edges_in h he).2, (frm_T h (edges_in h he).1).2.2.2⟩
theorem edges_len (t : List Int) : (edges t).length ≤ t.length := by
  rw [edges, List.length_map, List.length_drop]; have := visR_len t; omega

theorem cut_any (t : List Int) (u v : Int) (hl : t.length < 549755813888) : ACalls Try.prog 14 [.sl (t.map iPV), iPV u, iPV v] (cutPV t u v) := by
  refine ent Try.func14 ?_
  have hr := right_any t (by omega)
  have he := edges_any t (by omega)
  have hel := edges_len t
  have hed := edge_any u v
  have hce := containsE_any (edges t) (ed u v) (by omega)
  obtain ⟨A, eA⟩ : ∃ k, isT t = k := ⟨_, rfl⟩
  rw [eA] at hr
  obtain ⟨eA, -⟩ : Go.RowKit.Hid (isT t = A) ∧ True := ⟨eA, trivial⟩
  rename_i eA0
  clear eA0
  obtain ⟨M, eM⟩ : ∃ k, decide (ed u v ∈ edges t) = k := ⟨_, rfl⟩
  rw [eM] at hce
  obtain ⟨eM, -⟩ : Go.RowKit.Hid (decide (ed u v ∈ edges t) = M) ∧ True := ⟨eM, trivial⟩
  rename_i eM0
  clear eM0
  obtain ⟨E, eE⟩ : ∃ k, edges t = k := ⟨_, rfl⟩
  rw [eE] at he hce hel
  obtain ⟨eE, -⟩ : Go.RowKit.Hid (edges t = E) ∧ True := ⟨eE, trivial⟩
  rename_i eE0
  clear eE0
  obtain ⟨e0, ee0⟩ : ∃ k, ed u v = k := ⟨_, rfl⟩
  rw [ee0] at hed hce
  obtain ⟨ee0, -⟩ : Go.RowKit.Hid (ed u v = e0) ∧ True := ⟨ee0, trivial⟩
  rename_i ee00
  clear ee00
  repeat (refine AW_seq ?_)
  refine reg ?_
  refine run 2 ?_
  refine run 1 ?_
  refine fin [0, 1, 2] [] ?_
  repeat (refine AW_seq ?_)
  refine reg ?_
  refine run 1 ?_
  refine call (fun _ => hr) ?_
  refine run 1 ?_
  refine fin [0, 1, 2, 15] [] ?_
  repeat (refine AW_seq ?_)
  refine tst (fun h1 => ?_) (fun h1 => ?_)
  · simp at h1
    repeat (refine AW_seq ?_)
    refine reg ?_
    refine run 2 ?_
    refine run 1 ?_
    refine fin [6, 7, 8] [] ?_
    refine AW_ret (ret ?_)
    rw [cutPV, cutR, eA.out, if_pos (by cases A <;> simp_all)]; rfl
  · simp at h1
    refine AW_skip ?_
    repeat (refine AW_seq ?_)
    refine reg ?_
    refine run 1 ?_
    refine fcall (he) ?_
    refine run 2 ?_
    refine call (fun _ => hed) ?_
    refine call (fun _ => hce) ?_
    refine run 1 ?_
    refine fin [0, 1, 2, 22] [] ?_
    repeat (refine AW_seq ?_)
    refine tst (fun h2 => ?_) (fun h2 => ?_)
    · simp at h2
      repeat (refine AW_seq ?_)
      refine reg ?_
      refine run 2 ?_
      refine run 1 ?_
      refine fin [6, 7, 8] [] ?_
      refine AW_ret (ret ?_)
      rw [cutPV, cutR, eA.out, eM.out, if_neg (by cases A <;> simp_all), if_pos (by cases M <;> simp_all)]; rfl
    · simp at h2
      have hi := cutL_in (t := t) (u := u) (v := v) (by have := eA.out; cases A <;> simp_all) (by have h3 := eM.out; rw [eE.out, ee0.out] at h3 ⊢; cases M <;> simp_all)
      obtain ⟨i1, i2, i3⟩ := hi
      have hf := from_any t u i1 (by omega)
      have hl1 := list_any (frT t u) (by rw [frT_cnt i1]; omega)
      rw [frT_list] at hl1
      have fc := frT_cnt i1
      have hends := ends_any (frm t u) v (by omega)
      rw [fst_in i2] at hends
      have ik := idx_lt i2
      obtain ⟨la, e1, e2⟩ := @lst0 (frm t u) v (frm t u).length
      rw [e1] at hends
      have hn := len_any (frT t u)
      rw [fc] at hn
      have hp1 := piece_any (frT t u) 0 (idx (frm t u) v) (by omega)
      have hp2 := piece_any (frT t u) ((la : Int) + 2) t.length (by omega)
      have hp3 := piece_any (frT t u) (idx (frm t u) v) ((la : Int) + 1) (by omega)
      have c1 := pcT_cnt (frT t u) 0 (idx (frm t u) v)
      have c2 := pcT_cnt (frT t u) ((la : Int) + 2) t.length
      have c3 := pcT_cnt (frT t u) (idx (frm t u) v) ((la : Int) + 1)
      have hj := join_any (pcT (frT t u) 0 (idx (frm t u) v)) (pcT (frT t u) ((la : Int) + 2) t.length) (by omega)
      have hl2 := list_any ((pcT (frT t u) 0 (idx (frm t u) v)).join (pcT (frT t u) ((la : Int) + 2) t.length)) (by rw [Tr.join_cnt]; omega)
      have hl3 := list_any (pcT (frT t u) (idx (frm t u) v) ((la : Int) + 1)) (by omega)
      rw [Tr.join_list, pcT_list, pcT_list, frT_list, Int.toNat_natCast, show ((la : Int) + 2).toNat = la + 2 by omega, show (0 : Int).toNat = 0 from rfl, List.drop_zero, Int.toNat_natCast, List.take_of_length_le (l := frm t u) (i := t.length) (by rw [i3]; exact Nat.le_refl _)] at hl2
      rw [pcT_list, frT_list, Int.toNat_natCast, show ((la : Int) + 1).toNat = la + 1 by omega] at hl3
      skip
      have hX : cutL (frm t u) v = ((frm t u).take (idx (frm t u) v) ++ (frm t u).drop (la + 2), ((frm t u).take (la + 1)).drop (idx (frm t u) v)) := by rw [cutL, e1, Int.toNat_natCast]
      obtain ⟨X, eX⟩ : ∃ k, (frm t u).take (idx (frm t u) v) ++ (frm t u).drop (la + 2) = k := ⟨_, rfl⟩
      rw [eX] at hl2 hX
      obtain ⟨Y, eY⟩ : ∃ k, ((frm t u).take (la + 1)).drop (idx (frm t u) v) = k := ⟨_, rfl⟩
      rw [eY] at hl3 hX
      obtain ⟨hX, -⟩ : Go.RowKit.Hid (cutL (frm t u) v = (X, Y)) ∧ True := ⟨hX, trivial⟩
      rename_i hX0
      clear hX0
      rw [i3] at ik e2
      have lab : (la : Int) < 1099511627776 := by omega
      obtain ⟨j, ej⟩ : ∃ k, (pcT (frT t u) 0 (idx (frm t u) v)).join (pcT (frT t u) ((la : Int) + 2) t.length) = k := ⟨_, rfl⟩
      rw [ej] at hj hl2
      obtain ⟨p1, ep1⟩ : ∃ k, pcT (frT t u) 0 (idx (frm t u) v) = k := ⟨_, rfl⟩
      rw [ep1] at hp1 hj
      obtain ⟨p2, ep2⟩ : ∃ k, pcT (frT t u) ((la : Int) + 2) t.length = k := ⟨_, rfl⟩
      rw [ep2] at hp2 hj
      obtain ⟨p3, ep3⟩ : ∃ k, pcT (frT t u) (idx (frm t u) v) ((la : Int) + 1) = k := ⟨_, rfl⟩
      rw [ep3] at hp3 hl3
      obtain ⟨f, ef⟩ : ∃ k, frT t u = k := ⟨_, rfl⟩
      rw [ef] at hf hl1 hn hp1 hp2 hp3
      obtain ⟨k, ek⟩ : ∃ k, idx (frm t u) v = k := ⟨_, rfl⟩
      rw [ek] at hends ik hp1 hp3
      obtain ⟨s, es⟩ : ∃ k, frm t u = k := ⟨_, rfl⟩
      rw [es] at hl1 hends i3
      clear c1 c2 c3 fc i1 i2 ej ep1 ep2 ep3 ef ek es eX eY e1 e2
      refine AW_skip ?_
      repeat (refine AW_seq ?_)
      refine reg ?_
      refine run 2 ?_
      refine call (fun _ => hf) ?_
      refine run 1 ?_
      refine fin [2, 9] [] ?_
      repeat (refine AW_seq ?_)
      refine reg ?_
      refine run 1 ?_
      refine fcall (hl1) ?_
      refine run 1 ?_
      refine call (fun _ => hends) ?_
      refine run 2 ?_
      refine run 2 ?_
      refine run 1 ?_
      refine fin [9, 10, 11] [] ?_
      repeat (refine AW_seq ?_)
      refine reg ?_
      refine run 2 ?_
      refine call (fun _ => hp1) ?_
      refine run 2 ?_
      refine run 2 ?_
      refine call (fun _ => hn) ?_
      refine call (fun _ => hp2) ?_
      refine call (fun _ => hj) ?_
      refine run 1 ?_
      refine fin [9, 10, 11, 12] [] ?_
      repeat (refine AW_seq ?_)
      refine reg ?_
      refine run 1 ?_
      refine fcall (hl2) ?_
      refine run 2 ?_
      refine run 2 ?_
      refine call (fun _ => hp3) ?_
      refine fcall (hl3) ?_
      refine run 2 ?_
      refine run 1 ?_
      refine fin [6, 7, 8] [(45, 0), (51, 0)] ?_
      refine AW_ret (ret ?_)
      rw [cutPV, cutR, eA.out, eM.out, if_neg (by cases A <;> simp_all), if_neg (by cases M <;> simp_all), hX.out]; rfl

end Go.Proofs.Yteflkffebekjdaa