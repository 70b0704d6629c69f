/-
  The laws of ways, of swaps and of trees, on plain data.
  Conditions: none.
-/
import Derived.Test.YtlhgjaogpeoaeaaGroveA
namespace Go.Proofs.Ytlhgjaogpeoaeaa
open Go Go.Ab
set_option linter.unusedVariables false
set_option linter.unusedSimpArgs false

theorem small_le {n : Nat} {l : List Ed} (h : smallB n l = true) (hn : n ≤ 1024) : l.length ≤ 30 ∧ n ≤ 30 := by
  unfold smallB at h
  simp at h
  omega
theorem getD_revE {p : List Ed} {i : Nat} (h : i < p.length) : p.reverse.getD (p.length - 1 - i) default = p.getD i default := by
  rw [List.getD_eq_getElem?_getD, List.getD_eq_getElem?_getD, List.getElem?_reverse (by omega)]
  congr 2
  omega

theorem ways_big (n : Int) (l : List Ed) (u v : Int) (h : smallB n l = false) : ACalls Try.prog 4 [iPV n, .sl (l.map edPV), iPV u, iPV v] (bPV true) := by
  refine ent Try.func4 ?_
  have c0 := small_any n l
  rw [h] at c0
  clear h
  repeat (refine AW_seq ?_)
  refine reg ?_
  refine run 1 ?_
  refine fin [0, 1, 2, 3] [] ?_
  repeat (refine AW_seq ?_)
  refine reg ?_
  refine run 2 ?_
  refine call (fun _ => c0) ?_
  refine run 2 ?_
  refine run 2 ?_
  refine skpV (.c (.v (.bool false))) ?_
  refine run 2 ?_
  refine fin [0, 1, 2, 3, 25] [] ?_
  repeat (refine AW_seq ?_)
  refine tstT ?_
  repeat (refine AW_seq ?_)
  refine reg ?_
  refine call (fun _ => awake_true) ?_
  refine run 1 ?_
  refine fin [8] [] ?_
  refine AW_ret (ret ?_)
  rfl

theorem ways_not (n : Int) (l : List Ed) (u v : Int) (h : smallB n l = true) (hF : ¬ IsFi n l) : ACalls Try.prog 4 [iPV n, .sl (l.map edPV), iPV u, iPV v] (bPV true) := by
  refine ent Try.func4 ?_
  have hl : l.length < 1099511627776 := by unfold smallB at h; simp at h; omega
  have c0 := small_any n l
  rw [h] at c0
  have c1 := gRight_no n l hl hF
  clear h hF
  repeat (refine AW_seq ?_)
  refine reg ?_
  refine run 1 ?_
  refine fin [0, 1, 2, 3] [] ?_
  repeat (refine AW_seq ?_)
  refine reg ?_
  refine run 2 ?_
  refine call (fun _ => c0) ?_
  refine run 2 ?_
  refine run 2 ?_
  refine call (fun _ => c1) ?_
  refine run 2 ?_
  refine fin [0, 1, 2, 3, 25] [] ?_
  repeat (refine AW_seq ?_)
  refine tstT ?_
  repeat (refine AW_seq ?_)
  refine reg ?_
  refine call (fun _ => awake_true) ?_
  refine run 1 ?_
  refine fin [8] [] ?_
  refine AW_ret (ret ?_)
  rfl

theorem ways_err (n : Nat) (l : List Ed) (u v : Int) (h : smallB n l = true) (hn : n ≤ 1024) (hF : IsF n l) (err : Int) (hne : err ≠ 0) (c2 : ACalls Try.prog 9 [iPV n, .sl (l.map edPV), iPV u, iPV v] (.tup [.sl [], iPV err])) (c3 : ACalls Try.prog 9 [iPV n, .sl (l.map edPV), iPV v, iPV u] (.tup [.sl [], iPV err])) : ACalls Try.prog 4 [iPV n, .sl (l.map edPV), iPV u, iPV v] (bPV true) := by
  refine ent Try.func4 ?_
  have c0 := small_any n l
  rw [h] at c0
  obtain ⟨hl, hn30⟩ := small_le h hn
  clear h
  have c1 := gRight_yes n hn l (by omega) hF
  have hB : (err != 0) = true := by simpa using hne
  clear hF hne
  repeat (refine AW_seq ?_)
  refine reg ?_
  refine run 1 ?_
  refine fin [0, 1, 2, 3] [] ?_
  repeat (refine AW_seq ?_)
  refine reg ?_
  refine run 2 ?_
  refine call (fun _ => c0) ?_
  refine run 2 ?_
  refine run 2 ?_
  refine call (fun _ => c1) ?_
  refine run 2 ?_
  refine fin [0, 1, 2, 3, 25] [] ?_
  repeat (refine AW_seq ?_)
  refine tstF ?_
  refine AW_skip ?_
  repeat (refine AW_seq ?_)
  refine reg ?_
  refine run 2 ?_
  refine run 2 ?_
  refine call (fun _ => c2) ?_
  refine run 2 ?_
  refine run 2 ?_
  refine run 1 ?_
  refine fin [0, 1, 2, 3, 9, 10] [] ?_
  repeat (refine AW_seq ?_)
  refine reg ?_
  refine run 2 ?_
  refine run 2 ?_
  refine call (fun _ => c3) ?_
  refine run 2 ?_
  refine run 2 ?_
  refine run 1 ?_
  refine fin [0, 2, 3, 9, 10, 11, 12] [] ?_
  repeat (refine AW_seq ?_)
  refine reg ?_
  refine run 2 ?_
  refine run 2 ?_
  refine run 2 ?_
  refine run 2 ?_
  refine run 2 ?_
  refine fin [0, 2, 3, 9, 10, 11, 52] [] ?_
  repeat (refine AW_seq ?_)
  refine tstF ?_
  refine AW_skip ?_
  repeat (refine AW_seq ?_)
  refine reg ?_
  refine run 2 ?_
  refine fin [0, 2, 3, 9, 11, 54] [] ?_
  repeat (refine AW_seq ?_)
  refine tstT ?_
  repeat (refine AW_seq ?_)
  refine reg ?_
  refine call (fun _ => awake_true) ?_
  refine run 1 ?_
  refine fin [8] [] ?_
  refine AW_ret (ret ?_)
  rfl

theorem ways_path (n u v : Nat) (l : List Ed) (h : smallB n l = true) (hn : n ≤ 1024) (hF : IsF n l) (hu : u < n) (hv : v < n) (p : List Ed) (hw : Walk l u p v) (hp : p.Nodup) : ACalls Try.prog 4 [iPV n, .sl (l.map edPV), iPV u, iPV v] (bPV true) := by
  refine ent Try.func4 ?_
  have c0 := small_any n l
  rw [h] at c0
  obtain ⟨hl, hn30⟩ := small_le h hn
  clear h
  have c1 := gRight_yes n hn l (by omega) hF
  have c2 := path_yes n u v hn l (by omega) hF hu hv p hw hp
  have c3 := path_yes n v u hn l (by omega) hF hv hu p.reverse hw.rev (List.pairwise_reverse.2 (hp.imp fun h => h.symm))
  have hpl : p.length < n := by have := edge_len l p hp hw.mem; have := hF.short (by omega); omega
  have hml := hw.mem
  have hm := hF.1
  have hrv := fun i => @getD_revE p i
  have hQl : p.reverse.length = p.length := List.length_reverse
  clear hF hp
  obtain ⟨Q, eQ⟩ : ∃ zz, p.reverse = zz := ⟨_, rfl⟩
  rw [eQ] at c3 hrv hQl
  clear eQ
  obtain ⟨hw, -⟩ : Go.RowKit.Hid (Walk l u p v) ∧ True := ⟨hw, trivial⟩
  rename_i hw0
  clear hw0
  obtain ⟨hml, -⟩ : Go.RowKit.Hid (∀ x ∈ p, x ∈ l) ∧ True := ⟨hml, trivial⟩
  rename_i hml0
  clear hml0
  obtain ⟨hm, -⟩ : Go.RowKit.Hid (MayE n l) ∧ True := ⟨hm, trivial⟩
  rename_i hm0
  clear hm0
  obtain ⟨hrv, -⟩ : Go.RowKit.Hid (∀ i, i < p.length → Q.getD (p.length - 1 - i) default = p.getD i default) ∧ True := ⟨hrv, trivial⟩
  rename_i hrv0
  clear hrv0
  have hd0 : decide ((p.length : Int) < (n : Int)) = true := by simp; omega
  repeat (refine AW_seq ?_)
  refine reg ?_
  refine run 1 ?_
  refine fin [0, 1, 2, 3] [] ?_
  repeat (refine AW_seq ?_)
  refine reg ?_
  refine run 2 ?_
  refine call (fun _ => c0) ?_
  refine run 2 ?_
  refine run 2 ?_
  refine call (fun _ => c1) ?_
  refine run 2 ?_
  refine fin [0, 1, 2, 3, 25] [] ?_
  repeat (refine AW_seq ?_)
  refine tstF ?_
  refine AW_skip ?_
  repeat (refine AW_seq ?_)
  refine reg ?_
  refine run 2 ?_
  refine run 2 ?_
  refine call (fun _ => c2) ?_
  refine run 2 ?_
  refine run 2 ?_
  refine run 1 ?_
  refine fin [0, 1, 2, 3, 9, 10] [] ?_
  repeat (refine AW_seq ?_)
  refine reg ?_
  refine run 2 ?_
  refine run 2 ?_
  refine call (fun _ => c3) ?_
  refine run 2 ?_
  refine run 2 ?_
  refine run 1 ?_
  refine fin [0, 2, 3, 9, 10, 11, 12] [] ?_
  repeat (refine AW_seq ?_)
  refine reg ?_
  refine run 2 ?_
  refine run 2 ?_
  refine run 2 ?_
  refine run 2 ?_
  refine run 2 ?_
  refine fin [0, 2, 3, 9, 10, 11, 52] [] ?_
  repeat (refine AW_seq ?_)
  refine tstF ?_
  refine AW_skip ?_
  repeat (refine AW_seq ?_)
  refine reg ?_
  refine run 2 ?_
  refine fin [0, 2, 3, 9, 11, 54] [] ?_
  repeat (refine AW_seq ?_)
  refine tstF ?_
  refine AW_skip ?_
  repeat (refine AW_seq ?_)
  refine reg ?_
  refine run 2 ?_
  refine fin [0, 3, 9, 11, 13] [] ?_
  repeat (refine AW_seq ?_)
  refine reg ?_
  refine run 2 ?_
  refine run 1 ?_
  refine fin [0, 3, 9, 11, 13, 57, 58, 59] [] ?_
  repeat (refine AW_seq ?_)
  refine AW_block ?_
  refine AW_loops (ι := Nat × Int) (fun z => ⟨lk [(0, .c (iPV n)), (3, .c (iPV v)), (9, .c (.sl (p.map edPV))), (11, .c (.sl (Q.map edPV))), (13, .c (iPV z.2)), (57, .c (.sl (p.map edPV))), (58, .c (iPV p.length)), (59, .c (iPV z.1))], lkM ([]), lkG [] 0⟩) (fun z => z.1 ≤ p.length ∧ Walk l z.2 (p.drop z.1) v) (fun z => p.length - z.1) (0, (u : Int)) ⟨Nat.zero_le _, hw.out⟩ wk ?_
  rintro ⟨i, w⟩ ⟨hi, hF⟩
  simp only at hi hF
  obtain ⟨hF, -⟩ : Go.RowKit.Hid (Walk l w (p.drop i) v) ∧ True := ⟨hF, trivial⟩
  rename_i hF0
  clear hF0
  repeat (refine AW_seq ?_)
  refine reg ?_
  refine run 1 ?_
  refine fin [0, 3, 9, 11, 13, 57, 58, 59, 60] [] ?_
  repeat (refine AW_seq ?_)
  refine tst (fun h4 => ?_) (fun h4 => ?_)
  · simp at h4
    obtain ⟨x, hx, gx⟩ := getD_at h4
    have hF3 := hF.out
    rw [drop_at h4, gx] at hF3
    obtain ⟨f1, f2, f3⟩ := hF3
    have hb := hm.out x f1
    unfold oth at f3
    obtain ⟨xu, xv, xt⟩ := x
    unfold EdIn at hb
    simp only at f2 f3 hb
    have g1 := hrv.out i h4
    rw [gx] at g1
    have g2 : (p.length : Int) - 1 - (i : Int) = ((p.length - 1 - i : Nat) : Int) := by omega
    have g3 : p.length - 1 - i < p.length := by omega
    obtain ⟨m, em⟩ : ∃ m, p.length - 1 - i = m := ⟨_, rfl⟩
    rw [em] at g1 g2 g3
    obtain ⟨w2, ew⟩ : ∃ w2, xu + xv - w = w2 := ⟨_, rfl⟩
    rw [ew] at f3
    have hwb : 0 ≤ w ∧ w < n := by omega
    have hB : ((xu != w) && (xv != w)) = false := by rcases f2 with g | g <;> simp [g]
    have hF2 := f3
    clear f1 f2 f3 em
    obtain ⟨hF2, -⟩ : Go.RowKit.Hid (Walk l w2 (p.drop (i + 1)) v) ∧ True := ⟨hF2, trivial⟩
    rename_i hF20
    clear hF20
    refine AW_skip ?_
    repeat (refine AW_seq ?_)
    refine AW_block ?_
    repeat (refine AW_seq ?_)
    refine reg ?_
    refine run 2 ?_
    refine run 2 ?_
    refine run 2 ?_
    refine fin [0, 3, 9, 11, 13, 14, 15, 57, 58, 59] [(16, 0)] ?_
    repeat (refine AW_seq ?_)
    refine reg ?_
    refine run 2 ?_
    refine run 2 ?_
    refine run 2 ?_
    refine run 2 ?_
    refine run 2 ?_
    refine run 2 ?_
    refine run 2 ?_
    refine run 2 ?_
    refine run 2 ?_
    refine run 2 ?_
    refine run 2 ?_
    refine fin [0, 3, 9, 11, 13, 15, 57, 58, 59, 85] [(16, 0)] ?_
    repeat (refine AW_seq ?_)
    refine tstF ?_
    refine AW_skip ?_
    repeat (refine AW_seq ?_)
    refine reg ?_
    refine run 2 ?_
    refine run 2 ?_
    refine run 2 ?_
    refine run 2 ?_
    refine finN ?_
    refine kp [0, 3, 9, 11, 13, 57, 58, 59] [] ?_
    repeat (refine AW_seq ?_)
    refine reg ?_
    refine run 2 ?_
    refine finN ?_
    exact ⟨(i + 1, w2), by show p.length - (i + 1) < p.length - i; omega, ⟨by show i + 1 ≤ _; omega, hF2.out⟩, wk⟩
  · simp at h4
    have e1 : w = (v : Int) := by
      have := hF.out
      rw [List.drop_eq_nil_of_le (by omega)] at this; exact this
    subst e1
    refine AW_exit ?_
    repeat (refine AW_seq ?_)
    refine reg ?_
    refine run 2 ?_
    refine run 2 ?_
    refine run 2 ?_
    refine run 2 ?_
    refine run 2 ?_
    refine call (fun _ => awake_true) ?_
    refine run 2 ?_
    refine fin [8] [] ?_
    refine AW_ret (ret ?_)
    rfl

theorem ways_any (n : Int) (l : List Ed) (u v : Int) : ACalls Try.prog 4 [iPV n, .sl (l.map edPV), iPV u, iPV v] (bPV true) := by
  cases h : smallB n l with
  | false => exact ways_big n l u v h
  | true =>
    by_cases hF : IsFi n l
    · obtain ⟨k, rfl⟩ : ∃ k : Nat, n = k := ⟨n.toNat, by have := hF.1; omega⟩
      have hn : k ≤ 1024 := by have := hF.2.1; omega
      rw [isFi_nat hn] at hF
      have hl := (small_le h hn).1
      by_cases ho : 0 ≤ u ∧ u < k ∧ 0 ≤ v ∧ v < k
      · obtain ⟨a, rfl⟩ : ∃ a : Nat, u = a := ⟨u.toNat, by omega⟩
        obtain ⟨b, rfl⟩ : ∃ a : Nat, v = a := ⟨v.toNat, by omega⟩
        by_cases hc : Con l (a : Int) b
        · obtain ⟨p, hw, hp⟩ := path_ex hF (by omega) hc
          exact ways_path k a b l h hn hF (by omega) (by omega) p hw hp
        · exact ways_err k l a b h hn hF 3 (by decide) (path_none k a b hn l (by omega) hF (by omega) (by omega) hc) (path_none k b a hn l (by omega) hF (by omega) (by omega) fun g => hc g.symm)
      · exact ways_err k l u v h hn hF 1 (by decide) (path_arg k hn l (by omega) hF u v ho) (path_arg k hn l (by omega) hF v u (by omega))
    · exact ways_not n l u v h hF
/-- one edge of a way goes, one between its ends comes -/
theorem swap_main {n u v : Nat} {l : List Ed} (h : IsF n l) (hu : u < n) (hv : v < n) {p : List Ed} (hw : Walk l u p v) (hp : p.Nodup) {g : Ed} (hg : g ∈ p) : IsF n (less l g) ∧ ¬ Con (less l g) u v ∧ IsF n (less l g ++ [⟨u, v, 0⟩]) ∧ partR n (less l g ++ [⟨u, v, 0⟩]) = partR n l := by
  have gl := hw.mem g hg
  obtain ⟨p1, p2, rfl⟩ := List.append_of_mem hg
  obtain ⟨x, w1, w2, w3, w4⟩ := Walk.app.1 hw
  have hn := List.nodup_append.1 hp
  have n1 : g ∉ p1 := fun e => hn.2.2 g e g List.mem_cons_self rfl
  have n2 : g ∉ p2 := (List.nodup_cons.1 hn.2.1).1
  have c1 := (w1.less n1).con
  have c2 := (w4.less n2).con
  have nc : ¬ Con (less l g) u v := fun g' => h.nc.oth w2 w3 (c1.symm.trans (g'.trans c2.symm))
  have he : EdIn n ⟨u, v, 0⟩ := by unfold EdIn; simp only; omega
  have h2 := (h.less gl).2
  have h3 := h2.add he nc
  refine ⟨h2, nc, h3, partR_same h3.1 h.1 fun f => ⟨fun hf e he => ?_, fun hf => Resp.app.2 ⟨fun e he => hf e (less_mem.1 he).1, hw.con f hf⟩⟩⟩
  obtain ⟨f1, f2⟩ := Resp.app.1 hf
  by_cases e2 : e = g
  · subst e2
    have a1 := c1 f f1
    have a2 := c2 f f1
    have a3 : f x = f (oth e x) := by rw [← a1, a2]; exact f2
    unfold oth at a3
    rcases w3 with rfl | rfl
    · rwa [show e.u + e.v - e.u = e.v by omega] at a3
    · rw [show e.u + e.v - e.v = e.u by omega] at a3; exact a3.symm
  · exact f1 e (less_mem.2 ⟨he, e2⟩)
theorem less_next {l : List Ed} {i : Nat} {x g : Ed} (hx : l[i]? = some x) : less (l.take (i + 1)) g = less (l.take i) g ++ (if x = g then [] else [x]) := by
  unfold less
  rw [List.take_add_one, hx, Option.toList_some, List.filter_append]
  congr 1
  by_cases e : x = g <;> simp [e]
theorem ed_beq (a b : Ed) : (a.u == b.u && (a.v == b.v && a.t == b.t)) = decide (a = b) := by
  obtain ⟨a1, a2, a3⟩ := a
  obtain ⟨b1, b2, b3⟩ := b
  rw [Bool.eq_iff_iff]
  simp

theorem swaps_big (n : Int) (l : List Ed) (u v b : Int) (h : smallB n l = false) : ACalls Try.prog 3 [iPV n, .sl (l.map edPV), iPV u, iPV v, .v (.int .u8 b)] (bPV true) := by
  refine ent Try.func3 ?_
  have c0 := small_any n l
  rw [h] at c0
  clear h
  repeat (refine AW_seq ?_)
  refine reg ?_
  refine run 1 ?_
  refine fin [0, 1, 2, 3, 4] [] ?_
  repeat (refine AW_seq ?_)
  refine reg ?_
  refine run 2 ?_
  refine call (fun _ => c0) ?_
  refine run 2 ?_
  refine run 2 ?_
  refine skpV (.c (.v (.bool false))) ?_
  refine run 2 ?_
  refine fin [0, 1, 2, 3, 4, 33] [] ?_
  repeat (refine AW_seq ?_)
  refine tstT ?_
  repeat (refine AW_seq ?_)
  refine reg ?_
  refine call (fun _ => awake_true) ?_
  refine run 1 ?_
  refine fin [10] [] ?_
  refine AW_ret (ret ?_)
  rfl

theorem swaps_not (n : Int) (l : List Ed) (u v b : Int) (h : smallB n l = true) (hF : ¬ IsFi n l) : ACalls Try.prog 3 [iPV n, .sl (l.map edPV), iPV u, iPV v, .v (.int .u8 b)] (bPV true) := by
  refine ent Try.func3 ?_
  have hl : l.length < 1099511627776 := by unfold smallB at h; simp at h; omega
  have c0 := small_any n l
  rw [h] at c0
  have c1 := gRight_no n l hl hF
  clear h hF
  repeat (refine AW_seq ?_)
  refine reg ?_
  refine run 1 ?_
  refine fin [0, 1, 2, 3, 4] [] ?_
  repeat (refine AW_seq ?_)
  refine reg ?_
  refine run 2 ?_
  refine call (fun _ => c0) ?_
  refine run 2 ?_
  refine run 2 ?_
  refine call (fun _ => c1) ?_
  refine run 2 ?_
  refine fin [0, 1, 2, 3, 4, 33] [] ?_
  repeat (refine AW_seq ?_)
  refine tstT ?_
  repeat (refine AW_seq ?_)
  refine reg ?_
  refine call (fun _ => awake_true) ?_
  refine run 1 ?_
  refine fin [10] [] ?_
  refine AW_ret (ret ?_)
  rfl

theorem swaps_err (n : Nat) (l : List Ed) (u v b : Int) (h : smallB n l = true) (hn : n ≤ 1024) (hF : IsF n l) (err : Int) (c2 : ACalls Try.prog 9 [iPV n, .sl (l.map edPV), iPV u, iPV v] (.tup [.sl [], iPV err])) : ACalls Try.prog 3 [iPV n, .sl (l.map edPV), iPV u, iPV v, .v (.int .u8 b)] (bPV true) := by
  refine ent Try.func3 ?_
  have c0 := small_any n l
  rw [h] at c0
  obtain ⟨hl, hn30⟩ := small_le h hn
  clear h
  have c1 := gRight_yes n hn l (by omega) hF
  clear hF
  have hz : ((0 : Nat) : Int) = 0 := rfl
  repeat (refine AW_seq ?_)
  refine reg ?_
  refine run 1 ?_
  refine fin [0, 1, 2, 3, 4] [] ?_
  repeat (refine AW_seq ?_)
  refine reg ?_
  refine run 2 ?_
  refine call (fun _ => c0) ?_
  refine run 2 ?_
  refine run 2 ?_
  refine call (fun _ => c1) ?_
  refine run 2 ?_
  refine fin [0, 1, 2, 3, 4, 33] [] ?_
  repeat (refine AW_seq ?_)
  refine tstF ?_
  refine AW_skip ?_
  repeat (refine AW_seq ?_)
  refine reg ?_
  refine run 2 ?_
  refine run 2 ?_
  refine call (fun _ => c2) ?_
  refine run 2 ?_
  refine run 2 ?_
  refine run 1 ?_
  refine fin [0, 1, 2, 3, 4, 11, 12] [] ?_
  repeat (refine AW_seq ?_)
  refine reg ?_
  refine run 2 ?_
  refine run 2 ?_
  refine run 2 ?_
  refine run 1 ?_
  refine fin [0, 1, 2, 3, 4, 11, 49] [] ?_
  repeat (refine AW_seq ?_)
  refine tstT ?_
  repeat (refine AW_seq ?_)
  refine reg ?_
  refine call (fun _ => awake_true) ?_
  refine run 1 ?_
  refine fin [10] [] ?_
  refine AW_ret (ret ?_)
  rfl

theorem swaps_yes (n u v b : Nat) (l : List Ed) (h : smallB n l = true) (hn : n ≤ 1024) (hF : IsF n l) (hu : u < n) (hv : v < n) (hb : b ≤ 255) (p : List Ed) (hw : Walk l u p v) (hp : p.Nodup) (hpos : 0 < p.length) : ACalls Try.prog 3 [iPV n, .sl (l.map edPV), iPV u, iPV v, .v (.int .u8 b)] (bPV true) := by
  refine ent Try.func3 ?_
  have c0 := small_any n l
  rw [h] at c0
  obtain ⟨hl, hn30⟩ := small_le h hn
  clear h
  have c1 := gRight_yes n hn l (by omega) hF
  have c2 := path_yes n u v hn l (by omega) hF hu hv p hw hp
  have hpl : p.length ≤ 30 := by have := edge_len l p hp hw.mem; omega
  have hq : ((b : Int).tmod (p.length : Int)) = ((b % p.length : Nat) : Int) := rfl
  obtain ⟨q, eq⟩ : ∃ q, b % p.length = q := ⟨_, rfl⟩
  have hq2 : q < p.length := by rw [← eq]; exact Nat.mod_lt _ hpos
  rw [eq] at hq
  obtain ⟨g, hg, gg⟩ := getD_at hq2
  obtain ⟨s1, s2, s3, s4⟩ := swap_main hF hu hv hw hp (List.mem_of_getElem? hg)
  have hno : ¬ IsFi n (l ++ [⟨u, v, 0⟩]) := fun g' => IsF.no (e := ⟨u, v, 0⟩) hw.con ((isFi_nat hn).1 g')
  have c3 := gRight_no n (l ++ [⟨u, v, 0⟩]) (by simp; omega) hno
  have hl0 : ((p.length : Int) == 0) = false := by rw [beq_eq_false_iff_ne]; omega
  have hlr : (less l g).length ≤ l.length := List.length_filter_le _ _
  have c4 := path_none n u v hn (less l g) (by omega) s1 hu hv s2
  have c5 := ofYes n hn l (by omega) hF.1
  have c6 := ofYes n hn (less l g ++ [⟨u, v, 0⟩]) (by simp; omega) s3.1
  rw [s4] at c6
  have c7 := gRight_yes n hn (less l g ++ [⟨u, v, 0⟩]) (by simp; omega) s3
  have hPl := partR_len n l
  obtain ⟨P, eP⟩ : ∃ zz, partR n l = zz := ⟨_, rfl⟩
  rw [eP] at c5 c6 hPl
  have c8 := same_any P P (by omega) (by omega)
  rw [decide_eq_true rfl] at c8
  clear hF hw hp hno s1 s2 s3 s4 hg eq eP
  have mM1 : l.map edPV ++ [PV.agg [PV.v (.int .i64 (u : Int)), PV.v (.int .i64 (v : Int)), PV.v (.int .i64 0)]] = (l ++ [(⟨u, v, 0⟩ : Ed)]).map edPV := by rw [List.map_append]; rfl
  have lM1 : (l ++ [(⟨u, v, 0⟩ : Ed)]).length = l.length + 1 := by rw [List.length_append]; rfl
  obtain ⟨M1, eM1⟩ : ∃ zz, l ++ [(⟨u, v, 0⟩ : Ed)] = zz := ⟨_, rfl⟩
  rw [eM1] at c3 mM1 lM1
  clear eM1
  have mM2 : (less l g).map edPV ++ [PV.agg [PV.v (.int .i64 (u : Int)), PV.v (.int .i64 (v : Int)), PV.v (.int .i64 0)]] = (less l g ++ [(⟨u, v, 0⟩ : Ed)]).map edPV := by rw [List.map_append]; rfl
  have lM2 : (less l g ++ [(⟨u, v, 0⟩ : Ed)]).length = (less l g).length + 1 := by rw [List.length_append]; rfl
  obtain ⟨M2, eM2⟩ : ∃ zz, less l g ++ [(⟨u, v, 0⟩ : Ed)] = zz := ⟨_, rfl⟩
  rw [eM2] at c6 c7 mM2 lM2
  clear eM2
  obtain ⟨rs, ers⟩ : ∃ zz, less l g = zz := ⟨_, rfl⟩
  rw [ers] at c4 mM2 lM2 hlr
  obtain ⟨gu, gv, gt⟩ := g
  obtain ⟨ers, -⟩ : Go.RowKit.Hid (less l ⟨gu, gv, gt⟩ = rs) ∧ True := ⟨ers, trivial⟩
  rename_i ers0
  clear ers0
  repeat (refine AW_seq ?_)
  refine reg ?_
  refine run 1 ?_
  refine fin [0, 1, 2, 3, 4] [] ?_
  repeat (refine AW_seq ?_)
  refine reg ?_
  refine run 2 ?_
  refine call (fun _ => c0) ?_
  refine run 2 ?_
  refine run 2 ?_
  refine call (fun _ => c1) ?_
  refine run 2 ?_
  refine fin [0, 1, 2, 3, 4, 33] [] ?_
  repeat (refine AW_seq ?_)
  refine tstF ?_
  refine AW_skip ?_
  repeat (refine AW_seq ?_)
  refine reg ?_
  refine run 2 ?_
  refine run 2 ?_
  refine call (fun _ => c2) ?_
  refine run 2 ?_
  refine run 2 ?_
  refine run 1 ?_
  refine fin [0, 1, 2, 3, 4, 11, 12] [] ?_
  repeat (refine AW_seq ?_)
  refine reg ?_
  refine run 2 ?_
  refine run 2 ?_
  refine run 2 ?_
  refine run 1 ?_
  refine fin [0, 1, 2, 3, 4, 11, 49] [] ?_
  repeat (refine AW_seq ?_)
  refine tstF ?_
  refine AW_skip ?_
  repeat (refine AW_seq ?_)
  refine reg ?_
  refine run 2 ?_
  refine run 2 ?_
  refine run 2 ?_
  refine run 2 ?_
  refine run 2 ?_
  refine fin [0, 1, 2, 3, 13] [(14, 0)] ?_
  repeat (refine AW_seq ?_)
  refine reg ?_
  refine run 1 ?_
  refine fin [0, 1, 2, 3, 13, 14] [(14, 0)] ?_
  refine seed 14 15 29 3 ?_
  repeat (refine AW_seq ?_)
  refine reg ?_
  refine run 2 ?_
  refine run 1 ?_
  refine fin [0, 1, 2, 3, 13, 14, 59, 60, 61] [(14, 0), (15, 0)] ?_
  repeat (refine AW_seq ?_)
  refine AW_block ?_
  refine AW_loops (ι := Nat × List Ed) (fun z => ⟨lk [(0, .c (iPV n)), (1, .c (.sl (l.map edPV))), (2, .c (iPV u)), (3, .c (iPV v)), (13, .ptr (14, 0) 1 0 0), (14, .own (15, 0) z.2.length), (59, .c (.sl (l.map edPV))), (60, .c (iPV l.length)), (61, .c (iPV z.1))], lkM ([((14, 0), some ⟨29, 3, [edPV (⟨gu, gv, gt⟩)], true, [], none⟩), ((15, 0), some ⟨29, 3, (z.2).map edPV, true, [], none⟩)]), lkG [] 1⟩) (fun z => z.1 ≤ l.length ∧ z.2.length ≤ z.1 ∧ z.2 = less (l.take z.1) ⟨gu, gv, gt⟩) (fun z => l.length - z.1) (0, []) ⟨Nat.zero_le _, Nat.le_refl _, rfl⟩ wk ?_
  rintro ⟨i, X⟩ ⟨hi, hX, hF⟩
  simp only at hi hX hF
  obtain ⟨hF, -⟩ : Go.RowKit.Hid (X = less (l.take i) ⟨gu, gv, gt⟩) ∧ True := ⟨hF, trivial⟩
  rename_i hF0
  clear hF0
  repeat (refine AW_seq ?_)
  refine reg ?_
  refine run 1 ?_
  refine fin [0, 1, 2, 3, 13, 14, 59, 60, 61, 62] [(14, 0), (15, 0)] ?_
  repeat (refine AW_seq ?_)
  refine tst (fun h3 => ?_) (fun h3 => ?_)
  · simp at h3
    obtain ⟨x, hx, gx⟩ := getD_at h3
    obtain ⟨xu, xv, xt⟩ := x
    have hbq := ed_beq ⟨xu, xv, xt⟩ ⟨gu, gv, gt⟩
    simp only at hbq
    obtain ⟨k, hk⟩ : ∃ k, decide ((⟨xu, xv, xt⟩ : Ed) = ⟨gu, gv, gt⟩) = k := ⟨_, rfl⟩
    rw [hk] at hbq
    obtain ⟨hk, -⟩ : Go.RowKit.Hid (decide ((⟨xu, xv, xt⟩ : Ed) = ⟨gu, gv, gt⟩) = k) ∧ True := ⟨hk, trivial⟩
    rename_i hk0
    clear hk0
    refine AW_skip ?_
    repeat (refine AW_seq ?_)
    refine AW_block ?_
    repeat (refine AW_seq ?_)
    refine reg ?_
    refine run 2 ?_
    refine run 2 ?_
    refine fin [0, 1, 2, 3, 13, 14, 16, 59, 60, 61] [(14, 0), (15, 0), (17, 1)] ?_
    repeat (refine AW_seq ?_)
    refine reg ?_
    refine run 2 ?_
    refine run 1 ?_
    refine fin [0, 1, 2, 3, 13, 14, 16, 59, 60, 61, 67] [(14, 0), (15, 0), (17, 1)] ?_
    repeat (refine AW_seq ?_)
    refine tst (fun h4 => ?_) (fun h4 => ?_)
    · skip
      have hk1 : k = false := by simpa using h4
      subst hk1
      obtain ⟨X2, eX2⟩ : ∃ zz, X ++ [(⟨xu, xv, xt⟩ : Ed)] = zz := ⟨_, rfl⟩
      have mX2 : X.map edPV ++ [PV.agg [PV.v (.int .i64 xu), PV.v (.int .i64 xv), PV.v (.int .i64 xt)]] = X2.map edPV := by rw [← eX2, List.map_append]; rfl
      have lX2 : X2.length = X.length + 1 := by rw [← eX2, List.length_append]; rfl
      obtain ⟨eX2, -⟩ : Go.RowKit.Hid (X ++ [(⟨xu, xv, xt⟩ : Ed)] = X2) ∧ True := ⟨eX2, trivial⟩
      rename_i eX20
      clear eX20
      repeat (refine AW_seq ?_)
      refine reg ?_
      refine run 2 ?_
      refine run 2 ?_
      refine run 1 ?_
      refine finN ?_
      refine kp [0, 1, 2, 3, 13, 14, 59, 60, 61] [(14, 0), (15, 0)] ?_
      repeat (refine AW_seq ?_)
      refine reg ?_
      refine run 2 ?_
      refine finN ?_
      exact ⟨(i + 1, X2), by show l.length - (i + 1) < l.length - i; omega, ⟨by show i + 1 ≤ _; omega, by show X2.length ≤ i + 1; omega, by
        show X2 = less (l.take (i + 1)) _
        rw [less_next hx, ← hF.out, if_neg (of_decide_eq_false hk.out), eX2.out]⟩, wk⟩
    · skip
      have hk1 : k = true := by simpa using h4
      subst hk1
      refine AW_skip ?_
      repeat (refine AW_seq ?_)
      refine reg ?_
      refine run 2 ?_
      refine finN ?_
      exact ⟨(i + 1, X), by show l.length - (i + 1) < l.length - i; omega, ⟨by show i + 1 ≤ _; omega, by show X.length ≤ i + 1; omega, by
        show X = less (l.take (i + 1)) _
        rw [less_next hx, ← hF.out, if_pos (of_decide_eq_true hk.out), List.append_nil]⟩, wk⟩
  · simp at h3
    have e1 : X = rs := by
      have := hF.out
      rw [List.take_of_length_le (by omega), ers.out] at this; exact this
    subst e1
    refine AW_exit ?_
    repeat (refine AW_seq ?_)
    refine reg ?_
    refine run 2 ?_
    refine run 2 ?_
    refine run 2 ?_
    refine run 2 ?_
    refine run 1 ?_
    refine call (fun _ => c3) ?_
    refine fin [0, 1, 2, 3, 14, 82] [(15, 0)] ?_
    repeat (refine AW_seq ?_)
    refine tstF ?_
    refine AW_skip ?_
    repeat (refine AW_seq ?_)
    refine dt 14 (15, 0) ?_
    refine reg ?_
    refine run 2 ?_
    refine run 2 ?_
    refine call (fun _ => c4) ?_
    refine run 2 ?_
    refine run 2 ?_
    refine run 1 ?_
    refine fin [0, 1, 2, 3, 14, 18] [(15, 0)] ?_
    repeat (refine AW_seq ?_)
    refine reg ?_
    refine opR ?_
    refine run 2 ?_
    refine run 2 ?_
    refine run 2 ?_
    refine run 2 ?_
    refine fin [0, 1, 18, 19] [(92, 1)] ?_
    repeat (refine AW_seq ?_)
    refine reg ?_
    refine run 2 ?_
    refine call (fun _ => c5) ?_
    refine run 2 ?_
    refine run 2 ?_
    refine run 1 ?_
    refine fin [0, 18, 19, 20] [(92, 1)] ?_
    repeat (refine AW_seq ?_)
    refine reg ?_
    refine run 2 ?_
    refine call (fun _ => c6) ?_
    refine run 2 ?_
    refine run 2 ?_
    refine run 1 ?_
    refine fin [0, 18, 19, 20, 22] [(92, 1)] ?_
    repeat (refine AW_seq ?_)
    refine reg ?_
    refine run 2 ?_
    refine run 2 ?_
    refine run 1 ?_
    refine call (fun _ => c7) ?_
    refine run 2 ?_
    refine run 2 ?_
    refine call (fun _ => c8) ?_
    refine run 2 ?_
    refine call (fun _ => awake_true) ?_
    refine run 2 ?_
    refine fin [10] [] ?_
    refine AW_ret (ret ?_)
    rfl

theorem swaps_any (n : Int) (l : List Ed) (u v b : Int) (hb : 0 ≤ b ∧ b ≤ 255) : ACalls Try.prog 3 [iPV n, .sl (l.map edPV), iPV u, iPV v, .v (.int .u8 b)] (bPV true) := by
  cases h : smallB n l with
  | false => exact swaps_big n l u v b h
  | true =>
    by_cases hF : IsFi n l
    · obtain ⟨k, rfl⟩ : ∃ k : Nat, n = k := ⟨n.toNat, by have := hF.1; omega⟩
      have hn : k ≤ 1024 := by have := hF.2.1; omega
      rw [isFi_nat hn] at hF
      have hl := (small_le h hn).1
      by_cases ho : 0 ≤ u ∧ u < k ∧ 0 ≤ v ∧ v < k
      · obtain ⟨a, rfl⟩ : ∃ a : Nat, u = a := ⟨u.toNat, by omega⟩
        obtain ⟨c, rfl⟩ : ∃ a : Nat, v = a := ⟨v.toNat, by omega⟩
        obtain ⟨d, rfl⟩ : ∃ a : Nat, b = a := ⟨b.toNat, by omega⟩
        by_cases hc : Con l (a : Int) c
        · obtain ⟨p, hw, hp⟩ := path_ex hF (by omega) hc
          rcases Nat.eq_zero_or_pos p.length with e | e
          · have c2 := path_yes k a c hn l (by omega) hF (by omega) (by omega) p hw hp
            rw [List.length_eq_zero_iff.1 e] at c2
            exact swaps_err k l a c d h hn hF 0 c2
          · exact swaps_yes k a c d l h hn hF (by omega) (by omega) (by omega) p hw hp e
        · exact swaps_err k l a c d h hn hF 3 (path_none k a c hn l (by omega) hF (by omega) (by omega) hc)
      · exact swaps_err k l u v b h hn hF 1 (path_arg k hn l (by omega) hF u v ho)
    · exact swaps_not n l u v b h hF

end Go.Proofs.Ytlhgjaogpeoaeaa