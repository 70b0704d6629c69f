/-
  Edges in order, and two lists of edges that are the same in some order, on plain data.
  Conditions: not too many edges.
-/
import Derived.Test.YteflkffebekjdaaTourL
namespace Go.Proofs.Yteflkffebekjdaa
open Go Go.Ab
set_option linter.unusedVariables false
set_option linter.unusedSimpArgs false

theorem drop_atE {l : List Ed} {i : Nat} {x : Ed} (h : l[i]? = some x) : l.drop i = x :: l.drop (i + 1) := by
  obtain ⟨h1, h2⟩ := List.getElem?_eq_some_iff.1 h
  rw [List.drop_eq_getElem_cons h1, h2]
def posn (x : Ed) (S : List Ed) : Nat → Nat
  | 0 => 0
  | j + 1 => if lessB x (S.getD j default) then posn x S j else j + 1
theorem posn_le (x : Ed) (S : List Ed) : ∀ n, posn x S n ≤ n
  | 0 => Nat.le_refl _
  | n + 1 => by rw [posn]; split; have := posn_le x S n; omega; exact Nat.le_refl _
def insE (x : Ed) (S : List Ed) : List Ed := S.take (posn x S S.length) ++ x :: S.drop (posn x S S.length)
def srtF (S : List Ed) : List Ed → List Ed
  | [] => S
  | x :: l => srtF (insE x S) l
def srt (l : List Ed) : List Ed := srtF [] l
theorem insE_perm (x : Ed) (S : List Ed) : (insE x S).Perm (x :: S) := by
  unfold insE
  refine List.perm_middle.trans ?_
  rw [List.take_append_drop]
theorem insE_len (x : Ed) (S : List Ed) : (insE x S).length = S.length + 1 := (insE_perm x S).length_eq
theorem srtF_perm : ∀ (l S : List Ed), (srtF S l).Perm (S ++ l)
  | [], S => by simp [srtF]
  | x :: l, S => by
    rw [srtF]
    refine (srtF_perm l _).trans ?_
    refine ((insE_perm x S).append_right l).trans ?_
    exact List.perm_middle.symm
theorem srt_perm (l : List Ed) : (srt l).Perm l := by simpa [srt] using srtF_perm l []
theorem srt_len (l : List Ed) : (srt l).length = l.length := (srt_perm l).length_eq
def leE (a b : Ed) : Prop := lessB b a = false
theorem less_tr {x y z : Ed} (h1 : lessB x y = false) (h2 : lessB y z = false) : lessB x z = false := by
  simp [lessB] at *; omega
theorem less_as {x y : Ed} (h : lessB x y = true) : lessB y x = false := by
  simp [lessB] at *; omega
theorem posn_hi {x : Ed} {S : List Ed} : ∀ {n k : Nat}, posn x S n ≤ k → k < n → lessB x (S.getD k default) = true
  | n + 1, k, h1, h2 => by
    rw [posn] at h1
    split at h1
    · rename_i h
      by_cases e : k = n
      · subst e; exact h
      · exact posn_hi h1 (by omega)
    · omega
theorem posn_lo {x : Ed} {S : List Ed} : ∀ {n : Nat}, 0 < posn x S n → lessB x (S.getD (posn x S n - 1) default) = false
  | 0, h => by cases h
  | n + 1, h => by
    rw [posn] at h ⊢
    split at h
    · rename_i e; rw [if_pos e]; exact posn_lo h
    · rename_i e; rw [if_neg e]; simpa using e
theorem insE_sorted {x : Ed} {S : List Ed} (h : S.Pairwise leE) : (insE x S).Pairwise leE := by
  have hp := posn_le x S S.length
  have hi := @posn_hi x S S.length
  have lo := @posn_lo x S S.length
  unfold insE
  obtain ⟨p, ep⟩ : ∃ p, posn x S S.length = p := ⟨_, rfl⟩
  rw [ep] at hp hi lo ⊢
  have hA : (S.take p).Pairwise leE := h.sublist (List.take_sublist _ _)
  have hB : (S.drop p).Pairwise leE := h.sublist (List.drop_sublist _ _)
  have hAB : ∀ a ∈ S.take p, ∀ b ∈ S.drop p, leE a b := by
    have := h
    rw [← List.take_append_drop p S] at this
    exact (List.pairwise_append.1 this).2.2
  have hx1 : ∀ a ∈ S.take p, leE a x := fun a ha => by
    obtain ⟨k, hk⟩ := List.getElem?_of_mem ha
    have hk1 := (List.getElem?_eq_some_iff.1 hk).1
    rw [List.length_take] at hk1
    rw [List.getElem?_take, if_pos (by omega)] at hk
    have h0 := lo (by omega)
    rcases Nat.lt_or_ge k (p - 1) with h1 | h1
    · have hpw := List.pairwise_iff_getElem.1 h k (p - 1) (by omega) (by omega) h1
      have e1 : S.getD (p - 1) default = S[p - 1]'(by omega) := by rw [List.getD_eq_getElem?_getD, List.getElem?_eq_getElem (by omega)]; rfl
      rw [e1] at h0
      have e2 : S[k]'(by omega) = a := by rw [List.getElem?_eq_getElem (by omega)] at hk; simpa using hk
      rw [e2] at hpw
      exact less_tr h0 hpw
    · obtain rfl : k = p - 1 := by omega
      rw [List.getD_eq_getElem?_getD, hk] at h0
      exact h0
  have hx2 : ∀ b ∈ S.drop p, leE x b := fun b hb => by
    obtain ⟨k, hk⟩ := List.getElem?_of_mem hb
    have hk1 := (List.getElem?_eq_some_iff.1 hk).1
    rw [List.length_drop] at hk1
    rw [List.getElem?_drop] at hk
    have h0 := hi (k := p + k) (by omega) (by omega)
    rw [List.getD_eq_getElem?_getD, hk] at h0
    exact less_as h0
  refine List.pairwise_append.2 ⟨hA, List.pairwise_cons.2 ⟨hx2, hB⟩, fun a ha b hb => ?_⟩
  rcases List.mem_cons.1 hb with rfl | hb
  · exact hx1 a ha
  · exact hAB a ha b hb
theorem srtF_sorted : ∀ (l S : List Ed), S.Pairwise leE → (srtF S l).Pairwise leE
  | [], S, h => h
  | x :: l, S, h => srtF_sorted l _ (insE_sorted h)
theorem srt_sorted (l : List Ed) : (srt l).Pairwise leE := srtF_sorted l [] List.Pairwise.nil
theorem uniqE : ∀ (a b : List Ed), a.Perm b → a.Pairwise leE → b.Pairwise leE → (∀ x ∈ a, ∀ y ∈ a, leE x y → leE y x → x = y) → a = b
  | [], b, h, _, _, _ => (List.nil_perm.1 h).symm ▸ rfl
  | x :: a, [], h, _, _, _ => by have := h.length_eq; simp at this
  | x :: a, y :: b, h, h1, h2, hu => by
    obtain ⟨p1, p2⟩ := List.pairwise_cons.1 h1
    obtain ⟨q1, q2⟩ := List.pairwise_cons.1 h2
    have e : x = y := by
      have hx : x ∈ y :: b := h.mem_iff.1 List.mem_cons_self
      have hy : y ∈ x :: a := h.mem_iff.2 List.mem_cons_self
      rcases List.mem_cons.1 hx with e | hx'
      · exact e
      · rcases List.mem_cons.1 hy with e | hy'
        · exact e.symm
        · exact hu x List.mem_cons_self y hy (p1 y hy') (q1 x hx')
    subst e
    rw [uniqE a b (List.Perm.cons_inv h) p2 q2 (fun u hu' v hv => hu u (List.mem_cons_of_mem _ hu') v (List.mem_cons_of_mem _ hv))]
def Flat0 (l : List Ed) : Prop := ∀ e ∈ l, e.t = 0
theorem srt_eq {a b : List Ed} (h : a.Perm b) (h0 : Flat0 a) : srt a = srt b := by
  have hp : (srt a).Perm (srt b) := (srt_perm a).trans (h.trans (srt_perm b).symm)
  refine uniqE _ _ hp (srt_sorted a) (srt_sorted b) fun x hx y hy h1 h2 => ?_
  have hx' := h0 x ((srt_perm a).mem_iff.1 hx)
  have hy' := h0 y ((srt_perm a).mem_iff.1 hy)
  obtain ⟨xu, xv, xt⟩ := x
  obtain ⟨yu, yv, yt⟩ := y
  simp only at hx' hy'
  subst hx'; subst hy'
  simp [leE, lessB] at h1 h2
  have : xu = yu ∧ xv = yv := by omega
  rw [this.1, this.2]
theorem edges_flat (t : List Int) : Flat0 (edges t) := fun e he => by
  unfold edges at he
  obtain ⟨x, -, rfl⟩ := List.mem_map.1 he
  rfl

theorem sameE_any (l : List Ed) (hl : l.length < 1099511627776) : ACalls Try.prog 36 [.sl (l.map edPV), .sl (l.map edPV)] (bPV true) := by
  refine ent Try.func36 ?_
  repeat (refine AW_seq ?_)
  refine reg ?_
  refine run 1 ?_
  refine fin [0, 1] [] ?_
  repeat (refine AW_seq ?_)
  refine reg ?_
  refine run 2 ?_
  refine run 2 ?_
  refine run 1 ?_
  refine fin [0, 1, 10] [] ?_
  repeat (refine AW_seq ?_)
  refine tstF ?_
  refine AW_skip ?_
  repeat (refine AW_seq ?_)
  refine reg ?_
  refine run 1 ?_
  refine fin [0, 1, 5] [] ?_
  repeat (refine AW_seq ?_)
  refine AW_block ?_
  refine AW_loops (ι := Nat) (fun i => ⟨lk [(0, .c (.sl (l.map edPV))), (1, .c (.sl (l.map edPV))), (5, .c (iPV i))], lkM [], lkG [] 0⟩) (fun i => i ≤ l.length) (fun i => l.length - i) 0 (Nat.zero_le _) wk ?_
  rintro i hi
  repeat (refine AW_seq ?_)
  refine reg ?_
  refine run 2 ?_
  refine run 2 ?_
  refine fin [0, 1, 5, 14] [] ?_
  repeat (refine AW_seq ?_)
  refine tst (fun h2 => ?_) (fun h2 => ?_)
  · simp at h2
    refine AW_skip ?_
    repeat (refine AW_seq ?_)
    refine AW_block ?_
    repeat (refine AW_seq ?_)
    refine reg ?_
    refine run 2 ?_
    refine run 2 ?_
    refine run 2 ?_
    refine run 2 ?_
    refine run 1 ?_
    refine fin [0, 1, 5, 25] [] ?_
    repeat (refine AW_seq ?_)
    refine tstF ?_
    refine AW_skip ?_
    repeat (refine AW_seq ?_)
    refine reg ?_
    refine run 2 ?_
    refine run 1 ?_
    refine finN ?_
    exact ⟨i + 1, by omega, by omega, wk⟩
  · simp at h2
    refine AW_exit ?_
    repeat (refine AW_seq ?_)
    refine reg ?_
    refine run 1 ?_
    refine fin [4] [] ?_
    refine AW_ret (ret ?_)
    rfl

theorem sortE_any (l : List Ed) (hl : l.length < 274877906944) : ACalls Try.prog 37 [.sl (l.map edPV)] (.sl ((srt l).map edPV)) := by
  refine ent Try.func37 ?_
  obtain ⟨T, hT⟩ : ∃ T, srt l = T := ⟨_, rfl⟩
  rw [hT]
  rw [srt] at hT
  obtain ⟨hT, -⟩ : Go.RowKit.Hid (srtF [] l = T) ∧ True := ⟨hT, trivial⟩
  rename_i hT0
  clear hT0
  repeat (refine AW_seq ?_)
  refine reg ?_
  refine run 1 ?_
  refine fin [0] [] ?_
  repeat (refine AW_seq ?_)
  refine reg ?_
  refine run 1 ?_
  refine fin [0, 3] [] ?_
  refine dat 3 ?_
  repeat (refine AW_seq ?_)
  refine reg ?_
  refine run 1 ?_
  refine fin [0, 3, 4] [] ?_
  repeat (refine AW_seq ?_)
  refine AW_block ?_
  refine AW_loops (ι := Nat × List Ed) (fun z => ⟨lk [(0, .c (.sl (l.map edPV))), (3, .c (.sl (z.2.map edPV))), (4, .c (iPV z.1))], lkM [], lkG [] 0⟩) (fun z => z.1 ≤ l.length ∧ z.2.length ≤ z.1 ∧ srtF z.2 (l.drop z.1) = T) (fun z => l.length - z.1) (0, []) ⟨Nat.zero_le _, Nat.le_refl _, hT.out⟩ wk ?_
  rintro ⟨i, S⟩ ⟨hi, hSl, hR⟩
  simp only at hi hSl hR
  obtain ⟨hR, -⟩ : Go.RowKit.Hid (srtF S (l.drop i) = T) ∧ True := ⟨hR, trivial⟩
  rename_i hR0
  clear hR0
  repeat (refine AW_seq ?_)
  refine reg ?_
  refine run 2 ?_
  refine run 2 ?_
  refine fin [0, 3, 4, 10] [] ?_
  repeat (refine AW_seq ?_)
  refine tst (fun h1 => ?_) (fun h1 => ?_)
  · simp at h1
    obtain ⟨x, hx, gx⟩ := getD_at h1
    refine AW_skip ?_
    repeat (refine AW_seq ?_)
    refine AW_block ?_
    repeat (refine AW_seq ?_)
    refine reg ?_
    refine run 2 ?_
    refine run 1 ?_
    refine fin [0, 3, 4, 5] [] ?_
    repeat (refine AW_seq ?_)
    refine AW_block ?_
    refine AW_loops (ι := Nat) (fun j => ⟨lk [(0, .c (.sl (l.map edPV))), (3, .c (.sl (S.map edPV))), (4, .c (iPV i)), (5, .c (iPV j))], lkM [], lkG [] 0⟩) (fun j => j ≤ S.length ∧ posn x S S.length = posn x S j) (fun j => j) S.length ⟨Nat.le_refl _, rfl⟩ wk ?_
    rintro j ⟨hj, hp⟩
    obtain ⟨hp, -⟩ : Go.RowKit.Hid (posn x S S.length = posn x S j) ∧ True := ⟨hp, trivial⟩
    rename_i hp0
    clear hp0
    cases j with
    | zero =>
      repeat (refine AW_seq ?_)
      have h00 : ((0 : Nat) : Int) = 0 := rfl
      refine reg ?_
      refine run 2 ?_
      refine run 2 ?_
      refine run 2 ?_
      refine run 2 ?_
      refine run 2 ?_
      refine run 2 ?_
      refine skpV (.c (.v (.bool false))) ?_
      refine run 1 ?_
      refine fin [0, 3, 4, 5, 28] [] ?_
      repeat (refine AW_seq ?_)
      refine tstF ?_
      refine AW_exit ?_
      repeat (refine AW_seq ?_)
      obtain ⟨S2, hS2⟩ : ∃ k, x :: S = k := ⟨_, rfl⟩
      have hS2m : PV.agg [PV.v (.int .i64 x.u), PV.v (.int .i64 x.v), PV.v (.int .i64 x.t)] :: S.map edPV = S2.map edPV := by rw [← hS2]; rfl
      have hS2l : 1 + S.length = S2.length := by rw [← hS2, List.length_cons]; omega
      have hF : insE x S = S2 := by rw [insE, hp.out, posn, ← hS2]; rfl
      obtain ⟨hF, -⟩ : Go.RowKit.Hid (insE x S = S2) ∧ True := ⟨hF, trivial⟩
      rename_i hF0
      clear hF0
      clear hS2
      refine reg ?_
      refine run 1 ?_
      refine fin [0, 3, 4, 5, 6] [] ?_
      repeat (refine AW_seq ?_)
      refine reg ?_
      refine run 2 ?_
      refine run 2 ?_
      refine run 2 ?_
      refine fin [0, 3, 4, 5, 6] [(36, 0)] ?_
      repeat (refine AW_seq ?_)
      refine reg ?_
      refine run 2 ?_
      refine run 2 ?_
      refine run 2 ?_
      refine run 2 ?_
      refine fin [0, 3, 4, 5, 6] [(36, 0)] ?_
      repeat (refine AW_seq ?_)
      refine reg ?_
      refine run 2 ?_
      refine run 2 ?_
      refine run 2 ?_
      refine finN ?_
      refine kp [0, 3, 4] [(36, 0)] ?_
      refine dt 3 (36, 0) ?_
      repeat (refine AW_seq ?_)
      refine reg ?_
      refine run 2 ?_
      refine run 1 ?_
      refine finN ?_
      exact ⟨(i + 1, S2), by show l.length - (i + 1) < l.length - i; omega, ⟨by show i + 1 ≤ _; omega, by show S2.length ≤ i + 1; omega, by show srtF S2 (l.drop (i + 1)) = T; rw [← hR.out, drop_atE hx, srtF, hF.out]⟩, wk⟩
    | succ j =>
      repeat (refine AW_seq ?_)
      have hpos : decide ((0 : Int) < ((j + 1 : Nat) : Int)) = true := by first | (simp; done) | (simp; omega)
      have hj1 : ((j + 1 : Nat) : Int) - 1 = ((j : Nat) : Int) := by omega
      obtain ⟨y, hy, gy⟩ := getD_at (l := S) (i := j) (by omega)
      have hless := less'_any x y
      obtain ⟨R, eR⟩ : ∃ k, lessB x y = k := ⟨_, rfl⟩
      rw [eR] at hless
      obtain ⟨eR, -⟩ : Go.RowKit.Hid (lessB x y = R) ∧ True := ⟨eR, trivial⟩
      rename_i eR0
      clear eR0
      refine reg ?_
      refine run 2 ?_
      refine run 2 ?_
      refine run 2 ?_
      refine run 2 ?_
      refine run 2 ?_
      refine run 2 ?_
      refine call (fun _ => hless) ?_
      refine run 1 ?_
      refine fin [0, 3, 4, 5, 28] [] ?_
      repeat (refine AW_seq ?_)
      refine tst (fun h2 => ?_) (fun h2 => ?_)
      · skip
        have hF : posn x S S.length = posn x S j := by rw [hp.out, posn, gy, eR.out, if_pos h2]
        obtain ⟨hF, -⟩ : Go.RowKit.Hid (posn x S S.length = posn x S j) ∧ True := ⟨hF, trivial⟩
        rename_i hF0
        clear hF0
        refine AW_skip ?_
        repeat (refine AW_seq ?_)
        refine AW_block ?_
        repeat (refine AW_seq ?_)
        refine reg ?_
        refine run 2 ?_
        refine run 1 ?_
        refine finN ?_
        exact ⟨j, by omega, ⟨by omega, hF.out⟩, wk⟩
      · skip
        have hq : posn x S (j + 1) = j + 1 := by rw [posn, gy, eR.out, if_neg (by rw [h2]; simp)]
        obtain ⟨hq, -⟩ : Go.RowKit.Hid (posn x S (j + 1) = j + 1) ∧ True := ⟨hq, trivial⟩
        rename_i hq0
        clear hq0
        have hk1 : (((j + 1 : Nat) : Int)).toNat = j + 1 := by omega
        obtain ⟨A, hA⟩ : ∃ A, S.take (j + 1) = A := ⟨_, rfl⟩
        obtain ⟨B, hB⟩ : ∃ B, S.drop (j + 1) = B := ⟨_, rfl⟩
        have hAm : (S.map edPV).take (j + 1) = A.map edPV := by rw [← hA, List.map_take]
        have hBm : (S.map edPV).drop (j + 1) = B.map edPV := by rw [← hB, List.map_drop]
        have hAl : A.length ≤ S.length := by rw [← hA, List.length_take]; omega
        have hBl : B.length ≤ S.length := by rw [← hB, List.length_drop]; omega
        obtain ⟨S2, hS2⟩ : ∃ k, A ++ x :: B = k := ⟨_, rfl⟩
        obtain ⟨A2, hA2⟩ : ∃ k, A ++ [x] = k := ⟨_, rfl⟩
        have hA2m : A.map edPV ++ [PV.agg [PV.v (.int .i64 x.u), PV.v (.int .i64 x.v), PV.v (.int .i64 x.t)]] = A2.map edPV := by rw [← hA2, List.map_append]; rfl
        have hA2l : A.length + 1 = A2.length := by rw [← hA2, List.length_append]; rfl
        have hS2m : A2.map edPV ++ B.map edPV = S2.map edPV := by rw [← hS2, ← hA2, ← List.map_append]; simp
        have hS2l : A2.length + B.length = S2.length := by rw [← hS2, ← hA2]; simp; omega
        have hF : insE x S = S2 := by rw [insE, hp.out, hq.out, hA, hB, hS2]
        have hS2e : S2.length = S.length + 1 := by rw [← hF, insE_len]
        obtain ⟨hF, -⟩ : Go.RowKit.Hid (insE x S = S2) ∧ True := ⟨hF, trivial⟩
        rename_i hF0
        clear hF0
        clear hA hB hA2 hS2
        refine AW_exit ?_
        repeat (refine AW_seq ?_)
        refine reg ?_
        refine run 1 ?_
        refine fin [0, 3, 4, 5, 6] [] ?_
        repeat (refine AW_seq ?_)
        refine reg ?_
        refine run 2 ?_
        refine run 2 ?_
        refine run 2 ?_
        refine fin [0, 3, 4, 5, 6] [(36, 0)] ?_
        repeat (refine AW_seq ?_)
        refine reg ?_
        refine run 2 ?_
        refine run 2 ?_
        refine run 2 ?_
        refine run 2 ?_
        refine fin [0, 3, 4, 5, 6] [(36, 0)] ?_
        repeat (refine AW_seq ?_)
        refine reg ?_
        refine run 2 ?_
        refine run 2 ?_
        refine run 2 ?_
        refine finN ?_
        refine kp [0, 3, 4] [(36, 0)] ?_
        refine dt 3 (36, 0) ?_
        repeat (refine AW_seq ?_)
        refine reg ?_
        refine run 2 ?_
        refine run 1 ?_
        refine finN ?_
        exact ⟨(i + 1, S2), by show l.length - (i + 1) < l.length - i; omega, ⟨by show i + 1 ≤ _; omega, by show S2.length ≤ i + 1; omega, by show srtF S2 (l.drop (i + 1)) = T; rw [← hR.out, drop_atE hx, srtF, hF.out]⟩, wk⟩
  · simp at h1
    refine AW_exit ?_
    repeat (refine AW_seq ?_)
    refine reg ?_
    refine run 2 ?_
    refine fin [2] [] ?_
    refine AW_ret (ret ?_)
    have e1 : T = S := by rw [← hR.out, List.drop_of_length_le (by omega)]; rfl
    rw [e1]

theorem edgesL_any (a b : List Ed) (ha : a.length < 274877906944) (hb : b.length < 274877906944) (h : srt a = srt b) : ACalls Try.prog 18 [.sl (a.map edPV), .sl (b.map edPV)] (bPV true) := by
  refine ent Try.func18 ?_
  have h1 := sortE_any a ha
  have h2 := sortE_any b hb
  have hl := srt_len b
  rw [h] at h1
  have h3 := sameE_any (srt b) (by omega)
  obtain ⟨T, eT⟩ : ∃ k, srt b = k := ⟨_, rfl⟩
  rw [eT] at h1 h2 h3
  clear h eT hl
  repeat (refine AW_seq ?_)
  refine reg ?_
  refine run 1 ?_
  refine fin [0, 1] [] ?_
  repeat (refine AW_seq ?_)
  refine reg ?_
  refine run 1 ?_
  refine call (fun _ => h1) ?_
  refine run 1 ?_
  refine call (fun _ => h2) ?_
  refine call (fun _ => h3) ?_
  refine run 1 ?_
  refine fin [4] [] ?_
  refine AW_ret (ret ?_)
  rfl

end Go.Proofs.Yteflkffebekjdaa