/-
  The law NameOrder on plain data: sorted edges stay, stand in order, and each is there as often as it was.
  Conditions: none.
-/
import Derived.Test.YtgkajfmjpobenaaNameY
import Derived.Test.YtgkajfmjpobenaaNameK
namespace Go.Proofs.Ytgkajfmjpobenaa
open Go Go.Ab
set_option linter.unusedVariables false
set_option linter.unusedSimpArgs false

def eqE (x y : Ed) : Bool := x.u == y.u && (x.v == y.v && x.t == y.t)
def cntE (x : Ed) (l : List Ed) : Nat := l.countP fun y => eqE y x
theorem cnt_next (x : Ed) (l : List Ed) (k : Nat) (h : k < l.length) : cntE x (l.take (k + 1)) = cntE x (l.take k) + (if eqE (l.getD k default) x = true then 1 else 0) := by
  have e : l.getD k default = l[k] := by rw [List.getD_eq_getElem?_getD, List.getElem?_eq_getElem h]; rfl
  unfold cntE
  rw [List.take_succ_eq_append_getElem h, List.countP_append, e]
  simp [List.countP_cons]

theorem same_any (l : List Ed) (hl : l.length < 1099511627776) : ACalls Try.prog 15 [edsPV l, edsPV l] (bPV true) := by
  refine ent Try.func15 ?_
  repeat (refine AW_seq ?_)
  refine reg ?_
  refine run 1 ?_
  refine fin [0, 1] [] ?_
  repeat (refine AW_seq ?_)
  refine reg ?_
  refine run 5 ?_
  refine fin [0, 1, 10] [] ?_
  repeat (refine AW_seq ?_)
  refine tstF ?_
  refine AW_skip ?_
  repeat (refine AW_seq ?_)
  refine reg ?_
  refine run 1 ?_
  refine fin [0, 1, 5] [] ?_
  repeat (refine AW_seq ?_)
  refine AW_block ?_
  refine AW_loops (ι := Nat) (fun i => ⟨lk [(0, .c (edsPV l)), (1, .c (edsPV l)), (5, .c (iPV i))], lkM [], lkG [] 0⟩) (fun i => i ≤ l.length) (fun i => l.length - i) 0 (Nat.zero_le _) wk ?_
  rintro i hi
  repeat (refine AW_seq ?_)
  refine reg ?_
  refine run 4 ?_
  refine fin [0, 1, 5, 14] [] ?_
  repeat (refine AW_seq ?_)
  refine tst (fun h2 => ?_) (fun h2 => ?_)
  · simp at h2
    refine AW_skip ?_
    repeat (refine AW_seq ?_)
    refine AW_block ?_
    repeat (refine AW_seq ?_)
    refine reg ?_
    refine run 9 ?_
    refine fin [0, 1, 5, 25] [] ?_
    repeat (refine AW_seq ?_)
    refine tstF ?_
    refine AW_skip ?_
    repeat (refine AW_seq ?_)
    refine reg ?_
    refine run 3 ?_
    refine finN ?_
    exact ⟨i + 1, by omega, by omega, wk⟩
  · simp at h2
    refine AW_exit ?_
    repeat (refine AW_seq ?_)
    refine reg ?_
    refine run 1 ?_
    refine fin [4] [] ?_
    refine AW_ret (ret ?_)
    rfl

theorem nameOrder_any (l : List Ed) : ACalls Try.prog 5 [edsPV l] (bPV true) := by
  refine ent Try.func5 ?_
  repeat (refine AW_seq ?_)
  refine reg ?_
  refine run 1 ?_
  refine fin [0] [] ?_
  repeat (refine AW_seq ?_)
  refine reg ?_
  refine run 3 ?_
  refine fin [0, 11] [] ?_
  repeat (refine AW_seq ?_)
  refine tst (fun h1 => ?_) (fun h1 => ?_)
  · simp at h1
    repeat (refine AW_seq ?_)
    refine reg ?_
    refine call (fun _ => awake_true) ?_
    refine run 1 ?_
    refine fin [2] [] ?_
    refine AW_ret (ret ?_)
    rfl
  · simp at h1
    have hl : l.length < 1099511627776 := by omega
    obtain ⟨hp, ho, -⟩ := ssort_spec lessB_rank l
    obtain ⟨S, hS⟩ : ∃ S, ssort lessB l = S := ⟨_, rfl⟩
    rw [hS] at hp ho
    have hlen : S.length = l.length := hp.length_eq
    have hl2 : S.length < 1099511627776 := by omega
    have hSS : ssort lessB S = S := (ssort_spec lessB_rank S).2.2 ho
    have hcnt : ∀ x, cntE x S = cntE x l := fun x => hp.countP_eq _
    refine AW_skip ?_
    repeat (refine AW_seq ?_)
    refine reg ?_
    refine run 1 ?_
    refine call (fun _ => sort_any l hl) ?_
    refine run 1 ?_
    refine fin [0, 3] [] ?_
    repeat (refine AW_seq ?_)
    refine reg ?_
    refine run 7 ?_
    refine call (fun _ => hSS ▸ sort_any S hl2) ?_
    refine run 1 ?_
    refine call (fun _ => same_any S hl2) ?_
    refine run 2 ?_
    refine fin [0, 3, 26] [] ?_
    repeat (refine AW_seq ?_)
    refine tstF ?_
    refine AW_skip ?_
    repeat (refine AW_seq ?_)
    refine reg ?_
    refine run 3 ?_
    refine fin [0, 3, 27, 28, 29] [] ?_
    repeat (refine AW_seq ?_)
    refine AW_block ?_
    refine AW_loops (ι := Nat) (fun i => ⟨lk [(0, .c (edsPV l)), (3, .c (edsPV S)), (27, .c (edsPV S)), (28, .c (iPV S.length)), (29, .c (iPV i))], lkM [], lkG [] 1⟩) (fun i => i ≤ S.length) (fun i => S.length - i) 0 (Nat.zero_le _) wk ?_
    rintro i hi
    repeat (refine AW_seq ?_)
    refine reg ?_
    refine run 1 ?_
    refine fin [0, 3, 27, 28, 29, 30] [] ?_
    repeat (refine AW_seq ?_)
    refine tst (fun h3 => ?_) (fun h3 => ?_)
    · simp at h3
      have ei : ((i : Int) - 1).toNat = i - 1 := by omega
      refine AW_skip ?_
      repeat (refine AW_seq ?_)
      refine AW_block ?_
      repeat (refine AW_seq ?_)
      refine reg ?_
      refine run 6 ?_
      refine fin [0, 3, 4, 5, 27, 28, 29] [(6, 1)] ?_
      repeat (refine AW_seq ?_)
      refine reg ?_
      refine run 9 ?_
      refine call (fun _ => less_any (S.getD i default) (S.getD (i - 1) default)) ?_
      refine run 1 ?_
      refine fin [0, 3, 5, 27, 28, 29, 44] [(6, 1)] ?_
      repeat (refine AW_seq ?_)
      refine tst (fun h4 => ?_) (fun h4 => ?_)
      · exfalso
        simp at h4
        have g := ho.get (show i - 1 < i by omega) (by omega) default
        simp at g
        rw [g] at h4; simp at h4
      · simp at h4
        refine AW_skip ?_
        repeat (refine AW_seq ?_)
        refine reg ?_
        refine run 2 ?_
        refine fin [0, 3, 5, 6, 7, 27, 28, 29] [(6, 1)] ?_
        repeat (refine AW_seq ?_)
        refine reg ?_
        refine run 3 ?_
        refine fin [0, 3, 5, 6, 7, 27, 28, 29, 46, 47] [(6, 1)] ?_
        repeat (refine AW_seq ?_)
        refine AW_block ?_
        refine AW_loops (ι := Nat) (fun k => ⟨lk [(0, .c (edsPV l)), (3, .c (edsPV S)), (5, .ptr (6, 1) 1 0 0), (6, .c (iPV (cntE (S.getD i default) (l.take k) : Nat))), (7, .c (iPV (cntE (S.getD i default) (S.take k) : Nat))), (27, .c (edsPV S)), (28, .c (iPV S.length)), (29, .c (iPV i)), (46, .c (iPV l.length)), (47, .c (iPV k))], lkM [((6, 1), some ⟨24, 3, [edPV (S.getD i default)], true⟩)], lkG [] 3⟩) (fun k => k ≤ l.length) (fun k => l.length - k) 0 (Nat.zero_le _) wk ?_
        rintro k hk
        have b1 : cntE (S.getD i default) (l.take k) ≤ l.length := Nat.le_trans List.countP_le_length (by simp; omega)
        have b2 : cntE (S.getD i default) (S.take k) ≤ l.length := Nat.le_trans List.countP_le_length (by simp; omega)
        repeat (refine AW_seq ?_)
        refine reg ?_
        refine run 1 ?_
        refine fin [0, 3, 5, 6, 7, 27, 28, 29, 46, 47, 48] [(6, 1)] ?_
        repeat (refine AW_seq ?_)
        refine tst (fun h5 => ?_) (fun h5 => ?_)
        · simp at h5
          have c1 := cnt_next (S.getD i default) l k (by omega)
          have c2 := cnt_next (S.getD i default) S k (by omega)
          refine AW_skip ?_
          repeat (refine AW_seq ?_)
          refine AW_block ?_
          repeat (refine AW_seq ?_)
          refine reg ?_
          refine run 2 ?_
          refine fin [0, 3, 5, 6, 7, 8, 27, 28, 29, 46, 47] [(6, 1)] ?_
          repeat (refine AW_seq ?_)
          refine reg ?_
          refine run 6 ?_
          refine fin [0, 3, 5, 6, 7, 8, 27, 28, 29, 46, 47, 55] [(6, 1)] ?_
          refine join (ι := Unit) (fun _ => ⟨lk [(0, .c (edsPV l)), (3, .c (edsPV S)), (5, .ptr (6, 1) 1 0 0), (6, .c (iPV (cntE (S.getD i default) (l.take (k + 1)) : Nat))), (7, .c (iPV (cntE (S.getD i default) (S.take k) : Nat))), (8, .c (iPV k)), (27, .c (edsPV S)), (28, .c (iPV S.length)), (29, .c (iPV i)), (46, .c (iPV l.length)), (47, .c (iPV k))], lkM [((6, 1), some ⟨24, 3, [edPV (S.getD i default)], true⟩)], lkG [] 3⟩) (fun _ => True) ?_ ?_
          · skip
            repeat (refine AW_seq ?_)
            refine tst (fun h6 => ?_) (fun h6 => ?_)
            · skip
              have h6' : eqE (l.getD k default) (S.getD i default) = true := h6
              repeat (refine AW_seq ?_)
              refine reg ?_
              refine run 3 ?_
              refine finN ?_
              rw [h6', if_pos rfl] at c1
              exact ⟨(), trivial, wk⟩
            · skip
              have h6' : eqE (l.getD k default) (S.getD i default) = false := h6
              refine AW_skip ?_
              rw [h6', if_neg Bool.false_ne_true] at c1
              exact ⟨(), trivial, wk⟩
          rintro ⟨⟩ -
          repeat (refine AW_seq ?_)
          refine reg ?_
          refine run 6 ?_
          refine fin [0, 3, 5, 6, 7, 27, 28, 29, 46, 47, 63] [(6, 1)] ?_
          repeat (refine AW_seq ?_)
          refine tst (fun h7 => ?_) (fun h7 => ?_)
          · skip
            have h7' : eqE (S.getD k default) (S.getD i default) = true := h7
            repeat (refine AW_seq ?_)
            refine reg ?_
            refine run 3 ?_
            refine finN ?_
            refine kp [0, 3, 5, 6, 7, 27, 28, 29, 46, 47] [(6, 1)] ?_
            repeat (refine AW_seq ?_)
            refine reg ?_
            refine run 2 ?_
            refine finN ?_
            rw [h7', if_pos rfl] at c2
            exact ⟨k + 1, by omega, by omega, wk⟩
          · skip
            have h7' : eqE (S.getD k default) (S.getD i default) = false := h7
            refine AW_skip ?_
            repeat (refine AW_seq ?_)
            refine reg ?_
            refine run 2 ?_
            refine finN ?_
            rw [h7', if_neg Bool.false_ne_true] at c2
            exact ⟨k + 1, by omega, by omega, wk⟩
        · simp at h5
          obtain rfl : k = l.length := by omega
          have d1 : l.take l.length = l := List.take_of_length_le (Nat.le_refl _)
          have d2 : S.take l.length = S := List.take_of_length_le (by omega)
          have d3 := hcnt (S.getD i default)
          refine AW_exit ?_
          repeat (refine AW_seq ?_)
          refine reg ?_
          refine run 3 ?_
          refine fin [0, 3, 27, 28, 29, 69] [] ?_
          repeat (refine AW_seq ?_)
          refine tstF ?_
          refine AW_skip ?_
          repeat (refine AW_seq ?_)
          refine reg ?_
          refine run 2 ?_
          refine finN ?_
          exact ⟨i + 1, by omega, by omega, wk⟩
    · simp at h3
      refine AW_exit ?_
      repeat (refine AW_seq ?_)
      refine reg ?_
      refine call (fun _ => awake_true) ?_
      refine run 1 ?_
      refine fin [2] [] ?_
      refine AW_ret (ret ?_)
      rfl

end Go.Proofs.Ytgkajfmjpobenaa