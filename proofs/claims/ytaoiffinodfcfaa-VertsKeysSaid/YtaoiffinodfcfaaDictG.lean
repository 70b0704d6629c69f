/-
  Contracts of the layer dict on plain data: the number by a key, putting and deleting, all pairs.
  Conditions: not too many keys; they rise.
-/
import Derived.Test.YtaoiffinodfcfaaDictF
namespace Go.Proofs.Ytaoiffinodfcfaa
open Go Go.Ab
set_option linter.unusedVariables false
set_option linter.unusedSimpArgs false

/-- the pairs of lesser keys, the others, those of greater ones -/
def lessT (t : Tr Pr) (k : Int) : Tr Pr := (t.split (lo t.list k).length).1
def otherT (t : Tr Pr) (k : Int) : Tr Pr := (t.split (lo t.list k).length).2
def moreT (t : Tr Pr) (k : Int) : Tr Pr := if (getL t.list k).isSome = true then ((otherT t k).split 1).2 else otherT t k
def putT (t : Tr Pr) (k n : Int) : Tr Pr := ((lessT t k).join (Tr.ofL [(k, n)])).join (moreT t k)
def delT (t : Tr Pr) (k : Int) : Tr Pr := if (getL t.list k).isSome = true then (lessT t k).join (moreT t k) else t
theorem lessT_list {t : Tr Pr} (h : Inc t.list) (k : Int) : (lessT t k).list = lo t.list k := by
  rw [lessT, (Tr.split_list t _).1, Int.toNat_natCast, lo_take h]
theorem otherT_list {t : Tr Pr} (h : Inc t.list) (k : Int) : (otherT t k).list = ge t.list k := by
  rw [otherT, (Tr.split_list t _).2, Int.toNat_natCast, ge_drop h]
theorem moreT_list {t : Tr Pr} (h : Inc t.list) (k : Int) : (moreT t k).list = hi t.list k := by
  have e := otherT_list h k
  rw [moreT]
  rcases ge_head h k with ⟨_, h2, h3⟩ | ⟨p, _, ⟨_, h2, h3⟩ | ⟨_, h2, h3⟩⟩
  · rw [h2, h3, if_neg (by decide), e]
  · rw [h2, h3, if_pos (show (some p.2).isSome = true from rfl), (Tr.split_list _ 1).2, e]; rfl
  · rw [h2, h3, if_neg (by decide), e]
theorem putT_list {t : Tr Pr} (h : Inc t.list) (k n : Int) : (putT t k n).list = putL t.list k n := by
  rw [putT, Tr.join_list, Tr.join_list, Tr.ofL_list, lessT_list h, moreT_list h, putL]; simp
theorem delT_list {t : Tr Pr} (h : Inc t.list) (k : Int) : (delT t k).list = delL t.list k := by
  rw [delT]
  split
  · rw [Tr.join_list, lessT_list h, moreT_list h, lo_hi h]
  · rename_i h1
    rw [del_none h]
    cases e : getL t.list k with
    | none => rfl
    | some n => rw [e] at h1; exact absurd rfl h1
theorem ofL_one (x : Pr) : Tr.ofL [x] = .node .nil x .nil := by
  rw [ofL_ne _ (by simp)]; simp [Tr.ofL_nil]
theorem putT_bal {t : Tr Pr} (h : t.bal) (k n : Int) : (putT t k n).bal := by
  have h1 := Tr.split_bal t (lo t.list k).length h
  have h2 : (moreT t k).bal := by
    unfold moreT otherT; split
    · exact (Tr.split_bal _ 1 h1.2).2
    · exact h1.2
  refine Tr.join_bal (Tr.join_bal h1.1 ?_) h2
  rw [ofL_one]; exact ⟨trivial, trivial, by simp [Tr.ht], by simp [Tr.ht]⟩
theorem delT_bal {t : Tr Pr} (h : t.bal) (k : Int) : (delT t k).bal := by
  have h1 := Tr.split_bal t (lo t.list k).length h
  have h2 : (moreT t k).bal := by
    unfold moreT otherT; split
    · exact (Tr.split_bal _ 1 h1.2).2
    · exact h1.2
  unfold delT; split
  · exact Tr.join_bal h1.1 h2
  · exact h
theorem putT_cnt {t : Tr Pr} (h : Inc t.list) (k n : Int) : (putT t k n).cnt ≤ t.cnt + 1 := by
  rw [← Tr.list_len, ← Tr.list_len, putT_list h]; exact putL_len ..
theorem delT_cnt {t : Tr Pr} (h : Inc t.list) (k : Int) : (delT t k).cnt ≤ t.cnt := by
  rw [← Tr.list_len, ← Tr.list_len, delT_list h]; exact delL_len ..
def gotPV (o : Option Int) : PV := .tup [iPV (o.getD 0), bPV o.isSome]

theorem get_ih (t : Tr Pr) (k : Int) (m : Nat) (x : Pr) (O : Bool) (hf : ACalls Try.prog 35 [.agg [sqPV t], uPV k] (iPV m)) (ha : ACalls Try.prog 34 [sqPV t, iPV m] (.tup [pPV x, bPV O])) : ACalls Try.prog 25 [.agg [sqPV t], uPV k] (.tup [iPV (if O = true ∧ x.1 = k then x.2 else 0), bPV (O && decide (x.1 = k))]) := by
  refine ent Try.func25 ?_
  repeat (refine AW_seq ?_)
  refine reg ?_
  refine run 2 ?_
  refine run 1 ?_
  refine fin [1, 2] [(3, 0)] ?_
  repeat (refine AW_seq ?_)
  refine reg ?_
  refine run 2 ?_
  refine run 2 ?_
  refine call (fun _ => hf) ?_
  refine call (fun _ => ha) ?_
  refine run 2 ?_
  refine run 2 ?_
  refine run 2 ?_
  refine fin [1, 6, 7] [(7, 0)] ?_
  repeat (refine AW_seq ?_)
  refine reg ?_
  refine run 2 ?_
  refine run 2 ?_
  refine run 2 ?_
  refine run 2 ?_
  refine fin [6, 24] [(7, 0)] ?_
  repeat (refine AW_seq ?_)
  refine tst (fun h1 => ?_) (fun h1 => ?_)
  · skip
    have h2 : ¬ (O = true ∧ x.1 = k) := by cases O <;> simp at h1 ⊢; exact h1
    have h3 : (O && decide (x.1 = k)) = false := by cases O <;> simp at h1 ⊢; exact h1
    repeat (refine AW_seq ?_)
    refine reg ?_
    refine run 2 ?_
    refine fin [4, 5] [] ?_
    refine AW_ret (ret ?_)
    rw [if_neg h2, h3]
    rfl
  · skip
    have h2 : O = true ∧ x.1 = k := by cases O <;> simp at h1 ⊢; exact h1
    have h3 : (O && decide (x.1 = k)) = true := by rw [h2.1]; simp [h2.2]
    refine AW_skip ?_
    repeat (refine AW_seq ?_)
    refine reg ?_
    refine run 2 ?_
    refine run 2 ?_
    refine fin [4, 5] [] ?_
    refine AW_ret (ret ?_)
    rw [if_pos h2, h3]
    rfl

/-- what stands at the first place that is not less -/
theorem at_less (t : Tr Pr) (k : Int) (h : Inc t.list) : getPV t (lo t.list k).length = .tup [pPV ((ge t.list k)[0]?.getD (0, 0)), bPV (ge t.list k)[0]?.isSome] := by
  have e : t.list[(lo t.list k).length]? = (ge t.list k)[0]? := by rw [← ge_drop h k, List.getElem?_drop, Nat.add_zero]
  rw [getPV, Tr.get_list, if_pos (by omega), Int.toNat_natCast, e]
theorem get_any (t : Tr Pr) (k : Int) (hc : t.cnt < 1152921504606846976) (h : Inc t.list) : ACalls Try.prog 25 [.agg [sqPV t], uPV k] (gotPV (getL t.list k)) := by
  have hl := lo_len t.list k
  rw [Tr.list_len] at hl
  have ha := at_any t (lo t.list k).length hc (by omega)
  rw [at_less t k h] at ha
  have := get_ih t k _ _ _ (from_any t k hc h) ha
  rcases ge_head h k with ⟨h1, h2, h3⟩ | ⟨p, h1, ⟨h3, h2, _⟩ | ⟨h3, h2, _⟩⟩ <;> rw [h1] at this <;> rw [h2] <;> simpa [gotPV, h3] using this

theorem apart_ih (t : Tr Pr) (k : Int) (m : Nat) (a b c d : Tr Pr) (x : Pr) (O : Bool) (hf : ACalls Try.prog 35 [.agg [sqPV t], uPV k] (iPV m)) (hs : ACalls Try.prog 45 [sqPV t, iPV m] (.tup [sqPV a, sqPV b])) (ha : ACalls Try.prog 34 [sqPV b, iPV 0] (.tup [pPV x, bPV O])) (hs2 : ACalls Try.prog 45 [sqPV b, iPV 1] (.tup [sqPV c, sqPV d])) : ACalls Try.prog 38 [.agg [sqPV t], uPV k] (.tup [sqPV a, sqPV (if O = true ∧ x.1 = k then d else b), bPV (O && decide (x.1 = k))]) := by
  refine ent Try.func38 ?_
  repeat (refine AW_seq ?_)
  refine reg ?_
  refine run 2 ?_
  refine run 2 ?_
  refine fin [1, 2] [(3, 0)] ?_
  repeat (refine AW_seq ?_)
  refine reg ?_
  refine run 2 ?_
  refine run 2 ?_
  refine call (fun _ => hf) ?_
  refine call (fun _ => hs) ?_
  refine run 2 ?_
  refine run 2 ?_
  refine run 1 ?_
  refine fin [1, 4, 7] [] ?_
  repeat (refine AW_seq ?_)
  refine reg ?_
  refine run 1 ?_
  refine call (fun _ => ha) ?_
  refine run 2 ?_
  refine run 2 ?_
  refine run 2 ?_
  refine fin [1, 4, 6, 7, 8] [(9, 0)] ?_
  repeat (refine AW_seq ?_)
  refine reg ?_
  refine run 2 ?_
  refine run 2 ?_
  refine run 2 ?_
  refine run 2 ?_
  refine fin [4, 7, 30] [] ?_
  repeat (refine AW_seq ?_)
  refine tst (fun h1 => ?_) (fun h1 => ?_)
  · skip
    have h2 : ¬ (O = true ∧ x.1 = k) := by cases O <;> simp at h1 ⊢; exact h1
    have h3 : (O && decide (x.1 = k)) = false := by cases O <;> simp at h1 ⊢; exact h1
    repeat (refine AW_seq ?_)
    refine reg ?_
    refine run 2 ?_
    refine run 2 ?_
    refine run 1 ?_
    refine fin [4, 5, 6] [] ?_
    refine AW_ret (ret ?_)
    rw [if_neg h2, h3]
    rfl
  · skip
    have h2 : O = true ∧ x.1 = k := by cases O <;> simp at h1 ⊢; exact h1
    have h3 : (O && decide (x.1 = k)) = true := by rw [h2.1]; simp [h2.2]
    refine AW_skip ?_
    repeat (refine AW_seq ?_)
    refine reg ?_
    refine run 1 ?_
    refine call (fun _ => hs2) ?_
    refine run 2 ?_
    refine run 2 ?_
    refine fin [4, 5] [] ?_
    repeat (refine AW_seq ?_)
    refine reg ?_
    refine run 2 ?_
    refine run 2 ?_
    refine run 1 ?_
    refine fin [4, 5, 6] [] ?_
    refine AW_ret (ret ?_)
    rw [if_pos h2, h3]
    rfl

theorem apart_any (t : Tr Pr) (k : Int) (hc : t.cnt < 1152921504606846976) (h : Inc t.list) : ACalls Try.prog 38 [.agg [sqPV t], uPV k] (.tup [sqPV (lessT t k), sqPV (moreT t k), bPV (getL t.list k).isSome]) := by
  have hs := split_any t (lo t.list k).length hc
  have hcs := Tr.split_cnt t (lo t.list k).length
  have ha := at_any (otherT t k) 0 (by unfold otherT; omega) (by omega)
  rw [getPV, Tr.get_list, if_pos (by omega), otherT_list h] at ha
  have := apart_ih t k _ (lessT t k) (otherT t k) _ _ _ _ (from_any t k hc h) hs ha (split_any (otherT t k) 1 (by unfold otherT; omega))
  rcases ge_head h k with ⟨h1, h2, h3⟩ | ⟨p, h1, ⟨h3, h2, _⟩ | ⟨h3, h2, _⟩⟩ <;> rw [show (0 : Int).toNat = 0 from rfl, h1] at this <;> unfold moreT <;> rw [h2] <;> simpa [h3] using this

theorem put_ih (t : Tr Pr) (k n : Int) (a b o c d : Tr Pr) (O : Bool) (ha : ACalls Try.prog 38 [.agg [sqPV t], uPV k] (.tup [sqPV a, sqPV b, bPV O])) (ho : ACalls Try.prog 40 [.sl [pPV (k, n)]] (sqPV o)) (hj : ACalls Try.prog 39 [sqPV a, sqPV o] (sqPV c)) (hj2 : ACalls Try.prog 39 [sqPV c, sqPV b] (sqPV d)) : ACalls Try.prog 32 [.agg [sqPV t], uPV k, iPV n] (.agg [sqPV d]) := by
  refine ent Try.func32 ?_
  repeat (refine AW_seq ?_)
  refine reg ?_
  refine run 2 ?_
  refine fin [1, 2, 3, 6] [(4, 0), (7, 0)] ?_
  repeat (refine AW_seq ?_)
  refine reg ?_
  refine run 2 ?_
  refine call (fun _ => ha) ?_
  refine run 2 ?_
  refine run 2 ?_
  refine run 2 ?_
  refine run 1 ?_
  refine fin [1, 2, 6, 7, 8] [(7, 0)] ?_
  repeat (refine AW_seq ?_)
  refine reg ?_
  refine run 2 ?_
  refine run 2 ?_
  refine run 1 ?_
  refine call (fun _ => ho) ?_
  refine call (fun _ => hj) ?_
  refine run 1 ?_
  refine call (fun _ => hj2) ?_
  refine run 2 ?_
  refine fin [6] [(7, 0)] ?_
  refine AW_ret (ret ?_)
  rfl

theorem less_more_cnt (t : Tr Pr) (k : Int) (h : Inc t.list) : (lessT t k).cnt + (moreT t k).cnt ≤ t.cnt := by
  have hcs := Tr.split_cnt t (lo t.list k).length
  have h2 := Tr.split_cnt (otherT t k) 1
  have h3 : (moreT t k).cnt ≤ (otherT t k).cnt := by unfold moreT; split <;> omega
  unfold lessT otherT at *; omega
theorem put_any (t : Tr Pr) (k n : Int) (hc : t.cnt < 1099511627776) (h : Inc t.list) : ACalls Try.prog 32 [.agg [sqPV t], uPV k, iPV n] (.agg [sqPV (putT t k n)]) := by
  have h1 := less_more_cnt t k h
  have ho := of_any [(k, n)] (by simp)
  have hoc : (Tr.ofL [(k, n)]).cnt = 1 := Tr.ofL_cnt _
  exact put_ih t k n _ _ _ _ _ _ (apart_any t k (by omega) h) ho (join_any _ _ (by omega)) (join_any _ _ (by rw [Tr.join_cnt]; omega))


theorem pairs_ih (t : Tr Pr) (h : FCalls Try.prog 37 [sqPV t] ⟨71, 2, t.list.map pPV, true, [], none⟩) : FCalls Try.prog 30 [.agg [sqPV t]] ⟨71, 2, t.list.map pPV, true, [], none⟩ := by
  refine entF Try.func30 ?_
  repeat (refine AW_seq ?_)
  refine reg ?_
  refine run 2 ?_
  refine fin [1] [(2, 0)] ?_
  repeat (refine AW_seq ?_)
  refine reg ?_
  refine run 2 ?_
  refine fcall (h) ?_
  refine run 1 ?_
  refine fin [2] [(6, 0)] ?_
  refine AW_ret (retF ?_)
  rfl

theorem pairs_any (t : Tr Pr) (hc : t.cnt < 1099511627776) : ACalls Try.prog 30 [.agg [sqPV t]] (.sl (t.list.map pPV)) := (pairs_ih t (list_any t hc)).a

end Go.Proofs.Ytaoiffinodfcfaa