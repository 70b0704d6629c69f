/-
  The function on plain values, run over a region's text: so many operations at a time; a call by its contract; the end, with what is kept.
  Conditions: none.
-/
import Derived.Test.YtmefgkdchgokmaaAb14
namespace Go.Ab
open Go.RowKit

/-- an operation's step, as a function -/
def stepX (o : Oper) (s : ASt) : Option (Prop × SV × Eff) → Option (Prop × ASt)
  | some (p, sv, eff) => bif effFits (mk o.op) eff then some (p, s.app o sv eff) else none
  | none => none
def stepW (P : Program) (o : Oper) (s : ASt) : Option Bool → Option (Prop × ASt)
  | some true => stepX o s (aExec P o.op s.ev s.m (dnum o, s.g (dnum o)))
  | some false => some (True, s.app o skipV .none)
  | none => none
def goX (rec : ASt → Prop → Option (Prop × List Oper × ASt)) (p : Prop) : Option (Prop × ASt) → Option (Prop × List Oper × ASt)
  | some (q, s1) => rec s1 (p ∧ q)
  | none => none
def goN (P : Program) (ops : Array Oper) : Nat → List Oper → ASt → Prop → Option (Prop × List Oper × ASt)
  | 0, l, s, p => some (p, l, s)
  | _ + 1, [], _, _ => none
  | n + 1, o :: l, s, p => goX (goN P ops n l) p (stepW P o s (aWanted ops o s))

section
variable {P : Program} {S0 : Addr → Prop} {w0 : World} {N : Nat} {s s' s1 : ASt} {ops : Array Oper}

theorem stepW_step {o : Oper} {p : Prop} (h : stepW P o s (aWanted ops o s) = some (p, s1)) (hp : p) : aStep P ops o s s1 := by
  cases hw : aWanted ops o s with
  | none => rw [hw] at h; simp [stepW] at h
  | some b =>
    rw [hw] at h
    cases b with
    | false => simp only [stepW, Option.some.injEq, Prod.mk.injEq] at h; exact .inr ⟨hw, h.2.symm⟩
    | true =>
      simp only [stepW] at h
      cases he : aExec P o.op s.ev s.m (dnum o, s.g (dnum o)) with
      | none => rw [he] at h; simp [stepX] at h
      | some r =>
        obtain ⟨q, sv, eff⟩ := r
        rw [he] at h
        simp only [stepX] at h
        cases hf : effFits (mk o.op) eff with
        | false => rw [hf] at h; simp at h
        | true =>
          rw [hf] at h
          simp only [cond_true, Option.some.injEq, Prod.mk.injEq] at h
          obtain ⟨rfl, rfl⟩ := h
          exact .inl ⟨hw, sv, eff, .inl ⟨q, he, hp, hf⟩, rfl⟩

theorem goes_runs {K : ASt → Prop} : ∀ (n : Nat) (l : List Oper) (s : ASt) (p0 : Prop) {p : Prop} {r : List Oper} {s1 : ASt}, goN P ops n l s p0 = some (p, r, s1) → p → Goes P ops r s1 K → p0 ∧ Goes P ops l s K
  | 0, l, s, p0, p, r, s1, h, hp, hk => by
    simp only [goN, Option.some.injEq, Prod.mk.injEq] at h
    obtain ⟨rfl, rfl, rfl⟩ := h
    exact ⟨hp, hk⟩
  | n + 1, [], s, p0, p, r, s1, h, _, _ => by simp [goN] at h
  | n + 1, o :: l, s, p0, p, r, s1, h, hp, hk => by
    simp only [goN] at h
    cases hs : stepW P o s (aWanted ops o s) with
    | none => rw [hs] at h; simp [goX] at h
    | some x =>
      obtain ⟨q, s2⟩ := x
      rw [hs] at h
      simp only [goX] at h
      obtain ⟨h1, h2⟩ := goes_runs n l s2 (p0 ∧ q) h hp hk
      exact ⟨h1.1, s2, stepW_step hs h1.2, h2⟩
theorem goes_run {K : ASt → Prop} (n : Nat) (l : List Oper) (s : ASt) {p : Prop} {r : List Oper} {s1 : ASt} (h : goN P ops n l s True = some (p, r, s1)) (hp : p) (hk : Goes P ops r s1 K) : Goes P ops l s K :=
  (goes_runs n l s True h hp hk).2

theorem goes_call {K : ASt → Prop} {o : Oper} {l : List Oper} {k : Nat} {args : Array Operand} {ts : Array TypeId} {p q : Prop} {ys : List PV} {r : PV} (hA : ACalls P k ys r) (ho : o.op = .call ⟨.value (.func k), args, ts⟩) (hw : aWanted ops o s = some true)
    (hc : closeCs s.m (args.toList.map s.ev) = some (p, q, ys)) (hp : p) (hq : q ∨ r.flat = true) (hk : Goes P ops l (s.app o (.c r) .none) K) : Goes P ops (o :: l) s K :=
  ⟨_, .inl ⟨hw, _, _, .inr ⟨k, args, ts, p, q, ys, r, ho, hc, hp, hq, hA, rfl, rfl⟩, rfl⟩, hk⟩

def keepT (t : Nat → SV) : List Nat → List (Nat × SV)
  | [] => []
  | k :: ks => (k, t k) :: keepT t ks
def keepM (m : Id → Option Blk) : List Id → List (Id × Option Blk)
  | [] => []
  | k :: ks => (k, m k) :: keepM m ks
theorem keepT_eq (t : Nat → SV) : ∀ ks, keepT t ks = ks.map fun i => (i, t i)
  | [] => rfl
  | k :: ks => by simp only [keepT, keepT_eq t ks, List.map_cons]
theorem keepM_eq (m : Id → Option Blk) : ∀ ks, keepM m ks = ks.map fun i => (i, m i)
  | [] => rfl
  | k :: ks => by simp only [keepM, keepM_eq m ks, List.map_cons]
theorem goes_end {y : Code} {K : Exit → ASt → Prop} (ks : List Nat) (ms : List Id) (h : ASt.mk (lk (keepT s.t ks)) (lkM (keepM s.m ms)) s.g = s1) (hk : AW P N y K s1) : Goes P ops [] s (thenK (AW P N y K) K .normal) :=
  AW_keep ks ms (by rw [keepT_eq, keepM_eq] at h; exact h ▸ hk)
theorem goes_nil {K : ASt → Prop} (h : K s) : Goes P ops [] s K := h
end

end Go.Ab
