/-
  From a contract on plain data to a law's call: integers, and slices of integers, that came in.
  Conditions: none.
-/
import Derived.Test.YtmefgkdchgokmaaAb17
namespace Go.Ab
open Go.RowKit

theorem okWide_spot {P : Program} {w : World} {r : Reach} {base : Nat} {t e : TypeId} {x : Addr} {len cap : Nat} (ht : P.underlying t = some (.slice e)) (h : Value.okWide P w r base t (.slice (some x) len cap)) : x.spot = none := by
  simp only [Value.okWide, ht, Cell.okWide, Cell.ok] at h
  exact h.2.2.2.1

theorem rep_ints {w : World} {k : IntKind} {a : Option Addr} {len cap : Nat} {zs : List Int}
    (h : (a = none ∧ len = 0 ∧ cap = 0 ∧ zs = []) ∨ ∃ x, a = some x ∧ len ≤ cap ∧ cap ≤ maxLen ∧ zs.length = cap ∧ (∀ i, i < zs.length → w.cell? (x.add i) = some (.int k (zs.getD i 0))) ∧ (∀ n ∈ zs, (Lit.int k n).wf = true) ∧ x.spot = none) :
    Rep w (fun _ => True) (.sl ((zs.take len).map fun n => .v (.int k n))) (.slice a len cap) ∧ (zs.take len).length = len ∧ ∀ n ∈ zs.take len, (Lit.int k n).wf = true := by
  rcases h with ⟨rfl, rfl, rfl, rfl⟩ | ⟨x, rfl, h1, h2, h3, h4, h5, h6⟩
  · exact ⟨.slNil, rfl, by simp⟩
  · obtain ⟨b, o, sp⟩ := x
    simp only at h6
    subst h6
    refine ⟨.slAt 1 _ b o len cap (fun i _ => .int k (zs.getD i 0)) (by simp; omega) h1 (fun e he => ?_) (fun e he => ?_) (fun i e j c hi hj => ?_) (fun i e j c hi hj => ?_), by simp; omega, fun n hn => h5 n (List.mem_of_mem_take hn)⟩
    · obtain ⟨n, _, rfl⟩ := List.mem_map.1 he; rfl
    · obtain ⟨n, _, rfl⟩ := List.mem_map.1 he
      intro c hc; simp [PV.cells] at hc; subst hc; rfl
    · rw [List.getElem?_map, Option.map_eq_some_iff] at hi
      obtain ⟨n, hn, rfl⟩ := hi
      obtain rfl : j = 0 := by
        cases j with
        | zero => rfl
        | succ j => simp [PV.cells] at hj
      rw [List.getElem?_take] at hn
      split at hn
      · have hlt : i < zs.length := (List.getElem?_eq_some_iff.1 hn).1
        have := h4 i hlt
        rw [Addr.add_lit] at this
        simpa using this
      · cases hn
    · rw [List.getElem?_map, Option.map_eq_some_iff] at hi
      obtain ⟨n, hn, rfl⟩ := hi
      cases j with
      | succ j => simp [PV.cells] at hj
      | zero =>
        simp [PV.cells] at hj
        subst hj
        rw [List.getElem?_take] at hn
        split at hn
        · rw [List.getD_eq_getElem?_getD, hn]; exact .v _
        · cases hn

/-- argument by argument -/
def RepAll (w : World) : List PV → List Value → Prop
  | [], [] => True
  | p :: ps, v :: vs => Rep w (fun _ => True) p v ∧ RepAll w ps vs
  | _, _ => False
theorem repAll_get {w : World} : ∀ {ps : List PV} {vs : List Value}, RepAll w ps vs → vs.length = ps.length ∧ ∀ (i : Nat) (p : PV) (v : Value), ps[i]? = some p → vs[i]? = some v → Rep w (fun _ => True) p v
  | [], [], _ => ⟨rfl, fun i p v h => by simp at h⟩
  | p :: ps, v :: vs, h => by
    obtain ⟨h1, h2⟩ := repAll_get h.2
    refine ⟨by simp [h1], fun i q u hq hu => ?_⟩
    cases i with
    | zero => simp at hq hu; subst hq; subst hu; exact h.1
    | succ i => exact h2 i q u (by simpa using hq) (by simpa using hu)
  | [], _ :: _, h => h.elim
  | _ :: _, [], h => h.elim

theorem law_calls {P : Program} {k : Nat} {args : List PV} (h : ACalls P k args (bPV true)) (w : World) (vs : Array Value) (hr : RepAll w args vs.toList) :
    Calls P k vs w fun e w' => e = .returned (.bool true) ∧ Below w.heap.size w w' := by
  obtain ⟨h1, h2⟩ := repAll_get hr
  refine (h.calls (fun _ => True) w vs (by simpa using h1) (fun i p v hp hv => h2 i p v hp (by simpa using hv))).mono fun e w' ⟨x, he, hx, hb⟩ => ?_
  cases hx
  exact ⟨he, hb⟩
end Go.Ab
