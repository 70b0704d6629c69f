/-
  A contract on plain data out of a contract of the library on plain values (no memory is read or written).
  Conditions: none.
-/
import Derived.Test.YtfgjiadehfljlaaAb23
namespace Go.Ab
open Go Go.RowKit

theorem acalls_of {P : Program} {k : Nat} (hp : plainFn P k = true) (xs : List Value) {r : Value} {rv : PV} (hr : ∀ w S, Rep w S rv r)
    (h : ∀ w, Calls P k xs.toArray w fun e w' => e = .returned r ∧ w' = w) : ACalls P k (xs.map PV.v) rv where
  plain := hp
  calls := fun S w vs hs hrep => by
    have e : vs = xs.toArray := by
      apply Array.ext
      · simpa using hs
      · intro i h1 h2
        have h3 : i < xs.length := by simpa using h2
        have := hrep i (.v xs[i]) vs[i] (by simp [h3]) (by simp [h1])
        generalize hx : vs[i] = y at this
        cases this
        simp
    subst e
    refine (h w).mono ?_
    rintro e w' ⟨rfl, rfl⟩
    exact ⟨r, rfl, hr _ _, Below.refl _ _⟩
end Go.Ab
