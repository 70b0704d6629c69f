/-
  From a contract on plain data to a law's statement: arguments of numbers, bools, texts, structs of these, and slices of these, opened as plain data.
  Conditions: none.
-/
import Derived.Test.YtaoiffinodfcfaaAb23
import Derived.ChangeArms
import Derived.WideShapes
import Derived.DataReads
import Derived.Carry
import Derived.Deep.Slices
import Derived.ChangeOld
import Derived.OpenShut
namespace Go.Ab
open Go.RowKit Go.ChangeShapes Go.WideShapes
set_option linter.unusedVariables false

theorem okWide_spot {P : Program} {w : World} {r : Reach} {base : Nat} {t e : TypeId} {x : Addr} {len cap : Nat} (ht : P.underlying t = some (.slice e)) (h : Value.okWide P w r base t (.slice (some x) len cap)) : x.spot = none := by
  simp only [Value.okWide, ht, Cell.okWide, Cell.ok] at h
  exact h.2.2.2.1

/-- argument by argument -/
def RepAll (w : World) : List PV → List Value → Prop
  | [], [] => True
  | p :: ps, v :: vs => Rep w (fun _ => True) p v ∧ RepAll w ps vs
  | _, _ => False
theorem repAll_get {w : World} : ∀ {ps : List PV} {vs : List Value}, RepAll w ps vs → vs.length = ps.length ∧ ∀ (i : Nat) (p : PV) (v : Value), ps[i]? = some p → vs[i]? = some v → Rep w (fun _ => True) p v
  | [], [], _ => ⟨rfl, fun i p v h => by simp at h⟩
  | p :: ps, v :: vs, h => by
    obtain ⟨h1, h2⟩ := repAll_get h.2
    refine ⟨by simp [h1], fun i q u hq hu => ?_⟩
    cases i with
    | zero => simp at hq hu; subst hq; subst hu; exact h.1
    | succ i => exact h2 i q u (by simpa using hq) (by simpa using hu)
  | [], _ :: _, h => h.elim
  | _ :: _, [], h => h.elim
theorem law_calls {P : Program} {k : Nat} {args : List PV} (h : ACalls P k args (bPV true)) (w : World) (vs : Array Value) (hr : RepAll w args vs.toList) :
    Calls P k vs w fun e w' => e = .returned (.bool true) ∧ Below w.heap.size w w' := by
  obtain ⟨h1, h2⟩ := repAll_get hr
  refine (h.calls (fun _ => True) w vs (by simpa using h1) (fun i p v hp hv => h2 i p v hp (by simpa using hv))).mono fun e w' ⟨x, he, hx, hb⟩ => ?_
  cases hx
  exact ⟨he, hb⟩

def flatTy (P : Program) : Nat → TypeId → Bool
  | 0, _ => false
  | n + 1, t => match P.underlying t with
    | some (.int _) => true
    | some .bool => true
    | some .string => true
    | some (.struct fs) => fs.toList.all fun f => flatTy P n f.type
    | _ => false
/-- cells of a type of numbers, bools, texts, and structs of these -/
def FlatV (P : Program) : Nat → TypeId → List Value → Prop
  | 0, _, _ => False
  | n + 1, t, cs => match P.underlying t with
    | some (.int k) => ∃ x, cs = [.int k x] ∧ (Lit.int k x).wf = true
    | some .bool => ∃ b, cs = [.bool b]
    | some .string => ∃ s, cs = [.string s] ∧ s.size ≤ maxLen
    | some (.struct fs) => cs.length = P.cellsOf t ∧ ∀ f ∈ fs.toList, FlatV P n f.type ((cs.drop f.offset).take (P.cellsOf f.type))
    | _ => False

section
variable {H : Type} {enc : TypeId × Value → H} {P : Program} {w : World} {base : Nat} {spare : Nat → Bool} {held : Bool}

theorem trod_flat : ∀ (n : Nat) (t : TypeId) (cs : List Value) (fuel : Nat) (x : DataW H × List MemPlace), flatTy P n t = true → DataW.trod enc P w base spare held fuel t cs = some x → FlatV P n t cs
  | 0, t, cs, fuel, x, hf, h => by simp [flatTy] at hf
  | n + 1, t, cs, fuel, x, hf, h => by
    unfold flatTy at hf
    unfold FlatV
    cases hu : P.underlying t with
    | none => rw [hu] at hf; cases hf
    | some d =>
      rw [hu] at hf
      cases d with
      | int k =>
        obtain ⟨n', h1, _, h3⟩ := DataW.trod_int hu h
        exact ⟨n', h1, h3⟩
      | bool =>
        cases fuel with
        | zero => simp [DataW.trod] at h
        | succ m =>
          unfold DataW.trod at h
          rw [hu] at h
          split at h <;> simp_all
      | string =>
        cases fuel with
        | zero => simp [DataW.trod] at h
        | succ m =>
          unfold DataW.trod at h
          rw [hu] at h
          split at h <;> simp_all
      | struct fs =>
        obtain ⟨xs, m, _, _, hl, hxl, hg⟩ := DataW.trod_struct hu h
        refine ⟨hl, fun f hfm => ?_⟩
        obtain ⟨i, hi, hif⟩ := List.getElem_of_mem hfm
        have hi' : fs[i]? = some f := by
          rw [← hif]; simp at hi ⊢
        have h2 := hg i f hi'
        have hlt : i < xs.length := by rw [hxl]; simpa using hi
        rw [List.getElem?_eq_getElem hlt] at h2
        exact trod_flat n f.type _ m _ (List.all_eq_true.1 hf f hfm) h2
      | _ => cases hf

/-- how a type's cells are plain data -/
structure Shows (P : Program) (n : Nat) (e : TypeId) {α : Type} (OK : α → Prop) (g : α → PV) : Prop where
  flat : flatTy P n e = true
  of : ∀ r, FlatV P n e r → r.length = P.cellsOf e → ∃ x, OK x ∧ (g x).cells = r.map PV.v ∧ ∀ c ∈ r, c.oneCell' = true

theorem open_struct {α : Type} {OK : α → Prop} {g : α → PV} {n : Nat} {r : Reach} {b0 : Nat} {t : TypeId} {fs : Array Field} {v : Value} {d : DataW H} {ps : List MemPlace} (R : Shows P n t OK g) (hagg : ∀ x, g x = .agg (g x).cells) (ht : P.underlying t = some (.struct fs))
    (hv : Value.okWide P w r b0 t v) (h : DataW.Trod enc P w base spare held t v d ps) : ∃ x, OK x ∧ Rep w (fun _ => True) (g x) v := by
  obtain ⟨cs, rfl, hsz⟩ := okWide_struct ht hv
  obtain ⟨fuel, hf⟩ := h
  obtain ⟨x, h1, h2, h3⟩ := R.of _ (trod_flat n t _ fuel _ R.flat hf) (by simpa [Value.cells] using hsz)
  refine ⟨x, h1, ?_⟩
  rw [hagg x, h2]
  simp only [Value.cells] at h3
  refine .agg _ _ (by simp [Value.cells]) (fun c hc => ?_) (fun i c y hc hy => ?_)
  · obtain ⟨y, hy, rfl⟩ := List.mem_map.1 hc
    exact h3 y hy
  · simp only [Value.cells, List.getElem?_map, Option.map_eq_some_iff] at hc
    obtain ⟨y', hy', rfl⟩ := hc
    have : y' = y := by simpa [hy] using hy'.symm
    subst this; exact .v _

theorem list_of {α : Type} {Q : Nat → α → Prop} : ∀ (n : Nat), (∀ i, i < n → ∃ x, Q i x) → ∃ l : List α, l.length = n ∧ ∀ i x, l[i]? = some x → Q i x
  | 0, _ => ⟨[], rfl, fun i x h => by simp at h⟩
  | n + 1, h => by
    obtain ⟨l, h1, h2⟩ := list_of n (fun i hi => h i (by omega))
    obtain ⟨x, hx⟩ := h n (by omega)
    refine ⟨l ++ [x], by simp [h1], fun i y hy => ?_⟩
    rw [List.getElem?_append] at hy
    split at hy
    · exact h2 i y hy
    · rename_i hn
      have hi : i = n := by
        have := (List.getElem?_eq_some_iff.1 hy).1
        simp at this; omega
      subst hi
      simp [h1] at hy; subst hy; exact hx

theorem open_rows_c {α : Type} {OK : α → Prop} {g : α → PV} {n fuel : Nat} {t e : TypeId} {v : Value} {x : DataW H × List MemPlace} (R : Shows P n e OK g) (ht : P.underlying t = some (.slice e))
    (hsp : ∀ a len cap, v = .slice (some a) len cap → a.spot = none) (hf : DataW.trod enc P w base spare held fuel t [v] = some x) : ∃ l : List α, l.length ≤ maxLen ∧ (∀ x ∈ l, OK x) ∧ Rep w (fun _ => True) (.sl (l.map g)) v := by
  rcases Go.Deep.open_slice ht hf with ⟨hcs, _⟩ | ⟨a', len, cap, m, n', D, Pl, hcs, hb, hl, hm, hmm, hx, hi⟩
  · simp only [List.cons.injEq, and_true] at hcs
    subst hcs
    exact ⟨[], Nat.zero_le _, by simp, .slNil⟩
  · simp only [List.cons.injEq, and_true] at hcs
    subst hcs
    have hspot := hsp _ _ _ rfl
    obtain ⟨b, o, sp⟩ := a'
    simp only at hspot; subst hspot
    have hle : len ≤ m := by rw [hmm]; split <;> omega
    obtain ⟨l, h1, h2⟩ := list_of (Q := fun i x => OK x ∧ ∃ cs : List Value, cs.length = P.cellsOf e ∧ (g x).cells = cs.map PV.v ∧ (∀ c ∈ cs, c.oneCell' = true) ∧ ∀ j, j < P.cellsOf e → w.cell? ⟨b, o + i * P.cellsOf e + j, none⟩ = cs[j]?) len (fun i hil => by
      obtain ⟨cs, hc, ht'⟩ := hi i (by omega)
      obtain ⟨_, hlen, hat⟩ := World.cells?_some hc
      obtain ⟨x, e1, e2, e3⟩ := R.of cs (trod_flat n e _ n' _ R.flat ht') hlen
      exact ⟨x, e1, cs, hlen, e2, e3, fun j hj => by have := hat j hj; rw [Addr.add_lit, Addr.add_lit] at this; exact this⟩)
    refine ⟨l, by omega, fun x hx => ?_, ?_⟩
    · obtain ⟨i, hi1, hi2⟩ := List.getElem_of_mem hx
      exact (h2 i x (by rw [List.getElem?_eq_getElem hi1, hi2])).1
    · have cell : ∀ (i : Nat) (q : PV) (j : Nat) (c : PV), (l.map g)[i]? = some q → q.cells[j]? = some c → ∃ u, c = .v u ∧ w.cell? ⟨b, o + i * P.cellsOf e + j, none⟩ = some u := fun i q j c hq hc => by
        rw [List.getElem?_map, Option.map_eq_some_iff] at hq
        obtain ⟨x, hx1, rfl⟩ := hq
        obtain ⟨_, cs, g1, g2, g3, g4⟩ := h2 i x hx1
        rw [g2, List.getElem?_map, Option.map_eq_some_iff] at hc
        obtain ⟨u, hu, rfl⟩ := hc
        have hj := (List.getElem?_eq_some_iff.1 hu).1
        exact ⟨u, rfl, by rw [g4 j (by omega), hu]⟩
      refine .slAt (P.cellsOf e) _ b o len cap (fun i j => (w.cell? ⟨b, o + i * P.cellsOf e + j, none⟩).getD undef) (by simp [h1]) hl (fun q hq => ?_) (fun q hq => ?_) (fun i q j c hq hc => ?_) (fun i q j c hq hc => ?_)
      · obtain ⟨x, hx1, rfl⟩ := List.mem_map.1 hq
        obtain ⟨i, hi1, hi2⟩ := List.getElem_of_mem hx1
        obtain ⟨_, cs, g1, g2, _⟩ := h2 i x (by rw [List.getElem?_eq_getElem hi1, hi2])
        rw [g2]; simpa using g1
      · obtain ⟨x, hx1, rfl⟩ := List.mem_map.1 hq
        obtain ⟨i, hi1, hi2⟩ := List.getElem_of_mem hx1
        obtain ⟨_, cs, g1, g2, g3, _⟩ := h2 i x (by rw [List.getElem?_eq_getElem hi1, hi2])
        rw [g2]
        intro c hc
        obtain ⟨u, hu, rfl⟩ := List.mem_map.1 hc
        exact g3 u hu
      · obtain ⟨u, rfl, h3⟩ := cell i q j c hq hc
        rw [h3]; exact ⟨rfl, trivial⟩
      · obtain ⟨u, rfl, h3⟩ := cell i q j c hq hc
        rw [h3]; exact .v _
theorem open_rows {α : Type} {OK : α → Prop} {g : α → PV} {n : Nat} {r : Reach} {b0 : Nat} {t e : TypeId} {v : Value} {d : DataW H} {ps : List MemPlace} (R : Shows P n e OK g) (ht : P.underlying t = some (.slice e))
    (hv : Value.okWide P w r b0 t v) (h : DataW.Trod enc P w base spare held t v d ps) : ∃ l : List α, l.length ≤ maxLen ∧ (∀ x ∈ l, OK x) ∧ Rep w (fun _ => True) (.sl (l.map g)) v := by
  obtain ⟨a, len, cap, rfl⟩ := okWide_slice ht hv
  obtain ⟨fuel, hf⟩ := h
  exact open_rows_c R ht (fun a len cap e => by cases e; exact okWide_spot ht hv) hf
/-- a struct's cells, as far as they are known of the outside -/
theorem okWide_row {r : Reach} {b0 : Nat} {t : TypeId} {fs : Array Field} {v : Value} {ts : List TypeId} (ht : P.underlying t = some (.struct fs)) (hts : P.cellTypes P.depth t = some ts) (hv : Value.okWide P w r b0 t v) :
    ∃ cs, v = .agg cs ∧ cs.size = P.cellsOf t ∧ ∀ i y, cs[i]? = some y → ∃ u, ts[i % ts.length]? = some u ∧ Cell.okWide P w r b0 u y := by
  simp only [Value.okWide, ht] at hv
  obtain ⟨cs, rfl, h2, ts', h3, _, h4⟩ := hv
  rw [hts] at h3; simp only [Option.some.injEq] at h3; subst h3
  exact ⟨cs, rfl, h2, h4⟩
theorem cell_spot {r : Reach} {b0 : Nat} {t e : TypeId} {a : Addr} {len cap : Nat} (ht : P.underlying t = some (.slice e)) (h : Cell.okWide P w r b0 t (.slice (some a) len cap)) : a.spot = none := by
  simp only [Cell.okWide, ht, Cell.ok] at h
  exact h.2.2.2.1
/-- a struct out of its parts -/
theorem open_agg {cs : Array Value} {ps : List PV} (h : ps.length = cs.size) (h1 : ∀ p ∈ ps, p.one = true) (hr : ∀ (i : Nat) (p : PV) (y : Value), ps[i]? = some p → cs[i]? = some y → Rep w (fun _ => True) p y) : Rep w (fun _ => True) (.agg ps) (.agg cs) := .agg _ _ h h1 hr
end
end Go.Ab
