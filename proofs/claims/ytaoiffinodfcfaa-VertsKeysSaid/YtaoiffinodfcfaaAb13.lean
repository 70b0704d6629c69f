/-
  A region, whatever order is drawn; and the rules for the code round it: one behind the other, tests, blocks, loops; a function's call.
  Conditions: none.
-/
import Derived.Test.YtaoiffinodfcfaaAb12
import Derived.LoopN
namespace Go.Ab
open Go.RowKit

def maskOf (M : List Nat) (o : Oper) : Nat := o.after.toList.foldl (fun s e => if Region.binds .any e then s ||| 2 ^ e.on ||| M.getD e.on 0 else s) 0
def masks : List Oper → List Nat → List Nat
  | [], acc => acc
  | o :: os, acc => masks os (acc ++ [maskOf acc o])
/-- each two operations of the region stand in an order, or can be taken in either -/
def okAt (ops : Array Oper) (M : List Nat) (i : Nat) : Bool :=
  match ops[i]? with
  | some o => M.getD i 0 == maskOf M o && o.after.toList.all (fun e => !Region.binds .any e || decide (e.on < i)) &&
      (List.range i).all fun j => match ops[j]? with | some oj => (M.getD i 0).testBit j || indep ops oj o | none => true
  | none => true
def okRegion (ops : Array Oper) : Bool := (List.range ops.size).all fun i => okAt ops (masks ops.toList []) i

theorem maskOf_bit (M : List Nat) (o : Oper) (j : Nat) (h : (maskOf M o).testBit j = true) : ∃ e ∈ o.after.toList, Region.binds .any e = true ∧ (e.on = j ∨ (M.getD e.on 0).testBit j = true) := by
  unfold maskOf at h
  have key : ∀ (l : List Edge) (s : Nat), (l.foldl (fun s e => if Region.binds .any e then s ||| 2 ^ e.on ||| M.getD e.on 0 else s) s).testBit j = true → s.testBit j = true ∨ ∃ e ∈ l, Region.binds .any e = true ∧ (e.on = j ∨ (M.getD e.on 0).testBit j = true) := by
    intro l
    induction l with
    | nil => intro s h; exact .inl h
    | cons e l ih =>
      intro s h
      simp only [List.foldl_cons] at h
      rcases ih _ h with h1 | ⟨e', h1, h2⟩
      · by_cases hb : Region.binds .any e = true
        · simp only [hb, if_true, Nat.testBit_or, Bool.or_eq_true] at h1
          rcases h1 with (h1 | h1) | h1
          · exact .inl h1
          · rw [Nat.testBit_two_pow, decide_eq_true_eq] at h1
            exact .inr ⟨e, List.mem_cons_self, hb, .inl h1⟩
          · exact .inr ⟨e, List.mem_cons_self, hb, .inr h1⟩
        · simp only [hb] at h1; exact .inl h1
      · exact .inr ⟨e', List.mem_cons_of_mem _ h1, h2⟩
  rcases key _ _ h with h1 | h1
  · simp at h1
  · exact h1

section
variable {P : Program} {S0 : Env} {w0 : World} {N : Nat} {s s' : ASt} {a : Act} {w : World} {ops : Array Oper}

def Closed (ops : Array Oper) (listed : Array Bool) : Prop :=
  ∀ k o, ops[k]? = some o → listed.getD k false = true → ∀ e ∈ o.after.toList, Region.binds .any e = true → listed.getD e.on false = true

theorem ok_at (h : okRegion ops = true) {i : Nat} {o : Oper} (hi : ops[i]? = some o) :
    (masks ops.toList []).getD i 0 = maskOf (masks ops.toList []) o ∧ (∀ e ∈ o.after.toList, Region.binds .any e = true → e.on < i) ∧
    ∀ j oj, j < i → ops[j]? = some oj → ((masks ops.toList []).getD i 0).testBit j = true ∨ indep ops oj o = true := by
  unfold okRegion at h
  generalize masks ops.toList [] = M at *
  have hlt := (Array.getElem?_eq_some_iff.1 hi).1
  have := List.all_eq_true.1 h i (List.mem_range.2 hlt)
  unfold okAt at this
  simp only [hi, Bool.and_eq_true, beq_iff_eq, List.all_eq_true, Bool.or_eq_true, Bool.not_eq_true', decide_eq_true_eq] at this
  obtain ⟨⟨h1, h2⟩, h3⟩ := this
  refine ⟨h1, fun e he hb => (h2 e he).resolve_left (by simp [hb]), fun j oj hj hoj => ?_⟩
  have := h3 j (List.mem_range.2 hj)
  simp only [hoj] at this
  simpa using this

theorem anc_listed (h : okRegion ops = true) {listed : Array Bool} (hc : Closed ops listed) : ∀ (i : Nat) (o : Oper), ops[i]? = some o → (∀ e ∈ o.after.toList, Region.binds .any e = true → listed.getD e.on false = true) →
    ∀ j, ((masks ops.toList []).getD i 0).testBit j = true → listed.getD j false = true := by
  intro i
  induction i using Nat.strongRecOn with
  | _ i ih =>
    intro o ho hall j hj
    obtain ⟨h1, h2, _⟩ := ok_at h ho
    rw [h1] at hj
    obtain ⟨e, he, hb, h3 | h3⟩ := maskOf_bit _ _ _ hj
    · subst h3; exact hall e he hb
    · have hlt := h2 e he hb
      have hsz := (Array.getElem?_eq_some_iff.1 ho).1
      have hoe : ops[e.on]? = some ops[e.on] := Array.getElem?_eq_getElem (by omega)
      exact ih e.on hlt _ hoe (hc _ _ hoe (hall e he hb)) j h3

def rem (listed : Array Bool) (n : Nat) : List Nat := (List.range n).filter fun i => !listed.getD i true

theorem mem_rem {listed : Array Bool} {n i : Nat} : i ∈ rem listed n ↔ i < n ∧ listed.getD i true = false := by
  simp [rem, List.mem_filter]

/-- one is struck out of what is left -/
theorem rem_split {listed : Array Bool} {n i : Nat} (hs : listed.size = n) (hi : i ∈ rem listed n) : ∃ l1 l2, rem listed n = l1 ++ i :: l2 ∧ rem (listed.setIfInBounds i true) n = l1 ++ l2 ∧ ∀ j ∈ l1, j < i ∧ j ∈ rem listed n := by
  obtain ⟨hlt, hu⟩ := mem_rem.1 hi
  have e1 : List.range n = List.range i ++ i :: (List.range' (i + 1) (n - i - 1)) := by
    rw [List.range_eq_range', List.range_eq_range', show n = i + (1 + (n - i - 1)) by omega, ← List.range'_append_1, Nat.zero_add, Nat.add_comm 1, List.range'_succ]
    simp
  have same : ∀ (l : List Nat), i ∉ l → l.filter (fun k => !(listed.setIfInBounds i true).getD k true) = l.filter (fun k => !listed.getD k true) := fun l hl => by
    refine List.filter_congr fun k hk => ?_
    have : i ≠ k := by rintro rfl; exact hl hk
    rw [getD_set_ne true this]
  refine ⟨(List.range i).filter fun k => !listed.getD k true, (List.range' (i + 1) (n - i - 1)).filter fun k => !listed.getD k true, ?_, ?_, ?_⟩
  · unfold rem
    rw [e1, List.filter_append, List.filter_cons, hu]
    simp
  · unfold rem
    rw [e1, List.filter_append, List.filter_cons]
    have : (listed.setIfInBounds i true).getD i true = true := by
      have hlt2 : i < listed.size := by omega
      simp [hlt2]
    rw [this]
    simp only [Bool.not_true, Bool.false_eq_true, if_false]
    rw [same _ (by simp), same _ (by simp; omega)]
  · intro j hj
    simp only [List.mem_filter, List.mem_range] at hj
    exact ⟨hj.1, mem_rem.2 ⟨by omega, by simpa using hj.2⟩⟩

theorem any_of_good (h : okRegion ops = true) (hd : dstOk N ops = true) {Q : Exit → Act → World → Prop} (hQ : ∀ a w, Rel S0 w0 N s' a w → Q .normal a w) :
    ∀ (fuel : Nat) (listed : Array Bool) (s : ASt) (a : Act) (w : World), listed.size = ops.size → Closed ops listed → (rem listed ops.size).length = fuel → Good P ops (rem listed ops.size) s s' → Rel S0 w0 N s a w →
      wpAny P .any ops Q fuel listed a w := by
  intro fuel
  induction fuel with
  | zero =>
    intro listed s a w hs hc hl hg hR
    have h0 : rem listed ops.size = [] := List.length_eq_zero_iff.1 hl
    rw [h0] at hg
    simp only [Good] at hg
    subst hg
    refine ⟨?_, hQ a w hR⟩
    refine List.eq_nil_iff_forall_not_mem.2 fun i hi => ?_
    obtain ⟨hu, o, ho, _⟩ := mem_ready.1 hi
    have : i ∈ rem listed ops.size := mem_rem.2 ⟨(Array.getElem?_eq_some_iff.1 ho).1, hu⟩
    rw [h0] at this; cases this
  | succ fuel ih =>
    intro listed s a w hs hc hl hg hR
    refine ⟨fun hr => ?_, fun i hi => ?_⟩
    · -- the least one that is left is ready
      exfalso
      cases hrem : rem listed ops.size with
      | nil => rw [hrem] at hl; simp at hl
      | cons i l =>
        have hi : i ∈ rem listed ops.size := by rw [hrem]; exact List.mem_cons_self
        obtain ⟨hlt, hu⟩ := mem_rem.1 hi
        have ho : ops[i]? = some ops[i] := Array.getElem?_eq_getElem hlt
        have hleast : ∀ j, j < i → listed.getD j true = true := fun j hj => by
          cases hj2 : listed.getD j true with
          | true => rfl
          | false =>
            obtain ⟨l1, l2, h1, _, _⟩ := rem_split hs hi
            have hjm : j ∈ rem listed ops.size := mem_rem.2 ⟨by omega, hj2⟩
            have hsorted : (rem listed ops.size).Pairwise (· < ·) := List.Pairwise.filter _ (List.pairwise_lt_range)
            rw [hrem] at hjm hsorted
            rcases List.mem_cons.1 hjm with e | e
            · omega
            · have := (List.pairwise_cons.1 hsorted).1 j e; omega
        have hready : i ∈ Region.ready .any ops listed := mem_ready.2 ⟨hu, _, ho, fun e he hb => by
          have h1 := (ok_at h ho).2.1 e (by simpa using he) hb
          have h2 := hleast e.on h1
          rw [Array.getD_eq_getD_getElem?] at h2 ⊢
          rw [Array.getElem?_eq_getElem (by omega)] at h2 ⊢
          exact h2⟩
        rw [hr] at hready; cases hready
    · obtain ⟨hu, o, ho, hall⟩ := mem_ready.1 hi
      have hir : i ∈ rem listed ops.size := mem_rem.2 ⟨(Array.getElem?_eq_some_iff.1 ho).1, hu⟩
      obtain ⟨l1, l2, e1, e2, hl1⟩ := rem_split hs hir
      rw [e1] at hg
      obtain ⟨s1, hstep, hg1⟩ := good_front hd ho l1 s a w hR hg (fun j hj oj hoj => by
        obtain ⟨hji, hjr⟩ := hl1 j hj
        rcases (ok_at h ho).2.2 j oj hji hoj with h1 | h1
        · have := anc_listed h hc i o ho (fun e he hb => hall e (by simpa using he) hb) j h1
          have h2 := (mem_rem.1 hjr).2
          rw [Array.getD_eq_getD_getElem?] at h2 this
          cases hx : listed[j]? with
          | none => rw [hx] at this; cases this
          | some b => rw [hx] at h2 this; simp at h2 this; rw [h2] at this; cases this
        · exact h1)
      refine step_sound hR ho (dst_lt hd ho) hstep fun a' w' hR' => ?_
      refine ih _ s1 a' w' (by simpa using hs) (fun k ok hk hlk e he hb => ?_) ?_ (by rw [e2]; exact hg1) hR'
      · by_cases hki : i = k
        · subst hki
          rw [ho] at hk; simp only [Option.some.injEq] at hk; subst hk
          exact getD_set_true (hall e (by simpa using he) hb)
        · rw [getD_set_ne false hki] at hlk
          exact getD_set_true (hc k ok hk hlk e he hb)
      · rw [e2]; rw [e1] at hl; simp only [List.length_append, List.length_cons] at hl ⊢; omega

theorem ops_of_good (hd : dstOk N ops = true) {Q : Exit → Act → World → Prop} (hQ : ∀ a w, Rel S0 w0 N s' a w → Q .normal a w) : ∀ (l : List Nat) (s : ASt) (a : Act) (w : World), Good P ops l s s' → Rel S0 w0 N s a w → wpOps P ops Q l a w
  | [], s, a, w, hg, hR => by simp only [Good] at hg; subst hg; exact hQ a w hR
  | i :: l, s, a, w, hg, hR => by
    obtain ⟨o, s1, ho, hstep, hg1⟩ := hg
    rw [wpOps_cons]
    exact step_sound hR ho (dst_lt hd ho) hstep fun a' w' hR' => ops_of_good hd hQ l s1 a' w' hg1 hR'

/-! ## the code round it -/
/-- ████ whatever lies in memory: if the slots hold this data, the code does so ████ -/
def AW (P : Program) (N : Nat) (c : Code) (K : Exit → ASt → Prop) (s : ASt) : Prop :=
  ∀ S0 w0 a w, Rel S0 w0 N s a w → c.wp P (fun e a' w' => ∃ s', K e s' ∧ Rel S0 w0 N s' a' w') a w

/-- operations, one behind the other in the text's order -/
def Goes (P : Program) (ops : Array Oper) : List Oper → ASt → (ASt → Prop) → Prop
  | [], s, K => K s
  | o :: l, s, K => ∃ s1, aStep P ops o s s1 ∧ Goes P ops l s1 K

theorem goes_good {K : ASt → Prop} : ∀ (l : List Oper) (k : Nat) (s : ASt), (∀ j, l[j]? = ops[k + j]?) → Goes P ops l s K → ∃ s', Good P ops (List.range' k l.length) s s' ∧ K s'
  | [], k, s, _, h => ⟨s, rfl, h⟩
  | o :: l, k, s, hl, h => by
    obtain ⟨s1, h1, h2⟩ := h
    obtain ⟨s', h3, h4⟩ := goes_good l (k + 1) s1 (fun j => by have := hl (j + 1); simpa [Nat.add_assoc, Nat.add_comm 1 j] using this) h2
    exact ⟨s', ⟨o, s1, by simpa using (hl 0).symm, h1, h3⟩, h4⟩

theorem rel_drew (h : Rel S0 w0 N s a w) : Rel S0 w0 N s a { w with drawn := w.drawn + 1 } := by
  obtain ⟨ρ, h⟩ := h
  exact ⟨ρ, h.grow (below_drew w)⟩

theorem AW_region {id : Nat} {ops : Array Oper} {draw : Bool} {K : Exit → ASt → Prop} (hd : dstOk N ops = true) (hm : P.follows .mixedOrders = true) (hok : (!draw || okRegion ops) = true) (h : Goes P ops ops.toList s (K .normal)) : AW P N (.region id ops draw) K s := by
  intro S0 w0 a w hR
  obtain ⟨s', hg, hK⟩ := goes_good (P := P) (ops := ops) ops.toList 0 s (fun j => by simp) h
  rw [Array.length_toList, ← List.range_eq_range'] at hg
  cases draw with
  | false => exact wp_region (ops_of_good (S0 := S0) (w0 := w0) hd (fun a w hR => ⟨s', hK, hR⟩) _ s a w hg hR)
  | true =>
    have hok : okRegion ops = true := by simpa using hok
    have h0 : rem (Array.replicate ops.size false) ops.size = List.range ops.size := by
      unfold rem
      refine List.filter_eq_self.2 fun i hi => ?_
      simp [List.mem_range.1 hi]
    exact wp_region_any hm (any_of_good (S0 := S0) (w0 := w0) hok hd (fun a w hR => ⟨s', hK, hR⟩) _ _ s a _ (by simp) (fun k o hk hl => by
      rw [Array.getD_eq_getD_getElem?] at hl
      cases hx : (Array.replicate ops.size false)[k]? with
      | none => rw [hx] at hl; cases hl
      | some b => rw [hx] at hl; simp [Array.getElem?_replicate] at hx; simp at hl; rw [hl] at hx; simp at hx) (by rw [h0]; simp) (by rw [h0]; exact hg) (rel_drew hR))

theorem AW_mono {c : Code} {K K' : Exit → ASt → Prop} (h : AW P N c K s) (hk : ∀ e s, K e s → K' e s) : AW P N c K' s :=
  fun S0 w0 a w hR => wp_mono (h S0 w0 a w hR) fun _ _ _ ⟨s', h1, h2⟩ => ⟨s', hk _ _ h1, h2⟩
theorem AW_skip {K : Exit → ASt → Prop} (h : K .normal s) : AW P N .skip K s := fun _ _ _ _ hR => wp_skip ⟨s, h, hR⟩
theorem AW_ret {K : Exit → ASt → Prop} (h : K .ret s) : AW P N .ret K s := fun _ _ _ _ hR => wp_ret ⟨s, h, hR⟩
theorem AW_exit {id : Nat} {K : Exit → ASt → Prop} (h : K (.exit id) s) : AW P N (.exit id) K s := fun _ _ _ _ hR => wp_exit ⟨s, h, hR⟩
/-- what comes behind -/
def thenK (R : ASt → Prop) (K : Exit → ASt → Prop) : Exit → ASt → Prop
  | .normal, s => R s
  | e, s => K e s
theorem AW_seq {x y : Code} {K : Exit → ASt → Prop} (h : AW P N x (thenK (AW P N y K) K) s) : AW P N (.seq x y) K s := by
  intro S0 w0 a w hR
  refine wp_seq (wp_mono (h S0 w0 a w hR) ?_)
  rintro e a' w' ⟨s', h1, h2⟩
  cases e <;> first | exact h1 S0 w0 a' w' h2 | exact ⟨s', h1, h2⟩
theorem AW_cond {c : Operand} {x y : Code} {K : Exit → ASt → Prop} {b : Bool} (hc : s.ev c = .c (.v (.bool b))) (ht : b = true → AW P N x K s) (hf : b = false → AW P N y K s) : AW P N (.cond c x y) K s := by
  rintro S0 w0 a w hR
  obtain ⟨ρ, hR'⟩ := id hR
  have hv := ev_rep hR' c
  rw [hc] at hv
  exact wp_cond_split (srep_bool hv) (fun e => ht e S0 w0 a w hR) (fun e => hf e S0 w0 a w hR)
theorem AW_condA {c : Operand} {x y : Code} {K : Exit → ASt → Prop} (hc : s.ev c = .anyb) (ht : AW P N x K s) (hf : AW P N y K s) : AW P N (.cond c x y) K s := by
  rintro S0 w0 a w hR
  obtain ⟨ρ, hR'⟩ := id hR
  have hv := ev_rep hR' c
  rw [hc] at hv
  generalize he : a.eval c = v at hv
  cases hv with
  | anyb b => exact wp_cond_split he (fun _ => ht S0 w0 a w hR) (fun _ => hf S0 w0 a w hR)
def blockK (id : Nat) (K : Exit → ASt → Prop) : Exit → ASt → Prop
  | .exit id', s => if id' = id then K .normal s else K (.exit id') s
  | e, s => K e s
theorem AW_block {id : Nat} {c : Code} {K : Exit → ASt → Prop} (h : AW P N c (blockK id K) s) : AW P N (.block id c) K s := by
  intro S0 w0 a w hR
  refine wp_block (wp_mono (h S0 w0 a w hR) ?_)
  rintro e a' w' ⟨s', h1, h2⟩
  cases e with
  | exit id' =>
    simp only [blockK] at h1
    simp only [Exit.inBlock]
    split
    · rename_i e; rw [if_pos e] at h1; exact ⟨s', h1, h2⟩
    · rename_i e; rw [if_neg e] at h1; exact ⟨s', h1, h2⟩
  | _ => exact ⟨s', h1, h2⟩

/-- a loop: states by an index, with a measure; the round comes to a state of a lesser measure, or leaves -/
theorem AW_loop {ι : Type} {c : Code} {K : Exit → ASt → Prop} (Inv : ι → ASt → Prop) (μ : ι → Nat) (i0 : ι) (h0 : Inv i0 s)
    (round : ∀ i s, Inv i s → AW P N c (thenK (fun s' => ∃ j, μ j < μ i ∧ Inv j s') K) s) : AW P N (.loop c) K s := by
  intro S0 w0 a w hR
  have key : ∀ n i s a w, μ i < n → Inv i s → Rel S0 w0 N s a w → Code.rounds P c (fun e a' w' => ∃ s', K e s' ∧ Rel S0 w0 N s' a' w') n a w := by
    intro n
    induction n with
    | zero => intro i s a w h; omega
    | succ n ih =>
      intro i s a w hμ hI hR
      rw [rounds_succ]
      refine wp_mono (round i s hI S0 w0 a w hR) ?_
      rintro e a' w' ⟨s', h1, h2⟩
      cases e with
      | normal =>
        obtain ⟨j, hj, hI'⟩ := h1
        exact ih j s' a' w' (by omega) hI' h2
      | _ => exact ⟨s', h1, h2⟩
  exact wp_loop_rounds (μ i0 + 1) (key _ i0 s a w (by omega) h0 hR)
end
end Go.Ab
