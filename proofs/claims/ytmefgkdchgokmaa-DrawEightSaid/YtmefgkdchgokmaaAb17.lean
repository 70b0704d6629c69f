/-
  Regions whose operations read and write blocks in an order that is left open: each operation bears a label, which blocks it looks at, and which it writes; labels tell what may be taken in either order.
  Conditions: none.
-/
import Derived.Test.YtmefgkdchgokmaaAb16
namespace Go.Ab
open Go.RowKit

/-- which blocks are looked at, and which is written -/
abbrev Lab := List Id × Option Id
def wrOf : Eff → Option Id
  | .set id _ => some id
  | _ => none
def mentsOf (s : ASt) : List Operand → List Id
  | [] => []
  | x :: xs => match ment (s.ev x) with
    | some id => id :: mentsOf s xs
    | none => mentsOf s xs
def rdOf (s : ASt) (o : Oper) : List Id := mentsOf s o.op.operands.toList
def usesNid : Op → Bool
  | .alloc _ | .box .. | .buildSlice .. | .makeSlice .. => true
  | .call ⟨.builtin .append, _, _⟩ => true
  | _ => false
def newOk (o : Op) : Eff → Bool
  | .new _ => usesNid o
  | _ => true

theorem mem_ments {s : ASt} : ∀ {l : List Operand} {id : Id}, id ∈ mentsOf s l ↔ ∃ x ∈ l, ment (s.ev x) = some id
  | [], id => by simp [mentsOf]
  | x :: xs, id => by
    simp only [mentsOf]
    cases h : ment (s.ev x) with
    | none => simp [mem_ments (l := xs), h]
    | some id' =>
      simp only [List.mem_cons, mem_ments (l := xs)]
      constructor
      · rintro (rfl | ⟨y, h1, h2⟩)
        · exact ⟨x, .inl rfl, h⟩
        · exact ⟨y, .inr h1, h2⟩
      · rintro ⟨y, rfl | h1, h2⟩
        · rw [h] at h2; simp only [Option.some.injEq] at h2; exact .inl h2.symm
        · exact .inr ⟨y, h1, h2⟩

section
variable {P : Program} {S0 : Addr → Prop} {w0 : World} {N : Nat} {s s1 s2 s' : ASt} {a : Act} {w : World} {ops : Array Oper}

theorem srcOf_congr {m m' : Id → Option Blk} {x : SV} (h : ∀ id, ment x = some id → m' id = m id) : srcOf m' x = srcOf m x := by
  cases x with
  | own id n => simp only [srcOf]; rw [h _ rfl]
  | c p => cases p <;> simp only [srcOf]
  | _ => simp only [srcOf]
theorem aAppend_congr {m m' : Id → Option Blk} {nid : Id} {T : TypeId} {x y : SV} (hx : ∀ id, ment x = some id → m' id = m id) (hy : ∀ id, ment y = some id → m' id = m id) : aAppend P m' nid T x y = aAppend P m nid T x y := by
  unfold aAppend
  rw [srcOf_congr hy]
  split
  · split
    · cases x with
      | own id n => simp only; rw [hx _ rfl]
      | c p => cases p <;> simp only
      | _ => simp only
    · rfl
  · rfl
theorem aStore_congr {m m' : Id → Option Blk} {T : TypeId} {x y : SV} (hx : ∀ id, ment x = some id → m' id = m id) (hy : ∀ id, ment y = some id → m' id = m id) : aStore P m' T x y = aStore P m T x y := by
  unfold aStore
  rw [closeV_congr (m := m') (m' := m) hy]
  split
  · rename_i e1 e2 e3; rw [hx _ rfl]
  · rfl

theorem exec_same {o : Op} {ev ev' : Operand → SV} {m m' : Id → Option Blk} {nid nid' : Id} (hev : ∀ x ∈ o.operands, ev' x = ev x) (hm : ∀ x ∈ o.operands, ∀ id, ment (ev x) = some id → m' id = m id) (hn : usesNid o = true → nid' = nid) :
    aExec P o ev' m' nid' = aExec P o ev m nid := by
  by_cases hk : mk o ≤ 2
  · exact exec_congr (.inl hk) hev (fun _ => hm) (fun e => hn (by
      cases o <;> first | rfl | (simp [mk] at e; done) | (rename_i c; obtain ⟨ca, ar, ts⟩ := c; cases ca <;> first | (simp [mk] at e; done) | (rename_i b; cases b <;> simp [mk] at e))))
  · cases o with
    | store T x y =>
      simp only [aExec]
      rw [hev x (by simp [Op.operands]), hev y (by simp [Op.operands])]
      exact aStore_congr (hm x (by simp [Op.operands])) (hm y (by simp [Op.operands]))
    | call c =>
      obtain ⟨callee, args, ts⟩ := c
      cases callee with
      | builtin b =>
        have hin : ∀ x ∈ args.toList, x ∈ (Op.call ⟨.builtin b, args, ts⟩).operands := fun x hx => by simpa [Op.operands, Call.operands] using hx
        cases b with
        | append =>
          rw [hn rfl]
          simp only [aExec]
          split
          · rename_i x y T T' e1 e2
            have hx := hin x (by rw [e1]; simp)
            have hy := hin y (by rw [e1]; simp)
            rw [hev x hx, hev y hy, aAppend_congr (hm x hx) (hm y hy)]
          · rfl
        | _ => first | rfl | (exfalso; simp [mk] at hk)
      | _ => first | rfl | (exfalso; simp [mk] at hk)
    | _ => first | rfl | (exfalso; simp [mk] at hk; done)

/-- an operation's step, with its label -/
def ActsL (P : Program) (ops : Array Oper) (o : Oper) (s : ASt) (sv : SV) (eff : Eff) (L : Lab) : Prop :=
  aActs P ops o s sv eff ∧ newOk o.op eff = true ∧ L.1 = rdOf s o ∧ L.2 = wrOf eff ∧ ∀ id, wrOf eff = some id → id ∈ rdOf s o
def StepL (P : Program) (ops : Array Oper) (o : Oper) (L : Lab) (s s' : ASt) : Prop := ∃ sv eff, ActsL P ops o s sv eff L ∧ s' = s.app o sv eff

theorem StepL.step {o : Oper} {L : Lab} (h : StepL P ops o L s s') : aStep P ops o s s' :=
  let ⟨sv, eff, h1, h2⟩ := h
  step_acts.2 ⟨sv, eff, h1.1, h2⟩

theorem rd_same {o : Oper} (ht : ∀ d ∈ o.looksAt ops, s'.t d = s.t d) : rdOf s' o = rdOf s o := by
  have hev := ev_same ht
  unfold rdOf
  have : ∀ l : List Operand, (∀ x ∈ l, s'.ev x = s.ev x) → mentsOf s' l = mentsOf s l := by
    intro l
    induction l with
    | nil => intro _; rfl
    | cons x l ih => intro h; simp only [mentsOf]; rw [h x List.mem_cons_self, ih (fun y hy => h y (List.mem_cons_of_mem _ hy))]
  exact this _ (fun x hx => hev x (by simpa using hx))

theorem actsL_same {o : Oper} (ht : ∀ d ∈ o.looksAt ops, s'.t d = s.t d) (hm : ∀ id ∈ rdOf s o, s'.m id = s.m id) (hg : usesNid o.op = true → s'.g (dnum o) = s.g (dnum o)) {sv : SV} {eff : Eff} {L : Lab} (h : ActsL P ops o s sv eff L) : ActsL P ops o s' sv eff L := by
  obtain ⟨h, h0, h1, h2, h3⟩ := h
  refine ⟨?_, h0, by rw [rd_same ht]; exact h1, h2, fun id e => by rw [rd_same ht]; exact h3 id e⟩
  have hev := ev_same ht
  have hmm : ∀ x ∈ o.op.operands, ∀ id, ment (s.ev x) = some id → s'.m id = s.m id := fun x hx id hid => hm id (mem_ments.2 ⟨x, by simpa using hx, hid⟩)
  rcases h with ⟨e1, e2⟩ | ⟨e1, e2⟩
  · refine .inl ⟨by rw [wanted_same ht]; exact e1, ?_⟩
    rcases e2 with ⟨pre, e2, e3⟩ | ⟨k, args, ts, p, q, ys, r, ho, hc, e3⟩
    · refine .inl ⟨pre, ?_, e3⟩
      rw [exec_same (nid' := (dnum o, s'.g (dnum o))) hev hmm (fun e => by rw [hg e])]
      exact e2
    · refine .inr ⟨k, args, ts, p, q, ys, r, ho, ?_, e3⟩
      have hin : ∀ x ∈ args.toList, x ∈ o.op.operands := fun x hx => by rw [ho]; simp only [Op.operands, Call.operands]; simp only [Array.mem_append]; exact .inr (by simpa using hx)
      have e1 : args.toList.map s'.ev = args.toList.map s.ev := List.map_congr_left fun x hx => hev x (hin x hx)
      rw [e1]
      have e2 : closeCs s'.m (args.toList.map s.ev) = closeCs s.m (args.toList.map s.ev) := closeCs_congr fun x hx => by
        obtain ⟨y, hy, rfl⟩ := List.mem_map.1 hx
        exact hmm y (hin y hy)
      rw [e2]; exact hc
  · exact .inr ⟨by rw [wanted_same ht]; exact e1, e2⟩

def labOk (x y : Lab) : Bool :=
  (match x.2 with | some id => !y.1.contains id && y.2 != some id | none => true) && (match y.2 with | some id => !x.1.contains id | none => true)
def indepL (ops : Array Oper) (x y : Oper) (Lx Ly : Lab) : Bool :=
  x.apart ops y && labOk Lx Ly && (!usesNid x.op || x.dst.isSome) && (!usesNid y.op || y.dst.isSome)

theorem wr_in_m {o : Oper} {sv : SV} {eff : Eff} {L : Lab} (h : ActsL P ops o s sv eff L) {id : Id} (hid : L.2 ≠ some id) (hx : id.2 < s.g id.1) : (s.app o sv eff).m id = s.m id := by
  obtain ⟨_, _, _, h2, _⟩ := h
  cases eff with
  | none => rfl
  | new b =>
    rw [app_new]; simp only [updM]
    rw [if_neg]; rintro rfl; simp at hx
  | set id' b =>
    simp only [wrOf] at h2
    show updM s.m id' (some b) id = s.m id
    simp only [updM]
    rw [if_neg]; rintro rfl; exact hid h2

theorem commuteL {x y : Oper} {Lx Ly : Lab} (hw : WF s) (hi : indepL ops x y Lx Ly = true) (h1 : StepL P ops x Lx s s1) (h2 : StepL P ops y Ly s1 s2) : ∃ s1', StepL P ops y Ly s s1' ∧ StepL P ops x Lx s1' s2 := by
  simp only [indepL, Bool.and_eq_true, Bool.or_eq_true, Bool.not_eq_true'] at hi
  obtain ⟨⟨⟨hap, hlab⟩, hdx⟩, hdy⟩ := hi
  obtain ⟨a1, a2, a3⟩ := Oper.apart_spec hap
  obtain ⟨svx, ex, hx, rfl⟩ := h1
  obtain ⟨svy, ey, hy, rfl⟩ := h2
  have tx : ∀ d ∈ y.looksAt ops, (s.app x svx ex).t d = s.t d := fun d hd => by rw [app_t, putT_at, if_neg (fun e => a1 d e hd)]
  have ty : ∀ d ∈ x.looksAt ops, (s.app y svy ey).t d = s.t d := fun d hd => by rw [app_t, putT_at, if_neg (fun e => a3 d e hd)]
  have rdy : rdOf (s.app x svx ex) y = rdOf s y := rd_same tx
  have old : ∀ o id, id ∈ rdOf s o → id.2 < s.g id.1 := fun o id hid => by
    obtain ⟨z, _, hz⟩ := mem_ments.1 hid
    cases z with
    | tmp t => exact hw t id hz
    | const v => simp only [ASt.ev] at hz; split at hz <;> simp [ment] at hz
    | global g => simp [ASt.ev, ment] at hz
    | func f => simp [ASt.ev, ment] at hz
  have lx : ∀ id, Lx.2 = some id → id ∉ Ly.1 ∧ Ly.2 ≠ some id := fun id e => by
    unfold labOk at hlab
    rw [e] at hlab
    simp only [Bool.and_eq_true, Bool.not_eq_true', bne_iff_ne, ne_eq] at hlab
    exact ⟨by simpa using hlab.1.1, hlab.1.2⟩
  have ly : ∀ id, Ly.2 = some id → id ∉ Lx.1 := fun id e => by
    unfold labOk at hlab
    rw [e] at hlab
    simp only [Bool.and_eq_true, Bool.not_eq_true'] at hlab
    simpa using hlab.2
  have mx : ∀ id ∈ rdOf s y, (s.app x svx ex).m id = s.m id := fun id hid =>
    wr_in_m hx (fun e => (lx id e).1 (by rw [hy.2.2.1, rdy]; exact hid)) (old y id hid)
  have my : ∀ id ∈ rdOf s x, Ly.2 ≠ some id := fun id hid e => ly id e (by rw [hx.2.2.1]; exact hid)
  have dne : usesNid x.op = true → usesNid y.op = true → dnum x ≠ dnum y := fun e1 e2 => by
    obtain ⟨d1, e3⟩ := Option.isSome_iff_exists.1 (hdx.resolve_left (by simp [e1]))
    obtain ⟨d2, e4⟩ := Option.isSome_iff_exists.1 (hdy.resolve_left (by simp [e2]))
    intro e
    simp only [dnum, e3, e4, Option.getD_some] at e
    subst e
    exact a2 d1 e3 e4
  have nx : ∀ b, ex = .new b → usesNid x.op = true := fun b e => by have := hx.2.1; rw [e] at this; exact this
  have ny : ∀ b, ey = .new b → usesNid y.op = true := fun b e => by have := hy.2.1; rw [e] at this; exact this
  have gx : usesNid y.op = true → (s.app x svx ex).g (dnum y) = s.g (dnum y) := fun h0 => by
    cases ex with
    | none => rfl
    | new b => rw [app_new]; simp only [upd]; rw [if_neg (Ne.symm (dne (nx b rfl) h0))]
    | set id b => rfl
  have gy : usesNid x.op = true → (s.app y svy ey).g (dnum x) = s.g (dnum x) := fun h0 => by
    cases ey with
    | none => rfl
    | new b => rw [app_new]; simp only [upd]; rw [if_neg (dne h0 (ny b rfl))]
    | set id b => rfl
  have hy' : ActsL P ops y s svy ey Ly := actsL_same (fun d hd => (tx d hd).symm) (fun id hid => (mx id (by rw [← rdy]; exact hid)).symm) (fun h0 => (gx h0).symm) hy
  have hx' : ActsL P ops x (s.app y svy ey) svx ex Lx := actsL_same ty (fun id hid => wr_in_m hy' (my id hid) (old x id hid)) gy hx
  refine ⟨_, ⟨svy, ey, hy', rfl⟩, svx, ex, hx', ?_⟩
  have et := putT_comm s.t svx svy a2
  have fin : ∀ (A B : ASt), A.t = B.t → A.m = B.m → A.g = B.g → A = B := fun A B h1 h2 h3 => by cases A; cases B; simp only at h1 h2 h3; subst h1; subst h2; subst h3; rfl
  have mcomm : ∀ (i j : Id) (b b' : Blk), i ≠ j → updM (updM s.m i (some b)) j (some b') = updM (updM s.m j (some b')) i (some b) := fun i j b b' hne => by
    funext k
    simp only [updM]
    by_cases e1 : k = j
    · have : ¬ j = i := Ne.symm hne
      simp [e1, this]
    · simp [e1]
  have gcomm : ∀ (i j u v : Nat), i ≠ j → upd (upd s.g i u) j v = upd (upd s.g j v) i u := fun i j u v hne => by
    funext k
    simp only [upd]
    by_cases e1 : k = j
    · have : ¬ j = i := Ne.symm hne
      simp [e1, this]
    · simp [e1]
  have idw : ∀ id b, ex = .set id b → Lx.2 = some id := fun id b e => by rw [hx.2.2.2.1, e]; rfl
  have idv : ∀ id b, ey = .set id b → Ly.2 = some id := fun id b e => by rw [hy.2.2.2.1, e]; rfl
  have nidx : ∀ id, id ∈ rdOf s y → id ≠ (dnum x, s.g (dnum x)) := fun id hid e => by have := old y id hid; rw [e] at this; simp at this
  have nidy : ∀ id, id ∈ rdOf s x → id ≠ (dnum y, s.g (dnum y)) := fun id hid e => by have := old x id hid; rw [e] at this; simp at this
  cases ex with
  | none => cases ey <;> exact fin _ _ et rfl rfl
  | new b =>
    cases ey with
    | none => exact fin _ _ et rfl rfl
    | new b' =>
      have hne := dne (nx b rfl) (ny b' rfl)
      refine fin _ _ et ?_ ?_
      · rw [app_new, app_new, app_new, app_new]
        simp only [upd]
        rw [if_neg (Ne.symm hne), if_neg hne]
        exact mcomm _ _ b b' (fun e => hne (congrArg Prod.fst e))
      · rw [app_new, app_new, app_new, app_new]
        simp only
        rw [show upd s.g (dnum x) (s.g (dnum x) + 1) (dnum y) = s.g (dnum y) from if_neg (Ne.symm hne), show upd s.g (dnum y) (s.g (dnum y) + 1) (dnum x) = s.g (dnum x) from if_neg hne]
        exact gcomm _ _ _ _ hne
    | set id b' =>
      have hin : id ∈ rdOf s y := by have := hy'.2.2.2.2 id rfl; exact this
      exact fin _ _ et (mcomm _ _ b b' (Ne.symm (nidx id hin))) rfl
  | set id b =>
    have hin : id ∈ rdOf s x := hx.2.2.2.2 id rfl
    cases ey with
    | none => exact fin _ _ et rfl rfl
    | new b' => exact fin _ _ et (mcomm _ _ b b' (nidy id hin)) rfl
    | set id' b' =>
      refine fin _ _ et (mcomm _ _ b b' fun e => ?_) rfl
      have h3 := (lx id (idw id b rfl)).2
      rw [idv id' b' rfl, e] at h3
      exact h3 rfl

/-! ## regions, by labels -/
def GoodL (P : Program) (ops : Array Oper) (Λ : Nat → Lab) : List Nat → ASt → ASt → Prop
  | [], s, s' => s' = s
  | i :: l, s, s' => ∃ o s1, ops[i]? = some o ∧ StepL P ops o (Λ i) s s1 ∧ GoodL P ops Λ l s1 s'

def okAtL (ops : Array Oper) (M : List Nat) (Λ : List Lab) (i : Nat) : Bool :=
  match ops[i]? with
  | some o => M.getD i 0 == maskOf M o && o.after.toList.all (fun e => !Region.binds .any e || decide (e.on < i)) &&
      (List.range i).all fun j => match ops[j]? with | some oj => (M.getD i 0).testBit j || indepL ops oj o (Λ.getD j ([], none)) (Λ.getD i ([], none)) | none => true
  | none => true
def okRegionL (ops : Array Oper) (Λ : List Lab) : Bool := (List.range ops.size).all fun i => okAtL ops (masks ops.toList []) Λ i

theorem ok_atL {Λ : List Lab} (h : okRegionL ops Λ = true) {i : Nat} {o : Oper} (hi : ops[i]? = some o) :
    (masks ops.toList []).getD i 0 = maskOf (masks ops.toList []) o ∧ (∀ e ∈ o.after.toList, Region.binds .any e = true → e.on < i) ∧
    ∀ j oj, j < i → ops[j]? = some oj → ((masks ops.toList []).getD i 0).testBit j = true ∨ indepL ops oj o (Λ.getD j ([], none)) (Λ.getD i ([], none)) = true := by
  unfold okRegionL at h
  generalize masks ops.toList [] = M at *
  have hlt := (Array.getElem?_eq_some_iff.1 hi).1
  have := List.all_eq_true.1 h i (List.mem_range.2 hlt)
  unfold okAtL at this
  simp only [hi, Bool.and_eq_true, beq_iff_eq, List.all_eq_true, Bool.or_eq_true, Bool.not_eq_true', decide_eq_true_eq] at this
  obtain ⟨⟨h1, h2⟩, h3⟩ := this
  refine ⟨h1, fun e he hb => (h2 e he).resolve_left (by simp [hb]), fun j oj hj hoj => ?_⟩
  have := h3 j (List.mem_range.2 hj)
  simp only [hoj] at this
  simpa using this

theorem anc_listedL {Λ : List Lab} (h : okRegionL ops Λ = true) {listed : Array Bool} (hc : Closed ops listed) : ∀ (i : Nat) (o : Oper), ops[i]? = some o → (∀ e ∈ o.after.toList, Region.binds .any e = true → listed.getD e.on false = true) →
    ∀ j, ((masks ops.toList []).getD i 0).testBit j = true → listed.getD j false = true := by
  intro i
  induction i using Nat.strongRecOn with
  | _ i ih =>
    intro o ho hall j hj
    obtain ⟨h1, h2, _⟩ := ok_atL h ho
    rw [h1] at hj
    obtain ⟨e, he, hb, h3 | h3⟩ := maskOf_bit _ _ _ hj
    · subst h3; exact hall e he hb
    · have hlt := h2 e he hb
      have hsz := (Array.getElem?_eq_some_iff.1 ho).1
      have hoe : ops[e.on]? = some ops[e.on] := Array.getElem?_eq_getElem (by omega)
      exact ih e.on hlt _ hoe (hc _ _ hoe (hall e he hb)) j h3

theorem good_frontL {Λ : Nat → Lab} (hd : dstOk N ops = true) {i : Nat} {oi : Oper} (hoi : ops[i]? = some oi) {l2 : List Nat} : ∀ (l1 : List Nat) (s : ASt) (a : Act) (w : World), Rel S0 w0 N s a w → GoodL P ops Λ (l1 ++ i :: l2) s s' →
    (∀ j ∈ l1, ∀ oj, ops[j]? = some oj → indepL ops oj oi (Λ j) (Λ i) = true) → ∃ s1, StepL P ops oi (Λ i) s s1 ∧ GoodL P ops Λ (l1 ++ l2) s1 s'
  | [], s, a, w, _, hg, _ => by
    obtain ⟨o, s1, h1, h2, h3⟩ := hg
    rw [hoi] at h1; simp only [Option.some.injEq] at h1; subst h1
    exact ⟨s1, h2, h3⟩
  | j :: l1, s, a, w, hR, hg, hi => by
    obtain ⟨oj, s1, h1, h2, h3⟩ := hg
    obtain ⟨a1, w1, hR1⟩ := step_live hR hd h1 h2.step
    obtain ⟨s2, h4, h5⟩ := good_frontL hd hoi l1 s1 a1 w1 hR1 h3 (fun k hk => hi k (List.mem_cons_of_mem _ hk))
    obtain ⟨s3, h6, h7⟩ := commuteL hR.wf (hi j List.mem_cons_self oj h1) h2 h4
    exact ⟨s3, h6, oj, s2, h1, h7, h5⟩

theorem any_of_goodL {Λ : List Lab} (h : okRegionL ops Λ = true) (hd : dstOk N ops = true) {Q : Exit → Act → World → Prop} (hQ : ∀ a w, Rel S0 w0 N s' a w → Q .normal a w) :
    ∀ (fuel : Nat) (listed : Array Bool) (s : ASt) (a : Act) (w : World), listed.size = ops.size → Closed ops listed → (rem listed ops.size).length = fuel → GoodL P ops (fun i => Λ.getD i ([], none)) (rem listed ops.size) s s' → Rel S0 w0 N s a w →
      wpAny P .any ops Q fuel listed a w := by
  intro fuel
  induction fuel with
  | zero =>
    intro listed s a w hs hc hl hg hR
    have h0 : rem listed ops.size = [] := List.length_eq_zero_iff.1 hl
    rw [h0] at hg
    simp only [GoodL] at hg
    subst hg
    refine ⟨?_, hQ a w hR⟩
    refine List.eq_nil_iff_forall_not_mem.2 fun i hi => ?_
    obtain ⟨hu, o, ho, _⟩ := mem_ready.1 hi
    have : i ∈ rem listed ops.size := mem_rem.2 ⟨(Array.getElem?_eq_some_iff.1 ho).1, hu⟩
    rw [h0] at this; cases this
  | succ fuel ih =>
    intro listed s a w hs hc hl hg hR
    refine ⟨fun hr => ?_, fun i hi => ?_⟩
    · exfalso
      cases hrem : rem listed ops.size with
      | nil => rw [hrem] at hl; simp at hl
      | cons i l =>
        have hi : i ∈ rem listed ops.size := by rw [hrem]; exact List.mem_cons_self
        obtain ⟨hlt, hu⟩ := mem_rem.1 hi
        have ho : ops[i]? = some ops[i] := Array.getElem?_eq_getElem hlt
        have hleast : ∀ j, j < i → listed.getD j true = true := fun j hj => by
          cases hj2 : listed.getD j true with
          | true => rfl
          | false =>
            have hjm : j ∈ rem listed ops.size := mem_rem.2 ⟨by omega, hj2⟩
            have hsorted : (rem listed ops.size).Pairwise (· < ·) := List.Pairwise.filter _ (List.pairwise_lt_range)
            rw [hrem] at hjm hsorted
            rcases List.mem_cons.1 hjm with e | e
            · omega
            · have := (List.pairwise_cons.1 hsorted).1 j e; omega
        have hready : i ∈ Region.ready .any ops listed := mem_ready.2 ⟨hu, _, ho, fun e he hb => by
          have h1 := (ok_atL h ho).2.1 e (by simpa using he) hb
          have h2 := hleast e.on h1
          rw [Array.getD_eq_getD_getElem?] at h2 ⊢
          rw [Array.getElem?_eq_getElem (by omega)] at h2 ⊢
          exact h2⟩
        rw [hr] at hready; cases hready
    · obtain ⟨hu, o, ho, hall⟩ := mem_ready.1 hi
      have hir : i ∈ rem listed ops.size := mem_rem.2 ⟨(Array.getElem?_eq_some_iff.1 ho).1, hu⟩
      obtain ⟨l1, l2, e1, e2, hl1⟩ := rem_split hs hir
      rw [e1] at hg
      obtain ⟨s1, hstep, hg1⟩ := good_frontL hd ho l1 s a w hR hg (fun j hj oj hoj => by
        obtain ⟨hji, hjr⟩ := hl1 j hj
        rcases (ok_atL h ho).2.2 j oj hji hoj with h1 | h1
        · have := anc_listedL h hc i o ho (fun e he hb => hall e (by simpa using he) hb) j h1
          have h2 := (mem_rem.1 hjr).2
          rw [Array.getD_eq_getD_getElem?] at h2 this
          cases hx : listed[j]? with
          | none => rw [hx] at this; cases this
          | some b => rw [hx] at h2 this; simp at h2 this; rw [h2] at this; cases this
        · exact h1)
      refine step_sound hR ho (dst_lt hd ho) hstep.step fun a' w' hR' => ?_
      refine ih _ s1 a' w' (by simpa using hs) (fun k ok hk hlk e he hb => ?_) ?_ (by rw [e2]; exact hg1) hR'
      · by_cases hki : i = k
        · subst hki
          rw [ho] at hk; simp only [Option.some.injEq] at hk; subst hk
          exact getD_set_true (hall e (by simpa using he) hb)
        · rw [getD_set_ne false hki] at hlk
          exact getD_set_true (hc k ok hk hlk e he hb)
      · rw [e2]; rw [e1] at hl; simp only [List.length_append, List.length_cons] at hl ⊢; omega

/-- operations, one behind the other, their labels put down -/
def GoesL (P : Program) (ops : Array Oper) : List Oper → ASt → List Lab → (ASt → List Lab → Prop) → Prop
  | [], s, Λ, K => K s Λ
  | o :: l, s, Λ, K => ∃ s1 L, StepL P ops o L s s1 ∧ GoesL P ops l s1 (Λ ++ [L]) K

theorem goesL_good {K : ASt → List Lab → Prop} : ∀ (l : List Oper) (k : Nat) (s : ASt) (Λ : List Lab), Λ.length = k → (∀ j, l[j]? = ops[k + j]?) → GoesL P ops l s Λ K → ∃ s' Λ', GoodL P ops (fun i => Λ'.getD i ([], none)) (List.range' k l.length) s s' ∧ K s' Λ' ∧ ∃ r, Λ' = Λ ++ r
  | [], k, s, Λ, _, _, h => ⟨s, Λ, rfl, h, [], by simp⟩
  | o :: l, k, s, Λ, hΛ, hl, h => by
    obtain ⟨s1, L, h1, h2⟩ := h
    obtain ⟨s', Λ', h3, h4, r, h5⟩ := goesL_good l (k + 1) s1 (Λ ++ [L]) (by simp [hΛ]) (fun j => by have := hl (j + 1); simpa [Nat.add_assoc, Nat.add_comm 1 j] using this) h2
    refine ⟨s', Λ', ⟨o, s1, by simpa using (hl 0).symm, ?_, h3⟩, h4, L :: r, by rw [h5]; simp⟩
    have : Λ'.getD k ([], none) = L := by rw [h5, ← hΛ]; simp [List.getD_eq_getElem?_getD]
    simp only [this]
    exact h1

theorem AW_regionL {id : Nat} {ops : Array Oper} {K : Exit → ASt → Prop} (hd : dstOk N ops = true) (hm : P.follows .mixedOrders = true) (h : GoesL P ops ops.toList s [] (fun s' Λ => okRegionL ops Λ = true ∧ K .normal s')) : AW P N (.region id ops true) K s := by
  intro S0 w0 a w hR
  obtain ⟨s', Λ, hg, ⟨hok, hK⟩, _⟩ := goesL_good (P := P) (ops := ops) ops.toList 0 s [] rfl (fun j => by simp) h
  rw [Array.length_toList, ← List.range_eq_range'] at hg
  have h0 : rem (Array.replicate ops.size false) ops.size = List.range ops.size := by
    unfold rem
    refine List.filter_eq_self.2 fun i hi => ?_
    simp [List.mem_range.1 hi]
  exact wp_region_any hm (any_of_goodL (S0 := S0) (w0 := w0) hok hd (fun a w hR => ⟨s', hK, hR⟩) _ _ s a _ (by simp) (fun k o hk hl => by
    rw [Array.getD_eq_getD_getElem?] at hl
    cases hx : (Array.replicate ops.size false)[k]? with
    | none => rw [hx] at hl; cases hl
    | some b => rw [hx] at hl; simp [Array.getElem?_replicate] at hx; simp at hl; rw [hl] at hx; simp at hx) (by rw [h0]; simp) (by rw [h0]; exact hg) (rel_drew hR))

/-! the run -/
def stepXL (o : Oper) (s : ASt) : Option (Prop × SV × Eff) → Option (Prop × ASt × Lab)
  | some (p, sv, eff) => bif effFits (mk o.op) eff && newOk o.op eff && (match wrOf eff with | some id => (rdOf s o).contains id | none => true) then some (p, s.app o sv eff, rdOf s o, wrOf eff) else none
  | none => none
def stepWL (P : Program) (o : Oper) (s : ASt) : Option Bool → Option (Prop × ASt × Lab)
  | some true => stepXL o s (aExec P o.op s.ev s.m (dnum o, s.g (dnum o)))
  | some false => some (True, s.app o skipV .none, rdOf s o, none)
  | none => none
def goXL (rec : ASt → Prop → List Lab → Option (Prop × List Oper × ASt × List Lab)) (p : Prop) (Λ : List Lab) : Option (Prop × ASt × Lab) → Option (Prop × List Oper × ASt × List Lab)
  | some (q, s1, L) => rec s1 (p ∧ q) (Λ ++ [L])
  | none => none
def goNL (P : Program) (ops : Array Oper) : Nat → List Oper → ASt → Prop → List Lab → Option (Prop × List Oper × ASt × List Lab)
  | 0, l, s, p, Λ => some (p, l, s, Λ)
  | _ + 1, [], _, _, _ => none
  | n + 1, o :: l, s, p, Λ => goXL (goNL P ops n l) p Λ (stepWL P o s (aWanted ops o s))

theorem stepWL_step {o : Oper} {p : Prop} {L : Lab} (h : stepWL P o s (aWanted ops o s) = some (p, s1, L)) (hp : p) : StepL P ops o L s s1 := by
  cases hw : aWanted ops o s with
  | none => rw [hw] at h; simp [stepWL] at h
  | some b =>
    rw [hw] at h
    cases b with
    | false =>
      simp only [stepWL, Option.some.injEq, Prod.mk.injEq] at h
      obtain ⟨-, rfl, rfl⟩ := h
      exact ⟨skipV, .none, ⟨.inr ⟨hw, rfl, rfl⟩, rfl, rfl, rfl, fun id e => by cases e⟩, rfl⟩
    | true =>
      simp only [stepWL] at h
      cases he : aExec P o.op s.ev s.m (dnum o, s.g (dnum o)) with
      | none => rw [he] at h; simp [stepXL] at h
      | some r =>
        obtain ⟨q, sv, eff⟩ := r
        rw [he] at h
        simp only [stepXL] at h
        cases hf : (effFits (mk o.op) eff && newOk o.op eff && (match wrOf eff with | some id => (rdOf s o).contains id | none => true)) with
        | false => rw [hf] at h; simp at h
        | true =>
          rw [hf] at h
          simp only [cond_true, Option.some.injEq, Prod.mk.injEq] at h
          obtain ⟨rfl, rfl, rfl⟩ := h
          simp only [Bool.and_eq_true] at hf
          exact ⟨sv, eff, ⟨.inl ⟨hw, .inl ⟨q, he, hp, hf.1.1⟩⟩, hf.1.2, rfl, rfl, fun id e => by have := hf.2; rw [e] at this; simpa using this⟩, rfl⟩

theorem goes_runsL {K : ASt → List Lab → Prop} : ∀ (n : Nat) (l : List Oper) (s : ASt) (p0 : Prop) (Λ : List Lab) {p : Prop} {r : List Oper} {s1 : ASt} {Λ1 : List Lab}, goNL P ops n l s p0 Λ = some (p, r, s1, Λ1) → p → GoesL P ops r s1 Λ1 K → p0 ∧ GoesL P ops l s Λ K
  | 0, l, s, p0, Λ, p, r, s1, Λ1, h, hp, hk => by
    simp only [goNL, Option.some.injEq, Prod.mk.injEq] at h
    obtain ⟨rfl, rfl, rfl, rfl⟩ := h
    exact ⟨hp, hk⟩
  | n + 1, [], s, p0, Λ, p, r, s1, Λ1, h, _, _ => by simp [goNL] at h
  | n + 1, o :: l, s, p0, Λ, p, r, s1, Λ1, h, hp, hk => by
    simp only [goNL] at h
    cases hs : stepWL P o s (aWanted ops o s) with
    | none => rw [hs] at h; simp [goXL] at h
    | some x =>
      obtain ⟨q, s2, L⟩ := x
      rw [hs] at h
      simp only [goXL] at h
      obtain ⟨h1, h2⟩ := goes_runsL n l s2 (p0 ∧ q) (Λ ++ [L]) h hp hk
      exact ⟨h1.1, s2, L, stepWL_step hs h1.2, h2⟩
theorem goes_runL {K : ASt → List Lab → Prop} (n : Nat) (l : List Oper) (s : ASt) (Λ : List Lab) {p : Prop} {r : List Oper} {s1 : ASt} {Λ1 : List Lab} (h : goNL P ops n l s True Λ = some (p, r, s1, Λ1)) (hp : p) (hk : GoesL P ops r s1 Λ1 K) : GoesL P ops l s Λ K :=
  (goes_runsL n l s True Λ h hp hk).2
theorem goes_callL {K : ASt → List Lab → Prop} {o : Oper} {l : List Oper} {Λ : List Lab} {k : Nat} {args : Array Operand} {ts : Array TypeId} {p q : Prop} {ys : List PV} {r : PV} {rd : List Id} (hA : ACalls P k ys r) (ho : o.op = .call ⟨.value (.func k), args, ts⟩) (hw : aWanted ops o s = some true)
    (hc : closeCs s.m (args.toList.map s.ev) = some (p, q, ys)) (hp : p) (hq : q ∨ r.flat = true) (hr : rdOf s o = rd) (hk : GoesL P ops l (s.app o (.c r) .none) (Λ ++ [(rd, none)]) K) : GoesL P ops (o :: l) s Λ K :=
  ⟨_, (rd, none), ⟨.c r, .none, ⟨.inl ⟨hw, .inr ⟨k, args, ts, p, q, ys, r, ho, hc, hp, hq, hA, rfl, rfl⟩⟩, rfl, hr.symm, rfl, fun id e => by cases e⟩, rfl⟩, hk⟩
theorem goes_endL {y : Code} {K : Exit → ASt → Prop} {Λ : List Lab} (ks : List Nat) (ms : List Id) (hok : okRegionL ops Λ = true) (h : ASt.mk (lk (keepT s.t ks)) (lkM (keepM s.m ms)) s.g = s1) (hk : AW P N y K s1) : GoesL P ops [] s Λ (fun s' Λ => okRegionL ops Λ = true ∧ thenK (AW P N y K) K .normal s') :=
  ⟨hok, AW_keep ks ms (by rw [keepT_eq, keepM_eq] at h; exact h ▸ hk)⟩
theorem goes_nilL {K : ASt → Prop} {Λ : List Lab} (hok : okRegionL ops Λ = true) (h : K s) : GoesL P ops [] s Λ (fun s' Λ => okRegionL ops Λ = true ∧ K s') := ⟨hok, h⟩

theorem id_contains_nil (y : Id) : List.contains ([] : List Id) y = false := rfl
theorem id_contains (x y : Id) (l : List Id) : List.contains (x :: l) y = (y == x || List.contains l y) := by
  simp only [List.contains_cons]
theorem id_beq (a b c d : Nat) : (((a, b) : Id) == (c, d)) = (a == c && b == d) := rfl
theorem rgs :
    List.range 0 = [] ∧
    List.range 1 = [0] ∧
    List.range 2 = [0, 1] ∧
    List.range 3 = [0, 1, 2] ∧
    List.range 4 = [0, 1, 2, 3] ∧
    List.range 5 = [0, 1, 2, 3, 4] ∧
    List.range 6 = [0, 1, 2, 3, 4, 5] ∧
    List.range 7 = [0, 1, 2, 3, 4, 5, 6] ∧
    List.range 8 = [0, 1, 2, 3, 4, 5, 6, 7] ∧
    List.range 9 = [0, 1, 2, 3, 4, 5, 6, 7, 8] ∧
    List.range 10 = [0, 1, 2, 3, 4, 5, 6, 7, 8, 9] ∧
    List.range 11 = [0, 1, 2, 3, 4, 5, 6, 7, 8, 9, 10] ∧
    List.range 12 = [0, 1, 2, 3, 4, 5, 6, 7, 8, 9, 10, 11] ∧
    List.range 13 = [0, 1, 2, 3, 4, 5, 6, 7, 8, 9, 10, 11, 12] ∧
    List.range 14 = [0, 1, 2, 3, 4, 5, 6, 7, 8, 9, 10, 11, 12, 13] ∧
    List.range 15 = [0, 1, 2, 3, 4, 5, 6, 7, 8, 9, 10, 11, 12, 13, 14] ∧
    List.range 16 = [0, 1, 2, 3, 4, 5, 6, 7, 8, 9, 10, 11, 12, 13, 14, 15] :=
  ⟨rfl, rfl, rfl, rfl, rfl, rfl, rfl, rfl, rfl, rfl, rfl, rfl, rfl, rfl, rfl, rfl, rfl⟩
theorem EVL :
    (∀ (P : Program) (ops : Array Oper) (l : List Oper) (s : ASt) (p : Prop) (Λ : List Lab), goNL P ops 0 l s p Λ = some (p, l, s, Λ)) ∧
    (∀ (P : Program) (ops : Array Oper) (n : Nat) (o : Oper) (l : List Oper) (s : ASt) (p : Prop) (Λ : List Lab), goNL P ops (n + 1) (o :: l) s p Λ = goXL (goNL P ops n l) p Λ (stepWL P o s (aWanted ops o s))) :=
  ⟨fun _ _ _ _ _ _ => rfl, fun _ _ _ _ _ _ _ _ => rfl⟩
end
end Go.Ab
