/-
  Steps on plain values that are apart can be taken in either order; so a region, whatever order is drawn, does what its text's order does.
  Conditions: none.
-/
import Derived.Test.YtaoiffinodfcfaaAb11
namespace Go.Ab
open Go.RowKit

def ment : SV → Option Id
  | .own id _ => some id
  | .ptr id _ _ _ => some id
  | .pc id _ _ _ => some id
  | .mo id => some id
  | .st (.sl _) ((0, id, some _) :: _) => some id
  | _ => none
theorem ment_st {p : PV} {ls : List Lnk} {id : Id} (h : ment (.st p ls) = some id) : ∃ l n rest, p = .sl l ∧ ls = (0, id, some n) :: rest := by
  unfold ment at h
  split at h
  all_goals first | (rename_i e; cases e; done) | skip
  · rename_i l id' n rest e
    cases e
    simp only [Option.some.injEq] at h
    subst h
    exact ⟨_, _, _, rfl, rfl⟩
  · cases h

section congr
variable {P : Program} {m m' : Id → Option Blk} {nid nid' : Id}

theorem closeV_congr {x : SV} (h : ∀ id, ment x = some id → m id = m' id) : closeV m x = closeV m' x := by
  cases x <;> simp only [closeV] <;> rw [h _ rfl]
theorem closeL_congr {x : SV} (h : ∀ id, ment x = some id → m id = m' id) : closeL m x = closeL m' x := by
  have hc := closeV_congr (m := m) (m' := m') h
  cases x with
  | own id n => simp only [closeL]; rw [h _ rfl, hc]
  | mo id => simp only [closeL]; rw [h _ rfl]
  | st p ls => simp only [closeL]
  | _ => simp only [closeL]; rw [hc]
theorem closeLs_congr : ∀ {l : List SV}, (∀ x ∈ l, ∀ id, ment x = some id → m id = m' id) → closeLs m l = closeLs m' l
  | [], _ => rfl
  | x :: xs, h => by
    simp only [closeLs]
    rw [closeL_congr (h x List.mem_cons_self), closeLs_congr (fun y hy => h y (List.mem_cons_of_mem _ hy))]
theorem closeAll_congr : ∀ {l : List SV}, (∀ x ∈ l, ∀ id, ment x = some id → m id = m' id) → closeAll m l = closeAll m' l
  | [], _ => rfl
  | x :: xs, h => by
    simp only [closeAll]
    rw [closeV_congr (h x List.mem_cons_self), closeAll_congr (fun y hy => h y (List.mem_cons_of_mem _ hy))]
theorem closeC_congr {x : SV} (h : ∀ id, ment x = some id → m id = m' id) : closeC m x = closeC m' x := by
  cases x <;> simp only [closeC] <;> rw [h _ rfl]
theorem closeCs_congr : ∀ {l : List SV}, (∀ x ∈ l, ∀ id, ment x = some id → m id = m' id) → closeCs m l = closeCs m' l
  | [], _ => rfl
  | x :: xs, h => by
    simp only [closeCs]
    rw [closeC_congr (h x List.mem_cons_self), closeCs_congr (fun y hy => h y (List.mem_cons_of_mem _ hy))]
theorem aLoad_congr {T : TypeId} {x : SV} (h : ∀ id, ment x = some id → m id = m' id) : aLoad P m T x = aLoad P m' T x := by
  cases x with
  | ptr id n i off => simp only [aLoad]; rw [h _ rfl]
  | c p => cases p <;> simp only [aLoad]
  | _ => simp only [aLoad]
theorem aFieldAddr_congr {T : TypeId} {x : SV} {f : Nat} (h : ∀ id, ment x = some id → m id = m' id) : aFieldAddr P m T x f = aFieldAddr P m' T x f := by
  cases x with
  | ptr id n i off => simp only [aFieldAddr]; rw [h _ rfl]
  | c p => cases p <;> simp only [aFieldAddr]
  | _ => simp only [aFieldAddr]
theorem aIndexAddr_congr {T : TypeId} {x ix : SV} (h : ∀ id, ment x = some id → m id = m' id) : aIndexAddr P m T x ix = aIndexAddr P m' T x ix := by
  unfold aIndexAddr
  split
  · cases x with
    | own id n => simp only; rw [h _ rfl]
    | pc id n lo len => simp only; rw [h _ rfl]
    | c p => cases p <;> simp only
    | _ => simp only
  · rfl
theorem aLen_congr {T : TypeId} {x : SV} (h : ∀ id, ment x = some id → m id = m' id) : aLen P m T x = aLen P m' T x := by
  cases x with
  | own id n => simp only [aLen]; rw [h _ rfl]
  | pc id n lo len => simp only [aLen]; rw [h _ rfl]
  | c p => cases p with
    | v x => cases x <;> simp only [aLen]
    | _ => simp only [aLen]
  | _ => simp only [aLen]

theorem aSlice_congr {T : TypeId} {x : SV} {lo hi : Option SV} (h : ∀ id, ment x = some id → m id = m' id) : aSlice P m T x lo hi = aSlice P m' T x lo hi := by
  unfold aSlice
  split
  · rfl
  · rfl
  · rw [h _ rfl]
  · rfl

theorem aLookup_congr {T : TypeId} {x k : SV} (h : ∀ id, ment x = some id → m id = m' id) : aLookup P m T x k = aLookup P m' T x k := by
  cases x with
  | mo id => simp only [aLookup]; rw [h _ rfl]
  | c p => cases p <;> simp only [aLookup]
  | _ => simp only [aLookup]

/-- the function looks at the operands, and at the blocks that they name -/
theorem exec_congr {o : Op} {ev ev' : Operand → SV} (hk : mk o ≤ 2 ∨ (m' = m ∧ nid' = nid)) (hev : ∀ x ∈ o.operands, ev' x = ev x) (hm : mk o ≠ 0 → ∀ x ∈ o.operands, ∀ id, ment (ev x) = some id → m' id = m id) (hn : mk o = 2 → nid' = nid) :
    aExec P o ev' m' nid' = aExec P o ev m nid := by
  cases o with
  | move x => simp only [aExec]; rw [hev x (by simp [Op.operands])]
  | assign x => simp only [aExec]; rw [hev x (by simp [Op.operands])]
  | pick c a b => simp only [aExec]; rw [hev c (by simp [Op.operands]), hev a (by simp [Op.operands]), hev b (by simp [Op.operands])]
  | alloc T => rw [hn rfl]; rfl
  | box T x => rw [hn rfl]; simp only [aExec]; rw [hev x (by simp [Op.operands]), closeL_congr (hm (by simp [mk]) x (by simp [Op.operands]))]
  | build T parts =>
    simp only [aExec]
    have h1 : (parts.toList.map fun (p : Nat × Operand) => ev' p.2) = parts.toList.map fun (p : Nat × Operand) => ev p.2 := List.map_congr_left fun p hp => hev p.2 (by simp only [Op.operands, List.mem_toArray, List.mem_map]; exact ⟨p, hp, rfl⟩)
    have h2 : closeLs m' (parts.toList.map fun (p : Nat × Operand) => ev p.2) = closeLs m (parts.toList.map fun (p : Nat × Operand) => ev p.2) := closeLs_congr fun x hx => by
      obtain ⟨p, hp, rfl⟩ := List.mem_map.1 hx
      exact hm (by simp [mk]) p.2 (by simp only [Op.operands, List.mem_toArray, List.mem_map]; exact ⟨p, hp, rfl⟩)
    rw [h1, h2]
  | buildSlice T len parts =>
    rw [hn rfl]
    simp only [aExec]
    have h1 : (parts.toList.map fun (p : Nat × Operand) => ev' p.2) = parts.toList.map fun (p : Nat × Operand) => ev p.2 := List.map_congr_left fun p hp => hev p.2 (by simp only [Op.operands, List.mem_toArray, List.mem_map]; exact ⟨p, hp, rfl⟩)
    have h2 : closeAll m' (parts.toList.map fun (p : Nat × Operand) => ev p.2) = closeAll m (parts.toList.map fun (p : Nat × Operand) => ev p.2) := closeAll_congr fun x hx => by
      obtain ⟨p, hp, rfl⟩ := List.mem_map.1 hx
      exact hm (by simp [mk]) p.2 (by simp only [Op.operands, List.mem_toArray, List.mem_map]; exact ⟨p, hp, rfl⟩)
    rw [h1, h2]
  | load T a => simp only [aExec]; rw [hev a (by simp [Op.operands]), aLoad_congr (hm (by simp [mk]) a (by simp [Op.operands]))]
  | nilCheck x =>
    simp only [aExec]; rw [hev x (by simp [Op.operands])]
    have := hm (by simp [mk]) x (by simp [Op.operands])
    cases hx : ev x with
    | ptr id n i off => rw [hx] at this; simp only; rw [this _ rfl]
    | c p => cases p <;> rfl
    | _ => rfl
  | binOp op T x y T' => simp only [aExec]; rw [hev x (by simp [Op.operands]), hev y (by simp [Op.operands])]
  | unOp op T x => simp only [aExec]; rw [hev x (by simp [Op.operands])]
  | convert S T x => simp only [aExec]; rw [hev x (by simp [Op.operands])]
  | makeSlice T l c => rw [hn rfl]; simp only [aExec]; rw [hev l (by simp [Op.operands]), hev c (by simp [Op.operands])]
  | slice T x lo hi mx =>
    cases mx with
    | some mx => rfl
    | none =>
      simp only [aExec]
      rw [hev x (by simp [Op.operands])]
      have h1 : lo.map ev' = lo.map ev := by cases lo with
        | none => rfl
        | some lo => simp only [Option.map_some]; rw [hev lo (by simp [Op.operands])]
      have h2 : hi.map ev' = hi.map ev := by cases hi with
        | none => rfl
        | some hi => simp only [Option.map_some]; rw [hev hi (by simp [Op.operands])]
      rw [h1, h2]
      rw [aSlice_congr (hm (by simp [mk]) x (by simp [Op.operands]))]
  | fieldAddr T x f => simp only [aExec]; rw [hev x (by simp [Op.operands]), aFieldAddr_congr (hm (by simp [mk]) x (by simp [Op.operands]))]
  | field T x f => simp only [aExec]; rw [hev x (by simp [Op.operands])]
  | indexAddr T x ix => simp only [aExec]; rw [hev x (by simp [Op.operands]), hev ix (by simp [Op.operands]), aIndexAddr_congr (hm (by simp [mk]) x (by simp [Op.operands]))]
  | index T x ix => simp only [aExec]; rw [hev x (by simp [Op.operands]), hev ix (by simp [Op.operands])]
  | extract t i => simp only [aExec]; rw [hev t (by simp [Op.operands])]
  | makeInterface T x => simp only [aExec]; rw [hev x (by simp [Op.operands]), closeV_congr (hm (by simp [mk]) x (by simp [Op.operands]))]
  | makeFunc f first captured =>
    cases f with
    | func k =>
      simp only [aExec]
      have h1 : captured.toList.map ev' = captured.toList.map ev := List.map_congr_left fun p hp => hev p (by simp only [Op.operands, Array.mem_append]; exact .inr (by simpa using hp))
      have h2 : closeAll m' (captured.toList.map ev) = closeAll m (captured.toList.map ev) := closeAll_congr fun x hx => by
        obtain ⟨p, hp, rfl⟩ := List.mem_map.1 hx
        exact hm (by simp [mk]) p (by simp only [Op.operands, Array.mem_append]; exact .inr (by simpa using hp))
      rw [h1, h2]
    | _ => rfl
  | call c =>
    obtain ⟨callee, args, ts⟩ := c
    cases callee with
    | builtin b =>
      have hin : ∀ x ∈ args.toList, x ∈ (Op.call ⟨.builtin b, args, ts⟩).operands := fun x hx => by simpa [Op.operands, Call.operands] using hx
      cases b with
      | len =>
        simp only [aExec]
        split
        · rename_i x T e1 e2
          have hx := hin x (by rw [e1]; exact List.mem_cons_self)
          rw [hev x hx, aLen_congr (hm (by simp [mk]) x hx)]
        · rfl
      | min =>
        simp only [aExec]
        have h1 : args.toList.map ev' = args.toList.map ev := List.map_congr_left fun x hx => hev x (hin x hx)
        rw [h1]
      | max =>
        simp only [aExec]
        have h1 : args.toList.map ev' = args.toList.map ev := List.map_congr_left fun x hx => hev x (hin x hx)
        rw [h1]
      | append =>
        rcases hk with hk | ⟨rfl, rfl⟩
        · simp [mk] at hk
        simp only [aExec]
        split
        · rename_i x y T T' e1 e2
          rw [hev x (hin x (by rw [e1]; simp)), hev y (hin y (by rw [e1]; simp))]
        · rfl
      | _ => rfl
    | _ => rfl
  | makeMap T r => cases r with
    | none => rw [hn rfl]; rfl
    | some r => rfl
  | lookup T x k c => cases c with
    | true => rfl
    | false => simp only [aExec]; rw [hev x (by simp [Op.operands]), hev k (by simp [Op.operands]), aLookup_congr (hm (by simp [mk]) x (by simp [Op.operands]))]
  | mapUpdate T x k y =>
    rcases hk with hk | ⟨rfl, rfl⟩
    · simp [mk] at hk
    simp only [aExec]; rw [hev x (by simp [Op.operands]), hev k (by simp [Op.operands]), hev y (by simp [Op.operands])]
  | insert T x k y =>
    rcases hk with hk | ⟨rfl, rfl⟩
    · simp [mk] at hk
    simp only [aExec]; rw [hev x (by simp [Op.operands]), hev k (by simp [Op.operands]), hev y (by simp [Op.operands])]
  | store T x y =>
    rcases hk with hk | ⟨rfl, rfl⟩
    · simp [mk] at hk
    simp only [aExec]; rw [hev x (by simp [Op.operands]), hev y (by simp [Op.operands])]
  | _ => rfl
end congr

section
variable {P : Program} {S0 : Env} {w0 : World} {N : Nat} {s s1 s2 s' : ASt} {a : Act} {w : World} {ops : Array Oper}

/-- names of blocks are names of blocks that were made -/
def WF (s : ASt) : Prop := ∀ i id, ment (s.t i) = some id → id.2 < s.g id.1

theorem Rel.wf (h : Rel S0 w0 N s a w) : WF s := by
  obtain ⟨ρ, h⟩ := h
  intro i id hm
  have := h.slots i
  generalize s.t i = sv at *
  generalize a.tmps.getD i undef = v at *
  cases this with
  | st p ls x hr hl =>
    obtain ⟨l, n, rest, rfl, rfl⟩ := ment_st hm
    obtain ⟨y, _, h2⟩ := hl _ List.mem_cons_self
    exact h2.lt
  | own => simp only [ment, Option.some.injEq] at hm; subst hm; assumption
  | ptr => simp only [ment, Option.some.injEq] at hm; subst hm; assumption
  | pc => simp only [ment, Option.some.injEq] at hm; subst hm; assumption
  | mo => simp only [ment, Option.some.injEq] at hm; subst hm; assumption
  | _ => simp only [ment, reduceCtorEq] at hm

/-- what an operation does, carried out or not -/
def aActs (P : Program) (ops : Array Oper) (o : Oper) (s : ASt) (sv : SV) (eff : Eff) : Prop :=
  (aWanted ops o s = some true ∧ aDoes P o s sv eff) ∨ (aWanted ops o s = some false ∧ sv = skipV ∧ eff = .none)

theorem step_acts {o : Oper} : aStep P ops o s s' ↔ ∃ sv eff, aActs P ops o s sv eff ∧ s' = s.app o sv eff := by
  constructor
  · rintro (⟨h1, sv, eff, h2, h3⟩ | ⟨h1, h2⟩)
    · exact ⟨sv, eff, .inl ⟨h1, h2⟩, h3⟩
    · exact ⟨skipV, .none, .inr ⟨h1, rfl, rfl⟩, h2⟩
  · rintro ⟨sv, eff, ⟨h1, h2⟩ | ⟨h1, rfl, rfl⟩, h3⟩
    · exact .inl ⟨h1, sv, eff, h2, h3⟩
    · exact .inr ⟨h1, h3⟩

theorem acts_eff {o : Oper} {sv : SV} {eff : Eff} (h : aActs P ops o s sv eff) : effFits (mk o.op) eff = true := by
  rcases h with ⟨_, ⟨pre, _, _, h⟩ | ⟨_, _, _, _, _, _, _, _, _, _, _, _, _, rfl⟩⟩ | ⟨_, _, rfl⟩
  · exact h
  · rfl
  · rfl

theorem ev_same {o : Oper} (ht : ∀ d ∈ o.looksAt ops, s'.t d = s.t d) : ∀ x ∈ o.op.operands, s'.ev x = s.ev x := by
  intro x hx
  cases x with
  | tmp t =>
    refine ht t ?_
    unfold Oper.looksAt
    refine List.mem_append.2 (.inl (List.mem_filterMap.2 ⟨.tmp t, by simpa using hx, rfl⟩))
  | _ => rfl

theorem ev_ment {o : Oper} (hm : ∀ d ∈ o.looksAt ops, ∀ id, ment (s.t d) = some id → s'.m id = s.m id) : ∀ x ∈ o.op.operands, ∀ id, ment (s.ev x) = some id → s'.m id = s.m id := by
  intro x hx id hid
  cases x with
  | tmp t =>
    refine hm t ?_ id hid
    unfold Oper.looksAt
    exact List.mem_append.2 (.inl (List.mem_filterMap.2 ⟨.tmp t, by simpa using hx, rfl⟩))
  | const v =>
    simp only [ASt.ev] at hid
    split at hid <;> simp [ment] at hid
  | global g => simp [ASt.ev, ment] at hid
  | func f => simp [ASt.ev, ment] at hid

theorem wanted_same {o : Oper} (ht : ∀ d ∈ o.looksAt ops, s'.t d = s.t d) : aWanted ops o s' = aWanted ops o s := by
  unfold aWanted
  cases hg : o.guard with
  | none => rfl
  | some jw =>
    obtain ⟨j, want⟩ := jw
    simp only
    cases hd : (ops[j]?).bind (·.dst) with
    | none => rfl
    | some d =>
      simp only
      rw [ht d (by unfold Oper.looksAt; exact List.mem_append.2 (.inr (by simp [hg, hd])))]

theorem acts_same {o : Oper} (hk : mk o.op ≤ 2 ∨ (s'.m = s.m ∧ s'.g (dnum o) = s.g (dnum o))) (ht : ∀ d ∈ o.looksAt ops, s'.t d = s.t d) (hm : mk o.op ≠ 0 → ∀ d ∈ o.looksAt ops, ∀ id, ment (s.t d) = some id → s'.m id = s.m id)
    (hg : mk o.op = 2 → s'.g (dnum o) = s.g (dnum o)) {sv : SV} {eff : Eff} (h : aActs P ops o s sv eff) : aActs P ops o s' sv eff := by
  have hev := ev_same ht
  rcases h with ⟨h1, h2⟩ | ⟨h1, h2⟩
  · refine .inl ⟨by rw [wanted_same ht]; exact h1, ?_⟩
    rcases h2 with ⟨pre, h2, h3⟩ | ⟨k, args, ts, p, q, ys, r, ho, hc, h3⟩
    · refine .inl ⟨pre, ?_, h3⟩
      rw [exec_congr (nid' := (dnum o, s'.g (dnum o))) (hk.imp_right fun h => ⟨h.1, by rw [h.2]⟩) hev (fun h0 => ev_ment (hm h0)) (fun e => by rw [hg e])]
      exact h2
    · refine .inr ⟨k, args, ts, p, q, ys, r, ho, ?_, h3⟩
      have hin : ∀ x ∈ args.toList, x ∈ o.op.operands := fun x hx => by rw [ho]; simp only [Op.operands, Call.operands]; simp only [Array.mem_append]; exact .inr (by simpa using hx)
      have e1 : args.toList.map s'.ev = args.toList.map s.ev := List.map_congr_left fun x hx => hev x (hin x hx)
      rw [e1]
      have e2 : closeCs s'.m (args.toList.map s.ev) = closeCs s.m (args.toList.map s.ev) := closeCs_congr fun x hx => by
        obtain ⟨y, hy, rfl⟩ := List.mem_map.1 hx
        exact ev_ment (hm (by rw [ho]; simp [mk])) y (hin y hy)
      rw [e2]; exact hc
  · exact .inr ⟨by rw [wanted_same ht]; exact h1, h2⟩

/-- may two operations be taken in either order? -/
def indep (ops : Array Oper) (x y : Oper) : Bool :=
  x.apart ops y && (mk x.op == 0 || mk y.op == 0 || (decide (mk x.op ≤ 2) && decide (mk y.op ≤ 2))) && (mk x.op != 2 || x.dst.isSome) && (mk y.op != 2 || y.dst.isSome) && decide (mk x.op ≤ 3) && decide (mk y.op ≤ 3)

theorem app_t (o : Oper) (sv : SV) (eff : Eff) : (s.app o sv eff).t = putT s.t o.dst sv := rfl
theorem app_none (o : Oper) (sv : SV) : s.app o sv .none = { s with t := putT s.t o.dst sv } := rfl
theorem app_new (o : Oper) (sv : SV) (b : Blk) : s.app o sv (.new b) = { t := putT s.t o.dst sv, m := updM s.m (dnum o, s.g (dnum o)) (some b), g := upd s.g (dnum o) (s.g (dnum o) + 1) } := rfl

theorem putT_comm (t : Nat → SV) {x y : Option Nat} (u v : SV) (h : ∀ d, x = some d → y ≠ some d) : putT (putT t x u) y v = putT (putT t y v) x u := by
  funext i
  simp only [putT_at]
  by_cases h1 : x = some i
  · have := h i h1
    simp [h1, this]
  · simp [h1]

theorem commute {x y : Oper} (hw : WF s) (hi : indep ops x y = true) (h1 : aStep P ops x s s1) (h2 : aStep P ops y s1 s2) : ∃ s1', aStep P ops y s s1' ∧ aStep P ops x s1' s2 := by
  simp only [indep, Bool.and_eq_true, Bool.or_eq_true, beq_iff_eq, decide_eq_true_eq, bne_iff_ne, ne_eq] at hi
  obtain ⟨⟨⟨⟨⟨hap, hk⟩, hdx⟩, hdy⟩, -⟩, -⟩ := hi
  obtain ⟨a1, a2, a3⟩ := Oper.apart_spec hap
  obtain ⟨svx, ex, hx, rfl⟩ := step_acts.1 h1
  obtain ⟨svy, ey, hy, rfl⟩ := step_acts.1 h2
  have fx := acts_eff hx
  have fy := acts_eff hy
  have tx : ∀ d ∈ y.looksAt ops, (s.app x svx ex).t d = s.t d := fun d hd => by
    rw [app_t, putT_at, if_neg (fun e => a1 d e hd)]
  have ty : ∀ d ∈ x.looksAt ops, (s.app y svy ey).t d = s.t d := fun d hd => by
    rw [app_t, putT_at, if_neg (fun e => a3 d e hd)]
  have nx : mk y.op ≠ 0 → ex = .none ∨ (mk x.op = 2 ∧ ∃ b, ex = .new b) := fun h0 => by
    cases ex with
    | none => exact .inl rfl
    | new b => simp only [effFits, decide_eq_true_eq] at fx; exact .inr ⟨by omega, b, rfl⟩
    | set id b => simp only [effFits, decide_eq_true_eq] at fx; omega
  have ny : mk x.op ≠ 0 → ey = .none ∨ (mk y.op = 2 ∧ ∃ b, ey = .new b) := fun h0 => by
    cases ey with
    | none => exact .inl rfl
    | new b => simp only [effFits, decide_eq_true_eq] at fy; exact .inr ⟨by omega, b, rfl⟩
    | set id b => simp only [effFits, decide_eq_true_eq] at fy; omega
  have dne : mk x.op = 2 → mk y.op = 2 → dnum x ≠ dnum y := fun e1 e2 => by
    have h1 : x.dst.isSome = true := hdx.resolve_left (fun h => h e1)
    have h2 : y.dst.isSome = true := hdy.resolve_left (fun h => h e2)
    obtain ⟨d1, e3⟩ := Option.isSome_iff_exists.1 h1
    obtain ⟨d2, e4⟩ := Option.isSome_iff_exists.1 h2
    intro e
    simp only [dnum, e3, e4, Option.getD_some] at e
    replace e : d1 = d2 := Nat.succ.inj e
    subst e
    exact a2 d1 e3 e4
  have mx : mk y.op ≠ 0 → ∀ d ∈ y.looksAt ops, ∀ id, ment (s.t d) = some id → (s.app x svx ex).m id = s.m id := fun h0 d _ id hid => by
    rcases nx h0 with rfl | ⟨_, b, rfl⟩
    · rfl
    · rw [app_new]
      have := hw d id hid
      simp only [updM]
      rw [if_neg]
      rintro rfl
      simp at this
  have my : mk x.op ≠ 0 → ∀ d ∈ x.looksAt ops, ∀ id, ment (s.t d) = some id → (s.app y svy ey).m id = s.m id := fun h0 d _ id hid => by
    rcases ny h0 with rfl | ⟨_, b, rfl⟩
    · rfl
    · rw [app_new]
      have := hw d id hid
      simp only [updM]
      rw [if_neg]
      rintro rfl
      simp at this
  have gx : mk y.op = 2 → (s.app x svx ex).g (dnum y) = s.g (dnum y) := fun h0 => by
    rcases nx (by omega) with rfl | ⟨q1, b, rfl⟩
    · rfl
    · rw [app_new]; simp only [upd]; rw [if_neg (Ne.symm (dne q1 h0))]
  have gy : mk x.op = 2 → (s.app y svy ey).g (dnum x) = s.g (dnum x) := fun h0 => by
    rcases ny (by omega) with rfl | ⟨q1, b, rfl⟩
    · rfl
    · rw [app_new]; simp only [upd]; rw [if_neg (dne h0 q1)]
  have ex0 : mk x.op = 0 → ex = .none := fun h0 => by
    cases ex with
    | none => rfl
    | new b => simp only [effFits, decide_eq_true_eq] at fx; omega
    | set id b => simp only [effFits, decide_eq_true_eq] at fx; omega
  have ey0 : mk y.op = 0 → ey = .none := fun h0 => by
    cases ey with
    | none => rfl
    | new b => simp only [effFits, decide_eq_true_eq] at fy; omega
    | set id b => simp only [effFits, decide_eq_true_eq] at fy; omega
  have ky : mk y.op ≤ 2 ∨ (s.m = (s.app x svx ex).m ∧ s.g (dnum y) = (s.app x svx ex).g (dnum y)) := by
    rcases Nat.lt_or_ge 2 (mk y.op) with h0 | h0
    · right; rw [ex0 (by omega)]; exact ⟨rfl, rfl⟩
    · exact .inl h0
  have kx : mk x.op ≤ 2 ∨ ((s.app y svy ey).m = s.m ∧ (s.app y svy ey).g (dnum x) = s.g (dnum x)) := by
    rcases Nat.lt_or_ge 2 (mk x.op) with h0 | h0
    · right; rw [ey0 (by omega)]; exact ⟨rfl, rfl⟩
    · exact .inl h0
  have hy' : aActs P ops y s svy ey := acts_same ky (fun d hd => (tx d hd).symm) (fun h0 d hd id hid => (mx h0 d hd id (by rw [← tx d hd]; exact hid)).symm) (fun h0 => (gx h0).symm) hy
  have hx' : aActs P ops x (s.app y svy ey) svx ex := acts_same kx ty my gy hx
  refine ⟨_, step_acts.2 ⟨svy, ey, hy', rfl⟩, step_acts.2 ⟨svx, ex, hx', ?_⟩⟩
  have et := putT_comm s.t svx svy a2
  have fin : ∀ (A B : ASt), A.t = B.t → A.m = B.m → A.g = B.g → A = B := fun A B h1 h2 h3 => by cases A; cases B; simp_all
  have mxy : mk x.op = 2 → mk y.op = 2 → ∀ b b' : Blk, updM (updM s.m (dnum x, s.g (dnum x)) (some b)) (dnum y, s.g (dnum y)) (some b') = updM (updM s.m (dnum y, s.g (dnum y)) (some b')) (dnum x, s.g (dnum x)) (some b) := fun h1 h2 b b' => by
    have hne := dne h1 h2
    funext i
    simp only [updM]
    by_cases e1 : i = (dnum y, s.g (dnum y))
    · have : ¬ i = (dnum x, s.g (dnum x)) := fun e2 => hne (by have := e2.symm.trans e1; exact congrArg Prod.fst this)
      simp [e1, Ne.symm hne]
    · simp [e1]
  have gxy : mk x.op = 2 → mk y.op = 2 → upd (upd s.g (dnum x) (s.g (dnum x) + 1)) (dnum y) (s.g (dnum y) + 1) = upd (upd s.g (dnum y) (s.g (dnum y) + 1)) (dnum x) (s.g (dnum x) + 1) := fun h1 h2 => by
    have hne := dne h1 h2
    funext i
    simp only [upd]
    by_cases e1 : i = dnum y
    · simp [e1, Ne.symm hne]
    · simp [e1]
  cases ex with
  | none => cases ey <;> exact fin _ _ et rfl rfl
  | new b =>
    simp only [effFits, decide_eq_true_eq] at fx
    cases ey with
    | none => exact fin _ _ et rfl rfl
    | new b' =>
      simp only [effFits, decide_eq_true_eq] at fy
      have e1 : mk x.op = 2 := by omega
      have e2 : mk y.op = 2 := by omega
      refine fin _ _ et ?_ ?_
      · rw [app_new, app_new, app_new, app_new]
        simp only [upd]
        rw [if_neg (Ne.symm (dne e1 e2)), if_neg (dne e1 e2)]
        exact mxy e1 e2 b b'
      · rw [app_new, app_new, app_new, app_new]
        simp only
        rw [show upd s.g (dnum x) (s.g (dnum x) + 1) (dnum y) = s.g (dnum y) from if_neg (Ne.symm (dne e1 e2)), show upd s.g (dnum y) (s.g (dnum y) + 1) (dnum x) = s.g (dnum x) from if_neg (dne e1 e2)]
        exact gxy e1 e2
    | set id b' => simp only [effFits, decide_eq_true_eq] at fy; omega
  | set id b =>
    simp only [effFits, decide_eq_true_eq] at fx
    rw [ey0 (by omega)]
    exact fin _ _ et rfl rfl

/-! ## regions -/
def Good (P : Program) (ops : Array Oper) : List Nat → ASt → ASt → Prop
  | [], s, s' => s' = s
  | i :: l, s, s' => ∃ o s1, ops[i]? = some o ∧ aStep P ops o s s1 ∧ Good P ops l s1 s'

def dstOk (N : Nat) (ops : Array Oper) : Bool := ops.toList.all fun o => match o.dst with | some d => decide (d < N) | none => true

theorem dst_lt (hd : dstOk N ops = true) {i : Nat} {o : Oper} (hi : ops[i]? = some o) : ∀ k, o.dst = some k → k < N := fun k hk => by
  simp only [dstOk, List.all_eq_true] at hd
  have := hd o (by rw [Array.mem_toList_iff]; exact Array.mem_of_getElem? hi)
  rw [hk] at this
  simpa using this

theorem wpOp_live {i : Nat} {K : Act → World → Prop} (h : wpOp P ops (fun _ _ _ => False) i K a w) : ∃ a' w', K a' w' := by
  unfold wpOp at h
  split at h
  · exact ⟨_, _, h⟩
  · rename_i o ho
    split at h
    · rcases h with h | ⟨_, _, _, h⟩
      · unfold Oper.wp at h
        generalize (execOp a.eval o).run P w = r at h
        cases r with
        | ok n w' =>
          cases n <;> simp only [Oper.upon] at h
          case value => exact ⟨_, _, h⟩
          case skip => exact ⟨_, _, h⟩
          case defer => exact ⟨_, _, h⟩
          case enter f args =>
            obtain ⟨e, w'', _, h, _⟩ := h []
            cases e with
            | returned v => exact ⟨_, _, h⟩
            | panicked c => exact h.elim
            | outgrown => obtain ⟨_, _, h⟩ := h; exact h.elim
          case row =>
            obtain ⟨v, w'', h, _⟩ := h default []
            exact ⟨_, _, h⟩
        | halt x w' => cases x <;> simp only [Oper.upon] at h
      · exact h.elim
    · exact ⟨_, _, h⟩

theorem step_live (h : Rel S0 w0 N s a w) (hd : dstOk N ops = true) {i : Nat} {o : Oper} (hi : ops[i]? = some o) (hs : aStep P ops o s s') : ∃ a' w', Rel S0 w0 N s' a' w' :=
  wpOp_live (P := P) (ops := ops) (i := i) (a := a) (w := w) (step_sound h hi (dst_lt hd hi) hs fun _ _ h => h)

theorem good_front (hd : dstOk N ops = true) {i : Nat} {oi : Oper} (hoi : ops[i]? = some oi) {l2 : List Nat} : ∀ (l1 : List Nat) (s : ASt) (a : Act) (w : World), Rel S0 w0 N s a w → Good P ops (l1 ++ i :: l2) s s' →
    (∀ j ∈ l1, ∀ oj, ops[j]? = some oj → indep ops oj oi = true) → ∃ s1, aStep P ops oi s s1 ∧ Good P ops (l1 ++ l2) s1 s'
  | [], s, a, w, _, hg, _ => by
    obtain ⟨o, s1, h1, h2, h3⟩ := hg
    rw [hoi] at h1; simp only [Option.some.injEq] at h1; subst h1
    exact ⟨s1, h2, h3⟩
  | j :: l1, s, a, w, hR, hg, hi => by
    obtain ⟨oj, s1, h1, h2, h3⟩ := hg
    obtain ⟨a1, w1, hR1⟩ := step_live hR hd h1 h2
    obtain ⟨s2, h4, h5⟩ := good_front hd hoi l1 s1 a1 w1 hR1 h3 (fun k hk => hi k (List.mem_cons_of_mem _ hk))
    obtain ⟨s3, h6, h7⟩ := commute hR.wf (hi j List.mem_cons_self oj h1) h2 h4
    exact ⟨s3, h6, oj, s2, h1, h7, h5⟩
end
end Go.Ab
