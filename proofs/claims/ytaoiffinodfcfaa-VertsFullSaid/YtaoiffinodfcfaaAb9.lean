/-
  The function on plain values is right, seventh part: lengths, the lesser and the greater, appending.
  Conditions: none.
-/
import Derived.Test.YtaoiffinodfcfaaAb8
namespace Go.Ab
open Go.RowKit

section
variable {P : Program} {ρ : Id → Option BI} {S0 : Env} {w0 : World} {N : Nat} {s : ASt} {a : Act} {w : World}

theorem call_builtin_run (P : Program) (a : Act) (w : World) {o : Oper} {b : Builtin} {args : Array Operand} {ts : Array TypeId} (ho : o.op = .call ⟨.builtin b, args, ts⟩) :
    ∃ cs, (execOp a.eval o).run P w = (builtin b ts o.type cs (args.map a.eval)).run P w := by
  unfold execOp
  simp only [ho, resolve, invoke, Sem.run_bind, Sem.run_pure, Result.andThen]
  exact ⟨_, rfl⟩

theorem toArray_one {α : Type} {x : Array α} {y : α} (h : x.toList = [y]) : x = #[y] := by
  cases x; simp at h; subst h; rfl
theorem toArray_two {α : Type} {x : Array α} {y z : α} (h : x.toList = [y, z]) : x = #[y, z] := by
  cases x; simp at h; subst h; rfl

theorem exec_len (h : RelAt ρ S0 w0 N s a w) {o : Oper} {args : Array Operand} {ts : Array TypeId} (ho : o.op = .call ⟨.builtin .len, args, ts⟩) (nid : Id) {pre : Prop} {sv : SV} {eff : Eff} (he : aExec P o.op s.ev s.m nid = some (pre, sv, eff)) (hp : pre) :
    Good1 P S0 w0 N s a w o nid sv eff := by
  rw [ho] at he
  simp only [aExec, aLen] at he
  split at he
  case h_2 => cases he
  rename_i x T e1 e2
  have e1 := toArray_one e1
  have e2 := toArray_one e2
  have hx := ev_rep h x
  have run : ∀ (v r : Value), a.eval x = v → (Builtin.len_ #[T] o.type #[v]).run P w = .ok r w → (execOp a.eval o).run P w = .ok (.value r) w := fun v r h1 h2 => by
    obtain ⟨cs, hcs⟩ := call_builtin_run P a w ho
    rw [hcs, e1, e2]
    simp only [builtin, List.map_toArray, List.map_cons, List.map_nil, h1, Sem.run_bind, h2, Result.andThen, Sem.run_pure]
  have hsl : ∀ {e : TypeId} {size bytes : Nat} {zero : Option PV} {comp : Option (List CK)} {fok : Bool} (base : Option Addr) (n c : Nat), tinf P T = some ⟨.slice e, size, bytes, zero, comp, fok⟩ → (Builtin.len_ #[T] o.type #[.slice base n c]).run P w = .ok (goInt n) w := fun base n c ht =>
    run_len_slice w T o.type base n c (by simp [Program.elem, tinf_slice ht])
  split at he
  · rename_i l hs
    rw [hs] at hx
    split at he
    case h_2 => cases he
    rename_i ht
    simp only [Option.some.injEq, Prod.mk.injEq] at he
    obtain ⟨-, rfl, rfl⟩ := he
    generalize hv : a.eval x = v at hx
    cases hx with
    | c _ _ hr =>
    cases hr with
    | slNil => exact good_none h (run _ _ hv (hsl _ _ _ ht)) (.c _ _ (.v _))
    | slAt _ _ _ _ _ _ _ hn =>
      refine good_none h (run _ _ hv (hsl _ _ _ ht)) ?_
      rw [hn]
      exact .c _ _ (.v _)
  · rename_i hs
    rw [hs] at hx
    split at he
    case h_2 => cases he
    rename_i ht
    simp only [Option.some.injEq, Prod.mk.injEq] at he
    obtain ⟨-, rfl, rfl⟩ := he
    generalize hv : a.eval x = v at hx
    cases hx with
    | nil => exact good_none h (run _ _ hv (hsl _ _ _ ht)) (.c _ _ (.v _))
  · rename_i id n hs
    rw [hs] at hx
    split at he
    case h_2 => cases he
    rename_i b hm
    split at he
    case h_2 => cases he
    rename_i ht
    simp only [Option.some.injEq, Prod.mk.injEq] at he
    obtain ⟨rfl, rfl, rfl⟩ := he
    generalize hv : a.eval x = v at hx
    cases hx with
    | own _ _ _ hg hh =>
    obtain ⟨_, bi, hρ, B⟩ := h.blk id b hm
    have hx' := (hh bi hρ).2 (by rw [B.len, hp])
    subst hx'
    exact good_none h (run _ _ hv (hsl _ _ _ ht)) (.c _ _ (.v _))
  · rename_i id n lo len hs
    rw [hs] at hx
    split at he
    case h_2 => cases he
    rename_i b hm
    split at he
    case h_2 => cases he
    rename_i ht
    simp only [Option.some.injEq, Prod.mk.injEq] at he
    obtain ⟨rfl, rfl, rfl⟩ := he
    generalize hv : a.eval x = v at hx
    cases hx with
    | pc _ _ _ _ _ hg hln hh =>
    obtain ⟨_, bi, hρ, B⟩ := h.blk id b hm
    obtain ⟨k, _, hx'⟩ := (hh bi hρ).2 (by rw [B.len, hp])
    subst hx'
    exact good_none h (run _ _ hv (hsl _ _ _ ht)) (.c _ _ (.v _))
  · rename_i str hs
    rw [hs] at hx
    have hv := srep_v hx
    split at he
    case h_2 => cases he
    rename_i ht
    simp only [Option.some.injEq, Prod.mk.injEq] at he
    obtain ⟨-, rfl, rfl⟩ := he
    exact good_none h (run _ _ hv (run_len_string w T o.type str (tinf_str ht))) (.c _ _ (.v _))
  · cases he

theorem map_two {l : List Operand} {x y : SV} (h : l.map s.ev = [x, y]) : ∃ p q, l = [p, q] ∧ s.ev p = x ∧ s.ev q = y := by
  cases l with
  | nil => simp at h
  | cons p l => cases l with
    | nil => simp at h
    | cons q l => cases l with
      | nil => simp at h; exact ⟨p, q, rfl, h.1, h.2⟩
      | cons r l => simp at h

theorem exec_min (h : RelAt ρ S0 w0 N s a w) {o : Oper} {args : Array Operand} {ts : Array TypeId} (ho : o.op = .call ⟨.builtin .min, args, ts⟩) (nid : Id) {pre : Prop} {sv : SV} {eff : Eff} (he : aExec P o.op s.ev s.m nid = some (pre, sv, eff)) :
    Good1 P S0 w0 N s a w o nid sv eff := by
  rw [ho] at he
  simp only [aExec] at he
  split at he
  case h_2 => cases he
  rename_i k x k2 y e1
  simp only [Option.some.injEq, Prod.mk.injEq] at he
  obtain ⟨-, rfl, rfl⟩ := he
  obtain ⟨p, q, e2, e3, e4⟩ := map_two e1
  have hp := ev_rep h p
  have hq := ev_rep h q
  rw [e3] at hp; rw [e4] at hq
  have hp' := srep_v hp
  have hq' := srep_v hq
  refine good_none h (v := .int k (if y < x then y else x)) ?_ (.c _ _ (.v _))
  obtain ⟨cs, hcs⟩ := call_builtin_run P a w ho
  rw [hcs, toArray_two e2]
  simp [builtin, Builtin.min_, Builtin.min2, hp', hq']

theorem exec_max (h : RelAt ρ S0 w0 N s a w) {o : Oper} {args : Array Operand} {ts : Array TypeId} (ho : o.op = .call ⟨.builtin .max, args, ts⟩) (nid : Id) {pre : Prop} {sv : SV} {eff : Eff} (he : aExec P o.op s.ev s.m nid = some (pre, sv, eff)) :
    Good1 P S0 w0 N s a w o nid sv eff := by
  rw [ho] at he
  simp only [aExec] at he
  split at he
  case h_2 => cases he
  rename_i k x k2 y e1
  simp only [Option.some.injEq, Prod.mk.injEq] at he
  obtain ⟨-, rfl, rfl⟩ := he
  obtain ⟨p, q, e2, e3, e4⟩ := map_two e1
  have hp := ev_rep h p
  have hq := ev_rep h q
  rw [e3] at hp; rw [e4] at hq
  have hp' := srep_v hp
  have hq' := srep_v hq
  refine good_none h (v := .int k (if y > x then y else x)) ?_ (.c _ _ (.v _))
  obtain ⟨cs, hcs⟩ := call_builtin_run P a w ho
  rw [hcs, toArray_two e2]
  simp [builtin, Builtin.max_, Builtin.max2, hp', hq']

/-! ## append -/
inductive Grew (w : World) (e : TypeId) (size : Nat) (v : Value) (n m : Nat) (xs news : List Value) : Value → World → Prop
  | still (h0 : m = 0) : Grew w e size v n m xs news v w
  | room (g cap : Nat) (cur : Array Value) (hv : v = .slice (some ⟨g, 0, none⟩) n cap) (hg : w.heap[g]? = some (.cells cur e (0, 0))) (hcap : n + m ≤ cap) (hcs : cur.size = cap * size) (ht : cur.toList.take (n * size) = xs) :
      Grew w e size v n m xs news (.slice (some ⟨g, 0, none⟩) (n + m) cap) (w.setRow g (xs ++ news ++ cur.toList.drop (n * size + news.length)).toArray)
  | grow (cap : Nat) (cells : Array Value) (hcap : n + m ≤ cap) (hmax : cap ≤ maxLen) (hm : 0 < m) (hcs : cells.size = cap * size) (ht : cells.toList.take ((n + m) * size) = xs ++ news) :
      Grew w e size v n m xs news (.slice (some ⟨w.heap.size, 0, none⟩) (n + m) cap) (w.drew.alloc (.cells cells e))

theorem append_run (base : Nat) (t ty e : TypeId) (i : TypeInfo) (z : Value) (size bytes : Nat) (ht : P.underlying t = some (.slice e)) (hi : P.info? e = some i) (hz : i.zero = some z)
    (hsize : i.size = size) (hby : i.bytes = bytes) (hzs : z.cells.size = size) (hsz : 0 < size)
    (v : Value) (n : Nat) (xs : List Value) (hown : w.ownsRow base e size v n xs)
    (a : Addr) (m c : Nat) (news : List Value) (hl : news.length = m * size) (hnews : ∀ j u, news[j]? = some u → w.cell? (a.add j) = some u) (h1 : ∀ u ∈ news, u.oneCell' = true)
    (h63 : n + m ≤ maxLen) (hbytes : (n + m) * bytes ≤ 140737488355328) :
    ∃ v' w', (Builtin.append_ #[t, t] ty #[v, .slice (some a) m c]).run P w = .ok v' w' ∧ Grew w e size v n m xs news v' w' := by
  subst hsize
  subst hby
  have hsmall : n + m ≤ 9223372036854775807 := by simp only [maxLen] at h63; omega
  have hlen : (xs ++ news).length = (n + m) * i.size := by rw [List.length_append, hown.1, hl, Nat.add_mul]
  have size1 : ∀ old, (xs.toArray ++ news.toArray ++ Builtin.zeroCells z.cells (grownCap w (n + m) old e - (n + m))).size = grownCap w (n + m) old e * i.size := fun old => by
    have hge := grownCap_ge w (n + m) old e
    simp only [Array.size_append, List.size_toArray, size_zeroCells, hzs, hown.1, hl, ← Nat.add_mul]
    congr 1
    omega
  have take1 : ∀ old, (xs.toArray ++ news.toArray ++ Builtin.zeroCells z.cells (grownCap w (n + m) old e - (n + m))).toList.take ((n + m) * i.size) = xs ++ news := fun old => by
    simp only [Array.toList_append, List.append_assoc]
    rw [← List.append_assoc, ← hlen]
    exact List.take_left
  rcases hown.2 with ⟨rfl, rfl⟩ | ⟨g, cap, cur, rfl, hbg, hg, hnc, hcm, hcs, htake⟩
  · have hx : xs = [] := List.eq_nil_of_length_eq_zero (by simpa using hown.1)
    subst hx
    by_cases hm : m = 0
    · subst hm
      refine ⟨.slice none 0 0, w, ?_, .still rfl⟩
      have hn : news = [] := List.eq_nil_of_length_eq_zero (by simpa using hl)
      subst hn
      simp [Builtin.append_, run_underlying ht, sizeOf, typeInfo, hi, Builtin.lenOf, Builtin.firstCells, loadCells, loadCellsFrom]
    · have hr := run_append_nil (P := P) w t ty e i z ht hi hz a m c news hl hnews (by omega) (by omega) (by have hb := hbytes; simp only [Nat.zero_add] at hb; omega)
      have g1 := size1 0
      have g2 := take1 0
      have g3 := grownCap_ge w (0 + m) 0 e
      have g4 := grownCap_le_maxLen w (0 + m) 0 e h63
      simp only [Nat.zero_add, List.nil_append, Array.empty_append] at g1 g2 g3 g4
      have := Grew.grow (w := w) (e := e) (size := i.size) (v := .slice none 0 0) (n := 0) (m := m) (xs := []) (news := news) _ _ (by rw [Nat.zero_add]; exact g3) g4 (by omega) g1 (by simpa using g2)
      rw [Nat.zero_add] at this
      exact ⟨_, _, hr, this⟩
  · by_cases hroom : n + m ≤ cap
    · have hfit : n * i.size + news.length ≤ cur.size := by rw [hl, hcs, ← Nat.add_mul]; exact Nat.mul_le_mul_right _ hroom
      have hr := run_append_room (P := P) w t ty e i ht hi g n cap cur hg a m c news hl hnews h1 hroom hfit
      rw [htake] at hr
      exact ⟨_, _, hr, .room g cap cur rfl hg hroom hcs htake⟩
    · have holds : ∀ j u, xs[j]? = some u → w.cell? ((⟨g, 0, none⟩ : Addr).add j) = some u := hown.cells (g := g) rfl
      have hr := run_append_grow (P := P) w t ty e i z ht hi hz ⟨g, 0, none⟩ n cap xs hown.1 holds a m c news hl hnews (by omega) (by omega) (growslice_fits (by omega) hbytes)
      exact ⟨_, _, hr, .grow _ _ (grownCap_ge w (n + m) cap e) (grownCap_le_maxLen w (n + m) cap e h63) (by omega) (size1 cap) (take1 cap)⟩

theorem append_none_run (t ty e : TypeId) (i : TypeInfo) (ht : P.underlying t = some (.slice e)) (hi : P.info? e = some i) (b : Option Addr) (n cap : Nat) (h : n ≤ cap) :
    (Builtin.append_ #[t, t] ty #[.slice b n cap, .slice none 0 0]).run P w = .ok (.slice b n cap) w := by
  cases b <;> simp [Builtin.append_, run_underlying ht, sizeOf, typeInfo, hi, Builtin.lenOf, Builtin.firstCells, h, storeCells]

/-- where an append's source lies -/
def SrcAt (w : World) (S : Addr → Prop) (size : Nat) (l : List PV) (x : Value) : Prop :=
  (x = .slice none 0 0 ∧ l = []) ∨ ∃ b o cap, x = .slice (some ⟨b, o, none⟩) l.length cap ∧
    (∀ e ∈ l, ∀ c ∈ e.cells, c.one = true) ∧ ∀ (i : Nat) (e : PV) (j : Nat) (c : PV), l[i]? = some e → e.cells[j]? = some c → ∃ v, w.cell? ⟨b, o + i * size + j, none⟩ = some v ∧ Rep w S c v

theorem src_at (h : RelAt ρ S0 w0 N s a w) {sv : SV} {x : Value} (hs : SRep w (Imm S0 w0.heap.size s.m ρ) ρ s.g sv x) {q : Prop} {l : List PV} (hq : srcOf s.m sv = some (q, l)) (hp : q) {size : Nat} (hsize : ∀ y ∈ l, y.cells.length = size) :
    SrcAt w (Imm S0 w0.heap.size s.m ρ) size l x := by
  cases hs with
  | nil => simp only [srcOf, Option.some.injEq, Prod.mk.injEq] at hq; obtain ⟨-, rfl⟩ := hq; exact .inl ⟨rfl, rfl⟩
  | c p x hr =>
    cases p <;> simp only [srcOf, Option.some.injEq, Prod.mk.injEq, reduceCtorEq] at hq
    obtain ⟨-, rfl⟩ := hq
    cases hr with
    | slNil => exact .inl ⟨rfl, rfl⟩
    | slAt sz _ b o n cap f hn hcap hsz hone hcell hh =>
      refine .inr ⟨b, o, cap, by rw [hn], hone, fun i e j c hi hj => ⟨f i j, ?_, hh i e j c hi hj⟩⟩
      have hm := List.mem_of_getElem? hi
      rw [← hsize e hm, hsz e hm]
      exact (hcell i e j c hi hj).1
  | own id n x hg ho hrow =>
    simp only [srcOf] at hq
    cases hm : s.m id with
    | none => simp [hm] at hq
    | some b =>
      simp only [hm, Option.some.injEq, Prod.mk.injEq] at hq
      obtain ⟨rfl, rfl⟩ := hq
      obtain ⟨_, bi, hρ, B⟩ := h.blk id b hm
      have hx := (ho bi hρ).2 (by rw [B.len, hp])
      cases hb : bi.base with
      | none =>
        have hcap := B.nil hb
        have hl := B.cap
        have hlen := B.len
        have h0 : b.elems = [] := List.length_eq_zero_iff.1 (by omega)
        rw [hx, hb, h0, hcap, show n = 0 by omega]
        exact .inl ⟨rfl, rfl⟩
      | some k =>
        obtain ⟨hk, cells, hh, hcs, hrep⟩ := B.row (hrow bi hρ) k hb
        rw [hx, hb]
        refine .inr ⟨k, 0, bi.cap, by rw [hp]; rfl, fun e he => (B.shape e he).2, fun i e j c hi hj => ?_⟩
        have hi' := (List.getElem?_eq_some_iff.1 hi).1
        have hj' := (List.getElem?_eq_some_iff.1 hj).1
        have hm2 := List.mem_of_getElem? hi
        have hsz := (B.shape e hm2).1
        have hss : size = b.sz := by rw [← hsize e hm2, hsz]
        have h1 : i * b.sz + j < b.elems.length * b.sz := idx_lt hi' (by omega)
        have h2 : b.elems.length * b.sz ≤ bi.cap * b.sz := Nat.mul_le_mul_right _ (by rw [← B.len]; exact B.cap)
        have h3 : cells[i * b.sz + j]? = some cells[i * b.sz + j] := Array.getElem?_eq_getElem (by omega)
        exact ⟨_, by simp only [World.cell?, hh]; rw [hss]; simp [h3], hrep i e j c _ hi hj h3⟩
  | ptr => simp [srcOf] at hq
  | iptr => simp [srcOf] at hq
  | any => simp [srcOf] at hq
  | anyb => simp [srcOf] at hq
  | st => simp [srcOf] at hq
  | pc id n lo len x hg hn ho hrow =>
    simp only [srcOf] at hq
    cases hm : s.m id with
    | none => simp [hm] at hq
    | some b =>
      simp only [hm, Option.some.injEq, Prod.mk.injEq] at hq
      obtain ⟨rfl, rfl⟩ := hq
      obtain ⟨_, bi, hρ, B⟩ := h.blk id b hm
      obtain ⟨k, hb, hx⟩ := (ho bi hρ).2 (by rw [B.len, hp])
      obtain ⟨hk, cells, hh, hcs, hrep⟩ := B.row (hrow bi hρ) k hb
      have hl : ((b.elems.drop lo).take len).length = len := by rw [List.length_take, List.length_drop]; omega
      refine .inr ⟨k, lo * bi.sz, bi.cap - lo, by rw [hx, hl], fun e he => (B.shape e (List.mem_of_mem_drop (List.mem_of_mem_take he))).2, fun i e j c hi hj => ?_⟩
      have hi' := (List.getElem?_eq_some_iff.1 hi).1
      rw [hl] at hi'
      have hie : b.elems[lo + i]? = some e := by rw [List.getElem?_take, if_pos hi', List.getElem?_drop] at hi; exact hi
      have hi2 := (List.getElem?_eq_some_iff.1 hie).1
      have hj' := (List.getElem?_eq_some_iff.1 hj).1
      have hm2 := List.mem_of_getElem? hie
      have hsz := (B.shape e hm2).1
      have hss : size = b.sz := by rw [← hsize e (List.mem_of_getElem? hi), hsz]
      have h1 : (lo + i) * b.sz + j < b.elems.length * b.sz := idx_lt hi2 (by omega)
      have h2 : b.elems.length * b.sz ≤ bi.cap * b.sz := Nat.mul_le_mul_right _ (by rw [← B.len]; exact B.cap)
      have h3 : cells[(lo + i) * b.sz + j]? = some cells[(lo + i) * b.sz + j] := Array.getElem?_eq_getElem (by omega)
      have h4 : lo * bi.sz + i * size + j = (lo + i) * b.sz + j := by rw [B.sz, hss, Nat.add_mul]
      exact ⟨_, by rw [h4]; simp only [World.cell?, hh]; simp [h3], hrep (lo + i) e j c _ hie hj h3⟩
  | mo => simp [srcOf] at hq

theorem divmod_lt {j m size : Nat} (h : j < m * size) : j / size < m ∧ j % size < size ∧ j / size * size + j % size = j := by
  have hs : 0 < size := by rcases Nat.eq_zero_or_pos size with h0 | h0; · subst h0; omega
                           · exact h0
  refine ⟨Nat.div_lt_of_lt_mul (by rw [Nat.mul_comm]; exact h), Nat.mod_lt _ hs, ?_⟩
  rw [Nat.mul_comm]; exact Nat.div_add_mod j size

/-- the source's cells, as values -/
theorem src_news {S : Addr → Prop} {size : Nat} {l : List PV} {b o : Nat} (hsize : ∀ y ∈ l, y.cells.length = size) (hone : ∀ e ∈ l, ∀ c ∈ e.cells, c.one = true)
    (hc : ∀ (i : Nat) (e : PV) (j : Nat) (c : PV), l[i]? = some e → e.cells[j]? = some c → ∃ v, w.cell? ⟨b, o + i * size + j, none⟩ = some v ∧ Rep w S c v) :
    ∃ news : List Value, news.length = l.length * size ∧ (∀ j u, news[j]? = some u → w.cell? ((⟨b, o, none⟩ : Addr).add j) = some u) ∧ (∀ u ∈ news, u.oneCell' = true) ∧
      ∀ (i : Nat) (e : PV) (j : Nat) (c : PV) (x : Value), l[i]? = some e → e.cells[j]? = some c → news[i * size + j]? = some x → Rep w S c x := by
  have key : ∀ j, j < l.length * size → ∃ v c, w.cell? ⟨b, o + j, none⟩ = some v ∧ c.one = true ∧ Rep w S c v := fun j hj => by
    obtain ⟨h1, h2, h3⟩ := divmod_lt hj
    have hi := List.getElem?_eq_getElem h1
    have hm := List.getElem_mem h1
    have hcl : (l[j / size]).cells[j % size]? = some ((l[j / size]).cells[j % size]'(by rw [hsize _ hm]; exact h2)) := List.getElem?_eq_getElem _
    obtain ⟨v, hv, hr⟩ := hc _ _ _ _ hi hcl
    rw [show o + j / size * size + j % size = o + j by omega] at hv
    exact ⟨v, _, hv, hone _ hm _ (List.mem_of_getElem? hcl), hr⟩
  refine ⟨(List.range (l.length * size)).map fun j => (w.cell? ⟨b, o + j, none⟩).getD undef, by simp, fun j u hu => ?_, fun u hu => ?_, fun i e j c x hi hj hx => ?_⟩
  · simp only [List.getElem?_map, Option.map_eq_some_iff] at hu
    obtain ⟨k, hk, rfl⟩ := hu
    have hk1 := (List.getElem?_eq_some_iff.1 hk).1
    simp only [List.length_range] at hk1
    rw [List.getElem?_range hk1, Option.some.injEq] at hk
    subst hk
    obtain ⟨v, c, hv, _⟩ := key j hk1
    rw [Addr.add_lit, hv]; rfl
  · simp only [List.mem_map, List.mem_range] at hu
    obtain ⟨k, hk, rfl⟩ := hu
    obtain ⟨v, c, hv, h1, hr⟩ := key k hk
    rw [hv]; exact hr.one h1
  · simp only [List.getElem?_map, Option.map_eq_some_iff] at hx
    obtain ⟨k, hk, rfl⟩ := hx
    have hk1 := (List.getElem?_eq_some_iff.1 hk).1
    simp only [List.length_range] at hk1
    rw [List.getElem?_range hk1, Option.some.injEq] at hk
    subst hk
    obtain ⟨v, hv, hr⟩ := hc i e j c hi hj
    rw [show o + i * size + j = o + (i * size + j) by omega] at hv
    rw [hv]; exact hr

/-- the cells of what was there and what has come, one by one -/
theorem both_rep {S : Addr → Prop} {size : Nat} {es l : List PV} {xs news : List Value} {cells : Array Value} (hlx : xs.length = es.length * size) (_hln : news.length = l.length * size)
    (hc : cells.toList.take ((es.length + l.length) * size) = xs ++ news) (h1 : ∀ e ∈ es, e.cells.length = size) (h2 : ∀ e ∈ l, e.cells.length = size)
    (hr1 : ∀ (i : Nat) (e : PV) (j : Nat) (c : PV) (x : Value), es[i]? = some e → e.cells[j]? = some c → xs[i * size + j]? = some x → Rep w S c x)
    (hr2 : ∀ (i : Nat) (e : PV) (j : Nat) (c : PV) (x : Value), l[i]? = some e → e.cells[j]? = some c → news[i * size + j]? = some x → Rep w S c x) :
    ∀ (i : Nat) (e : PV) (j : Nat) (c : PV) (x : Value), (es ++ l)[i]? = some e → e.cells[j]? = some c → cells[i * size + j]? = some x → Rep w S c x := by
  intro i e j c x hi hj hx
  have hi' := (List.getElem?_eq_some_iff.1 hi).1
  have hj' := (List.getElem?_eq_some_iff.1 hj).1
  simp only [List.length_append] at hi'
  have he : e.cells.length = size := by
    rcases List.mem_append.1 (List.mem_of_getElem? hi) with hm | hm
    · exact h1 e hm
    · exact h2 e hm
  have hlt : i * size + j < (es.length + l.length) * size := idx_lt hi' (by omega)
  have hx2 : (xs ++ news)[i * size + j]? = some x := by
    rw [← hc, List.getElem?_take, if_pos hlt]; simpa using hx
  by_cases hlo : i < es.length
  · have hlt2 : i * size + j < es.length * size := idx_lt hlo (by omega)
    rw [List.getElem?_append_left (by omega)] at hi hx2
    exact hr1 i e j c x hi hj hx2
  · have hge : es.length * size ≤ i * size := Nat.mul_le_mul_right _ (by omega)
    rw [List.getElem?_append_right (by omega)] at hi hx2
    rw [hlx, show i * size + j - es.length * size = (i - es.length) * size + j by rw [Nat.sub_mul]; omega] at hx2
    exact hr2 _ e j c x hi hj hx2

/-- a row that is not there yet -/
theorem RelAt.newNil (h : RelAt ρ S0 w0 N s a w) (d : Nat) (hd0 : d ≠ 0) (blk : Blk) (he : blk.elems = []) (hmp : blk.mp = none) :
    RelAt (updR ρ (d, s.g d) (some ⟨none, 0, 0, blk.sz, false⟩)) S0 w0 N { s with m := updM s.m (d, s.g d) (some blk), g := upd s.g d (s.g d + 1) } a w := by
  have K : Keeps w (Imm S0 w0.heap.size s.m ρ) w (Imm S0 w0.heap.size (updM s.m (d, s.g d) (some blk)) (updR ρ (d, s.g d) (some ⟨none, 0, 0, blk.sz, false⟩))) := fun a v hS hc => by
    refine ⟨hc, hS.1, fun id bi b h1 h2 h3 => ?_⟩
    by_cases e : id = (d, s.g d)
    · simp only [updR, e, if_true, Option.some.injEq] at h1
      subst h1; cases h3
    · simp only [updR, updM, e, if_false] at h1 h2
      exact hS.2 id bi b h1 h2 h3
  have hgle : ∀ x, s.g x ≤ upd s.g d (s.g d + 1) x := fun x => by unfold upd; split <;> simp_all
  have hold : ∀ id bi, id.2 < s.g id.1 → updR ρ (d, s.g d) (some ⟨none, 0, 0, blk.sz, false⟩) id = some bi → ρ id = some bi := fun id bi hg e => by
    have : id ≠ (d, s.g d) := by rintro rfl; simp at hg
    simpa [updR, this] using e
  refine ⟨h.size, h.defers, fun i => (h.slots i).mono K hgle (fun id bi hg e => ⟨bi, hold id bi hg e, .inl rfl⟩), fun id b hb => ?_, fun id bi e => ?_, ?_, h.below, fun id bi e0 e => ?_, fun id b bi k h1 h2 h3 l hl => ?_⟩
  · by_cases e : id = (d, s.g d)
    · subst e
      simp only [updM, if_true, Option.some.injEq] at hb
      subst hb
      exact ⟨by simp [upd], ⟨none, 0, 0, blk.sz, false⟩, by simp [updR], by simp [he], rfl, Nat.le_refl _, Nat.zero_le _, fun _ => rfl, by simp [he], (fun k hk => by cases hk), by simp [hmp], (fun h => by cases h), (fun h => by cases h)⟩
    · simp only [updM, e, if_false] at hb
      obtain ⟨hg, bi, hρ, B⟩ := h.blk id b hb
      refine ⟨Nat.lt_of_lt_of_le hg (hgle _), bi, by simp [updR, e, hρ], ⟨B.len, B.sz, B.cap, B.most, B.nil, B.shape, fun k hk => ?_, B.kd, B.kd0, B.mb⟩⟩
      obtain ⟨h1, h2⟩ := B.at_ k hk
      exact ⟨h1, h2.keep rfl K⟩
  · by_cases e' : id = (d, s.g d)
    · exact ⟨blk, by simp [updM, e']⟩
    · simp only [updR, e', if_false] at e
      obtain ⟨b, hb⟩ := h.dom id bi e
      exact ⟨b, by simp [updM, e', hb]⟩
  · intro id id' bi bi' k h1 h2 h3 h4
    by_cases e1 : id = (d, s.g d)
    · simp only [updR, e1, if_true, Option.some.injEq] at h1
      subst h1; cases h3
    · by_cases e2 : id' = (d, s.g d)
      · simp only [updR, e2, if_true, Option.some.injEq] at h2
        subst h2; cases h4
      · simp only [updR, e1, e2, if_false] at h1 h2
        exact h.inj id id' bi bi' k h1 h2 h3 h4
  · by_cases e1 : id = (d, s.g d)
    · subst e1; exact absurd e0 hd0
    · simp only [updR, e1, if_false] at e
      exact h.bor id bi e0 e
  · by_cases e1 : id = (d, s.g d)
    · simp only [updR, e1, if_true, Option.some.injEq] at h2
      subst h2; cases h3
    · simp only [updM, updR, e1, if_false] at h1 h2
      obtain ⟨y, h4, h5⟩ := h.lnk id b bi k h1 h2 h3 l hl
      exact ⟨y, h4, h5.mono hgle (fun id bi hg e => ⟨bi, hold id bi hg e, .inl rfl⟩)⟩

theorem below_drew (w : World) : Below w.heap.size w w.drew := ⟨rfl, rfl, rfl, Nat.le_refl _, fun _ _ => rfl⟩
end
end Go.Ab
