/-
  The function on plain values is right, third part: storing.
  Conditions: none.
-/
import Derived.Test.YtaoiffinodfcfaaAb4
import Derived.Laws.CopyRow
namespace Go.Ab
open Go.RowKit

theorem get_setCells {α : Type} (cs xs : List α) (off j : Nat) (h : off + xs.length ≤ cs.length) :
    (cs.take off ++ xs ++ cs.drop (off + xs.length))[j]? = if j < off then cs[j]? else if j < off + xs.length then xs[j - off]? else cs[j]? := by
  have h1 : (cs.take off).length = off := by rw [List.length_take]; omega
  by_cases hj : j < off
  · rw [if_pos hj, List.append_assoc, List.getElem?_append_left (by omega), List.getElem?_take, if_pos hj]
  · rw [if_neg hj]
    by_cases hj2 : j < off + xs.length
    · rw [if_pos hj2, List.getElem?_append_left (by simp [h1]; omega), List.getElem?_append_right (by omega), h1]
    · rw [if_neg hj2, List.getElem?_append_right (by simp [h1]; omega), List.getElem?_drop]
      congr 1; simp [h1]; omega
theorem length_setCells {α : Type} (cs xs : List α) (off : Nat) (h : off + xs.length ≤ cs.length) : (cs.take off ++ xs ++ cs.drop (off + xs.length)).length = cs.length := by
  simp only [List.length_append, List.length_take, List.length_drop]; omega

section
variable {P : Program} {ρ : Id → Option BI} {S0 : Env} {w0 : World} {N : Nat} {s : ASt} {a : Act} {w : World}

theorem oneCells_of {S : Addr → Prop} {p : PV} {x : Value} (hr : Rep w S p x) (hok : p.ok = true) : ∀ v ∈ x.cells.toList, v.oneCell' = true := by
  intro v hv
  obtain ⟨j, hj⟩ := List.getElem?_of_mem hv
  exact hr.cells_oneCell hok (j := j) (by simpa using hj)

theorem store_common (h : RelAt ρ S0 w0 N s a w) {id : Id} {n i off : Nat} {v : Value} (hs : SRep w (Imm S0 w0.heap.size s.m ρ) ρ s.g (.ptr id n i off) v) {b : Blk} (hm : s.m id = some b) (hn : n = b.elems.length) (hi : i < n) (hrw : b.rw = true)
    {p : PV} {x : Value} (hr : Rep w (Imm S0 w0.heap.size s.m ρ) p x) (hok : p.ok = true) (hfit : off + p.cells.length ≤ b.sz) {T : TypeId} {ti : TI} (ht : tinf P T = some ti) (hsize : p.cells.length = ti.size)
    {e' : PV} (he' : e'.cells = setCells (b.elems.getD i default).cells off p.cells)
    {ls ls' : List Lnk} (hl : ∀ l ∈ ls, ∃ y, x.cells[l.1]? = some y ∧ OwnC ρ s.g l.2.1 l.2.2 y)
    (hls : ∀ l ∈ ls', (∃ j y, l = (i * b.sz + off + j, y) ∧ (j, y) ∈ ls) ∨ (l ∈ b.ls ∧ ¬ (i * b.sz + off ≤ l.1 ∧ l.1 < i * b.sz + off + p.cells.length))) :
    ∃ w' ρ', (Instr.storeAt T v x).run P w = .ok () w' ∧ RelAt ρ' S0 w0 N { s with m := updM s.m id (some { b with elems := b.elems.set i e', ls := ls' }) } a w' := by
  cases hs with
  | ptr _ _ _ _ _ hg ho =>
  obtain ⟨_, bi, hρ, B⟩ := h.blk id b hm
  obtain ⟨k, hb, hx⟩ := (ho bi hρ).2 (by rw [B.len, hn])
  have hmp : bi.mp = false := B.ne (by omega)
  obtain ⟨hk, cells, hh, hcs, hrep⟩ := B.row hmp k hb
  obtain ⟨inf, d, hinf, hd, _, hsz, _⟩ := tinf_some ht
  have hi' : i < b.elems.length := by omega
  have h0 : b.elems[i]? = some (b.elems.getD i default) := by
    rw [List.getD_eq_getElem?_getD, List.getElem?_eq_getElem hi']; rfl
  generalize he0 : b.elems.getD i default = e0 at *
  have hmem := List.mem_of_getElem? h0
  have hsz0 := (B.shape _ hmem).1
  rw [B.sz] at hx
  have hxs := hr.cells_size hok
  have hlt : i * b.sz + off + p.cells.length ≤ b.elems.length * b.sz := by
    have : (i + 1) * b.sz ≤ b.elems.length * b.sz := Nat.mul_le_mul_right _ hi'
    rw [Nat.add_mul, Nat.one_mul] at this; omega
  have hlt2 : b.elems.length * b.sz ≤ bi.cap * b.sz := Nat.mul_le_mul_right _ (by rw [← B.len]; exact B.cap)
  have hlen : x.cells.toList.length = p.cells.length := by simpa using hxs
  have hrun : (Instr.storeAt T v x).run P w = .ok () (w.setRow k (cells.toList.take (i * b.sz + off) ++ x.cells.toList ++ cells.toList.drop (i * b.sz + off + x.cells.toList.length)).toArray) := by
    have hs1 : (sizeOf T).run P w = .ok (P.cellsOf T) w := run_sizeOf _ hinf
    have hs2 : P.cellsOf T = x.cells.size := by simp [Program.cellsOf, hinf, ← hsz, hxs, hsize]
    have h3 := run_storeCells_at (P := P) k (i * b.sz + off) b.T x.cells.toList 0 cells w hh (by rw [hlen, hcs]; omega) (oneCells_of hr hok)
    rw [hx]
    simp only [Instr.storeAt, Instr.sureAddr, storeVar, Sem.run_bind, Sem.run_pure, Result.andThen, hs1, hs2]
    simpa using h3
  generalize hcc : cells.toList.take (i * b.sz + off) ++ x.cells.toList ++ cells.toList.drop (i * b.sz + off + x.cells.toList.length) = cc at hrun
  have hget : ∀ j, cc[j]? = if j < i * b.sz + off then cells[j]? else if j < i * b.sz + off + p.cells.length then x.cells[j - (i * b.sz + off)]? else cells[j]? := fun j => by
    rw [← hcc, get_setCells _ _ _ _ (by rw [hlen]; simp; omega), hlen]; simp
  have hccl : cc.length = cells.size := by rw [← hcc, length_setCells _ _ _ (by rw [hlen]; simp; omega)]; simp
  have hg' : ∀ j, e'.cells[j]? = if j < off then e0.cells[j]? else if j < off + p.cells.length then p.cells[j - off]? else e0.cells[j]? := fun j => by
    rw [he']; exact get_setCells _ _ _ _ (by omega)
  have hl' : e'.cells.length = b.sz := by
    have : e'.cells.length = e0.cells.length := by rw [he']; exact length_setCells _ _ _ (by omega)
    omega
  refine ⟨_, _, hrun, h.set (bi := bi) (bi' := bi) (k := k) (b' := { b with elems := b.elems.set i e', ls := ls' }) hm hρ ⟨hmp, hmp⟩ rfl rfl (.inl rfl) (by simp) hb (.inl hb) (fun j hj _ => setRow_other _ _ _ _ hj) (fun _ _ _ e => by rw [hrw] at e; cases e) (by simp) rfl rfl rfl (fun K => ?_) (fun l hl' => ?_)⟩
  rotate_left
  · have cell : ∀ j y, cc[j]? = some y → (w.setRow k cc.toArray).cell? ⟨k, j, none⟩ = some y := fun j y hy => by
      simp only [World.cell?, setRow_heap w k cells _ b.T (0, 0) hh]; simpa using hy
    have hk0 : ∀ l ∈ b.ls, ∃ y, cells[l.1]? = some y ∧ OwnC ρ s.g l.2.1 l.2.2 y := fun l h1 => by
      obtain ⟨y, h2, h3⟩ := h.lnk id b bi k hm hρ hb l h1
      exact ⟨y, by simpa [World.cell?, hh] using h2, h3⟩
    rcases hls l hl' with ⟨j, y, rfl, h2⟩ | h2
    · obtain ⟨z, h3, h4⟩ := hl _ h2
      have hjl := (Array.getElem?_eq_some_iff.1 h3).1
      refine ⟨z, cell _ _ ?_, h4⟩
      rw [hget, if_neg (by simp only; omega), if_pos (by simp only at hjl ⊢; omega), ← h3]
      simp only; congr 1; omega
    · obtain ⟨z, h3, h4⟩ := hk0 l h2.1
      refine ⟨z, cell _ _ ?_, h4⟩
      rw [hget]
      have h5 := h2.2
      by_cases c1 : l.1 < i * b.sz + off
      · rw [if_pos c1]; exact h3
      · rw [if_neg c1, if_neg (by omega)]; exact h3
  refine ⟨by rw [B.len]; simp, B.sz, B.cap, B.most, B.nil, ?_, fun k2 hk2 => ?_, B.kd, (fun e => by rw [hmp] at e; cases e), (fun e => by rw [hmp] at e; cases e)⟩
  · intro e he
    rcases List.mem_or_eq_of_mem_set he with he | he
    · exact B.shape e he
    · subst he
      refine ⟨hl', fun c hc => ?_⟩
      obtain ⟨j, hj⟩ := List.getElem?_of_mem hc
      rw [hg'] at hj
      split at hj
      · exact (B.shape _ hmem).2 c (List.mem_of_getElem? hj)
      · split at hj
        · exact hr.cells_one hok c (List.mem_of_getElem? hj)
        · exact (B.shape _ hmem).2 c (List.mem_of_getElem? hj)
  · rw [hb] at hk2; simp only [Option.some.injEq] at hk2; subst hk2
    refine ⟨hk, BlkAt.of_row (B.mp0 hmp) ⟨cc.toArray, by rw [setRow_heap w k cells _ b.T (0, 0) hh], by simp [hccl, hcs], ?_⟩⟩
    intro i2 e2 j c y hi2 hj hy
    simp only [List.getElem?_toArray, hget] at hy
    have hj' := (List.getElem?_eq_some_iff.1 hj).1
    by_cases hie : i2 = i
    · subst hie
      simp only [List.getElem?_set_self hi', Option.some.injEq] at hi2
      subst hi2
      rw [hg'] at hj
      by_cases c1 : j < off
      · rw [if_pos c1] at hj
        rw [if_pos (by omega)] at hy
        exact (hrep i2 e0 j c y h0 hj hy).mono K
      · rw [if_neg c1] at hj
        rw [if_neg (by omega)] at hy
        by_cases c2 : j < off + p.cells.length
        · rw [if_pos c2] at hj
          rw [if_pos (by omega), show i2 * b.sz + j - (i2 * b.sz + off) = j - off by omega] at hy
          exact (hr.cells_at hok hj hy).mono K
        · rw [if_neg c2] at hj
          rw [if_neg (by omega)] at hy
          exact (hrep i2 e0 j c y h0 hj hy).mono K
    · rw [List.getElem?_set_ne (Ne.symm hie)] at hi2
      have hsz2 := (B.shape _ (List.mem_of_getElem? hi2)).1
      have hout : i2 * b.sz + j < i * b.sz + off ∨ i * b.sz + off + p.cells.length ≤ i2 * b.sz + j := by
        rcases Nat.lt_or_ge i2 i with c1 | c1
        · have : (i2 + 1) * b.sz ≤ i * b.sz := Nat.mul_le_mul_right _ c1
          rw [Nat.add_mul, Nat.one_mul] at this; omega
        · have : (i + 1) * b.sz ≤ i2 * b.sz := Nat.mul_le_mul_right _ (by omega)
          rw [Nat.add_mul, Nat.one_mul] at this; omega
      have hy' : cells[i2 * b.sz + j]? = some y := by
        split at hy
        · exact hy
        · split at hy
          · omega
          · exact hy
      exact (hrep i2 e2 j c y hi2 hj hy').mono K

theorem exec_store (h : RelAt ρ S0 w0 N s a w) {o : Oper} {T : TypeId} {x y : Operand} (ho : o.op = .store T x y) (nid : Id) {pre : Prop} {sv : SV} {eff : Eff} (he : aExec P o.op s.ev s.m nid = some (pre, sv, eff)) (hp : pre) :
    Good1 P S0 w0 N s a w o nid sv eff := by
  have hx := ev_rep h x
  have hy := ev_rep h y
  rw [ho] at he
  simp only [aExec, aStore] at he
  split at he
  case h_2 => cases he
  rename_i ti id n i off q p ls ht hsx hcl
  rw [hsx] at hx
  split at he
  · cases he
  rename_i b hm
  have fin : ∀ (e' : PV), q → p.ok = true → p.cells.length = ti.size → n = b.elems.length → i < n → b.rw = true → off + p.cells.length ≤ b.sz → e'.cells = setCells (b.elems.getD i default).cells off p.cells →
      ∀ ls', (∀ l ∈ ls', (∃ j y, l = (i * b.sz + off + j, y) ∧ (j, y) ∈ ls) ∨ (l ∈ b.ls ∧ ¬ (i * b.sz + off ≤ l.1 ∧ l.1 < i * b.sz + off + p.cells.length))) →
      Good1 P S0 w0 N s a w o nid .any (.set id { b with elems := b.elems.set i e', ls := ls' }) := by
    intro e' hq hok hsize hn hi hrw hfit he' ls' hls'
    obtain ⟨hr, _, hlk⟩ := closeL_rep h hy hcl hq
    obtain ⟨w', ρ', hrun, hR⟩ := store_common h hx hm hn hi hrw hr hok hfit ht hsize he' hlk hls'
    exact ⟨.skip, undef, w', ρ', by unfold execOp; simp only [ho, Sem.run_bind, hrun, Result.andThen, Sem.run_pure], .inr ⟨rfl, rfl⟩, hR, .any _⟩
  split at he
  · rename_i hd
    have hd' := of_decide_eq_true hd
    simp only [Option.some.injEq, Prod.mk.injEq] at he
    obtain ⟨rfl, rfl, rfl⟩ := he
    obtain ⟨hq, hok, hsize, hn, hi, hrw⟩ := hp
    obtain ⟨rfl, hsz⟩ := hd'
    refine fin p hq hok hsize hn hi hrw (by omega) ?_ _ (fun l hl => ?_)
    · obtain ⟨_, bi, hρ, B⟩ := h.blk id b hm
      have h0 : b.elems[i]? = some (b.elems.getD i default) := by
        rw [List.getD_eq_getElem?_getD, List.getElem?_eq_getElem (by omega)]; rfl
      have hl := (B.shape _ (List.mem_of_getElem? h0)).1
      simp only [setCells, List.take_zero, List.nil_append]
      rw [List.drop_eq_nil_of_le (by omega), List.append_nil]
    · rw [Nat.add_zero]
      rcases List.mem_append.1 hl with h1 | h1
      · exact .inl (mvL_mem h1)
      · rw [hsize]; exact .inr (dropL_mem h1)
  · simp only [Option.some.injEq, Prod.mk.injEq] at he
    obtain ⟨rfl, rfl, rfl⟩ := he
    obtain ⟨hq, hok, hsize, hn, hi, hrw, hfit⟩ := hp
    refine fin _ hq hok hsize hn hi hrw (by omega) rfl _ (fun l hl => ?_)
    rcases List.mem_append.1 hl with h1 | h1
    · exact .inl (mvL_mem h1)
    · rw [hsize]; exact .inr (dropL_mem h1)
end
end Go.Ab
