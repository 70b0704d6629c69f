/-
  Words of sets of names: what one name more does, what two parts make together.
  Conditions: numbers are those of their kinds.
-/
import Derived.Test.YtfgjiadehfljlaaSketchS
namespace Go.Proofs.Ytfgjiadehfljlaa
open Go Go.Ab
open Go.Proofs.Ytfgjiadehfljlaa.M
set_option linter.unusedVariables false

theorem xorI_nat {a b : Int} (ha : U64 a) (hb : U64 b) : xorI a b = ((a.toNat ^^^ b.toNat : Nat) : Int) :=
  u64_xor a b ha.1 (by have := ha.2; omega) hb.1 (by have := hb.2; omega)
theorem xorI_u {a b : Int} (ha : U64 a) (hb : U64 b) : U64 (xorI a b) := by
  rw [xorI_nat ha hb]
  have h1 : a.toNat < 2 ^ 64 := by have := ha.2; have := ha.1; omega
  have h2 : b.toNat < 2 ^ 64 := by have := hb.2; have := hb.1; omega
  have := Nat.xor_lt_two_pow h1 h2
  exact ⟨by omega, by omega⟩
theorem xorI_comm {a b : Int} (ha : U64 a) (hb : U64 b) : xorI a b = xorI b a := by
  rw [xorI_nat ha hb, xorI_nat hb ha, Nat.xor_comm]
theorem xorI_assoc {a b c : Int} (ha : U64 a) (hb : U64 b) (hc : U64 c) : xorI (xorI a b) c = xorI a (xorI b c) := by
  rw [xorI_nat (xorI_u ha hb) hc, xorI_nat ha (xorI_u hb hc), xorI_nat ha hb, xorI_nat hb hc, Int.toNat_natCast, Int.toNat_natCast, Nat.xor_assoc]
theorem u_zero : U64 0 := ⟨by omega, by omega⟩
theorem xorI_self {a : Int} (ha : U64 a) : xorI a a = 0 := by rw [xorI_nat ha ha, Nat.xor_self]; rfl
theorem xorI_zero {a : Int} (ha : U64 a) : xorI a 0 = a := by
  rw [xorI_nat ha u_zero]
  have := ha.1
  rw [show (0 : Int).toNat = 0 from rfl, Nat.xor_zero]; omega
theorem zero_xorI {a : Int} (ha : U64 a) : xorI 0 a = a := by rw [xorI_comm u_zero ha, xorI_zero ha]

/-! cells -/
theorem cell_app (l : List Hs) (V : Nat) (ns : List Int) (n : Int) (k : Nat) : cellE l V (ns ++ [n]) k = if cnd l V n k = true then xorI (cellE l V ns k) n else cellE l V ns k := by
  simp only [cellE, List.foldl_append]; rfl
theorem cell_nil (l : List Hs) (V : Nat) (k : Nat) : cellE l V [] k = 0 := rfl
theorem foldl_u (p : Int → Bool) : ∀ (ns : List Int) (a : Int), U64 a → (∀ n ∈ ns, U64 n) → U64 (ns.foldl (fun w n => if p n = true then xorI w n else w) a)
  | [], a, ha, _ => ha
  | n :: ns, a, ha, h => by
    refine foldl_u p ns _ ?_ (fun m hm => h m (List.mem_cons_of_mem _ hm))
    show U64 (if p n = true then xorI a n else a)
    split
    · exact xorI_u ha (h n List.mem_cons_self)
    · exact ha
theorem cell_u (l : List Hs) (V : Nat) (ns : List Int) (k : Nat) (h : ∀ n ∈ ns, U64 n) : U64 (cellE l V ns k) := foldl_u (fun n => cnd l V n k) ns 0 u_zero h
theorem rows_get (l : List Hs) (V : Nat) (ns : List Int) (m k : Nat) : (rowsE l V ns m)[k]? = if k < m then some (cellE l V ns k) else none := by
  simp only [rowsE, List.getElem?_map]
  by_cases h : k < m
  · rw [if_pos h, List.getElem?_range h]; rfl
  · rw [if_neg h, List.getElem?_eq_none (by simpa using h)]; rfl
theorem words_len (l : List Hs) (V : Nat) (ns : List Int) : (wordsE l V ns).length = l.length * V := rows_len _ _ _ _
theorem words_u (l : List Hs) (V : Nat) (ns : List Int) (h : ∀ n ∈ ns, U64 n) : ∀ w ∈ wordsE l V ns, U64 w := fun w hw => by
  obtain ⟨k, _, rfl⟩ := List.mem_map.1 hw
  exact cell_u l V ns k h
/-- one name more -/
theorem words_tog (l : List Hs) (V : Nat) (ns : List Int) (n : Int) : togW l V n (wordsE l V ns) (wordsE l V ns).length = wordsE l V (ns ++ [n]) := by
  refine List.ext_getElem? fun k => ?_
  rw [togW, upT_get, words_len, wordsE, wordsE, rows_get, rows_get]
  by_cases h : k < l.length * V
  · simp only [h, true_and, cell_app, if_true, Option.map_some]
  · simp only [if_neg h, Option.map_none]
theorem words_nil (l : List Hs) (V : Nat) : wordsE l V [] = List.replicate (l.length * V) 0 := by
  refine List.ext_getElem? fun k => ?_
  rw [wordsE, rows_get, List.getElem?_replicate, cell_nil]
theorem merge_zip {a b : List Int} (h : a.length = b.length) : mergeW a b a.length = List.zipWith xorI a b := by
  refine List.ext_getElem? fun k => ?_
  rw [mergeW, upT_get, List.getElem?_zipWith]
  cases ha : a[k]? with
  | none => rfl
  | some x =>
    have hk := (List.getElem?_eq_some_iff.1 ha).1
    have hk2 : k < b.length := by omega
    simp only [Option.map_some, hk, true_and, if_true, List.getElem?_eq_getElem hk2, List.getD_eq_getElem?_getD, Option.getD_some]
/-- two parts together -/
theorem words_merge {l : List Hs} {V : Nat} {A B C : List Int} (h : ∀ k, xorI (cellE l V A k) (cellE l V B k) = cellE l V C k) : List.zipWith xorI (wordsE l V A) (wordsE l V B) = wordsE l V C := by
  refine List.ext_getElem? fun k => ?_
  rw [List.getElem?_zipWith, wordsE, wordsE, wordsE, rows_get, rows_get, rows_get]
  by_cases hk : k < l.length * V
  · simp only [if_pos hk, h]
  · simp only [if_neg hk]
theorem cells_left {l : List Hs} {V : Nat} {A B C : List Int} {n : Int} (hA : ∀ n ∈ A, U64 n) (hB : ∀ n ∈ B, U64 n) (hn : U64 n) (h : ∀ k, xorI (cellE l V A k) (cellE l V B k) = cellE l V C k) :
    ∀ k, xorI (cellE l V (A ++ [n]) k) (cellE l V B k) = cellE l V (C ++ [n]) k := fun k => by
  have a := cell_u l V A k hA
  have b := cell_u l V B k hB
  rw [cell_app, cell_app, ← h k]
  split
  · rw [xorI_assoc a hn b, xorI_comm hn b, ← xorI_assoc a b hn]
  · rfl
theorem cells_right {l : List Hs} {V : Nat} {A B C : List Int} {n : Int} (hA : ∀ n ∈ A, U64 n) (hB : ∀ n ∈ B, U64 n) (hn : U64 n) (h : ∀ k, xorI (cellE l V A k) (cellE l V B k) = cellE l V C k) :
    ∀ k, xorI (cellE l V A k) (cellE l V (B ++ [n]) k) = cellE l V (C ++ [n]) k := fun k => by
  have a := cell_u l V A k hA
  have b := cell_u l V B k hB
  rw [cell_app, cell_app, ← h k]
  split
  · rw [xorI_assoc a b hn]
  · rfl

/-! the level 0 of each row -/
theorem cnd_zero (l : List Hs) (V : Nat) (hV : 0 < V) (n : Int) (r : Nat) : cnd l V n (r * V) = true := by
  have := cnd_at l V n r 0 hV
  rw [Nat.add_zero] at this
  rw [this]
  have h1 := valE_le (l.getD r default) n
  have h2 : boundE ((0 : Nat) : Int) = 2305843009213693951 := by decide
  rw [h2]
  exact decide_eq_true (by omega)
theorem cell_zero (l : List Hs) (V : Nat) (hV : 0 < V) (ns : List Int) (r : Nat) : cellE l V ns (r * V) = ns.foldl xorI 0 := by
  unfold cellE
  generalize (0 : Int) = a
  induction ns generalizing a with
  | nil => rfl
  | cons n ns ih => simp only [List.foldl_cons, cnd_zero l V hV n r, if_true]; exact ih _

/-! one name alone -/
theorem cell_one (l : List Hs) (V : Nat) (n : Int) (hn : U64 n) (k : Nat) : cellE l V [n] k = if cnd l V n k = true then n else 0 := by
  have := cell_app l V [] n k
  rw [List.nil_append, cell_nil, zero_xorI hn] at this
  exact this
theorem nm_zero : isNm 0 = false := by decide
theorem nm_one {l : List Hs} {V : Nat} {n : Int} (hn : U64 n) : ∀ w ∈ nmE (wordsE l V [n]), w = n := fun w hw => by
  obtain ⟨h1, h2⟩ := List.mem_filter.1 hw
  obtain ⟨k, _, rfl⟩ := List.mem_map.1 h1
  rw [cell_one l V n hn k] at h2 ⊢
  split
  · rfl
  · rename_i h; rw [if_neg h, nm_zero] at h2; cases h2
theorem nm_most (l : List Hs) (V : Nat) (ns : List Int) : (nmE (wordsE l V ns)).length ≤ l.length * V := by
  have := List.length_filter_le isNm (wordsE l V ns)
  rwa [words_len] at this
theorem range_add (a b : Nat) : List.range (a + b) = List.range a ++ (List.range b).map (a + ·) := List.range_add
theorem nm_least {l : List Hs} {V : Nat} {n : Int} (hn : U64 n) (hnm : isNm n = true) (hV : 0 < V) : ∀ R : Nat, R ≤ (nmE (rowsE l V [n] (R * V))).length
  | 0 => Nat.zero_le _
  | R + 1 => by
    have ih := nm_least hn hnm hV R (l := l)
    have e : rowsE l V [n] ((R + 1) * V) = rowsE l V [n] (R * V) ++ (List.range V).map (fun j => cellE l V [n] (R * V + j)) := by
      rw [Nat.succ_mul, rowsE, range_add, List.map_append, List.map_map]; rfl
    rw [e, nmE, List.filter_append, List.length_append]
    have h1 : 1 ≤ (List.filter isNm ((List.range V).map fun j => cellE l V [n] (R * V + j))).length := by
      obtain ⟨V', rfl⟩ : ∃ V', V = V' + 1 := ⟨V - 1, by omega⟩
      rw [List.range_succ_eq_map, List.map_cons, List.filter_cons]
      have h2 : isNm (cellE l (V' + 1) [n] (R * (V' + 1) + 0)) = true := by
        rw [show R * (V' + 1) + 0 = R * (V' + 1) from rfl, cell_one l _ n hn, cnd_zero l _ (by omega) n R]; exact hnm
      rw [if_pos h2]; simp
    unfold nmE at ih
    omega
end Go.Proofs.Ytfgjiadehfljlaa
