/-
  Contract of the library's merging in place, at edges in the order of their ends.
  Conditions: fewer than 2^40 edges.
-/
import Derived.Test.YtgkajfmjpobenaaNameV
namespace Go.Proofs.Ytgkajfmjpobenaa
open Go Go.Ab
set_option linter.unusedVariables false
set_option linter.unusedSimpArgs false


def P1 (E : List Ed) (a : Nat) : Nat → Bool := fun k => lessB (E.getD k default) (E.getD a default)
def P2 (E : List Ed) (m : Nat) : Nat → Bool := fun k => !lessB (E.getD m default) (E.getD k default)
def P3 (E : List Ed) (n : Nat) : Nat → Bool := fun k => !lessB (E.getD (n - 1 - k) default) (E.getD k default)
/-- two rows that are in order, side by side -/
structure SymIn (E0 pre X Y post : List Ed) (a m b : Nat) : Prop where
  eq : E0 = pre ++ X ++ Y ++ post
  ea : a = pre.length
  em : m = a + X.length
  eb : b = m + Y.length
  px : 0 < X.length
  py : 0 < Y.length
  ox : InOrder lessB X
  oy : InOrder lessB Y
def SymOK (n : Nat) : Prop := ∀ (E0 pre X Y post : List Ed) (a m b : Nat), X.length + Y.length = n → SymIn E0 pre X Y post a m b → E0.length < 1099511627776 →
  WCalls Try.prog 23 [.own, .d (iPV a), .d (iPV m), .d (iPV b), .d (.v (.func (.func 20) #[] #[]))] ⟨24, 3, E0.map edPV, true⟩ (.tup []) ((pre ++ smerge lessB X Y ++ post).map edPV)
theorem SymIn.len {E0 pre X Y post : List Ed} {a m b : Nat} (h : SymIn E0 pre X Y post a m b) : a < m ∧ m < b ∧ b ≤ E0.length := by
  obtain ⟨h1, h2, h3, h4, h5, h6, _, _⟩ := h
  refine ⟨by omega, by omega, ?_⟩
  rw [h1]; simp; omega
theorem SymIn.mono1 {E0 pre X Y post : List Ed} {a m b : Nat} (h : SymIn E0 pre X Y post a m b) (h1 : m = a + 1) : Mono (P1 E0 a) m b ∧ ∀ i, Srch (P1 E0 a) m b i i → shr E0 a (i - 1 - a) = pre ++ smerge lessB X Y ++ post := by
  obtain ⟨rfl, rfl, rfl, rfl, h5, h6, ox, oy⟩ := h
  obtain ⟨x, hx⟩ := List.length_eq_one_iff.1 (show X.length = 1 by omega)
  subst hx
  exact ⟨Go.Ab.mono1 lessB_rank pre x Y post oy, fun i S => end1 pre x Y post i S⟩
theorem SymIn.mono2 {E0 pre X Y post : List Ed} {a m b : Nat} (h : SymIn E0 pre X Y post a m b) (h1 : b = m + 1) : Mono (P2 E0 m) a m ∧ ∀ i, Srch (P2 E0 m) a m i i → shl E0 m (m - i) = pre ++ smerge lessB X Y ++ post := by
  obtain ⟨rfl, rfl, rfl, rfl, h5, h6, ox, oy⟩ := h
  obtain ⟨y, hy⟩ := List.length_eq_one_iff.1 (show Y.length = 1 by omega)
  subst hy
  exact ⟨Go.Ab.mono2 lessB_rank pre X y post ox, fun i S => end2 pre X y post i S⟩
def LoHi (a m b n mid lo hi : Nat) : Prop := n = mid + m ∧ mid = (a + b) / 2 ∧ ((mid < m ∧ lo = n - b ∧ hi = mid) ∨ (m ≤ mid ∧ lo = a ∧ hi = m))
theorem SymIn.mono3 {E0 pre X Y post : List Ed} {a m b n mid lo hi : Nat} (h : SymIn E0 pre X Y post a m b) (g : LoHi a m b n mid lo hi) : Mono (P3 E0 n) lo hi := by
  obtain ⟨rfl, rfl, rfl, rfl, h5, h6, ox, oy⟩ := h
  obtain ⟨g1, g2, g3⟩ := g
  exact Go.Ab.mono3 lessB_rank pre X Y post ox oy n lo hi (by omega) (by omega) (by omega) (by omega) (by omega)
theorem SymIn.end3 {E0 pre X Y post : List Ed} {a m b n mid lo hi s : Nat} (h : SymIn E0 pre X Y post a m b) (g : LoHi a m b n mid lo hi) (S : Srch (P3 E0 n) lo hi s s) :
    ∃ A1 A2 B1 B2, X = A1 ++ A2 ∧ Y = B1 ++ B2 ∧ A1.length = s - a ∧ B1.length = n - s - m ∧ smerge lessB X Y = smerge lessB A1 B1 ++ smerge lessB A2 B2 := by
  obtain ⟨rfl, rfl, rfl, rfl, h5, h6, ox, oy⟩ := h
  obtain ⟨g1, g2, g3⟩ := g
  exact Go.Ab.end3 lessB_rank pre X Y post ox oy n lo hi s (by omega) (by omega) (by omega) (by omega) (by omega) (by omega) (by omega) S
/-- where the search has ended: three steps on -/
theorem SymIn.three {E0 pre X Y post : List Ed} {a m b n mid lo hi s e : Nat} (h : SymIn E0 pre X Y post a m b) (g : LoHi a m b n mid lo hi) (S : Srch (P3 E0 n) lo hi s s) (he : e = n - s) (ham : a + 1 < m) (hmb : m + 1 < b) :
    ∃ L1 L2 : List Ed, L1.length = E0.length ∧ L2.length = E0.length ∧ a ≤ s ∧ s ≤ m ∧ m ≤ e ∧ e ≤ b ∧
      (s < m ∧ m < e → rotE m (e - s) (m - s) (e - m) E0 = L1) ∧ (¬ (s < m ∧ m < e) → E0 = L1) ∧
      (a < s ∧ s < mid → ∃ n1 A1 B1 R, n1 < X.length + Y.length ∧ A1.length + B1.length = n1 ∧ SymIn L1 pre A1 B1 R a s mid ∧ pre ++ smerge lessB A1 B1 ++ R = L2) ∧ (¬ (a < s ∧ s < mid) → L1 = L2) ∧
      (mid < e ∧ e < b → ∃ n2 Q A2 B2, n2 < X.length + Y.length ∧ A2.length + B2.length = n2 ∧ SymIn L2 Q A2 B2 post mid e b ∧ Q ++ smerge lessB A2 B2 ++ post = pre ++ smerge lessB X Y ++ post) ∧ (¬ (mid < e ∧ e < b) → L2 = pre ++ smerge lessB X Y ++ post) := by
  obtain ⟨A1, A2, B1, B2, hX, hY, hA, hB, hM⟩ := h.end3 g S
  have hb := S.bounds
  obtain ⟨h1, h2, h3, h4, h5, h6, ox, oy⟩ := h
  obtain ⟨g1, g2, g3⟩ := g
  have lX : X.length = A1.length + A2.length := by rw [hX]; simp
  have lY : Y.length = B1.length + B2.length := by rw [hY]; simp
  have oA1 : InOrder lessB A1 := (List.pairwise_append.1 (hX ▸ ox)).1
  have oA2 : InOrder lessB A2 := (List.pairwise_append.1 (hX ▸ ox)).2.1
  have oB1 : InOrder lessB B1 := (List.pairwise_append.1 (hY ▸ oy)).1
  have oB2 : InOrder lessB B2 := (List.pairwise_append.1 (hY ▸ oy)).2.1
  refine ⟨pre ++ A1 ++ B1 ++ A2 ++ B2 ++ post, pre ++ smerge lessB A1 B1 ++ A2 ++ B2 ++ post, by rw [h1, hX, hY]; simp; omega, by rw [h1, hX, hY]; simp [smerge_len]; omega, by omega, by omega, by omega, by omega, fun c => ?_, fun c => ?_, fun c => ?_, fun c => ?_, fun c => ?_, fun c => ?_⟩
  · have := rotE_lists m (e - s) (pre ++ A1) A2 B1 (B2 ++ post) (by omega) (by omega) (by omega) (by simp; omega)
    have e1 : E0 = pre ++ A1 ++ A2 ++ B1 ++ (B2 ++ post) := by rw [h1, hX, hY]; simp
    rw [e1, show m - s = A2.length by omega, show e - m = B1.length by omega, this]; simp
  · have : A2 = [] ∨ B1 = [] := by
      rcases Nat.eq_zero_or_pos A2.length with z | z
      · exact .inl (List.length_eq_zero_iff.1 z)
      · exact .inr (List.length_eq_zero_iff.1 (by omega))
    rw [h1, hX, hY]
    rcases this with z | z <;> subst z <;> simp
  · exact ⟨_, A1, B1, A2 ++ B2 ++ post, by omega, rfl, ⟨by simp, h2, by omega, by omega, by omega, by omega, oA1, oB1⟩, by simp⟩
  · have : A1 = [] ∨ B1 = [] := by
      rcases Nat.eq_zero_or_pos A1.length with z | z
      · exact .inl (List.length_eq_zero_iff.1 z)
      · exact .inr (List.length_eq_zero_iff.1 (by omega))
    rcases this with z | z <;> subst z
    · rw [nil_smerge]; simp
    · rw [smerge_nil]; simp
  · refine ⟨_, pre ++ smerge lessB A1 B1, A2, B2, by omega, rfl, ⟨by simp, by simp [smerge_len]; omega, by omega, by omega, by omega, by omega, oA2, oB2⟩, by rw [hM]; simp⟩
  · have : A2 = [] ∨ B2 = [] := by
      rcases Nat.eq_zero_or_pos A2.length with z | z
      · exact .inl (List.length_eq_zero_iff.1 z)
      · exact .inr (List.length_eq_zero_iff.1 (by omega))
    rw [hM]
    rcases this with z | z <;> subst z
    · rw [nil_smerge]; simp
    · rw [smerge_nil]; simp

set_option maxHeartbeats 4000000 in
theorem symM_step (N : Nat) (ih : ∀ n, n < N → SymOK n) (E0 pre X Y post : List Ed) (a m b : Nat) (hN : X.length + Y.length = N) (hin : SymIn E0 pre X Y post a m b) (hl : E0.length < 1099511627776) : WCalls Try.prog 23 [.own, .d (iPV a), .d (iPV m), .d (iPV b), .d (.v (.func (.func 20) #[] #[]))] ⟨24, 3, E0.map edPV, true⟩ (.tup []) ((pre ++ smerge lessB X Y ++ post).map edPV) := by
  refine entW Try.func23 ?_ (hlen := by rw [List.length_map, List.length_map, hin.eq]; simp [smerge_len]; omega)
  obtain ⟨hab, hmb, hbl⟩ := hin.len
  obtain ⟨T, hT⟩ : ∃ T, pre ++ smerge lessB X Y ++ post = T := ⟨_, rfl⟩
  rw [hT]
  have hsm := swp_map
  have hlt := ordE_lt
  have hf2 := fdiv2
  repeat (refine AW_seq ?_)
  refine reg ?_
  refine run 4 ?_
  refine fin [0, 1, 2, 3, 4, 28] [(0, 0)] ?_
  repeat (refine AW_seq ?_)
  refine tst (fun h1 => ?_) (fun h1 => ?_)
  · simp at h1
    have hM := hin.mono1 (by omega)
    rw [hT] at hM
    repeat (refine AW_seq ?_)
    refine reg ?_
    refine run 2 ?_
    refine fin [0, 1, 3, 4, 10] [(0, 0)] ?_
    repeat (refine AW_seq ?_)
    refine reg ?_
    refine run 2 ?_
    refine fin [0, 1, 4, 10, 11] [(0, 0)] ?_
    repeat (refine AW_seq ?_)
    refine AW_block ?_
    refine AW_loops (ι := Nat × Nat) (fun x => ⟨lk [(0, .own (0, 0) E0.length), (1, .c (iPV a)), (4, fnV 20), (10, .c (iPV x.1)), (11, .c (iPV x.2))], lkM [((0, 0), some ⟨24, 3, E0.map edPV, true⟩)], lkG [] 1⟩) (fun x => Srch (P1 E0 a) m b x.1 x.2) (fun x => x.2 - x.1) (m, b) (Srch.start _ (by omega)) wk ?_
    rintro ⟨i, j⟩ hS
    obtain ⟨bi, bij, bj⟩ := hS.bounds
    repeat (refine AW_seq ?_)
    refine reg ?_
    refine run 3 ?_
    refine fin [0, 1, 4, 10, 11, 33] [(0, 0)] ?_
    repeat (refine AW_seq ?_)
    refine tst (fun h2 => ?_) (fun h2 => ?_)
    · simp at h2
      obtain ⟨h, hh, hb1, hb2⟩ : ∃ h : Nat, ((i : Int) + (j : Int)) / 2 = (h : Int) ∧ i ≤ h ∧ h < j := ⟨(i + j) / 2, by omega, by omega, by omega⟩
      refine AW_skip ?_
      repeat (refine AW_seq ?_)
      refine AW_block ?_
      repeat (refine AW_seq ?_)
      refine reg ?_
      refine run 7 ?_
      refine fin [0, 1, 4, 10, 11, 12] [(0, 0)] ?_
      repeat (refine AW_seq ?_)
      refine reg ?_
      refine run 9 ?_
      refine call (fun _ => order_any (E0.getD h default) (E0.getD a default)) ?_
      refine run 1 ?_
      refine fin [0, 1, 4, 10, 11, 12, 50] [(0, 0)] ?_
      repeat (refine AW_seq ?_)
      refine tst (fun h3 => ?_) (fun h3 => ?_)
      · skip
        repeat (refine AW_seq ?_)
        refine reg ?_
        refine run 3 ?_
        refine finN ?_
        exact ⟨(h + 1, j), by simp only; omega, hS.more hM.1 hb1 hb2 h3, wk⟩
      · skip
        repeat (refine AW_seq ?_)
        refine reg ?_
        refine run 2 ?_
        refine finN ?_
        exact ⟨(i, h), by simp only; omega, hS.less hM.1 hb1 hb2 h3, wk⟩
    · simp at h2
      obtain rfl : i = j := by omega
      clear h2
      have e0 := hM.2 i hS
      refine AW_exit ?_
      repeat (refine AW_seq ?_)
      refine reg ?_
      refine run 2 ?_
      refine fin [0, 10, 13] [(0, 0)] ?_
      repeat (refine AW_seq ?_)
      refine AW_block ?_
      refine AW_loops (ι := Nat × List Ed) (fun x => ⟨lk [(0, .own (0, 0) E0.length), (10, .c (iPV i)), (13, .c (iPV x.1))], lkM [((0, 0), some ⟨24, 3, x.2.map edPV, true⟩)], lkG [] 1⟩) (fun x => a ≤ x.1 ∧ x.1 ≤ i - 1 ∧ x.2.length = E0.length ∧ shr x.2 x.1 (i - 1 - x.1) = T) (fun x => i - x.1) (a, E0) ⟨Nat.le_refl _, by simp only; omega, rfl, e0⟩ wk ?_
      rintro ⟨k, L⟩ ⟨hk, hk2, hL, hsh⟩
      simp only at hk hk2 hL hsh
      repeat (refine AW_seq ?_)
      refine reg ?_
      refine run 4 ?_
      refine fin [0, 10, 13, 58] [(0, 0)] ?_
      repeat (refine AW_seq ?_)
      refine tst (fun h4 => ?_) (fun h4 => ?_)
      · simp at h4
        have ik : ((k : Int) + 1).toNat = k + 1 := by omega
        have e1 : shr (swp L k (k + 1)) (k + 1) (i - 1 - (k + 1)) = T := by rw [← hsh, show i - 1 - k = (i - 1 - (k + 1)) + 1 by omega, shr]
        refine AW_skip ?_
        repeat (refine AW_seq ?_)
        refine AW_block ?_
        repeat (refine AW_seq ?_)
        refine reg ?_
        refine run 18 ?_
        refine finN ?_
        refine kp [0, 10, 13] [(0, 0)] ?_
        repeat (refine AW_seq ?_)
        refine reg ?_
        refine run 3 ?_
        refine finN ?_
        exact ⟨(k + 1, swp L k (k + 1)), by simp only; omega, ⟨by simp only; omega, by simp only; omega, by simp only [swp_len]; exact hL, by simp only; exact e1⟩, wk⟩
      · simp at h4
        have e1 : L = T := by rw [← hsh, show i - 1 - k = 0 by omega, shr]
        refine AW_exit ?_
        refine AW_ret (retW ?_)
        rfl
  · simp at h1
    refine AW_skip ?_
    repeat (refine AW_seq ?_)
    refine reg ?_
    refine run 4 ?_
    refine fin [0, 1, 2, 3, 4, 80] [(0, 0)] ?_
    repeat (refine AW_seq ?_)
    refine tst (fun h5 => ?_) (fun h5 => ?_)
    · simp at h5
      have hM := hin.mono2 (by omega)
      rw [hT] at hM
      repeat (refine AW_seq ?_)
      refine reg ?_
      refine run 2 ?_
      refine fin [0, 2, 4, 14] [(0, 0)] ?_
      repeat (refine AW_seq ?_)
      refine reg ?_
      refine run 2 ?_
      refine fin [0, 2, 4, 14, 15] [(0, 0)] ?_
      repeat (refine AW_seq ?_)
      refine AW_block ?_
      refine AW_loops (ι := Nat × Nat) (fun x => ⟨lk [(0, .own (0, 0) E0.length), (2, .c (iPV m)), (4, fnV 20), (14, .c (iPV x.1)), (15, .c (iPV x.2))], lkM [((0, 0), some ⟨24, 3, E0.map edPV, true⟩)], lkG [] 1⟩) (fun x => Srch (P2 E0 m) a m x.1 x.2) (fun x => x.2 - x.1) (a, m) (Srch.start _ (by omega)) wk ?_
      rintro ⟨i, j⟩ hS
      obtain ⟨bi, bij, bj⟩ := hS.bounds
      repeat (refine AW_seq ?_)
      refine reg ?_
      refine run 3 ?_
      refine fin [0, 2, 4, 14, 15, 85] [(0, 0)] ?_
      repeat (refine AW_seq ?_)
      refine tst (fun h6 => ?_) (fun h6 => ?_)
      · simp at h6
        obtain ⟨h, hh, hb1, hb2⟩ : ∃ h : Nat, ((i : Int) + (j : Int)) / 2 = (h : Int) ∧ i ≤ h ∧ h < j := ⟨(i + j) / 2, by omega, by omega, by omega⟩
        refine AW_skip ?_
        repeat (refine AW_seq ?_)
        refine AW_block ?_
        repeat (refine AW_seq ?_)
        refine reg ?_
        refine run 7 ?_
        refine fin [0, 2, 4, 14, 15, 16] [(0, 0)] ?_
        repeat (refine AW_seq ?_)
        refine reg ?_
        refine run 9 ?_
        refine call (fun _ => order_any (E0.getD m default) (E0.getD h default)) ?_
        refine run 2 ?_
        refine fin [0, 2, 4, 14, 15, 16, 103] [(0, 0)] ?_
        repeat (refine AW_seq ?_)
        refine tst (fun h7 => ?_) (fun h7 => ?_)
        · skip
          repeat (refine AW_seq ?_)
          refine reg ?_
          refine run 3 ?_
          refine finN ?_
          exact ⟨(h + 1, j), by simp only; omega, hS.more hM.1 hb1 hb2 h7, wk⟩
        · skip
          repeat (refine AW_seq ?_)
          refine reg ?_
          refine run 2 ?_
          refine finN ?_
          exact ⟨(i, h), by simp only; omega, hS.less hM.1 hb1 hb2 h7, wk⟩
      · simp at h6
        obtain rfl : i = j := by omega
        clear h6
        have e0 := hM.2 i hS
        refine AW_exit ?_
        repeat (refine AW_seq ?_)
        refine reg ?_
        refine run 2 ?_
        refine fin [0, 14, 17] [(0, 0)] ?_
        repeat (refine AW_seq ?_)
        refine AW_block ?_
        refine AW_loops (ι := Nat × List Ed) (fun x => ⟨lk [(0, .own (0, 0) E0.length), (14, .c (iPV i)), (17, .c (iPV x.1))], lkM [((0, 0), some ⟨24, 3, x.2.map edPV, true⟩)], lkG [] 1⟩) (fun x => i ≤ x.1 ∧ x.1 ≤ m ∧ x.2.length = E0.length ∧ shl x.2 x.1 (x.1 - i) = T) (fun x => x.1) (m, E0) ⟨by simp only; omega, Nat.le_refl _, rfl, e0⟩ wk ?_
        rintro ⟨k, L⟩ ⟨hk, hk2, hL, hsh⟩
        simp only at hk hk2 hL hsh
        repeat (refine AW_seq ?_)
        refine reg ?_
        refine run 3 ?_
        refine fin [0, 14, 17, 110] [(0, 0)] ?_
        repeat (refine AW_seq ?_)
        refine tst (fun h8 => ?_) (fun h8 => ?_)
        · simp at h8
          have ik : ((k : Int) - 1).toNat = k - 1 := by omega
          have e1 : shl (swp L k (k - 1)) (k - 1) (k - 1 - i) = T := by rw [← hsh, show k - i = (k - 1 - i) + 1 by omega, shl]
          refine AW_skip ?_
          repeat (refine AW_seq ?_)
          refine AW_block ?_
          repeat (refine AW_seq ?_)
          refine reg ?_
          refine run 18 ?_
          refine finN ?_
          refine kp [0, 14, 17] [(0, 0)] ?_
          repeat (refine AW_seq ?_)
          refine reg ?_
          refine run 3 ?_
          refine finN ?_
          exact ⟨(k - 1, swp L k (k - 1)), by simp only; omega, ⟨by simp only; omega, by simp only; omega, by simp only [swp_len]; exact hL, by simp only; exact e1⟩, wk⟩
        · simp at h8
          have e1 : L = T := by rw [← hsh, show k - i = 0 by omega, shl]
          refine AW_exit ?_
          refine AW_ret (retW ?_)
          rfl
    · simp at h5
      obtain ⟨mid, hmid, hmid2, hmid3⟩ : ∃ mid : Nat, ((a : Int) + (b : Int)) / 2 = (mid : Int) ∧ Go.RowKit.Hid (mid = (a + b) / 2) ∧ (a + b ≤ 2 * mid + 1 ∧ 2 * mid ≤ a + b) := ⟨(a + b) / 2, by omega, rfl, by omega⟩
      obtain ⟨n, hn, hn2, hn3⟩ : ∃ n : Nat, (mid : Int) + (m : Int) = (n : Int) ∧ Go.RowKit.Hid (n = mid + m) ∧ (n ≤ mid + m ∧ mid + m ≤ n) := ⟨mid + m, by omega, rfl, by omega⟩
      refine AW_skip ?_
      repeat (refine AW_seq ?_)
      refine reg ?_
      refine run 7 ?_
      refine fin [0, 1, 2, 3, 4, 18] [(0, 0)] ?_
      repeat (refine AW_seq ?_)
      refine reg ?_
      refine run 4 ?_
      refine fin [0, 1, 2, 3, 4, 18, 19] [(0, 0)] ?_
      repeat (refine AW_seq ?_)
      refine reg ?_
      refine run 2 ?_
      refine fin [0, 1, 2, 3, 4, 18, 19] [(0, 0)] ?_
      repeat (refine AW_seq ?_)
      refine reg ?_
      refine run 3 ?_
      refine fin [0, 1, 2, 3, 4, 18, 19, 140] [(0, 0)] ?_
      refine join (ι := Nat × Nat) (fun x => ⟨lk [(0, .own (0, 0) E0.length), (1, .c (iPV a)), (2, .c (iPV m)), (3, .c (iPV b)), (4, fnV 20), (18, .c (iPV mid)), (19, .c (iPV n)), (20, .c (iPV x.1)), (21, .c (iPV x.2))], lkM [((0, 0), some ⟨24, 3, E0.map edPV, true⟩)], lkG [] 1⟩) (fun x => LoHi a m b n mid x.1 x.2) ?_ ?_
      · skip
        repeat (refine AW_seq ?_)
        refine tst (fun h9 => ?_) (fun h9 => ?_)
        · simp at h9
          repeat (refine AW_seq ?_)
          refine reg ?_
          refine run 4 ?_
          refine fin [0, 1, 2, 3, 4, 18, 19, 20] [(0, 0)] ?_
          repeat (refine AW_seq ?_)
          refine reg ?_
          refine run 2 ?_
          refine finN ?_
          exact ⟨(n - b, mid), ⟨hn2.out, hmid2.out, .inl ⟨by omega, rfl, rfl⟩⟩, wk⟩
        · simp at h9
          repeat (refine AW_seq ?_)
          refine reg ?_
          refine run 2 ?_
          refine fin [0, 1, 2, 3, 4, 18, 19, 20] [(0, 0)] ?_
          repeat (refine AW_seq ?_)
          refine reg ?_
          refine run 2 ?_
          refine finN ?_
          exact ⟨(a, m), ⟨hn2.out, hmid2.out, .inr ⟨by omega, rfl, rfl⟩⟩, wk⟩
      rintro ⟨lo, hi⟩ hlo
      simp only at hlo
      have hM := hin.mono3 hlo
      have hlh : lo ≤ hi := by obtain ⟨g1, g2, g3⟩ := hlo; omega
      have hhi : hi ≤ m ∧ hi < n ∧ n - lo ≤ b ∧ m ≤ n - hi ∧ a ≤ lo := by obtain ⟨g1, g2, g3⟩ := hlo; omega
      repeat (refine AW_seq ?_)
      refine reg ?_
      refine run 3 ?_
      refine fin [0, 1, 2, 3, 4, 18, 19, 20, 21, 22] [(0, 0)] ?_
      repeat (refine AW_seq ?_)
      refine AW_block ?_
      refine AW_loops (ι := Nat × Nat) (fun x => ⟨lk [(0, .own (0, 0) E0.length), (1, .c (iPV a)), (2, .c (iPV m)), (3, .c (iPV b)), (4, fnV 20), (18, .c (iPV mid)), (19, .c (iPV n)), (20, .c (iPV x.1)), (21, .c (iPV x.2)), (22, .c (iPV ((n : Int) - 1)))], lkM [((0, 0), some ⟨24, 3, E0.map edPV, true⟩)], lkG [] 1⟩) (fun x => Srch (P3 E0 n) lo hi x.1 x.2) (fun x => x.2 - x.1) (lo, hi) (Srch.start _ hlh) wk ?_
      rintro ⟨i, j⟩ hS
      obtain ⟨bi, bij, bj⟩ := hS.bounds
      repeat (refine AW_seq ?_)
      refine reg ?_
      refine run 3 ?_
      refine fin [0, 1, 2, 3, 4, 18, 19, 20, 21, 22, 151] [(0, 0)] ?_
      repeat (refine AW_seq ?_)
      refine tst (fun h10 => ?_) (fun h10 => ?_)
      · simp at h10
        obtain ⟨h, hh, hb1, hb2⟩ : ∃ h : Nat, ((i : Int) + (j : Int)) / 2 = (h : Int) ∧ i ≤ h ∧ h < j := ⟨(i + j) / 2, by omega, by omega, by omega⟩
        have ip : ((n : Int) - 1 - (h : Int)).toNat = n - 1 - h := by omega
        refine AW_skip ?_
        repeat (refine AW_seq ?_)
        refine AW_block ?_
        repeat (refine AW_seq ?_)
        refine reg ?_
        refine run 7 ?_
        refine fin [0, 1, 2, 3, 4, 18, 19, 20, 21, 22, 23] [(0, 0)] ?_
        repeat (refine AW_seq ?_)
        refine reg ?_
        refine run 11 ?_
        refine call (fun _ => order_any (E0.getD (n - 1 - h) default) (E0.getD h default)) ?_
        refine run 2 ?_
        refine fin [0, 1, 2, 3, 4, 18, 19, 20, 21, 22, 23, 171] [(0, 0)] ?_
        repeat (refine AW_seq ?_)
        refine tst (fun h11 => ?_) (fun h11 => ?_)
        · skip
          repeat (refine AW_seq ?_)
          refine reg ?_
          refine run 3 ?_
          refine finN ?_
          exact ⟨(h + 1, j), by simp only; omega, hS.more hM hb1 hb2 h11, wk⟩
        · skip
          repeat (refine AW_seq ?_)
          refine reg ?_
          refine run 2 ?_
          refine finN ?_
          exact ⟨(i, h), by simp only; omega, hS.less hM hb1 hb2 h11, wk⟩
      · simp at h10
        obtain rfl : i = j := by omega
        clear h10
        obtain ⟨e, he, he2, he3⟩ : ∃ e : Nat, (n : Int) - (i : Int) = (e : Int) ∧ Go.RowKit.Hid (e = n - i) ∧ (e ≤ n - i ∧ n - i ≤ e) := ⟨n - i, by omega, rfl, by omega⟩
        obtain ⟨L1, L2, l1, l2, q1, q2, q3, q4, r1, r1', r2, r2', r3, r3'⟩ := hin.three hlo hS he2.out (by omega) (by omega)
        rw [hT] at r3'
        refine AW_exit ?_
        repeat (refine AW_seq ?_)
        refine reg ?_
        refine run 4 ?_
        refine fin [0, 1, 2, 3, 4, 18, 20, 24] [(0, 0)] ?_
        repeat (refine AW_seq ?_)
        refine reg ?_
        refine run 8 ?_
        refine fin [0, 1, 2, 3, 4, 18, 20, 24, 185] [(0, 0)] ?_
        refine join (ι := Unit) (fun _ => ⟨lk [(0, .own (0, 0) E0.length), (1, .c (iPV a)), (3, .c (iPV b)), (4, fnV 20), (18, .c (iPV mid)), (20, .c (iPV i)), (24, .c (iPV e))], lkM [((0, 0), some ⟨24, 3, L1.map edPV, true⟩)], lkG [] 1⟩) (fun _ => True) ?_ ?_
        · skip
          repeat (refine AW_seq ?_)
          refine tst (fun h12 => ?_) (fun h12 => ?_)
          · simp at h12
            have r1 := r1 (by omega)
            repeat (refine AW_seq ?_)
            refine reg ?_
            refine run 5 ?_
            refine wcall (0, 0) (rot_any E0 i m e (by omega) (by omega) (by omega) (by omega)) ?_
            refine finN ?_
            exact ⟨(), trivial, wk⟩
          · simp at h12
            have r1' := r1' (by omega)
            refine AW_skip ?_
            exact ⟨(), trivial, wk⟩
        rintro ⟨⟩ -
        repeat (refine AW_seq ?_)
        refine reg ?_
        refine run 8 ?_
        refine fin [0, 1, 3, 4, 18, 20, 24, 199] [(0, 0)] ?_
        refine join (ι := Unit) (fun _ => ⟨lk [(0, .own (0, 0) E0.length), (3, .c (iPV b)), (4, fnV 20), (18, .c (iPV mid)), (24, .c (iPV e))], lkM [((0, 0), some ⟨24, 3, L2.map edPV, true⟩)], lkG [] 1⟩) (fun _ => True) ?_ ?_
        · skip
          repeat (refine AW_seq ?_)
          refine tst (fun h13 => ?_) (fun h13 => ?_)
          · simp at h13
            obtain ⟨n1, A1, B1, R1, g1, g2, g3, g4⟩ := r2 (by omega)
            have ih1 := ih n1 (by omega) L1 pre A1 B1 R1 a i mid g2 g3 (by omega)
            repeat (refine AW_seq ?_)
            refine reg ?_
            refine run 5 ?_
            refine wcall (0, 0) (ih1) ?_
            refine finN ?_
            exact ⟨(), trivial, wk⟩
          · simp at h13
            have r2' := r2' (by omega)
            refine AW_skip ?_
            exact ⟨(), trivial, wk⟩
        rintro ⟨⟩ -
        repeat (refine AW_seq ?_)
        refine reg ?_
        refine run 8 ?_
        refine fin [0, 3, 4, 18, 24, 213] [(0, 0)] ?_
        repeat (refine AW_seq ?_)
        refine tst (fun h14 => ?_) (fun h14 => ?_)
        · simp at h14
          obtain ⟨n2, Q2, A2, B2, g1, g2, g3, g4⟩ := r3 (by omega)
          rw [hT] at g4
          have ih2 := ih n2 (by omega) L2 Q2 A2 B2 post mid e b g2 g3 (by omega)
          repeat (refine AW_seq ?_)
          refine reg ?_
          refine run 5 ?_
          refine wcall (0, 0) (ih2) ?_
          refine finN ?_
          refine retWN ?_
          rfl
        · simp at h14
          have r3' := r3' (by omega)
          refine AW_skip ?_
          refine retWN ?_
          rfl


theorem symM_any : ∀ n, SymOK n := by
  intro n
  induction n using Nat.strongRecOn with
  | _ n ih =>
    intro E0 pre X Y post a m b hN hin hl
    exact symM_step n ih E0 pre X Y post a m b hN hin hl
end Go.Proofs.Ytgkajfmjpobenaa
