/-
  The document's list of keys, slots as the document's, and the fixed answer of the layer verts, on plain data.
  Conditions: not too many slots.
-/
import Derived.Test.YtaoiffinodfcfaaVertsR
namespace Go.Proofs.Ytaoiffinodfcfaa
open Go Go.Ab
set_option linter.unusedVariables false
set_option linter.unusedSimpArgs false

theorem less_is : ∀ {o : List Int} {k : Int} {z : Nat}, z ≤ o.length → (∀ j, j < z → o.getD j default < k) → (z < o.length → ¬ o.getD z default < k) → less o k = z
  | [], k, z, h, _, _ => by simp at h; subst h; rfl
  | x :: o, k, 0, _, _, h => by
    have := h (by simp)
    rw [less, List.takeWhile_cons, if_neg (by simpa using this)]; rfl
  | x :: o, k, z + 1, h, h1, h2 => by
    have hx := h1 0 (by omega)
    have ih := less_is (o := o) (k := k) (z := z) (by simp at h; omega) (fun j hj => by have := h1 (j + 1) (by omega); simpa using this) (fun hz => by have := h2 (by simp; omega); simpa using this)
    rw [less, List.takeWhile_cons, if_pos (by simpa using hx), List.length_cons]
    rw [less] at ih; rw [ih]

theorem refs_any (l : List Slt) (hl : l.length < 1099511627776) : ACalls Try.prog 10 [.sl (l.map stPV)] (.sl (l.map stPV)) := by
  refine ent Try.func10 ?_
  repeat (refine AW_seq ?_)
  refine reg ?_
  refine run 1 ?_
  refine fin [0] [] ?_
  repeat (refine AW_seq ?_)
  refine reg ?_
  refine run 1 ?_
  refine fin [0, 3] [] ?_
  refine seed 3 4 57 2 ?_
  repeat (refine AW_seq ?_)
  refine reg ?_
  refine run 2 ?_
  refine run 1 ?_
  refine fin [3, 6, 7, 8] [(4, 0)] ?_
  repeat (refine AW_seq ?_)
  refine AW_block ?_
  refine AW_loops (ι := Nat × List Slt) (fun z => ⟨lk [(3, .own (4, 0) z.2.length), (6, .c (.sl (l.map stPV))), (7, .c (iPV l.length)), (8, .c (iPV z.1))], lkM ([((4, 0), some ⟨57, 2, (z.2).map stPV, true, [], none⟩)]), lkG [] 1⟩) (fun z => z.1 ≤ l.length ∧ z.2 = l.take z.1) (fun z => l.length - z.1) (0, []) ⟨Nat.zero_le _, rfl⟩ wk ?_
  rintro ⟨i, o⟩ ⟨hi, ho⟩
  simp only at hi ho
  have hol : o.length = i := by rw [ho, List.length_take]; omega
  obtain ⟨ho, -⟩ : Go.RowKit.Hid (o = l.take i) ∧ True := ⟨ho, trivial⟩
  rename_i ho0
  clear ho0
  repeat (refine AW_seq ?_)
  refine reg ?_
  refine run 1 ?_
  refine fin [3, 6, 7, 8, 9] [(4, 0)] ?_
  repeat (refine AW_seq ?_)
  refine tst (fun h1 => ?_) (fun h1 => ?_)
  · simp at h1
    obtain ⟨x, hx⟩ : ∃ x, l.getD i default = x := ⟨_, rfl⟩
    have htk := take_map (by omega) hx
    obtain ⟨o2, ho2⟩ : ∃ o2, o ++ [x] = o2 := ⟨_, rfl⟩
    have hom : o.map stPV ++ [PV.agg [PV.v (.bool x.used), PV.v (.int .u64 x.key)]] = o2.map stPV := by rw [← ho2, List.map_append]; rfl
    have ho2l : o2.length = o.length + 1 := by rw [← ho2, List.length_append]; rfl
    obtain ⟨ho2, -⟩ : Go.RowKit.Hid (o ++ [x] = o2) ∧ True := ⟨ho2, trivial⟩
    rename_i ho20
    clear ho20
    obtain ⟨htk, -⟩ : Go.RowKit.Hid (l.take (i + 1) = l.take i ++ [x]) ∧ True := ⟨htk, trivial⟩
    rename_i htk0
    clear htk0
    refine AW_skip ?_
    repeat (refine AW_seq ?_)
    refine AW_block ?_
    repeat (refine AW_seq ?_)
    refine reg ?_
    refine run 2 ?_
    refine run 2 ?_
    refine fin [3, 5, 6, 7, 8] [(4, 0), (6, 1)] ?_
    repeat (refine AW_seq ?_)
    refine reg ?_
    refine run 2 ?_
    refine run 2 ?_
    refine run 1 ?_
    refine finN ?_
    refine kp [3, 6, 7, 8] [(4, 0)] ?_
    repeat (refine AW_seq ?_)
    refine reg ?_
    refine run 2 ?_
    refine finN ?_
    refine ⟨(i + 1, o2), by show l.length - (i + 1) < l.length - i; omega, ⟨by show i + 1 ≤ _; omega, by show o2 = _; rw [htk.out, ← ho.out]; exact ho2.out.symm⟩, wk⟩
  · simp at h1
    have hoo : o = l := by rw [ho.out, List.take_of_length_le (by omega)]
    refine AW_exit ?_
    repeat (refine AW_seq ?_)
    refine reg ?_
    refine run 2 ?_
    refine fin [2] [(4, 0)] ?_
    refine AW_ret (ret ?_)
    rw [← hoo]

theorem rKeys_any (l : List Slt) (hl : l.length < 1099511627776) : ACalls Try.prog 22 [.sl (l.map stPV)] (.sl ((keysN l l.length).map uPV)) := by
  refine ent Try.func22 ?_
  repeat (refine AW_seq ?_)
  refine reg ?_
  refine run 1 ?_
  refine fin [0] [] ?_
  repeat (refine AW_seq ?_)
  refine reg ?_
  refine run 1 ?_
  refine fin [0, 3] [] ?_
  refine seed 3 4 23 1 ?_
  repeat (refine AW_seq ?_)
  refine reg ?_
  refine run 1 ?_
  refine fin [0, 3, 4] [(4, 0)] ?_
  repeat (refine AW_seq ?_)
  refine AW_block ?_
  refine AW_loops (ι := Nat × List Int) (fun z => ⟨lk [(0, .c (.sl (l.map stPV))), (3, .own (4, 0) z.2.length), (4, .c (iPV z.1))], lkM ([((4, 0), some ⟨23, 1, (z.2).map uPV, true, [], none⟩)]), lkG [] 1⟩) (fun z => z.1 ≤ l.length ∧ z.2 = keysN l z.1 ∧ z.2.length ≤ z.1) (fun z => l.length - z.1) (0, []) ⟨Nat.zero_le _, rfl, Nat.le_refl _⟩ wk ?_
  rintro ⟨i, o⟩ ⟨hi, ho, hol⟩
  simp only at hi ho hol
  obtain ⟨ho, -⟩ : Go.RowKit.Hid (o = keysN l i) ∧ True := ⟨ho, trivial⟩
  rename_i ho0
  clear ho0
  repeat (refine AW_seq ?_)
  refine reg ?_
  refine run 2 ?_
  refine run 2 ?_
  refine fin [0, 3, 4, 10] [(4, 0)] ?_
  repeat (refine AW_seq ?_)
  refine tst (fun h1 => ?_) (fun h1 => ?_)
  · simp at h1
    obtain ⟨x, hx, gx⟩ := getD_at h1
    obtain ⟨b, k⟩ := x
    refine AW_skip ?_
    repeat (refine AW_seq ?_)
    refine AW_block ?_
    repeat (refine AW_seq ?_)
    refine reg ?_
    refine run 2 ?_
    refine run 2 ?_
    refine run 2 ?_
    refine fin [0, 3, 4, 18] [(4, 0)] ?_
    repeat (refine AW_seq ?_)
    refine tst (fun h2 => ?_) (fun h2 => ?_)
    · simp at h2
      refine AW_exit ?_
      repeat (refine AW_seq ?_)
      refine reg ?_
      refine run 2 ?_
      refine run 1 ?_
      refine finN ?_
      exact ⟨(i + 1, o), by show l.length - (i + 1) < l.length - i; omega, ⟨by show i + 1 ≤ _; omega, by show o = _; rw [keysN, if_neg (by rw [us_of gx, h2]; decide), ← ho.out], by show o.length ≤ i + 1; omega⟩, wk⟩
    · simp at h2
      refine AW_skip ?_
      repeat (refine AW_seq ?_)
      refine reg ?_
      refine run 1 ?_
      refine fin [0, 3, 4, 5] [(4, 0)] ?_
      repeat (refine AW_seq ?_)
      refine AW_block ?_
      refine AW_loops (ι := Nat) (fun z => ⟨lk [(0, .c (.sl (l.map stPV))), (3, .own (4, 0) o.length), (4, .c (iPV i)), (5, .c (iPV z))], lkM ([((4, 0), some ⟨23, 1, (o).map uPV, true, [], none⟩)]), lkG [] 1⟩) (fun z => z ≤ o.length ∧ ∀ j, j < z → o.getD j default < k) (fun z => o.length - z) 0 ⟨Nat.zero_le _, fun j hj => absurd hj (Nat.not_lt_zero j)⟩ wk ?_
      rintro z ⟨hz, hF⟩
      obtain ⟨hF, -⟩ : Go.RowKit.Hid (∀ j, j < z → o.getD j default < k) ∧ True := ⟨hF, trivial⟩
      rename_i hF0
      clear hF0
      rcases Nat.lt_or_ge z o.length with hz2 | hz2
      · obtain ⟨y, hy, gy⟩ := getD_at hz2
        repeat (refine AW_seq ?_)
        refine reg ?_
        refine run 2 ?_
        refine run 2 ?_
        refine run 2 ?_
        refine run 2 ?_
        refine run 2 ?_
        refine run 2 ?_
        refine run 2 ?_
        refine run 2 ?_
        refine fin [0, 3, 4, 5, 34] [(4, 0)] ?_
        repeat (refine AW_seq ?_)
        refine tst (fun h3 => ?_) (fun h3 => ?_)
        · skip
          have h4 : y < k := by simp at h3; exact h3.2
          refine AW_skip ?_
          repeat (refine AW_seq ?_)
          refine AW_block ?_
          repeat (refine AW_seq ?_)
          refine reg ?_
          refine run 2 ?_
          refine run 1 ?_
          refine finN ?_
          exact ⟨z + 1, by omega, ⟨by omega, fun j hj => by
            rcases Nat.lt_or_ge j z with h8 | h8
            · exact hF.out j h8
            · obtain rfl : j = z := by omega
              rw [gy]; exact h4⟩, wk⟩
        · skip
          have h4 : ¬ y < k := by simp at h3; have := h3 hz2; omega
          have hless : less o k = z := less_is hz hF.out fun _ => by rw [gy]; exact h4
          obtain ⟨n1, en1⟩ : ∃ q, o.take z = q := ⟨_, rfl⟩
          have mn1 : (o.map uPV).take z = n1.map uPV := by rw [← en1]; first | exact (List.map_take ..).symm | exact (List.map_drop ..).symm | (simp [uPV]; done)
          have ln1 : n1.length = z := by rw [← en1]; simp; try omega
          obtain ⟨en1, -⟩ : Go.RowKit.Hid (o.take z = n1) ∧ True := ⟨en1, trivial⟩
          rename_i en10
          clear en10
          obtain ⟨n2, en2⟩ : ∃ q, n1 ++ [k] = q := ⟨_, rfl⟩
          have mn2 : n1.map uPV ++ [PV.v (.int .u64 k)] = n2.map uPV := by rw [← en2]; first | exact (List.map_take ..).symm | exact (List.map_drop ..).symm | (simp [uPV]; done)
          have ln2 : n2.length = n1.length + 1 := by rw [← en2]; simp; try omega
          obtain ⟨en2, -⟩ : Go.RowKit.Hid (n1 ++ [k] = n2) ∧ True := ⟨en2, trivial⟩
          rename_i en20
          clear en20
          obtain ⟨n3, en3⟩ : ∃ q, o.drop z = q := ⟨_, rfl⟩
          have mn3 : (o.map uPV).drop z = n3.map uPV := by rw [← en3]; first | exact (List.map_take ..).symm | exact (List.map_drop ..).symm | (simp [uPV]; done)
          have ln3 : n3.length = o.length - z := by rw [← en3]; simp; try omega
          obtain ⟨en3, -⟩ : Go.RowKit.Hid (o.drop z = n3) ∧ True := ⟨en3, trivial⟩
          rename_i en30
          clear en30
          obtain ⟨n4, en4⟩ : ∃ q, n2 ++ n3 = q := ⟨_, rfl⟩
          have mn4 : n2.map uPV ++ n3.map uPV = n4.map uPV := by rw [← en4]; first | exact (List.map_take ..).symm | exact (List.map_drop ..).symm | (simp [uPV]; done)
          have ln4 : n4.length = n2.length + n3.length := by rw [← en4]; simp; try omega
          obtain ⟨en4, -⟩ : Go.RowKit.Hid (n2 ++ n3 = n4) ∧ True := ⟨en4, trivial⟩
          rename_i en40
          clear en40
          refine AW_exit ?_
          repeat (refine AW_seq ?_)
          refine reg ?_
          refine run 1 ?_
          refine fin [0, 3, 4, 5, 6] [(4, 0)] ?_
          refine seed 6 7 23 1 ?_
          refine dt 3 (4, 0) ?_
          repeat (refine AW_seq ?_)
          refine reg ?_
          refine run 2 ?_
          refine run 2 ?_
          refine run 2 ?_
          refine fin [0, 3, 4, 5, 6] [(7, 1)] ?_
          repeat (refine AW_seq ?_)
          refine reg ?_
          refine run 2 ?_
          refine run 2 ?_
          refine run 2 ?_
          refine run 2 ?_
          refine run 1 ?_
          refine fin [0, 3, 4, 5, 6] [(7, 1)] ?_
          repeat (refine AW_seq ?_)
          refine reg ?_
          refine run 2 ?_
          refine run 2 ?_
          refine run 2 ?_
          refine finN ?_
          refine kp [0, 3, 4] [(7, 1)] ?_
          repeat (refine AW_seq ?_)
          refine reg ?_
          refine run 2 ?_
          refine run 1 ?_
          refine finN ?_
          exact ⟨(i + 1, n4), by show l.length - (i + 1) < l.length - i; omega, ⟨by show i + 1 ≤ _; omega, by show n4 = _; rw [keysN, if_pos (by rw [us_of gx, h2]), ke_of gx, ← ho.out, insR_is, hless, ← en4.out, ← en2.out, ← en1.out, ← en3.out]; simp, by show n4.length ≤ i + 1; omega⟩, wkr (4, 0) (7, 1)⟩
      · obtain rfl : z = o.length := by omega
        have hB : decide ((o.length : Int) < (o.length : Int)) = false := by simp
        repeat (refine AW_seq ?_)
        refine reg ?_
        refine run 2 ?_
        refine run 2 ?_
        refine run 2 ?_
        refine run 1 ?_
        refine skpV (.c (.v (.bool false))) ?_
        refine skpV (.c (.v (.int .u64 0))) ?_
        refine run 2 ?_
        refine run 2 ?_
        refine run 2 ?_
        refine run 1 ?_
        refine fin [0, 3, 4, 5, 34] [(4, 0)] ?_
        repeat (refine AW_seq ?_)
        refine tst (fun h3 => ?_) (fun h3 => ?_)
        · (exfalso; simp at h3)
        · skip
          have hless : less o k = o.length := less_is hz hF.out fun h => absurd h (by omega)
          obtain ⟨n1, en1⟩ : ∃ q, o.take o.length = q := ⟨_, rfl⟩
          have mn1 : (o.map uPV).take o.length = n1.map uPV := by rw [← en1]; first | exact (List.map_take ..).symm | exact (List.map_drop ..).symm | (simp [uPV]; done)
          have ln1 : n1.length = o.length := by rw [← en1]; simp; try omega
          obtain ⟨en1, -⟩ : Go.RowKit.Hid (o.take o.length = n1) ∧ True := ⟨en1, trivial⟩
          rename_i en10
          clear en10
          obtain ⟨n2, en2⟩ : ∃ q, n1 ++ [k] = q := ⟨_, rfl⟩
          have mn2 : n1.map uPV ++ [PV.v (.int .u64 k)] = n2.map uPV := by rw [← en2]; first | exact (List.map_take ..).symm | exact (List.map_drop ..).symm | (simp [uPV]; done)
          have ln2 : n2.length = n1.length + 1 := by rw [← en2]; simp; try omega
          obtain ⟨en2, -⟩ : Go.RowKit.Hid (n1 ++ [k] = n2) ∧ True := ⟨en2, trivial⟩
          rename_i en20
          clear en20
          obtain ⟨n3, en3⟩ : ∃ q, o.drop o.length = q := ⟨_, rfl⟩
          have mn3 : (o.map uPV).drop o.length = n3.map uPV := by rw [← en3]; first | exact (List.map_take ..).symm | exact (List.map_drop ..).symm | (simp [uPV]; done)
          have ln3 : n3.length = o.length - o.length := by rw [← en3]; simp; try omega
          obtain ⟨en3, -⟩ : Go.RowKit.Hid (o.drop o.length = n3) ∧ True := ⟨en3, trivial⟩
          rename_i en30
          clear en30
          obtain ⟨n4, en4⟩ : ∃ q, n2 ++ n3 = q := ⟨_, rfl⟩
          have mn4 : n2.map uPV ++ n3.map uPV = n4.map uPV := by rw [← en4]; first | exact (List.map_take ..).symm | exact (List.map_drop ..).symm | (simp [uPV]; done)
          have ln4 : n4.length = n2.length + n3.length := by rw [← en4]; simp; try omega
          obtain ⟨en4, -⟩ : Go.RowKit.Hid (n2 ++ n3 = n4) ∧ True := ⟨en4, trivial⟩
          rename_i en40
          clear en40
          refine AW_exit ?_
          repeat (refine AW_seq ?_)
          refine reg ?_
          refine run 1 ?_
          refine fin [0, 3, 4, 5, 6] [(4, 0)] ?_
          refine seed 6 7 23 1 ?_
          refine dt 3 (4, 0) ?_
          repeat (refine AW_seq ?_)
          refine reg ?_
          refine run 2 ?_
          refine run 2 ?_
          refine run 2 ?_
          refine fin [0, 3, 4, 5, 6] [(7, 1)] ?_
          repeat (refine AW_seq ?_)
          refine reg ?_
          refine run 2 ?_
          refine run 2 ?_
          refine run 2 ?_
          refine run 2 ?_
          refine run 1 ?_
          refine fin [0, 3, 4, 5, 6] [(7, 1)] ?_
          repeat (refine AW_seq ?_)
          refine reg ?_
          refine run 2 ?_
          refine run 2 ?_
          refine run 2 ?_
          refine finN ?_
          refine kp [0, 3, 4] [(7, 1)] ?_
          repeat (refine AW_seq ?_)
          refine reg ?_
          refine run 2 ?_
          refine run 1 ?_
          refine finN ?_
          exact ⟨(i + 1, n4), by show l.length - (i + 1) < l.length - i; omega, ⟨by show i + 1 ≤ _; omega, by show n4 = _; rw [keysN, if_pos (by rw [us_of gx, h2]), ke_of gx, ← ho.out, insR_is, hless, ← en4.out, ← en2.out, ← en1.out, ← en3.out]; simp, by show n4.length ≤ i + 1; omega⟩, wkr (4, 0) (7, 1)⟩
  · simp at h1
    have hie : i = l.length := by omega
    refine AW_exit ?_
    repeat (refine AW_seq ?_)
    refine reg ?_
    refine run 2 ?_
    refine fin [2] [(4, 0)] ?_
    refine AW_ret (ret ?_)
    rw [← hie, ← ho.out]

theorem awake_ih (l0 l1 l2 l3 l4 l5 l6 : List Slt) (i1 e1 i2 e2 i3 : Int) (h0 : ACalls Try.prog 23 [iPV 2] (.tup [.sl (l0.map stPV), iPV 0])) (h1 : ACalls Try.prog 12 [.sl (l0.map stPV), uPV 9] (.tup [.sl (l1.map stPV), iPV i1, iPV e1])) (h2 : ACalls Try.prog 12 [.sl (l1.map stPV), uPV 5] (.tup [.sl (l2.map stPV), iPV i2, iPV e2])) (h3 : ACalls Try.prog 12 [.sl (l2.map stPV), uPV 7] (.tup [.sl (l3.map stPV), iPV i3, iPV 10])) (h4 : ACalls Try.prog 14 [.sl (l2.map stPV), uPV 9] (.tup [.sl (l4.map stPV), iPV 0])) (h5 : ACalls Try.prog 12 [.sl (l4.map stPV), uPV 7] (.tup [.sl (l5.map stPV), iPV 0, iPV 0])) (h6 : ACalls Try.prog 14 [.sl (l5.map stPV), uPV 9] (.tup [.sl (l6.map stPV), iPV 7])) (h7 : ACalls Try.prog 16 [.sl (l5.map stPV), uPV 5] (.tup [iPV 1, bPV true])) (h8 : ACalls Try.prog 17 [.sl (l5.map stPV)] (.sl [uPV 5, uPV 7])) (h9 : ACalls Try.prog 21 [.sl [uPV 5, uPV 7], .sl [uPV 5, uPV 7]] (bPV true)) (h10 : ACalls Try.prog 18 [.sl (l5.map stPV)] (bPV true)) : ACalls Try.prog 9 [] (bPV true) := by
  refine ent Try.func9 ?_
  repeat (refine AW_seq ?_)
  refine reg ?_
  refine run 1 ?_
  refine fin [] [] ?_
  repeat (refine AW_seq ?_)
  refine reg ?_
  refine call (fun _ => h0) ?_
  refine run 2 ?_
  refine run 2 ?_
  refine run 1 ?_
  refine fin [1, 2] [] ?_
  repeat (refine AW_seq ?_)
  refine reg ?_
  refine run 1 ?_
  refine call (fun _ => h1) ?_
  refine run 2 ?_
  refine run 2 ?_
  refine run 1 ?_
  refine fin [1, 2] [] ?_
  repeat (refine AW_seq ?_)
  refine reg ?_
  refine run 1 ?_
  refine call (fun _ => h2) ?_
  refine run 2 ?_
  refine run 2 ?_
  refine run 1 ?_
  refine fin [1, 2] [] ?_
  repeat (refine AW_seq ?_)
  refine reg ?_
  refine run 1 ?_
  refine call (fun _ => h3) ?_
  refine run 2 ?_
  refine run 2 ?_
  refine run 2 ?_
  refine run 1 ?_
  refine fin [1, 2, 5] [] ?_
  repeat (refine AW_seq ?_)
  refine reg ?_
  refine run 1 ?_
  refine call (fun _ => h4) ?_
  refine run 2 ?_
  refine run 2 ?_
  refine run 1 ?_
  refine fin [1, 2, 5, 6] [] ?_
  repeat (refine AW_seq ?_)
  refine reg ?_
  refine run 1 ?_
  refine call (fun _ => h5) ?_
  refine run 2 ?_
  refine run 2 ?_
  refine run 2 ?_
  refine run 1 ?_
  refine fin [1, 2, 5, 6, 7, 8] [] ?_
  repeat (refine AW_seq ?_)
  refine reg ?_
  refine run 1 ?_
  refine call (fun _ => h6) ?_
  refine run 2 ?_
  refine run 2 ?_
  refine run 1 ?_
  refine fin [1, 2, 5, 6, 7, 8, 10] [] ?_
  repeat (refine AW_seq ?_)
  refine reg ?_
  refine run 1 ?_
  refine call (fun _ => h7) ?_
  refine run 2 ?_
  refine run 2 ?_
  refine run 1 ?_
  refine fin [1, 2, 5, 6, 7, 8, 10, 11, 12] [] ?_
  repeat (refine AW_seq ?_)
  refine reg ?_
  refine run 2 ?_
  refine run 2 ?_
  refine run 2 ?_
  refine run 2 ?_
  refine run 2 ?_
  refine run 2 ?_
  refine run 2 ?_
  refine run 2 ?_
  refine run 2 ?_
  refine run 2 ?_
  refine run 2 ?_
  refine run 2 ?_
  refine run 2 ?_
  refine run 2 ?_
  refine run 2 ?_
  refine run 1 ?_
  refine call (fun _ => h8) ?_
  refine run 1 ?_
  refine call (fun _ => h9) ?_
  refine run 2 ?_
  refine run 1 ?_
  refine call (fun _ => h10) ?_
  refine run 2 ?_
  refine fin [0] [] ?_
  refine AW_ret (ret ?_)
  rfl

theorem awake_true : ACalls Try.prog 9 [] (bPV true) := by
  have h0 := new_yes 2 (by decide)
  have h1 := vAdd_any [⟨false, 0⟩, ⟨false, 0⟩] 9 (by decide)
  rw [show addR [⟨false, 0⟩, ⟨false, 0⟩] 9 = ([⟨true, 9⟩, ⟨false, 0⟩], 0, 0) by decide +kernel] at h1
  have h2 := vAdd_any [⟨true, 9⟩, ⟨false, 0⟩] 5 (by decide)
  rw [show addR [⟨true, 9⟩, ⟨false, 0⟩] 5 = ([⟨true, 9⟩, ⟨true, 5⟩], 1, 0) by decide +kernel] at h2
  have h3 := vAdd_any [⟨true, 9⟩, ⟨true, 5⟩] 7 (by decide)
  rw [show addR [⟨true, 9⟩, ⟨true, 5⟩] 7 = ([⟨true, 9⟩, ⟨true, 5⟩], 0, 10) by decide +kernel] at h3
  have h4 := vRem_any [⟨true, 9⟩, ⟨true, 5⟩] 9 (by decide)
  rw [show remR [⟨true, 9⟩, ⟨true, 5⟩] 9 = ([⟨false, 0⟩, ⟨true, 5⟩], 0) by decide +kernel] at h4
  have h5 := vAdd_any [⟨false, 0⟩, ⟨true, 5⟩] 7 (by decide)
  rw [show addR [⟨false, 0⟩, ⟨true, 5⟩] 7 = ([⟨true, 7⟩, ⟨true, 5⟩], 0, 0) by decide +kernel] at h5
  have h6 := vRem_any [⟨true, 7⟩, ⟨true, 5⟩] 9 (by decide)
  rw [show remR [⟨true, 7⟩, ⟨true, 5⟩] 9 = ([⟨true, 7⟩, ⟨true, 5⟩], 7) by decide +kernel] at h6
  have h7 := vFind_ih [⟨true, 7⟩, ⟨true, 5⟩] 5 (some 1) (by decide) (by decide +kernel)
  have h8 := vKeys_any [⟨true, 7⟩, ⟨true, 5⟩] (by decide)
  rw [show keysR [⟨true, 7⟩, ⟨true, 5⟩] = [5, 7] by decide +kernel] at h8
  have h9 := sameU_any [5, 7] [5, 7] (by decide) (by decide)
  have h10 := vRight_any [⟨true, 7⟩, ⟨true, 5⟩] (by decide)
  rw [show decide (RightP [⟨true, 7⟩, ⟨true, 5⟩]) = true by decide +kernel] at h10
  exact awake_ih _ _ _ _ _ _ _ _ _ _ _ _ h0 h1 h2 h3 h4 h5 h6 h7 h8 h9 h10

end Go.Proofs.Ytaoiffinodfcfaa