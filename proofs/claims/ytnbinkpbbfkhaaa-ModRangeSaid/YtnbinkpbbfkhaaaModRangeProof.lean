/-
  For every two numbers of 64 bits the law ModRange returns true: what is answered is from 0 to P - 1, and hangs on what is left over alone.
  Conditions: none.
-/
import Derived.Test.YtnbinkpbbfkhaaaRows
import Derived.WalkKit
import Derived.ProofKit
import Derived.OpenShut
import Derived.ShutString
import Derived.Test.YtnbinkpbbfkhaaaModCalls
import Derived.Lib.Hide
namespace Go.Proofs.Ytnbinkpbbfkhaaa.modRange
open Go.ChangeShapes Go.WideShapes Go.ChangeAt Go.RowKit
open Go.ChangeMaps (open_string shut_string)
open Go.Proofs.Ytnbinkpbbfkhaaa Go.Proofs.Ytnbinkpbbfkhaaa.M
set_option linter.unusedVariables false      -- a walk need not use every 'w<i>' (that an integer argument fits its kind)

theorem own : ownKnob Try.prog.godebug = none := by kernel_rfl

theorem same {x y : Int} (h : x = y) : (x == y) = true := by rw [h]; exact beq_self_eq_true y
theorem unlike {x y : Int} (h : x = y) : (x != y) = false := by rw [h]; exact bne_self_eq_false y
theorem walk (a0 : Int) (a1 : Int) (w0 : (Lit.int .u64 a0).wf = true) (w1 : (Lit.int .u64 a1).wf = true) (w : World) :
    Calls Try.prog 7 #[.int .u64 a0, .int .u64 a1] w fun e w' => e = .returned (.bool true) ∧ Grown w w' := by
  have b0 := bounds_u64 w0
  have b1 := bounds_u64 w1
  have c0 := mP_nonneg a0
  have c1 := mP_nonneg a1
  have d0 := mP_lt a0
  have d1 := mP_lt (a0 + a1)
  have d2 := mP_lt (a0 - a1)
  have d3 := mP_lt (a0 * a1)
  have d4 := invP_le a0
  have h1 := same (mP_add a0 a1)
  have h2 : (mP (mP a0 - mP a1) == mP (a0 - a1)) = true := same (by rw [mP_sub_l, mP_sub_r])
  have h3 := same (mP_mul a0 a1)
  have h4 := same (invP_mP a0)
  go_enter Try.func7, Try.ntmps7
  go_wp2_with (first | (go_at_call 9; refine (of_any _ (by first | omega | exact mP_nonneg _ | exact invP_nonneg _ | exact powP_nonneg _ _) _).mono ?_; rintro e w' ⟨rfl, rfl⟩) | (go_at_call 10; refine (add_any _ _ (by first | omega | exact mP_nonneg _ | exact invP_nonneg _ | exact powP_nonneg _ _) (by first | omega | exact mP_nonneg _ | exact invP_nonneg _ | exact powP_nonneg _ _) _).mono ?_; rintro e w' ⟨rfl, rfl⟩) | (go_at_call 12; refine (sub_any _ _ (by first | omega | exact mP_nonneg _ | exact invP_nonneg _ | exact powP_nonneg _ _) (by first | omega | exact mP_nonneg _ | exact invP_nonneg _ | exact powP_nonneg _ _) _).mono ?_; rintro e w' ⟨rfl, rfl⟩) | (go_at_call 14; refine (mul_any _ _ (by first | omega | exact mP_nonneg _ | exact invP_nonneg _ | exact powP_nonneg _ _) (by first | omega | exact mP_nonneg _ | exact invP_nonneg _ | exact powP_nonneg _ _) _).mono ?_; rintro e w' ⟨rfl, rfl⟩) | (go_at_call 17; refine (inv_any _ (by first | omega | exact mP_nonneg _ | exact invP_nonneg _ | exact powP_nonneg _ _) _).mono ?_; rintro e w' ⟨rfl, rfl⟩) | (go_at_call 16; refine (awake_any _).mono ?_; rintro e w' ⟨rfl, rfl⟩))
  go_loop [8, 27] (fun _ i => ∃ k : Int, 0 ≤ k ∧ k ≤ 5 ∧ i = .int .i64 k) (fun _ i => (5 - intOf i).toNat)
  case atStart => exact ⟨0, by omega, by omega, rfl⟩
  case round =>
    obtain ⟨k, hk0, hk, rfl⟩ := hrel
    have hc : k = 0 ∨ k = 1 ∨ k = 2 ∨ k = 3 ∨ k = 4 ∨ k = 5 := by omega
    clear hk0 hk
    rcases hc with rfl | rfl | rfl | rfl | rfl | rfl
    · go_wp2
      go_round
      case rel => exact ⟨_, by omega, by omega, rfl⟩
      case measure => simp [intOf]
    · go_wp2
      go_round
      case rel => exact ⟨_, by omega, by omega, rfl⟩
      case measure => simp [intOf]
    · go_wp2
      go_round
      case rel => exact ⟨_, by omega, by omega, rfl⟩
      case measure => simp [intOf]
    · go_wp2
      go_round
      case rel => exact ⟨_, by omega, by omega, rfl⟩
      case measure => simp [intOf]
    · go_wp2
      go_round
      case rel => exact ⟨_, by omega, by omega, rfl⟩
      case measure => simp [intOf]
    · go_wp2_with (first | (go_at_call 9; refine (of_any _ (by first | omega | exact mP_nonneg _ | exact invP_nonneg _ | exact powP_nonneg _ _) _).mono ?_; rintro e w' ⟨rfl, rfl⟩) | (go_at_call 10; refine (add_any _ _ (by first | omega | exact mP_nonneg _ | exact invP_nonneg _ | exact powP_nonneg _ _) (by first | omega | exact mP_nonneg _ | exact invP_nonneg _ | exact powP_nonneg _ _) _).mono ?_; rintro e w' ⟨rfl, rfl⟩) | (go_at_call 12; refine (sub_any _ _ (by first | omega | exact mP_nonneg _ | exact invP_nonneg _ | exact powP_nonneg _ _) (by first | omega | exact mP_nonneg _ | exact invP_nonneg _ | exact powP_nonneg _ _) _).mono ?_; rintro e w' ⟨rfl, rfl⟩) | (go_at_call 14; refine (mul_any _ _ (by first | omega | exact mP_nonneg _ | exact invP_nonneg _ | exact powP_nonneg _ _) (by first | omega | exact mP_nonneg _ | exact invP_nonneg _ | exact powP_nonneg _ _) _).mono ?_; rintro e w' ⟨rfl, rfl⟩) | (go_at_call 17; refine (inv_any _ (by first | omega | exact mP_nonneg _ | exact invP_nonneg _ | exact powP_nonneg _ _) _).mono ?_; rintro e w' ⟨rfl, rfl⟩) | (go_at_call 16; refine (awake_any _).mono ?_; rintro e w' ⟨rfl, rfl⟩))
      go_ret
      exact ⟨rfl, by repeat (first | exact Grown.refl _ | apply Grown.drew | apply Grown.alloc)⟩

/-! ### THE ROW's STEP: WRITTEN OUT: LEAVE IT -/
set_option maxRecDepth 100000 in
theorem lifted (os : Os) (started : os.Started) (H : Type) (enc : TypeId × Value → H) :
    ReturnsInHanded {} Try.checked os 7 .any (Rows.modRangeSpec.pre6 enc Try.prog Try.f7 Rows.modRangeRow.domain false) (Rows.modRangeSpec.post enc Try.prog Try.f7 false true false false) := by
  refine returnsInHanded_of_change (C := Try.checked) own started (by kernel_rfl) Try.func7
    (ChangeSpec.witness6 (enc := enc) (C := Try.checked) false ⟨#[], #[.int .u64 0, .int .u64 0], []⟩ 8 (by kernel_rfl) (by kernel_rfl) (by kernel_rfl) (by kernel_rfl)) ?_
  intro W base args ds gs before hval0 hW hcnd _
  have hval : ∀ (j : Nat) t v, Try.f7.params[j]? = some t → args[j]? = some v → Value.okWide Try.prog W .any base t v := hval0
  have hW' := hW
  obtain ⟨p, q, hA0, hV, rfl, hfz, hnd⟩ := hW
  have hA : DataW.TrodAll enc Try.prog W 0 (fun _ => true) true Try.f7.params.toList args.toList ds p := hA0
  rw [Try.params7] at hA hval
  obtain ⟨v0, vs0, d0, ds0, p0, q0, hargs, rfl, rfl, h0, r0⟩ := trodAll_cons hA
  obtain ⟨v1, vs1, d1, ds1, p1, q1, rfl, rfl, rfl, h1, r1⟩ := trodAll_cons r0
  obtain ⟨rfl, rfl, rfl⟩ := trodAll_nil r1
  obtain rfl : args = #[v0, v1] := by cases args; simp_all
  obtain ⟨rfl, rfl⟩ := trodVars_none hV
  obtain ⟨a0, rfl, rfl, rfl, w0⟩ := open_int Try.underlying22 (hval 0 22 v0 rfl rfl) h0
  obtain ⟨a1, rfl, rfl, rfl, w1⟩ := open_int Try.underlying22 (hval 1 22 v1 rfl rfl) h1
  clear hA0 hval0
  simp only [List.append_nil] at hW'
  refine (walk a0 a1 w0 w1 W).mono fun e W' ⟨he, hg⟩ => ?_
  subst he
  exact ⟨_, rfl, post_of_same (pa := []) (pv := []) hW' (fun _ _ _ => (trodAll_cons_mk (shut_bool Try.underlying4 _) trodAll_mk0)) (fun sp _ => (trodAll_cons_mk (shut_int Try.underlying22 w0) (trodAll_cons_mk (shut_int Try.underlying22 w1) trodAll_mk0))) (fun _ _ => rfl) rfl
    (hg.frame _) hg.2.1 (ok_one (by kernel_rfl) rfl (okWide_bool_mk Try.underlying4 _))⟩

theorem over : Rows.modRangeRow.holds Try.pinned (OpenSpec.ofChange Rows.modRangeSpec) :=
  OpenClaim.holds_of_wide 7 Try.f7 rfl rfl rfl rfl rfl rfl rfl ⟨rfl, rfl, rfl, rfl, rfl⟩ rfl rfl rfl rfl rfl (by kernel_rfl) Try.func7 (by kernel_rfl)
    (of_decide_eq_true (by kernel_rfl)) (by unfold Func.isWrapper; first | (rw [if_pos (by decide +kernel)]; kernel_rfl) | (rw [if_neg (by decide +kernel)]; exact ⟨rfl, rfl⟩))
    (fun os started H enc _ => lifted os started H enc)

/-- ████ THE STATEMENT ████ -/
theorem proved : Rows.ModRangeSaid :=
  over
#print axioms proved
end Go.Proofs.Ytnbinkpbbfkhaaa.modRange
