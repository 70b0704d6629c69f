/-
  For every two numbers of 64 bits the law ModBack returns true: what is added is taken away again, and what a number is multiplied by is divided by it, where that leaves something over modulo P; else product and inverse are 0.
  Conditions: none.
-/
import Derived.Test.YtnbinkpbbfkhaaaRows
import Derived.WalkKit
import Derived.ProofKit
import Derived.OpenShut
import Derived.ShutString
import Derived.Test.YtnbinkpbbfkhaaaModCalls
import Derived.Lib.Hide
namespace Go.Proofs.Ytnbinkpbbfkhaaa.modBack
open Go.ChangeShapes Go.WideShapes Go.ChangeAt Go.RowKit
open Go.ChangeMaps (open_string shut_string)
open Go.Proofs.Ytnbinkpbbfkhaaa Go.Proofs.Ytnbinkpbbfkhaaa.M
set_option linter.unusedVariables false      -- a walk need not use every 'w<i>' (that an integer argument fits its kind)

theorem own : ownKnob Try.prog.godebug = none := by kernel_rfl

theorem same {x y : Int} (h : x = y) : (x == y) = true := by rw [h]; exact beq_self_eq_true y
theorem unlike {x y : Int} (h : x = y) : (x != y) = false := by rw [h]; exact bne_self_eq_false y
theorem walk (a0 : Int) (a1 : Int) (w0 : (Lit.int .u64 a0).wf = true) (w1 : (Lit.int .u64 a1).wf = true) (w : World) :
    Calls Try.prog 5 #[.int .u64 a0, .int .u64 a1] w fun e w' => e = .returned (.bool true) ∧ Grown w w' := by
  have b0 := bounds_u64 w0
  have b1 := bounds_u64 w1
  have h1 := unlike (law_back_sub a0 a1)
  have h2 := unlike (law_back_add a0 a1)
  by_cases hb : mP a1 = 0
  · have h3 : (mP a1 == 0) = true := same hb
    have h4 := same (law_mul_zero a0 a1 hb)
    have h5 := same (invP_of_zero a1 hb)
    clear hb
    go_enter Try.func5, Try.ntmps5
    go_wp2_with (first | (go_at_call 9; refine (of_any _ (by first | omega | exact mP_nonneg _ | exact invP_nonneg _ | exact powP_nonneg _ _) _).mono ?_; rintro e w' ⟨rfl, rfl⟩) | (go_at_call 10; refine (add_any _ _ (by first | omega | exact mP_nonneg _ | exact invP_nonneg _ | exact powP_nonneg _ _) (by first | omega | exact mP_nonneg _ | exact invP_nonneg _ | exact powP_nonneg _ _) _).mono ?_; rintro e w' ⟨rfl, rfl⟩) | (go_at_call 12; refine (sub_any _ _ (by first | omega | exact mP_nonneg _ | exact invP_nonneg _ | exact powP_nonneg _ _) (by first | omega | exact mP_nonneg _ | exact invP_nonneg _ | exact powP_nonneg _ _) _).mono ?_; rintro e w' ⟨rfl, rfl⟩) | (go_at_call 14; refine (mul_any _ _ (by first | omega | exact mP_nonneg _ | exact invP_nonneg _ | exact powP_nonneg _ _) (by first | omega | exact mP_nonneg _ | exact invP_nonneg _ | exact powP_nonneg _ _) _).mono ?_; rintro e w' ⟨rfl, rfl⟩) | (go_at_call 17; refine (inv_any _ (by first | omega | exact mP_nonneg _ | exact invP_nonneg _ | exact powP_nonneg _ _) _).mono ?_; rintro e w' ⟨rfl, rfl⟩) | (go_at_call 16; refine (awake_any _).mono ?_; rintro e w' ⟨rfl, rfl⟩))
    go_ret
    exact ⟨rfl, by repeat (first | exact Grown.refl _ | apply Grown.drew | apply Grown.alloc)⟩
  · have h3 : (mP a1 == 0) = false := by simpa using hb
    have h4 := same (law_div a0 a1 b1.1 hb)
    have h5 := same (invP_invP a1 b1.1 hb)
    clear hb
    go_enter Try.func5, Try.ntmps5
    go_wp2_with (first | (go_at_call 9; refine (of_any _ (by first | omega | exact mP_nonneg _ | exact invP_nonneg _ | exact powP_nonneg _ _) _).mono ?_; rintro e w' ⟨rfl, rfl⟩) | (go_at_call 10; refine (add_any _ _ (by first | omega | exact mP_nonneg _ | exact invP_nonneg _ | exact powP_nonneg _ _) (by first | omega | exact mP_nonneg _ | exact invP_nonneg _ | exact powP_nonneg _ _) _).mono ?_; rintro e w' ⟨rfl, rfl⟩) | (go_at_call 12; refine (sub_any _ _ (by first | omega | exact mP_nonneg _ | exact invP_nonneg _ | exact powP_nonneg _ _) (by first | omega | exact mP_nonneg _ | exact invP_nonneg _ | exact powP_nonneg _ _) _).mono ?_; rintro e w' ⟨rfl, rfl⟩) | (go_at_call 14; refine (mul_any _ _ (by first | omega | exact mP_nonneg _ | exact invP_nonneg _ | exact powP_nonneg _ _) (by first | omega | exact mP_nonneg _ | exact invP_nonneg _ | exact powP_nonneg _ _) _).mono ?_; rintro e w' ⟨rfl, rfl⟩) | (go_at_call 17; refine (inv_any _ (by first | omega | exact mP_nonneg _ | exact invP_nonneg _ | exact powP_nonneg _ _) _).mono ?_; rintro e w' ⟨rfl, rfl⟩) | (go_at_call 16; refine (awake_any _).mono ?_; rintro e w' ⟨rfl, rfl⟩))
    go_ret
    exact ⟨rfl, by repeat (first | exact Grown.refl _ | apply Grown.drew | apply Grown.alloc)⟩

/-! ### THE ROW's STEP: WRITTEN OUT: LEAVE IT -/
set_option maxRecDepth 100000 in
theorem lifted (os : Os) (started : os.Started) (H : Type) (enc : TypeId × Value → H) :
    ReturnsInHanded {} Try.checked os 5 .any (Rows.modBackSpec.pre6 enc Try.prog Try.f5 Rows.modBackRow.domain false) (Rows.modBackSpec.post enc Try.prog Try.f5 false true false false) := by
  refine returnsInHanded_of_change (C := Try.checked) own started (by kernel_rfl) Try.func5
    (ChangeSpec.witness6 (enc := enc) (C := Try.checked) false ⟨#[], #[.int .u64 0, .int .u64 0], []⟩ 8 (by kernel_rfl) (by kernel_rfl) (by kernel_rfl) (by kernel_rfl)) ?_
  intro W base args ds gs before hval0 hW hcnd _
  have hval : ∀ (j : Nat) t v, Try.f5.params[j]? = some t → args[j]? = some v → Value.okWide Try.prog W .any base t v := hval0
  have hW' := hW
  obtain ⟨p, q, hA0, hV, rfl, hfz, hnd⟩ := hW
  have hA : DataW.TrodAll enc Try.prog W 0 (fun _ => true) true Try.f5.params.toList args.toList ds p := hA0
  rw [Try.params5] at hA hval
  obtain ⟨v0, vs0, d0, ds0, p0, q0, hargs, rfl, rfl, h0, r0⟩ := trodAll_cons hA
  obtain ⟨v1, vs1, d1, ds1, p1, q1, rfl, rfl, rfl, h1, r1⟩ := trodAll_cons r0
  obtain ⟨rfl, rfl, rfl⟩ := trodAll_nil r1
  obtain rfl : args = #[v0, v1] := by cases args; simp_all
  obtain ⟨rfl, rfl⟩ := trodVars_none hV
  obtain ⟨a0, rfl, rfl, rfl, w0⟩ := open_int Try.underlying22 (hval 0 22 v0 rfl rfl) h0
  obtain ⟨a1, rfl, rfl, rfl, w1⟩ := open_int Try.underlying22 (hval 1 22 v1 rfl rfl) h1
  clear hA0 hval0
  simp only [List.append_nil] at hW'
  refine (walk a0 a1 w0 w1 W).mono fun e W' ⟨he, hg⟩ => ?_
  subst he
  exact ⟨_, rfl, post_of_same (pa := []) (pv := []) hW' (fun _ _ _ => (trodAll_cons_mk (shut_bool Try.underlying4 _) trodAll_mk0)) (fun sp _ => (trodAll_cons_mk (shut_int Try.underlying22 w0) (trodAll_cons_mk (shut_int Try.underlying22 w1) trodAll_mk0))) (fun _ _ => rfl) rfl
    (hg.frame _) hg.2.1 (ok_one (by kernel_rfl) rfl (okWide_bool_mk Try.underlying4 _))⟩

theorem over : Rows.modBackRow.holds Try.pinned (OpenSpec.ofChange Rows.modBackSpec) :=
  OpenClaim.holds_of_wide 5 Try.f5 rfl rfl rfl rfl rfl rfl rfl ⟨rfl, rfl, rfl, rfl, rfl⟩ rfl rfl rfl rfl rfl (by kernel_rfl) Try.func5 (by kernel_rfl)
    (of_decide_eq_true (by kernel_rfl)) (by unfold Func.isWrapper; first | (rw [if_pos (by decide +kernel)]; kernel_rfl) | (rw [if_neg (by decide +kernel)]; exact ⟨rfl, rfl⟩))
    (fun os started H enc _ => lifted os started H enc)

/-- ████ THE STATEMENT ████ -/
theorem proved : Rows.ModBackSaid :=
  over
#print axioms proved
end Go.Proofs.Ytnbinkpbbfkhaaa.modBack
