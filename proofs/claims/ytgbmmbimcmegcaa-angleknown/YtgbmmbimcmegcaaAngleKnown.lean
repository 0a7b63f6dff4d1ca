/-
  'known', and AngleKnown: answers true and leaves memory as it was, for every world; no condition.
-/
import Derived.Test.YtgbmmbimcmegcaaAtan
import Derived.ProofKit
import Derived.OpenShut
namespace Go.Proofs.Ytgbmmbimcmegcaa
open Go.ChangeShapes Go.WideShapes Go.ChangeAt Go.RowKit

theorem known_any (w : World) : Calls Try.prog 7 #[] w fun e w' => e = .returned (.bool true) ∧ w' = w := by
  go_enter Try.func7, Try.ntmps7
  go_wp2_with fail
  refine (sin_any 16384 _).mono ?_
  rintro e w' ⟨rfl, rfl⟩
  rw [show sinv 16384 = 65536 by decide]
  go_wp2_with fail
  refine (cos_any 32768 _).mono ?_
  rintro e w' ⟨rfl, rfl⟩
  rw [show cosv 32768 = -65536 by decide]
  go_wp2_with fail
  refine (atan_any 1 1 _).mono ?_
  rintro e w' ⟨rfl, rfl⟩
  rw [show atanv 1 1 = 8192 by decide]
  go_wp2
  go_ret
  exact ⟨rfl, rfl⟩

set_option maxRecDepth 100000 in
set_option maxHeartbeats 1600000 in
theorem angleKnown_walk (w : World) : Calls Try.prog 3 #[] w fun e w' => e = .returned (.bool true) ∧ w' = w := by
  go_enter Try.func3, Try.ntmps3
  simp only [List.append_eq, List.cons_append, List.nil_append] at *
  go_wp2_with fail
  refine (known_any _).mono ?_
  rintro e w' ⟨rfl, rfl⟩
  go_wp2_with fail
  refine (norm_any (-1) _).mono ?_
  rintro e w' ⟨rfl, rfl⟩
  rw [show normv (-1) = 65535 by decide]
  go_wp2_with fail
  refine (norm_any 65536 _).mono ?_
  rintro e w' ⟨rfl, rfl⟩
  rw [show normv 65536 = 0 by decide]
  go_wp2_with fail
  refine (norm_any (-9223372036854775808) _).mono ?_
  rintro e w' ⟨rfl, rfl⟩
  rw [show normv (-9223372036854775808) = 0 by decide]
  go_wp2_with fail
  refine (sin_any 0 _).mono ?_
  rintro e w' ⟨rfl, rfl⟩
  rw [show sinv 0 = 0 by decide]
  go_wp2_with fail
  refine (sin_any 32768 _).mono ?_
  rintro e w' ⟨rfl, rfl⟩
  rw [show sinv 32768 = 0 by decide]
  go_wp2_with fail
  refine (sin_any 49152 _).mono ?_
  rintro e w' ⟨rfl, rfl⟩
  rw [show sinv 49152 = -65536 by decide]
  go_wp2_with fail
  refine (cos_any 0 _).mono ?_
  rintro e w' ⟨rfl, rfl⟩
  rw [show cosv 0 = 65536 by decide]
  go_wp2_with fail
  refine (cos_any 16384 _).mono ?_
  rintro e w' ⟨rfl, rfl⟩
  rw [show cosv 16384 = 0 by decide]
  go_wp2_with fail
  refine (tan_any 16384 _).mono ?_
  rintro e w' ⟨rfl, rfl⟩
  rw [show tanv 16384 = 2147483647 by decide]
  go_wp2_with fail
  refine (tan_any 0 _).mono ?_
  rintro e w' ⟨rfl, rfl⟩
  rw [show tanv 0 = 0 by decide]
  go_wp2_with fail
  refine (atan_any 0 0 _).mono ?_
  rintro e w' ⟨rfl, rfl⟩
  rw [show atanv 0 0 = 0 by decide]
  go_wp2_with fail
  refine (atan_any 0 5 _).mono ?_
  rintro e w' ⟨rfl, rfl⟩
  rw [show atanv 0 5 = 0 by decide]
  go_wp2_with fail
  refine (atan_any 5 0 _).mono ?_
  rintro e w' ⟨rfl, rfl⟩
  rw [show atanv 5 0 = 16384 by decide]
  go_wp2_with fail
  refine (atan_any 0 (-5) _).mono ?_
  rintro e w' ⟨rfl, rfl⟩
  rw [show atanv 0 (-5) = 32768 by decide]
  go_wp2_with fail
  refine (atan_any (-5) 0 _).mono ?_
  rintro e w' ⟨rfl, rfl⟩
  rw [show atanv (-5) 0 = 49152 by decide]
  go_wp2_with fail
  refine (atan_any (-1) (-1) _).mono ?_
  rintro e w' ⟨rfl, rfl⟩
  rw [show atanv (-1) (-1) = 40960 by decide]
  go_wp2_with fail
  refine (atan_any 1 (-1) _).mono ?_
  rintro e w' ⟨rfl, rfl⟩
  rw [show atanv 1 (-1) = 24576 by decide]
  go_wp2_with fail
  refine (atan_any (-1) 1 _).mono ?_
  rintro e w' ⟨rfl, rfl⟩
  rw [show atanv (-1) 1 = 57344 by decide]
  go_wp2
  go_ret
  exact ⟨rfl, rfl⟩

theorem own : ownKnob Try.prog.godebug = none := by kernel_rfl

set_option maxRecDepth 100000 in
theorem angleKnown_lifted (os : Os) (started : os.Started) (H : Type) (enc : TypeId × Value → H) :
    ReturnsInHanded {} Try.checked os 3 .any (Rows.angleKnownSpec.pre6 enc Try.prog Try.f3 Rows.angleKnownRow.domain false) (Rows.angleKnownSpec.post enc Try.prog Try.f3 false true false false) := by
  refine returnsInHanded_of_change (C := Try.checked) own started (by kernel_rfl) Try.func3
    (ChangeSpec.witness6 (enc := enc) (C := Try.checked) false ⟨#[], #[], []⟩ 8 (by kernel_rfl) (by kernel_rfl) (by kernel_rfl) (by kernel_rfl)) ?_
  intro W base args ds gs before hval0 hW hcnd _
  have hW' := hW
  obtain ⟨p, q, hA0, hV, rfl, hfz, hnd⟩ := hW
  have hA : DataW.TrodAll enc Try.prog W 0 (fun _ => true) true Try.f3.params.toList args.toList ds p := hA0
  rw [Try.params3] at hA
  obtain ⟨rfl, rfl, rfl⟩ := trodAll_none hA
  obtain ⟨rfl, rfl⟩ := trodVars_none hV
  clear hA0 hval0
  refine (angleKnown_walk W).mono fun e W' ⟨he, hw⟩ => ?_
  subst he
  subst hw
  exact ⟨_, rfl, _, _, _, [], [], [], hW', trodAll_mk1 (shut_bool Try.underlying4 _), trodAll_mk0, rfl, (Below.refl _ _).frame _, fun h => by cases h⟩

theorem angleKnown_holds : Rows.AngleKnownSaid :=
  OpenClaim.holds_of_wide 3 Try.f3 rfl rfl rfl rfl rfl rfl rfl ⟨rfl, rfl, rfl, rfl, rfl⟩ rfl rfl rfl rfl rfl (by kernel_rfl) Try.func3 (by kernel_rfl)
    (of_decide_eq_true (by kernel_rfl)) (by unfold Func.isWrapper; first | (rw [if_pos (by decide +kernel)]; kernel_rfl) | (rw [if_neg (by decide +kernel)]; exact ⟨rfl, rfl⟩))
    (fun os started H enc _ => angleKnown_lifted os started H enc)
#print axioms angleKnown_holds
end Go.Proofs.Ytgbmmbimcmegcaa
