/-
  'known', and FixedKnown: answers true and leaves memory as it was, for every world; no condition.
-/
import Derived.Test.YtaceobpgopdejaaFix
import Derived.Test.YtaceobpgopdejaaRoot
import Derived.ProofKit
import Derived.OpenShut
namespace Go.Proofs.Ytaceobpgopdejaa
open Go.ChangeShapes Go.WideShapes Go.ChangeAt Go.RowKit

theorem known_any (w : World) : Calls Try.prog 7 #[] w fun e w' => e = .returned (.bool true) ∧ w' = w := by
  go_enter Try.func7, Try.ntmps7
  go_wp2_with fail
  refine (mul_any (98304) (98304) _).mono ?_
  rintro e w' ⟨rfl, rfl⟩
  rw [show mulv 98304 98304 = 147456 by decide]
  go_wp2_with fail
  refine (div_any (-65536) (196608) _).mono ?_
  rintro e w' ⟨rfl, rfl⟩
  rw [show divv (-65536) 196608 = -21846 by decide]
  go_wp2
  go_ret
  exact ⟨rfl, rfl⟩

set_option maxRecDepth 100000 in
set_option maxHeartbeats 1600000 in
theorem fixedKnown_walk (w : World) : Calls Try.prog 3 #[] w fun e w' => e = .returned (.bool true) ∧ w' = w := by
  go_enter Try.func3, Try.ntmps3
  simp only [List.append_eq, List.cons_append, List.nil_append] at *
  go_wp2_with fail
  refine (known_any  _).mono ?_
  rintro e w' ⟨rfl, rfl⟩
  go_wp2_with fail
  refine (clip_any (1099511627776) _).mono ?_
  rintro e w' ⟨rfl, rfl⟩
  rw [show clip 1099511627776 = 2147483647 by decide]
  go_wp2_with fail
  refine (clip_any (-9223372036854775808) _).mono ?_
  rintro e w' ⟨rfl, rfl⟩
  rw [show clip (-9223372036854775808) = -2147483647 by decide]
  go_wp2_with fail
  refine (mul_any (2147483647) (2147483647) _).mono ?_
  rintro e w' ⟨rfl, rfl⟩
  rw [show mulv 2147483647 2147483647 = 2147483647 by decide]
  go_wp2_with fail
  refine (mul_any (-2147483647) (2147483647) _).mono ?_
  rintro e w' ⟨rfl, rfl⟩
  rw [show mulv (-2147483647) 2147483647 = -2147483647 by decide]
  go_wp2_with fail
  refine (mul_any (-1) (32768) _).mono ?_
  rintro e w' ⟨rfl, rfl⟩
  rw [show mulv (-1) 32768 = 0 by decide]
  go_wp2_with fail
  refine (mul_any (1) (32768) _).mono ?_
  rintro e w' ⟨rfl, rfl⟩
  rw [show mulv 1 32768 = 1 by decide]
  go_wp2_with fail
  refine (div_any (5) (0) _).mono ?_
  rintro e w' ⟨rfl, rfl⟩
  rw [show divv 5 0 = 2147483647 by decide]
  go_wp2_with fail
  refine (div_any (-5) (0) _).mono ?_
  rintro e w' ⟨rfl, rfl⟩
  rw [show divv (-5) 0 = -2147483647 by decide]
  go_wp2_with fail
  refine (div_any (0) (0) _).mono ?_
  rintro e w' ⟨rfl, rfl⟩
  rw [show divv 0 0 = 0 by decide]
  go_wp2_with fail
  refine (round_any (32767) _).mono ?_
  rintro e w' ⟨rfl, rfl⟩
  rw [show roundv 32767 = 0 by decide]
  go_wp2_with fail
  refine (round_any (32768) _).mono ?_
  rintro e w' ⟨rfl, rfl⟩
  rw [show roundv 32768 = 1 by decide]
  go_wp2_with fail
  refine (round_any (-32769) _).mono ?_
  rintro e w' ⟨rfl, rfl⟩
  rw [show roundv (-32769) = -1 by decide]
  go_wp2_with fail
  refine (whole_any (3) _).mono ?_
  rintro e w' ⟨rfl, rfl⟩
  rw [show wholev 3 = 196608 by decide]
  go_wp2_with fail
  refine (whole_any (1099511627776) _).mono ?_
  rintro e w' ⟨rfl, rfl⟩
  rw [show wholev 1099511627776 = 2147483647 by decide]
  go_wp2_with fail
  refine (from14_any (16384) _).mono ?_
  rintro e w' ⟨rfl, rfl⟩
  rw [show from14v 16384 = 65536 by decide]
  go_wp2_with fail
  refine (lerp_any (0) (100) (32768) _).mono ?_
  rintro e w' ⟨rfl, rfl⟩
  rw [show lerpv 0 100 32768 = 50 by decide]
  go_wp2_with fail
  refine (ratio_any (1) (3) _).mono ?_
  rintro e w' ⟨rfl, rfl⟩
  rw [show ratiov 1 3 = 21845 by decide]
  go_wp2_with fail
  refine (ratio_any (-1) (3) _).mono ?_
  rintro e w' ⟨rfl, rfl⟩
  rw [show ratiov (-1) 3 = -21846 by decide]
  go_wp2_with fail
  refine (ratio_any (9) (0) _).mono ?_
  rintro e w' ⟨rfl, rfl⟩
  rw [show ratiov 9 0 = 0 by decide]
  go_wp2_with fail
  refine (root_any (15) (by omega) _).mono ?_
  rintro e w' ⟨r, hr, rfl, rfl⟩
  obtain rfl : r = 3 := Int.ofNat.inj (root_uniq hr (show IsRoot (15) ((3 : Nat) : Int) by unfold IsRoot; decide))
  clear hr
  go_wp2_with fail
  refine (root_any (16) (by omega) _).mono ?_
  rintro e w' ⟨r, hr, rfl, rfl⟩
  obtain rfl : r = 4 := Int.ofNat.inj (root_uniq hr (show IsRoot (16) ((4 : Nat) : Int) by unfold IsRoot; decide))
  clear hr
  go_wp2_with fail
  refine (root_any (-4) (by omega) _).mono ?_
  rintro e w' ⟨r, hr, rfl, rfl⟩
  obtain rfl : r = 0 := Int.ofNat.inj (root_uniq hr (show IsRoot (-4) ((0 : Nat) : Int) by unfold IsRoot; decide))
  clear hr
  go_wp2_with fail
  refine (root_any (9223372036854775807) (by omega) _).mono ?_
  rintro e w' ⟨r, hr, rfl, rfl⟩
  obtain rfl : r = 3037000499 := Int.ofNat.inj (root_uniq hr (show IsRoot (9223372036854775807) ((3037000499 : Nat) : Int) by unfold IsRoot; decide))
  clear hr
  go_wp2
  go_ret
  exact ⟨rfl, rfl⟩

theorem own : ownKnob Try.prog.godebug = none := by kernel_rfl

set_option maxRecDepth 100000 in
theorem fixedKnown_lifted (os : Os) (started : os.Started) (H : Type) (enc : TypeId × Value → H) :
    ReturnsInHanded {} Try.checked os 3 .any (Rows.fixedKnownSpec.pre6 enc Try.prog Try.f3 Rows.fixedKnownRow.domain false) (Rows.fixedKnownSpec.post enc Try.prog Try.f3 false true false false) := by
  refine returnsInHanded_of_change (C := Try.checked) own started (by kernel_rfl) Try.func3
    (ChangeSpec.witness6 (enc := enc) (C := Try.checked) false ⟨#[], #[], []⟩ 8 (by kernel_rfl) (by kernel_rfl) (by kernel_rfl) (by kernel_rfl)) ?_
  intro W base args ds gs before hval0 hW hcnd _
  have hW' := hW
  obtain ⟨p, q, hA0, hV, rfl, hfz, hnd⟩ := hW
  have hA : DataW.TrodAll enc Try.prog W 0 (fun _ => true) true Try.f3.params.toList args.toList ds p := hA0
  rw [Try.params3] at hA
  obtain ⟨rfl, rfl, rfl⟩ := trodAll_none hA
  obtain ⟨rfl, rfl⟩ := trodVars_none hV
  clear hA0 hval0
  refine (fixedKnown_walk W).mono fun e W' ⟨he, hw⟩ => ?_
  subst he
  subst hw
  exact ⟨_, rfl, _, _, _, [], [], [], hW', trodAll_mk1 (shut_bool Try.underlying4 _), trodAll_mk0, rfl, (Below.refl _ _).frame _, fun h => by cases h⟩

theorem fixedKnown_holds : Rows.FixedKnownSaid :=
  OpenClaim.holds_of_wide 3 Try.f3 rfl rfl rfl rfl rfl rfl rfl ⟨rfl, rfl, rfl, rfl, rfl⟩ rfl rfl rfl rfl rfl (by kernel_rfl) Try.func3 (by kernel_rfl)
    (of_decide_eq_true (by kernel_rfl)) (by unfold Func.isWrapper; first | (rw [if_pos (by decide +kernel)]; kernel_rfl) | (rw [if_neg (by decide +kernel)]; exact ⟨rfl, rfl⟩))
    (fun os started H enc _ => fixedKnown_lifted os started H enc)
#print axioms fixedKnown_holds
end Go.Proofs.Ytaceobpgopdejaa
