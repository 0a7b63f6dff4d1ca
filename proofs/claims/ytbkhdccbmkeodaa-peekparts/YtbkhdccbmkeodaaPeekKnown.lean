/-
  Proved: PeekKnown answers true and leaves memory as it was, for every world; no condition.
-/
import Derived.Test.YtbkhdccbmkeodaaKnown
import Derived.ProofKit
import Derived.OpenShut
namespace Go.Proofs.Ytbkhdccbmkeodaa
open Go.ChangeShapes Go.WideShapes Go.ChangeAt Go.RowKit

set_option maxRecDepth 100000 in
set_option maxHeartbeats 1600000 in
theorem peekKnown_walk (w : World) : Calls Try.prog 3 #[] w fun e w' => e = .returned (.bool true) ∧ Below w.heap.size w w' := by
  have hnot : ∀ (x : Bool) (w : World), (Op.unary .not (.bool x)).run Try.prog w = .ok (.bool (!x)) w := fun _ _ => rfl
  obtain ⟨W1, hW1⟩ : ∃ W1, W1 = w.alloc (.cells #[.int .u8 128, .int .u8 0, .int .u8 0, .int .u8 0, .int .u8 7] 5) := ⟨_, rfl⟩
  have l1 : Lies W1 (some ⟨w.heap.size, 0, none⟩) 5 5 (row [128, 0, 0, 0, 7]) := lies_row [128, 0, 0, 0, 7] (by decide) (by decide) (by rw [hW1]; exact blk_new w _)
  have b1 : Below w.heap.size w W1 := by rw [hW1]; exact (Below.refl _ _).alloc (Nat.le_refl _) _
  have HW1 : Hid (W1 = w.alloc (.cells #[.int .u8 128, .int .u8 0, .int .u8 0, .int .u8 0, .int .u8 7] 5)) := hW1
  clear hW1
  go_enter Try.func3, Try.ntmps3
  go_wp2_with fail
  rw [← HW1.out]
  refine (i32_any _ _ _ _ _ _ l1 (by decide)).mono ?_
  rintro e w' ⟨rfl, rfl⟩
  rw [show sgn (row [128, 0, 0, 0, 7]) 5 0 4 = -2147483648 by decide, show there 5 0 4 = true by decide]
  go_wp2_with fail
  refine (u24_any _ _ _ _ _ _ l1 (by decide)).mono ?_
  rintro e w' ⟨rfl, rfl⟩
  rw [show tell (row [128, 0, 0, 0, 7]) 5 2 3 = 7 by decide, show there 5 2 3 = true by decide]
  go_wp2_with fail
  refine (u8_any _ _ _ _ _ _ l1 (by decide)).mono ?_
  rintro e w' ⟨rfl, rfl⟩
  rw [show there 5 5 1 = false by decide]
  go_wp2_with fail
  refine (u8_any _ _ _ _ _ _ l1 (by decide)).mono ?_
  rintro e w' ⟨rfl, rfl⟩
  rw [show there 5 (-1) 1 = false by decide]
  go_wp2_with fail
  refine (u16_any _ _ _ _ _ _ l1 (by decide)).mono ?_
  rintro e w' ⟨rfl, rfl⟩
  rw [show there 5 9223372036854775807 2 = false by decide]
  go_wp2_with fail
  refine (part_any _ _ _ _ _ _ _ l1 (by decide)).mono ?_
  rintro e w2 ⟨a2, c2, rfl, _, b2⟩
  rw [show there 5 5 0 = true by decide, show plen 5 5 0 = 0 by decide]
  have l2 := l1.below b2 (Nat.le_refl _)
  have B2 := b1.trans (b2.mono b1.size)
  clear l1 b1 b2 HW1
  go_wp2_with fail
  refine (part_any _ _ _ _ _ _ _ l2 (by decide)).mono ?_
  rintro e w3 ⟨a3, c3, rfl, _, b3⟩
  rw [show there 5 2 (-1) = false by decide]
  have l3 := l2.below b3 (Nat.le_refl _)
  have B3 := B2.trans (b3.mono B2.size)
  clear l2 B2 b3
  go_wp2_with fail
  refine (part_any _ _ _ _ _ _ _ l3 (by decide)).mono ?_
  rintro e w4 ⟨a4, c4, rfl, _, b4⟩
  rw [show there 5 2 9223372036854775807 = false by decide]
  have l4 := l3.below b4 (Nat.le_refl _)
  have B4 := B3.trans (b4.mono B3.size)
  clear l3 B3 b4
  go_wp2_with fail
  refine (from_any _ _ _ _ _ _ l4 (by decide)).mono ?_
  rintro e w5 ⟨a5, c5, rfl, k5, b5⟩
  rw [show fromOk 5 4 = true by decide, show flen 5 4 = 1 by decide]
  rw [show flen 5 4 = 1 by decide] at k5
  have l5 := l4.below b5 (Nat.le_refl _)
  have B5 := B4.trans (b5.mono B4.size)
  clear l4 B4 b5
  go_wp2_with fail
  refine (from_any _ _ _ _ _ _ l5 (by decide)).mono ?_
  rintro e w6 ⟨a6, c6, rfl, _, b6⟩
  rw [show fromOk 5 6 = false by decide]
  have l6 := l5.below b6 (Nat.le_refl _)
  have k6 := k5.below b6 (Nat.le_refl _)
  have B6 := B5.trans (b6.mono B5.size)
  clear l5 k5 B5 b6
  go_wp2_with fail
  refine (u32_any _ _ _ _ _ _ l6 (by decide)).mono ?_
  rintro e w' ⟨rfl, rfl⟩
  rw [show there 5 2 4 = false by decide]
  go_wp2_with fail
  refine (known_any _).mono ?_
  rintro e w7 ⟨rfl, b7⟩
  have k7 := k6.below b7 (Nat.le_refl _)
  have B7 := B6.trans (b7.mono B6.size)
  have hcv := conv_string k7
  rw [show bstr (fun i => row [128, 0, 0, 0, 7] ((4 : Int).toNat + i)) 1 = ⟨#[7]⟩ by rfl] at hcv
  clear k6 l6 k7 b7 B6
  go_wp2
  go_ret
  exact ⟨rfl, B7⟩

theorem own : ownKnob Try.prog.godebug = none := by kernel_rfl

set_option maxRecDepth 100000 in
theorem peekKnown_lifted (os : Os) (started : os.Started) (H : Type) (enc : TypeId × Value → H) :
    ReturnsInHanded {} Try.checked os 3 .any (Rows.peekKnownSpec.pre6 enc Try.prog Try.f3 Rows.peekKnownRow.domain false) (Rows.peekKnownSpec.post enc Try.prog Try.f3 false true false false) := by
  refine returnsInHanded_of_change (C := Try.checked) own started (by kernel_rfl) Try.func3
    (ChangeSpec.witness6 (enc := enc) (C := Try.checked) false ⟨#[], #[], []⟩ 8 (by kernel_rfl) (by kernel_rfl) (by kernel_rfl) (by kernel_rfl)) ?_
  intro W base args ds gs before hval0 hW hcnd _
  have hW' := hW
  obtain ⟨p, q, hA0, hV, rfl, hfz, hnd⟩ := hW
  have hA : DataW.TrodAll enc Try.prog W 0 (fun _ => true) true Try.f3.params.toList args.toList ds p := hA0
  rw [Try.params3] at hA
  obtain ⟨rfl, rfl, rfl⟩ := trodAll_none hA
  obtain ⟨rfl, rfl⟩ := trodVars_none hV
  clear hA0 hval0
  refine (peekKnown_walk W).mono fun e W' ⟨he, bel⟩ => ?_
  subst he
  exact ⟨_, rfl, _, _, _, [], [], [], hW', trodAll_mk1 (shut_bool Try.underlying4 _), trodAll_mk0, rfl, bel.frame _, fun h => by cases h⟩

theorem peekKnown_holds : Rows.PeekKnownSaid :=
  OpenClaim.holds_of_wide 3 Try.f3 rfl rfl rfl rfl rfl rfl rfl ⟨rfl, rfl, rfl, rfl, rfl⟩ rfl rfl rfl rfl rfl (by kernel_rfl) Try.func3 (by kernel_rfl)
    (of_decide_eq_true (by kernel_rfl)) (by unfold Func.isWrapper; first | (rw [if_pos (by decide +kernel)]; kernel_rfl) | (rw [if_neg (by decide +kernel)]; exact ⟨rfl, rfl⟩))
    (fun os started H enc _ => peekKnown_lifted os started H enc)
#print axioms peekKnown_holds
end Go.Proofs.Ytbkhdccbmkeodaa
