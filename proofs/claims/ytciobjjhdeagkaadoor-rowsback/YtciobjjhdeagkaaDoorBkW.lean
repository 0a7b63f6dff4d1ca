/-
  RowsBack's own walk.
-/
import Derived.Test.YtciobjjhdeagkaaDoorKno
import Derived.Test.YtciobjjhdeagkaaDoorPick
namespace Go.Proofs.YtciobjjhdeagkaaDoor
open Go.RowKit

set_option maxRecDepth 100000 in
set_option maxHeartbeats 3200000 in
theorem rowsBack_walk (w : World) (a1 : Option Addr) (l1 c1 : Nat) (z : Nat → Nat) (a2 : Option Addr) (l2 c2 : Nat) (y : Nat → Nat) (n : Int) (h1 : Lies w a1 l1 c1 z) (h2 : Lies w a2 l2 c2 y) (hT : Tab w) :
    Calls Tryd.prog 5 #[.slice a1 l1 c1, .slice a2 l2 c2, .int .i64 n] w fun e w' => e = .returned (.bool true) ∧ Below w.heap.size w w' := by
  obtain ⟨p, hp⟩ : ∃ p : Nat, Hid (pickv n 8 = p) := ⟨_, rfl⟩
  have hp8 : p < 8 := by rw [← hp.out]; exact pickv_lt n 8 (by omega)
  have P1 : ∀ W, Calls Tryd.prog 11 #[.int .i64 n, .int .i64 8] W fun e w' => e = .returned (.int .i64 (p : Nat)) ∧ w' = W := fun W => by rw [← hp.out]; exact pick_any n 8 (by omega) (by omega) W
  obtain ⟨b, hb⟩ : ∃ b : Nat, (1 : Int) + (p : Nat) = b := ⟨1 + p, by omega⟩
  have hb1 : 1 ≤ b := by omega
  have hb8 : b ≤ 8 := by omega
  go_enter Tryd.func5, Tryd.ntmps5
  go_wp2_with fail
  refine (P1 _).mono ?_
  rintro e w1 ⟨rfl, rfl⟩
  clear P1
  go_wp2_with fail
  go_loopw [7] (fun v wq => ∃ k : Nat, k ≤ 5 ∧ v = .int .i64 (k : Nat) ∧ Below w1.heap.size w1 wq) (fun v _ => 5 - (intOf v).toNat)
  case atStart => exact ⟨0, by omega, rfl, Below.refl _ _⟩
  case round =>
    clear hb
    obtain ⟨k, hk, rfl, hB⟩ := hrel
    by_cases hk5 : k < 5
    · have hk5' : (k : Int) < 5 := by omega
      have L1 := h1.below hB (Nat.le_refl _)
      have L2 := h2.below hB (Nat.le_refl _)
      go_wp2_with fail
      refine (do_l k b (by omega) hb1 hb8 _ _ _ z _ _ _ y _ L1 L2).mono ?_
      rintro e w2 ⟨g2, rfl, LA, x2⟩
      replace L1 := L1.below x2 (Nat.le_refl _)
      replace L2 := L2.below x2 (Nat.le_refl _)
      have B2 := hB.trans (x2.mono hB.size)
      clear x2 hB
      go_wp2_with fail
      refine (undo_l k b (by omega) hb1 hb8 _ _ _ _ _ _ _ y _ LA L2).mono ?_
      rintro e w3 ⟨g3, rfl, LB, x3⟩
      replace L1 := L1.below x3 (Nat.le_refl _)
      replace L2 := L2.below x3 (Nat.le_refl _)
      have B3 := B2.trans (x3.mono B2.size)
      clear x3 B2 LA
      go_wp2_with fail
      refine (undo_l k b (by omega) hb1 hb8 _ _ _ z _ _ _ y _ L1 L2).mono ?_
      rintro e w4 ⟨g4, rfl, LC, x4⟩
      replace L1 := L1.below x4 (Nat.le_refl _)
      replace L2 := L2.below x4 (Nat.le_refl _)
      replace LB := LB.below x4 (Nat.le_refl _)
      have B4 := B3.trans (x4.mono B3.size)
      clear x4 B3
      go_wp2_with fail
      refine (do_l k b (by omega) hb1 hb8 _ _ _ _ _ _ _ y _ LC L2).mono ?_
      rintro e w5 ⟨g5, rfl, LD, x5⟩
      replace L1 := L1.below x5 (Nat.le_refl _)
      replace LB := LB.below x5 (Nat.le_refl _)
      have B5 := B4.trans (x5.mono B4.size)
      have C1 := conv_string L1
      have C2 := conv_string LB
      have C3 := conv_string LD
      rw [bstr_congr (fun i hi => und_do k b hb1 z y h1.byte h2.byte l1 l2 i i (Nat.le_refl _) hi)] at C2
      rw [bstr_congr (fun i hi => do_und k b hb1 z y h1.byte h2.byte l1 l2 i hi)] at C3
      obtain ⟨S, hS⟩ : ∃ S, Hid (bstr z l1 = S) := ⟨_, rfl⟩
      rw [hS.out] at C1 C2 C3
      clear x5 B4 L1 L2 LB LC LD
      go_wp2
      exact ⟨⟨k + 1, by omega, by go_num, B5⟩, by simp [intOf]; omega⟩
    · obtain rfl : k = 5 := by omega
      have hk5' : ¬ ((5 : Nat) : Int) < 5 := by omega
      go_wp2_with fail
      refine (known_any _ (hT.below hB hT.pos)).mono ?_
      rintro e w2 ⟨rfl, x2⟩
      have B2 := hB.trans (x2.mono hB.size)
      clear x2 hB
      go_wp2
      go_ret
      exact ⟨rfl, B2⟩
end Go.Proofs.YtciobjjhdeagkaaDoor
