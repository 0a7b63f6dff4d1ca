/-
  PeekTells, walked.
-/
import Derived.Test.YtbkhdccbmkeodaaKnown
namespace Go.Proofs.Ytbkhdccbmkeodaa
open Go.RowKit

theorem num1_any (a : Option Addr) (len cap : Nat) (z : Nat → Nat) (at' : Int) (w : World) (h : Lies w a len cap z) (ha : at' ≤ 9223372036854775807) :
    Calls Try.prog 16 #[.slice a len cap, .int .i64 at', .int .i64 1] w fun e w' => e = .returned (.tuple #[.int .i64 (tell z len at' 1), .bool (there len at' 1)]) ∧ w' = w :=
  num_any a len cap z at' 1 w h ha (by omega) (by omega)
theorem num2_any (a : Option Addr) (len cap : Nat) (z : Nat → Nat) (at' : Int) (w : World) (h : Lies w a len cap z) (ha : at' ≤ 9223372036854775807) :
    Calls Try.prog 16 #[.slice a len cap, .int .i64 at', .int .i64 2] w fun e w' => e = .returned (.tuple #[.int .i64 (tell z len at' 2), .bool (there len at' 2)]) ∧ w' = w :=
  num_any a len cap z at' 2 w h ha (by omega) (by omega)
theorem num3_any (a : Option Addr) (len cap : Nat) (z : Nat → Nat) (at' : Int) (w : World) (h : Lies w a len cap z) (ha : at' ≤ 9223372036854775807) :
    Calls Try.prog 16 #[.slice a len cap, .int .i64 at', .int .i64 3] w fun e w' => e = .returned (.tuple #[.int .i64 (tell z len at' 3), .bool (there len at' 3)]) ∧ w' = w :=
  num_any a len cap z at' 3 w h ha (by omega) (by omega)
theorem num4_any (a : Option Addr) (len cap : Nat) (z : Nat → Nat) (at' : Int) (w : World) (h : Lies w a len cap z) (ha : at' ≤ 9223372036854775807) :
    Calls Try.prog 16 #[.slice a len cap, .int .i64 at', .int .i64 4] w fun e w' => e = .returned (.tuple #[.int .i64 (tell z len at' 4), .bool (there len at' 4)]) ∧ w' = w :=
  num_any a len cap z at' 4 w h ha (by omega) (by omega)

set_option maxRecDepth 100000 in
set_option maxHeartbeats 3200000 in
theorem tells_walk (a : Option Addr) (len cap : Nat) (z : Nat → Nat) (at' n : Int) (near : Bool) (w : World) (LL : Lies w a len cap z) (HA : at' ≤ 9223372036854775807) :
    Calls Try.prog 4 #[.slice a len cap, .int .i64 at', .int .i64 n, .bool near] w fun e w' => e = .returned (.bool true) ∧ Below w.heap.size w w' := by
  have hr := LL.reach
  have BB := Below.refl w.heap.size w
  cases near
  · go_enter Try.func4, Try.ntmps4
    go_wp2_with fail
    refine (u8_any a len cap z _ _ LL HA).mono ?_
    rintro e w' ⟨rfl, rfl⟩
    go_wp2_with fail
    refine (u16_any a len cap z _ _ LL HA).mono ?_
    rintro e w' ⟨rfl, rfl⟩
    go_wp2_with fail
    refine (u24_any a len cap z _ _ LL HA).mono ?_
    rintro e w' ⟨rfl, rfl⟩
    go_wp2_with fail
    refine (u32_any a len cap z _ _ LL HA).mono ?_
    rintro e w' ⟨rfl, rfl⟩
    go_wp2_with fail
    refine (i16_any a len cap z _ _ LL HA).mono ?_
    rintro e w' ⟨rfl, rfl⟩
    go_wp2_with fail
    refine (i32_any a len cap z _ _ LL HA).mono ?_
    rintro e w' ⟨rfl, rfl⟩
    go_wp2_with fail
    refine (part_any a len cap z _ _ _ LL HA).mono ?_
    rintro e w1 ⟨a1, c1, rfl, p1, b1⟩
    have L1 := LL.below b1 (Nat.le_refl _)
    have B1 := BB.trans (b1.mono BB.size)
    clear LL BB b1
    go_wp2_with fail
    refine (from_any a len cap z _ _ L1 HA).mono ?_
    rintro e w2 ⟨a2, c2, rfl, q2, b2⟩
    have LL := L1.below b2 (Nat.le_refl _)
    have p2 := p1.below b2 (Nat.le_refl _)
    have BB := B1.trans (b2.mono B1.size)
    clear L1 B1 b2 p1
    go_wp2_with fail
    refine (num1_any a len cap z _ _ LL HA).mono ?_
    rintro e w' ⟨rfl, rfl⟩
    go_wp2_with fail
    refine (num2_any a len cap z _ _ LL HA).mono ?_
    rintro e w' ⟨rfl, rfl⟩
    go_wp2_with fail
    refine (num3_any a len cap z _ _ LL HA).mono ?_
    rintro e w' ⟨rfl, rfl⟩
    go_wp2_with fail
    refine (num4_any a len cap z _ _ LL HA).mono ?_
    rintro e w' ⟨rfl, rfl⟩
    go_wp2_with fail
    refine (signed2_any a len cap z _ _ LL HA).mono ?_
    rintro e w' ⟨rfl, rfl⟩
    go_wp2_with fail
    refine (signed4_any a len cap z _ _ LL HA).mono ?_
    rintro e w' ⟨rfl, rfl⟩
    go_wp2_with fail
    refine (rpart_any a len cap z _ _ _ LL HA).mono ?_
    rintro e w3 ⟨a3, c3, rfl, r3, b3⟩
    have L3 := LL.below b3 (Nat.le_refl _)
    have p3 := p2.below b3 (Nat.le_refl _)
    have q3 := q2.below b3 (Nat.le_refl _)
    have B3 := BB.trans (b3.mono BB.size)
    clear LL BB b3 p2 q2
    go_wp2_with fail
    refine (rfrom_any a len cap z _ _ L3).mono ?_
    rintro e w4 ⟨a4, c4, rfl, s4, b4⟩
    have p4 := p3.below b4 (Nat.le_refl _)
    have q4 := q3.below b4 (Nat.le_refl _)
    have r4 := r3.below b4 (Nat.le_refl _)
    have B4 := B3.trans (b4.mono B3.size)
    clear L3 B3 b4 p3 q3 r3
    go_wp2_with fail
    refine (known_any _).mono ?_
    rintro e w5 ⟨rfl, b5⟩
    have hp := conv_string (p4.below b5 (Nat.le_refl _))
    have hq := conv_string (q4.below b5 (Nat.le_refl _))
    have hr := conv_string (r4.below b5 (Nat.le_refl _))
    have hs := conv_string (s4.below b5 (Nat.le_refl _))
    have B5 := B4.trans (b5.mono B4.size)
    clear p4 q4 r4 s4 b5 B4 HA
    go_wp2
    go_ret
    exact ⟨rfl, B5⟩
  · go_enter Try.func4, Try.ntmps4
    go_wp2_with fail
    refine (pick_any _ _ (by omega) (by omega) _).mono ?_
    rintro e w' ⟨x, hx, rfl, rfl⟩
    clear HA
    obtain ⟨X, hX⟩ : ∃ X : Int, (x : Int) - 2 = X := ⟨_, rfl⟩
    have HA : X ≤ 9223372036854775807 := by omega
    go_wp2_with fail
    refine (pick_any _ _ (by omega) (by omega) _).mono ?_
    rintro e w' ⟨y, hy, rfl, rfl⟩
    obtain ⟨Y, hY⟩ : ∃ Y : Int, (y : Int) - 2 = Y := ⟨_, rfl⟩
    go_wp2_with fail
    refine (u8_any a len cap z _ _ LL HA).mono ?_
    rintro e w' ⟨rfl, rfl⟩
    go_wp2_with fail
    refine (u16_any a len cap z _ _ LL HA).mono ?_
    rintro e w' ⟨rfl, rfl⟩
    go_wp2_with fail
    refine (u24_any a len cap z _ _ LL HA).mono ?_
    rintro e w' ⟨rfl, rfl⟩
    go_wp2_with fail
    refine (u32_any a len cap z _ _ LL HA).mono ?_
    rintro e w' ⟨rfl, rfl⟩
    go_wp2_with fail
    refine (i16_any a len cap z _ _ LL HA).mono ?_
    rintro e w' ⟨rfl, rfl⟩
    go_wp2_with fail
    refine (i32_any a len cap z _ _ LL HA).mono ?_
    rintro e w' ⟨rfl, rfl⟩
    go_wp2_with fail
    refine (part_any a len cap z _ _ _ LL HA).mono ?_
    rintro e w1 ⟨a1, c1, rfl, p1, b1⟩
    have L1 := LL.below b1 (Nat.le_refl _)
    have B1 := BB.trans (b1.mono BB.size)
    clear LL BB b1
    go_wp2_with fail
    refine (from_any a len cap z _ _ L1 HA).mono ?_
    rintro e w2 ⟨a2, c2, rfl, q2, b2⟩
    have LL := L1.below b2 (Nat.le_refl _)
    have p2 := p1.below b2 (Nat.le_refl _)
    have BB := B1.trans (b2.mono B1.size)
    clear L1 B1 b2 p1
    go_wp2_with fail
    refine (num1_any a len cap z _ _ LL HA).mono ?_
    rintro e w' ⟨rfl, rfl⟩
    go_wp2_with fail
    refine (num2_any a len cap z _ _ LL HA).mono ?_
    rintro e w' ⟨rfl, rfl⟩
    go_wp2_with fail
    refine (num3_any a len cap z _ _ LL HA).mono ?_
    rintro e w' ⟨rfl, rfl⟩
    go_wp2_with fail
    refine (num4_any a len cap z _ _ LL HA).mono ?_
    rintro e w' ⟨rfl, rfl⟩
    go_wp2_with fail
    refine (signed2_any a len cap z _ _ LL HA).mono ?_
    rintro e w' ⟨rfl, rfl⟩
    go_wp2_with fail
    refine (signed4_any a len cap z _ _ LL HA).mono ?_
    rintro e w' ⟨rfl, rfl⟩
    go_wp2_with fail
    refine (rpart_any a len cap z _ _ _ LL HA).mono ?_
    rintro e w3 ⟨a3, c3, rfl, r3, b3⟩
    have L3 := LL.below b3 (Nat.le_refl _)
    have p3 := p2.below b3 (Nat.le_refl _)
    have q3 := q2.below b3 (Nat.le_refl _)
    have B3 := BB.trans (b3.mono BB.size)
    clear LL BB b3 p2 q2
    go_wp2_with fail
    refine (rfrom_any a len cap z _ _ L3).mono ?_
    rintro e w4 ⟨a4, c4, rfl, s4, b4⟩
    have p4 := p3.below b4 (Nat.le_refl _)
    have q4 := q3.below b4 (Nat.le_refl _)
    have r4 := r3.below b4 (Nat.le_refl _)
    have B4 := B3.trans (b4.mono B3.size)
    clear L3 B3 b4 p3 q3 r3
    go_wp2_with fail
    refine (known_any _).mono ?_
    rintro e w5 ⟨rfl, b5⟩
    have hp := conv_string (p4.below b5 (Nat.le_refl _))
    have hq := conv_string (q4.below b5 (Nat.le_refl _))
    have hr := conv_string (r4.below b5 (Nat.le_refl _))
    have hs := conv_string (s4.below b5 (Nat.le_refl _))
    have B5 := B4.trans (b5.mono B4.size)
    clear p4 q4 r4 s4 b5 B4 HA
    go_wp2
    go_ret
    exact ⟨rfl, B5⟩
end Go.Proofs.Ytbkhdccbmkeodaa
