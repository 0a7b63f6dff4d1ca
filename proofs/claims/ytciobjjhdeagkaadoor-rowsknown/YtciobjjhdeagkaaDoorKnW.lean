/-
  RowsKnown's own walk.
-/
import Derived.Test.YtciobjjhdeagkaaDoorKno
namespace Go.Proofs.YtciobjjhdeagkaaDoor
open Go.RowKit

set_option maxRecDepth 100000 in
set_option maxHeartbeats 3200000 in
theorem rowsKnown_walk (w : World) (hT : Tab w) : Calls Tryd.prog 3 #[] w fun e w' => e = .returned (.bool true) ∧ Below w.heap.size w w' := by
  have b0 : Below w.heap.size w (w.alloc (.cells #[.int .u8 10, .int .u8 20, .int .u8 30] 5)) := (Below.refl _ _).alloc (Nat.le_refl _) _
  have U : Lies (w.alloc (.cells #[.int .u8 10, .int .u8 20, .int .u8 30] 5)) (some ⟨w.heap.size, 0, none⟩) 3 3 (zl [10, 20, 30]) := lies_lit (cs := [10, 20, 30]) (by decide) (by decide) (blk_new w _)
  obtain ⟨w0, hw0⟩ : ∃ w0, w0 = w.alloc (.cells #[.int .u8 10, .int .u8 20, .int .u8 30] 5) := ⟨_, rfl⟩
  rw [← hw0] at b0 U
  have HW0 : Hid (w0 = _) := hw0
  clear hw0
  obtain ⟨gu, hgu⟩ : ∃ gu, Hid (gu = w.heap.size) := ⟨_, rfl⟩
  rw [← hgu.out] at U
  have T0 := hT.below b0 hT.pos
  go_enter Tryd.func3, Tryd.ntmps3
  go_wp2_with (first | (rw [← HW0.out]))
  rw [← hgu.out]
  have y0 : Below w0.heap.size w0 (w0.alloc (.cells #[.int .u8 1, .int .u8 2, .int .u8 3] 5)) := (Below.refl _ _).alloc (Nat.le_refl _) _
  have L0 : Lies (w0.alloc (.cells #[.int .u8 1, .int .u8 2, .int .u8 3] 5)) (some ⟨w0.heap.size, 0, none⟩) 3 3 (zl [1, 2, 3]) := lies_lit (cs := [1, 2, 3]) (by decide) (by decide) (blk_new w0 _)
  have U0 := U.below y0 (Nat.le_refl _)
  refine (undo_l 2 1 (by omega) (by omega) (by omega) _ 3 3 (zl [1, 2, 3]) _ 3 3 (zl [10, 20, 30]) _ L0 U0).mono ?_
  rintro e w1 ⟨g0, rfl, M0, x0⟩
  replace U := U0.below x0 (Nat.le_refl _)
  have z0 : Below w0.heap.size w0 w1 := y0.trans (x0.mono y0.size)
  have b1 := b0.trans (z0.mono b0.size)
  have T1 := T0.below z0 T0.pos
  clear y0 L0 U0 x0 z0 b0 T0
  have y1 : Below w1.heap.size w1 (w1.alloc (.cells #[.int .u8 1, .int .u8 2, .int .u8 3] 5)) := (Below.refl _ _).alloc (Nat.le_refl _) _
  have L1 : Lies (w1.alloc (.cells #[.int .u8 1, .int .u8 2, .int .u8 3] 5)) (some ⟨w1.heap.size, 0, none⟩) 3 3 (zl [1, 2, 3]) := lies_lit (cs := [1, 2, 3]) (by decide) (by decide) (blk_new w1 _)
  have U1 := U.below y1 (Nat.le_refl _)
  go_wp2_with fail
  refine (undo_l 3 1 (by omega) (by omega) (by omega) _ 3 3 (zl [1, 2, 3]) _ 3 3 (zl [10, 20, 30]) _ L1 U1).mono ?_
  rintro e w2 ⟨g1, rfl, M1, x1⟩
  replace U := U1.below x1 (Nat.le_refl _)
  have z1 : Below w1.heap.size w1 w2 := y1.trans (x1.mono y1.size)
  have b2 := b1.trans (z1.mono b1.size)
  have T2 := T1.below z1 T1.pos
  replace M0 := M0.below z1 (Nat.le_refl _)
  clear y1 L1 U1 x1 z1 b1 T1
  have y2 : Below w2.heap.size w2 (w2.alloc (.cells #[.int .u8 1, .int .u8 2, .int .u8 3] 5)) := (Below.refl _ _).alloc (Nat.le_refl _) _
  have L2 : Lies (w2.alloc (.cells #[.int .u8 1, .int .u8 2, .int .u8 3] 5)) (some ⟨w2.heap.size, 0, none⟩) 3 3 (zl [1, 2, 3]) := lies_lit (cs := [1, 2, 3]) (by decide) (by decide) (blk_new w2 _)
  have U2 := U.below y2 (Nat.le_refl _)
  go_wp2_with fail
  refine (undo_l 4 1 (by omega) (by omega) (by omega) _ 3 3 (zl [1, 2, 3]) _ 3 3 (zl [10, 20, 30]) _ L2 U2).mono ?_
  rintro e w3 ⟨g2, rfl, M2, x2⟩
  replace U := U2.below x2 (Nat.le_refl _)
  have z2 : Below w2.heap.size w2 w3 := y2.trans (x2.mono y2.size)
  have b3 := b2.trans (z2.mono b2.size)
  have T3 := T2.below z2 T2.pos
  replace M0 := M0.below z2 (Nat.le_refl _)
  replace M1 := M1.below z2 (Nat.le_refl _)
  clear y2 L2 U2 x2 z2 b2 T2
  have y3 : Below w3.heap.size w3 (w3.alloc (.cells #[.int .u8 1, .int .u8 2, .int .u8 3] 5)) := (Below.refl _ _).alloc (Nat.le_refl _) _
  have L3 : Lies (w3.alloc (.cells #[.int .u8 1, .int .u8 2, .int .u8 3] 5)) (some ⟨w3.heap.size, 0, none⟩) 3 3 (zl [1, 2, 3]) := lies_lit (cs := [1, 2, 3]) (by decide) (by decide) (blk_new w3 _)
  have U3 := U.below y3 (Nat.le_refl _)
  go_wp2_with fail
  refine (undo_l 0 1 (by omega) (by omega) (by omega) _ 3 3 (zl [1, 2, 3]) _ 3 3 (zl [10, 20, 30]) _ L3 U3).mono ?_
  rintro e w4 ⟨g3, rfl, M3, x3⟩
  replace U := U3.below x3 (Nat.le_refl _)
  have z3 : Below w3.heap.size w3 w4 := y3.trans (x3.mono y3.size)
  have b4 := b3.trans (z3.mono b3.size)
  have T4 := T3.below z3 T3.pos
  replace M0 := M0.below z3 (Nat.le_refl _)
  replace M1 := M1.below z3 (Nat.le_refl _)
  replace M2 := M2.below z3 (Nat.le_refl _)
  clear y3 L3 U3 x3 z3 b3 T3
  go_wp2_with fail
  refine (undo_no 5 1 (by omega) _ _ _).mono ?_
  rintro e w4 ⟨rfl, rfl⟩
  go_wp2_with fail
  refine (do_no (-1) 1 (by omega) _ _ _).mono ?_
  rintro e w4 ⟨rfl, rfl⟩
  go_wp2_with fail
  refine (undo_no 1 0 (by omega) _ _ _).mono ?_
  rintro e w4 ⟨rfl, rfl⟩
  go_wp2_with fail
  refine (do_no 1 9 (by omega) _ _ _).mono ?_
  rintro e w4 ⟨rfl, rfl⟩
  go_wp2_with fail
  refine (passes_any 1 1 _ T4).mono ?_
  rintro e w5 ⟨v5, rfl, R5, x5⟩
  replace R5 : ∃ v, v5 = v ∧ Rw w5 w4.heap.size 30 v (passL (sidev 1) (sidev 1) 7) := ⟨_, rfl, R5⟩
  obtain ⟨v5', rfl, R5⟩ := R5
  have T5 := T4.below x5 T4.pos
  have b5 := b4.trans (x5.mono b4.size)
  replace M0 := M0.below x5 (Nat.le_refl _)
  replace M1 := M1.below x5 (Nat.le_refl _)
  replace M2 := M2.below x5 (Nat.le_refl _)
  replace M3 := M3.below x5 (Nat.le_refl _)
  clear x5 b4 T4 U
  obtain ⟨ga, ca, hva, hla, _⟩ := R5.get (n := 1) (by kernel_rfl) (i := 0) (p := ⟨0, 0, 8, 8, 1, 1⟩) (by kernel_rfl)
  subst hva
  go_wp2_with fail
  refine (passes_any 5 3 _ T5).mono ?_
  rintro e w6 ⟨v6, rfl, R6, x6⟩
  have T6 := T5.below x6 T5.pos
  have b6 := b5.trans (x6.mono b5.size)
  replace R5 := R5.below x6
  replace M0 := M0.below x6 (Nat.le_refl _)
  replace M1 := M1.below x6 (Nat.le_refl _)
  replace M2 := M2.below x6 (Nat.le_refl _)
  replace M3 := M3.below x6 (Nat.le_refl _)
  clear x6 b5 T5
  obtain ⟨gb, cb, hvb, hlb, _⟩ := R6.get (n := 6) (by kernel_rfl) (i := 5) (p := ⟨0, 1, 1, 2, 5, 1⟩) (by kernel_rfl)
  subst hvb
  go_wp2_with fail
  refine (known_any _ T6).mono ?_
  rintro e w7 ⟨rfl, x7⟩
  have T7 := T6.below x7 T6.pos
  have b7 := b6.trans (x7.mono b6.size)
  replace R5 := R5.below x7
  replace R6 := R6.below x7
  replace M0 := M0.below x7 (Nat.le_refl _)
  replace M1 := M1.below x7 (Nat.le_refl _)
  replace M2 := M2.below x7 (Nat.le_refl _)
  replace M3 := M3.below x7 (Nat.le_refl _)
  clear x7 b6 T6
  obtain ⟨ga', ca', hva, _, hra⟩ := R5.get (n := 1) (by kernel_rfl) (i := 0) (p := ⟨0, 0, 8, 8, 1, 1⟩) (by kernel_rfl)
  obtain ⟨gb', cb', hvb, _, hrb⟩ := R6.get (n := 6) (by kernel_rfl) (i := 5) (p := ⟨0, 1, 1, 2, 5, 1⟩) (by kernel_rfl)
  simp only [Value.slice.injEq, Option.some.injEq, Addr.mk.injEq, and_true, true_and] at hva hvb
  obtain ⟨rfl, rfl⟩ := hva
  obtain ⟨rfl, rfl⟩ := hvb
  have a4 : w7.cell? ⟨ga, 4, none⟩ = some (.int .i64 1) := hra 4 _ rfl
  have e0 : w7.cell? ⟨gb, 30, none⟩ = some (.int .i64 0) := hrb 0 _ rfl
  have e1 : w7.cell? ⟨gb, 31, none⟩ = some (.int .i64 1) := hrb 1 _ rfl
  have e2 : w7.cell? ⟨gb, 32, none⟩ = some (.int .i64 1) := hrb 2 _ rfl
  have e3 : w7.cell? ⟨gb, 33, none⟩ = some (.int .i64 2) := hrb 3 _ rfl
  have e4 : w7.cell? ⟨gb, 34, none⟩ = some (.int .i64 5) := hrb 4 _ rfl
  have e5 : w7.cell? ⟨gb, 35, none⟩ = some (.int .i64 1) := hrb 5 _ rfl
  have C0 := conv_string M0
  rw [show bstr (undv 2 1 (zl [1, 2, 3]) (zl [10, 20, 30]) 3) 3 = ⟨#[11, 22, 33]⟩ by kernel_rfl] at C0
  have C1 := conv_string M1
  rw [show bstr (undv 3 1 (zl [1, 2, 3]) (zl [10, 20, 30]) 3) 3 = ⟨#[6, 15, 25]⟩ by kernel_rfl] at C1
  have C2 := conv_string M2
  rw [show bstr (undv 4 1 (zl [1, 2, 3]) (zl [10, 20, 30]) 3) 3 = ⟨#[11, 22, 33]⟩ by kernel_rfl] at C2
  have C3 := conv_string M3
  rw [show bstr (undv 0 1 (zl [1, 2, 3]) (zl [10, 20, 30]) 3) 3 = ⟨#[1, 2, 3]⟩ by kernel_rfl] at C3
  clear R5 R6 hra hrb M0 M1 M2 M3
  go_wp2_with fail
  refine (passes_any 0 5 _ T7).mono ?_
  rintro e w8 ⟨v8, rfl, R8, x8⟩
  obtain ⟨a8, c8, rfl⟩ := R8.nolen (n := 0) (by kernel_rfl)
  have T8 := T7.below x8 T7.pos
  have b8 := b7.trans (x8.mono b7.size)
  clear R8 x8 b7 T7
  go_wp2_with fail
  refine (passes_any (-1) 5 _ T8).mono ?_
  rintro e w9 ⟨v9, rfl, R9, x9⟩
  obtain ⟨a9, c9, rfl⟩ := R9.nolen (n := 0) (by kernel_rfl)
  have b9 := b8.trans (x9.mono b8.size)
  clear R9 x9 b8 T8
  go_wp2
  go_ret
  exact ⟨rfl, b9⟩
end Go.Proofs.YtciobjjhdeagkaaDoor
