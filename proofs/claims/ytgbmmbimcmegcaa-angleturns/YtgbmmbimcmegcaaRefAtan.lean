/-
  versalref2.Atan, as a contract: by the signs and by which of the two is greater.
-/
import Derived.Test.YtgbmmbimcmegcaaRefAng
namespace Go.Proofs.Ytgbmmbimcmegcaa
open Go.RowKit

set_option maxRecDepth 100000 in
set_option maxHeartbeats 1600000 in
theorem refAtan_any_nns (y x Y X t k : Int) (cy : Hid (clip y = Y)) (cx : Hid (clip x = X)) (hy1 : -2147483647 ≤ Y) (hy : Y < 0) (ht : -Y = t) (hx1 : -2147483647 ≤ X) (hx : X < 0) (hk : -X = k) (hs : k < t) (w : World) :
    Calls Try.prog 18 #[.int .i64 y, .int .i64 x] w fun e w' => e = .returned (.int .i64 (normv (-(32768 - (16384 - slopev k t))))) ∧ w' = w := by
  obtain ⟨q0, q1⟩ := slope_bd (v := k) (u := t) (by omega) (by omega) (by omega)
  have ht0 : 0 < t := by omega
  have ht2 : t ≤ 2147483647 := by omega
  have hk0 : 0 < k := by omega
  have hk2 : k ≤ 2147483647 := by omega
  have hne : ¬ t = 0 := by omega
  obtain ⟨z0, z1⟩ := part_bd (v := k) (u := t) (by omega) (by omega) (by omega)
  obtain ⟨p0, p1⟩ := lean_prod z0 z1
  unfold slopev leanv at *
  unfold part at *
  obtain ⟨z, hz⟩ : ∃ z, k * 65536 / t = z := ⟨_, rfl⟩
  rw [hz] at z0 z1 p0 p1 q0 q1 ⊢
  obtain ⟨Q, hQ⟩ : ∃ Q, (8192 * z * 65536 + 2847 * z * (65536 - z)) / 4294967296 = Q := ⟨_, rfl⟩
  rw [hQ] at q0 q1 ⊢
  go_enter Try.func18, Try.ntmps18
  go_wp2_with fail
  refine (refClip_any y _).mono ?_
  rintro e w' ⟨rfl, rfl⟩
  rw [cy.out]
  go_wp2_with fail
  refine (refClip_any x _).mono ?_
  rintro e w' ⟨rfl, rfl⟩
  rw [cx.out]
  go_wp2_with fail
  refine (abs_any X (by omega) (by omega) _).mono ?_
  rintro e w' ⟨rfl, rfl⟩
  rw [absv_neg hx, hk]
  go_wp2_with fail
  refine (abs_any Y (by omega) (by omega) _).mono ?_
  rintro e w' ⟨rfl, rfl⟩
  rw [absv_neg hy, ht]
  go_wp2_with fail
  refine (abs_any X (by omega) (by omega) _).mono ?_
  rintro e w' ⟨rfl, rfl⟩
  rw [absv_neg hx, hk]
  go_wp2_with fail
  refine (abs_any Y (by omega) (by omega) _).mono ?_
  rintro e w' ⟨rfl, rfl⟩
  rw [absv_neg hy, ht]
  go_wp2_with fail
  refine (abs_any Y (by omega) (by omega) _).mono ?_
  rintro e w' ⟨rfl, rfl⟩
  rw [absv_neg hy, ht]
  go_wp2_with fail
  refine (abs_any X (by omega) (by omega) _).mono ?_
  rintro e w' ⟨rfl, rfl⟩
  rw [absv_neg hx, hk]
  go_wp2_with fail
  refine (refNorm_any _ _).mono ?_
  rintro e w' ⟨rfl, rfl⟩
  go_wp2
  go_ret
  exact ⟨rfl, rfl⟩

set_option maxRecDepth 100000 in
set_option maxHeartbeats 1600000 in
theorem refAtan_any_nnf (y x Y X t k : Int) (cy : Hid (clip y = Y)) (cx : Hid (clip x = X)) (hy1 : -2147483647 ≤ Y) (hy : Y < 0) (ht : -Y = t) (hx1 : -2147483647 ≤ X) (hx : X < 0) (hk : -X = k) (hs : t ≤ k) (w : World) :
    Calls Try.prog 18 #[.int .i64 y, .int .i64 x] w fun e w' => e = .returned (.int .i64 (normv (-(32768 - (slopev t k))))) ∧ w' = w := by
  obtain ⟨q0, q1⟩ := slope_bd (v := t) (u := k) (by omega) (by omega) (by omega)
  have ht0 : 0 < t := by omega
  have ht2 : t ≤ 2147483647 := by omega
  have hk0 : 0 < k := by omega
  have hk2 : k ≤ 2147483647 := by omega
  have hne : ¬ k = 0 := by omega
  obtain ⟨z0, z1⟩ := part_bd (v := t) (u := k) (by omega) (by omega) (by omega)
  obtain ⟨p0, p1⟩ := lean_prod z0 z1
  unfold slopev leanv at *
  unfold part at *
  obtain ⟨z, hz⟩ : ∃ z, t * 65536 / k = z := ⟨_, rfl⟩
  rw [hz] at z0 z1 p0 p1 q0 q1 ⊢
  obtain ⟨Q, hQ⟩ : ∃ Q, (8192 * z * 65536 + 2847 * z * (65536 - z)) / 4294967296 = Q := ⟨_, rfl⟩
  rw [hQ] at q0 q1 ⊢
  have em : (if t < k then t else k) = t := by split <;> omega
  go_enter Try.func18, Try.ntmps18
  go_wp2_with fail
  refine (refClip_any y _).mono ?_
  rintro e w' ⟨rfl, rfl⟩
  rw [cy.out]
  go_wp2_with fail
  refine (refClip_any x _).mono ?_
  rintro e w' ⟨rfl, rfl⟩
  rw [cx.out]
  go_wp2_with fail
  refine (abs_any X (by omega) (by omega) _).mono ?_
  rintro e w' ⟨rfl, rfl⟩
  rw [absv_neg hx, hk]
  go_wp2_with fail
  refine (abs_any Y (by omega) (by omega) _).mono ?_
  rintro e w' ⟨rfl, rfl⟩
  rw [absv_neg hy, ht]
  go_wp2_with fail
  refine (abs_any X (by omega) (by omega) _).mono ?_
  rintro e w' ⟨rfl, rfl⟩
  rw [absv_neg hx, hk]
  go_wp2_with fail
  refine (abs_any Y (by omega) (by omega) _).mono ?_
  rintro e w' ⟨rfl, rfl⟩
  rw [absv_neg hy, ht]
  go_wp2_with fail
  refine (abs_any Y (by omega) (by omega) _).mono ?_
  rintro e w' ⟨rfl, rfl⟩
  rw [absv_neg hy, ht]
  go_wp2_with fail
  refine (abs_any X (by omega) (by omega) _).mono ?_
  rintro e w' ⟨rfl, rfl⟩
  rw [absv_neg hx, hk]
  go_wp2_with fail
  refine (refNorm_any _ _).mono ?_
  rintro e w' ⟨rfl, rfl⟩
  go_wp2
  go_ret
  exact ⟨rfl, rfl⟩

set_option maxRecDepth 100000 in
set_option maxHeartbeats 1600000 in
theorem refAtan_any_nzs (y x Y t : Int) (cy : Hid (clip y = Y)) (cx : Hid (clip x = 0)) (hy1 : -2147483647 ≤ Y) (hy : Y < 0) (ht : -Y = t)   (w : World) :
    Calls Try.prog 18 #[.int .i64 y, .int .i64 x] w fun e w' => e = .returned (.int .i64 (normv (-(16384 - slopev 0 t)))) ∧ w' = w := by
  have ht0 : 0 < t := by omega
  have ht2 : t ≤ 2147483647 := by omega
  have hne : ¬ t = 0 := by omega
  rw [show slopev 0 t = 0 by unfold slopev; rw [part_nil]; decide]
  have hz : (0 : Int) / t = 0 := Int.zero_ediv _
  go_enter Try.func18, Try.ntmps18
  go_wp2_with fail
  refine (refClip_any y _).mono ?_
  rintro e w' ⟨rfl, rfl⟩
  rw [cy.out]
  go_wp2_with fail
  refine (refClip_any x _).mono ?_
  rintro e w' ⟨rfl, rfl⟩
  rw [cx.out]
  go_wp2_with fail
  refine (abs_any 0 (by omega) (by omega) _).mono ?_
  rintro e w' ⟨rfl, rfl⟩
  rw [absv_pos (n := 0) (by omega)]
  go_wp2_with fail
  refine (abs_any Y (by omega) (by omega) _).mono ?_
  rintro e w' ⟨rfl, rfl⟩
  rw [absv_neg hy, ht]
  go_wp2_with fail
  refine (abs_any 0 (by omega) (by omega) _).mono ?_
  rintro e w' ⟨rfl, rfl⟩
  rw [absv_pos (n := 0) (by omega)]
  go_wp2_with fail
  refine (abs_any Y (by omega) (by omega) _).mono ?_
  rintro e w' ⟨rfl, rfl⟩
  rw [absv_neg hy, ht]
  go_wp2_with fail
  refine (abs_any Y (by omega) (by omega) _).mono ?_
  rintro e w' ⟨rfl, rfl⟩
  rw [absv_neg hy, ht]
  go_wp2_with fail
  refine (abs_any 0 (by omega) (by omega) _).mono ?_
  rintro e w' ⟨rfl, rfl⟩
  rw [absv_pos (n := 0) (by omega)]
  go_wp2_with fail
  refine (refNorm_any _ _).mono ?_
  rintro e w' ⟨rfl, rfl⟩
  go_wp2
  go_ret
  exact ⟨rfl, rfl⟩

set_option maxRecDepth 100000 in
set_option maxHeartbeats 1600000 in
theorem refAtan_any_nps (y x Y X t : Int) (cy : Hid (clip y = Y)) (cx : Hid (clip x = X)) (hy1 : -2147483647 ≤ Y) (hy : Y < 0) (ht : -Y = t) (hx2 : X ≤ 2147483647) (hx : 0 < X) (hs : X < t) (w : World) :
    Calls Try.prog 18 #[.int .i64 y, .int .i64 x] w fun e w' => e = .returned (.int .i64 (normv (-(16384 - slopev X t)))) ∧ w' = w := by
  obtain ⟨q0, q1⟩ := slope_bd (v := X) (u := t) (by omega) (by omega) (by omega)
  have ht0 : 0 < t := by omega
  have ht2 : t ≤ 2147483647 := by omega
  have hne : ¬ t = 0 := by omega
  obtain ⟨z0, z1⟩ := part_bd (v := X) (u := t) (by omega) (by omega) (by omega)
  obtain ⟨p0, p1⟩ := lean_prod z0 z1
  unfold slopev leanv at *
  unfold part at *
  obtain ⟨z, hz⟩ : ∃ z, X * 65536 / t = z := ⟨_, rfl⟩
  rw [hz] at z0 z1 p0 p1 q0 q1 ⊢
  obtain ⟨Q, hQ⟩ : ∃ Q, (8192 * z * 65536 + 2847 * z * (65536 - z)) / 4294967296 = Q := ⟨_, rfl⟩
  rw [hQ] at q0 q1 ⊢
  go_enter Try.func18, Try.ntmps18
  go_wp2_with fail
  refine (refClip_any y _).mono ?_
  rintro e w' ⟨rfl, rfl⟩
  rw [cy.out]
  go_wp2_with fail
  refine (refClip_any x _).mono ?_
  rintro e w' ⟨rfl, rfl⟩
  rw [cx.out]
  go_wp2_with fail
  refine (abs_any X (by omega) (by omega) _).mono ?_
  rintro e w' ⟨rfl, rfl⟩
  rw [absv_pos (n := X) (by omega)]
  go_wp2_with fail
  refine (abs_any Y (by omega) (by omega) _).mono ?_
  rintro e w' ⟨rfl, rfl⟩
  rw [absv_neg hy, ht]
  go_wp2_with fail
  refine (abs_any X (by omega) (by omega) _).mono ?_
  rintro e w' ⟨rfl, rfl⟩
  rw [absv_pos (n := X) (by omega)]
  go_wp2_with fail
  refine (abs_any Y (by omega) (by omega) _).mono ?_
  rintro e w' ⟨rfl, rfl⟩
  rw [absv_neg hy, ht]
  go_wp2_with fail
  refine (abs_any Y (by omega) (by omega) _).mono ?_
  rintro e w' ⟨rfl, rfl⟩
  rw [absv_neg hy, ht]
  go_wp2_with fail
  refine (abs_any X (by omega) (by omega) _).mono ?_
  rintro e w' ⟨rfl, rfl⟩
  rw [absv_pos (n := X) (by omega)]
  go_wp2_with fail
  refine (refNorm_any _ _).mono ?_
  rintro e w' ⟨rfl, rfl⟩
  go_wp2
  go_ret
  exact ⟨rfl, rfl⟩

set_option maxRecDepth 100000 in
set_option maxHeartbeats 1600000 in
theorem refAtan_any_npf (y x Y X t : Int) (cy : Hid (clip y = Y)) (cx : Hid (clip x = X)) (hy1 : -2147483647 ≤ Y) (hy : Y < 0) (ht : -Y = t) (hx2 : X ≤ 2147483647) (hx : 0 < X) (hs : t ≤ X) (w : World) :
    Calls Try.prog 18 #[.int .i64 y, .int .i64 x] w fun e w' => e = .returned (.int .i64 (normv (-(slopev t X)))) ∧ w' = w := by
  obtain ⟨q0, q1⟩ := slope_bd (v := t) (u := X) (by omega) (by omega) (by omega)
  have ht0 : 0 < t := by omega
  have ht2 : t ≤ 2147483647 := by omega
  have hne : ¬ X = 0 := by omega
  obtain ⟨z0, z1⟩ := part_bd (v := t) (u := X) (by omega) (by omega) (by omega)
  obtain ⟨p0, p1⟩ := lean_prod z0 z1
  unfold slopev leanv at *
  unfold part at *
  obtain ⟨z, hz⟩ : ∃ z, t * 65536 / X = z := ⟨_, rfl⟩
  rw [hz] at z0 z1 p0 p1 q0 q1 ⊢
  obtain ⟨Q, hQ⟩ : ∃ Q, (8192 * z * 65536 + 2847 * z * (65536 - z)) / 4294967296 = Q := ⟨_, rfl⟩
  rw [hQ] at q0 q1 ⊢
  have em : (if t < X then t else X) = t := by split <;> omega
  go_enter Try.func18, Try.ntmps18
  go_wp2_with fail
  refine (refClip_any y _).mono ?_
  rintro e w' ⟨rfl, rfl⟩
  rw [cy.out]
  go_wp2_with fail
  refine (refClip_any x _).mono ?_
  rintro e w' ⟨rfl, rfl⟩
  rw [cx.out]
  go_wp2_with fail
  refine (abs_any X (by omega) (by omega) _).mono ?_
  rintro e w' ⟨rfl, rfl⟩
  rw [absv_pos (n := X) (by omega)]
  go_wp2_with fail
  refine (abs_any Y (by omega) (by omega) _).mono ?_
  rintro e w' ⟨rfl, rfl⟩
  rw [absv_neg hy, ht]
  go_wp2_with fail
  refine (abs_any X (by omega) (by omega) _).mono ?_
  rintro e w' ⟨rfl, rfl⟩
  rw [absv_pos (n := X) (by omega)]
  go_wp2_with fail
  refine (abs_any Y (by omega) (by omega) _).mono ?_
  rintro e w' ⟨rfl, rfl⟩
  rw [absv_neg hy, ht]
  go_wp2_with fail
  refine (abs_any Y (by omega) (by omega) _).mono ?_
  rintro e w' ⟨rfl, rfl⟩
  rw [absv_neg hy, ht]
  go_wp2_with fail
  refine (abs_any X (by omega) (by omega) _).mono ?_
  rintro e w' ⟨rfl, rfl⟩
  rw [absv_pos (n := X) (by omega)]
  go_wp2_with fail
  refine (refNorm_any _ _).mono ?_
  rintro e w' ⟨rfl, rfl⟩
  go_wp2
  go_ret
  exact ⟨rfl, rfl⟩

set_option maxRecDepth 100000 in
set_option maxHeartbeats 1600000 in
theorem refAtan_any_znf (y x X k : Int) (cy : Hid (clip y = 0)) (cx : Hid (clip x = X))  (hx1 : -2147483647 ≤ X) (hx : X < 0) (hk : -X = k)  (w : World) :
    Calls Try.prog 18 #[.int .i64 y, .int .i64 x] w fun e w' => e = .returned (.int .i64 (32768 - (slopev 0 k))) ∧ w' = w := by
  have hk0 : 0 < k := by omega
  have hk2 : k ≤ 2147483647 := by omega
  have hne : ¬ k = 0 := by omega
  rw [show slopev 0 k = 0 by unfold slopev; rw [part_nil]; decide]
  have hz : (0 : Int) / k = 0 := Int.zero_ediv _
  go_enter Try.func18, Try.ntmps18
  go_wp2_with fail
  refine (refClip_any y _).mono ?_
  rintro e w' ⟨rfl, rfl⟩
  rw [cy.out]
  go_wp2_with fail
  refine (refClip_any x _).mono ?_
  rintro e w' ⟨rfl, rfl⟩
  rw [cx.out]
  go_wp2_with fail
  refine (abs_any X (by omega) (by omega) _).mono ?_
  rintro e w' ⟨rfl, rfl⟩
  rw [absv_neg hx, hk]
  go_wp2_with fail
  refine (abs_any 0 (by omega) (by omega) _).mono ?_
  rintro e w' ⟨rfl, rfl⟩
  rw [absv_pos (n := 0) (by omega)]
  go_wp2_with fail
  refine (abs_any X (by omega) (by omega) _).mono ?_
  rintro e w' ⟨rfl, rfl⟩
  rw [absv_neg hx, hk]
  go_wp2_with fail
  refine (abs_any 0 (by omega) (by omega) _).mono ?_
  rintro e w' ⟨rfl, rfl⟩
  rw [absv_pos (n := 0) (by omega)]
  go_wp2_with fail
  refine (abs_any 0 (by omega) (by omega) _).mono ?_
  rintro e w' ⟨rfl, rfl⟩
  rw [absv_pos (n := 0) (by omega)]
  go_wp2_with fail
  refine (abs_any X (by omega) (by omega) _).mono ?_
  rintro e w' ⟨rfl, rfl⟩
  rw [absv_neg hx, hk]
  go_wp2
  go_ret
  exact ⟨rfl, rfl⟩

set_option maxRecDepth 100000 in
set_option maxHeartbeats 1600000 in
theorem refAtan_any_zpf (y x X : Int) (cy : Hid (clip y = 0)) (cx : Hid (clip x = X))  (hx2 : X ≤ 2147483647) (hx : 0 < X)  (w : World) :
    Calls Try.prog 18 #[.int .i64 y, .int .i64 x] w fun e w' => e = .returned (.int .i64 (slopev 0 X)) ∧ w' = w := by
  have hne : ¬ X = 0 := by omega
  rw [show slopev 0 X = 0 by unfold slopev; rw [part_nil]; decide]
  have hz : (0 : Int) / X = 0 := Int.zero_ediv _
  go_enter Try.func18, Try.ntmps18
  go_wp2_with fail
  refine (refClip_any y _).mono ?_
  rintro e w' ⟨rfl, rfl⟩
  rw [cy.out]
  go_wp2_with fail
  refine (refClip_any x _).mono ?_
  rintro e w' ⟨rfl, rfl⟩
  rw [cx.out]
  go_wp2_with fail
  refine (abs_any X (by omega) (by omega) _).mono ?_
  rintro e w' ⟨rfl, rfl⟩
  rw [absv_pos (n := X) (by omega)]
  go_wp2_with fail
  refine (abs_any 0 (by omega) (by omega) _).mono ?_
  rintro e w' ⟨rfl, rfl⟩
  rw [absv_pos (n := 0) (by omega)]
  go_wp2_with fail
  refine (abs_any X (by omega) (by omega) _).mono ?_
  rintro e w' ⟨rfl, rfl⟩
  rw [absv_pos (n := X) (by omega)]
  go_wp2_with fail
  refine (abs_any 0 (by omega) (by omega) _).mono ?_
  rintro e w' ⟨rfl, rfl⟩
  rw [absv_pos (n := 0) (by omega)]
  go_wp2_with fail
  refine (abs_any 0 (by omega) (by omega) _).mono ?_
  rintro e w' ⟨rfl, rfl⟩
  rw [absv_pos (n := 0) (by omega)]
  go_wp2_with fail
  refine (abs_any X (by omega) (by omega) _).mono ?_
  rintro e w' ⟨rfl, rfl⟩
  rw [absv_pos (n := X) (by omega)]
  go_wp2
  go_ret
  exact ⟨rfl, rfl⟩

set_option maxRecDepth 100000 in
set_option maxHeartbeats 1600000 in
theorem refAtan_any_pns (y x Y X k : Int) (cy : Hid (clip y = Y)) (cx : Hid (clip x = X)) (hy2 : Y ≤ 2147483647) (hy : 0 < Y) (hx1 : -2147483647 ≤ X) (hx : X < 0) (hk : -X = k) (hs : k < Y) (w : World) :
    Calls Try.prog 18 #[.int .i64 y, .int .i64 x] w fun e w' => e = .returned (.int .i64 (32768 - (16384 - slopev k Y))) ∧ w' = w := by
  obtain ⟨q0, q1⟩ := slope_bd (v := k) (u := Y) (by omega) (by omega) (by omega)
  have hk0 : 0 < k := by omega
  have hk2 : k ≤ 2147483647 := by omega
  have hne : ¬ Y = 0 := by omega
  obtain ⟨z0, z1⟩ := part_bd (v := k) (u := Y) (by omega) (by omega) (by omega)
  obtain ⟨p0, p1⟩ := lean_prod z0 z1
  unfold slopev leanv at *
  unfold part at *
  obtain ⟨z, hz⟩ : ∃ z, k * 65536 / Y = z := ⟨_, rfl⟩
  rw [hz] at z0 z1 p0 p1 q0 q1 ⊢
  obtain ⟨Q, hQ⟩ : ∃ Q, (8192 * z * 65536 + 2847 * z * (65536 - z)) / 4294967296 = Q := ⟨_, rfl⟩
  rw [hQ] at q0 q1 ⊢
  go_enter Try.func18, Try.ntmps18
  go_wp2_with fail
  refine (refClip_any y _).mono ?_
  rintro e w' ⟨rfl, rfl⟩
  rw [cy.out]
  go_wp2_with fail
  refine (refClip_any x _).mono ?_
  rintro e w' ⟨rfl, rfl⟩
  rw [cx.out]
  go_wp2_with fail
  refine (abs_any X (by omega) (by omega) _).mono ?_
  rintro e w' ⟨rfl, rfl⟩
  rw [absv_neg hx, hk]
  go_wp2_with fail
  refine (abs_any Y (by omega) (by omega) _).mono ?_
  rintro e w' ⟨rfl, rfl⟩
  rw [absv_pos (n := Y) (by omega)]
  go_wp2_with fail
  refine (abs_any X (by omega) (by omega) _).mono ?_
  rintro e w' ⟨rfl, rfl⟩
  rw [absv_neg hx, hk]
  go_wp2_with fail
  refine (abs_any Y (by omega) (by omega) _).mono ?_
  rintro e w' ⟨rfl, rfl⟩
  rw [absv_pos (n := Y) (by omega)]
  go_wp2_with fail
  refine (abs_any Y (by omega) (by omega) _).mono ?_
  rintro e w' ⟨rfl, rfl⟩
  rw [absv_pos (n := Y) (by omega)]
  go_wp2_with fail
  refine (abs_any X (by omega) (by omega) _).mono ?_
  rintro e w' ⟨rfl, rfl⟩
  rw [absv_neg hx, hk]
  go_wp2
  go_ret
  exact ⟨rfl, rfl⟩

set_option maxRecDepth 100000 in
set_option maxHeartbeats 1600000 in
theorem refAtan_any_pnf (y x Y X k : Int) (cy : Hid (clip y = Y)) (cx : Hid (clip x = X)) (hy2 : Y ≤ 2147483647) (hy : 0 < Y) (hx1 : -2147483647 ≤ X) (hx : X < 0) (hk : -X = k) (hs : Y ≤ k) (w : World) :
    Calls Try.prog 18 #[.int .i64 y, .int .i64 x] w fun e w' => e = .returned (.int .i64 (32768 - (slopev Y k))) ∧ w' = w := by
  obtain ⟨q0, q1⟩ := slope_bd (v := Y) (u := k) (by omega) (by omega) (by omega)
  have hk0 : 0 < k := by omega
  have hk2 : k ≤ 2147483647 := by omega
  have hne : ¬ k = 0 := by omega
  obtain ⟨z0, z1⟩ := part_bd (v := Y) (u := k) (by omega) (by omega) (by omega)
  obtain ⟨p0, p1⟩ := lean_prod z0 z1
  unfold slopev leanv at *
  unfold part at *
  obtain ⟨z, hz⟩ : ∃ z, Y * 65536 / k = z := ⟨_, rfl⟩
  rw [hz] at z0 z1 p0 p1 q0 q1 ⊢
  obtain ⟨Q, hQ⟩ : ∃ Q, (8192 * z * 65536 + 2847 * z * (65536 - z)) / 4294967296 = Q := ⟨_, rfl⟩
  rw [hQ] at q0 q1 ⊢
  have em : (if Y < k then Y else k) = Y := by split <;> omega
  go_enter Try.func18, Try.ntmps18
  go_wp2_with fail
  refine (refClip_any y _).mono ?_
  rintro e w' ⟨rfl, rfl⟩
  rw [cy.out]
  go_wp2_with fail
  refine (refClip_any x _).mono ?_
  rintro e w' ⟨rfl, rfl⟩
  rw [cx.out]
  go_wp2_with fail
  refine (abs_any X (by omega) (by omega) _).mono ?_
  rintro e w' ⟨rfl, rfl⟩
  rw [absv_neg hx, hk]
  go_wp2_with fail
  refine (abs_any Y (by omega) (by omega) _).mono ?_
  rintro e w' ⟨rfl, rfl⟩
  rw [absv_pos (n := Y) (by omega)]
  go_wp2_with fail
  refine (abs_any X (by omega) (by omega) _).mono ?_
  rintro e w' ⟨rfl, rfl⟩
  rw [absv_neg hx, hk]
  go_wp2_with fail
  refine (abs_any Y (by omega) (by omega) _).mono ?_
  rintro e w' ⟨rfl, rfl⟩
  rw [absv_pos (n := Y) (by omega)]
  go_wp2_with fail
  refine (abs_any Y (by omega) (by omega) _).mono ?_
  rintro e w' ⟨rfl, rfl⟩
  rw [absv_pos (n := Y) (by omega)]
  go_wp2_with fail
  refine (abs_any X (by omega) (by omega) _).mono ?_
  rintro e w' ⟨rfl, rfl⟩
  rw [absv_neg hx, hk]
  go_wp2
  go_ret
  exact ⟨rfl, rfl⟩

set_option maxRecDepth 100000 in
set_option maxHeartbeats 1600000 in
theorem refAtan_any_pzs (y x Y : Int) (cy : Hid (clip y = Y)) (cx : Hid (clip x = 0)) (hy2 : Y ≤ 2147483647) (hy : 0 < Y)   (w : World) :
    Calls Try.prog 18 #[.int .i64 y, .int .i64 x] w fun e w' => e = .returned (.int .i64 (16384 - slopev 0 Y)) ∧ w' = w := by
  have hne : ¬ Y = 0 := by omega
  rw [show slopev 0 Y = 0 by unfold slopev; rw [part_nil]; decide]
  have hz : (0 : Int) / Y = 0 := Int.zero_ediv _
  go_enter Try.func18, Try.ntmps18
  go_wp2_with fail
  refine (refClip_any y _).mono ?_
  rintro e w' ⟨rfl, rfl⟩
  rw [cy.out]
  go_wp2_with fail
  refine (refClip_any x _).mono ?_
  rintro e w' ⟨rfl, rfl⟩
  rw [cx.out]
  go_wp2_with fail
  refine (abs_any 0 (by omega) (by omega) _).mono ?_
  rintro e w' ⟨rfl, rfl⟩
  rw [absv_pos (n := 0) (by omega)]
  go_wp2_with fail
  refine (abs_any Y (by omega) (by omega) _).mono ?_
  rintro e w' ⟨rfl, rfl⟩
  rw [absv_pos (n := Y) (by omega)]
  go_wp2_with fail
  refine (abs_any 0 (by omega) (by omega) _).mono ?_
  rintro e w' ⟨rfl, rfl⟩
  rw [absv_pos (n := 0) (by omega)]
  go_wp2_with fail
  refine (abs_any Y (by omega) (by omega) _).mono ?_
  rintro e w' ⟨rfl, rfl⟩
  rw [absv_pos (n := Y) (by omega)]
  go_wp2_with fail
  refine (abs_any Y (by omega) (by omega) _).mono ?_
  rintro e w' ⟨rfl, rfl⟩
  rw [absv_pos (n := Y) (by omega)]
  go_wp2_with fail
  refine (abs_any 0 (by omega) (by omega) _).mono ?_
  rintro e w' ⟨rfl, rfl⟩
  rw [absv_pos (n := 0) (by omega)]
  go_wp2
  go_ret
  exact ⟨rfl, rfl⟩

set_option maxRecDepth 100000 in
set_option maxHeartbeats 1600000 in
theorem refAtan_any_pps (y x Y X : Int) (cy : Hid (clip y = Y)) (cx : Hid (clip x = X)) (hy2 : Y ≤ 2147483647) (hy : 0 < Y) (hx2 : X ≤ 2147483647) (hx : 0 < X) (hs : X < Y) (w : World) :
    Calls Try.prog 18 #[.int .i64 y, .int .i64 x] w fun e w' => e = .returned (.int .i64 (16384 - slopev X Y)) ∧ w' = w := by
  obtain ⟨q0, q1⟩ := slope_bd (v := X) (u := Y) (by omega) (by omega) (by omega)
  have hne : ¬ Y = 0 := by omega
  obtain ⟨z0, z1⟩ := part_bd (v := X) (u := Y) (by omega) (by omega) (by omega)
  obtain ⟨p0, p1⟩ := lean_prod z0 z1
  unfold slopev leanv at *
  unfold part at *
  obtain ⟨z, hz⟩ : ∃ z, X * 65536 / Y = z := ⟨_, rfl⟩
  rw [hz] at z0 z1 p0 p1 q0 q1 ⊢
  obtain ⟨Q, hQ⟩ : ∃ Q, (8192 * z * 65536 + 2847 * z * (65536 - z)) / 4294967296 = Q := ⟨_, rfl⟩
  rw [hQ] at q0 q1 ⊢
  go_enter Try.func18, Try.ntmps18
  go_wp2_with fail
  refine (refClip_any y _).mono ?_
  rintro e w' ⟨rfl, rfl⟩
  rw [cy.out]
  go_wp2_with fail
  refine (refClip_any x _).mono ?_
  rintro e w' ⟨rfl, rfl⟩
  rw [cx.out]
  go_wp2_with fail
  refine (abs_any X (by omega) (by omega) _).mono ?_
  rintro e w' ⟨rfl, rfl⟩
  rw [absv_pos (n := X) (by omega)]
  go_wp2_with fail
  refine (abs_any Y (by omega) (by omega) _).mono ?_
  rintro e w' ⟨rfl, rfl⟩
  rw [absv_pos (n := Y) (by omega)]
  go_wp2_with fail
  refine (abs_any X (by omega) (by omega) _).mono ?_
  rintro e w' ⟨rfl, rfl⟩
  rw [absv_pos (n := X) (by omega)]
  go_wp2_with fail
  refine (abs_any Y (by omega) (by omega) _).mono ?_
  rintro e w' ⟨rfl, rfl⟩
  rw [absv_pos (n := Y) (by omega)]
  go_wp2_with fail
  refine (abs_any Y (by omega) (by omega) _).mono ?_
  rintro e w' ⟨rfl, rfl⟩
  rw [absv_pos (n := Y) (by omega)]
  go_wp2_with fail
  refine (abs_any X (by omega) (by omega) _).mono ?_
  rintro e w' ⟨rfl, rfl⟩
  rw [absv_pos (n := X) (by omega)]
  go_wp2
  go_ret
  exact ⟨rfl, rfl⟩

set_option maxRecDepth 100000 in
set_option maxHeartbeats 1600000 in
theorem refAtan_any_ppf (y x Y X : Int) (cy : Hid (clip y = Y)) (cx : Hid (clip x = X)) (hy2 : Y ≤ 2147483647) (hy : 0 < Y) (hx2 : X ≤ 2147483647) (hx : 0 < X) (hs : Y ≤ X) (w : World) :
    Calls Try.prog 18 #[.int .i64 y, .int .i64 x] w fun e w' => e = .returned (.int .i64 (slopev Y X)) ∧ w' = w := by
  obtain ⟨q0, q1⟩ := slope_bd (v := Y) (u := X) (by omega) (by omega) (by omega)
  have hne : ¬ X = 0 := by omega
  obtain ⟨z0, z1⟩ := part_bd (v := Y) (u := X) (by omega) (by omega) (by omega)
  obtain ⟨p0, p1⟩ := lean_prod z0 z1
  unfold slopev leanv at *
  unfold part at *
  obtain ⟨z, hz⟩ : ∃ z, Y * 65536 / X = z := ⟨_, rfl⟩
  rw [hz] at z0 z1 p0 p1 q0 q1 ⊢
  obtain ⟨Q, hQ⟩ : ∃ Q, (8192 * z * 65536 + 2847 * z * (65536 - z)) / 4294967296 = Q := ⟨_, rfl⟩
  rw [hQ] at q0 q1 ⊢
  have em : (if Y < X then Y else X) = Y := by split <;> omega
  go_enter Try.func18, Try.ntmps18
  go_wp2_with fail
  refine (refClip_any y _).mono ?_
  rintro e w' ⟨rfl, rfl⟩
  rw [cy.out]
  go_wp2_with fail
  refine (refClip_any x _).mono ?_
  rintro e w' ⟨rfl, rfl⟩
  rw [cx.out]
  go_wp2_with fail
  refine (abs_any X (by omega) (by omega) _).mono ?_
  rintro e w' ⟨rfl, rfl⟩
  rw [absv_pos (n := X) (by omega)]
  go_wp2_with fail
  refine (abs_any Y (by omega) (by omega) _).mono ?_
  rintro e w' ⟨rfl, rfl⟩
  rw [absv_pos (n := Y) (by omega)]
  go_wp2_with fail
  refine (abs_any X (by omega) (by omega) _).mono ?_
  rintro e w' ⟨rfl, rfl⟩
  rw [absv_pos (n := X) (by omega)]
  go_wp2_with fail
  refine (abs_any Y (by omega) (by omega) _).mono ?_
  rintro e w' ⟨rfl, rfl⟩
  rw [absv_pos (n := Y) (by omega)]
  go_wp2_with fail
  refine (abs_any Y (by omega) (by omega) _).mono ?_
  rintro e w' ⟨rfl, rfl⟩
  rw [absv_pos (n := Y) (by omega)]
  go_wp2_with fail
  refine (abs_any X (by omega) (by omega) _).mono ?_
  rintro e w' ⟨rfl, rfl⟩
  rw [absv_pos (n := X) (by omega)]
  go_wp2
  go_ret
  exact ⟨rfl, rfl⟩

theorem refAtan_any (y x : Int) (w : World) :
    Calls Try.prog 18 #[.int .i64 y, .int .i64 x] w fun e w' => e = .returned (.int .i64 (atanv y x)) ∧ w' = w := by
  obtain ⟨hy1, hy2⟩ := clip_bd y
  obtain ⟨hx1, hx2⟩ := clip_bd x
  unfold atanv
  have cy : ∃ Y, Hid (clip y = Y) := ⟨_, rfl⟩
  have cx : ∃ X, Hid (clip x = X) := ⟨_, rfl⟩
  obtain ⟨Y, cy⟩ := cy
  obtain ⟨X, cx⟩ := cx
  rw [cy.out] at hy1 hy2
  rw [cx.out] at hx1 hx2
  rw [cy.out, cx.out]
  by_cases h0 : Y = 0 ∧ X = 0
  · rw [if_pos h0]
    obtain ⟨h0y, h0x⟩ := h0
    go_enter Try.func18, Try.ntmps18
    go_wp2_with fail
    refine (refClip_any y _).mono ?_
    rintro e w' ⟨rfl, rfl⟩
    rw [cy.out, h0y]
    go_wp2_with fail
    refine (refClip_any x _).mono ?_
    rintro e w' ⟨rfl, rfl⟩
    rw [cx.out, h0x]
    go_wp2
    go_ret
    exact ⟨rfl, rfl⟩
  · rw [if_neg h0]
    unfold seen
    rcases Int.lt_trichotomy Y 0 with hy | hy | hy
    · rw [if_pos hy, absv_neg hy]
      rcases Int.lt_trichotomy X 0 with hx | hx | hx
      · rw [if_pos hx, absv_neg hx]
        rcases Int.lt_or_le (-X) (-Y) with hs | hs
        · rw [quart_steep hs]
          exact refAtan_any_nns y x Y X _ _ cy cx hy1 hy rfl hx1 hx rfl hs w
        · rw [quart_flat (by omega)]
          exact refAtan_any_nnf y x Y X _ _ cy cx hy1 hy rfl hx1 hx rfl hs w
      · subst hx; rw [if_neg (by omega), absv_pos (n := 0) (by omega)]
        rw [quart_steep (by omega)]
        exact refAtan_any_nzs y x Y _ cy cx hy1 hy rfl w
      · rw [if_neg (by omega), absv_pos (n := X) (by omega)]
        rcases Int.lt_or_le X (-Y) with hs | hs
        · rw [quart_steep hs]
          exact refAtan_any_nps y x Y X _ cy cx hy1 hy rfl hx2 hx hs w
        · rw [quart_flat (by omega)]
          exact refAtan_any_npf y x Y X _ cy cx hy1 hy rfl hx2 hx hs w
    · subst hy; rw [if_neg (by omega), absv_pos (n := 0) (by omega)]
      rcases Int.lt_trichotomy X 0 with hx | hx | hx
      · rw [if_pos hx, absv_neg hx]
        rw [quart_flat (by omega)]
        exact refAtan_any_znf y x X _ cy cx hx1 hx rfl w
      · exact absurd ⟨rfl, hx⟩ h0
      · rw [if_neg (by omega), absv_pos (n := X) (by omega)]
        rw [quart_flat (by omega)]
        exact refAtan_any_zpf y x X cy cx hx2 hx w
    · rw [if_neg (by omega), absv_pos (n := Y) (by omega)]
      rcases Int.lt_trichotomy X 0 with hx | hx | hx
      · rw [if_pos hx, absv_neg hx]
        rcases Int.lt_or_le (-X) Y with hs | hs
        · rw [quart_steep hs]
          exact refAtan_any_pns y x Y X _ cy cx hy2 hy hx1 hx rfl hs w
        · rw [quart_flat (by omega)]
          exact refAtan_any_pnf y x Y X _ cy cx hy2 hy hx1 hx rfl hs w
      · subst hx; rw [if_neg (by omega), absv_pos (n := 0) (by omega)]
        rw [quart_steep (by omega)]
        exact refAtan_any_pzs y x Y cy cx hy2 hy w
      · rw [if_neg (by omega), absv_pos (n := X) (by omega)]
        rcases Int.lt_or_le X Y with hs | hs
        · rw [quart_steep hs]
          exact refAtan_any_pps y x Y X cy cx hy2 hy hx2 hx hs w
        · rw [quart_flat (by omega)]
          exact refAtan_any_ppf y x Y X cy cx hy2 hy hx2 hx hs w
end Go.Proofs.Ytgbmmbimcmegcaa
