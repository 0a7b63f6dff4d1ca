/-
  angle.Atan, as a contract: by the signs and by which of the two is greater.
-/
import Derived.Test.YtgbmmbimcmegcaaAng
namespace Go.Proofs.Ytgbmmbimcmegcaa
open Go.RowKit

set_option maxRecDepth 100000 in
set_option maxHeartbeats 1600000 in
theorem atan_any_000 (y x Y X t k : Int) (cy : Hid (clip y = Y)) (cx : Hid (clip x = X)) (hy1 : -2147483647 ≤ Y) (hy2 : Y ≤ 2147483647) (hx1 : -2147483647 ≤ X) (hx2 : X ≤ 2147483647)
    (hy : Y < 0) (hx : X < 0) (ht : -Y = t) (hk : -X = k) (hs : k < t) (hn : 0 < t) (w : World) :
    Calls Try.prog 12 #[.int .i64 y, .int .i64 x] w fun e w' => e = .returned (.int .i64 (normv (-(32768 - (16384 - slopev k t))))) ∧ w' = w := by
  obtain ⟨q0, q1⟩ := slope_bd (v := k) (u := t) (by omega) (by omega) (by omega)
  have et : (if Y < -Y then -Y else Y) = t := by rw [if_pos (by omega), ht]
  have ek : (if X < -X then -X else X) = k := by rw [if_pos (by omega), hk]
  go_enter Try.func12, Try.ntmps12
  go_wp2_with fail
  refine (clip_any y _).mono ?_
  rintro e w' ⟨rfl, rfl⟩
  rw [cy.out]
  go_wp2_with fail
  refine (clip_any x _).mono ?_
  rintro e w' ⟨rfl, rfl⟩
  rw [cx.out]
  go_wp2_with fail
  refine (slope_any k t (by omega) (by omega) (by omega) (by omega) _).mono ?_
  rintro e w' ⟨rfl, rfl⟩
  go_wp2_with fail
  refine (norm_any _ _).mono ?_
  rintro e w' ⟨rfl, rfl⟩
  go_wp2
  go_ret
  exact ⟨rfl, rfl⟩

set_option maxRecDepth 100000 in
set_option maxHeartbeats 1600000 in
theorem atan_any_002 (y x Y X t k : Int) (cy : Hid (clip y = Y)) (cx : Hid (clip x = X)) (hy1 : -2147483647 ≤ Y) (hy2 : Y ≤ 2147483647) (hx1 : -2147483647 ≤ X) (hx2 : X ≤ 2147483647)
    (hy : Y < 0) (hx : X < 0) (ht : -Y = t) (hk : -X = k) (hs : t ≤ k) (hn : 0 < k) (w : World) :
    Calls Try.prog 12 #[.int .i64 y, .int .i64 x] w fun e w' => e = .returned (.int .i64 (normv (-(32768 - slopev t k)))) ∧ w' = w := by
  obtain ⟨q0, q1⟩ := slope_bd (v := t) (u := k) (by omega) (by omega) (by omega)
  have et : (if Y < -Y then -Y else Y) = t := by rw [if_pos (by omega), ht]
  have ek : (if X < -X then -X else X) = k := by rw [if_pos (by omega), hk]
  have em : (if t < k then k else t) = k := by split <;> omega
  go_enter Try.func12, Try.ntmps12
  go_wp2_with fail
  refine (clip_any y _).mono ?_
  rintro e w' ⟨rfl, rfl⟩
  rw [cy.out]
  go_wp2_with fail
  refine (clip_any x _).mono ?_
  rintro e w' ⟨rfl, rfl⟩
  rw [cx.out]
  go_wp2_with fail
  refine (slope_any t k (by omega) (by omega) (by omega) (by omega) _).mono ?_
  rintro e w' ⟨rfl, rfl⟩
  go_wp2_with fail
  refine (norm_any _ _).mono ?_
  rintro e w' ⟨rfl, rfl⟩
  go_wp2
  go_ret
  exact ⟨rfl, rfl⟩

set_option maxRecDepth 100000 in
set_option maxHeartbeats 1600000 in
theorem atan_any_010 (y x Y X t k : Int) (cy : Hid (clip y = Y)) (cx : Hid (clip x = X)) (hy1 : -2147483647 ≤ Y) (hy2 : Y ≤ 2147483647) (hx1 : -2147483647 ≤ X) (hx2 : X ≤ 2147483647)
    (hy : Y < 0) (hx : 0 ≤ X) (ht : -Y = t) (hk : X = k) (hs : k < t) (hn : 0 < t) (w : World) :
    Calls Try.prog 12 #[.int .i64 y, .int .i64 x] w fun e w' => e = .returned (.int .i64 (normv (-(16384 - slopev k t)))) ∧ w' = w := by
  obtain ⟨q0, q1⟩ := slope_bd (v := k) (u := t) (by omega) (by omega) (by omega)
  have et : (if Y < -Y then -Y else Y) = t := by rw [if_pos (by omega), ht]
  have ek : (if X < -X then -X else X) = k := by rw [if_neg (by omega), hk]
  go_enter Try.func12, Try.ntmps12
  go_wp2_with fail
  refine (clip_any y _).mono ?_
  rintro e w' ⟨rfl, rfl⟩
  rw [cy.out]
  go_wp2_with fail
  refine (clip_any x _).mono ?_
  rintro e w' ⟨rfl, rfl⟩
  rw [cx.out]
  go_wp2_with fail
  refine (slope_any k t (by omega) (by omega) (by omega) (by omega) _).mono ?_
  rintro e w' ⟨rfl, rfl⟩
  go_wp2_with fail
  refine (norm_any _ _).mono ?_
  rintro e w' ⟨rfl, rfl⟩
  go_wp2
  go_ret
  exact ⟨rfl, rfl⟩

set_option maxRecDepth 100000 in
set_option maxHeartbeats 1600000 in
theorem atan_any_012 (y x Y X t k : Int) (cy : Hid (clip y = Y)) (cx : Hid (clip x = X)) (hy1 : -2147483647 ≤ Y) (hy2 : Y ≤ 2147483647) (hx1 : -2147483647 ≤ X) (hx2 : X ≤ 2147483647)
    (hy : Y < 0) (hx : 0 ≤ X) (ht : -Y = t) (hk : X = k) (hs : t ≤ k) (hn : 0 < k) (w : World) :
    Calls Try.prog 12 #[.int .i64 y, .int .i64 x] w fun e w' => e = .returned (.int .i64 (normv (-(slopev t k)))) ∧ w' = w := by
  obtain ⟨q0, q1⟩ := slope_bd (v := t) (u := k) (by omega) (by omega) (by omega)
  have et : (if Y < -Y then -Y else Y) = t := by rw [if_pos (by omega), ht]
  have ek : (if X < -X then -X else X) = k := by rw [if_neg (by omega), hk]
  have em : (if t < k then k else t) = k := by split <;> omega
  go_enter Try.func12, Try.ntmps12
  go_wp2_with fail
  refine (clip_any y _).mono ?_
  rintro e w' ⟨rfl, rfl⟩
  rw [cy.out]
  go_wp2_with fail
  refine (clip_any x _).mono ?_
  rintro e w' ⟨rfl, rfl⟩
  rw [cx.out]
  go_wp2_with fail
  refine (slope_any t k (by omega) (by omega) (by omega) (by omega) _).mono ?_
  rintro e w' ⟨rfl, rfl⟩
  go_wp2_with fail
  refine (norm_any _ _).mono ?_
  rintro e w' ⟨rfl, rfl⟩
  go_wp2
  go_ret
  exact ⟨rfl, rfl⟩

set_option maxRecDepth 100000 in
set_option maxHeartbeats 1600000 in
theorem atan_any_100 (y x Y X t k : Int) (cy : Hid (clip y = Y)) (cx : Hid (clip x = X)) (hy1 : -2147483647 ≤ Y) (hy2 : Y ≤ 2147483647) (hx1 : -2147483647 ≤ X) (hx2 : X ≤ 2147483647)
    (hy : 0 ≤ Y) (hx : X < 0) (ht : Y = t) (hk : -X = k) (hs : k < t) (hn : 0 < t) (w : World) :
    Calls Try.prog 12 #[.int .i64 y, .int .i64 x] w fun e w' => e = .returned (.int .i64 (32768 - (16384 - slopev k t))) ∧ w' = w := by
  obtain ⟨q0, q1⟩ := slope_bd (v := k) (u := t) (by omega) (by omega) (by omega)
  have et : (if Y < -Y then -Y else Y) = t := by rw [if_neg (by omega), ht]
  have ek : (if X < -X then -X else X) = k := by rw [if_pos (by omega), hk]
  go_enter Try.func12, Try.ntmps12
  go_wp2_with fail
  refine (clip_any y _).mono ?_
  rintro e w' ⟨rfl, rfl⟩
  rw [cy.out]
  go_wp2_with fail
  refine (clip_any x _).mono ?_
  rintro e w' ⟨rfl, rfl⟩
  rw [cx.out]
  go_wp2_with fail
  refine (slope_any k t (by omega) (by omega) (by omega) (by omega) _).mono ?_
  rintro e w' ⟨rfl, rfl⟩
  go_wp2
  go_ret
  exact ⟨rfl, rfl⟩

set_option maxRecDepth 100000 in
set_option maxHeartbeats 1600000 in
theorem atan_any_101 (y x Y X t k : Int) (cy : Hid (clip y = Y)) (cx : Hid (clip x = X)) (hy1 : -2147483647 ≤ Y) (hy2 : Y ≤ 2147483647) (hx1 : -2147483647 ≤ X) (hx2 : X ≤ 2147483647)
    (hy : 0 ≤ Y) (hx : X < 0) (ht : Y = t) (hk : -X = k) (hs : t ≤ k) (h0 : t = 0) (hn : 0 < k) (w : World) :
    Calls Try.prog 12 #[.int .i64 y, .int .i64 x] w fun e w' => e = .returned (.int .i64 (32768 - slopev t k)) ∧ w' = w := by
  obtain ⟨q0, q1⟩ := slope_bd (v := t) (u := k) (by omega) (by omega) (by omega)
  subst h0
  obtain rfl : Y = 0 := by omega
  have ek : (if X < -X then -X else X) = k := by rw [if_pos (by omega), hk]
  go_enter Try.func12, Try.ntmps12
  go_wp2_with fail
  refine (clip_any y _).mono ?_
  rintro e w' ⟨rfl, rfl⟩
  rw [cy.out]
  go_wp2_with fail
  refine (clip_any x _).mono ?_
  rintro e w' ⟨rfl, rfl⟩
  rw [cx.out]
  go_wp2_with fail
  refine (slope_any 0 k (by omega) (by omega) (by omega) (by omega) _).mono ?_
  rintro e w' ⟨rfl, rfl⟩
  go_wp2
  go_ret
  exact ⟨rfl, rfl⟩

set_option maxRecDepth 100000 in
set_option maxHeartbeats 1600000 in
theorem atan_any_102 (y x Y X t k : Int) (cy : Hid (clip y = Y)) (cx : Hid (clip x = X)) (hy1 : -2147483647 ≤ Y) (hy2 : Y ≤ 2147483647) (hx1 : -2147483647 ≤ X) (hx2 : X ≤ 2147483647)
    (hy : 0 ≤ Y) (hx : X < 0) (ht : Y = t) (hk : -X = k) (hs : t ≤ k) (h0 : 0 < t) (hn : 0 < k) (w : World) :
    Calls Try.prog 12 #[.int .i64 y, .int .i64 x] w fun e w' => e = .returned (.int .i64 (32768 - slopev t k)) ∧ w' = w := by
  obtain ⟨q0, q1⟩ := slope_bd (v := t) (u := k) (by omega) (by omega) (by omega)
  have et : (if Y < -Y then -Y else Y) = t := by rw [if_neg (by omega), ht]
  have ek : (if X < -X then -X else X) = k := by rw [if_pos (by omega), hk]
  have em : (if t < k then k else t) = k := by split <;> omega
  go_enter Try.func12, Try.ntmps12
  go_wp2_with fail
  refine (clip_any y _).mono ?_
  rintro e w' ⟨rfl, rfl⟩
  rw [cy.out]
  go_wp2_with fail
  refine (clip_any x _).mono ?_
  rintro e w' ⟨rfl, rfl⟩
  rw [cx.out]
  go_wp2_with fail
  refine (slope_any t k (by omega) (by omega) (by omega) (by omega) _).mono ?_
  rintro e w' ⟨rfl, rfl⟩
  go_wp2
  go_ret
  exact ⟨rfl, rfl⟩

set_option maxRecDepth 100000 in
set_option maxHeartbeats 1600000 in
theorem atan_any_110 (y x Y X t k : Int) (cy : Hid (clip y = Y)) (cx : Hid (clip x = X)) (hy1 : -2147483647 ≤ Y) (hy2 : Y ≤ 2147483647) (hx1 : -2147483647 ≤ X) (hx2 : X ≤ 2147483647)
    (hy : 0 ≤ Y) (hx : 0 ≤ X) (ht : Y = t) (hk : X = k) (hs : k < t) (hn : 0 < t) (w : World) :
    Calls Try.prog 12 #[.int .i64 y, .int .i64 x] w fun e w' => e = .returned (.int .i64 (16384 - slopev k t)) ∧ w' = w := by
  obtain ⟨q0, q1⟩ := slope_bd (v := k) (u := t) (by omega) (by omega) (by omega)
  have et : (if Y < -Y then -Y else Y) = t := by rw [if_neg (by omega), ht]
  have ek : (if X < -X then -X else X) = k := by rw [if_neg (by omega), hk]
  go_enter Try.func12, Try.ntmps12
  go_wp2_with fail
  refine (clip_any y _).mono ?_
  rintro e w' ⟨rfl, rfl⟩
  rw [cy.out]
  go_wp2_with fail
  refine (clip_any x _).mono ?_
  rintro e w' ⟨rfl, rfl⟩
  rw [cx.out]
  go_wp2_with fail
  refine (slope_any k t (by omega) (by omega) (by omega) (by omega) _).mono ?_
  rintro e w' ⟨rfl, rfl⟩
  go_wp2
  go_ret
  exact ⟨rfl, rfl⟩

set_option maxRecDepth 100000 in
set_option maxHeartbeats 1600000 in
theorem atan_any_111 (y x Y X t k : Int) (cy : Hid (clip y = Y)) (cx : Hid (clip x = X)) (hy1 : -2147483647 ≤ Y) (hy2 : Y ≤ 2147483647) (hx1 : -2147483647 ≤ X) (hx2 : X ≤ 2147483647)
    (hy : 0 ≤ Y) (hx : 0 ≤ X) (ht : Y = t) (hk : X = k) (hs : t ≤ k) (h0 : t = 0) (hn : 0 < k) (w : World) :
    Calls Try.prog 12 #[.int .i64 y, .int .i64 x] w fun e w' => e = .returned (.int .i64 (slopev t k)) ∧ w' = w := by
  obtain ⟨q0, q1⟩ := slope_bd (v := t) (u := k) (by omega) (by omega) (by omega)
  subst h0
  obtain rfl : Y = 0 := by omega
  have ek : (if X < -X then -X else X) = k := by rw [if_neg (by omega), hk]
  go_enter Try.func12, Try.ntmps12
  go_wp2_with fail
  refine (clip_any y _).mono ?_
  rintro e w' ⟨rfl, rfl⟩
  rw [cy.out]
  go_wp2_with fail
  refine (clip_any x _).mono ?_
  rintro e w' ⟨rfl, rfl⟩
  rw [cx.out]
  go_wp2_with fail
  refine (slope_any 0 k (by omega) (by omega) (by omega) (by omega) _).mono ?_
  rintro e w' ⟨rfl, rfl⟩
  go_wp2
  go_ret
  exact ⟨rfl, rfl⟩

set_option maxRecDepth 100000 in
set_option maxHeartbeats 1600000 in
theorem atan_any_112 (y x Y X t k : Int) (cy : Hid (clip y = Y)) (cx : Hid (clip x = X)) (hy1 : -2147483647 ≤ Y) (hy2 : Y ≤ 2147483647) (hx1 : -2147483647 ≤ X) (hx2 : X ≤ 2147483647)
    (hy : 0 ≤ Y) (hx : 0 ≤ X) (ht : Y = t) (hk : X = k) (hs : t ≤ k) (h0 : 0 < t) (hn : 0 < k) (w : World) :
    Calls Try.prog 12 #[.int .i64 y, .int .i64 x] w fun e w' => e = .returned (.int .i64 (slopev t k)) ∧ w' = w := by
  obtain ⟨q0, q1⟩ := slope_bd (v := t) (u := k) (by omega) (by omega) (by omega)
  have et : (if Y < -Y then -Y else Y) = t := by rw [if_neg (by omega), ht]
  have ek : (if X < -X then -X else X) = k := by rw [if_neg (by omega), hk]
  have em : (if t < k then k else t) = k := by split <;> omega
  go_enter Try.func12, Try.ntmps12
  go_wp2_with fail
  refine (clip_any y _).mono ?_
  rintro e w' ⟨rfl, rfl⟩
  rw [cy.out]
  go_wp2_with fail
  refine (clip_any x _).mono ?_
  rintro e w' ⟨rfl, rfl⟩
  rw [cx.out]
  go_wp2_with fail
  refine (slope_any t k (by omega) (by omega) (by omega) (by omega) _).mono ?_
  rintro e w' ⟨rfl, rfl⟩
  go_wp2
  go_ret
  exact ⟨rfl, rfl⟩

theorem atan_any (y x : Int) (w : World) :
    Calls Try.prog 12 #[.int .i64 y, .int .i64 x] w fun e w' => e = .returned (.int .i64 (atanv y x)) ∧ w' = w := by
  obtain ⟨hy1, hy2⟩ := clip_bd y
  obtain ⟨hx1, hx2⟩ := clip_bd x
  unfold atanv
  have cy : ∃ Y, Hid (clip y = Y) := ⟨_, rfl⟩
  have cx : ∃ X, Hid (clip x = X) := ⟨_, rfl⟩
  obtain ⟨Y, cy⟩ := cy
  obtain ⟨X, cx⟩ := cx
  rw [cy.out] at hy1 hy2
  rw [cx.out] at hx1 hx2
  rw [cy.out, cx.out]
  by_cases h0 : Y = 0 ∧ X = 0
  · rw [if_pos h0]
    obtain ⟨h0y, h0x⟩ := h0
    go_enter Try.func12, Try.ntmps12
    go_wp2_with fail
    refine (clip_any y _).mono ?_
    rintro e w' ⟨rfl, rfl⟩
    rw [cy.out, h0y]
    go_wp2_with fail
    refine (clip_any x _).mono ?_
    rintro e w' ⟨rfl, rfl⟩
    rw [cx.out, h0x]
    go_wp2
    go_ret
    exact ⟨rfl, rfl⟩
  · rw [if_neg h0]
    unfold seen
    rcases Int.lt_or_le Y 0 with hy | hy
    · rw [if_pos hy, absv_neg hy]
      rcases Int.lt_or_le X 0 with hx | hx
      · rw [if_pos hx, absv_neg hx]
        rcases Int.lt_or_le (-X) (-Y) with hs | hs
        · rw [quart_steep hs]
          exact atan_any_000 y x Y X _ _ cy cx hy1 hy2 hx1 hx2 hy hx rfl rfl hs (by omega) w
        · rw [quart_flat (by omega)]
          exact atan_any_002 y x Y X _ _ cy cx hy1 hy2 hx1 hx2 hy hx rfl rfl hs (by omega) w
      · rw [if_neg (by omega), absv_pos (n := X) (by omega)]
        rcases Int.lt_or_le (X) (-Y) with hs | hs
        · rw [quart_steep hs]
          exact atan_any_010 y x Y X _ _ cy cx hy1 hy2 hx1 hx2 hy hx rfl rfl hs (by omega) w
        · rw [quart_flat (by omega)]
          exact atan_any_012 y x Y X _ _ cy cx hy1 hy2 hx1 hx2 hy hx rfl rfl hs (by omega) w
    · rw [if_neg (by omega), absv_pos (n := Y) (by omega)]
      rcases Int.lt_or_le X 0 with hx | hx
      · rw [if_pos hx, absv_neg hx]
        rcases Int.lt_or_le (-X) (Y) with hs | hs
        · rw [quart_steep hs]
          exact atan_any_100 y x Y X _ _ cy cx hy1 hy2 hx1 hx2 hy hx rfl rfl hs (by omega) w
        · rw [quart_flat (by omega)]
          by_cases hz : Y = 0
          · exact atan_any_101 y x Y X _ _ cy cx hy1 hy2 hx1 hx2 hy hx rfl rfl hs hz (by omega) w
          · exact atan_any_102 y x Y X _ _ cy cx hy1 hy2 hx1 hx2 hy hx rfl rfl hs (by omega) (by omega) w
      · rw [if_neg (by omega), absv_pos (n := X) (by omega)]
        rcases Int.lt_or_le (X) (Y) with hs | hs
        · rw [quart_steep hs]
          exact atan_any_110 y x Y X _ _ cy cx hy1 hy2 hx1 hx2 hy hx rfl rfl hs (by omega) w
        · rw [quart_flat (by omega)]
          by_cases hz : Y = 0
          · exact atan_any_111 y x Y X _ _ cy cx hy1 hy2 hx1 hx2 hy hx rfl rfl hs hz (by omega) w
          · exact atan_any_112 y x Y X _ _ cy cx hy1 hy2 hx1 hx2 hy hx rfl rfl hs (by omega) (by omega) w
end Go.Proofs.Ytgbmmbimcmegcaa
