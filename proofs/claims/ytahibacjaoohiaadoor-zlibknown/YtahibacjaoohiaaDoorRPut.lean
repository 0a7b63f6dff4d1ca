/-
  The reference's put, length, distance.
-/
import Derived.Test.YtahibacjaoohiaaDoorRFl
import Derived.Test.YtahibacjaoohiaaDoorFixP
namespace Go.Proofs.YtahibacjaoohiaaDoor
open Go.RowKit

theorem rlength_any (s : Nat) (h : 257 ≤ s) (h2 : s ≤ 285) (w : World) : Calls Tryd.prog 53 #[.int .i64 (s : Nat)] w fun e w' => e = .returned (.tuple #[.int .i64 (if s = 285 then 258 else sumL (s - 257) : Nat), .int .i64 (if s = 285 then 0 else morev s : Nat)]) ∧ w' = w := by
  rcases (show s = 257 ∨ s = 258 ∨ s = 259 ∨ s = 260 ∨ s = 261 ∨ s = 262 ∨ s = 263 ∨ s = 264 ∨ s = 265 ∨ s = 266 ∨ s = 267 ∨ s = 268 ∨ s = 269 ∨ s = 270 ∨ s = 271 ∨ s = 272 ∨ s = 273 ∨ s = 274 ∨ s = 275 ∨ s = 276 ∨ s = 277 ∨ s = 278 ∨ s = 279 ∨ s = 280 ∨ s = 281 ∨ s = 282 ∨ s = 283 ∨ s = 284 ∨ s = 285 by omega) with rfl | rfl | rfl | rfl | rfl | rfl | rfl | rfl | rfl | rfl | rfl | rfl | rfl | rfl | rfl | rfl | rfl | rfl | rfl | rfl | rfl | rfl | rfl | rfl | rfl | rfl | rfl | rfl | rfl
  all_goals
    go_enter Tryd.func53, Tryd.ntmps53
    go_wp2
    go_ret2
    exact ⟨rfl, rfl⟩
theorem rdistance_any (s : Nat) (h2 : s ≤ 29) (w : World) : Calls Tryd.prog 54 #[.int .i64 (s : Nat)] w fun e w' => e = .returned (.tuple #[.int .i64 (sumD s : Nat), .int .i64 (farv s : Nat)]) ∧ w' = w := by
  rcases (show s = 0 ∨ s = 1 ∨ s = 2 ∨ s = 3 ∨ s = 4 ∨ s = 5 ∨ s = 6 ∨ s = 7 ∨ s = 8 ∨ s = 9 ∨ s = 10 ∨ s = 11 ∨ s = 12 ∨ s = 13 ∨ s = 14 ∨ s = 15 ∨ s = 16 ∨ s = 17 ∨ s = 18 ∨ s = 19 ∨ s = 20 ∨ s = 21 ∨ s = 22 ∨ s = 23 ∨ s = 24 ∨ s = 25 ∨ s = 26 ∨ s = 27 ∨ s = 28 ∨ s = 29 by omega) with rfl | rfl | rfl | rfl | rfl | rfl | rfl | rfl | rfl | rfl | rfl | rfl | rfl | rfl | rfl | rfl | rfl | rfl | rfl | rfl | rfl | rfl | rfl | rfl | rfl | rfl | rfl | rfl | rfl | rfl
  all_goals
    go_enter Tryd.func54, Tryd.ntmps54
    go_wp2
    go_ret2
    exact ⟨rfl, rfl⟩
end Go.Proofs.YtahibacjaoohiaaDoor
