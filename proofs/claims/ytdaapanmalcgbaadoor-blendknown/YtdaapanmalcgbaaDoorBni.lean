/-
  The reference's Blend, as a contract: any mode.
-/
import Derived.Test.YtdaapanmalcgbaaDoorRb24
import Derived.Test.YtdaapanmalcgbaaDoorRb25
import Derived.Test.YtdaapanmalcgbaaDoorRb26
import Derived.Test.YtdaapanmalcgbaaDoorRb27
import Derived.Test.YtdaapanmalcgbaaDoorRba
namespace Go.Proofs.YtdaapanmalcgbaaDoor
open Go.RowKit

theorem rblend_any (m : Int) (s d : Px) (w : World) : Calls Tryd.prog 13 #[.int .i64 m, pv s, pv d] w fun e w' => e = .returned (blendR m s d) ∧ Below w.heap.size w w' := by
  by_cases hm : m < 0 ∨ 28 ≤ m
  · exact rblend_out m s d hm w
  cases hs : premv s with
  | false => exact rblend_no1 m s d (by omega) (by omega) hs w
  | true =>
    cases hd : premv d with
    | false => exact rblend_no2 m s d (by omega) (by omega) hs hd w
    | true =>
      have ps := (premv_iff s).1 hs
      have pd := (premv_iff d).1 hd
      by_cases h13 : m < 13
      · exact rblend_lo m s d (by omega) h13 ps pd w
      by_cases h24 : m < 24
      · exact rblend_alone m s d (by omega) h24 ps pd w
      rcases (show m = 24 ∨ m = 25 ∨ m = 26 ∨ m = 27 by omega) with rfl | rfl | rfl | rfl
      · exact rblend24 s d ps pd w
      · exact rblend25 s d ps pd w
      · exact rblend26 s d ps pd w
      · exact rblend27 s d ps pd w
end Go.Proofs.YtdaapanmalcgbaaDoor
