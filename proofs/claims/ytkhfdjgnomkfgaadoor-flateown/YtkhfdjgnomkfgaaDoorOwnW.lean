/-
  FlateOwn, walked: by how the first loop ends.
-/
import Derived.Test.YtkhfdjgnomkfgaaDoorOwnA
import Derived.Test.YtkhfdjgnomkfgaaDoorOwnB
namespace Go.Proofs.YtkhfdjgnomkfgaaDoor
open Go.RowKit

theorem own_walk (w : World) (a : Option Addr) (len cap : Nat) (f : Nat → Int) (a2 : Option Addr) (len2 cap2 : Nat) (f2 : Nat → Int) (h1 : Ints w a len cap f) (h2 : Ints w a2 len2 cap2 f2) (hT : Tab w) :
    Calls Tryd.prog 6 #[.slice a len cap, .slice a2 len2 cap2] w fun e w' => e = .returned (.bool true) ∧ Below w.heap.size w w' := by
  by_cases h : len2 ≤ 20
  · exact own_walkA w a len cap f a2 len2 cap2 f2 h1 h2 hT h
  · exact own_walkB w a len cap f a2 len2 cap2 f2 h1 h2 hT (show 20 < len2 by omega)
end Go.Proofs.YtkhfdjgnomkfgaaDoor
