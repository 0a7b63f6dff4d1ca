/-
  slices.Index, slices.Contains of texts; sfnt.mayBeTags, sfnt.word, sfnt.isMark as contracts.
-/
import Derived.Test.YtninhcnpjadjpaaSfn
namespace Go.Proofs.Ytninhcnpjadjpaa
open Go.RowKit

/-- The place, or -1. -/
def fndv (r n : Nat) : Int := if r < n then r else -1
set_option maxRecDepth 100000 in
theorem mark_any (s : ByteArray) (w : World) :
    Calls Try.prog 42 #[.string s] w fun e w' => e = .returned (.bool (markB s)) ∧ w' = w := by
  have HM : Hid (markB s = (decide (s.toList = [0, 1, 0, 0]) || decide (s.toList = [79, 84, 84, 79]) || decide (s.toList = [116, 114, 117, 101]))) := rfl
  go_enter Try.func42, Try.ntmps42
  go_wp2
  · rename_i h1
    go_ret
    exact ⟨ret_bool (by rw [HM.out]; simp [h1]), rfl⟩
  · rename_i h1 h2
    go_ret
    exact ⟨ret_bool (by rw [HM.out]; simp [h2]), rfl⟩
  · rename_i h1 h2
    go_ret
    refine ⟨ret_bool (by
      rw [HM.out]
      have e1 : (s.toList == [0, 1, 0, 0]) = false := beq_eq_false_iff_ne.2 h1
      have e2 : (s.toList == [79, 84, 84, 79]) = false := beq_eq_false_iff_ne.2 h2
      show (s.toList == [0, 1, 0, 0] || s.toList == [79, 84, 84, 79] || s.toList == [116, 114, 117, 101]) = _
      rw [e1, e2, decide_eq_false h1, decide_eq_false h2, Bool.eq_iff_iff]
      simp), rfl⟩
end Go.Proofs.Ytninhcnpjadjpaa
