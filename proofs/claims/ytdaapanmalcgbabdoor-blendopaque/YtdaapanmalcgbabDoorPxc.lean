/-
  Package pixel and the reference's chapter 12: Premultiplied, Over, Mix, as contracts.
-/
import Derived.Test.YtdaapanmalcgbabDoorPxb
import Derived.Laws.Cover1
namespace Go.Proofs.YtdaapanmalcgbabDoor
open Go.RowKit


set_option maxRecDepth 100000 in
set_option maxHeartbeats 800000 in
theorem premultiplied_any (p : Px) (w : World) : Calls Tryd.prog 8 #[pv p] w fun e w' => e = .returned (.bool (premv p)) ∧ Below w.heap.size w w' := by
  obtain ⟨R, hR⟩ : ∃ R, rightv p = R := ⟨_, rfl⟩
  have HR : Hid (rightv p = R) := hR
  obtain ⟨m, hm⟩ : ∃ m, (if p.r < p.g then p.g else p.r) = m := ⟨_, rfl⟩
  obtain ⟨M, hM⟩ : ∃ M, (if m < p.b then p.b else m) = M := ⟨_, rfl⟩
  have HM : Hid (premv p = (R && decide (M ≤ p.a))) := by
    show _ = _
    unfold premv
    rw [hR]
    cases R
    · rfl
    · rw [← hM, ← hm, Bool.eq_iff_iff]
      simp only [Bool.true_and, Bool.and_eq_true, decide_eq_true_eq]
      repeat' split
      all_goals omega
  clear hR
  go_enter Tryd.func8, Tryd.ntmps8
  go_wp2_with fail
  refine (right_any p _).mono ?_
  rintro e w1 ⟨rfl, hb⟩
  have g1 := Below.blk hb (blk_new w _) (by simp)
  have b1 : Below w.heap.size w w1 := below_new (by simpa using hb)
  clear hb
  obtain ⟨c0, c1, c2, c3⟩ := px_cells g1
  clear g1
  rw [HR.out]
  cases R
  · clear hm hM
    go_wp2
    go_ret
    exact ⟨by rw [HM.out]; rfl, b1⟩
  · by_cases hMa : M ≤ p.a
    · have HE : Hid (premv p = true) := by show _ = _; rw [HM.out, decide_eq_true hMa]; rfl
      go_wp2
      go_ret
      exact ⟨by rw [HE.out]; exact ret_bool (by first | rfl | exact decide_eq_true (by omega) | exact decide_eq_false (by omega)), b1⟩
    · have HE : Hid (premv p = false) := by show _ = _; rw [HM.out, decide_eq_false hMa]; rfl
      go_wp2
      go_ret
      exact ⟨by rw [HE.out]; exact ret_bool (by first | rfl | exact decide_eq_true (by omega) | exact decide_eq_false (by omega)), b1⟩

end Go.Proofs.YtdaapanmalcgbabDoor
