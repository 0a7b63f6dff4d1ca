/-
  Package pixel and the reference's chapter 12, number by number, as contracts.
-/
import Derived.Test.YtdaapanmalcgbabDoorNum
namespace Go.Proofs.YtdaapanmalcgbabDoor
open Go.RowKit


theorem isByte_any (n : Int) (w : World) : Calls Tryd.prog 19 #[.int .i64 n] w fun e w' => e = .returned (.bool (isb n)) ∧ w' = w := by
  by_cases h : 0 ≤ n
  · by_cases h2 : n ≤ 255
    · rw [show isb n = true from (isb_iff n).2 ⟨h, h2⟩]
      go_enter Tryd.func19, Tryd.ntmps19
      go_wp2
      go_ret
      exact ⟨rfl, rfl⟩
    · rw [show isb n = false by unfold isb; simp [h2]]
      go_enter Tryd.func19, Tryd.ntmps19
      go_wp2
      go_ret
      exact ⟨rfl, rfl⟩
  · rw [show isb n = false by unfold isb; simp [h]]
    go_enter Tryd.func19, Tryd.ntmps19
    go_wp2
    go_ret
    exact ⟨rfl, rfl⟩

theorem within_any (n m : Int) (hm : 0 ≤ m) (w : World) : Calls Tryd.prog 20 #[.int .i64 n, .int .i64 m] w fun e w' => e = .returned (.int .i64 (win n m)) ∧ w' = w := by
  by_cases h : n < 0
  · rw [win_lo h]
    go_enter Tryd.func20, Tryd.ntmps20
    go_wp2
    go_ret
    exact ⟨rfl, rfl⟩
  · by_cases h2 : m < n
    · rw [win_hi hm h2]
      go_enter Tryd.func20, Tryd.ntmps20
      go_wp2
      all_goals
        go_ret
        exact ⟨ret_int (by omega), rfl⟩
    · rw [win_id (by omega) (by omega)]
      go_enter Tryd.func20, Tryd.ntmps20
      go_wp2
      all_goals
        go_ret
        exact ⟨ret_int (by omega), rfl⟩
theorem part_any (a b : Int) (w : World) : Calls Tryd.prog 15 #[.int .i64 a, .int .i64 b] w fun e w' => e = .returned (.int .i64 (partv a b)) ∧ w' = w := by
  obtain ⟨h1, h2⟩ := part_mul a b
  unfold partv
  go_enter Tryd.func15, Tryd.ntmps15
  go_wp2_with fail
  refine (within_any a 255 (by omega) _).mono ?_
  rintro e w' ⟨rfl, rfl⟩
  go_wp2_with fail
  refine (within_any b 255 (by omega) _).mono ?_
  rintro e w' ⟨rfl, rfl⟩
  go_wp2
  go_ret
  exact ⟨rfl, rfl⟩
theorem quo_bd {c a : Int} (hc : 0 ≤ c) (hc2 : c ≤ 255) (ha : 1 ≤ a) (ha2 : a ≤ 255) : 0 ≤ (c * 255 + a / 2) / a ∧ (c * 255 + a / 2) / a ≤ 65152 := by
  refine ⟨Int.ediv_nonneg (by omega) (by omega), ?_⟩
  have := Int.ediv_le_self a (show 0 ≤ c * 255 + a / 2 by omega)
  omega
theorem bared_any (c a : Int) (hc : 0 ≤ c) (hc2 : c ≤ 255) (ha : 1 ≤ a) (ha2 : a ≤ 255) (w : World) : Calls Tryd.prog 27 #[.int .i64 c, .int .i64 a] w fun e w' => e = .returned (.int .i64 (baredv c a)) ∧ w' = w := by
  obtain ⟨h1, h2⟩ := quo_bd hc hc2 ha ha2
  have hne : ¬ a = 0 := by omega
  by_cases h : (c * 255 + a / 2) / a < 255
  · rw [show baredv c a = (c * 255 + a / 2) / a from if_pos h]
    go_enter Tryd.func27, Tryd.ntmps27
    go_wp2
    go_ret
    exact ⟨rfl, rfl⟩
  · rw [show baredv c a = 255 from if_neg h]
    go_enter Tryd.func27, Tryd.ntmps27
    go_wp2
    go_ret
    exact ⟨rfl, rfl⟩
theorem right_any (p : Px) (w : World) : Calls Tryd.prog 12 #[pv p] w fun e w' => e = .returned (.bool (rightv p)) ∧ Below w.heap.size w w' := by
  have hB : Below w.heap.size w (w.alloc (pblk p)) := (Below.refl _ w).alloc (Nat.le_refl _) _
  obtain ⟨r, g, b, a⟩ := p
  obtain ⟨R, hR⟩ : ∃ R, isb r = R := ⟨_, rfl⟩
  obtain ⟨G, hG⟩ : ∃ R, isb g = R := ⟨_, rfl⟩
  obtain ⟨B, hBb⟩ : ∃ R, isb b = R := ⟨_, rfl⟩
  obtain ⟨A, hA⟩ : ∃ R, isb a = R := ⟨_, rfl⟩
  have HR : Hid (isb r = R) := hR
  have HG : Hid (isb g = G) := hG
  have HB : Hid (isb b = B) := hBb
  have HA : Hid (isb a = A) := hA
  rw [show rightv ⟨r, g, b, a⟩ = (R && G && B && A) by unfold rightv; rw [hR, hG, hBb, hA]]
  clear hR hG hBb hA
  go_enter Tryd.func12, Tryd.ntmps12
  go_wp2_with fail
  refine (isByte_any r _).mono ?_
  rintro e w' ⟨rfl, rfl⟩
  rw [HR.out]
  cases R
  · go_wp2
    go_ret
    exact ⟨rfl, hB⟩
  go_wp2_with fail
  refine (isByte_any g _).mono ?_
  rintro e w' ⟨rfl, rfl⟩
  rw [HG.out]
  cases G
  · go_wp2
    go_ret
    exact ⟨rfl, hB⟩
  go_wp2_with fail
  refine (isByte_any b _).mono ?_
  rintro e w' ⟨rfl, rfl⟩
  rw [HB.out]
  cases B
  · go_wp2
    go_ret
    exact ⟨rfl, hB⟩
  go_wp2_with fail
  refine (isByte_any a _).mono ?_
  rintro e w' ⟨rfl, rfl⟩
  rw [HA.out]
  go_wp2
  go_ret
  exact ⟨rfl, hB⟩
end Go.Proofs.YtdaapanmalcgbabDoor
