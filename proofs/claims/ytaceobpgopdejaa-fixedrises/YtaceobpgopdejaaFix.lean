/-
  Package fixed, but Root, as contracts.
-/
import Derived.Test.YtaceobpgopdejaaBase
namespace Go.Proofs.Ytaceobpgopdejaa
open Go.RowKit

set_option maxHeartbeats 400000 in
theorem within_any (n m : Int) (hm : 0 < m) (hm2 : m ≤ 1000000000000000) (w : World) :
    Calls Try.prog 27 #[.int .i64 n, .int .i64 m] w fun e w' => e = .returned (.int .i64 (within m n)) ∧ w' = w := by
  by_cases h1 : n < -m
  · rw [within_lo h1]
    have h2 : n < m := by omega
    go_enter Try.func27, Try.ntmps27
    go_wp2
    go_ret
    exact ⟨rfl, rfl⟩
  · by_cases h2 : m < n
    · rw [within_hi (by omega) h2]
      have h3 : -m < m := by omega
      go_enter Try.func27, Try.ntmps27
      go_wp2
      go_ret
      exact ⟨rfl, rfl⟩
    · rw [within_id (by omega) (by omega)]
      go_enter Try.func27, Try.ntmps27
      go_wp2
      all_goals
        go_ret
        exact ⟨ret_int (by omega), rfl⟩

set_option maxHeartbeats 400000 in
theorem floored_any (n d : Int) (hd : d ≠ 0) (hn : -9223372036854775807 ≤ n) (hn2 : n ≤ 9223372036854775807) (w : World) :
    Calls Try.prog 28 #[.int .i64 n, .int .i64 d] w fun e w' => e = .returned (.int .i64 (n.fdiv d)) ∧ w' = w := by
  have hb := tdiv_bd n d
  have hb1 : -9223372036854775807 ≤ n.tdiv d := by omega
  have hb2 : n.tdiv d ≤ 9223372036854775807 := by omega
  clear hb
  by_cases h0 : n.tmod d = 0
  · rw [← fdiv_same hd (.inl h0)]
    go_enter Try.func28, Try.ntmps28
    go_wp2
    go_ret
    exact ⟨rfl, rfl⟩
  · by_cases h1 : n < 0
    · by_cases h2 : d < 0
      · rw [← fdiv_same hd (.inr (by omega))]
        go_enter Try.func28, Try.ntmps28
        go_wp2
        go_ret
        exact ⟨rfl, rfl⟩
      · rw [← fdiv_less hd h0 (by omega)]
        go_enter Try.func28, Try.ntmps28
        go_wp2
        go_ret
        exact ⟨rfl, rfl⟩
    · have h00 : ¬ n % d = 0 := by rw [← Int.tmod_eq_emod_of_nonneg (by omega)]; exact h0
      by_cases h2 : d < 0
      · rw [← fdiv_less hd h0 (by omega)]
        go_enter Try.func28, Try.ntmps28
        go_wp2
        go_ret
        exact ⟨rfl, rfl⟩
      · rw [← fdiv_same hd (.inr (by omega))]
        go_enter Try.func28, Try.ntmps28
        go_wp2
        go_ret
        exact ⟨rfl, rfl⟩

theorem clip_any (n : Int) (w : World) :
    Calls Try.prog 8 #[.int .i64 n] w fun e w' => e = .returned (.int .i64 (clip n)) ∧ w' = w := by
  go_enter Try.func8, Try.ntmps8
  go_wp2_with fail
  refine (within_any n 2147483647 (by omega) (by omega) _).mono ?_
  rintro e w' ⟨rfl, rfl⟩
  go_wp2
  go_ret
  exact ⟨rfl, rfl⟩

theorem mul_any (a b : Int) (w : World) :
    Calls Try.prog 9 #[.int .i64 a, .int .i64 b] w fun e w' => e = .returned (.int .i64 (mulv a b)) ∧ w' = w := by
  have hb := clip_mul_bd a b
  have hb1 := hb.1
  have hb2 := hb.2
  clear hb
  go_enter Try.func9, Try.ntmps9
  go_wp2_with fail
  refine (clip_any a _).mono ?_
  rintro e w' ⟨rfl, rfl⟩
  go_wp2_with fail
  refine (clip_any b _).mono ?_
  rintro e w' ⟨rfl, rfl⟩
  go_wp2_with fail
  refine (floored_any _ _ (by omega) (by omega) (by omega) _).mono ?_
  rintro e w' ⟨rfl, rfl⟩
  rw [fdiv_pos (by omega)]
  go_wp2_with fail
  refine (clip_any _ _).mono ?_
  rintro e w' ⟨rfl, rfl⟩
  go_wp2
  go_ret
  exact ⟨rfl, rfl⟩

theorem div_any (a b : Int) (w : World) :
    Calls Try.prog 10 #[.int .i64 a, .int .i64 b] w fun e w' => e = .returned (.int .i64 (divv a b)) ∧ w' = w := by
  have ha := clip_bd a
  have hb := clip_bd b
  have ha1 := ha.1
  have ha2 := ha.2
  by_cases h0 : clip b = 0
  · have e0 : clip (clip a * 2147483647) = divv a b := by
      unfold divv
      rw [if_pos h0]
      split
      · rcases Int.lt_or_le 1 (clip a) with h1 | h1
        · exact within_hi (by omega) (by omega)
        · have : clip a = 1 := by omega
          rw [this]; rfl
      · split
        · rcases Int.lt_or_le (clip a) (-1) with h1 | h1
          · exact within_lo (by omega)
          · have : clip a = -1 := by omega
            rw [this]; rfl
        · have : clip a = 0 := by omega
          rw [this]; rfl
    rw [← e0]
    clear e0 ha hb
    go_enter Try.func10, Try.ntmps10
    go_wp2_with fail
    refine (clip_any a _).mono ?_
    rintro e w' ⟨rfl, rfl⟩
    go_wp2_with fail
    refine (clip_any b _).mono ?_
    rintro e w' ⟨rfl, rfl⟩
    go_wp2_with fail
    refine (clip_any _ _).mono ?_
    rintro e w' ⟨rfl, rfl⟩
    go_wp2
    go_ret
    exact ⟨rfl, rfl⟩
  · have e0 : clip ((clip a * 65536).fdiv (clip b)) = divv a b := by
      unfold divv
      rw [if_neg h0]
    rw [← e0]
    clear e0 ha hb
    go_enter Try.func10, Try.ntmps10
    go_wp2_with fail
    refine (clip_any a _).mono ?_
    rintro e w' ⟨rfl, rfl⟩
    go_wp2_with fail
    refine (clip_any b _).mono ?_
    rintro e w' ⟨rfl, rfl⟩
    go_wp2_with fail
    refine (floored_any _ _ h0 (by omega) (by omega) _).mono ?_
    rintro e w' ⟨rfl, rfl⟩
    go_wp2_with fail
    refine (clip_any _ _).mono ?_
    rintro e w' ⟨rfl, rfl⟩
    go_wp2
    go_ret
    exact ⟨rfl, rfl⟩

theorem mulv_bd (a b : Int) : -2147483647 ≤ mulv a b ∧ mulv a b ≤ 2147483647 := clip_bd _

theorem lerp_any (a b t : Int) (w : World) :
    Calls Try.prog 14 #[.int .i64 a, .int .i64 b, .int .i64 t] w fun e w' => e = .returned (.int .i64 (lerpv a b t)) ∧ w' = w := by
  have ha1 := (clip_bd a).1
  have ha2 := (clip_bd a).2
  have hb1 := (clip_bd b).1
  have hb2 := (clip_bd b).2
  have hm1 := (mulv_bd (clip b - clip a) t).1
  have hm2 := (mulv_bd (clip b - clip a) t).2
  go_enter Try.func14, Try.ntmps14
  go_wp2_with fail
  refine (clip_any a _).mono ?_
  rintro e w' ⟨rfl, rfl⟩
  go_wp2_with fail
  refine (clip_any b _).mono ?_
  rintro e w' ⟨rfl, rfl⟩
  go_wp2_with fail
  refine (mul_any _ t _).mono ?_
  rintro e w' ⟨rfl, rfl⟩
  go_wp2_with fail
  refine (clip_any _ _).mono ?_
  rintro e w' ⟨rfl, rfl⟩
  go_wp2
  go_ret
  exact ⟨rfl, rfl⟩

theorem round_any (a : Int) (w : World) :
    Calls Try.prog 11 #[.int .i64 a] w fun e w' => e = .returned (.int .i64 (roundv a)) ∧ w' = w := by
  have ha1 := (clip_bd a).1
  have ha2 := (clip_bd a).2
  go_enter Try.func11, Try.ntmps11
  go_wp2_with fail
  refine (clip_any a _).mono ?_
  rintro e w' ⟨rfl, rfl⟩
  go_wp2_with fail
  refine (floored_any _ _ (by omega) (by omega) (by omega) _).mono ?_
  rintro e w' ⟨rfl, rfl⟩
  rw [fdiv_pos (by omega)]
  go_wp2
  go_ret
  exact ⟨rfl, rfl⟩

theorem whole_any (a : Int) (w : World) :
    Calls Try.prog 12 #[.int .i64 a] w fun e w' => e = .returned (.int .i64 (wholev a)) ∧ w' = w := by
  have ha1 := (clip_bd a).1
  have ha2 := (clip_bd a).2
  go_enter Try.func12, Try.ntmps12
  go_wp2_with fail
  refine (clip_any a _).mono ?_
  rintro e w' ⟨rfl, rfl⟩
  go_wp2_with fail
  refine (clip_any _ _).mono ?_
  rintro e w' ⟨rfl, rfl⟩
  go_wp2
  go_ret
  exact ⟨rfl, rfl⟩

theorem from14_any (a : Int) (w : World) :
    Calls Try.prog 13 #[.int .i64 a] w fun e w' => e = .returned (.int .i64 (from14v a)) ∧ w' = w := by
  have ha1 := (clip_bd a).1
  have ha2 := (clip_bd a).2
  go_enter Try.func13, Try.ntmps13
  go_wp2_with fail
  refine (clip_any a _).mono ?_
  rintro e w' ⟨rfl, rfl⟩
  go_wp2_with fail
  refine (clip_any _ _).mono ?_
  rintro e w' ⟨rfl, rfl⟩
  go_wp2
  go_ret
  exact ⟨rfl, rfl⟩

theorem ratio_any (a b : Int) (w : World) :
    Calls Try.prog 15 #[.int .i64 a, .int .i64 b] w fun e w' => e = .returned (.int .i64 (ratiov a b)) ∧ w' = w := by
  have ha1 := (far_bd a).1
  have ha2 := (far_bd a).2
  by_cases h0 : far b = 0
  · have e0 : ratiov a b = 0 := by unfold ratiov; rw [if_pos h0]
    rw [e0]
    go_enter Try.func15, Try.ntmps15
    go_wp2_with fail
    refine (within_any a 70368744177664 (by omega) (by omega) _).mono ?_
    rintro e w' ⟨rfl, rfl⟩
    rw [show within 70368744177664 a = far a from rfl]
    go_wp2_with fail
    refine (within_any b 70368744177664 (by omega) (by omega) _).mono ?_
    rintro e w' ⟨rfl, rfl⟩
    rw [show within 70368744177664 b = far b from rfl]
    go_wp2
    go_ret
    exact ⟨rfl, rfl⟩
  · have e0 : ratiov a b = clip ((far a * 65536).fdiv (far b)) := by unfold ratiov; rw [if_neg h0]
    rw [e0]
    go_enter Try.func15, Try.ntmps15
    go_wp2_with fail
    refine (within_any a 70368744177664 (by omega) (by omega) _).mono ?_
    rintro e w' ⟨rfl, rfl⟩
    rw [show within 70368744177664 a = far a from rfl]
    go_wp2_with fail
    refine (within_any b 70368744177664 (by omega) (by omega) _).mono ?_
    rintro e w' ⟨rfl, rfl⟩
    rw [show within 70368744177664 b = far b from rfl]
    go_wp2_with fail
    refine (floored_any _ _ h0 (by omega) (by omega) _).mono ?_
    rintro e w' ⟨rfl, rfl⟩
    go_wp2_with fail
    refine (clip_any _ _).mono ?_
    rintro e w' ⟨rfl, rfl⟩
    go_wp2
    go_ret
    exact ⟨rfl, rfl⟩
end Go.Proofs.Ytaceobpgopdejaa
