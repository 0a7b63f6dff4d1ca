
/-
  Package fixed, but Root, as contracts.
-/
import Derived.Test.YtkgkoicmpjnjgaaBase
namespace Go.Proofs.Ytkgkoicmpjnjgaa
open Go.RowKit

set_option maxHeartbeats 400000 in
theorem within_any (n m : Int) (hm : 0 < m) (hm2 : m ≤ 1000000000000000) (w : World) :
    Calls Try.prog 41 #[.int .i64 n, .int .i64 m] w fun e w' => e = .returned (.int .i64 (within m n)) ∧ w' = w := by
  by_cases h1 : n < -m
  · rw [within_lo h1]
    have h2 : n < m := by omega
    go_enter Try.func41, Try.ntmps41
    go_wp2
    go_ret
    exact ⟨rfl, rfl⟩
  · by_cases h2 : m < n
    · rw [within_hi (by omega) h2]
      have h3 : -m < m := by omega
      go_enter Try.func41, Try.ntmps41
      go_wp2
      go_ret
      exact ⟨rfl, rfl⟩
    · rw [within_id (by omega) (by omega)]
      go_enter Try.func41, Try.ntmps41
      go_wp2
      all_goals
        go_ret
        exact ⟨ret_int (by omega), rfl⟩

set_option maxHeartbeats 400000 in
theorem floored_any (n d : Int) (hd : d ≠ 0) (hn : -9223372036854775807 ≤ n) (hn2 : n ≤ 9223372036854775807) (w : World) :
    Calls Try.prog 42 #[.int .i64 n, .int .i64 d] w fun e w' => e = .returned (.int .i64 (n.fdiv d)) ∧ w' = w := by
  have hb := tdiv_bd n d
  have hb1 : -9223372036854775807 ≤ n.tdiv d := by omega
  have hb2 : n.tdiv d ≤ 9223372036854775807 := by omega
  clear hb
  by_cases h0 : n.tmod d = 0
  · rw [← fdiv_same hd (.inl h0)]
    go_enter Try.func42, Try.ntmps42
    go_wp2
    go_ret
    exact ⟨rfl, rfl⟩
  · by_cases h1 : n < 0
    · by_cases h2 : d < 0
      · rw [← fdiv_same hd (.inr (by omega))]
        go_enter Try.func42, Try.ntmps42
        go_wp2
        go_ret
        exact ⟨rfl, rfl⟩
      · rw [← fdiv_less hd h0 (by omega)]
        go_enter Try.func42, Try.ntmps42
        go_wp2
        go_ret
        exact ⟨rfl, rfl⟩
    · have h00 : ¬ n % d = 0 := by rw [← Int.tmod_eq_emod_of_nonneg (by omega)]; exact h0
      by_cases h2 : d < 0
      · rw [← fdiv_less hd h0 (by omega)]
        go_enter Try.func42, Try.ntmps42
        go_wp2
        go_ret
        exact ⟨rfl, rfl⟩
      · rw [← fdiv_same hd (.inr (by omega))]
        go_enter Try.func42, Try.ntmps42
        go_wp2
        go_ret
        exact ⟨rfl, rfl⟩

theorem clip_any (n : Int) (w : World) :
    Calls Try.prog 27 #[.int .i64 n] w fun e w' => e = .returned (.int .i64 (clip n)) ∧ w' = w := by
  go_enter Try.func27, Try.ntmps27
  go_wp2_with fail
  refine (within_any n 2147483647 (by omega) (by omega) _).mono ?_
  rintro e w' ⟨rfl, rfl⟩
  go_wp2
  go_ret
  exact ⟨rfl, rfl⟩

theorem mul_any (a b : Int) (w : World) :
    Calls Try.prog 29 #[.int .i64 a, .int .i64 b] w fun e w' => e = .returned (.int .i64 (mulv a b)) ∧ w' = w := by
  have hb := clip_mul_bd a b
  have hb1 := hb.1
  have hb2 := hb.2
  clear hb
  go_enter Try.func29, Try.ntmps29
  go_wp2_with fail
  refine (clip_any a _).mono ?_
  rintro e w' ⟨rfl, rfl⟩
  go_wp2_with fail
  refine (clip_any b _).mono ?_
  rintro e w' ⟨rfl, rfl⟩
  go_wp2_with fail
  refine (floored_any _ _ (by omega) (by omega) (by omega) _).mono ?_
  rintro e w' ⟨rfl, rfl⟩
  rw [fdiv_pos (by omega)]
  go_wp2_with fail
  refine (clip_any _ _).mono ?_
  rintro e w' ⟨rfl, rfl⟩
  go_wp2
  go_ret
  exact ⟨rfl, rfl⟩

theorem div_any (a b : Int) (w : World) :
    Calls Try.prog 30 #[.int .i64 a, .int .i64 b] w fun e w' => e = .returned (.int .i64 (divv a b)) ∧ w' = w := by
  have ha := clip_bd a
  have hb := clip_bd b
  have ha1 := ha.1
  have ha2 := ha.2
  by_cases h0 : clip b = 0
  · have e0 : clip (clip a * 2147483647) = divv a b := by
      unfold divv
      rw [if_pos h0]
      split
      · rcases Int.lt_or_le 1 (clip a) with h1 | h1
        · exact within_hi (by omega) (by omega)
        · have : clip a = 1 := by omega
          rw [this]; rfl
      · split
        · rcases Int.lt_or_le (clip a) (-1) with h1 | h1
          · exact within_lo (by omega)
          · have : clip a = -1 := by omega
            rw [this]; rfl
        · have : clip a = 0 := by omega
          rw [this]; rfl
    rw [← e0]
    clear e0 ha hb
    go_enter Try.func30, Try.ntmps30
    go_wp2_with fail
    refine (clip_any a _).mono ?_
    rintro e w' ⟨rfl, rfl⟩
    go_wp2_with fail
    refine (clip_any b _).mono ?_
    rintro e w' ⟨rfl, rfl⟩
    go_wp2_with fail
    refine (clip_any _ _).mono ?_
    rintro e w' ⟨rfl, rfl⟩
    go_wp2
    go_ret
    exact ⟨rfl, rfl⟩
  · have e0 : clip ((clip a * 65536).fdiv (clip b)) = divv a b := by
      unfold divv
      rw [if_neg h0]
    rw [← e0]
    clear e0 ha hb
    go_enter Try.func30, Try.ntmps30
    go_wp2_with fail
    refine (clip_any a _).mono ?_
    rintro e w' ⟨rfl, rfl⟩
    go_wp2_with fail
    refine (clip_any b _).mono ?_
    rintro e w' ⟨rfl, rfl⟩
    go_wp2_with fail
    refine (floored_any _ _ h0 (by omega) (by omega) _).mono ?_
    rintro e w' ⟨rfl, rfl⟩
    go_wp2_with fail
    refine (clip_any _ _).mono ?_
    rintro e w' ⟨rfl, rfl⟩
    go_wp2
    go_ret
    exact ⟨rfl, rfl⟩

theorem mulv_bd (a b : Int) : -2147483647 ≤ mulv a b ∧ mulv a b ≤ 2147483647 := clip_bd _

end Go.Proofs.Ytkgkoicmpjnjgaa
