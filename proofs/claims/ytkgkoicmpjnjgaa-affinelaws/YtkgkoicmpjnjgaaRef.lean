
/-
  The references of chapter 3, but Root; versalhand.Pick and Num.
-/
import Derived.Test.YtkgkoicmpjnjgaaBase
namespace Go.Proofs.Ytkgkoicmpjnjgaa
open Go.RowKit

set_option maxHeartbeats 400000 in
theorem refWithin_any (n m : Int) (hm : 0 < m) (hm2 : m ≤ 1000000000000000) (w : World) :
    Calls Try.prog 45 #[.int .i64 n, .int .i64 (-m), .int .i64 m] w fun e w' => e = .returned (.int .i64 (within m n)) ∧ w' = w := by
  by_cases h1 : n < -m
  · rw [within_lo h1]
    have h2 : ¬ m < n := by omega
    have h3 : ¬ m ≤ n := by omega
    go_enter Try.func45, Try.ntmps45
    go_wp2
    all_goals
      go_ret
      exact ⟨ret_int (by omega), rfl⟩
  · by_cases h2 : m < n
    · rw [within_hi (by omega) h2]
      have h3 : -m < m := by omega
      go_enter Try.func45, Try.ntmps45
      go_wp2
      all_goals
        go_ret
        exact ⟨ret_int (by omega), rfl⟩
    · rw [within_id (by omega) (by omega)]
      go_enter Try.func45, Try.ntmps45
      go_wp2
      all_goals
        go_ret
        exact ⟨ret_int (by omega), rfl⟩

theorem floor_less {n d : Int} (hd : 0 < d) (h : n.tmod d < 0) : n.tdiv d - 1 = n / d := by
  have hn : n < 0 := by
    rcases Int.lt_or_le n 0 with hn | hn
    · exact hn
    · have := Int.tmod_nonneg d hn; omega
  rw [← fdiv_pos hd]
  exact fdiv_less (by omega) (by omega) (by omega)
theorem floor_same {n d : Int} (hd : 0 < d) (h : ¬ n.tmod d < 0) : n.tdiv d = n / d := by
  rw [← fdiv_pos hd]
  refine fdiv_same (by omega) ?_
  rcases Int.lt_or_le n 0 with hn | hn
  · left
    have := Int.tmod_nonneg d (show 0 ≤ -n by omega)
    rw [Int.neg_tmod] at this
    omega
  · right; omega

set_option maxHeartbeats 400000 in
theorem floor_any (n d : Int) (hd : 0 < d) (hn : -9223372036854775807 ≤ n) (hn2 : n ≤ 9223372036854775807) (w : World) :
    Calls Try.prog 46 #[.int .i64 n, .int .i64 d] w fun e w' => e = .returned (.int .i64 (n / d)) ∧ w' = w := by
  have hb := tdiv_bd n d
  have hb1 : -9223372036854775807 ≤ n.tdiv d := by omega
  have hb2 : n.tdiv d ≤ 9223372036854775807 := by omega
  have hne : ¬ d = 0 := by omega
  clear hb
  by_cases h1 : n.tmod d < 0
  · rw [← floor_less hd h1]
    go_enter Try.func46, Try.ntmps46
    go_wp2
    go_ret
    exact ⟨rfl, rfl⟩
  · rw [← floor_same hd h1]
    have h2 := Int.emod_nonneg n hne
    go_enter Try.func46, Try.ntmps46
    go_wp2
    go_ret
    exact ⟨rfl, rfl⟩

theorem refClip_any (n : Int) (w : World) :
    Calls Try.prog 35 #[.int .i64 n] w fun e w' => e = .returned (.int .i64 (clip n)) ∧ w' = w := by
  go_enter Try.func35, Try.ntmps35
  go_wp2_with fail
  refine (refWithin_any n 2147483647 (by omega) (by omega) _).mono ?_
  rintro e w' ⟨rfl, rfl⟩
  go_wp2
  go_ret
  exact ⟨rfl, rfl⟩

theorem refMul_any (a b : Int) (w : World) :
    Calls Try.prog 36 #[.int .i64 a, .int .i64 b] w fun e w' => e = .returned (.int .i64 (mulv a b)) ∧ w' = w := by
  have hb := clip_mul_bd a b
  have hb1 := hb.1
  have hb2 := hb.2
  clear hb
  go_enter Try.func36, Try.ntmps36
  go_wp2_with fail
  refine (refClip_any a _).mono ?_
  rintro e w' ⟨rfl, rfl⟩
  go_wp2_with fail
  refine (refClip_any b _).mono ?_
  rintro e w' ⟨rfl, rfl⟩
  go_wp2_with fail
  refine (floor_any _ _ (by omega) (by omega) (by omega) _).mono ?_
  rintro e w' ⟨rfl, rfl⟩
  go_wp2_with fail
  refine (refClip_any _ _).mono ?_
  rintro e w' ⟨rfl, rfl⟩
  go_wp2
  go_ret
  exact ⟨rfl, rfl⟩

set_option maxHeartbeats 800000 in
theorem refDiv_any (a b : Int) (w : World) :
    Calls Try.prog 37 #[.int .i64 a, .int .i64 b] w fun e w' => e = .returned (.int .i64 (divv a b)) ∧ w' = w := by
  have ha1 := (clip_bd a).1
  have ha2 := (clip_bd a).2
  have hb1 := (clip_bd b).1
  have hb2 := (clip_bd b).2
  by_cases h0 : clip b = 0
  · by_cases h1 : 0 < clip a
    · have e0 : divv a b = 2147483647 := by unfold divv; rw [if_pos h0, if_pos h1]
      rw [e0]
      go_enter Try.func37, Try.ntmps37
      go_wp2_with fail
      refine (refClip_any a _).mono ?_
      rintro e w' ⟨rfl, rfl⟩
      go_wp2_with fail
      refine (refClip_any b _).mono ?_
      rintro e w' ⟨rfl, rfl⟩
      go_wp2
      go_ret
      exact ⟨rfl, rfl⟩
    · by_cases h2 : clip a < 0
      · have e0 : divv a b = -2147483647 := by unfold divv; rw [if_pos h0, if_neg h1, if_pos h2]
        rw [e0]
        go_enter Try.func37, Try.ntmps37
        go_wp2_with fail
        refine (refClip_any a _).mono ?_
        rintro e w' ⟨rfl, rfl⟩
        go_wp2_with fail
        refine (refClip_any b _).mono ?_
        rintro e w' ⟨rfl, rfl⟩
        go_wp2
        go_ret
        exact ⟨rfl, rfl⟩
      · have e0 : divv a b = 0 := by unfold divv; rw [if_pos h0, if_neg h1, if_neg h2]
        rw [e0]
        go_enter Try.func37, Try.ntmps37
        go_wp2_with fail
        refine (refClip_any a _).mono ?_
        rintro e w' ⟨rfl, rfl⟩
        go_wp2_with fail
        refine (refClip_any b _).mono ?_
        rintro e w' ⟨rfl, rfl⟩
        go_wp2
        go_ret
        exact ⟨rfl, rfl⟩
  · by_cases h1 : clip b < 0
    · have e0 : divv a b = clip ((-clip a * 65536) / (-clip b)) := by unfold divv; rw [if_neg h0, fdiv_neg h1, Int.neg_mul]
      rw [e0]
      go_enter Try.func37, Try.ntmps37
      go_wp2_with fail
      refine (refClip_any a _).mono ?_
      rintro e w' ⟨rfl, rfl⟩
      go_wp2_with fail
      refine (refClip_any b _).mono ?_
      rintro e w' ⟨rfl, rfl⟩
      go_wp2_with fail
      refine (floor_any _ _ (by omega) (by omega) (by omega) _).mono ?_
      rintro e w' ⟨rfl, rfl⟩
      go_wp2_with fail
      refine (refClip_any _ _).mono ?_
      rintro e w' ⟨rfl, rfl⟩
      go_wp2
      go_ret
      exact ⟨ret_int (by rw [Int.ediv_neg]), rfl⟩
    · have e0 : divv a b = clip ((clip a * 65536) / (clip b)) := by unfold divv; rw [if_neg h0, fdiv_pos (by omega)]
      rw [e0]
      go_enter Try.func37, Try.ntmps37
      go_wp2_with fail
      refine (refClip_any a _).mono ?_
      rintro e w' ⟨rfl, rfl⟩
      go_wp2_with fail
      refine (refClip_any b _).mono ?_
      rintro e w' ⟨rfl, rfl⟩
      go_wp2_with fail
      refine (floor_any _ _ (by omega) (by omega) (by omega) _).mono ?_
      rintro e w' ⟨rfl, rfl⟩
      go_wp2_with fail
      refine (refClip_any _ _).mono ?_
      rintro e w' ⟨rfl, rfl⟩
      go_wp2
      go_ret
      exact ⟨rfl, rfl⟩

theorem mulv_clip (a b : Int) : mulv (clip a) b = mulv a b := by unfold mulv; rw [clip_clip]
theorem pick_neg (n m : Int) (hm : 0 < m) (h : n.tmod m < 0) : n.tmod m + m = n % m := by
  have h1 := Int.tmod_eq_emod (a := n) (b := m)
  have h2 := Int.emod_nonneg n (by omega : m ≠ 0)
  split at h1 <;> omega
theorem pick_pos (n m : Int) (hm : 0 < m) (h : 0 ≤ n.tmod m) : n.tmod m = n % m := by
  have h1 := Int.tmod_eq_emod (a := n) (b := m)
  have h2 := Int.emod_lt_of_pos n hm
  split at h1 <;> omega
theorem tmod_bd (n m : Int) (hm : 0 < m) : -m < n.tmod m ∧ n.tmod m < m :=
  ⟨Int.neg_lt_of_neg_lt (by have := Int.tmod_lt_of_pos (-n) hm; rw [Int.neg_tmod] at this; exact this), Int.tmod_lt_of_pos n hm⟩

set_option maxHeartbeats 400000 in
theorem pick_any (n m : Int) (hm : 0 < m) (hm2 : m ≤ 1000000000000000) (w : World) :
    Calls Try.prog 34 #[.int .i64 n, .int .i64 m] w fun e w' => ∃ k : Nat, (k : Int) < m ∧ e = .returned (.int .i64 k) ∧ w' = w := by
  have hb := tmod_bd n m hm
  have h2 := Int.emod_nonneg n (by omega : m ≠ 0)
  have h3 := Int.emod_lt_of_pos n hm
  obtain ⟨k, hk⟩ : ∃ k : Nat, (k : Int) = n % m := ⟨(n % m).toNat, by omega⟩
  have hne : ¬ m = 0 := by omega
  by_cases hz : n.tmod m < 0
  · have e := pick_neg n m hm hz
    have E : Hid (n.tmod m + m = n % m) := e
    have HK : Hid ((k : Int) = n % m) := hk
    clear e h2 h3 hk
    go_enter Try.func34, Try.ntmps34
    go_wp2
    go_ret
    exact ⟨k, by rw [HK.out]; exact Int.emod_lt_of_pos n hm, ret_int (by rw [HK.out, ← E.out]), rfl⟩
  · have e := pick_pos n m hm (by omega)
    have E : Hid (n.tmod m = n % m) := e
    have HK : Hid ((k : Int) = n % m) := hk
    clear e h2 h3 hk
    go_enter Try.func34, Try.ntmps34
    go_wp2
    go_ret
    exact ⟨k, by rw [HK.out]; exact Int.emod_lt_of_pos n hm, ret_int (by rw [HK.out, ← E.out]), rfl⟩

set_option maxHeartbeats 800000 in
theorem num_any (n : Int) (hn : -9223372036854775808 ≤ n) (hn2 : n ≤ 9223372036854775807) (w : World) :
    Calls Try.prog 16 #[.int .i64 n] w fun e w' => ∃ r : Int, -9223372036854775808 ≤ r ∧ r ≤ 9223372036854775807 ∧ e = .returned (.int .i64 r) ∧ w' = w := by
  go_enter Try.func16, Try.ntmps16
  go_wp2_with fail
  refine (pick_any n 8 (by omega) (by omega) _).mono ?_
  rintro e w' ⟨k, hk, rfl, rfl⟩
  rcases (by omega : k = 0 ∨ k = 1 ∨ k = 2 ∨ k = 3 ∨ 4 ≤ k) with rfl | rfl | rfl | rfl | h
  · go_wp2
    go_ret
    exact ⟨n, hn, hn2, rfl, rfl⟩
  · go_wp2_with fail
    refine (pick_any _ 2001 (by omega) (by omega) _).mono ?_
    rintro e w' ⟨x, hx, rfl, rfl⟩
    go_wp2
    go_ret
    exact ⟨_, by omega, by omega, rfl, rfl⟩
  · go_wp2_with fail
    refine (pick_any _ 9 (by omega) (by omega) _).mono ?_
    rintro e w' ⟨x, hx, rfl, rfl⟩
    go_wp2
    go_ret
    exact ⟨_, by omega, by omega, rfl, rfl⟩
  · go_wp2_with fail
    refine (pick_any _ 9 (by omega) (by omega) _).mono ?_
    rintro e w' ⟨x, hx, rfl, rfl⟩
    go_wp2
    go_ret
    exact ⟨_, by omega, by omega, rfl, rfl⟩
  · go_wp2_with fail
    refine (pick_any _ 1310720 (by omega) (by omega) _).mono ?_
    rintro e w' ⟨x, hx, rfl, rfl⟩
    go_wp2
    go_ret
    exact ⟨_, by omega, by omega, rfl, rfl⟩
end Go.Proofs.Ytkgkoicmpjnjgaa
