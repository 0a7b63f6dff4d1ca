/-
  nearest and guess, of package rows and of the reference.
-/
import Derived.Test.YtciobjjhdeagkaaDoorFil
namespace Go.Proofs.YtciobjjhdeagkaaDoor
open Go.RowKit

theorem apv_bd {x y : Int} (hx : -1000 ≤ x ∧ x ≤ 1000) (hy : -1000 ≤ y ∧ y ≤ 1000) : 0 ≤ apv x y ∧ apv x y ≤ 2000 := by
  unfold apv; split <;> omega
set_option maxRecDepth 100000 in
set_option maxHeartbeats 800000 in
theorem nearest_any (a b c : Nat) (ha : a < 256) (hb : b < 256) (hc : c < 256) (w : World) :
    Calls Tryd.prog 23 #[.int .u8 (a : Nat), .int .u8 (b : Nat), .int .u8 (c : Nat)] w fun e w' => e = .returned (.int .u8 (nearv a b c : Nat)) ∧ w' = w := by
  obtain ⟨S, hS⟩ : ∃ S : Int, (a : Int) + b - c = S := ⟨_, rfl⟩
  obtain ⟨p, hp⟩ : ∃ p, Hid (apv S a = p) := ⟨_, rfl⟩
  obtain ⟨q, hq⟩ : ∃ q, Hid (apv S b = q) := ⟨_, rfl⟩
  obtain ⟨r, hr⟩ : ∃ r, Hid (apv S c = r) := ⟨_, rfl⟩
  have hs1 : -1000 ≤ S ∧ S ≤ 1000 := by omega
  have hnv : Hid (nearv a b c = if p ≤ q ∧ p ≤ r then a else if q ≤ r then b else c) := by show _ = _; rw [← hp.out, ← hq.out, ← hr.out, ← hS]; rfl
  have A1 : ∀ w, Calls Tryd.prog 24 #[.int .i64 S, .int .i64 (a : Nat)] w fun e w' => e = .returned (.int .i64 p) ∧ w' = w := fun w => by have := apart_any S a hs1 (by omega) w; rwa [hp.out] at this
  have A2 : ∀ w, Calls Tryd.prog 24 #[.int .i64 S, .int .i64 (b : Nat)] w fun e w' => e = .returned (.int .i64 q) ∧ w' = w := fun w => by have := apart_any S b hs1 (by omega) w; rwa [hq.out] at this
  have A3 : ∀ w, Calls Tryd.prog 24 #[.int .i64 S, .int .i64 (c : Nat)] w fun e w' => e = .returned (.int .i64 r) ∧ w' = w := fun w => by have := apart_any S c hs1 (by omega) w; rwa [hr.out] at this
  by_cases h1 : p ≤ q
  · by_cases h2 : p ≤ r
    · have hv : nearv a b c = a := by rw [hnv.out, if_pos ⟨h1, h2⟩]
      rw [hv]
      clear hv
      go_enter Tryd.func23, Tryd.ntmps23
      go_wp2_with fail
      refine (A1 _).mono ?_
      rintro e w1 ⟨rfl, rfl⟩
      go_wp2_with fail
      refine (A2 _).mono ?_
      rintro e w1 ⟨rfl, rfl⟩
      go_wp2_with fail
      refine (A3 _).mono ?_
      rintro e w1 ⟨rfl, rfl⟩
      go_wp2
      go_ret
      exact ⟨rfl, rfl⟩
    · by_cases h3 : q ≤ r
      · exact absurd (Int.le_trans h1 h3) h2
      · have hv : nearv a b c = c := by rw [hnv.out, if_neg (fun h => h2 h.2), if_neg h3]
        rw [hv]
        clear hv
        go_enter Tryd.func23, Tryd.ntmps23
        go_wp2_with fail
        refine (A1 _).mono ?_
        rintro e w1 ⟨rfl, rfl⟩
        go_wp2_with fail
        refine (A2 _).mono ?_
        rintro e w1 ⟨rfl, rfl⟩
        go_wp2_with fail
        refine (A3 _).mono ?_
        rintro e w1 ⟨rfl, rfl⟩
        go_wp2
        go_ret
        exact ⟨rfl, rfl⟩
  · by_cases h3 : q ≤ r
    · have hv : nearv a b c = b := by rw [hnv.out, if_neg (fun h => h1 h.1), if_pos h3]
      rw [hv]
      clear hv
      go_enter Tryd.func23, Tryd.ntmps23
      go_wp2_with fail
      refine (A1 _).mono ?_
      rintro e w1 ⟨rfl, rfl⟩
      go_wp2_with fail
      refine (A2 _).mono ?_
      rintro e w1 ⟨rfl, rfl⟩
      go_wp2_with fail
      refine (A3 _).mono ?_
      rintro e w1 ⟨rfl, rfl⟩
      go_wp2
      go_ret
      exact ⟨rfl, rfl⟩
    · have hv : nearv a b c = c := by rw [hnv.out, if_neg (fun h => h1 h.1), if_neg h3]
      rw [hv]
      clear hv
      go_enter Tryd.func23, Tryd.ntmps23
      go_wp2_with fail
      refine (A1 _).mono ?_
      rintro e w1 ⟨rfl, rfl⟩
      go_wp2_with fail
      refine (A2 _).mono ?_
      rintro e w1 ⟨rfl, rfl⟩
      go_wp2_with fail
      refine (A3 _).mono ?_
      rintro e w1 ⟨rfl, rfl⟩
      go_wp2
      go_ret
      exact ⟨rfl, rfl⟩

set_option maxRecDepth 100000 in
set_option maxHeartbeats 1600000 in
theorem guess_any (k b i : Nat) (hk : k ≤ 4) (hb : b ≤ 8) (hi : i ≤ 200000000000000) (a1 : Option Addr) (l1 c1 : Nat) (z : Nat → Nat) (a2 : Option Addr) (l2 c2 : Nat) (y : Nat → Nat) (w : World) (h1 : Lies w a1 l1 c1 z) (h2 : Lies w a2 l2 c2 y) :
    Calls Tryd.prog 16 #[.int .i64 (k : Nat), .int .i64 (b : Nat), .int .i64 (i : Nat), .slice a1 l1 c1, .slice a2 l2 c2] w fun e w' => e = .returned (.int .u8 (guessv k (atv z l1 ((i : Int) - b)) (atv y l2 (i : Int)) (atv y l2 ((i : Int) - b)) : Nat)) ∧ w' = w := by
  obtain ⟨X, hX⟩ : ∃ X : Int, (i : Int) - b = X := ⟨_, rfl⟩
  rw [hX]
  obtain ⟨p, hp⟩ : ∃ p, Hid (atv z l1 X = p) := ⟨_, rfl⟩
  obtain ⟨q, hq⟩ : ∃ q, Hid (atv y l2 (i : Int) = q) := ⟨_, rfl⟩
  obtain ⟨r, hr⟩ : ∃ r, Hid (atv y l2 X = r) := ⟨_, rfl⟩
  have A1 : Calls Tryd.prog 22 #[.slice a1 l1 c1, .int .i64 X] w fun e w' => e = .returned (.int .u8 (p : Nat)) ∧ w' = w := by have := byteAt_any a1 l1 c1 z X w h1; rwa [hp.out] at this
  have A2 : Calls Tryd.prog 22 #[.slice a2 l2 c2, .int .i64 (i : Nat)] w fun e w' => e = .returned (.int .u8 (q : Nat)) ∧ w' = w := by have := byteAt_any a2 l2 c2 y (i : Nat) w h2; rwa [hq.out] at this
  have A3 : Calls Tryd.prog 22 #[.slice a2 l2 c2, .int .i64 X] w fun e w' => e = .returned (.int .u8 (r : Nat)) ∧ w' = w := by have := byteAt_any a2 l2 c2 y X w h2; rwa [hr.out] at this
  have p1 : p < 256 := by rw [← hp.out]; exact atv_lt h1.byte _ _
  have q1 : q < 256 := by rw [← hq.out]; exact atv_lt h2.byte _ _
  have r1 : r < 256 := by rw [← hr.out]; exact atv_lt h2.byte _ _
  rw [hp.out, hq.out, hr.out]
  clear hp hq hr
  have hbi : -8 ≤ X := by omega
  obtain ⟨M, hM⟩ : ∃ M : Nat, Hid ((p + q) / 2 = M) := ⟨_, rfl⟩
  have hM1 : ((p : Int) + q) / 2 = M := by have := hM.out; omega
  have hM2 : M < 256 := by have := hM.out; omega
  rcases (show k = 0 ∨ k = 1 ∨ k = 2 ∨ k = 3 ∨ k = 4 by omega) with rfl | rfl | rfl | rfl | rfl
  · go_enter Tryd.func16, Tryd.ntmps16
    go_wp2_with fail
    refine A1.mono ?_
    rintro e w1 ⟨rfl, rfl⟩
    go_wp2_with fail
    refine A2.mono ?_
    rintro e w1 ⟨rfl, rfl⟩
    go_wp2
    go_ret
    exact ⟨rfl, rfl⟩
  · go_enter Tryd.func16, Tryd.ntmps16
    go_wp2_with fail
    refine A1.mono ?_
    rintro e w1 ⟨rfl, rfl⟩
    go_wp2_with fail
    refine A2.mono ?_
    rintro e w1 ⟨rfl, rfl⟩
    go_wp2
    go_ret
    exact ⟨rfl, rfl⟩
  · go_enter Tryd.func16, Tryd.ntmps16
    go_wp2_with fail
    refine A1.mono ?_
    rintro e w1 ⟨rfl, rfl⟩
    go_wp2_with fail
    refine A2.mono ?_
    rintro e w1 ⟨rfl, rfl⟩
    go_wp2
    go_ret
    exact ⟨rfl, rfl⟩
  · have hv : guessv 3 p q r = M := hM.out
    rw [hv]
    clear hv
    go_enter Tryd.func16, Tryd.ntmps16
    go_wp2_with fail
    refine A1.mono ?_
    rintro e w1 ⟨rfl, rfl⟩
    go_wp2_with fail
    refine A2.mono ?_
    rintro e w1 ⟨rfl, rfl⟩
    go_wp2
    go_ret
    exact ⟨ret_int (by first | rfl | omega), rfl⟩
  · have hv : guessv 4 p q r = nearv p q r := rfl
    rw [hv]
    clear hv
    go_enter Tryd.func16, Tryd.ntmps16
    go_wp2_with fail
    refine A1.mono ?_
    rintro e w1 ⟨rfl, rfl⟩
    go_wp2_with fail
    refine A2.mono ?_
    rintro e w1 ⟨rfl, rfl⟩
    go_wp2_with fail
    refine A3.mono ?_
    rintro e w1 ⟨rfl, rfl⟩
    go_wp2_with fail
    refine (nearest_any p q r p1 q1 r1 _).mono ?_
    rintro e w1 ⟨rfl, rfl⟩
    go_wp2
    go_ret
    exact ⟨rfl, rfl⟩

set_option maxRecDepth 100000 in
set_option maxHeartbeats 1600000 in
theorem rguess_any (k p q r : Nat) (hk : k ≤ 4) (p1 : p < 256) (q1 : q < 256) (r1 : r < 256) (w : World) :
    Calls Tryd.prog 19 #[.int .i64 (k : Nat), .int .i64 (p : Nat), .int .i64 (q : Nat), .int .i64 (r : Nat)] w fun e w' => e = .returned (.int .i64 (guessv k p q r : Nat)) ∧ w' = w := by
  obtain ⟨M, hM⟩ : ∃ M : Nat, Hid ((p + q) / 2 = M) := ⟨_, rfl⟩
  have hM1 : ((p : Int) + q) / 2 = M := by have := hM.out; omega
  have hM2 : M < 256 := by have := hM.out; omega
  rcases (show k = 0 ∨ k = 1 ∨ k = 2 ∨ k = 3 ∨ k = 4 by omega) with rfl | rfl | rfl | rfl | rfl
  · go_enter Tryd.func19, Tryd.ntmps19
    go_wp2
    go_ret
    exact ⟨rfl, rfl⟩
  · go_enter Tryd.func19, Tryd.ntmps19
    go_wp2
    go_ret
    exact ⟨rfl, rfl⟩
  · go_enter Tryd.func19, Tryd.ntmps19
    go_wp2
    go_ret
    exact ⟨rfl, rfl⟩
  · have hv : guessv 3 p q r = M := hM.out
    rw [hv]
    clear hv
    go_enter Tryd.func19, Tryd.ntmps19
    go_wp2
    go_ret
    exact ⟨ret_int (by first | rfl | omega), rfl⟩
  · have hv : guessv 4 p q r = nearv p q r := rfl
    rw [hv]
    clear hv hM hM1 hM2
    obtain ⟨S, hS⟩ : ∃ S : Int, (p : Int) + q - r = S := ⟨_, rfl⟩
    obtain ⟨x, hx⟩ : ∃ x, Hid (apv S p = x) := ⟨_, rfl⟩
    obtain ⟨y, hy⟩ : ∃ y, Hid (apv S q = y) := ⟨_, rfl⟩
    obtain ⟨t, ht⟩ : ∃ t, Hid (apv S r = t) := ⟨_, rfl⟩
    have hs1 : -1000 ≤ S ∧ S ≤ 1000 := by omega
    have X1 : (if S - p < p - S then (p : Int) - S else S - p) = x := hx.out
    have X2 : (if S - q < q - S then (q : Int) - S else S - q) = y := hy.out
    have X3 : (if S - r < r - S then (r : Int) - S else S - r) = t := ht.out
    have hnv : Hid (nearv p q r = if x ≤ y ∧ x ≤ t then p else if y ≤ t then q else r) := by show _ = _; rw [← hx.out, ← hy.out, ← ht.out, ← hS]; rfl
    by_cases h1 : x ≤ y
    · by_cases h2 : x ≤ t
      · have hv : nearv p q r = p := by rw [hnv.out, if_pos ⟨h1, h2⟩]
        rw [hv]
        clear hv
        go_enter Tryd.func19, Tryd.ntmps19
        go_wp2
        all_goals go_ret
        all_goals exact ⟨rfl, rfl⟩
      · by_cases h3 : y ≤ t
        · have hv : nearv p q r = q := by rw [hnv.out, if_neg (fun h => h2 h.2), if_pos h3]
          rw [hv]
          clear hv
          go_enter Tryd.func19, Tryd.ntmps19
          go_wp2
          all_goals go_ret
          all_goals exact ⟨rfl, rfl⟩
        · have hv : nearv p q r = r := by rw [hnv.out, if_neg (fun h => h2 h.2), if_neg h3]
          rw [hv]
          clear hv
          go_enter Tryd.func19, Tryd.ntmps19
          go_wp2
          all_goals go_ret
          all_goals exact ⟨rfl, rfl⟩
    · by_cases h3 : y ≤ t
      · have hv : nearv p q r = q := by rw [hnv.out, if_neg (fun h => h1 h.1), if_pos h3]
        rw [hv]
        clear hv
        go_enter Tryd.func19, Tryd.ntmps19
        go_wp2
        all_goals go_ret
        all_goals exact ⟨rfl, rfl⟩
      · have hv : nearv p q r = r := by rw [hnv.out, if_neg (fun h => h1 h.1), if_neg h3]
        rw [hv]
        clear hv
        go_enter Tryd.func19, Tryd.ntmps19
        go_wp2
        all_goals go_ret
        all_goals exact ⟨rfl, rfl⟩
end Go.Proofs.YtciobjjhdeagkaaDoor
