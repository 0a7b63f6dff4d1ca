/-
  Package blend and the reference's chapter 13, number by number, as contracts.
-/
import Derived.Test.YtdaapanmalcgbabDoorBln
import Derived.Test.YtdaapanmalcgbabDoorPxc
namespace Go.Proofs.YtdaapanmalcgbabDoor
open Go.RowKit

theorem tmod_bd (n m : Int) (hm : 0 < m) : -m < n.tmod m ∧ n.tmod m < m :=
  ⟨Int.neg_lt_of_neg_lt (by have := Int.tmod_lt_of_pos (-n) hm; rw [Int.neg_tmod] at this; exact this), Int.tmod_lt_of_pos n hm⟩
theorem ediv_bd {n d B : Int} (hd : 0 < d) (hB : 0 ≤ B) (h : -B ≤ n) (h2 : n ≤ B) : -B ≤ n / d ∧ n / d ≤ B := by
  have e : 0 ≤ B * (d - 1) := Int.mul_nonneg hB (by omega)
  rw [Int.mul_sub, Int.mul_one] at e
  refine ⟨(Int.le_ediv_iff_mul_le hd).2 (by rw [Int.neg_mul]; omega), Int.le_of_lt_add_one (Int.ediv_lt_of_lt_mul hd (by rw [Int.add_mul]; omega))⟩
theorem quo_up (n d : Int) (hd : 0 < d) (h : ¬ n.tmod d < 0) : n.tdiv d = n / d := by
  have h1 := Int.mul_tdiv_add_tmod n d
  have h2 := tmod_bd n d hd
  exact ((Int.ediv_emod_unique hd).2 ⟨(by omega : n.tmod d + d * n.tdiv d = n), by omega, by omega⟩).1.symm
theorem quo_dn (n d : Int) (hd : 0 < d) (h : n.tmod d < 0) : n.tdiv d - 1 = n / d := by
  have h1 := Int.mul_tdiv_add_tmod n d
  have h2 := tmod_bd n d hd
  exact ((Int.ediv_emod_unique hd).2 ⟨(by rw [Int.mul_sub]; omega : (n.tmod d + d) + d * (n.tdiv d - 1) = n), by omega, by omega⟩).1.symm
theorem told {P : Program} {f : FuncId} {args : Array Value} {w : World} {v v' : Value} (h : Calls P f args w fun e w' => e = .returned v ∧ Below w.heap.size w w') (hv : v = v') : Calls P f args w fun e w' => e = .returned v' ∧ Below w.heap.size w w' := by
  subst hv; exact h
theorem toldi {P : Program} {f : FuncId} {args : Array Value} {w : World} {v v' : Value} (h : Calls P f args w fun e w' => e = .returned v ∧ w' = w) (hv : v = v') : Calls P f args w fun e w' => e = .returned v' ∧ w' = w := by
  subst hv; exact h

theorem not_any (x : Int) (h : -1000000 ≤ x) (h2 : x ≤ 1000000) (w : World) : Calls Tryd.prog 14 #[.int .i64 x] w fun e w' => e = .returned (.int .i64 (255 - x)) ∧ w' = w := by
  go_enter Tryd.func14, Tryd.ntmps14
  go_wp2
  go_ret
  exact ⟨rfl, rfl⟩
theorem sum_any (s d f g : Int) (w : World) : Calls Tryd.prog 13 #[.int .i64 s, .int .i64 d, .int .i64 f, .int .i64 g] w fun e w' => e = .returned (.int .i64 (sumv s d f g)) ∧ w' = w := by
  obtain ⟨h1, h2⟩ := partv_bd s f
  obtain ⟨h3, h4⟩ := partv_bd d g
  by_cases h : partv s f + partv d g < 255
  · rw [show sumv s d f g = partv s f + partv d g from if_pos h]
    go_enter Tryd.func13, Tryd.ntmps13
    go_wp2_with fail
    refine (part_any s f _).mono ?_
    rintro e w' ⟨rfl, rfl⟩
    go_wp2_with fail
    refine (part_any d g _).mono ?_
    rintro e w' ⟨rfl, rfl⟩
    go_wp2
    go_ret
    exact ⟨rfl, rfl⟩
  · rw [show sumv s d f g = 255 from if_neg h]
    go_enter Tryd.func13, Tryd.ntmps13
    go_wp2_with fail
    refine (part_any s f _).mono ?_
    rintro e w' ⟨rfl, rfl⟩
    go_wp2_with fail
    refine (part_any d g _).mono ?_
    rintro e w' ⟨rfl, rfl⟩
    go_wp2
    go_ret
    exact ⟨rfl, rfl⟩
theorem floored_any (n d : Int) (hd : 0 < d) (hd2 : d ≤ 1000000000) (hn : -1000000000 ≤ n) (hn2 : n ≤ 1000000000) (w : World) : Calls Tryd.prog 31 #[.int .i64 n, .int .i64 d] w fun e w' => e = .returned (.int .i64 (n / d)) ∧ w' = w := by
  have hne : ¬ d = 0 := by omega
  obtain ⟨b1, b2⟩ := ediv_bd hd (by omega) hn hn2
  by_cases h : n.tmod d < 0
  · have E := quo_dn n d hd h
    have b3 : -1000000000 ≤ n.tdiv d := by omega
    have b4 : n.tdiv d ≤ 1000000001 := by omega
    rw [← E]
    clear E b1 b2
    go_enter Tryd.func31, Tryd.ntmps31
    go_wp2
    go_ret
    exact ⟨rfl, rfl⟩
  · have E := quo_up n d hd h
    have b3 : -1000000000 ≤ n.tdiv d := by omega
    have b4 : n.tdiv d ≤ 1000000001 := by omega
    rw [← E]
    clear E b1 b2
    go_enter Tryd.func31, Tryd.ntmps31
    go_wp2
    go_ret
    exact ⟨rfl, rfl⟩
theorem screen_any (c b : Int) (hc : 0 ≤ c) (hc2 : c ≤ 255) (hb : 0 ≤ b) (hb2 : b ≤ 255) (w : World) : Calls Tryd.prog 32 #[.int .i64 c, .int .i64 b] w fun e w' => e = .returned (.int .i64 (screenv c b)) ∧ w' = w := by
  obtain ⟨h1, h2⟩ := partv_bd (255 - c) (255 - b)
  unfold screenv
  go_enter Tryd.func32, Tryd.ntmps32
  go_wp2_with fail
  refine (not_any c (by omega) (by omega) _).mono ?_
  rintro e w' ⟨rfl, rfl⟩
  go_wp2_with fail
  refine (not_any b (by omega) (by omega) _).mono ?_
  rintro e w' ⟨rfl, rfl⟩
  go_wp2_with fail
  refine (part_any _ _ _).mono ?_
  rintro e w' ⟨rfl, rfl⟩
  go_wp2_with fail
  refine (not_any _ (by omega) (by omega) _).mono ?_
  rintro e w' ⟨rfl, rfl⟩
  go_wp2
  go_ret
  exact ⟨rfl, rfl⟩
theorem dodge_bd {c b : Int} (hc : 0 ≤ c) (hc2 : c < 255) (hb : 0 ≤ b) (hb2 : b ≤ 255) : 0 ≤ b * 255 / (255 - c) ∧ b * 255 / (255 - c) ≤ 65025 := by
  refine ⟨Int.ediv_nonneg (by omega) (by omega), ?_⟩
  have := Int.ediv_le_self (255 - c) (show 0 ≤ b * 255 by omega)
  omega
theorem burn_bd {c b : Int} (hc : 0 < c) (hb : 0 ≤ b) (hb2 : b ≤ 255) : 0 ≤ (255 - b) * 255 / c ∧ (255 - b) * 255 / c ≤ 65025 := by
  refine ⟨Int.ediv_nonneg (by omega) (by omega), ?_⟩
  have := Int.ediv_le_self c (show 0 ≤ (255 - b) * 255 by omega)
  omega
theorem dodge_any (c b : Int) (hc : 0 ≤ c) (hc2 : c ≤ 255) (hb : 0 ≤ b) (hb2 : b ≤ 255) (w : World) : Calls Tryd.prog 34 #[.int .i64 c, .int .i64 b] w fun e w' => e = .returned (.int .i64 (dodgev c b)) ∧ w' = w := by
  by_cases hb0 : b = 0
  · rw [show dodgev c b = 0 from if_pos hb0]
    subst hb0
    go_enter Tryd.func34, Tryd.ntmps34
    go_wp2
    go_ret
    exact ⟨rfl, rfl⟩
  by_cases hc0 : c = 255
  · rw [show dodgev c b = 255 by unfold dodgev; rw [if_neg hb0, if_pos hc0]]
    subst hc0
    go_enter Tryd.func34, Tryd.ntmps34
    go_wp2
    go_ret
    exact ⟨rfl, rfl⟩
  obtain ⟨q1, q2⟩ := dodge_bd hc (by omega) hb hb2
  have hne : ¬ 255 - c = 0 := by omega
  by_cases h : b * 255 / (255 - c) < 255
  · rw [show dodgev c b = b * 255 / (255 - c) by unfold dodgev; rw [if_neg hb0, if_neg hc0, if_pos h]]
    go_enter Tryd.func34, Tryd.ntmps34
    go_wp2_with fail
    refine (not_any c (by omega) (by omega) _).mono ?_
    rintro e w' ⟨rfl, rfl⟩
    go_wp2
    go_ret
    exact ⟨rfl, rfl⟩
  · rw [show dodgev c b = 255 by unfold dodgev; rw [if_neg hb0, if_neg hc0, if_neg h]]
    go_enter Tryd.func34, Tryd.ntmps34
    go_wp2_with fail
    refine (not_any c (by omega) (by omega) _).mono ?_
    rintro e w' ⟨rfl, rfl⟩
    go_wp2
    go_ret
    exact ⟨rfl, rfl⟩
theorem burn_any (c b : Int) (hc : 0 ≤ c) (hc2 : c ≤ 255) (hb : 0 ≤ b) (hb2 : b ≤ 255) (w : World) : Calls Tryd.prog 35 #[.int .i64 c, .int .i64 b] w fun e w' => e = .returned (.int .i64 (burnv c b)) ∧ w' = w := by
  by_cases hb0 : b = 255
  · rw [show burnv c b = 255 from if_pos hb0]
    subst hb0
    go_enter Tryd.func35, Tryd.ntmps35
    go_wp2
    go_ret
    exact ⟨rfl, rfl⟩
  by_cases hc0 : c = 0
  · rw [show burnv c b = 0 by unfold burnv; rw [if_neg hb0, if_pos hc0]]
    subst hc0
    go_enter Tryd.func35, Tryd.ntmps35
    go_wp2
    go_ret
    exact ⟨rfl, rfl⟩
  obtain ⟨q1, q2⟩ := burn_bd (c := c) (by omega) hb hb2
  by_cases h : (255 - b) * 255 / c < 255
  · rw [show burnv c b = 255 - (255 - b) * 255 / c by unfold burnv; rw [if_neg hb0, if_neg hc0, if_pos h]]
    go_enter Tryd.func35, Tryd.ntmps35
    go_wp2_with fail
    refine (not_any b (by omega) (by omega) _).mono ?_
    rintro e w' ⟨rfl, rfl⟩
    go_wp2_with fail
    refine (not_any _ (by omega) (by omega) _).mono ?_
    rintro e w' ⟨rfl, rfl⟩
    go_wp2
    go_ret
    exact ⟨rfl, rfl⟩
  · rw [show burnv c b = 255 - 255 by unfold burnv; rw [if_neg hb0, if_neg hc0, if_neg h]]
    go_enter Tryd.func35, Tryd.ntmps35
    go_wp2_with fail
    refine (not_any b (by omega) (by omega) _).mono ?_
    rintro e w' ⟨rfl, rfl⟩
    go_wp2_with fail
    refine (not_any _ (by omega) (by omega) _).mono ?_
    rintro e w' ⟨rfl, rfl⟩
    go_wp2
    go_ret
    exact ⟨rfl, rfl⟩
theorem hard_any (c b : Int) (hc : 0 ≤ c) (hc2 : c ≤ 255) (hb : 0 ≤ b) (hb2 : b ≤ 255) (w : World) : Calls Tryd.prog 33 #[.int .i64 c, .int .i64 b] w fun e w' => e = .returned (.int .i64 (hardv c b)) ∧ w' = w := by
  by_cases h : c ≤ 127
  · rw [show hardv c b = partv (2 * c) b from if_pos h]
    go_enter Tryd.func33, Tryd.ntmps33
    go_wp2_with fail
    refine (part_any _ _ _).mono ?_
    rintro e w' ⟨rfl, rfl⟩
    go_wp2
    go_ret
    exact ⟨rfl, rfl⟩
  · rw [show hardv c b = screenv (2 * c - 255) b from if_neg h]
    go_enter Tryd.func33, Tryd.ntmps33
    go_wp2_with fail
    refine (screen_any _ _ (by omega) (by omega) hb hb2 _).mono ?_
    rintro e w' ⟨rfl, rfl⟩
    go_wp2
    go_ret
    exact ⟨rfl, rfl⟩
theorem soft_any (c b : Int) (hc : 0 ≤ c) (hc2 : c ≤ 255) (hb : 0 ≤ b) (hb2 : b ≤ 255) (w : World) : Calls Tryd.prog 36 #[.int .i64 c, .int .i64 b] w fun e w' => e = .returned (.int .i64 (softv c b)) ∧ w' = w := by
  obtain ⟨h1, h2⟩ := partv_bd (255 - c) (partv b b)
  obtain ⟨h3, h4⟩ := partv_bd c (screenv b b)
  by_cases h : partv (255 - c) (partv b b) + partv c (screenv b b) < 255
  · rw [show softv c b = partv (255 - c) (partv b b) + partv c (screenv b b) from if_pos h]
    go_enter Tryd.func36, Tryd.ntmps36
    go_wp2_with fail
    refine (not_any c (by omega) (by omega) _).mono ?_
    rintro e w' ⟨rfl, rfl⟩
    go_wp2_with fail
    refine (part_any _ _ _).mono ?_
    rintro e w' ⟨rfl, rfl⟩
    go_wp2_with fail
    refine (part_any _ _ _).mono ?_
    rintro e w' ⟨rfl, rfl⟩
    go_wp2_with fail
    refine (screen_any _ _ hb hb2 hb hb2 _).mono ?_
    rintro e w' ⟨rfl, rfl⟩
    go_wp2_with fail
    refine (part_any _ _ _).mono ?_
    rintro e w' ⟨rfl, rfl⟩
    go_wp2
    go_ret
    exact ⟨rfl, rfl⟩
  · rw [show softv c b = 255 from if_neg h]
    go_enter Tryd.func36, Tryd.ntmps36
    go_wp2_with fail
    refine (not_any c (by omega) (by omega) _).mono ?_
    rintro e w' ⟨rfl, rfl⟩
    go_wp2_with fail
    refine (part_any _ _ _).mono ?_
    rintro e w' ⟨rfl, rfl⟩
    go_wp2_with fail
    refine (part_any _ _ _).mono ?_
    rintro e w' ⟨rfl, rfl⟩
    go_wp2_with fail
    refine (screen_any _ _ hb hb2 hb hb2 _).mono ?_
    rintro e w' ⟨rfl, rfl⟩
    go_wp2_with fail
    refine (part_any _ _ _).mono ?_
    rintro e w' ⟨rfl, rfl⟩
    go_wp2
    go_ret
    exact ⟨rfl, rfl⟩
theorem alone_m13 (c b : Int) (hc : 0 ≤ c) (hc2 : c ≤ 255) (hb : 0 ≤ b) (hb2 : b ≤ 255) (w : World) : Calls Tryd.prog 25 #[.int .i64 13, .int .i64 c, .int .i64 b] w fun e w' => e = .returned (.int .i64 (alonev 13 c b)) ∧ w' = w := by
  rw [alone13]
  go_enter Tryd.func25, Tryd.ntmps25
  go_wp2_with fail
  refine (screen_any c b hc hc2 hb hb2 _).mono ?_
  rintro e w' ⟨rfl, rfl⟩
  go_wp2
  go_ret
  exact ⟨rfl, rfl⟩
theorem alone_m15 (c b : Int)  (w : World) : Calls Tryd.prog 25 #[.int .i64 15, .int .i64 c, .int .i64 b] w fun e w' => e = .returned (.int .i64 (alonev 15 c b)) ∧ w' = w := by
  rw [alone15]
  by_cases h : b < c
  · rw [show minv c b = b from if_pos h]
    go_enter Tryd.func25, Tryd.ntmps25
    go_wp2
    go_ret
    exact ⟨rfl, rfl⟩
  · rw [show minv c b = c from if_neg h]
    go_enter Tryd.func25, Tryd.ntmps25
    go_wp2
    go_ret
    exact ⟨rfl, rfl⟩
theorem alone_m16 (c b : Int)  (w : World) : Calls Tryd.prog 25 #[.int .i64 16, .int .i64 c, .int .i64 b] w fun e w' => e = .returned (.int .i64 (alonev 16 c b)) ∧ w' = w := by
  rw [alone16]
  by_cases h : c < b
  · rw [show maxv c b = b from if_pos h]
    go_enter Tryd.func25, Tryd.ntmps25
    go_wp2
    go_ret
    exact ⟨rfl, rfl⟩
  · rw [show maxv c b = c from if_neg h]
    go_enter Tryd.func25, Tryd.ntmps25
    go_wp2
    go_ret
    exact ⟨rfl, rfl⟩
theorem alone_m17 (c b : Int) (hc : 0 ≤ c) (hc2 : c ≤ 255) (hb : 0 ≤ b) (hb2 : b ≤ 255) (w : World) : Calls Tryd.prog 25 #[.int .i64 17, .int .i64 c, .int .i64 b] w fun e w' => e = .returned (.int .i64 (alonev 17 c b)) ∧ w' = w := by
  rw [alone17]
  go_enter Tryd.func25, Tryd.ntmps25
  go_wp2_with fail
  refine (dodge_any c b hc hc2 hb hb2 _).mono ?_
  rintro e w' ⟨rfl, rfl⟩
  go_wp2
  go_ret
  exact ⟨rfl, rfl⟩
theorem alone_m18 (c b : Int) (hc : 0 ≤ c) (hc2 : c ≤ 255) (hb : 0 ≤ b) (hb2 : b ≤ 255) (w : World) : Calls Tryd.prog 25 #[.int .i64 18, .int .i64 c, .int .i64 b] w fun e w' => e = .returned (.int .i64 (alonev 18 c b)) ∧ w' = w := by
  rw [alone18]
  go_enter Tryd.func25, Tryd.ntmps25
  go_wp2_with fail
  refine (burn_any c b hc hc2 hb hb2 _).mono ?_
  rintro e w' ⟨rfl, rfl⟩
  go_wp2
  go_ret
  exact ⟨rfl, rfl⟩
theorem alone_m19 (c b : Int) (hc : 0 ≤ c) (hc2 : c ≤ 255) (hb : 0 ≤ b) (hb2 : b ≤ 255) (w : World) : Calls Tryd.prog 25 #[.int .i64 19, .int .i64 c, .int .i64 b] w fun e w' => e = .returned (.int .i64 (alonev 19 c b)) ∧ w' = w := by
  rw [alone19]
  go_enter Tryd.func25, Tryd.ntmps25
  go_wp2_with fail
  refine (hard_any c b hc hc2 hb hb2 _).mono ?_
  rintro e w' ⟨rfl, rfl⟩
  go_wp2
  go_ret
  exact ⟨rfl, rfl⟩
theorem alone_m20 (c b : Int) (hc : 0 ≤ c) (hc2 : c ≤ 255) (hb : 0 ≤ b) (hb2 : b ≤ 255) (w : World) : Calls Tryd.prog 25 #[.int .i64 20, .int .i64 c, .int .i64 b] w fun e w' => e = .returned (.int .i64 (alonev 20 c b)) ∧ w' = w := by
  rw [alone20]
  go_enter Tryd.func25, Tryd.ntmps25
  go_wp2_with fail
  refine (soft_any c b hc hc2 hb hb2 _).mono ?_
  rintro e w' ⟨rfl, rfl⟩
  go_wp2
  go_ret
  exact ⟨rfl, rfl⟩
theorem alone_m14 (c b : Int) (hc : 0 ≤ c) (hc2 : c ≤ 255) (hb : 0 ≤ b) (hb2 : b ≤ 255) (w : World) : Calls Tryd.prog 25 #[.int .i64 14, .int .i64 c, .int .i64 b] w fun e w' => e = .returned (.int .i64 (alonev 14 c b)) ∧ w' = w := by
  rw [alone14]
  go_enter Tryd.func25, Tryd.ntmps25
  go_wp2_with fail
  refine (hard_any b c hb hb2 hc hc2 _).mono ?_
  rintro e w' ⟨rfl, rfl⟩
  go_wp2
  go_ret
  exact ⟨rfl, rfl⟩
theorem alone_m21 (c b : Int) (hc : 0 ≤ c) (hc2 : c ≤ 255) (hb : 0 ≤ b) (hb2 : b ≤ 255) (w : World) : Calls Tryd.prog 25 #[.int .i64 21, .int .i64 c, .int .i64 b] w fun e w' => e = .returned (.int .i64 (alonev 21 c b)) ∧ w' = w := by
  rw [alone21]
  unfold diffv
  by_cases h : c < b
  · rw [show maxv c b = b from if_pos h, show minv c b = c from if_neg (by omega)]
    go_enter Tryd.func25, Tryd.ntmps25
    go_wp2
    go_ret
    exact ⟨rfl, rfl⟩
  by_cases h' : b < c
  · rw [show maxv c b = c from if_neg h, show minv c b = b from if_pos h']
    go_enter Tryd.func25, Tryd.ntmps25
    go_wp2
    go_ret
    exact ⟨rfl, rfl⟩
  · rw [show maxv c b = c from if_neg h, show minv c b = c from if_neg h']
    go_enter Tryd.func25, Tryd.ntmps25
    go_wp2
    go_ret
    exact ⟨rfl, rfl⟩
theorem alone_m22 (c b : Int) (hc : 0 ≤ c) (hc2 : c ≤ 255) (hb : 0 ≤ b) (hb2 : b ≤ 255) (w : World) : Calls Tryd.prog 25 #[.int .i64 22, .int .i64 c, .int .i64 b] w fun e w' => e = .returned (.int .i64 (alonev 22 c b)) ∧ w' = w := by
  rw [alone22]
  obtain ⟨h1, h2⟩ := partv_bd c b
  unfold exclv
  by_cases h : 0 < c + b - 2 * partv c b
  · rw [show maxv 0 (c + b - 2 * partv c b) = c + b - 2 * partv c b from if_pos h]
    go_enter Tryd.func25, Tryd.ntmps25
    go_wp2_with fail
    refine (part_any c b _).mono ?_
    rintro e w' ⟨rfl, rfl⟩
    go_wp2
    go_ret
    exact ⟨rfl, rfl⟩
  · rw [show maxv 0 (c + b - 2 * partv c b) = 0 from if_neg h]
    go_enter Tryd.func25, Tryd.ntmps25
    go_wp2_with fail
    refine (part_any c b _).mono ?_
    rintro e w' ⟨rfl, rfl⟩
    go_wp2
    go_ret
    exact ⟨rfl, rfl⟩
theorem alone_m23 (c b : Int)  (w : World) : Calls Tryd.prog 25 #[.int .i64 23, .int .i64 c, .int .i64 b] w fun e w' => e = .returned (.int .i64 (alonev 23 c b)) ∧ w' = w := by
  rw [alone23]
  go_enter Tryd.func25, Tryd.ntmps25
  go_wp2_with fail
  refine (part_any c b _).mono ?_
  rintro e w' ⟨rfl, rfl⟩
  go_wp2
  go_ret
  exact ⟨rfl, rfl⟩
theorem alone_any (m c b : Int) (hm : 13 ≤ m) (hm2 : m < 24) (hc : 0 ≤ c) (hc2 : c ≤ 255) (hb : 0 ≤ b) (hb2 : b ≤ 255) (w : World) : Calls Tryd.prog 25 #[.int .i64 m, .int .i64 c, .int .i64 b] w fun e w' => e = .returned (.int .i64 (alonev m c b)) ∧ w' = w := by
  rcases (show m = 13 ∨ m = 14 ∨ m = 15 ∨ m = 16 ∨ m = 17 ∨ m = 18 ∨ m = 19 ∨ m = 20 ∨ m = 21 ∨ m = 22 ∨ m = 23 by omega) with rfl | rfl | rfl | rfl | rfl | rfl | rfl | rfl | rfl | rfl | rfl
  · exact alone_m13 c b hc hc2 hb hb2 w
  · exact alone_m14 c b hc hc2 hb hb2 w
  · exact alone_m15 c b w
  · exact alone_m16 c b w
  · exact alone_m17 c b hc hc2 hb hb2 w
  · exact alone_m18 c b hc hc2 hb hb2 w
  · exact alone_m19 c b hc hc2 hb hb2 w
  · exact alone_m20 c b hc hc2 hb hb2 w
  · exact alone_m21 c b hc hc2 hb hb2 w
  · exact alone_m22 c b hc hc2 hb hb2 w
  · exact alone_m23 c b w
end Go.Proofs.YtdaapanmalcgbabDoor
