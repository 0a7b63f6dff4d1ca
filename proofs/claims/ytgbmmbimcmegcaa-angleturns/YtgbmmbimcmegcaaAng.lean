/-
  Package angle, as contracts.
-/
import Derived.Test.YtgbmmbimcmegcaaTurn
import Derived.Test.YtgbmmbimcmegcaaFix
namespace Go.Proofs.Ytgbmmbimcmegcaa
open Go.RowKit

theorem norm_any (a : Int) (w : World) :
    Calls Try.prog 8 #[.int .i64 a] w fun e w' => e = .returned (.int .i64 (normv a)) ∧ w' = w := by
  go_enter Try.func8, Try.ntmps8
  go_wp2
  go_ret
  exact ⟨ret_int (and_turn a), rfl⟩

theorem arch_any (n : Int) (h : 0 ≤ n) (h2 : n ≤ 32768) (w : World) :
    Calls Try.prog 19 #[.int .i64 n] w fun e w' => e = .returned (.int .i64 (archv n)) ∧ w' = w := by
  obtain ⟨hp1, hp2⟩ := archp_bd h h2
  unfold archv
  unfold archp at *
  obtain ⟨p, hp⟩ : ∃ p, n * (32768 - n) = p := ⟨_, rfl⟩
  rw [hp] at hp1 hp2 ⊢
  go_enter Try.func19, Try.ntmps19
  go_wp2
  go_ret
  exact ⟨rfl, rfl⟩

theorem sin_any (a : Int) (w : World) :
    Calls Try.prog 9 #[.int .i64 a] w fun e w' => e = .returned (.int .i64 (sinv a)) ∧ w' = w := by
  obtain ⟨hn0, hn1⟩ := norm_bd a
  by_cases h : 32768 ≤ normv a
  · rw [sin_hi rfl h]
    obtain ⟨b0, b1⟩ := arch_bd (n := normv a - 32768) (by omega) (by omega)
    go_enter Try.func9, Try.ntmps9
    go_wp2_with fail
    refine (norm_any a _).mono ?_
    rintro e w' ⟨rfl, rfl⟩
    go_wp2_with fail
    refine (arch_any _ (by omega) (by omega) _).mono ?_
    rintro e w' ⟨rfl, rfl⟩
    go_wp2
    go_ret
    exact ⟨rfl, rfl⟩
  · rw [sin_lo rfl (by omega)]
    go_enter Try.func9, Try.ntmps9
    go_wp2_with fail
    refine (norm_any a _).mono ?_
    rintro e w' ⟨rfl, rfl⟩
    go_wp2_with fail
    refine (arch_any _ (by omega) (by omega) _).mono ?_
    rintro e w' ⟨rfl, rfl⟩
    go_wp2
    go_ret
    exact ⟨rfl, rfl⟩

theorem cos_any (a : Int) (w : World) :
    Calls Try.prog 10 #[.int .i64 a] w fun e w' => e = .returned (.int .i64 (cosv a)) ∧ w' = w := by
  obtain ⟨hn0, hn1⟩ := norm_bd a
  go_enter Try.func10, Try.ntmps10
  go_wp2_with fail
  refine (norm_any a _).mono ?_
  rintro e w' ⟨rfl, rfl⟩
  go_wp2_with fail
  refine (sin_any _ _).mono ?_
  rintro e w' ⟨rfl, rfl⟩
  go_wp2
  go_ret
  exact ⟨rfl, rfl⟩

theorem tan_any (a : Int) (w : World) :
    Calls Try.prog 11 #[.int .i64 a] w fun e w' => e = .returned (.int .i64 (tanv a)) ∧ w' = w := by
  go_enter Try.func11, Try.ntmps11
  go_wp2_with fail
  refine (sin_any a _).mono ?_
  rintro e w' ⟨rfl, rfl⟩
  go_wp2_with fail
  refine (cos_any a _).mono ?_
  rintro e w' ⟨rfl, rfl⟩
  go_wp2_with fail
  refine (div_any _ _ _).mono ?_
  rintro e w' ⟨rfl, rfl⟩
  go_wp2
  go_ret
  exact ⟨rfl, rfl⟩

theorem slope_any (v u : Int) (hv : 0 ≤ v) (h : v ≤ u) (hu : 0 < u) (hu2 : u ≤ 2147483647) (w : World) :
    Calls Try.prog 22 #[.int .i64 v, .int .i64 u] w fun e w' => e = .returned (.int .i64 (slopev v u)) ∧ w' = w := by
  obtain ⟨z0, z1⟩ := part_bd hv h hu
  obtain ⟨p0, p1⟩ := lean_prod z0 z1
  have hne : ¬ u = 0 := by omega
  unfold slopev leanv
  unfold part at *
  obtain ⟨z, hz⟩ : ∃ z, v * 65536 / u = z := ⟨_, rfl⟩
  rw [hz] at z0 z1 p0 p1 ⊢
  go_enter Try.func22, Try.ntmps22
  go_wp2
  go_ret
  exact ⟨rfl, rfl⟩

end Go.Proofs.Ytgbmmbimcmegcaa
