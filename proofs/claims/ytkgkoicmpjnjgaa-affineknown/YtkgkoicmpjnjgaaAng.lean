
/-
  Package angle, as contracts.
-/
import Derived.Test.YtkgkoicmpjnjgaaTurn
import Derived.Test.YtkgkoicmpjnjgaaFix
namespace Go.Proofs.Ytkgkoicmpjnjgaa
open Go.RowKit

theorem norm_any (a : Int) (w : World) :
    Calls Try.prog 43 #[.int .i64 a] w fun e w' => e = .returned (.int .i64 (normv a)) ∧ w' = w := by
  go_enter Try.func43, Try.ntmps43
  go_wp2
  go_ret
  exact ⟨ret_int (and_turn a), rfl⟩

theorem arch_any (n : Int) (h : 0 ≤ n) (h2 : n ≤ 32768) (w : World) :
    Calls Try.prog 44 #[.int .i64 n] w fun e w' => e = .returned (.int .i64 (archv n)) ∧ w' = w := by
  obtain ⟨hp1, hp2⟩ := archp_bd h h2
  unfold archv
  unfold archp at *
  obtain ⟨p, hp⟩ : ∃ p, n * (32768 - n) = p := ⟨_, rfl⟩
  rw [hp] at hp1 hp2 ⊢
  go_enter Try.func44, Try.ntmps44
  go_wp2
  go_ret
  exact ⟨rfl, rfl⟩

theorem sin_any (a : Int) (w : World) :
    Calls Try.prog 31 #[.int .i64 a] w fun e w' => e = .returned (.int .i64 (sinv a)) ∧ w' = w := by
  obtain ⟨hn0, hn1⟩ := norm_bd a
  by_cases h : 32768 ≤ normv a
  · rw [sin_hi rfl h]
    obtain ⟨b0, b1⟩ := arch_bd (n := normv a - 32768) (by omega) (by omega)
    go_enter Try.func31, Try.ntmps31
    go_wp2_with fail
    refine (norm_any a _).mono ?_
    rintro e w' ⟨rfl, rfl⟩
    go_wp2_with fail
    refine (arch_any _ (by omega) (by omega) _).mono ?_
    rintro e w' ⟨rfl, rfl⟩
    go_wp2
    go_ret
    exact ⟨rfl, rfl⟩
  · rw [sin_lo rfl (by omega)]
    go_enter Try.func31, Try.ntmps31
    go_wp2_with fail
    refine (norm_any a _).mono ?_
    rintro e w' ⟨rfl, rfl⟩
    go_wp2_with fail
    refine (arch_any _ (by omega) (by omega) _).mono ?_
    rintro e w' ⟨rfl, rfl⟩
    go_wp2
    go_ret
    exact ⟨rfl, rfl⟩

theorem cos_any (a : Int) (w : World) :
    Calls Try.prog 32 #[.int .i64 a] w fun e w' => e = .returned (.int .i64 (cosv a)) ∧ w' = w := by
  obtain ⟨hn0, hn1⟩ := norm_bd a
  go_enter Try.func32, Try.ntmps32
  go_wp2_with fail
  refine (norm_any a _).mono ?_
  rintro e w' ⟨rfl, rfl⟩
  go_wp2_with fail
  refine (sin_any _ _).mono ?_
  rintro e w' ⟨rfl, rfl⟩
  go_wp2
  go_ret
  exact ⟨rfl, rfl⟩

theorem tan_any (a : Int) (w : World) :
    Calls Try.prog 33 #[.int .i64 a] w fun e w' => e = .returned (.int .i64 (tanv a)) ∧ w' = w := by
  go_enter Try.func33, Try.ntmps33
  go_wp2_with fail
  refine (sin_any a _).mono ?_
  rintro e w' ⟨rfl, rfl⟩
  go_wp2_with fail
  refine (cos_any a _).mono ?_
  rintro e w' ⟨rfl, rfl⟩
  go_wp2_with fail
  refine (div_any _ _ _).mono ?_
  rintro e w' ⟨rfl, rfl⟩
  go_wp2
  go_ret
  exact ⟨rfl, rfl⟩

end Go.Proofs.Ytkgkoicmpjnjgaa
