
/-
  The references of chapter 4, but Atan, as contracts.
-/
import Derived.Test.YtkgkoicmpjnjgaaTurn
import Derived.Test.YtkgkoicmpjnjgaaRef
namespace Go.Proofs.Ytkgkoicmpjnjgaa
open Go.RowKit

theorem refNorm_any (a : Int) (w : World) :
    Calls Try.prog 47 #[.int .i64 a] w fun e w' => e = .returned (.int .i64 (normv a)) ∧ w' = w := by
  have hb := tmod_bd a 65536 (by omega)
  by_cases hz : a.tmod 65536 < 0
  · have e := pick_neg a 65536 (by omega) hz
    have E : Hid (a.tmod 65536 + 65536 = a % 65536) := e
    obtain ⟨r, hr⟩ : ∃ r, a.tmod 65536 = r := ⟨_, rfl⟩
    have HR : Hid (a.tmod 65536 = r) := hr
    rw [hr] at hb hz
    clear e
    go_enter Try.func47, Try.ntmps47
    go_wp2
    go_ret
    exact ⟨ret_int (by unfold normv; rw [← E.out, HR.out]), rfl⟩
  · have e := pick_pos a 65536 (by omega) (by omega)
    have E : Hid (a.tmod 65536 = a % 65536) := e
    obtain ⟨r, hr⟩ : ∃ r, a.tmod 65536 = r := ⟨_, rfl⟩
    have HR : Hid (a.tmod 65536 = r) := hr
    rw [hr] at hb hz
    clear e
    go_enter Try.func47, Try.ntmps47
    go_wp2
    go_ret
    exact ⟨ret_int (by unfold normv; rw [← E.out, HR.out]), rfl⟩

/-- Below half a turn. -/
theorem refSin_lo (a : Int) (h : normv a < 32768) (w : World) :
    Calls Try.prog 39 #[.int .i64 a] w fun e w' => e = .returned (.int .i64 (archv (normv a))) ∧ w' = w := by
  obtain ⟨hn0, hn1⟩ := norm_bd a
  obtain ⟨n, hn⟩ : ∃ n, normv a = n := ⟨_, rfl⟩
  have HN : Hid (normv a = n) := hn
  rw [hn] at h hn0 hn1 ⊢
  clear hn
  obtain ⟨hp1, hp2⟩ := archp_bd (n := n) (by omega) (by omega)
  unfold archv
  unfold archp at *
  obtain ⟨p, hp⟩ : ∃ p, n * (32768 - n) = p := ⟨_, rfl⟩
  rw [hp] at hp1 hp2 ⊢
  go_enter Try.func39, Try.ntmps39
  go_wp2_with fail
  refine (refNorm_any a _).mono ?_
  rintro e w' ⟨rfl, rfl⟩
  rw [HN.out]
  go_wp2_with fail
  refine (floor_any _ _ (by omega) (by omega) (by omega) _).mono ?_
  rintro e w' ⟨rfl, rfl⟩
  go_wp2
  go_ret
  exact ⟨rfl, rfl⟩

theorem refSin_any (a : Int) (w : World) :
    Calls Try.prog 39 #[.int .i64 a] w fun e w' => e = .returned (.int .i64 (sinv a)) ∧ w' = w := by
  obtain ⟨hn0, hn1⟩ := norm_bd a
  by_cases h : 32768 ≤ normv a
  · rw [sin_hi rfl h]
    obtain ⟨n, hn⟩ : ∃ n, normv a = n := ⟨_, rfl⟩
    have HN : Hid (normv a = n) := hn
    rw [hn] at h hn0 hn1 ⊢
    clear hn
    have e0 : normv (n - 32768) = n - 32768 := by unfold normv; omega
    obtain ⟨b0, b1⟩ := arch_bd (n := n - 32768) (by omega) (by omega)
    have E0 : Hid (normv (n - 32768) = n - 32768) := e0
    clear e0
    go_enter Try.func39, Try.ntmps39
    go_wp2_with fail
    refine (refNorm_any a _).mono ?_
    rintro e w' ⟨rfl, rfl⟩
    rw [HN.out]
    go_wp2_with fail
    refine (refSin_lo _ (by rw [E0.out]; omega) _).mono ?_
    rintro e w' ⟨rfl, rfl⟩
    rw [E0.out]
    go_wp2
    go_ret
    exact ⟨rfl, rfl⟩
  · rw [sin_lo rfl (by omega)]
    exact refSin_lo a (by omega) w

theorem refCos_any (a : Int) (w : World) :
    Calls Try.prog 38 #[.int .i64 a] w fun e w' => e = .returned (.int .i64 (cosv a)) ∧ w' = w := by
  obtain ⟨hn0, hn1⟩ := norm_bd a
  go_enter Try.func38, Try.ntmps38
  go_wp2_with fail
  refine (refNorm_any a _).mono ?_
  rintro e w' ⟨rfl, rfl⟩
  go_wp2_with fail
  refine (refSin_any _ _).mono ?_
  rintro e w' ⟨rfl, rfl⟩
  go_wp2
  go_ret
  exact ⟨rfl, rfl⟩

theorem refTan_any (a : Int) (w : World) :
    Calls Try.prog 40 #[.int .i64 a] w fun e w' => e = .returned (.int .i64 (tanv a)) ∧ w' = w := by
  go_enter Try.func40, Try.ntmps40
  go_wp2_with fail
  refine (refSin_any a _).mono ?_
  rintro e w' ⟨rfl, rfl⟩
  go_wp2_with fail
  refine (refCos_any a _).mono ?_
  rintro e w' ⟨rfl, rfl⟩
  go_wp2_with fail
  refine (refDiv_any _ _ _).mono ?_
  rintro e w' ⟨rfl, rfl⟩
  go_wp2
  go_ret
  exact ⟨rfl, rfl⟩

end Go.Proofs.Ytkgkoicmpjnjgaa
