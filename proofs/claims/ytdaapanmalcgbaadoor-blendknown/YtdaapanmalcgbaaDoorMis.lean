/-
  versalhand's Pick and Premul, the law's 'near' and 'known', as contracts.
-/
import Derived.Test.YtdaapanmalcgbaaDoorBng
import Derived.ProofKit
namespace Go.Proofs.YtdaapanmalcgbaaDoor
open Go.RowKit

theorem pick_neg (n m : Int) (hm : 0 < m) (h : n.tmod m < 0) : n.tmod m + m = n % m := by
  have h1 := Int.tmod_eq_emod (a := n) (b := m)
  have h2 := Int.emod_nonneg n (by omega : m ≠ 0)
  split at h1 <;> omega
theorem pick_pos (n m : Int) (hm : 0 < m) (h : 0 ≤ n.tmod m) : n.tmod m = n % m := by
  have h1 := Int.tmod_eq_emod (a := n) (b := m)
  have h2 := Int.emod_lt_of_pos n hm
  split at h1 <;> omega
set_option maxHeartbeats 400000 in
theorem pick_det (n m : Int) (hm : 0 < m) (hm2 : m ≤ 1000000000000000) (w : World) :
    Calls Tryd.prog 12 #[.int .i64 n, .int .i64 m] w fun e w' => e = .returned (.int .i64 (n % m)) ∧ w' = w := by
  have hb := tmod_bd n m hm
  have hne : ¬ m = 0 := by omega
  by_cases hz : n.tmod m < 0
  · have E : Hid (n.tmod m + m = n % m) := pick_neg n m hm hz
    rw [← E.out]
    go_enter Tryd.func12, Tryd.ntmps12
    go_wp2
    go_ret
    exact ⟨rfl, rfl⟩
  · have E : Hid (n.tmod m = n % m) := pick_pos n m hm (by omega)
    rw [← E.out]
    go_enter Tryd.func12, Tryd.ntmps12
    go_wp2
    go_ret
    exact ⟨rfl, rfl⟩
def Fits (n : Int) : Prop := -9223372036854775808 ≤ n ∧ n ≤ 9223372036854775807
/-- A premultiplied pixel of one number. -/
def premA (n : Int) : Int := if n.tdiv 256 % 5 = 0 then 255 else if n.tdiv 256 % 5 = 1 then 0 else n % 256
def premulv (n : Int) : Px := ⟨n.tdiv 3 % (premA n + 1), n.tdiv 777 % (premA n + 1), n.tdiv 100003 % (premA n + 1), premA n⟩
theorem premA_bd (n : Int) : 0 ≤ premA n ∧ premA n ≤ 255 := by unfold premA; split <;> (try split) <;> omega
theorem premulv_pm (n : Int) : Pm (premulv n) := by
  obtain ⟨h1, h2⟩ := premA_bd n
  have h3 : ∀ x : Int, 0 ≤ x % (premA n + 1) ∧ x % (premA n + 1) ≤ premA n := fun x =>
    ⟨Int.emod_nonneg _ (by omega), by have := Int.emod_lt_of_pos x (show 0 < premA n + 1 by omega); omega⟩
  exact ⟨⟨(h3 _).1, Int.le_trans (h3 _).2 h2, (h3 _).1, Int.le_trans (h3 _).2 h2, (h3 _).1, Int.le_trans (h3 _).2 h2, h1, h2⟩, (h3 _).2, (h3 _).2, (h3 _).2⟩

set_option maxRecDepth 100000 in
set_option maxHeartbeats 1600000 in
theorem premul_any (n : Int) (hn : Fits n) (w : World) : Calls Tryd.prog 11 #[.int .i64 n] w fun r w' => r = .returned (pv (premulv n)) ∧ Below w.heap.size w w' := by
  obtain ⟨f1, f2⟩ := hn
  obtain ⟨h1, h2⟩ := premA_bd n
  have b1 : Below w.heap.size w (w.alloc (pblk ⟨0, 0, 0, 0⟩)) := (Below.refl _ w).alloc (Nat.le_refl _) _
  obtain ⟨A, hA⟩ : ∃ A, premA n = A := ⟨_, rfl⟩
  have HP : Hid (premulv n = ⟨n.tdiv 3 % (A + 1), n.tdiv 777 % (A + 1), n.tdiv 100003 % (A + 1), A⟩) := by show _ = _; rw [← hA]; rfl
  rw [hA] at h1 h2
  obtain ⟨K, hK⟩ : ∃ K, n.tdiv 256 % 5 = K := ⟨_, rfl⟩
  have HA : Hid (A = if K = 0 then 255 else if K = 1 then 0 else n % 256) := by show _ = _; rw [← hA, ← hK]; rfl
  have HK : Hid (n.tdiv 256 % 5 = K) := hK
  clear hA hK
  by_cases k0 : K = 0
  · subst k0
    obtain rfl : A = 255 := by rw [HA.out]; rfl
    go_enter Tryd.func11, Tryd.ntmps11
    go_wp2_with fail
    refine (pick_det n 256 (by omega) (by omega) _).mono ?_
    rintro e w' ⟨rfl, rfl⟩
    go_wp2_with fail
    refine (pick_det _ 5 (by omega) (by omega) _).mono ?_
    rintro e w' ⟨rfl, rfl⟩
    rw [HK.out]
    go_wp2_with fail
    refine (pick_det _ 256 (by omega) (by omega) _).mono ?_
    rintro e w' ⟨rfl, rfl⟩
    go_wp2_with fail
    refine (pick_det _ 256 (by omega) (by omega) _).mono ?_
    rintro e w' ⟨rfl, rfl⟩
    go_wp2_with fail
    refine (pick_det _ 256 (by omega) (by omega) _).mono ?_
    rintro e w' ⟨rfl, rfl⟩
    go_wp2
    refine bodyPost_ret (res_px rfl _ _ _ _ _ _ rfl (blk_new _ _) rfl) rfl ?_
    exact ⟨by rw [HP.out]; rfl, (Below.refl _ w).alloc (Nat.le_refl _) _⟩
  · by_cases k1 : K = 1
    · subst k1
      obtain rfl : A = 0 := by rw [HA.out]; rfl
      go_enter Tryd.func11, Tryd.ntmps11
      go_wp2_with fail
      refine (pick_det n 256 (by omega) (by omega) _).mono ?_
      rintro e w' ⟨rfl, rfl⟩
      go_wp2_with fail
      refine (pick_det _ 5 (by omega) (by omega) _).mono ?_
      rintro e w' ⟨rfl, rfl⟩
      rw [HK.out]
      go_wp2_with fail
      refine (pick_det _ 1 (by omega) (by omega) _).mono ?_
      rintro e w' ⟨rfl, rfl⟩
      go_wp2_with fail
      refine (pick_det _ 1 (by omega) (by omega) _).mono ?_
      rintro e w' ⟨rfl, rfl⟩
      go_wp2_with fail
      refine (pick_det _ 1 (by omega) (by omega) _).mono ?_
      rintro e w' ⟨rfl, rfl⟩
      go_wp2
      refine bodyPost_ret (res_px rfl _ _ _ _ _ _ rfl (blk_new _ _) rfl) rfl ?_
      exact ⟨by rw [HP.out]; simp, (Below.refl _ w).alloc (Nat.le_refl _) _⟩
    · have HE : Hid (n % 256 = A) := by show _ = _; rw [HA.out, if_neg k0, if_neg k1]
      go_enter Tryd.func11, Tryd.ntmps11
      go_wp2_with fail
      refine (pick_det n 256 (by omega) (by omega) _).mono ?_
      rintro e w' ⟨rfl, rfl⟩
      rw [HE.out]
      go_wp2_with fail
      refine (pick_det _ 5 (by omega) (by omega) _).mono ?_
      rintro e w' ⟨rfl, rfl⟩
      rw [HK.out]
      go_wp2_with fail
      refine (pick_det _ (A + 1) (by omega) (by omega) _).mono ?_
      rintro e w' ⟨rfl, rfl⟩
      go_wp2_with fail
      refine (pick_det _ (A + 1) (by omega) (by omega) _).mono ?_
      rintro e w' ⟨rfl, rfl⟩
      go_wp2_with fail
      refine (pick_det _ (A + 1) (by omega) (by omega) _).mono ?_
      rintro e w' ⟨rfl, rfl⟩
      go_wp2
      refine bodyPost_ret (res_px rfl _ _ _ _ _ _ rfl (blk_new _ _) rfl) rfl ?_
      exact ⟨by rw [HP.out], (Below.refl _ w).alloc (Nat.le_refl _) _⟩


/-- What the example's call answers. -/
theorem ex_blend : outv 12 ⟨200, 0, 0, 200⟩ ⟨100, 0, 0, 100⟩ = ⟨255, 0, 0, 255⟩ ∧ mayv 12 ⟨200, 0, 0, 200⟩ ⟨100, 0, 0, 100⟩ = true := ⟨by kernel_rfl, by kernel_rfl⟩
set_option maxRecDepth 100000 in
theorem known_any (w : World) (hT : Tab w) : Calls Tryd.prog 10 #[] w fun e w' => e = .returned (.bool true) ∧ Below w.heap.size w w' := by
  have A1 : ∀ W : World, Tab W → Calls Tryd.prog 9 #[.int .i64 12, pv ⟨200, 0, 0, 200⟩, pv ⟨100, 0, 0, 100⟩] W fun e w' => e = .returned (.tuple #[pv ⟨255, 0, 0, 255⟩, .bool true]) ∧ Below W.heap.size W w' := fun W h => told (blend_any 12 ⟨200, 0, 0, 200⟩ ⟨100, 0, 0, 100⟩ W h) (by unfold blendR; rw [ex_blend.1, ex_blend.2])
  go_enter Tryd.func10, Tryd.ntmps10
  go_wp2_with fail
  refine (A1 _ hT).mono ?_
  rintro e w1 ⟨rfl, b1⟩
  go_wp2
  go_ret
  exact ⟨rfl, b1.alloc b1.size _⟩
theorem near_same (a : Int) (w : World) : Calls Tryd.prog 15 #[.int .i64 a, .int .i64 a] w fun e w' => e = .returned (.bool true) ∧ w' = w := by
  go_enter Tryd.func15, Tryd.ntmps15
  go_wp2
  go_ret
  exact ⟨rfl, rfl⟩
end Go.Proofs.YtdaapanmalcgbaaDoor
