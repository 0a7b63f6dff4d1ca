/-
  versalhand's Pick and Premul, the law's 'near' and 'known', as contracts.
-/
import Derived.Test.YtdaapanmalcgbabDoorBng
import Derived.ProofKit
namespace Go.Proofs.YtdaapanmalcgbabDoor
open Go.RowKit

theorem pick_neg (n m : Int) (hm : 0 < m) (h : n.tmod m < 0) : n.tmod m + m = n % m := by
  have h1 := Int.tmod_eq_emod (a := n) (b := m)
  have h2 := Int.emod_nonneg n (by omega : m ≠ 0)
  split at h1 <;> omega
theorem pick_pos (n m : Int) (hm : 0 < m) (h : 0 ≤ n.tmod m) : n.tmod m = n % m := by
  have h1 := Int.tmod_eq_emod (a := n) (b := m)
  have h2 := Int.emod_lt_of_pos n hm
  split at h1 <;> omega
set_option maxHeartbeats 400000 in
theorem pick_det (n m : Int) (hm : 0 < m) (hm2 : m ≤ 1000000000000000) (w : World) :
    Calls Tryd.prog 7 #[.int .i64 n, .int .i64 m] w fun e w' => e = .returned (.int .i64 (n % m)) ∧ w' = w := by
  have hb := tmod_bd n m hm
  have hne : ¬ m = 0 := by omega
  by_cases hz : n.tmod m < 0
  · have E : Hid (n.tmod m + m = n % m) := pick_neg n m hm hz
    rw [← E.out]
    go_enter Tryd.func7, Tryd.ntmps7
    go_wp2
    go_ret
    exact ⟨rfl, rfl⟩
  · have E : Hid (n.tmod m = n % m) := pick_pos n m hm (by omega)
    rw [← E.out]
    go_enter Tryd.func7, Tryd.ntmps7
    go_wp2
    go_ret
    exact ⟨rfl, rfl⟩
def Fits (n : Int) : Prop := -9223372036854775808 ≤ n ∧ n ≤ 9223372036854775807
/-- A premultiplied pixel of one number. -/
def premA (n : Int) : Int := if n.tdiv 256 % 5 = 0 then 255 else if n.tdiv 256 % 5 = 1 then 0 else n % 256
def premulv (n : Int) : Px := ⟨n.tdiv 3 % (premA n + 1), n.tdiv 777 % (premA n + 1), n.tdiv 100003 % (premA n + 1), premA n⟩
theorem premA_bd (n : Int) : 0 ≤ premA n ∧ premA n ≤ 255 := by unfold premA; split <;> (try split) <;> omega
theorem premulv_pm (n : Int) : Pm (premulv n) := by
  obtain ⟨h1, h2⟩ := premA_bd n
  have h3 : ∀ x : Int, 0 ≤ x % (premA n + 1) ∧ x % (premA n + 1) ≤ premA n := fun x =>
    ⟨Int.emod_nonneg _ (by omega), by have := Int.emod_lt_of_pos x (show 0 < premA n + 1 by omega); omega⟩
  exact ⟨⟨(h3 _).1, Int.le_trans (h3 _).2 h2, (h3 _).1, Int.le_trans (h3 _).2 h2, (h3 _).1, Int.le_trans (h3 _).2 h2, h1, h2⟩, (h3 _).2, (h3 _).2, (h3 _).2⟩

/-- What the example's call answers. -/
theorem ex_blend : outv 12 ⟨200, 0, 0, 200⟩ ⟨100, 0, 0, 100⟩ = ⟨255, 0, 0, 255⟩ ∧ mayv 12 ⟨200, 0, 0, 200⟩ ⟨100, 0, 0, 100⟩ = true := ⟨by kernel_rfl, by kernel_rfl⟩
set_option maxRecDepth 100000 in
theorem known_any (w : World) (hT : Tab w) : Calls Tryd.prog 6 #[] w fun e w' => e = .returned (.bool true) ∧ Below w.heap.size w w' := by
  have A1 : ∀ W : World, Tab W → Calls Tryd.prog 5 #[.int .i64 12, pv ⟨200, 0, 0, 200⟩, pv ⟨100, 0, 0, 100⟩] W fun e w' => e = .returned (.tuple #[pv ⟨255, 0, 0, 255⟩, .bool true]) ∧ Below W.heap.size W w' := fun W h => told (blend_any 12 ⟨200, 0, 0, 200⟩ ⟨100, 0, 0, 100⟩ W h) (by unfold blendR; rw [ex_blend.1, ex_blend.2])
  go_enter Tryd.func6, Tryd.ntmps6
  go_wp2_with fail
  refine (A1 _ hT).mono ?_
  rintro e w1 ⟨rfl, b1⟩
  go_wp2
  go_ret
  exact ⟨rfl, b1.alloc b1.size _⟩
end Go.Proofs.YtdaapanmalcgbabDoor
