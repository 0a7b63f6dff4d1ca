
/-
  versalhand.Pick as a contract; Take for any number of bits.
-/
import Derived.Test.YtahibacjaoohiaaDoorLits
namespace Go.Proofs.YtahibacjaoohiaaDoor
open Go.RowKit

theorem pick_neg (n m : Int) (hm : 0 < m) (h : n.tmod m < 0) : n.tmod m + m = n % m := by
  have h1 := Int.tmod_eq_emod (a := n) (b := m)
  have h2 := Int.emod_nonneg n (by omega : m ≠ 0)
  split at h1 <;> omega
theorem pick_pos (n m : Int) (hm : 0 < m) (h : 0 ≤ n.tmod m) : n.tmod m = n % m := by
  have h1 := Int.tmod_eq_emod (a := n) (b := m)
  have h2 := Int.emod_lt_of_pos n hm
  split at h1 <;> omega
theorem tmod_bd (n m : Int) (hm : 0 < m) : -m < n.tmod m ∧ n.tmod m < m :=
  ⟨Int.neg_lt_of_neg_lt (by have := Int.tmod_lt_of_pos (-n) hm; rw [Int.neg_tmod] at this; exact this), Int.tmod_lt_of_pos n hm⟩

/-- One of 0 to m - 1. -/
def pickv (n : Int) (m : Nat) : Nat := (n % (m : Int)).toNat
theorem pickv_lt (n : Int) (m : Nat) (hm : 0 < m) : pickv n m < m := by
  have h2 := Int.emod_nonneg n (by omega : (m : Int) ≠ 0)
  have h3 := Int.emod_lt_of_pos n (by omega : (0 : Int) < m)
  unfold pickv; omega

set_option maxHeartbeats 400000 in
theorem pick_any (n : Int) (m : Nat) (hm : 0 < m) (hm2 : m ≤ 1000000) (w : World) :
    Calls Tryd.prog 10 #[.int .i64 n, .int .i64 (m : Nat)] w fun e w' => e = .returned (.int .i64 (pickv n m : Nat)) ∧ w' = w := by
  have hb := tmod_bd n m (by omega)
  have h2 := Int.emod_nonneg n (by omega : (m : Int) ≠ 0)
  have hk : ((pickv n m : Nat) : Int) = n % (m : Int) := by unfold pickv; omega
  have hne : ¬ (m : Int) = 0 := by omega
  by_cases hz : n.tmod m < 0
  · have e := pick_neg n m (by omega) hz
    have E : Hid (n.tmod m + m = n % m) := e
    have HK : Hid (((pickv n m : Nat) : Int) = n % m) := hk
    clear e h2 hk
    go_enter Tryd.func10, Tryd.ntmps10
    go_wp2
    go_ret
    exact ⟨ret_int (by rw [HK.out, ← E.out]), rfl⟩
  · have e := pick_pos n m (by omega) (by omega)
    have E : Hid (n.tmod m = n % m) := e
    have HK : Hid (((pickv n m : Nat) : Int) = n % m) := hk
    clear e h2 hk
    go_enter Tryd.func10, Tryd.ntmps10
    go_wp2
    go_ret
    exact ⟨ret_int (by rw [HK.out, ← E.out]), rfl⟩



end Go.Proofs.YtahibacjaoohiaaDoor
