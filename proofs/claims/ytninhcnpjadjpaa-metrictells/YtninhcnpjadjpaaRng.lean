/-
  metric.entry, metric.Range, as contracts.
-/
import Derived.Test.YtninhcnpjadjpaaRdo
namespace Go.Proofs.Ytninhcnpjadjpaa
open Go.RowKit

def entW (b : Bool) : Nat := if b = true then 4 else 2
/-- What entry k of loca tells. -/
def entv (z : Nat → Nat) (b : Bool) (k : Nat) : Nat := if b = true then numv z (4 * k) 4 else 2 * numv z (2 * k) 2
def entN (t : Tb) (b : Bool) (k : Nat) : Nat := if entW b * (k + 1) ≤ t.l then entv t.z b k else 0
theorem entv_lt (z : Nat → Nat) (hz : ∀ i, z i < 256) (b : Bool) (k : Nat) : entv z b k < 4294967296 := by
  unfold entv
  have h4 := numv_lt4 z hz (4 * k) 4 (by omega)
  have h2 := u16_lt z hz (2 * k)
  split <;> omega
set_option maxHeartbeats 400000 in
theorem entry_any (a : Option Addr) (l c : Nat) (z : Nat → Nat) (k : Nat) (b : Bool) (w : World) (h : Lies w a l c z) (hk : k ≤ 9223372036854775807) :
    Calls Try.prog 21 #[.slice a l c, .int .i64 (k : Nat), .bool b] w fun e w' => e = .returned (.tuple #[.int .i64 (entN ⟨l, z⟩ b k : Nat), .bool (decide (entW b * (k + 1) ≤ l))]) ∧ w' = w := by
  have hr := h.reach
  by_cases hkl : k < l
  · have hk' : ¬ (l : Int) ≤ k := by omega
    cases b
    · obtain ⟨m, hm⟩ : ∃ m : Nat, (k : Int) * 2 = m := ⟨k * 2, by omega⟩
      have hm2 : m = 2 * k := by omega
      have U := u16_any a l c z (m : Int) w h (by omega)
      by_cases hf : 2 * (k + 1) ≤ l
      · have ht : there l (m : Int) 2 = true := there_iff.2 ⟨by omega, by omega, by omega⟩
        have e1 : tell z l (m : Int) 2 = (numv z (2 * k) 2 : Nat) := by unfold tell; rw [if_pos (show there l (m : Int) ((2 : Nat) : Int) = true from ht), Int.toNat_natCast, hm2]
        rw [e1, ht] at U
        have HE : Hid (entN ⟨l, z⟩ false k = 2 * numv z (2 * k) 2) := by show _ = _; unfold entN; rw [if_pos (show entW false * (k + 1) ≤ l from hf)]; rfl
        have HD : Hid (decide (entW false * (k + 1) ≤ l) = true) := decide_eq_true hf
        have hlt := u16_lt z h.byte (2 * k)
        obtain ⟨v, hv⟩ : ∃ v, Hid (numv z (2 * k) 2 = v) := ⟨_, rfl⟩
        rw [hv.out] at hlt U
        obtain ⟨X, hX⟩ : ∃ X : Nat, (2 : Int) * v = X := ⟨2 * v, by omega⟩
        have hX2 : 2 * v = X := by omega
        rw [HD.out, HE.out, hv.out, hX2]
        rw [← hm] at U
        clear ht e1 h hm hm2
        go_enter Try.func21, Try.ntmps21
        go_wp2_with fail
        refine U.mono ?_
        rintro e w' ⟨rfl, rfl⟩
        go_wp2
        go_ret2
        exact ⟨rfl, rfl⟩
      · have ht : there l (m : Int) 2 = false := there_not fun hh => by omega
        have e1 : tell z l (m : Int) 2 = 0 := by unfold tell; rw [if_neg (by rw [show there l (m : Int) ((2 : Nat) : Int) = false from ht]; simp)]
        rw [e1, ht] at U
        have HE : Hid (entN ⟨l, z⟩ false k = 0) := by show _ = _; unfold entN; rw [if_neg (show ¬ entW false * (k + 1) ≤ l from hf)]
        have HD : Hid (decide (entW false * (k + 1) ≤ l) = false) := decide_eq_false hf
        rw [HD.out, HE.out]
        rw [← hm] at U
        clear ht e1 h hm hm2
        go_enter Try.func21, Try.ntmps21
        go_wp2_with fail
        refine U.mono ?_
        rintro e w' ⟨rfl, rfl⟩
        go_wp2
        go_ret2
        exact ⟨rfl, rfl⟩
    · obtain ⟨m, hm⟩ : ∃ m : Nat, (k : Int) * 4 = m := ⟨k * 4, by omega⟩
      have hm2 : m = 4 * k := by omega
      have U := u32_any a l c z (m : Int) w h (by omega)
      by_cases hf : 4 * (k + 1) ≤ l
      · have ht : there l (m : Int) 4 = true := there_iff.2 ⟨by omega, by omega, by omega⟩
        have e1 : tell z l (m : Int) 4 = (numv z (4 * k) 4 : Nat) := by unfold tell; rw [if_pos (show there l (m : Int) ((4 : Nat) : Int) = true from ht), Int.toNat_natCast, hm2]
        rw [e1, ht] at U
        have HE : Hid (entN ⟨l, z⟩ true k = numv z (4 * k) 4) := by show _ = _; unfold entN; rw [if_pos (show entW true * (k + 1) ≤ l from hf)]; rfl
        have HD : Hid (decide (entW true * (k + 1) ≤ l) = true) := decide_eq_true hf
        rw [HD.out, HE.out]
        rw [← hm] at U
        clear ht e1 h hm hm2
        go_enter Try.func21, Try.ntmps21
        go_wp2_with fail
        refine U.mono ?_
        rintro e w' ⟨rfl, rfl⟩
        go_wp2
        go_ret2
        exact ⟨rfl, rfl⟩
      · have ht : there l (m : Int) 4 = false := there_not fun hh => by omega
        have e1 : tell z l (m : Int) 4 = 0 := by unfold tell; rw [if_neg (by rw [show there l (m : Int) ((4 : Nat) : Int) = false from ht]; simp)]
        rw [e1, ht] at U
        have HE : Hid (entN ⟨l, z⟩ true k = 0) := by show _ = _; unfold entN; rw [if_neg (show ¬ entW true * (k + 1) ≤ l from hf)]
        have HD : Hid (decide (entW true * (k + 1) ≤ l) = false) := decide_eq_false hf
        rw [HD.out, HE.out]
        rw [← hm] at U
        clear ht e1 h hm hm2
        go_enter Try.func21, Try.ntmps21
        go_wp2_with fail
        refine U.mono ?_
        rintro e w' ⟨rfl, rfl⟩
        go_wp2
        go_ret2
        exact ⟨rfl, rfl⟩
  · have hk' : (l : Int) ≤ k := by omega
    have hw : 2 ≤ entW b := by cases b <;> decide
    have hno : ¬ entW b * (k + 1) ≤ l := fun hh => by
      have := Nat.mul_le_mul_right (k + 1) hw
      omega
    rw [decide_eq_false hno, show entN ⟨l, z⟩ b k = 0 from if_neg hno]
    clear hno hw
    go_enter Try.func21, Try.ntmps21
    go_wp2
    go_ret2
    exact ⟨rfl, rfl⟩
end Go.Proofs.Ytninhcnpjadjpaa
