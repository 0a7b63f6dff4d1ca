/-
  The references: versalref2.Num, Signed, Part, From; versalhand.Pick.
-/
import Derived.Test.YtbkhdccbmkeodaaPart
namespace Go.Proofs.Ytbkhdccbmkeodaa
open Go.RowKit

theorem ret_int {k : IntKind} {a b : Int} (h : a = b) : Ending.returned (.int k a) = .returned (.int k b) := by rw [h]
theorem pick_neg (n m : Int) (hm : 0 < m) (h : n.tmod m < 0) : n.tmod m + m = n % m := by
  have h1 := Int.tmod_eq_emod (a := n) (b := m)
  have h2 := Int.emod_nonneg n (by omega : m ≠ 0)
  split at h1 <;> omega
theorem pick_pos (n m : Int) (hm : 0 < m) (h : 0 ≤ n.tmod m) : n.tmod m = n % m := by
  have h1 := Int.tmod_eq_emod (a := n) (b := m)
  have h2 := Int.emod_lt_of_pos n hm
  split at h1 <;> omega
theorem tmod_bd (n m : Int) (hm : 0 < m) : -m < n.tmod m ∧ n.tmod m < m :=
  ⟨Int.neg_lt_of_neg_lt (by have := Int.tmod_lt_of_pos (-n) hm; rw [Int.neg_tmod] at this; exact this), Int.tmod_lt_of_pos n hm⟩

set_option maxHeartbeats 400000 in
theorem pick_any (n m : Int) (hm : 0 < m) (hm2 : m ≤ 1000000000000000) (w : World) :
    Calls Try.prog 14 #[.int .i64 n, .int .i64 m] w fun e w' => ∃ k : Nat, (k : Int) < m ∧ e = .returned (.int .i64 k) ∧ w' = w := by
  have hb := tmod_bd n m hm
  have h2 := Int.emod_nonneg n (by omega : m ≠ 0)
  have h3 := Int.emod_lt_of_pos n hm
  obtain ⟨k, hk⟩ : ∃ k : Nat, (k : Int) = n % m := ⟨(n % m).toNat, by omega⟩
  have hne : ¬ m = 0 := by omega
  by_cases hz : n.tmod m < 0
  · have e := pick_neg n m hm hz
    have E : Hid (n.tmod m + m = n % m) := e
    have HK : Hid ((k : Int) = n % m) := hk
    clear e h2 h3 hk
    go_enter Try.func14, Try.ntmps14
    go_wp2
    go_ret
    exact ⟨k, by rw [HK.out]; exact Int.emod_lt_of_pos n hm, ret_int (by rw [HK.out, ← E.out]), rfl⟩
  · have e := pick_pos n m hm (by omega)
    have E : Hid (n.tmod m = n % m) := e
    have HK : Hid ((k : Int) = n % m) := hk
    clear e h2 h3 hk
    go_enter Try.func14, Try.ntmps14
    go_wp2
    go_ret
    exact ⟨k, by rw [HK.out]; exact Int.emod_lt_of_pos n hm, ret_int (by rw [HK.out, ← E.out]), rfl⟩

set_option maxHeartbeats 400000 in
theorem num_any (a : Option Addr) (len cap : Nat) (z : Nat → Nat) (at' : Int) (k : Nat) (w : World) (h : Lies w a len cap z) (ha : at' ≤ 9223372036854775807) (hk0 : 0 < k) (hk : k ≤ 4) :
    Calls Try.prog 16 #[.slice a len cap, .int .i64 at', .int .i64 k] w fun e w' => e = .returned (.tuple #[.int .i64 (tell z len at' k), .bool (there len at' k)]) ∧ w' = w := by
  have hr := h.reach
  by_cases ht : there len at' k
  · obtain ⟨h1, h2, h3⟩ := there_iff.1 ht
    obtain ⟨p, rfl⟩ : ∃ p : Nat, at' = p := ⟨at'.toNat, by omega⟩
    obtain ⟨b, off, rfl, hb, hc⟩ := h.spot (by omega)
    have hlc := h.lc
    have e1 : tell z len p k = (numv z p k : Nat) := by simp [tell, ht]
    rw [e1, ht]
    have g1 : ¬ (p : Int) < 0 := by omega
    have g2 : ¬ (len : Int) < (p : Int) := by omega
    have g3 : ¬ ((len : Int) - (p : Int)) < (k : Int) := by omega
    go_enter Try.func16, Try.ntmps16
    go_wp2_with fail
    go_loopw [8, 9] (fun n j wq => ∃ i : Nat, i ≤ k ∧ j = .int .i64 i ∧ n = .int .i64 (numv z p i : Nat) ∧ wq = w) (fun _ j _ => k - (intOf j).toNat)
    case atStart => exact ⟨0, by omega, rfl, rfl, rfl⟩
    case round =>
      obtain ⟨i, hi, rfl, rfl, rfl⟩ := hrel
      by_cases hik : i < k
      · have hik' : (i : Int) < (k : Int) := by omega
        have hc' := hc (p + i) (by omega)
        have hb1 := numv_lt3 z h.byte p i (by omega)
        have hb2 := h.byte (p + i)
        go_wp2
        exact ⟨⟨i + 1, by omega, rfl, by simp [numv], trivial⟩, by simp [intOf]; omega⟩
      · have hik' : ¬ (i : Int) < (k : Int) := by omega
        obtain rfl : i = k := by omega
        go_wp2
        go_ret2
        exact ⟨rfl, rfl⟩
  · have e1 : tell z len at' k = 0 := by simp [tell, ht]
    have e2 : there len at' k = false := by simpa using ht
    rw [e1, e2]
    have hno : at' < 0 ∨ (len : Int) < at' ∨ (len : Int) - at' < k := by
      have : ¬ (0 ≤ at' ∧ (0 : Int) ≤ k ∧ (k : Int) ≤ (len : Int) - at') := fun hh => ht (there_iff.2 hh)
      omega
    by_cases g1 : at' < 0
    · go_enter Try.func16, Try.ntmps16
      go_wp2
      go_ret2
      exact ⟨rfl, rfl⟩
    · by_cases g2 : (len : Int) < at'
      · go_enter Try.func16, Try.ntmps16
        go_wp2
        go_ret2
        exact ⟨rfl, rfl⟩
      · have g3 : (len : Int) - at' < k := by omega
        go_enter Try.func16, Try.ntmps16
        go_wp2
        go_ret2
        exact ⟨rfl, rfl⟩

set_option maxRecDepth 100000 in
set_option maxHeartbeats 400000 in
theorem signed2_any (a : Option Addr) (len cap : Nat) (z : Nat → Nat) (at' : Int) (w : World) (h : Lies w a len cap z) (ha : at' ≤ 9223372036854775807) :
    Calls Try.prog 17 #[.slice a len cap, .int .i64 at', .int .i64 2] w fun e w' => e = .returned (.tuple #[.int .i64 (sgn z len at' 2), .bool (there len at' 2)]) ∧ w' = w := by
  have hr := h.reach
  by_cases ht : there len at' 2
  · obtain ⟨h1, h2, h3⟩ := there_iff.1 ht
    obtain ⟨p, rfl⟩ : ∃ p : Nat, at' = p := ⟨at'.toNat, by omega⟩
    obtain ⟨b, off, rfl, hb, hc⟩ := h.spot (by omega)
    have hlc := h.lc
    have e1 : tell z len p 2 = (numv z p 2 : Nat) := by unfold tell; rw [if_pos (by exact ht), Int.toNat_natCast]
    have hc' := hc p (by omega)
    have hb1 := numv_lt4 z h.byte p 2 (by omega)
    have hb2 := h.byte p
    rw [ht]
    by_cases hz : 128 ≤ z p
    · have e2 : sgn z len p 2 = (numv z p 2 : Int) - 65536 := by unfold sgn; rw [if_pos (by exact ht), Int.toNat_natCast, if_pos hz]; rfl
      rw [e2]
      have hz' : (128 : Int) ≤ (z p : Int) := by omega
      go_enter Try.func17, Try.ntmps17
      go_wp2_with fail
      refine (num_any _ _ _ z _ 2 _ h ha (by omega) (by omega)).mono ?_
      rintro e w' ⟨rfl, rfl⟩
      rw [e1, show there len (p : Int) ((2 : Nat) : Int) = true from ht]
      clear e1 e2
      go_wp2
      go_ret2
      exact ⟨rfl, rfl⟩
    · have e2 : sgn z len p 2 = (numv z p 2 : Int) := by unfold sgn; rw [if_pos (by exact ht), Int.toNat_natCast, if_neg hz]
      rw [e2]
      have hz' : (z p : Int) < 128 := by omega
      clear hz h1 h2 hb hb1 hb2
      go_enter Try.func17, Try.ntmps17
      go_wp2_with fail
      refine (num_any _ _ _ z _ 2 _ h ha (by omega) (by omega)).mono ?_
      rintro e w' ⟨rfl, rfl⟩
      rw [e1, show there len (p : Int) ((2 : Nat) : Int) = true from ht]
      clear e1 e2
      go_wp2
      go_ret2
      exact ⟨rfl, rfl⟩
  · have e2 : there len at' 2 = false := by simpa using ht
    have e1 : tell z len at' 2 = 0 := by unfold tell; rw [if_neg (by exact ht)]
    have e3 : sgn z len at' 2 = 0 := by unfold sgn; rw [if_neg (by exact ht)]
    rw [e3, e2]
    go_enter Try.func17, Try.ntmps17
    go_wp2_with fail
    refine (num_any _ _ _ z _ 2 _ h ha (by omega) (by omega)).mono ?_
    rintro e w' ⟨rfl, rfl⟩
    rw [e1, show there len at' ((2 : Nat) : Int) = false from e2]
    go_wp2
    go_ret2
    exact ⟨rfl, rfl⟩

set_option maxRecDepth 100000 in
set_option maxHeartbeats 400000 in
theorem signed4_any (a : Option Addr) (len cap : Nat) (z : Nat → Nat) (at' : Int) (w : World) (h : Lies w a len cap z) (ha : at' ≤ 9223372036854775807) :
    Calls Try.prog 17 #[.slice a len cap, .int .i64 at', .int .i64 4] w fun e w' => e = .returned (.tuple #[.int .i64 (sgn z len at' 4), .bool (there len at' 4)]) ∧ w' = w := by
  have hr := h.reach
  by_cases ht : there len at' 4
  · obtain ⟨h1, h2, h3⟩ := there_iff.1 ht
    obtain ⟨p, rfl⟩ : ∃ p : Nat, at' = p := ⟨at'.toNat, by omega⟩
    obtain ⟨b, off, rfl, hb, hc⟩ := h.spot (by omega)
    have hlc := h.lc
    have e1 : tell z len p 4 = (numv z p 4 : Nat) := by unfold tell; rw [if_pos (by exact ht), Int.toNat_natCast]
    have hc' := hc p (by omega)
    have hb1 := numv_lt4 z h.byte p 4 (by omega)
    have hb2 := h.byte p
    rw [ht]
    by_cases hz : 128 ≤ z p
    · have e2 : sgn z len p 4 = (numv z p 4 : Int) - 4294967296 := by unfold sgn; rw [if_pos (by exact ht), Int.toNat_natCast, if_pos hz]; rfl
      rw [e2]
      have hz' : (128 : Int) ≤ (z p : Int) := by omega
      go_enter Try.func17, Try.ntmps17
      go_wp2_with fail
      refine (num_any _ _ _ z _ 4 _ h ha (by omega) (by omega)).mono ?_
      rintro e w' ⟨rfl, rfl⟩
      rw [e1, show there len (p : Int) ((4 : Nat) : Int) = true from ht]
      clear e1 e2
      go_wp2
      go_ret2
      exact ⟨rfl, rfl⟩
    · have e2 : sgn z len p 4 = (numv z p 4 : Int) := by unfold sgn; rw [if_pos (by exact ht), Int.toNat_natCast, if_neg hz]
      rw [e2]
      have hz' : (z p : Int) < 128 := by omega
      clear hz h1 h2 hb hb1 hb2
      go_enter Try.func17, Try.ntmps17
      go_wp2_with fail
      refine (num_any _ _ _ z _ 4 _ h ha (by omega) (by omega)).mono ?_
      rintro e w' ⟨rfl, rfl⟩
      rw [e1, show there len (p : Int) ((4 : Nat) : Int) = true from ht]
      clear e1 e2
      go_wp2
      go_ret2
      exact ⟨rfl, rfl⟩
  · have e2 : there len at' 4 = false := by simpa using ht
    have e1 : tell z len at' 4 = 0 := by unfold tell; rw [if_neg (by exact ht)]
    have e3 : sgn z len at' 4 = 0 := by unfold sgn; rw [if_neg (by exact ht)]
    rw [e3, e2]
    go_enter Try.func17, Try.ntmps17
    go_wp2_with fail
    refine (num_any _ _ _ z _ 4 _ h ha (by omega) (by omega)).mono ?_
    rintro e w' ⟨rfl, rfl⟩
    rw [e1, show there len at' ((4 : Nat) : Int) = false from e2]
    go_wp2
    go_ret2
    exact ⟨rfl, rfl⟩
end Go.Proofs.Ytbkhdccbmkeodaa
