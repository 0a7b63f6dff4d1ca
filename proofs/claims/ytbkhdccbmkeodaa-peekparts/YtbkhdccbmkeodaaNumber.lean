/-
  peek.holds and peek.number as contracts; U8 .. I32 on top of them.
-/
import Derived.Test.YtbkhdccbmkeodaaBase
namespace Go.Proofs.Ytbkhdccbmkeodaa
open Go.RowKit

/-- n bytes from at on are there. -/
def there (len : Nat) (at' n : Int) : Bool := decide (0 ≤ at' ∧ 0 ≤ n ∧ n ≤ (len : Int) - at')
theorem there_iff {len : Nat} {at' n : Int} : there len at' n = true ↔ 0 ≤ at' ∧ 0 ≤ n ∧ n ≤ (len : Int) - at' := by simp [there]
theorem there_not {len : Nat} {at' n : Int} (h : ¬ (0 ≤ at' ∧ 0 ≤ n ∧ n ≤ (len : Int) - at')) : there len at' n = false := decide_eq_false h

set_option maxHeartbeats 400000 in
theorem holds_any (a : Option Addr) (len cap : Nat) (at' n : Int) (w : World) (hl : len ≤ 140737488351232) (ha : at' ≤ 9223372036854775807) :
    Calls Try.prog 21 #[.slice a len cap, .int .i64 at', .int .i64 n] w fun e w' => e = .returned (.bool (there len at' n)) ∧ w' = w := by
  by_cases h1 : 0 ≤ at'
  · by_cases h2 : 0 ≤ n
    · by_cases h3 : n ≤ (len : Int) - at'
      · have hd : there len at' n = true := there_iff.2 ⟨h1, h2, h3⟩
        rw [hd]
        go_enter Try.func21, Try.ntmps21
        go_wp2
        go_ret
        exact ⟨rfl, rfl⟩
      · have hd : there len at' n = false := there_not (fun h => h3 h.2.2)
        rw [hd]
        go_enter Try.func21, Try.ntmps21
        go_wp2
        go_ret
        exact ⟨rfl, rfl⟩
    · have hd : there len at' n = false := there_not (fun h => h2 h.2.1)
      rw [hd]
      go_enter Try.func21, Try.ntmps21
      go_wp2
      go_ret
      exact ⟨rfl, rfl⟩
  · have hd : there len at' n = false := there_not (fun h => h1 h.1)
    rw [hd]
    go_enter Try.func21, Try.ntmps21
    go_wp2
    go_ret
    exact ⟨rfl, rfl⟩

/-- k bytes from p on, the highest first. -/
def numv (z : Nat → Nat) (p : Nat) : Nat → Nat
  | 0 => 0
  | k + 1 => numv z p k * 256 + z (p + k)
theorem numv_lt (z : Nat → Nat) (hz : ∀ i, z i < 256) (p : Nat) : ∀ k, numv z p k < 256 ^ k
  | 0 => by simp [numv]
  | k + 1 => by have := numv_lt z hz p k; have := hz (p + k); simp only [numv, Nat.pow_succ]; omega
theorem numv_lt3 (z : Nat → Nat) (hz : ∀ i, z i < 256) (p k : Nat) (hk : k ≤ 3) : numv z p k < 16777216 := by
  have h := numv_lt z hz p k
  have : 256 ^ k ≤ 256 ^ 3 := Nat.pow_le_pow_right (by omega) hk
  omega
theorem numv_lt4 (z : Nat → Nat) (hz : ∀ i, z i < 256) (p k : Nat) (hk : k ≤ 4) : numv z p k < 4294967296 := by
  have h := numv_lt z hz p k
  have : 256 ^ k ≤ 256 ^ 4 := Nat.pow_le_pow_right (by omega) hk
  omega
theorem numv_shift (z : Nat → Nat) (p : Nat) : ∀ k, numv (fun i => z (p + i)) 0 k = numv z p k
  | 0 => rfl
  | k + 1 => by simp only [numv, numv_shift z p k, Nat.zero_add]

theorem or_byte (x y : Nat) (hx : x < 16777216) (hy : y < 256) : bits .or .i64 ((x : Int) * 256) (y : Int) = ((x * 256 + y : Nat) : Int) := by
  have e : x * 256 + y = (x * 256) ||| y := by
    have := Nat.shiftLeft_add_eq_or_of_lt (b := y) (i := 8) (by omega) x
    rw [Nat.shiftLeft_eq] at this
    simpa using this
  have e1 : ((x : Int) * 256) = ((x * 256 : Nat) : Int) := by simp
  have h1 : (BitVec.ofInt 64 ((x * 256 : Nat) : Int) ||| BitVec.ofInt 64 (y : Int)).toNat = x * 256 ||| y := by
    rw [BitVec.toNat_or]
    congr 1 <;> simp <;> omega
  have hb : (x * 256 ||| y) < 9223372036854775808 := by omega
  rw [e1, e]
  show IntKind.wrap .i64 (((BitVec.ofInt 64 ((x * 256 : Nat) : Int) ||| BitVec.ofInt 64 (y : Int)).toNat : Nat) : Int) = _
  rw [h1]
  show (if (true && decide (((x * 256 ||| y : Nat) : Int) % 18446744073709551616 ≥ 9223372036854775808)) = true then ((x * 256 ||| y : Nat) : Int) % 18446744073709551616 - 18446744073709551616 else ((x * 256 ||| y : Nat) : Int) % 18446744073709551616) = _
  rw [if_neg (by simp; omega)]
  omega

/-- What a number tells. -/
def tell (z : Nat → Nat) (len : Nat) (at' : Int) (k : Nat) : Int := if there len at' k then (numv z at'.toNat k : Nat) else 0

set_option maxHeartbeats 400000 in
theorem number_any (a : Option Addr) (len cap : Nat) (z : Nat → Nat) (at' : Int) (k : Nat) (w : World) (h : Lies w a len cap z) (ha : at' ≤ 9223372036854775807) (hk0 : 0 < k) (hk : k ≤ 4) :
    Calls Try.prog 20 #[.slice a len cap, .int .i64 at', .int .i64 k] w fun e w' => e = .returned (.tuple #[.int .i64 (tell z len at' k), .bool (there len at' k)]) ∧ w' = w := by
  have hr := h.reach
  by_cases ht : there len at' k
  · obtain ⟨h1, h2, h3⟩ := there_iff.1 ht
    obtain ⟨p, rfl⟩ : ∃ p : Nat, at' = p := ⟨at'.toNat, by omega⟩
    obtain ⟨b, off, rfl, hb, hc⟩ := h.spot (by omega)
    have hlc := h.lc
    have e1 : tell z len p k = (numv z p k : Nat) := by simp [tell, ht]
    rw [e1, ht]
    go_enter Try.func20, Try.ntmps20
    go_wp2_with fail
    refine (holds_any _ _ _ _ _ _ hr ha).mono ?_
    rintro e w' ⟨rfl, rfl⟩
    rw [ht]
    go_wp2_with fail
    go_loopw [8, 22] (fun n j wq => ∃ i : Nat, i ≤ k ∧ j = .int .i64 i ∧ n = .int .i64 (numv z p i : Nat) ∧ wq = w') (fun _ j _ => k - (intOf j).toNat)
    case atStart => exact ⟨0, by omega, rfl, rfl, rfl⟩
    case round =>
      obtain ⟨i, hi, rfl, rfl, rfl⟩ := hrel
      by_cases hik : i < k
      · have hik' : (i : Int) < (k : Int) := by omega
        have hc' := hc (p + i) (by omega)
        rw [← Nat.add_assoc] at hc'
        have hb1 := numv_lt3 z h.byte p i (by omega)
        have hb2 := h.byte (p + i)
        go_wp2
        rw [or_byte _ _ hb1 hb2]
        exact ⟨⟨i + 1, by omega, rfl, rfl, trivial⟩, by simp [intOf]; omega⟩
      · have hik' : ¬ (i : Int) < (k : Int) := by omega
        obtain rfl : i = k := by omega
        go_wp2
        go_ret2
        exact ⟨rfl, rfl⟩
  · have e1 : tell z len at' k = 0 := by simp [tell, ht]
    have e2 : there len at' k = false := by simpa using ht
    rw [e1, e2]
    go_enter Try.func20, Try.ntmps20
    go_wp2_with fail
    refine (holds_any _ _ _ _ _ _ hr ha).mono ?_
    rintro e w' ⟨rfl, rfl⟩
    rw [e2]
    go_wp2
    go_ret2
    exact ⟨rfl, rfl⟩

theorem u8_any (a : Option Addr) (len cap : Nat) (z : Nat → Nat) (at' : Int) (w : World) (h : Lies w a len cap z) (ha : at' ≤ 9223372036854775807) :
    Calls Try.prog 8 #[.slice a len cap, .int .i64 at'] w fun e w' => e = .returned (.tuple #[.int .i64 (tell z len at' 1), .bool (there len at' 1)]) ∧ w' = w := by
  go_enter Try.func8, Try.ntmps8
  go_wp2_with fail
  refine (number_any _ _ _ z _ 1 _ h ha (by omega) (by omega)).mono ?_
  rintro e w' ⟨rfl, rfl⟩
  go_wp2
  go_ret2
  exact ⟨rfl, rfl⟩
theorem u16_any (a : Option Addr) (len cap : Nat) (z : Nat → Nat) (at' : Int) (w : World) (h : Lies w a len cap z) (ha : at' ≤ 9223372036854775807) :
    Calls Try.prog 9 #[.slice a len cap, .int .i64 at'] w fun e w' => e = .returned (.tuple #[.int .i64 (tell z len at' 2), .bool (there len at' 2)]) ∧ w' = w := by
  go_enter Try.func9, Try.ntmps9
  go_wp2_with fail
  refine (number_any _ _ _ z _ 2 _ h ha (by omega) (by omega)).mono ?_
  rintro e w' ⟨rfl, rfl⟩
  go_wp2
  go_ret2
  exact ⟨rfl, rfl⟩
theorem u24_any (a : Option Addr) (len cap : Nat) (z : Nat → Nat) (at' : Int) (w : World) (h : Lies w a len cap z) (ha : at' ≤ 9223372036854775807) :
    Calls Try.prog 7 #[.slice a len cap, .int .i64 at'] w fun e w' => e = .returned (.tuple #[.int .i64 (tell z len at' 3), .bool (there len at' 3)]) ∧ w' = w := by
  go_enter Try.func7, Try.ntmps7
  go_wp2_with fail
  refine (number_any _ _ _ z _ 3 _ h ha (by omega) (by omega)).mono ?_
  rintro e w' ⟨rfl, rfl⟩
  go_wp2
  go_ret2
  exact ⟨rfl, rfl⟩
theorem u32_any (a : Option Addr) (len cap : Nat) (z : Nat → Nat) (at' : Int) (w : World) (h : Lies w a len cap z) (ha : at' ≤ 9223372036854775807) :
    Calls Try.prog 12 #[.slice a len cap, .int .i64 at'] w fun e w' => e = .returned (.tuple #[.int .i64 (tell z len at' 4), .bool (there len at' 4)]) ∧ w' = w := by
  go_enter Try.func12, Try.ntmps12
  go_wp2_with fail
  refine (number_any _ _ _ z _ 4 _ h ha (by omega) (by omega)).mono ?_
  rintro e w' ⟨rfl, rfl⟩
  go_wp2
  go_ret2
  exact ⟨rfl, rfl⟩

/-- In two's complement. -/
def sgn (z : Nat → Nat) (len : Nat) (at' : Int) (k : Nat) : Int := if there len at' k then (if 128 ≤ z at'.toNat then (numv z at'.toNat k : Int) - 256 ^ k else numv z at'.toNat k) else 0

theorem wrap64_fit (x : Int) (h1 : -9223372036854775808 ≤ x) (h2 : x ≤ 9223372036854775807) : wrap64 x = x := by simp only [wrap64]; omega
theorem wrap_i16 (n : Nat) (h : n < 65536) : IntKind.i16.wrap n = if 32768 ≤ n then (n : Int) - 65536 else n := by
  show (if (true && decide ((n : Int) % 65536 ≥ 32768)) = true then (n : Int) % 65536 - 65536 else (n : Int) % 65536) = _
  by_cases h1 : 32768 ≤ n
  · rw [if_pos (by simp; omega), if_pos h1]; omega
  · rw [if_neg (by simp; omega), if_neg h1]; omega
theorem wrap_i32 (n : Nat) (h : n < 4294967296) : wrap32 n = if 2147483648 ≤ n then (n : Int) - 4294967296 else n := by
  simp only [wrap32]; split <;> omega
theorem high2 (z : Nat → Nat) (hz : ∀ i, z i < 256) (p : Nat) : 32768 ≤ numv z p 2 ↔ 128 ≤ z p := by
  have := hz (p + 1); simp only [numv, Nat.add_zero]; omega
theorem high4 (z : Nat → Nat) (hz : ∀ i, z i < 256) (p : Nat) : 2147483648 ≤ numv z p 4 ↔ 128 ≤ z p := by
  have := hz (p + 1); have := hz (p + 2); have := hz (p + 3); simp only [numv, Nat.add_zero]; omega
theorem sgn2 (z : Nat → Nat) (hz : ∀ i, z i < 256) (len : Nat) (at' : Int) : wrap64 (IntKind.i16.wrap (tell z len at' 2)) = sgn z len at' 2 := by
  unfold tell sgn
  split
  · have hb := numv_lt z hz at'.toNat 2
    rw [wrap_i16 _ (by omega)]
    simp only [high2 z hz]
    rw [wrap64_fit _ (by split <;> omega) (by split <;> omega)]
    rfl
  · kernel_rfl
theorem sgn4 (z : Nat → Nat) (hz : ∀ i, z i < 256) (len : Nat) (at' : Int) : wrap64 (wrap32 (tell z len at' 4)) = sgn z len at' 4 := by
  unfold tell sgn
  split
  · have hb := numv_lt z hz at'.toNat 4
    rw [wrap_i32 _ (by omega)]
    simp only [high4 z hz]
    rw [wrap64_fit _ (by split <;> omega) (by split <;> omega)]
    rfl
  · kernel_rfl

theorem i16_any (a : Option Addr) (len cap : Nat) (z : Nat → Nat) (at' : Int) (w : World) (h : Lies w a len cap z) (ha : at' ≤ 9223372036854775807) :
    Calls Try.prog 15 #[.slice a len cap, .int .i64 at'] w fun e w' => e = .returned (.tuple #[.int .i64 (sgn z len at' 2), .bool (there len at' 2)]) ∧ w' = w := by
  go_enter Try.func15, Try.ntmps15
  go_wp2_with fail
  refine (number_any _ _ _ z _ 2 _ h ha (by omega) (by omega)).mono ?_
  rintro e w' ⟨rfl, rfl⟩
  go_wp2
  go_ret2
  exact ⟨by rw [← sgn2 z h.byte]; rfl, rfl⟩
theorem i32_any (a : Option Addr) (len cap : Nat) (z : Nat → Nat) (at' : Int) (w : World) (h : Lies w a len cap z) (ha : at' ≤ 9223372036854775807) :
    Calls Try.prog 6 #[.slice a len cap, .int .i64 at'] w fun e w' => e = .returned (.tuple #[.int .i64 (sgn z len at' 4), .bool (there len at' 4)]) ∧ w' = w := by
  go_enter Try.func6, Try.ntmps6
  go_wp2_with fail
  refine (number_any _ _ _ z _ 4 _ h ha (by omega) (by omega)).mono ?_
  rintro e w' ⟨rfl, rfl⟩
  go_wp2
  go_ret2
  exact ⟨by rw [← sgn4 z h.byte]; rfl, rfl⟩
end Go.Proofs.Ytbkhdccbmkeodaa
