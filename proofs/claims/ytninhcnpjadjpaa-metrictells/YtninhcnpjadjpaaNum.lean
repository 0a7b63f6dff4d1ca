/-
  peek.holds, number, U16, U32 as contracts.
-/
import Derived.Test.YtninhcnpjadjpaaRow
namespace Go.Proofs.Ytninhcnpjadjpaa
open Go.RowKit

/-- n bytes from at on are there. -/
def there (len : Nat) (at' n : Int) : Bool := decide (0 ≤ at' ∧ 0 ≤ n ∧ n ≤ (len : Int) - at')
theorem there_iff {len : Nat} {at' n : Int} : there len at' n = true ↔ 0 ≤ at' ∧ 0 ≤ n ∧ n ≤ (len : Int) - at' := by simp [there]
theorem there_not {len : Nat} {at' n : Int} (h : ¬ (0 ≤ at' ∧ 0 ≤ n ∧ n ≤ (len : Int) - at')) : there len at' n = false := decide_eq_false h
set_option maxHeartbeats 400000 in
theorem holds_any (a : Option Addr) (len cap : Nat) (at' n : Int) (w : World) (hl : len ≤ 200000000000000) (ha : at' ≤ 9223372036854775807) :
    Calls Try.prog 40 #[.slice a len cap, .int .i64 at', .int .i64 n] w fun e w' => e = .returned (.bool (there len at' n)) ∧ w' = w := by
  by_cases h1 : 0 ≤ at'
  · by_cases h2 : 0 ≤ n
    · by_cases h3 : n ≤ (len : Int) - at'
      · have hd : there len at' n = true := there_iff.2 ⟨h1, h2, h3⟩
        rw [hd]
        go_enter Try.func40, Try.ntmps40
        go_wp2
        go_ret
        exact ⟨rfl, rfl⟩
      · have hd : there len at' n = false := there_not (fun h => h3 h.2.2)
        rw [hd]
        go_enter Try.func40, Try.ntmps40
        go_wp2
        go_ret
        exact ⟨rfl, rfl⟩
    · have hd : there len at' n = false := there_not (fun h => h2 h.2.1)
      rw [hd]
      go_enter Try.func40, Try.ntmps40
      go_wp2
      go_ret
      exact ⟨rfl, rfl⟩
  · have hd : there len at' n = false := there_not (fun h => h1 h.1)
    rw [hd]
    go_enter Try.func40, Try.ntmps40
    go_wp2
    go_ret
    exact ⟨rfl, rfl⟩
/-- k bytes from p on, the highest first. -/
def numv (z : Nat → Nat) (p : Nat) : Nat → Nat
  | 0 => 0
  | k + 1 => numv z p k * 256 + z (p + k)
theorem numv_lt (z : Nat → Nat) (hz : ∀ i, z i < 256) (p : Nat) : ∀ k, numv z p k < 256 ^ k
  | 0 => by simp [numv]
  | k + 1 => by have := numv_lt z hz p k; have := hz (p + k); simp only [numv, Nat.pow_succ]; omega
theorem numv_lt3 (z : Nat → Nat) (hz : ∀ i, z i < 256) (p k : Nat) (hk : k ≤ 3) : numv z p k < 16777216 := by
  have h := numv_lt z hz p k
  have : 256 ^ k ≤ 256 ^ 3 := Nat.pow_le_pow_right (by omega) hk
  omega
theorem numv_lt4 (z : Nat → Nat) (hz : ∀ i, z i < 256) (p k : Nat) (hk : k ≤ 4) : numv z p k < 4294967296 := by
  have h := numv_lt z hz p k
  have : 256 ^ k ≤ 256 ^ 4 := Nat.pow_le_pow_right (by omega) hk
  omega
theorem numv_shift (z : Nat → Nat) (p : Nat) : ∀ k, numv (fun i => z (p + i)) 0 k = numv z p k
  | 0 => rfl
  | k + 1 => by simp only [numv, numv_shift z p k, Nat.zero_add]
theorem or_byte (x y : Nat) (hx : x < 16777216) (hy : y < 256) : bits .or .i64 ((x : Int) * 256) (y : Int) = ((x * 256 + y : Nat) : Int) := by
  have e : x * 256 + y = (x * 256) ||| y := by
    have := Nat.shiftLeft_add_eq_or_of_lt (b := y) (i := 8) (by omega) x
    rw [Nat.shiftLeft_eq] at this
    simpa using this
  have e1 : ((x : Int) * 256) = ((x * 256 : Nat) : Int) := by simp
  have h1 : (BitVec.ofInt 64 ((x * 256 : Nat) : Int) ||| BitVec.ofInt 64 (y : Int)).toNat = x * 256 ||| y := by
    rw [BitVec.toNat_or]
    congr 1 <;> simp <;> omega
  have hb : (x * 256 ||| y) < 9223372036854775808 := by omega
  rw [e1, e]
  show IntKind.wrap .i64 (((BitVec.ofInt 64 ((x * 256 : Nat) : Int) ||| BitVec.ofInt 64 (y : Int)).toNat : Nat) : Int) = _
  rw [h1]
  show (if (true && decide (((x * 256 ||| y : Nat) : Int) % 18446744073709551616 ≥ 9223372036854775808)) = true then ((x * 256 ||| y : Nat) : Int) % 18446744073709551616 - 18446744073709551616 else ((x * 256 ||| y : Nat) : Int) % 18446744073709551616) = _
  rw [if_neg (by simp; omega)]
  omega
/-- What a number tells. -/
def tell (z : Nat → Nat) (len : Nat) (at' : Int) (k : Nat) : Int := if there len at' k then (numv z at'.toNat k : Nat) else 0
set_option maxHeartbeats 400000 in
theorem number_any (a : Option Addr) (len cap : Nat) (z : Nat → Nat) (at' : Int) (k : Nat) (w : World) (h : Lies w a len cap z) (ha : at' ≤ 9223372036854775807) (hk0 : 0 < k) (hk : k ≤ 4) :
    Calls Try.prog 41 #[.slice a len cap, .int .i64 at', .int .i64 k] w fun e w' => e = .returned (.tuple #[.int .i64 (tell z len at' k), .bool (there len at' k)]) ∧ w' = w := by
  have hr := h.reach
  by_cases ht : there len at' k
  · obtain ⟨h1, h2, h3⟩ := there_iff.1 ht
    obtain ⟨p, rfl⟩ : ∃ p : Nat, at' = p := ⟨at'.toNat, by omega⟩
    obtain ⟨b, off, rfl, hb, hc⟩ := h.spot (by omega)
    have hlc := h.lc
    have e1 : tell z len p k = (numv z p k : Nat) := by simp [tell, ht]
    rw [e1, ht]
    go_enter Try.func41, Try.ntmps41
    go_wp2_with fail
    refine (holds_any _ _ _ _ _ _ hr ha).mono ?_
    rintro e w' ⟨rfl, rfl⟩
    rw [ht]
    go_wp2_with fail
    go_loopw [8, 22] (fun n j wq => ∃ i : Nat, i ≤ k ∧ j = .int .i64 i ∧ n = .int .i64 (numv z p i : Nat) ∧ wq = w') (fun _ j _ => k - (intOf j).toNat)
    case atStart => exact ⟨0, by omega, rfl, rfl, rfl⟩
    case round =>
      obtain ⟨i, hi, rfl, rfl, rfl⟩ := hrel
      by_cases hik : i < k
      · have hik' : (i : Int) < (k : Int) := by omega
        have hc' := hc (p + i) (by omega)
        rw [← Nat.add_assoc] at hc'
        have hb1 := numv_lt3 z h.byte p i (by omega)
        have hb2 := h.byte (p + i)
        go_wp2
        rw [or_byte _ _ hb1 hb2]
        exact ⟨⟨i + 1, by omega, rfl, rfl, trivial⟩, by simp [intOf]; omega⟩
      · have hik' : ¬ (i : Int) < (k : Int) := by omega
        obtain rfl : i = k := by omega
        go_wp2
        go_ret2
        exact ⟨rfl, rfl⟩
  · have e1 : tell z len at' k = 0 := by simp [tell, ht]
    have e2 : there len at' k = false := by simpa using ht
    rw [e1, e2]
    go_enter Try.func41, Try.ntmps41
    go_wp2_with fail
    refine (holds_any _ _ _ _ _ _ hr ha).mono ?_
    rintro e w' ⟨rfl, rfl⟩
    rw [e2]
    go_wp2
    go_ret2
    exact ⟨rfl, rfl⟩
theorem u16_any (a : Option Addr) (len cap : Nat) (z : Nat → Nat) (at' : Int) (w : World) (h : Lies w a len cap z) (ha : at' ≤ 9223372036854775807) :
    Calls Try.prog 31 #[.slice a len cap, .int .i64 at'] w fun e w' => e = .returned (.tuple #[.int .i64 (tell z len at' 2), .bool (there len at' 2)]) ∧ w' = w := by
  go_enter Try.func31, Try.ntmps31
  go_wp2_with fail
  refine (number_any _ _ _ z _ 2 _ h ha (by omega) (by omega)).mono ?_
  rintro e w' ⟨rfl, rfl⟩
  go_wp2
  go_ret2
  exact ⟨rfl, rfl⟩
theorem u32_any (a : Option Addr) (len cap : Nat) (z : Nat → Nat) (at' : Int) (w : World) (h : Lies w a len cap z) (ha : at' ≤ 9223372036854775807) :
    Calls Try.prog 32 #[.slice a len cap, .int .i64 at'] w fun e w' => e = .returned (.tuple #[.int .i64 (tell z len at' 4), .bool (there len at' 4)]) ∧ w' = w := by
  go_enter Try.func32, Try.ntmps32
  go_wp2_with fail
  refine (number_any _ _ _ z _ 4 _ h ha (by omega) (by omega)).mono ?_
  rintro e w' ⟨rfl, rfl⟩
  go_wp2
  go_ret2
  exact ⟨rfl, rfl⟩
/-- n zero bytes. -/
def zeros (n : Nat) : List Value := List.replicate n (.int .u8 0)
/-- How many bytes Part hands out. -/
def plen (len : Nat) (at' n : Int) : Nat := if there len at' n then n.toNat else 0
/-- The bytes from p on, as cells. -/
def bcells (z : Nat → Nat) (p n : Nat) : List Value := (List.range n).map fun i => .int .u8 (z (p + i) : Nat)
theorem bcells_length (z : Nat → Nat) (p n : Nat) : (bcells z p n).length = n := by simp [bcells]
theorem bcells_get (z : Nat → Nat) (p n j : Nat) (v : Value) (h : (bcells z p n)[j]? = some v) : j < n ∧ v = .int .u8 (z (p + j) : Nat) := by
  have : j < n := by have := (List.getElem?_eq_some_iff.1 h).1; simpa [bcells] using this
  simp [bcells, this] at h
  exact ⟨this, h.symm⟩
theorem bcells_one (z : Nat → Nat) (p n : Nat) : ∀ v ∈ bcells z p n, v.oneCell' = true := by
  intro v hv; obtain ⟨i, _, rfl⟩ := List.mem_map.1 hv; rfl
theorem splice_all (z : Nat → Nat) (p n : Nat) : splice (zeros n) 0 (bcells z p n) = bcells z p n := by
  simp [splice, zeros, bcells]
theorem lies_block {w : World} {g : Nat} {z : Nat → Nat} {p n cap : Nat} (hz : ∀ i, z i < 256) (hn : n ≤ 200000000000000) (hc : n ≤ cap) {more : Array Value} {fr : Nat × Nat} (h : w.heap[g]? = some (.cells ((bcells z p n).toArray ++ more) 5 fr)) : Lies w (some ⟨g, 0, none⟩) n cap (fun i => z (p + i)) := by
  refine ⟨hc, hn, fun i => hz _, fun _ => ⟨g, 0, rfl, blk_lt h, fun i hi => ?_⟩⟩
  rw [blk_cell h, Array.getElem?_append_left (by simp [bcells]; omega)]
  simp [bcells, hi]
set_option maxHeartbeats 400000 in
theorem num_any (a : Option Addr) (len cap : Nat) (z : Nat → Nat) (at' : Int) (k : Nat) (w : World) (h : Lies w a len cap z) (ha : at' ≤ 9223372036854775807) (hk0 : 0 < k) (hk : k ≤ 4) :
    Calls Try.prog 27 #[.slice a len cap, .int .i64 at', .int .i64 k] w fun e w' => e = .returned (.tuple #[.int .i64 (tell z len at' k), .bool (there len at' k)]) ∧ w' = w := by
  have hr := h.reach
  by_cases ht : there len at' k
  · obtain ⟨h1, h2, h3⟩ := there_iff.1 ht
    obtain ⟨p, rfl⟩ : ∃ p : Nat, at' = p := ⟨at'.toNat, by omega⟩
    obtain ⟨b, off, rfl, hb, hc⟩ := h.spot (by omega)
    have hlc := h.lc
    have e1 : tell z len p k = (numv z p k : Nat) := by simp [tell, ht]
    rw [e1, ht]
    have g1 : ¬ (p : Int) < 0 := by omega
    have g2 : ¬ (len : Int) < (p : Int) := by omega
    have g3 : ¬ ((len : Int) - (p : Int)) < (k : Int) := by omega
    go_enter Try.func27, Try.ntmps27
    go_wp2_with fail
    go_loopw [8, 9] (fun n j wq => ∃ i : Nat, i ≤ k ∧ j = .int .i64 i ∧ n = .int .i64 (numv z p i : Nat) ∧ wq = w) (fun _ j _ => k - (intOf j).toNat)
    case atStart => exact ⟨0, by omega, rfl, rfl, rfl⟩
    case round =>
      obtain ⟨i, hi, rfl, rfl, rfl⟩ := hrel
      by_cases hik : i < k
      · have hik' : (i : Int) < (k : Int) := by omega
        have hc' := hc (p + i) (by omega)
        have hb1 := numv_lt3 z h.byte p i (by omega)
        have hb2 := h.byte (p + i)
        go_wp2
        exact ⟨⟨i + 1, by omega, rfl, by simp [numv], trivial⟩, by simp [intOf]; omega⟩
      · have hik' : ¬ (i : Int) < (k : Int) := by omega
        obtain rfl : i = k := by omega
        go_wp2
        go_ret2
        exact ⟨rfl, rfl⟩
  · have e1 : tell z len at' k = 0 := by simp [tell, ht]
    have e2 : there len at' k = false := by simpa using ht
    rw [e1, e2]
    have hno : at' < 0 ∨ (len : Int) < at' ∨ (len : Int) - at' < k := by
      have : ¬ (0 ≤ at' ∧ (0 : Int) ≤ k ∧ (k : Int) ≤ (len : Int) - at') := fun hh => ht (there_iff.2 hh)
      omega
    by_cases g1 : at' < 0
    · go_enter Try.func27, Try.ntmps27
      go_wp2
      go_ret2
      exact ⟨rfl, rfl⟩
    · by_cases g2 : (len : Int) < at'
      · go_enter Try.func27, Try.ntmps27
        go_wp2
        go_ret2
        exact ⟨rfl, rfl⟩
      · have g3 : (len : Int) - at' < k := by omega
        go_enter Try.func27, Try.ntmps27
        go_wp2
        go_ret2
        exact ⟨rfl, rfl⟩
end Go.Proofs.Ytninhcnpjadjpaa
