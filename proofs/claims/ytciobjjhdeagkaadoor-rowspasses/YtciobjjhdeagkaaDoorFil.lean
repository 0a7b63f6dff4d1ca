/-
  PNG's filters as plain functions ('guessv', 'undv', 'dov'), and package rows' own guess against them.
-/
import Derived.Test.YtciobjjhdeagkaaDoorBase
namespace Go.Proofs.YtciobjjhdeagkaaDoor
open Go.RowKit

/-- The byte at a place, 0 beyond. -/
def atv (z : Nat → Nat) (len : Nat) (i : Int) : Nat := if 0 ≤ i ∧ i < len then z i.toNat else 0
/-- How far two numbers are apart. -/
def apv (x y : Int) : Int := if x - y < y - x then y - x else x - y
/-- Paeth's choice. -/
def nearv (a b c : Nat) : Nat :=
  if apv ((a : Int) + b - c) a ≤ apv ((a : Int) + b - c) b ∧ apv ((a : Int) + b - c) a ≤ apv ((a : Int) + b - c) c then a
  else if apv ((a : Int) + b - c) b ≤ apv ((a : Int) + b - c) c then b else c
/-- What a filter takes a byte to be. -/
def guessv (k : Nat) (a b c : Nat) : Nat := if k = 1 then a else if k = 2 then b else if k = 3 then (a + b) / 2 else if k = 4 then nearv a b c else 0
theorem atv_lt {z : Nat → Nat} (hz : ∀ i, z i < 256) (len : Nat) (i : Int) : atv z len i < 256 := by
  unfold atv; split
  · exact hz _
  · omega
theorem nearv_lt {a b c : Nat} (ha : a < 256) (hb : b < 256) (hc : c < 256) : nearv a b c < 256 := by
  unfold nearv; split
  · exact ha
  · split <;> omega
theorem guessv_lt {k a b c : Nat} (ha : a < 256) (hb : b < 256) (hc : c < 256) : guessv k a b c < 256 := by
  unfold guessv
  have := nearv_lt ha hb hc
  repeat' split
  all_goals omega

/-- A line as it was ahead of its filter; f: as many steps back as may be. -/
def undN (k b : Nat) (z y : Nat → Nat) (yl : Nat) : Nat → Nat → Nat
  | 0, _ => 0
  | f + 1, i => (z i + guessv k (if b ≤ i then undN k b z y yl f (i - b) else 0) (atv y yl i) (atv y yl ((i : Int) - b))) % 256
def undv (k b : Nat) (z y : Nat → Nat) (yl i : Nat) : Nat := undN k b z y yl (i + 1) i
theorem undN_more (k b : Nat) (hb : 1 ≤ b) (z y : Nat → Nat) (yl : Nat) : ∀ f i, i < f → undN k b z y yl f i = undN k b z y yl (f + 1) i
  | 0, i, h => by omega
  | f + 1, i, h => by
    conv => lhs; unfold undN
    conv => rhs; unfold undN
    by_cases hi : b ≤ i
    · rw [if_pos hi, if_pos hi, undN_more k b hb z y yl f (i - b) (by omega)]
    · rw [if_neg hi, if_neg hi]
theorem undN_all (k b : Nat) (hb : 1 ≤ b) (z y : Nat → Nat) (yl i : Nat) : ∀ d, undN k b z y yl (i + 1 + d) i = undv k b z y yl i
  | 0 => rfl
  | d + 1 => by rw [← undN_all k b hb z y yl i d, ← Nat.add_assoc, ← undN_more k b hb z y yl _ i (by omega)]
theorem undv_eq (k b : Nat) (hb : 1 ≤ b) (z y : Nat → Nat) (yl i : Nat) :
    undv k b z y yl i = (z i + guessv k (if b ≤ i then undv k b z y yl (i - b) else 0) (atv y yl i) (atv y yl ((i : Int) - b))) % 256 := by
  conv => lhs; unfold undv; unfold undN
  by_cases hi : b ≤ i
  · rw [if_pos hi, if_pos hi, show undN k b z y yl i (i - b) = undv k b z y yl (i - b) by
      have := undN_all k b hb z y yl (i - b) (b - 1)
      rwa [show i - b + 1 + (b - 1) = i by omega] at this]
  · rw [if_neg hi, if_neg hi]
theorem undv_lt (k b : Nat) (hb : 1 ≤ b) (z y : Nat → Nat) (yl i : Nat) : undv k b z y yl i < 256 := by rw [undv_eq k b hb]; exact Nat.mod_lt _ (by omega)
/-- A line as it is filtered. -/
def dov (k b : Nat) (z : Nat → Nat) (len : Nat) (y : Nat → Nat) (yl i : Nat) : Nat :=
  (z i + 256 - guessv k (atv z len ((i : Int) - b)) (atv y yl i) (atv y yl ((i : Int) - b))) % 256
theorem dov_lt (k b : Nat) (z : Nat → Nat) (len : Nat) (y : Nat → Nat) (yl i : Nat) : dov k b z len y yl i < 256 := Nat.mod_lt _ (by omega)
theorem atv_back {z : Nat → Nat} {len i b : Nat} (hb : 1 ≤ b) (hi : i < len) : atv z len ((i : Int) - b) = if b ≤ i then z (i - b) else 0 := by
  unfold atv
  by_cases h : b ≤ i
  · rw [if_pos h, if_pos ⟨by omega, by omega⟩, show ((i : Int) - b).toNat = i - b by omega]
  · rw [if_neg h, if_neg (fun h' => by omega)]
/-- What was filtered is put back. -/
theorem und_do (k b : Nat) (hb : 1 ≤ b) (z y : Nat → Nat) (hz : ∀ i, z i < 256) (hy : ∀ i, y i < 256) (len yl : Nat) : ∀ n i, i ≤ n → i < len → undv k b (dov k b z len y yl) y yl i = z i := by
  intro n
  induction n with
  | zero =>
    intro i h0 hi
    have := guessv_lt (k := k) (atv_lt hz len ((i : Int) - b)) (atv_lt hy yl i) (atv_lt hy yl ((i : Int) - b))
    have hzi := hz i
    rw [undv_eq k b hb, if_neg (by omega)]
    unfold dov
    rw [atv_back hb hi, if_neg (by omega)] at *
    omega
  | succ n ih =>
    intro i h0 hi
    have := guessv_lt (k := k) (atv_lt hz len ((i : Int) - b)) (atv_lt hy yl i) (atv_lt hy yl ((i : Int) - b))
    have hzi := hz i
    rw [undv_eq k b hb]
    by_cases h : b ≤ i
    · rw [if_pos h, ih (i - b) (by omega) (by omega)]
      unfold dov
      rw [atv_back hb hi, if_pos h] at *
      omega
    · rw [if_neg h]
      unfold dov
      rw [atv_back hb hi, if_neg h] at *
      omega
theorem do_und (k b : Nat) (hb : 1 ≤ b) (z y : Nat → Nat) (hz : ∀ i, z i < 256) (hy : ∀ i, y i < 256) (len yl i : Nat) (hi : i < len) : dov k b (undv k b z y yl) len y yl i = z i := by
  have hu := undv_lt k b hb z y yl
  have := guessv_lt (k := k) (atv_lt hu len ((i : Int) - b)) (atv_lt hy yl i) (atv_lt hy yl ((i : Int) - b))
  have hzi := hz i
  unfold dov
  rw [undv_eq k b hb z y yl i]
  rw [atv_back hb hi] at *
  omega

set_option maxRecDepth 100000 in
set_option maxHeartbeats 800000 in
theorem byteAt_any (a : Option Addr) (len cap : Nat) (z : Nat → Nat) (i : Int) (w : World) (h : Lies w a len cap z) :
    Calls Tryd.prog 22 #[.slice a len cap, .int .i64 i] w fun e w' => e = .returned (.int .u8 (atv z len i : Nat)) ∧ w' = w := by
  by_cases h0 : i < 0
  · have hv : atv z len i = 0 := by unfold atv; rw [if_neg (fun h' => by omega)]
    rw [hv]
    go_enter Tryd.func22, Tryd.ntmps22
    go_wp2
    go_ret
    exact ⟨rfl, rfl⟩
  · by_cases h1 : (len : Int) ≤ i
    · have hv : atv z len i = 0 := by unfold atv; rw [if_neg (fun h' => by omega)]
      rw [hv]
      go_enter Tryd.func22, Tryd.ntmps22
      go_wp2
      go_ret
      exact ⟨rfl, rfl⟩
    · obtain ⟨n, rfl⟩ : ∃ n : Nat, i = n := ⟨i.toNat, by omega⟩
      have hn : n < len := by omega
      obtain ⟨b, off, rfl, hb, hc⟩ := h.spot (by omega)
      have hci := hc n hn
      have hv : atv z len (n : Nat) = z n := by unfold atv; rw [if_pos ⟨by omega, by omega⟩, Int.toNat_natCast]
      have hlc := h.lc
      have h2 : (n : Int) < len := by omega
      rw [hv]
      clear h0 h1 hv
      go_enter Tryd.func22, Tryd.ntmps22
      go_wp2
      go_ret
      exact ⟨rfl, rfl⟩
set_option maxRecDepth 100000 in
set_option maxHeartbeats 800000 in
theorem rat_any (a : Option Addr) (len cap : Nat) (z : Nat → Nat) (i : Int) (w : World) (h : Lies w a len cap z) :
    Calls Tryd.prog 20 #[.slice a len cap, .int .i64 i] w fun e w' => e = .returned (.int .i64 (atv z len i : Nat)) ∧ w' = w := by
  by_cases h0 : i < 0
  · have hv : atv z len i = 0 := by unfold atv; rw [if_neg (fun h' => by omega)]
    rw [hv]
    go_enter Tryd.func20, Tryd.ntmps20
    go_wp2
    go_ret
    exact ⟨rfl, rfl⟩
  · by_cases h1 : (len : Int) ≤ i
    · have hv : atv z len i = 0 := by unfold atv; rw [if_neg (fun h' => by omega)]
      rw [hv]
      go_enter Tryd.func20, Tryd.ntmps20
      go_wp2
      go_ret
      exact ⟨rfl, rfl⟩
    · obtain ⟨n, rfl⟩ : ∃ n : Nat, i = n := ⟨i.toNat, by omega⟩
      have hn : n < len := by omega
      obtain ⟨b, off, rfl, hb, hc⟩ := h.spot (by omega)
      have hci := hc n hn
      have hzn := h.byte n
      have hv : atv z len (n : Nat) = z n := by unfold atv; rw [if_pos ⟨by omega, by omega⟩, Int.toNat_natCast]
      have hlc := h.lc
      have h2 : (n : Int) < len := by omega
      rw [hv]
      clear h0 h1 hv
      go_enter Tryd.func20, Tryd.ntmps20
      go_wp2
      go_ret
      exact ⟨rfl, rfl⟩

theorem apart_any (x y : Int) (hx : -1000 ≤ x ∧ x ≤ 1000) (hy : -1000 ≤ y ∧ y ≤ 1000) (w : World) :
    Calls Tryd.prog 24 #[.int .i64 x, .int .i64 y] w fun e w' => e = .returned (.int .i64 (apv x y)) ∧ w' = w := by
  by_cases h : x - y < y - x
  · have hv : apv x y = y - x := by unfold apv; rw [if_pos h]
    rw [hv]
    go_enter Tryd.func24, Tryd.ntmps24
    go_wp2
    all_goals go_ret
    all_goals exact ⟨rfl, rfl⟩
  · have hv : apv x y = x - y := by unfold apv; rw [if_neg h]
    rw [hv]
    go_enter Tryd.func24, Tryd.ntmps24
    go_wp2
    all_goals go_ret
    all_goals exact ⟨rfl, rfl⟩
theorem allowed_any (k b : Int) (w : World) : Calls Tryd.prog 15 #[.int .i64 k, .int .i64 b] w fun e w' => e = .returned (.bool (decide (0 ≤ k ∧ k ≤ 4 ∧ 1 ≤ b ∧ b ≤ 8))) ∧ w' = w := by
  by_cases h1 : 0 ≤ k
  · by_cases h2 : k ≤ 4
    · by_cases h3 : 1 ≤ b
      · by_cases h4 : b ≤ 8
        · rw [show decide (0 ≤ k ∧ k ≤ 4 ∧ 1 ≤ b ∧ b ≤ 8) = true by simp [h1, h2, h3, h4]]
          go_enter Tryd.func15, Tryd.ntmps15
          go_wp2
          go_ret
          exact ⟨rfl, rfl⟩
        · rw [show decide (0 ≤ k ∧ k ≤ 4 ∧ 1 ≤ b ∧ b ≤ 8) = false by simp [h1, h2, h3, h4]]
          go_enter Tryd.func15, Tryd.ntmps15
          go_wp2
          go_ret
          exact ⟨rfl, rfl⟩
      · rw [show decide (0 ≤ k ∧ k ≤ 4 ∧ 1 ≤ b ∧ b ≤ 8) = false by simp [h1, h2, h3]]
        go_enter Tryd.func15, Tryd.ntmps15
        go_wp2
        go_ret
        exact ⟨rfl, rfl⟩
    · rw [show decide (0 ≤ k ∧ k ≤ 4 ∧ 1 ≤ b ∧ b ≤ 8) = false by simp [h1, h2]]
      go_enter Tryd.func15, Tryd.ntmps15
      go_wp2
      go_ret
      exact ⟨rfl, rfl⟩
  · rw [show decide (0 ≤ k ∧ k ≤ 4 ∧ 1 ≤ b ∧ b ≤ 8) = false by simp [h1]]
    go_enter Tryd.func15, Tryd.ntmps15
    go_wp2
    go_ret
    exact ⟨rfl, rfl⟩
end Go.Proofs.YtciobjjhdeagkaaDoor
