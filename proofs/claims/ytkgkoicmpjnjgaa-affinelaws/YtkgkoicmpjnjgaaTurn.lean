
/-
  Chapter 4 in whole numbers: Norm, Sin, Cos, Tan, Atan; facts on them. No Go text is walked here.
-/
import Derived.Test.YtkgkoicmpjnjgaaBase
import Derived.Laws.Bits64b
namespace Go.Proofs.Ytkgkoicmpjnjgaa
open Go.RowKit

def normv (a : Int) : Int := a % 65536
theorem norm_bd (a : Int) : 0 ≤ normv a ∧ normv a ≤ 65535 := by unfold normv; omega

/-- The lower sixteen bits are what is left of whole turns. -/
theorem and_turn (a : Int) : bits .and .i64 a 65535 = normv a := by
  show IntKind.i64.wrap ((BitVec.ofInt 64 a &&& BitVec.ofInt 64 65535).toNat : Int) = _
  have h2 : (BitVec.ofInt 64 65535).toNat = 2 ^ 16 - 1 := by decide
  have h1 : (BitVec.ofInt 64 a).toNat = (a % 18446744073709551616).toNat := by
    rw [BitVec.toNat_ofInt]; rfl
  rw [BitVec.toNat_and, h1, h2, Nat.and_two_pow_sub_one_eq_mod, IntKind.wrap_i64]
  unfold normv
  omega

def archp (n : Int) : Int := n * (32768 - n)
theorem archp_bd {n : Int} (h : 0 ≤ n) (h2 : n ≤ 32768) : 0 ≤ archp n ∧ archp n ≤ 268435456 := by
  unfold archp
  refine ⟨Int.mul_nonneg h (by omega), ?_⟩
  have h3 := sq_le (a := 0) (b := ((n - 16384).natAbs : Int)) (by omega) (by omega)
  rw [Int.natAbs_mul_self' (n - 16384)] at h3
  rw [Int.sub_mul, Int.mul_sub, Int.mul_sub] at h3
  rw [Int.mul_sub]
  omega
theorem archp_pos {n : Int} (h : 0 < n) (h2 : n < 32768) : 32767 ≤ archp n := by
  unfold archp
  have h3 : 0 ≤ (n - 1) * (32767 - n) := Int.mul_nonneg (by omega) (by omega)
  rw [Int.sub_mul, Int.mul_sub] at h3
  rw [Int.mul_sub]
  omega
theorem archp_sym (n : Int) : archp (32768 - n) = archp n := by
  unfold archp
  rw [show 32768 - (32768 - n) = n by omega, Int.mul_comm]

def archv (n : Int) : Int := 16 * archp n * 65536 / (5368709120 - 4 * archp n)
theorem arch_bd {n : Int} (h : 0 ≤ n) (h2 : n ≤ 32768) : 0 ≤ archv n ∧ archv n ≤ 65536 := by
  have hp := archp_bd h h2
  unfold archv
  exact ⟨Int.ediv_nonneg (by omega) (by omega), Int.ediv_le_of_le_mul (by omega) (by omega)⟩
theorem arch_pos {n : Int} (h : 0 < n) (h2 : n < 32768) : 0 < archv n := by
  have hp := archp_bd (n := n) (by omega) (by omega)
  have hq := archp_pos h h2
  unfold archv
  have := Int.le_ediv_of_mul_le (a := 1) (b := 16 * archp n * 65536) (c := 5368709120 - 4 * archp n) (by omega) (by omega)
  omega
theorem arch_sym (n : Int) : archv (32768 - n) = archv n := by unfold archv; rw [archp_sym]
theorem arch_nil : archv 0 = 0 := by decide
theorem arch_full : archv 32768 = 0 := by decide

def sinv (a : Int) : Int := if 32768 ≤ normv a then -archv (normv a - 32768) else archv (normv a)
def cosv (a : Int) : Int := sinv (normv a + 16384)
def tanv (a : Int) : Int := divv (sinv a) (cosv a)

theorem sin_lo {a n : Int} (h : normv a = n) (h2 : n < 32768) : sinv a = archv n := by
  unfold sinv; rw [h, if_neg (by omega)]
theorem sin_hi {a n : Int} (h : normv a = n) (h2 : 32768 ≤ n) : sinv a = -archv (n - 32768) := by
  unfold sinv; rw [h, if_pos h2]
theorem sin_norm {a b : Int} (h : normv a = normv b) : sinv a = sinv b := by unfold sinv; rw [h]
theorem sin_bd (a : Int) : -65536 ≤ sinv a ∧ sinv a ≤ 65536 := by
  have hn := norm_bd a
  unfold sinv
  split
  · have := arch_bd (n := normv a - 32768) (by omega) (by omega)
    omega
  · have := arch_bd (n := normv a) (by omega) (by omega)
    omega
theorem sin_half (a : Int) : sinv (a + 32768) = -sinv a := by
  have hn := norm_bd a
  by_cases h : normv a < 32768
  · rw [sin_lo (a := a) rfl h, sin_hi (n := normv a + 32768) (by unfold normv at *; omega) (by omega)]
    rw [show normv a + 32768 - 32768 = normv a by omega]
  · rw [sin_hi (a := a) rfl (by omega), sin_lo (n := normv a - 32768) (by unfold normv at *; omega) (by omega)]
    omega
theorem sin_whole (a : Int) : sinv (a + 65536) = sinv a := sin_norm (by unfold normv; omega)
theorem sin_flip (a : Int) : sinv (32768 - a) = sinv a := by
  have hn := norm_bd a
  rcases (by omega : normv a = 0 ∨ (0 < normv a ∧ normv a < 32768) ∨ normv a = 32768 ∨ 32768 < normv a) with h | ⟨h, h2⟩ | h | h
  · rw [sin_lo h (by omega), sin_hi (n := 32768) (by unfold normv at *; omega) (by omega)]
    decide
  · rw [sin_lo (a := a) rfl h2, sin_lo (n := 32768 - normv a) (by unfold normv at *; omega) (by omega), arch_sym]
  · rw [sin_hi h (by omega), sin_lo (n := 0) (by unfold normv at *; omega) (by omega)]
    decide
  · rw [sin_hi (a := a) rfl (by omega), sin_hi (n := 98304 - normv a) (by unfold normv at *; omega) (by omega)]
    rw [show 98304 - normv a - 32768 = 32768 - (normv a - 32768) by omega, arch_sym]
theorem sin_neg (a : Int) : sinv (-a) = -sinv a := by
  have h := sin_half (-a)
  have h2 := sin_flip a
  rw [show -a + 32768 = 32768 - a by omega, h2] at h
  omega
theorem cos_eq (a : Int) : cosv a = sinv (a + 16384) := sin_norm (by unfold normv; omega)
theorem cos_neg (a : Int) : cosv (-a) = cosv a := by
  rw [cos_eq, cos_eq, ← sin_flip (a + 16384)]
  exact sin_norm (by unfold normv; omega)
theorem sin_pos {a : Int} (h : 0 < normv a) (h2 : normv a < 32768) : 0 < sinv a := by
  rw [sin_lo rfl h2]; exact arch_pos h h2
theorem sin_not {a : Int} (h : normv a = 0 ∨ 32768 ≤ normv a) : sinv a ≤ 0 := by
  have hn := norm_bd a
  rcases h with h | h
  · rw [sin_lo h (by omega), arch_nil]; exact Int.le_refl _
  · rw [sin_hi rfl h]
    have := arch_bd (n := normv a - 32768) (by omega) (by omega)
    omega

/-- The part of a slope, in 16.16. -/
def part (v u : Int) : Int := v * 65536 / u
theorem part_bd {v u : Int} (hv : 0 ≤ v) (h : v ≤ u) (hu : 0 < u) : 0 ≤ part v u ∧ part v u ≤ 65536 := by
  unfold part
  exact ⟨Int.ediv_nonneg (by omega) (by omega), Int.ediv_le_of_le_mul hu (by omega)⟩
theorem part_two {v u : Int} : part (2 * v) (2 * u) = part v u := by
  unfold part
  rw [Int.mul_assoc, Int.mul_ediv_mul_of_pos _ _ (by omega)]
theorem part_nil (u : Int) : part 0 u = 0 := by unfold part; simp
def leanv (z : Int) : Int := (8192 * z * 65536 + 2847 * z * (65536 - z)) / 4294967296
theorem lean_prod {z : Int} (h : 0 ≤ z) (h2 : z ≤ 65536) : 0 ≤ 2847 * z * (65536 - z) ∧ 8192 * z * 65536 + 2847 * z * (65536 - z) ≤ 35184372088832 := by
  refine ⟨Int.mul_nonneg (by omega) (by omega), ?_⟩
  have h3 : 0 ≤ (65536 - z) * (536870912 - 2847 * z) := Int.mul_nonneg (by omega) (by omega)
  rw [Int.mul_sub, Int.sub_mul, Int.sub_mul] at h3
  rw [Int.mul_sub]
  have e : z * (2847 * z) = 2847 * z * z := Int.mul_comm _ _
  omega
theorem lean_bd {z : Int} (h : 0 ≤ z) (h2 : z ≤ 65536) : 0 ≤ leanv z ∧ leanv z ≤ 8192 := by
  have hp := lean_prod h h2
  unfold leanv
  omega
def slopev (v u : Int) : Int := leanv (part v u)
theorem slope_bd {v u : Int} (hv : 0 ≤ v) (h : v ≤ u) (hu : 0 < u) : 0 ≤ slopev v u ∧ slopev v u ≤ 8192 := by
  have hz := part_bd hv h hu
  exact lean_bd hz.1 hz.2

def absv (n : Int) : Int := if n < 0 then -n else n
theorem absv_neg {n : Int} (h : n < 0) : absv n = -n := if_pos h
theorem absv_pos {n : Int} (h : ¬ n < 0) : absv n = n := if_neg h
/-- The angle in the first quarter: t up, w aside. -/
def quart (t w : Int) : Int := if w < t then 16384 - slopev w t else slopev t w
theorem quart_steep {t w : Int} (h : w < t) : quart t w = 16384 - slopev w t := if_pos h
theorem quart_flat {t w : Int} (h : ¬ w < t) : quart t w = slopev t w := if_neg h
theorem quart_bd {t w : Int} (ht : 0 ≤ t) (hw : 0 ≤ w) (h : 0 < t ∨ 0 < w) : 0 ≤ quart t w ∧ quart t w ≤ 16384 := by
  unfold quart
  split
  · have := slope_bd (v := w) (u := t) hw (by omega) (by omega)
    omega
  · have := slope_bd (v := t) (u := w) ht (by omega) (by omega)
    omega
theorem quart_up {t : Int} (ht : 0 < t) : quart t 0 = 16384 := by
  rw [quart_steep ht]; unfold slopev; rw [part_nil]; decide
theorem quart_side {w : Int} (hw : 0 ≤ w) : quart 0 w = 0 := by
  rw [quart_flat (by omega)]; unfold slopev; rw [part_nil]; decide
theorem quart_two (t w : Int) : quart (2 * t) (2 * w) = quart t w := by
  unfold quart slopev
  rw [part_two, part_two]
  by_cases h : w < t
  · rw [if_pos h, if_pos (by omega)]
  · rw [if_neg h, if_neg (by omega)]
/-- The angle at which (x, y) is seen. -/
def seen (y x : Int) : Int :=
  if y < 0 then normv (-(if x < 0 then 32768 - quart (absv y) (absv x) else quart (absv y) (absv x)))
  else if x < 0 then 32768 - quart (absv y) (absv x) else quart (absv y) (absv x)
def atanv (y x : Int) : Int := if clip y = 0 ∧ clip x = 0 then 0 else seen (clip y) (clip x)
end Go.Proofs.Ytkgkoicmpjnjgaa
