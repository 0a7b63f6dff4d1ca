
/-
  Chapter 3 in whole numbers: what Clip, Mul, Div, Lerp, Round, Whole, From14, Ratio, Root tell; facts on them. No Go text is walked here.
-/
import Derived.Test.YtkgkoicmpjnjgaaRows
import Derived.WalkKit
import Derived.WalkSpells
import Derived.Below
namespace Go.Proofs.Ytkgkoicmpjnjgaa
open Go.RowKit

theorem ret_int {k : IntKind} {a b : Int} (h : a = b) : Ending.returned (.int k a) = .returned (.int k b) := by rw [h]

/-- n brought within -m to m. -/
def within (m n : Int) : Int := if n < -m then -m else if m < n then m else n
theorem within_lo {m n : Int} (h : n < -m) : within m n = -m := if_pos h
theorem within_hi {m n : Int} (hm : 0 ≤ m) (h : m < n) : within m n = m := by unfold within; rw [if_neg (by omega), if_pos h]
theorem within_id {m n : Int} (h : -m ≤ n) (h2 : n ≤ m) : within m n = n := by unfold within; rw [if_neg (by omega), if_neg (by omega)]
theorem within_bd {m n : Int} (hm : 0 ≤ m) : -m ≤ within m n ∧ within m n ≤ m := by unfold within; split <;> (try split) <;> omega
theorem within_mono {m a b : Int} (hm : 0 ≤ m) (h : a ≤ b) : within m a ≤ within m b := by unfold within; repeat' split <;> omega
theorem within_neg {m n : Int} (hm : 0 ≤ m) : within m (-n) = - within m n := by unfold within; repeat' split <;> omega
theorem within_zero {m n : Int} (hm : 0 < m) (h : within m n = 0) : n = 0 := by unfold within at h; repeat' split at h <;> omega

def clip (n : Int) : Int := within 2147483647 n
theorem clip_bd (n : Int) : -2147483647 ≤ clip n ∧ clip n ≤ 2147483647 := within_bd (by omega)
theorem clip_id {n : Int} (h : -2147483647 ≤ n) (h2 : n ≤ 2147483647) : clip n = n := within_id h h2
theorem clip_clip (n : Int) : clip (clip n) = clip n := clip_id (clip_bd n).1 (clip_bd n).2
theorem clip_mono {a b : Int} (h : a ≤ b) : clip a ≤ clip b := within_mono (by omega) h

theorem abs_mul {x y : Int} {M N : Nat} (hx : x.natAbs ≤ M) (hy : y.natAbs ≤ N) : (x * y).natAbs ≤ M * N := by
  rw [Int.natAbs_mul]; exact Nat.mul_le_mul hx hy
theorem clip_mul_bd (a b : Int) : -4611686014132420609 ≤ clip a * clip b ∧ clip a * clip b ≤ 4611686014132420609 := by
  have ha := clip_bd a
  have hb := clip_bd b
  have := abs_mul (x := clip a) (y := clip b) (M := 2147483647) (N := 2147483647) (by omega) (by omega)
  omega

def mulv (a b : Int) : Int := clip ((clip a * clip b + 32768) / 65536)
def divv (a b : Int) : Int :=
  if clip b = 0 then (if 0 < clip a then 2147483647 else if clip a < 0 then -2147483647 else 0) else clip ((clip a * 65536).fdiv (clip b))
def lerpv (a b t : Int) : Int := clip (clip a + mulv (clip b - clip a) t)
def roundv (a : Int) : Int := (clip a + 32768) / 65536
def wholev (a : Int) : Int := clip (clip a * 65536)
def from14v (a : Int) : Int := clip (clip a * 4)
def far (n : Int) : Int := within 70368744177664 n
theorem far_bd (n : Int) : -70368744177664 ≤ far n ∧ far n ≤ 70368744177664 := within_bd (by omega)
def ratiov (a b : Int) : Int := if far b = 0 then 0 else clip ((far a * 65536).fdiv (far b))

/-- The greatest whole number whose square is not above n. -/
def IsRoot (n r : Int) : Prop := (n < 0 ∧ r = 0) ∨ (0 ≤ n ∧ 0 ≤ r ∧ r * r ≤ n ∧ n < (r + 1) * (r + 1))
theorem sq_lt {a b : Int} (ha : 0 ≤ a) (h : a < b) : a * a < b * b := by
  have h1 : a * a ≤ a * b := Int.mul_le_mul_of_nonneg_left (by omega) ha
  have h2 : a * b < b * b := Int.mul_lt_mul_of_pos_right h (by omega)
  omega
theorem sq_le {a b : Int} (ha : 0 ≤ a) (h : a ≤ b) : a * a ≤ b * b := by
  rcases Int.lt_or_eq_of_le h with h | rfl
  · exact Int.le_of_lt (sq_lt ha h)
  · exact Int.le_refl _
theorem root_mono {m n r s : Int} (h : m ≤ n) (hr : IsRoot m r) (hs : IsRoot n s) : r ≤ s := by
  rcases hr with ⟨_, rfl⟩ | ⟨h0, hr0, hr1, hr2⟩
  · rcases hs with ⟨_, rfl⟩ | ⟨_, hs, _⟩ <;> omega
  · rcases hs with ⟨h1, rfl⟩ | ⟨_, hs0, hs1, hs2⟩
    · omega
    · rcases Int.lt_or_le s r with hlt | hle
      · have := sq_le (a := s + 1) (b := r) (by omega) (by omega)
        omega
      · exact hle
theorem root_uniq {n r s : Int} (hr : IsRoot n r) (hs : IsRoot n s) : r = s :=
  Int.le_antisymm (root_mono (Int.le_refl _) hr hs) (root_mono (Int.le_refl _) hs hr)
theorem root_bd {n r : Int} (h : n ≤ 9223372036854775807) (hr : IsRoot n r) : 0 ≤ r ∧ r ≤ 3037000499 := by
  rcases hr with ⟨_, rfl⟩ | ⟨h0, hr0, hr1, hr2⟩
  · omega
  · refine ⟨hr0, ?_⟩
    rcases Int.lt_or_le 3037000499 r with hlt | hle
    · have := sq_le (a := 3037000500) (b := r) (by omega) (by omega)
      omega
    · exact hle

theorem sgn_of (d : Int) (hd : d ≠ 0) : (0 < d ∧ d.sign = 1) ∨ (d < 0 ∧ d.sign = -1) := by
  rcases Int.lt_or_gt_of_ne hd with h | h
  · exact .inr ⟨h, Int.sign_eq_neg_one_of_neg h⟩
  · exact .inl ⟨h, Int.sign_eq_one_of_pos h⟩
theorem fdiv_bd {n d : Int} (hd : d ≠ 0) : -(n.natAbs : Int) - 1 ≤ n.fdiv d ∧ n.fdiv d ≤ n.natAbs := by
  have h := Int.natAbs_tdiv_le_natAbs n d
  have hsg := sgn_of d hd
  rw [Int.fdiv_eq_tdiv]
  repeat' split
  all_goals omega
theorem tdiv_bd (n d : Int) : -(n.natAbs : Int) ≤ n.tdiv d ∧ n.tdiv d ≤ n.natAbs := by
  have h := Int.natAbs_tdiv_le_natAbs n d
  omega
/-- Cut off towards 0, and one less where something is cut off and only one of the two is below 0. -/
theorem fdiv_less {n d : Int} (hd : d ≠ 0) (h : n.tmod d ≠ 0) (hs : n < 0 ↔ ¬ d < 0) : n.tdiv d - 1 = n.fdiv d := by
  have hdv : ¬ d ∣ n := fun hh => h (Int.tmod_eq_zero_of_dvd hh)
  have hsg := sgn_of d hd
  rw [Int.fdiv_eq_tdiv, if_neg hdv]
  repeat' split
  all_goals omega
theorem fdiv_same {n d : Int} (hd : d ≠ 0) (h : n.tmod d = 0 ∨ (n < 0 ↔ d < 0)) : n.tdiv d = n.fdiv d := by
  have hsg := sgn_of d hd
  rw [Int.fdiv_eq_tdiv]
  split
  · omega
  · rename_i hdv
    have h' : n < 0 ↔ d < 0 := by
      rcases h with h | h
      · exact absurd (Int.dvd_of_tmod_eq_zero h) hdv
      · exact h
    repeat' split
    all_goals omega
theorem fdiv_pos {n d : Int} (hd : 0 < d) : n.fdiv d = n / d := Int.fdiv_eq_ediv_of_nonneg n (by omega)
theorem fdiv_neg {n d : Int} (hd : d < 0) : n.fdiv d = (-n) / (-d) := by
  rw [← Int.neg_fdiv_neg, Int.fdiv_eq_ediv_of_nonneg _ (by omega)]
end Go.Proofs.Ytkgkoicmpjnjgaa
