/-
  fixed.Root and versalref2.Root as contracts.
-/
import Derived.Test.YtaceobpgopdejaaBase
namespace Go.Proofs.Ytaceobpgopdejaa
open Go.RowKit

/-- Where the search stands: the bit to try next (0: done). -/
def Stands (n : Int) (r b : Nat) : Prop :=
  (b = 0 ∧ (r : Int) * r ≤ n ∧ n < ((r : Int) + 1) * (r + 1)) ∨
  (∃ k c : Nat, b = 2 ^ k ∧ r = c * (2 * 2 ^ k) ∧ r + 2 * b ≤ 4294967296 ∧ (r : Int) * r ≤ n ∧ n < ((r : Int) + 2 * b) * (r + 2 * b))

theorem stands_pos {n : Int} {r b : Nat} (h : Stands n r b) (hb : 0 < b) :
    ∃ x : Nat, x = r + b ∧ bits .or .u64 (r : Int) (b : Int) = (x : Int) ∧ x ≤ 4294967295 ∧ ((x : Int) * x ≤ n → Stands n x (b / 2)) ∧ (¬ (x : Int) * x ≤ n → Stands n r (b / 2)) := by
  rcases h with ⟨h, _⟩ | ⟨k, c, hbk, hrc, hle, h1, h2⟩
  · omega
  · refine ⟨r + b, rfl, ?_, by omega, ?_, ?_⟩
    · have e : r + b = r ||| b := by
        have := Nat.shiftLeft_add_eq_or_of_lt (b := b) (i := k + 1) (by rw [hbk]; exact Nat.pow_lt_pow_right (by omega) (by omega)) c
        rw [Nat.shiftLeft_eq, Nat.pow_succ, Nat.mul_comm (2 ^ k) 2, ← hrc] at this
        exact this
      have h1 : (BitVec.ofInt 64 (r : Int) ||| BitVec.ofInt 64 (b : Int)).toNat = r ||| b := by
        rw [BitVec.toNat_or]
        congr 1 <;> simp <;> omega
      rw [e]
      have hb' : (r ||| b) < 9223372036854775808 := by omega
      show IntKind.wrap .u64 (((BitVec.ofInt 64 (r : Int) ||| BitVec.ofInt 64 (b : Int)).toNat : Nat) : Int) = _
      rw [h1]
      show (if (false && decide (((r ||| b : Nat) : Int) % 18446744073709551616 ≥ 9223372036854775808)) = true then ((r ||| b : Nat) : Int) % 18446744073709551616 - 18446744073709551616 else ((r ||| b : Nat) : Int) % 18446744073709551616) = _
      rw [if_neg (by simp)]
      omega
    · intro hx
      rcases k with _ | k
      · refine .inl ⟨by simp [hbk], hx, ?_⟩
        simp only [Nat.pow_zero] at hbk
        subst hbk
        have e : ((r : Int) + 2 * (1 : Nat)) = (((r + 1 : Nat) : Int) + 1) := by omega
        rw [← e]; exact h2
      · refine .inr ⟨k, 2 * c + 1, by rw [hbk, Nat.pow_succ]; omega, ?_, ?_, hx, ?_⟩
        · rw [hrc, hbk, Nat.pow_succ, Nat.add_mul, Nat.mul_assoc 2 c, Nat.mul_left_comm 2 c]
          have : c * (2 * (2 ^ k * 2)) = c * (2 * (2 * 2 ^ k)) := by rw [Nat.mul_comm (2 ^ k) 2]
          omega
        · have : 2 * (b / 2) = b := by rw [hbk, Nat.pow_succ]; omega
          omega
        · have hb2 : 2 * (b / 2) = b := by rw [hbk, Nat.pow_succ]; omega
          have e : (((r + b : Nat) : Int) + 2 * ((b / 2 : Nat) : Int)) = (r : Int) + 2 * b := by omega
          rw [e]; exact h2
    · intro hx
      rcases k with _ | k
      · refine .inl ⟨by simp [hbk], h1, ?_⟩
        simp only [Nat.pow_zero] at hbk
        subst hbk
        have e : ((r : Int) + 1) = ((r + 1 : Nat) : Int) := by omega
        rw [e]; omega
      · refine .inr ⟨k, 2 * c, by rw [hbk, Nat.pow_succ]; omega, ?_, ?_, h1, ?_⟩
        · rw [hrc, Nat.pow_succ, Nat.mul_assoc 2 c, Nat.mul_left_comm 2 c]
          congr 2
          omega
        · omega
        · have hb2 : 2 * (b / 2) = b := by rw [hbk, Nat.pow_succ]; omega
          have e : ((r : Int) + 2 * ((b / 2 : Nat) : Int)) = ((r + b : Nat) : Int) := by omega
          rw [e]; omega

theorem stands_end {n : Int} {r : Nat} (h : Stands n r 0) (hn : 0 ≤ n) : IsRoot n r := by
  rcases h with ⟨_, h1, h2⟩ | ⟨k, c, hbk, _⟩
  · exact .inr ⟨hn, by omega, h1, h2⟩
  · have := Nat.pow_pos (n := k) (show 0 < 2 by omega); omega
theorem stands_start {n : Int} (hn : 0 ≤ n) (hn2 : n ≤ 9223372036854775807) : Stands n 0 2147483648 :=
  .inr ⟨31, 0, by decide, by decide, by decide, by simpa using hn, by show n < 18446744073709551616; omega⟩

set_option maxHeartbeats 800000 in
theorem root_any (n : Int) (hn2 : n ≤ 9223372036854775807) (w : World) :
    Calls Try.prog 16 #[.int .i64 n] w fun e w' => ∃ r : Nat, IsRoot n r ∧ e = .returned (.int .i64 r) ∧ w' = w := by
  by_cases hn : n < 0
  · go_enter Try.func16, Try.ntmps16
    go_wp2
    go_ret
    exact ⟨0, .inl ⟨hn, rfl⟩, rfl, rfl⟩
  · go_enter Try.func16, Try.ntmps16
    go_wp2_with fail
    go_loopw [3, 4] (fun root bit wq => ∃ r b : Nat, root = .int .u64 r ∧ bit = .int .u64 b ∧ Hid (Stands n r b) ∧ wq = w) (fun _ bit _ => (intOf bit).toNat)
    case atStart => exact ⟨0, 2147483648, rfl, rfl, stands_start (by omega) hn2, rfl⟩
    case round =>
      obtain ⟨r, b, rfl, rfl, hst, rfl⟩ := hrel
      by_cases hb : b = 0
      · subst hb
        have hroot := stands_end hst.out (by omega)
        have hbd := root_bd hn2 hroot
        have hbd2 := hbd.2
        have HR : Hid (IsRoot n r) := hroot
        clear hroot hbd
        go_wp2
        go_ret
        exact ⟨r, HR.out, rfl, rfl⟩
      · obtain ⟨x, hx0, hx1, hx2, hx3, hx4⟩ := stands_pos hst.out (by omega)
        have hb' : 0 < (b : Int) := by omega
        have hsq := abs_mul (x := (x : Int)) (y := (x : Int)) (M := 4294967295) (N := 4294967295) (by omega) (by omega)
        have hs1 : (x : Int) * x ≤ 18446744065119617025 := by omega
        have hs0 : 0 ≤ (x : Int) * x := Int.mul_nonneg (by omega) (by omega)
        have HX : Hid (x = r + b) := hx0
        by_cases hle : (x : Int) * x ≤ n
        · have HS : Hid (Stands n x (b / 2)) := hx3 hle
          clear hx0 hx3 hx4 hsq hst
          go_wp2
          exact ⟨⟨x, b / 2, rfl, rfl, HS, trivial⟩, by simp [intOf]; omega⟩
        · have HS : Hid (Stands n r (b / 2)) := hx4 hle
          clear hx0 hx3 hx4 hsq hst
          go_wp2
          exact ⟨⟨r, b / 2, rfl, rfl, HS, trivial⟩, by simp [intOf]; omega⟩
end Go.Proofs.Ytaceobpgopdejaa
