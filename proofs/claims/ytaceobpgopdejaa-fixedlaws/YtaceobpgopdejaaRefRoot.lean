/-
  versalref2.Root as a contract.
-/
import Derived.Test.YtaceobpgopdejaaRoot
namespace Go.Proofs.Ytaceobpgopdejaa
open Go.RowKit

/-- Where the reference's search stands: the root lies below r + p. -/
def Tried (n : Int) (r p : Nat) : Prop :=
  (n < 0 ∧ r = 0) ∨ (0 ≤ n ∧ r + p ≤ 4294967296 ∧ (r : Int) * r ≤ n ∧ n < ((r + p : Nat) : Int) * (r + p : Nat))

theorem tried_take {n : Int} {r p x : Nat} (h : Tried n r (p * 2)) (hx : x = r + p) (h2 : (x : Int) * x ≤ n) : Tried n x p := by
  subst hx
  have h3 : 0 ≤ ((r + p : Nat) : Int) * (r + p : Nat) := Int.mul_nonneg (by omega) (by omega)
  rcases h with ⟨h, _⟩ | ⟨h0, h1, _, h4⟩
  · omega
  · refine .inr ⟨h0, by omega, h2, ?_⟩
    rw [show r + p + p = r + p * 2 by omega]
    exact h4
theorem tried_skip {n : Int} {r p x : Nat} (h : Tried n r (p * 2)) (hx : x = r + p) (h2 : ¬ (x : Int) * x ≤ n) : Tried n r p := by
  subst hx
  rcases h with ⟨h, h0⟩ | ⟨h0, h1, h3, _⟩
  · exact .inl ⟨h, h0⟩
  · exact .inr ⟨h0, by omega, h3, by omega⟩
theorem tried_far {n : Int} (hn : n ≤ 9223372036854775807) {x : Nat} (h : ¬ (x : Int) ≤ 3037000499) : ¬ (x : Int) * x ≤ n := by
  have := sq_le (a := 3037000500) (b := (x : Int)) (by omega) (by omega)
  omega
theorem tried_end {n : Int} {r : Nat} (h : Tried n r 1) : IsRoot n r := by
  rcases h with ⟨h, rfl⟩ | ⟨h0, h1, h3, h4⟩
  · exact .inl ⟨h, rfl⟩
  · exact .inr ⟨h0, by omega, h3, h4⟩
theorem tried_start {n : Int} (hn2 : n ≤ 9223372036854775807) : Tried n 0 4294967296 := by
  rcases Int.lt_or_le n 0 with h | h
  · exact .inl ⟨h, rfl⟩
  · exact .inr ⟨h, by omega, by simpa using h, by show n < 18446744073709551616; omega⟩
theorem tried_bd {n : Int} {r p : Nat} (h : Tried n r p) : r ≤ 4294967296 := by
  rcases h with ⟨_, h⟩ | ⟨_, h, _⟩ <;> omega

set_option maxHeartbeats 800000 in
theorem refRoot_any (n : Int) (hn2 : n ≤ 9223372036854775807) (w : World) :
    Calls Try.prog 26 #[.int .i64 n] w fun e w' => ∃ r : Nat, IsRoot n r ∧ e = .returned (.int .i64 r) ∧ w' = w := by
  go_enter Try.func26, Try.ntmps26
  go_wp2_with fail
  go_loopw [3, 4] (fun root k wq => ∃ r j : Nat, j ≤ 32 ∧ root = .int .i64 r ∧ k = .int .i64 ((j : Int) - 1) ∧ Hid (Tried n r (2 ^ j)) ∧ wq = w) (fun _ k _ => (intOf k + 1).toNat)
  case atStart => exact ⟨0, 32, by omega, rfl, rfl, tried_start hn2, rfl⟩
  case round =>
    obtain ⟨r, j, hj, rfl, rfl, hst, rfl⟩ := hrel
    rcases j with _ | j
    · have HR : Hid (IsRoot n r) := tried_end (by simpa using hst.out)
      go_wp2
      go_ret
      exact ⟨r, HR.out, rfl, rfl⟩
    · have hT := hst.out
      have hrb := tried_bd hT
      rw [Nat.pow_succ] at hT
      have ej : ((j + 1 : Nat) : Int) - 1 = (j : Int) := by omega
      rw [ej]
      have hpj : 2 ^ j ≤ 2147483648 := by
        have := Nat.pow_le_pow_right (n := 2) (by omega) (show j ≤ 31 by omega)
        simpa using this
      have hpj' : (2 : Int) ^ j ≤ 2147483648 := by
        have h := Int.ofNat_le.2 hpj
        simpa using h
      have hp0 : (0 : Int) < 2 ^ j := by
        have h := Int.ofNat_lt.2 (Nat.pow_pos (n := j) (show 0 < 2 by omega))
        simpa using h
      obtain ⟨x, hx, hx'⟩ : ∃ x : Nat, x = r + 2 ^ j ∧ (r : Int) + 2 ^ j = (x : Int) := ⟨r + 2 ^ j, rfl, by simp⟩
      have hj' : 0 ≤ (j : Int) := by omega
      by_cases hlim : (x : Int) ≤ 3037000499
      · have hsq := abs_mul (x := (x : Int)) (y := (x : Int)) (M := 3037000499) (N := 3037000499) (by omega) (by omega)
        have hs1 : (x : Int) * x ≤ 9223372030926249001 := by omega
        have hs0 : 0 ≤ (x : Int) * x := Int.mul_nonneg (by omega) (by omega)
        by_cases hle : (x : Int) * x ≤ n
        · have HS : Hid (Tried n x (2 ^ j)) := tried_take hT hx hle
          clear hx hT hst hsq hpj ej
          go_wp2
          exact ⟨⟨x, j, by omega, rfl, rfl, HS, trivial⟩, by simp [intOf]⟩
        · have HS : Hid (Tried n r (2 ^ j)) := tried_skip hT hx hle
          clear hx hT hst hsq hpj ej
          go_wp2
          exact ⟨⟨r, j, by omega, rfl, rfl, HS, trivial⟩, by simp [intOf]⟩
      · have HS : Hid (Tried n r (2 ^ j)) := tried_skip hT hx (tried_far hn2 hlim)
        clear hx hT hst hpj ej
        go_wp2
        exact ⟨⟨r, j, by omega, rfl, rfl, HS, trivial⟩, by simp [intOf]⟩
end Go.Proofs.Ytaceobpgopdejaa
