
/-
  codes.fits as a contract.
-/
import Derived.Test.YtahibacjaoohiaaDoorBits
import Derived.Deep.MidRow
namespace Go.Proofs.YtahibacjaoohiaaDoor
open Go.RowKit

/-- Codes of these counts take up all there is, or are few enough. -/
def fitsv (c : Nat → Nat) : Bool := decide (left c 15 = 0 ∨ sumc c 15 = 0 ∨ sumc c 15 = 1 ∧ c 1 = 1)
theorem sumc_le (c : Nat → Nat) (h : ∀ n, c n ≤ 320) : ∀ n, sumc c n ≤ 320 * n
  | 0 => Nat.le_refl _
  | n + 1 => by have := sumc_le c h n; have := h (n + 1); simp only [sumc]; omega
theorem left_bd (c : Nat → Nat) (h : ∀ n, c n ≤ 320) : ∀ n, -(320 * (2 ^ n - 1 : Int)) ≤ left c n ∧ left c n ≤ 2 ^ n
  | 0 => by simp [left]
  | n + 1 => by
    have h1 := left_bd c h n
    have h2 := h (n + 1)
    simp only [left, Int.pow_succ]
    generalize (2 : Int) ^ n = P at *
    omega
theorem left_small (c : Nat → Nat) (h : ∀ n, c n ≤ 320) {n : Nat} (hn : n ≤ 15) : -10485760 ≤ left c n ∧ left c n ≤ 32768 := by
  have h1 := left_bd c h n
  have h2 : (2 : Nat) ^ n ≤ 2 ^ 15 := Nat.pow_le_pow_right (by omega) hn
  rw [two_pow_cast] at h1
  generalize 2 ^ n = P at *
  omega

theorem or_no {a b x y : Int} (h1 : ¬ a = b) (h2 : ¬ x = y) : (a == b || x == y) = false := by
  rw [Bool.or_eq_false_iff]; exact ⟨by simpa using h1, by simpa using h2⟩

set_option maxHeartbeats 1600000 in
theorem fits_any (c : Nat → Nat) (hc : ∀ n, c n ≤ 320) (w : World) :
    Calls Tryd.prog 76 #[.agg (arr 16 fun n => .int .i64 (c n : Nat))] w fun e w' => e = .returned (.bool (fitsv c)) ∧ Below w.heap.size w w' := by
  go_enter Tryd.func76, Tryd.ntmps76
  go_wp2_with fail
  have hg := blk_new w (.cells (arr 16 fun n => .int .i64 (c n : Nat)) 116)
  have hbel : Below w.heap.size w (w.alloc (.cells (arr 16 fun n => .int .i64 (c n : Nat)) 116)) := (Below.refl _ _).alloc (Nat.le_refl _) _
  obtain ⟨W, hW⟩ : ∃ W, W = w.alloc (.cells (arr 16 fun n => .int .i64 (c n : Nat)) 116) := ⟨_, rfl⟩
  rw [← hW] at hg hbel ⊢
  clear hW
  go_loopw [3, 4, 9] (fun x y j wq => ∃ i : Nat, i ≤ 15 ∧ j = .int .i64 i ∧ x = .int .i64 (left c i) ∧ y = .int .i64 (sumc c i : Nat) ∧ wq = W) (fun _ _ j _ => 15 - (intOf j).toNat)
  case atStart => exact ⟨0, by omega, rfl, rfl, rfl, rfl⟩
  case round =>
    obtain ⟨i, hi, rfl, rfl, rfl, rfl⟩ := hrel
    have hs := sumc_le c hc i
    have hl := left_small c hc hi
    by_cases hik : i < 15
    · have hik' : (i : Int) < 15 := by omega
      have hcell := arr_cell hg (t := 1 + i) (by omega)
      have hci := hc (1 + i)
      go_wp2
      rw [Nat.add_comm 1 i]
      exact ⟨⟨i + 1, by omega, rfl, rfl, rfl, trivial⟩, by simp [intOf]; omega⟩
    · have hik' : ¬ (i : Int) < 15 := by omega
      obtain rfl : i = 15 := by omega
      have hcell := arr_cell hg (t := 1) (by omega)
      by_cases g1 : left c 15 = 0
      · have e : fitsv c = true := decide_eq_true (.inl g1)
        go_wp2
        go_ret
        exact ⟨rfl, hbel⟩
      · by_cases g2 : sumc c 15 = 0
        · have e : fitsv c = true := decide_eq_true (.inr (.inl g2))
          go_wp2
          go_ret
          exact ⟨rfl, hbel⟩
        · by_cases g3 : sumc c 15 = 1
          · by_cases g4 : c 1 = 1
            · have e : fitsv c = true := decide_eq_true (.inr (.inr ⟨g3, g4⟩))
              go_wp2
              go_ret
              exact ⟨rfl, hbel⟩
            · have e : fitsv c = false := decide_eq_false (by rintro (h | h | h); exact g1 h; exact g2 h; exact g4 h.2)
              go_wp2
              go_ret
              exact ⟨ret_bool (or_no g1 (by omega)), hbel⟩
          · have e : fitsv c = false := decide_eq_false (by rintro (h | h | h); exact g1 h; exact g2 h; exact g3 h.1)
            have g2' : ¬ ((sumc c 15 : Nat) : Int) = 0 := by omega
            have g3' : ¬ ((sumc c 15 : Nat) : Int) = 1 := by omega
            go_wp2
            go_ret
            exact ⟨ret_bool (or_no g1 g2'), hbel⟩

/-- A code's block while it is made: no words, these counts, none sorted. -/
def cobj0 (c : Nat → Nat) : Nat → Value := fun s => if s = 0 ∨ s = 17 then .slice none 0 0 else .int .i64 (c (s - 1) : Nat)
theorem cobj0_new (L : Nat → Nat) : (#[.slice none 0 0, .int .i64 0, .int .i64 0, .int .i64 0, .int .i64 0, .int .i64 0, .int .i64 0, .int .i64 0, .int .i64 0, .int .i64 0, .int .i64 0, .int .i64 0, .int .i64 0, .int .i64 0, .int .i64 0, .int .i64 0, .int .i64 0, .slice none 0 0] : Array Value) = arr 18 (cobj0 (cn L 0)) := by
  simp [arr, cobj0, cn, cnt, List.range, List.range.loop]
/-- One more symbol is counted. -/
theorem cobj0_up (L : Nat → Nat) (i n : Nat) (h : L i = n) (h0 : 0 < n) (h15 : n ≤ 15) {v : Int} (hv : v = (cn L i n : Nat) + 1) : (arr 18 fun s => if s = 1 + n then .int .i64 v else cobj0 (cn L i) s) = arr 18 (cobj0 (cn L (i + 1))) := by
  refine arr_congr _ _ _ fun s hs => ?_
  have hc := cn_succ L i (s - 1)
  by_cases e : s = 1 + n
  · subst e
    rw [if_pos rfl]
    unfold cobj0
    rw [if_neg (by omega), hv]
    rw [if_pos ⟨by omega, by omega⟩] at hc
    rw [hc, show 1 + n - 1 = n by omega]; rfl
  · rw [if_neg e]
    unfold cobj0
    split
    · rfl
    · rename_i h1
      rw [hc, if_neg (by omega)]; rfl
theorem cobj0_same (L : Nat → Nat) (i : Nat) (h : L i = 0) : arr 18 (cobj0 (cn L i)) = arr 18 (cobj0 (cn L (i + 1))) := by
  refine arr_congr _ _ _ fun s hs => ?_
  have hc := cn_succ L i (s - 1)
  unfold cobj0
  split
  · rfl
  · rw [hc, if_neg (by omega)]; rfl

/-- These numbers are the lengths of a code. -/
structure GoodL (f : Nat → Int) (len : Nat) : Prop where
  few : len ≤ 320
  each : ∀ i, i < len → 0 ≤ f i ∧ f i ≤ 15
  ok : okc (fun i => (f i).toNat) len = true

end Go.Proofs.YtahibacjaoohiaaDoor
