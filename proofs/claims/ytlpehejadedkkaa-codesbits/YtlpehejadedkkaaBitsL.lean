/-
  CodesBits, walked.
-/
import Derived.Test.YtlpehejadedkkaaPick
namespace Go.Proofs.Ytlpehejadedkkaa
open Go.RowKit

theorem and_one (x : Nat) (hx : x < 9223372036854775808) : bits .and .i64 (x : Int) 1 = ((x % 2 : Nat) : Int) := by
  have := and_nat x 1 hx (by omega)
  rw [Nat.and_one_is_mod] at this
  exact this
theorem bit_val (x k : Nat) (hx : x < 9223372036854775808) : bits .and .i64 ((x : Int) / 2 ^ k) 1 = ((x / 2 ^ k % 2 : Nat) : Int) := by
  have hle : x / 2 ^ k ≤ x := Nat.div_le_self _ _
  rw [two_pow_cast, ← Int.natCast_ediv]
  exact and_one _ (by omega)
theorem takev_small (z : Nat → Nat) (p m : Nat) (hm : m ≤ 24) : takev z p m < 16777216 := by
  have h1 := takev_lt z p m
  have h2 : 2 ^ m ≤ 2 ^ 24 := Nat.pow_le_pow_right (by omega) hm
  omega
theorem take_bit (z : Nat → Nat) (p m k : Nat) (hm : m ≤ 24) (hk : k < m) : bits .and .i64 (((takev z p m : Nat) : Int) / 2 ^ k) 1 = ((bit z (p + k) : Nat) : Int) := by
  have := takev_small z p m hm
  rw [bit_val _ _ (by omega), takev_bit z p hk]
theorem byte_bit (z : Nat → Nat) (hz : ∀ i, z i < 256) (q : Nat) : bits .and .i64 (((z (q / 8) : Nat) : Int) / 2 ^ (q % 8)) 1 = ((bit z q : Nat) : Int) := by
  have := hz (q / 8)
  rw [bit_val _ _ (by omega)]; rfl
theorem take_over (z : Nat → Nat) (p m : Nat) : ((takev z p m : Nat) : Int) / 2 ^ m = 0 := by
  rw [two_pow_cast, ← Int.natCast_ediv, Nat.div_eq_of_lt (takev_lt z p m)]; rfl

set_option maxRecDepth 100000 in
set_option maxHeartbeats 6400000 in
theorem bitsl_any (w : World) (a : Option Addr) (len cap : Nat) (z : Nat → Nat) (a1 : Option Addr) (len1 cap1 : Nat) (f : Nat → Int) (hL : Lies w a len cap z) (hI : Ints w a1 len1 cap1 f) :
    Calls Try.prog 5 #[.slice a len cap, .slice a1 len1 cap1] w fun e w' => e = .returned (.bool true) ∧ Below w.heap.size w w' := by
  have hr1 := hI.reach
  have hr := hL.reach
  go_enter Try.func5, Try.ntmps5
  go_wp2_with fail
  refine (newbits_any a len cap z _ hL).mono ?_
  rintro e w1 ⟨b, g, rfl, hB, hb, hg, B1⟩
  go_wp2_with fail
  refine (known_any _).mono ?_
  rintro e w2 ⟨rfl, k2⟩
  replace hB := hB.below k2
  have BB : Below w.heap.size w w2 := B1.trans (k2.mono B1.size)
  clear B1 k2
  go_wp2_with fail
  go_loopw [6, 7] (fun x j wq => ∃ i p : Nat, i ≤ 60 ∧ x = .int .i64 p ∧ j = .int .i64 i ∧ BitsAt wq b g len z p ∧ Below w.heap.size w wq) (fun _ j _ => 60 - (intOf j).toNat)
  case atStart => exact ⟨0, 0, by omega, rfl, rfl, hB, BB⟩
  case round =>
    clear hB BB
    obtain ⟨i, p, hi, rfl, rfl, hB, BB⟩ := hrel
    have hpl := hB.lim
    by_cases hil : i < len1
    · have hil' : (i : Int) < (len1 : Int) := by omega
      by_cases h60 : i < 60
      · have h60' : (i : Int) < 60 := by omega
        obtain ⟨b1, off1, rfl, hb1, hc1⟩ := hI.spot (by omega)
        have hci : wr.cell? ⟨b1, off1 + i, none⟩ = some (.int .i64 (f i)) := by
          rw [World.cell?_of_block (a := ⟨b1, off1 + i, none⟩) (BB.block b1 hb1)]; exact hc1 i hil
        have hfi := hI.fit i
        go_wp2_with fail
        refine (pick9 _ _).mono ?_
        rintro e w' ⟨rfl, rfl⟩
        have h9 := pickv_lt (f i) 9 (by omega)
        by_cases hk : pickv (f i) 9 = 8
        · rw [hk]
          clear hk h9
          go_wp2_with fail
          refine (align_any b g len z p _ hB).mono ?_
          rintro e w3 ⟨rfl, hB3, k3⟩
          have B3 := Below.kept BB k3 (Nat.le_refl _) (fun i hi => by omega)
          clear hB BB k3 hci
          go_wp2_with fail
          refine (used_any b g len z _ _ hB3).mono ?_
          rintro e w' ⟨rfl, rfl⟩
          have e1 : (8 * ((p + 7) / 8) + 7) / 8 = (p + 7) / 8 := by omega
          rw [e1]
          clear e1
          go_wp2
          refine ⟨⟨i + 1, 8 * ((p + 7) / 8), by omega, by first | rfl | (congr 1; omega), by go_num, hB3, B3⟩, by simp [intOf]; omega⟩
        · have hk' : ¬ ((pickv (f i) 9 : Nat) : Int) = 8 := by omega
          obtain ⟨k9, hk9⟩ : ∃ k9, Hid (pickv (f i) 9 = k9) := ⟨_, rfl⟩
          rw [hk9.out] at hk' ⊢
          clear hk h9
          go_wp2_with fail
          refine (pick27 _ _).mono ?_
          rintro e w' ⟨rfl, rfl⟩
          have h27 := pickv_lt ((f i).tdiv 9) 27 (by omega)
          obtain ⟨q, hq⟩ : ∃ q, Hid (pickv ((f i).tdiv 9) 27 = q) := ⟨_, rfl⟩
          rw [hq.out] at h27 ⊢
          clear hci hk'
          rcases (show q = 0 ∨ q = 1 ∨ q = 26 ∨ q = 25 ∨ (∃ m : Nat, q = m + 1 ∧ 0 < m ∧ m < 24) by
            by_cases h0 : q = 0
            · exact .inl h0
            · by_cases h1 : q = 1
              · exact .inr (.inl h1)
              · by_cases h2 : q = 26
                · exact .inr (.inr (.inl h2))
                · by_cases h3 : q = 25
                  · exact .inr (.inr (.inr (.inl h3)))
                  · exact .inr (.inr (.inr (.inr ⟨q - 1, by omega, by omega, by omega⟩)))) with rfl | rfl | rfl | rfl | ⟨m, rfl, hm0, hm⟩
          · clear hq h27
            go_wp2_with fail
            refine (take_yes_lo b g len z p (-1) (by omega) _ hB).mono ?_
            rintro e w3 ⟨rfl, hB3, k3⟩
            rw [show takev z p 0 = 0 from rfl]
            have B3 := Below.kept BB k3 (Nat.le_refl _) (fun i hi => by omega)
            clear hB BB k3
            have hd : decide ((0 : Int) ≤ 8 * (len : Int) - (p : Int)) = true := decide_eq_true (by omega)
            go_wp2_with fail
            refine wp_loop_once ?_
            go_wp2_with fail
            refine (used_any b g len z _ _ hB3).mono ?_
            rintro e w' ⟨rfl, rfl⟩
            go_wp2
            refine ⟨⟨i + 1, p, by omega, by first | rfl | (congr 1; omega), by go_num, hB3, B3⟩, by simp [intOf]; omega⟩
          · clear hq h27
            go_wp2_with fail
            refine (take_yes_mid b g len z p 0 (by omega) _ hB (by omega)).mono ?_
            rintro e w3 ⟨rfl, hB3, k3⟩
            rw [show takev z p 0 = 0 from rfl]
            have B3 := Below.kept BB k3 (Nat.le_refl _) (fun i hi => by omega)
            clear hB BB k3
            have hd : decide ((0 : Int) ≤ 8 * (len : Int) - (p : Int)) = true := decide_eq_true (by omega)
            go_wp2_with fail
            refine wp_loop_once ?_
            go_wp2_with fail
            refine (used_any b g len z _ _ hB3).mono ?_
            rintro e w' ⟨rfl, rfl⟩
            go_wp2
            refine ⟨⟨i + 1, p, by omega, by first | rfl | (congr 1; omega), by go_num, hB3, B3⟩, by simp [intOf]; omega⟩
          · clear hq h27
            by_cases hy : p + 24 ≤ 8 * len
            · have hd : decide ((24 : Int) ≤ 8 * (len : Int) - (p : Int)) = true := decide_eq_true (by omega)
              go_wp2_with fail
              refine (take_yes_hi b g len z p 25 (by omega) _ hB hy).mono ?_
              rintro e w3 ⟨rfl, hB3, k3⟩
              have B3 := Below.kept BB k3 (Nat.le_refl _) (fun i hi => by omega)
              clear hB BB k3
              have hts := takev_small z p 24 (by omega)
              go_wp2_with fail
              go_loopw [12] (fun j wq => ∃ k : Nat, k ≤ 24 ∧ j = .int .i64 k ∧ wq = w3) (fun j _ => 24 - (intOf j).toNat)
              case atStart => exact ⟨0, by omega, rfl, rfl⟩
              case round =>
                obtain ⟨k, hk, rfl, rfl⟩ := hrel
                by_cases hkm : k < 24
                · have hkm' : (k : Int) < (24 : Int) := by omega
                  have hL3 := hL.below B3 (Nat.le_refl _)
                  obtain ⟨b0, off0, rfl, _, hc0⟩ := hL3.spot (by omega)
                  have hc := hc0 ((p + k) / 8) (by omega)
                  have t1 := take_bit z p 24 k (by omega) hkm
                  have t2 := byte_bit z hB3.byte (p + k)
                  have hbz := hB3.byte ((p + k) / 8)
                  go_wp2
                  exact ⟨⟨k + 1, by omega, by go_num, trivial⟩, by simp [intOf]; omega⟩
                · have hkm' : ¬ (k : Int) < (24 : Int) := by omega
                  obtain rfl : k = 24 := by omega
                  have t3 := take_over z p 24
                  go_wp2_with fail
                  refine (used_any b g len z _ _ hB3).mono ?_
                  rintro e w' ⟨rfl, rfl⟩
                  go_wp2
                  refine ⟨⟨i + 1, p + 24, by omega, by first | rfl | (congr 1; omega), by go_num, hB3, B3⟩, by simp [intOf]; omega⟩
            · have hd : decide ((24 : Int) ≤ 8 * (len : Int) - (p : Int)) = false := decide_eq_false (by omega)
              go_wp2_with fail
              refine (take_no_hi b g len z p 25 (by omega) _ hB (by omega)).mono ?_
              rintro e w3 ⟨rfl, hB3, k3⟩
              have B3 := Below.kept BB k3 (Nat.le_refl _) (fun i hi => by omega)
              clear hB BB k3
              go_wp2_with fail
              refine (used_any b g len z _ _ hB3).mono ?_
              rintro e w' ⟨rfl, rfl⟩
              go_wp2
              refine ⟨⟨i + 1, p, by omega, by first | rfl | (congr 1; omega), by go_num, hB3, B3⟩, by simp [intOf]; omega⟩
          · clear hq h27
            by_cases hy : p + 24 ≤ 8 * len
            · have hd : decide ((24 : Int) ≤ 8 * (len : Int) - (p : Int)) = true := decide_eq_true (by omega)
              go_wp2_with fail
              refine (take_yes_mid b g len z p 24 (by omega) _ hB hy).mono ?_
              rintro e w3 ⟨rfl, hB3, k3⟩
              have B3 := Below.kept BB k3 (Nat.le_refl _) (fun i hi => by omega)
              clear hB BB k3
              have hts := takev_small z p 24 (by omega)
              go_wp2_with fail
              go_loopw [12] (fun j wq => ∃ k : Nat, k ≤ 24 ∧ j = .int .i64 k ∧ wq = w3) (fun j _ => 24 - (intOf j).toNat)
              case atStart => exact ⟨0, by omega, rfl, rfl⟩
              case round =>
                obtain ⟨k, hk, rfl, rfl⟩ := hrel
                by_cases hkm : k < 24
                · have hkm' : (k : Int) < (24 : Int) := by omega
                  have hL3 := hL.below B3 (Nat.le_refl _)
                  obtain ⟨b0, off0, rfl, _, hc0⟩ := hL3.spot (by omega)
                  have hc := hc0 ((p + k) / 8) (by omega)
                  have t1 := take_bit z p 24 k (by omega) hkm
                  have t2 := byte_bit z hB3.byte (p + k)
                  have hbz := hB3.byte ((p + k) / 8)
                  go_wp2
                  exact ⟨⟨k + 1, by omega, by go_num, trivial⟩, by simp [intOf]; omega⟩
                · have hkm' : ¬ (k : Int) < (24 : Int) := by omega
                  obtain rfl : k = 24 := by omega
                  have t3 := take_over z p 24
                  go_wp2_with fail
                  refine (used_any b g len z _ _ hB3).mono ?_
                  rintro e w' ⟨rfl, rfl⟩
                  go_wp2
                  refine ⟨⟨i + 1, p + 24, by omega, by first | rfl | (congr 1; omega), by go_num, hB3, B3⟩, by simp [intOf]; omega⟩
            · have hd : decide ((24 : Int) ≤ 8 * (len : Int) - (p : Int)) = false := decide_eq_false (by omega)
              go_wp2_with fail
              refine (take_no_mid b g len z p 24 (by omega) _ hB (by omega)).mono ?_
              rintro e w3 ⟨rfl, hB3, k3⟩
              have B3 := Below.kept BB k3 (Nat.le_refl _) (fun i hi => by omega)
              clear hB BB k3
              go_wp2_with fail
              refine (used_any b g len z _ _ hB3).mono ?_
              rintro e w' ⟨rfl, rfl⟩
              go_wp2
              refine ⟨⟨i + 1, p, by omega, by first | rfl | (congr 1; omega), by go_num, hB3, B3⟩, by simp [intOf]; omega⟩
          · clear hq h27
            rw [show (((m + 1 : Nat) : Nat) : Int) = (m : Int) + 1 by omega]
            have hm' : (m : Int) < 24 := by omega
            have hm0' : (0 : Int) < (m : Int) := by omega
            by_cases hy : p + m ≤ 8 * len
            · have hd : decide ((m : Int) ≤ 8 * (len : Int) - (p : Int)) = true := decide_eq_true (by omega)
              go_wp2_with fail
              refine (take_yes_mid b g len z p m (by omega) _ hB hy).mono ?_
              rintro e w3 ⟨rfl, hB3, k3⟩
              have B3 := Below.kept BB k3 (Nat.le_refl _) (fun i hi => by omega)
              clear hB BB k3
              have hts := takev_small z p m (by omega)
              go_wp2_with fail
              go_loopw [12] (fun j wq => ∃ k : Nat, k ≤ m ∧ j = .int .i64 k ∧ wq = w3) (fun j _ => m - (intOf j).toNat)
              case atStart => exact ⟨0, by omega, rfl, rfl⟩
              case round =>
                obtain ⟨k, hk, rfl, rfl⟩ := hrel
                by_cases hkm : k < m
                · have hkm' : (k : Int) < (m : Int) := by omega
                  have hL3 := hL.below B3 (Nat.le_refl _)
                  obtain ⟨b0, off0, rfl, _, hc0⟩ := hL3.spot (by omega)
                  have hc := hc0 ((p + k) / 8) (by omega)
                  have t1 := take_bit z p m k (by omega) hkm
                  have t2 := byte_bit z hB3.byte (p + k)
                  have hbz := hB3.byte ((p + k) / 8)
                  go_wp2
                  exact ⟨⟨k + 1, by omega, by go_num, trivial⟩, by simp [intOf]; omega⟩
                · have hkm' : ¬ (k : Int) < (m : Int) := by omega
                  obtain rfl : k = m := by omega
                  have t3 := take_over z p k
                  go_wp2_with fail
                  refine (used_any b g len z _ _ hB3).mono ?_
                  rintro e w' ⟨rfl, rfl⟩
                  go_wp2
                  refine ⟨⟨i + 1, p + k, by omega, by first | rfl | (congr 1; omega), by go_num, hB3, B3⟩, by simp [intOf]; omega⟩
            · have hd : decide ((m : Int) ≤ 8 * (len : Int) - (p : Int)) = false := decide_eq_false (by omega)
              go_wp2_with fail
              refine (take_no_mid b g len z p m (by omega) _ hB (by omega)).mono ?_
              rintro e w3 ⟨rfl, hB3, k3⟩
              have B3 := Below.kept BB k3 (Nat.le_refl _) (fun i hi => by omega)
              clear hB BB k3
              go_wp2_with fail
              refine (used_any b g len z _ _ hB3).mono ?_
              rintro e w' ⟨rfl, rfl⟩
              go_wp2
              refine ⟨⟨i + 1, p, by omega, by first | rfl | (congr 1; omega), by go_num, hB3, B3⟩, by simp [intOf]; omega⟩
      · have h60' : ¬ (i : Int) < 60 := by omega
        go_wp2
        go_ret
        exact ⟨rfl, BB⟩
    · have hil' : ¬ (i : Int) < (len1 : Int) := by omega
      go_wp2
      go_ret
      exact ⟨rfl, BB⟩
end Go.Proofs.Ytlpehejadedkkaa
