
/-
  codes.Read as a contract.
-/
import Derived.Test.YtahibacjaoohiaaDoorNew
namespace Go.Proofs.YtahibacjaoohiaaDoor
open Go.RowKit

theorem take1_yes (b g len : Nat) (z : Nat → Nat) (p : Nat) (w : World) (h : BitsAt w b g len z p) (hn : p < 8 * len) :
    Calls Tryd.prog 57 #[.pointer (some ⟨b, 0, none⟩), .int .i64 1] w fun e w' => e = .returned (.tuple #[.int .i64 (bit z p : Nat), .bool true]) ∧ BitsAt w' b g len z (p + 1) ∧ Kept (fun k => k = b) w w' := by
  have := take_yes_mid b g len z p 1 (by omega) w h (by omega)
  have e : takev z p 1 = bit z p := by simp [takev]
  rwa [e] at this
theorem take1_no (b g len : Nat) (z : Nat → Nat) (p : Nat) (w : World) (h : BitsAt w b g len z p) (hn : ¬ p < 8 * len) :
    Calls Tryd.prog 57 #[.pointer (some ⟨b, 0, none⟩), .int .i64 1] w fun e w' => e = .returned (.tuple #[.int .i64 0, .bool false]) ∧ BitsAt w' b g len z p ∧ Kept (fun k => k = b) w w' :=
  take_no_mid b g len z p 1 (by omega) w h (by omega)

theorem rd_no {L : Nat → Nat} {N : Nat} {b : Nat → Nat} {lim i c p : Nat} (hi : i < 15) (hp : ¬ p < lim) : rd L N b lim (15 - i) i c p = (0, false, p) := by
  rw [show 15 - i = (15 - (i + 1)) + 1 by omega]; unfold rd; rw [if_neg hp]
theorem rd_hit {L : Nat → Nat} {N : Nat} {b : Nat → Nat} {lim i c p : Nat} (hi : i < 15) (hp : p < lim) {r : Nat} (hr : 2 * c + b p = first (cn L N) (i + 1) + r) (h : r < cn L N (i + 1)) : rd L N b lim (15 - i) i c p = (sym L (i + 1) r N, true, p + 1) := by
  rw [show 15 - i = (15 - (i + 1)) + 1 by omega]; unfold rd; rw [if_pos hp, if_pos (by omega), hr, Nat.add_sub_cancel_left]
theorem rd_on {L : Nat → Nat} {N : Nat} {b : Nat → Nat} {lim i c p : Nat} (hi : i < 15) (hp : p < lim) (h : ¬ 2 * c + b p < first (cn L N) (i + 1) + cn L N (i + 1)) : rd L N b lim (15 - i) i c p = rd L N b lim (15 - (i + 1)) (i + 1) (2 * c + b p) (p + 1) := by
  rw [show 15 - i = (15 - (i + 1)) + 1 by omega]
  conv => lhs; unfold rd
  rw [if_pos hp, if_neg h]

set_option maxRecDepth 100000 in
set_option maxHeartbeats 1600000 in
theorem read_any (o gw gs N : Nat) (L : Nat → Nat) (b g len : Nat) (z : Nat → Nat) (p : Nat) (w : World) (h : CodeAt w o gw gs N L) (hB : BitsAt w b g len z p) (ho : o ≠ b) (hw : gw ≠ b) (hs : gs ≠ b) :
    Calls Tryd.prog 66 #[.pointer (some ⟨o, 0, none⟩), .pointer (some ⟨b, 0, none⟩)] w fun e w' => e = .returned (.tuple #[.int .i64 ((rdv L N (bit z) (8 * len) p).1 : Nat), .bool (rdv L N (bit z) (8 * len) p).2.1]) ∧ BitsAt w' b g len z (rdv L N (bit z) (8 * len) p).2.2 ∧ Kept (fun k => k = b) w w' := by
  have hf := h.few
  have hreach := hB.reach
  have hcn : ∀ n, cn L N n ≤ 320 := fun n => Nat.le_trans (cn_le L N n) hf
  have hfit : ∀ n, n ≤ 15 → first (cn L N) n + cn L N n ≤ 32768 := fun n hn => by
    have := first_fits h.each h.ok hn
    have h2 : 2 ^ n ≤ 2 ^ 15 := Nat.pow_le_pow_right (by omega) hn
    omega
  have hpl := place_le (cn L N) hcn
  have f1 := first_one (cn L N) (by simp [cn])
  have p1 := place_one (cn L N) (by simp [cn])
  obtain ⟨R, hR⟩ : ∃ R, Hid (rdv L N (bit z) (8 * len) p = R) := ⟨_, rfl⟩
  rw [hR.out]
  go_enter Tryd.func66, Tryd.ntmps66
  go_wp2_with fail
  go_loopw [6, 7, 8, 20] (fun x y v j wq => ∃ i c : Nat, i ≤ 15 ∧ c < 2 ^ i ∧ first (cn L N) i + cn L N i ≤ c ∧ rd L N (bit z) (8 * len) (15 - i) i c (p + i) = R ∧ j = .int .i64 i ∧ x = .int .i64 (c : Nat) ∧ y = .int .i64 (first (cn L N) (i + 1) : Nat) ∧ v = .int .i64 (place (cn L N) (i + 1) : Nat) ∧ BitsAt wq b g len z (p + i) ∧ Kept (fun k => k = b) w wq) (fun _ _ _ j _ => 15 - (intOf j).toNat)
  case atStart => exact ⟨0, 0, by omega, by simp, by simp [first, cn], hR.out, rfl, rfl, by rw [f1]; rfl, by rw [p1]; rfl, hB, Kept.refl _ _⟩
  case round =>
    clear hB
    obtain ⟨i, c, hi, hc, hfc, hrd, rfl, rfl, rfl, rfl, hB, hK⟩ := hrel
    by_cases hi15 : i < 15
    · have hi' : (i : Int) < 15 := by omega
      have hC := h.kept hK ho hw hs
      have hcell := hC.counts (i + 1) (by omega) (by omega)
      rw [show 1 + (i + 1) = 2 + i by omega] at hcell
      have hc15 : c < 32768 := Nat.lt_of_lt_of_le hc (Nat.le_trans (Nat.pow_le_pow_right (by omega) hi) (by decide : 2 ^ 15 ≤ 32768))
      have hfi := hfit (i + 1) (by omega)
      have hpi := hpl (i + 1)
      have hci := hcn (i + 1)
      have HRD : Hid (rd L N (bit z) (8 * len) (15 - i) i c (p + i) = R) := hrd
      clear hrd
      by_cases hp : p + i < 8 * len
      · go_wp2_with fail
        refine (take1_yes b g len z (p + i) _ hB hp).mono ?_
        rintro e w1 ⟨rfl, hB1, hK1⟩
        have hbit := bit_lt z (p + i)
        have hK2 := hK.trans hK1
        have hC1 := hC.kept hK1 ho hw hs
        clear hB hK hK1
        by_cases hlt : 2 * c + bit z (p + i) < first (cn L N) (i + 1) + cn L N (i + 1)
        · obtain ⟨r, hr⟩ : ∃ r, 2 * c + bit z (p + i) = first (cn L N) (i + 1) + r := ⟨2 * c + bit z (p + i) - first (cn L N) (i + 1), by have := hfc; simp only [first]; omega⟩
          have hrc : r < cn L N (i + 1) := by omega
          have hlt' : (2 * (c : Int) + (bit z (p + i) : Nat)) < ((first (cn L N) (i + 1) : Nat) : Int) + ((cn L N (i + 1) : Nat) : Int) := by omega
          have hidx : place (cn L N) (i + 1) + r < place (cn L N) 16 := by have := place_up (cn L N) (n := i + 1) (m := 16) (by omega); omega
          have hX : ((place (cn L N) (i + 1) : Nat) : Int) + (2 * (c : Int) + (bit z (p + i) : Nat)) - ((first (cn L N) (i + 1) : Nat) : Int) = ((place (cn L N) (i + 1) + r : Nat) : Int) := by omega
          have d1 := hC1.sorted
          have d2 := hC1.sort (i + 1) r (by omega) (by omega) hrc
          have hp16 := hpl 16
          have hE : Hid (R = (sym L (i + 1) r N, true, p + i + 1)) := by show R = _; rw [← HRD.out]; exact rd_hit hi15 hp hr hrc
          have HR : Hid (2 * c + bit z (p + i) = first (cn L N) (i + 1) + r) := hr
          clear hr
          go_wp2
          go_ret2
          rw [hE.out]
          exact ⟨rfl, hB1, hK2⟩
        · have hlt' : ¬ (2 * (c : Int) + (bit z (p + i) : Nat)) < ((first (cn L N) (i + 1) : Nat) : Int) + ((cn L N (i + 1) : Nat) : Int) := by omega
          go_wp2
          refine ⟨⟨i + 1, 2 * c + bit z (p + i), by omega, ?_, ?_, ?_, by go_num, by go_num, ?_, ?_, hB1, hK2⟩, by simp [intOf]; omega⟩
          · rw [Nat.pow_succ]; omega
          · omega
          · rw [← HRD.out]; exact (rd_on hi15 hp hlt).symm
          · simp only [first, Int.natCast_mul, Int.natCast_add]; rfl
          · simp only [place, Int.natCast_add]
      · go_wp2_with fail
        refine (take1_no b g len z (p + i) _ hB hp).mono ?_
        rintro e w1 ⟨rfl, hB1, hK1⟩
        have hE : Hid (R = (0, false, p + i)) := by show R = _; rw [← HRD.out]; exact rd_no hi15 hp
        go_wp2
        go_ret2
        rw [hE.out]
        exact ⟨rfl, hB1, hK.trans hK1⟩
    · have hi' : ¬ (i : Int) < 15 := by omega
      obtain rfl : i = 15 := by omega
      have hE : Hid (R = (0, false, p + 15)) := by show R = _; rw [← hrd]; rfl
      clear hrd
      go_wp2
      go_ret2
      rw [hE.out]
      exact ⟨rfl, hB, hK⟩
end Go.Proofs.YtahibacjaoohiaaDoor
