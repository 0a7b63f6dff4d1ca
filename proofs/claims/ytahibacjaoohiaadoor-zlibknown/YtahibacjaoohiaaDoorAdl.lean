/-
  Adler-32 as plain numbers; sums.Adler and the reference's.
-/
import Derived.Test.YtahibacjaoohiaaDoorKnW
namespace Go.Proofs.YtahibacjaoohiaaDoor
open Go.RowKit

def aS (z : Nat → Nat) : Nat → Nat
  | 0 => 1
  | n + 1 => (aS z n + z n) % 65521
def cS (z : Nat → Nat) : Nat → Nat
  | 0 => 0
  | n + 1 => (cS z n + aS z (n + 1)) % 65521
/-- What Adler tells of n bytes z. -/
def adv (z : Nat → Nat) (n : Nat) : Nat := cS z n * 65536 + aS z n
theorem aS_lt (z : Nat → Nat) : ∀ n, aS z n < 65521
  | 0 => by unfold aS; omega
  | n + 1 => by unfold aS; omega
theorem cS_lt (z : Nat → Nat) : ∀ n, cS z n < 65521
  | 0 => by unfold cS; omega
  | n + 1 => by unfold cS; omega
theorem adv_lt (z : Nat → Nat) (n : Nat) : adv z n < 4294967296 := by
  have := aS_lt z n
  have := cS_lt z n
  unfold adv; omega
theorem aS_congr {z y : Nat → Nat} : ∀ n, (∀ i, i < n → z i = y i) → aS z n = aS y n
  | 0, _ => rfl
  | n + 1, h => by unfold aS; rw [aS_congr n (fun i hi => h i (by omega)), h n (by omega)]
theorem cS_congr {z y : Nat → Nat} : ∀ n, (∀ i, i < n → z i = y i) → cS z n = cS y n
  | 0, _ => rfl
  | n + 1, h => by unfold cS; rw [cS_congr n (fun i hi => h i (by omega)), aS_congr (n + 1) h]
theorem adv_congr {z y : Nat → Nat} (n : Nat) (h : ∀ i, i < n → z i = y i) : adv z n = adv y n := by
  unfold adv; rw [aS_congr n h, cS_congr n h]

set_option maxRecDepth 100000 in
set_option maxHeartbeats 800000 in
theorem radler_any (a : Option Addr) (len cap : Nat) (z : Nat → Nat) (w : World) (h : Lies w a len cap z) :
    Calls Tryd.prog 41 #[.slice a len cap] w fun e w' => e = .returned (.int .i64 (adv z len : Nat)) ∧ w' = w := by
  have hr := h.reach
  go_enter Tryd.func41, Tryd.ntmps41
  go_wp2_with fail
  go_loopw [3, 4, 5] (fun x y i wq => ∃ k : Nat, k ≤ len ∧ i = .int .i64 (k : Nat) ∧ x = .int .i64 (aS z k : Nat) ∧ y = .int .i64 (cS z k : Nat) ∧ wq = w) (fun _ _ i _ => len - (intOf i).toNat)
  case atStart => exact ⟨0, by omega, rfl, rfl, rfl, rfl⟩
  case round =>
    obtain ⟨k, hk, rfl, rfl, rfl, rfl⟩ := hrel
    have l1 := aS_lt z k
    have l2 := cS_lt z k
    have l3 := aS_lt z (k + 1)
    have l4 := cS_lt z (k + 1)
    have e1 : ((aS z k : Nat) : Int) + (z k : Nat) = ((aS z k + z k : Nat) : Int) := by omega
    have E1 : ((aS z k : Nat) + (z k : Nat) : Int) % 65521 = (aS z (k + 1) : Nat) := by rw [e1]; exact (Int.natCast_emod _ _).symm
    have E2 : ((cS z k : Nat) + (aS z (k + 1) : Nat) : Int) % 65521 = (cS z (k + 1) : Nat) := by
      rw [show ((cS z k : Nat) : Int) + (aS z (k + 1) : Nat) = ((cS z k + aS z (k + 1) : Nat) : Int) by omega]; exact (Int.natCast_emod _ _).symm
    by_cases hlt : k < len
    · obtain ⟨b, off, rfl, hb, hc⟩ := h.spot (by omega)
      have hz := h.byte k
      have c0 := hc k hlt
      have hlt' : (k : Int) < len := by omega
      clear e1
      obtain ⟨A, hA⟩ : ∃ A, Hid (aS z k = A) := ⟨_, rfl⟩
      obtain ⟨C, hC⟩ : ∃ A, Hid (cS z k = A) := ⟨_, rfl⟩
      obtain ⟨A1, hA1⟩ : ∃ A, Hid (aS z (k + 1) = A) := ⟨_, rfl⟩
      obtain ⟨C1, hC1⟩ : ∃ A, Hid (cS z (k + 1) = A) := ⟨_, rfl⟩
      obtain ⟨X, hX⟩ : ∃ A, Hid (z k = A) := ⟨_, rfl⟩
      rw [hX.out] at hz c0 E1
      rw [hA.out] at l1 E1 ⊢
      rw [hC.out] at l2 E2 ⊢
      rw [hA1.out] at l3 E1 E2
      rw [hC1.out] at l4 E2
      clear hc h
      go_wp2
      exact ⟨⟨k + 1, by omega, by go_num, congrArg (Value.int .i64) (by rw [hA1.out]; omega), congrArg (Value.int .i64) (by rw [hC1.out]; omega), by trivial⟩, by simp [intOf]; omega⟩
    · obtain rfl : k = len := by omega
      have hlt' : ¬ (k : Int) < k := by omega
      have hD : Hid (adv z k = cS z k * 65536 + aS z k) := rfl
      clear E1 E2 e1 l3 l4
      obtain ⟨A, hA⟩ : ∃ A, Hid (aS z k = A) := ⟨_, rfl⟩
      obtain ⟨C, hC⟩ : ∃ A, Hid (cS z k = A) := ⟨_, rfl⟩
      rw [hA.out] at l1 ⊢
      rw [hC.out] at l2 ⊢
      go_wp2
      go_ret
      exact ⟨ret_int (by rw [hD.out, hA.out, hC.out]; omega), rfl⟩

/-- A slice from n on, as the model has it. -/
theorem lies_cut {w : World} {p1 p2 : Option Addr} {l c n : Nat} {z : Nat → Nat} (h : Lies w p2 (l - n) (c - n) z) (hl : l ≤ c) (hn : n ≤ l) : Lies w (if c = n then p1 else p2) (l - n) (c - n) z := by
  by_cases e : c = n
  · rw [if_pos e]; exact ⟨h.lc, h.reach, h.byte, fun h0 => by omega⟩
  · rw [if_neg e]; exact h
theorem or_low (C A : Nat) (hA : A < 65536) (hC : C < 65536) : bits .or .i64 ((C : Int) * 65536) (A : Int) = ((C * 65536 + A : Nat) : Int) := by
  have e : C * 65536 + A = C * 65536 ||| A := by
    have := Nat.shiftLeft_add_eq_or_of_lt (b := A) (i := 16) hA C
    rwa [Nat.shiftLeft_eq] at this
  rw [show (C : Int) * 65536 = ((C * 65536 : Nat) : Int) by omega, or_nat _ _ (by rw [← e]; omega) (by omega) (by omega), ← e]
theorem mod_step {L A X : Nat} (h : L % 65521 = A) : (L + X) % 65521 = (A + X) % 65521 := by omega
theorem mod_step2 {H L C A : Nat} (h : H % 65521 = C) (h2 : L % 65521 = A) : (H + L) % 65521 = (C + A) % 65521 := by omega

set_option maxRecDepth 100000 in
set_option maxHeartbeats 1600000 in
theorem adler_any (a : Option Addr) (len cap : Nat) (z : Nat → Nat) (w : World) (h : Lies w a len cap z) :
    Calls Tryd.prog 55 #[.slice a len cap] w fun e w' => e = .returned (.int .i64 (adv z len : Nat)) ∧ w' = w := by
  have hr := h.reach
  go_enter Tryd.func55, Tryd.ntmps55
  go_wp2_with fail
  go_loopw [0, 3, 4] (fun sb lo hi wq => ∃ (a' : Option Addr) (l' c' off : Nat), sb = .slice a' l' c' ∧ off + l' = len ∧ Lies w a' l' c' (fun i => z (off + i)) ∧ lo = .int .i64 (aS z off : Nat) ∧ hi = .int .i64 (cS z off : Nat) ∧ wq = w) (fun sb _ _ _ => stM sb (.bool false))
  case atStart => exact ⟨a, len, cap, 0, rfl, by omega, by simpa using h, rfl, rfl, rfl⟩
  case round =>
    obtain ⟨a', l', c', off, rfl, hoff, hL, rfl, rfl, rfl⟩ := hrel
    obtain ⟨wz, hwz⟩ : ∃ wz, wz = wr := ⟨_, rfl⟩
    subst hwz
    have hlc := hL.lc
    have l1 := aS_lt z off
    have l2 := cS_lt z off
    have hoff' : Hid (off + l' = len) := hoff
    by_cases h0 : 0 < l'
    · obtain ⟨ab, ap, rfl, hab, hcl⟩ := hL.spot h0
      have h0' : (0 : Int) < l' := by omega
      obtain ⟨n, hn⟩ : ∃ n, Hid (n = min l' 65536) := ⟨_, rfl⟩
      have hn1 : n ≤ l' := by rw [hn.out]; omega
      have hn2 : n ≤ 65536 := by rw [hn.out]; omega
      have hn0 : 0 < n := by rw [hn.out]; omega
      have hmin : (if (65536 : Int) < (l' : Int) then 65536 else (l' : Int)) = (n : Nat) := by rw [hn.out]; split <;> omega
      have hL2 : Hid (Lies wz (some ⟨ab, ap + n, none⟩) (l' - n) (c' - n) (fun i => z (off + n + i))) := ⟨by omega, by have := hL.reach; omega, fun i => by have := hL.byte (n + i); rwa [← Nat.add_assoc] at this, fun _ => ⟨ab, ap + n, rfl, hab, fun i hi => by have := hcl (n + i) (by omega); rwa [← Nat.add_assoc, ← Nat.add_assoc] at this⟩⟩
      have hby : Hid (∀ i, z (off + i) < 256) := hL.byte
      have hcl' : Hid (∀ i, i < l' → wz.cell? ⟨ab, ap + i, none⟩ = some (.int .u8 (z (off + i) : Nat))) := hcl
      clear hcl hL hoff h hr
      go_wp2_with fail
      go_loopw [3, 4, 18] (fun lo hi i wq => ∃ k L H : Nat, k ≤ n ∧ i = .int .i64 (k : Nat) ∧ lo = .int .i64 (L : Nat) ∧ hi = .int .i64 (H : Nat) ∧ Hid (L % 65521 = aS z (off + k)) ∧ Hid (H % 65521 = cS z (off + k)) ∧ L ≤ 65521 + 255 * k ∧ H ≤ 65521 + 16777216 * k ∧ wq = wz) (fun _ _ i _ => n - (intOf i).toNat)
      case atStart => exact ⟨0, aS z off, cS z off, by omega, rfl, rfl, rfl, by show _ = _; rw [Nat.add_zero]; omega, by show _ = _; rw [Nat.add_zero]; omega, by omega, by omega, rfl⟩
      case round =>
        clear hmin
        obtain ⟨k, L, H, hk, rfl, rfl, rfl, hLm, hHm, hLb, hHb, rfl⟩ := hrel
        by_cases hkn : k < n
        · have hkn' : (k : Int) < n := by omega
          have c0 := hcl'.out k (by omega)
          have hz := hby.out k
          have hs1 : aS z (off + (k + 1)) = (aS z (off + k) + z (off + k)) % 65521 := rfl
          have hs2 : cS z (off + (k + 1)) = (cS z (off + k) + aS z (off + (k + 1))) % 65521 := rfl
          obtain ⟨X, hX⟩ : ∃ A, Hid (z (off + k) = A) := ⟨_, rfl⟩
          rw [hX.out] at hz c0 hs1
          have q1 : Hid ((L + X) % 65521 = aS z (off + (k + 1))) := by show _ = _; rw [hs1]; exact mod_step hLm.out
          have q2 : Hid ((H + (L + X)) % 65521 = cS z (off + (k + 1))) := by show _ = _; rw [hs2]; exact mod_step2 hHm.out q1.out
          clear hs1 hs2 l1 l2
          go_wp2
          exact ⟨⟨k + 1, L + X, H + (L + X), by omega, by go_num, by go_num, by go_num, q1, q2, by omega, by omega, by trivial⟩, by simp [intOf]; omega⟩
        · obtain rfl : k = n := by omega
          have hkn' : ¬ (k : Int) < k := by omega
          have e1 : (L : Int) % 65521 = (aS z (off + k) : Nat) := by rw [← hLm.out]; exact (Int.natCast_emod _ _).symm
          have e2 : (H : Int) % 65521 = (cS z (off + k) : Nat) := by rw [← hHm.out]; exact (Int.natCast_emod _ _).symm
          go_wp2
          exact ⟨⟨_, _, _, off + k, rfl, by have := hoff'.out; omega, lies_cut hL2.out hlc hn1, congrArg (Value.int .i64) e1, congrArg (Value.int .i64) e2, by trivial⟩, by simp [stM]; omega⟩
    · obtain rfl : l' = 0 := by omega
      have hD : Hid (adv z len = cS z off * 65536 + aS z off) := by show _ = _; rw [show len = off by omega]; rfl
      have hor := or_low (cS z off) (aS z off) (by omega) (by omega)
      obtain ⟨A, hA⟩ : ∃ A, Hid (aS z off = A) := ⟨_, rfl⟩
      obtain ⟨C, hC⟩ : ∃ A, Hid (cS z off = A) := ⟨_, rfl⟩
      rw [hA.out] at l1 hor ⊢
      rw [hC.out] at l2 hor ⊢
      clear hoff hL h hr
      rcases a' with _ | ad
      · go_wp2
        go_ret
        exact ⟨ret_int (by rw [hD.out, hA.out, hC.out]; first | rfl | omega), rfl⟩
      · go_wp2
        go_ret
        exact ⟨ret_int (by rw [hD.out, hA.out, hC.out]; first | rfl | omega), rfl⟩
end Go.Proofs.YtahibacjaoohiaaDoor
