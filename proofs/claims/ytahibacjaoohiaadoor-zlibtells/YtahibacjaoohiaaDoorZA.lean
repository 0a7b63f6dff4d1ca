/-
  Adler-32 as plain numbers; sums.Adler and the reference's.
  zlib.mark, taken, bytes.Equal; the reference's Big and Num.
-/
import Derived.Test.YtahibacjaoohiaaDoorKnW
namespace Go.Proofs.YtahibacjaoohiaaDoor
open Go.RowKit

def aS (z : Nat → Nat) : Nat → Nat
  | 0 => 1
  | n + 1 => (aS z n + z n) % 65521
def cS (z : Nat → Nat) : Nat → Nat
  | 0 => 0
  | n + 1 => (cS z n + aS z (n + 1)) % 65521
/-- What Adler tells of n bytes z. -/
def adv (z : Nat → Nat) (n : Nat) : Nat := cS z n * 65536 + aS z n
theorem aS_lt (z : Nat → Nat) : ∀ n, aS z n < 65521
  | 0 => by unfold aS; omega
  | n + 1 => by unfold aS; omega
theorem cS_lt (z : Nat → Nat) : ∀ n, cS z n < 65521
  | 0 => by unfold cS; omega
  | n + 1 => by unfold cS; omega
theorem adv_lt (z : Nat → Nat) (n : Nat) : adv z n < 4294967296 := by
  have := aS_lt z n
  have := cS_lt z n
  unfold adv; omega
theorem aS_congr {z y : Nat → Nat} : ∀ n, (∀ i, i < n → z i = y i) → aS z n = aS y n
  | 0, _ => rfl
  | n + 1, h => by unfold aS; rw [aS_congr n (fun i hi => h i (by omega)), h n (by omega)]
theorem cS_congr {z y : Nat → Nat} : ∀ n, (∀ i, i < n → z i = y i) → cS z n = cS y n
  | 0, _ => rfl
  | n + 1, h => by unfold cS; rw [cS_congr n (fun i hi => h i (by omega)), aS_congr (n + 1) h]
theorem adv_congr {z y : Nat → Nat} (n : Nat) (h : ∀ i, i < n → z i = y i) : adv z n = adv y n := by
  unfold adv; rw [aS_congr n h, cS_congr n h]

set_option maxRecDepth 100000 in
set_option maxHeartbeats 800000 in
theorem radler_any (a : Option Addr) (len cap : Nat) (z : Nat → Nat) (w : World) (h : Lies w a len cap z) :
    Calls Tryd.prog 41 #[.slice a len cap] w fun e w' => e = .returned (.int .i64 (adv z len : Nat)) ∧ w' = w := by
  have hr := h.reach
  go_enter Tryd.func41, Tryd.ntmps41
  go_wp2_with fail
  go_loopw [3, 4, 5] (fun x y i wq => ∃ k : Nat, k ≤ len ∧ i = .int .i64 (k : Nat) ∧ x = .int .i64 (aS z k : Nat) ∧ y = .int .i64 (cS z k : Nat) ∧ wq = w) (fun _ _ i _ => len - (intOf i).toNat)
  case atStart => exact ⟨0, by omega, rfl, rfl, rfl, rfl⟩
  case round =>
    obtain ⟨k, hk, rfl, rfl, rfl, rfl⟩ := hrel
    have l1 := aS_lt z k
    have l2 := cS_lt z k
    have l3 := aS_lt z (k + 1)
    have l4 := cS_lt z (k + 1)
    have e1 : ((aS z k : Nat) : Int) + (z k : Nat) = ((aS z k + z k : Nat) : Int) := by omega
    have E1 : ((aS z k : Nat) + (z k : Nat) : Int) % 65521 = (aS z (k + 1) : Nat) := by rw [e1]; exact (Int.natCast_emod _ _).symm
    have E2 : ((cS z k : Nat) + (aS z (k + 1) : Nat) : Int) % 65521 = (cS z (k + 1) : Nat) := by
      rw [show ((cS z k : Nat) : Int) + (aS z (k + 1) : Nat) = ((cS z k + aS z (k + 1) : Nat) : Int) by omega]; exact (Int.natCast_emod _ _).symm
    by_cases hlt : k < len
    · obtain ⟨b, off, rfl, hb, hc⟩ := h.spot (by omega)
      have hz := h.byte k
      have c0 := hc k hlt
      have hlt' : (k : Int) < len := by omega
      clear e1
      obtain ⟨A, hA⟩ : ∃ A, Hid (aS z k = A) := ⟨_, rfl⟩
      obtain ⟨C, hC⟩ : ∃ A, Hid (cS z k = A) := ⟨_, rfl⟩
      obtain ⟨A1, hA1⟩ : ∃ A, Hid (aS z (k + 1) = A) := ⟨_, rfl⟩
      obtain ⟨C1, hC1⟩ : ∃ A, Hid (cS z (k + 1) = A) := ⟨_, rfl⟩
      obtain ⟨X, hX⟩ : ∃ A, Hid (z k = A) := ⟨_, rfl⟩
      rw [hX.out] at hz c0 E1
      rw [hA.out] at l1 E1 ⊢
      rw [hC.out] at l2 E2 ⊢
      rw [hA1.out] at l3 E1 E2
      rw [hC1.out] at l4 E2
      clear hc h
      go_wp2
      exact ⟨⟨k + 1, by omega, by go_num, congrArg (Value.int .i64) (by rw [hA1.out]; omega), congrArg (Value.int .i64) (by rw [hC1.out]; omega), by trivial⟩, by simp [intOf]; omega⟩
    · obtain rfl : k = len := by omega
      have hlt' : ¬ (k : Int) < k := by omega
      have hD : Hid (adv z k = cS z k * 65536 + aS z k) := rfl
      clear E1 E2 e1 l3 l4
      obtain ⟨A, hA⟩ : ∃ A, Hid (aS z k = A) := ⟨_, rfl⟩
      obtain ⟨C, hC⟩ : ∃ A, Hid (cS z k = A) := ⟨_, rfl⟩
      rw [hA.out] at l1 ⊢
      rw [hC.out] at l2 ⊢
      go_wp2
      go_ret
      exact ⟨ret_int (by rw [hD.out, hA.out, hC.out]; omega), rfl⟩

/-- A slice from n on, as the model has it. -/
theorem lies_cut {w : World} {p1 p2 : Option Addr} {l c n : Nat} {z : Nat → Nat} (h : Lies w p2 (l - n) (c - n) z) (hl : l ≤ c) (hn : n ≤ l) : Lies w (if c = n then p1 else p2) (l - n) (c - n) z := by
  by_cases e : c = n
  · rw [if_pos e]; exact ⟨h.lc, h.reach, h.byte, fun h0 => by omega⟩
  · rw [if_neg e]; exact h
theorem or_low (C A : Nat) (hA : A < 65536) (hC : C < 65536) : bits .or .i64 ((C : Int) * 65536) (A : Int) = ((C * 65536 + A : Nat) : Int) := by
  have e : C * 65536 + A = C * 65536 ||| A := by
    have := Nat.shiftLeft_add_eq_or_of_lt (b := A) (i := 16) hA C
    rwa [Nat.shiftLeft_eq] at this
  rw [show (C : Int) * 65536 = ((C * 65536 : Nat) : Int) by omega, or_nat _ _ (by rw [← e]; omega) (by omega) (by omega), ← e]
theorem mod_step {L A X : Nat} (h : L % 65521 = A) : (L + X) % 65521 = (A + X) % 65521 := by omega
theorem mod_step2 {H L C A : Nat} (h : H % 65521 = C) (h2 : L % 65521 = A) : (H + L) % 65521 = (C + A) % 65521 := by omega

set_option maxRecDepth 100000 in
set_option maxHeartbeats 1600000 in
theorem adler_any (a : Option Addr) (len cap : Nat) (z : Nat → Nat) (w : World) (h : Lies w a len cap z) :
    Calls Tryd.prog 55 #[.slice a len cap] w fun e w' => e = .returned (.int .i64 (adv z len : Nat)) ∧ w' = w := by
  have hr := h.reach
  go_enter Tryd.func55, Tryd.ntmps55
  go_wp2_with fail
  go_loopw [0, 3, 4] (fun sb lo hi wq => ∃ (a' : Option Addr) (l' c' off : Nat), sb = .slice a' l' c' ∧ off + l' = len ∧ Lies w a' l' c' (fun i => z (off + i)) ∧ lo = .int .i64 (aS z off : Nat) ∧ hi = .int .i64 (cS z off : Nat) ∧ wq = w) (fun sb _ _ _ => stM sb (.bool false))
  case atStart => exact ⟨a, len, cap, 0, rfl, by omega, by simpa using h, rfl, rfl, rfl⟩
  case round =>
    obtain ⟨a', l', c', off, rfl, hoff, hL, rfl, rfl, rfl⟩ := hrel
    obtain ⟨wz, hwz⟩ : ∃ wz, wz = wr := ⟨_, rfl⟩
    subst hwz
    have hlc := hL.lc
    have l1 := aS_lt z off
    have l2 := cS_lt z off
    have hoff' : Hid (off + l' = len) := hoff
    by_cases h0 : 0 < l'
    · obtain ⟨ab, ap, rfl, hab, hcl⟩ := hL.spot h0
      have h0' : (0 : Int) < l' := by omega
      obtain ⟨n, hn⟩ : ∃ n, Hid (n = min l' 65536) := ⟨_, rfl⟩
      have hn1 : n ≤ l' := by rw [hn.out]; omega
      have hn2 : n ≤ 65536 := by rw [hn.out]; omega
      have hn0 : 0 < n := by rw [hn.out]; omega
      have hmin : (if (65536 : Int) < (l' : Int) then 65536 else (l' : Int)) = (n : Nat) := by rw [hn.out]; split <;> omega
      have hL2 : Hid (Lies wz (some ⟨ab, ap + n, none⟩) (l' - n) (c' - n) (fun i => z (off + n + i))) := ⟨by omega, by have := hL.reach; omega, fun i => by have := hL.byte (n + i); rwa [← Nat.add_assoc] at this, fun _ => ⟨ab, ap + n, rfl, hab, fun i hi => by have := hcl (n + i) (by omega); rwa [← Nat.add_assoc, ← Nat.add_assoc] at this⟩⟩
      have hby : Hid (∀ i, z (off + i) < 256) := hL.byte
      have hcl' : Hid (∀ i, i < l' → wz.cell? ⟨ab, ap + i, none⟩ = some (.int .u8 (z (off + i) : Nat))) := hcl
      clear hcl hL hoff h hr
      go_wp2_with fail
      go_loopw [3, 4, 18] (fun lo hi i wq => ∃ k L H : Nat, k ≤ n ∧ i = .int .i64 (k : Nat) ∧ lo = .int .i64 (L : Nat) ∧ hi = .int .i64 (H : Nat) ∧ Hid (L % 65521 = aS z (off + k)) ∧ Hid (H % 65521 = cS z (off + k)) ∧ L ≤ 65521 + 255 * k ∧ H ≤ 65521 + 16777216 * k ∧ wq = wz) (fun _ _ i _ => n - (intOf i).toNat)
      case atStart => exact ⟨0, aS z off, cS z off, by omega, rfl, rfl, rfl, by show _ = _; rw [Nat.add_zero]; omega, by show _ = _; rw [Nat.add_zero]; omega, by omega, by omega, rfl⟩
      case round =>
        clear hmin
        obtain ⟨k, L, H, hk, rfl, rfl, rfl, hLm, hHm, hLb, hHb, rfl⟩ := hrel
        by_cases hkn : k < n
        · have hkn' : (k : Int) < n := by omega
          have c0 := hcl'.out k (by omega)
          have hz := hby.out k
          have hs1 : aS z (off + (k + 1)) = (aS z (off + k) + z (off + k)) % 65521 := rfl
          have hs2 : cS z (off + (k + 1)) = (cS z (off + k) + aS z (off + (k + 1))) % 65521 := rfl
          obtain ⟨X, hX⟩ : ∃ A, Hid (z (off + k) = A) := ⟨_, rfl⟩
          rw [hX.out] at hz c0 hs1
          have q1 : Hid ((L + X) % 65521 = aS z (off + (k + 1))) := by show _ = _; rw [hs1]; exact mod_step hLm.out
          have q2 : Hid ((H + (L + X)) % 65521 = cS z (off + (k + 1))) := by show _ = _; rw [hs2]; exact mod_step2 hHm.out q1.out
          clear hs1 hs2 l1 l2
          go_wp2
          exact ⟨⟨k + 1, L + X, H + (L + X), by omega, by go_num, by go_num, by go_num, q1, q2, by omega, by omega, by trivial⟩, by simp [intOf]; omega⟩
        · obtain rfl : k = n := by omega
          have hkn' : ¬ (k : Int) < k := by omega
          have e1 : (L : Int) % 65521 = (aS z (off + k) : Nat) := by rw [← hLm.out]; exact (Int.natCast_emod _ _).symm
          have e2 : (H : Int) % 65521 = (cS z (off + k) : Nat) := by rw [← hHm.out]; exact (Int.natCast_emod _ _).symm
          go_wp2
          exact ⟨⟨_, _, _, off + k, rfl, by have := hoff'.out; omega, lies_cut hL2.out hlc hn1, congrArg (Value.int .i64) e1, congrArg (Value.int .i64) e2, by trivial⟩, by simp [stM]; omega⟩
    · obtain rfl : l' = 0 := by omega
      have hD : Hid (adv z len = cS z off * 65536 + aS z off) := by show _ = _; rw [show len = off by omega]; rfl
      have hor := or_low (cS z off) (aS z off) (by omega) (by omega)
      obtain ⟨A, hA⟩ : ∃ A, Hid (aS z off = A) := ⟨_, rfl⟩
      obtain ⟨C, hC⟩ : ∃ A, Hid (cS z off = A) := ⟨_, rfl⟩
      rw [hA.out] at l1 hor ⊢
      rw [hC.out] at l2 hor ⊢
      clear hoff hL h hr
      rcases a' with _ | ad
      · go_wp2
        go_ret
        exact ⟨ret_int (by rw [hD.out, hA.out, hC.out]; first | rfl | omega), rfl⟩
      · go_wp2
        go_ret
        exact ⟨ret_int (by rw [hD.out, hA.out, hC.out]; first | rfl | omega), rfl⟩
end Go.Proofs.YtahibacjaoohiaaDoor

namespace Go.Proofs.YtahibacjaoohiaaDoor
open Go.RowKit

/-- A number below 2^32 as four bytes, the highest first. -/
def bigL (s : Nat) : List Int := [(s : Int) / 16777216, (s : Int) / 65536 % 256, (s : Int) / 256 % 256, (s : Int) % 256]
theorem bigL_byt {s : Nat} (hs : s < 4294967296) : Byt (bigL s) := fun i => by
  unfold bigL
  rcases i with _ | _ | _ | _ | i
  · simp; omega
  · simp; omega
  · simp; omega
  · simp; omega
  · simp
theorem bigL_len (s : Nat) : (bigL s).length = 4 := rfl
/-- The number that four bytes say. -/
def numbe (y : Nat → Nat) : Nat → Nat
  | 0 => 0
  | n + 1 => numbe y n * 256 + y n
theorem numbe_big {y : Nat → Nat} (hy : ∀ i, y i < 256) {s : Nat} (hs : s < 4294967296) : numbe y 4 = s ↔ ∀ i, i < 4 → y i = zb (bigL s) i := by
  have h0 := hy 0
  have h1 := hy 1
  have h2 := hy 2
  have h3 := hy 3
  have g0 : zb (bigL s) 0 = s / 16777216 := by unfold zb bigL; simp; omega
  have g1 : zb (bigL s) 1 = s / 65536 % 256 := by unfold zb bigL; simp; omega
  have g2 : zb (bigL s) 2 = s / 256 % 256 := by unfold zb bigL; simp; omega
  have g3 : zb (bigL s) 3 = s % 256 := by unfold zb bigL; simp; omega
  have e : numbe y 4 = (((0 * 256 + y 0) * 256 + y 1) * 256 + y 2) * 256 + y 3 := rfl
  rw [e]
  constructor
  · intro h i hi
    rcases (show i = 0 ∨ i = 1 ∨ i = 2 ∨ i = 3 by omega) with rfl | rfl | rfl | rfl
    · rw [g0]; omega
    · rw [g1]; omega
    · rw [g2]; omega
    · rw [g3]; omega
  · intro h
    have k0 := h 0 (by omega)
    have k1 := h 1 (by omega)
    have k2 := h 2 (by omega)
    have k3 := h 3 (by omega)
    rw [g0] at k0
    rw [g1] at k1
    rw [g2] at k2
    rw [g3] at k3
    omega
theorem numbe_lt {y : Nat → Nat} (hy : ∀ i, y i < 256) : ∀ n, n ≤ 4 → numbe y n < 4294967296
  | 0, _ => by unfold numbe; omega
  | 1, _ => by have := hy 0; show 0 * 256 + y 0 < _; omega
  | 2, _ => by have := hy 0; have := hy 1; show (0 * 256 + y 0) * 256 + y 1 < _; omega
  | 3, _ => by have := hy 0; have := hy 1; have := hy 2; show ((0 * 256 + y 0) * 256 + y 1) * 256 + y 2 < _; omega
  | 4, _ => by have := hy 0; have := hy 1; have := hy 2; have := hy 3; show (((0 * 256 + y 0) * 256 + y 1) * 256 + y 2) * 256 + y 3 < _; omega
  | n + 5, h => by omega
theorem bstr_inj {z y : Nat → Nat} {n : Nat} (hz : ∀ i, z i < 256) (hy : ∀ i, y i < 256) (h : bstr z n = bstr y n) : ∀ i, i < n → z i = y i := by
  intro i hi
  unfold bstr at h
  have h1 := ByteArray.mk.inj h
  have h2 := congrArg Array.toList h1
  simp only at h2
  have h3 := congrArg (·[i]?) h2
  simp [hi] at h3
  have := congrArg UInt8.toNat h3
  simp at this
  have := hz i
  have := hy i
  omega

set_option maxRecDepth 100000 in
theorem mark_any (a : Option Addr) (len cap : Nat) (z : Nat → Nat) (w : World) (h : Lies w a len cap z) :
    Calls Tryd.prog 37 #[.slice a len cap] w fun e w' => ∃ g, e = .returned (.slice (some ⟨g, 0, none⟩) 4 4) ∧ Own w' w.heap.size 5 .u8 g 4 (bigL (adv z len)) ∧ Below w.heap.size w w' := by
  have hs := adv_lt z len
  have A1 := adler_any a len cap z w h
  obtain ⟨s, hse⟩ : ∃ s, Hid (adv z len = s) := ⟨_, rfl⟩
  rw [hse.out] at A1 hs ⊢
  go_enter Tryd.func37, Tryd.ntmps37
  go_wp2_with fail
  refine A1.mono ?_
  rintro e w' ⟨rfl, rfl⟩
  go_wp2
  go_ret
  exact ⟨_, rfl, own_lit w' w'.heap.size 5 .u8 (bigL s) (Nat.le_refl _) (by unfold bigL; simp), (Below.refl _ _).alloc (Nat.le_refl _) _⟩

/-- Which heads are taken. -/
def hdv (a b : Nat) : Bool := decide (a % 16 = 8 ∧ a / 16 ≤ 7 ∧ (a * 256 + b) % 31 = 0 ∧ b / 32 % 2 = 0)
theorem and15 (a : Nat) (ha : a < 256) : bits .and .i64 (a : Int) 15 = ((a % 16 : Nat) : Int) := by
  have h : ∀ a : Fin 256, bits .and .i64 ((a.val : Nat) : Int) 15 = ((a.val % 16 : Nat) : Int) := by decide +kernel
  exact h ⟨a, ha⟩
theorem and32 (a : Nat) (ha : a < 256) : bits .and .i64 (a : Int) 32 = ((a / 32 % 2 * 32 : Nat) : Int) := by
  have h : ∀ a : Fin 256, bits .and .i64 ((a.val : Nat) : Int) 32 = ((a.val / 32 % 2 * 32 : Nat) : Int) := by decide +kernel
  exact h ⟨a, ha⟩
theorem or8 (a b : Nat) (ha : a < 256) (hb : b < 256) : bits .or .i64 ((a : Int) * 256) (b : Int) = ((a * 256 + b : Nat) : Int) := by
  have e : a * 256 + b = a * 256 ||| b := by
    have := Nat.shiftLeft_add_eq_or_of_lt (b := b) (i := 8) hb a
    rwa [Nat.shiftLeft_eq] at this
  rw [show (a : Int) * 256 = ((a * 256 : Nat) : Int) by omega, or_nat _ _ (by rw [← e]; omega) (by omega) (by omega), ← e]
set_option maxRecDepth 100000 in
theorem taken_any (a b : Nat) (ha : a < 256) (hb : b < 256) (w : World) :
    Calls Tryd.prog 38 #[.int .i64 (a : Nat), .int .i64 (b : Nat)] w fun e w' => e = .returned (.bool (hdv a b)) ∧ w' = w := by
  have e1 := and15 a ha
  have e2 := and32 b hb
  have e3 := or8 a b ha hb
  obtain ⟨V, hV⟩ : ∃ V, Hid (hdv a b = V) := ⟨_, rfl⟩
  have hV2 : Hid (decide (a % 16 = 8 ∧ a / 16 ≤ 7 ∧ (a * 256 + b) % 31 = 0 ∧ b / 32 % 2 = 0) = V) := hV
  rw [hV.out]
  obtain ⟨M, hM⟩ : ∃ M, Hid (a % 16 = M) := ⟨_, rfl⟩
  obtain ⟨Q, hQ⟩ : ∃ M, Hid (a * 256 + b = M) := ⟨_, rfl⟩
  obtain ⟨D, hD⟩ : ∃ M, Hid (b / 32 % 2 * 32 = M) := ⟨_, rfl⟩
  rw [hM.out] at e1
  rw [hQ.out] at e3
  rw [hD.out] at e2
  obtain ⟨R, hR⟩ : ∃ R, Hid (Q % 31 = R) := ⟨_, rfl⟩
  have e4 : (Q : Int) % 31 = (R : Nat) := by have := hR.out; omega
  obtain ⟨P, hP⟩ : ∃ P, Hid (a / 16 = P) := ⟨_, rfl⟩
  have e5 : (a : Int) / 16 = (P : Nat) := by have := hP.out; omega
  have hr : (V = true ∧ M = 8 ∧ P ≤ 7 ∧ R = 0 ∧ D = 0) ∨ (V = false ∧ M ≠ 8) ∨ (V = false ∧ M = 8 ∧ ¬ P ≤ 7) ∨ (V = false ∧ M = 8 ∧ P ≤ 7 ∧ R ≠ 0) ∨ (V = false ∧ M = 8 ∧ P ≤ 7 ∧ R = 0 ∧ D ≠ 0) := by
    have h1 := hM.out
    have h2 := hQ.out
    have h3 := hD.out
    have h4 := hR.out
    have h5 := hP.out
    have h6 := hV2.out
    cases V with
    | true =>
      obtain ⟨k1, k2, k3, k4⟩ := of_decide_eq_true h6
      exact .inl ⟨rfl, by omega, by omega, by rw [h2] at k3; omega, by rw [k4] at h3; omega⟩
    | false =>
      have h7 := of_decide_eq_false h6
      right
      by_cases c1 : M = 8
      · by_cases c2 : P ≤ 7
        · by_cases c3 : R = 0
          · refine .inr (.inr (.inr ⟨rfl, c1, c2, c3, fun c4 => h7 ⟨by omega, by omega, by omega, by omega⟩⟩))
          · exact .inr (.inr (.inl ⟨rfl, c1, c2, c3⟩))
        · exact .inr (.inl ⟨rfl, c1, c2⟩)
      · exact .inl ⟨rfl, c1⟩
  rcases hr with ⟨rfl, rfl, h2, rfl, rfl⟩ | ⟨rfl, h1⟩ | ⟨rfl, rfl, h2⟩ | ⟨rfl, rfl, h2, h3⟩ | ⟨rfl, rfl, h2, rfl, h4⟩
  · have h2' : (P : Int) ≤ 7 := by omega
    go_enter Tryd.func38, Tryd.ntmps38
    go_wp2
    go_ret
    exact ⟨rfl, rfl⟩
  · have h1' : ((M : Int) == 8) = false := by rw [beq_eq_false_iff_ne]; omega
    go_enter Tryd.func38, Tryd.ntmps38
    go_wp2
    go_ret
    exact ⟨by first | rfl | exact ret_bool h1', rfl⟩
  · have h2' : ¬ (P : Int) ≤ 7 := by omega
    go_enter Tryd.func38, Tryd.ntmps38
    go_wp2
    go_ret
    exact ⟨rfl, rfl⟩
  · have h2' : (P : Int) ≤ 7 := by omega
    have h3' : ((R : Int) == 0) = false := by rw [beq_eq_false_iff_ne]; omega
    go_enter Tryd.func38, Tryd.ntmps38
    go_wp2
    go_ret
    exact ⟨by first | rfl | exact ret_bool h3', rfl⟩
  · have h2' : (P : Int) ≤ 7 := by omega
    have h4' : ((D : Int) == 0) = false := by rw [beq_eq_false_iff_ne]; omega
    go_enter Tryd.func38, Tryd.ntmps38
    go_wp2
    go_ret
    exact ⟨by first | rfl | exact ret_bool h4', rfl⟩
set_option maxRecDepth 100000 in
theorem equal_any (a : Option Addr) (l c : Nat) (z : Nat → Nat) (a2 : Option Addr) (l2 c2 : Nat) (y : Nat → Nat) (w : World) (h : Lies w a l c z) (h2 : Lies w a2 l2 c2 y) :
    Calls Tryd.prog 56 #[.slice a l c, .slice a2 l2 c2] w fun e w' => e = .returned (.bool ((bstr z l).toList == (bstr y l2).toList)) ∧ w' = w := by
  have C1 := conv_string h
  have C2 := conv_string h2
  go_enter Tryd.func56, Tryd.ntmps56
  go_wp2
  go_ret
  exact ⟨rfl, rfl⟩
theorem toList_eq {x y : ByteArray} : (x.toList == y.toList) = decide (x = y) := by
  rw [ByteArray.toList_eq, ByteArray.toList_eq, Bool.eq_iff_iff, beq_iff_eq, decide_eq_true_iff]
  exact ⟨fun h => by cases x; cases y; simp only at h; rw [Array.toList_inj.1 h], fun h => by rw [h]⟩
/-- Whether two slices of bytes are told to be equal. -/
theorem same_yes {z y : Nat → Nat} {n : Nat} (h : ∀ i, i < n → z i = y i) : ((bstr z n).toList == (bstr y n).toList) = true := by
  rw [bstr_congr h]; simp
theorem same_no {z y : Nat → Nat} {n : Nat} (hz : ∀ i, z i < 256) (hy : ∀ i, y i < 256) (h : ¬ ∀ i, i < n → z i = y i) : ((bstr z n).toList == (bstr y n).toList) = false := by
  rw [toList_eq, decide_eq_false_iff_not]
  exact fun e => h (bstr_inj hz hy e)
set_option maxRecDepth 100000 in
theorem num_any (a : Option Addr) (len cap : Nat) (z : Nat → Nat) (w : World) (h : Lies w a len cap z) :
    Calls Tryd.prog 42 #[.slice a len cap, .int .i64 0, .int .i64 4] w fun e w' => e = .returned (.tuple #[.int .i64 (if len < 4 then 0 else numbe z 4 : Nat), .bool (decide (4 ≤ len))]) ∧ w' = w := by
  have hr := h.reach
  by_cases hl : len < 4
  · have hl' : (len : Int) < 4 := by omega
    have hq : ¬ (len : Int) < 0 := by omega
    rw [if_pos hl, decide_eq_false (by omega)]
    go_enter Tryd.func42, Tryd.ntmps42
    go_wp2
    go_ret2
    exact ⟨rfl, rfl⟩
  · have hl' : ¬ (len : Int) < 4 := by omega
    rw [if_neg hl, decide_eq_true (by omega)]
    obtain ⟨b, off, rfl, hb, hc⟩ := h.spot (by omega)
    have c0 := hc 0 (by omega)
    have c1 := hc 1 (by omega)
    have c2 := hc 2 (by omega)
    have c3 := hc 3 (by omega)
    have z0 := h.byte 0
    have z1 := h.byte 1
    have z2 := h.byte 2
    have z3 := h.byte 3
    rw [Nat.add_zero] at c0
    have e : Hid (numbe z 4 = (((0 * 256 + z 0) * 256 + z 1) * 256 + z 2) * 256 + z 3) := rfl
    clear hc
    obtain ⟨x0, h0⟩ : ∃ x, Hid (z 0 = x) := ⟨_, rfl⟩
    obtain ⟨x1, h1⟩ : ∃ x, Hid (z 1 = x) := ⟨_, rfl⟩
    obtain ⟨x2, h2⟩ : ∃ x, Hid (z 2 = x) := ⟨_, rfl⟩
    obtain ⟨x3, h3⟩ : ∃ x, Hid (z 3 = x) := ⟨_, rfl⟩
    rw [h0.out] at c0 z0
    rw [h1.out] at c1 z1
    rw [h2.out] at c2 z2
    rw [h3.out] at c3 z3
    go_enter Tryd.func42, Tryd.ntmps42
    go_wp2_with fail
    go_loopw [8, 9] (fun n i wq => ∃ k X : Nat, i = .int .i64 (k : Nat) ∧ n = .int .i64 (X : Nat) ∧ Hid (k = 0 ∧ X = 0 ∨ k = 1 ∧ X = x0 ∨ k = 2 ∧ X = x0 * 256 + x1 ∨ k = 3 ∧ X = (x0 * 256 + x1) * 256 + x2 ∨ k = 4 ∧ X = ((x0 * 256 + x1) * 256 + x2) * 256 + x3) ∧ wq = w) (fun _ i _ => 4 - (intOf i).toNat)
    case atStart => exact ⟨0, 0, rfl, rfl, .inl ⟨rfl, rfl⟩, rfl⟩
    case round =>
      obtain ⟨k, X, rfl, rfl, hk, rfl⟩ := hrel
      rcases hk.out with ⟨rfl, rfl⟩ | ⟨rfl, rfl⟩ | ⟨rfl, rfl⟩ | ⟨rfl, rfl⟩ | ⟨rfl, rfl⟩
      · clear hk
        go_wp2
        exact ⟨⟨1, x0, rfl, by go_num, .inr (.inl ⟨rfl, rfl⟩), by trivial⟩, by simp [intOf]⟩
      · clear hk
        go_wp2
        exact ⟨⟨2, _, rfl, by go_num, .inr (.inr (.inl ⟨rfl, rfl⟩)), by trivial⟩, by simp [intOf]⟩
      · clear hk
        obtain ⟨Y, hY⟩ : ∃ Y, Y = x0 * 256 + x1 := ⟨_, rfl⟩
        have hYb : Y < 65536 := by omega
        rw [← hY]
        have HY : Hid (Y = _) := hY
        clear hY
        go_wp2
        exact ⟨⟨3, Y * 256 + x2, rfl, by go_num, .inr (.inr (.inr (.inl ⟨rfl, by rw [HY.out]⟩))), by trivial⟩, by simp [intOf]⟩
      · clear hk
        obtain ⟨Y, hY⟩ : ∃ Y, Y = (x0 * 256 + x1) * 256 + x2 := ⟨_, rfl⟩
        have hYb : Y < 16777216 := by omega
        rw [← hY]
        have HY : Hid (Y = _) := hY
        clear hY
        go_wp2
        exact ⟨⟨4, Y * 256 + x3, rfl, by go_num, .inr (.inr (.inr (.inr ⟨rfl, by rw [HY.out]⟩))), by trivial⟩, by simp [intOf]⟩
      · clear hk
        obtain ⟨Y, hY⟩ : ∃ Y, Y = ((x0 * 256 + x1) * 256 + x2) * 256 + x3 := ⟨_, rfl⟩
        rw [← hY]
        have HY : Hid (Y = _) := hY
        clear hY
        go_wp2
        go_ret2
        refine ⟨?_, rfl⟩
        show Ending.returned (.tuple #[.int .i64 (Y : Nat), .bool true]) = _
        rw [e.out, h0.out, h1.out, h2.out, h3.out, HY.out, Nat.zero_mul, Nat.zero_add]
/-- The reference's Big of four bytes. -/
theorem big_take (s : Nat) (hs : s < 4294967296) : ∀ k, k < 4 → (bigL s).take (k + 1) = (bigL s).take k ++ [((s / 2 ^ (8 * (3 - k)) % 256 : Nat) : Int)] := by
  intro k hk
  rcases (show k = 0 ∨ k = 1 ∨ k = 2 ∨ k = 3 by omega) with rfl | rfl | rfl | rfl <;> simp [bigL] <;> omega
set_option maxRecDepth 100000 in
set_option maxHeartbeats 1600000 in
theorem big_any (s : Nat) (hs : s < 4294967296) (w : World) :
    Calls Tryd.prog 40 #[.int .i64 (s : Nat), .int .i64 4] w fun e w' => ∃ g c, e = .returned (.slice (some ⟨g, 0, none⟩) 4 c) ∧ Own w' w.heap.size 5 .u8 g c (bigL s) ∧ Below w.heap.size w w' := by
  go_enter Tryd.func40, Tryd.ntmps40
  go_wp2_with fail
  go_loopw [5, 6] (fun v i wq => ∃ (k : Nat) (j : Int), i = .int .i64 j ∧ Hid (k ≤ 4 ∧ j = 3 - (k : Int)) ∧ OwnV wq w.heap.size 5 .u8 v ((bigL s).take k) ∧ Below w.heap.size w wq) (fun _ i _ => (intOf i + 1).toNat)
  case atStart => exact ⟨0, 3, rfl, ⟨by omega, rfl⟩, ownv_nil _ _ _ _, Below.refl _ _⟩
  case round =>
    obtain ⟨k, j, rfl, hk, hO, hB⟩ := hrel
    rcases (show k = 0 ∨ k = 1 ∨ k = 2 ∨ k = 3 ∨ k = 4 by have := hk.out.1; omega) with rfl | rfl | rfl | rfl | rfl
    · obtain rfl : j = 3 := hk.out.2
      obtain ⟨av, cv, hv⟩ := hO.form
      obtain rfl : _ = Value.slice av 0 cv := hv
      obtain ⟨X, hX⟩ : ∃ X : Nat, (s : Int) / 16777216 = X := ⟨s / 16777216 % 256, by omega⟩
      have hx : Hid ((bigL s).take 1 = (bigL s).take 0 ++ [((X : Nat) : Int)]) := by show _ = _; rw [← hX]; rfl
      obtain ⟨W, hW⟩ : ∃ W, W = wr.alloc (.cells #[.int .u8 (X : Nat)] 5) := ⟨_, rfl⟩
      have bW : Below wr.heap.size wr W := by rw [hW]; exact (Below.refl _ _).alloc (Nat.le_refl _) _
      have happ : ∃ g' cap' w', (Builtin.append_ #[23, 23] 23 #[.slice av 0 cv, .slice (some ⟨wr.heap.size, 0, none⟩) 1 1]).run Tryd.prog W = .ok (.slice (some ⟨g', 0, none⟩) (0 + 1) cap') w' ∧ _ := (hO.below bW).one (Nat.le_trans hB.size bW.size) (C := wr.heap.size) (x := (X : Nat)) (by rw [hW]; exact blk_new _ _) (by simp [bigL])
      have hBW := hB.trans (bW.mono hB.size)
      have HW : Hid (W = _) := hW
      rw [hW] at happ
      have HAP : Hid (_) := happ
      have HG : ∀ k', (Value.slice av 0 cv).ownBlock = some k' → w.heap.size ≤ k' := fun k' hk' => (World.ownsRow.lt hO k' hk').1
      clear happ hO hW hk
      go_wp2_with (at_builtin; refine wpList_append_ex rfl (.tmp 13) (.tmp 20) 23 rfl rfl rfl HAP.out ?_; rintro g' c' w1 hR1; have HR : Hid (_) := hR1; clear hR1)
      refine ⟨⟨1, 2, by go_num, ⟨by omega, rfl⟩, ?_, ?_⟩, by simp [intOf]⟩
      · rw [hx.out]
        exact own_v HR.out.1 (by simp [bigL])
      · have := HR.out.2.1
        rw [← HW.out] at this
        exact hBW.grown this (Nat.le_trans hB.size bW.size) HG
    · obtain rfl : j = 2 := hk.out.2
      obtain ⟨av, cv, hv⟩ := hO.form
      obtain rfl : _ = Value.slice av 1 cv := hv
      obtain ⟨X, hX⟩ : ∃ X : Nat, (s : Int) / 65536 % 256 = X := ⟨s / 65536 % 256, by omega⟩
      have hx : Hid ((bigL s).take 2 = (bigL s).take 1 ++ [((X : Nat) : Int)]) := by show _ = _; rw [← hX]; rfl
      obtain ⟨W, hW⟩ : ∃ W, W = wr.alloc (.cells #[.int .u8 (X : Nat)] 5) := ⟨_, rfl⟩
      have bW : Below wr.heap.size wr W := by rw [hW]; exact (Below.refl _ _).alloc (Nat.le_refl _) _
      have happ : ∃ g' cap' w', (Builtin.append_ #[23, 23] 23 #[.slice av 1 cv, .slice (some ⟨wr.heap.size, 0, none⟩) 1 1]).run Tryd.prog W = .ok (.slice (some ⟨g', 0, none⟩) (1 + 1) cap') w' ∧ _ := (hO.below bW).one (Nat.le_trans hB.size bW.size) (C := wr.heap.size) (x := (X : Nat)) (by rw [hW]; exact blk_new _ _) (by simp [bigL])
      have hBW := hB.trans (bW.mono hB.size)
      have HW : Hid (W = _) := hW
      rw [hW] at happ
      have HAP : Hid (_) := happ
      have HG : ∀ k', (Value.slice av 1 cv).ownBlock = some k' → w.heap.size ≤ k' := fun k' hk' => (World.ownsRow.lt hO k' hk').1
      clear happ hO hW hk
      go_wp2_with (at_builtin; refine wpList_append_ex rfl (.tmp 13) (.tmp 20) 23 rfl rfl rfl HAP.out ?_; rintro g' c' w1 hR1; have HR : Hid (_) := hR1; clear hR1)
      refine ⟨⟨2, 1, by go_num, ⟨by omega, rfl⟩, ?_, ?_⟩, by simp [intOf]⟩
      · rw [hx.out]
        exact own_v HR.out.1 (by simp [bigL])
      · have := HR.out.2.1
        rw [← HW.out] at this
        exact hBW.grown this (Nat.le_trans hB.size bW.size) HG
    · obtain rfl : j = 1 := hk.out.2
      obtain ⟨av, cv, hv⟩ := hO.form
      obtain rfl : _ = Value.slice av 2 cv := hv
      obtain ⟨X, hX⟩ : ∃ X : Nat, (s : Int) / 256 % 256 = X := ⟨s / 256 % 256, by omega⟩
      have hx : Hid ((bigL s).take 3 = (bigL s).take 2 ++ [((X : Nat) : Int)]) := by show _ = _; rw [← hX]; rfl
      obtain ⟨W, hW⟩ : ∃ W, W = wr.alloc (.cells #[.int .u8 (X : Nat)] 5) := ⟨_, rfl⟩
      have bW : Below wr.heap.size wr W := by rw [hW]; exact (Below.refl _ _).alloc (Nat.le_refl _) _
      have happ : ∃ g' cap' w', (Builtin.append_ #[23, 23] 23 #[.slice av 2 cv, .slice (some ⟨wr.heap.size, 0, none⟩) 1 1]).run Tryd.prog W = .ok (.slice (some ⟨g', 0, none⟩) (2 + 1) cap') w' ∧ _ := (hO.below bW).one (Nat.le_trans hB.size bW.size) (C := wr.heap.size) (x := (X : Nat)) (by rw [hW]; exact blk_new _ _) (by simp [bigL])
      have hBW := hB.trans (bW.mono hB.size)
      have HW : Hid (W = _) := hW
      rw [hW] at happ
      have HAP : Hid (_) := happ
      have HG : ∀ k', (Value.slice av 2 cv).ownBlock = some k' → w.heap.size ≤ k' := fun k' hk' => (World.ownsRow.lt hO k' hk').1
      clear happ hO hW hk
      go_wp2_with (at_builtin; refine wpList_append_ex rfl (.tmp 13) (.tmp 20) 23 rfl rfl rfl HAP.out ?_; rintro g' c' w1 hR1; have HR : Hid (_) := hR1; clear hR1)
      refine ⟨⟨3, 0, by go_num, ⟨by omega, rfl⟩, ?_, ?_⟩, by simp [intOf]⟩
      · rw [hx.out]
        exact own_v HR.out.1 (by simp [bigL])
      · have := HR.out.2.1
        rw [← HW.out] at this
        exact hBW.grown this (Nat.le_trans hB.size bW.size) HG
    · obtain rfl : j = 0 := hk.out.2
      obtain ⟨av, cv, hv⟩ := hO.form
      obtain rfl : _ = Value.slice av 3 cv := hv
      obtain ⟨X, hX⟩ : ∃ X : Nat, (s : Int) % 256 = X := ⟨s / 1 % 256, by omega⟩
      have hx : Hid ((bigL s).take 4 = (bigL s).take 3 ++ [((X : Nat) : Int)]) := by show _ = _; rw [← hX]; rfl
      obtain ⟨W, hW⟩ : ∃ W, W = wr.alloc (.cells #[.int .u8 (X : Nat)] 5) := ⟨_, rfl⟩
      have bW : Below wr.heap.size wr W := by rw [hW]; exact (Below.refl _ _).alloc (Nat.le_refl _) _
      have happ : ∃ g' cap' w', (Builtin.append_ #[23, 23] 23 #[.slice av 3 cv, .slice (some ⟨wr.heap.size, 0, none⟩) 1 1]).run Tryd.prog W = .ok (.slice (some ⟨g', 0, none⟩) (3 + 1) cap') w' ∧ _ := (hO.below bW).one (Nat.le_trans hB.size bW.size) (C := wr.heap.size) (x := (X : Nat)) (by rw [hW]; exact blk_new _ _) (by simp [bigL])
      have hBW := hB.trans (bW.mono hB.size)
      have HW : Hid (W = _) := hW
      rw [hW] at happ
      have HAP : Hid (_) := happ
      have HG : ∀ k', (Value.slice av 3 cv).ownBlock = some k' → w.heap.size ≤ k' := fun k' hk' => (World.ownsRow.lt hO k' hk').1
      clear happ hO hW hk
      go_wp2_with (at_builtin; refine wpList_append_ex rfl (.tmp 13) (.tmp 20) 23 rfl rfl rfl HAP.out ?_; rintro g' c' w1 hR1; have HR : Hid (_) := hR1; clear hR1)
      refine ⟨⟨4, -1, by go_num, ⟨by omega, rfl⟩, ?_, ?_⟩, by simp [intOf]⟩
      · rw [hx.out]
        exact own_v HR.out.1 (by simp [bigL])
      · have := HR.out.2.1
        rw [← HW.out] at this
        exact hBW.grown this (Nat.le_trans hB.size bW.size) HG
    · obtain rfl : j = -1 := hk.out.2
      obtain ⟨g, c, rfl, ho⟩ := OwnV.own (xs := bigL s) hO (by simp [bigL])
      clear hO hk
      go_wp2
      go_ret
      exact ⟨g, c, rfl, ho, hB⟩
end Go.Proofs.YtahibacjaoohiaaDoor
