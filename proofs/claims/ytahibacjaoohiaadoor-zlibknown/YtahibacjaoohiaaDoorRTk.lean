/-
  The reference's Bits: Take of any few bits, Align.
-/
import Derived.Test.YtahibacjaoohiaaDoorRBits
import Derived.Test.YtahibacjaoohiaaDoorInfl
namespace Go.Proofs.YtahibacjaoohiaaDoor
open Go.RowKit

theorem within_few (n : Nat) (hn : n ≤ 24) (w : World) : Calls Tryd.prog 65 #[.int .i64 (n : Nat), .int .i64 0, .int .i64 24] w fun e w' => e = .returned (.int .i64 (n : Nat)) ∧ w' = w := by
  have h1 : ¬ (n : Int) < 0 := by omega
  have h2 : ¬ 24 < (n : Int) := by omega
  go_enter Tryd.func65, Tryd.ntmps65
  go_wp2
  all_goals
    go_ret
    exact ⟨ret_int (by (try split at *) <;> omega), rfl⟩
theorem ralign_any (sb : Nat) (a : Option Addr) (len cap : Nat) (z : Nat → Nat) (p : Nat) (w : World) (h : RBits w sb a len cap z p) :
    Calls Tryd.prog 49 #[.pointer (some ⟨sb, 0, none⟩)] w fun e w' => e = .returned (.tuple #[]) ∧ RBits w' sb a len cap z (up8 p) ∧ Kept (fun k => k = sb) w w' := by
  have hr := h.lies.reach
  have hl := h.lim
  have c1 : w.cell? ⟨sb, 1, none⟩ = some (.int .i64 p) := blk_cell h.obj 1
  have f1 := blk_free h.obj 1
  have R := rbits_set h (up8 p) (by unfold up8; omega) (v := ((up8 p : Nat) : Int)) rfl
  have K : Kept (fun k => k = sb) w (w.setCell ⟨sb, 1, none⟩ (.int .i64 ((up8 p : Nat) : Int))) := (Kept.refl _ w).set 1 _
  have hu : ((p : Int) + 7) / 8 * 8 = ((up8 p : Nat) : Int) := by unfold up8; omega
  go_enter Tryd.func49, Tryd.ntmps49
  go_wp2_with fail
  go_end0
  exact ⟨rfl, R, K⟩
set_option maxRecDepth 100000 in
set_option maxHeartbeats 1600000 in
theorem rtakeN_no (sb : Nat) (a : Option Addr) (len cap : Nat) (z : Nat → Nat) (p n : Nat) (hn24 : n ≤ 24) (w : World) (h : RBits w sb a len cap z p) (hn : ¬ p + n ≤ 8 * len) :
    Calls Tryd.prog 48 #[.pointer (some ⟨sb, 0, none⟩), .int .i64 (n : Nat)] w fun e w' => e = .returned (.tuple #[.int .i64 0, .bool false]) ∧ RBits w' sb a len cap z p ∧ Kept (fun k => k = sb) w w' := by
  have hr := h.lies.reach
  have hl := h.lim
  have c0 : w.cell? ⟨sb, 0, none⟩ = some (.slice a len cap) := blk_cell h.obj 0
  have c1 : w.cell? ⟨sb, 1, none⟩ = some (.int .i64 p) := blk_cell h.obj 1
  have hd : decide ((8 * (len : Int)) - (p : Int) < (n : Int)) = true := decide_eq_true (by omega)
  go_enter Tryd.func48, Tryd.ntmps48
  go_wp2_with fail
  refine (within_few n hn24 _).mono ?_
  rintro e w' ⟨rfl, rfl⟩
  go_wp2_with fail
  go_quiet (fail)
  go_wp2
  go_ret2
  exact ⟨rfl, h.kept (S := fun _ => False) ((Kept.refl _ _).drewN _) id (fun _ _ _ _ => id), (Kept.refl _ _).drewN _⟩
set_option maxRecDepth 100000 in
set_option maxHeartbeats 1600000 in
theorem rtakeN_yes (sb : Nat) (a : Option Addr) (len cap : Nat) (z : Nat → Nat) (p n : Nat) (hn24 : n ≤ 24) (w : World) (h : RBits w sb a len cap z p) (hn : p + n ≤ 8 * len) :
    Calls Tryd.prog 48 #[.pointer (some ⟨sb, 0, none⟩), .int .i64 (n : Nat)] w fun e w' => e = .returned (.tuple #[.int .i64 (takev z p n : Nat), .bool true]) ∧ RBits w' sb a len cap z (p + n) ∧ Kept (fun k => k = sb) w w' := by
  have hr := h.lies.reach
  have hlc := h.lies.lc
  have c0 : w.cell? ⟨sb, 0, none⟩ = some (.slice a len cap) := blk_cell h.obj 0
  have c1 : w.cell? ⟨sb, 1, none⟩ = some (.int .i64 p) := blk_cell h.obj 1
  have hd : decide ((8 * (len : Int)) - (p : Int) < (n : Int)) = false := decide_eq_false (by omega)
  go_enter Tryd.func48, Tryd.ntmps48
  go_wp2_with fail
  refine (within_few n hn24 _).mono ?_
  rintro e w' ⟨rfl, rfl⟩
  go_wp2_with fail
  go_quiet (fail)
  obtain ⟨W, hW⟩ : ∃ W, W = w'.drewN nq := ⟨_, rfl⟩
  rw [← hW]
  have R0 : RBits W sb a len cap z p := by rw [hW]; exact h.kept (S := fun _ => False) ((Kept.refl _ _).drewN _) id (fun _ _ _ _ => id)
  have K0 : Kept (fun k => k = sb) w' W := by rw [hW]; exact (Kept.refl _ _).drewN _
  clear hW c0 c1 hd
  go_wp2_with fail
  go_loopw [6, 7] (fun v j wq => ∃ k : Nat, k ≤ n ∧ j = .int .i64 (k : Nat) ∧ v = .int .i64 (takev z p k : Nat) ∧ RBits wq sb a len cap z (p + k) ∧ Kept (fun k => k = sb) w' wq) (fun _ j _ => n - (intOf j).toNat)
  case atStart => exact ⟨0, by omega, rfl, rfl, R0, K0⟩
  case round =>
    clear R0 K0 W
    obtain ⟨k, hk, rfl, rfl, R1, K1⟩ := hrel
    by_cases hkn : k < n
    · have hkn' : (k : Int) < (n : Int) := by omega
      obtain ⟨A, hA⟩ : ∃ A, Hid (p + k = A) := ⟨_, rfl⟩
      have hAl : A < 8 * len := by rw [← hA.out]; omega
      rw [hA.out] at R1
      have c0 : wr.cell? ⟨sb, 0, none⟩ = some (.slice a len cap) := blk_cell R1.obj 0
      have c1 : wr.cell? ⟨sb, 1, none⟩ = some (.int .i64 A) := blk_cell R1.obj 1
      have f1 := blk_free R1.obj 1
      obtain ⟨b, off, rfl, hb, hc⟩ := R1.lies.spot (by omega)
      have hci := hc (A / 8) (by omega)
      have hz := R1.lies.byte (A / 8)
      have hbl := bit_lt z A
      have hv : bits .and .u8 (((z (A / 8) : Nat) : Int) / 2 ^ (A % 8)) 1 = ((bit z A : Nat) : Int) := by
        have hle : z (A / 8) / 2 ^ (A % 8) ≤ z (A / 8) := Nat.div_le_self _ _
        rw [two_pow_cast, ← Int.natCast_ediv, and_one_u8 _ (by omega)]; rfl
      have hT := takev_lt z p k
      have hP : 2 ^ k ≤ 8388608 := Nat.le_trans (Nat.pow_le_pow_right (by omega) (show k ≤ 23 by omega)) (by decide)
      obtain ⟨T, hTe⟩ : ∃ T, Hid (takev z p k = T) := ⟨_, rfl⟩
      obtain ⟨P, hPe⟩ : ∃ P : Nat, Hid (2 ^ k = P) := ⟨_, rfl⟩
      have hPi : (2 : Int) ^ k = (P : Nat) := by rw [two_pow_cast, hPe.out]
      rw [hTe.out, hPe.out] at hT
      rw [hPe.out] at hP
      rw [hTe.out]
      have hk24 : k < 24 := by omega
      have Hstep : Hid (takev z p (k + 1) = T + bit z A * P) := by show takev z p k + bit z (p + k) * 2 ^ k = _; rw [hTe.out, hA.out, hPe.out]
      by_cases hb1 : bit z A = 1
      · rw [hb1] at hv
        go_wp2_with fail
        go_quiet (fail)
        have R2 : RBits (wr.drewN nq) sb (some ⟨b, off, none⟩) len cap z A := R1.kept (S := fun _ => False) ((Kept.refl _ _).drewN _) id (fun _ _ _ _ => id)
        have HB : Hid (bit z A = 1) := hb1
        clear hb1 hv hbl
        go_wp2
        exact ⟨⟨k + 1, by omega, by go_num, by rw [Hstep.out, HB.out]; congr 1; omega, by rw [← Nat.add_assoc, hA.out]; exact rbits_set R2 (A + 1) (by omega) (by omega), (K1.drewN _).set 1 _⟩, by simp [intOf]; omega⟩
      · have hb0 : bit z A = 0 := by omega
        rw [hb0] at hv
        go_wp2_with fail
        go_quiet (fail)
        have R2 : RBits (wr.drewN nq) sb (some ⟨b, off, none⟩) len cap z A := R1.kept (S := fun _ => False) ((Kept.refl _ _).drewN _) id (fun _ _ _ _ => id)
        have HB : Hid (bit z A = 0) := hb0
        clear hb0 hb1 hv hbl
        go_wp2
        exact ⟨⟨k + 1, by omega, by go_num, by rw [Hstep.out, HB.out]; congr 1; omega, by rw [← Nat.add_assoc, hA.out]; exact rbits_set R2 (A + 1) (by omega) (by omega), (K1.drewN _).set 1 _⟩, by simp [intOf]; omega⟩
    · have e : n = k := by omega
      have hkn' : ¬ (k : Int) < (n : Int) := by omega
      have HE : Hid (n = k) := e
      clear e
      go_wp2
      go_ret2
      have e := HE.out
      subst e
      exact ⟨rfl, R1, K1⟩
end Go.Proofs.YtahibacjaoohiaaDoor
