
/-
  The references: versalref6.Bits' Take of one bit and Used; Code's Read.
-/
import Derived.Test.YtahibacjaoohiaaDoorPick
namespace Go.Proofs.YtahibacjaoohiaaDoor
open Go.RowKit

/-- The reference's bits at block sb: p of the bytes' bits are taken. -/
structure RBits (w : World) (sb : Nat) (a : Option Addr) (len cap : Nat) (z : Nat → Nat) (p : Nat) : Prop where
  obj : w.heap[sb]? = some (.cells #[.slice a len cap, .int .i64 p] 66)
  lies : Lies w a len cap z
  lim : p ≤ 8 * len
  ne : 0 < len → ∀ b off, a = some ⟨b, off, none⟩ → b ≠ sb
theorem Lies.kept {S : Nat → Prop} {w w' : World} {a : Option Addr} {len cap : Nat} {z : Nat → Nat} (h : Lies w a len cap z) (k : Kept S w w') (hS : 0 < len → ∀ b off, a = some ⟨b, off, .none⟩ → ¬ S b) : Lies w' a len cap z := by
  refine ⟨h.lc, h.reach, h.byte, fun hl => ?_⟩
  obtain ⟨b, off, e, hlt, hc⟩ := h.spot hl
  refine ⟨b, off, e, by have := k.size; omega, fun i hi => ?_⟩
  rw [World.cell?_of_block (a := ⟨b, off + i, Option.none⟩) (k.block b hlt (hS hl b off e))]
  exact hc i hi
theorem RBits.kept {S : Nat → Prop} {w w' : World} {sb : Nat} {a : Option Addr} {len cap : Nat} {z : Nat → Nat} {p : Nat} (h : RBits w sb a len cap z p) (k : Kept S w w') (hs : ¬ S sb) (hS : 0 < len → ∀ b off, a = some ⟨b, off, none⟩ → ¬ S b) : RBits w' sb a len cap z p :=
  ⟨k.blk h.obj hs, h.lies.kept k hS, h.lim, h.ne⟩
theorem RBits.below {w w' : World} {sb : Nat} {a : Option Addr} {len cap : Nat} {z : Nat → Nat} {p : Nat} (h : RBits w sb a len cap z p) (k : Below w.heap.size w w') : RBits w' sb a len cap z p :=
  h.kept (S := fun _ => False) (Kept.of_below k (Nat.le_refl _) _) id (fun _ _ _ _ => id)
theorem rbits_set {w : World} {sb : Nat} {a : Option Addr} {len cap : Nat} {z : Nat → Nat} {p : Nat} (h : RBits w sb a len cap z p) (q : Nat) (hq : q ≤ 8 * len) {v : Int} (hv : v = q) : RBits (w.setCell ⟨sb, 1, none⟩ (.int .i64 v)) sb a len cap z q := by
  subst hv
  exact ⟨blk_set h.obj 1 _, h.lies.kept ((Kept.refl (fun k => k = sb) w).set 1 _) h.ne, hq, h.ne⟩

theorem rused_any (sb : Nat) (a : Option Addr) (len cap : Nat) (z : Nat → Nat) (p : Nat) (w : World) (h : RBits w sb a len cap z p) :
    Calls Tryd.prog 36 #[.pointer (some ⟨sb, 0, none⟩)] w fun e w' => e = .returned (.int .i64 ((p + 7) / 8 : Nat)) ∧ w' = w := by
  have hr := h.lies.reach
  have hl := h.lim
  have c1 : w.cell? ⟨sb, 1, none⟩ = some (.int .i64 p) := blk_cell h.obj 1
  go_enter Tryd.func36, Tryd.ntmps36
  go_wp2
  go_ret
  exact ⟨ret_int (by omega), rfl⟩

theorem within_one (w : World) : Calls Tryd.prog 65 #[.int .i64 1, .int .i64 0, .int .i64 24] w fun e w' => e = .returned (.int .i64 1) ∧ w' = w := by
  go_enter Tryd.func65, Tryd.ntmps65
  go_wp2
  go_ret
  exact ⟨rfl, rfl⟩

set_option maxRecDepth 100000 in
theorem and_one_u8 (x : Nat) (hx : x < 256) : bits .and .u8 (x : Int) 1 = ((x % 2 : Nat) : Int) := by
  have h : ∀ y : Fin 256, bits .and .u8 ((y.val : Nat) : Int) 1 = ((y.val % 2 : Nat) : Int) := by decide
  exact h ⟨x, hx⟩

theorem rtake_no (sb : Nat) (a : Option Addr) (len cap : Nat) (z : Nat → Nat) (p : Nat) (w : World) (h : RBits w sb a len cap z p) (hn : ¬ p < 8 * len) :
    Calls Tryd.prog 48 #[.pointer (some ⟨sb, 0, none⟩), .int .i64 1] w fun e w' => e = .returned (.tuple #[.int .i64 0, .bool false]) ∧ RBits w' sb a len cap z p ∧ Kept (fun k => k = sb) w w' := by
  have hr := h.lies.reach
  have hl := h.lim
  have c0 : w.cell? ⟨sb, 0, none⟩ = some (.slice a len cap) := blk_cell h.obj 0
  have c1 : w.cell? ⟨sb, 1, none⟩ = some (.int .i64 p) := blk_cell h.obj 1
  have hd : decide ((8 * (len : Int)) - (p : Int) < 1) = true := decide_eq_true (by omega)
  go_enter Tryd.func48, Tryd.ntmps48
  go_wp2_with fail
  refine (within_one _).mono ?_
  rintro e w' ⟨rfl, rfl⟩
  go_wp2_with fail
  go_quiet (fail)
  go_wp2
  go_ret2
  exact ⟨rfl, h.kept (S := fun _ => False) ((Kept.refl _ _).drewN _) id (fun _ _ _ _ => id), (Kept.refl _ _).drewN _⟩

set_option maxHeartbeats 800000 in
theorem rtake_yes (sb : Nat) (a : Option Addr) (len cap : Nat) (z : Nat → Nat) (p : Nat) (w : World) (h : RBits w sb a len cap z p) (hn : p < 8 * len) :
    Calls Tryd.prog 48 #[.pointer (some ⟨sb, 0, none⟩), .int .i64 1] w fun e w' => e = .returned (.tuple #[.int .i64 (bit z p : Nat), .bool true]) ∧ RBits w' sb a len cap z (p + 1) ∧ Kept (fun k => k = sb) w w' := by
  have hr := h.lies.reach
  have hlc := h.lies.lc
  have c0 : w.cell? ⟨sb, 0, none⟩ = some (.slice a len cap) := blk_cell h.obj 0
  have c1 : w.cell? ⟨sb, 1, none⟩ = some (.int .i64 p) := blk_cell h.obj 1
  have hd : decide ((8 * (len : Int)) - (p : Int) < 1) = false := decide_eq_false (by omega)
  go_enter Tryd.func48, Tryd.ntmps48
  go_wp2_with fail
  refine (within_one _).mono ?_
  rintro e w' ⟨rfl, rfl⟩
  go_wp2_with fail
  go_quiet (fail)
  obtain ⟨W, hW⟩ : ∃ W, W = w'.drewN nq := ⟨_, rfl⟩
  rw [← hW]
  have R0 : RBits W sb a len cap z p := by rw [hW]; exact h.kept (S := fun _ => False) ((Kept.refl _ _).drewN _) id (fun _ _ _ _ => id)
  have K0 : Kept (fun k => k = sb) w' W := by rw [hW]; exact (Kept.refl _ _).drewN _
  clear hW c0 c1 hd
  go_wp2_with fail
  go_loopw [6, 7] (fun v j wq => (j = .int .i64 0 ∧ v = .int .i64 0 ∧ RBits wq sb a len cap z p ∧ Kept (fun k => k = sb) w' wq) ∨ (j = .int .i64 1 ∧ v = .int .i64 (bit z p : Nat) ∧ RBits wq sb a len cap z (p + 1) ∧ Kept (fun k => k = sb) w' wq)) (fun _ j _ => 1 - (intOf j).toNat)
  case atStart => exact .inl ⟨rfl, rfl, R0, K0⟩
  case round =>
    clear R0 K0 W
    rcases hrel with ⟨rfl, rfl, R1, K1⟩ | ⟨rfl, rfl, R1, K1⟩
    · have c0 : wr.cell? ⟨sb, 0, none⟩ = some (.slice a len cap) := blk_cell R1.obj 0
      have c1 : wr.cell? ⟨sb, 1, none⟩ = some (.int .i64 p) := blk_cell R1.obj 1
      have f1 := blk_free R1.obj 1
      obtain ⟨b, off, rfl, hb, hc⟩ := R1.lies.spot (by omega)
      have hci := hc (p / 8) (by omega)
      have hz := R1.lies.byte (p / 8)
      have hbl := bit_lt z p
      have hv : bits .and .u8 (((z (p / 8) : Nat) : Int) / 2 ^ (p % 8)) 1 = ((bit z p : Nat) : Int) := by
        have hle : z (p / 8) / 2 ^ (p % 8) ≤ z (p / 8) := Nat.div_le_self _ _
        rw [two_pow_cast, ← Int.natCast_ediv, and_one_u8 _ (by omega)]; rfl
      by_cases hb1 : bit z p = 1
      · rw [hb1] at hv
        go_wp2_with fail
        go_quiet (fail)
        have R2 : RBits (wr.drewN nq) sb (some ⟨b, off, none⟩) len cap z p := R1.kept (S := fun _ => False) ((Kept.refl _ _).drewN _) id (fun _ _ _ _ => id)
        have HB : Hid (bit z p = 1) := hb1
        clear hb1 hv hbl
        go_wp2
        exact ⟨.inr ⟨rfl, by rw [HB.out]; rfl, rbits_set R2 (p + 1) (by omega) (by omega), (K1.drewN _).set 1 _⟩, by simp [intOf]⟩
      · have hb0 : bit z p = 0 := by omega
        rw [hb0] at hv
        go_wp2_with fail
        go_quiet (fail)
        have R2 : RBits (wr.drewN nq) sb (some ⟨b, off, none⟩) len cap z p := R1.kept (S := fun _ => False) ((Kept.refl _ _).drewN _) id (fun _ _ _ _ => id)
        have HB : Hid (bit z p = 0) := hb0
        clear hb0 hb1 hv hbl
        go_wp2
        exact ⟨.inr ⟨rfl, by rw [HB.out]; rfl, rbits_set R2 (p + 1) (by omega) (by omega), (K1.drewN _).set 1 _⟩, by simp [intOf]⟩
    · go_wp2
      go_ret2
      exact ⟨rfl, R1, K1⟩
end Go.Proofs.YtahibacjaoohiaaDoor
