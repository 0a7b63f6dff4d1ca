/-
  versallaw10.known and RowsKnown's own walk.
-/
import Derived.Test.YtciobjjhdeagkaaDoorPss
namespace Go.Proofs.YtciobjjhdeagkaaDoor
open Go.RowKit

theorem undo_l (k b : Nat) (hk : k ≤ 4) (hb1 : 1 ≤ b) (hb : b ≤ 8) (a1 : Option Addr) (l1 c1 : Nat) (z : Nat → Nat) (a2 : Option Addr) (l2 c2 : Nat) (y : Nat → Nat) (w : World) (h1 : Lies w a1 l1 c1 z) (h2 : Lies w a2 l2 c2 y) :
    Calls Tryd.prog 7 #[.int .i64 (k : Nat), .int .i64 (b : Nat), .slice a1 l1 c1, .slice a2 l2 c2] w fun e w' => ∃ g, e = .returned (.tuple #[.slice (some ⟨g, 0, none⟩) l1 l1, .int .i64 0]) ∧ Lies w' (some ⟨g, 0, none⟩) l1 l1 (undv k b z y l2) ∧ Below w.heap.size w w' :=
  (undo_yes k b hk hb1 hb a1 l1 c1 z a2 l2 c2 y w h1 h2).mono fun _ _ ⟨he, hg, hB⟩ => ⟨_, he, lies_new h1.reach (undv_lt k b hb1 z y l2) hg, hB⟩
theorem do_l (k b : Nat) (hk : k ≤ 4) (hb1 : 1 ≤ b) (hb : b ≤ 8) (a1 : Option Addr) (l1 c1 : Nat) (z : Nat → Nat) (a2 : Option Addr) (l2 c2 : Nat) (y : Nat → Nat) (w : World) (h1 : Lies w a1 l1 c1 z) (h2 : Lies w a2 l2 c2 y) :
    Calls Tryd.prog 8 #[.int .i64 (k : Nat), .int .i64 (b : Nat), .slice a1 l1 c1, .slice a2 l2 c2] w fun e w' => ∃ g, e = .returned (.tuple #[.slice (some ⟨g, 0, none⟩) l1 l1, .int .i64 0]) ∧ Lies w' (some ⟨g, 0, none⟩) l1 l1 (dov k b z l1 y l2) ∧ Below w.heap.size w w' :=
  (do_yes k b hk hb1 hb a1 l1 c1 z a2 l2 c2 y w h1 h2).mono fun _ _ ⟨he, hg, hB⟩ => ⟨_, he, lies_new h1.reach (dov_lt k b z l1 y l2) hg, hB⟩
theorem Rw.get {w : World} {base : Nat} {e : TypeId} {v : Value} {L : List Pas} (h : Rw w base e v L) {n : Nat} (hl : L.length = n) {i : Nat} {p : Pas} (hp : L[i]? = some p) : ∃ g cap, v = .slice (some ⟨g, 0, none⟩) n cap ∧ n ≤ cap ∧ w.rangeAt g (6 * i) (pcs p) := by
  obtain ⟨g, cap, hv, hlc, _, _, hr⟩ := h.range hp
  rw [hl] at hv hlc
  exact ⟨g, cap, hv, hlc, hr⟩
theorem Rw.nolen {w : World} {base : Nat} {e : TypeId} {v : Value} {L : List Pas} (h : Rw w base e v L) {n : Nat} (hl : L.length = n) : ∃ a cap, v = .slice a n cap := by
  obtain ⟨a, cap, hv⟩ := h.form
  rw [hl] at hv
  exact ⟨a, cap, hv⟩

set_option maxRecDepth 100000 in
set_option maxHeartbeats 1600000 in
theorem known_any (w : World) (hT : Tab w) : Calls Tryd.prog 10 #[] w fun e w' => e = .returned (.bool true) ∧ Below w.heap.size w w' := by
  have b0 : Below w.heap.size w (w.alloc (.cells #[.int .u8 1, .int .u8 1, .int .u8 1] 5)) := (Below.refl _ _).alloc (Nat.le_refl _) _
  have L0 : Lies (w.alloc (.cells #[.int .u8 1, .int .u8 1, .int .u8 1] 5)) (some ⟨w.heap.size, 0, none⟩) 3 3 (zl [1, 1, 1]) := lies_lit (cs := [1, 1, 1]) (by decide) (by decide) (blk_new w _)
  have N0 : Lies (w.alloc (.cells #[.int .u8 1, .int .u8 1, .int .u8 1] 5)) none 0 0 (fun _ => 0) := Lies.none _ _ (fun _ => by omega)
  go_enter Tryd.func10, Tryd.ntmps10
  go_wp2_with fail
  refine (undo_l 1 1 (by omega) (by omega) (by omega) _ 3 3 (zl [1, 1, 1]) _ 0 0 (fun _ => 0) _ L0 N0).mono ?_
  rintro e w1 ⟨g, rfl, L1, b1⟩
  have B1 : Below w.heap.size w w1 := b0.trans (b1.mono b0.size)
  clear b0 L0 N0 b1
  go_wp2_with fail
  refine (passes_any 8 8 _ (hT.below B1 hT.pos)).mono ?_
  rintro e w2 ⟨v, rfl, hR, b2⟩
  obtain ⟨g2, c2, rfl, hlc, hrg⟩ := hR.get (n := 7) (by kernel_rfl) (i := 0) (p := ⟨0, 0, 8, 8, 1, 1⟩) (by kernel_rfl)
  have e0 : w2.cell? ⟨g2, 0, none⟩ = some (.int .i64 0) := hrg 0 _ rfl
  have e1 : w2.cell? ⟨g2, 1, none⟩ = some (.int .i64 0) := hrg 1 _ rfl
  have e2 : w2.cell? ⟨g2, 2, none⟩ = some (.int .i64 8) := hrg 2 _ rfl
  have e3 : w2.cell? ⟨g2, 3, none⟩ = some (.int .i64 8) := hrg 3 _ rfl
  have e4 : w2.cell? ⟨g2, 4, none⟩ = some (.int .i64 1) := hrg 4 _ rfl
  have e5 : w2.cell? ⟨g2, 5, none⟩ = some (.int .i64 1) := hrg 5 _ rfl
  have hcv := conv_string (L1.below b2 (Nat.le_refl _))
  rw [show bstr (undv 1 1 (zl [1, 1, 1]) (fun _ => 0) 0) 3 = ⟨#[1, 2, 3]⟩ by kernel_rfl] at hcv
  have B2 : Below w.heap.size w w2 := B1.trans (b2.mono B1.size)
  clear hR hrg L1 b2 B1
  go_wp2
  go_ret
  exact ⟨rfl, B2⟩
end Go.Proofs.YtciobjjhdeagkaaDoor
