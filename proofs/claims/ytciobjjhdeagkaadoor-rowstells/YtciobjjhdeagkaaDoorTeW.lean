/-
  RowsTells' own walk.
-/
import Derived.Test.YtciobjjhdeagkaaDoorKno
import Derived.Test.YtciobjjhdeagkaaDoorPick
import Derived.Test.YtciobjjhdeagkaaDoorRUn
import Derived.Test.YtciobjjhdeagkaaDoorRPs
namespace Go.Proofs.YtciobjjhdeagkaaDoor
open Go.RowKit

theorem rundo_l (k b : Nat) (hk : k ≤ 4) (hb1 : 1 ≤ b) (hb : b ≤ 8) (a1 : Option Addr) (l1 c1 : Nat) (z : Nat → Nat) (a2 : Option Addr) (l2 c2 : Nat) (y : Nat → Nat) (w : World) (h1 : Lies w a1 l1 c1 z) (h2 : Lies w a2 l2 c2 y) :
    Calls Tryd.prog 12 #[.int .i64 (k : Nat), .int .i64 (b : Nat), .slice a1 l1 c1, .slice a2 l2 c2] w fun e w' => ∃ g, e = .returned (.tuple #[.slice (some ⟨g, 0, none⟩) l1 l1, .bool true]) ∧ Lies w' (some ⟨g, 0, none⟩) l1 l1 (undv k b z y l2) ∧ Below w.heap.size w w' :=
  (rundo_yes k b hk hb1 hb a1 l1 c1 z a2 l2 c2 y w h1 h2).mono fun _ _ ⟨he, hg, hB⟩ => ⟨_, he, lies_new h1.reach (undv_lt k b hb1 z y l2) hg, hB⟩
theorem rdo_l (k b : Nat) (hk : k ≤ 4) (hb1 : 1 ≤ b) (hb : b ≤ 8) (a1 : Option Addr) (l1 c1 : Nat) (z : Nat → Nat) (a2 : Option Addr) (l2 c2 : Nat) (y : Nat → Nat) (w : World) (h1 : Lies w a1 l1 c1 z) (h2 : Lies w a2 l2 c2 y) :
    Calls Tryd.prog 13 #[.int .i64 (k : Nat), .int .i64 (b : Nat), .slice a1 l1 c1, .slice a2 l2 c2] w fun e w' => ∃ g, e = .returned (.tuple #[.slice (some ⟨g, 0, none⟩) l1 l1, .bool true]) ∧ Lies w' (some ⟨g, 0, none⟩) l1 l1 (dov k b z l1 y l2) ∧ Below w.heap.size w w' :=
  (rdo_yes k b hk hb1 hb a1 l1 c1 z a2 l2 c2 y w h1 h2).mono fun _ _ ⟨he, hg, hB⟩ => ⟨_, he, lies_new h1.reach (dov_lt k b z l1 y l2) hg, hB⟩
theorem conv_nil (w : World) : (convert 22 9 (.slice none 0 0)).run Tryd.prog w = .ok (.string (bstr (fun _ => 0) 0)) w := conv_string (Lies.none w _ (fun _ => by omega))
set_option maxRecDepth 100000 in
set_option maxHeartbeats 6400000 in
theorem tells_raw_yes (w : World) (K N : Int) (a1 : Option Addr) (l1 c1 : Nat) (z : Nat → Nat) (a2 : Option Addr) (l2 c2 : Nat) (y : Nat → Nat) (n h : Int) (h1 : Lies w a1 l1 c1 z) (h2 : Lies w a2 l2 c2 y) (hT : Tab w) (hkb : 0 ≤ K ∧ K ≤ 4 ∧ 1 ≤ N ∧ N ≤ 8) :
    Calls Tryd.prog 4 #[.int .i64 K, .int .i64 N, .slice a1 l1 c1, .slice a2 l2 c2, .int .i64 n, .int .i64 h, .bool true] w fun e w' => e = .returned (.bool true) ∧ Below w.heap.size w w' := by
  obtain ⟨k, rfl⟩ : ∃ k : Nat, K = k := ⟨K.toNat, by omega⟩
  obtain ⟨b, rfl⟩ : ∃ b : Nat, N = b := ⟨N.toNat, by omega⟩
  have L1 := h1
  have L2 := h2
  have B1 := Below.refl w.heap.size w
  go_enter Tryd.func4, Tryd.ntmps4
  go_wp2_with fail
  refine (undo_l k b (by omega) (by omega) (by omega) _ _ _ z _ _ _ y _ L1 L2).mono ?_
  rintro e w2 ⟨g2, rfl, M2, x2⟩
  replace L1 := L1.below x2 (Nat.le_refl _)
  replace L2 := L2.below x2 (Nat.le_refl _)
  have B2 : Below w.heap.size w w2 := B1.trans (x2.mono B1.size)
  clear x2 B1
  go_wp2_with fail
  refine (rundo_l k b (by omega) (by omega) (by omega) _ _ _ z _ _ _ y _ L1 L2).mono ?_
  rintro e w3 ⟨g3, rfl, M3, x3⟩
  replace L1 := L1.below x3 (Nat.le_refl _)
  replace L2 := L2.below x3 (Nat.le_refl _)
  have B3 : Below w.heap.size w w3 := B2.trans (x3.mono B2.size)
  replace M2 := M2.below x3 (Nat.le_refl _)
  clear x3 B2
  go_wp2_with fail
  refine (do_l k b (by omega) (by omega) (by omega) _ _ _ z _ _ _ y _ L1 L2).mono ?_
  rintro e w4 ⟨g4, rfl, M4, x4⟩
  replace L1 := L1.below x4 (Nat.le_refl _)
  replace L2 := L2.below x4 (Nat.le_refl _)
  have B4 : Below w.heap.size w w4 := B3.trans (x4.mono B3.size)
  replace M2 := M2.below x4 (Nat.le_refl _)
  replace M3 := M3.below x4 (Nat.le_refl _)
  clear x4 B3
  go_wp2_with fail
  refine (rdo_l k b (by omega) (by omega) (by omega) _ _ _ z _ _ _ y _ L1 L2).mono ?_
  rintro e w5 ⟨g5, rfl, M5, x5⟩
  replace L1 := L1.below x5 (Nat.le_refl _)
  replace L2 := L2.below x5 (Nat.le_refl _)
  have B5 : Below w.heap.size w w5 := B4.trans (x5.mono B4.size)
  replace M2 := M2.below x5 (Nat.le_refl _)
  replace M3 := M3.below x5 (Nat.le_refl _)
  replace M4 := M4.below x5 (Nat.le_refl _)
  clear x5 B4
  go_wp2_with fail
  have hT5 := hT.below B5 hT.pos
  refine (known_any _ hT5).mono ?_
  rintro e w6 ⟨rfl, x6⟩
  have hT6 := hT5.below x6 hT5.pos
  have B6 := B5.trans (x6.mono B5.size)
  have C2 := conv_string (M2.below x6 (Nat.le_refl _))
  have C3 := conv_string (M3.below x6 (Nat.le_refl _))
  have C4 := conv_string (M4.below x6 (Nat.le_refl _))
  have C5 := conv_string (M5.below x6 (Nat.le_refl _))
  obtain ⟨S, hS⟩ : ∃ S, Hid (bstr (undv k b z y l2) l1 = S) := ⟨_, rfl⟩
  obtain ⟨D, hD⟩ : ∃ D, Hid (bstr (dov k b z l1 y l2) l1 = D) := ⟨_, rfl⟩
  rw [hS.out] at C2 C3
  rw [hD.out] at C4 C5
  clear M2 M3 M4 M5 L1 L2
  clear B5 hT5
  go_wp2_with fail
  refine (passes_any n h _ hT6).mono ?_
  rintro e w7 ⟨v7, rfl, R7, x7⟩
  have B7 := B6.trans (x7.mono B6.size)
  obtain ⟨L, hL⟩ : ∃ L, Hid (passL (sidev n) (sidev h) 7 = L) := ⟨_, rfl⟩
  rw [hL.out] at R7
  have hl7 : L.length ≤ 7 := by rw [← hL.out]; exact passL_len _ _ 7
  obtain ⟨a7, c7, rfl⟩ := R7.form
  clear x6 B6 hT6 x7
  go_wp2_with fail
  refine (rpasses_any n h _).mono ?_
  rintro e w8 ⟨v8, rfl, R8, x8⟩
  rw [hL.out] at R8
  replace R7 := R7.below x8
  have B8 := B7.trans (x8.mono B7.size)
  obtain ⟨a8, c8, rfl⟩ := R8.form
  clear x8 B7
  go_wp2_with fail
  go_loopw [122] (fun v wq => ∃ i : Nat, i ≤ L.length ∧ v = .int .i64 (i : Nat) ∧ Below w8.heap.size w8 wq) (fun v _ => L.length - (intOf v).toNat)
  case atStart => exact ⟨0, by omega, rfl, Below.refl _ _⟩
  case round =>
    obtain ⟨i, hil, rfl, hB⟩ := hrel
    by_cases hi : i < L.length
    · have hi' : (i : Int) < L.length := by omega
      obtain ⟨p, hp⟩ : ∃ p, L[i]? = some p := ⟨_, List.getElem?_eq_getElem hi⟩
      obtain ⟨g7, d7, e7, lc7, _, _, r7⟩ := (R7.below hB).range hp
      obtain ⟨g8, d8, e8, lc8, _, _, r8⟩ := (R8.below hB).range hp
      simp only [Value.slice.injEq, true_and] at e7 e8
      obtain ⟨rfl, rfl⟩ := e7
      obtain ⟨rfl, rfl⟩ := e8
      obtain ⟨px, py, pdx, pdy, pw, ph⟩ := p
      obtain ⟨I, hI⟩ : ∃ I, 6 * i = I := ⟨_, rfl⟩
      have hI2 : i * 6 = I := by omega
      rw [hI] at r7 r8
      have m0 : wr.cell? ⟨g8, I, none⟩ = some (.int .i64 (px : Nat)) := r8 0 _ rfl
      have m1 : wr.cell? ⟨g8, I + 1, none⟩ = some (.int .i64 (py : Nat)) := r8 1 _ rfl
      have m2 : wr.cell? ⟨g8, I + 2, none⟩ = some (.int .i64 (pdx : Nat)) := r8 2 _ rfl
      have m3 : wr.cell? ⟨g8, I + 3, none⟩ = some (.int .i64 (pdy : Nat)) := r8 3 _ rfl
      have m4 : wr.cell? ⟨g8, I + 4, none⟩ = some (.int .i64 (pw : Nat)) := r8 4 _ rfl
      have m5 : wr.cell? ⟨g8, I + 5, none⟩ = some (.int .i64 (ph : Nat)) := r8 5 _ rfl
      have hin := Ext.inh wr
      have q0 := fun k : Ext wr => Ext.cell m0 k
      have q1 := fun k : Ext wr => Ext.cell m1 k
      have q2 := fun k : Ext wr => Ext.cell m2 k
      have q3 := fun k : Ext wr => Ext.cell m3 k
      have q4 := fun k : Ext wr => Ext.cell m4 k
      have q5 := fun k : Ext wr => Ext.cell m5 k
      have R7x : ∀ k : Ext wr, k.w.rangeAt g7 I (pcs ⟨px, py, pdx, pdy, pw, ph⟩) := fun k j v hv => Ext.cell (r7 j v hv) k
      have n0 : wr.cell? ⟨g7, I, none⟩ = some (.int .i64 (px : Nat)) := r7 0 _ rfl
      have s0 := fun k : Ext wr => Ext.cell n0 k
      have n1 : wr.cell? ⟨g7, I + 1, none⟩ = some (.int .i64 (py : Nat)) := r7 1 _ rfl
      have s1 := fun k : Ext wr => Ext.cell n1 k
      have n2 : wr.cell? ⟨g7, I + 2, none⟩ = some (.int .i64 (pdx : Nat)) := r7 2 _ rfl
      have s2 := fun k : Ext wr => Ext.cell n2 k
      have n3 : wr.cell? ⟨g7, I + 3, none⟩ = some (.int .i64 (pdy : Nat)) := r7 3 _ rfl
      have s3 := fun k : Ext wr => Ext.cell n3 k
      have n4 : wr.cell? ⟨g7, I + 4, none⟩ = some (.int .i64 (pw : Nat)) := r7 4 _ rfl
      have s4 := fun k : Ext wr => Ext.cell n4 k
      have n5 : wr.cell? ⟨g7, I + 5, none⟩ = some (.int .i64 (ph : Nat)) := r7 5 _ rfl
      have s5 := fun k : Ext wr => Ext.cell n5 k
      go_wp2_with fail
      refine region_ext (by kernel_rfl) (by kernel_rfl) ?_
      repeat (go_big_quiet_step (fail))
      refine wpQuiet_nil ?_
      rintro _ ⟨kk, rfl⟩
      go_wp2
      exact ⟨⟨i + 1, by omega, by go_num, hB.trans (kk.h.mono hB.size)⟩, by simp [intOf]; omega⟩
    · obtain rfl : i = L.length := by omega
      have hi' : ¬ (L.length : Int) < L.length := by omega
      go_wp2
      go_ret
      exact ⟨rfl, B8.trans (hB.mono B8.size)⟩
set_option maxRecDepth 100000 in
set_option maxHeartbeats 6400000 in
theorem tells_made (w : World) (K N : Int) (a1 : Option Addr) (l1 c1 : Nat) (z : Nat → Nat) (a2 : Option Addr) (l2 c2 : Nat) (y : Nat → Nat) (n h : Int) (h1 : Lies w a1 l1 c1 z) (h2 : Lies w a2 l2 c2 y) (hT : Tab w) :
    Calls Tryd.prog 4 #[.int .i64 K, .int .i64 N, .slice a1 l1 c1, .slice a2 l2 c2, .int .i64 n, .int .i64 h, .bool false] w fun e w' => e = .returned (.bool true) ∧ Below w.heap.size w w' := by
  obtain ⟨k, hk⟩ : ∃ p : Nat, Hid (pickv K 5 = p) := ⟨_, rfl⟩
  obtain ⟨q, hq⟩ : ∃ p : Nat, Hid (pickv N 8 = p) := ⟨_, rfl⟩
  obtain ⟨n', hn⟩ : ∃ p : Nat, Hid (pickv n 30 = p) := ⟨_, rfl⟩
  obtain ⟨h', hh⟩ : ∃ p : Nat, Hid (pickv h 30 = p) := ⟨_, rfl⟩
  have hk5 : k < 5 := by rw [← hk.out]; exact pickv_lt K 5 (by omega)
  have hq8 : q < 8 := by rw [← hq.out]; exact pickv_lt N 8 (by omega)
  have P1 : ∀ W, Calls Tryd.prog 11 #[.int .i64 K, .int .i64 5] W fun e w' => e = .returned (.int .i64 (k : Nat)) ∧ w' = W := fun W => by rw [← hk.out]; exact pick_any K 5 (by omega) (by omega) W
  have P2 : ∀ W, Calls Tryd.prog 11 #[.int .i64 N, .int .i64 8] W fun e w' => e = .returned (.int .i64 (q : Nat)) ∧ w' = W := fun W => by rw [← hq.out]; exact pick_any N 8 (by omega) (by omega) W
  have P3 : ∀ W, Calls Tryd.prog 11 #[.int .i64 n, .int .i64 30] W fun e w' => e = .returned (.int .i64 (n' : Nat)) ∧ w' = W := fun W => by rw [← hn.out]; exact pick_any n 30 (by omega) (by omega) W
  have P4 : ∀ W, Calls Tryd.prog 11 #[.int .i64 h, .int .i64 30] W fun e w' => e = .returned (.int .i64 (h' : Nat)) ∧ w' = W := fun W => by rw [← hh.out]; exact pick_any h 30 (by omega) (by omega) W
  obtain ⟨b, hb⟩ : ∃ b : Nat, (1 : Int) + (q : Nat) = b := ⟨1 + q, by omega⟩
  have hb1 : 1 ≤ b := by omega
  have hb8 : b ≤ 8 := by omega
  have L1 := h1
  have L2 := h2
  have B1 := Below.refl w.heap.size w
  go_enter Tryd.func4, Tryd.ntmps4
  go_wp2_with fail
  refine (P1 _).mono ?_
  rintro e W1 ⟨rfl, rfl⟩
  go_wp2_with fail
  refine (P2 _).mono ?_
  rintro e W1 ⟨rfl, rfl⟩
  go_wp2_with fail
  refine (P3 _).mono ?_
  rintro e W1 ⟨rfl, rfl⟩
  go_wp2_with fail
  refine (P4 _).mono ?_
  rintro e W1 ⟨rfl, rfl⟩
  obtain ⟨w, hw⟩ : ∃ w, w = W1 := ⟨_, rfl⟩
  subst hw
  clear P1 P2 P3 P4 hb
  go_wp2_with fail
  refine (undo_l k b (by omega) (by omega) (by omega) _ _ _ z _ _ _ y _ L1 L2).mono ?_
  rintro e w2 ⟨g2, rfl, M2, x2⟩
  replace L1 := L1.below x2 (Nat.le_refl _)
  replace L2 := L2.below x2 (Nat.le_refl _)
  have B2 : Below w.heap.size w w2 := B1.trans (x2.mono B1.size)
  clear x2 B1
  go_wp2_with fail
  refine (rundo_l k b (by omega) (by omega) (by omega) _ _ _ z _ _ _ y _ L1 L2).mono ?_
  rintro e w3 ⟨g3, rfl, M3, x3⟩
  replace L1 := L1.below x3 (Nat.le_refl _)
  replace L2 := L2.below x3 (Nat.le_refl _)
  have B3 : Below w.heap.size w w3 := B2.trans (x3.mono B2.size)
  replace M2 := M2.below x3 (Nat.le_refl _)
  clear x3 B2
  go_wp2_with fail
  refine (do_l k b (by omega) (by omega) (by omega) _ _ _ z _ _ _ y _ L1 L2).mono ?_
  rintro e w4 ⟨g4, rfl, M4, x4⟩
  replace L1 := L1.below x4 (Nat.le_refl _)
  replace L2 := L2.below x4 (Nat.le_refl _)
  have B4 : Below w.heap.size w w4 := B3.trans (x4.mono B3.size)
  replace M2 := M2.below x4 (Nat.le_refl _)
  replace M3 := M3.below x4 (Nat.le_refl _)
  clear x4 B3
  go_wp2_with fail
  refine (rdo_l k b (by omega) (by omega) (by omega) _ _ _ z _ _ _ y _ L1 L2).mono ?_
  rintro e w5 ⟨g5, rfl, M5, x5⟩
  replace L1 := L1.below x5 (Nat.le_refl _)
  replace L2 := L2.below x5 (Nat.le_refl _)
  have B5 : Below w.heap.size w w5 := B4.trans (x5.mono B4.size)
  replace M2 := M2.below x5 (Nat.le_refl _)
  replace M3 := M3.below x5 (Nat.le_refl _)
  replace M4 := M4.below x5 (Nat.le_refl _)
  clear x5 B4
  go_wp2_with fail
  have hT5 := hT.below B5 hT.pos
  refine (known_any _ hT5).mono ?_
  rintro e w6 ⟨rfl, x6⟩
  have hT6 := hT5.below x6 hT5.pos
  have B6 := B5.trans (x6.mono B5.size)
  have C2 := conv_string (M2.below x6 (Nat.le_refl _))
  have C3 := conv_string (M3.below x6 (Nat.le_refl _))
  have C4 := conv_string (M4.below x6 (Nat.le_refl _))
  have C5 := conv_string (M5.below x6 (Nat.le_refl _))
  obtain ⟨S, hS⟩ : ∃ S, Hid (bstr (undv k b z y l2) l1 = S) := ⟨_, rfl⟩
  obtain ⟨D, hD⟩ : ∃ D, Hid (bstr (dov k b z l1 y l2) l1 = D) := ⟨_, rfl⟩
  rw [hS.out] at C2 C3
  rw [hD.out] at C4 C5
  clear M2 M3 M4 M5 L1 L2
  clear B5 hT5
  go_wp2_with fail
  refine (passes_any (n' : Nat) (h' : Nat) _ hT6).mono ?_
  rintro e w7 ⟨v7, rfl, R7, x7⟩
  have B7 := B6.trans (x7.mono B6.size)
  obtain ⟨L, hL⟩ : ∃ L, Hid (passL (sidev (n' : Nat)) (sidev (h' : Nat)) 7 = L) := ⟨_, rfl⟩
  rw [hL.out] at R7
  have hl7 : L.length ≤ 7 := by rw [← hL.out]; exact passL_len _ _ 7
  obtain ⟨a7, c7, rfl⟩ := R7.form
  clear x6 B6 hT6 x7
  go_wp2_with fail
  refine (rpasses_any (n' : Nat) (h' : Nat) _).mono ?_
  rintro e w8 ⟨v8, rfl, R8, x8⟩
  rw [hL.out] at R8
  replace R7 := R7.below x8
  have B8 := B7.trans (x8.mono B7.size)
  obtain ⟨a8, c8, rfl⟩ := R8.form
  clear x8 B7
  go_wp2_with fail
  go_loopw [122] (fun v wq => ∃ i : Nat, i ≤ L.length ∧ v = .int .i64 (i : Nat) ∧ Below w8.heap.size w8 wq) (fun v _ => L.length - (intOf v).toNat)
  case atStart => exact ⟨0, by omega, rfl, Below.refl _ _⟩
  case round =>
    obtain ⟨i, hil, rfl, hB⟩ := hrel
    by_cases hi : i < L.length
    · have hi' : (i : Int) < L.length := by omega
      obtain ⟨p, hp⟩ : ∃ p, L[i]? = some p := ⟨_, List.getElem?_eq_getElem hi⟩
      obtain ⟨g7, d7, e7, lc7, _, _, r7⟩ := (R7.below hB).range hp
      obtain ⟨g8, d8, e8, lc8, _, _, r8⟩ := (R8.below hB).range hp
      simp only [Value.slice.injEq, true_and] at e7 e8
      obtain ⟨rfl, rfl⟩ := e7
      obtain ⟨rfl, rfl⟩ := e8
      obtain ⟨px, py, pdx, pdy, pw, ph⟩ := p
      obtain ⟨I, hI⟩ : ∃ I, 6 * i = I := ⟨_, rfl⟩
      have hI2 : i * 6 = I := by omega
      rw [hI] at r7 r8
      have m0 : wr.cell? ⟨g8, I, none⟩ = some (.int .i64 (px : Nat)) := r8 0 _ rfl
      have m1 : wr.cell? ⟨g8, I + 1, none⟩ = some (.int .i64 (py : Nat)) := r8 1 _ rfl
      have m2 : wr.cell? ⟨g8, I + 2, none⟩ = some (.int .i64 (pdx : Nat)) := r8 2 _ rfl
      have m3 : wr.cell? ⟨g8, I + 3, none⟩ = some (.int .i64 (pdy : Nat)) := r8 3 _ rfl
      have m4 : wr.cell? ⟨g8, I + 4, none⟩ = some (.int .i64 (pw : Nat)) := r8 4 _ rfl
      have m5 : wr.cell? ⟨g8, I + 5, none⟩ = some (.int .i64 (ph : Nat)) := r8 5 _ rfl
      have hin := Ext.inh wr
      have q0 := fun k : Ext wr => Ext.cell m0 k
      have q1 := fun k : Ext wr => Ext.cell m1 k
      have q2 := fun k : Ext wr => Ext.cell m2 k
      have q3 := fun k : Ext wr => Ext.cell m3 k
      have q4 := fun k : Ext wr => Ext.cell m4 k
      have q5 := fun k : Ext wr => Ext.cell m5 k
      have R7x : ∀ k : Ext wr, k.w.rangeAt g7 I (pcs ⟨px, py, pdx, pdy, pw, ph⟩) := fun k j v hv => Ext.cell (r7 j v hv) k
      have n0 : wr.cell? ⟨g7, I, none⟩ = some (.int .i64 (px : Nat)) := r7 0 _ rfl
      have s0 := fun k : Ext wr => Ext.cell n0 k
      have n1 : wr.cell? ⟨g7, I + 1, none⟩ = some (.int .i64 (py : Nat)) := r7 1 _ rfl
      have s1 := fun k : Ext wr => Ext.cell n1 k
      have n2 : wr.cell? ⟨g7, I + 2, none⟩ = some (.int .i64 (pdx : Nat)) := r7 2 _ rfl
      have s2 := fun k : Ext wr => Ext.cell n2 k
      have n3 : wr.cell? ⟨g7, I + 3, none⟩ = some (.int .i64 (pdy : Nat)) := r7 3 _ rfl
      have s3 := fun k : Ext wr => Ext.cell n3 k
      have n4 : wr.cell? ⟨g7, I + 4, none⟩ = some (.int .i64 (pw : Nat)) := r7 4 _ rfl
      have s4 := fun k : Ext wr => Ext.cell n4 k
      have n5 : wr.cell? ⟨g7, I + 5, none⟩ = some (.int .i64 (ph : Nat)) := r7 5 _ rfl
      have s5 := fun k : Ext wr => Ext.cell n5 k
      go_wp2_with fail
      refine region_ext (by kernel_rfl) (by kernel_rfl) ?_
      repeat (go_big_quiet_step (fail))
      refine wpQuiet_nil ?_
      rintro _ ⟨kk, rfl⟩
      go_wp2
      exact ⟨⟨i + 1, by omega, by go_num, hB.trans (kk.h.mono hB.size)⟩, by simp [intOf]; omega⟩
    · obtain rfl : i = L.length := by omega
      have hi' : ¬ (L.length : Int) < L.length := by omega
      go_wp2
      go_ret
      exact ⟨rfl, B8.trans (hB.mono B8.size)⟩
set_option maxRecDepth 100000 in
set_option maxHeartbeats 6400000 in
theorem tells_raw_no (w : World) (K N : Int) (a1 : Option Addr) (l1 c1 : Nat) (z : Nat → Nat) (a2 : Option Addr) (l2 c2 : Nat) (y : Nat → Nat) (n h : Int) (h1 : Lies w a1 l1 c1 z) (h2 : Lies w a2 l2 c2 y) (hT : Tab w) (hkb : ¬ (0 ≤ K ∧ K ≤ 4 ∧ 1 ≤ N ∧ N ≤ 8)) :
    Calls Tryd.prog 4 #[.int .i64 K, .int .i64 N, .slice a1 l1 c1, .slice a2 l2 c2, .int .i64 n, .int .i64 h, .bool true] w fun e w' => e = .returned (.bool true) ∧ Below w.heap.size w w' := by
  have HKB : Hid (¬ (0 ≤ K ∧ K ≤ 4 ∧ 1 ≤ N ∧ N ≤ 8)) := hkb
  clear hkb
  go_enter Tryd.func4, Tryd.ntmps4
  go_wp2_with fail
  refine (undo_no K N HKB.out _ _ _).mono ?_
  rintro e W0 ⟨rfl, rfl⟩
  go_wp2_with fail
  refine (rundo_no K N HKB.out _ _ _).mono ?_
  rintro e W1 ⟨rfl, rfl⟩
  go_wp2_with fail
  refine (do_no K N HKB.out _ _ _).mono ?_
  rintro e W2 ⟨rfl, rfl⟩
  go_wp2_with fail
  refine (rdo_no K N HKB.out _ _ _).mono ?_
  rintro e W3 ⟨rfl, rfl⟩
  go_wp2_with fail
  obtain ⟨w, hw⟩ : ∃ w, w = W3 := ⟨_, rfl⟩
  subst hw
  have hT5 := hT
  have B5 := Below.refl w.heap.size w
  refine (known_any _ hT5).mono ?_
  rintro e w6 ⟨rfl, x6⟩
  have hT6 := hT5.below x6 hT5.pos
  have B6 := B5.trans (x6.mono B5.size)
  have C2 := conv_nil w6
  clear B5 hT5
  go_wp2_with fail
  refine (passes_any n h _ hT6).mono ?_
  rintro e w7 ⟨v7, rfl, R7, x7⟩
  have B7 := B6.trans (x7.mono B6.size)
  obtain ⟨L, hL⟩ : ∃ L, Hid (passL (sidev n) (sidev h) 7 = L) := ⟨_, rfl⟩
  rw [hL.out] at R7
  have hl7 : L.length ≤ 7 := by rw [← hL.out]; exact passL_len _ _ 7
  obtain ⟨a7, c7, rfl⟩ := R7.form
  clear x6 B6 hT6 x7
  go_wp2_with fail
  refine (rpasses_any n h _).mono ?_
  rintro e w8 ⟨v8, rfl, R8, x8⟩
  rw [hL.out] at R8
  replace R7 := R7.below x8
  have B8 := B7.trans (x8.mono B7.size)
  obtain ⟨a8, c8, rfl⟩ := R8.form
  clear x8 B7
  go_wp2_with fail
  go_loopw [122] (fun v wq => ∃ i : Nat, i ≤ L.length ∧ v = .int .i64 (i : Nat) ∧ Below w8.heap.size w8 wq) (fun v _ => L.length - (intOf v).toNat)
  case atStart => exact ⟨0, by omega, rfl, Below.refl _ _⟩
  case round =>
    obtain ⟨i, hil, rfl, hB⟩ := hrel
    by_cases hi : i < L.length
    · have hi' : (i : Int) < L.length := by omega
      obtain ⟨p, hp⟩ : ∃ p, L[i]? = some p := ⟨_, List.getElem?_eq_getElem hi⟩
      obtain ⟨g7, d7, e7, lc7, _, _, r7⟩ := (R7.below hB).range hp
      obtain ⟨g8, d8, e8, lc8, _, _, r8⟩ := (R8.below hB).range hp
      simp only [Value.slice.injEq, true_and] at e7 e8
      obtain ⟨rfl, rfl⟩ := e7
      obtain ⟨rfl, rfl⟩ := e8
      obtain ⟨px, py, pdx, pdy, pw, ph⟩ := p
      obtain ⟨I, hI⟩ : ∃ I, 6 * i = I := ⟨_, rfl⟩
      have hI2 : i * 6 = I := by omega
      rw [hI] at r7 r8
      have m0 : wr.cell? ⟨g8, I, none⟩ = some (.int .i64 (px : Nat)) := r8 0 _ rfl
      have m1 : wr.cell? ⟨g8, I + 1, none⟩ = some (.int .i64 (py : Nat)) := r8 1 _ rfl
      have m2 : wr.cell? ⟨g8, I + 2, none⟩ = some (.int .i64 (pdx : Nat)) := r8 2 _ rfl
      have m3 : wr.cell? ⟨g8, I + 3, none⟩ = some (.int .i64 (pdy : Nat)) := r8 3 _ rfl
      have m4 : wr.cell? ⟨g8, I + 4, none⟩ = some (.int .i64 (pw : Nat)) := r8 4 _ rfl
      have m5 : wr.cell? ⟨g8, I + 5, none⟩ = some (.int .i64 (ph : Nat)) := r8 5 _ rfl
      have hin := Ext.inh wr
      have q0 := fun k : Ext wr => Ext.cell m0 k
      have q1 := fun k : Ext wr => Ext.cell m1 k
      have q2 := fun k : Ext wr => Ext.cell m2 k
      have q3 := fun k : Ext wr => Ext.cell m3 k
      have q4 := fun k : Ext wr => Ext.cell m4 k
      have q5 := fun k : Ext wr => Ext.cell m5 k
      have R7x : ∀ k : Ext wr, k.w.rangeAt g7 I (pcs ⟨px, py, pdx, pdy, pw, ph⟩) := fun k j v hv => Ext.cell (r7 j v hv) k
      have n0 : wr.cell? ⟨g7, I, none⟩ = some (.int .i64 (px : Nat)) := r7 0 _ rfl
      have s0 := fun k : Ext wr => Ext.cell n0 k
      have n1 : wr.cell? ⟨g7, I + 1, none⟩ = some (.int .i64 (py : Nat)) := r7 1 _ rfl
      have s1 := fun k : Ext wr => Ext.cell n1 k
      have n2 : wr.cell? ⟨g7, I + 2, none⟩ = some (.int .i64 (pdx : Nat)) := r7 2 _ rfl
      have s2 := fun k : Ext wr => Ext.cell n2 k
      have n3 : wr.cell? ⟨g7, I + 3, none⟩ = some (.int .i64 (pdy : Nat)) := r7 3 _ rfl
      have s3 := fun k : Ext wr => Ext.cell n3 k
      have n4 : wr.cell? ⟨g7, I + 4, none⟩ = some (.int .i64 (pw : Nat)) := r7 4 _ rfl
      have s4 := fun k : Ext wr => Ext.cell n4 k
      have n5 : wr.cell? ⟨g7, I + 5, none⟩ = some (.int .i64 (ph : Nat)) := r7 5 _ rfl
      have s5 := fun k : Ext wr => Ext.cell n5 k
      go_wp2_with fail
      refine region_ext (by kernel_rfl) (by kernel_rfl) ?_
      repeat (go_big_quiet_step (fail))
      refine wpQuiet_nil ?_
      rintro _ ⟨kk, rfl⟩
      go_wp2
      exact ⟨⟨i + 1, by omega, by go_num, hB.trans (kk.h.mono hB.size)⟩, by simp [intOf]; omega⟩
    · obtain rfl : i = L.length := by omega
      have hi' : ¬ (L.length : Int) < L.length := by omega
      go_wp2
      go_ret
      exact ⟨rfl, B8.trans (hB.mono B8.size)⟩
theorem rowsTells_walk (w : World) (K N : Int) (a1 : Option Addr) (l1 c1 : Nat) (z : Nat → Nat) (a2 : Option Addr) (l2 c2 : Nat) (y : Nat → Nat) (n h : Int) (r : Bool) (h1 : Lies w a1 l1 c1 z) (h2 : Lies w a2 l2 c2 y) (hT : Tab w) :
    Calls Tryd.prog 4 #[.int .i64 K, .int .i64 N, .slice a1 l1 c1, .slice a2 l2 c2, .int .i64 n, .int .i64 h, .bool r] w fun e w' => e = .returned (.bool true) ∧ Below w.heap.size w w' := by
  cases r with
  | false => exact tells_made w K N a1 l1 c1 z a2 l2 c2 y n h h1 h2 hT
  | true =>
    by_cases hkb : 0 ≤ K ∧ K ≤ 4 ∧ 1 ≤ N ∧ N ≤ 8
    · exact tells_raw_yes w K N a1 l1 c1 z a2 l2 c2 y n h h1 h2 hT hkb
    · exact tells_raw_no w K N a1 l1 c1 z a2 l2 c2 y n h h1 h2 hT hkb
end Go.Proofs.YtciobjjhdeagkaaDoor
