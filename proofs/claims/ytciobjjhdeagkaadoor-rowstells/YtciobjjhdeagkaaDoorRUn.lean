/-
  Undo and Do, of the reference.
-/
import Derived.Test.YtciobjjhdeagkaaDoorUnd
namespace Go.Proofs.YtciobjjhdeagkaaDoor
open Go.RowKit

set_option maxRecDepth 100000 in
theorem rundo_no (k b : Int) (hkb : ¬ (0 ≤ k ∧ k ≤ 4 ∧ 1 ≤ b ∧ b ≤ 8)) (v1 v2 : Value) (w : World) : Calls Tryd.prog 12 #[.int .i64 k, .int .i64 b, v1, v2] w fun e w' => e = .returned (.tuple #[.slice none 0 0, .bool false]) ∧ w' = w := by
  by_cases h1 : k < 0
  · go_enter Tryd.func12, Tryd.ntmps12
    go_wp2
    go_ret2
    exact ⟨rfl, rfl⟩
  · by_cases h2 : 4 < k
    · go_enter Tryd.func12, Tryd.ntmps12
      go_wp2
      go_ret2
      exact ⟨rfl, rfl⟩
    · by_cases h3 : b < 1
      · go_enter Tryd.func12, Tryd.ntmps12
        go_wp2
        go_ret2
        exact ⟨rfl, rfl⟩
      · have h4 : 8 < b := by omega
        clear hkb
        go_enter Tryd.func12, Tryd.ntmps12
        go_wp2
        go_ret2
        exact ⟨rfl, rfl⟩
set_option maxRecDepth 100000 in
set_option maxHeartbeats 1600000 in
theorem rundo_yes (k b : Nat) (hk : k ≤ 4) (hb1 : 1 ≤ b) (hb : b ≤ 8) (a1 : Option Addr) (l1 c1 : Nat) (z : Nat → Nat) (a2 : Option Addr) (l2 c2 : Nat) (y : Nat → Nat) (w : World) (h1 : Lies w a1 l1 c1 z) (h2 : Lies w a2 l2 c2 y) :
    Calls Tryd.prog 12 #[.int .i64 (k : Nat), .int .i64 (b : Nat), .slice a1 l1 c1, .slice a2 l2 c2] w fun e w' => e = .returned (.tuple #[.slice (some ⟨w.heap.size, 0, none⟩) l1 l1, .bool true]) ∧ w'.heap[w.heap.size]? = some (.cells (arr l1 fun j => .int .u8 (undv k b z y l2 j : Nat)) 5) ∧ Below w.heap.size w w' := by
  have hmk := make22 l1 h1.reach
  have bw : Below w.heap.size w (w.alloc (.cells (arr l1 fun _ => .int .u8 0) 5)) := (Below.refl _ _).alloc (Nat.le_refl _) _
  have hg0 : (w.alloc (.cells (arr l1 fun _ => .int .u8 0) 5)).heap[w.heap.size]? = some (.cells (arr l1 fun j => .int .u8 (madeL (undv k b z y l2) 0 j : Nat)) 5) := by rw [blk_new]; congr 2
  have hre := h1.reach
  have k1 : ¬ (k : Int) < 0 := by omega
  have k2 : ¬ (4 : Int) < k := by omega
  have k3 : ¬ (b : Int) < 1 := by omega
  have k4 : ¬ (8 : Int) < b := by omega
  go_enter Tryd.func12, Tryd.ntmps12
  go_wp2_with fail
  go_loopw [11] (fun v wq => ∃ i : Nat, i ≤ l1 ∧ v = .int .i64 (i : Nat) ∧ wq.heap[w.heap.size]? = some (.cells (arr l1 fun j => .int .u8 (madeL (undv k b z y l2) i j : Nat)) 5) ∧ Below w.heap.size w wq) (fun v _ => l1 - (intOf v).toNat)
  case atStart => exact ⟨0, by omega, rfl, hg0, bw⟩
  case round =>
    clear hg0 bw hmk k1 k2 k3 k4
    obtain ⟨i, hil, rfl, hg, hB⟩ := hrel
    by_cases hi : i < l1
    · have hi' : (i : Int) < l1 := by omega
      have L1 := h1.below hB (Nat.le_refl _)
      have L2 := h2.below hB (Nat.le_refl _)
      obtain ⟨b1, o1, rfl, hb1', hc1⟩ := L1.spot (by omega)
      have hci := hc1 i hi
      have hlc := L1.lc
      obtain ⟨Z, hZ⟩ : ∃ Z, Hid (z i = Z) := ⟨_, rfl⟩
      have hz1 := h1.byte i
      rw [hZ.out] at hci hz1
      have LO : Lies wr (some ⟨w.heap.size, 0, none⟩) l1 l1 (madeL (undv k b z y l2) i) := lies_new hre (madeL_lt (fun j => undv_lt k b hb1 z y l2 j) i) hg
      obtain ⟨X, hX⟩ : ∃ X : Int, (i : Int) - b = X := ⟨_, rfl⟩
      have hXb : -8 ≤ X := by omega
      have L1x := fun k : Ext wr => L1.below k.h (Nat.le_refl _)
      have L2x := fun k : Ext wr => L2.below k.h (Nat.le_refl _)
      have LOx := fun k : Ext wr => LO.below k.h (Nat.le_refl _)
      obtain ⟨p, hp⟩ : ∃ p, Hid (atv (madeL (undv k b z y l2) i) l1 X = p) := ⟨_, rfl⟩
      obtain ⟨q, hq⟩ : ∃ q, Hid (atv y l2 (i : Int) = q) := ⟨_, rfl⟩
      obtain ⟨r, hr⟩ : ∃ r, Hid (atv y l2 X = r) := ⟨_, rfl⟩
      have p1 : p < 256 := by rw [← hp.out]; exact atv_lt LO.byte _ _
      have q1 : q < 256 := by rw [← hq.out]; exact atv_lt h2.byte _ _
      have r1 : r < 256 := by rw [← hr.out]; exact atv_lt h2.byte _ _
      have A1 : ∀ k : Ext wr, Calls Tryd.prog 20 #[.slice (some ⟨w.heap.size, 0, none⟩) l1 l1, .int .i64 X] k.w fun e w' => e = .returned (.int .i64 (p : Nat)) ∧ w' = k.w := fun k => by rw [← hp.out]; exact rat_any (some ⟨w.heap.size, 0, none⟩) l1 l1 _ X k.w (LOx k)
      have A2 : ∀ k : Ext wr, Calls Tryd.prog 20 #[.slice a2 l2 c2, .int .i64 (i : Nat)] k.w fun e w' => e = .returned (.int .i64 (q : Nat)) ∧ w' = k.w := fun k => by rw [← hq.out]; exact rat_any a2 l2 c2 y (i : Nat) k.w (L2x k)
      have A3 : ∀ k : Ext wr, Calls Tryd.prog 20 #[.slice a2 l2 c2, .int .i64 X] k.w fun e w' => e = .returned (.int .i64 (r : Nat)) ∧ w' = k.w := fun k => by rw [← hr.out]; exact rat_any a2 l2 c2 y X k.w (L2x k)
      obtain ⟨G, hG⟩ : ∃ G : Nat, Hid (guessv k p q r = G) := ⟨_, rfl⟩
      have G1 : G < 256 := by rw [← hG.out]; exact guessv_lt p1 q1 r1
      have A4 : ∀ j : Ext wr, Calls Tryd.prog 19 #[.int .i64 (k : Nat), .int .i64 (p : Nat), .int .i64 (q : Nat), .int .i64 (r : Nat)] j.w fun e w' => e = .returned (.int .i64 (G : Nat)) ∧ w' = j.w := fun j => by rw [← hG.out]; exact rguess_any k p q r hk p1 q1 r1 j.w
      have hst := undv_step k b hb1 z y l2 i l1 hi
      rw [hX, hp.out, hq.out, hr.out, hG.out, hZ.out] at hst
      have HST : Hid (_) := hst
      have hco := arr_cell hg hi
      have hin := Ext.inh wr
      have hcx := fun k : Ext wr => Ext.cell hci k
      clear hc1 LO L1 L2 hst L1x L2x LOx
      go_wp2_with fail
      refine region_ext_cone 25 (by kernel_rfl) (by kernel_rfl) ?_
      simp only [List.take_succ_cons, List.take_zero, List.drop_succ_cons, List.drop_zero]
      repeat (go_big_quiet_step (fail))
      go_big_quiet_step (first | (go_at_call 20; exact Ext.same (A1 _)))
      repeat (go_big_quiet_step (fail))
      go_big_quiet_step (first | (go_at_call 20; exact Ext.same (A2 _)))
      repeat (go_big_quiet_step (fail))
      go_big_quiet_step (first | (go_at_call 20; exact Ext.same (A3 _)))
      repeat (go_big_quiet_step (fail))
      go_big_quiet_step (first | (go_at_call 19; exact Ext.same (A4 _)))
      repeat (go_big_quiet_step (fail))
      refine wpQuiet_nil ?_
      rintro _ ⟨j, rfl⟩
      have gj := Ext.blk hg j
      have fj := blk_free gj i
      have cj := arr_cell gj hi
      have Bj : Below w.heap.size w j.w := hB.trans (j.h.mono hB.size)
      obtain ⟨V, hV⟩ : ∃ V, V = j.w := ⟨_, rfl⟩
      rw [← hV] at gj fj cj Bj ⊢
      clear hV j hin hcx A1 A2 A3 A4 hco hg hci
      go_wp2
      refine ⟨⟨i + 1, by omega, by go_num, ?_, Bj.setCell (by simp) _⟩, by simp [intOf]; omega⟩
      exact madeL_set gj HST.out.symm
    · obtain rfl : i = l1 := by omega
      have hi' : ¬ (i : Int) < i := by omega
      go_wp2
      go_ret2
      exact ⟨rfl, madeL_all hg, hB⟩

set_option maxRecDepth 100000 in
theorem rdo_no (k b : Int) (hkb : ¬ (0 ≤ k ∧ k ≤ 4 ∧ 1 ≤ b ∧ b ≤ 8)) (v1 v2 : Value) (w : World) : Calls Tryd.prog 13 #[.int .i64 k, .int .i64 b, v1, v2] w fun e w' => e = .returned (.tuple #[.slice none 0 0, .bool false]) ∧ w' = w := by
  by_cases h1 : k < 0
  · go_enter Tryd.func13, Tryd.ntmps13
    go_wp2
    go_ret2
    exact ⟨rfl, rfl⟩
  · by_cases h2 : 4 < k
    · go_enter Tryd.func13, Tryd.ntmps13
      go_wp2
      go_ret2
      exact ⟨rfl, rfl⟩
    · by_cases h3 : b < 1
      · go_enter Tryd.func13, Tryd.ntmps13
        go_wp2
        go_ret2
        exact ⟨rfl, rfl⟩
      · have h4 : 8 < b := by omega
        clear hkb
        go_enter Tryd.func13, Tryd.ntmps13
        go_wp2
        go_ret2
        exact ⟨rfl, rfl⟩
set_option maxRecDepth 100000 in
set_option maxHeartbeats 1600000 in
theorem rdo_yes (k b : Nat) (hk : k ≤ 4) (hb1 : 1 ≤ b) (hb : b ≤ 8) (a1 : Option Addr) (l1 c1 : Nat) (z : Nat → Nat) (a2 : Option Addr) (l2 c2 : Nat) (y : Nat → Nat) (w : World) (h1 : Lies w a1 l1 c1 z) (h2 : Lies w a2 l2 c2 y) :
    Calls Tryd.prog 13 #[.int .i64 (k : Nat), .int .i64 (b : Nat), .slice a1 l1 c1, .slice a2 l2 c2] w fun e w' => e = .returned (.tuple #[.slice (some ⟨w.heap.size, 0, none⟩) l1 l1, .bool true]) ∧ w'.heap[w.heap.size]? = some (.cells (arr l1 fun j => .int .u8 (dov k b z l1 y l2 j : Nat)) 5) ∧ Below w.heap.size w w' := by
  have hmk := make22 l1 h1.reach
  have bw : Below w.heap.size w (w.alloc (.cells (arr l1 fun _ => .int .u8 0) 5)) := (Below.refl _ _).alloc (Nat.le_refl _) _
  have hg0 : (w.alloc (.cells (arr l1 fun _ => .int .u8 0) 5)).heap[w.heap.size]? = some (.cells (arr l1 fun j => .int .u8 (madeL (dov k b z l1 y l2) 0 j : Nat)) 5) := by rw [blk_new]; congr 2
  have hre := h1.reach
  have k1 : ¬ (k : Int) < 0 := by omega
  have k2 : ¬ (4 : Int) < k := by omega
  have k3 : ¬ (b : Int) < 1 := by omega
  have k4 : ¬ (8 : Int) < b := by omega
  go_enter Tryd.func13, Tryd.ntmps13
  go_wp2_with fail
  go_loopw [11] (fun v wq => ∃ i : Nat, i ≤ l1 ∧ v = .int .i64 (i : Nat) ∧ wq.heap[w.heap.size]? = some (.cells (arr l1 fun j => .int .u8 (madeL (dov k b z l1 y l2) i j : Nat)) 5) ∧ Below w.heap.size w wq) (fun v _ => l1 - (intOf v).toNat)
  case atStart => exact ⟨0, by omega, rfl, hg0, bw⟩
  case round =>
    clear hg0 bw hmk k1 k2 k3 k4
    obtain ⟨i, hil, rfl, hg, hB⟩ := hrel
    by_cases hi : i < l1
    · have hi' : (i : Int) < l1 := by omega
      have L1 := h1.below hB (Nat.le_refl _)
      have L2 := h2.below hB (Nat.le_refl _)
      obtain ⟨b1, o1, rfl, hb1', hc1⟩ := L1.spot (by omega)
      have hci := hc1 i hi
      have hlc := L1.lc
      obtain ⟨Z, hZ⟩ : ∃ Z, Hid (z i = Z) := ⟨_, rfl⟩
      have hz1 := h1.byte i
      rw [hZ.out] at hci hz1
      have LO : Lies wr (some ⟨w.heap.size, 0, none⟩) l1 l1 (madeL (dov k b z l1 y l2) i) := lies_new hre (madeL_lt (fun j => dov_lt k b z l1 y l2 j) i) hg
      obtain ⟨X, hX⟩ : ∃ X : Int, (i : Int) - b = X := ⟨_, rfl⟩
      have hXb : -8 ≤ X := by omega
      have L1x := fun k : Ext wr => L1.below k.h (Nat.le_refl _)
      have L2x := fun k : Ext wr => L2.below k.h (Nat.le_refl _)
      have LOx := fun k : Ext wr => LO.below k.h (Nat.le_refl _)
      obtain ⟨p, hp⟩ : ∃ p, Hid (atv z l1 X = p) := ⟨_, rfl⟩
      obtain ⟨q, hq⟩ : ∃ q, Hid (atv y l2 (i : Int) = q) := ⟨_, rfl⟩
      obtain ⟨r, hr⟩ : ∃ r, Hid (atv y l2 X = r) := ⟨_, rfl⟩
      have p1 : p < 256 := by rw [← hp.out]; exact atv_lt L1.byte _ _
      have q1 : q < 256 := by rw [← hq.out]; exact atv_lt h2.byte _ _
      have r1 : r < 256 := by rw [← hr.out]; exact atv_lt h2.byte _ _
      have A1 : ∀ k : Ext wr, Calls Tryd.prog 20 #[.slice (some ⟨b1, o1, none⟩) l1 c1, .int .i64 X] k.w fun e w' => e = .returned (.int .i64 (p : Nat)) ∧ w' = k.w := fun k => by rw [← hp.out]; exact rat_any (some ⟨b1, o1, none⟩) l1 c1 z X k.w (L1x k)
      have A2 : ∀ k : Ext wr, Calls Tryd.prog 20 #[.slice a2 l2 c2, .int .i64 (i : Nat)] k.w fun e w' => e = .returned (.int .i64 (q : Nat)) ∧ w' = k.w := fun k => by rw [← hq.out]; exact rat_any a2 l2 c2 y (i : Nat) k.w (L2x k)
      have A3 : ∀ k : Ext wr, Calls Tryd.prog 20 #[.slice a2 l2 c2, .int .i64 X] k.w fun e w' => e = .returned (.int .i64 (r : Nat)) ∧ w' = k.w := fun k => by rw [← hr.out]; exact rat_any a2 l2 c2 y X k.w (L2x k)
      obtain ⟨G, hG⟩ : ∃ G : Nat, Hid (guessv k p q r = G) := ⟨_, rfl⟩
      have G1 : G < 256 := by rw [← hG.out]; exact guessv_lt p1 q1 r1
      have A4 : ∀ j : Ext wr, Calls Tryd.prog 19 #[.int .i64 (k : Nat), .int .i64 (p : Nat), .int .i64 (q : Nat), .int .i64 (r : Nat)] j.w fun e w' => e = .returned (.int .i64 (G : Nat)) ∧ w' = j.w := fun j => by rw [← hG.out]; exact rguess_any k p q r hk p1 q1 r1 j.w
      have hst := dov_step k b z h1.byte l1 y h2.byte l2 i
      rw [hX, hp.out, hq.out, hr.out, hG.out, hZ.out] at hst
      have HST : Hid (_) := hst
      have hco := arr_cell hg hi
      have hin := Ext.inh wr
      have hcx := fun k : Ext wr => Ext.cell hci k
      clear hc1 LO L1 L2 hst L1x L2x LOx
      go_wp2_with fail
      refine region_ext_cone 25 (by kernel_rfl) (by kernel_rfl) ?_
      simp only [List.take_succ_cons, List.take_zero, List.drop_succ_cons, List.drop_zero]
      repeat (go_big_quiet_step (fail))
      go_big_quiet_step (first | (go_at_call 20; exact Ext.same (A1 _)))
      repeat (go_big_quiet_step (fail))
      go_big_quiet_step (first | (go_at_call 20; exact Ext.same (A2 _)))
      repeat (go_big_quiet_step (fail))
      go_big_quiet_step (first | (go_at_call 20; exact Ext.same (A3 _)))
      repeat (go_big_quiet_step (fail))
      go_big_quiet_step (first | (go_at_call 19; exact Ext.same (A4 _)))
      repeat (go_big_quiet_step (fail))
      refine wpQuiet_nil ?_
      rintro _ ⟨j, rfl⟩
      have gj := Ext.blk hg j
      have fj := blk_free gj i
      have cj := arr_cell gj hi
      have Bj : Below w.heap.size w j.w := hB.trans (j.h.mono hB.size)
      obtain ⟨V, hV⟩ : ∃ V, V = j.w := ⟨_, rfl⟩
      rw [← hV] at gj fj cj Bj ⊢
      clear hV j hin hcx A1 A2 A3 A4 hco hg hci
      go_wp2
      refine ⟨⟨i + 1, by omega, by go_num, ?_, Bj.setCell (by simp) _⟩, by simp [intOf]; omega⟩
      exact madeL_set gj HST.out.symm
    · obtain rfl : i = l1 := by omega
      have hi' : ¬ (i : Int) < i := by omega
      go_wp2
      go_ret2
      exact ⟨rfl, madeL_all hg, hB⟩
end Go.Proofs.YtciobjjhdeagkaaDoor
