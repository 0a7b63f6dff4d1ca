/-
  Undo and Do, of package rows.
-/
import Derived.Test.YtciobjjhdeagkaaDoorGue
namespace Go.Proofs.YtciobjjhdeagkaaDoor
open Go.RowKit

/-- A line in the making: so many of its bytes are there, 0 behind them. -/
def madeL (f : Nat → Nat) (i j : Nat) : Nat := if j < i then f j else 0
theorem madeL_lt {f : Nat → Nat} (hf : ∀ i, f i < 256) (i j : Nat) : madeL f i j < 256 := by
  unfold madeL; split
  · exact hf j
  · omega
theorem madeL_set {w : World} {g len i : Nat} {f : Nat → Nat} {x : Int} {fr : Nat × Nat} (h : w.heap[g]? = some (.cells (arr len fun j => .int .u8 (madeL f i j : Nat)) 5 fr)) (hx : x = (f i : Nat)) :
    (w.setCell ⟨g, i, none⟩ (.int .u8 x)).heap[g]? = some (.cells (arr len fun j => .int .u8 (madeL f (i + 1) j : Nat)) 5 fr) := by
  rw [arr_blk_set h, hx]
  congr 2
  refine arr_congr _ _ _ fun s hs => ?_
  unfold madeL
  by_cases e : s = i
  · subst e; rw [if_pos rfl, if_pos (by omega)]
  · rw [if_neg e]
    by_cases h' : s < i
    · rw [if_pos h', if_pos (by omega)]
    · rw [if_neg h', if_neg (by omega)]
theorem madeL_all {w : World} {g len : Nat} {f : Nat → Nat} {fr : Nat × Nat} (h : w.heap[g]? = some (.cells (arr len fun j => .int .u8 (madeL f len j : Nat)) 5 fr)) :
    w.heap[g]? = some (.cells (arr len fun j => .int .u8 (f j : Nat)) 5 fr) := by
  rw [h]
  congr 2
  exact arr_congr _ _ _ fun s hs => by unfold madeL; rw [if_pos hs]
theorem undv_step (k b : Nat) (hb : 1 ≤ b) (z y : Nat → Nat) (yl i len : Nat) (hi : i < len) :
    ((undv k b z y yl i : Nat) : Int) = ((z i : Int) + (guessv k (atv (madeL (undv k b z y yl) i) len ((i : Int) - b)) (atv y yl i) (atv y yl ((i : Int) - b)) : Nat)) % 256 := by
  rw [undv_eq k b hb, atv_back hb hi]
  have : (if b ≤ i then madeL (undv k b z y yl) i (i - b) else 0) = if b ≤ i then undv k b z y yl (i - b) else 0 := by
    by_cases h : b ≤ i
    · rw [if_pos h, if_pos h]; unfold madeL; rw [if_pos (by omega)]
    · rw [if_neg h, if_neg h]
  rw [this]
  omega
theorem dov_step (k b : Nat) (z : Nat → Nat) (hz : ∀ i, z i < 256) (len : Nat) (y : Nat → Nat) (hy : ∀ i, y i < 256) (yl i : Nat) :
    ((dov k b z len y yl i : Nat) : Int) = ((z i : Int) - (guessv k (atv z len ((i : Int) - b)) (atv y yl i) (atv y yl ((i : Int) - b)) : Nat)) % 256 := by
  have := guessv_lt (k := k) (atv_lt hz len ((i : Int) - b)) (atv_lt hy yl i) (atv_lt hy yl ((i : Int) - b))
  unfold dov
  omega

theorem undo_no (k b : Int) (hkb : ¬ (0 ≤ k ∧ k ≤ 4 ∧ 1 ≤ b ∧ b ≤ 8)) (v1 v2 : Value) (w : World) : Calls Tryd.prog 7 #[.int .i64 k, .int .i64 b, v1, v2] w fun e w' => e = .returned (.tuple #[.slice none 0 0, .int .i64 1]) ∧ w' = w := by
  have hal := fun W => allowed_any k b W
  rw [decide_eq_false hkb] at hal
  go_enter Tryd.func7, Tryd.ntmps7
  go_wp2_with fail
  refine (hal _).mono ?_
  rintro e w1 ⟨rfl, rfl⟩
  go_wp2
  go_ret2
  exact ⟨rfl, rfl⟩
set_option maxRecDepth 100000 in
set_option maxHeartbeats 1600000 in
theorem undo_yes (k b : Nat) (hk : k ≤ 4) (hb1 : 1 ≤ b) (hb : b ≤ 8) (a1 : Option Addr) (l1 c1 : Nat) (z : Nat → Nat) (a2 : Option Addr) (l2 c2 : Nat) (y : Nat → Nat) (w : World) (h1 : Lies w a1 l1 c1 z) (h2 : Lies w a2 l2 c2 y) :
    Calls Tryd.prog 7 #[.int .i64 (k : Nat), .int .i64 (b : Nat), .slice a1 l1 c1, .slice a2 l2 c2] w fun e w' => e = .returned (.tuple #[.slice (some ⟨w.heap.size, 0, none⟩) l1 l1, .int .i64 0]) ∧ w'.heap[w.heap.size]? = some (.cells (arr l1 fun j => .int .u8 (undv k b z y l2 j : Nat)) 5) ∧ Below w.heap.size w w' := by
  have hal := fun W => allowed_any (k : Int) (b : Int) W
  rw [decide_eq_true (show 0 ≤ (k : Int) ∧ (k : Int) ≤ 4 ∧ 1 ≤ (b : Int) ∧ (b : Int) ≤ 8 by omega)] at hal
  have hmk := make22 l1 h1.reach
  have bw : Below w.heap.size w (w.alloc (.cells (arr l1 fun _ => .int .u8 0) 5)) := (Below.refl _ _).alloc (Nat.le_refl _) _
  have hg0 : (w.alloc (.cells (arr l1 fun _ => .int .u8 0) 5)).heap[w.heap.size]? = some (.cells (arr l1 fun j => .int .u8 (madeL (undv k b z y l2) 0 j : Nat)) 5) := by rw [blk_new]; congr 2
  have hre := h1.reach
  go_enter Tryd.func7, Tryd.ntmps7
  go_wp2_with fail
  refine (hal _).mono ?_
  rintro e w1 ⟨rfl, rfl⟩
  clear hal
  go_wp2_with fail
  go_loopw [22] (fun v wq => ∃ i : Nat, i ≤ l1 ∧ v = .int .i64 (i : Nat) ∧ wq.heap[w1.heap.size]? = some (.cells (arr l1 fun j => .int .u8 (madeL (undv k b z y l2) i j : Nat)) 5) ∧ Below w1.heap.size w1 wq) (fun v _ => l1 - (intOf v).toNat)
  case atStart => exact ⟨0, by omega, rfl, hg0, bw⟩
  case round =>
    clear hg0 bw hmk
    obtain ⟨i, hil, rfl, hg, hB⟩ := hrel
    by_cases hi : i < l1
    · have hi' : (i : Int) < l1 := by omega
      have L1 := h1.below hB (Nat.le_refl _)
      have L2 := h2.below hB (Nat.le_refl _)
      obtain ⟨b1, o1, rfl, hb1', hc1⟩ := L1.spot (by omega)
      have hci := hc1 i hi
      have hlc := L1.lc
      have hz1 := h1.byte i
      have LO : Lies wr (some ⟨w1.heap.size, 0, none⟩) l1 l1 (madeL (undv k b z y l2) i) := lies_new hre (madeL_lt (fun j => undv_lt k b hb1 z y l2 j) i) hg
      obtain ⟨G, hG⟩ : ∃ G : Nat, Hid (guessv k (atv (madeL (undv k b z y l2) i) l1 ((i : Int) - b)) (atv y l2 i) (atv y l2 ((i : Int) - b)) = G) := ⟨_, rfl⟩
      have hgu := guess_any k b i hk hb (by omega) (some ⟨w1.heap.size, 0, none⟩) l1 l1 _ a2 l2 c2 y wr LO L2
      rw [hG.out] at hgu
      have hst := undv_step k b hb1 z y l2 i l1 hi
      rw [hG.out] at hst
      have HST : Hid (_) := hst
      have hfr := blk_free hg i
      have hco := arr_cell hg hi
      clear hc1 LO L1 L2 hst
      go_wp2_with fail
      refine hgu.mono ?_
      rintro e w2 ⟨rfl, rfl⟩
      clear hgu
      go_wp2
      refine ⟨⟨i + 1, by omega, by go_num, ?_, hB.setCell (by simp) _⟩, by simp [intOf]; omega⟩
      exact madeL_set hg HST.out.symm
    · obtain rfl : i = l1 := by omega
      have hi' : ¬ (i : Int) < i := by omega
      go_wp2
      go_ret2
      exact ⟨rfl, madeL_all hg, hB⟩

theorem do_no (k b : Int) (hkb : ¬ (0 ≤ k ∧ k ≤ 4 ∧ 1 ≤ b ∧ b ≤ 8)) (v1 v2 : Value) (w : World) : Calls Tryd.prog 8 #[.int .i64 k, .int .i64 b, v1, v2] w fun e w' => e = .returned (.tuple #[.slice none 0 0, .int .i64 1]) ∧ w' = w := by
  have hal := fun W => allowed_any k b W
  rw [decide_eq_false hkb] at hal
  go_enter Tryd.func8, Tryd.ntmps8
  go_wp2_with fail
  refine (hal _).mono ?_
  rintro e w1 ⟨rfl, rfl⟩
  go_wp2
  go_ret2
  exact ⟨rfl, rfl⟩
set_option maxRecDepth 100000 in
set_option maxHeartbeats 1600000 in
theorem do_yes (k b : Nat) (hk : k ≤ 4) (hb1 : 1 ≤ b) (hb : b ≤ 8) (a1 : Option Addr) (l1 c1 : Nat) (z : Nat → Nat) (a2 : Option Addr) (l2 c2 : Nat) (y : Nat → Nat) (w : World) (h1 : Lies w a1 l1 c1 z) (h2 : Lies w a2 l2 c2 y) :
    Calls Tryd.prog 8 #[.int .i64 (k : Nat), .int .i64 (b : Nat), .slice a1 l1 c1, .slice a2 l2 c2] w fun e w' => e = .returned (.tuple #[.slice (some ⟨w.heap.size, 0, none⟩) l1 l1, .int .i64 0]) ∧ w'.heap[w.heap.size]? = some (.cells (arr l1 fun j => .int .u8 (dov k b z l1 y l2 j : Nat)) 5) ∧ Below w.heap.size w w' := by
  have hal := fun W => allowed_any (k : Int) (b : Int) W
  rw [decide_eq_true (show 0 ≤ (k : Int) ∧ (k : Int) ≤ 4 ∧ 1 ≤ (b : Int) ∧ (b : Int) ≤ 8 by omega)] at hal
  have hmk := make22 l1 h1.reach
  have bw : Below w.heap.size w (w.alloc (.cells (arr l1 fun _ => .int .u8 0) 5)) := (Below.refl _ _).alloc (Nat.le_refl _) _
  have hg0 : (w.alloc (.cells (arr l1 fun _ => .int .u8 0) 5)).heap[w.heap.size]? = some (.cells (arr l1 fun j => .int .u8 (madeL (dov k b z l1 y l2) 0 j : Nat)) 5) := by rw [blk_new]; congr 2
  have hre := h1.reach
  go_enter Tryd.func8, Tryd.ntmps8
  go_wp2_with fail
  refine (hal _).mono ?_
  rintro e w1 ⟨rfl, rfl⟩
  clear hal
  go_wp2_with fail
  go_loopw [22] (fun v wq => ∃ i : Nat, i ≤ l1 ∧ v = .int .i64 (i : Nat) ∧ wq.heap[w1.heap.size]? = some (.cells (arr l1 fun j => .int .u8 (madeL (dov k b z l1 y l2) i j : Nat)) 5) ∧ Below w1.heap.size w1 wq) (fun v _ => l1 - (intOf v).toNat)
  case atStart => exact ⟨0, by omega, rfl, hg0, bw⟩
  case round =>
    clear hg0 bw hmk
    obtain ⟨i, hil, rfl, hg, hB⟩ := hrel
    by_cases hi : i < l1
    · have hi' : (i : Int) < l1 := by omega
      have L1 := h1.below hB (Nat.le_refl _)
      have L2 := h2.below hB (Nat.le_refl _)
      obtain ⟨b1, o1, rfl, hb1', hc1⟩ := L1.spot (by omega)
      have hci := hc1 i hi
      have hlc := L1.lc
      have hz1 := h1.byte i
      have LO : Lies wr (some ⟨w1.heap.size, 0, none⟩) l1 l1 (madeL (dov k b z l1 y l2) i) := lies_new hre (madeL_lt (fun j => dov_lt k b z l1 y l2 j) i) hg
      obtain ⟨G, hG⟩ : ∃ G : Nat, Hid (guessv k (atv z l1 ((i : Int) - b)) (atv y l2 i) (atv y l2 ((i : Int) - b)) = G) := ⟨_, rfl⟩
      have hgu := guess_any k b i hk hb (by omega) (some ⟨b1, o1, none⟩) l1 c1 z a2 l2 c2 y wr L1 L2
      rw [hG.out] at hgu
      have hst := dov_step k b z h1.byte l1 y h2.byte l2 i
      rw [hG.out] at hst
      have HST : Hid (_) := hst
      have hfr := blk_free hg i
      have hco := arr_cell hg hi
      clear hc1 LO L1 L2 hst
      go_wp2_with fail
      refine hgu.mono ?_
      rintro e w2 ⟨rfl, rfl⟩
      clear hgu
      go_wp2
      refine ⟨⟨i + 1, by omega, by go_num, ?_, hB.setCell (by simp) _⟩, by simp [intOf]; omega⟩
      exact madeL_set hg HST.out.symm
    · obtain rfl : i = l1 := by omega
      have hi' : ¬ (i : Int) < i := by omega
      go_wp2
      go_ret2
      exact ⟨rfl, madeL_all hg, hB⟩
end Go.Proofs.YtciobjjhdeagkaaDoor
