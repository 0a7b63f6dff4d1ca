/-
  The reference's fixed codes.
-/
import Derived.Test.YtahibacjaoohiaaDoorRNew
import Derived.Test.YtahibacjaoohiaaDoorFixP
namespace Go.Proofs.YtahibacjaoohiaaDoor
open Go.RowKit

def fixv (i : Nat) : Nat → Value := fun t => .int .i64 ((if t < i then fixL t else 0 : Nat) : Int)
theorem fixv_up {i x n : Nat} (h : fixL i = x) : (arr n fun s => if s = i then .int .i64 ((x : Nat) : Int) else fixv i s) = arr n (fixv (i + 1)) := by
  refine arr_congr _ _ _ fun j _ => ?_
  unfold fixv
  by_cases e : j = i
  · subst e; rw [if_pos rfl, if_pos (by omega), h]
  · rw [if_neg e]
    by_cases h1 : j < i
    · rw [if_pos h1, if_pos (by omega)]
    · rw [if_neg h1, if_neg (by omega)]
def disv (i : Nat) : Nat → Value := fun t => .int .i64 ((if t < i then 5 else 0 : Nat) : Int)
theorem disv_up {i n : Nat} : (arr n fun s => if s = i then .int .i64 5 else disv i s) = arr n (disv (i + 1)) := by
  refine arr_congr _ _ _ fun j _ => ?_
  unfold disv
  by_cases e : j = i
  · subst e; rw [if_pos rfl, if_pos (by omega)]; rfl
  · rw [if_neg e]
    by_cases h1 : j < i
    · rw [if_pos h1, if_pos (by omega)]
    · rw [if_neg h1, if_neg (by omega)]
theorem ints_fix {w : World} {g : Nat} (h : w.heap[g]? = some (.cells (arr 288 (fixv 288)) 3)) : Ints w (some ⟨g, 0, none⟩) 288 288 fun i => ((fixL i : Nat) : Int) := by
  refine ints_new (T := 3) (fr := (0, 0)) (by omega) (fun i => by have := fixL_le i; omega) ?_
  rw [h]
  exact congrArg (fun x => some (Obj.cells x 3 (0, 0))) (arr_congr _ _ _ fun j hj => by unfold fixv; rw [if_pos hj])
theorem ints_dis {w : World} {g : Nat} (h : w.heap[g]? = some (.cells (arr 32 (disv 32)) 3)) : Ints w (some ⟨g, 0, none⟩) 32 32 fun i => ((fixD i : Nat) : Int) := by
  refine ints_new (T := 3) (fr := (0, 0)) (by omega) (fun i => by unfold fixD; omega) ?_
  rw [h]
  exact congrArg (fun x => some (Obj.cells x 3 (0, 0))) (arr_congr _ _ _ fun j hj => by unfold disv fixD; rw [if_pos hj])
theorem good_fix : GoodL (fun i => ((fixL i : Nat) : Int)) 288 := ⟨by omega, fun i _ => by have := fixL_le i; omega, by simpa using fix_okc⟩
theorem good_dis : GoodL (fun i => ((fixD i : Nat) : Int)) 32 := ⟨by omega, fun i _ => by unfold fixD; omega, by simpa using fixD_okc⟩
/-- What fixed answers. -/
def RFixR (w : World) (e : Ending) (w' : World) : Prop :=
  ∃ rc gc gl capl dc dg dl capd, e = .returned (.tuple #[.pointer (some ⟨rc, 0, none⟩), .pointer (some ⟨dc, 0, none⟩)]) ∧ RCode w' rc gc gl capl 288 fixL ∧ RCode w' dc dg dl capd 32 fixD ∧ Below w.heap.size w w' ∧ w.heap.size ≤ rc ∧ w.heap.size ≤ gc ∧ w.heap.size ≤ gl ∧ w.heap.size ≤ dc ∧ w.heap.size ≤ dg ∧ w.heap.size ≤ dl

set_option maxRecDepth 100000 in
set_option maxHeartbeats 3200000 in
theorem rfixed_any (w : World) : Calls Tryd.prog 32 #[] w (RFixR w) := by
  have hmk : ∀ W : World, (Instr.makeSlice 24 (.int .i64 288) (.int .i64 288)).run Tryd.prog W = .ok (.slice (some ⟨W.heap.size, 0, none⟩) 288 288) (W.alloc (.cells (arr 288 fun _ => .int .i64 0) 3)) := make29 288 (by omega)
  have hmd : ∀ W : World, (Instr.makeSlice 24 (.int .i64 32) (.int .i64 32)).run Tryd.prog W = .ok (.slice (some ⟨W.heap.size, 0, none⟩) 32 32) (W.alloc (.cells (arr 32 fun _ => .int .i64 0) 3)) := make29 32 (by omega)
  have hz : (arr 288 fun _ => Value.int .i64 0) = arr 288 (fixv 0) := arr_congr _ _ _ fun j _ => by unfold fixv; rw [if_neg (by omega)]; rfl
  have hzd : (arr 32 fun _ => Value.int .i64 0) = arr 32 (disv 0) := arr_congr _ _ _ fun j _ => by unfold disv; rw [if_neg (by omega)]; rfl
  rw [hz] at hmk
  rw [hzd] at hmd
  have G0 := blk_new w (.cells (arr 288 (fixv 0)) 3)
  have B0 : Below w.heap.size w (w.alloc (.cells (arr 288 (fixv 0)) 3)) := (Below.refl _ w).alloc (Nat.le_refl _) _
  obtain ⟨W, hW⟩ : ∃ W, W = w.alloc (.cells (arr 288 (fixv 0)) 3) := ⟨_, rfl⟩
  rw [← hW] at G0 B0
  clear hz hzd
  go_enter Tryd.func32, Tryd.ntmps32
  go_wp2_with fail
  rw [← hW]
  clear hW
  go_loopw [3] (fun j wq => ∃ i : Nat, i ≤ 288 ∧ j = .int .i64 i ∧ wq.heap[w.heap.size]? = some (.cells (arr 288 (fixv i)) 3) ∧ Below w.heap.size w wq) (fun j _ => 288 - (intOf j).toNat)
  case atStart => exact ⟨0, by omega, rfl, G0, B0⟩
  case round =>
    clear G0 B0 W
    obtain ⟨i, hi, rfl, P1, P3⟩ := hrel
    by_cases h288 : i < 288
    · have h288' : (i : Int) < 288 := by omega
      have d1 := arr_cell P1 h288
      have d2 := blk_free P1 i
      by_cases h1 : i < 144
      · have h1' : (i : Int) < 144 := by omega
        have HF : Hid (fixL i = 8) := by show _ = _; unfold fixL; rw [if_pos h1]
        go_wp2
        exact ⟨⟨i + 1, by omega, by go_num, by rw [arr_blk_set P1]; exact congrArg (fun x => some (Obj.cells x 3 (0, 0))) (fixv_up HF.out), P3.setCell (Nat.le_refl _) _⟩, by simp [intOf]; omega⟩
      · have h1' : ¬ (i : Int) < 144 := by omega
        by_cases h2 : i < 256
        · have h2' : (i : Int) < 256 := by omega
          have HF : Hid (fixL i = 9) := by show _ = _; unfold fixL; rw [if_neg h1, if_pos h2]
          go_wp2
          exact ⟨⟨i + 1, by omega, by go_num, by rw [arr_blk_set P1]; exact congrArg (fun x => some (Obj.cells x 3 (0, 0))) (fixv_up HF.out), P3.setCell (Nat.le_refl _) _⟩, by simp [intOf]; omega⟩
        · have h2' : ¬ (i : Int) < 256 := by omega
          by_cases h3 : i < 280
          · have h3' : (i : Int) < 280 := by omega
            have HF : Hid (fixL i = 7) := by show _ = _; unfold fixL; rw [if_neg h1, if_neg h2, if_pos h3]
            go_wp2
            exact ⟨⟨i + 1, by omega, by go_num, by rw [arr_blk_set P1]; exact congrArg (fun x => some (Obj.cells x 3 (0, 0))) (fixv_up HF.out), P3.setCell (Nat.le_refl _) _⟩, by simp [intOf]; omega⟩
          · have h3' : ¬ (i : Int) < 280 := by omega
            have HF : Hid (fixL i = 8) := by show _ = _; unfold fixL; rw [if_neg h1, if_neg h2, if_neg h3, if_pos h288]
            go_wp2
            exact ⟨⟨i + 1, by omega, by go_num, by rw [arr_blk_set P1]; exact congrArg (fun x => some (Obj.cells x 3 (0, 0))) (fixv_up HF.out), P3.setCell (Nat.le_refl _) _⟩, by simp [intOf]; omega⟩
    · have h288' : ¬ (i : Int) < 288 := by omega
      have ei : i = 288 := by omega
      have I1 : Ints wr (some ⟨w.heap.size, 0, none⟩) 288 288 fun i => ((fixL i : Nat) : Int) := ints_fix (by rw [P1, ei])
      have G1 := blk_new wr (.cells (arr 32 (disv 0)) 3)
      have B1 : Below wr.heap.size wr (wr.alloc (.cells (arr 32 (disv 0)) 3)) := (Below.refl _ wr).alloc (Nat.le_refl _) _
      obtain ⟨W, hW⟩ : ∃ W, W = wr.alloc (.cells (arr 32 (disv 0)) 3) := ⟨_, rfl⟩
      rw [← hW] at G1 B1
      go_wp2_with fail
      clear h288 h288' ei
      rw [← hW]
      clear hW
      obtain ⟨wz, hwz⟩ : ∃ wz, wz = wr := ⟨_, rfl⟩
      subst hwz
      go_loopw [5] (fun j wq => ∃ k : Nat, k ≤ 32 ∧ j = .int .i64 k ∧ wq.heap[wz.heap.size]? = some (.cells (arr 32 (disv k)) 3) ∧ Below wz.heap.size wz wq) (fun j _ => 32 - (intOf j).toNat)
      case atStart => exact ⟨0, by omega, rfl, G1, B1⟩
      case round =>
        clear G1 B1 W
        obtain ⟨k, hk, rfl, Q1, Q3⟩ := hrel
        by_cases h32 : k < 32
        · have h32' : (k : Int) < 32 := by omega
          have d1 := arr_cell Q1 h32
          have d2 := blk_free Q1 k
          go_wp2
          exact ⟨⟨k + 1, by omega, by go_num, by rw [arr_blk_set Q1]; exact congrArg (fun x => some (Obj.cells x 3 (0, 0))) disv_up, Q3.setCell (Nat.le_refl _) _⟩, by simp [intOf]; omega⟩
        · have h32' : ¬ (k : Int) < 32 := by omega
          have ek : k = 32 := by omega
          have I2 : Ints wr (some ⟨wz.heap.size, 0, none⟩) 32 32 fun i => ((fixD i : Nat) : Int) := ints_dis (by rw [Q1, ek])
          have I1' := I1.below Q3 (Nat.le_refl _)
          have bz : w.heap.size ≤ wz.heap.size := P3.size
          have br : w.heap.size ≤ wr.heap.size := Nat.le_trans bz Q3.size
          have BW : Below w.heap.size w wr := P3.trans (Q3.mono bz)
          go_wp2_with fail
          clear h32 h32' ek
          refine (rnew_any _ 288 288 _ _ I1').mono ?_
          rintro e w1 ⟨hb1, hc1⟩
          rcases hc1 with ⟨hbad, _⟩ | ⟨_, rc, gc, gl, capl, b1, b2, b3, rfl, hC1⟩
          · exact absurd good_fix hbad
          · have hC1' : RCode w1 rc gc gl capl 288 fixL := by
              have e : (fun i => (((fixL i : Nat) : Int)).toNat) = fixL := by funext i; simp
              rw [e] at hC1; exact hC1
            have I3 := I2.below hb1 (Nat.le_refl _)
            have BW1 := BW.trans (hb1.mono br)
            clear hC1 I1 I1' I2 hmk hmd
            go_wp2_with fail
            refine (rnew_any _ 32 32 _ _ I3).mono ?_
            rintro e w2 ⟨hb2, hc2⟩
            rcases hc2 with ⟨hbad, _⟩ | ⟨_, dc, dg, dl, capd, b4, b5, b6, rfl, hC2⟩
            · exact absurd good_dis hbad
            · have hC2' : RCode w2 dc dg dl capd 32 fixD := by
                have e : (fun i => (((fixD i : Nat) : Int)).toNat) = fixD := by funext i; simp
                rw [e] at hC2; exact hC2
              have hC3 := hC1'.below hb2
              have b1s := hb1.size
              go_wp2
              go_ret2
              exact ⟨rc, gc, gl, capl, dc, dg, dl, capd, rfl, hC3, hC2', BW1.trans (hb2.mono (by omega)), by omega, by omega, by omega, by omega, by omega, by omega⟩
end Go.Proofs.YtahibacjaoohiaaDoor
