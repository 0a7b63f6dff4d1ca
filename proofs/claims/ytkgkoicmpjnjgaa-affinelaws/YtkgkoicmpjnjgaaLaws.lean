/-
  Proved: AffineLaws answers true and leaves its arguments and all memory as they were, for every input; no condition.
-/
import Derived.Test.YtkgkoicmpjnjgaaTells
namespace Go.Proofs.Ytkgkoicmpjnjgaa
open Go.ChangeShapes Go.WideShapes Go.ChangeAt Go.RowKit

/-- A number in 16.16. -/
def In (n : Int) : Prop := -2147483647 ≤ n ∧ n ≤ 2147483647
theorem In.clip {n : Int} (h : In n) : clip n = n := clip_id h.1 h.2
theorem mul_one_l {x : Int} (h : In x) : mulv 65536 x = x := by
  unfold mulv; rw [h.clip, show clip 65536 = 65536 by decide, show (65536 * x + 32768) / 65536 = x by omega, h.clip]
theorem mul_one_r {x : Int} (h : In x) : mulv x 65536 = x := by
  unfold mulv; rw [h.clip, show clip 65536 = 65536 by decide, show (x * 65536 + 32768) / 65536 = x by omega, h.clip]
theorem mul_zero_l (x : Int) : mulv 0 x = 0 := by
  unfold mulv; rw [show clip 0 = 0 by decide, Int.zero_mul]; decide
theorem mul_zero_r (x : Int) : mulv x 0 = 0 := by
  unfold mulv; rw [show clip 0 = 0 by decide, Int.mul_zero]; decide
theorem mul_neg_l {y : Int} (h : In y) : mulv (-65536) y = -y := by
  unfold mulv
  rw [h.clip, show clip (-65536) = -65536 by decide, show (-65536 * y + 32768) / 65536 = -y by omega]
  exact clip_id (by have := h.2; omega) (by have := h.1; omega)
theorem clip0 : clip 0 = 0 := by decide

theorem Tells.to {f : FuncId} {args : Array Value} {v v' : Value} (h : Tells f args v) (hv : v = v') : Tells f args v' := hv ▸ h

theorem one_apply {x y : Int} (hx : In x) (hy : In y) : Tells 9 #[aff 65536 0 0 65536 0 0, .int .i64 x, .int .i64 y] (.tuple #[.int .i64 x, .int .i64 y]) :=
  Tells.to (apply_any 65536 0 0 65536 0 0 x y) (by simp only [mul_one_l hx, mul_one_l hy, mul_zero_l, clip0, Int.add_zero, Int.zero_add, hx.clip, hy.clip])
theorem quarter_apply {x y : Int} (hx : In x) (hy : In y) : Tells 9 #[aff 0 65536 (-65536) 0 0 0, .int .i64 x, .int .i64 y] (.tuple #[.int .i64 (-y), .int .i64 x]) :=
  Tells.to (apply_any 0 65536 (-65536) 0 0 0 x y) (by
    have hn : In (-y) := ⟨by have := hy.2; omega, by have := hy.1; omega⟩
    simp only [mul_one_l hx, mul_neg_l hy, mul_zero_l, clip0, Int.add_zero, Int.zero_add, hx.clip, hn.clip])
theorem mul_one_right {a0 a1 a2 a3 a4 a5 : Int} (h0 : In a0) (h1 : In a1) (h2 : In a2) (h3 : In a3) (h4 : In a4) (h5 : In a5) : Tells 6 #[aff a0 a1 a2 a3 a4 a5, aff 65536 0 0 65536 0 0] (aff a0 a1 a2 a3 a4 a5) :=
  Tells.to (mul6_any a0 a1 a2 a3 a4 a5 65536 0 0 65536 0 0) (by simp only [mul_one_r h0, mul_one_r h1, mul_one_r h2, mul_one_r h3, mul_zero_r, Int.add_zero, Int.zero_add, h0.clip, h1.clip, h2.clip, h3.clip, h4.clip, h5.clip])
theorem mul_one_left {a0 a1 a2 a3 a4 a5 : Int} (h0 : In a0) (h1 : In a1) (h2 : In a2) (h3 : In a3) (h4 : In a4) (h5 : In a5) : Tells 6 #[aff 65536 0 0 65536 0 0, aff a0 a1 a2 a3 a4 a5] (aff a0 a1 a2 a3 a4 a5) :=
  Tells.to (mul6_any 65536 0 0 65536 0 0 a0 a1 a2 a3 a4 a5) (by simp only [mul_one_l h0, mul_one_l h1, mul_one_l h2, mul_one_l h3, mul_one_l h4, mul_one_l h5, mul_zero_l, clip0, Int.add_zero, Int.zero_add, h0.clip, h1.clip, h2.clip, h3.clip, h4.clip, h5.clip])
theorem shift_in {x y : Int} (hx : In x) (hy : In y) : Tells 7 #[.int .i64 x, .int .i64 y] (aff 65536 0 0 65536 x y) :=
  Tells.to (shift_any x y) (by rw [hx.clip, hy.clip])
theorem shift_sum {x y u v : Int} (hx : In x) (hy : In y) (hu : In u) (hv : In v) (hxu : In (x + u)) (hyv : In (y + v)) : Tells 6 #[aff 65536 0 0 65536 x y, aff 65536 0 0 65536 u v] (aff 65536 0 0 65536 (x + u) (y + v)) :=
  Tells.to (mul6_any 65536 0 0 65536 x y 65536 0 0 65536 u v) (by
    have e1 : u + 0 + x = x + u := by omega
    have e2 : 0 + v + y = y + v := by omega
    simp only [mul_one_l hu, mul_one_l hv, mul_zero_l, mul_zero_r, hx.clip, hy.clip, e1, e2, hxu.clip, hyv.clip]
    rw [show clip (mulv 65536 65536 + 0) = 65536 by decide, show clip (0 + 0) = 0 by decide, show clip (0 + mulv 65536 65536) = 65536 by decide])
theorem shift_back {u v : Int} (hu : In u) (hv : In v) : Tells 10 #[aff 65536 0 0 65536 u v] (.tuple #[aff 65536 0 0 65536 (-u) (-v), .bool true]) :=
  Tells.to (inverse_some 65536 0 0 65536 u v 65536 (by unfold Hid; decide) (by decide)) (by
    unfold invdx
    rw [show divv 65536 65536 = 65536 by decide, show divv (-clip 0) 65536 = 0 by decide]
    simp only [mul_one_l hu, mul_one_l hv, mul_zero_l, Int.add_zero, Int.zero_add, hu.clip, hv.clip])
theorem quarter : Tells 11 #[.int .i64 16384] (aff 0 65536 (-65536) 0 0 0) := Tells.to (rotate_any 16384) (by kernel_rfl)
theorem clip_in (n : Int) : In (clip n) := clip_bd n

/-- A place, turned by a quarter again and again. -/
def turn (x y : Int) : Nat → Int × Int
  | 0 => (x, y)
  | i + 1 => (-(turn x y i).2, (turn x y i).1)
theorem turn_in {x y : Int} (hx : In x) (hy : In y) : ∀ i, In (turn x y i).1 ∧ In (turn x y i).2
  | 0 => ⟨hx, hy⟩
  | i + 1 => by
    obtain ⟨h1, h2⟩ := turn_in hx hy i
    exact ⟨⟨by have := h2.2; show _ ≤ -(turn x y i).2; omega, by have := h2.1; show -(turn x y i).2 ≤ _; omega⟩, h1⟩
theorem turn_four (x y : Int) : turn x y 4 = (x, y) := by simp [turn]

set_option maxRecDepth 100000 in
set_option maxHeartbeats 3200000 in
theorem laws_walk (l0 l1 l2 l3 l4 l5 x y u v : Int) (fl0 : Fits l0) (fl1 : Fits l1) (fl2 : Fits l2) (fl3 : Fits l3) (fl4 : Fits l4) (fl5 : Fits l5) (fx : Fits x) (fy : Fits y) (fu : Fits u) (fv : Fits v) (w : World) :
    Calls Try.prog 5 #[aff l0 l1 l2 l3 l4 l5, .int .i64 x, .int .i64 y, .int .i64 u, .int .i64 v] w fun e w' => e = .returned (.bool true) ∧ Below w.heap.size w w' := by
  have hnot : ∀ (x : Bool) (w : World), (Op.unary .not (.bool x)).run Try.prog w = .ok (.bool (!x)) w := fun _ _ => rfl
  obtain ⟨a0, a1, a2, a3, a4, a5, hofl⟩ := of_any l0 l1 l2 l3 l4 l5 false fl0 fl1 fl2 fl3 fl4 fl5
  have hcl : Tells 25 #[aff a0 a1 a2 a3 a4 a5] _ := clipped_any a0 a1 a2 a3 a4 a5
  obtain ⟨A0, hA0⟩ : ∃ A, clip a0 = A := ⟨_, rfl⟩
  have iA0 := clip_in a0
  rw [hA0] at hcl iA0
  clear hA0
  obtain ⟨A1, hA1⟩ : ∃ A, clip a1 = A := ⟨_, rfl⟩
  have iA1 := clip_in a1
  rw [hA1] at hcl iA1
  clear hA1
  obtain ⟨A2, hA2⟩ : ∃ A, clip a2 = A := ⟨_, rfl⟩
  have iA2 := clip_in a2
  rw [hA2] at hcl iA2
  clear hA2
  obtain ⟨A3, hA3⟩ : ∃ A, clip a3 = A := ⟨_, rfl⟩
  have iA3 := clip_in a3
  rw [hA3] at hcl iA3
  clear hA3
  obtain ⟨A4, hA4⟩ : ∃ A, clip a4 = A := ⟨_, rfl⟩
  have iA4 := clip_in a4
  rw [hA4] at hcl iA4
  clear hA4
  obtain ⟨A5, hA5⟩ : ∃ A, clip a5 = A := ⟨_, rfl⟩
  have iA5 := clip_in a5
  rw [hA5] at hcl iA5
  clear hA5
  obtain ⟨nx, hnx⟩ : ∃ n, numv x = n := ⟨_, rfl⟩
  obtain ⟨X, hX⟩ : ∃ X, nx.tmod 268435456 = X := ⟨_, rfl⟩
  have cx := num_det x fx
  rw [hnx] at cx
  have bdx : -268435456 < X ∧ X < 268435456 := by rw [← hX]; exact tmod_bd nx 268435456 (by omega)
  obtain ⟨bdx1, bdx2⟩ := bdx
  have iX : In X := ⟨by omega, by omega⟩
  clear hnx fx
  obtain ⟨ny, hny⟩ : ∃ n, numv y = n := ⟨_, rfl⟩
  obtain ⟨Y, hY⟩ : ∃ X, ny.tmod 268435456 = X := ⟨_, rfl⟩
  have cy := num_det y fy
  rw [hny] at cy
  have bdy : -268435456 < Y ∧ Y < 268435456 := by rw [← hY]; exact tmod_bd ny 268435456 (by omega)
  obtain ⟨bdy1, bdy2⟩ := bdy
  have iY : In Y := ⟨by omega, by omega⟩
  clear hny fy
  obtain ⟨nu, hnu⟩ : ∃ n, numv u = n := ⟨_, rfl⟩
  obtain ⟨U, hU⟩ : ∃ X, nu.tmod 268435456 = X := ⟨_, rfl⟩
  have cu := num_det u fu
  rw [hnu] at cu
  have bdu : -268435456 < U ∧ U < 268435456 := by rw [← hU]; exact tmod_bd nu 268435456 (by omega)
  obtain ⟨bdu1, bdu2⟩ := bdu
  have iU : In U := ⟨by omega, by omega⟩
  clear hnu fu
  obtain ⟨nv, hnv⟩ : ∃ n, numv v = n := ⟨_, rfl⟩
  obtain ⟨V, hV⟩ : ∃ X, nv.tmod 268435456 = X := ⟨_, rfl⟩
  have cv := num_det v fv
  rw [hnv] at cv
  have bdv : -268435456 < V ∧ V < 268435456 := by rw [← hV]; exact tmod_bd nv 268435456 (by omega)
  obtain ⟨bdv1, bdv2⟩ := bdv
  have iV : In V := ⟨by omega, by omega⟩
  clear hnv fv
  have iXU : In (X + U) := ⟨by omega, by omega⟩
  have iYV : In (Y + V) := ⟨by omega, by omega⟩
  have iU' : In (-U) := ⟨by omega, by omega⟩
  have iV' : In (-V) := ⟨by omega, by omega⟩
  have hone := one_apply iX iY
  have hmr := mul_one_right iA0 iA1 iA2 iA3 iA4 iA5
  have hml := mul_one_left iA0 iA1 iA2 iA3 iA4 iA5
  have hs1 := shift_in iX iY
  have hs2 := shift_in iU iV
  have hs3 := shift_in iXU iYV
  have hs4 := shift_in iU' iV'
  have hsum := shift_sum iX iY iU iV iXU iYV
  have hback := shift_back iU iV
  clear iA0 iA1 iA2 iA3 iA4 iA5 iXU iYV iU' iV' iU iV fl0 fl1 fl2 fl3 fl4 fl5
  go_enter Try.func5, Try.ntmps5
  go_wp2_with fail
  refine (hofl _).mono ?_
  rintro e w1 ⟨rfl, b1⟩
  replace b1 : Below w.heap.size w w1 := ((Below.refl _ w).alloc (Nat.le_refl _) _).trans (b1.mono (by simp))
  go_wp2_with fail
  refine (cx _).mono ?_
  rintro e w' ⟨rfl, rfl⟩
  go_wp2_with fail
  refine (cy _).mono ?_
  rintro e w' ⟨rfl, rfl⟩
  go_wp2_with fail
  refine (cu _).mono ?_
  rintro e w' ⟨rfl, rfl⟩
  go_wp2_with fail
  refine (cv _).mono ?_
  rintro e w' ⟨rfl, rfl⟩
  go_wp2_with fail
  refine (hcl _).mono ?_
  rintro e w2 ⟨rfl, b2⟩
  have ga := Below.blk b2 (heap_alloc_new _ (ablk a0 a1 a2 a3 a4 a5)) (by simp)
  obtain ⟨G, hG⟩ : ∃ G, w1.heap.size = G := ⟨_, rfl⟩
  have hGw : w.heap.size ≤ G := by rw [← hG]; exact b1.size
  replace b2 : Below w.heap.size w w2 := (b1.alloc b1.size _).trans (b2.mono (by have := b1.size; simp; omega))
  rw [hG] at ga ⊢
  clear hG b1 hofl hcl cx cy cu cv hX hY hU hV
  obtain ⟨W3, hW3⟩ : ∃ W3, W3 = w2.setRow G #[.int .i64 A0, .int .i64 A1, .int .i64 A2, .int .i64 A3, .int .i64 A4, .int .i64 A5] := ⟨_, rfl⟩
  have g3 := setRow_heap w2 G _ #[.int .i64 A0, .int .i64 A1, .int .i64 A2, .int .i64 A3, .int .i64 A4, .int .i64 A5] _ _ ga
  rw [← hW3] at g3
  have b3 : Below w.heap.size w W3 := by rw [hW3]; exact below_row b2 hGw _
  have H3 : Hid (W3 = _) := hW3
  clear hW3
  go_wp2_with (refine store_aff' ga rfl H3.out _ _ (by rfl) (by rfl) (by rfl) (by rfl) ?_)
  clear H3 ga b2
  refine (one_any _).mono ?_
  rintro e w4 ⟨rfl, b4⟩
  replace g3 := Below.blk b4 g3 (blk_lt g3)
  replace b4 := b3.trans (b4.mono b3.size)
  clear b3
  go_wp2_with fail
  refine (hone _).mono ?_
  rintro e w5 ⟨rfl, b5⟩
  replace g3 := Below.blk b5 g3 (blk_lt g3)
  replace b5 := b4.trans (b5.mono b4.size)
  clear b4
  go_wp2_with fail
  obtain ⟨c0, c1, c2, c3, c4, c5⟩ := aff_ext g3
  have hin := Ext.inh w5
  refine region_ext (by kernel_rfl) (by kernel_rfl) ?_
  repeat (go_big_quiet_step (fail))
  go_big_quiet_step (exact Ext.call (known_any _))
  repeat (go_big_quiet_step (fail))
  go_big_quiet_step (exact Ext.call (one_any _))
  repeat (go_big_quiet_step (fail))
  go_big_quiet_step (exact Ext.call (hmr _))
  repeat (go_big_quiet_step (fail))
  go_big_quiet_step (exact Ext.call (one_any _))
  repeat (go_big_quiet_step (fail))
  go_big_quiet_step (exact Ext.call (hml _))
  repeat (go_big_quiet_step (fail))
  go_big_quiet_step (exact Ext.call (hs1 _))
  repeat (go_big_quiet_step (fail))
  go_big_quiet_step (exact Ext.call (hs2 _))
  repeat (go_big_quiet_step (fail))
  go_big_quiet_step (exact Ext.call (hsum _))
  repeat (go_big_quiet_step (fail))
  go_big_quiet_step (exact Ext.call (hs3 _))
  repeat (go_big_quiet_step (fail))
  refine wpQuiet_nil ?_
  rintro w6 ⟨⟨_, hk⟩, rfl⟩
  replace b5 := b5.trans (hk.mono b5.size)
  clear hk g3 c0 c1 c2 c3 c4 c5 hin hmr hml hsum hs1 hs3
  go_wp2_with fail
  refine (quarter _).mono ?_
  rintro e w7 ⟨rfl, b7⟩
  replace b7 := b5.trans (b7.mono b5.size)
  clear b5
  go_wp2_with fail
  go_loopw [1, 2, 15] (fun px py pi wr => ∃ i : Nat, i ≤ 4 ∧ px = .int .i64 (turn X Y i).1 ∧ py = .int .i64 (turn X Y i).2 ∧ pi = .int .i64 i ∧ Hid (wr.heap[w7.heap.size]? = some (ablk 0 65536 (-65536) 0 0 0)) ∧ Below w.heap.size w wr) (fun _ _ pi _ => 4 - (intOf pi).toNat)
  case atStart => exact ⟨0, by omega, rfl, rfl, rfl, heap_alloc_new _ _, b7.alloc b7.size _⟩
  case round =>
    obtain ⟨i, hi, rfl, rfl, rfl, gr, br⟩ := hrel
    by_cases h4 : i < 4
    · have hi4 : (i : Int) < 4 := by omega
      obtain ⟨t1, t2⟩ := turn_in iX iY i
      obtain ⟨c0, c1, c2, c3, c4, c5⟩ := aff_cells gr.out
      have hq := quarter_apply t1 t2
      go_wp2_with fail
      clear c0 c1 c2 c3 c4 c5
      refine (hq _).mono ?_
      rintro e w8 ⟨rfl, b8⟩
      go_wp2
      go_roundw
      case rel => exact ⟨i + 1, by omega, rfl, rfl, by go_num, Below.blk b8 gr.out (blk_lt gr.out), br.trans (b8.mono br.size)⟩
      case measure => simp [intOf]; omega
    · have hi4 : ¬ (i : Int) < 4 := by omega
      have h44 : i = 4 := by omega
      subst h44
      rw [turn_four]
      go_wp2_with fail
      refine (hs2 _).mono ?_
      rintro e w8 ⟨rfl, b8⟩
      replace b8 := br.trans (b8.mono br.size)
      go_wp2_with fail
      refine (hback _).mono ?_
      rintro e w9 ⟨rfl, b9⟩
      replace b9 := b8.trans (b9.mono b8.size)
      clear b8 br gr
      go_wp2_with fail
      obtain ⟨W, hW⟩ : ∃ W, W = w9.alloc (ablk 65536 0 0 65536 (-U) (-V)) := ⟨_, rfl⟩
      rw [← hW]
      have gi : W.heap[w9.heap.size]? = some (ablk 65536 0 0 65536 (-U) (-V)) := by rw [hW]; exact heap_alloc_new _ _
      have bW : Below w.heap.size w W := by rw [hW]; exact b9.alloc b9.size _
      clear hW b9
      obtain ⟨c0, c1, c2, c3, c4, c5⟩ := aff_ext gi
      have hin := Ext.inh W
      refine region_ext (by kernel_rfl) (by kernel_rfl) ?_
      repeat (go_big_quiet_step (fail))
      go_big_quiet_step (exact Ext.call (hs4 _))
      repeat (go_big_quiet_step (fail))
      refine wpQuiet_nil ?_
      rintro w10 ⟨⟨_, hk⟩, rfl⟩
      go_wp2
      go_ret
      exact ⟨rfl, bW.trans (hk.mono bW.size)⟩

end Go.Proofs.Ytkgkoicmpjnjgaa
