/-
  Proved: AffineTells answers true and leaves its arguments and all memory as they were, for every input; no condition.
-/
import Derived.Test.YtkgkoicmpjnjgaaOpen
namespace Go.Proofs.Ytkgkoicmpjnjgaa
open Go.ChangeShapes Go.WideShapes Go.ChangeAt Go.RowKit

/-- A call tells v and leaves all as it was, but for new memory. -/
def Tells (f : FuncId) (args : Array Value) (v : Value) : Prop := ∀ w, Calls Try.prog f args w fun e w' => e = .returned v ∧ Below w.heap.size w w'

theorem div_clip (a b : Int) : divv a (clip b) = divv a b := by unfold divv; rw [clip_clip]
theorem clip_zero {n : Int} (h : clip n = 0) : n = 0 := within_zero (by omega) h

theorem inv_both (a b c d e f : Int) : ∃ p q r s t u ok, Tells 10 #[aff a b c d e f] (.tuple #[aff p q r s t u, .bool ok]) ∧ Tells 18 #[aff a b c d e f] (.tuple #[aff p q r s t u, .bool ok]) := by
  by_cases h : mulv a d - mulv c b = 0
  · exact ⟨0, 0, 0, 0, 0, 0, false, inverse_none a b c d e f h, refInverse_none a b c d e f (by rw [h]; decide)⟩
  · refine ⟨_, _, _, _, _, _, true, inverse_some a b c d e f _ rfl h, ?_⟩
    intro w
    have := refInverse_some a b c d e f _ rfl (fun h' => h (clip_zero h')) w
    simpa only [div_clip] using this
theorem apply_both (a b c d e f x y : Int) : ∃ u v, Tells 9 #[aff a b c d e f, .int .i64 x, .int .i64 y] (.tuple #[.int .i64 u, .int .i64 v]) ∧ Tells 17 #[aff a b c d e f, .int .i64 x, .int .i64 y] (.tuple #[.int .i64 u, .int .i64 v]) :=
  ⟨_, _, apply_any a b c d e f x y, refApply_any a b c d e f x y⟩
theorem mul_both (a b c d e f a' b' c' d' e' f' : Int) : ∃ p q r s t u, Tells 6 #[aff a b c d e f, aff a' b' c' d' e' f'] (aff p q r s t u) ∧ Tells 19 #[aff a b c d e f, aff a' b' c' d' e' f'] (aff p q r s t u) :=
  ⟨_, _, _, _, _, _, mul6_any a b c d e f a' b' c' d' e' f', compose_any a b c d e f a' b' c' d' e' f'⟩
theorem shift_both (x y : Int) : ∃ p q r s t u, Tells 7 #[.int .i64 x, .int .i64 y] (aff p q r s t u) ∧ Tells 20 #[.int .i64 x, .int .i64 y] (aff p q r s t u) := ⟨_, _, _, _, _, _, shift_any x y, refShift_any x y⟩
theorem scale_both (x y : Int) : ∃ p q r s t u, Tells 8 #[.int .i64 x, .int .i64 y] (aff p q r s t u) ∧ Tells 21 #[.int .i64 x, .int .i64 y] (aff p q r s t u) := ⟨_, _, _, _, _, _, scale_any x y, refScale_any x y⟩
theorem rotate_both (x : Int) : ∃ p q r s t u, Tells 11 #[.int .i64 x] (aff p q r s t u) ∧ Tells 22 #[.int .i64 x] (aff p q r s t u) := ⟨_, _, _, _, _, _, rotate_any x, refRotate_any x⟩
theorem skew_both (x y : Int) : ∃ p q r s t u, Tells 13 #[.int .i64 x, .int .i64 y] (aff p q r s t u) ∧ Tells 23 #[.int .i64 x, .int .i64 y] (aff p q r s t u) := ⟨_, _, _, _, _, _, skew_any x y, refSkew_any x y⟩
theorem around_both (a b c d e f x y : Int) : ∃ p q r s t u, Tells 12 #[aff a b c d e f, .int .i64 x, .int .i64 y] (aff p q r s t u) ∧ Tells 24 #[aff a b c d e f, .int .i64 x, .int .i64 y] (aff p q r s t u) :=
  ⟨_, _, _, _, _, _, around_any a b c d e f x y, refAround_any a b c d e f x y⟩
theorem of_any (a b c d e f : Int) (raw : Bool) (ha : Fits a) (hb : Fits b) (hc : Fits c) (hd : Fits d) (he : Fits e) (hf : Fits f) : ∃ p q r s t u, Tells 15 #[aff a b c d e f, .bool raw] (aff p q r s t u) := by
  cases raw
  · exact ⟨_, _, _, _, _, _, of_num a b c d e f ha hb hc hd he hf⟩
  · exact ⟨_, _, _, _, _, _, of_raw a b c d e f⟩

set_option maxRecDepth 100000 in
set_option maxHeartbeats 3200000 in
theorem tells_raw (l0 l1 l2 l3 l4 l5 m0 m1 m2 m3 m4 m5 x y : Int) (hl : ∃ p q r s t u, Tells 15 #[aff l0 l1 l2 l3 l4 l5, .bool true] (aff p q r s t u)) (hm : ∃ p q r s t u, Tells 15 #[aff m0 m1 m2 m3 m4 m5, .bool true] (aff p q r s t u)) (w : World) :
    Calls Try.prog 4 #[aff l0 l1 l2 l3 l4 l5, aff m0 m1 m2 m3 m4 m5, .int .i64 x, .int .i64 y, .bool true] w fun e w' => e = .returned (.bool true) ∧ Below w.heap.size w w' := by
  have hnot : ∀ (x : Bool) (w : World), (Op.unary .not (.bool x)).run Try.prog w = .ok (.bool (!x)) w := fun _ _ => rfl
  obtain ⟨a0, a1, a2, a3, a4, a5, hofl⟩ := hl
  obtain ⟨n0, n1, n2, n3, n4, n5, hofm⟩ := hm
  obtain ⟨u, v, happ, hrapp⟩ := apply_both a0 a1 a2 a3 a4 a5 x y
  obtain ⟨i0, i1, i2, i3, i4, i5, ok, hinv, hrinv⟩ := inv_both a0 a1 a2 a3 a4 a5
  obtain ⟨p0, p1, p2, p3, p4, p5, hmul, hrmul⟩ := mul_both a0 a1 a2 a3 a4 a5 n0 n1 n2 n3 n4 n5
  obtain ⟨q0, q1, q2, q3, q4, q5, hsh, hrsh⟩ := shift_both x y
  obtain ⟨r0, r1, r2, r3, r4, r5, hsc, hrsc⟩ := scale_both x y
  obtain ⟨s0, s1, s2, s3, s4, s5, hro, hrro⟩ := rotate_both x
  obtain ⟨t0, t1, t2, t3, t4, t5, hsk, hrsk⟩ := skew_both x y
  obtain ⟨o0, o1, o2, o3, o4, o5, har, hrar⟩ := around_both a0 a1 a2 a3 a4 a5 x y
  go_enter Try.func4, Try.ntmps4
  go_wp2_with fail
  refine (hofl _).mono ?_
  rintro e w1 ⟨rfl, b1⟩
  have g1 := Below.blk b1 (heap_alloc_new (w.alloc (.cells #[.int .i64 l0, .int .i64 l1, .int .i64 l2, .int .i64 l3, .int .i64 l4, .int .i64 l5] 33)) (.cells #[.int .i64 m0, .int .i64 m1, .int .i64 m2, .int .i64 m3, .int .i64 m4, .int .i64 m5] 33)) (by simp)
  simp only [World.size_alloc] at g1
  replace b1 : Below w.heap.size w w1 := (((Below.refl _ w).alloc (Nat.le_refl _) _).alloc (by simp) _).trans (b1.mono (by simp; omega))
  obtain ⟨c0, c1, c2, c3, c4, c5⟩ := aff_cells (blk_alloc g1 (ablk a0 a1 a2 a3 a4 a5))
  go_wp2_with fail
  clear c0 c1 c2 c3 c4 c5 g1
  refine (hofm _).mono ?_
  rintro e w2 ⟨rfl, b2⟩
  have ga := Below.blk b2 (heap_alloc_new w1 (ablk a0 a1 a2 a3 a4 a5)) (by simp)
  replace b2 : Below w.heap.size w w2 := (b1.alloc b1.size _).trans (b2.mono (by have := b1.size; simp; omega))
  clear b1
  obtain ⟨c0, c1, c2, c3, c4, c5⟩ := aff_cells (blk_alloc ga (ablk n0 n1 n2 n3 n4 n5))
  go_wp2_with fail
  clear c0 c1 c2 c3 c4 c5
  refine (happ _).mono ?_
  rintro e w3 ⟨rfl, b3⟩
  replace ga := Below.blk b3 (blk_alloc ga (ablk n0 n1 n2 n3 n4 n5)) (by have := blk_lt ga; simp; omega)
  have gb := Below.blk b3 (heap_alloc_new _ (ablk n0 n1 n2 n3 n4 n5)) (by simp)
  replace b3 : Below w.heap.size w w3 := (b2.alloc b2.size _).trans (b3.mono (by have := b2.size; simp; omega))
  clear b2
  obtain ⟨c0, c1, c2, c3, c4, c5⟩ := aff_cells ga
  go_wp2_with fail
  clear c0 c1 c2 c3 c4 c5
  refine (hrapp _).mono ?_
  rintro e w4 ⟨rfl, b4⟩
  replace ga := Below.blk b4 ga (blk_lt ga)
  replace gb := Below.blk b4 gb (blk_lt gb)
  replace b4 : Below w.heap.size w w4 := b3.trans (b4.mono b3.size)
  clear b3
  obtain ⟨c0, c1, c2, c3, c4, c5⟩ := aff_cells ga
  go_wp2_with fail
  clear c0 c1 c2 c3 c4 c5
  refine (hinv _).mono ?_
  rintro e w5 ⟨rfl, b5⟩
  replace ga := Below.blk b5 ga (blk_lt ga)
  replace gb := Below.blk b5 gb (blk_lt gb)
  replace b5 : Below w.heap.size w w5 := b4.trans (b5.mono b4.size)
  clear b4
  obtain ⟨c0, c1, c2, c3, c4, c5⟩ := aff_cells (blk_alloc ga (ablk i0 i1 i2 i3 i4 i5))
  go_wp2_with fail
  clear c0 c1 c2 c3 c4 c5
  refine (hrinv _).mono ?_
  rintro e w6 ⟨rfl, b6⟩
  have gi := Below.blk b6 (heap_alloc_new _ (ablk i0 i1 i2 i3 i4 i5)) (by simp)
  replace ga := Below.blk b6 (blk_alloc ga (ablk i0 i1 i2 i3 i4 i5)) (by have := blk_lt ga; simp; omega)
  replace gb := Below.blk b6 (blk_alloc gb (ablk i0 i1 i2 i3 i4 i5)) (by have := blk_lt gb; simp; omega)
  replace b6 : Below w.heap.size w w6 := (b5.alloc b5.size _).trans (b6.mono (by have := b5.size; simp; omega))
  clear b5
  go_wp2_with fail
  simp only [List.append_eq, List.cons_append, List.nil_append]
  obtain ⟨W, hW⟩ : ∃ W, W = w6.alloc (ablk i0 i1 i2 i3 i4 i5) := ⟨_, rfl⟩
  rw [← hW]
  have gj : W.heap[w6.heap.size]? = some (ablk i0 i1 i2 i3 i4 i5) := by rw [hW]; exact heap_alloc_new _ _
  replace ga := blk_alloc ga (ablk i0 i1 i2 i3 i4 i5)
  replace gb := blk_alloc gb (ablk i0 i1 i2 i3 i4 i5)
  replace gi := blk_alloc gi (ablk i0 i1 i2 i3 i4 i5)
  rw [← hW] at ga gb gi
  have b7 : Below w.heap.size w W := by rw [hW]; exact b6.alloc b6.size _
  clear hW b6 hofl hofm happ hrapp hinv hrinv
  obtain ⟨c00, c01, c02, c03, c04, c05⟩ := aff_ext ga
  obtain ⟨c10, c11, c12, c13, c14, c15⟩ := aff_ext gb
  obtain ⟨c20, c21, c22, c23, c24, c25⟩ := aff_ext gi
  obtain ⟨c30, c31, c32, c33, c34, c35⟩ := aff_ext gj
  clear ga gb gi gj
  have hin := Ext.inh W
  refine region_ext (by kernel_rfl) (by kernel_rfl) ?_
  repeat (go_big_quiet_step (first | (go_at_call 14; exact Ext.call (known_any _)) | (go_at_call 6; exact Ext.call (hmul _)) | (go_at_call 19; exact Ext.call (hrmul _)) | (go_at_call 7; exact Ext.call (hsh _)) | (go_at_call 20; exact Ext.call (hrsh _)) | (go_at_call 8; exact Ext.call (hsc _)) | (go_at_call 21; exact Ext.call (hrsc _)) | (go_at_call 11; exact Ext.call (hro _)) | (go_at_call 22; exact Ext.call (hrro _)) | (go_at_call 13; exact Ext.call (hsk _)) | (go_at_call 23; exact Ext.call (hrsk _)) | (go_at_call 12; exact Ext.call (har _)) | (go_at_call 24; exact Ext.call (hrar _))))
  refine wpQuiet_nil ?_
  rintro W1 ⟨⟨_, hk⟩, rfl⟩
  go_wp2
  go_ret
  exact ⟨rfl, b7.trans (hk.mono b7.size)⟩

set_option maxRecDepth 100000 in
set_option maxHeartbeats 3200000 in
theorem tells_num (l0 l1 l2 l3 l4 l5 m0 m1 m2 m3 m4 m5 x y : Int) (hx : Fits x) (hy : Fits y) (hl : ∃ p q r s t u, Tells 15 #[aff l0 l1 l2 l3 l4 l5, .bool false] (aff p q r s t u)) (hm : ∃ p q r s t u, Tells 15 #[aff m0 m1 m2 m3 m4 m5, .bool false] (aff p q r s t u)) (w : World) :
    Calls Try.prog 4 #[aff l0 l1 l2 l3 l4 l5, aff m0 m1 m2 m3 m4 m5, .int .i64 x, .int .i64 y, .bool false] w fun e w' => e = .returned (.bool true) ∧ Below w.heap.size w w' := by
  have hnot : ∀ (x : Bool) (w : World), (Op.unary .not (.bool x)).run Try.prog w = .ok (.bool (!x)) w := fun _ _ => rfl
  obtain ⟨a0, a1, a2, a3, a4, a5, hofl⟩ := hl
  obtain ⟨n0, n1, n2, n3, n4, n5, hofm⟩ := hm
  obtain ⟨X, hX⟩ : ∃ X, numv x = X := ⟨_, rfl⟩
  obtain ⟨Y, hY⟩ : ∃ Y, numv y = Y := ⟨_, rfl⟩
  have HX : Hid (numv x = X) := hX
  have HY : Hid (numv y = Y) := hY
  clear hX hY
  obtain ⟨u, v, happ, hrapp⟩ := apply_both a0 a1 a2 a3 a4 a5 X Y
  obtain ⟨i0, i1, i2, i3, i4, i5, ok, hinv, hrinv⟩ := inv_both a0 a1 a2 a3 a4 a5
  obtain ⟨p0, p1, p2, p3, p4, p5, hmul, hrmul⟩ := mul_both a0 a1 a2 a3 a4 a5 n0 n1 n2 n3 n4 n5
  obtain ⟨q0, q1, q2, q3, q4, q5, hsh, hrsh⟩ := shift_both X Y
  obtain ⟨r0, r1, r2, r3, r4, r5, hsc, hrsc⟩ := scale_both X Y
  obtain ⟨s0, s1, s2, s3, s4, s5, hro, hrro⟩ := rotate_both X
  obtain ⟨t0, t1, t2, t3, t4, t5, hsk, hrsk⟩ := skew_both X Y
  obtain ⟨o0, o1, o2, o3, o4, o5, har, hrar⟩ := around_both a0 a1 a2 a3 a4 a5 X Y
  go_enter Try.func4, Try.ntmps4
  go_wp2_with fail
  refine (hofl _).mono ?_
  rintro e w1 ⟨rfl, b1⟩
  have g1 := Below.blk b1 (heap_alloc_new (w.alloc (.cells #[.int .i64 l0, .int .i64 l1, .int .i64 l2, .int .i64 l3, .int .i64 l4, .int .i64 l5] 33)) (.cells #[.int .i64 m0, .int .i64 m1, .int .i64 m2, .int .i64 m3, .int .i64 m4, .int .i64 m5] 33)) (by simp)
  simp only [World.size_alloc] at g1
  replace b1 : Below w.heap.size w w1 := (((Below.refl _ w).alloc (Nat.le_refl _) _).alloc (by simp) _).trans (b1.mono (by simp; omega))
  obtain ⟨c0, c1, c2, c3, c4, c5⟩ := aff_cells (blk_alloc g1 (ablk a0 a1 a2 a3 a4 a5))
  go_wp2_with fail
  clear c0 c1 c2 c3 c4 c5 g1
  refine (hofm _).mono ?_
  rintro e w2 ⟨rfl, b2⟩
  have ga := Below.blk b2 (heap_alloc_new w1 (ablk a0 a1 a2 a3 a4 a5)) (by simp)
  replace b2 : Below w.heap.size w w2 := (b1.alloc b1.size _).trans (b2.mono (by have := b1.size; simp; omega))
  clear b1
  obtain ⟨c0, c1, c2, c3, c4, c5⟩ := aff_cells (blk_alloc ga (ablk n0 n1 n2 n3 n4 n5))
  go_wp2_with fail
  refine (num_det x hx _).mono ?_
  rintro e w' ⟨rfl, rfl⟩
  rw [HX.out]
  go_wp2_with fail
  refine (num_det y hy _).mono ?_
  rintro e w' ⟨rfl, rfl⟩
  rw [HY.out]
  go_wp2_with fail
  clear c0 c1 c2 c3 c4 c5
  refine (happ _).mono ?_
  rintro e w3 ⟨rfl, b3⟩
  replace ga := Below.blk b3 (blk_alloc ga (ablk n0 n1 n2 n3 n4 n5)) (by have := blk_lt ga; simp; omega)
  have gb := Below.blk b3 (heap_alloc_new _ (ablk n0 n1 n2 n3 n4 n5)) (by simp)
  replace b3 : Below w.heap.size w w3 := (b2.alloc b2.size _).trans (b3.mono (by have := b2.size; simp; omega))
  clear b2
  obtain ⟨c0, c1, c2, c3, c4, c5⟩ := aff_cells ga
  go_wp2_with fail
  clear c0 c1 c2 c3 c4 c5
  refine (hrapp _).mono ?_
  rintro e w4 ⟨rfl, b4⟩
  replace ga := Below.blk b4 ga (blk_lt ga)
  replace gb := Below.blk b4 gb (blk_lt gb)
  replace b4 : Below w.heap.size w w4 := b3.trans (b4.mono b3.size)
  clear b3
  obtain ⟨c0, c1, c2, c3, c4, c5⟩ := aff_cells ga
  go_wp2_with fail
  clear c0 c1 c2 c3 c4 c5
  refine (hinv _).mono ?_
  rintro e w5 ⟨rfl, b5⟩
  replace ga := Below.blk b5 ga (blk_lt ga)
  replace gb := Below.blk b5 gb (blk_lt gb)
  replace b5 : Below w.heap.size w w5 := b4.trans (b5.mono b4.size)
  clear b4
  obtain ⟨c0, c1, c2, c3, c4, c5⟩ := aff_cells (blk_alloc ga (ablk i0 i1 i2 i3 i4 i5))
  go_wp2_with fail
  clear c0 c1 c2 c3 c4 c5
  refine (hrinv _).mono ?_
  rintro e w6 ⟨rfl, b6⟩
  have gi := Below.blk b6 (heap_alloc_new _ (ablk i0 i1 i2 i3 i4 i5)) (by simp)
  replace ga := Below.blk b6 (blk_alloc ga (ablk i0 i1 i2 i3 i4 i5)) (by have := blk_lt ga; simp; omega)
  replace gb := Below.blk b6 (blk_alloc gb (ablk i0 i1 i2 i3 i4 i5)) (by have := blk_lt gb; simp; omega)
  replace b6 : Below w.heap.size w w6 := (b5.alloc b5.size _).trans (b6.mono (by have := b5.size; simp; omega))
  clear b5
  go_wp2_with fail
  simp only [List.append_eq, List.cons_append, List.nil_append]
  obtain ⟨W, hW⟩ : ∃ W, W = w6.alloc (ablk i0 i1 i2 i3 i4 i5) := ⟨_, rfl⟩
  rw [← hW]
  have gj : W.heap[w6.heap.size]? = some (ablk i0 i1 i2 i3 i4 i5) := by rw [hW]; exact heap_alloc_new _ _
  replace ga := blk_alloc ga (ablk i0 i1 i2 i3 i4 i5)
  replace gb := blk_alloc gb (ablk i0 i1 i2 i3 i4 i5)
  replace gi := blk_alloc gi (ablk i0 i1 i2 i3 i4 i5)
  rw [← hW] at ga gb gi
  have b7 : Below w.heap.size w W := by rw [hW]; exact b6.alloc b6.size _
  clear hW b6 hofl hofm happ hrapp hinv hrinv
  obtain ⟨c00, c01, c02, c03, c04, c05⟩ := aff_ext ga
  obtain ⟨c10, c11, c12, c13, c14, c15⟩ := aff_ext gb
  obtain ⟨c20, c21, c22, c23, c24, c25⟩ := aff_ext gi
  obtain ⟨c30, c31, c32, c33, c34, c35⟩ := aff_ext gj
  clear ga gb gi gj
  have hin := Ext.inh W
  refine region_ext (by kernel_rfl) (by kernel_rfl) ?_
  repeat (go_big_quiet_step (first | (go_at_call 14; exact Ext.call (known_any _)) | (go_at_call 6; exact Ext.call (hmul _)) | (go_at_call 19; exact Ext.call (hrmul _)) | (go_at_call 7; exact Ext.call (hsh _)) | (go_at_call 20; exact Ext.call (hrsh _)) | (go_at_call 8; exact Ext.call (hsc _)) | (go_at_call 21; exact Ext.call (hrsc _)) | (go_at_call 11; exact Ext.call (hro _)) | (go_at_call 22; exact Ext.call (hrro _)) | (go_at_call 13; exact Ext.call (hsk _)) | (go_at_call 23; exact Ext.call (hrsk _)) | (go_at_call 12; exact Ext.call (har _)) | (go_at_call 24; exact Ext.call (hrar _))))
  refine wpQuiet_nil ?_
  rintro W1 ⟨⟨_, hk⟩, rfl⟩
  go_wp2
  go_ret
  exact ⟨rfl, b7.trans (hk.mono b7.size)⟩

end Go.Proofs.Ytkgkoicmpjnjgaa
