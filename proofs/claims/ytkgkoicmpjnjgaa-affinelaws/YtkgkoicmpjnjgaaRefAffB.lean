/-
  versalref2's Inverse and Around, the law's own 'clipped' and 'of', as contracts.
-/
import Derived.Test.YtkgkoicmpjnjgaaRefAff
namespace Go.Proofs.Ytkgkoicmpjnjgaa
open Go.RowKit

set_option maxHeartbeats 1600000 in
theorem refInverse_none (a b c d e f : Int) (hd : clip (mulv a d - mulv c b) = 0) (w : World) :
    Calls Try.prog 18 #[aff a b c d e f] w fun r w' => r = .returned (.tuple #[aff 0 0 0 0 0 0, .bool false]) ∧ Below w.heap.size w w' := by
  obtain ⟨h11, h12⟩ := mulv_bd a d
  obtain ⟨h21, h22⟩ := mulv_bd c b
  go_enter Try.func18, Try.ntmps18
  go_wp2_with fail
  obtain ⟨W, hW⟩ : ∃ W, W = (w.alloc (ablk a b c d e f)).alloc (ablk 0 0 0 0 0 0) := ⟨_, rfl⟩
  rw [← hW]
  have g1 : W.heap[w.heap.size]? = some (ablk a b c d e f) := by rw [hW]; exact blk_alloc (heap_alloc_new w _) _
  have g2 : W.heap[w.heap.size + 1]? = some (ablk 0 0 0 0 0 0) := by rw [hW]; simpa using heap_alloc_new (w.alloc (ablk a b c d e f)) (ablk 0 0 0 0 0 0)
  have b1 : Below w.heap.size w W := by rw [hW]; exact ((Below.refl _ w).alloc (Nat.le_refl _) _).alloc (by simp) _
  clear hW
  obtain ⟨c0, c1, c2, c3, c4, c5⟩ := aff_ext g1
  have hin := Ext.inh W
  refine region_ext (by kernel_rfl) (by kernel_rfl) ?_
  repeat (go_big_quiet_step (first | (go_at_call 36; exact Ext.same (refMul_any _ _ _)) | (go_at_call 35; exact Ext.same (refClip_any _ _))))
  refine wpQuiet_nil ?_
  rintro _ ⟨⟨W1, hk⟩, rfl⟩
  have g3 := Below.blk hk g2 (blk_lt g2)
  have b2 := b1.trans (hk.mono b1.size)
  clear c0 c1 c2 c3 c4 c5 hin
  go_wp2_with (refine store_aff g3 rfl _ _ _ _ _ _ _ _ (by rfl) (by rfl) (by rfl) (by rfl) ?_)
  refine bodyPost_ret (res_aff2 rfl _ _ _ _ _ _ _ rfl (setRow_heap _ _ _ _ _ _ g3) rfl rfl) rfl ?_
  exact ⟨rfl, below_row b2 (by omega) _⟩

set_option maxHeartbeats 1600000 in
theorem refInverse_some (a b c d e f D : Int) (HD : Hid (clip (mulv a d - mulv c b) = D)) (hD0 : ¬ D = 0) (w : World) :
    Calls Try.prog 18 #[aff a b c d e f] w fun r w' => r = .returned (.tuple #[aff (divv d D) (divv (-clip b) D) (divv (-clip c) D) (divv a D) (invdx (divv d D) (divv (-clip c) D) e f) (invdx (divv (-clip b) D) (divv a D) e f), .bool true]) ∧ Below w.heap.size w w' := by
  obtain ⟨h11, h12⟩ := mulv_bd a d
  obtain ⟨h21, h22⟩ := mulv_bd c b
  obtain ⟨h31, h32⟩ := clip_bd b
  obtain ⟨h41, h42⟩ := clip_bd c
  go_enter Try.func18, Try.ntmps18
  go_wp2_with fail
  obtain ⟨W, hW⟩ : ∃ W, W = (w.alloc (ablk a b c d e f)).alloc (ablk 0 0 0 0 0 0) := ⟨_, rfl⟩
  rw [← hW]
  have g1 : W.heap[w.heap.size]? = some (ablk a b c d e f) := by rw [hW]; exact blk_alloc (heap_alloc_new w _) _
  have g2 : W.heap[w.heap.size + 1]? = some (ablk 0 0 0 0 0 0) := by rw [hW]; simpa using heap_alloc_new (w.alloc (ablk a b c d e f)) (ablk 0 0 0 0 0 0)
  have b1 : Below w.heap.size w W := by rw [hW]; exact ((Below.refl _ w).alloc (Nat.le_refl _) _).alloc (by simp) _
  have z1 : w.heap.size + 2 ≤ W.heap.size := by rw [hW]; simp
  clear hW
  obtain ⟨c0, c1, c2, c3, c4, c5⟩ := aff_ext g1
  have hin := Ext.inh W
  refine region_ext (by kernel_rfl) (by kernel_rfl) ?_
  repeat (go_big_quiet_step (first | (go_at_call 36; exact Ext.same (refMul_any _ _ _)) | (go_at_call 35; exact Ext.same (refClip_any _ _))))
  refine wpQuiet_nil ?_
  rintro W1 ⟨⟨_, hk⟩, rfl⟩
  replace g1 := Below.blk hk g1 (blk_lt g1)
  replace g2 := Below.blk hk g2 (blk_lt g2)
  replace b1 := b1.trans (hk.mono b1.size)
  replace z1 := Nat.le_trans z1 hk.size
  clear c0 c1 c2 c3 c4 c5 hin hk
  rw [HD.out]
  clear h11 h12 h21 h22
  go_wp2_with fail
  refine region_lay 21 5 (ablk 0 0 0 0 0 0) _ (by kernel_rfl) (by kernel_rfl) (by kernel_rfl) rfl rfl rfl (fun _ _ => by kernel_rfl) ?_
  apply Exists.intro
  refine ⟨fun X hX hin => ?_, fun g w' hg hb hz => ?_⟩
  · obtain ⟨c0, c1, c2, c3, c4, c5⟩ := aff_extX (X := X) g1
    simp only [List.take_succ_cons, List.take_zero]
    repeat (go_big_quiet_step (first | (go_at_call 37; exact ExtX.same (refDiv_any _ _ _)) | (go_at_call 35; exact ExtX.same (refClip_any _ _))))
    refine wpQuiet_nil ?_
    rfl
  · have hgne : w.heap.size ≠ g := by omega
    have hgne2 : w.heap.size + 1 ≠ g := by omega
    replace g1 := Below.blk hb g1 (blk_lt g1)
    replace g2 := Below.blk hb g2 (blk_lt g2)
    replace b1 := b1.trans (hb.mono b1.size)
    clear hb
    obtain ⟨i31, i32⟩ := mulv_bd (divv d D) e
    obtain ⟨i41, i42⟩ := mulv_bd (divv (-clip c) D) f
    obtain ⟨i51, i52⟩ := mulv_bd (divv (-clip b) D) e
    obtain ⟨i61, i62⟩ := mulv_bd (divv a D) f
    obtain ⟨i11, i12⟩ := clip_bd (mulv (divv d D) e + mulv (divv (-clip c) D) f)
    obtain ⟨i21, i22⟩ := clip_bd (mulv (divv (-clip b) D) e + mulv (divv a D) f)
    obtain ⟨W3, hW3⟩ : ∃ W3, W3 = w'.setRow g #[.int .i64 (divv d D), .int .i64 (divv (-clip b) D), .int .i64 (divv (-clip c) D), .int .i64 (divv a D), .int .i64 0, .int .i64 0] := ⟨_, rfl⟩
    have n3 := setRow_heap w' g _ #[.int .i64 (divv d D), .int .i64 (divv (-clip b) D), .int .i64 (divv (-clip c) D), .int .i64 (divv a D), .int .i64 0, .int .i64 0] _ _ hz
    rw [← hW3] at n3
    have m3 : W3.heap[w.heap.size]? = some (ablk a b c d e f) := by rw [hW3, setRow_other _ _ _ _ hgne]; exact g1
    have o3 : W3.heap[w.heap.size + 1]? = some (ablk 0 0 0 0 0 0) := by rw [hW3, setRow_other _ _ _ _ hgne2]; exact g2
    have b3 : Below w.heap.size w W3 := by rw [hW3]; exact below_row b1 (by omega) _
    have HZ : Hid (w'.heap[g]? = some (ablk 0 0 0 0 0 0)) := hz
    have H3 : Hid (W3 = _) := hW3
    clear hW3 hz
    simp only [Nat.reduceAdd, List.drop_succ_cons, List.drop_zero]
    go_wp2_with (refine store_aff' HZ.out rfl H3.out _ _ (by rfl) (by rfl) (by rfl) (by rfl) ?_)
    clear HZ H3 g1 g2 b1
    obtain ⟨c30, c31, c32, c33, c34, c35⟩ := aff_ext n3
    obtain ⟨d30, d31, d32, d33, d34, d35⟩ := aff_ext m3
    have hin := Ext.inh W3
    simp only [Act.put, List.setIfInBounds_toArray, List.set_cons_succ, List.set_cons_zero]
    refine region_ext_tail 14 (by kernel_rfl) (by kernel_rfl) ?_
    simp only [List.take_succ_cons, List.take_zero, List.drop_succ_cons, List.drop_zero]
    repeat (go_big_quiet_step (first | (go_at_call 36; exact Ext.same (refMul_any _ _ _)) | (go_at_call 35; exact Ext.same (refClip_any _ _))))
    refine wpQuiet_nil ?_
    rintro V ⟨⟨_, hk⟩, rfl⟩
    replace n3 := Below.blk hk n3 (blk_lt n3)
    replace m3 := Below.blk hk m3 (blk_lt m3)
    replace o3 := Below.blk hk o3 (blk_lt o3)
    replace b3 := b3.trans (hk.mono b3.size)
    clear c30 c31 c32 c33 c34 c35 d30 d31 d32 d33 d34 d35 hin hk
    obtain ⟨W4, hW4⟩ : ∃ W4, W4 = V.setRow g #[.int .i64 (divv d D), .int .i64 (divv (-clip b) D), .int .i64 (divv (-clip c) D), .int .i64 (divv a D), .int .i64 (-clip (mulv (divv d D) e + mulv (divv (-clip c) D) f)), .int .i64 0] := ⟨_, rfl⟩
    have n4 := setRow_heap V g _ #[.int .i64 (divv d D), .int .i64 (divv (-clip b) D), .int .i64 (divv (-clip c) D), .int .i64 (divv a D), .int .i64 (-clip (mulv (divv d D) e + mulv (divv (-clip c) D) f)), .int .i64 0] _ _ n3
    rw [← hW4] at n4
    have m4 : W4.heap[w.heap.size]? = some (ablk a b c d e f) := by rw [hW4, setRow_other _ _ _ _ hgne]; exact m3
    have o4 : W4.heap[w.heap.size + 1]? = some (ablk 0 0 0 0 0 0) := by rw [hW4, setRow_other _ _ _ _ hgne2]; exact o3
    have b4 : Below w.heap.size w W4 := by rw [hW4]; exact below_row b3 (by omega) _
    have H4 : Hid (W4 = _) := hW4
    clear hW4
    go_wp2_with (refine store_num n3 (i := 4) (by simp) H4.out _ _ (by rfl) (by rfl) (by rfl) (by rfl) ?_)
    clear H4 n3 m3 o3 b3
    obtain ⟨c30, c31, c32, c33, c34, c35⟩ := aff_ext n4
    obtain ⟨d30, d31, d32, d33, d34, d35⟩ := aff_ext m4
    have hin := Ext.inh W4
    simp only [Act.put]
    refine region_ext_tail 14 (by kernel_rfl) (by kernel_rfl) ?_
    simp only [List.take_succ_cons, List.take_zero, List.drop_succ_cons, List.drop_zero]
    repeat (go_big_quiet_step (first | (go_at_call 36; exact Ext.same (refMul_any _ _ _)) | (go_at_call 35; exact Ext.same (refClip_any _ _))))
    refine wpQuiet_nil ?_
    rintro V ⟨⟨_, hk⟩, rfl⟩
    replace n4 := Below.blk hk n4 (blk_lt n4)
    replace o4 := Below.blk hk o4 (blk_lt o4)
    replace b4 := b4.trans (hk.mono b4.size)
    clear c30 c31 c32 c33 c34 c35 d30 d31 d32 d33 d34 d35 hin hk m4
    obtain ⟨W5, hW5⟩ : ∃ W5, W5 = V.setRow g #[.int .i64 (divv d D), .int .i64 (divv (-clip b) D), .int .i64 (divv (-clip c) D), .int .i64 (divv a D), .int .i64 (-clip (mulv (divv d D) e + mulv (divv (-clip c) D) f)), .int .i64 (-clip (mulv (divv (-clip b) D) e + mulv (divv a D) f))] := ⟨_, rfl⟩
    have n5 := setRow_heap V g _ #[.int .i64 (divv d D), .int .i64 (divv (-clip b) D), .int .i64 (divv (-clip c) D), .int .i64 (divv a D), .int .i64 (-clip (mulv (divv d D) e + mulv (divv (-clip c) D) f)), .int .i64 (-clip (mulv (divv (-clip b) D) e + mulv (divv a D) f))] _ _ n4
    rw [← hW5] at n5
    have o5 : W5.heap[w.heap.size + 1]? = some (ablk 0 0 0 0 0 0) := by rw [hW5, setRow_other _ _ _ _ hgne2]; exact o4
    have b5 : Below w.heap.size w W5 := by rw [hW5]; exact below_row b4 (by omega) _
    have H5 : Hid (W5 = _) := hW5
    clear hW5
    obtain ⟨c50, c51, c52, c53, c54, c55⟩ := aff_cells n5
    go_wp2_with (first | (refine store_num n4 (i := 5) (by simp) H5.out _ _ (by rfl) (by rfl) (by rfl) (by rfl) ?_) | (refine store_aff o5 rfl _ _ _ _ _ _ _ _ (by rfl) (by rfl) (by rfl) (by rfl) ?_))
    refine bodyPost_ret (res_aff2 rfl _ _ _ _ _ _ _ rfl (setRow_heap _ _ _ _ _ _ o5) rfl rfl) rfl ?_
    exact ⟨rfl, below_row b5 (by omega) _⟩

set_option maxHeartbeats 1600000 in
theorem refAround_any (a b c d e f x y : Int) (w : World) :
    Calls Try.prog 24 #[aff a b c d e f, .int .i64 x, .int .i64 y] w fun r w' => r = .returned (A6.around ⟨a, b, c, d, e, f⟩ x y).v ∧ Below w.heap.size w w' := by
  obtain ⟨h31, h32⟩ := clip_bd x
  obtain ⟨h41, h42⟩ := clip_bd y
  go_enter Try.func24, Try.ntmps24
  go_wp2_with fail
  obtain ⟨W, hW⟩ : ∃ W, W = (w.alloc (ablk a b c d e f)).alloc (ablk 0 0 0 0 0 0) := ⟨_, rfl⟩
  rw [← hW]
  have g1 : W.heap[w.heap.size]? = some (ablk a b c d e f) := by rw [hW]; exact blk_alloc (heap_alloc_new w _) _
  have g2 : W.heap[w.heap.size + 1]? = some (ablk 0 0 0 0 0 0) := by rw [hW]; simpa using heap_alloc_new (w.alloc (ablk a b c d e f)) (ablk 0 0 0 0 0 0)
  have b1 : Below w.heap.size w W := by rw [hW]; exact ((Below.refl _ w).alloc (Nat.le_refl _) _).alloc (by simp) _
  clear hW
  obtain ⟨c0, c1, c2, c3, c4, c5⟩ := aff_ext g1
  have hin := Ext.inh W
  refine region_ext_tail 13 (by kernel_rfl) (by kernel_rfl) ?_
  simp only [List.take_succ_cons, List.take_zero, List.drop_succ_cons, List.drop_zero]
  repeat (go_big_quiet_step (first | (go_at_call 19; exact Ext.call (compose_any _ _ _ _ _ _ _ _ _ _ _ _ _)) | (go_at_call 20; exact Ext.call (refShift_any _ _ _)) | (go_at_call 35; exact Ext.same (refClip_any _ _))))
  refine wpQuiet_nil ?_
  rintro W1 ⟨⟨_, hk⟩, rfl⟩
  replace g2 := Below.blk hk g2 (blk_lt g2)
  replace b1 := b1.trans (hk.mono b1.size)
  go_wp2_with (refine store_aff g2 rfl _ _ _ _ _ _ _ _ (by rfl) (by rfl) (by rfl) (by rfl) ?_)
  refine bodyPost_ret (res_aff rfl _ _ _ _ _ _ rfl (setRow_heap _ _ _ _ _ _ g2) rfl) rfl ?_
  exact ⟨rfl, below_row b1 (by omega) _⟩

set_option maxHeartbeats 1600000 in
theorem clipped_any (a b c d e f : Int) (w : World) :
    Calls Try.prog 25 #[aff a b c d e f] w fun r w' => r = .returned (aff (clip a) (clip b) (clip c) (clip d) (clip e) (clip f)) ∧ Below w.heap.size w w' := by
  go_enter Try.func25, Try.ntmps25
  go_wp2_with fail
  obtain ⟨W, hW⟩ : ∃ W, W = (w.alloc (ablk a b c d e f)).alloc (ablk 0 0 0 0 0 0) := ⟨_, rfl⟩
  rw [← hW]
  have g1 : W.heap[w.heap.size]? = some (ablk a b c d e f) := by rw [hW]; exact blk_alloc (heap_alloc_new w _) _
  have g2 : W.heap[w.heap.size + 1]? = some (ablk 0 0 0 0 0 0) := by rw [hW]; simpa using heap_alloc_new (w.alloc (ablk a b c d e f)) (ablk 0 0 0 0 0 0)
  have b1 : Below w.heap.size w W := by rw [hW]; exact ((Below.refl _ w).alloc (Nat.le_refl _) _).alloc (by simp) _
  clear hW
  obtain ⟨c0, c1, c2, c3, c4, c5⟩ := aff_ext g1
  have hin := Ext.inh W
  refine region_ext_tail 19 (by kernel_rfl) (by kernel_rfl) ?_
  simp only [List.take_succ_cons, List.take_zero, List.drop_succ_cons, List.drop_zero]
  repeat (go_big_quiet_step (first | (go_at_call 35; exact Ext.same (refClip_any _ _))))
  refine wpQuiet_nil ?_
  rintro W1 ⟨⟨_, hk⟩, rfl⟩
  replace g2 := Below.blk hk g2 (blk_lt g2)
  replace b1 := b1.trans (hk.mono b1.size)
  go_wp2_with (refine store_aff g2 rfl _ _ _ _ _ _ _ _ (by rfl) (by rfl) (by rfl) (by rfl) ?_)
  refine bodyPost_ret (res_aff rfl _ _ _ _ _ _ rfl (setRow_heap _ _ _ _ _ _ g2) rfl) rfl ?_
  exact ⟨rfl, below_row b1 (by omega) _⟩

end Go.Proofs.Ytkgkoicmpjnjgaa
