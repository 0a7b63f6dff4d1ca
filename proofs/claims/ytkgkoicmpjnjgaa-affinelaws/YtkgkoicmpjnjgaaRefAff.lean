/-
  versalref2's chapter 5, as contracts.
-/
import Derived.Test.YtkgkoicmpjnjgaaAffB
import Derived.Test.YtkgkoicmpjnjgaaRefAng
namespace Go.Proofs.Ytkgkoicmpjnjgaa
open Go.RowKit

set_option maxHeartbeats 1600000 in
theorem refApply_any (a b c d e f x y : Int) (w : World) :
    Calls Try.prog 17 #[aff a b c d e f, .int .i64 x, .int .i64 y] w fun e' w' => e' = .returned (.tuple #[.int .i64 (clip (mulv a x + mulv c y + clip e)), .int .i64 (clip (mulv b x + mulv d y + clip f))]) ∧ Below w.heap.size w w' := by
  obtain ⟨h11, h12⟩ := mulv_bd a x
  obtain ⟨h21, h22⟩ := mulv_bd c y
  obtain ⟨h31, h32⟩ := mulv_bd b x
  obtain ⟨h41, h42⟩ := mulv_bd d y
  obtain ⟨h51, h52⟩ := clip_bd e
  obtain ⟨h61, h62⟩ := clip_bd f
  go_enter Try.func17, Try.ntmps17
  go_wp2_with fail
  obtain ⟨W, hW⟩ : ∃ W, W = w.alloc (ablk a b c d e f) := ⟨_, rfl⟩
  rw [← hW]
  have g1 : W.heap[w.heap.size]? = some (ablk a b c d e f) := by rw [hW]; exact heap_alloc_new w _
  have b1 : Below w.heap.size w W := by rw [hW]; exact (Below.refl _ w).alloc (Nat.le_refl _) _
  clear hW
  obtain ⟨c0, c1, c2, c3, c4, c5⟩ := aff_ext g1
  have hin := Ext.inh W
  refine region_ext (by kernel_rfl) (by kernel_rfl) ?_
  repeat (go_big_quiet_step (first | (go_at_call 36; exact Ext.same (refMul_any _ _ _)) | (go_at_call 35; exact Ext.same (refClip_any _ _))))
  refine wpQuiet_nil ?_
  rintro W1 ⟨⟨_, hk⟩, rfl⟩
  go_wp2
  go_ret2
  exact ⟨rfl, b1.trans (hk.mono b1.size)⟩

theorem refScale_any (x y : Int) (w : World) :
    Calls Try.prog 21 #[.int .i64 x, .int .i64 y] w fun e w' => e = .returned (aff (clip x) 0 0 (clip y) 0 0) ∧ Below w.heap.size w w' := by
  go_enter Try.func21, Try.ntmps21
  go_wp2_with fail
  refine (refClip_any x _).mono ?_
  rintro e w' ⟨rfl, rfl⟩
  go_wp2_with fail
  refine (refClip_any y _).mono ?_
  rintro e w' ⟨rfl, rfl⟩
  go_wp2
  refine bodyPost_ret (res_aff rfl _ _ _ _ _ _ rfl (heap_alloc_new _ _) rfl) rfl ?_
  exact ⟨rfl, (Below.refl _ _).alloc (Nat.le_refl _) _⟩

theorem refShift_any (x y : Int) (w : World) :
    Calls Try.prog 20 #[.int .i64 x, .int .i64 y] w fun e w' => e = .returned (aff 65536 0 0 65536 (clip x) (clip y)) ∧ Below w.heap.size w w' := by
  go_enter Try.func20, Try.ntmps20
  go_wp2_with fail
  refine (refClip_any x _).mono ?_
  rintro e w' ⟨rfl, rfl⟩
  go_wp2_with fail
  refine (refClip_any y _).mono ?_
  rintro e w' ⟨rfl, rfl⟩
  go_wp2
  refine bodyPost_ret (res_aff rfl _ _ _ _ _ _ rfl (heap_alloc_new _ _) rfl) rfl ?_
  exact ⟨rfl, (Below.refl _ _).alloc (Nat.le_refl _) _⟩

theorem refRotate_any (a : Int) (w : World) :
    Calls Try.prog 22 #[.int .i64 a] w fun e w' => e = .returned (aff (cosv a) (sinv a) (-sinv a) (cosv a) 0 0) ∧ Below w.heap.size w w' := by
  obtain ⟨h1, h2⟩ := sin_bd a
  go_enter Try.func22, Try.ntmps22
  go_wp2_with fail
  refine (refCos_any a _).mono ?_
  rintro e w' ⟨rfl, rfl⟩
  go_wp2_with fail
  refine (refSin_any a _).mono ?_
  rintro e w' ⟨rfl, rfl⟩
  go_wp2_with fail
  refine (refSin_any a _).mono ?_
  rintro e w' ⟨rfl, rfl⟩
  go_wp2_with fail
  refine (refCos_any a _).mono ?_
  rintro e w' ⟨rfl, rfl⟩
  go_wp2
  refine bodyPost_ret (res_aff rfl _ _ _ _ _ _ rfl (heap_alloc_new _ _) rfl) rfl ?_
  exact ⟨rfl, (Below.refl _ _).alloc (Nat.le_refl _) _⟩

theorem refSkew_any (x y : Int) (w : World) :
    Calls Try.prog 23 #[.int .i64 x, .int .i64 y] w fun e w' => e = .returned (aff 65536 (tanv y) (-tanv x) 65536 0 0) ∧ Below w.heap.size w w' := by
  obtain ⟨h1, h2⟩ := tan_bd x
  go_enter Try.func23, Try.ntmps23
  go_wp2_with fail
  refine (refTan_any y _).mono ?_
  rintro e w' ⟨rfl, rfl⟩
  go_wp2_with fail
  refine (refTan_any x _).mono ?_
  rintro e w' ⟨rfl, rfl⟩
  go_wp2
  refine bodyPost_ret (res_aff rfl _ _ _ _ _ _ rfl (heap_alloc_new _ _) rfl) rfl ?_
  exact ⟨rfl, (Below.refl _ _).alloc (Nat.le_refl _) _⟩

set_option maxHeartbeats 3200000 in
theorem compose_any (a b c d e f a' b' c' d' e' f' : Int) (w : World) :
    Calls Try.prog 19 #[aff a b c d e f, aff a' b' c' d' e' f'] w fun r w' => r = .returned (aff (clip (mulv a a' + mulv c b')) (clip (mulv b a' + mulv d b')) (clip (mulv a c' + mulv c d')) (clip (mulv b c' + mulv d d')) (clip (mulv a e' + mulv c f' + clip e)) (clip (mulv b e' + mulv d f' + clip f))) ∧ Below w.heap.size w w' := by
  obtain ⟨h11, h12⟩ := mulv_bd a a'
  obtain ⟨h21, h22⟩ := mulv_bd c b'
  obtain ⟨h31, h32⟩ := mulv_bd b a'
  obtain ⟨h41, h42⟩ := mulv_bd d b'
  obtain ⟨h51, h52⟩ := mulv_bd a c'
  obtain ⟨h61, h62⟩ := mulv_bd c d'
  obtain ⟨h71, h72⟩ := mulv_bd b c'
  obtain ⟨h81, h82⟩ := mulv_bd d d'
  go_enter Try.func19, Try.ntmps19
  go_wp2_with fail
  obtain ⟨W, hW⟩ : ∃ W, W = ((w.alloc (ablk a b c d e f)).alloc (ablk a' b' c' d' e' f')).alloc (ablk 0 0 0 0 0 0) := ⟨_, rfl⟩
  rw [← hW]
  have g1 : W.heap[w.heap.size]? = some (ablk a b c d e f) := by rw [hW]; exact blk_alloc (blk_alloc (heap_alloc_new w _) _) _
  have g2 : W.heap[w.heap.size + 1]? = some (ablk a' b' c' d' e' f') := by rw [hW]; exact blk_alloc (by simpa using heap_alloc_new (w.alloc (ablk a b c d e f)) _) _
  have g3 : W.heap[w.heap.size + 1 + 1]? = some (ablk 0 0 0 0 0 0) := by rw [hW]; simpa using heap_alloc_new ((w.alloc (ablk a b c d e f)).alloc (ablk a' b' c' d' e' f')) (ablk 0 0 0 0 0 0)
  have b1 : Below w.heap.size w W := by rw [hW]; exact (((Below.refl _ w).alloc (Nat.le_refl _) _).alloc (by simp) _).alloc (by simp; omega) _
  clear hW
  refine region_lay 49 5 (ablk 0 0 0 0 0 0) _ (by kernel_rfl) (by kernel_rfl) (by kernel_rfl) rfl rfl rfl (fun _ _ => by kernel_rfl) ?_
  apply Exists.intro
  refine ⟨fun X hX hin => ?_, fun g w' hg hb hz => ?_⟩
  · obtain ⟨c0, c1, c2, c3, c4, c5⟩ := aff_extX (X := X) g1
    obtain ⟨d0, d1, d2, d3, d4, d5⟩ := aff_extX (X := X) g2
    simp only [List.take_succ_cons, List.take_zero]
    repeat (go_big_quiet_step (first | (go_at_call 36; exact ExtX.same (refMul_any _ _ _)) | (go_at_call 35; exact ExtX.same (refClip_any _ _))))
    refine wpQuiet_nil ?_
    rfl
  · have k3 := blk_lt g3
    replace g1 := Below.blk hb g1 (blk_lt g1)
    replace g2 := Below.blk hb g2 (blk_lt g2)
    replace g3 := Below.blk hb g3 (blk_lt g3)
    replace b1 := b1.trans (hb.mono b1.size)
    clear hb h11 h12 h21 h22 h31 h32 h41 h42 h51 h52 h61 h62 h71 h72 h81 h82
    have e1 : w.heap.size ≠ g := by omega
    have e2 : w.heap.size + 1 ≠ g := by omega
    have e3 : w.heap.size + 1 + 1 ≠ g := by omega
    obtain ⟨W3, hW3⟩ : ∃ W3, W3 = w'.setRow g #[.int .i64 (clip (mulv a a' + mulv c b')), .int .i64 (clip (mulv b a' + mulv d b')), .int .i64 (clip (mulv a c' + mulv c d')), .int .i64 (clip (mulv b c' + mulv d d')), .int .i64 0, .int .i64 0] := ⟨_, rfl⟩
    have n3 := setRow_heap w' g _ #[.int .i64 (clip (mulv a a' + mulv c b')), .int .i64 (clip (mulv b a' + mulv d b')), .int .i64 (clip (mulv a c' + mulv c d')), .int .i64 (clip (mulv b c' + mulv d d')), .int .i64 0, .int .i64 0] _ _ hz
    rw [← hW3] at n3
    have m3 : W3.heap[w.heap.size]? = some (ablk a b c d e f) := by rw [hW3, setRow_other _ _ _ _ e1]; exact g1
    have p3 : W3.heap[w.heap.size + 1]? = some (ablk a' b' c' d' e' f') := by rw [hW3, setRow_other _ _ _ _ e2]; exact g2
    have q3 : W3.heap[w.heap.size + 1 + 1]? = some (ablk 0 0 0 0 0 0) := by rw [hW3, setRow_other _ _ _ _ e3]; exact g3
    have b3 : Below w.heap.size w W3 := by rw [hW3]; exact below_row b1 (by omega) _
    obtain ⟨c30, c31, c32, c33, c34, c35⟩ := aff_cells m3
    obtain ⟨d30, d31, d32, d33, d34, d35⟩ := aff_cells p3
    have HZ : Hid (w'.heap[g]? = some (ablk 0 0 0 0 0 0)) := hz
    have H3 : Hid (W3 = _) := hW3
    clear hW3 hz
    simp only [Nat.reduceAdd, List.drop_succ_cons, List.drop_zero]
    go_wp2_with (refine store_aff' HZ.out rfl H3.out _ _ (by rfl) (by rfl) (by rfl) (by rfl) ?_)
    clear HZ H3 g1 g2 g3 b1
    refine (refApply_any _ _ _ _ _ _ _ _ _).mono ?_
    rintro r w1 ⟨rfl, hb⟩
    replace n3 := Below.blk hb n3 (blk_lt n3)
    replace q3 := Below.blk hb q3 (blk_lt q3)
    replace b3 := b3.trans (hb.mono b3.size)
    clear hb c30 c31 c32 c33 c34 c35 d30 d31 d32 d33 d34 d35 m3 p3
    obtain ⟨W4, hW4⟩ : ∃ W4, W4 = w1.setRow g #[.int .i64 (clip (mulv a a' + mulv c b')), .int .i64 (clip (mulv b a' + mulv d b')), .int .i64 (clip (mulv a c' + mulv c d')), .int .i64 (clip (mulv b c' + mulv d d')), .int .i64 (clip (mulv a e' + mulv c f' + clip e)), .int .i64 0] := ⟨_, rfl⟩
    obtain ⟨W5, hW5⟩ : ∃ W5, W5 = W4.setRow g #[.int .i64 (clip (mulv a a' + mulv c b')), .int .i64 (clip (mulv b a' + mulv d b')), .int .i64 (clip (mulv a c' + mulv c d')), .int .i64 (clip (mulv b c' + mulv d d')), .int .i64 (clip (mulv a e' + mulv c f' + clip e)), .int .i64 (clip (mulv b e' + mulv d f' + clip f))] := ⟨_, rfl⟩
    have n4 := setRow_heap w1 g _ #[.int .i64 (clip (mulv a a' + mulv c b')), .int .i64 (clip (mulv b a' + mulv d b')), .int .i64 (clip (mulv a c' + mulv c d')), .int .i64 (clip (mulv b c' + mulv d d')), .int .i64 (clip (mulv a e' + mulv c f' + clip e)), .int .i64 0] _ _ n3
    rw [← hW4] at n4
    have n5 := setRow_heap W4 g _ #[.int .i64 (clip (mulv a a' + mulv c b')), .int .i64 (clip (mulv b a' + mulv d b')), .int .i64 (clip (mulv a c' + mulv c d')), .int .i64 (clip (mulv b c' + mulv d d')), .int .i64 (clip (mulv a e' + mulv c f' + clip e)), .int .i64 (clip (mulv b e' + mulv d f' + clip f))] _ _ n4
    rw [← hW5] at n5
    have q5 : W5.heap[w.heap.size + 1 + 1]? = some (ablk 0 0 0 0 0 0) := by rw [hW5, setRow_other _ _ _ _ e3, hW4, setRow_other _ _ _ _ e3]; exact q3
    have b5 : Below w.heap.size w W5 := by rw [hW5, hW4]; exact below_row (below_row b3 (by omega) _) (by omega) _
    obtain ⟨c50, c51, c52, c53, c54, c55⟩ := aff_cells n5
    have H4 : Hid (W4 = _) := hW4
    have H5 : Hid (W5 = _) := hW5
    clear hW4 hW5
    go_wp2_with (first | (refine store_num n3 (i := 4) (by simp) H4.out _ _ (by rfl) (by rfl) (by rfl) (by rfl) ?_) | (refine store_num n4 (i := 5) (by simp) H5.out _ _ (by rfl) (by rfl) (by rfl) (by rfl) ?_) | (refine store_aff q5 rfl _ _ _ _ _ _ _ _ (by rfl) (by rfl) (by rfl) (by rfl) ?_))
    refine bodyPost_ret (res_aff rfl _ _ _ _ _ _ rfl (setRow_heap _ _ _ _ _ _ q5) rfl) rfl ?_
    exact ⟨rfl, below_row b5 (by omega) _⟩

end Go.Proofs.Ytkgkoicmpjnjgaa
