/-
  BlendTells' own walk.
-/
import Derived.Test.YtdaapanmalcgbaaDoorAl
namespace Go.Proofs.YtdaapanmalcgbaaDoor
open Go.RowKit

set_option maxRecDepth 100000 in
set_option maxHeartbeats 3200000 in
theorem tells_made (w : World) (mode a b : Int) (l n : Px) (ha : Fits a) (hb : Fits b) (hT : Tab w) : Calls Tryd.prog 4 #[.int .i64 mode, .int .i64 a, .int .i64 b, pv l, pv n, .bool false] w fun e w' => e = .returned (.bool true) ∧ Below w.heap.size w w' := by
  have A1 := premul_any a ha
  have A2 := premul_any b hb
  obtain ⟨p, hpe⟩ : ∃ x, premulv a = x := ⟨_, rfl⟩
  obtain ⟨q, hqe⟩ : ∃ x, premulv b = x := ⟨_, rfl⟩
  rw [hpe] at A1
  rw [hqe] at A2
  clear hpe hqe ha hb
  have Pk := pick_det mode 30 (by omega) (by omega)
  obtain ⟨K, hK⟩ : ∃ x, mode % 30 = x := ⟨_, rfl⟩
  rw [hK] at Pk
  have hK0 : 0 ≤ K := by omega
  have hK1 : K < 30 := by omega
  clear hK
  have A3 := blend_any (K - 1) p q
  have A4 := rblend_any (K - 1) p q
  unfold blendR at A3 A4
  obtain ⟨r, hr⟩ : ∃ x, outv (K - 1) p q = x := ⟨_, rfl⟩
  obtain ⟨t, ht⟩ : ∃ x, mayv (K - 1) p q = x := ⟨_, rfl⟩
  rw [hr, ht] at A3 A4
  clear hr ht
  go_enter Tryd.func4, Tryd.ntmps4
  go_wp2_with fail
  obtain ⟨W, hW⟩ : ∃ x, x = (w.alloc (.cells #[.int .i64 l.r, .int .i64 l.g, .int .i64 l.b, .int .i64 l.a] 28)).alloc (.cells #[.int .i64 n.r, .int .i64 n.g, .int .i64 n.b, .int .i64 n.a] 28) := ⟨_, rfl⟩
  rw [← hW]
  have gl : W.heap[w.heap.size]? = some (.cells (pcs l) 28) := by rw [hW]; exact blk_alloc (blk_new w _) _
  have gn : W.heap[w.heap.size + 1]? = some (.cells (pcs n) 28) := by rw [hW]; exact blk_new2 w _ _
  have hs2 : W.heap.size = w.heap.size + 2 := by rw [hW]; simp
  have B0 : Below w.heap.size w W := by rw [hW]; exact ((Below.refl _ w).alloc (Nat.le_refl _) _).alloc (by simp) _
  clear hW
  refine (A1 _).mono ?_
  rintro e w1 ⟨rfl, b1⟩
  replace gl := blk_alloc (Below.blk b1 gl (blk_lt gl)) (pblk p)
  replace gn := blk_alloc (Below.blk b1 gn (blk_lt gn)) (pblk p)
  replace B0 := B0.trans (b1.mono B0.size)
  have hnl : w.heap.size + 1 < w1.heap.size := by have := b1.size; have := hs2; omega
  go_wp2_with fail
  refine (A2 _).mono ?_
  rintro e w2 ⟨rfl, b2⟩
  have gp := Below.blk b2 (blk_new w1 (pblk p)) (by simp)
  replace gl := Below.blk b2 gl (blk_lt gl)
  replace gn := Below.blk b2 gn (blk_lt gn)
  have hz1 := B0.size
  have B4 := (B0.alloc B0.size (pblk p)).trans (b2.mono (by have := B0.size; simp; omega))
  have lp := blk_lt gp
  clear b1 b2 A1 A2 B0
  clear gl gn
  obtain ⟨V, hV⟩ : ∃ x, x = w2.alloc (.cells #[.int .i64 q.r, .int .i64 q.g, .int .i64 q.b, .int .i64 q.a] 23) := ⟨_, rfl⟩
  have gq : V.heap[w2.heap.size]? = some (pblk q) := by rw [hV]; exact blk_new _ _
  replace gp : V.heap[w1.heap.size]? = some (pblk p) := by rw [hV]; exact blk_alloc gp _
  have B : Below w.heap.size w V := by rw [hV]; exact B4.alloc B4.size _
  have T := hT.on B
  have HV : Hid (V = _) := hV
  clear hV lp hz1
  go_wp2_with fail
  rw [← HV.out]
  clear HV
  refine (Pk _).mono ?_
  rintro e w' ⟨rfl, hw⟩
  obtain rfl := hw.symm
  clear B4 Pk hw
  obtain ⟨p0, p1, p2, p3⟩ := px_cells gp
  obtain ⟨q0, q1, q2, q3⟩ := px_cells gq
  go_wp2_with fail
  refine (A3 _ T).mono ?_
  rintro e w3 ⟨rfl, b3⟩
  clear p0 p1 p2 p3 q0 q1 q2 q3
  replace gp := blk_alloc (Below.blk b3 gp (blk_lt gp)) (pblk r)
  replace gq := blk_alloc (Below.blk b3 gq (blk_lt gq)) (pblk r)
  replace B := B.trans (b3.mono B.size)
  replace T := T.on b3
  obtain ⟨p0, p1, p2, p3⟩ := px_cells gp
  obtain ⟨q0, q1, q2, q3⟩ := px_cells gq
  go_wp2_with fail
  refine (A4 _).mono ?_
  rintro e w4 ⟨rfl, b4⟩
  have kx := Below.blk b4 (blk_new w3 (pblk r)) (by simp)
  replace B := (B.alloc B.size (pblk r)).trans (b4.mono (by have := B.size; simp; omega))
  replace T := (T.on ((Below.refl _ w3).alloc (Nat.le_refl _) (pblk r))).on b4
  clear p0 p1 p2 p3 q0 q1 q2 q3 b3 b4 gp gq A3 A4
  go_wp2_with fail
  refine (known_any _ (T.on ((Below.refl _ w4).alloc (Nat.le_refl _) _))).mono ?_
  rintro e w5 ⟨rfl, b5⟩
  have ky := Below.blk b5 (blk_new w4 (pblk r)) (by simp)
  replace kx := Below.blk b5 (blk_alloc kx (pblk r)) (by have := blk_lt kx; simp; omega)
  replace B := (B.alloc B.size (pblk r)).trans (b5.mono (by have := B.size; simp; omega))
  clear b5 T
  obtain ⟨p0, p1, p2, p3⟩ := px_cells kx
  obtain ⟨q0, q1, q2, q3⟩ := px_cells ky
  go_wp2
  go_ret
  exact ⟨rfl, B⟩

set_option maxRecDepth 100000 in
set_option maxHeartbeats 3200000 in
theorem tells_raw (w : World) (mode a b : Int) (l n : Px) (ha : Fits a) (hb : Fits b) (hT : Tab w) : Calls Tryd.prog 4 #[.int .i64 mode, .int .i64 a, .int .i64 b, pv l, pv n, .bool true] w fun e w' => e = .returned (.bool true) ∧ Below w.heap.size w w' := by
  have A1 := premul_any a ha
  have A2 := premul_any b hb
  obtain ⟨p, hpe⟩ : ∃ x, premulv a = x := ⟨_, rfl⟩
  obtain ⟨q, hqe⟩ : ∃ x, premulv b = x := ⟨_, rfl⟩
  rw [hpe] at A1
  rw [hqe] at A2
  clear hpe hqe ha hb
  have Pk := pick_det mode 30 (by omega) (by omega)
  obtain ⟨K, hK⟩ : ∃ x, mode % 30 = x := ⟨_, rfl⟩
  rw [hK] at Pk
  have hK0 : 0 ≤ K := by omega
  have hK1 : K < 30 := by omega
  clear hK
  have Q : ∀ (x : Int) (W : World), Calls Tryd.prog 12 #[.int .i64 x, .int .i64 260] W fun e w' => e = .returned (.int .i64 (x % 260)) ∧ w' = W := fun x W => pick_det x 260 (by omega) (by omega) W
  obtain ⟨p', hp'⟩ : ∃ x : Px, x = ⟨l.r % 260, l.g % 260, l.b % 260, l.a % 260⟩ := ⟨_, rfl⟩
  obtain ⟨q', hq'⟩ : ∃ x : Px, x = ⟨n.r % 260, n.g % 260, n.b % 260, n.a⟩ := ⟨_, rfl⟩
  have HP : Hid (p' = ⟨l.r % 260, l.g % 260, l.b % 260, l.a % 260⟩) := hp'
  have HQ : Hid (q' = ⟨n.r % 260, n.g % 260, n.b % 260, n.a⟩) := hq'
  clear hp' hq'
  have A3 := blend_any (K - 1) p' q'
  have A4 := rblend_any (K - 1) p' q'
  unfold blendR at A3 A4
  obtain ⟨r, hr⟩ : ∃ x, outv (K - 1) p' q' = x := ⟨_, rfl⟩
  obtain ⟨t, ht⟩ : ∃ x, mayv (K - 1) p' q' = x := ⟨_, rfl⟩
  rw [hr, ht] at A3 A4
  clear hr ht
  go_enter Tryd.func4, Tryd.ntmps4
  go_wp2_with fail
  obtain ⟨W, hW⟩ : ∃ x, x = (w.alloc (.cells #[.int .i64 l.r, .int .i64 l.g, .int .i64 l.b, .int .i64 l.a] 28)).alloc (.cells #[.int .i64 n.r, .int .i64 n.g, .int .i64 n.b, .int .i64 n.a] 28) := ⟨_, rfl⟩
  rw [← hW]
  have gl : W.heap[w.heap.size]? = some (.cells (pcs l) 28) := by rw [hW]; exact blk_alloc (blk_new w _) _
  have gn : W.heap[w.heap.size + 1]? = some (.cells (pcs n) 28) := by rw [hW]; exact blk_new2 w _ _
  have hs2 : W.heap.size = w.heap.size + 2 := by rw [hW]; simp
  have B0 : Below w.heap.size w W := by rw [hW]; exact ((Below.refl _ w).alloc (Nat.le_refl _) _).alloc (by simp) _
  clear hW
  refine (A1 _).mono ?_
  rintro e w1 ⟨rfl, b1⟩
  replace gl := blk_alloc (Below.blk b1 gl (blk_lt gl)) (pblk p)
  replace gn := blk_alloc (Below.blk b1 gn (blk_lt gn)) (pblk p)
  replace B0 := B0.trans (b1.mono B0.size)
  have hnl : w.heap.size + 1 < w1.heap.size := by have := b1.size; have := hs2; omega
  go_wp2_with fail
  refine (A2 _).mono ?_
  rintro e w2 ⟨rfl, b2⟩
  have gp := Below.blk b2 (blk_new w1 (pblk p)) (by simp)
  replace gl := Below.blk b2 gl (blk_lt gl)
  replace gn := Below.blk b2 gn (blk_lt gn)
  have hz1 := B0.size
  have B4 := (B0.alloc B0.size (pblk p)).trans (b2.mono (by have := B0.size; simp; omega))
  have lp := blk_lt gp
  clear b1 b2 A1 A2 B0
  have Q2 := Q
  obtain ⟨V, hV⟩ : ∃ x, x = w2.alloc (.cells #[.int .i64 q.r, .int .i64 q.g, .int .i64 q.b, .int .i64 q.a] 23) := ⟨_, rfl⟩
  have gq : V.heap[w2.heap.size]? = some (pblk q) := by rw [hV]; exact blk_new _ _
  replace gp : V.heap[w1.heap.size]? = some (pblk p) := by rw [hV]; exact blk_alloc gp _
  replace gl : V.heap[w.heap.size]? = some (.cells (pcs l) 28) := by rw [hV]; exact blk_alloc gl _
  replace gn : V.heap[w.heap.size + 1]? = some (.cells (pcs n) 28) := by rw [hV]; exact blk_alloc gn _
  replace B4 : Below w.heap.size w V := by rw [hV]; exact B4.alloc B4.size _
  have HV : Hid (V = _) := hV
  clear hV
  have ln := blk_lt gn
  have h12 : w1.heap.size < w2.heap.size := lp
  go_wp2_with fail
  rw [← HV.out]
  clear HV
  obtain ⟨c0, c1, c2, c3⟩ := px_ext gl
  have hin := Ext.inh V
  refine region_ext_tail 13 (by kernel_rfl) (by kernel_rfl) ?_
  simp only [List.take_succ_cons, List.take_zero, List.drop_succ_cons, List.drop_zero]
  repeat (go_big_quiet_step (first | (go_at_call 12; exact Ext.same (Q _ _))))
  refine wpQuiet_nil ?_
  rintro Y ⟨⟨_, hk⟩, rfl⟩
  replace gn := Below.blk hk gn (blk_lt gn)
  replace gp := Below.blk hk gp (blk_lt gp)
  replace gq := Below.blk hk gq (blk_lt gq)
  replace B4 := B4.trans (hk.mono B4.size)
  clear c0 c1 c2 c3 hin hk gl
  obtain ⟨Y2, hY2⟩ : ∃ x, x = Y.setRow w1.heap.size (pcs p') := ⟨_, rfl⟩
  have HY : Hid (Y2 = Y.setRow w1.heap.size (pcs p')) := hY2
  have HO : Hid (Y.heap[w1.heap.size]? = some (pblk p)) := gp
  replace gp : Y2.heap[w1.heap.size]? = some (pblk p') := by rw [hY2]; exact setRow_heap _ _ _ _ _ _ gp
  replace gq : Y2.heap[w2.heap.size]? = some (pblk q) := by rw [hY2]; exact row_blk gq (by omega)
  replace gn : Y2.heap[w.heap.size + 1]? = some (.cells (pcs n) 28) := by rw [hY2]; exact row_blk gn (by omega)
  replace B4 : Below w.heap.size w Y2 := by rw [hY2]; exact below_row B4 (by omega) _
  clear hY2
  go_wp2_with (refine store_px' p' HY HO.out rfl _ _ (by rfl) (by rfl) (by rfl) (by rw [HP.out]; rfl) ?_)
  simp only [Act.put]
  clear HY HO HP
  obtain ⟨c0, c1, c2, c3⟩ := px_ext gn
  have hin := Ext.inh Y2
  refine region_ext_tail 12 (by kernel_rfl) (by kernel_rfl) ?_
  simp only [List.take_succ_cons, List.take_zero, List.drop_succ_cons, List.drop_zero]
  repeat (go_big_quiet_step (first | (go_at_call 12; exact Ext.same (Q2 _ _))))
  refine wpQuiet_nil ?_
  rintro Y3 ⟨⟨_, hk⟩, rfl⟩
  replace gp := Below.blk hk gp (blk_lt gp)
  replace gq := Below.blk hk gq (blk_lt gq)
  replace B4 := B4.trans (hk.mono B4.size)
  clear c0 c1 c2 c3 hin hk gn
  obtain ⟨Y4, hY4⟩ : ∃ x, x = Y3.setRow w2.heap.size (pcs q') := ⟨_, rfl⟩
  have HY : Hid (Y4 = Y3.setRow w2.heap.size (pcs q')) := hY4
  have HO : Hid (Y3.heap[w2.heap.size]? = some (pblk q)) := gq
  replace gq : Y4.heap[w2.heap.size]? = some (pblk q') := by rw [hY4]; exact setRow_heap _ _ _ _ _ _ gq
  replace gp : Y4.heap[w1.heap.size]? = some (pblk p') := by rw [hY4]; exact row_blk gp (by omega)
  have B : Below w.heap.size w Y4 := by rw [hY4]; exact below_row B4 (by omega) _
  have T := hT.on B
  clear hY4
  go_wp2_with (refine store_px' q' HY HO.out rfl _ _ (by rfl) (by rfl) (by rfl) (by rw [HQ.out]; rfl) ?_)
  clear HY HO HQ Q Q2
  refine (Pk _).mono ?_
  rintro e w' ⟨rfl, hw⟩
  obtain rfl := hw.symm
  clear B4 Pk hw
  obtain ⟨p0, p1, p2, p3⟩ := px_cells gp
  obtain ⟨q0, q1, q2, q3⟩ := px_cells gq
  go_wp2_with fail
  refine (A3 _ T).mono ?_
  rintro e w3 ⟨rfl, b3⟩
  clear p0 p1 p2 p3 q0 q1 q2 q3
  replace gp := blk_alloc (Below.blk b3 gp (blk_lt gp)) (pblk r)
  replace gq := blk_alloc (Below.blk b3 gq (blk_lt gq)) (pblk r)
  replace B := B.trans (b3.mono B.size)
  replace T := T.on b3
  obtain ⟨p0, p1, p2, p3⟩ := px_cells gp
  obtain ⟨q0, q1, q2, q3⟩ := px_cells gq
  go_wp2_with fail
  refine (A4 _).mono ?_
  rintro e w4 ⟨rfl, b4⟩
  have kx := Below.blk b4 (blk_new w3 (pblk r)) (by simp)
  replace B := (B.alloc B.size (pblk r)).trans (b4.mono (by have := B.size; simp; omega))
  replace T := (T.on ((Below.refl _ w3).alloc (Nat.le_refl _) (pblk r))).on b4
  clear p0 p1 p2 p3 q0 q1 q2 q3 b3 b4 gp gq A3 A4
  go_wp2_with fail
  refine (known_any _ (T.on ((Below.refl _ w4).alloc (Nat.le_refl _) _))).mono ?_
  rintro e w5 ⟨rfl, b5⟩
  have ky := Below.blk b5 (blk_new w4 (pblk r)) (by simp)
  replace kx := Below.blk b5 (blk_alloc kx (pblk r)) (by have := blk_lt kx; simp; omega)
  replace B := (B.alloc B.size (pblk r)).trans (b5.mono (by have := B.size; simp; omega))
  clear b5 T
  obtain ⟨p0, p1, p2, p3⟩ := px_cells kx
  obtain ⟨q0, q1, q2, q3⟩ := px_cells ky
  go_wp2
  go_ret
  exact ⟨rfl, B⟩

theorem blendTells_walk (w : World) (mode a b : Int) (l n : Px) (raw : Bool) (ha : Fits a) (hb : Fits b) (hT : Tab w) : Calls Tryd.prog 4 #[.int .i64 mode, .int .i64 a, .int .i64 b, pv l, pv n, .bool raw] w fun e w' => e = .returned (.bool true) ∧ Below w.heap.size w w' := by
  cases raw
  · exact tells_made w mode a b l n ha hb hT
  · exact tells_raw w mode a b l n ha hb hT
end Go.Proofs.YtdaapanmalcgbaaDoor
