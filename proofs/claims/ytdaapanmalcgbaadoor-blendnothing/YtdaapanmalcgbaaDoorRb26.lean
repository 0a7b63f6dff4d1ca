/-
  The reference's Blend, as a contract: mode 26.
-/
import Derived.Test.YtdaapanmalcgbaaDoorBnh
namespace Go.Proofs.YtdaapanmalcgbaaDoor
open Go.RowKit

set_option maxRecDepth 100000 in
set_option maxHeartbeats 3200000 in
theorem rblend26 (s d : Px) (hs : Pm s) (hd : Pm d) (w : World) : Calls Tryd.prog 13 #[.int .i64 26, pv s, pv d] w fun e w' => e = .returned (blendR 26 s d) ∧ Below w.heap.size w w' := by
  have hF : mayv 26 s d = true := mayv_of (by omega) (by omega) hs hd
  have hO : outv 26 s d = metv 26 s d := by rw [outv_of (by omega) (by omega) hs hd]; exact if_neg (by omega)
  have A1 : ∀ W : World, Calls Tryd.prog 14 #[pv s] W fun e w' => e = .returned (.bool true) ∧ Below W.heap.size W w' := fun W => told (rpremultiplied_any s W) (by rw [(premv_iff s).2 hs])
  have A2 : ∀ W : World, Calls Tryd.prog 14 #[pv d] W fun e w' => e = .returned (.bool true) ∧ Below W.heap.size W w' := fun W => told (rpremultiplied_any d W) (by rw [(premv_iff d).2 hd])
  obtain ⟨al, hal⟩ : ∃ x, alphav s d = x := ⟨_, rfl⟩
  obtain ⟨bo, hbo⟩ : ∃ x, partv s.a d.a = x := ⟨_, rfl⟩
  obtain ⟨pa, hpa⟩ : ∃ x, partv d.a (255 - s.a) = x := ⟨_, rfl⟩
  have hae : (if s.a + pa < 255 then s.a + pa else 255) = al := by rw [← hal, ← hpa]; unfold alphav sumv; rw [partv_255 hs.rt.a0 hs.rt.a1]; rfl
  obtain ⟨pa0, pa1⟩ := partv_bd d.a (255 - s.a)
  rw [hpa] at pa0 pa1
  have Aa : ∀ W : World, Calls Tryd.prog 21 #[.int .i64 d.a, .int .i64 (255 - s.a)] W fun e w' => e = .returned (.int .i64 pa) ∧ w' = W := fun W => by rw [← hpa]; exact rpart_any _ _ W
  have Ap : ∀ W : World, Calls Tryd.prog 21 #[.int .i64 s.a, .int .i64 d.a] W fun e w' => e = .returned (.int .i64 bo) ∧ w' = W := fun W => by rw [← hbo]; exact rpart_any _ _ W
  obtain ⟨ps, hps⟩ : ∃ x, barev s = x := ⟨_, rfl⟩
  obtain ⟨pd, hpd⟩ : ∃ x, barev d = x := ⟨_, rfl⟩
  have Bs : ∀ W : World, Calls Tryd.prog 22 #[pv s] W fun e w' => e = .returned (pv ps) ∧ Below W.heap.size W w' := fun W => by rw [← hps]; exact rbare_any s W
  have Bd' : ∀ W : World, Calls Tryd.prog 22 #[pv d] W fun e w' => e = .returned (pv pd) ∧ Below W.heap.size W w' := fun W => by rw [← hpd]; exact rbare_any d W
  have hci : In3 ⟨ps.r, ps.g, ps.b⟩ := by rw [← hps]; exact colv_in (barev_rt s)
  have hbi : In3 ⟨pd.r, pd.g, pd.b⟩ := by rw [← hpd]; exact colv_in (barev_rt d)
  obtain ⟨M, hM⟩ : ∃ x, mixturev 26 ⟨ps.r, ps.g, ps.b⟩ ⟨pd.r, pd.g, pd.b⟩ = x := ⟨_, rfl⟩
  have hM' : mixturev 26 (colv (barev s)) (colv (barev d)) = M := by rw [hps, hpd]; exact hM
  obtain ⟨L, hL⟩ : ∃ L, lumv ⟨pd.r, pd.g, pd.b⟩ = L := ⟨_, rfl⟩
  obtain ⟨l0, l1⟩ := lumv_in hbi
  have C2 : ∀ W : World, Calls Tryd.prog 26 #[tv ⟨pd.r, pd.g, pd.b⟩] W fun e w' => e = .returned (.int .i64 L) ∧ Below W.heap.size W w' := fun W => by rw [← hL]; exact rlum_any _ (hbi.bd.mono (by omega)) W
  rw [hL] at l0 l1
  have C4 : ∀ W : World, Calls Tryd.prog 23 #[tv ⟨ps.r, ps.g, ps.b⟩, .int .i64 L] W fun e w' => e = .returned (tv M) ∧ Below W.heap.size W w' := fun W => told (rlit_any _ L hci l0 l1 W) (by rw [← hM, ← hL]; rfl)
  clear hL l0 l1
  obtain ⟨ux, hux⟩ : ∃ x, partv s.r (255 - d.a) = x := ⟨_, rfl⟩
  obtain ⟨vx, hvx⟩ : ∃ x, partv d.r (255 - s.a) = x := ⟨_, rfl⟩
  obtain ⟨ex, hex⟩ : ∃ x, partv bo M.x = x := ⟨_, rfl⟩
  have Ux : ∀ W : World, Calls Tryd.prog 21 #[.int .i64 s.r, .int .i64 (255 - d.a)] W fun e w' => e = .returned (.int .i64 ux) ∧ w' = W := fun W => by rw [← hux]; exact rpart_any _ _ W
  have Vx : ∀ W : World, Calls Tryd.prog 21 #[.int .i64 d.r, .int .i64 (255 - s.a)] W fun e w' => e = .returned (.int .i64 vx) ∧ w' = W := fun W => by rw [← hvx]; exact rpart_any _ _ W
  have Ex : ∀ W : World, Calls Tryd.prog 21 #[.int .i64 bo, .int .i64 M.x] W fun e w' => e = .returned (.int .i64 ex) ∧ w' = W := fun W => by rw [← hex]; exact rpart_any _ _ W
  obtain ⟨ux0, ux1⟩ := partv_bd s.r (255 - d.a)
  obtain ⟨vx0, vx1⟩ := partv_bd d.r (255 - s.a)
  obtain ⟨ex0, ex1⟩ := partv_bd bo M.x
  rw [hux] at ux0 ux1
  rw [hvx] at vx0 vx1
  rw [hex] at ex0 ex1
  obtain ⟨rx, hrx⟩ : ∃ r, (if ux + vx + ex < al then ux + vx + ex else al) = r := ⟨_, rfl⟩
  have Rx : metc s d s.r d.r M.x = rx := by rw [← hrx, ← hux, ← hvx, ← hex, ← hal, ← hbo]; rfl
  clear hux hvx hex
  obtain ⟨uy, huy⟩ : ∃ x, partv s.g (255 - d.a) = x := ⟨_, rfl⟩
  obtain ⟨vy, hvy⟩ : ∃ x, partv d.g (255 - s.a) = x := ⟨_, rfl⟩
  obtain ⟨ey, hey⟩ : ∃ x, partv bo M.y = x := ⟨_, rfl⟩
  have Uy : ∀ W : World, Calls Tryd.prog 21 #[.int .i64 s.g, .int .i64 (255 - d.a)] W fun e w' => e = .returned (.int .i64 uy) ∧ w' = W := fun W => by rw [← huy]; exact rpart_any _ _ W
  have Vy : ∀ W : World, Calls Tryd.prog 21 #[.int .i64 d.g, .int .i64 (255 - s.a)] W fun e w' => e = .returned (.int .i64 vy) ∧ w' = W := fun W => by rw [← hvy]; exact rpart_any _ _ W
  have Ey : ∀ W : World, Calls Tryd.prog 21 #[.int .i64 bo, .int .i64 M.y] W fun e w' => e = .returned (.int .i64 ey) ∧ w' = W := fun W => by rw [← hey]; exact rpart_any _ _ W
  obtain ⟨uy0, uy1⟩ := partv_bd s.g (255 - d.a)
  obtain ⟨vy0, vy1⟩ := partv_bd d.g (255 - s.a)
  obtain ⟨ey0, ey1⟩ := partv_bd bo M.y
  rw [huy] at uy0 uy1
  rw [hvy] at vy0 vy1
  rw [hey] at ey0 ey1
  obtain ⟨ry, hry⟩ : ∃ r, (if uy + vy + ey < al then uy + vy + ey else al) = r := ⟨_, rfl⟩
  have Ry : metc s d s.g d.g M.y = ry := by rw [← hry, ← huy, ← hvy, ← hey, ← hal, ← hbo]; rfl
  clear huy hvy hey
  obtain ⟨uz, huz⟩ : ∃ x, partv s.b (255 - d.a) = x := ⟨_, rfl⟩
  obtain ⟨vz, hvz⟩ : ∃ x, partv d.b (255 - s.a) = x := ⟨_, rfl⟩
  obtain ⟨ez, hez⟩ : ∃ x, partv bo M.z = x := ⟨_, rfl⟩
  have Uz : ∀ W : World, Calls Tryd.prog 21 #[.int .i64 s.b, .int .i64 (255 - d.a)] W fun e w' => e = .returned (.int .i64 uz) ∧ w' = W := fun W => by rw [← huz]; exact rpart_any _ _ W
  have Vz : ∀ W : World, Calls Tryd.prog 21 #[.int .i64 d.b, .int .i64 (255 - s.a)] W fun e w' => e = .returned (.int .i64 vz) ∧ w' = W := fun W => by rw [← hvz]; exact rpart_any _ _ W
  have Ez : ∀ W : World, Calls Tryd.prog 21 #[.int .i64 bo, .int .i64 M.z] W fun e w' => e = .returned (.int .i64 ez) ∧ w' = W := fun W => by rw [← hez]; exact rpart_any _ _ W
  obtain ⟨uz0, uz1⟩ := partv_bd s.b (255 - d.a)
  obtain ⟨vz0, vz1⟩ := partv_bd d.b (255 - s.a)
  obtain ⟨ez0, ez1⟩ := partv_bd bo M.z
  rw [huz] at uz0 uz1
  rw [hvz] at vz0 vz1
  rw [hez] at ez0 ez1
  obtain ⟨rz, hrz⟩ : ∃ r, (if uz + vz + ez < al then uz + vz + ez else al) = r := ⟨_, rfl⟩
  have Rz : metc s d s.b d.b M.z = rz := by rw [← hrz, ← huz, ← hvz, ← hez, ← hal, ← hbo]; rfl
  clear huz hvz hez
  have HF : Hid (blendR 26 s d = .tuple #[pv ⟨rx, ry, rz, al⟩, .bool true]) := by show Value.tuple #[pv (outv 26 s d), .bool (mayv 26 s d)] = _; rw [hO, hF]; unfold metv; rw [hM', Rx, Ry, Rz, hal]
  have a0 := hs.rt.a0
  have a1 := hs.rt.a1
  have a2 := hd.rt.a0
  have a3 := hd.rt.a1
  clear Rx Ry Rz hal hbo hpa hM hM' hps hpd hci hbi hs hd hO hF
  obtain ⟨W, hW, g4, g5, g6, B⟩ := three_px s d w
  have z : w.heap.size + 3 ≤ W.heap.size := by rw [hW]; simp
  have HW : Hid (W = _) := hW
  clear hW
  go_enter Tryd.func13, Tryd.ntmps13
  go_wp2_with fail
  rw [← HW.out]
  refine (A1 _).mono ?_
  rintro e W1 ⟨rfl, hb⟩
  replace g4 := Below.blk hb g4 (blk_lt g4)
  replace g5 := Below.blk hb g5 (blk_lt g5)
  replace g6 := Below.blk hb g6 (blk_lt g6)
  replace B := B.trans (hb.mono B.size)
  replace z := Nat.le_trans z hb.size
  clear hb A1
  obtain ⟨p0, p1, p2, p3⟩ := px_cells g4
  obtain ⟨q0, q1, q2, q3⟩ := px_cells g5
  go_wp2_with fail
  refine (A2 _).mono ?_
  rintro e W2 ⟨rfl, hb⟩
  replace g4 := Below.blk hb g4 (blk_lt g4)
  replace g5 := Below.blk hb g5 (blk_lt g5)
  replace g6 := Below.blk hb g6 (blk_lt g6)
  replace B := B.trans (hb.mono B.size)
  replace z := Nat.le_trans z hb.size
  clear hb A2 p0 p1 p2 p3 q0 q1 q2 q3
  obtain ⟨p0, p1, p2, p3⟩ := px_cells g4
  obtain ⟨q0, q1, q2, q3⟩ := px_cells g5
  go_wp2_with fail
  refine (Bs _).mono ?_
  rintro e W3 ⟨rfl, hb⟩
  replace g4 := Below.blk hb g4 (blk_lt g4)
  replace g5 := Below.blk hb g5 (blk_lt g5)
  replace g6 := Below.blk hb g6 (blk_lt g6)
  replace B := B.trans (hb.mono B.size)
  replace z := Nat.le_trans z hb.size
  clear hb Bs p0 p1 p2 p3 q0 q1 q2 q3
  obtain ⟨W5, hW5⟩ : ∃ x, x = W3.alloc (pblk ps) := ⟨_, rfl⟩
  have HW5 : Hid (W5 = W3.alloc (.cells #[.int .i64 ps.r, .int .i64 ps.g, .int .i64 ps.b, .int .i64 ps.a] 23)) := hW5
  have e10 : W5.heap[W3.heap.size]? = some (pblk ps) := by rw [hW5]; exact blk_new _ _
  replace g4 : W5.heap[w.heap.size]? = some (pblk s) := by rw [hW5]; exact blk_alloc g4 _
  replace g5 : W5.heap[w.heap.size + 1]? = some (pblk d) := by rw [hW5]; exact blk_alloc g5 _
  replace g6 : W5.heap[w.heap.size + 1 + 1]? = some (pblk ⟨0, 0, 0, 0⟩) := by rw [hW5]; exact blk_alloc g6 _
  replace B : Below w.heap.size w W5 := by rw [hW5]; exact B.alloc B.size _
  have z5 : w.heap.size + 3 ≤ W5.heap.size := by rw [hW5]; simp; omega
  clear hW5
  obtain ⟨q0, q1, q2, q3⟩ := px_cells g5
  go_wp2_with (rw [← HW5.out])
  refine (Bd' _).mono ?_
  rintro e W4 ⟨rfl, hb⟩
  clear q0 q1 q2 q3 HW5
  obtain ⟨K, hK⟩ : ∃ K, W3.heap.size = K := ⟨_, rfl⟩
  rw [hK] at z e10 ⊢
  replace g4 := Below.blk hb g4 (blk_lt g4)
  replace g5 := Below.blk hb g5 (blk_lt g5)
  replace g6 := Below.blk hb g6 (blk_lt g6)
  replace e10 := Below.blk hb e10 (blk_lt e10)
  replace B := B.trans (hb.mono B.size)
  replace z5 := Nat.le_trans z5 hb.size
  clear hb Bd' hK
  obtain ⟨X, hX⟩ : ∃ x, x = W4.alloc (pblk pd) := ⟨_, rfl⟩
  have HX : Hid (X = W4.alloc (.cells #[.int .i64 pd.r, .int .i64 pd.g, .int .i64 pd.b, .int .i64 pd.a] 23)) := hX
  have e11 : X.heap[W4.heap.size]? = some (pblk pd) := by rw [hX]; exact blk_new _ _
  replace e10 : X.heap[K]? = some (pblk ps) := by rw [hX]; exact blk_alloc e10 _
  replace g4 : X.heap[w.heap.size]? = some (pblk s) := by rw [hX]; exact blk_alloc g4 _
  replace g5 : X.heap[w.heap.size + 1]? = some (pblk d) := by rw [hX]; exact blk_alloc g5 _
  replace g6 : X.heap[w.heap.size + 1 + 1]? = some (pblk ⟨0, 0, 0, 0⟩) := by rw [hX]; exact blk_alloc g6 _
  replace B : Below w.heap.size w X := by rw [hX]; exact B.alloc B.size _
  have hXs : X.heap.size = W4.heap.size + 1 := by rw [hX]; simp
  clear hX
  obtain ⟨p0, p1, p2, p3⟩ := px_cells e10
  obtain ⟨q0, q1, q2, q3⟩ := px_cells e11
  have z6 : w.heap.size + 3 ≤ X.heap.size := by omega
  have l10 := blk_lt e10
  have l11 := blk_lt e11
  go_wp2_with (rw [← HX.out])
  obtain ⟨V, hV⟩ : ∃ x, x = ((X.alloc (.cells #[.int .i64 ps.r, .int .i64 ps.g, .int .i64 ps.b] 49)).alloc (.cells #[.int .i64 pd.r, .int .i64 pd.g, .int .i64 pd.b] 49)).alloc (.cells #[.int .i64 0, .int .i64 0, .int .i64 0] 49) := ⟨_, rfl⟩
  rw [← hV]
  obtain ⟨G, hG⟩ : ∃ G, W4.heap.size + 1 = G := ⟨_, rfl⟩
  have F : Fr w V G s d ⟨ps.r, ps.g, ps.b⟩ ⟨pd.r, pd.g, pd.b⟩ ⟨0, 0, 0⟩ := by
    rw [← hG, ← hXs, hV]
    exact ⟨z6, blk_alloc (blk_alloc (blk_alloc g4 _) _) _, blk_alloc (blk_alloc (blk_alloc g5 _) _) _, blk_alloc (blk_alloc (blk_alloc g6 _) _) _, blk_alloc (blk_alloc (blk_new X _) _) _, blk_alloc (blk_new2 X _ _) _, by have := blk_new2 (X.alloc (.cells #[.int .i64 ps.r, .int .i64 ps.g, .int .i64 ps.b] 49)) (.cells #[.int .i64 pd.r, .int .i64 pd.g, .int .i64 pd.b] 49) (tblk 49 ⟨0, 0, 0⟩); simp only [World.size_alloc] at this; exact this, ((B.alloc (by omega) _).alloc (by simp; omega) _).alloc (by simp; omega) _⟩
  rw [hG]
  clear hV hG p0 p1 p2 p3 q0 q1 q2 q3 HX e10 e11 hXs z z5 z6 l10 l11 g4 g5 g6 B HW
  obtain ⟨p0, p1, p2⟩ := t3_ext F.k12
  obtain ⟨q0, q1, q2⟩ := t3_ext F.k13
  have hin := Ext.inh V
  refine region_ext_tail 4 (by kernel_rfl) (by kernel_rfl) ?_
  simp only [List.take_succ_cons, List.take_zero, List.drop_succ_cons, List.drop_zero]
  repeat (go_big_quiet_step (first | (go_at_call 26; exact Ext.call (C2 _)) | (go_at_call 23; exact Ext.call (C4 _))))
  refine wpQuiet_nil ?_
  rintro Y ⟨⟨_, hk⟩, rfl⟩
  replace F := F.on hk
  clear p0 p1 p2 q0 q1 q2 hin hk C2 C4
  obtain ⟨V2, hV2⟩ : ∃ x, x = Y.setRow (G + 1 + 1) (tcs M) := ⟨_, rfl⟩
  have HV2 : Hid (V2 = Y.setRow (G + 1 + 1) (tcs M)) := hV2
  have O := F.k14
  replace F : Fr w V2 G s d ⟨ps.r, ps.g, ps.b⟩ ⟨pd.r, pd.g, pd.b⟩ M := by rw [hV2]; exact F.row M
  have HO : Hid (Y.heap[G + 1 + 1]? = some (tblk 49 ⟨0, 0, 0⟩)) := O
  clear hV2 O
  go_wp2_with (refine store_t' M HV2 size49 HO.out rfl _ _ (by rfl) (by rfl) (by rfl) (by rfl) ?_)
  clear HV2 HO
  simp only [Act.put]
  obtain ⟨p0, p1, p2, p3⟩ := px_ext F.g4
  obtain ⟨q0, q1, q2, q3⟩ := px_ext F.g5
  have hin := Ext.inh V2
  refine region_ext (by kernel_rfl) (by kernel_rfl) ?_
  repeat (go_big_quiet_step (first | (go_at_call 21; exact Ext.same (Aa _))))
  refine wpQuiet_nil ?_
  rintro Y3 ⟨⟨_, hk⟩, rfl⟩
  replace F := F.on hk
  clear p0 p1 p2 p3 q0 q1 q2 q3 hin hk Aa hae pa0 pa1
  obtain ⟨p0, p1, p2, p3⟩ := px_cells F.g4
  obtain ⟨q0, q1, q2, q3⟩ := px_cells F.g5
  go_wp2_with fail
  refine (Ap _).mono ?_
  rintro e w1 ⟨rfl, hw⟩
  obtain rfl := hw.symm
  have lp := blk_lt F.g4
  have lq := blk_lt F.g5
  go_wp2_with fail
  obtain ⟨V6, hV6⟩ : ∃ x, x = (Y3.alloc (.cells #[.int .i64 s.r, .int .i64 s.g, .int .i64 s.b] 49)).alloc (.cells #[.int .i64 d.r, .int .i64 d.g, .int .i64 d.b] 49) := ⟨_, rfl⟩
  rw [← hV6]
  have n18 : V6.heap[Y3.heap.size]? = some (tblk 49 ⟨s.r, s.g, s.b⟩) := by rw [hV6]; exact blk_alloc (blk_new Y3 _) _
  have n19 : V6.heap[Y3.heap.size + 1]? = some (tblk 49 ⟨d.r, d.g, d.b⟩) := by rw [hV6]; exact blk_new2 Y3 _ _
  have hH := blk_lt F.k14
  replace F : Fr w V6 G s d ⟨ps.r, ps.g, ps.b⟩ ⟨pd.r, pd.g, pd.b⟩ M := by rw [hV6]; exact (F.alloc _).alloc _
  clear hV6 p0 p1 p2 p3 q0 q1 q2 q3 Ap hw lp lq
  obtain ⟨H, hHe⟩ : ∃ H, Y3.heap.size = H := ⟨_, rfl⟩
  rw [hHe] at n18 n19 hH ⊢
  clear hHe
  have m18 : H ≠ G + 1 + 1 := by omega
  have m19 : H + 1 ≠ G + 1 + 1 := by omega
  refine wp_loop_rounds 4 ?_
  rw [rounds_succ]
  go_wp2_with fail
  obtain ⟨p0, p1, p2, p3⟩ := px_ext F.g4
  obtain ⟨q0, q1, q2, q3⟩ := px_ext F.g5
  obtain ⟨s0, s1, s2⟩ := t3_ext (p := ⟨s.r, s.g, s.b⟩) n18
  obtain ⟨d0, d1, d2⟩ := t3_ext (p := ⟨d.r, d.g, d.b⟩) n19
  obtain ⟨x0, x1, x2⟩ := t3_ext F.k14
  have hin := Ext.inh V6
  refine region_ext_cone 25 (by kernel_rfl) (by kernel_rfl) ?_
  simp only [List.take_succ_cons, List.take_zero, List.drop_succ_cons, List.drop_zero]
  repeat (go_big_quiet_step (fail))
  go_big_quiet_step (first | (go_at_call 21; exact Ext.same (Ux _)))
  repeat (go_big_quiet_step (fail))
  go_big_quiet_step (first | (go_at_call 21; exact Ext.same (Vx _)))
  repeat (go_big_quiet_step (fail))
  go_big_quiet_step (first | (go_at_call 21; exact Ext.same (Ex _)))
  repeat (go_big_quiet_step (fail))
  refine wpQuiet_nil ?_
  rintro Q0 ⟨⟨_, hk⟩, rfl⟩
  replace F := F.on hk
  replace n18 := Below.blk hk n18 (blk_lt n18)
  replace n19 := Below.blk hk n19 (blk_lt n19)
  clear p0 p1 p2 p3 q0 q1 q2 q3 s0 s1 s2 d0 d1 d2 x0 x1 x2 hin hk Ux Vx Ex hrx
  obtain ⟨c0, c1, c2⟩ := t3_cells F.k14
  have f0 := blk_free F.k14 0
  go_wp2_with fail
  obtain ⟨P0, hP⟩ : ∃ x, x = Q0.setCell ⟨G + 1 + 1, 0, none⟩ (.int .i64 rx) := ⟨_, rfl⟩
  rw [← hP]
  replace F : Fr w P0 G s d ⟨ps.r, ps.g, ps.b⟩ ⟨pd.r, pd.g, pd.b⟩ ⟨rx, M.y, M.z⟩ := by rw [hP]; exact F.cell rfl
  replace n18 : P0.heap[H]? = some (tblk 49 ⟨s.r, s.g, s.b⟩) := by rw [hP, blk_other _ m18]; exact n18
  replace n19 : P0.heap[H + 1]? = some (tblk 49 ⟨d.r, d.g, d.b⟩) := by rw [hP, blk_other _ m19]; exact n19
  clear hP c0 c1 c2 f0
  rw [rounds_succ]
  go_wp2_with fail
  obtain ⟨p0, p1, p2, p3⟩ := px_ext F.g4
  obtain ⟨q0, q1, q2, q3⟩ := px_ext F.g5
  obtain ⟨s0, s1, s2⟩ := t3_ext (p := ⟨s.r, s.g, s.b⟩) n18
  obtain ⟨d0, d1, d2⟩ := t3_ext (p := ⟨d.r, d.g, d.b⟩) n19
  obtain ⟨x0, x1, x2⟩ := t3_ext F.k14
  have hin := Ext.inh P0
  refine region_ext_cone 25 (by kernel_rfl) (by kernel_rfl) ?_
  simp only [List.take_succ_cons, List.take_zero, List.drop_succ_cons, List.drop_zero]
  repeat (go_big_quiet_step (fail))
  go_big_quiet_step (first | (go_at_call 21; exact Ext.same (Uy _)))
  repeat (go_big_quiet_step (fail))
  go_big_quiet_step (first | (go_at_call 21; exact Ext.same (Vy _)))
  repeat (go_big_quiet_step (fail))
  go_big_quiet_step (first | (go_at_call 21; exact Ext.same (Ey _)))
  repeat (go_big_quiet_step (fail))
  refine wpQuiet_nil ?_
  rintro Q1 ⟨⟨_, hk⟩, rfl⟩
  replace F := F.on hk
  replace n18 := Below.blk hk n18 (blk_lt n18)
  replace n19 := Below.blk hk n19 (blk_lt n19)
  clear p0 p1 p2 p3 q0 q1 q2 q3 s0 s1 s2 d0 d1 d2 x0 x1 x2 hin hk Uy Vy Ey hry
  obtain ⟨c0, c1, c2⟩ := t3_cells F.k14
  have f1 := blk_free F.k14 1
  go_wp2_with fail
  obtain ⟨P1, hP⟩ : ∃ x, x = Q1.setCell ⟨G + 1 + 1, 1, none⟩ (.int .i64 ry) := ⟨_, rfl⟩
  rw [← hP]
  replace F : Fr w P1 G s d ⟨ps.r, ps.g, ps.b⟩ ⟨pd.r, pd.g, pd.b⟩ ⟨rx, ry, M.z⟩ := by rw [hP]; exact F.cell rfl
  replace n18 : P1.heap[H]? = some (tblk 49 ⟨s.r, s.g, s.b⟩) := by rw [hP, blk_other _ m18]; exact n18
  replace n19 : P1.heap[H + 1]? = some (tblk 49 ⟨d.r, d.g, d.b⟩) := by rw [hP, blk_other _ m19]; exact n19
  clear hP c0 c1 c2 f1
  rw [rounds_succ]
  go_wp2_with fail
  obtain ⟨p0, p1, p2, p3⟩ := px_ext F.g4
  obtain ⟨q0, q1, q2, q3⟩ := px_ext F.g5
  obtain ⟨s0, s1, s2⟩ := t3_ext (p := ⟨s.r, s.g, s.b⟩) n18
  obtain ⟨d0, d1, d2⟩ := t3_ext (p := ⟨d.r, d.g, d.b⟩) n19
  obtain ⟨x0, x1, x2⟩ := t3_ext F.k14
  have hin := Ext.inh P1
  refine region_ext_cone 25 (by kernel_rfl) (by kernel_rfl) ?_
  simp only [List.take_succ_cons, List.take_zero, List.drop_succ_cons, List.drop_zero]
  repeat (go_big_quiet_step (fail))
  go_big_quiet_step (first | (go_at_call 21; exact Ext.same (Uz _)))
  repeat (go_big_quiet_step (fail))
  go_big_quiet_step (first | (go_at_call 21; exact Ext.same (Vz _)))
  repeat (go_big_quiet_step (fail))
  go_big_quiet_step (first | (go_at_call 21; exact Ext.same (Ez _)))
  repeat (go_big_quiet_step (fail))
  refine wpQuiet_nil ?_
  rintro Q2 ⟨⟨_, hk⟩, rfl⟩
  replace F := F.on hk
  replace n18 := Below.blk hk n18 (blk_lt n18)
  replace n19 := Below.blk hk n19 (blk_lt n19)
  clear p0 p1 p2 p3 q0 q1 q2 q3 s0 s1 s2 d0 d1 d2 x0 x1 x2 hin hk Uz Vz Ez hrz
  obtain ⟨c0, c1, c2⟩ := t3_cells F.k14
  have f2 := blk_free F.k14 2
  go_wp2_with fail
  obtain ⟨P2, hP⟩ : ∃ x, x = Q2.setCell ⟨G + 1 + 1, 2, none⟩ (.int .i64 rz) := ⟨_, rfl⟩
  rw [← hP]
  replace F : Fr w P2 G s d ⟨ps.r, ps.g, ps.b⟩ ⟨pd.r, pd.g, pd.b⟩ ⟨rx, ry, rz⟩ := by rw [hP]; exact F.cell rfl
  replace n18 : P2.heap[H]? = some (tblk 49 ⟨s.r, s.g, s.b⟩) := by rw [hP, blk_other _ m18]; exact n18
  replace n19 : P2.heap[H + 1]? = some (tblk 49 ⟨d.r, d.g, d.b⟩) := by rw [hP, blk_other _ m19]; exact n19
  clear hP c0 c1 c2 f2
  obtain ⟨c0, c1, c2⟩ := t3_cells F.k14
  have O := F.g6
  rw [rounds_succ]
  go_wp2_with (refine store_px O rfl _ _ ⟨rx, ry, rz, al⟩ (by rfl) (by rfl) (by rfl) (by rfl) ?_)
  refine bodyPost_ret (res_two rfl _ _ _ _ _ _ (.bool true) rfl rfl (setRow_heap _ _ _ _ _ _ O) rfl) rfl ?_
  exact ⟨by rw [HF.out], below_row F.B (by omega) _⟩
end Go.Proofs.YtdaapanmalcgbaaDoor
