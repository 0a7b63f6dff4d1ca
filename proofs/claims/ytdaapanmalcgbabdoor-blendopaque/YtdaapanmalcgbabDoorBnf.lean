/-
  Package blend: met, as a contract.
-/
import Derived.Test.YtdaapanmalcgbabDoorBne
namespace Go.Proofs.YtdaapanmalcgbabDoor
open Go.RowKit

theorem t3_extX {w : World} {X : World → Prop} {g : Nat} {p : T3} {t : TypeId} {fr : Nat × Nat} (h : w.heap[g]? = some (.cells (tcs p) t fr)) :
    (∀ k : ExtX w X, k.w.cell? ⟨g, 0, none⟩ = some (.int .i64 p.x)) ∧ (∀ k : ExtX w X, k.w.cell? ⟨g, 1, none⟩ = some (.int .i64 p.y)) ∧ (∀ k : ExtX w X, k.w.cell? ⟨g, 2, none⟩ = some (.int .i64 p.z)) := by
  obtain ⟨c0, c1, c2⟩ := t3_cells h
  exact ⟨ExtX.cell c0, ExtX.cell c1, ExtX.cell c2⟩
theorem px_extX {w : World} {X : World → Prop} {g : Nat} {p : Px} {t : TypeId} {fr : Nat × Nat} (h : w.heap[g]? = some (.cells (pcs p) t fr)) :
    (∀ k : ExtX w X, k.w.cell? ⟨g, 0, none⟩ = some (.int .i64 p.r)) ∧ (∀ k : ExtX w X, k.w.cell? ⟨g, 1, none⟩ = some (.int .i64 p.g)) ∧ (∀ k : ExtX w X, k.w.cell? ⟨g, 2, none⟩ = some (.int .i64 p.b)) ∧ (∀ k : ExtX w X, k.w.cell? ⟨g, 3, none⟩ = some (.int .i64 p.a)) := by
  obtain ⟨c0, c1, c2, c3⟩ := px_cells h
  exact ⟨ExtX.cell c0, ExtX.cell c1, ExtX.cell c2, ExtX.cell c3⟩
theorem row_blk {w : World} {g h : Nat} {o : Obj} {c : Array Value} (hg : w.heap[h]? = some o) (hne : h ≠ g) : (w.setRow g c).heap[h]? = some o := by
  rw [setRow_other _ _ _ _ hne]; exact hg

set_option maxRecDepth 100000 in
set_option maxHeartbeats 3200000 in
theorem met_any (m : Int) (s d : Px) (hm : 13 ≤ m) (hm2 : m < 28) (hs : Pm s) (hd : Pm d) (w : World) : Calls Tryd.prog 11 #[.int .i64 m, pv s, pv d] w fun e w' => e = .returned (pv (metv m s d)) ∧ Below w.heap.size w w' := by
  obtain ⟨al, hal⟩ : ∃ x, alphav s d = x := ⟨_, rfl⟩
  obtain ⟨bo, hbo⟩ : ∃ x, partv s.a d.a = x := ⟨_, rfl⟩
  obtain ⟨c, hc⟩ : ∃ x, colv (barev s) = x := ⟨_, rfl⟩
  obtain ⟨b, hb⟩ : ∃ x, colv (barev d) = x := ⟨_, rfl⟩
  obtain ⟨M, hM⟩ : ∃ x, mixturev m c b = x := ⟨_, rfl⟩
  have hci : In3 c := by rw [← hc]; exact colv_in (barev_rt s)
  have hbi : In3 b := by rw [← hb]; exact colv_in (barev_rt d)
  have As : ∀ W : World, Calls Tryd.prog 13 #[.int .i64 s.a, .int .i64 d.a, .int .i64 255, .int .i64 (255 - s.a)] W fun e w' => e = .returned (.int .i64 al) ∧ w' = W := fun W => by rw [← hal]; exact sum_any _ _ _ _ W
  have Ap : ∀ W : World, Calls Tryd.prog 15 #[.int .i64 s.a, .int .i64 d.a] W fun e w' => e = .returned (.int .i64 bo) ∧ w' = W := fun W => by rw [← hbo]; exact part_any _ _ W
  have Ac : ∀ W : World, Calls Tryd.prog 16 #[pv (barev s)] W fun e w' => e = .returned (tv c) ∧ Below W.heap.size W w' := fun W => by rw [← hc]; exact colours_any _ W
  have Ab : ∀ W : World, Calls Tryd.prog 16 #[pv (barev d)] W fun e w' => e = .returned (tv b) ∧ Below W.heap.size W w' := fun W => by rw [← hb]; exact colours_any _ W
  have As2 : ∀ W : World, Calls Tryd.prog 16 #[pv s] W fun e w' => e = .returned (tv ⟨s.r, s.g, s.b⟩) ∧ Below W.heap.size W w' := fun W => colours_any s W
  have Ad2 : ∀ W : World, Calls Tryd.prog 16 #[pv d] W fun e w' => e = .returned (tv ⟨d.r, d.g, d.b⟩) ∧ Below W.heap.size W w' := fun W => colours_any d W
  have Am : ∀ W : World, Calls Tryd.prog 17 #[.int .i64 m, tv c, tv b] W fun e w' => e = .returned (tv M) ∧ Below W.heap.size W w' := fun W => by rw [← hM]; exact mixture_any m c b hm hm2 hci hbi W
  obtain ⟨ps, hps⟩ : ∃ x, barev s = x := ⟨_, rfl⟩
  obtain ⟨pd, hpd⟩ : ∃ x, barev d = x := ⟨_, rfl⟩
  have Bs : ∀ W : World, Calls Tryd.prog 18 #[pv s] W fun e w' => e = .returned (pv ps) ∧ Below W.heap.size W w' := fun W => by rw [← hps]; exact bare_any s W
  have Bd' : ∀ W : World, Calls Tryd.prog 18 #[pv d] W fun e w' => e = .returned (pv pd) ∧ Below W.heap.size W w' := fun W => by rw [← hpd]; exact bare_any d W
  rw [hps] at Ac
  rw [hpd] at Ab
  obtain ⟨ux, hux⟩ : ∃ x, partv s.r (255 - d.a) = x := ⟨_, rfl⟩
  obtain ⟨vx, hvx⟩ : ∃ x, partv d.r (255 - s.a) = x := ⟨_, rfl⟩
  obtain ⟨ex, hex⟩ : ∃ x, partv bo M.x = x := ⟨_, rfl⟩
  have Ux : ∀ W : World, Calls Tryd.prog 15 #[.int .i64 s.r, .int .i64 (255 - d.a)] W fun e w' => e = .returned (.int .i64 ux) ∧ w' = W := fun W => by rw [← hux]; exact part_any _ _ W
  have Vx : ∀ W : World, Calls Tryd.prog 15 #[.int .i64 d.r, .int .i64 (255 - s.a)] W fun e w' => e = .returned (.int .i64 vx) ∧ w' = W := fun W => by rw [← hvx]; exact part_any _ _ W
  have Ex : ∀ W : World, Calls Tryd.prog 15 #[.int .i64 bo, .int .i64 M.x] W fun e w' => e = .returned (.int .i64 ex) ∧ w' = W := fun W => by rw [← hex]; exact part_any _ _ W
  have uxb := partv_bd s.r (255 - d.a)
  have vxb := partv_bd d.r (255 - s.a)
  have exb := partv_bd bo M.x
  rw [hux] at uxb
  rw [hvx] at vxb
  rw [hex] at exb
  obtain ⟨ux0, ux1⟩ := uxb
  obtain ⟨vx0, vx1⟩ := vxb
  obtain ⟨ex0, ex1⟩ := exb
  obtain ⟨rx, hrx⟩ : ∃ r, (if ux + vx + ex < al then ux + vx + ex else al) = r := ⟨_, rfl⟩
  have Rx : metc s d s.r d.r M.x = rx := by rw [← hrx, ← hux, ← hvx, ← hex, ← hal, ← hbo]; rfl
  clear hux hvx hex
  obtain ⟨uy, huy⟩ : ∃ x, partv s.g (255 - d.a) = x := ⟨_, rfl⟩
  obtain ⟨vy, hvy⟩ : ∃ x, partv d.g (255 - s.a) = x := ⟨_, rfl⟩
  obtain ⟨ey, hey⟩ : ∃ x, partv bo M.y = x := ⟨_, rfl⟩
  have Uy : ∀ W : World, Calls Tryd.prog 15 #[.int .i64 s.g, .int .i64 (255 - d.a)] W fun e w' => e = .returned (.int .i64 uy) ∧ w' = W := fun W => by rw [← huy]; exact part_any _ _ W
  have Vy : ∀ W : World, Calls Tryd.prog 15 #[.int .i64 d.g, .int .i64 (255 - s.a)] W fun e w' => e = .returned (.int .i64 vy) ∧ w' = W := fun W => by rw [← hvy]; exact part_any _ _ W
  have Ey : ∀ W : World, Calls Tryd.prog 15 #[.int .i64 bo, .int .i64 M.y] W fun e w' => e = .returned (.int .i64 ey) ∧ w' = W := fun W => by rw [← hey]; exact part_any _ _ W
  have uyb := partv_bd s.g (255 - d.a)
  have vyb := partv_bd d.g (255 - s.a)
  have eyb := partv_bd bo M.y
  rw [huy] at uyb
  rw [hvy] at vyb
  rw [hey] at eyb
  obtain ⟨uy0, uy1⟩ := uyb
  obtain ⟨vy0, vy1⟩ := vyb
  obtain ⟨ey0, ey1⟩ := eyb
  obtain ⟨ry, hry⟩ : ∃ r, (if uy + vy + ey < al then uy + vy + ey else al) = r := ⟨_, rfl⟩
  have Ry : metc s d s.g d.g M.y = ry := by rw [← hry, ← huy, ← hvy, ← hey, ← hal, ← hbo]; rfl
  clear huy hvy hey
  obtain ⟨uz, huz⟩ : ∃ x, partv s.b (255 - d.a) = x := ⟨_, rfl⟩
  obtain ⟨vz, hvz⟩ : ∃ x, partv d.b (255 - s.a) = x := ⟨_, rfl⟩
  obtain ⟨ez, hez⟩ : ∃ x, partv bo M.z = x := ⟨_, rfl⟩
  have Uz : ∀ W : World, Calls Tryd.prog 15 #[.int .i64 s.b, .int .i64 (255 - d.a)] W fun e w' => e = .returned (.int .i64 uz) ∧ w' = W := fun W => by rw [← huz]; exact part_any _ _ W
  have Vz : ∀ W : World, Calls Tryd.prog 15 #[.int .i64 d.b, .int .i64 (255 - s.a)] W fun e w' => e = .returned (.int .i64 vz) ∧ w' = W := fun W => by rw [← hvz]; exact part_any _ _ W
  have Ez : ∀ W : World, Calls Tryd.prog 15 #[.int .i64 bo, .int .i64 M.z] W fun e w' => e = .returned (.int .i64 ez) ∧ w' = W := fun W => by rw [← hez]; exact part_any _ _ W
  have uzb := partv_bd s.b (255 - d.a)
  have vzb := partv_bd d.b (255 - s.a)
  have ezb := partv_bd bo M.z
  rw [huz] at uzb
  rw [hvz] at vzb
  rw [hez] at ezb
  obtain ⟨uz0, uz1⟩ := uzb
  obtain ⟨vz0, vz1⟩ := vzb
  obtain ⟨ez0, ez1⟩ := ezb
  obtain ⟨rz, hrz⟩ : ∃ r, (if uz + vz + ez < al then uz + vz + ez else al) = r := ⟨_, rfl⟩
  have Rz : metc s d s.b d.b M.z = rz := by rw [← hrz, ← huz, ← hvz, ← hez, ← hal, ← hbo]; rfl
  clear huz hvz hez
  have HP : Hid (metv m s d = ⟨rx, ry, rz, al⟩) := by show _ = _; unfold metv; rw [hc, hb, hM, Rx, Ry, Rz, hal]
  have a0 := hs.rt.a0
  have a1 := hs.rt.a1
  have a2 := hd.rt.a0
  have a3 := hd.rt.a1
  clear Rx Ry Rz hal hbo hc hb hM hps hpd hci hbi hs hd
  go_enter Tryd.func11, Tryd.ntmps11
  go_wp2_with fail
  obtain ⟨W, hW⟩ : ∃ W, W = ((w.alloc (pblk s)).alloc (pblk d)).alloc (pblk ⟨0, 0, 0, 0⟩) := ⟨_, rfl⟩
  rw [← hW]
  have g4 : W.heap[w.heap.size]? = some (pblk s) := by rw [hW]; exact blk_alloc (blk_alloc (blk_new w _) _) _
  have g5 : W.heap[w.heap.size + 1]? = some (pblk d) := by rw [hW]; exact blk_alloc (blk_new2 w _ _) _
  have g6 : W.heap[w.heap.size + 1 + 1]? = some (pblk ⟨0, 0, 0, 0⟩) := by rw [hW]; have := blk_new2 (w.alloc (pblk s)) (pblk d) (pblk ⟨0, 0, 0, 0⟩); simp only [World.size_alloc] at this; exact this
  have B : Below w.heap.size w W := by rw [hW]; exact (((Below.refl _ w).alloc (Nat.le_refl _) _).alloc (by simp) _).alloc (by simp; omega) _
  have z : w.heap.size + 3 ≤ W.heap.size := by rw [hW]; simp
  clear hW
  obtain ⟨p0, p1, p2, p3⟩ := px_ext g4
  obtain ⟨q0, q1, q2, q3⟩ := px_ext g5
  have hin := Ext.inh W
  refine region_ext (by kernel_rfl) (by kernel_rfl) ?_
  repeat (go_big_quiet_step (first | (go_at_call 14; exact Ext.same (not_any _ (by omega) (by omega) _)) | (go_at_call 13; exact Ext.same (As _))))
  refine wpQuiet_nil ?_
  rintro W1 ⟨⟨_, hk⟩, rfl⟩
  replace g4 := Below.blk hk g4 (blk_lt g4)
  replace g5 := Below.blk hk g5 (blk_lt g5)
  replace g6 := Below.blk hk g6 (blk_lt g6)
  replace B := B.trans (hk.mono B.size)
  replace z := Nat.le_trans z hk.size
  clear p0 p1 p2 p3 q0 q1 q2 q3 hin hk As
  obtain ⟨p0, p1, p2, p3⟩ := px_cells g4
  obtain ⟨q0, q1, q2, q3⟩ := px_cells g5
  go_wp2_with fail
  refine (Ap _).mono ?_
  rintro e w' ⟨rfl, hw⟩
  obtain rfl := hw.symm
  clear Ap
  go_wp2_with fail
  refine region_lay2 4 9 10 (tblk 41 ⟨0, 0, 0⟩) (tblk 41 ⟨0, 0, 0⟩) (by kernel_rfl) (by kernel_rfl) (by kernel_rfl) _ _ rfl rfl (fun _ _ => by kernel_rfl) (fun _ _ => by kernel_rfl) ?_
  apply Exists.intro
  refine ⟨fun X hX hin => ?_, fun g9 g10 w' hg hg' hne hb hz hz' => ?_⟩
  · obtain ⟨p0, p1, p2, p3⟩ := px_extX (X := X) g4
    obtain ⟨q0, q1, q2, q3⟩ := px_extX (X := X) g5
    simp only [List.take_succ_cons, List.take_zero]
    repeat (go_big_quiet_step (fail))
    go_big_quiet_step (first | (go_at_call 16; exact ExtX.call hX (As2 _)))
    repeat (go_big_quiet_step (fail))
    go_big_quiet_step (first | (go_at_call 16; exact ExtX.call hX (Ad2 _)))
    repeat (go_big_quiet_step (fail))
    refine wpQuiet_nil ?_
    rfl
  have hG9 : w.heap.size ≤ g9 := by omega
  have hG10 : w.heap.size ≤ g10 := by omega
  have n1 : w.heap.size ≠ g9 := by omega
  have n2 : w.heap.size + 1 ≠ g9 := by omega
  have n3 : w.heap.size + 1 + 1 ≠ g9 := by omega
  have n4 : w.heap.size ≠ g10 := by omega
  have n5 : w.heap.size + 1 ≠ g10 := by omega
  have n6 : w.heap.size + 1 + 1 ≠ g10 := by omega
  replace g4 := Below.blk hb g4 (blk_lt g4)
  replace g5 := Below.blk hb g5 (blk_lt g5)
  replace g6 := Below.blk hb g6 (blk_lt g6)
  replace B := B.trans (hb.mono B.size)
  replace z := Nat.le_trans z hb.size
  clear hb p0 p1 p2 p3 q0 q1 q2 q3 hg hg' As2 Ad2
  obtain ⟨W2, hW2⟩ : ∃ x, x = w'.setRow g9 (tcs ⟨s.r, s.g, s.b⟩) := ⟨_, rfl⟩
  obtain ⟨W3, hW3⟩ : ∃ x, x = W2.setRow g10 (tcs ⟨d.r, d.g, d.b⟩) := ⟨_, rfl⟩
  have k10 : W2.heap[g10]? = some (tblk 41 ⟨0, 0, 0⟩) := by rw [hW2]; exact row_blk hz' (fun e => hne e.symm)
  have g9b : W3.heap[g9]? = some (tblk 41 ⟨s.r, s.g, s.b⟩) := by rw [hW3]; refine row_blk ?_ hne; rw [hW2]; exact setRow_heap _ _ _ _ _ _ hz
  have g10b : W3.heap[g10]? = some (tblk 41 ⟨d.r, d.g, d.b⟩) := by rw [hW3]; exact setRow_heap _ _ _ _ _ _ k10
  replace g4 : W3.heap[w.heap.size]? = some (pblk s) := by rw [hW3]; refine row_blk ?_ n4; rw [hW2]; exact row_blk g4 n1
  replace g5 : W3.heap[w.heap.size + 1]? = some (pblk d) := by rw [hW3]; refine row_blk ?_ n5; rw [hW2]; exact row_blk g5 n2
  replace g6 : W3.heap[w.heap.size + 1 + 1]? = some (pblk ⟨0, 0, 0, 0⟩) := by rw [hW3]; refine row_blk ?_ n6; rw [hW2]; exact row_blk g6 n3
  replace B : Below w.heap.size w W3 := by rw [hW3, hW2]; exact below_row (below_row B hG9 _) hG10 _
  have HZ : Hid (w'.heap[g9]? = some (tblk 41 ⟨0, 0, 0⟩)) := hz
  have HK : Hid (W2.heap[g10]? = some (tblk 41 ⟨0, 0, 0⟩)) := k10
  have H2 : Hid (W2 = w'.setRow g9 (tcs ⟨s.r, s.g, s.b⟩)) := hW2
  have H3 : Hid (W3 = W2.setRow g10 (tcs ⟨d.r, d.g, d.b⟩)) := hW3
  have z3 : W3.heap.size = w'.heap.size := by rw [hW3, hW2, size_setRow, size_setRow]
  have l9 := blk_lt g9b
  have l10 := blk_lt g10b
  clear hz hz' k10 hW2 hW3
  simp only [Nat.reduceAdd, List.drop_succ_cons, List.drop_zero]
  go_wp2_with (first | (refine store_t' ⟨s.r, s.g, s.b⟩ H2 size41 HZ.out rfl _ _ (by rfl) (by rfl) (by rfl) (by rfl) ?_) | (refine store_t' ⟨d.r, d.g, d.b⟩ H3 size41 HK.out rfl _ _ (by rfl) (by rfl) (by rfl) (by rfl) ?_))
  rw [← z3] at z
  clear H2 H3 HZ HK z3
  simp only [Act.put, List.setIfInBounds_toArray, List.set_cons_succ, List.set_cons_zero]
  refine region_lay1 8 11 (tblk 41 ⟨0, 0, 0⟩) (by kernel_rfl) (by kernel_rfl) (by kernel_rfl) _ rfl (fun _ _ => by kernel_rfl) ?_
  apply Exists.intro
  refine ⟨fun X hX hin => ?_, fun g11 w'' hg hb hz => ?_⟩
  · obtain ⟨p0, p1, p2, p3⟩ := px_extX (X := X) g4
    obtain ⟨q0, q1, q2, q3⟩ := px_extX (X := X) g5
    simp only [List.take_succ_cons, List.take_zero]
    repeat (go_big_quiet_step (fail))
    go_big_quiet_step (first | (go_at_call 18; exact ExtX.call hX (Bs _)))
    repeat (go_big_quiet_step (fail))
    go_big_quiet_step (first | (go_at_call 16; exact ExtX.call hX (Ac _)))
    repeat (go_big_quiet_step (fail))
    go_big_quiet_step (first | (go_at_call 18; exact ExtX.call hX (Bd' _)))
    repeat (go_big_quiet_step (fail))
    go_big_quiet_step (first | (go_at_call 16; exact ExtX.call hX (Ab _)))
    repeat (go_big_quiet_step (fail))
    go_big_quiet_step (first | (go_at_call 17; exact ExtX.call hX (Am _)))
    repeat (go_big_quiet_step (fail))
    refine wpQuiet_nil ?_
    rfl
  have m1 : w.heap.size ≠ g11 := by omega
  have m2 : w.heap.size + 1 ≠ g11 := by omega
  have m3 : w.heap.size + 1 + 1 ≠ g11 := by omega
  have m4 : g9 ≠ g11 := by omega
  have m5 : g10 ≠ g11 := by omega
  have hG11 : w.heap.size ≤ g11 := by omega
  replace g4 := Below.blk hb g4 (blk_lt g4)
  replace g5 := Below.blk hb g5 (blk_lt g5)
  replace g6 := Below.blk hb g6 (blk_lt g6)
  replace g9b := Below.blk hb g9b (blk_lt g9b)
  replace g10b := Below.blk hb g10b (blk_lt g10b)
  replace B := B.trans (hb.mono B.size)
  clear hb hg z l9 l10 Bs Bd' Ac Ab Am
  obtain ⟨V, hV⟩ : ∃ x, x = w''.setRow g11 (tcs M) := ⟨_, rfl⟩
  have g11b : V.heap[g11]? = some (tblk 41 M) := by rw [hV]; exact setRow_heap _ _ _ _ _ _ hz
  replace g4 : V.heap[w.heap.size]? = some (pblk s) := by rw [hV]; exact row_blk g4 m1
  replace g5 : V.heap[w.heap.size + 1]? = some (pblk d) := by rw [hV]; exact row_blk g5 m2
  replace g6 : V.heap[w.heap.size + 1 + 1]? = some (pblk ⟨0, 0, 0, 0⟩) := by rw [hV]; exact row_blk g6 m3
  replace g9b : V.heap[g9]? = some (tblk 41 ⟨s.r, s.g, s.b⟩) := by rw [hV]; exact row_blk g9b m4
  replace g10b : V.heap[g10]? = some (tblk 41 ⟨d.r, d.g, d.b⟩) := by rw [hV]; exact row_blk g10b m5
  replace B : Below w.heap.size w V := by rw [hV]; exact below_row B hG11 _
  have HV : Hid (V = w''.setRow g11 (tcs M)) := hV
  have HZ : Hid (w''.heap[g11]? = some (tblk 41 ⟨0, 0, 0⟩)) := hz
  clear hV hz
  simp only [Nat.reduceAdd, List.drop_succ_cons, List.drop_zero]
  go_wp2_with (refine store_t' M HV size41 HZ.out rfl _ _ (by rfl) (by rfl) (by rfl) (by rfl) ?_)
  clear HV HZ
  refine wp_loop_rounds 4 ?_
  rw [rounds_succ]
  go_wp2_with fail
  obtain ⟨p0, p1, p2, p3⟩ := px_ext g4
  obtain ⟨q0, q1, q2, q3⟩ := px_ext g5
  obtain ⟨s0, s1, s2⟩ := t3_ext (p := ⟨s.r, s.g, s.b⟩) g9b
  obtain ⟨d0, d1, d2⟩ := t3_ext (p := ⟨d.r, d.g, d.b⟩) g10b
  have hin := Ext.inh V
  refine region_ext (by kernel_rfl) (by kernel_rfl) ?_
  repeat (go_big_quiet_step (fail))
  go_big_quiet_step (first | (go_at_call 14; exact Ext.same (not_any _ (by omega) (by omega) _)))
  repeat (go_big_quiet_step (fail))
  go_big_quiet_step (first | (go_at_call 15; exact Ext.same (Ux _)))
  repeat (go_big_quiet_step (fail))
  go_big_quiet_step (first | (go_at_call 14; exact Ext.same (not_any _ (by omega) (by omega) _)))
  repeat (go_big_quiet_step (fail))
  go_big_quiet_step (first | (go_at_call 15; exact Ext.same (Vx _)))
  repeat (go_big_quiet_step (fail))
  refine wpQuiet_nil ?_
  rintro Y0 ⟨⟨_, hk⟩, rfl⟩
  replace g4 := Below.blk hk g4 (blk_lt g4)
  replace g5 := Below.blk hk g5 (blk_lt g5)
  replace g6 := Below.blk hk g6 (blk_lt g6)
  replace g9b := Below.blk hk g9b (blk_lt g9b)
  replace g10b := Below.blk hk g10b (blk_lt g10b)
  replace g11b := Below.blk hk g11b (blk_lt g11b)
  replace B := B.trans (hk.mono B.size)
  clear p0 p1 p2 p3 q0 q1 q2 q3 s0 s1 s2 d0 d1 d2 hin hk
  obtain ⟨c0, c1, c2⟩ := t3_cells (p := ⟨M.x, M.y, M.z⟩) g11b
  have f0 := blk_free g11b 0
  go_wp2_with fail
  refine (Ex _).mono ?_
  rintro e w1 ⟨rfl, hw⟩
  obtain rfl := hw.symm
  go_wp2_with fail
  obtain ⟨X0, hX0⟩ : ∃ x, x = Y0.setCell ⟨g11, 0, none⟩ (.int .i64 rx) := ⟨_, rfl⟩
  rw [← hX0]
  replace g4 : X0.heap[w.heap.size]? = some (pblk s) := by rw [hX0, blk_other _ m1]; exact g4
  replace g5 : X0.heap[w.heap.size + 1]? = some (pblk d) := by rw [hX0, blk_other _ m2]; exact g5
  replace g6 : X0.heap[w.heap.size + 1 + 1]? = some (pblk ⟨0, 0, 0, 0⟩) := by rw [hX0, blk_other _ m3]; exact g6
  replace g9b : X0.heap[g9]? = some (tblk 41 ⟨s.r, s.g, s.b⟩) := by rw [hX0, blk_other _ m4]; exact g9b
  replace g10b : X0.heap[g10]? = some (tblk 41 ⟨d.r, d.g, d.b⟩) := by rw [hX0, blk_other _ m5]; exact g10b
  replace g11b : X0.heap[g11]? = some (tblk 41 ⟨rx, M.y, M.z⟩) := by rw [hX0]; exact blk_set g11b 0 _
  replace B : Below w.heap.size w X0 := by rw [hX0]; exact B.setCell hG11 _
  clear hX0 c0 c1 c2 f0 Ux Vx Ex
  rw [rounds_succ]
  go_wp2_with fail
  obtain ⟨p0, p1, p2, p3⟩ := px_ext g4
  obtain ⟨q0, q1, q2, q3⟩ := px_ext g5
  obtain ⟨s0, s1, s2⟩ := t3_ext (p := ⟨s.r, s.g, s.b⟩) g9b
  obtain ⟨d0, d1, d2⟩ := t3_ext (p := ⟨d.r, d.g, d.b⟩) g10b
  have hin := Ext.inh X0
  refine region_ext (by kernel_rfl) (by kernel_rfl) ?_
  repeat (go_big_quiet_step (fail))
  go_big_quiet_step (first | (go_at_call 14; exact Ext.same (not_any _ (by omega) (by omega) _)))
  repeat (go_big_quiet_step (fail))
  go_big_quiet_step (first | (go_at_call 15; exact Ext.same (Uy _)))
  repeat (go_big_quiet_step (fail))
  go_big_quiet_step (first | (go_at_call 14; exact Ext.same (not_any _ (by omega) (by omega) _)))
  repeat (go_big_quiet_step (fail))
  go_big_quiet_step (first | (go_at_call 15; exact Ext.same (Vy _)))
  repeat (go_big_quiet_step (fail))
  refine wpQuiet_nil ?_
  rintro Y1 ⟨⟨_, hk⟩, rfl⟩
  replace g4 := Below.blk hk g4 (blk_lt g4)
  replace g5 := Below.blk hk g5 (blk_lt g5)
  replace g6 := Below.blk hk g6 (blk_lt g6)
  replace g9b := Below.blk hk g9b (blk_lt g9b)
  replace g10b := Below.blk hk g10b (blk_lt g10b)
  replace g11b := Below.blk hk g11b (blk_lt g11b)
  replace B := B.trans (hk.mono B.size)
  clear p0 p1 p2 p3 q0 q1 q2 q3 s0 s1 s2 d0 d1 d2 hin hk
  obtain ⟨c0, c1, c2⟩ := t3_cells (p := ⟨rx, M.y, M.z⟩) g11b
  have f1 := blk_free g11b 1
  go_wp2_with fail
  refine (Ey _).mono ?_
  rintro e w1 ⟨rfl, hw⟩
  obtain rfl := hw.symm
  go_wp2_with fail
  obtain ⟨X1, hX1⟩ : ∃ x, x = Y1.setCell ⟨g11, 1, none⟩ (.int .i64 ry) := ⟨_, rfl⟩
  rw [← hX1]
  replace g4 : X1.heap[w.heap.size]? = some (pblk s) := by rw [hX1, blk_other _ m1]; exact g4
  replace g5 : X1.heap[w.heap.size + 1]? = some (pblk d) := by rw [hX1, blk_other _ m2]; exact g5
  replace g6 : X1.heap[w.heap.size + 1 + 1]? = some (pblk ⟨0, 0, 0, 0⟩) := by rw [hX1, blk_other _ m3]; exact g6
  replace g9b : X1.heap[g9]? = some (tblk 41 ⟨s.r, s.g, s.b⟩) := by rw [hX1, blk_other _ m4]; exact g9b
  replace g10b : X1.heap[g10]? = some (tblk 41 ⟨d.r, d.g, d.b⟩) := by rw [hX1, blk_other _ m5]; exact g10b
  replace g11b : X1.heap[g11]? = some (tblk 41 ⟨rx, ry, M.z⟩) := by rw [hX1]; exact blk_set g11b 1 _
  replace B : Below w.heap.size w X1 := by rw [hX1]; exact B.setCell hG11 _
  clear hX1 c0 c1 c2 f1 Uy Vy Ey
  rw [rounds_succ]
  go_wp2_with fail
  obtain ⟨p0, p1, p2, p3⟩ := px_ext g4
  obtain ⟨q0, q1, q2, q3⟩ := px_ext g5
  obtain ⟨s0, s1, s2⟩ := t3_ext (p := ⟨s.r, s.g, s.b⟩) g9b
  obtain ⟨d0, d1, d2⟩ := t3_ext (p := ⟨d.r, d.g, d.b⟩) g10b
  have hin := Ext.inh X1
  refine region_ext (by kernel_rfl) (by kernel_rfl) ?_
  repeat (go_big_quiet_step (fail))
  go_big_quiet_step (first | (go_at_call 14; exact Ext.same (not_any _ (by omega) (by omega) _)))
  repeat (go_big_quiet_step (fail))
  go_big_quiet_step (first | (go_at_call 15; exact Ext.same (Uz _)))
  repeat (go_big_quiet_step (fail))
  go_big_quiet_step (first | (go_at_call 14; exact Ext.same (not_any _ (by omega) (by omega) _)))
  repeat (go_big_quiet_step (fail))
  go_big_quiet_step (first | (go_at_call 15; exact Ext.same (Vz _)))
  repeat (go_big_quiet_step (fail))
  refine wpQuiet_nil ?_
  rintro Y2 ⟨⟨_, hk⟩, rfl⟩
  replace g4 := Below.blk hk g4 (blk_lt g4)
  replace g5 := Below.blk hk g5 (blk_lt g5)
  replace g6 := Below.blk hk g6 (blk_lt g6)
  replace g9b := Below.blk hk g9b (blk_lt g9b)
  replace g10b := Below.blk hk g10b (blk_lt g10b)
  replace g11b := Below.blk hk g11b (blk_lt g11b)
  replace B := B.trans (hk.mono B.size)
  clear p0 p1 p2 p3 q0 q1 q2 q3 s0 s1 s2 d0 d1 d2 hin hk
  obtain ⟨c0, c1, c2⟩ := t3_cells (p := ⟨rx, ry, M.z⟩) g11b
  have f2 := blk_free g11b 2
  go_wp2_with fail
  refine (Ez _).mono ?_
  rintro e w1 ⟨rfl, hw⟩
  obtain rfl := hw.symm
  go_wp2_with fail
  obtain ⟨X2, hX2⟩ : ∃ x, x = Y2.setCell ⟨g11, 2, none⟩ (.int .i64 rz) := ⟨_, rfl⟩
  rw [← hX2]
  replace g4 : X2.heap[w.heap.size]? = some (pblk s) := by rw [hX2, blk_other _ m1]; exact g4
  replace g5 : X2.heap[w.heap.size + 1]? = some (pblk d) := by rw [hX2, blk_other _ m2]; exact g5
  replace g6 : X2.heap[w.heap.size + 1 + 1]? = some (pblk ⟨0, 0, 0, 0⟩) := by rw [hX2, blk_other _ m3]; exact g6
  replace g9b : X2.heap[g9]? = some (tblk 41 ⟨s.r, s.g, s.b⟩) := by rw [hX2, blk_other _ m4]; exact g9b
  replace g10b : X2.heap[g10]? = some (tblk 41 ⟨d.r, d.g, d.b⟩) := by rw [hX2, blk_other _ m5]; exact g10b
  replace g11b : X2.heap[g11]? = some (tblk 41 ⟨rx, ry, rz⟩) := by rw [hX2]; exact blk_set g11b 2 _
  replace B : Below w.heap.size w X2 := by rw [hX2]; exact B.setCell hG11 _
  clear hX2 c0 c1 c2 f2 Uz Vz Ez
  obtain ⟨c0, c1, c2⟩ := t3_cells (p := ⟨rx, ry, rz⟩) g11b
  rw [rounds_succ]
  go_wp2_with (refine store_px g6 rfl _ _ ⟨rx, ry, rz, al⟩ (by rfl) (by rfl) (by rfl) (by rfl) ?_)
  refine bodyPost_ret (res_px rfl _ _ _ _ _ _ rfl (setRow_heap _ _ _ _ _ _ g6) rfl) rfl ?_
  exact ⟨by rw [HP.out], below_row B (by omega) _⟩
end Go.Proofs.YtdaapanmalcgbabDoor
