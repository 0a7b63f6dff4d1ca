/-
  The reference's lit, as a contract: the first step is taken, the second too.
-/
import Derived.Test.YtdaapanmalcgbaaDoorBnd
namespace Go.Proofs.YtdaapanmalcgbaaDoor
open Go.RowKit

set_option maxRecDepth 100000 in
set_option maxHeartbeats 1600000 in
theorem rlit_pp (t : T3) (n : Int) (ht : In3 t) (hn : 0 ≤ n) (hn2 : n ≤ 255) (hmn0 : least (upv t (n - lumv t)) < 0) (hgn0 : 255 < great (upv t (n - lumv t))) (w : World) : Calls Tryd.prog 23 #[tv t, .int .i64 n] w fun e w' => e = .returned (tv (litv t n)) ∧ Below w.heap.size w w' := by
  obtain ⟨L, hL⟩ : ∃ L, lumv t = L := ⟨_, rfl⟩
  obtain ⟨hL0, hL1⟩ := lumv_in ht
  obtain ⟨u, hu⟩ : ∃ u, upv t (n - L) = u := ⟨_, rfl⟩
  have A0 : ∀ W : World, Calls Tryd.prog 26 #[tv t] W fun e w' => e = .returned (.int .i64 L) ∧ Below W.heap.size W w' := fun W => by rw [← hL]; exact rlum_any t (ht.bd.mono (by omega)) W
  have hlu : lumv u = n := by rw [← hu, lum_up, hL]; omega
  have hbd := lumv_bd u
  rw [hL] at hL0 hL1
  have hub : Bd 510 u := by rw [← hu]; exact up_bd ht (by omega) (by omega)
  have A1 : ∀ W : World, Calls Tryd.prog 26 #[tv u] W fun e w' => e = .returned (.int .i64 n) ∧ Below W.heap.size W w' := fun W => told (rlum_any u (hub.mono (by omega)) W) (by rw [hlu])
  obtain ⟨m, hm⟩ : ∃ m, least u = m := ⟨_, rfl⟩
  obtain ⟨g, hg⟩ : ∃ g, great u = g := ⟨_, rfl⟩
  have A2 : ∀ W : World, Calls Tryd.prog 39 #[tv u] W fun e w' => e = .returned (.int .i64 m) ∧ Below W.heap.size W w' := fun W => by rw [← hm]; exact rleast_any u W
  have A3 : ∀ W : World, Calls Tryd.prog 40 #[tv u] W fun e w' => e = .returned (.int .i64 g) ∧ Below W.heap.size W w' := fun W => by rw [← hg]; exact rgreat_any u W
  have hm0 := least_bd hub
  have hg0 := great_bd hub
  rw [hm] at hbd hm0
  rw [hg] at hbd hg0
  rw [hlu] at hbd
  obtain ⟨hbd1, hbd2⟩ := hbd
  have HP : Hid (litv t n = win3 (stepg (stepm u n m) n g)) := by show _ = _; rw [lit_eq hn hn2, hL, hu, hm, hg]
  have HU : Hid (u = ⟨t.x + (n - L), t.y + (n - L), t.z + (n - L)⟩) := hu.symm
  have HB : Hid (Bd 510 u) := hub
  rw [hL, hu, hm] at hmn0
  rw [hL, hu, hg] at hgn0
  clear hL hlu hm hg hu hub
  obtain ⟨x, y, z⟩ := t
  obtain ⟨x0, x1, y0, y1, z0, z1⟩ := ht
  dsimp only at x0 x1 y0 y1 z0 z1

  go_enter Tryd.func23, Tryd.ntmps23
  go_wp2_with fail
  refine (A0 _).mono ?_
  rintro e w1 ⟨rfl, hb⟩
  have g1 := Below.blk hb (blk_alloc (blk_new w _) _) (by simp; omega)
  have g2 := Below.blk hb (blk_new (w.alloc _) _) (by simp)
  simp only [World.size_alloc] at g1 g2
  have b1 : Below w.heap.size w w1 := (((Below.refl _ w).alloc (Nat.le_refl _) _).alloc (by simp) _).trans (hb.mono (by simp; omega))
  clear hb A0
  obtain ⟨c0, c1, c2⟩ := t3_cells (p := ⟨x, y, z⟩) g1
  have f0 := blk_free g1 0
  have f1 := blk_free g1 1
  have f2 := blk_free g1 2
  go_wp2_with fail
  refine wp_loop_rounds 4 ?_
  rw [rounds_succ]
  go_wp2_with fail
  rw [rounds_succ]
  go_wp2_with fail
  rw [rounds_succ]
  go_wp2_with fail
  rw [rounds_succ]
  go_wp2_with fail
  have A1' : ∀ W : World, Calls Tryd.prog 26 #[.agg #[.int .i64 (x + (n - L)), .int .i64 (y + (n - L)), .int .i64 (z + (n - L))]] W fun e w' => e = .returned (.int .i64 n) ∧ Below W.heap.size W w' := fun W => by have := A1 W; rw [HU.out] at this; exact this
  clear A1
  obtain ⟨W, hW⟩ : ∃ W, W = ((w1.setCell ⟨w.heap.size, 0, none⟩ (.int .i64 (x + (n - L)))).setCell ⟨w.heap.size, 1, none⟩ (.int .i64 (y + (n - L)))).setCell ⟨w.heap.size, 2, none⟩ (.int .i64 (z + (n - L))) := ⟨_, rfl⟩
  rw [← hW]
  have k1 : W.heap[w.heap.size]? = some (tblk 49 u) := by rw [hW, HU.out]; exact set3_is (t := ⟨x, y, z⟩) g1 _ _ _
  have k2 : W.heap[w.heap.size + 1]? = some (tblk 49 ⟨0, 0, 0⟩) := by rw [hW]; exact set3_other g2 (by omega) _ _ _
  have b2 : Below w.heap.size w W := by rw [hW]; exact set3_below b1 (Nat.le_refl _) _ _ _
  clear hW g1 g2 b1 c0 c1 c2 f0 f1 f2 x0 x1 y0 y1 z0 z1 HU
  refine (A1' _).mono ?_
  rintro e v1 ⟨rfl, hb⟩
  replace k1 := Below.blk hb k1 (blk_lt k1)
  replace k2 := Below.blk hb k2 (blk_lt k2)
  replace b2 := b2.trans (hb.mono b2.size)
  clear hb A1'
  obtain ⟨c0, c1, c2⟩ := t3_cells k1
  go_wp2_with fail
  refine (A2 _).mono ?_
  rintro e v2 ⟨rfl, hb⟩
  replace k1 := Below.blk hb k1 (blk_lt k1)
  replace k2 := Below.blk hb k2 (blk_lt k2)
  replace b2 := b2.trans (hb.mono b2.size)
  clear hb A2 c0 c1 c2
  obtain ⟨c0, c1, c2⟩ := t3_cells k1
  go_wp2_with fail
  refine (A3 _).mono ?_
  rintro e Y ⟨rfl, hb⟩
  replace k1 := Below.blk hb k1 (blk_lt k1)
  replace k2 := Below.blk hb k2 (blk_lt k2)
  replace b2 := b2.trans (hb.mono b2.size)
  clear hb A3 c0 c1 c2
  have hmn := hmn0
  have hgn := hgn0
  clear hmn0 hgn0
  have hnm : m < n := by omega
  obtain ⟨c0, c1, c2⟩ := t3_cells k1
  have f0 := blk_free k1 0
  have f1 := blk_free k1 1
  have f2 := blk_free k1 2
  obtain ⟨⟨⟨px0, px1⟩, ⟨py0, py1⟩, ⟨pz0, pz1⟩⟩, ⟨qx0, qx1⟩, ⟨qy0, qy1⟩, ⟨qz0, qz1⟩⟩ := draw_pr (B := 510) (n := n) (k := n) (d := n - m) (a := u.x) (b := u.y) (c := u.z) (by omega) HB.out hn hn2 (by omega) (by omega) (by omega)
  obtain ⟨v, hv⟩ : ∃ r, drawv u n n (n - m) = r := ⟨_, rfl⟩
  have HV : Hid (stepm u n m = v) := by show _ = _; rw [← hv]; exact if_pos hmn
  have HVB : Hid (Bd 300000 v) := by show Bd _ _; rw [← hv]; exact draw_bd HB.out hn hn2 (by omega)
  have HN : Hid ((⟨n + (u.x - n) * n / (n - m), n + (u.y - n) * n / (n - m), n + (u.z - n) * n / (n - m)⟩ : T3) = v) := hv
  clear hv
  obtain ⟨ox0, ox1, oy0, oy1, oz0, oz1⟩ := HB.out
  go_wp2_with fail
  refine wp_loop_rounds 4 ?_
  rw [rounds_succ]
  go_wp2_with fail
  refine (rfloor_any ((u.x - n) * n) (n - m) (by omega) (by omega) (by omega) (by omega) _).mono ?_
  rintro e w' ⟨rfl, hw⟩
  obtain rfl := hw.symm
  go_wp2_with fail
  rw [rounds_succ]
  go_wp2_with fail
  refine (rfloor_any ((u.y - n) * n) (n - m) (by omega) (by omega) (by omega) (by omega) _).mono ?_
  rintro e w' ⟨rfl, hw⟩
  obtain rfl := hw.symm
  go_wp2_with fail
  rw [rounds_succ]
  go_wp2_with fail
  refine (rfloor_any ((u.z - n) * n) (n - m) (by omega) (by omega) (by omega) (by omega) _).mono ?_
  rintro e w' ⟨rfl, hw⟩
  obtain rfl := hw.symm
  go_wp2_with fail
  rw [rounds_succ]
  go_wp2_with fail
  obtain ⟨V, hW⟩ : ∃ W, W = ((Y.setCell ⟨w.heap.size, 0, none⟩ (.int .i64 (n + (u.x - n) * n / (n - m)))).setCell ⟨w.heap.size, 1, none⟩ (.int .i64 (n + (u.y - n) * n / (n - m)))).setCell ⟨w.heap.size, 2, none⟩ (.int .i64 (n + (u.z - n) * n / (n - m))) := ⟨_, rfl⟩
  rw [← hW]
  replace k1 : V.heap[w.heap.size]? = some (tblk 49 v) := by rw [hW, ← HN.out]; exact set3_is k1 _ _ _
  replace k2 : V.heap[w.heap.size + 1]? = some (tblk 49 ⟨0, 0, 0⟩) := by rw [hW]; exact set3_other k2 (by omega) _ _ _
  replace b2 : Below w.heap.size w V := by rw [hW]; exact set3_below b2 (Nat.le_refl _) _ _ _
  clear ox0 ox1 oy0 oy1 oz0 oz1 hW HN c0 c1 c2 f0 f1 f2 px0 px1 py0 py1 pz0 pz1 qx0 qx1 qy0 qy1 qz0 qz1
  have hng : n < g := by omega
  obtain ⟨c0, c1, c2⟩ := t3_cells k1
  have f0 := blk_free k1 0
  have f1 := blk_free k1 1
  have f2 := blk_free k1 2
  obtain ⟨⟨⟨px0, px1⟩, ⟨py0, py1⟩, ⟨pz0, pz1⟩⟩, ⟨qx0, qx1⟩, ⟨qy0, qy1⟩, ⟨qz0, qz1⟩⟩ := draw_pr (B := 300000) (n := n) (k := (255 - n)) (d := g - n) (a := v.x) (b := v.y) (c := v.z) (by omega) HVB.out hn hn2 (by omega) (by omega) (by omega)
  obtain ⟨q, hq⟩ : ∃ r, drawv v n (255 - n) (g - n) = r := ⟨_, rfl⟩
  have HZ : Hid (stepg (stepm u n m) n g = q) := by show _ = _; rw [HV.out, ← hq]; exact if_pos hgn
  have HN : Hid ((⟨n + (v.x - n) * (255 - n) / (g - n), n + (v.y - n) * (255 - n) / (g - n), n + (v.z - n) * (255 - n) / (g - n)⟩ : T3) = q) := hq
  clear hq
  obtain ⟨ox0, ox1, oy0, oy1, oz0, oz1⟩ := HVB.out
  go_wp2_with fail
  refine wp_loop_rounds 4 ?_
  rw [rounds_succ]
  go_wp2_with fail
  refine (rfloor_any ((v.x - n) * (255 - n)) (g - n) (by omega) (by omega) (by omega) (by omega) _).mono ?_
  rintro e w' ⟨rfl, hw⟩
  obtain rfl := hw.symm
  go_wp2_with fail
  rw [rounds_succ]
  go_wp2_with fail
  refine (rfloor_any ((v.y - n) * (255 - n)) (g - n) (by omega) (by omega) (by omega) (by omega) _).mono ?_
  rintro e w' ⟨rfl, hw⟩
  obtain rfl := hw.symm
  go_wp2_with fail
  rw [rounds_succ]
  go_wp2_with fail
  refine (rfloor_any ((v.z - n) * (255 - n)) (g - n) (by omega) (by omega) (by omega) (by omega) _).mono ?_
  rintro e w' ⟨rfl, hw⟩
  obtain rfl := hw.symm
  go_wp2_with fail
  rw [rounds_succ]
  go_wp2_with fail
  obtain ⟨V2, hW⟩ : ∃ W, W = ((V.setCell ⟨w.heap.size, 0, none⟩ (.int .i64 (n + (v.x - n) * (255 - n) / (g - n)))).setCell ⟨w.heap.size, 1, none⟩ (.int .i64 (n + (v.y - n) * (255 - n) / (g - n)))).setCell ⟨w.heap.size, 2, none⟩ (.int .i64 (n + (v.z - n) * (255 - n) / (g - n))) := ⟨_, rfl⟩
  rw [← hW]
  replace k1 : V2.heap[w.heap.size]? = some (tblk 49 q) := by rw [hW, ← HN.out]; exact set3_is k1 _ _ _
  replace k2 : V2.heap[w.heap.size + 1]? = some (tblk 49 ⟨0, 0, 0⟩) := by rw [hW]; exact set3_other k2 (by omega) _ _ _
  replace b2 : Below w.heap.size w V2 := by rw [hW]; exact set3_below b2 (Nat.le_refl _) _ _ _
  clear ox0 ox1 oy0 oy1 oz0 oz1 hW HN c0 c1 c2 f0 f1 f2 px0 px1 py0 py1 pz0 pz1 qx0 qx1 qy0 qy1 qz0 qz1
  obtain ⟨c0, c1, c2⟩ := t3_cells k1
  have f0 := blk_free k1 0
  have f1 := blk_free k1 1
  have f2 := blk_free k1 2
  obtain ⟨rx, hrx⟩ : ∃ r, win q.x 255 = r := ⟨_, rfl⟩
  have Ax : ∀ W : World, Calls Tryd.prog 36 #[.int .i64 q.x] W fun e w' => e = .returned (.int .i64 rx) ∧ w' = W := fun W => by rw [← hrx]; exact rwithin_any q.x W
  obtain ⟨ry, hry⟩ : ∃ r, win q.y 255 = r := ⟨_, rfl⟩
  have Ay : ∀ W : World, Calls Tryd.prog 36 #[.int .i64 q.y] W fun e w' => e = .returned (.int .i64 ry) ∧ w' = W := fun W => by rw [← hry]; exact rwithin_any q.y W
  obtain ⟨rz, hrz⟩ : ∃ r, win q.z 255 = r := ⟨_, rfl⟩
  have Az : ∀ W : World, Calls Tryd.prog 36 #[.int .i64 q.z] W fun e w' => e = .returned (.int .i64 rz) ∧ w' = W := fun W => by rw [← hrz]; exact rwithin_any q.z W
  have HR : Hid (win3 q = ⟨rx, ry, rz⟩) := by show _ = _; rw [← hrx, ← hry, ← hrz]; rfl
  clear hrx hry hrz
  refine wp_loop_rounds 4 ?_
  rw [rounds_succ]
  go_wp2_with fail
  refine (Ax _).mono ?_
  rintro e w' ⟨rfl, rfl⟩
  go_wp2_with fail
  rw [rounds_succ]
  go_wp2_with fail
  refine (Ay _).mono ?_
  rintro e w' ⟨rfl, rfl⟩
  go_wp2_with fail
  rw [rounds_succ]
  go_wp2_with fail
  refine (Az _).mono ?_
  rintro e w' ⟨rfl, rfl⟩
  go_wp2_with fail
  rw [rounds_succ]
  go_wp2_with (refine store_t size49 (set3_other k2 (by omega) rx ry rz) rfl _ _ ⟨rx, ry, rz⟩ (by rfl) (by rfl) (by rfl) (by rfl) ?_)
  refine bodyPost_ret (res_r rfl _ _ _ _ _ _ rfl (setRow_heap _ _ _ _ _ _ (set3_other k2 (by omega) _ _ _)) rfl) rfl ?_
  exact ⟨by rw [HP.out, HZ.out, HR.out], below_row (set3_below b2 (Nat.le_refl _) _ _ _) (by omega) _⟩
end Go.Proofs.YtdaapanmalcgbaaDoor
