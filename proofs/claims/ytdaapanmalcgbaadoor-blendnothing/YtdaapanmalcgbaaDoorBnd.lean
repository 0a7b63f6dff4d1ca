/-
  The reference's chapter 13: numbers three at once, as contracts.
-/
import Derived.Test.YtdaapanmalcgbaaDoorBnc
namespace Go.Proofs.YtdaapanmalcgbaaDoor
open Go.RowKit

theorem rleast_any (t : T3) (w : World) : Calls Tryd.prog 39 #[tv t] w fun e w' => e = .returned (.int .i64 (least t)) ∧ Below w.heap.size w w' := by
  obtain ⟨m, hm⟩ : ∃ m, (if t.y < t.x then t.y else t.x) = m := ⟨_, rfl⟩
  obtain ⟨M, hM⟩ : ∃ M, (if t.z < m then t.z else m) = M := ⟨_, rfl⟩
  have HM : Hid (least t = M) := by show _ = _; rw [← hM, ← hm]; rfl
  have hB : Below w.heap.size w (w.alloc (tblk 49 t)) := (Below.refl _ w).alloc (Nat.le_refl _) _
  go_enter Tryd.func39, Tryd.ntmps39
  go_wp2
  go_ret
  exact ⟨by rw [HM.out]; rfl, hB⟩
theorem rgreat_any (t : T3) (w : World) : Calls Tryd.prog 40 #[tv t] w fun e w' => e = .returned (.int .i64 (great t)) ∧ Below w.heap.size w w' := by
  obtain ⟨m, hm⟩ : ∃ m, (if t.x < t.y then t.y else t.x) = m := ⟨_, rfl⟩
  obtain ⟨M, hM⟩ : ∃ M, (if m < t.z then t.z else m) = M := ⟨_, rfl⟩
  have HM : Hid (great t = M) := by show _ = _; rw [← hM, ← hm]; rfl
  have hB : Below w.heap.size w (w.alloc (tblk 49 t)) := (Below.refl _ w).alloc (Nat.le_refl _) _
  go_enter Tryd.func40, Tryd.ntmps40
  go_wp2
  go_ret
  exact ⟨by rw [HM.out]; rfl, hB⟩
theorem rlum_any (t : T3) (ht : Bd 1000000 t) (w : World) : Calls Tryd.prog 26 #[tv t] w fun e w' => e = .returned (.int .i64 (lumv t)) ∧ Below w.heap.size w w' := by
  have hB : Below w.heap.size w (w.alloc (tblk 49 t)) := (Below.refl _ w).alloc (Nat.le_refl _) _
  obtain ⟨x0, x1, y0, y1, z0, z1⟩ := ht
  obtain ⟨b1, b2⟩ := ediv_bd (n := 30 * t.x + 59 * t.y + 11 * t.z) (d := 100) (B := 100000000) (by omega) (by omega) (by omega) (by omega)
  have HL : Hid (lumv t = (30 * t.x + 59 * t.y + 11 * t.z) / 100) := rfl
  by_cases h : (30 * t.x + 59 * t.y + 11 * t.z).tmod 100 < 0
  · have E := quo_dn _ 100 (by omega) h
    have b3 : -100000000 ≤ (30 * t.x + 59 * t.y + 11 * t.z).tdiv 100 := by omega
    have b4 : (30 * t.x + 59 * t.y + 11 * t.z).tdiv 100 ≤ 100000001 := by omega
    have HE : Hid (lumv t = (30 * t.x + 59 * t.y + 11 * t.z).tdiv 100 - 1) := by show _ = _; rw [HL.out, E]
    clear E b1 b2
    go_enter Tryd.func26, Tryd.ntmps26
    go_wp2
    go_ret
    exact ⟨by rw [HE.out]; rfl, hB⟩
  · have E := quo_up _ 100 (by omega) h
    have b3 : -100000000 ≤ (30 * t.x + 59 * t.y + 11 * t.z).tdiv 100 := by omega
    have b4 : (30 * t.x + 59 * t.y + 11 * t.z).tdiv 100 ≤ 100000001 := by omega
    have HE : Hid (lumv t = (30 * t.x + 59 * t.y + 11 * t.z).tdiv 100) := by show _ = _; rw [HL.out, E]
    clear E b1 b2
    go_enter Tryd.func26, Tryd.ntmps26
    go_wp2
    go_ret
    exact ⟨by rw [HE.out]; rfl, hB⟩
theorem rsat_any (t : T3) (ht : In3 t) (w : World) : Calls Tryd.prog 25 #[tv t] w fun e w' => e = .returned (.int .i64 (satv t)) ∧ Below w.heap.size w w' := by
  have h1 := least_is t
  have h2 := great_is t
  obtain ⟨x0, x1, y0, y1, z0, z1⟩ := ht
  obtain ⟨M, hM⟩ : ∃ M, least t = M := ⟨_, rfl⟩
  obtain ⟨G, hG⟩ : ∃ G, great t = G := ⟨_, rfl⟩
  have hM0 : 0 ≤ M := by omega
  have hM1 : M ≤ 255 := by omega
  have hG0 : 0 ≤ G := by omega
  have hG1 : G ≤ 255 := by omega
  have A1 : ∀ W : World, Calls Tryd.prog 39 #[tv t] W fun e w' => e = .returned (.int .i64 M) ∧ Below W.heap.size W w' := fun W => by rw [← hM]; exact rleast_any t W
  have A2 : ∀ W : World, Calls Tryd.prog 40 #[tv t] W fun e w' => e = .returned (.int .i64 G) ∧ Below W.heap.size W w' := fun W => by rw [← hG]; exact rgreat_any t W
  have HS : Hid (satv t = G - M) := by show _ = _; rw [← hG, ← hM]; rfl
  clear hM hG h1 h2
  go_enter Tryd.func25, Tryd.ntmps25
  go_wp2_with fail
  obtain ⟨W, hW⟩ : ∃ W, W = w.alloc (tblk 49 t) := ⟨_, rfl⟩
  rw [← hW]
  have g1 : W.heap[w.heap.size]? = some (tblk 49 t) := by rw [hW]; exact blk_new w _
  have b1 : Below w.heap.size w W := by rw [hW]; exact (Below.refl _ w).alloc (Nat.le_refl _) _
  clear hW
  obtain ⟨c0, c1, c2⟩ := t3_ext g1
  have hin := Ext.inh W
  refine region_ext (by kernel_rfl) (by kernel_rfl) ?_
  repeat (go_big_quiet_step (first | (go_at_call 40; exact Ext.call (A2 _)) | (go_at_call 39; exact Ext.call (A1 _))))
  refine wpQuiet_nil ?_
  rintro _ ⟨k, rfl⟩
  have b2 := b1.trans (k.h.mono b1.size)
  go_wp2
  go_ret
  exact ⟨by rw [HS.out]; rfl, b2⟩


set_option maxRecDepth 100000 in
set_option maxHeartbeats 1600000 in
theorem rsated_any (t : T3) (n : Int) (ht : In3 t) (hn : 0 ≤ n) (hn2 : n ≤ 255) (w : World) : Calls Tryd.prog 24 #[tv t, .int .i64 n] w fun e w' => e = .returned (tv (satedv t n)) ∧ Below w.heap.size w w' := by
  obtain ⟨s0, s1⟩ := satv_bd ht
  obtain ⟨M, hM⟩ : ∃ M, least t = M := ⟨_, rfl⟩
  obtain ⟨G, hG⟩ : ∃ G, great t = G := ⟨_, rfl⟩
  have A1 : ∀ W : World, Calls Tryd.prog 39 #[tv t] W fun e w' => e = .returned (.int .i64 M) ∧ Below W.heap.size W w' := fun W => by rw [← hM]; exact rleast_any t W
  have A2 : ∀ W : World, Calls Tryd.prog 40 #[tv t] W fun e w' => e = .returned (.int .i64 G) ∧ Below W.heap.size W w' := fun W => by rw [← hG]; exact rgreat_any t W
  have HP : Hid (satedv t n = if G - M = 0 then ⟨0, 0, 0⟩ else ⟨(t.x - M) * n / (G - M), (t.y - M) * n / (G - M), (t.z - M) * n / (G - M)⟩) := by show _ = _; rw [← hG, ← hM]; rfl
  have hq : (0 ≤ (t.x - M) * n ∧ (t.x - M) * n ≤ 255 * 255) ∧ (0 ≤ (t.y - M) * n ∧ (t.y - M) * n ≤ 255 * 255) ∧ (0 ≤ (t.z - M) * n ∧ (t.z - M) * n ≤ 255 * 255) := by
    rw [← hM]; exact quo_bd3 ht hn hn2
  have hm0 : 0 ≤ M ∧ M ≤ 255 := by
    have h1 := least_is t
    obtain ⟨_, _, _, _, _, _⟩ := ht
    omega
  have hs0 : 0 ≤ G - M := by rw [← hG, ← hM]; exact s0
  have hs1 : G - M ≤ 255 := by rw [← hG, ← hM]; exact s1
  clear hM hG s0 s1
  obtain ⟨x, y, z⟩ := t
  obtain ⟨x0, x1, y0, y1, z0, z1⟩ := ht
  dsimp only at x0 x1 y0 y1 z0 z1 HP hq
  go_enter Tryd.func24, Tryd.ntmps24
  go_wp2_with fail
  refine (A1 _).mono ?_
  rintro e w1 ⟨rfl, hb⟩
  have g1 := Below.blk hb (blk_alloc (blk_new w _) _) (by simp; omega)
  have g2 := Below.blk hb (blk_new (w.alloc _) _) (by simp)
  simp only [World.size_alloc] at g1 g2
  have b1 : Below w.heap.size w w1 := (((Below.refl _ w).alloc (Nat.le_refl _) _).alloc (by simp) _).trans (hb.mono (by simp; omega))
  clear hb A1
  obtain ⟨c0, c1, c2⟩ := t3_cells (p := ⟨x, y, z⟩) g1
  go_wp2_with fail
  refine (A2 _).mono ?_
  rintro e Y ⟨rfl, hb⟩
  replace g1 := Below.blk hb g1 (blk_lt g1)
  replace g2 := Below.blk hb g2 (blk_lt g2)
  have b2 := b1.trans (hb.mono b1.size)
  clear hb A2 c0 c1 c2 b1
  obtain ⟨c0, c1, c2⟩ := t3_cells (p := ⟨x, y, z⟩) g1
  by_cases h0 : M = G
  · have HQ : Hid (satedv ⟨x, y, z⟩ n = ⟨0, 0, 0⟩) := by show _ = _; rw [HP.out, if_pos (by omega)]
    subst h0
    clear hq HP hs0 hs1
    go_wp2_with (refine store_t size49 g2 rfl _ _ ⟨0, 0, 0⟩ (by rfl) (by rfl) (by rfl) (by rfl) ?_)
    refine bodyPost_ret (res_r rfl _ _ _ _ _ _ rfl (setRow_heap _ _ _ _ _ _ g2) rfl) rfl ?_
    exact ⟨by rw [HQ.out], below_row b2 (by omega) _⟩
  have HQ : Hid (satedv ⟨x, y, z⟩ n = ⟨(x - M) * n / (G - M), (y - M) * n / (G - M), (z - M) * n / (G - M)⟩) := by show _ = _; rw [HP.out, if_neg (by omega)]
  have hS : 0 < G - M := by omega
  have hne : ¬ G - M = 0 := by omega
  obtain ⟨⟨px0, px1⟩, ⟨py0, py1⟩, ⟨pz0, pz1⟩⟩ := hq
  obtain ⟨qx0, qx1⟩ := ediv_bd (B := 255 * 255) hS (by omega) (by omega) px1
  obtain ⟨qy0, qy1⟩ := ediv_bd (B := 255 * 255) hS (by omega) (by omega) py1
  obtain ⟨qz0, qz1⟩ := ediv_bd (B := 255 * 255) hS (by omega) (by omega) pz1
  clear HP
  obtain ⟨m0, m1⟩ := hm0
  have f0 := blk_free g1 0
  have f1 := blk_free g1 1
  have f2 := blk_free g1 2
  go_wp2_with fail
  refine wp_loop_rounds 4 ?_
  rw [rounds_succ]
  go_wp2_with fail
  rw [rounds_succ]
  go_wp2_with fail
  rw [rounds_succ]
  go_wp2_with fail
  rw [rounds_succ]
  go_wp2_with (refine store_t size49 (set3_other g2 (by omega) ((x - M) * n / (G - M)) ((y - M) * n / (G - M)) ((z - M) * n / (G - M))) rfl _ _ ⟨(x - M) * n / (G - M), (y - M) * n / (G - M), (z - M) * n / (G - M)⟩ (by rfl) (by rfl) (by rfl) (by rfl) ?_)
  refine bodyPost_ret (res_r rfl _ _ _ _ _ _ rfl (setRow_heap _ _ _ _ _ _ (set3_other g2 (by omega) _ _ _)) rfl) rfl ?_
  exact ⟨by rw [HQ.out], below_row (set3_below b2 (Nat.le_refl _) _ _ _) (by omega) _⟩

theorem draw_pr {B n k d a b c : Int} (hB : 0 ≤ B) (h : Bd B ⟨a, b, c⟩) (hn : 0 ≤ n) (hn2 : n ≤ 255) (hk : 0 ≤ k) (hk2 : k ≤ 255) (hd : 0 < d) :
    ((-((B + 255) * 255) ≤ (a - n) * k ∧ (a - n) * k ≤ (B + 255) * 255) ∧ (-((B + 255) * 255) ≤ (b - n) * k ∧ (b - n) * k ≤ (B + 255) * 255) ∧ (-((B + 255) * 255) ≤ (c - n) * k ∧ (c - n) * k ≤ (B + 255) * 255)) ∧
    ((-((B + 255) * 255) ≤ (a - n) * k / d ∧ (a - n) * k / d ≤ (B + 255) * 255) ∧ (-((B + 255) * 255) ≤ (b - n) * k / d ∧ (b - n) * k / d ≤ (B + 255) * 255) ∧ (-((B + 255) * 255) ≤ (c - n) * k / d ∧ (c - n) * k / d ≤ (B + 255) * 255)) := by
  obtain ⟨x0, x1, y0, y1, z0, z1⟩ := h
  dsimp only at x0 x1 y0 y1 z0 z1
  have hx := mul_abs (x := a - n) (y := k) (M := B + 255) (N := 255) (by omega) (by omega) (by omega) hk2
  have hy := mul_abs (x := b - n) (y := k) (M := B + 255) (N := 255) (by omega) (by omega) (by omega) hk2
  have hz := mul_abs (x := c - n) (y := k) (M := B + 255) (N := 255) (by omega) (by omega) (by omega) hk2
  exact ⟨⟨hx, hy, hz⟩, ediv_bd hd (by omega) hx.1 hx.2, ediv_bd hd (by omega) hy.1 hy.2, ediv_bd hd (by omega) hz.1 hz.2⟩


end Go.Proofs.YtdaapanmalcgbaaDoor
