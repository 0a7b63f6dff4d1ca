/-
  Package blend's lit, as a contract.
-/
import Derived.Test.YtdaapanmalcgbabDoorBnb
namespace Go.Proofs.YtdaapanmalcgbabDoor
open Go.RowKit

/-- The two steps of lit, where the Lum is n: what m, and g, say. -/
def stepm (u : T3) (n m : Int) : T3 := if m < 0 then drawv u n n (n - m) else u
def stepg (v : T3) (n g : Int) : T3 := if 255 < g then drawv v n (255 - n) (g - n) else v
theorem lit_eq {t : T3} {n : Int} (hn : 0 ≤ n) (hn2 : n ≤ 255) : litv t n = win3 (stepg (stepm (upv t (n - lumv t)) n (least (upv t (n - lumv t)))) n (great (upv t (n - lumv t)))) := by
  have hl : lumv (upv t (n - lumv t)) = n := by rw [lum_up]; omega
  have h1 := lumv_bd (upv t (n - lumv t))
  unfold litv lit2 lit1 stepg stepm
  rw [hl] at h1 ⊢
  have e1 : (least (upv t (n - lumv t)) < 0 ∧ ¬ n = least (upv t (n - lumv t))) ↔ least (upv t (n - lumv t)) < 0 := ⟨And.left, fun h => ⟨h, by omega⟩⟩
  have e2 : (255 < great (upv t (n - lumv t)) ∧ ¬ n = great (upv t (n - lumv t))) ↔ 255 < great (upv t (n - lumv t)) := ⟨And.left, fun h => ⟨h, by omega⟩⟩
  simp only [e1, e2]
theorem up_bd {t : T3} {k : Int} (h : In3 t) (h0 : -255 ≤ k) (h1 : k ≤ 255) : Bd 510 (upv t k) := by
  obtain ⟨_, _, _, _, _, _⟩ := h
  exact ⟨by dsimp only [upv]; omega, by dsimp only [upv]; omega, by dsimp only [upv]; omega, by dsimp only [upv]; omega, by dsimp only [upv]; omega, by dsimp only [upv]; omega⟩
theorem one_bd {x n d : Int} (h : -510 ≤ x) (h2 : x ≤ 510) (hn : 0 ≤ n) (hn2 : n ≤ 255) (hd : 0 < d) : -300000 ≤ n + (x - n) * n / d ∧ n + (x - n) * n / d ≤ 300000 := by
  obtain ⟨p0, p1⟩ := mul_abs (x := x - n) (y := n) (M := 765) (N := 255) (by omega) (by omega) (by omega) hn2
  obtain ⟨q0, q1⟩ := ediv_bd (B := 765 * 255) hd (by omega) p0 p1
  omega
theorem draw_bd {u : T3} {n m : Int} (h : Bd 510 u) (hn : 0 ≤ n) (hn2 : n ≤ 255) (hm : 0 < n - m) : Bd 300000 (drawv u n n (n - m)) := by
  have hx := one_bd h.x0 h.x1 hn hn2 hm
  have hy := one_bd h.y0 h.y1 hn hn2 hm
  have hz := one_bd h.z0 h.z1 hn hn2 hm
  exact ⟨hx.1, hx.2, hy.1, hy.2, hz.1, hz.2⟩
theorem least_bd {u : T3} {B : Int} (h : Bd B u) : -B ≤ least u := by
  have h1 := least_is u
  obtain ⟨_, _, _, _, _, _⟩ := h
  omega
theorem great_bd {u : T3} {B : Int} (h : Bd B u) : great u ≤ B := by
  have h1 := great_is u
  obtain ⟨_, _, _, _, _, _⟩ := h
  omega
theorem win_two {v a : Int} (h : (if v < 255 then v else 255) = a) : (if 0 < a then a else 0) = win v 255 := by
  rw [← h]; unfold win; repeat' split <;> omega

set_option maxRecDepth 100000 in
set_option maxHeartbeats 3200000 in
/-- Behind the two steps: each brought within 0 to 255. -/
theorem lit_any (t : T3) (n : Int) (ht : In3 t) (hn : 0 ≤ n) (hn2 : n ≤ 255) (w : World) : Calls Tryd.prog 21 #[tv t, .int .i64 n] w fun e w' => e = .returned (tv (litv t n)) ∧ Below w.heap.size w w' := by
  obtain ⟨L, hL⟩ : ∃ L, lumv t = L := ⟨_, rfl⟩
  obtain ⟨hL0, hL1⟩ := lumv_in ht
  obtain ⟨u, hu⟩ : ∃ u, upv t (n - L) = u := ⟨_, rfl⟩
  have A0 : ∀ W : World, Calls Tryd.prog 24 #[tv t] W fun e w' => e = .returned (.int .i64 L) ∧ Below W.heap.size W w' := fun W => by rw [← hL]; exact lum_any t (ht.bd.mono (by omega)) W
  have hlu : lumv u = n := by rw [← hu, lum_up, hL]; omega
  have hbd := lumv_bd u
  rw [hL] at hL0 hL1
  have hub : Bd 510 u := by rw [← hu]; exact up_bd ht (by omega) (by omega)
  have A1 : ∀ W : World, Calls Tryd.prog 24 #[tv u] W fun e w' => e = .returned (.int .i64 n) ∧ Below W.heap.size W w' := fun W => told (lum_any u (hub.mono (by omega)) W) (by rw [hlu])
  obtain ⟨m, hm⟩ : ∃ m, least u = m := ⟨_, rfl⟩
  obtain ⟨g, hg⟩ : ∃ g, great u = g := ⟨_, rfl⟩
  have A2 : ∀ W : World, Calls Tryd.prog 28 #[tv u] W fun e w' => e = .returned (.int .i64 m) ∧ Below W.heap.size W w' := fun W => by rw [← hm]; exact least_any u W
  have A3 : ∀ W : World, Calls Tryd.prog 29 #[tv u] W fun e w' => e = .returned (.int .i64 g) ∧ Below W.heap.size W w' := fun W => by rw [← hg]; exact great_any u W
  have hm0 := least_bd hub
  have hg0 := great_bd hub
  rw [hm] at hbd hm0
  rw [hg] at hbd hg0
  rw [hlu] at hbd
  obtain ⟨hbd1, hbd2⟩ := hbd
  have HP : Hid (litv t n = win3 (stepg (stepm u n m) n g)) := by show _ = _; rw [lit_eq hn hn2, hL, hu, hm, hg]
  have HU : Hid (u = ⟨t.x + (n - L), t.y + (n - L), t.z + (n - L)⟩) := hu.symm
  have HB : Hid (Bd 510 u) := hub
  clear hL hlu hm hg hu hub
  obtain ⟨x, y, z⟩ := t
  obtain ⟨x0, x1, y0, y1, z0, z1⟩ := ht
  dsimp only at x0 x1 y0 y1 z0 z1
  go_enter Tryd.func21, Tryd.ntmps21
  go_wp2_with fail
  refine (A0 _).mono ?_
  rintro e w1 ⟨rfl, hb⟩
  have g1 := Below.blk hb (blk_alloc (blk_new w _) _) (by simp; omega)
  have g2 := Below.blk hb (blk_new (w.alloc _) _) (by simp)
  simp only [World.size_alloc] at g1 g2
  have b1 : Below w.heap.size w w1 := (((Below.refl _ w).alloc (Nat.le_refl _) _).alloc (by simp) _).trans (hb.mono (by simp; omega))
  clear hb A0
  obtain ⟨c0, c1, c2⟩ := t3_cells (p := ⟨x, y, z⟩) g1
  have f0 := blk_free g1 0
  have f1 := blk_free g1 1
  have f2 := blk_free g1 2
  go_wp2_with fail
  refine wp_loop_rounds 4 ?_
  rw [rounds_succ]
  go_wp2_with fail
  rw [rounds_succ]
  go_wp2_with fail
  rw [rounds_succ]
  go_wp2_with fail
  rw [rounds_succ]
  go_wp2_with fail
  obtain ⟨W, hW⟩ : ∃ W, W = ((w1.setCell ⟨w.heap.size, 0, none⟩ (.int .i64 (x + (n - L)))).setCell ⟨w.heap.size, 1, none⟩ (.int .i64 (y + (n - L)))).setCell ⟨w.heap.size, 2, none⟩ (.int .i64 (z + (n - L))) := ⟨_, rfl⟩
  rw [← hW]
  have k1 : W.heap[w.heap.size]? = some (tblk 41 u) := by rw [hW, HU.out]; exact set3_is (t := ⟨x, y, z⟩) g1 _ _ _
  have k2 : W.heap[w.heap.size + 1]? = some (tblk 41 ⟨0, 0, 0⟩) := by rw [hW]; exact set3_other g2 (by omega) _ _ _
  have b2 : Below w.heap.size w W := by rw [hW]; exact set3_below b1 (Nat.le_refl _) _ _ _
  clear hW g1 g2 b1 c0 c1 c2 f0 f1 f2 x0 x1 y0 y1 z0 z1 HU
  obtain ⟨c0, c1, c2⟩ := t3_ext k1
  have hin := Ext.inh W
  refine region_ext (by kernel_rfl) (by kernel_rfl) ?_
  repeat (go_big_quiet_step (first | (go_at_call 24; exact Ext.call (A1 _)) | (go_at_call 28; exact Ext.call (A2 _)) | (go_at_call 29; exact Ext.call (A3 _))))
  refine wpQuiet_nil ?_
  rintro _ ⟨k, rfl⟩
  replace b2 := b2.trans (k.h.mono b2.size)
  replace k1 := Ext.blk k1 k
  replace k2 := Ext.blk k2 k
  clear A1 A2 A3 c0 c1 c2 hin
  obtain ⟨Y, hY⟩ : ∃ Y, Y = k.w := ⟨_, rfl⟩
  rw [← hY] at k1 k2 b2 ⊢
  clear hY k
  by_cases hmn : m < 0
  · have hnm : ¬ n = m := by omega
    obtain ⟨v, hv⟩ : ∃ r, drawv u n (n) (n - m) = r := ⟨_, rfl⟩
    have Bv : ∀ W : World, Calls Tryd.prog 30 #[tv u, .int .i64 n, .int .i64 (n), .int .i64 (n - m)] W fun e w' => e = .returned (tv v) ∧ Below W.heap.size W w' := fun W => by rw [← hv]; exact drawn_any u _ _ _ (HB.out.mono (by omega)) (by omega) (by omega) (by omega) (by omega) (by omega) (by omega) W
    obtain ⟨c0, c1, c2⟩ := t3_cells k1
    have HV : Hid (stepm u n m = v) := by show _ = _; rw [← hv]; exact if_pos hmn
    have hvb : Bd 300000 v := by rw [← hv]; exact draw_bd HB.out hn hn2 (by omega)
    have HVB : Hid (Bd 300000 v) := hvb
    clear hvb
    clear hv
    go_wp2_with fail
    refine (Bv _).mono ?_
    rintro e w2 ⟨rfl, hb⟩
    clear c0 c1 c2
    replace k1 := Below.blk hb k1 (blk_lt k1)
    replace k2 := Below.blk hb k2 (blk_lt k2)
    replace b2 := b2.trans (hb.mono b2.size)
    clear hb Bv
    obtain ⟨V, hV⟩ : ∃ W, W = w2.setRow w.heap.size (tcs v) := ⟨_, rfl⟩
    have HVW : Hid (V = w2.setRow w.heap.size (tcs v)) := hV
    have oV := k1
    replace k1 : V.heap[w.heap.size]? = some (tblk 41 v) := by rw [hV]; exact setRow_heap _ _ _ _ _ _ k1
    replace k2 : V.heap[w.heap.size + 1]? = some (tblk 41 ⟨0, 0, 0⟩) := by rw [hV, setRow_other _ _ _ _ (by omega)]; exact k2
    replace b2 : Below w.heap.size w V := by rw [hV]; exact below_row b2 (Nat.le_refl _) _
    clear hV
    by_cases hgn : 255 < g
    · have hng : ¬ n = g := by omega
      obtain ⟨q, hq⟩ : ∃ r, drawv v n (255 - n) (g - n) = r := ⟨_, rfl⟩
      have Bq : ∀ W : World, Calls Tryd.prog 30 #[tv v, .int .i64 n, .int .i64 (255 - n), .int .i64 (g - n)] W fun e w' => e = .returned (tv q) ∧ Below W.heap.size W w' := fun W => by rw [← hq]; exact drawn_any v _ _ _ (HVB.out) (by omega) (by omega) (by omega) (by omega) (by omega) (by omega) W
      obtain ⟨c0, c1, c2⟩ := t3_cells k1
      have HZ : Hid (stepg (stepm u n m) n g = q) := by show _ = _; rw [HV.out, ← hq]; exact if_pos hgn
      clear hq
      go_wp2_with (refine store_t' v HVW size41 oV rfl _ _ (by rfl) (by rfl) (by rfl) (by rfl) ?_)
      refine (Bq _).mono ?_
      rintro e w3 ⟨rfl, hb⟩
      clear c0 c1 c2
      replace k1 := Below.blk hb k1 (blk_lt k1)
      replace k2 := Below.blk hb k2 (blk_lt k2)
      replace b2 := b2.trans (hb.mono b2.size)
      clear hb Bq
      obtain ⟨V2, hV2⟩ : ∃ W, W = w3.setRow w.heap.size (tcs q) := ⟨_, rfl⟩
      have HV2W : Hid (V2 = w3.setRow w.heap.size (tcs q)) := hV2
      have oV2 := k1
      replace k1 : V2.heap[w.heap.size]? = some (tblk 41 q) := by rw [hV2]; exact setRow_heap _ _ _ _ _ _ k1
      replace k2 : V2.heap[w.heap.size + 1]? = some (tblk 41 ⟨0, 0, 0⟩) := by rw [hV2, setRow_other _ _ _ _ (by omega)]; exact k2
      replace b2 : Below w.heap.size w V2 := by rw [hV2]; exact below_row b2 (Nat.le_refl _) _
      clear hV2
      obtain ⟨c0, c1, c2⟩ := t3_cells k1
      have f0 := blk_free k1 0
      have f1 := blk_free k1 1
      have f2 := blk_free k1 2
      obtain ⟨i0, i1, i2⟩ := idx41 q.x q.y q.z
      obtain ⟨ax, hax⟩ : ∃ a, (if q.x < 255 then q.x else 255) = a := ⟨_, rfl⟩
      have hbx := win_two hax
      obtain ⟨rx, hrx⟩ : ∃ r, win q.x 255 = r := ⟨_, rfl⟩
      rw [hrx] at hbx
      obtain ⟨ay, hay⟩ : ∃ a, (if q.y < 255 then q.y else 255) = a := ⟨_, rfl⟩
      have hby := win_two hay
      obtain ⟨ry, hry⟩ : ∃ r, win q.y 255 = r := ⟨_, rfl⟩
      rw [hry] at hby
      obtain ⟨az, haz⟩ : ∃ a, (if q.z < 255 then q.z else 255) = a := ⟨_, rfl⟩
      have hbz := win_two haz
      obtain ⟨rz, hrz⟩ : ∃ r, win q.z 255 = r := ⟨_, rfl⟩
      rw [hrz] at hbz
      have HR : Hid (win3 q = ⟨rx, ry, rz⟩) := by show _ = _; rw [← hrx, ← hry, ← hrz]; rfl
      clear hrx hry hrz
      go_wp2_with (refine store_t' q HV2W size41 oV2 rfl _ _ (by rfl) (by rfl) (by rfl) (by rfl) ?_)
      refine wp_loop_rounds 4 ?_
      rw [rounds_succ]
      go_wp2_with fail
      rw [rounds_succ]
      go_wp2_with fail
      rw [rounds_succ]
      go_wp2_with fail
      rw [rounds_succ]
      go_wp2_with (refine store_t size41 (set3_other k2 (by omega) rx ry rz) rfl _ _ ⟨rx, ry, rz⟩ (by rfl) (by rfl) (by rfl) (by rfl) ?_)
      refine bodyPost_ret (res_b rfl _ _ _ _ _ _ rfl (setRow_heap _ _ _ _ _ _ (set3_other k2 (by omega) _ _ _)) rfl) rfl ?_
      exact ⟨by rw [HP.out, HZ.out, HR.out], below_row (set3_below b2 (Nat.le_refl _) _ _ _) (by omega) _⟩
    · have hg1 : g ≤ 255 := by omega
      have HZ : Hid (stepg (stepm u n m) n g = v) := by show _ = _; rw [HV.out]; exact if_neg (by omega)
      obtain ⟨c0, c1, c2⟩ := t3_cells k1
      have f0 := blk_free k1 0
      have f1 := blk_free k1 1
      have f2 := blk_free k1 2
      obtain ⟨i0, i1, i2⟩ := idx41 v.x v.y v.z
      obtain ⟨ax, hax⟩ : ∃ a, (if v.x < 255 then v.x else 255) = a := ⟨_, rfl⟩
      have hbx := win_two hax
      obtain ⟨rx, hrx⟩ : ∃ r, win v.x 255 = r := ⟨_, rfl⟩
      rw [hrx] at hbx
      obtain ⟨ay, hay⟩ : ∃ a, (if v.y < 255 then v.y else 255) = a := ⟨_, rfl⟩
      have hby := win_two hay
      obtain ⟨ry, hry⟩ : ∃ r, win v.y 255 = r := ⟨_, rfl⟩
      rw [hry] at hby
      obtain ⟨az, haz⟩ : ∃ a, (if v.z < 255 then v.z else 255) = a := ⟨_, rfl⟩
      have hbz := win_two haz
      obtain ⟨rz, hrz⟩ : ∃ r, win v.z 255 = r := ⟨_, rfl⟩
      rw [hrz] at hbz
      have HR : Hid (win3 v = ⟨rx, ry, rz⟩) := by show _ = _; rw [← hrx, ← hry, ← hrz]; rfl
      clear hrx hry hrz
      go_wp2_with (refine store_t' v HVW size41 oV rfl _ _ (by rfl) (by rfl) (by rfl) (by rfl) ?_)
      refine wp_loop_rounds 4 ?_
      rw [rounds_succ]
      go_wp2_with fail
      rw [rounds_succ]
      go_wp2_with fail
      rw [rounds_succ]
      go_wp2_with fail
      rw [rounds_succ]
      go_wp2_with (refine store_t size41 (set3_other k2 (by omega) rx ry rz) rfl _ _ ⟨rx, ry, rz⟩ (by rfl) (by rfl) (by rfl) (by rfl) ?_)
      refine bodyPost_ret (res_b rfl _ _ _ _ _ _ rfl (setRow_heap _ _ _ _ _ _ (set3_other k2 (by omega) _ _ _)) rfl) rfl ?_
      exact ⟨by rw [HP.out, HZ.out, HR.out], below_row (set3_below b2 (Nat.le_refl _) _ _ _) (by omega) _⟩
  · have hm1 : 0 ≤ m := by omega
    obtain ⟨v, hv⟩ : ∃ v, u = v := ⟨_, rfl⟩
    have HV : Hid (stepm u n m = v) := by show _ = _; rw [← hv]; exact if_neg (by omega)
    have HVB : Hid (Bd 300000 v) := by show Bd _ _; rw [← hv]; exact HB.out.mono (by omega)
    rw [hv] at k1
    clear hv
    by_cases hgn : 255 < g
    · have hng : ¬ n = g := by omega
      obtain ⟨q, hq⟩ : ∃ r, drawv v n (255 - n) (g - n) = r := ⟨_, rfl⟩
      have Bq : ∀ W : World, Calls Tryd.prog 30 #[tv v, .int .i64 n, .int .i64 (255 - n), .int .i64 (g - n)] W fun e w' => e = .returned (tv q) ∧ Below W.heap.size W w' := fun W => by rw [← hq]; exact drawn_any v _ _ _ (HVB.out) (by omega) (by omega) (by omega) (by omega) (by omega) (by omega) W
      obtain ⟨c0, c1, c2⟩ := t3_cells k1
      have HZ : Hid (stepg (stepm u n m) n g = q) := by show _ = _; rw [HV.out, ← hq]; exact if_pos hgn
      clear hq
      go_wp2_with fail
      refine (Bq _).mono ?_
      rintro e w3 ⟨rfl, hb⟩
      clear c0 c1 c2
      replace k1 := Below.blk hb k1 (blk_lt k1)
      replace k2 := Below.blk hb k2 (blk_lt k2)
      replace b2 := b2.trans (hb.mono b2.size)
      clear hb Bq
      obtain ⟨V2, hV2⟩ : ∃ W, W = w3.setRow w.heap.size (tcs q) := ⟨_, rfl⟩
      have HV2W : Hid (V2 = w3.setRow w.heap.size (tcs q)) := hV2
      have oV2 := k1
      replace k1 : V2.heap[w.heap.size]? = some (tblk 41 q) := by rw [hV2]; exact setRow_heap _ _ _ _ _ _ k1
      replace k2 : V2.heap[w.heap.size + 1]? = some (tblk 41 ⟨0, 0, 0⟩) := by rw [hV2, setRow_other _ _ _ _ (by omega)]; exact k2
      replace b2 : Below w.heap.size w V2 := by rw [hV2]; exact below_row b2 (Nat.le_refl _) _
      clear hV2
      obtain ⟨c0, c1, c2⟩ := t3_cells k1
      have f0 := blk_free k1 0
      have f1 := blk_free k1 1
      have f2 := blk_free k1 2
      obtain ⟨i0, i1, i2⟩ := idx41 q.x q.y q.z
      obtain ⟨ax, hax⟩ : ∃ a, (if q.x < 255 then q.x else 255) = a := ⟨_, rfl⟩
      have hbx := win_two hax
      obtain ⟨rx, hrx⟩ : ∃ r, win q.x 255 = r := ⟨_, rfl⟩
      rw [hrx] at hbx
      obtain ⟨ay, hay⟩ : ∃ a, (if q.y < 255 then q.y else 255) = a := ⟨_, rfl⟩
      have hby := win_two hay
      obtain ⟨ry, hry⟩ : ∃ r, win q.y 255 = r := ⟨_, rfl⟩
      rw [hry] at hby
      obtain ⟨az, haz⟩ : ∃ a, (if q.z < 255 then q.z else 255) = a := ⟨_, rfl⟩
      have hbz := win_two haz
      obtain ⟨rz, hrz⟩ : ∃ r, win q.z 255 = r := ⟨_, rfl⟩
      rw [hrz] at hbz
      have HR : Hid (win3 q = ⟨rx, ry, rz⟩) := by show _ = _; rw [← hrx, ← hry, ← hrz]; rfl
      clear hrx hry hrz
      go_wp2_with (refine store_t' q HV2W size41 oV2 rfl _ _ (by rfl) (by rfl) (by rfl) (by rfl) ?_)
      refine wp_loop_rounds 4 ?_
      rw [rounds_succ]
      go_wp2_with fail
      rw [rounds_succ]
      go_wp2_with fail
      rw [rounds_succ]
      go_wp2_with fail
      rw [rounds_succ]
      go_wp2_with (refine store_t size41 (set3_other k2 (by omega) rx ry rz) rfl _ _ ⟨rx, ry, rz⟩ (by rfl) (by rfl) (by rfl) (by rfl) ?_)
      refine bodyPost_ret (res_b rfl _ _ _ _ _ _ rfl (setRow_heap _ _ _ _ _ _ (set3_other k2 (by omega) _ _ _)) rfl) rfl ?_
      exact ⟨by rw [HP.out, HZ.out, HR.out], below_row (set3_below b2 (Nat.le_refl _) _ _ _) (by omega) _⟩
    · have hg1 : g ≤ 255 := by omega
      have HZ : Hid (stepg (stepm u n m) n g = v) := by show _ = _; rw [HV.out]; exact if_neg (by omega)
      obtain ⟨c0, c1, c2⟩ := t3_cells k1
      have f0 := blk_free k1 0
      have f1 := blk_free k1 1
      have f2 := blk_free k1 2
      obtain ⟨i0, i1, i2⟩ := idx41 v.x v.y v.z
      obtain ⟨ax, hax⟩ : ∃ a, (if v.x < 255 then v.x else 255) = a := ⟨_, rfl⟩
      have hbx := win_two hax
      obtain ⟨rx, hrx⟩ : ∃ r, win v.x 255 = r := ⟨_, rfl⟩
      rw [hrx] at hbx
      obtain ⟨ay, hay⟩ : ∃ a, (if v.y < 255 then v.y else 255) = a := ⟨_, rfl⟩
      have hby := win_two hay
      obtain ⟨ry, hry⟩ : ∃ r, win v.y 255 = r := ⟨_, rfl⟩
      rw [hry] at hby
      obtain ⟨az, haz⟩ : ∃ a, (if v.z < 255 then v.z else 255) = a := ⟨_, rfl⟩
      have hbz := win_two haz
      obtain ⟨rz, hrz⟩ : ∃ r, win v.z 255 = r := ⟨_, rfl⟩
      rw [hrz] at hbz
      have HR : Hid (win3 v = ⟨rx, ry, rz⟩) := by show _ = _; rw [← hrx, ← hry, ← hrz]; rfl
      clear hrx hry hrz
      go_wp2_with fail
      refine wp_loop_rounds 4 ?_
      rw [rounds_succ]
      go_wp2_with fail
      rw [rounds_succ]
      go_wp2_with fail
      rw [rounds_succ]
      go_wp2_with fail
      rw [rounds_succ]
      go_wp2_with (refine store_t size41 (set3_other k2 (by omega) rx ry rz) rfl _ _ ⟨rx, ry, rz⟩ (by rfl) (by rfl) (by rfl) (by rfl) ?_)
      refine bodyPost_ret (res_b rfl _ _ _ _ _ _ rfl (setRow_heap _ _ _ _ _ _ (set3_other k2 (by omega) _ _ _)) rfl) rfl ?_
      exact ⟨by rw [HP.out, HZ.out, HR.out], below_row (set3_below b2 (Nat.le_refl _) _ _ _) (by omega) _⟩
end Go.Proofs.YtdaapanmalcgbabDoor
