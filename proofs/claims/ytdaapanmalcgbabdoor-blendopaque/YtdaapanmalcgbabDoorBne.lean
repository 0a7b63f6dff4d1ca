/-
  Package blend: weight, colours, weighed, mixture, as contracts; the reference's lit, factors.
-/
import Derived.Test.YtdaapanmalcgbabDoorLays
import Derived.Test.YtdaapanmalcgbabDoorBnc
namespace Go.Proofs.YtdaapanmalcgbabDoor
open Go.RowKit

/-- What a weight is. -/
def weightv (k sa da : Int) : Int := if k = 1 then 255 else if k = 2 then sa else if k = 3 then da else if k = 4 then 255 - sa else if k = 5 then 255 - da else 0
theorem weight_any (k sa da : Int) (hk : 0 ≤ k) (hk2 : k ≤ 5) (h : 0 ≤ sa) (h1 : sa ≤ 255) (h2 : 0 ≤ da) (h3 : da ≤ 255) (w : World) : Calls Tryd.prog 10 #[.int .i64 k, .int .i64 sa, .int .i64 da] w fun e w' => e = .returned (.int .i64 (weightv k sa da)) ∧ w' = w := by
  rcases (show k = 0 ∨ k = 1 ∨ k = 2 ∨ k = 3 ∨ k = 4 ∨ k = 5 by omega) with rfl | rfl | rfl | rfl | rfl | rfl
  · rw [show weightv 0 sa da = 0 from rfl]
    go_enter Tryd.func10, Tryd.ntmps10
    go_wp2
    go_ret
    exact ⟨rfl, rfl⟩
  · rw [show weightv 1 sa da = 255 from rfl]
    go_enter Tryd.func10, Tryd.ntmps10
    go_wp2
    go_ret
    exact ⟨rfl, rfl⟩
  · rw [show weightv 2 sa da = sa from rfl]
    go_enter Tryd.func10, Tryd.ntmps10
    go_wp2
    go_ret
    exact ⟨rfl, rfl⟩
  · rw [show weightv 3 sa da = da from rfl]
    go_enter Tryd.func10, Tryd.ntmps10
    go_wp2
    go_ret
    exact ⟨rfl, rfl⟩
  · rw [show weightv 4 sa da = 255 - sa from rfl]
    go_enter Tryd.func10, Tryd.ntmps10
    go_wp2_with fail
    refine (not_any sa (by omega) (by omega) _).mono ?_
    rintro e w' ⟨rfl, rfl⟩
    go_wp2
    go_ret
    exact ⟨rfl, rfl⟩
  · rw [show weightv 5 sa da = 255 - da from rfl]
    go_enter Tryd.func10, Tryd.ntmps10
    go_wp2_with fail
    refine (not_any da (by omega) (by omega) _).mono ?_
    rintro e w' ⟨rfl, rfl⟩
    go_wp2
    go_ret
    exact ⟨rfl, rfl⟩
theorem colours_any (p : Px) (w : World) : Calls Tryd.prog 16 #[pv p] w fun e w' => e = .returned (tv (colv p)) ∧ Below w.heap.size w w' := by
  go_enter Tryd.func16, Tryd.ntmps16
  go_wp2
  refine bodyPost_ret (res_b rfl _ _ (w.heap.size + 1) 41 _ (0, 0) rfl (blk_new2 w _ _) rfl) rfl ?_
  exact ⟨rfl, ((Below.refl _ _).alloc (Nat.le_refl _) _).alloc (by simp) _⟩

set_option maxRecDepth 100000 in
set_option maxHeartbeats 1600000 in
theorem weighed_any (s d : Px) (f g : Int) (w : World) : Calls Tryd.prog 9 #[pv s, pv d, .int .i64 f, .int .i64 g] w fun e w' => e = .returned (pv (weighv s d f g)) ∧ Below w.heap.size w w' := by
  go_enter Tryd.func9, Tryd.ntmps9
  go_wp2_with fail
  obtain ⟨W, hW⟩ : ∃ W, W = ((w.alloc (pblk s)).alloc (pblk d)).alloc (pblk ⟨0, 0, 0, 0⟩) := ⟨_, rfl⟩
  rw [← hW]
  have g1 : W.heap[w.heap.size]? = some (pblk s) := by rw [hW]; exact blk_alloc (blk_alloc (blk_new w _) _) _
  have g2 : W.heap[w.heap.size + 1]? = some (pblk d) := by rw [hW]; exact blk_alloc (blk_new2 w _ _) _
  have g3 : W.heap[w.heap.size + 1 + 1]? = some (pblk ⟨0, 0, 0, 0⟩) := by rw [hW]; have := blk_new2 (w.alloc (pblk s)) (pblk d) (pblk ⟨0, 0, 0, 0⟩); simp only [World.size_alloc] at this; exact this
  have b1 : Below w.heap.size w W := by rw [hW]; exact (((Below.refl _ w).alloc (Nat.le_refl _) _).alloc (by simp) _).alloc (by simp; omega) _
  clear hW
  obtain ⟨p0, p1, p2, p3⟩ := px_ext g1
  obtain ⟨q0, q1, q2, q3⟩ := px_ext g2
  have hin := Ext.inh W
  refine region_ext_tail 29 (by kernel_rfl) (by kernel_rfl) ?_
  simp only [List.take_succ_cons, List.take_zero, List.drop_succ_cons, List.drop_zero]
  repeat (go_big_quiet_step (first | (go_at_call 13; exact Ext.same (sum_any _ _ _ _ _))))
  refine wpQuiet_nil ?_
  rintro _ ⟨k, rfl⟩
  have b3 := b1.trans (k.h.mono b1.size)
  have g4 := Ext.blk g3 k
  go_wp2_with (refine store_px g4 rfl _ _ (weighv s d f g) (by rfl) (by rfl) (by rfl) (by rfl) ?_)
  refine bodyPost_ret (res_px rfl _ _ _ _ _ _ rfl (setRow_heap _ _ _ _ _ _ g4) rfl) rfl ?_
  exact ⟨rfl, below_row b3 (by omega) _⟩

theorem mix_in {m : Int} {c b : T3} (h24 : 24 ≤ m) (hc : In3 c) (hb : In3 b) : In3 (mixturev m c b) ∨ 27 < m := by
  have h1 := lumv_in hb
  have h2 := lumv_in hc
  by_cases h : 27 < m
  · exact .inr h
  · left
    rcases (show m = 24 ∨ m = 25 ∨ m = 26 ∨ m = 27 by omega) with rfl | rfl | rfl | rfl
    · exact win3_in _
    · exact win3_in _
    · exact win3_in _
    · exact win3_in _

/-- At the head of mixture's arms. -/
theorem mix_start (c b : T3) (w : World) : ∃ W : World, W = ((w.alloc (tblk 41 c)).alloc (tblk 41 b)).alloc (tblk 41 ⟨0, 0, 0⟩) ∧ W.heap[w.heap.size]? = some (tblk 41 c) ∧ W.heap[w.heap.size + 1]? = some (tblk 41 b) ∧ W.heap[w.heap.size + 1 + 1]? = some (tblk 41 ⟨0, 0, 0⟩) ∧ Below w.heap.size w W :=
  ⟨_, rfl, blk_alloc (blk_alloc (blk_new w _) _) _, blk_alloc (blk_new2 w _ _) _, by have := blk_new2 (w.alloc (tblk 41 c)) (tblk 41 b) (tblk 41 ⟨0, 0, 0⟩); simp only [World.size_alloc] at this; exact this, (((Below.refl _ w).alloc (Nat.le_refl _) _).alloc (by simp) _).alloc (by simp; omega) _⟩

set_option maxRecDepth 100000 in
set_option maxHeartbeats 1600000 in
theorem mixture24 (c b : T3) (hc : In3 c) (hb : In3 b) (w : World) : Calls Tryd.prog 17 #[.int .i64 24, tv c, tv b] w fun e w' => e = .returned (tv (mixturev 24 c b)) ∧ Below w.heap.size w w' := by
  obtain ⟨S, hS⟩ : ∃ S, satv b = S := ⟨_, rfl⟩
  obtain ⟨s0, s1⟩ := satv_bd hb
  obtain ⟨L, hL⟩ : ∃ L, lumv b = L := ⟨_, rfl⟩
  obtain ⟨l0, l1⟩ := lumv_in hb
  have A1 : ∀ W : World, Calls Tryd.prog 23 #[tv b] W fun e w' => e = .returned (.int .i64 S) ∧ Below W.heap.size W w' := fun W => by rw [← hS]; exact sat_any b hb W
  have A2 : ∀ W : World, Calls Tryd.prog 24 #[tv b] W fun e w' => e = .returned (.int .i64 L) ∧ Below W.heap.size W w' := fun W => by rw [← hL]; exact lum_any b (hb.bd.mono (by omega)) W
  rw [hS] at s0 s1
  rw [hL] at l0 l1
  obtain ⟨t, ht⟩ : ∃ t, satedv c S = t := ⟨_, rfl⟩
  have hti : In3 t := by rw [← ht]; exact satedv_in s0 s1
  have A3 : ∀ W : World, Calls Tryd.prog 22 #[tv c, .int .i64 S] W fun e w' => e = .returned (tv t) ∧ Below W.heap.size W w' := fun W => by rw [← ht]; exact sated_any c S hc s0 s1 W
  obtain ⟨r, hr⟩ : ∃ r, litv t L = r := ⟨_, rfl⟩
  have A4 : ∀ W : World, Calls Tryd.prog 21 #[tv t, .int .i64 L] W fun e w' => e = .returned (tv r) ∧ Below W.heap.size W w' := fun W => by rw [← hr]; exact lit_any t L hti l0 l1 W
  have HR : Hid (mixturev 24 c b = r) := by show _ = _; rw [← hr, ← ht, ← hS, ← hL]; rfl
  clear hS hL ht hr hti s0 s1 l0 l1 hc hb
  go_enter Tryd.func17, Tryd.ntmps17
  go_wp2_with fail
  obtain ⟨W, hW, g1, g2, g3, b1⟩ := mix_start c b w
  rw [← hW]
  clear hW
  obtain ⟨p0, p1, p2⟩ := t3_ext g1
  obtain ⟨q0, q1, q2⟩ := t3_ext g2
  have hin := Ext.inh W
  refine region_ext_tail 7 (by kernel_rfl) (by kernel_rfl) ?_
  simp only [List.take_succ_cons, List.take_zero, List.drop_succ_cons, List.drop_zero]
  repeat (go_big_quiet_step (first | (go_at_call 23; exact Ext.call (A1 _)) | (go_at_call 24; exact Ext.call (A2 _)) | (go_at_call 22; exact Ext.call (A3 _)) | (go_at_call 21; exact Ext.call (A4 _))))
  refine wpQuiet_nil ?_
  rintro _ ⟨k, rfl⟩
  have b3 := b1.trans (k.h.mono b1.size)
  have g4 := Ext.blk g3 k
  go_wp2_with (refine store_t size41 g4 rfl _ _ r (by rfl) (by rfl) (by rfl) (by rfl) ?_)
  refine bodyPost_ret (res_b rfl _ _ _ _ _ _ rfl (setRow_heap _ _ _ _ _ _ g4) rfl) rfl ?_
  exact ⟨by rw [HR.out], below_row b3 (by omega) _⟩

set_option maxRecDepth 100000 in
set_option maxHeartbeats 1600000 in
theorem mixture25 (c b : T3) (hc : In3 c) (hb : In3 b) (w : World) : Calls Tryd.prog 17 #[.int .i64 25, tv c, tv b] w fun e w' => e = .returned (tv (mixturev 25 c b)) ∧ Below w.heap.size w w' := by
  obtain ⟨S, hS⟩ : ∃ S, satv c = S := ⟨_, rfl⟩
  obtain ⟨s0, s1⟩ := satv_bd hc
  obtain ⟨L, hL⟩ : ∃ L, lumv b = L := ⟨_, rfl⟩
  obtain ⟨l0, l1⟩ := lumv_in hb
  have A1 : ∀ W : World, Calls Tryd.prog 23 #[tv c] W fun e w' => e = .returned (.int .i64 S) ∧ Below W.heap.size W w' := fun W => by rw [← hS]; exact sat_any c hc W
  have A2 : ∀ W : World, Calls Tryd.prog 24 #[tv b] W fun e w' => e = .returned (.int .i64 L) ∧ Below W.heap.size W w' := fun W => by rw [← hL]; exact lum_any b (hb.bd.mono (by omega)) W
  rw [hS] at s0 s1
  rw [hL] at l0 l1
  obtain ⟨t, ht⟩ : ∃ t, satedv b S = t := ⟨_, rfl⟩
  have hti : In3 t := by rw [← ht]; exact satedv_in s0 s1
  have A3 : ∀ W : World, Calls Tryd.prog 22 #[tv b, .int .i64 S] W fun e w' => e = .returned (tv t) ∧ Below W.heap.size W w' := fun W => by rw [← ht]; exact sated_any b S hb s0 s1 W
  obtain ⟨r, hr⟩ : ∃ r, litv t L = r := ⟨_, rfl⟩
  have A4 : ∀ W : World, Calls Tryd.prog 21 #[tv t, .int .i64 L] W fun e w' => e = .returned (tv r) ∧ Below W.heap.size W w' := fun W => by rw [← hr]; exact lit_any t L hti l0 l1 W
  have HR : Hid (mixturev 25 c b = r) := by show _ = _; rw [← hr, ← ht, ← hS, ← hL]; rfl
  clear hS hL ht hr hti s0 s1 l0 l1 hc hb
  go_enter Tryd.func17, Tryd.ntmps17
  go_wp2_with fail
  obtain ⟨W, hW, g1, g2, g3, b1⟩ := mix_start c b w
  rw [← hW]
  clear hW
  obtain ⟨p0, p1, p2⟩ := t3_ext g1
  obtain ⟨q0, q1, q2⟩ := t3_ext g2
  have hin := Ext.inh W
  refine region_ext_tail 7 (by kernel_rfl) (by kernel_rfl) ?_
  simp only [List.take_succ_cons, List.take_zero, List.drop_succ_cons, List.drop_zero]
  repeat (go_big_quiet_step (first | (go_at_call 23; exact Ext.call (A1 _)) | (go_at_call 24; exact Ext.call (A2 _)) | (go_at_call 22; exact Ext.call (A3 _)) | (go_at_call 21; exact Ext.call (A4 _))))
  refine wpQuiet_nil ?_
  rintro _ ⟨k, rfl⟩
  have b3 := b1.trans (k.h.mono b1.size)
  have g4 := Ext.blk g3 k
  go_wp2_with (refine store_t size41 g4 rfl _ _ r (by rfl) (by rfl) (by rfl) (by rfl) ?_)
  refine bodyPost_ret (res_b rfl _ _ _ _ _ _ rfl (setRow_heap _ _ _ _ _ _ g4) rfl) rfl ?_
  exact ⟨by rw [HR.out], below_row b3 (by omega) _⟩

set_option maxRecDepth 100000 in
set_option maxHeartbeats 1600000 in
theorem mixture26 (c b : T3) (hc : In3 c) (hb : In3 b) (w : World) : Calls Tryd.prog 17 #[.int .i64 26, tv c, tv b] w fun e w' => e = .returned (tv (mixturev 26 c b)) ∧ Below w.heap.size w w' := by
  obtain ⟨L, hL⟩ : ∃ L, lumv b = L := ⟨_, rfl⟩
  obtain ⟨l0, l1⟩ := lumv_in hb
  have A2 : ∀ W : World, Calls Tryd.prog 24 #[tv b] W fun e w' => e = .returned (.int .i64 L) ∧ Below W.heap.size W w' := fun W => by rw [← hL]; exact lum_any b (hb.bd.mono (by omega)) W
  rw [hL] at l0 l1
  obtain ⟨r, hr⟩ : ∃ r, litv c L = r := ⟨_, rfl⟩
  have A4 : ∀ W : World, Calls Tryd.prog 21 #[tv c, .int .i64 L] W fun e w' => e = .returned (tv r) ∧ Below W.heap.size W w' := fun W => by rw [← hr]; exact lit_any c L hc l0 l1 W
  have HR : Hid (mixturev 26 c b = r) := by show _ = _; rw [← hr, ← hL]; rfl
  clear hL hr l0 l1 hc hb
  go_enter Tryd.func17, Tryd.ntmps17
  go_wp2_with fail
  obtain ⟨W, hW, g1, g2, g3, b1⟩ := mix_start c b w
  rw [← hW]
  clear hW
  obtain ⟨p0, p1, p2⟩ := t3_ext g1
  obtain ⟨q0, q1, q2⟩ := t3_ext g2
  have hin := Ext.inh W
  refine region_ext_tail 4 (by kernel_rfl) (by kernel_rfl) ?_
  simp only [List.take_succ_cons, List.take_zero, List.drop_succ_cons, List.drop_zero]
  repeat (go_big_quiet_step (first | (go_at_call 24; exact Ext.call (A2 _)) | (go_at_call 21; exact Ext.call (A4 _))))
  refine wpQuiet_nil ?_
  rintro _ ⟨k, rfl⟩
  have b3 := b1.trans (k.h.mono b1.size)
  have g4 := Ext.blk g3 k
  go_wp2_with (refine store_t size41 g4 rfl _ _ r (by rfl) (by rfl) (by rfl) (by rfl) ?_)
  refine bodyPost_ret (res_b rfl _ _ _ _ _ _ rfl (setRow_heap _ _ _ _ _ _ g4) rfl) rfl ?_
  exact ⟨by rw [HR.out], below_row b3 (by omega) _⟩

set_option maxRecDepth 100000 in
set_option maxHeartbeats 1600000 in
theorem mixture27 (c b : T3) (hc : In3 c) (hb : In3 b) (w : World) : Calls Tryd.prog 17 #[.int .i64 27, tv c, tv b] w fun e w' => e = .returned (tv (mixturev 27 c b)) ∧ Below w.heap.size w w' := by
  obtain ⟨L, hL⟩ : ∃ L, lumv c = L := ⟨_, rfl⟩
  obtain ⟨l0, l1⟩ := lumv_in hc
  have A2 : ∀ W : World, Calls Tryd.prog 24 #[tv c] W fun e w' => e = .returned (.int .i64 L) ∧ Below W.heap.size W w' := fun W => by rw [← hL]; exact lum_any c (hc.bd.mono (by omega)) W
  rw [hL] at l0 l1
  obtain ⟨r, hr⟩ : ∃ r, litv b L = r := ⟨_, rfl⟩
  have A4 : ∀ W : World, Calls Tryd.prog 21 #[tv b, .int .i64 L] W fun e w' => e = .returned (tv r) ∧ Below W.heap.size W w' := fun W => by rw [← hr]; exact lit_any b L hb l0 l1 W
  have HR : Hid (mixturev 27 c b = r) := by show _ = _; rw [← hr, ← hL]; rfl
  clear hL hr l0 l1 hc hb
  go_enter Tryd.func17, Tryd.ntmps17
  go_wp2_with fail
  obtain ⟨W, hW, g1, g2, g3, b1⟩ := mix_start c b w
  rw [← hW]
  clear hW
  obtain ⟨p0, p1, p2⟩ := t3_ext g1
  obtain ⟨q0, q1, q2⟩ := t3_ext g2
  have hin := Ext.inh W
  refine region_ext_tail 4 (by kernel_rfl) (by kernel_rfl) ?_
  simp only [List.take_succ_cons, List.take_zero, List.drop_succ_cons, List.drop_zero]
  repeat (go_big_quiet_step (first | (go_at_call 24; exact Ext.call (A2 _)) | (go_at_call 21; exact Ext.call (A4 _))))
  refine wpQuiet_nil ?_
  rintro _ ⟨k, rfl⟩
  have b3 := b1.trans (k.h.mono b1.size)
  have g4 := Ext.blk g3 k
  go_wp2_with (refine store_t size41 g4 rfl _ _ r (by rfl) (by rfl) (by rfl) (by rfl) ?_)
  refine bodyPost_ret (res_b rfl _ _ _ _ _ _ rfl (setRow_heap _ _ _ _ _ _ g4) rfl) rfl ?_
  exact ⟨by rw [HR.out], below_row b3 (by omega) _⟩

set_option maxRecDepth 100000 in
set_option maxHeartbeats 1600000 in
theorem mixture_alone (m : Int) (c b : T3) (hm : 13 ≤ m) (hm2 : m < 24) (hc : In3 c) (hb : In3 b) (w : World) : Calls Tryd.prog 17 #[.int .i64 m, tv c, tv b] w fun e w' => e = .returned (tv (mixturev m c b)) ∧ Below w.heap.size w w' := by
  obtain ⟨x0, x1, y0, y1, z0, z1⟩ := hc
  obtain ⟨u0, u1, v0, v1, t0, t1⟩ := hb
  obtain ⟨rx, hrx⟩ : ∃ r, alonev m c.x b.x = r := ⟨_, rfl⟩
  obtain ⟨ry, hry⟩ : ∃ r, alonev m c.y b.y = r := ⟨_, rfl⟩
  obtain ⟨rz, hrz⟩ : ∃ r, alonev m c.z b.z = r := ⟨_, rfl⟩
  have A1 : ∀ W : World, Calls Tryd.prog 25 #[.int .i64 m, .int .i64 c.x, .int .i64 b.x] W fun e w' => e = .returned (.int .i64 rx) ∧ w' = W := fun W => by rw [← hrx]; exact alone_any m _ _ hm hm2 x0 x1 u0 u1 W
  have A2 : ∀ W : World, Calls Tryd.prog 25 #[.int .i64 m, .int .i64 c.y, .int .i64 b.y] W fun e w' => e = .returned (.int .i64 ry) ∧ w' = W := fun W => by rw [← hry]; exact alone_any m _ _ hm hm2 y0 y1 v0 v1 W
  have A3 : ∀ W : World, Calls Tryd.prog 25 #[.int .i64 m, .int .i64 c.z, .int .i64 b.z] W fun e w' => e = .returned (.int .i64 rz) ∧ w' = W := fun W => by rw [← hrz]; exact alone_any m _ _ hm hm2 z0 z1 t0 t1 W
  have HR : Hid (mixturev m c b = ⟨rx, ry, rz⟩) := by show _ = _; rw [← hrx, ← hry, ← hrz]; exact mix_alone hm2 c b
  clear hrx hry hrz x0 x1 y0 y1 z0 z1 u0 u1 v0 v1 t0 t1
  go_enter Tryd.func17, Tryd.ntmps17
  go_wp2_with fail
  obtain ⟨W, hW, g1, g2, g3, b1⟩ := mix_start c b w
  rw [← hW]
  clear hW
  obtain ⟨p0, p1, p2⟩ := t3_ext g1
  obtain ⟨q0, q1, q2⟩ := t3_ext g2
  have hin := Ext.inh W
  refine region_ext_tail 19 (by kernel_rfl) (by kernel_rfl) ?_
  simp only [List.take_succ_cons, List.take_zero, List.drop_succ_cons, List.drop_zero]
  repeat (go_big_quiet_step (fail))
  go_big_quiet_step (first | (go_at_call 25; exact Ext.same (A1 _)))
  repeat (go_big_quiet_step (fail))
  go_big_quiet_step (first | (go_at_call 25; exact Ext.same (A2 _)))
  repeat (go_big_quiet_step (fail))
  go_big_quiet_step (first | (go_at_call 25; exact Ext.same (A3 _)))
  repeat (go_big_quiet_step (fail))
  refine wpQuiet_nil ?_
  rintro _ ⟨k, rfl⟩
  have b3 := b1.trans (k.h.mono b1.size)
  have g4 := Ext.blk g3 k
  go_wp2_with (refine store_t size41 g4 rfl _ _ ⟨rx, ry, rz⟩ (by rfl) (by rfl) (by rfl) (by rfl) ?_)
  refine bodyPost_ret (res_b rfl _ _ _ _ _ _ rfl (setRow_heap _ _ _ _ _ _ g4) rfl) rfl ?_
  exact ⟨by rw [HR.out], below_row b3 (by omega) _⟩

theorem mixture_any (m : Int) (c b : T3) (hm : 13 ≤ m) (hm2 : m < 28) (hc : In3 c) (hb : In3 b) (w : World) : Calls Tryd.prog 17 #[.int .i64 m, tv c, tv b] w fun e w' => e = .returned (tv (mixturev m c b)) ∧ Below w.heap.size w w' := by
  by_cases h : m < 24
  · exact mixture_alone m c b hm h hc hb w
  · rcases (show m = 24 ∨ m = 25 ∨ m = 26 ∨ m = 27 by omega) with rfl | rfl | rfl | rfl
    · exact mixture24 c b hc hb w
    · exact mixture25 c b hc hb w
    · exact mixture26 c b hc hb w
    · exact mixture27 c b hc hb w
end Go.Proofs.YtdaapanmalcgbabDoor
