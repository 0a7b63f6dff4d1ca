/-
  Package pixel and the reference's chapter 12: Pre, Bare, Premultiplied, Scale, Over, Mix, as contracts.
-/
import Derived.Test.YtdaapanmalcgbabDoorPxa
namespace Go.Proofs.YtdaapanmalcgbabDoor
open Go.RowKit


set_option maxRecDepth 100000 in
set_option maxHeartbeats 1600000 in
theorem bare_any (p : Px) (w : World) : Calls Tryd.prog 18 #[pv p] w fun e w' => e = .returned (pv (barev p)) ∧ Below w.heap.size w w' := by
  go_enter Tryd.func18, Tryd.ntmps18
  go_wp2_with fail
  refine (righted_any p _).mono ?_
  rintro e w1 ⟨rfl, hb⟩
  have g1 := Below.blk hb (blk_alloc (blk_new w _) _) (by simp; omega)
  have g2 := Below.blk hb (blk_new (w.alloc _) _) (by simp)
  simp only [World.size_alloc] at g1 g2
  have b1 : Below w.heap.size w w1 := (((Below.refl _ w).alloc (Nat.le_refl _) _).alloc (by simp) _).trans (hb.mono (by simp; omega))
  clear hb
  obtain ⟨W, hW⟩ : ∃ W, W = w1.setRow w.heap.size (pcs (ownv p)) := ⟨_, rfl⟩
  have k1 : W.heap[w.heap.size]? = some (pblk (ownv p)) := by rw [hW]; exact setRow_heap _ _ _ _ _ _ g1
  have k2 : W.heap[w.heap.size + 1]? = some (pblk ⟨0, 0, 0, 0⟩) := by rw [hW, setRow_other _ _ _ _ (by omega)]; exact g2
  have b2 : Below w.heap.size w W := by rw [hW]; exact below_row b1 (Nat.le_refl _) _
  have HW : Hid (W = w1.setRow w.heap.size (pcs (ownv p))) := hW
  clear hW g2 b1
  have hrt := ownv_rt p
  obtain ⟨o, ho⟩ : ∃ o, ownv p = o := ⟨_, rfl⟩
  rw [ho] at hrt k1 HW
  have HO : Hid (ownv p = o) := ho
  clear ho
  have HP : Hid (barev p = if o.a = 0 then zpx else ⟨baredv o.r o.a, baredv o.g o.a, baredv o.b o.a, o.a⟩) := by show _ = _; rw [← HO.out]; rfl
  obtain ⟨d0, d1, d2, d3⟩ := px_cells k1
  obtain ⟨c0, c1, c2, c3⟩ := px_ext k1
  clear k1
  by_cases hz : o.a = 0
  · have HQ : Hid (barev p = zpx) := by show _ = _; rw [HP.out, if_pos hz]
    rw [hz] at d3
    clear hz
    go_wp2_with (first | (refine store_px' o HW g1 rfl _ _ (by rfl) (by rfl) (by rfl) (by rw [← HO.out]; rfl) ?_) | (refine store_px k2 rfl _ _ zpx (by rfl) (by rfl) (by rfl) (by rfl) ?_))
    refine bodyPost_ret (res_px rfl _ _ _ _ _ _ rfl (setRow_heap _ _ _ _ _ _ k2) rfl) rfl ?_
    exact ⟨by rw [HQ.out], below_row b2 (by omega) _⟩
  have HQ : Hid (barev p = ⟨baredv o.r o.a, baredv o.g o.a, baredv o.b o.a, o.a⟩) := by show _ = _; rw [HP.out, if_neg hz]
  have ha1 : 1 ≤ o.a := by have := hrt.a0; omega
  have ha2 := hrt.a1
  have hr0 := hrt.r0
  have hr1 := hrt.r1
  have hg0 := hrt.g0
  have hg1 := hrt.g1
  have hb0 := hrt.b0
  have hb1 := hrt.b1
  clear HP
  go_wp2_with (refine store_px' o HW g1 rfl _ _ (by rfl) (by rfl) (by rfl) (by rw [← HO.out]; rfl) ?_)
  have hin := Ext.inh W
  try simp only [Act.put]
  refine region_ext_tail 18 (by kernel_rfl) (by kernel_rfl) ?_
  simp only [List.take_succ_cons, List.take_zero, List.drop_succ_cons, List.drop_zero]
  repeat (go_big_quiet_step (first | (go_at_call 27; exact Ext.same (bared_any _ _ (by assumption) (by assumption) ha1 ha2 _))))
  refine wpQuiet_nil ?_
  rintro _ ⟨k, rfl⟩
  have b3 := b2.trans (k.h.mono b2.size)
  have g4 := Ext.blk k2 k
  go_wp2_with (refine store_px g4 rfl _ _ ⟨baredv o.r o.a, baredv o.g o.a, baredv o.b o.a, o.a⟩ (by rfl) (by rfl) (by rfl) (by rfl) ?_)
  refine bodyPost_ret (res_px rfl _ _ _ _ _ _ rfl (setRow_heap _ _ _ _ _ _ g4) rfl) rfl ?_
  exact ⟨by rw [HQ.out], below_row b3 (by omega) _⟩

end Go.Proofs.YtdaapanmalcgbabDoor
