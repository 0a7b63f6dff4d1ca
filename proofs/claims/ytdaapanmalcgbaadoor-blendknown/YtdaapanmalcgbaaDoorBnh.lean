/-
  The reference's Blend, as a contract: refusals, modes 0 to 12; what the others begin with.
-/
import Derived.Test.YtdaapanmalcgbaaDoorBng
namespace Go.Proofs.YtdaapanmalcgbaaDoor
open Go.RowKit

set_option maxRecDepth 100000 in
set_option maxHeartbeats 1600000 in
theorem rblend_out (m : Int) (s d : Px) (hm : m < 0 ∨ 28 ≤ m) (w : World) : Calls Tryd.prog 13 #[.int .i64 m, pv s, pv d] w fun e w' => e = .returned (blendR m s d) ∧ Below w.heap.size w w' := by
  have hF : mayv m s d = false := by unfold mayv; rcases hm with h | h <;> simp [show ¬ (0 ≤ m ∧ m < 28) by omega] <;> omega
  have HF : Hid (blendR m s d = .tuple #[pv ⟨0, 0, 0, 0⟩, .bool false]) := by show Value.tuple #[pv (outv m s d), .bool (mayv m s d)] = _; rw [outv_no hF, hF]
  clear hF
  obtain ⟨W, hW, g4, g5, g6, B⟩ := three_px s d w
  have HW : Hid (W = _) := hW
  rcases hm with hm | hm
  all_goals
    clear hW
    go_enter Tryd.func13, Tryd.ntmps13
    go_wp2
    rw [← HW.out]
    refine bodyPost_ret (res_two rfl _ _ _ _ _ _ (.bool false) rfl rfl g6 rfl) rfl ?_
    exact ⟨by rw [HF.out], B⟩

set_option maxRecDepth 100000 in
set_option maxHeartbeats 1600000 in
theorem rblend_no1 (m : Int) (s d : Px) (hm : 0 ≤ m) (hm2 : m < 28) (hs : premv s = false) (w : World) : Calls Tryd.prog 13 #[.int .i64 m, pv s, pv d] w fun e w' => e = .returned (blendR m s d) ∧ Below w.heap.size w w' := by
  have hF : mayv m s d = false := by unfold mayv; rw [hs, Bool.and_false, Bool.false_and]
  have HF : Hid (blendR m s d = .tuple #[pv ⟨0, 0, 0, 0⟩, .bool false]) := by show Value.tuple #[pv (outv m s d), .bool (mayv m s d)] = _; rw [outv_no hF, hF]
  have A1 : ∀ W : World, Calls Tryd.prog 14 #[pv s] W fun e w' => e = .returned (.bool false) ∧ Below W.heap.size W w' := fun W => told (rpremultiplied_any s W) (by rw [hs])
  clear hF hs
  obtain ⟨W, hW, g4, g5, g6, B⟩ := three_px s d w
  have HW : Hid (W = _) := hW
  clear hW
  go_enter Tryd.func13, Tryd.ntmps13
  go_wp2_with fail
  rw [← HW.out]
  refine (A1 _).mono ?_
  rintro e W1 ⟨rfl, hb⟩
  replace g6 := Below.blk hb g6 (blk_lt g6)
  replace B := B.trans (hb.mono B.size)
  clear hb A1
  go_wp2_with (refine store_px g6 rfl _ _ ⟨0, 0, 0, 0⟩ (by rfl) (by rfl) (by rfl) (by rfl) ?_)
  refine bodyPost_ret (res_two rfl _ _ _ _ _ _ (.bool false) rfl rfl (setRow_heap _ _ _ _ _ _ g6) rfl) rfl ?_
  exact ⟨by rw [HF.out], below_row B (by omega) _⟩

set_option maxRecDepth 100000 in
set_option maxHeartbeats 1600000 in
theorem rblend_no2 (m : Int) (s d : Px) (hm : 0 ≤ m) (hm2 : m < 28) (hs : premv s = true) (hd : premv d = false) (w : World) : Calls Tryd.prog 13 #[.int .i64 m, pv s, pv d] w fun e w' => e = .returned (blendR m s d) ∧ Below w.heap.size w w' := by
  have hF : mayv m s d = false := by unfold mayv; rw [hd, Bool.and_false]
  have HF : Hid (blendR m s d = .tuple #[pv ⟨0, 0, 0, 0⟩, .bool false]) := by show Value.tuple #[pv (outv m s d), .bool (mayv m s d)] = _; rw [outv_no hF, hF]
  have A1 : ∀ W : World, Calls Tryd.prog 14 #[pv s] W fun e w' => e = .returned (.bool true) ∧ Below W.heap.size W w' := fun W => told (rpremultiplied_any s W) (by rw [hs])
  have A2 : ∀ W : World, Calls Tryd.prog 14 #[pv d] W fun e w' => e = .returned (.bool false) ∧ Below W.heap.size W w' := fun W => told (rpremultiplied_any d W) (by rw [hd])
  clear hF hs hd
  obtain ⟨W, hW, g4, g5, g6, B⟩ := three_px s d w
  have HW : Hid (W = _) := hW
  clear hW
  go_enter Tryd.func13, Tryd.ntmps13
  go_wp2_with fail
  rw [← HW.out]
  refine (A1 _).mono ?_
  rintro e W1 ⟨rfl, hb⟩
  replace g5 := Below.blk hb g5 (blk_lt g5)
  replace g6 := Below.blk hb g6 (blk_lt g6)
  replace B := B.trans (hb.mono B.size)
  clear hb A1
  obtain ⟨q0, q1, q2, q3⟩ := px_cells g5
  go_wp2_with fail
  refine (A2 _).mono ?_
  rintro e W2 ⟨rfl, hb⟩
  clear q0 q1 q2 q3
  replace g6 := Below.blk hb g6 (blk_lt g6)
  replace B := B.trans (hb.mono B.size)
  clear hb A2
  go_wp2_with (refine store_px g6 rfl _ _ ⟨0, 0, 0, 0⟩ (by rfl) (by rfl) (by rfl) (by rfl) ?_)
  refine bodyPost_ret (res_two rfl _ _ _ _ _ _ (.bool false) rfl rfl (setRow_heap _ _ _ _ _ _ g6) rfl) rfl ?_
  exact ⟨by rw [HF.out], below_row B (by omega) _⟩

set_option maxRecDepth 100000 in
set_option maxHeartbeats 1600000 in
theorem rblend_lo (m : Int) (s d : Px) (h0 : 0 ≤ m) (hm : m < 13) (hs : Pm s) (hd : Pm d) (w : World) : Calls Tryd.prog 13 #[.int .i64 m, pv s, pv d] w fun e w' => e = .returned (blendR m s d) ∧ Below w.heap.size w w' := by
  have hF : mayv m s d = true := mayv_of (by omega) (by omega) hs hd
  have hO : outv m s d = weighv s d (facs m d.a) (facd m s.a) := by rw [outv_of (by omega) (by omega) hs hd]; exact if_pos (by omega)
  have A1 : ∀ W : World, Calls Tryd.prog 14 #[pv s] W fun e w' => e = .returned (.bool true) ∧ Below W.heap.size W w' := fun W => told (rpremultiplied_any s W) (by rw [(premv_iff s).2 hs])
  have A2 : ∀ W : World, Calls Tryd.prog 14 #[pv d] W fun e w' => e = .returned (.bool true) ∧ Below W.heap.size W w' := fun W => told (rpremultiplied_any d W) (by rw [(premv_iff d).2 hd])
  have A3 := factors_any m s.a d.a h0 hm hs.rt.a0 hs.rt.a1 hd.rt.a0 hd.rt.a1
  obtain ⟨f, hf⟩ : ∃ x, facs m d.a = x := ⟨_, rfl⟩
  obtain ⟨g, hg⟩ : ∃ x, facd m s.a = x := ⟨_, rfl⟩
  rw [hf, hg] at A3 hO
  obtain ⟨ur, hur⟩ : ∃ x, partv s.r f = x := ⟨_, rfl⟩
  obtain ⟨vr, hvr⟩ : ∃ x, partv d.r g = x := ⟨_, rfl⟩
  have Ur : ∀ W : World, Calls Tryd.prog 21 #[.int .i64 s.r, .int .i64 f] W fun e w' => e = .returned (.int .i64 ur) ∧ w' = W := fun W => by rw [← hur]; exact rpart_any _ _ W
  have Vr : ∀ W : World, Calls Tryd.prog 21 #[.int .i64 d.r, .int .i64 g] W fun e w' => e = .returned (.int .i64 vr) ∧ w' = W := fun W => by rw [← hvr]; exact rpart_any _ _ W
  obtain ⟨ur0, ur1⟩ := partv_bd s.r f
  obtain ⟨vr0, vr1⟩ := partv_bd d.r g
  rw [hur] at ur0 ur1
  rw [hvr] at vr0 vr1
  obtain ⟨rr, hrr⟩ : ∃ r, (if ur + vr < 255 then ur + vr else 255) = r := ⟨_, rfl⟩
  have Rr : sumv s.r d.r f g = rr := by rw [← hrr, ← hur, ← hvr]; rfl
  clear hur hvr
  obtain ⟨ug, hug⟩ : ∃ x, partv s.g f = x := ⟨_, rfl⟩
  obtain ⟨vg, hvg⟩ : ∃ x, partv d.g g = x := ⟨_, rfl⟩
  have Ug : ∀ W : World, Calls Tryd.prog 21 #[.int .i64 s.g, .int .i64 f] W fun e w' => e = .returned (.int .i64 ug) ∧ w' = W := fun W => by rw [← hug]; exact rpart_any _ _ W
  have Vg : ∀ W : World, Calls Tryd.prog 21 #[.int .i64 d.g, .int .i64 g] W fun e w' => e = .returned (.int .i64 vg) ∧ w' = W := fun W => by rw [← hvg]; exact rpart_any _ _ W
  obtain ⟨ug0, ug1⟩ := partv_bd s.g f
  obtain ⟨vg0, vg1⟩ := partv_bd d.g g
  rw [hug] at ug0 ug1
  rw [hvg] at vg0 vg1
  obtain ⟨rg, hrg⟩ : ∃ r, (if ug + vg < 255 then ug + vg else 255) = r := ⟨_, rfl⟩
  have Rg : sumv s.g d.g f g = rg := by rw [← hrg, ← hug, ← hvg]; rfl
  clear hug hvg
  obtain ⟨ub, hub⟩ : ∃ x, partv s.b f = x := ⟨_, rfl⟩
  obtain ⟨vb, hvb⟩ : ∃ x, partv d.b g = x := ⟨_, rfl⟩
  have Ub : ∀ W : World, Calls Tryd.prog 21 #[.int .i64 s.b, .int .i64 f] W fun e w' => e = .returned (.int .i64 ub) ∧ w' = W := fun W => by rw [← hub]; exact rpart_any _ _ W
  have Vb : ∀ W : World, Calls Tryd.prog 21 #[.int .i64 d.b, .int .i64 g] W fun e w' => e = .returned (.int .i64 vb) ∧ w' = W := fun W => by rw [← hvb]; exact rpart_any _ _ W
  obtain ⟨ub0, ub1⟩ := partv_bd s.b f
  obtain ⟨vb0, vb1⟩ := partv_bd d.b g
  rw [hub] at ub0 ub1
  rw [hvb] at vb0 vb1
  obtain ⟨rb, hrb⟩ : ∃ r, (if ub + vb < 255 then ub + vb else 255) = r := ⟨_, rfl⟩
  have Rb : sumv s.b d.b f g = rb := by rw [← hrb, ← hub, ← hvb]; rfl
  clear hub hvb
  obtain ⟨ua, hua⟩ : ∃ x, partv s.a f = x := ⟨_, rfl⟩
  obtain ⟨va, hva⟩ : ∃ x, partv d.a g = x := ⟨_, rfl⟩
  have Ua : ∀ W : World, Calls Tryd.prog 21 #[.int .i64 s.a, .int .i64 f] W fun e w' => e = .returned (.int .i64 ua) ∧ w' = W := fun W => by rw [← hua]; exact rpart_any _ _ W
  have Va : ∀ W : World, Calls Tryd.prog 21 #[.int .i64 d.a, .int .i64 g] W fun e w' => e = .returned (.int .i64 va) ∧ w' = W := fun W => by rw [← hva]; exact rpart_any _ _ W
  obtain ⟨ua0, ua1⟩ := partv_bd s.a f
  obtain ⟨va0, va1⟩ := partv_bd d.a g
  rw [hua] at ua0 ua1
  rw [hva] at va0 va1
  obtain ⟨ra, hra⟩ : ∃ r, (if ua + va < 255 then ua + va else 255) = r := ⟨_, rfl⟩
  have Ra : sumv s.a d.a f g = ra := by rw [← hra, ← hua, ← hva]; rfl
  clear hua hva
  have HF : Hid (blendR m s d = .tuple #[pv ⟨rr, rg, rb, ra⟩, .bool true]) := by show Value.tuple #[pv (outv m s d), .bool (mayv m s d)] = _; rw [hO, hF]; unfold weighv; rw [Rr, Rg, Rb, Ra]
  obtain ⟨W, hW, g4, g5, g6, B⟩ := three_px s d w
  have HW : Hid (W = _) := hW
  clear hW hF hO hf hg hs hd Rr Rg Rb Ra
  go_enter Tryd.func13, Tryd.ntmps13
  go_wp2_with fail
  rw [← HW.out]
  refine (A1 _).mono ?_
  rintro e W1 ⟨rfl, hb⟩
  replace g4 := Below.blk hb g4 (blk_lt g4)
  replace g5 := Below.blk hb g5 (blk_lt g5)
  replace g6 := Below.blk hb g6 (blk_lt g6)
  replace B := B.trans (hb.mono B.size)
  clear hb A1
  obtain ⟨q0, q1, q2, q3⟩ := px_cells g5
  go_wp2_with fail
  refine (A2 _).mono ?_
  rintro e W2 ⟨rfl, hb⟩
  clear q0 q1 q2 q3
  replace g4 := Below.blk hb g4 (blk_lt g4)
  replace g5 := Below.blk hb g5 (blk_lt g5)
  replace g6 := Below.blk hb g6 (blk_lt g6)
  replace B := B.trans (hb.mono B.size)
  clear hb A2
  obtain ⟨p0, p1, p2, p3⟩ := px_cells g4
  obtain ⟨q0, q1, q2, q3⟩ := px_cells g5
  go_wp2_with fail
  refine (A3 _).mono ?_
  rintro e w' ⟨rfl, hw⟩
  obtain rfl := hw.symm
  clear A3
  go_wp2_with fail
  clear p0 p1 p2 p3 q0 q1 q2 q3
  obtain ⟨p0, p1, p2, p3⟩ := px_ext g4
  obtain ⟨q0, q1, q2, q3⟩ := px_ext g5
  have hin := Ext.inh W2
  refine region_ext_cone 41 (by kernel_rfl) (by kernel_rfl) ?_
  simp only [List.take_succ_cons, List.take_zero, List.drop_succ_cons, List.drop_zero]
  repeat (go_big_quiet_step (fail))
  go_big_quiet_step (first | (go_at_call 21; exact Ext.same (Ur _)))
  repeat (go_big_quiet_step (fail))
  go_big_quiet_step (first | (go_at_call 21; exact Ext.same (Vr _)))
  repeat (go_big_quiet_step (fail))
  go_big_quiet_step (first | (go_at_call 21; exact Ext.same (Ug _)))
  repeat (go_big_quiet_step (fail))
  go_big_quiet_step (first | (go_at_call 21; exact Ext.same (Vg _)))
  repeat (go_big_quiet_step (fail))
  go_big_quiet_step (first | (go_at_call 21; exact Ext.same (Ub _)))
  repeat (go_big_quiet_step (fail))
  go_big_quiet_step (first | (go_at_call 21; exact Ext.same (Vb _)))
  repeat (go_big_quiet_step (fail))
  go_big_quiet_step (first | (go_at_call 21; exact Ext.same (Ua _)))
  repeat (go_big_quiet_step (fail))
  go_big_quiet_step (first | (go_at_call 21; exact Ext.same (Va _)))
  repeat (go_big_quiet_step (fail))
  refine wpQuiet_nil ?_
  rintro _ ⟨k, rfl⟩
  have b3 := B.trans (k.h.mono B.size)
  have g7 := Ext.blk g6 k
  go_wp2_with (refine store_px g7 rfl _ _ ⟨rr, rg, rb, ra⟩ (by rfl) (by rfl) (by rfl) (by rfl) ?_)
  refine bodyPost_ret (res_two rfl _ _ _ _ _ _ (.bool true) rfl rfl (setRow_heap _ _ _ _ _ _ g7) rfl) rfl ?_
  exact ⟨by rw [HF.out], below_row b3 (by omega) _⟩

/-- The variables of the reference's Blend from mode 13 on: both pixels, the answer's, three bare numbers each, and what they make. -/
structure Fr (w V : World) (G : Nat) (s d : Px) (c b M : T3) : Prop where
  hG : w.heap.size + 3 ≤ G
  g4 : V.heap[w.heap.size]? = some (pblk s)
  g5 : V.heap[w.heap.size + 1]? = some (pblk d)
  g6 : V.heap[w.heap.size + 1 + 1]? = some (pblk ⟨0, 0, 0, 0⟩)
  k12 : V.heap[G]? = some (tblk 49 c)
  k13 : V.heap[G + 1]? = some (tblk 49 b)
  k14 : V.heap[G + 1 + 1]? = some (tblk 49 M)
  B : Below w.heap.size w V
theorem Fr.on {w V V' : World} {G : Nat} {s d : Px} {c b M : T3} (h : Fr w V G s d c b M) (hb : Below V.heap.size V V') : Fr w V' G s d c b M :=
  ⟨h.hG, Below.blk hb h.g4 (blk_lt h.g4), Below.blk hb h.g5 (blk_lt h.g5), Below.blk hb h.g6 (blk_lt h.g6), Below.blk hb h.k12 (blk_lt h.k12), Below.blk hb h.k13 (blk_lt h.k13), Below.blk hb h.k14 (blk_lt h.k14), h.B.trans (hb.mono h.B.size)⟩
theorem Fr.row {w V : World} {G : Nat} {s d : Px} {c b M : T3} (h : Fr w V G s d c b M) (M' : T3) : Fr w (V.setRow (G + 1 + 1) (tcs M')) G s d c b M' := by
  have hG := h.hG
  exact ⟨hG, row_blk h.g4 (by omega), row_blk h.g5 (by omega), row_blk h.g6 (by omega), row_blk h.k12 (by omega), row_blk h.k13 (by omega), setRow_heap _ _ _ _ _ _ h.k14, below_row h.B (by omega) _⟩
theorem Fr.cell {w V : World} {G : Nat} {s d : Px} {c b M M' : T3} (h : Fr w V G s d c b M) {i : Nat} {v : Value} (hM : (tcs M).setIfInBounds i v = tcs M') : Fr w (V.setCell ⟨G + 1 + 1, i, none⟩ v) G s d c b M' := by
  have hG := h.hG
  refine ⟨hG, by rw [blk_other _ (by show _ ≠ G + 1 + 1; omega)]; exact h.g4, by rw [blk_other _ (by show _ ≠ G + 1 + 1; omega)]; exact h.g5, by rw [blk_other _ (by show _ ≠ G + 1 + 1; omega)]; exact h.g6, by rw [blk_other _ (by show _ ≠ G + 1 + 1; omega)]; exact h.k12, by rw [blk_other _ (by show _ ≠ G + 1 + 1; omega)]; exact h.k13, ?_, h.B.setCell (by show _ ≤ G + 1 + 1; omega) _⟩
  have := blk_set h.k14 i v
  rw [this]
  show some (Obj.cells ((tcs M).setIfInBounds i v) 49 (0, 0)) = _
  rw [hM]
theorem Fr.alloc {w V : World} {G : Nat} {s d : Px} {c b M : T3} (h : Fr w V G s d c b M) (o : Obj) : Fr w (V.alloc o) G s d c b M := h.on ((Below.refl _ V).alloc (Nat.le_refl _) o)
end Go.Proofs.YtdaapanmalcgbaaDoor
