/-
  Package blend's Blend, as a contract; blend.plain as it is laid.
-/
import Derived.Test.YtdaapanmalcgbabDoorBnf
import Derived.Laws.ResultCell
namespace Go.Proofs.YtdaapanmalcgbabDoor
open Go.RowKit

/-- The table's numbers: which weight the source, which the dest has. -/
def tabL : List Int := [0, 0, 1, 0, 0, 1, 1, 4, 5, 1, 3, 0, 0, 2, 5, 0, 0, 4, 3, 4, 5, 2, 5, 4, 1, 1]
def plainL : List Value := tabL.map fun n => .int .i64 n
def ksv (m : Nat) : Int := tabL.getD (m * 2) 0
def kdv (m : Nat) : Int := tabL.getD (m * 2 + 1) 0
/-- blend.plain, as it is laid. -/
def Tab (w : World) : Prop := w.rangeAt 0 0 plainL
theorem Tab.pos {w : World} (h : Tab w) : 0 < w.heap.size := by
  have := h 0 (.int .i64 0) rfl
  exact blk_lt_of_cell this
theorem Tab.below {B : Nat} {w w' : World} (h : Tab w) (hb : Below B w w') (hB : 0 < B) : Tab w' := fun j v hv => by
  rw [World.cell?_of_block (a := ⟨0, 0 + j, none⟩) (hb.block 0 hB)]
  exact h j v hv
theorem Tab.on {w w' : World} (h : Tab w) (hb : Below w.heap.size w w') : Tab w' := h.below hb h.pos
theorem Tab.cells {w : World} (h : Tab w) {m : Nat} (hm : m < 13) : w.cell? ⟨0, m * 2, none⟩ = some (.int .i64 (ksv m)) ∧ w.cell? ⟨0, m * 2 + 1, none⟩ = some (.int .i64 (kdv m)) := by
  have key : ∀ j, j < 26 → w.cell? ⟨0, j, none⟩ = some (.int .i64 (tabL.getD j 0)) := fun j hj => by
    have := h j (.int .i64 (tabL.getD j 0)) (by
      show (tabL.map fun n => Value.int .i64 n)[j]? = _
      rw [List.getElem?_map, List.getElem?_eq_getElem (show j < tabL.length from hj), List.getD_eq_getElem?_getD, List.getElem?_eq_getElem (show j < tabL.length from hj)]
      rfl)
    rwa [Nat.zero_add] at this
  exact ⟨key _ (by omega), key _ (by omega)⟩
theorem kinds {m : Nat} (hm : m < 13) (sa da : Int) : (0 ≤ ksv m ∧ ksv m ≤ 5 ∧ weightv (ksv m) sa da = facs m da) ∧ (0 ≤ kdv m ∧ kdv m ≤ 5 ∧ weightv (kdv m) sa da = facd m sa) := by
  rcases (show m = 0 ∨ m = 1 ∨ m = 2 ∨ m = 3 ∨ m = 4 ∨ m = 5 ∨ m = 6 ∨ m = 7 ∨ m = 8 ∨ m = 9 ∨ m = 10 ∨ m = 11 ∨ m = 12 by omega) with rfl | rfl | rfl | rfl | rfl | rfl | rfl | rfl | rfl | rfl | rfl | rfl | rfl <;> exact ⟨⟨by decide, by decide, rfl⟩, by decide, by decide, rfl⟩

theorem res_two {fn : Func} {p u : Tmp} (h : fn.results = #[.cell p 23, .tmp u]) (tmps : Array Value) (w : World) (g : Nat) (t : TypeId) (cs : Array Value) (fr : Nat × Nat) (b : Value)
    (hp : tmps.getD p undef = .pointer (some ⟨g, 0, none⟩)) (hu : tmps.getD u undef = b) (hg : w.heap[g]? = some (.cells cs t fr)) (hs : cs.size = 4) : (results fn tmps).run Tryd.prog w = .ok (.tuple #[.agg cs, b]) w := by
  rw [results_cell_tmp h, hp, hu]
  show ((loadVar 23 ⟨g, 0, none⟩).run Tryd.prog w).andThen (fun v w₂ => Result.ok (Value.tuple #[v, b]) w₂) = _
  rw [run_loadVar_row w g t 23 cs fr _ hg Tryd.underlying23 rfl (by rw [hs]; exact size23)]
  rfl

/-- What a call of Blend answers. -/
abbrev blendR (m : Int) (s d : Px) : Value := .tuple #[pv (outv m s d), .bool (mayv m s d)]
theorem outv_no {m : Int} {s d : Px} (h : mayv m s d = false) : outv m s d = ⟨0, 0, 0, 0⟩ := by unfold outv; rw [if_neg (by rw [h]; simp)]; rfl

/-- The three variables that Blend begins with. -/
theorem three_px (s d : Px) (w : World) : ∃ W : World, W = ((w.alloc (pblk s)).alloc (pblk d)).alloc (pblk ⟨0, 0, 0, 0⟩) ∧ W.heap[w.heap.size]? = some (pblk s) ∧ W.heap[w.heap.size + 1]? = some (pblk d) ∧ W.heap[w.heap.size + 1 + 1]? = some (pblk ⟨0, 0, 0, 0⟩) ∧ Below w.heap.size w W :=
  ⟨_, rfl, blk_alloc (blk_alloc (blk_new w _) _) _, blk_alloc (blk_new2 w _ _) _, by have := blk_new2 (w.alloc (pblk s)) (pblk d) (pblk ⟨0, 0, 0, 0⟩); simp only [World.size_alloc] at this; exact this, (((Below.refl _ w).alloc (Nat.le_refl _) _).alloc (by simp) _).alloc (by simp; omega) _⟩

set_option maxRecDepth 100000 in
set_option maxHeartbeats 1600000 in
theorem blend_out (m : Int) (s d : Px) (hm : m < 0 ∨ 28 ≤ m) (w : World) : Calls Tryd.prog 5 #[.int .i64 m, pv s, pv d] w fun e w' => e = .returned (blendR m s d) ∧ Below w.heap.size w w' := by
  have hF : mayv m s d = false := by unfold mayv; rcases hm with h | h <;> simp [show ¬ (0 ≤ m ∧ m < 28) by omega] <;> omega
  have HF : Hid (blendR m s d = .tuple #[pv ⟨0, 0, 0, 0⟩, .bool false]) := by show Value.tuple #[pv (outv m s d), .bool (mayv m s d)] = _; rw [outv_no hF, hF]
  clear hF
  obtain ⟨W, hW, g4, g5, g6, B⟩ := three_px s d w
  have HW : Hid (W = _) := hW
  rcases hm with hm | hm
  all_goals
    clear hW
    go_enter Tryd.func5, Tryd.ntmps5
    go_wp2
    rw [← HW.out]
    refine bodyPost_ret (res_two rfl _ _ _ _ _ _ (.bool false) rfl rfl g6 rfl) rfl ?_
    exact ⟨by rw [HF.out], B⟩

set_option maxRecDepth 100000 in
set_option maxHeartbeats 1600000 in
theorem blend_no1 (m : Int) (s d : Px) (hm : 0 ≤ m) (hm2 : m < 28) (hs : premv s = false) (w : World) : Calls Tryd.prog 5 #[.int .i64 m, pv s, pv d] w fun e w' => e = .returned (blendR m s d) ∧ Below w.heap.size w w' := by
  have hF : mayv m s d = false := by unfold mayv; rw [hs, Bool.and_false, Bool.false_and]
  have HF : Hid (blendR m s d = .tuple #[pv ⟨0, 0, 0, 0⟩, .bool false]) := by show Value.tuple #[pv (outv m s d), .bool (mayv m s d)] = _; rw [outv_no hF, hF]
  have A1 : ∀ W : World, Calls Tryd.prog 8 #[pv s] W fun e w' => e = .returned (.bool false) ∧ Below W.heap.size W w' := fun W => told (premultiplied_any s W) (by rw [hs])
  clear hF hs
  obtain ⟨W, hW, g4, g5, g6, B⟩ := three_px s d w
  have HW : Hid (W = _) := hW
  clear hW
  go_enter Tryd.func5, Tryd.ntmps5
  go_wp2_with fail
  rw [← HW.out]
  refine (A1 _).mono ?_
  rintro e W1 ⟨rfl, hb⟩
  replace g6 := Below.blk hb g6 (blk_lt g6)
  replace B := B.trans (hb.mono B.size)
  clear hb A1
  go_wp2_with (refine store_px g6 rfl _ _ ⟨0, 0, 0, 0⟩ (by rfl) (by rfl) (by rfl) (by rfl) ?_)
  refine bodyPost_ret (res_two rfl _ _ _ _ _ _ (.bool false) rfl rfl (setRow_heap _ _ _ _ _ _ g6) rfl) rfl ?_
  exact ⟨by rw [HF.out], below_row B (by omega) _⟩

set_option maxRecDepth 100000 in
set_option maxHeartbeats 1600000 in
theorem blend_no2 (m : Int) (s d : Px) (hm : 0 ≤ m) (hm2 : m < 28) (hs : premv s = true) (hd : premv d = false) (w : World) : Calls Tryd.prog 5 #[.int .i64 m, pv s, pv d] w fun e w' => e = .returned (blendR m s d) ∧ Below w.heap.size w w' := by
  have hF : mayv m s d = false := by unfold mayv; rw [hd, Bool.and_false]
  have HF : Hid (blendR m s d = .tuple #[pv ⟨0, 0, 0, 0⟩, .bool false]) := by show Value.tuple #[pv (outv m s d), .bool (mayv m s d)] = _; rw [outv_no hF, hF]
  have A1 : ∀ W : World, Calls Tryd.prog 8 #[pv s] W fun e w' => e = .returned (.bool true) ∧ Below W.heap.size W w' := fun W => told (premultiplied_any s W) (by rw [hs])
  have A2 : ∀ W : World, Calls Tryd.prog 8 #[pv d] W fun e w' => e = .returned (.bool false) ∧ Below W.heap.size W w' := fun W => told (premultiplied_any d W) (by rw [hd])
  clear hF hs hd
  obtain ⟨W, hW, g4, g5, g6, B⟩ := three_px s d w
  have HW : Hid (W = _) := hW
  clear hW
  go_enter Tryd.func5, Tryd.ntmps5
  go_wp2_with fail
  rw [← HW.out]
  refine (A1 _).mono ?_
  rintro e W1 ⟨rfl, hb⟩
  replace g5 := Below.blk hb g5 (blk_lt g5)
  replace g6 := Below.blk hb g6 (blk_lt g6)
  replace B := B.trans (hb.mono B.size)
  clear hb A1
  obtain ⟨q0, q1, q2, q3⟩ := px_cells g5
  go_wp2_with fail
  refine (A2 _).mono ?_
  rintro e W2 ⟨rfl, hb⟩
  clear q0 q1 q2 q3
  replace g6 := Below.blk hb g6 (blk_lt g6)
  replace B := B.trans (hb.mono B.size)
  clear hb A2
  go_wp2_with (refine store_px g6 rfl _ _ ⟨0, 0, 0, 0⟩ (by rfl) (by rfl) (by rfl) (by rfl) ?_)
  refine bodyPost_ret (res_two rfl _ _ _ _ _ _ (.bool false) rfl rfl (setRow_heap _ _ _ _ _ _ g6) rfl) rfl ?_
  exact ⟨by rw [HF.out], below_row B (by omega) _⟩

set_option maxRecDepth 100000 in
set_option maxHeartbeats 1600000 in
theorem blend_lo (m : Nat) (s d : Px) (hm : m < 13) (hs : Pm s) (hd : Pm d) (w : World) (hT : Tab w) : Calls Tryd.prog 5 #[.int .i64 (m : Nat), pv s, pv d] w fun e w' => e = .returned (blendR m s d) ∧ Below w.heap.size w w' := by
  obtain ⟨⟨k0, k1, k2⟩, l0, l1, l2⟩ := kinds hm s.a d.a
  have hF : mayv m s d = true := mayv_of (by omega) (by omega) hs hd
  have hO : outv m s d = weighv s d (facs m d.a) (facd m s.a) := by rw [outv_of (by omega) (by omega) hs hd]; exact if_pos (by omega)
  have A1 : ∀ W : World, Calls Tryd.prog 8 #[pv s] W fun e w' => e = .returned (.bool true) ∧ Below W.heap.size W w' := fun W => told (premultiplied_any s W) (by rw [(premv_iff s).2 hs])
  have A2 : ∀ W : World, Calls Tryd.prog 8 #[pv d] W fun e w' => e = .returned (.bool true) ∧ Below W.heap.size W w' := fun W => told (premultiplied_any d W) (by rw [(premv_iff d).2 hd])
  obtain ⟨K, hK⟩ : ∃ x, ksv m = x := ⟨_, rfl⟩
  obtain ⟨L, hL⟩ : ∃ x, kdv m = x := ⟨_, rfl⟩
  rw [hK] at k0 k1 k2
  rw [hL] at l0 l1 l2
  obtain ⟨f, hf⟩ : ∃ x, facs m d.a = x := ⟨_, rfl⟩
  obtain ⟨g, hg⟩ : ∃ x, facd m s.a = x := ⟨_, rfl⟩
  rw [hf] at k2 hO
  rw [hg] at l2 hO
  have A3 : ∀ W : World, Calls Tryd.prog 10 #[.int .i64 K, .int .i64 s.a, .int .i64 d.a] W fun e w' => e = .returned (.int .i64 f) ∧ w' = W := fun W => toldi (weight_any K s.a d.a k0 k1 hs.rt.a0 hs.rt.a1 hd.rt.a0 hd.rt.a1 W) (by rw [k2])
  have A4 : ∀ W : World, Calls Tryd.prog 10 #[.int .i64 L, .int .i64 s.a, .int .i64 d.a] W fun e w' => e = .returned (.int .i64 g) ∧ w' = W := fun W => toldi (weight_any L s.a d.a l0 l1 hs.rt.a0 hs.rt.a1 hd.rt.a0 hd.rt.a1 W) (by rw [l2])
  obtain ⟨r, hr⟩ : ∃ x, weighv s d f g = x := ⟨_, rfl⟩
  have A5 : ∀ W : World, Calls Tryd.prog 9 #[pv s, pv d, .int .i64 f, .int .i64 g] W fun e w' => e = .returned (pv r) ∧ Below W.heap.size W w' := fun W => by rw [← hr]; exact weighed_any s d f g W
  rw [hr] at hO
  have HF : Hid (blendR m s d = .tuple #[pv r, .bool true]) := by show Value.tuple #[pv (outv m s d), .bool (mayv m s d)] = _; rw [hO, hF]
  have hm0 : (0 : Int) ≤ m := by omega
  have hm1 : (m : Int) < 13 := by omega
  obtain ⟨W, hW, g4, g5, g6, B⟩ := three_px s d w
  have T0 := hT.on B
  have HW : Hid (W = _) := hW
  clear hW hF hO hr hf hg k0 k1 k2 l0 l1 l2 hs hd hT
  go_enter Tryd.func5, Tryd.ntmps5
  go_wp2_with fail
  rw [← HW.out]
  refine (A1 _).mono ?_
  rintro e W1 ⟨rfl, hb⟩
  have T1 := T0.on hb
  replace g4 := Below.blk hb g4 (blk_lt g4)
  replace g5 := Below.blk hb g5 (blk_lt g5)
  replace g6 := Below.blk hb g6 (blk_lt g6)
  replace B := B.trans (hb.mono B.size)
  clear hb A1 T0
  obtain ⟨q0, q1, q2, q3⟩ := px_cells g5
  go_wp2_with fail
  refine (A2 _).mono ?_
  rintro e W2 ⟨rfl, hb⟩
  clear q0 q1 q2 q3
  have T2 := T1.on hb
  replace g4 := Below.blk hb g4 (blk_lt g4)
  replace g5 := Below.blk hb g5 (blk_lt g5)
  replace g6 := Below.blk hb g6 (blk_lt g6)
  replace B := B.trans (hb.mono B.size)
  clear hb A2 T1
  obtain ⟨t0, t1⟩ := T2.cells hm
  rw [hK] at t0
  rw [hL] at t1
  have t0' : ∀ k : Ext W2, k.w.cell? ⟨0, m * 2, none⟩ = some (.int .i64 K) := Ext.cell t0
  have t1' : ∀ k : Ext W2, k.w.cell? ⟨0, m * 2 + 1, none⟩ = some (.int .i64 L) := Ext.cell t1
  clear hK hL t0 t1
  go_wp2_with fail
  obtain ⟨p0, p1, p2, p3⟩ := px_ext g4
  obtain ⟨q0, q1, q2, q3⟩ := px_ext g5
  have hin := Ext.inh W2
  refine region_ext_cone 21 (by kernel_rfl) (by kernel_rfl) ?_
  simp only [List.take_succ_cons, List.take_zero, List.drop_succ_cons, List.drop_zero]
  repeat (go_big_quiet_step (fail))
  go_big_quiet_step (first | (go_at_call 10; exact Ext.same (A3 _)))
  repeat (go_big_quiet_step (fail))
  go_big_quiet_step (first | (go_at_call 10; exact Ext.same (A4 _)))
  repeat (go_big_quiet_step (fail))
  go_big_quiet_step (first | (go_at_call 9; exact Ext.call (A5 _)))
  repeat (go_big_quiet_step (fail))
  refine wpQuiet_nil ?_
  rintro _ ⟨k, rfl⟩
  have b3 := B.trans (k.h.mono B.size)
  have g7 := Ext.blk g6 k
  go_wp2_with (refine store_px g7 rfl _ _ r (by rfl) (by rfl) (by rfl) (by rfl) ?_)
  refine bodyPost_ret (res_two rfl _ _ _ _ _ _ (.bool true) rfl rfl (setRow_heap _ _ _ _ _ _ g7) rfl) rfl ?_
  exact ⟨by rw [HF.out], below_row b3 (by omega) _⟩

set_option maxRecDepth 100000 in
set_option maxHeartbeats 1600000 in
theorem blend_hi (m : Int) (s d : Px) (hm : 13 ≤ m) (hm2 : m < 28) (hs : Pm s) (hd : Pm d) (w : World) : Calls Tryd.prog 5 #[.int .i64 m, pv s, pv d] w fun e w' => e = .returned (blendR m s d) ∧ Below w.heap.size w w' := by
  have hF : mayv m s d = true := mayv_of (by omega) (by omega) hs hd
  have hO : outv m s d = metv m s d := by rw [outv_of (by omega) (by omega) hs hd]; exact if_neg (by omega)
  have A1 : ∀ W : World, Calls Tryd.prog 8 #[pv s] W fun e w' => e = .returned (.bool true) ∧ Below W.heap.size W w' := fun W => told (premultiplied_any s W) (by rw [(premv_iff s).2 hs])
  have A2 : ∀ W : World, Calls Tryd.prog 8 #[pv d] W fun e w' => e = .returned (.bool true) ∧ Below W.heap.size W w' := fun W => told (premultiplied_any d W) (by rw [(premv_iff d).2 hd])
  obtain ⟨r, hr⟩ : ∃ x, metv m s d = x := ⟨_, rfl⟩
  have A5 : ∀ W : World, Calls Tryd.prog 11 #[.int .i64 m, pv s, pv d] W fun e w' => e = .returned (pv r) ∧ Below W.heap.size W w' := fun W => by rw [← hr]; exact met_any m s d hm hm2 hs hd W
  rw [hr] at hO
  have HF : Hid (blendR m s d = .tuple #[pv r, .bool true]) := by show Value.tuple #[pv (outv m s d), .bool (mayv m s d)] = _; rw [hO, hF]
  obtain ⟨W, hW, g4, g5, g6, B⟩ := three_px s d w
  have HW : Hid (W = _) := hW
  clear hW hF hO hr hs hd
  go_enter Tryd.func5, Tryd.ntmps5
  go_wp2_with fail
  rw [← HW.out]
  refine (A1 _).mono ?_
  rintro e W1 ⟨rfl, hb⟩
  replace g4 := Below.blk hb g4 (blk_lt g4)
  replace g5 := Below.blk hb g5 (blk_lt g5)
  replace g6 := Below.blk hb g6 (blk_lt g6)
  replace B := B.trans (hb.mono B.size)
  clear hb A1
  obtain ⟨q0, q1, q2, q3⟩ := px_cells g5
  go_wp2_with fail
  refine (A2 _).mono ?_
  rintro e W2 ⟨rfl, hb⟩
  clear q0 q1 q2 q3
  replace g4 := Below.blk hb g4 (blk_lt g4)
  replace g5 := Below.blk hb g5 (blk_lt g5)
  replace g6 := Below.blk hb g6 (blk_lt g6)
  replace B := B.trans (hb.mono B.size)
  clear hb A2
  obtain ⟨p0, p1, p2, p3⟩ := px_cells g4
  obtain ⟨q0, q1, q2, q3⟩ := px_cells g5
  go_wp2_with fail
  refine (A5 _).mono ?_
  rintro e W3 ⟨rfl, hb⟩
  clear p0 p1 p2 p3 q0 q1 q2 q3
  replace g6 := Below.blk hb g6 (blk_lt g6)
  replace B := B.trans (hb.mono B.size)
  clear hb A5
  go_wp2_with (refine store_px g6 rfl _ _ r (by rfl) (by rfl) (by rfl) (by rfl) ?_)
  refine bodyPost_ret (res_two rfl _ _ _ _ _ _ (.bool true) rfl rfl (setRow_heap _ _ _ _ _ _ g6) rfl) rfl ?_
  exact ⟨by rw [HF.out], below_row B (by omega) _⟩

theorem blend_any (m : Int) (s d : Px) (w : World) (hT : Tab w) : Calls Tryd.prog 5 #[.int .i64 m, pv s, pv d] w fun e w' => e = .returned (blendR m s d) ∧ Below w.heap.size w w' := by
  by_cases hm : m < 0 ∨ 28 ≤ m
  · exact blend_out m s d hm w
  cases hs : premv s with
  | false => exact blend_no1 m s d (by omega) (by omega) hs w
  | true =>
    cases hd : premv d with
    | false => exact blend_no2 m s d (by omega) (by omega) hs hd w
    | true =>
      by_cases h13 : m < 13
      · obtain ⟨n, rfl⟩ := Int.eq_ofNat_of_zero_le (show 0 ≤ m by omega)
        exact blend_lo n s d (by omega) ((premv_iff s).1 hs) ((premv_iff d).1 hd) w hT
      · exact blend_hi m s d (by omega) (by omega) ((premv_iff s).1 hs) ((premv_iff d).1 hd) w
end Go.Proofs.YtdaapanmalcgbabDoor
