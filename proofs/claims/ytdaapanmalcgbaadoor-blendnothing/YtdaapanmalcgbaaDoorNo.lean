/-
  BlendNothing's own walk.
-/
import Derived.Test.YtdaapanmalcgbaaDoorSa
namespace Go.Proofs.YtdaapanmalcgbaaDoor
open Go.RowKit

theorem idx36 : (∀ W, (Instr.index 36 (.agg #[.int .i64 1, .int .i64 2, .int .i64 3, .int .i64 4, .int .i64 5, .int .i64 6, .int .i64 7, .int .i64 8, .int .i64 9, .int .i64 10, .int .i64 11, .int .i64 11]) (.int .i64 0)).run Tryd.prog W = .ok (.agg #[.int .i64 1, .int .i64 2]) W) ∧ (∀ W, (Instr.index 36 (.agg #[.int .i64 1, .int .i64 2, .int .i64 3, .int .i64 4, .int .i64 5, .int .i64 6, .int .i64 7, .int .i64 8, .int .i64 9, .int .i64 10, .int .i64 11, .int .i64 11]) (.int .i64 1)).run Tryd.prog W = .ok (.agg #[.int .i64 3, .int .i64 4]) W) ∧ (∀ W, (Instr.index 36 (.agg #[.int .i64 1, .int .i64 2, .int .i64 3, .int .i64 4, .int .i64 5, .int .i64 6, .int .i64 7, .int .i64 8, .int .i64 9, .int .i64 10, .int .i64 11, .int .i64 11]) (.int .i64 2)).run Tryd.prog W = .ok (.agg #[.int .i64 5, .int .i64 6]) W) ∧ (∀ W, (Instr.index 36 (.agg #[.int .i64 1, .int .i64 2, .int .i64 3, .int .i64 4, .int .i64 5, .int .i64 6, .int .i64 7, .int .i64 8, .int .i64 9, .int .i64 10, .int .i64 11, .int .i64 11]) (.int .i64 3)).run Tryd.prog W = .ok (.agg #[.int .i64 7, .int .i64 8]) W) ∧ (∀ W, (Instr.index 36 (.agg #[.int .i64 1, .int .i64 2, .int .i64 3, .int .i64 4, .int .i64 5, .int .i64 6, .int .i64 7, .int .i64 8, .int .i64 9, .int .i64 10, .int .i64 11, .int .i64 11]) (.int .i64 4)).run Tryd.prog W = .ok (.agg #[.int .i64 9, .int .i64 10]) W) ∧ (∀ W, (Instr.index 36 (.agg #[.int .i64 1, .int .i64 2, .int .i64 3, .int .i64 4, .int .i64 5, .int .i64 6, .int .i64 7, .int .i64 8, .int .i64 9, .int .i64 10, .int .i64 11, .int .i64 11]) (.int .i64 5)).run Tryd.prog W = .ok (.agg #[.int .i64 11, .int .i64 11]) W) :=
  ⟨fun _ => by kernel_rfl, fun _ => by kernel_rfl, fun _ => by kernel_rfl, fun _ => by kernel_rfl, fun _ => by kernel_rfl, fun _ => by kernel_rfl⟩
/-- The three pixels of the walk. -/
structure Tri (w V : World) (gp gq gz : Nat) (p q : Px) : Prop where
  p : V.heap[gp]? = some (pblk p)
  q : V.heap[gq]? = some (pblk q)
  z : V.heap[gz]? = some (pblk ⟨0, 0, 0, 0⟩)
  B : Below w.heap.size w V
theorem Tri.on {w V V' : World} {gp gq gz : Nat} {p q : Px} (h : Tri w V gp gq gz p q) (hb : Below V.heap.size V V') : Tri w V' gp gq gz p q :=
  ⟨Below.blk hb h.p (blk_lt h.p), Below.blk hb h.q (blk_lt h.q), Below.blk hb h.z (blk_lt h.z), h.B.trans (hb.mono h.B.size)⟩
theorem Tri.alloc {w V : World} {gp gq gz : Nat} {p q : Px} (h : Tri w V gp gq gz p q) (o : Obj) : Tri w (V.alloc o) gp gq gz p q := h.on ((Below.refl _ V).alloc (Nat.le_refl _) o)

set_option maxRecDepth 100000 in
set_option maxHeartbeats 6400000 in
theorem blendNothing_walk (w : World) (mode a b : Int) (ha : Fits a) (hb : Fits b) (hT : Tab w) : Calls Tryd.prog 7 #[.int .i64 mode, .int .i64 a, .int .i64 b] w fun e w' => e = .returned (.bool true) ∧ Below w.heap.size w w' := by
  have hp := premulv_pm a
  have hq := premulv_pm b
  have A1 := premul_any a ha
  have A2 := premul_any b hb
  obtain ⟨p, hpe⟩ : ∃ x, premulv a = x := ⟨_, rfl⟩
  obtain ⟨q, hqe⟩ : ∃ x, premulv b = x := ⟨_, rfl⟩
  rw [hpe] at hp A1
  rw [hqe] at hq A2
  clear hpe hqe ha hb
  have Pk := pick_det mode 15 (by omega) (by omega)
  obtain ⟨K, hK⟩ : ∃ x, mode % 15 = x := ⟨_, rfl⟩
  rw [hK] at Pk
  have hK0 : 0 ≤ K := by omega
  have hK1 : K < 15 := by omega
  clear hK
  have hz : Pm ⟨0, 0, 0, 0⟩ := zpx_pm
  have XP : ∀ (W : World), Tab W → Calls Tryd.prog 9 #[.int .i64 (13 + K), pv p, pv ⟨0, 0, 0, 0⟩] W fun e w' => e = .returned (.tuple #[pv p, .bool true]) ∧ Below W.heap.size W w' := fun W h =>
    blend_yes (by omega) (by omega) hp hz (by rw [outv_of (by omega) (by omega) hp hz]; exact blend_upon (by omega) hp) W h
  have XQ : ∀ (W : World), Tab W → Calls Tryd.prog 9 #[.int .i64 (13 + K), pv ⟨0, 0, 0, 0⟩, pv q] W fun e w' => e = .returned (.tuple #[pv q, .bool true]) ∧ Below W.heap.size W w' := fun W h =>
    blend_yes (by omega) (by omega) hz hq (by rw [outv_of (by omega) (by omega) hz hq]; exact blend_of (by omega) hq) W h
  obtain ⟨e1, e3, e5, e7, e9, e11, _⟩ := blend_pairs p q
  obtain ⟨r1, hr1⟩ : ∃ x, outv 1 p q = x := ⟨_, rfl⟩
  have X1 := blend_yes (m := 1) (by omega) (by omega) hp hq hr1
  have Y1 := blend_yes (m := 2) (r := r1) (by omega) (by omega) hq hp (by rw [← hr1, outv_of (by omega) (by omega) hq hp, outv_of (by omega) (by omega) hp hq]; exact e1.symm)
  clear e1 hr1
  obtain ⟨r3, hr3⟩ : ∃ x, outv 3 p q = x := ⟨_, rfl⟩
  have X3 := blend_yes (m := 3) (by omega) (by omega) hp hq hr3
  have Y3 := blend_yes (m := 4) (r := r3) (by omega) (by omega) hq hp (by rw [← hr3, outv_of (by omega) (by omega) hq hp, outv_of (by omega) (by omega) hp hq]; exact e3.symm)
  clear e3 hr3
  obtain ⟨r5, hr5⟩ : ∃ x, outv 5 p q = x := ⟨_, rfl⟩
  have X5 := blend_yes (m := 5) (by omega) (by omega) hp hq hr5
  have Y5 := blend_yes (m := 6) (r := r5) (by omega) (by omega) hq hp (by rw [← hr5, outv_of (by omega) (by omega) hq hp, outv_of (by omega) (by omega) hp hq]; exact e5.symm)
  clear e5 hr5
  obtain ⟨r7, hr7⟩ : ∃ x, outv 7 p q = x := ⟨_, rfl⟩
  have X7 := blend_yes (m := 7) (by omega) (by omega) hp hq hr7
  have Y7 := blend_yes (m := 8) (r := r7) (by omega) (by omega) hq hp (by rw [← hr7, outv_of (by omega) (by omega) hq hp, outv_of (by omega) (by omega) hp hq]; exact e7.symm)
  clear e7 hr7
  obtain ⟨r9, hr9⟩ : ∃ x, outv 9 p q = x := ⟨_, rfl⟩
  have X9 := blend_yes (m := 9) (by omega) (by omega) hp hq hr9
  have Y9 := blend_yes (m := 10) (r := r9) (by omega) (by omega) hq hp (by rw [← hr9, outv_of (by omega) (by omega) hq hp, outv_of (by omega) (by omega) hp hq]; exact e9.symm)
  clear e9 hr9
  obtain ⟨r11, hr11⟩ : ∃ x, outv 11 p q = x := ⟨_, rfl⟩
  have X11 := blend_yes (m := 11) (by omega) (by omega) hp hq hr11
  have Y11 := blend_yes (m := 11) (r := r11) (by omega) (by omega) hq hp (by rw [← hr11, outv_of (by omega) (by omega) hq hp, outv_of (by omega) (by omega) hp hq]; exact e11.symm)
  clear e11 hr11
  clear hp hq hz
  obtain ⟨i0, i1, i2, i3, i4, i5⟩ := idx36
  go_enter Tryd.func7, Tryd.ntmps7
  go_wp2_with fail
  refine (A1 _).mono ?_
  rintro e w1 ⟨rfl, b1⟩
  go_wp2_with fail
  refine (A2 _).mono ?_
  rintro e w2 ⟨rfl, b2⟩
  have gp := Below.blk b2 (blk_new w1 (pblk p)) (by simp)
  have B := (b1.alloc b1.size (pblk p)).trans (b2.mono (by have := b1.size; simp; omega))
  have lp := blk_lt gp
  clear b1 b2 A1 A2
  go_wp2_with fail
  obtain ⟨V, hV⟩ : ∃ x, x = (w2.alloc (.cells #[.int .i64 q.r, .int .i64 q.g, .int .i64 q.b, .int .i64 q.a] 23)).alloc (.cells #[.int .i64 0, .int .i64 0, .int .i64 0, .int .i64 0] 23) := ⟨_, rfl⟩
  rw [← hV]
  have F : Tri w V w1.heap.size w2.heap.size (w2.heap.size + 1) p q := by rw [hV]; exact ⟨blk_alloc (blk_alloc gp _) _, blk_alloc (blk_new _ _) _, blk_new2 _ _ _, (B.alloc B.size _).alloc (by have := B.size; simp; omega) _⟩
  clear hV lp gp B
  refine (Pk _).mono ?_
  rintro e w' ⟨rfl, hw⟩
  obtain rfl := hw.symm
  obtain ⟨p0, p1, p2, p3⟩ := px_cells F.p
  obtain ⟨q0, q1, q2, q3⟩ := px_cells F.q
  obtain ⟨z0, z1, z2, z3⟩ := px_cells F.z
  go_wp2_with fail
  refine (XP _ (hT.on F.B)).mono ?_
  rintro e U ⟨rfl, b3⟩
  clear p0 p1 p2 p3 q0 q1 q2 q3 z0 z1 z2 z3
  replace F := (F.on b3).alloc (pblk p)
  obtain ⟨p0, p1, p2, p3⟩ := px_cells F.p
  obtain ⟨q0, q1, q2, q3⟩ := px_cells F.q
  obtain ⟨z0, z1, z2, z3⟩ := px_cells F.z
  go_wp2_with fail
  refine (XQ _ (hT.on F.B)).mono ?_
  rintro e Z ⟨rfl, b4⟩
  clear p0 p1 p2 p3 q0 q1 q2 q3 z0 z1 z2 z3
  have gx := blk_alloc (Below.blk b4 (blk_new U (pblk p)) (by simp)) (pblk q)
  have gy := blk_new Z (pblk q)
  replace F := (F.on b4).alloc (pblk q)
  go_wp2_with fail
  refine (known_any _ (hT.on F.B)).mono ?_
  rintro e C ⟨rfl, b5⟩
  replace gx := Below.blk b5 gx (blk_lt gx)
  replace gy := Below.blk b5 gy (blk_lt gy)
  replace F := F.on b5
  clear b3 b4 b5 XP XQ Pk hw
  obtain ⟨p0, p1, p2, p3⟩ := px_cells F.p
  obtain ⟨q0, q1, q2, q3⟩ := px_cells F.q
  obtain ⟨x0, x1, x2, x3⟩ := px_cells gx
  obtain ⟨y0, y1, y2, y3⟩ := px_cells gy
  go_wp2_with fail
  clear p0 p1 p2 p3 q0 q1 q2 q3 x0 x1 x2 x3 y0 y1 y2 y3 gx gy
  refine wp_loop_rounds 7 ?_
  rw [rounds_succ]
  replace F := F.alloc (.cells #[.int .i64 1, .int .i64 2] 35)
  obtain ⟨D0, hD⟩ : ∃ x, x = C.alloc (.cells #[.int .i64 1, .int .i64 2] 35) := ⟨_, rfl⟩
  have HD : Hid (D0 = C.alloc (.cells #[.int .i64 1, .int .i64 2] 35)) := hD
  have gd : D0.heap[C.heap.size]? = some (.cells #[.int .i64 1, .int .i64 2] 35) := by rw [hD]; exact blk_new _ _
  rw [← hD] at F
  clear hD
  obtain ⟨p0, p1, p2, p3⟩ := px_cells F.p
  obtain ⟨q0, q1, q2, q3⟩ := px_cells F.q
  have d0 := blk_cell gd 0
  have d1 := blk_cell gd 1
  go_wp2_with (rw [← HD.out])
  refine (X1 _ (hT.on F.B)).mono ?_
  rintro e U0 ⟨rfl, b3⟩
  clear p0 p1 p2 p3 q0 q1 q2 q3 d0 d1 HD
  replace F := (F.on b3).alloc (pblk r1)
  replace gd := blk_alloc (Below.blk b3 gd (blk_lt gd)) (pblk r1)
  obtain ⟨p0, p1, p2, p3⟩ := px_cells F.p
  obtain ⟨q0, q1, q2, q3⟩ := px_cells F.q
  have d0 := blk_cell gd 0
  have d1 := blk_cell gd 1
  go_wp2_with fail
  refine (Y1 _ (hT.on F.B)).mono ?_
  rintro e Z0 ⟨rfl, b4⟩
  clear p0 p1 p2 p3 q0 q1 q2 q3 d0 d1 gd
  have gx := blk_alloc (Below.blk b4 (blk_new U0 (pblk r1)) (by simp)) (pblk r1)
  have gy := blk_new Z0 (pblk r1)
  replace F := (F.on b4).alloc (pblk r1)
  obtain ⟨C0, hC⟩ : ∃ x, x = Z0.alloc (.cells #[.int .i64 r1.r, .int .i64 r1.g, .int .i64 r1.b, .int .i64 r1.a] 23) := ⟨_, rfl⟩
  have HC : Hid (C0 = Z0.alloc (.cells #[.int .i64 r1.r, .int .i64 r1.g, .int .i64 r1.b, .int .i64 r1.a] 23)) := hC
  rw [← hC] at F gx gy
  clear hC b3 b4 X1 Y1
  obtain ⟨x0, x1, x2, x3⟩ := px_cells gx
  obtain ⟨y0, y1, y2, y3⟩ := px_cells gy
  go_wp2_with (rw [← HC.out])
  clear x0 x1 x2 x3 y0 y1 y2 y3 gx gy HC
  rw [rounds_succ]
  replace F := F.alloc (.cells #[.int .i64 3, .int .i64 4] 35)
  obtain ⟨D1, hD⟩ : ∃ x, x = C0.alloc (.cells #[.int .i64 3, .int .i64 4] 35) := ⟨_, rfl⟩
  have HD : Hid (D1 = C0.alloc (.cells #[.int .i64 3, .int .i64 4] 35)) := hD
  have gd : D1.heap[C0.heap.size]? = some (.cells #[.int .i64 3, .int .i64 4] 35) := by rw [hD]; exact blk_new _ _
  rw [← hD] at F
  clear hD
  obtain ⟨p0, p1, p2, p3⟩ := px_cells F.p
  obtain ⟨q0, q1, q2, q3⟩ := px_cells F.q
  have d0 := blk_cell gd 0
  have d1 := blk_cell gd 1
  go_wp2_with (rw [← HD.out])
  refine (X3 _ (hT.on F.B)).mono ?_
  rintro e U1 ⟨rfl, b3⟩
  clear p0 p1 p2 p3 q0 q1 q2 q3 d0 d1 HD
  replace F := (F.on b3).alloc (pblk r3)
  replace gd := blk_alloc (Below.blk b3 gd (blk_lt gd)) (pblk r3)
  obtain ⟨p0, p1, p2, p3⟩ := px_cells F.p
  obtain ⟨q0, q1, q2, q3⟩ := px_cells F.q
  have d0 := blk_cell gd 0
  have d1 := blk_cell gd 1
  go_wp2_with fail
  refine (Y3 _ (hT.on F.B)).mono ?_
  rintro e Z1 ⟨rfl, b4⟩
  clear p0 p1 p2 p3 q0 q1 q2 q3 d0 d1 gd
  have gx := blk_alloc (Below.blk b4 (blk_new U1 (pblk r3)) (by simp)) (pblk r3)
  have gy := blk_new Z1 (pblk r3)
  replace F := (F.on b4).alloc (pblk r3)
  obtain ⟨C1, hC⟩ : ∃ x, x = Z1.alloc (.cells #[.int .i64 r3.r, .int .i64 r3.g, .int .i64 r3.b, .int .i64 r3.a] 23) := ⟨_, rfl⟩
  have HC : Hid (C1 = Z1.alloc (.cells #[.int .i64 r3.r, .int .i64 r3.g, .int .i64 r3.b, .int .i64 r3.a] 23)) := hC
  rw [← hC] at F gx gy
  clear hC b3 b4 X3 Y3
  obtain ⟨x0, x1, x2, x3⟩ := px_cells gx
  obtain ⟨y0, y1, y2, y3⟩ := px_cells gy
  go_wp2_with (rw [← HC.out])
  clear x0 x1 x2 x3 y0 y1 y2 y3 gx gy HC
  rw [rounds_succ]
  replace F := F.alloc (.cells #[.int .i64 5, .int .i64 6] 35)
  obtain ⟨D2, hD⟩ : ∃ x, x = C1.alloc (.cells #[.int .i64 5, .int .i64 6] 35) := ⟨_, rfl⟩
  have HD : Hid (D2 = C1.alloc (.cells #[.int .i64 5, .int .i64 6] 35)) := hD
  have gd : D2.heap[C1.heap.size]? = some (.cells #[.int .i64 5, .int .i64 6] 35) := by rw [hD]; exact blk_new _ _
  rw [← hD] at F
  clear hD
  obtain ⟨p0, p1, p2, p3⟩ := px_cells F.p
  obtain ⟨q0, q1, q2, q3⟩ := px_cells F.q
  have d0 := blk_cell gd 0
  have d1 := blk_cell gd 1
  go_wp2_with (rw [← HD.out])
  refine (X5 _ (hT.on F.B)).mono ?_
  rintro e U2 ⟨rfl, b3⟩
  clear p0 p1 p2 p3 q0 q1 q2 q3 d0 d1 HD
  replace F := (F.on b3).alloc (pblk r5)
  replace gd := blk_alloc (Below.blk b3 gd (blk_lt gd)) (pblk r5)
  obtain ⟨p0, p1, p2, p3⟩ := px_cells F.p
  obtain ⟨q0, q1, q2, q3⟩ := px_cells F.q
  have d0 := blk_cell gd 0
  have d1 := blk_cell gd 1
  go_wp2_with fail
  refine (Y5 _ (hT.on F.B)).mono ?_
  rintro e Z2 ⟨rfl, b4⟩
  clear p0 p1 p2 p3 q0 q1 q2 q3 d0 d1 gd
  have gx := blk_alloc (Below.blk b4 (blk_new U2 (pblk r5)) (by simp)) (pblk r5)
  have gy := blk_new Z2 (pblk r5)
  replace F := (F.on b4).alloc (pblk r5)
  obtain ⟨C2, hC⟩ : ∃ x, x = Z2.alloc (.cells #[.int .i64 r5.r, .int .i64 r5.g, .int .i64 r5.b, .int .i64 r5.a] 23) := ⟨_, rfl⟩
  have HC : Hid (C2 = Z2.alloc (.cells #[.int .i64 r5.r, .int .i64 r5.g, .int .i64 r5.b, .int .i64 r5.a] 23)) := hC
  rw [← hC] at F gx gy
  clear hC b3 b4 X5 Y5
  obtain ⟨x0, x1, x2, x3⟩ := px_cells gx
  obtain ⟨y0, y1, y2, y3⟩ := px_cells gy
  go_wp2_with (rw [← HC.out])
  clear x0 x1 x2 x3 y0 y1 y2 y3 gx gy HC
  rw [rounds_succ]
  replace F := F.alloc (.cells #[.int .i64 7, .int .i64 8] 35)
  obtain ⟨D3, hD⟩ : ∃ x, x = C2.alloc (.cells #[.int .i64 7, .int .i64 8] 35) := ⟨_, rfl⟩
  have HD : Hid (D3 = C2.alloc (.cells #[.int .i64 7, .int .i64 8] 35)) := hD
  have gd : D3.heap[C2.heap.size]? = some (.cells #[.int .i64 7, .int .i64 8] 35) := by rw [hD]; exact blk_new _ _
  rw [← hD] at F
  clear hD
  obtain ⟨p0, p1, p2, p3⟩ := px_cells F.p
  obtain ⟨q0, q1, q2, q3⟩ := px_cells F.q
  have d0 := blk_cell gd 0
  have d1 := blk_cell gd 1
  go_wp2_with (rw [← HD.out])
  refine (X7 _ (hT.on F.B)).mono ?_
  rintro e U3 ⟨rfl, b3⟩
  clear p0 p1 p2 p3 q0 q1 q2 q3 d0 d1 HD
  replace F := (F.on b3).alloc (pblk r7)
  replace gd := blk_alloc (Below.blk b3 gd (blk_lt gd)) (pblk r7)
  obtain ⟨p0, p1, p2, p3⟩ := px_cells F.p
  obtain ⟨q0, q1, q2, q3⟩ := px_cells F.q
  have d0 := blk_cell gd 0
  have d1 := blk_cell gd 1
  go_wp2_with fail
  refine (Y7 _ (hT.on F.B)).mono ?_
  rintro e Z3 ⟨rfl, b4⟩
  clear p0 p1 p2 p3 q0 q1 q2 q3 d0 d1 gd
  have gx := blk_alloc (Below.blk b4 (blk_new U3 (pblk r7)) (by simp)) (pblk r7)
  have gy := blk_new Z3 (pblk r7)
  replace F := (F.on b4).alloc (pblk r7)
  obtain ⟨C3, hC⟩ : ∃ x, x = Z3.alloc (.cells #[.int .i64 r7.r, .int .i64 r7.g, .int .i64 r7.b, .int .i64 r7.a] 23) := ⟨_, rfl⟩
  have HC : Hid (C3 = Z3.alloc (.cells #[.int .i64 r7.r, .int .i64 r7.g, .int .i64 r7.b, .int .i64 r7.a] 23)) := hC
  rw [← hC] at F gx gy
  clear hC b3 b4 X7 Y7
  obtain ⟨x0, x1, x2, x3⟩ := px_cells gx
  obtain ⟨y0, y1, y2, y3⟩ := px_cells gy
  go_wp2_with (rw [← HC.out])
  clear x0 x1 x2 x3 y0 y1 y2 y3 gx gy HC
  rw [rounds_succ]
  replace F := F.alloc (.cells #[.int .i64 9, .int .i64 10] 35)
  obtain ⟨D4, hD⟩ : ∃ x, x = C3.alloc (.cells #[.int .i64 9, .int .i64 10] 35) := ⟨_, rfl⟩
  have HD : Hid (D4 = C3.alloc (.cells #[.int .i64 9, .int .i64 10] 35)) := hD
  have gd : D4.heap[C3.heap.size]? = some (.cells #[.int .i64 9, .int .i64 10] 35) := by rw [hD]; exact blk_new _ _
  rw [← hD] at F
  clear hD
  obtain ⟨p0, p1, p2, p3⟩ := px_cells F.p
  obtain ⟨q0, q1, q2, q3⟩ := px_cells F.q
  have d0 := blk_cell gd 0
  have d1 := blk_cell gd 1
  go_wp2_with (rw [← HD.out])
  refine (X9 _ (hT.on F.B)).mono ?_
  rintro e U4 ⟨rfl, b3⟩
  clear p0 p1 p2 p3 q0 q1 q2 q3 d0 d1 HD
  replace F := (F.on b3).alloc (pblk r9)
  replace gd := blk_alloc (Below.blk b3 gd (blk_lt gd)) (pblk r9)
  obtain ⟨p0, p1, p2, p3⟩ := px_cells F.p
  obtain ⟨q0, q1, q2, q3⟩ := px_cells F.q
  have d0 := blk_cell gd 0
  have d1 := blk_cell gd 1
  go_wp2_with fail
  refine (Y9 _ (hT.on F.B)).mono ?_
  rintro e Z4 ⟨rfl, b4⟩
  clear p0 p1 p2 p3 q0 q1 q2 q3 d0 d1 gd
  have gx := blk_alloc (Below.blk b4 (blk_new U4 (pblk r9)) (by simp)) (pblk r9)
  have gy := blk_new Z4 (pblk r9)
  replace F := (F.on b4).alloc (pblk r9)
  obtain ⟨C4, hC⟩ : ∃ x, x = Z4.alloc (.cells #[.int .i64 r9.r, .int .i64 r9.g, .int .i64 r9.b, .int .i64 r9.a] 23) := ⟨_, rfl⟩
  have HC : Hid (C4 = Z4.alloc (.cells #[.int .i64 r9.r, .int .i64 r9.g, .int .i64 r9.b, .int .i64 r9.a] 23)) := hC
  rw [← hC] at F gx gy
  clear hC b3 b4 X9 Y9
  obtain ⟨x0, x1, x2, x3⟩ := px_cells gx
  obtain ⟨y0, y1, y2, y3⟩ := px_cells gy
  go_wp2_with (rw [← HC.out])
  clear x0 x1 x2 x3 y0 y1 y2 y3 gx gy HC
  rw [rounds_succ]
  replace F := F.alloc (.cells #[.int .i64 11, .int .i64 11] 35)
  obtain ⟨D5, hD⟩ : ∃ x, x = C4.alloc (.cells #[.int .i64 11, .int .i64 11] 35) := ⟨_, rfl⟩
  have HD : Hid (D5 = C4.alloc (.cells #[.int .i64 11, .int .i64 11] 35)) := hD
  have gd : D5.heap[C4.heap.size]? = some (.cells #[.int .i64 11, .int .i64 11] 35) := by rw [hD]; exact blk_new _ _
  rw [← hD] at F
  clear hD
  obtain ⟨p0, p1, p2, p3⟩ := px_cells F.p
  obtain ⟨q0, q1, q2, q3⟩ := px_cells F.q
  have d0 := blk_cell gd 0
  have d1 := blk_cell gd 1
  go_wp2_with (rw [← HD.out])
  refine (X11 _ (hT.on F.B)).mono ?_
  rintro e U5 ⟨rfl, b3⟩
  clear p0 p1 p2 p3 q0 q1 q2 q3 d0 d1 HD
  replace F := (F.on b3).alloc (pblk r11)
  replace gd := blk_alloc (Below.blk b3 gd (blk_lt gd)) (pblk r11)
  obtain ⟨p0, p1, p2, p3⟩ := px_cells F.p
  obtain ⟨q0, q1, q2, q3⟩ := px_cells F.q
  have d0 := blk_cell gd 0
  have d1 := blk_cell gd 1
  go_wp2_with fail
  refine (Y11 _ (hT.on F.B)).mono ?_
  rintro e Z5 ⟨rfl, b4⟩
  clear p0 p1 p2 p3 q0 q1 q2 q3 d0 d1 gd
  have gx := blk_alloc (Below.blk b4 (blk_new U5 (pblk r11)) (by simp)) (pblk r11)
  have gy := blk_new Z5 (pblk r11)
  replace F := (F.on b4).alloc (pblk r11)
  obtain ⟨C5, hC⟩ : ∃ x, x = Z5.alloc (.cells #[.int .i64 r11.r, .int .i64 r11.g, .int .i64 r11.b, .int .i64 r11.a] 23) := ⟨_, rfl⟩
  have HC : Hid (C5 = Z5.alloc (.cells #[.int .i64 r11.r, .int .i64 r11.g, .int .i64 r11.b, .int .i64 r11.a] 23)) := hC
  rw [← hC] at F gx gy
  clear hC b3 b4 X11 Y11
  obtain ⟨x0, x1, x2, x3⟩ := px_cells gx
  obtain ⟨y0, y1, y2, y3⟩ := px_cells gy
  go_wp2_with (rw [← HC.out])
  clear x0 x1 x2 x3 y0 y1 y2 y3 gx gy HC
  rw [rounds_succ]
  go_wp2_with fail
  go_ret
  exact ⟨rfl, F.B⟩
end Go.Proofs.YtdaapanmalcgbaaDoor
