/-
  BlendSame's own walk.
-/
import Derived.Test.YtdaapanmalcgbaaDoorAl
namespace Go.Proofs.YtdaapanmalcgbaaDoor
open Go.RowKit

theorem idx38 : (∀ W, (Instr.index 38 (.agg #[.int .i64 12, .int .i64 13, .int .i64 15, .int .i64 16, .int .i64 21, .int .i64 22, .int .i64 23]) (.int .i64 0)).run Tryd.prog W = .ok (.int .i64 12) W) ∧ (∀ W, (Instr.index 38 (.agg #[.int .i64 12, .int .i64 13, .int .i64 15, .int .i64 16, .int .i64 21, .int .i64 22, .int .i64 23]) (.int .i64 1)).run Tryd.prog W = .ok (.int .i64 13) W) ∧ (∀ W, (Instr.index 38 (.agg #[.int .i64 12, .int .i64 13, .int .i64 15, .int .i64 16, .int .i64 21, .int .i64 22, .int .i64 23]) (.int .i64 2)).run Tryd.prog W = .ok (.int .i64 15) W) ∧ (∀ W, (Instr.index 38 (.agg #[.int .i64 12, .int .i64 13, .int .i64 15, .int .i64 16, .int .i64 21, .int .i64 22, .int .i64 23]) (.int .i64 3)).run Tryd.prog W = .ok (.int .i64 16) W) ∧ (∀ W, (Instr.index 38 (.agg #[.int .i64 12, .int .i64 13, .int .i64 15, .int .i64 16, .int .i64 21, .int .i64 22, .int .i64 23]) (.int .i64 4)).run Tryd.prog W = .ok (.int .i64 21) W) ∧ (∀ W, (Instr.index 38 (.agg #[.int .i64 12, .int .i64 13, .int .i64 15, .int .i64 16, .int .i64 21, .int .i64 22, .int .i64 23]) (.int .i64 5)).run Tryd.prog W = .ok (.int .i64 22) W) ∧ (∀ W, (Instr.index 38 (.agg #[.int .i64 12, .int .i64 13, .int .i64 15, .int .i64 16, .int .i64 21, .int .i64 22, .int .i64 23]) (.int .i64 6)).run Tryd.prog W = .ok (.int .i64 23) W) :=
  ⟨fun _ => by kernel_rfl, fun _ => by kernel_rfl, fun _ => by kernel_rfl, fun _ => by kernel_rfl, fun _ => by kernel_rfl, fun _ => by kernel_rfl, fun _ => by kernel_rfl⟩
/-- How the two pixels stand in the walk's world. -/
structure Two (w V : World) (gp gq : Nat) (p q : Px) : Prop where
  p : V.heap[gp]? = some (pblk p)
  q : V.heap[gq]? = some (pblk q)
  B : Below w.heap.size w V
theorem Two.on {w V V' : World} {gp gq : Nat} {p q : Px} (h : Two w V gp gq p q) (hb : Below V.heap.size V V') : Two w V' gp gq p q :=
  ⟨Below.blk hb h.p (blk_lt h.p), Below.blk hb h.q (blk_lt h.q), h.B.trans (hb.mono h.B.size)⟩
theorem Two.alloc {w V : World} {gp gq : Nat} {p q : Px} (h : Two w V gp gq p q) (o : Obj) : Two w (V.alloc o) gp gq p q := h.on ((Below.refl _ V).alloc (Nat.le_refl _) o)

set_option maxRecDepth 100000 in
set_option maxHeartbeats 6400000 in
theorem blendSame_walk (w : World) (a b : Int) (ha : Fits a) (hb : Fits b) (hT : Tab w) : Calls Tryd.prog 8 #[.int .i64 a, .int .i64 b] w fun e w' => e = .returned (.bool true) ∧ Below w.heap.size w w' := by
  have hp := premulv_pm a
  have hq := premulv_pm b
  have A1 := premul_any a ha
  have A2 := premul_any b hb
  obtain ⟨p, hpe⟩ : ∃ x, premulv a = x := ⟨_, rfl⟩
  obtain ⟨q, hqe⟩ : ∃ x, premulv b = x := ⟨_, rfl⟩
  rw [hpe] at hp A1
  rw [hqe] at hq A2
  clear hpe hqe ha hb
  obtain ⟨e12, e13, e15, e16, e21, e22, e23, e14⟩ := blend_sames hp hq
  obtain ⟨r12, hr12⟩ : ∃ x, outv 12 p q = x := ⟨_, rfl⟩
  have X12 := blend_yes (m := 12) (by omega) (by omega) hp hq hr12
  have Y12 := blend_yes (m := 12) (r := r12) (by omega) (by omega) hq hp (by rw [← hr12, outv_of (by omega) (by omega) hq hp, outv_of (by omega) (by omega) hp hq]; exact e12.symm)
  clear e12 hr12
  obtain ⟨r13, hr13⟩ : ∃ x, outv 13 p q = x := ⟨_, rfl⟩
  have X13 := blend_yes (m := 13) (by omega) (by omega) hp hq hr13
  have Y13 := blend_yes (m := 13) (r := r13) (by omega) (by omega) hq hp (by rw [← hr13, outv_of (by omega) (by omega) hq hp, outv_of (by omega) (by omega) hp hq]; exact e13.symm)
  clear e13 hr13
  obtain ⟨r15, hr15⟩ : ∃ x, outv 15 p q = x := ⟨_, rfl⟩
  have X15 := blend_yes (m := 15) (by omega) (by omega) hp hq hr15
  have Y15 := blend_yes (m := 15) (r := r15) (by omega) (by omega) hq hp (by rw [← hr15, outv_of (by omega) (by omega) hq hp, outv_of (by omega) (by omega) hp hq]; exact e15.symm)
  clear e15 hr15
  obtain ⟨r16, hr16⟩ : ∃ x, outv 16 p q = x := ⟨_, rfl⟩
  have X16 := blend_yes (m := 16) (by omega) (by omega) hp hq hr16
  have Y16 := blend_yes (m := 16) (r := r16) (by omega) (by omega) hq hp (by rw [← hr16, outv_of (by omega) (by omega) hq hp, outv_of (by omega) (by omega) hp hq]; exact e16.symm)
  clear e16 hr16
  obtain ⟨r21, hr21⟩ : ∃ x, outv 21 p q = x := ⟨_, rfl⟩
  have X21 := blend_yes (m := 21) (by omega) (by omega) hp hq hr21
  have Y21 := blend_yes (m := 21) (r := r21) (by omega) (by omega) hq hp (by rw [← hr21, outv_of (by omega) (by omega) hq hp, outv_of (by omega) (by omega) hp hq]; exact e21.symm)
  clear e21 hr21
  obtain ⟨r22, hr22⟩ : ∃ x, outv 22 p q = x := ⟨_, rfl⟩
  have X22 := blend_yes (m := 22) (by omega) (by omega) hp hq hr22
  have Y22 := blend_yes (m := 22) (r := r22) (by omega) (by omega) hq hp (by rw [← hr22, outv_of (by omega) (by omega) hq hp, outv_of (by omega) (by omega) hp hq]; exact e22.symm)
  clear e22 hr22
  obtain ⟨r23, hr23⟩ : ∃ x, outv 23 p q = x := ⟨_, rfl⟩
  have X23 := blend_yes (m := 23) (by omega) (by omega) hp hq hr23
  have Y23 := blend_yes (m := 23) (r := r23) (by omega) (by omega) hq hp (by rw [← hr23, outv_of (by omega) (by omega) hq hp, outv_of (by omega) (by omega) hp hq]; exact e23.symm)
  clear e23 hr23
  obtain ⟨r, hr⟩ : ∃ x, outv 14 p q = x := ⟨_, rfl⟩
  have X14 := blend_yes (m := 14) (by omega) (by omega) hp hq hr
  have Y14 := blend_yes (m := 19) (r := r) (by omega) (by omega) hq hp (by rw [← hr, outv_of (by omega) (by omega) hq hp, outv_of (by omega) (by omega) hp hq]; exact e14.symm)
  clear e14 hr hp hq
  obtain ⟨i0, i1, i2, i3, i4, i5, i6⟩ := idx38
  go_enter Tryd.func8, Tryd.ntmps8
  go_wp2_with fail
  refine (A1 _).mono ?_
  rintro e w1 ⟨rfl, b1⟩
  go_wp2_with fail
  refine (A2 _).mono ?_
  rintro e w2 ⟨rfl, b2⟩
  have gp := Below.blk b2 (blk_new w1 (pblk p)) (by simp)
  have B := (b1.alloc b1.size (pblk p)).trans (b2.mono (by have := b1.size; simp; omega))
  have lp := blk_lt gp
  clear b1 b2 A1 A2
  go_wp2_with fail
  obtain ⟨V, hV⟩ : ∃ x, x = w2.alloc (.cells #[.int .i64 q.r, .int .i64 q.g, .int .i64 q.b, .int .i64 q.a] 23) := ⟨_, rfl⟩
  rw [← hV]
  have F : Two w V w1.heap.size w2.heap.size p q := by rw [hV]; exact ⟨blk_alloc gp _, blk_new _ _, B.alloc B.size _⟩
  clear hV lp gp B
  refine wp_loop_rounds 8 ?_
  rw [rounds_succ]
  obtain ⟨p0, p1, p2, p3⟩ := px_cells F.p
  obtain ⟨q0, q1, q2, q3⟩ := px_cells F.q
  go_wp2_with fail
  refine (X12 _ (hT.on F.B)).mono ?_
  rintro e U0 ⟨rfl, b3⟩
  clear p0 p1 p2 p3 q0 q1 q2 q3
  replace F := (F.on b3).alloc (pblk r12)
  obtain ⟨p0, p1, p2, p3⟩ := px_cells F.p
  obtain ⟨q0, q1, q2, q3⟩ := px_cells F.q
  go_wp2_with fail
  refine (Y12 _ (hT.on F.B)).mono ?_
  rintro e Z0 ⟨rfl, b4⟩
  clear p0 p1 p2 p3 q0 q1 q2 q3
  have gx := blk_alloc (Below.blk b4 (blk_new U0 (pblk r12)) (by simp)) (pblk r12)
  have gy := blk_new Z0 (pblk r12)
  replace F := (F.on b4).alloc (pblk r12)
  have lx := blk_lt (Below.blk b4 (blk_new U0 (pblk r12)) (by simp))
  obtain ⟨C0, hC⟩ : ∃ x, x = Z0.alloc (.cells #[.int .i64 r12.r, .int .i64 r12.g, .int .i64 r12.b, .int .i64 r12.a] 23) := ⟨_, rfl⟩
  have HC : Hid (C0 = Z0.alloc (.cells #[.int .i64 r12.r, .int .i64 r12.g, .int .i64 r12.b, .int .i64 r12.a] 23)) := hC
  rw [← hC] at F gx gy
  clear hC b3 b4 X12 Y12
  obtain ⟨x0, x1, x2, x3⟩ := px_cells gx
  obtain ⟨y0, y1, y2, y3⟩ := px_cells gy
  go_wp2_with (rw [← HC.out])
  refine (near_same r12.r _).mono ?_
  rintro e w' ⟨rfl, hw⟩
  obtain rfl := hw.symm
  go_wp2_with fail
  refine (near_same r12.g _).mono ?_
  rintro e w' ⟨rfl, hw⟩
  obtain rfl := hw.symm
  go_wp2_with fail
  refine (near_same r12.b _).mono ?_
  rintro e w' ⟨rfl, hw⟩
  obtain rfl := hw.symm
  go_wp2_with fail
  refine (near_same r12.a _).mono ?_
  rintro e w' ⟨rfl, hw⟩
  obtain rfl := hw.symm
  go_wp2_with fail
  clear x0 x1 x2 x3 y0 y1 y2 y3 gx gy HC lx hw
  rw [rounds_succ]
  obtain ⟨p0, p1, p2, p3⟩ := px_cells F.p
  obtain ⟨q0, q1, q2, q3⟩ := px_cells F.q
  go_wp2_with fail
  refine (X13 _ (hT.on F.B)).mono ?_
  rintro e U1 ⟨rfl, b3⟩
  clear p0 p1 p2 p3 q0 q1 q2 q3
  replace F := (F.on b3).alloc (pblk r13)
  obtain ⟨p0, p1, p2, p3⟩ := px_cells F.p
  obtain ⟨q0, q1, q2, q3⟩ := px_cells F.q
  go_wp2_with fail
  refine (Y13 _ (hT.on F.B)).mono ?_
  rintro e Z1 ⟨rfl, b4⟩
  clear p0 p1 p2 p3 q0 q1 q2 q3
  have gx := blk_alloc (Below.blk b4 (blk_new U1 (pblk r13)) (by simp)) (pblk r13)
  have gy := blk_new Z1 (pblk r13)
  replace F := (F.on b4).alloc (pblk r13)
  have lx := blk_lt (Below.blk b4 (blk_new U1 (pblk r13)) (by simp))
  obtain ⟨C1, hC⟩ : ∃ x, x = Z1.alloc (.cells #[.int .i64 r13.r, .int .i64 r13.g, .int .i64 r13.b, .int .i64 r13.a] 23) := ⟨_, rfl⟩
  have HC : Hid (C1 = Z1.alloc (.cells #[.int .i64 r13.r, .int .i64 r13.g, .int .i64 r13.b, .int .i64 r13.a] 23)) := hC
  rw [← hC] at F gx gy
  clear hC b3 b4 X13 Y13
  obtain ⟨x0, x1, x2, x3⟩ := px_cells gx
  obtain ⟨y0, y1, y2, y3⟩ := px_cells gy
  go_wp2_with (rw [← HC.out])
  refine (near_same r13.r _).mono ?_
  rintro e w' ⟨rfl, hw⟩
  obtain rfl := hw.symm
  go_wp2_with fail
  refine (near_same r13.g _).mono ?_
  rintro e w' ⟨rfl, hw⟩
  obtain rfl := hw.symm
  go_wp2_with fail
  refine (near_same r13.b _).mono ?_
  rintro e w' ⟨rfl, hw⟩
  obtain rfl := hw.symm
  go_wp2_with fail
  refine (near_same r13.a _).mono ?_
  rintro e w' ⟨rfl, hw⟩
  obtain rfl := hw.symm
  go_wp2_with fail
  clear x0 x1 x2 x3 y0 y1 y2 y3 gx gy HC lx hw
  rw [rounds_succ]
  obtain ⟨p0, p1, p2, p3⟩ := px_cells F.p
  obtain ⟨q0, q1, q2, q3⟩ := px_cells F.q
  go_wp2_with fail
  refine (X15 _ (hT.on F.B)).mono ?_
  rintro e U2 ⟨rfl, b3⟩
  clear p0 p1 p2 p3 q0 q1 q2 q3
  replace F := (F.on b3).alloc (pblk r15)
  obtain ⟨p0, p1, p2, p3⟩ := px_cells F.p
  obtain ⟨q0, q1, q2, q3⟩ := px_cells F.q
  go_wp2_with fail
  refine (Y15 _ (hT.on F.B)).mono ?_
  rintro e Z2 ⟨rfl, b4⟩
  clear p0 p1 p2 p3 q0 q1 q2 q3
  have gx := blk_alloc (Below.blk b4 (blk_new U2 (pblk r15)) (by simp)) (pblk r15)
  have gy := blk_new Z2 (pblk r15)
  replace F := (F.on b4).alloc (pblk r15)
  have lx := blk_lt (Below.blk b4 (blk_new U2 (pblk r15)) (by simp))
  obtain ⟨C2, hC⟩ : ∃ x, x = Z2.alloc (.cells #[.int .i64 r15.r, .int .i64 r15.g, .int .i64 r15.b, .int .i64 r15.a] 23) := ⟨_, rfl⟩
  have HC : Hid (C2 = Z2.alloc (.cells #[.int .i64 r15.r, .int .i64 r15.g, .int .i64 r15.b, .int .i64 r15.a] 23)) := hC
  rw [← hC] at F gx gy
  clear hC b3 b4 X15 Y15
  obtain ⟨x0, x1, x2, x3⟩ := px_cells gx
  obtain ⟨y0, y1, y2, y3⟩ := px_cells gy
  go_wp2_with (rw [← HC.out])
  refine (near_same r15.r _).mono ?_
  rintro e w' ⟨rfl, hw⟩
  obtain rfl := hw.symm
  go_wp2_with fail
  refine (near_same r15.g _).mono ?_
  rintro e w' ⟨rfl, hw⟩
  obtain rfl := hw.symm
  go_wp2_with fail
  refine (near_same r15.b _).mono ?_
  rintro e w' ⟨rfl, hw⟩
  obtain rfl := hw.symm
  go_wp2_with fail
  refine (near_same r15.a _).mono ?_
  rintro e w' ⟨rfl, hw⟩
  obtain rfl := hw.symm
  go_wp2_with fail
  clear x0 x1 x2 x3 y0 y1 y2 y3 gx gy HC lx hw
  rw [rounds_succ]
  obtain ⟨p0, p1, p2, p3⟩ := px_cells F.p
  obtain ⟨q0, q1, q2, q3⟩ := px_cells F.q
  go_wp2_with fail
  refine (X16 _ (hT.on F.B)).mono ?_
  rintro e U3 ⟨rfl, b3⟩
  clear p0 p1 p2 p3 q0 q1 q2 q3
  replace F := (F.on b3).alloc (pblk r16)
  obtain ⟨p0, p1, p2, p3⟩ := px_cells F.p
  obtain ⟨q0, q1, q2, q3⟩ := px_cells F.q
  go_wp2_with fail
  refine (Y16 _ (hT.on F.B)).mono ?_
  rintro e Z3 ⟨rfl, b4⟩
  clear p0 p1 p2 p3 q0 q1 q2 q3
  have gx := blk_alloc (Below.blk b4 (blk_new U3 (pblk r16)) (by simp)) (pblk r16)
  have gy := blk_new Z3 (pblk r16)
  replace F := (F.on b4).alloc (pblk r16)
  have lx := blk_lt (Below.blk b4 (blk_new U3 (pblk r16)) (by simp))
  obtain ⟨C3, hC⟩ : ∃ x, x = Z3.alloc (.cells #[.int .i64 r16.r, .int .i64 r16.g, .int .i64 r16.b, .int .i64 r16.a] 23) := ⟨_, rfl⟩
  have HC : Hid (C3 = Z3.alloc (.cells #[.int .i64 r16.r, .int .i64 r16.g, .int .i64 r16.b, .int .i64 r16.a] 23)) := hC
  rw [← hC] at F gx gy
  clear hC b3 b4 X16 Y16
  obtain ⟨x0, x1, x2, x3⟩ := px_cells gx
  obtain ⟨y0, y1, y2, y3⟩ := px_cells gy
  go_wp2_with (rw [← HC.out])
  refine (near_same r16.r _).mono ?_
  rintro e w' ⟨rfl, hw⟩
  obtain rfl := hw.symm
  go_wp2_with fail
  refine (near_same r16.g _).mono ?_
  rintro e w' ⟨rfl, hw⟩
  obtain rfl := hw.symm
  go_wp2_with fail
  refine (near_same r16.b _).mono ?_
  rintro e w' ⟨rfl, hw⟩
  obtain rfl := hw.symm
  go_wp2_with fail
  refine (near_same r16.a _).mono ?_
  rintro e w' ⟨rfl, hw⟩
  obtain rfl := hw.symm
  go_wp2_with fail
  clear x0 x1 x2 x3 y0 y1 y2 y3 gx gy HC lx hw
  rw [rounds_succ]
  obtain ⟨p0, p1, p2, p3⟩ := px_cells F.p
  obtain ⟨q0, q1, q2, q3⟩ := px_cells F.q
  go_wp2_with fail
  refine (X21 _ (hT.on F.B)).mono ?_
  rintro e U4 ⟨rfl, b3⟩
  clear p0 p1 p2 p3 q0 q1 q2 q3
  replace F := (F.on b3).alloc (pblk r21)
  obtain ⟨p0, p1, p2, p3⟩ := px_cells F.p
  obtain ⟨q0, q1, q2, q3⟩ := px_cells F.q
  go_wp2_with fail
  refine (Y21 _ (hT.on F.B)).mono ?_
  rintro e Z4 ⟨rfl, b4⟩
  clear p0 p1 p2 p3 q0 q1 q2 q3
  have gx := blk_alloc (Below.blk b4 (blk_new U4 (pblk r21)) (by simp)) (pblk r21)
  have gy := blk_new Z4 (pblk r21)
  replace F := (F.on b4).alloc (pblk r21)
  have lx := blk_lt (Below.blk b4 (blk_new U4 (pblk r21)) (by simp))
  obtain ⟨C4, hC⟩ : ∃ x, x = Z4.alloc (.cells #[.int .i64 r21.r, .int .i64 r21.g, .int .i64 r21.b, .int .i64 r21.a] 23) := ⟨_, rfl⟩
  have HC : Hid (C4 = Z4.alloc (.cells #[.int .i64 r21.r, .int .i64 r21.g, .int .i64 r21.b, .int .i64 r21.a] 23)) := hC
  rw [← hC] at F gx gy
  clear hC b3 b4 X21 Y21
  obtain ⟨x0, x1, x2, x3⟩ := px_cells gx
  obtain ⟨y0, y1, y2, y3⟩ := px_cells gy
  go_wp2_with (rw [← HC.out])
  refine (near_same r21.r _).mono ?_
  rintro e w' ⟨rfl, hw⟩
  obtain rfl := hw.symm
  go_wp2_with fail
  refine (near_same r21.g _).mono ?_
  rintro e w' ⟨rfl, hw⟩
  obtain rfl := hw.symm
  go_wp2_with fail
  refine (near_same r21.b _).mono ?_
  rintro e w' ⟨rfl, hw⟩
  obtain rfl := hw.symm
  go_wp2_with fail
  refine (near_same r21.a _).mono ?_
  rintro e w' ⟨rfl, hw⟩
  obtain rfl := hw.symm
  go_wp2_with fail
  clear x0 x1 x2 x3 y0 y1 y2 y3 gx gy HC lx hw
  rw [rounds_succ]
  obtain ⟨p0, p1, p2, p3⟩ := px_cells F.p
  obtain ⟨q0, q1, q2, q3⟩ := px_cells F.q
  go_wp2_with fail
  refine (X22 _ (hT.on F.B)).mono ?_
  rintro e U5 ⟨rfl, b3⟩
  clear p0 p1 p2 p3 q0 q1 q2 q3
  replace F := (F.on b3).alloc (pblk r22)
  obtain ⟨p0, p1, p2, p3⟩ := px_cells F.p
  obtain ⟨q0, q1, q2, q3⟩ := px_cells F.q
  go_wp2_with fail
  refine (Y22 _ (hT.on F.B)).mono ?_
  rintro e Z5 ⟨rfl, b4⟩
  clear p0 p1 p2 p3 q0 q1 q2 q3
  have gx := blk_alloc (Below.blk b4 (blk_new U5 (pblk r22)) (by simp)) (pblk r22)
  have gy := blk_new Z5 (pblk r22)
  replace F := (F.on b4).alloc (pblk r22)
  have lx := blk_lt (Below.blk b4 (blk_new U5 (pblk r22)) (by simp))
  obtain ⟨C5, hC⟩ : ∃ x, x = Z5.alloc (.cells #[.int .i64 r22.r, .int .i64 r22.g, .int .i64 r22.b, .int .i64 r22.a] 23) := ⟨_, rfl⟩
  have HC : Hid (C5 = Z5.alloc (.cells #[.int .i64 r22.r, .int .i64 r22.g, .int .i64 r22.b, .int .i64 r22.a] 23)) := hC
  rw [← hC] at F gx gy
  clear hC b3 b4 X22 Y22
  obtain ⟨x0, x1, x2, x3⟩ := px_cells gx
  obtain ⟨y0, y1, y2, y3⟩ := px_cells gy
  go_wp2_with (rw [← HC.out])
  refine (near_same r22.r _).mono ?_
  rintro e w' ⟨rfl, hw⟩
  obtain rfl := hw.symm
  go_wp2_with fail
  refine (near_same r22.g _).mono ?_
  rintro e w' ⟨rfl, hw⟩
  obtain rfl := hw.symm
  go_wp2_with fail
  refine (near_same r22.b _).mono ?_
  rintro e w' ⟨rfl, hw⟩
  obtain rfl := hw.symm
  go_wp2_with fail
  refine (near_same r22.a _).mono ?_
  rintro e w' ⟨rfl, hw⟩
  obtain rfl := hw.symm
  go_wp2_with fail
  clear x0 x1 x2 x3 y0 y1 y2 y3 gx gy HC lx hw
  rw [rounds_succ]
  obtain ⟨p0, p1, p2, p3⟩ := px_cells F.p
  obtain ⟨q0, q1, q2, q3⟩ := px_cells F.q
  go_wp2_with fail
  refine (X23 _ (hT.on F.B)).mono ?_
  rintro e U6 ⟨rfl, b3⟩
  clear p0 p1 p2 p3 q0 q1 q2 q3
  replace F := (F.on b3).alloc (pblk r23)
  obtain ⟨p0, p1, p2, p3⟩ := px_cells F.p
  obtain ⟨q0, q1, q2, q3⟩ := px_cells F.q
  go_wp2_with fail
  refine (Y23 _ (hT.on F.B)).mono ?_
  rintro e Z6 ⟨rfl, b4⟩
  clear p0 p1 p2 p3 q0 q1 q2 q3
  have gx := blk_alloc (Below.blk b4 (blk_new U6 (pblk r23)) (by simp)) (pblk r23)
  have gy := blk_new Z6 (pblk r23)
  replace F := (F.on b4).alloc (pblk r23)
  have lx := blk_lt (Below.blk b4 (blk_new U6 (pblk r23)) (by simp))
  obtain ⟨C6, hC⟩ : ∃ x, x = Z6.alloc (.cells #[.int .i64 r23.r, .int .i64 r23.g, .int .i64 r23.b, .int .i64 r23.a] 23) := ⟨_, rfl⟩
  have HC : Hid (C6 = Z6.alloc (.cells #[.int .i64 r23.r, .int .i64 r23.g, .int .i64 r23.b, .int .i64 r23.a] 23)) := hC
  rw [← hC] at F gx gy
  clear hC b3 b4 X23 Y23
  obtain ⟨x0, x1, x2, x3⟩ := px_cells gx
  obtain ⟨y0, y1, y2, y3⟩ := px_cells gy
  go_wp2_with (rw [← HC.out])
  refine (near_same r23.r _).mono ?_
  rintro e w' ⟨rfl, hw⟩
  obtain rfl := hw.symm
  go_wp2_with fail
  refine (near_same r23.g _).mono ?_
  rintro e w' ⟨rfl, hw⟩
  obtain rfl := hw.symm
  go_wp2_with fail
  refine (near_same r23.b _).mono ?_
  rintro e w' ⟨rfl, hw⟩
  obtain rfl := hw.symm
  go_wp2_with fail
  refine (near_same r23.a _).mono ?_
  rintro e w' ⟨rfl, hw⟩
  obtain rfl := hw.symm
  go_wp2_with fail
  clear x0 x1 x2 x3 y0 y1 y2 y3 gx gy HC lx hw
  rw [rounds_succ]
  obtain ⟨p0, p1, p2, p3⟩ := px_cells F.p
  obtain ⟨q0, q1, q2, q3⟩ := px_cells F.q
  go_wp2_with fail
  refine (X14 _ (hT.on F.B)).mono ?_
  rintro e U9 ⟨rfl, b3⟩
  clear p0 p1 p2 p3 q0 q1 q2 q3
  replace F := (F.on b3).alloc (pblk r)
  obtain ⟨p0, p1, p2, p3⟩ := px_cells F.p
  obtain ⟨q0, q1, q2, q3⟩ := px_cells F.q
  go_wp2_with fail
  refine (Y14 _ (hT.on F.B)).mono ?_
  rintro e Z9 ⟨rfl, b4⟩
  clear p0 p1 p2 p3 q0 q1 q2 q3
  have gx := blk_alloc (Below.blk b4 (blk_new U9 (pblk r)) (by simp)) (pblk r)
  have gy := blk_new Z9 (pblk r)
  replace F := (F.on b4).alloc (pblk r)
  have lx := blk_lt (Below.blk b4 (blk_new U9 (pblk r)) (by simp))
  obtain ⟨C9, hC⟩ : ∃ x, x = Z9.alloc (.cells #[.int .i64 r.r, .int .i64 r.g, .int .i64 r.b, .int .i64 r.a] 23) := ⟨_, rfl⟩
  have HC : Hid (C9 = Z9.alloc (.cells #[.int .i64 r.r, .int .i64 r.g, .int .i64 r.b, .int .i64 r.a] 23)) := hC
  rw [← hC] at F gx gy
  clear hC b3 b4 X14 Y14
  go_wp2_with (rw [← HC.out])
  refine (known_any _ (hT.on F.B)).mono ?_
  rintro e w5 ⟨rfl, b5⟩
  replace gx := Below.blk b5 gx (blk_lt gx)
  replace gy := Below.blk b5 gy (blk_lt gy)
  have B := F.B.trans (b5.mono F.B.size)
  clear b5 HC lx
  obtain ⟨x0, x1, x2, x3⟩ := px_cells gx
  obtain ⟨y0, y1, y2, y3⟩ := px_cells gy
  go_wp2_with fail
  refine (near_same r.r _).mono ?_
  rintro e w' ⟨rfl, hw⟩
  obtain rfl := hw.symm
  go_wp2_with fail
  refine (near_same r.g _).mono ?_
  rintro e w' ⟨rfl, hw⟩
  obtain rfl := hw.symm
  go_wp2_with fail
  refine (near_same r.b _).mono ?_
  rintro e w' ⟨rfl, hw⟩
  obtain rfl := hw.symm
  go_wp2_with fail
  go_ret
  exact ⟨rfl, B⟩
end Go.Proofs.YtdaapanmalcgbaaDoor
