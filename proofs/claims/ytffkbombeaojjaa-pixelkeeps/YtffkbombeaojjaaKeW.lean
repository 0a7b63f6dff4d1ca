/-
  PixelKeeps' own walk.
-/
import Derived.Test.YtffkbombeaojjaaKno
import Derived.Test.YtffkbombeaojjaaSeg
namespace Go.Proofs.Ytffkbombeaojjaa
open Go.RowKit

set_option maxRecDepth 100000 in
set_option maxHeartbeats 6400000 in
theorem pixelKeeps_walk (a b n t : Int) (l : Px) (ha : Fits a) (hb : Fits b) (w : World) : Calls Try.prog 5 #[.int .i64 a, .int .i64 b, .int .i64 n, .int .i64 t, pv l] w fun e w' => e = .returned (.bool true) ∧ Below w.heap.size w w' := by
  have hPm := premulv_pm a
  have hQm := premulv_pm b
  obtain ⟨P, hP⟩ : ∃ P, premulv a = P := ⟨_, rfl⟩
  obtain ⟨Q, hQ⟩ : ∃ P, premulv b = P := ⟨_, rfl⟩
  obtain ⟨S, hS⟩ : ∃ P, anyv l false = P := ⟨_, rfl⟩
  rw [hP] at hPm
  rw [hQ] at hQm
  have AP : ∀ W : World, Calls Try.prog 28 #[.int .i64 a] W fun r w' => r = .returned (pv P) ∧ Below W.heap.size W w' := fun W => by rw [← hP]; exact premul_any a ha W
  have AQ : ∀ W : World, Calls Try.prog 28 #[.int .i64 b] W fun r w' => r = .returned (pv Q) ∧ Below W.heap.size W w' := fun W => by rw [← hQ]; exact premul_any b hb W
  have AS : ∀ W : World, Calls Try.prog 17 #[pv l, .bool false] W fun r w' => r = .returned (pv S) ∧ Below W.heap.size W w' := fun W => by rw [← hS]; exact any_any l false W
  clear hP hQ hS
  obtain ⟨nn, hn⟩ : ∃ x, n % 256 = x := ⟨_, rfl⟩
  obtain ⟨tt, ht⟩ : ∃ x, t % 65537 = x := ⟨_, rfl⟩
  have HN : Hid (n % 256 = nn) := hn
  have HT : Hid (t % 65537 = tt) := ht
  clear hn ht
  have hF : Rt ⟨P.r, P.g, P.b, 255⟩ := ⟨hPm.rt.r0, hPm.rt.r1, hPm.rt.g0, hPm.rt.g1, hPm.rt.b0, hPm.rt.b1, by show (0 : Int) ≤ 255; omega, by show (255 : Int) ≤ 255; omega⟩
  have K0 : ∀ W : World, Calls Try.prog 10 #[pv P] W fun e w' => e = .returned (.bool true) ∧ Below W.heap.size W w' := fun W => told (premultiplied_any P W) (by rw [(premv_iff P).2 hPm])
  obtain ⟨X1, hX1⟩ : ∃ x, overv P Q = x := ⟨_, rfl⟩
  have K1 : ∀ W : World, Calls Try.prog 11 #[pv P, pv Q] W fun e w' => e = .returned (pv X1) ∧ Below W.heap.size W w' := fun W => by rw [← hX1]; exact over_any P Q W
  have K1p : ∀ W : World, Calls Try.prog 10 #[pv X1] W fun e w' => e = .returned (.bool true) ∧ Below W.heap.size W w' := fun W => told (premultiplied_any X1 W) (by rw [(premv_iff X1).2 (hX1 ▸ overv_pm hPm hQm)])
  obtain ⟨X2, hX2⟩ : ∃ x, mixpv P Q tt = x := ⟨_, rfl⟩
  have K2 : ∀ W : World, Calls Try.prog 12 #[pv P, pv Q, .int .i64 tt] W fun e w' => e = .returned (pv X2) ∧ Below W.heap.size W w' := fun W => by rw [← hX2]; exact mixp_any P Q tt W
  have K2p : ∀ W : World, Calls Try.prog 10 #[pv X2] W fun e w' => e = .returned (.bool true) ∧ Below W.heap.size W w' := fun W => told (premultiplied_any X2 W) (by rw [(premv_iff X2).2 (hX2 ▸ mixpv_pm hPm hQm tt)])
  obtain ⟨X3, hX3⟩ : ∃ x, scalev P nn = x := ⟨_, rfl⟩
  have K3 : ∀ W : World, Calls Try.prog 13 #[pv P, .int .i64 nn] W fun e w' => e = .returned (pv X3) ∧ Below W.heap.size W w' := fun W => by rw [← hX3]; exact scale_any P nn W
  have K3p : ∀ W : World, Calls Try.prog 10 #[pv X3] W fun e w' => e = .returned (.bool true) ∧ Below W.heap.size W w' := fun W => told (premultiplied_any X3 W) (by rw [(premv_iff X3).2 (hX3 ▸ scalev_pm hPm nn)])
  obtain ⟨X4, hX4⟩ : ∃ x, prev S = x := ⟨_, rfl⟩
  have K4 : ∀ W : World, Calls Try.prog 16 #[pv S] W fun e w' => e = .returned (pv X4) ∧ Below W.heap.size W w' := fun W => by rw [← hX4]; exact pre_any S W
  have K4p : ∀ W : World, Calls Try.prog 10 #[pv X4] W fun e w' => e = .returned (.bool true) ∧ Below W.heap.size W w' := fun W => told (premultiplied_any X4 W) (by rw [(premv_iff X4).2 (hX4 ▸ prev_pm S)])
  have K5 : ∀ W : World, Calls Try.prog 11 #[pv ⟨P.r, P.g, P.b, 255⟩, pv Q] W fun e w' => e = .returned (pv ⟨P.r, P.g, P.b, 255⟩) ∧ Below W.heap.size W w' := fun W => told (over_any ⟨P.r, P.g, P.b, 255⟩ Q W) (by rw [over_full hF rfl])
  have K6 : ∀ W : World, Calls Try.prog 11 #[pv ⟨0, 0, 0, 0⟩, pv Q] W fun e w' => e = .returned (pv Q) ∧ Below W.heap.size W w' := fun W => told (over_any zpx Q W) (by rw [over_none hQm.rt])
  have K7 : ∀ W : World, Calls Try.prog 11 #[pv P, pv ⟨0, 0, 0, 0⟩] W fun e w' => e = .returned (pv P) ∧ Below W.heap.size W w' := fun W => told (over_any P zpx W) (by rw [over_zero hPm.rt])
  have K8 : ∀ W : World, Calls Try.prog 12 #[pv P, pv Q, .int .i64 0] W fun e w' => e = .returned (pv P) ∧ Below W.heap.size W w' := fun W => told (mixp_any P Q 0 W) (by rw [mix_0 hPm.rt])
  have K9 : ∀ W : World, Calls Try.prog 12 #[pv P, pv Q, .int .i64 65536] W fun e w' => e = .returned (pv Q) ∧ Below W.heap.size W w' := fun W => told (mixp_any P Q 65536 W) (by rw [mix_1 hQm.rt])
  have Ka : ∀ W : World, Calls Try.prog 13 #[pv P, .int .i64 255] W fun e w' => e = .returned (pv P) ∧ Below W.heap.size W w' := fun W => told (scale_any P 255 W) (by rw [scale_255 hPm.rt])
  have Kb : ∀ W : World, Calls Try.prog 13 #[pv P, .int .i64 0] W fun e w' => e = .returned (pv ⟨0, 0, 0, 0⟩) ∧ Below W.heap.size W w' := fun W => told (scale_any P 0 W) (by rw [scale_0]; rfl)
  clear hX1 hX2 hX3 hX4 hF hPm hQm
  go_enter Try.func5, Try.ntmps5
  go_wp2_with fail
  refine (AP _).mono ?_
  rintro e w1 ⟨rfl, b1⟩
  have gl := Below.blk b1 (blk_new w (.cells (pcs l) 34)) (by simp)
  have B1 : Below w.heap.size w w1 := ((Below.refl _ w).alloc (Nat.le_refl _) (.cells (pcs l) 34)).trans (b1.mono (by simp))
  clear b1
  go_wp2_with fail
  refine (AQ _).mono ?_
  rintro e w2 ⟨rfl, b2⟩
  have gp := Below.blk b2 (blk_new w1 (pblk P)) (by simp)
  replace gl := Below.blk b2 (blk_alloc gl (pblk P)) (by have := blk_lt gl; simp; omega)
  have B2 := (B1.alloc B1.size (pblk P)).trans (b2.mono (by have := B1.size; simp; omega))
  clear b2 B1
  go_wp2_with fail
  refine (pick_det n 256 (by omega) (by omega) _).mono ?_
  rintro e w' ⟨rfl, rfl⟩
  rw [HN.out]
  go_wp2_with fail
  refine (pick_det t 65537 (by omega) (by omega) _).mono ?_
  rintro e w' ⟨rfl, rfl⟩
  rw [HT.out]
  obtain ⟨c0, c1, c2, c3⟩ := px_cells (blk_alloc gl (pblk Q))
  go_wp2_with fail
  clear c0 c1 c2 c3
  refine (AS _).mono ?_
  rintro e w3 ⟨rfl, b3⟩
  have gq := Below.blk b3 (blk_new w2 (pblk Q)) (by simp)
  replace gp := Below.blk b3 (blk_alloc gp (pblk Q)) (by have := blk_lt gp; simp; omega)
  have B3 := (B2.alloc B2.size (pblk Q)).trans (b3.mono (by have := B2.size; simp; omega))
  clear b3 B2 gl
  obtain ⟨c0, c1, c2, c3⟩ := px_cells (blk_alloc gp (pblk S))
  go_wp2_with fail
  clear c0 c1 c2 c3
  obtain ⟨V, hV⟩ : ∃ x, x = (w3.alloc (.cells #[.int .i64 S.r, .int .i64 S.g, .int .i64 S.b, .int .i64 S.a] 23)).alloc (.cells #[.int .i64 P.r, .int .i64 P.g, .int .i64 P.b, .int .i64 255] 23) := ⟨_, rfl⟩
  rw [← hV]
  have BV : Below w.heap.size w V := by rw [hV]; exact (B3.alloc B3.size _).alloc (by have := B3.size; simp; omega) _
  have kp : V.heap[w1.heap.size]? = some (pblk P) := by rw [hV]; exact blk_alloc (blk_alloc gp _) _
  have kq : V.heap[w2.heap.size]? = some (pblk Q) := by rw [hV]; exact blk_alloc (blk_alloc gq _) _
  have ks : V.heap[w3.heap.size]? = some (pblk S) := by rw [hV]; exact blk_alloc (blk_new _ _) _
  have kf : V.heap[w3.heap.size + 1]? = some (pblk ⟨P.r, P.g, P.b, 255⟩) := by rw [hV]; have := blk_new (w3.alloc (pblk S)) (pblk ⟨P.r, P.g, P.b, 255⟩); simp only [World.size_alloc] at this; exact this
  clear hV gp gq B3 AP AQ AS
  have p0 : ∀ w', Below V.heap.size V w' → w'.cell? ⟨w1.heap.size, 0, none⟩ = some (.int .i64 P.r) := fun w' h => (px_cells (Below.blk h kp (blk_lt kp))).1
  have p1 : ∀ w', Below V.heap.size V w' → w'.cell? ⟨w1.heap.size, 1, none⟩ = some (.int .i64 P.g) := fun w' h => (px_cells (Below.blk h kp (blk_lt kp))).2.1
  have p2 : ∀ w', Below V.heap.size V w' → w'.cell? ⟨w1.heap.size, 2, none⟩ = some (.int .i64 P.b) := fun w' h => (px_cells (Below.blk h kp (blk_lt kp))).2.2.1
  have p3 : ∀ w', Below V.heap.size V w' → w'.cell? ⟨w1.heap.size, 3, none⟩ = some (.int .i64 P.a) := fun w' h => (px_cells (Below.blk h kp (blk_lt kp))).2.2.2
  have q0 : ∀ w', Below V.heap.size V w' → w'.cell? ⟨w2.heap.size, 0, none⟩ = some (.int .i64 Q.r) := fun w' h => (px_cells (Below.blk h kq (blk_lt kq))).1
  have q1 : ∀ w', Below V.heap.size V w' → w'.cell? ⟨w2.heap.size, 1, none⟩ = some (.int .i64 Q.g) := fun w' h => (px_cells (Below.blk h kq (blk_lt kq))).2.1
  have q2 : ∀ w', Below V.heap.size V w' → w'.cell? ⟨w2.heap.size, 2, none⟩ = some (.int .i64 Q.b) := fun w' h => (px_cells (Below.blk h kq (blk_lt kq))).2.2.1
  have q3 : ∀ w', Below V.heap.size V w' → w'.cell? ⟨w2.heap.size, 3, none⟩ = some (.int .i64 Q.a) := fun w' h => (px_cells (Below.blk h kq (blk_lt kq))).2.2.2
  have s0 : ∀ w', Below V.heap.size V w' → w'.cell? ⟨w3.heap.size, 0, none⟩ = some (.int .i64 S.r) := fun w' h => (px_cells (Below.blk h ks (blk_lt ks))).1
  have s1 : ∀ w', Below V.heap.size V w' → w'.cell? ⟨w3.heap.size, 1, none⟩ = some (.int .i64 S.g) := fun w' h => (px_cells (Below.blk h ks (blk_lt ks))).2.1
  have s2 : ∀ w', Below V.heap.size V w' → w'.cell? ⟨w3.heap.size, 2, none⟩ = some (.int .i64 S.b) := fun w' h => (px_cells (Below.blk h ks (blk_lt ks))).2.2.1
  have s3 : ∀ w', Below V.heap.size V w' → w'.cell? ⟨w3.heap.size, 3, none⟩ = some (.int .i64 S.a) := fun w' h => (px_cells (Below.blk h ks (blk_lt ks))).2.2.2
  have f0 : ∀ w', Below V.heap.size V w' → w'.cell? ⟨w3.heap.size + 1, 0, none⟩ = some (.int .i64 P.r) := fun w' h => (px_cells (p := ⟨P.r, P.g, P.b, 255⟩) (Below.blk h kf (blk_lt kf))).1
  have f1 : ∀ w', Below V.heap.size V w' → w'.cell? ⟨w3.heap.size + 1, 1, none⟩ = some (.int .i64 P.g) := fun w' h => (px_cells (p := ⟨P.r, P.g, P.b, 255⟩) (Below.blk h kf (blk_lt kf))).2.1
  have f2 : ∀ w', Below V.heap.size V w' → w'.cell? ⟨w3.heap.size + 1, 2, none⟩ = some (.int .i64 P.b) := fun w' h => (px_cells (p := ⟨P.r, P.g, P.b, 255⟩) (Below.blk h kf (blk_lt kf))).2.2.1
  have f3 : ∀ w', Below V.heap.size V w' → w'.cell? ⟨w3.heap.size + 1, 3, none⟩ = some (.int .i64 255) := fun w' h => (px_cells (p := ⟨P.r, P.g, P.b, 255⟩) (Below.blk h kf (blk_lt kf))).2.2.2
  clear kp kq ks kf
  refine region_segs [2, 5, 7, 8, 7, 6, 8, 8, 8, 8, 8, 7] [
    [{ dst := some 27, op := Op.call { callee := Callee.value (Operand.func 7), args := #[], argTypes := #[] }, type := 4, pos := "law.go:51", after := #[], guard := none },
     { dst := some 28, op := Op.move (Operand.tmp 27), type := 4, pos := "law.go:51", after := #[{ on := 0, ground := Ground.data }, { on := 0, ground := Ground.chain }], guard := none }],
    [{ dst := some 28, op := Op.move (Operand.tmp 27), type := 4, pos := "law.go:51", after := #[], guard := none },
     { dst := some 29, op := Op.load 23 (Operand.tmp 11), type := 23, pos := "law.go:51", after := #[{ on := 0, ground := Ground.guard }], guard := some (0, true) },
     { dst := some 30, op := Op.call { callee := Callee.value (Operand.func 10), args := #[Operand.tmp 29], argTypes := #[23] }, type := 4, pos := "law.go:51", after := #[{ on := 1, ground := Ground.data }, { on := 0, ground := Ground.chain }, { on := 0, ground := Ground.guard }], guard := some (0, true) },
     { dst := some 31, op := Op.pick (Operand.tmp 28) (Operand.tmp 30) (Operand.const (Value.bool false)), type := 4, pos := "law.go:51", after := #[{ on := 0, ground := Ground.data }, { on := 2, ground := Ground.data }], guard := none },
     { dst := some 32, op := Op.move (Operand.tmp 31), type := 4, pos := "law.go:51", after := #[{ on := 3, ground := Ground.data }, { on := 2, ground := Ground.chain }], guard := none }],
    [{ dst := some 32, op := Op.move (Operand.tmp 31), type := 4, pos := "law.go:51", after := #[], guard := none },
     { dst := some 33, op := Op.load 23 (Operand.tmp 11), type := 23, pos := "law.go:51", after := #[{ on := 0, ground := Ground.guard }], guard := some (0, true) },
     { dst := some 34, op := Op.load 23 (Operand.tmp 12), type := 23, pos := "law.go:51", after := #[{ on := 0, ground := Ground.guard }], guard := some (0, true) },
     { dst := some 35, op := Op.call { callee := Callee.value (Operand.func 11), args := #[Operand.tmp 33, Operand.tmp 34], argTypes := #[23, 23] }, type := 23, pos := "law.go:51", after := #[{ on := 1, ground := Ground.data }, { on := 2, ground := Ground.data }, { on := 0, ground := Ground.chain }, { on := 0, ground := Ground.guard }], guard := some (0, true) },
     { dst := some 36, op := Op.call { callee := Callee.value (Operand.func 10), args := #[Operand.tmp 35], argTypes := #[23] }, type := 4, pos := "law.go:51", after := #[{ on := 3, ground := Ground.data }, { on := 3, ground := Ground.chain }, { on := 0, ground := Ground.guard }], guard := some (0, true) },
     { dst := some 37, op := Op.pick (Operand.tmp 32) (Operand.tmp 36) (Operand.const (Value.bool false)), type := 4, pos := "law.go:51", after := #[{ on := 0, ground := Ground.data }, { on := 4, ground := Ground.data }], guard := none },
     { dst := some 38, op := Op.move (Operand.tmp 37), type := 4, pos := "law.go:51", after := #[{ on := 5, ground := Ground.data }, { on := 4, ground := Ground.chain }], guard := none }],
    [{ dst := some 38, op := Op.move (Operand.tmp 37), type := 4, pos := "law.go:51", after := #[], guard := none },
     { dst := some 39, op := Op.load 23 (Operand.tmp 11), type := 23, pos := "law.go:51", after := #[{ on := 0, ground := Ground.guard }], guard := some (0, true) },
     { dst := some 40, op := Op.load 23 (Operand.tmp 12), type := 23, pos := "law.go:51", after := #[{ on := 0, ground := Ground.guard }], guard := some (0, true) },
     { dst := some 41, op := Op.move (Operand.tmp 3), type := 3, pos := "law.go:51", after := #[{ on := 0, ground := Ground.guard }], guard := some (0, true) },
     { dst := some 42, op := Op.call { callee := Callee.value (Operand.func 12), args := #[Operand.tmp 39, Operand.tmp 40, Operand.tmp 41], argTypes := #[23, 23, 3] }, type := 23, pos := "law.go:51", after := #[{ on := 1, ground := Ground.data }, { on := 2, ground := Ground.data }, { on := 3, ground := Ground.data }, { on := 0, ground := Ground.chain }, { on := 0, ground := Ground.guard }], guard := some (0, true) },
     { dst := some 43, op := Op.call { callee := Callee.value (Operand.func 10), args := #[Operand.tmp 42], argTypes := #[23] }, type := 4, pos := "law.go:51", after := #[{ on := 4, ground := Ground.data }, { on := 4, ground := Ground.chain }, { on := 0, ground := Ground.guard }], guard := some (0, true) },
     { dst := some 44, op := Op.pick (Operand.tmp 38) (Operand.tmp 43) (Operand.const (Value.bool false)), type := 4, pos := "law.go:51", after := #[{ on := 0, ground := Ground.data }, { on := 5, ground := Ground.data }], guard := none },
     { dst := some 45, op := Op.move (Operand.tmp 44), type := 4, pos := "law.go:51", after := #[{ on := 6, ground := Ground.data }, { on := 5, ground := Ground.chain }], guard := none }],
    [{ dst := some 45, op := Op.move (Operand.tmp 44), type := 4, pos := "law.go:51", after := #[], guard := none },
     { dst := some 46, op := Op.load 23 (Operand.tmp 11), type := 23, pos := "law.go:51", after := #[{ on := 0, ground := Ground.guard }], guard := some (0, true) },
     { dst := some 47, op := Op.move (Operand.tmp 2), type := 3, pos := "law.go:51", after := #[{ on := 0, ground := Ground.guard }], guard := some (0, true) },
     { dst := some 48, op := Op.call { callee := Callee.value (Operand.func 13), args := #[Operand.tmp 46, Operand.tmp 47], argTypes := #[23, 3] }, type := 23, pos := "law.go:51", after := #[{ on := 1, ground := Ground.data }, { on := 2, ground := Ground.data }, { on := 0, ground := Ground.chain }, { on := 0, ground := Ground.guard }], guard := some (0, true) },
     { dst := some 49, op := Op.call { callee := Callee.value (Operand.func 10), args := #[Operand.tmp 48], argTypes := #[23] }, type := 4, pos := "law.go:51", after := #[{ on := 3, ground := Ground.data }, { on := 3, ground := Ground.chain }, { on := 0, ground := Ground.guard }], guard := some (0, true) },
     { dst := some 50, op := Op.pick (Operand.tmp 45) (Operand.tmp 49) (Operand.const (Value.bool false)), type := 4, pos := "law.go:51", after := #[{ on := 0, ground := Ground.data }, { on := 4, ground := Ground.data }], guard := none },
     { dst := some 51, op := Op.move (Operand.tmp 50), type := 4, pos := "law.go:51", after := #[{ on := 5, ground := Ground.data }, { on := 4, ground := Ground.chain }], guard := none }],
    [{ dst := some 51, op := Op.move (Operand.tmp 50), type := 4, pos := "law.go:51", after := #[], guard := none },
     { dst := some 52, op := Op.load 23 (Operand.tmp 13), type := 23, pos := "law.go:51", after := #[{ on := 0, ground := Ground.guard }], guard := some (0, true) },
     { dst := some 53, op := Op.call { callee := Callee.value (Operand.func 16), args := #[Operand.tmp 52], argTypes := #[23] }, type := 23, pos := "law.go:51", after := #[{ on := 1, ground := Ground.data }, { on := 0, ground := Ground.chain }, { on := 0, ground := Ground.guard }], guard := some (0, true) },
     { dst := some 54, op := Op.call { callee := Callee.value (Operand.func 10), args := #[Operand.tmp 53], argTypes := #[23] }, type := 4, pos := "law.go:51", after := #[{ on := 2, ground := Ground.data }, { on := 2, ground := Ground.chain }, { on := 0, ground := Ground.guard }], guard := some (0, true) },
     { dst := some 55, op := Op.pick (Operand.tmp 51) (Operand.tmp 54) (Operand.const (Value.bool false)), type := 4, pos := "law.go:51", after := #[{ on := 0, ground := Ground.data }, { on := 3, ground := Ground.data }], guard := none },
     { dst := some 56, op := Op.move (Operand.tmp 55), type := 4, pos := "law.go:51", after := #[{ on := 4, ground := Ground.data }, { on := 3, ground := Ground.chain }], guard := none }],
    [{ dst := some 56, op := Op.move (Operand.tmp 55), type := 4, pos := "law.go:51", after := #[], guard := none },
     { dst := some 57, op := Op.load 23 (Operand.tmp 14), type := 23, pos := "law.go:51", after := #[{ on := 0, ground := Ground.guard }], guard := some (0, true) },
     { dst := some 58, op := Op.load 23 (Operand.tmp 12), type := 23, pos := "law.go:51", after := #[{ on := 0, ground := Ground.guard }], guard := some (0, true) },
     { dst := some 59, op := Op.call { callee := Callee.value (Operand.func 11), args := #[Operand.tmp 57, Operand.tmp 58], argTypes := #[23, 23] }, type := 23, pos := "law.go:51", after := #[{ on := 1, ground := Ground.data }, { on := 2, ground := Ground.data }, { on := 0, ground := Ground.chain }, { on := 0, ground := Ground.guard }], guard := some (0, true) },
     { dst := some 60, op := Op.load 23 (Operand.tmp 14), type := 23, pos := "law.go:51", after := #[{ on := 0, ground := Ground.guard }], guard := some (0, true) },
     { dst := some 61, op := Op.binOp BinOp.eql 23 (Operand.tmp 59) (Operand.tmp 60) 23, type := 4, pos := "law.go:51", after := #[{ on := 3, ground := Ground.data }, { on := 4, ground := Ground.data }, { on := 0, ground := Ground.guard }], guard := some (0, true) },
     { dst := some 62, op := Op.pick (Operand.tmp 56) (Operand.tmp 61) (Operand.const (Value.bool false)), type := 4, pos := "law.go:51", after := #[{ on := 0, ground := Ground.data }, { on := 5, ground := Ground.data }], guard := none },
     { dst := some 63, op := Op.move (Operand.tmp 62), type := 4, pos := "law.go:51", after := #[{ on := 6, ground := Ground.data }, { on := 3, ground := Ground.chain }], guard := none }],
    [{ dst := some 63, op := Op.move (Operand.tmp 62), type := 4, pos := "law.go:51", after := #[], guard := none },
     { dst := some 64, op := Op.build 23 #[], type := 23, pos := "law.go:51", after := #[{ on := 0, ground := Ground.guard }], guard := some (0, true) },
     { dst := some 65, op := Op.load 23 (Operand.tmp 12), type := 23, pos := "law.go:51", after := #[{ on := 0, ground := Ground.guard }], guard := some (0, true) },
     { dst := some 66, op := Op.call { callee := Callee.value (Operand.func 11), args := #[Operand.tmp 64, Operand.tmp 65], argTypes := #[23, 23] }, type := 23, pos := "law.go:51", after := #[{ on := 1, ground := Ground.data }, { on := 2, ground := Ground.data }, { on := 0, ground := Ground.chain }, { on := 0, ground := Ground.guard }], guard := some (0, true) },
     { dst := some 67, op := Op.load 23 (Operand.tmp 12), type := 23, pos := "law.go:51", after := #[{ on := 0, ground := Ground.guard }], guard := some (0, true) },
     { dst := some 68, op := Op.binOp BinOp.eql 23 (Operand.tmp 66) (Operand.tmp 67) 23, type := 4, pos := "law.go:51", after := #[{ on := 3, ground := Ground.data }, { on := 4, ground := Ground.data }, { on := 0, ground := Ground.guard }], guard := some (0, true) },
     { dst := some 69, op := Op.pick (Operand.tmp 63) (Operand.tmp 68) (Operand.const (Value.bool false)), type := 4, pos := "law.go:51", after := #[{ on := 0, ground := Ground.data }, { on := 5, ground := Ground.data }], guard := none },
     { dst := some 70, op := Op.move (Operand.tmp 69), type := 4, pos := "law.go:51", after := #[{ on := 6, ground := Ground.data }, { on := 3, ground := Ground.chain }], guard := none }],
    [{ dst := some 70, op := Op.move (Operand.tmp 69), type := 4, pos := "law.go:51", after := #[], guard := none },
     { dst := some 71, op := Op.load 23 (Operand.tmp 11), type := 23, pos := "law.go:51", after := #[{ on := 0, ground := Ground.guard }], guard := some (0, true) },
     { dst := some 72, op := Op.build 23 #[], type := 23, pos := "law.go:51", after := #[{ on := 0, ground := Ground.guard }], guard := some (0, true) },
     { dst := some 73, op := Op.call { callee := Callee.value (Operand.func 11), args := #[Operand.tmp 71, Operand.tmp 72], argTypes := #[23, 23] }, type := 23, pos := "law.go:51", after := #[{ on := 1, ground := Ground.data }, { on := 2, ground := Ground.data }, { on := 0, ground := Ground.chain }, { on := 0, ground := Ground.guard }], guard := some (0, true) },
     { dst := some 74, op := Op.load 23 (Operand.tmp 11), type := 23, pos := "law.go:51", after := #[{ on := 0, ground := Ground.guard }], guard := some (0, true) },
     { dst := some 75, op := Op.binOp BinOp.eql 23 (Operand.tmp 73) (Operand.tmp 74) 23, type := 4, pos := "law.go:51", after := #[{ on := 3, ground := Ground.data }, { on := 4, ground := Ground.data }, { on := 0, ground := Ground.guard }], guard := some (0, true) },
     { dst := some 76, op := Op.pick (Operand.tmp 70) (Operand.tmp 75) (Operand.const (Value.bool false)), type := 4, pos := "law.go:51", after := #[{ on := 0, ground := Ground.data }, { on := 5, ground := Ground.data }], guard := none },
     { dst := some 77, op := Op.move (Operand.tmp 76), type := 4, pos := "law.go:51", after := #[{ on := 6, ground := Ground.data }, { on := 3, ground := Ground.chain }], guard := none }],
    [{ dst := some 77, op := Op.move (Operand.tmp 76), type := 4, pos := "law.go:51", after := #[], guard := none },
     { dst := some 78, op := Op.load 23 (Operand.tmp 11), type := 23, pos := "law.go:51", after := #[{ on := 0, ground := Ground.guard }], guard := some (0, true) },
     { dst := some 79, op := Op.load 23 (Operand.tmp 12), type := 23, pos := "law.go:51", after := #[{ on := 0, ground := Ground.guard }], guard := some (0, true) },
     { dst := some 80, op := Op.call { callee := Callee.value (Operand.func 12), args := #[Operand.tmp 78, Operand.tmp 79, Operand.const (Value.int IntKind.i64 0)], argTypes := #[23, 23, 3] }, type := 23, pos := "law.go:51", after := #[{ on := 1, ground := Ground.data }, { on := 2, ground := Ground.data }, { on := 0, ground := Ground.chain }, { on := 0, ground := Ground.guard }], guard := some (0, true) },
     { dst := some 81, op := Op.load 23 (Operand.tmp 11), type := 23, pos := "law.go:51", after := #[{ on := 0, ground := Ground.guard }], guard := some (0, true) },
     { dst := some 82, op := Op.binOp BinOp.eql 23 (Operand.tmp 80) (Operand.tmp 81) 23, type := 4, pos := "law.go:51", after := #[{ on := 3, ground := Ground.data }, { on := 4, ground := Ground.data }, { on := 0, ground := Ground.guard }], guard := some (0, true) },
     { dst := some 83, op := Op.pick (Operand.tmp 77) (Operand.tmp 82) (Operand.const (Value.bool false)), type := 4, pos := "law.go:51", after := #[{ on := 0, ground := Ground.data }, { on := 5, ground := Ground.data }], guard := none },
     { dst := some 84, op := Op.move (Operand.tmp 83), type := 4, pos := "law.go:51", after := #[{ on := 6, ground := Ground.data }, { on := 3, ground := Ground.chain }], guard := none }],
    [{ dst := some 84, op := Op.move (Operand.tmp 83), type := 4, pos := "law.go:51", after := #[], guard := none },
     { dst := some 85, op := Op.load 23 (Operand.tmp 11), type := 23, pos := "law.go:51", after := #[{ on := 0, ground := Ground.guard }], guard := some (0, true) },
     { dst := some 86, op := Op.load 23 (Operand.tmp 12), type := 23, pos := "law.go:51", after := #[{ on := 0, ground := Ground.guard }], guard := some (0, true) },
     { dst := some 87, op := Op.call { callee := Callee.value (Operand.func 12), args := #[Operand.tmp 85, Operand.tmp 86, Operand.const (Value.int IntKind.i64 65536)], argTypes := #[23, 23, 3] }, type := 23, pos := "law.go:51", after := #[{ on := 1, ground := Ground.data }, { on := 2, ground := Ground.data }, { on := 0, ground := Ground.chain }, { on := 0, ground := Ground.guard }], guard := some (0, true) },
     { dst := some 88, op := Op.load 23 (Operand.tmp 12), type := 23, pos := "law.go:51", after := #[{ on := 0, ground := Ground.guard }], guard := some (0, true) },
     { dst := some 89, op := Op.binOp BinOp.eql 23 (Operand.tmp 87) (Operand.tmp 88) 23, type := 4, pos := "law.go:51", after := #[{ on := 3, ground := Ground.data }, { on := 4, ground := Ground.data }, { on := 0, ground := Ground.guard }], guard := some (0, true) },
     { dst := some 90, op := Op.pick (Operand.tmp 84) (Operand.tmp 89) (Operand.const (Value.bool false)), type := 4, pos := "law.go:51", after := #[{ on := 0, ground := Ground.data }, { on := 5, ground := Ground.data }], guard := none },
     { dst := some 91, op := Op.move (Operand.tmp 90), type := 4, pos := "law.go:51", after := #[{ on := 6, ground := Ground.data }, { on := 3, ground := Ground.chain }], guard := none }],
    [{ dst := some 91, op := Op.move (Operand.tmp 90), type := 4, pos := "law.go:51", after := #[], guard := none },
     { dst := some 92, op := Op.load 23 (Operand.tmp 11), type := 23, pos := "law.go:51", after := #[{ on := 0, ground := Ground.guard }], guard := some (0, true) },
     { dst := some 93, op := Op.call { callee := Callee.value (Operand.func 13), args := #[Operand.tmp 92, Operand.const (Value.int IntKind.i64 255)], argTypes := #[23, 3] }, type := 23, pos := "law.go:51", after := #[{ on := 1, ground := Ground.data }, { on := 0, ground := Ground.chain }, { on := 0, ground := Ground.guard }], guard := some (0, true) },
     { dst := some 94, op := Op.load 23 (Operand.tmp 11), type := 23, pos := "law.go:51", after := #[{ on := 0, ground := Ground.guard }], guard := some (0, true) },
     { dst := some 95, op := Op.binOp BinOp.eql 23 (Operand.tmp 93) (Operand.tmp 94) 23, type := 4, pos := "law.go:51", after := #[{ on := 2, ground := Ground.data }, { on := 3, ground := Ground.data }, { on := 0, ground := Ground.guard }], guard := some (0, true) },
     { dst := some 96, op := Op.pick (Operand.tmp 91) (Operand.tmp 95) (Operand.const (Value.bool false)), type := 4, pos := "law.go:51", after := #[{ on := 0, ground := Ground.data }, { on := 4, ground := Ground.data }], guard := none },
     { dst := some 97, op := Op.move (Operand.tmp 96), type := 4, pos := "law.go:51", after := #[{ on := 5, ground := Ground.data }, { on := 2, ground := Ground.chain }], guard := none }],
    [{ dst := some 97, op := Op.move (Operand.tmp 96), type := 4, pos := "law.go:51", after := #[], guard := none },
     { dst := some 98, op := Op.load 23 (Operand.tmp 11), type := 23, pos := "law.go:51", after := #[{ on := 0, ground := Ground.guard }], guard := some (0, true) },
     { dst := some 99, op := Op.call { callee := Callee.value (Operand.func 13), args := #[Operand.tmp 98, Operand.const (Value.int IntKind.i64 0)], argTypes := #[23, 3] }, type := 23, pos := "law.go:51", after := #[{ on := 1, ground := Ground.data }, { on := 0, ground := Ground.chain }, { on := 0, ground := Ground.guard }], guard := some (0, true) },
     { dst := some 100, op := Op.build 23 #[], type := 23, pos := "law.go:51", after := #[{ on := 0, ground := Ground.guard }], guard := some (0, true) },
     { dst := some 101, op := Op.binOp BinOp.eql 23 (Operand.tmp 99) (Operand.tmp 100) 23, type := 4, pos := "law.go:51", after := #[{ on := 2, ground := Ground.data }, { on := 3, ground := Ground.data }, { on := 0, ground := Ground.guard }], guard := some (0, true) },
     { dst := some 102, op := Op.pick (Operand.tmp 97) (Operand.tmp 101) (Operand.const (Value.bool false)), type := 4, pos := "law.go:51", after := #[{ on := 0, ground := Ground.data }, { on := 4, ground := Ground.data }], guard := none },
     { dst := some 10, op := Op.assign (Operand.tmp 102), type := 4, pos := "law.go:51", after := #[{ on := 5, ground := Ground.data }, { on := 2, ground := Ground.chain }, { on := 0, ground := Ground.phase }, { on := 1, ground := Ground.phase }, { on := 2, ground := Ground.phase }, { on := 3, ground := Ground.phase }, { on := 4, ground := Ground.phase }, { on := 5, ground := Ground.phase }], guard := none }]
    ] (by kernel_rfl) (by kernel_rfl) (by kernel_rfl) ?_
  obtain ⟨U, hU⟩ : ∃ x, x = V.drew := ⟨_, rfl⟩
  have B0 : Below V.heap.size V U := by rw [hU]; exact below_drewN (Below.refl _ V) 1
  rw [← hU]
  clear hU
  refine chain_held 2 (fun w' => Below U.heap.size U w') (by kernel_rfl) ?_
  refine wpAnyH_ready (rs := [0]) (by kernel_rfl) (by simp) ?_
  refine AllReadyH.cons (o := { dst := some 27, op := Op.call { callee := Callee.value (Operand.func 7), args := #[], argTypes := #[] }, type := 4, pos := "law.go:51", after := #[], guard := none }) rfl (fun K hK => ?_) ?_
  · go_simp
    go_at_call 7
    refine (known_any _).mono ?_
    rintro e w1 ⟨rfl, b1⟩
    go_wp2_with fail
    have B1 := B0.trans (b1.mono B0.size)
    refine (Shut.stronger hK (fun w' => Below w1.heap.size w1 w') (fun w' h => b1.trans (h.mono b1.size))).out _ _ (Below.refl _ _) (fun _ => ?_)
    clear hK K
    try simp only [Act.put, List.setIfInBounds_toArray, List.set_cons_zero, List.set_cons_succ]
    refine wpAnyH_take (i := 1) (oi := { dst := some 28, op := Op.move (Operand.tmp 27), type := 4, pos := "law.go:51", after := #[{ on := 0, ground := Ground.data }, { on := 0, ground := Ground.chain }], guard := none }) (v := ?_) rfl (by kernel_rfl) (by kernel_rfl) (by kernel_rfl) (fun _ _ _ h => h) (Or.inl ⟨by rfl, ?_⟩) (Below.refl _ _) ?_
    rotate_left
    · (intro w' hSw; go_simp) <;> with_reducible rfl
    try simp only [Act.put, List.setIfInBounds_toArray, List.set_cons_zero, List.set_cons_succ]
    refine wpAnyH_done (by kernel_rfl) ?_ _
    refine segQ_end ?_
    refine chain_held 4 (fun w' => Below w1.heap.size w1 w') (by kernel_rfl) ?_
    refine wpAnyH_take (i := 1) (oi := { dst := some 29, op := Op.load 23 (Operand.tmp 11), type := 23, pos := "law.go:51", after := #[{ on := 0, ground := Ground.guard }], guard := some (0, true) }) (v := ?_) rfl (by kernel_rfl) (by kernel_rfl) (by kernel_rfl) (fun _ _ _ h => h) (Or.inl ⟨by rfl, ?_⟩) (Below.refl _ _) ?_
    rotate_left
    · (intro w' hSw; have hX := B1.trans (hSw.mono B1.size); have kp0 := p0 w' hX; have kp1 := p1 w' hX; have kp2 := p2 w' hX; have kp3 := p3 w' hX; go_simp) <;> with_reducible rfl
    try simp only [Act.put, List.setIfInBounds_toArray, List.set_cons_zero, List.set_cons_succ]
    refine wpAnyH_ready (rs := [2]) (by kernel_rfl) (by simp) ?_
    refine AllReadyH.cons (o := { dst := some 30, op := Op.call { callee := Callee.value (Operand.func 10), args := #[Operand.tmp 29], argTypes := #[23] }, type := 4, pos := "law.go:51", after := #[{ on := 1, ground := Ground.data }, { on := 0, ground := Ground.chain }, { on := 0, ground := Ground.guard }], guard := some (0, true) }) rfl (fun K hK => ?_) ?_
    · go_simp
      go_at_call 10
      refine (K0 _).mono ?_
      rintro e w2 ⟨rfl, b2⟩
      go_wp2_with fail
      have B2 := B1.trans (b2.mono B1.size)
      refine (Shut.stronger hK (fun w' => Below w2.heap.size w2 w') (fun w' h => b2.trans (h.mono b2.size))).out _ _ (Below.refl _ _) (fun _ => ?_)
      clear hK K
      try simp only [Act.put, List.setIfInBounds_toArray, List.set_cons_zero, List.set_cons_succ]
      refine wpAnyH_take (i := 3) (oi := { dst := some 31, op := Op.pick (Operand.tmp 28) (Operand.tmp 30) (Operand.const (Value.bool false)), type := 4, pos := "law.go:51", after := #[{ on := 0, ground := Ground.data }, { on := 2, ground := Ground.data }], guard := none }) (v := ?_) rfl (by kernel_rfl) (by kernel_rfl) (by kernel_rfl) (fun _ _ _ h => h) (Or.inl ⟨by rfl, ?_⟩) (Below.refl _ _) ?_
      rotate_left
      · (intro w' hSw; go_simp) <;> with_reducible rfl
      try simp only [Act.put, List.setIfInBounds_toArray, List.set_cons_zero, List.set_cons_succ]
      refine wpAnyH_take (i := 4) (oi := { dst := some 32, op := Op.move (Operand.tmp 31), type := 4, pos := "law.go:51", after := #[{ on := 3, ground := Ground.data }, { on := 2, ground := Ground.chain }], guard := none }) (v := ?_) rfl (by kernel_rfl) (by kernel_rfl) (by kernel_rfl) (fun _ _ _ h => h) (Or.inl ⟨by rfl, ?_⟩) (Below.refl _ _) ?_
      rotate_left
      · (intro w' hSw; go_simp) <;> with_reducible rfl
      try simp only [Act.put, List.setIfInBounds_toArray, List.set_cons_zero, List.set_cons_succ]
      refine wpAnyH_done (by kernel_rfl) ?_ _
      refine segQ_end ?_
      refine chain_held 6 (fun w' => Below w2.heap.size w2 w') (by kernel_rfl) ?_
      refine wpAnyH_take (i := 1) (oi := { dst := some 33, op := Op.load 23 (Operand.tmp 11), type := 23, pos := "law.go:51", after := #[{ on := 0, ground := Ground.guard }], guard := some (0, true) }) (v := ?_) rfl (by kernel_rfl) (by kernel_rfl) (by kernel_rfl) (fun _ _ _ h => h) (Or.inl ⟨by rfl, ?_⟩) (Below.refl _ _) ?_
      rotate_left
      · (intro w' hSw; have hX := B2.trans (hSw.mono B2.size); have kp0 := p0 w' hX; have kp1 := p1 w' hX; have kp2 := p2 w' hX; have kp3 := p3 w' hX; go_simp) <;> with_reducible rfl
      try simp only [Act.put, List.setIfInBounds_toArray, List.set_cons_zero, List.set_cons_succ]
      refine wpAnyH_take (i := 2) (oi := { dst := some 34, op := Op.load 23 (Operand.tmp 12), type := 23, pos := "law.go:51", after := #[{ on := 0, ground := Ground.guard }], guard := some (0, true) }) (v := ?_) rfl (by kernel_rfl) (by kernel_rfl) (by kernel_rfl) (fun _ _ _ h => h) (Or.inl ⟨by rfl, ?_⟩) (Below.refl _ _) ?_
      rotate_left
      · (intro w' hSw; have hX := B2.trans (hSw.mono B2.size); have kq0 := q0 w' hX; have kq1 := q1 w' hX; have kq2 := q2 w' hX; have kq3 := q3 w' hX; go_simp) <;> with_reducible rfl
      try simp only [Act.put, List.setIfInBounds_toArray, List.set_cons_zero, List.set_cons_succ]
      refine wpAnyH_ready (rs := [3]) (by kernel_rfl) (by simp) ?_
      refine AllReadyH.cons (o := { dst := some 35, op := Op.call { callee := Callee.value (Operand.func 11), args := #[Operand.tmp 33, Operand.tmp 34], argTypes := #[23, 23] }, type := 23, pos := "law.go:51", after := #[{ on := 1, ground := Ground.data }, { on := 2, ground := Ground.data }, { on := 0, ground := Ground.chain }, { on := 0, ground := Ground.guard }], guard := some (0, true) }) rfl (fun K hK => ?_) ?_
      · go_simp
        go_at_call 11
        refine (K1 _).mono ?_
        rintro e w3 ⟨rfl, b3⟩
        go_wp2_with fail
        have B3 := B2.trans (b3.mono B2.size)
        refine (Shut.stronger hK (fun w' => Below w3.heap.size w3 w') (fun w' h => b3.trans (h.mono b3.size))).out _ _ (Below.refl _ _) (fun _ => ?_)
        clear hK K
        try simp only [Act.put, List.setIfInBounds_toArray, List.set_cons_zero, List.set_cons_succ]
        refine wpAnyH_ready (rs := [4]) (by kernel_rfl) (by simp) ?_
        refine AllReadyH.cons (o := { dst := some 36, op := Op.call { callee := Callee.value (Operand.func 10), args := #[Operand.tmp 35], argTypes := #[23] }, type := 4, pos := "law.go:51", after := #[{ on := 3, ground := Ground.data }, { on := 3, ground := Ground.chain }, { on := 0, ground := Ground.guard }], guard := some (0, true) }) rfl (fun K hK => ?_) ?_
        · go_simp
          go_at_call 10
          refine (K1p _).mono ?_
          rintro e w4 ⟨rfl, b4⟩
          go_wp2_with fail
          have B4 := B3.trans (b4.mono B3.size)
          refine (Shut.stronger hK (fun w' => Below w4.heap.size w4 w') (fun w' h => b4.trans (h.mono b4.size))).out _ _ (Below.refl _ _) (fun _ => ?_)
          clear hK K
          try simp only [Act.put, List.setIfInBounds_toArray, List.set_cons_zero, List.set_cons_succ]
          refine wpAnyH_take (i := 5) (oi := { dst := some 37, op := Op.pick (Operand.tmp 32) (Operand.tmp 36) (Operand.const (Value.bool false)), type := 4, pos := "law.go:51", after := #[{ on := 0, ground := Ground.data }, { on := 4, ground := Ground.data }], guard := none }) (v := ?_) rfl (by kernel_rfl) (by kernel_rfl) (by kernel_rfl) (fun _ _ _ h => h) (Or.inl ⟨by rfl, ?_⟩) (Below.refl _ _) ?_
          rotate_left
          · (intro w' hSw; go_simp) <;> with_reducible rfl
          try simp only [Act.put, List.setIfInBounds_toArray, List.set_cons_zero, List.set_cons_succ]
          refine wpAnyH_take (i := 6) (oi := { dst := some 38, op := Op.move (Operand.tmp 37), type := 4, pos := "law.go:51", after := #[{ on := 5, ground := Ground.data }, { on := 4, ground := Ground.chain }], guard := none }) (v := ?_) rfl (by kernel_rfl) (by kernel_rfl) (by kernel_rfl) (fun _ _ _ h => h) (Or.inl ⟨by rfl, ?_⟩) (Below.refl _ _) ?_
          rotate_left
          · (intro w' hSw; go_simp) <;> with_reducible rfl
          try simp only [Act.put, List.setIfInBounds_toArray, List.set_cons_zero, List.set_cons_succ]
          refine wpAnyH_done (by kernel_rfl) ?_ _
          refine segQ_end ?_
          refine chain_held 7 (fun w' => Below w4.heap.size w4 w') (by kernel_rfl) ?_
          refine wpAnyH_take (i := 1) (oi := { dst := some 39, op := Op.load 23 (Operand.tmp 11), type := 23, pos := "law.go:51", after := #[{ on := 0, ground := Ground.guard }], guard := some (0, true) }) (v := ?_) rfl (by kernel_rfl) (by kernel_rfl) (by kernel_rfl) (fun _ _ _ h => h) (Or.inl ⟨by rfl, ?_⟩) (Below.refl _ _) ?_
          rotate_left
          · (intro w' hSw; have hX := B4.trans (hSw.mono B4.size); have kp0 := p0 w' hX; have kp1 := p1 w' hX; have kp2 := p2 w' hX; have kp3 := p3 w' hX; go_simp) <;> with_reducible rfl
          try simp only [Act.put, List.setIfInBounds_toArray, List.set_cons_zero, List.set_cons_succ]
          refine wpAnyH_take (i := 2) (oi := { dst := some 40, op := Op.load 23 (Operand.tmp 12), type := 23, pos := "law.go:51", after := #[{ on := 0, ground := Ground.guard }], guard := some (0, true) }) (v := ?_) rfl (by kernel_rfl) (by kernel_rfl) (by kernel_rfl) (fun _ _ _ h => h) (Or.inl ⟨by rfl, ?_⟩) (Below.refl _ _) ?_
          rotate_left
          · (intro w' hSw; have hX := B4.trans (hSw.mono B4.size); have kq0 := q0 w' hX; have kq1 := q1 w' hX; have kq2 := q2 w' hX; have kq3 := q3 w' hX; go_simp) <;> with_reducible rfl
          try simp only [Act.put, List.setIfInBounds_toArray, List.set_cons_zero, List.set_cons_succ]
          refine wpAnyH_take (i := 3) (oi := { dst := some 41, op := Op.move (Operand.tmp 3), type := 3, pos := "law.go:51", after := #[{ on := 0, ground := Ground.guard }], guard := some (0, true) }) (v := ?_) rfl (by kernel_rfl) (by kernel_rfl) (by kernel_rfl) (fun _ _ _ h => h) (Or.inl ⟨by rfl, ?_⟩) (Below.refl _ _) ?_
          rotate_left
          · (intro w' hSw; go_simp) <;> with_reducible rfl
          try simp only [Act.put, List.setIfInBounds_toArray, List.set_cons_zero, List.set_cons_succ]
          refine wpAnyH_ready (rs := [4]) (by kernel_rfl) (by simp) ?_
          refine AllReadyH.cons (o := { dst := some 42, op := Op.call { callee := Callee.value (Operand.func 12), args := #[Operand.tmp 39, Operand.tmp 40, Operand.tmp 41], argTypes := #[23, 23, 3] }, type := 23, pos := "law.go:51", after := #[{ on := 1, ground := Ground.data }, { on := 2, ground := Ground.data }, { on := 3, ground := Ground.data }, { on := 0, ground := Ground.chain }, { on := 0, ground := Ground.guard }], guard := some (0, true) }) rfl (fun K hK => ?_) ?_
          · go_simp
            go_at_call 12
            refine (K2 _).mono ?_
            rintro e w5 ⟨rfl, b5⟩
            go_wp2_with fail
            have B5 := B4.trans (b5.mono B4.size)
            refine (Shut.stronger hK (fun w' => Below w5.heap.size w5 w') (fun w' h => b5.trans (h.mono b5.size))).out _ _ (Below.refl _ _) (fun _ => ?_)
            clear hK K
            try simp only [Act.put, List.setIfInBounds_toArray, List.set_cons_zero, List.set_cons_succ]
            refine wpAnyH_ready (rs := [5]) (by kernel_rfl) (by simp) ?_
            refine AllReadyH.cons (o := { dst := some 43, op := Op.call { callee := Callee.value (Operand.func 10), args := #[Operand.tmp 42], argTypes := #[23] }, type := 4, pos := "law.go:51", after := #[{ on := 4, ground := Ground.data }, { on := 4, ground := Ground.chain }, { on := 0, ground := Ground.guard }], guard := some (0, true) }) rfl (fun K hK => ?_) ?_
            · go_simp
              go_at_call 10
              refine (K2p _).mono ?_
              rintro e w6 ⟨rfl, b6⟩
              go_wp2_with fail
              have B6 := B5.trans (b6.mono B5.size)
              refine (Shut.stronger hK (fun w' => Below w6.heap.size w6 w') (fun w' h => b6.trans (h.mono b6.size))).out _ _ (Below.refl _ _) (fun _ => ?_)
              clear hK K
              try simp only [Act.put, List.setIfInBounds_toArray, List.set_cons_zero, List.set_cons_succ]
              refine wpAnyH_take (i := 6) (oi := { dst := some 44, op := Op.pick (Operand.tmp 38) (Operand.tmp 43) (Operand.const (Value.bool false)), type := 4, pos := "law.go:51", after := #[{ on := 0, ground := Ground.data }, { on := 5, ground := Ground.data }], guard := none }) (v := ?_) rfl (by kernel_rfl) (by kernel_rfl) (by kernel_rfl) (fun _ _ _ h => h) (Or.inl ⟨by rfl, ?_⟩) (Below.refl _ _) ?_
              rotate_left
              · (intro w' hSw; go_simp) <;> with_reducible rfl
              try simp only [Act.put, List.setIfInBounds_toArray, List.set_cons_zero, List.set_cons_succ]
              refine wpAnyH_take (i := 7) (oi := { dst := some 45, op := Op.move (Operand.tmp 44), type := 4, pos := "law.go:51", after := #[{ on := 6, ground := Ground.data }, { on := 5, ground := Ground.chain }], guard := none }) (v := ?_) rfl (by kernel_rfl) (by kernel_rfl) (by kernel_rfl) (fun _ _ _ h => h) (Or.inl ⟨by rfl, ?_⟩) (Below.refl _ _) ?_
              rotate_left
              · (intro w' hSw; go_simp) <;> with_reducible rfl
              try simp only [Act.put, List.setIfInBounds_toArray, List.set_cons_zero, List.set_cons_succ]
              refine wpAnyH_done (by kernel_rfl) ?_ _
              refine segQ_end ?_
              refine chain_held 6 (fun w' => Below w6.heap.size w6 w') (by kernel_rfl) ?_
              refine wpAnyH_take (i := 1) (oi := { dst := some 46, op := Op.load 23 (Operand.tmp 11), type := 23, pos := "law.go:51", after := #[{ on := 0, ground := Ground.guard }], guard := some (0, true) }) (v := ?_) rfl (by kernel_rfl) (by kernel_rfl) (by kernel_rfl) (fun _ _ _ h => h) (Or.inl ⟨by rfl, ?_⟩) (Below.refl _ _) ?_
              rotate_left
              · (intro w' hSw; have hX := B6.trans (hSw.mono B6.size); have kp0 := p0 w' hX; have kp1 := p1 w' hX; have kp2 := p2 w' hX; have kp3 := p3 w' hX; go_simp) <;> with_reducible rfl
              try simp only [Act.put, List.setIfInBounds_toArray, List.set_cons_zero, List.set_cons_succ]
              refine wpAnyH_take (i := 2) (oi := { dst := some 47, op := Op.move (Operand.tmp 2), type := 3, pos := "law.go:51", after := #[{ on := 0, ground := Ground.guard }], guard := some (0, true) }) (v := ?_) rfl (by kernel_rfl) (by kernel_rfl) (by kernel_rfl) (fun _ _ _ h => h) (Or.inl ⟨by rfl, ?_⟩) (Below.refl _ _) ?_
              rotate_left
              · (intro w' hSw; go_simp) <;> with_reducible rfl
              try simp only [Act.put, List.setIfInBounds_toArray, List.set_cons_zero, List.set_cons_succ]
              refine wpAnyH_ready (rs := [3]) (by kernel_rfl) (by simp) ?_
              refine AllReadyH.cons (o := { dst := some 48, op := Op.call { callee := Callee.value (Operand.func 13), args := #[Operand.tmp 46, Operand.tmp 47], argTypes := #[23, 3] }, type := 23, pos := "law.go:51", after := #[{ on := 1, ground := Ground.data }, { on := 2, ground := Ground.data }, { on := 0, ground := Ground.chain }, { on := 0, ground := Ground.guard }], guard := some (0, true) }) rfl (fun K hK => ?_) ?_
              · go_simp
                go_at_call 13
                refine (K3 _).mono ?_
                rintro e w7 ⟨rfl, b7⟩
                go_wp2_with fail
                have B7 := B6.trans (b7.mono B6.size)
                refine (Shut.stronger hK (fun w' => Below w7.heap.size w7 w') (fun w' h => b7.trans (h.mono b7.size))).out _ _ (Below.refl _ _) (fun _ => ?_)
                clear hK K
                try simp only [Act.put, List.setIfInBounds_toArray, List.set_cons_zero, List.set_cons_succ]
                refine wpAnyH_ready (rs := [4]) (by kernel_rfl) (by simp) ?_
                refine AllReadyH.cons (o := { dst := some 49, op := Op.call { callee := Callee.value (Operand.func 10), args := #[Operand.tmp 48], argTypes := #[23] }, type := 4, pos := "law.go:51", after := #[{ on := 3, ground := Ground.data }, { on := 3, ground := Ground.chain }, { on := 0, ground := Ground.guard }], guard := some (0, true) }) rfl (fun K hK => ?_) ?_
                · go_simp
                  go_at_call 10
                  refine (K3p _).mono ?_
                  rintro e w8 ⟨rfl, b8⟩
                  go_wp2_with fail
                  have B8 := B7.trans (b8.mono B7.size)
                  refine (Shut.stronger hK (fun w' => Below w8.heap.size w8 w') (fun w' h => b8.trans (h.mono b8.size))).out _ _ (Below.refl _ _) (fun _ => ?_)
                  clear hK K
                  try simp only [Act.put, List.setIfInBounds_toArray, List.set_cons_zero, List.set_cons_succ]
                  refine wpAnyH_take (i := 5) (oi := { dst := some 50, op := Op.pick (Operand.tmp 45) (Operand.tmp 49) (Operand.const (Value.bool false)), type := 4, pos := "law.go:51", after := #[{ on := 0, ground := Ground.data }, { on := 4, ground := Ground.data }], guard := none }) (v := ?_) rfl (by kernel_rfl) (by kernel_rfl) (by kernel_rfl) (fun _ _ _ h => h) (Or.inl ⟨by rfl, ?_⟩) (Below.refl _ _) ?_
                  rotate_left
                  · (intro w' hSw; go_simp) <;> with_reducible rfl
                  try simp only [Act.put, List.setIfInBounds_toArray, List.set_cons_zero, List.set_cons_succ]
                  refine wpAnyH_take (i := 6) (oi := { dst := some 51, op := Op.move (Operand.tmp 50), type := 4, pos := "law.go:51", after := #[{ on := 5, ground := Ground.data }, { on := 4, ground := Ground.chain }], guard := none }) (v := ?_) rfl (by kernel_rfl) (by kernel_rfl) (by kernel_rfl) (fun _ _ _ h => h) (Or.inl ⟨by rfl, ?_⟩) (Below.refl _ _) ?_
                  rotate_left
                  · (intro w' hSw; go_simp) <;> with_reducible rfl
                  try simp only [Act.put, List.setIfInBounds_toArray, List.set_cons_zero, List.set_cons_succ]
                  refine wpAnyH_done (by kernel_rfl) ?_ _
                  refine segQ_end ?_
                  refine chain_held 5 (fun w' => Below w8.heap.size w8 w') (by kernel_rfl) ?_
                  refine wpAnyH_take (i := 1) (oi := { dst := some 52, op := Op.load 23 (Operand.tmp 13), type := 23, pos := "law.go:51", after := #[{ on := 0, ground := Ground.guard }], guard := some (0, true) }) (v := ?_) rfl (by kernel_rfl) (by kernel_rfl) (by kernel_rfl) (fun _ _ _ h => h) (Or.inl ⟨by rfl, ?_⟩) (Below.refl _ _) ?_
                  rotate_left
                  · (intro w' hSw; have hX := B8.trans (hSw.mono B8.size); have ks0 := s0 w' hX; have ks1 := s1 w' hX; have ks2 := s2 w' hX; have ks3 := s3 w' hX; go_simp) <;> with_reducible rfl
                  try simp only [Act.put, List.setIfInBounds_toArray, List.set_cons_zero, List.set_cons_succ]
                  refine wpAnyH_ready (rs := [2]) (by kernel_rfl) (by simp) ?_
                  refine AllReadyH.cons (o := { dst := some 53, op := Op.call { callee := Callee.value (Operand.func 16), args := #[Operand.tmp 52], argTypes := #[23] }, type := 23, pos := "law.go:51", after := #[{ on := 1, ground := Ground.data }, { on := 0, ground := Ground.chain }, { on := 0, ground := Ground.guard }], guard := some (0, true) }) rfl (fun K hK => ?_) ?_
                  · go_simp
                    go_at_call 16
                    refine (K4 _).mono ?_
                    rintro e w9 ⟨rfl, b9⟩
                    go_wp2_with fail
                    have B9 := B8.trans (b9.mono B8.size)
                    refine (Shut.stronger hK (fun w' => Below w9.heap.size w9 w') (fun w' h => b9.trans (h.mono b9.size))).out _ _ (Below.refl _ _) (fun _ => ?_)
                    clear hK K
                    try simp only [Act.put, List.setIfInBounds_toArray, List.set_cons_zero, List.set_cons_succ]
                    refine wpAnyH_ready (rs := [3]) (by kernel_rfl) (by simp) ?_
                    refine AllReadyH.cons (o := { dst := some 54, op := Op.call { callee := Callee.value (Operand.func 10), args := #[Operand.tmp 53], argTypes := #[23] }, type := 4, pos := "law.go:51", after := #[{ on := 2, ground := Ground.data }, { on := 2, ground := Ground.chain }, { on := 0, ground := Ground.guard }], guard := some (0, true) }) rfl (fun K hK => ?_) ?_
                    · go_simp
                      go_at_call 10
                      refine (K4p _).mono ?_
                      rintro e w10 ⟨rfl, b10⟩
                      go_wp2_with fail
                      have B10 := B9.trans (b10.mono B9.size)
                      refine (Shut.stronger hK (fun w' => Below w10.heap.size w10 w') (fun w' h => b10.trans (h.mono b10.size))).out _ _ (Below.refl _ _) (fun _ => ?_)
                      clear hK K
                      try simp only [Act.put, List.setIfInBounds_toArray, List.set_cons_zero, List.set_cons_succ]
                      refine wpAnyH_take (i := 4) (oi := { dst := some 55, op := Op.pick (Operand.tmp 51) (Operand.tmp 54) (Operand.const (Value.bool false)), type := 4, pos := "law.go:51", after := #[{ on := 0, ground := Ground.data }, { on := 3, ground := Ground.data }], guard := none }) (v := ?_) rfl (by kernel_rfl) (by kernel_rfl) (by kernel_rfl) (fun _ _ _ h => h) (Or.inl ⟨by rfl, ?_⟩) (Below.refl _ _) ?_
                      rotate_left
                      · (intro w' hSw; go_simp) <;> with_reducible rfl
                      try simp only [Act.put, List.setIfInBounds_toArray, List.set_cons_zero, List.set_cons_succ]
                      refine wpAnyH_take (i := 5) (oi := { dst := some 56, op := Op.move (Operand.tmp 55), type := 4, pos := "law.go:51", after := #[{ on := 4, ground := Ground.data }, { on := 3, ground := Ground.chain }], guard := none }) (v := ?_) rfl (by kernel_rfl) (by kernel_rfl) (by kernel_rfl) (fun _ _ _ h => h) (Or.inl ⟨by rfl, ?_⟩) (Below.refl _ _) ?_
                      rotate_left
                      · (intro w' hSw; go_simp) <;> with_reducible rfl
                      try simp only [Act.put, List.setIfInBounds_toArray, List.set_cons_zero, List.set_cons_succ]
                      refine wpAnyH_done (by kernel_rfl) ?_ _
                      refine segQ_end ?_
                      refine chain_held 7 (fun w' => Below w10.heap.size w10 w') (by kernel_rfl) ?_
                      refine wpAnyH_take (i := 1) (oi := { dst := some 57, op := Op.load 23 (Operand.tmp 14), type := 23, pos := "law.go:51", after := #[{ on := 0, ground := Ground.guard }], guard := some (0, true) }) (v := ?_) rfl (by kernel_rfl) (by kernel_rfl) (by kernel_rfl) (fun _ _ _ h => h) (Or.inl ⟨by rfl, ?_⟩) (Below.refl _ _) ?_
                      rotate_left
                      · (intro w' hSw; have hX := B10.trans (hSw.mono B10.size); have kf0 := f0 w' hX; have kf1 := f1 w' hX; have kf2 := f2 w' hX; have kf3 := f3 w' hX; go_simp) <;> with_reducible rfl
                      try simp only [Act.put, List.setIfInBounds_toArray, List.set_cons_zero, List.set_cons_succ]
                      refine wpAnyH_take (i := 2) (oi := { dst := some 58, op := Op.load 23 (Operand.tmp 12), type := 23, pos := "law.go:51", after := #[{ on := 0, ground := Ground.guard }], guard := some (0, true) }) (v := ?_) rfl (by kernel_rfl) (by kernel_rfl) (by kernel_rfl) (fun _ _ _ h => h) (Or.inl ⟨by rfl, ?_⟩) (Below.refl _ _) ?_
                      rotate_left
                      · (intro w' hSw; have hX := B10.trans (hSw.mono B10.size); have kq0 := q0 w' hX; have kq1 := q1 w' hX; have kq2 := q2 w' hX; have kq3 := q3 w' hX; go_simp) <;> with_reducible rfl
                      try simp only [Act.put, List.setIfInBounds_toArray, List.set_cons_zero, List.set_cons_succ]
                      refine wpAnyH_take (i := 4) (oi := { dst := some 60, op := Op.load 23 (Operand.tmp 14), type := 23, pos := "law.go:51", after := #[{ on := 0, ground := Ground.guard }], guard := some (0, true) }) (v := ?_) rfl (by kernel_rfl) (by kernel_rfl) (by kernel_rfl) (fun _ _ _ h => h) (Or.inl ⟨by rfl, ?_⟩) (Below.refl _ _) ?_
                      rotate_left
                      · (intro w' hSw; have hX := B10.trans (hSw.mono B10.size); have kf0 := f0 w' hX; have kf1 := f1 w' hX; have kf2 := f2 w' hX; have kf3 := f3 w' hX; go_simp) <;> with_reducible rfl
                      try simp only [Act.put, List.setIfInBounds_toArray, List.set_cons_zero, List.set_cons_succ]
                      refine wpAnyH_ready (rs := [3]) (by kernel_rfl) (by simp) ?_
                      refine AllReadyH.cons (o := { dst := some 59, op := Op.call { callee := Callee.value (Operand.func 11), args := #[Operand.tmp 57, Operand.tmp 58], argTypes := #[23, 23] }, type := 23, pos := "law.go:51", after := #[{ on := 1, ground := Ground.data }, { on := 2, ground := Ground.data }, { on := 0, ground := Ground.chain }, { on := 0, ground := Ground.guard }], guard := some (0, true) }) rfl (fun K hK => ?_) ?_
                      · go_simp
                        go_at_call 11
                        refine (K5 _).mono ?_
                        rintro e w11 ⟨rfl, b11⟩
                        go_wp2_with fail
                        have B11 := B10.trans (b11.mono B10.size)
                        refine (Shut.stronger hK (fun w' => Below w11.heap.size w11 w') (fun w' h => b11.trans (h.mono b11.size))).out _ _ (Below.refl _ _) (fun _ => ?_)
                        clear hK K
                        try simp only [Act.put, List.setIfInBounds_toArray, List.set_cons_zero, List.set_cons_succ]
                        refine wpAnyH_take (i := 5) (oi := { dst := some 61, op := Op.binOp BinOp.eql 23 (Operand.tmp 59) (Operand.tmp 60) 23, type := 4, pos := "law.go:51", after := #[{ on := 3, ground := Ground.data }, { on := 4, ground := Ground.data }, { on := 0, ground := Ground.guard }], guard := some (0, true) }) (v := ?_) rfl (by kernel_rfl) (by kernel_rfl) (by kernel_rfl) (fun _ _ _ h => h) (Or.inl ⟨by rfl, ?_⟩) (Below.refl _ _) ?_
                        rotate_left
                        · (intro w' hSw; go_simp) <;> with_reducible rfl
                        try simp only [Act.put, List.setIfInBounds_toArray, List.set_cons_zero, List.set_cons_succ]
                        refine wpAnyH_take (i := 6) (oi := { dst := some 62, op := Op.pick (Operand.tmp 56) (Operand.tmp 61) (Operand.const (Value.bool false)), type := 4, pos := "law.go:51", after := #[{ on := 0, ground := Ground.data }, { on := 5, ground := Ground.data }], guard := none }) (v := ?_) rfl (by kernel_rfl) (by kernel_rfl) (by kernel_rfl) (fun _ _ _ h => h) (Or.inl ⟨by rfl, ?_⟩) (Below.refl _ _) ?_
                        rotate_left
                        · (intro w' hSw; go_simp) <;> with_reducible rfl
                        try simp only [Act.put, List.setIfInBounds_toArray, List.set_cons_zero, List.set_cons_succ]
                        refine wpAnyH_take (i := 7) (oi := { dst := some 63, op := Op.move (Operand.tmp 62), type := 4, pos := "law.go:51", after := #[{ on := 6, ground := Ground.data }, { on := 3, ground := Ground.chain }], guard := none }) (v := ?_) rfl (by kernel_rfl) (by kernel_rfl) (by kernel_rfl) (fun _ _ _ h => h) (Or.inl ⟨by rfl, ?_⟩) (Below.refl _ _) ?_
                        rotate_left
                        · (intro w' hSw; go_simp) <;> with_reducible rfl
                        try simp only [Act.put, List.setIfInBounds_toArray, List.set_cons_zero, List.set_cons_succ]
                        refine wpAnyH_done (by kernel_rfl) ?_ _
                        refine segQ_end ?_
                        refine chain_held 7 (fun w' => Below w11.heap.size w11 w') (by kernel_rfl) ?_
                        refine wpAnyH_take (i := 1) (oi := { dst := some 64, op := Op.build 23 #[], type := 23, pos := "law.go:51", after := #[{ on := 0, ground := Ground.guard }], guard := some (0, true) }) (v := ?_) rfl (by kernel_rfl) (by kernel_rfl) (by kernel_rfl) (fun _ _ _ h => h) (Or.inl ⟨by rfl, ?_⟩) (Below.refl _ _) ?_
                        rotate_left
                        · (intro w' hSw; go_simp) <;> with_reducible rfl
                        try simp only [Act.put, List.setIfInBounds_toArray, List.set_cons_zero, List.set_cons_succ]
                        refine wpAnyH_take (i := 2) (oi := { dst := some 65, op := Op.load 23 (Operand.tmp 12), type := 23, pos := "law.go:51", after := #[{ on := 0, ground := Ground.guard }], guard := some (0, true) }) (v := ?_) rfl (by kernel_rfl) (by kernel_rfl) (by kernel_rfl) (fun _ _ _ h => h) (Or.inl ⟨by rfl, ?_⟩) (Below.refl _ _) ?_
                        rotate_left
                        · (intro w' hSw; have hX := B11.trans (hSw.mono B11.size); have kq0 := q0 w' hX; have kq1 := q1 w' hX; have kq2 := q2 w' hX; have kq3 := q3 w' hX; go_simp) <;> with_reducible rfl
                        try simp only [Act.put, List.setIfInBounds_toArray, List.set_cons_zero, List.set_cons_succ]
                        refine wpAnyH_take (i := 4) (oi := { dst := some 67, op := Op.load 23 (Operand.tmp 12), type := 23, pos := "law.go:51", after := #[{ on := 0, ground := Ground.guard }], guard := some (0, true) }) (v := ?_) rfl (by kernel_rfl) (by kernel_rfl) (by kernel_rfl) (fun _ _ _ h => h) (Or.inl ⟨by rfl, ?_⟩) (Below.refl _ _) ?_
                        rotate_left
                        · (intro w' hSw; have hX := B11.trans (hSw.mono B11.size); have kq0 := q0 w' hX; have kq1 := q1 w' hX; have kq2 := q2 w' hX; have kq3 := q3 w' hX; go_simp) <;> with_reducible rfl
                        try simp only [Act.put, List.setIfInBounds_toArray, List.set_cons_zero, List.set_cons_succ]
                        refine wpAnyH_ready (rs := [3]) (by kernel_rfl) (by simp) ?_
                        refine AllReadyH.cons (o := { dst := some 66, op := Op.call { callee := Callee.value (Operand.func 11), args := #[Operand.tmp 64, Operand.tmp 65], argTypes := #[23, 23] }, type := 23, pos := "law.go:51", after := #[{ on := 1, ground := Ground.data }, { on := 2, ground := Ground.data }, { on := 0, ground := Ground.chain }, { on := 0, ground := Ground.guard }], guard := some (0, true) }) rfl (fun K hK => ?_) ?_
                        · go_simp
                          go_at_call 11
                          refine (K6 _).mono ?_
                          rintro e w12 ⟨rfl, b12⟩
                          go_wp2_with fail
                          have B12 := B11.trans (b12.mono B11.size)
                          refine (Shut.stronger hK (fun w' => Below w12.heap.size w12 w') (fun w' h => b12.trans (h.mono b12.size))).out _ _ (Below.refl _ _) (fun _ => ?_)
                          clear hK K
                          try simp only [Act.put, List.setIfInBounds_toArray, List.set_cons_zero, List.set_cons_succ]
                          refine wpAnyH_take (i := 5) (oi := { dst := some 68, op := Op.binOp BinOp.eql 23 (Operand.tmp 66) (Operand.tmp 67) 23, type := 4, pos := "law.go:51", after := #[{ on := 3, ground := Ground.data }, { on := 4, ground := Ground.data }, { on := 0, ground := Ground.guard }], guard := some (0, true) }) (v := ?_) rfl (by kernel_rfl) (by kernel_rfl) (by kernel_rfl) (fun _ _ _ h => h) (Or.inl ⟨by rfl, ?_⟩) (Below.refl _ _) ?_
                          rotate_left
                          · (intro w' hSw; go_simp) <;> with_reducible rfl
                          try simp only [Act.put, List.setIfInBounds_toArray, List.set_cons_zero, List.set_cons_succ]
                          refine wpAnyH_take (i := 6) (oi := { dst := some 69, op := Op.pick (Operand.tmp 63) (Operand.tmp 68) (Operand.const (Value.bool false)), type := 4, pos := "law.go:51", after := #[{ on := 0, ground := Ground.data }, { on := 5, ground := Ground.data }], guard := none }) (v := ?_) rfl (by kernel_rfl) (by kernel_rfl) (by kernel_rfl) (fun _ _ _ h => h) (Or.inl ⟨by rfl, ?_⟩) (Below.refl _ _) ?_
                          rotate_left
                          · (intro w' hSw; go_simp) <;> with_reducible rfl
                          try simp only [Act.put, List.setIfInBounds_toArray, List.set_cons_zero, List.set_cons_succ]
                          refine wpAnyH_take (i := 7) (oi := { dst := some 70, op := Op.move (Operand.tmp 69), type := 4, pos := "law.go:51", after := #[{ on := 6, ground := Ground.data }, { on := 3, ground := Ground.chain }], guard := none }) (v := ?_) rfl (by kernel_rfl) (by kernel_rfl) (by kernel_rfl) (fun _ _ _ h => h) (Or.inl ⟨by rfl, ?_⟩) (Below.refl _ _) ?_
                          rotate_left
                          · (intro w' hSw; go_simp) <;> with_reducible rfl
                          try simp only [Act.put, List.setIfInBounds_toArray, List.set_cons_zero, List.set_cons_succ]
                          refine wpAnyH_done (by kernel_rfl) ?_ _
                          refine segQ_end ?_
                          refine chain_held 7 (fun w' => Below w12.heap.size w12 w') (by kernel_rfl) ?_
                          refine wpAnyH_take (i := 1) (oi := { dst := some 71, op := Op.load 23 (Operand.tmp 11), type := 23, pos := "law.go:51", after := #[{ on := 0, ground := Ground.guard }], guard := some (0, true) }) (v := ?_) rfl (by kernel_rfl) (by kernel_rfl) (by kernel_rfl) (fun _ _ _ h => h) (Or.inl ⟨by rfl, ?_⟩) (Below.refl _ _) ?_
                          rotate_left
                          · (intro w' hSw; have hX := B12.trans (hSw.mono B12.size); have kp0 := p0 w' hX; have kp1 := p1 w' hX; have kp2 := p2 w' hX; have kp3 := p3 w' hX; go_simp) <;> with_reducible rfl
                          try simp only [Act.put, List.setIfInBounds_toArray, List.set_cons_zero, List.set_cons_succ]
                          refine wpAnyH_take (i := 2) (oi := { dst := some 72, op := Op.build 23 #[], type := 23, pos := "law.go:51", after := #[{ on := 0, ground := Ground.guard }], guard := some (0, true) }) (v := ?_) rfl (by kernel_rfl) (by kernel_rfl) (by kernel_rfl) (fun _ _ _ h => h) (Or.inl ⟨by rfl, ?_⟩) (Below.refl _ _) ?_
                          rotate_left
                          · (intro w' hSw; go_simp) <;> with_reducible rfl
                          try simp only [Act.put, List.setIfInBounds_toArray, List.set_cons_zero, List.set_cons_succ]
                          refine wpAnyH_take (i := 4) (oi := { dst := some 74, op := Op.load 23 (Operand.tmp 11), type := 23, pos := "law.go:51", after := #[{ on := 0, ground := Ground.guard }], guard := some (0, true) }) (v := ?_) rfl (by kernel_rfl) (by kernel_rfl) (by kernel_rfl) (fun _ _ _ h => h) (Or.inl ⟨by rfl, ?_⟩) (Below.refl _ _) ?_
                          rotate_left
                          · (intro w' hSw; have hX := B12.trans (hSw.mono B12.size); have kp0 := p0 w' hX; have kp1 := p1 w' hX; have kp2 := p2 w' hX; have kp3 := p3 w' hX; go_simp) <;> with_reducible rfl
                          try simp only [Act.put, List.setIfInBounds_toArray, List.set_cons_zero, List.set_cons_succ]
                          refine wpAnyH_ready (rs := [3]) (by kernel_rfl) (by simp) ?_
                          refine AllReadyH.cons (o := { dst := some 73, op := Op.call { callee := Callee.value (Operand.func 11), args := #[Operand.tmp 71, Operand.tmp 72], argTypes := #[23, 23] }, type := 23, pos := "law.go:51", after := #[{ on := 1, ground := Ground.data }, { on := 2, ground := Ground.data }, { on := 0, ground := Ground.chain }, { on := 0, ground := Ground.guard }], guard := some (0, true) }) rfl (fun K hK => ?_) ?_
                          · go_simp
                            go_at_call 11
                            refine (K7 _).mono ?_
                            rintro e w13 ⟨rfl, b13⟩
                            go_wp2_with fail
                            have B13 := B12.trans (b13.mono B12.size)
                            refine (Shut.stronger hK (fun w' => Below w13.heap.size w13 w') (fun w' h => b13.trans (h.mono b13.size))).out _ _ (Below.refl _ _) (fun _ => ?_)
                            clear hK K
                            try simp only [Act.put, List.setIfInBounds_toArray, List.set_cons_zero, List.set_cons_succ]
                            refine wpAnyH_take (i := 5) (oi := { dst := some 75, op := Op.binOp BinOp.eql 23 (Operand.tmp 73) (Operand.tmp 74) 23, type := 4, pos := "law.go:51", after := #[{ on := 3, ground := Ground.data }, { on := 4, ground := Ground.data }, { on := 0, ground := Ground.guard }], guard := some (0, true) }) (v := ?_) rfl (by kernel_rfl) (by kernel_rfl) (by kernel_rfl) (fun _ _ _ h => h) (Or.inl ⟨by rfl, ?_⟩) (Below.refl _ _) ?_
                            rotate_left
                            · (intro w' hSw; go_simp) <;> with_reducible rfl
                            try simp only [Act.put, List.setIfInBounds_toArray, List.set_cons_zero, List.set_cons_succ]
                            refine wpAnyH_take (i := 6) (oi := { dst := some 76, op := Op.pick (Operand.tmp 70) (Operand.tmp 75) (Operand.const (Value.bool false)), type := 4, pos := "law.go:51", after := #[{ on := 0, ground := Ground.data }, { on := 5, ground := Ground.data }], guard := none }) (v := ?_) rfl (by kernel_rfl) (by kernel_rfl) (by kernel_rfl) (fun _ _ _ h => h) (Or.inl ⟨by rfl, ?_⟩) (Below.refl _ _) ?_
                            rotate_left
                            · (intro w' hSw; go_simp) <;> with_reducible rfl
                            try simp only [Act.put, List.setIfInBounds_toArray, List.set_cons_zero, List.set_cons_succ]
                            refine wpAnyH_take (i := 7) (oi := { dst := some 77, op := Op.move (Operand.tmp 76), type := 4, pos := "law.go:51", after := #[{ on := 6, ground := Ground.data }, { on := 3, ground := Ground.chain }], guard := none }) (v := ?_) rfl (by kernel_rfl) (by kernel_rfl) (by kernel_rfl) (fun _ _ _ h => h) (Or.inl ⟨by rfl, ?_⟩) (Below.refl _ _) ?_
                            rotate_left
                            · (intro w' hSw; go_simp) <;> with_reducible rfl
                            try simp only [Act.put, List.setIfInBounds_toArray, List.set_cons_zero, List.set_cons_succ]
                            refine wpAnyH_done (by kernel_rfl) ?_ _
                            refine segQ_end ?_
                            refine chain_held 7 (fun w' => Below w13.heap.size w13 w') (by kernel_rfl) ?_
                            refine wpAnyH_take (i := 1) (oi := { dst := some 78, op := Op.load 23 (Operand.tmp 11), type := 23, pos := "law.go:51", after := #[{ on := 0, ground := Ground.guard }], guard := some (0, true) }) (v := ?_) rfl (by kernel_rfl) (by kernel_rfl) (by kernel_rfl) (fun _ _ _ h => h) (Or.inl ⟨by rfl, ?_⟩) (Below.refl _ _) ?_
                            rotate_left
                            · (intro w' hSw; have hX := B13.trans (hSw.mono B13.size); have kp0 := p0 w' hX; have kp1 := p1 w' hX; have kp2 := p2 w' hX; have kp3 := p3 w' hX; go_simp) <;> with_reducible rfl
                            try simp only [Act.put, List.setIfInBounds_toArray, List.set_cons_zero, List.set_cons_succ]
                            refine wpAnyH_take (i := 2) (oi := { dst := some 79, op := Op.load 23 (Operand.tmp 12), type := 23, pos := "law.go:51", after := #[{ on := 0, ground := Ground.guard }], guard := some (0, true) }) (v := ?_) rfl (by kernel_rfl) (by kernel_rfl) (by kernel_rfl) (fun _ _ _ h => h) (Or.inl ⟨by rfl, ?_⟩) (Below.refl _ _) ?_
                            rotate_left
                            · (intro w' hSw; have hX := B13.trans (hSw.mono B13.size); have kq0 := q0 w' hX; have kq1 := q1 w' hX; have kq2 := q2 w' hX; have kq3 := q3 w' hX; go_simp) <;> with_reducible rfl
                            try simp only [Act.put, List.setIfInBounds_toArray, List.set_cons_zero, List.set_cons_succ]
                            refine wpAnyH_take (i := 4) (oi := { dst := some 81, op := Op.load 23 (Operand.tmp 11), type := 23, pos := "law.go:51", after := #[{ on := 0, ground := Ground.guard }], guard := some (0, true) }) (v := ?_) rfl (by kernel_rfl) (by kernel_rfl) (by kernel_rfl) (fun _ _ _ h => h) (Or.inl ⟨by rfl, ?_⟩) (Below.refl _ _) ?_
                            rotate_left
                            · (intro w' hSw; have hX := B13.trans (hSw.mono B13.size); have kp0 := p0 w' hX; have kp1 := p1 w' hX; have kp2 := p2 w' hX; have kp3 := p3 w' hX; go_simp) <;> with_reducible rfl
                            try simp only [Act.put, List.setIfInBounds_toArray, List.set_cons_zero, List.set_cons_succ]
                            refine wpAnyH_ready (rs := [3]) (by kernel_rfl) (by simp) ?_
                            refine AllReadyH.cons (o := { dst := some 80, op := Op.call { callee := Callee.value (Operand.func 12), args := #[Operand.tmp 78, Operand.tmp 79, Operand.const (Value.int IntKind.i64 0)], argTypes := #[23, 23, 3] }, type := 23, pos := "law.go:51", after := #[{ on := 1, ground := Ground.data }, { on := 2, ground := Ground.data }, { on := 0, ground := Ground.chain }, { on := 0, ground := Ground.guard }], guard := some (0, true) }) rfl (fun K hK => ?_) ?_
                            · go_simp
                              go_at_call 12
                              refine (K8 _).mono ?_
                              rintro e w14 ⟨rfl, b14⟩
                              go_wp2_with fail
                              have B14 := B13.trans (b14.mono B13.size)
                              refine (Shut.stronger hK (fun w' => Below w14.heap.size w14 w') (fun w' h => b14.trans (h.mono b14.size))).out _ _ (Below.refl _ _) (fun _ => ?_)
                              clear hK K
                              try simp only [Act.put, List.setIfInBounds_toArray, List.set_cons_zero, List.set_cons_succ]
                              refine wpAnyH_take (i := 5) (oi := { dst := some 82, op := Op.binOp BinOp.eql 23 (Operand.tmp 80) (Operand.tmp 81) 23, type := 4, pos := "law.go:51", after := #[{ on := 3, ground := Ground.data }, { on := 4, ground := Ground.data }, { on := 0, ground := Ground.guard }], guard := some (0, true) }) (v := ?_) rfl (by kernel_rfl) (by kernel_rfl) (by kernel_rfl) (fun _ _ _ h => h) (Or.inl ⟨by rfl, ?_⟩) (Below.refl _ _) ?_
                              rotate_left
                              · (intro w' hSw; go_simp) <;> with_reducible rfl
                              try simp only [Act.put, List.setIfInBounds_toArray, List.set_cons_zero, List.set_cons_succ]
                              refine wpAnyH_take (i := 6) (oi := { dst := some 83, op := Op.pick (Operand.tmp 77) (Operand.tmp 82) (Operand.const (Value.bool false)), type := 4, pos := "law.go:51", after := #[{ on := 0, ground := Ground.data }, { on := 5, ground := Ground.data }], guard := none }) (v := ?_) rfl (by kernel_rfl) (by kernel_rfl) (by kernel_rfl) (fun _ _ _ h => h) (Or.inl ⟨by rfl, ?_⟩) (Below.refl _ _) ?_
                              rotate_left
                              · (intro w' hSw; go_simp) <;> with_reducible rfl
                              try simp only [Act.put, List.setIfInBounds_toArray, List.set_cons_zero, List.set_cons_succ]
                              refine wpAnyH_take (i := 7) (oi := { dst := some 84, op := Op.move (Operand.tmp 83), type := 4, pos := "law.go:51", after := #[{ on := 6, ground := Ground.data }, { on := 3, ground := Ground.chain }], guard := none }) (v := ?_) rfl (by kernel_rfl) (by kernel_rfl) (by kernel_rfl) (fun _ _ _ h => h) (Or.inl ⟨by rfl, ?_⟩) (Below.refl _ _) ?_
                              rotate_left
                              · (intro w' hSw; go_simp) <;> with_reducible rfl
                              try simp only [Act.put, List.setIfInBounds_toArray, List.set_cons_zero, List.set_cons_succ]
                              refine wpAnyH_done (by kernel_rfl) ?_ _
                              refine segQ_end ?_
                              refine chain_held 7 (fun w' => Below w14.heap.size w14 w') (by kernel_rfl) ?_
                              refine wpAnyH_take (i := 1) (oi := { dst := some 85, op := Op.load 23 (Operand.tmp 11), type := 23, pos := "law.go:51", after := #[{ on := 0, ground := Ground.guard }], guard := some (0, true) }) (v := ?_) rfl (by kernel_rfl) (by kernel_rfl) (by kernel_rfl) (fun _ _ _ h => h) (Or.inl ⟨by rfl, ?_⟩) (Below.refl _ _) ?_
                              rotate_left
                              · (intro w' hSw; have hX := B14.trans (hSw.mono B14.size); have kp0 := p0 w' hX; have kp1 := p1 w' hX; have kp2 := p2 w' hX; have kp3 := p3 w' hX; go_simp) <;> with_reducible rfl
                              try simp only [Act.put, List.setIfInBounds_toArray, List.set_cons_zero, List.set_cons_succ]
                              refine wpAnyH_take (i := 2) (oi := { dst := some 86, op := Op.load 23 (Operand.tmp 12), type := 23, pos := "law.go:51", after := #[{ on := 0, ground := Ground.guard }], guard := some (0, true) }) (v := ?_) rfl (by kernel_rfl) (by kernel_rfl) (by kernel_rfl) (fun _ _ _ h => h) (Or.inl ⟨by rfl, ?_⟩) (Below.refl _ _) ?_
                              rotate_left
                              · (intro w' hSw; have hX := B14.trans (hSw.mono B14.size); have kq0 := q0 w' hX; have kq1 := q1 w' hX; have kq2 := q2 w' hX; have kq3 := q3 w' hX; go_simp) <;> with_reducible rfl
                              try simp only [Act.put, List.setIfInBounds_toArray, List.set_cons_zero, List.set_cons_succ]
                              refine wpAnyH_take (i := 4) (oi := { dst := some 88, op := Op.load 23 (Operand.tmp 12), type := 23, pos := "law.go:51", after := #[{ on := 0, ground := Ground.guard }], guard := some (0, true) }) (v := ?_) rfl (by kernel_rfl) (by kernel_rfl) (by kernel_rfl) (fun _ _ _ h => h) (Or.inl ⟨by rfl, ?_⟩) (Below.refl _ _) ?_
                              rotate_left
                              · (intro w' hSw; have hX := B14.trans (hSw.mono B14.size); have kq0 := q0 w' hX; have kq1 := q1 w' hX; have kq2 := q2 w' hX; have kq3 := q3 w' hX; go_simp) <;> with_reducible rfl
                              try simp only [Act.put, List.setIfInBounds_toArray, List.set_cons_zero, List.set_cons_succ]
                              refine wpAnyH_ready (rs := [3]) (by kernel_rfl) (by simp) ?_
                              refine AllReadyH.cons (o := { dst := some 87, op := Op.call { callee := Callee.value (Operand.func 12), args := #[Operand.tmp 85, Operand.tmp 86, Operand.const (Value.int IntKind.i64 65536)], argTypes := #[23, 23, 3] }, type := 23, pos := "law.go:51", after := #[{ on := 1, ground := Ground.data }, { on := 2, ground := Ground.data }, { on := 0, ground := Ground.chain }, { on := 0, ground := Ground.guard }], guard := some (0, true) }) rfl (fun K hK => ?_) ?_
                              · go_simp
                                go_at_call 12
                                refine (K9 _).mono ?_
                                rintro e w15 ⟨rfl, b15⟩
                                go_wp2_with fail
                                have B15 := B14.trans (b15.mono B14.size)
                                refine (Shut.stronger hK (fun w' => Below w15.heap.size w15 w') (fun w' h => b15.trans (h.mono b15.size))).out _ _ (Below.refl _ _) (fun _ => ?_)
                                clear hK K
                                try simp only [Act.put, List.setIfInBounds_toArray, List.set_cons_zero, List.set_cons_succ]
                                refine wpAnyH_take (i := 5) (oi := { dst := some 89, op := Op.binOp BinOp.eql 23 (Operand.tmp 87) (Operand.tmp 88) 23, type := 4, pos := "law.go:51", after := #[{ on := 3, ground := Ground.data }, { on := 4, ground := Ground.data }, { on := 0, ground := Ground.guard }], guard := some (0, true) }) (v := ?_) rfl (by kernel_rfl) (by kernel_rfl) (by kernel_rfl) (fun _ _ _ h => h) (Or.inl ⟨by rfl, ?_⟩) (Below.refl _ _) ?_
                                rotate_left
                                · (intro w' hSw; go_simp) <;> with_reducible rfl
                                try simp only [Act.put, List.setIfInBounds_toArray, List.set_cons_zero, List.set_cons_succ]
                                refine wpAnyH_take (i := 6) (oi := { dst := some 90, op := Op.pick (Operand.tmp 84) (Operand.tmp 89) (Operand.const (Value.bool false)), type := 4, pos := "law.go:51", after := #[{ on := 0, ground := Ground.data }, { on := 5, ground := Ground.data }], guard := none }) (v := ?_) rfl (by kernel_rfl) (by kernel_rfl) (by kernel_rfl) (fun _ _ _ h => h) (Or.inl ⟨by rfl, ?_⟩) (Below.refl _ _) ?_
                                rotate_left
                                · (intro w' hSw; go_simp) <;> with_reducible rfl
                                try simp only [Act.put, List.setIfInBounds_toArray, List.set_cons_zero, List.set_cons_succ]
                                refine wpAnyH_take (i := 7) (oi := { dst := some 91, op := Op.move (Operand.tmp 90), type := 4, pos := "law.go:51", after := #[{ on := 6, ground := Ground.data }, { on := 3, ground := Ground.chain }], guard := none }) (v := ?_) rfl (by kernel_rfl) (by kernel_rfl) (by kernel_rfl) (fun _ _ _ h => h) (Or.inl ⟨by rfl, ?_⟩) (Below.refl _ _) ?_
                                rotate_left
                                · (intro w' hSw; go_simp) <;> with_reducible rfl
                                try simp only [Act.put, List.setIfInBounds_toArray, List.set_cons_zero, List.set_cons_succ]
                                refine wpAnyH_done (by kernel_rfl) ?_ _
                                refine segQ_end ?_
                                refine chain_held 6 (fun w' => Below w15.heap.size w15 w') (by kernel_rfl) ?_
                                refine wpAnyH_take (i := 1) (oi := { dst := some 92, op := Op.load 23 (Operand.tmp 11), type := 23, pos := "law.go:51", after := #[{ on := 0, ground := Ground.guard }], guard := some (0, true) }) (v := ?_) rfl (by kernel_rfl) (by kernel_rfl) (by kernel_rfl) (fun _ _ _ h => h) (Or.inl ⟨by rfl, ?_⟩) (Below.refl _ _) ?_
                                rotate_left
                                · (intro w' hSw; have hX := B15.trans (hSw.mono B15.size); have kp0 := p0 w' hX; have kp1 := p1 w' hX; have kp2 := p2 w' hX; have kp3 := p3 w' hX; go_simp) <;> with_reducible rfl
                                try simp only [Act.put, List.setIfInBounds_toArray, List.set_cons_zero, List.set_cons_succ]
                                refine wpAnyH_take (i := 3) (oi := { dst := some 94, op := Op.load 23 (Operand.tmp 11), type := 23, pos := "law.go:51", after := #[{ on := 0, ground := Ground.guard }], guard := some (0, true) }) (v := ?_) rfl (by kernel_rfl) (by kernel_rfl) (by kernel_rfl) (fun _ _ _ h => h) (Or.inl ⟨by rfl, ?_⟩) (Below.refl _ _) ?_
                                rotate_left
                                · (intro w' hSw; have hX := B15.trans (hSw.mono B15.size); have kp0 := p0 w' hX; have kp1 := p1 w' hX; have kp2 := p2 w' hX; have kp3 := p3 w' hX; go_simp) <;> with_reducible rfl
                                try simp only [Act.put, List.setIfInBounds_toArray, List.set_cons_zero, List.set_cons_succ]
                                refine wpAnyH_ready (rs := [2]) (by kernel_rfl) (by simp) ?_
                                refine AllReadyH.cons (o := { dst := some 93, op := Op.call { callee := Callee.value (Operand.func 13), args := #[Operand.tmp 92, Operand.const (Value.int IntKind.i64 255)], argTypes := #[23, 3] }, type := 23, pos := "law.go:51", after := #[{ on := 1, ground := Ground.data }, { on := 0, ground := Ground.chain }, { on := 0, ground := Ground.guard }], guard := some (0, true) }) rfl (fun K hK => ?_) ?_
                                · go_simp
                                  go_at_call 13
                                  refine (Ka _).mono ?_
                                  rintro e w16 ⟨rfl, b16⟩
                                  go_wp2_with fail
                                  have B16 := B15.trans (b16.mono B15.size)
                                  refine (Shut.stronger hK (fun w' => Below w16.heap.size w16 w') (fun w' h => b16.trans (h.mono b16.size))).out _ _ (Below.refl _ _) (fun _ => ?_)
                                  clear hK K
                                  try simp only [Act.put, List.setIfInBounds_toArray, List.set_cons_zero, List.set_cons_succ]
                                  refine wpAnyH_take (i := 4) (oi := { dst := some 95, op := Op.binOp BinOp.eql 23 (Operand.tmp 93) (Operand.tmp 94) 23, type := 4, pos := "law.go:51", after := #[{ on := 2, ground := Ground.data }, { on := 3, ground := Ground.data }, { on := 0, ground := Ground.guard }], guard := some (0, true) }) (v := ?_) rfl (by kernel_rfl) (by kernel_rfl) (by kernel_rfl) (fun _ _ _ h => h) (Or.inl ⟨by rfl, ?_⟩) (Below.refl _ _) ?_
                                  rotate_left
                                  · (intro w' hSw; go_simp) <;> with_reducible rfl
                                  try simp only [Act.put, List.setIfInBounds_toArray, List.set_cons_zero, List.set_cons_succ]
                                  refine wpAnyH_take (i := 5) (oi := { dst := some 96, op := Op.pick (Operand.tmp 91) (Operand.tmp 95) (Operand.const (Value.bool false)), type := 4, pos := "law.go:51", after := #[{ on := 0, ground := Ground.data }, { on := 4, ground := Ground.data }], guard := none }) (v := ?_) rfl (by kernel_rfl) (by kernel_rfl) (by kernel_rfl) (fun _ _ _ h => h) (Or.inl ⟨by rfl, ?_⟩) (Below.refl _ _) ?_
                                  rotate_left
                                  · (intro w' hSw; go_simp) <;> with_reducible rfl
                                  try simp only [Act.put, List.setIfInBounds_toArray, List.set_cons_zero, List.set_cons_succ]
                                  refine wpAnyH_take (i := 6) (oi := { dst := some 97, op := Op.move (Operand.tmp 96), type := 4, pos := "law.go:51", after := #[{ on := 5, ground := Ground.data }, { on := 2, ground := Ground.chain }], guard := none }) (v := ?_) rfl (by kernel_rfl) (by kernel_rfl) (by kernel_rfl) (fun _ _ _ h => h) (Or.inl ⟨by rfl, ?_⟩) (Below.refl _ _) ?_
                                  rotate_left
                                  · (intro w' hSw; go_simp) <;> with_reducible rfl
                                  try simp only [Act.put, List.setIfInBounds_toArray, List.set_cons_zero, List.set_cons_succ]
                                  refine wpAnyH_done (by kernel_rfl) ?_ _
                                  refine segQ_end ?_
                                  refine chain_last 6 (fun w' => Below w16.heap.size w16 w') (by kernel_rfl) ?_
                                  refine wpAnyH_take (i := 1) (oi := { dst := some 98, op := Op.load 23 (Operand.tmp 11), type := 23, pos := "law.go:51", after := #[{ on := 0, ground := Ground.guard }], guard := some (0, true) }) (v := ?_) rfl (by kernel_rfl) (by kernel_rfl) (by kernel_rfl) (fun _ _ _ h => h) (Or.inl ⟨by rfl, ?_⟩) (Below.refl _ _) ?_
                                  rotate_left
                                  · (intro w' hSw; have hX := B16.trans (hSw.mono B16.size); have kp0 := p0 w' hX; have kp1 := p1 w' hX; have kp2 := p2 w' hX; have kp3 := p3 w' hX; go_simp) <;> with_reducible rfl
                                  try simp only [Act.put, List.setIfInBounds_toArray, List.set_cons_zero, List.set_cons_succ]
                                  refine wpAnyH_take (i := 3) (oi := { dst := some 100, op := Op.build 23 #[], type := 23, pos := "law.go:51", after := #[{ on := 0, ground := Ground.guard }], guard := some (0, true) }) (v := ?_) rfl (by kernel_rfl) (by kernel_rfl) (by kernel_rfl) (fun _ _ _ h => h) (Or.inl ⟨by rfl, ?_⟩) (Below.refl _ _) ?_
                                  rotate_left
                                  · (intro w' hSw; go_simp) <;> with_reducible rfl
                                  try simp only [Act.put, List.setIfInBounds_toArray, List.set_cons_zero, List.set_cons_succ]
                                  refine wpAnyH_ready (rs := [2]) (by kernel_rfl) (by simp) ?_
                                  refine AllReadyH.cons (o := { dst := some 99, op := Op.call { callee := Callee.value (Operand.func 13), args := #[Operand.tmp 98, Operand.const (Value.int IntKind.i64 0)], argTypes := #[23, 3] }, type := 23, pos := "law.go:51", after := #[{ on := 1, ground := Ground.data }, { on := 0, ground := Ground.chain }, { on := 0, ground := Ground.guard }], guard := some (0, true) }) rfl (fun K hK => ?_) ?_
                                  · go_simp
                                    go_at_call 13
                                    refine (Kb _).mono ?_
                                    rintro e w17 ⟨rfl, b17⟩
                                    go_wp2_with fail
                                    have B17 := B16.trans (b17.mono B16.size)
                                    refine (Shut.stronger hK (fun w' => Below w17.heap.size w17 w') (fun w' h => b17.trans (h.mono b17.size))).out _ _ (Below.refl _ _) (fun _ => ?_)
                                    clear hK K
                                    try simp only [Act.put, List.setIfInBounds_toArray, List.set_cons_zero, List.set_cons_succ]
                                    refine wpAnyH_take (i := 4) (oi := { dst := some 101, op := Op.binOp BinOp.eql 23 (Operand.tmp 99) (Operand.tmp 100) 23, type := 4, pos := "law.go:51", after := #[{ on := 2, ground := Ground.data }, { on := 3, ground := Ground.data }, { on := 0, ground := Ground.guard }], guard := some (0, true) }) (v := ?_) rfl (by kernel_rfl) (by kernel_rfl) (by kernel_rfl) (fun _ _ _ h => h) (Or.inl ⟨by rfl, ?_⟩) (Below.refl _ _) ?_
                                    rotate_left
                                    · (intro w' hSw; go_simp) <;> with_reducible rfl
                                    try simp only [Act.put, List.setIfInBounds_toArray, List.set_cons_zero, List.set_cons_succ]
                                    refine wpAnyH_take (i := 5) (oi := { dst := some 102, op := Op.pick (Operand.tmp 97) (Operand.tmp 101) (Operand.const (Value.bool false)), type := 4, pos := "law.go:51", after := #[{ on := 0, ground := Ground.data }, { on := 4, ground := Ground.data }], guard := none }) (v := ?_) rfl (by kernel_rfl) (by kernel_rfl) (by kernel_rfl) (fun _ _ _ h => h) (Or.inl ⟨by rfl, ?_⟩) (Below.refl _ _) ?_
                                    rotate_left
                                    · (intro w' hSw; go_simp) <;> with_reducible rfl
                                    try simp only [Act.put, List.setIfInBounds_toArray, List.set_cons_zero, List.set_cons_succ]
                                    refine wpAnyH_take (i := 6) (oi := { dst := some 10, op := Op.assign (Operand.tmp 102), type := 4, pos := "law.go:51", after := #[{ on := 5, ground := Ground.data }, { on := 2, ground := Ground.chain }, { on := 0, ground := Ground.phase }, { on := 1, ground := Ground.phase }, { on := 2, ground := Ground.phase }, { on := 3, ground := Ground.phase }, { on := 4, ground := Ground.phase }, { on := 5, ground := Ground.phase }], guard := none }) (v := ?_) rfl (by kernel_rfl) (by kernel_rfl) (by kernel_rfl) (fun _ _ _ h => h) (Or.inl ⟨by rfl, ?_⟩) (Below.refl _ _) ?_
                                    rotate_left
                                    · (intro w' hSw; go_simp) <;> with_reducible rfl
                                    try simp only [Act.put, List.setIfInBounds_toArray, List.set_cons_zero, List.set_cons_succ]
                                    refine wpAnyH_done (by kernel_rfl) ?_ _
                                    go_wp2
                                    go_ret
                                    exact ⟨rfl, BV.trans (B17.mono BV.size)⟩
                                  exact AllReadyH.nil
                                exact AllReadyH.nil
                              exact AllReadyH.nil
                            exact AllReadyH.nil
                          exact AllReadyH.nil
                        exact AllReadyH.nil
                      exact AllReadyH.nil
                    exact AllReadyH.nil
                  exact AllReadyH.nil
                exact AllReadyH.nil
              exact AllReadyH.nil
            exact AllReadyH.nil
          exact AllReadyH.nil
        exact AllReadyH.nil
      exact AllReadyH.nil
    exact AllReadyH.nil
  exact AllReadyH.nil
end Go.Proofs.Ytffkbombeaojjaa
