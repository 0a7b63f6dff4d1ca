/-
  PixelTells' own walk, raw numbers.
-/
import Derived.Test.YtffkbombeaojjaaKno
import Derived.Test.YtffkbombeaojjaaSeg
namespace Go.Proofs.Ytffkbombeaojjaa
open Go.RowKit

set_option maxRecDepth 100000 in
set_option maxHeartbeats 6400000 in
theorem tells_true (l m : Px) (n t : Int) (w : World) : Calls Try.prog 4 #[pv l, pv m, .int .i64 n, .int .i64 t, .bool true] w fun e w' => e = .returned (.bool true) ∧ Below w.heap.size w w' := by
  obtain ⟨P, hP⟩ : ∃ P, anyv l true = P := ⟨_, rfl⟩
  obtain ⟨Q, hQ⟩ : ∃ P, anyv m true = P := ⟨_, rfl⟩
  have AP : ∀ W : World, Calls Try.prog 17 #[pv l, .bool true] W fun r w' => r = .returned (pv P) ∧ Below W.heap.size W w' := fun W => by rw [← hP]; exact any_any l true W
  have AQ : ∀ W : World, Calls Try.prog 17 #[pv m, .bool true] W fun r w' => r = .returned (pv Q) ∧ Below W.heap.size W w' := fun W => by rw [← hQ]; exact any_any m true W
  clear hP hQ
  obtain ⟨X0, hX0⟩ : ∃ x, rightv P = x := ⟨_, rfl⟩
  have F0a : ∀ W : World, Calls Try.prog 9 #[pv P] W fun e w' => e = .returned (.bool X0) ∧ Below W.heap.size W w' := fun W => by rw [← hX0]; exact right_any P W
  have F0b : ∀ W : World, Calls Try.prog 19 #[pv P] W fun e w' => e = .returned (.bool X0) ∧ Below W.heap.size W w' := fun W => by rw [← hX0]; exact rright_any P W
  clear hX0
  obtain ⟨X1, hX1⟩ : ∃ x, prev P = x := ⟨_, rfl⟩
  have F1a : ∀ W : World, Calls Try.prog 16 #[pv P] W fun e w' => e = .returned (pv X1) ∧ Below W.heap.size W w' := fun W => by rw [← hX1]; exact pre_any P W
  have F1b : ∀ W : World, Calls Try.prog 20 #[pv P] W fun e w' => e = .returned (pv X1) ∧ Below W.heap.size W w' := fun W => by rw [← hX1]; exact rpre_any P W
  clear hX1
  obtain ⟨X2, hX2⟩ : ∃ x, barev P = x := ⟨_, rfl⟩
  have F2a : ∀ W : World, Calls Try.prog 8 #[pv P] W fun e w' => e = .returned (pv X2) ∧ Below W.heap.size W w' := fun W => by rw [← hX2]; exact bare_any P W
  have F2b : ∀ W : World, Calls Try.prog 21 #[pv P] W fun e w' => e = .returned (pv X2) ∧ Below W.heap.size W w' := fun W => by rw [← hX2]; exact rbare_any P W
  clear hX2
  obtain ⟨X3, hX3⟩ : ∃ x, premv P = x := ⟨_, rfl⟩
  have F3a : ∀ W : World, Calls Try.prog 10 #[pv P] W fun e w' => e = .returned (.bool X3) ∧ Below W.heap.size W w' := fun W => by rw [← hX3]; exact premultiplied_any P W
  have F3b : ∀ W : World, Calls Try.prog 22 #[pv P] W fun e w' => e = .returned (.bool X3) ∧ Below W.heap.size W w' := fun W => by rw [← hX3]; exact rpremultiplied_any P W
  clear hX3
  obtain ⟨X4, hX4⟩ : ∃ x, partv n t = x := ⟨_, rfl⟩
  have F4a : ∀ W : World, Calls Try.prog 15 #[.int .i64 n, .int .i64 t] W fun e w' => e = .returned (.int .i64 X4) ∧ w' = W := fun W => by rw [← hX4]; exact part_any n t W
  have F4b : ∀ W : World, Calls Try.prog 23 #[.int .i64 n, .int .i64 t] W fun e w' => e = .returned (.int .i64 X4) ∧ w' = W := fun W => by rw [← hX4]; exact rpart_any n t W
  clear hX4
  obtain ⟨X5, hX5⟩ : ∃ x, partv n l.r = x := ⟨_, rfl⟩
  have F5a : ∀ W : World, Calls Try.prog 15 #[.int .i64 n, .int .i64 l.r] W fun e w' => e = .returned (.int .i64 X5) ∧ w' = W := fun W => by rw [← hX5]; exact part_any n l.r W
  have F5b : ∀ W : World, Calls Try.prog 23 #[.int .i64 n, .int .i64 l.r] W fun e w' => e = .returned (.int .i64 X5) ∧ w' = W := fun W => by rw [← hX5]; exact rpart_any n l.r W
  clear hX5
  obtain ⟨X6, hX6⟩ : ∃ x, scalev P n = x := ⟨_, rfl⟩
  have F6a : ∀ W : World, Calls Try.prog 13 #[pv P, .int .i64 n] W fun e w' => e = .returned (pv X6) ∧ Below W.heap.size W w' := fun W => by rw [← hX6]; exact scale_any P n W
  have F6b : ∀ W : World, Calls Try.prog 24 #[pv P, .int .i64 n] W fun e w' => e = .returned (pv X6) ∧ Below W.heap.size W w' := fun W => by rw [← hX6]; exact rscale_any P n W
  clear hX6
  obtain ⟨X7, hX7⟩ : ∃ x, overv P Q = x := ⟨_, rfl⟩
  have F7a : ∀ W : World, Calls Try.prog 11 #[pv P, pv Q] W fun e w' => e = .returned (pv X7) ∧ Below W.heap.size W w' := fun W => by rw [← hX7]; exact over_any P Q W
  have F7b : ∀ W : World, Calls Try.prog 25 #[pv P, pv Q] W fun e w' => e = .returned (pv X7) ∧ Below W.heap.size W w' := fun W => by rw [← hX7]; exact rover_any P Q W
  clear hX7
  obtain ⟨X8, hX8⟩ : ∃ x, mixpv P Q t = x := ⟨_, rfl⟩
  have F8a : ∀ W : World, Calls Try.prog 12 #[pv P, pv Q, .int .i64 t] W fun e w' => e = .returned (pv X8) ∧ Below W.heap.size W w' := fun W => by rw [← hX8]; exact mixp_any P Q t W
  have F8b : ∀ W : World, Calls Try.prog 26 #[pv P, pv Q, .int .i64 t] W fun e w' => e = .returned (pv X8) ∧ Below W.heap.size W w' := fun W => by rw [← hX8]; exact rmixp_any P Q t W
  clear hX8
  obtain ⟨X9, hX9⟩ : ∃ x, mixpv P Q (t % 65600) = x := ⟨_, rfl⟩
  have F9a : ∀ W : World, Calls Try.prog 12 #[pv P, pv Q, .int .i64 (t % 65600)] W fun e w' => e = .returned (pv X9) ∧ Below W.heap.size W w' := fun W => by rw [← hX9]; exact mixp_any P Q (t % 65600) W
  have F9b : ∀ W : World, Calls Try.prog 26 #[pv P, pv Q, .int .i64 (t % 65600)] W fun e w' => e = .returned (pv X9) ∧ Below W.heap.size W w' := fun W => by rw [← hX9]; exact rmixp_any P Q (t % 65600) W
  clear hX9
  go_enter Try.func4, Try.ntmps4
  go_wp2_with fail
  refine (AP _).mono ?_
  rintro e w1 ⟨rfl, b1⟩
  have ga := Below.blk b1 (blk_alloc (blk_new w (.cells (pcs l) 34)) (.cells (pcs m) 34)) (by simp; omega)
  have gb := Below.blk b1 (blk_new (w.alloc (.cells (pcs l) 34)) (.cells (pcs m) 34)) (by simp)
  simp only [World.size_alloc] at ga gb
  have B1 : Below w.heap.size w w1 := (((Below.refl _ w).alloc (Nat.le_refl _) (.cells (pcs l) 34)).alloc (by simp) (.cells (pcs m) 34)).trans (b1.mono (by simp; omega))
  clear b1
  obtain ⟨c0, c1, c2, c3⟩ := px_cells (blk_alloc gb (pblk P))
  go_wp2_with fail
  clear c0 c1 c2 c3
  refine (AQ _).mono ?_
  rintro e w2 ⟨rfl, b2⟩
  have gp := Below.blk b2 (blk_new w1 (pblk P)) (by simp)
  replace ga := Below.blk b2 (blk_alloc ga (pblk P)) (by have := blk_lt ga; simp; omega)
  have B2 := (B1.alloc B1.size (pblk P)).trans (b2.mono (by have := B1.size; simp; omega))
  clear b2 gb B1
  go_wp2_with fail
  refine (pick_det n 600 (by omega) (by omega) _).mono ?_
  rintro e w' ⟨rfl, rfl⟩
  have hk0 : 0 ≤ n % 600 := by omega
  have hk1 : n % 600 < 600 := by omega
  go_wp2_with fail
  obtain ⟨V, hV⟩ : ∃ x, x = w2.alloc (.cells #[.int .i64 Q.r, .int .i64 Q.g, .int .i64 Q.b, .int .i64 Q.a] 23) := ⟨_, rfl⟩
  rw [← hV]
  have BV : Below w.heap.size w V := by rw [hV]; exact B2.alloc B2.size _
  have ka : V.heap[w.heap.size]? = some (.cells (pcs l) 34) := by rw [hV]; exact blk_alloc ga _
  have kp : V.heap[w1.heap.size]? = some (pblk P) := by rw [hV]; exact blk_alloc gp _
  have kq : V.heap[w2.heap.size]? = some (pblk Q) := by rw [hV]; exact blk_new _ _
  clear hV ga gp B2 hk0 hk1 AP AQ
  have a0 : ∀ w', Below V.heap.size V w' → w'.cell? ⟨w.heap.size, 0, none⟩ = some (.int .i64 l.r) := fun w' h => (px_cells (Below.blk h ka (blk_lt ka))).1
  have p0 : ∀ w', Below V.heap.size V w' → w'.cell? ⟨w1.heap.size, 0, none⟩ = some (.int .i64 P.r) := fun w' h => (px_cells (Below.blk h kp (blk_lt kp))).1
  have p1 : ∀ w', Below V.heap.size V w' → w'.cell? ⟨w1.heap.size, 1, none⟩ = some (.int .i64 P.g) := fun w' h => (px_cells (Below.blk h kp (blk_lt kp))).2.1
  have p2 : ∀ w', Below V.heap.size V w' → w'.cell? ⟨w1.heap.size, 2, none⟩ = some (.int .i64 P.b) := fun w' h => (px_cells (Below.blk h kp (blk_lt kp))).2.2.1
  have p3 : ∀ w', Below V.heap.size V w' → w'.cell? ⟨w1.heap.size, 3, none⟩ = some (.int .i64 P.a) := fun w' h => (px_cells (Below.blk h kp (blk_lt kp))).2.2.2
  have q0 : ∀ w', Below V.heap.size V w' → w'.cell? ⟨w2.heap.size, 0, none⟩ = some (.int .i64 Q.r) := fun w' h => (px_cells (Below.blk h kq (blk_lt kq))).1
  have q1 : ∀ w', Below V.heap.size V w' → w'.cell? ⟨w2.heap.size, 1, none⟩ = some (.int .i64 Q.g) := fun w' h => (px_cells (Below.blk h kq (blk_lt kq))).2.1
  have q2 : ∀ w', Below V.heap.size V w' → w'.cell? ⟨w2.heap.size, 2, none⟩ = some (.int .i64 Q.b) := fun w' h => (px_cells (Below.blk h kq (blk_lt kq))).2.2.1
  have q3 : ∀ w', Below V.heap.size V w' → w'.cell? ⟨w2.heap.size, 3, none⟩ = some (.int .i64 Q.a) := fun w' h => (px_cells (Below.blk h kq (blk_lt kq))).2.2.2
  clear ka kp kq
  refine region_segs [2, 8, 8, 8, 8, 10, 12, 10, 10, 12, 14] [
    [{ dst := some 25, op := Op.call { callee := Callee.value (Operand.func 7), args := #[], argTypes := #[] }, type := 4, pos := "law.go:39", after := #[], guard := none },
     { dst := some 26, op := Op.move (Operand.tmp 25), type := 4, pos := "law.go:39", after := #[{ on := 0, ground := Ground.data }, { on := 0, ground := Ground.chain }], guard := none }],
    [{ dst := some 26, op := Op.move (Operand.tmp 25), type := 4, pos := "law.go:39", after := #[], guard := none },
     { dst := some 27, op := Op.load 23 (Operand.tmp 11), type := 23, pos := "law.go:39", after := #[{ on := 0, ground := Ground.guard }], guard := some (0, true) },
     { dst := some 28, op := Op.call { callee := Callee.value (Operand.func 9), args := #[Operand.tmp 27], argTypes := #[23] }, type := 4, pos := "law.go:39", after := #[{ on := 1, ground := Ground.data }, { on := 0, ground := Ground.chain }, { on := 0, ground := Ground.guard }], guard := some (0, true) },
     { dst := some 29, op := Op.load 23 (Operand.tmp 11), type := 23, pos := "law.go:39", after := #[{ on := 0, ground := Ground.guard }], guard := some (0, true) },
     { dst := some 30, op := Op.call { callee := Callee.value (Operand.func 19), args := #[Operand.tmp 29], argTypes := #[23] }, type := 4, pos := "law.go:39", after := #[{ on := 3, ground := Ground.data }, { on := 2, ground := Ground.chain }, { on := 0, ground := Ground.guard }], guard := some (0, true) },
     { dst := some 31, op := Op.binOp BinOp.eql 4 (Operand.tmp 28) (Operand.tmp 30) 4, type := 4, pos := "law.go:39", after := #[{ on := 2, ground := Ground.data }, { on := 4, ground := Ground.data }, { on := 0, ground := Ground.guard }], guard := some (0, true) },
     { dst := some 32, op := Op.pick (Operand.tmp 26) (Operand.tmp 31) (Operand.const (Value.bool false)), type := 4, pos := "law.go:39", after := #[{ on := 0, ground := Ground.data }, { on := 5, ground := Ground.data }], guard := none },
     { dst := some 33, op := Op.move (Operand.tmp 32), type := 4, pos := "law.go:39", after := #[{ on := 6, ground := Ground.data }, { on := 4, ground := Ground.chain }], guard := none }],
    [{ dst := some 33, op := Op.move (Operand.tmp 32), type := 4, pos := "law.go:39", after := #[], guard := none },
     { dst := some 34, op := Op.load 23 (Operand.tmp 11), type := 23, pos := "law.go:39", after := #[{ on := 0, ground := Ground.guard }], guard := some (0, true) },
     { dst := some 35, op := Op.call { callee := Callee.value (Operand.func 16), args := #[Operand.tmp 34], argTypes := #[23] }, type := 23, pos := "law.go:39", after := #[{ on := 1, ground := Ground.data }, { on := 0, ground := Ground.chain }, { on := 0, ground := Ground.guard }], guard := some (0, true) },
     { dst := some 36, op := Op.load 23 (Operand.tmp 11), type := 23, pos := "law.go:39", after := #[{ on := 0, ground := Ground.guard }], guard := some (0, true) },
     { dst := some 37, op := Op.call { callee := Callee.value (Operand.func 20), args := #[Operand.tmp 36], argTypes := #[23] }, type := 23, pos := "law.go:39", after := #[{ on := 3, ground := Ground.data }, { on := 2, ground := Ground.chain }, { on := 0, ground := Ground.guard }], guard := some (0, true) },
     { dst := some 38, op := Op.binOp BinOp.eql 23 (Operand.tmp 35) (Operand.tmp 37) 23, type := 4, pos := "law.go:39", after := #[{ on := 2, ground := Ground.data }, { on := 4, ground := Ground.data }, { on := 0, ground := Ground.guard }], guard := some (0, true) },
     { dst := some 39, op := Op.pick (Operand.tmp 33) (Operand.tmp 38) (Operand.const (Value.bool false)), type := 4, pos := "law.go:39", after := #[{ on := 0, ground := Ground.data }, { on := 5, ground := Ground.data }], guard := none },
     { dst := some 40, op := Op.move (Operand.tmp 39), type := 4, pos := "law.go:39", after := #[{ on := 6, ground := Ground.data }, { on := 4, ground := Ground.chain }], guard := none }],
    [{ dst := some 40, op := Op.move (Operand.tmp 39), type := 4, pos := "law.go:39", after := #[], guard := none },
     { dst := some 41, op := Op.load 23 (Operand.tmp 11), type := 23, pos := "law.go:39", after := #[{ on := 0, ground := Ground.guard }], guard := some (0, true) },
     { dst := some 42, op := Op.call { callee := Callee.value (Operand.func 8), args := #[Operand.tmp 41], argTypes := #[23] }, type := 23, pos := "law.go:39", after := #[{ on := 1, ground := Ground.data }, { on := 0, ground := Ground.chain }, { on := 0, ground := Ground.guard }], guard := some (0, true) },
     { dst := some 43, op := Op.load 23 (Operand.tmp 11), type := 23, pos := "law.go:39", after := #[{ on := 0, ground := Ground.guard }], guard := some (0, true) },
     { dst := some 44, op := Op.call { callee := Callee.value (Operand.func 21), args := #[Operand.tmp 43], argTypes := #[23] }, type := 23, pos := "law.go:39", after := #[{ on := 3, ground := Ground.data }, { on := 2, ground := Ground.chain }, { on := 0, ground := Ground.guard }], guard := some (0, true) },
     { dst := some 45, op := Op.binOp BinOp.eql 23 (Operand.tmp 42) (Operand.tmp 44) 23, type := 4, pos := "law.go:39", after := #[{ on := 2, ground := Ground.data }, { on := 4, ground := Ground.data }, { on := 0, ground := Ground.guard }], guard := some (0, true) },
     { dst := some 46, op := Op.pick (Operand.tmp 40) (Operand.tmp 45) (Operand.const (Value.bool false)), type := 4, pos := "law.go:39", after := #[{ on := 0, ground := Ground.data }, { on := 5, ground := Ground.data }], guard := none },
     { dst := some 47, op := Op.move (Operand.tmp 46), type := 4, pos := "law.go:39", after := #[{ on := 6, ground := Ground.data }, { on := 4, ground := Ground.chain }], guard := none }],
    [{ dst := some 47, op := Op.move (Operand.tmp 46), type := 4, pos := "law.go:39", after := #[], guard := none },
     { dst := some 48, op := Op.load 23 (Operand.tmp 11), type := 23, pos := "law.go:39", after := #[{ on := 0, ground := Ground.guard }], guard := some (0, true) },
     { dst := some 49, op := Op.call { callee := Callee.value (Operand.func 10), args := #[Operand.tmp 48], argTypes := #[23] }, type := 4, pos := "law.go:39", after := #[{ on := 1, ground := Ground.data }, { on := 0, ground := Ground.chain }, { on := 0, ground := Ground.guard }], guard := some (0, true) },
     { dst := some 50, op := Op.load 23 (Operand.tmp 11), type := 23, pos := "law.go:39", after := #[{ on := 0, ground := Ground.guard }], guard := some (0, true) },
     { dst := some 51, op := Op.call { callee := Callee.value (Operand.func 22), args := #[Operand.tmp 50], argTypes := #[23] }, type := 4, pos := "law.go:39", after := #[{ on := 3, ground := Ground.data }, { on := 2, ground := Ground.chain }, { on := 0, ground := Ground.guard }], guard := some (0, true) },
     { dst := some 52, op := Op.binOp BinOp.eql 4 (Operand.tmp 49) (Operand.tmp 51) 4, type := 4, pos := "law.go:39", after := #[{ on := 2, ground := Ground.data }, { on := 4, ground := Ground.data }, { on := 0, ground := Ground.guard }], guard := some (0, true) },
     { dst := some 53, op := Op.pick (Operand.tmp 47) (Operand.tmp 52) (Operand.const (Value.bool false)), type := 4, pos := "law.go:39", after := #[{ on := 0, ground := Ground.data }, { on := 5, ground := Ground.data }], guard := none },
     { dst := some 54, op := Op.move (Operand.tmp 53), type := 4, pos := "law.go:39", after := #[{ on := 6, ground := Ground.data }, { on := 4, ground := Ground.chain }], guard := none }],
    [{ dst := some 54, op := Op.move (Operand.tmp 53), type := 4, pos := "law.go:39", after := #[], guard := none },
     { dst := some 55, op := Op.move (Operand.tmp 13), type := 3, pos := "law.go:39", after := #[{ on := 0, ground := Ground.guard }], guard := some (0, true) },
     { dst := some 56, op := Op.move (Operand.tmp 3), type := 3, pos := "law.go:39", after := #[{ on := 0, ground := Ground.guard }], guard := some (0, true) },
     { dst := some 57, op := Op.call { callee := Callee.value (Operand.func 15), args := #[Operand.tmp 55, Operand.tmp 56], argTypes := #[3, 3] }, type := 3, pos := "law.go:39", after := #[{ on := 1, ground := Ground.data }, { on := 2, ground := Ground.data }, { on := 0, ground := Ground.chain }, { on := 0, ground := Ground.guard }], guard := some (0, true) },
     { dst := some 58, op := Op.move (Operand.tmp 13), type := 3, pos := "law.go:39", after := #[{ on := 0, ground := Ground.guard }], guard := some (0, true) },
     { dst := some 59, op := Op.move (Operand.tmp 3), type := 3, pos := "law.go:39", after := #[{ on := 0, ground := Ground.guard }], guard := some (0, true) },
     { dst := some 60, op := Op.call { callee := Callee.value (Operand.func 23), args := #[Operand.tmp 58, Operand.tmp 59], argTypes := #[3, 3] }, type := 3, pos := "law.go:39", after := #[{ on := 4, ground := Ground.data }, { on := 5, ground := Ground.data }, { on := 3, ground := Ground.chain }, { on := 0, ground := Ground.guard }], guard := some (0, true) },
     { dst := some 61, op := Op.binOp BinOp.eql 3 (Operand.tmp 57) (Operand.tmp 60) 3, type := 4, pos := "law.go:39", after := #[{ on := 3, ground := Ground.data }, { on := 6, ground := Ground.data }, { on := 0, ground := Ground.guard }], guard := some (0, true) },
     { dst := some 62, op := Op.pick (Operand.tmp 54) (Operand.tmp 61) (Operand.const (Value.bool false)), type := 4, pos := "law.go:39", after := #[{ on := 0, ground := Ground.data }, { on := 7, ground := Ground.data }], guard := none },
     { dst := some 63, op := Op.move (Operand.tmp 62), type := 4, pos := "law.go:39", after := #[{ on := 8, ground := Ground.data }, { on := 6, ground := Ground.chain }], guard := none }],
    [{ dst := some 63, op := Op.move (Operand.tmp 62), type := 4, pos := "law.go:39", after := #[], guard := none },
     { dst := some 64, op := Op.move (Operand.tmp 13), type := 3, pos := "law.go:39", after := #[{ on := 0, ground := Ground.guard }], guard := some (0, true) },
     { dst := some 65, op := Op.indexAddr 34 (Operand.tmp 5) (Operand.const (Value.int IntKind.i64 0)), type := 0, pos := "law.go:39", after := #[{ on := 0, ground := Ground.guard }], guard := some (0, true) },
     { dst := some 66, op := Op.load 3 (Operand.tmp 65), type := 3, pos := "law.go:39", after := #[{ on := 2, ground := Ground.data }, { on := 0, ground := Ground.guard }], guard := some (0, true) },
     { dst := some 67, op := Op.call { callee := Callee.value (Operand.func 15), args := #[Operand.tmp 64, Operand.tmp 66], argTypes := #[3, 3] }, type := 3, pos := "law.go:39", after := #[{ on := 1, ground := Ground.data }, { on := 3, ground := Ground.data }, { on := 0, ground := Ground.chain }, { on := 0, ground := Ground.guard }], guard := some (0, true) },
     { dst := some 68, op := Op.move (Operand.tmp 13), type := 3, pos := "law.go:39", after := #[{ on := 0, ground := Ground.guard }], guard := some (0, true) },
     { dst := some 69, op := Op.indexAddr 34 (Operand.tmp 5) (Operand.const (Value.int IntKind.i64 0)), type := 0, pos := "law.go:39", after := #[{ on := 0, ground := Ground.guard }], guard := some (0, true) },
     { dst := some 70, op := Op.load 3 (Operand.tmp 69), type := 3, pos := "law.go:39", after := #[{ on := 6, ground := Ground.data }, { on := 0, ground := Ground.guard }], guard := some (0, true) },
     { dst := some 71, op := Op.call { callee := Callee.value (Operand.func 23), args := #[Operand.tmp 68, Operand.tmp 70], argTypes := #[3, 3] }, type := 3, pos := "law.go:39", after := #[{ on := 5, ground := Ground.data }, { on := 7, ground := Ground.data }, { on := 4, ground := Ground.chain }, { on := 0, ground := Ground.guard }], guard := some (0, true) },
     { dst := some 72, op := Op.binOp BinOp.eql 3 (Operand.tmp 67) (Operand.tmp 71) 3, type := 4, pos := "law.go:39", after := #[{ on := 4, ground := Ground.data }, { on := 8, ground := Ground.data }, { on := 0, ground := Ground.guard }], guard := some (0, true) },
     { dst := some 73, op := Op.pick (Operand.tmp 63) (Operand.tmp 72) (Operand.const (Value.bool false)), type := 4, pos := "law.go:39", after := #[{ on := 0, ground := Ground.data }, { on := 9, ground := Ground.data }], guard := none },
     { dst := some 74, op := Op.move (Operand.tmp 73), type := 4, pos := "law.go:39", after := #[{ on := 10, ground := Ground.data }, { on := 8, ground := Ground.chain }], guard := none }],
    [{ dst := some 74, op := Op.move (Operand.tmp 73), type := 4, pos := "law.go:39", after := #[], guard := none },
     { dst := some 75, op := Op.load 23 (Operand.tmp 11), type := 23, pos := "law.go:39", after := #[{ on := 0, ground := Ground.guard }], guard := some (0, true) },
     { dst := some 76, op := Op.move (Operand.tmp 13), type := 3, pos := "law.go:39", after := #[{ on := 0, ground := Ground.guard }], guard := some (0, true) },
     { dst := some 77, op := Op.call { callee := Callee.value (Operand.func 13), args := #[Operand.tmp 75, Operand.tmp 76], argTypes := #[23, 3] }, type := 23, pos := "law.go:39", after := #[{ on := 1, ground := Ground.data }, { on := 2, ground := Ground.data }, { on := 0, ground := Ground.chain }, { on := 0, ground := Ground.guard }], guard := some (0, true) },
     { dst := some 78, op := Op.load 23 (Operand.tmp 11), type := 23, pos := "law.go:39", after := #[{ on := 0, ground := Ground.guard }], guard := some (0, true) },
     { dst := some 79, op := Op.move (Operand.tmp 13), type := 3, pos := "law.go:39", after := #[{ on := 0, ground := Ground.guard }], guard := some (0, true) },
     { dst := some 80, op := Op.call { callee := Callee.value (Operand.func 24), args := #[Operand.tmp 78, Operand.tmp 79], argTypes := #[23, 3] }, type := 23, pos := "law.go:39", after := #[{ on := 4, ground := Ground.data }, { on := 5, ground := Ground.data }, { on := 3, ground := Ground.chain }, { on := 0, ground := Ground.guard }], guard := some (0, true) },
     { dst := some 81, op := Op.binOp BinOp.eql 23 (Operand.tmp 77) (Operand.tmp 80) 23, type := 4, pos := "law.go:39", after := #[{ on := 3, ground := Ground.data }, { on := 6, ground := Ground.data }, { on := 0, ground := Ground.guard }], guard := some (0, true) },
     { dst := some 82, op := Op.pick (Operand.tmp 74) (Operand.tmp 81) (Operand.const (Value.bool false)), type := 4, pos := "law.go:39", after := #[{ on := 0, ground := Ground.data }, { on := 7, ground := Ground.data }], guard := none },
     { dst := some 83, op := Op.move (Operand.tmp 82), type := 4, pos := "law.go:39", after := #[{ on := 8, ground := Ground.data }, { on := 6, ground := Ground.chain }], guard := none }],
    [{ dst := some 83, op := Op.move (Operand.tmp 82), type := 4, pos := "law.go:39", after := #[], guard := none },
     { dst := some 84, op := Op.load 23 (Operand.tmp 11), type := 23, pos := "law.go:39", after := #[{ on := 0, ground := Ground.guard }], guard := some (0, true) },
     { dst := some 85, op := Op.load 23 (Operand.tmp 12), type := 23, pos := "law.go:39", after := #[{ on := 0, ground := Ground.guard }], guard := some (0, true) },
     { dst := some 86, op := Op.call { callee := Callee.value (Operand.func 11), args := #[Operand.tmp 84, Operand.tmp 85], argTypes := #[23, 23] }, type := 23, pos := "law.go:39", after := #[{ on := 1, ground := Ground.data }, { on := 2, ground := Ground.data }, { on := 0, ground := Ground.chain }, { on := 0, ground := Ground.guard }], guard := some (0, true) },
     { dst := some 87, op := Op.load 23 (Operand.tmp 11), type := 23, pos := "law.go:39", after := #[{ on := 0, ground := Ground.guard }], guard := some (0, true) },
     { dst := some 88, op := Op.load 23 (Operand.tmp 12), type := 23, pos := "law.go:39", after := #[{ on := 0, ground := Ground.guard }], guard := some (0, true) },
     { dst := some 89, op := Op.call { callee := Callee.value (Operand.func 25), args := #[Operand.tmp 87, Operand.tmp 88], argTypes := #[23, 23] }, type := 23, pos := "law.go:39", after := #[{ on := 4, ground := Ground.data }, { on := 5, ground := Ground.data }, { on := 3, ground := Ground.chain }, { on := 0, ground := Ground.guard }], guard := some (0, true) },
     { dst := some 90, op := Op.binOp BinOp.eql 23 (Operand.tmp 86) (Operand.tmp 89) 23, type := 4, pos := "law.go:39", after := #[{ on := 3, ground := Ground.data }, { on := 6, ground := Ground.data }, { on := 0, ground := Ground.guard }], guard := some (0, true) },
     { dst := some 91, op := Op.pick (Operand.tmp 83) (Operand.tmp 90) (Operand.const (Value.bool false)), type := 4, pos := "law.go:39", after := #[{ on := 0, ground := Ground.data }, { on := 7, ground := Ground.data }], guard := none },
     { dst := some 92, op := Op.move (Operand.tmp 91), type := 4, pos := "law.go:39", after := #[{ on := 8, ground := Ground.data }, { on := 6, ground := Ground.chain }], guard := none }],
    [{ dst := some 92, op := Op.move (Operand.tmp 91), type := 4, pos := "law.go:39", after := #[], guard := none },
     { dst := some 93, op := Op.load 23 (Operand.tmp 11), type := 23, pos := "law.go:39", after := #[{ on := 0, ground := Ground.guard }], guard := some (0, true) },
     { dst := some 94, op := Op.load 23 (Operand.tmp 12), type := 23, pos := "law.go:39", after := #[{ on := 0, ground := Ground.guard }], guard := some (0, true) },
     { dst := some 95, op := Op.move (Operand.tmp 3), type := 3, pos := "law.go:39", after := #[{ on := 0, ground := Ground.guard }], guard := some (0, true) },
     { dst := some 96, op := Op.call { callee := Callee.value (Operand.func 12), args := #[Operand.tmp 93, Operand.tmp 94, Operand.tmp 95], argTypes := #[23, 23, 3] }, type := 23, pos := "law.go:39", after := #[{ on := 1, ground := Ground.data }, { on := 2, ground := Ground.data }, { on := 3, ground := Ground.data }, { on := 0, ground := Ground.chain }, { on := 0, ground := Ground.guard }], guard := some (0, true) },
     { dst := some 97, op := Op.load 23 (Operand.tmp 11), type := 23, pos := "law.go:39", after := #[{ on := 0, ground := Ground.guard }], guard := some (0, true) },
     { dst := some 98, op := Op.load 23 (Operand.tmp 12), type := 23, pos := "law.go:39", after := #[{ on := 0, ground := Ground.guard }], guard := some (0, true) },
     { dst := some 99, op := Op.move (Operand.tmp 3), type := 3, pos := "law.go:39", after := #[{ on := 0, ground := Ground.guard }], guard := some (0, true) },
     { dst := some 100, op := Op.call { callee := Callee.value (Operand.func 26), args := #[Operand.tmp 97, Operand.tmp 98, Operand.tmp 99], argTypes := #[23, 23, 3] }, type := 23, pos := "law.go:39", after := #[{ on := 5, ground := Ground.data }, { on := 6, ground := Ground.data }, { on := 7, ground := Ground.data }, { on := 4, ground := Ground.chain }, { on := 0, ground := Ground.guard }], guard := some (0, true) },
     { dst := some 101, op := Op.binOp BinOp.eql 23 (Operand.tmp 96) (Operand.tmp 100) 23, type := 4, pos := "law.go:39", after := #[{ on := 4, ground := Ground.data }, { on := 8, ground := Ground.data }, { on := 0, ground := Ground.guard }], guard := some (0, true) },
     { dst := some 102, op := Op.pick (Operand.tmp 92) (Operand.tmp 101) (Operand.const (Value.bool false)), type := 4, pos := "law.go:39", after := #[{ on := 0, ground := Ground.data }, { on := 9, ground := Ground.data }], guard := none },
     { dst := some 103, op := Op.move (Operand.tmp 102), type := 4, pos := "law.go:39", after := #[{ on := 10, ground := Ground.data }, { on := 8, ground := Ground.chain }], guard := none }],
    [{ dst := some 103, op := Op.move (Operand.tmp 102), type := 4, pos := "law.go:39", after := #[], guard := none },
     { dst := some 104, op := Op.load 23 (Operand.tmp 11), type := 23, pos := "law.go:39", after := #[{ on := 0, ground := Ground.guard }], guard := some (0, true) },
     { dst := some 105, op := Op.load 23 (Operand.tmp 12), type := 23, pos := "law.go:39", after := #[{ on := 0, ground := Ground.guard }], guard := some (0, true) },
     { dst := some 106, op := Op.move (Operand.tmp 3), type := 3, pos := "law.go:39", after := #[{ on := 0, ground := Ground.guard }], guard := some (0, true) },
     { dst := some 107, op := Op.call { callee := Callee.value (Operand.func 18), args := #[Operand.tmp 106, Operand.const (Value.int IntKind.i64 65600)], argTypes := #[3, 3] }, type := 3, pos := "law.go:39", after := #[{ on := 3, ground := Ground.data }, { on := 0, ground := Ground.chain }, { on := 0, ground := Ground.guard }], guard := some (0, true) },
     { dst := some 108, op := Op.call { callee := Callee.value (Operand.func 12), args := #[Operand.tmp 104, Operand.tmp 105, Operand.tmp 107], argTypes := #[23, 23, 3] }, type := 23, pos := "law.go:39", after := #[{ on := 1, ground := Ground.data }, { on := 2, ground := Ground.data }, { on := 4, ground := Ground.data }, { on := 4, ground := Ground.chain }, { on := 0, ground := Ground.guard }], guard := some (0, true) },
     { dst := some 109, op := Op.load 23 (Operand.tmp 11), type := 23, pos := "law.go:39", after := #[{ on := 0, ground := Ground.guard }], guard := some (0, true) },
     { dst := some 110, op := Op.load 23 (Operand.tmp 12), type := 23, pos := "law.go:39", after := #[{ on := 0, ground := Ground.guard }], guard := some (0, true) },
     { dst := some 111, op := Op.move (Operand.tmp 3), type := 3, pos := "law.go:39", after := #[{ on := 0, ground := Ground.guard }], guard := some (0, true) },
     { dst := some 112, op := Op.call { callee := Callee.value (Operand.func 18), args := #[Operand.tmp 111, Operand.const (Value.int IntKind.i64 65600)], argTypes := #[3, 3] }, type := 3, pos := "law.go:39", after := #[{ on := 8, ground := Ground.data }, { on := 5, ground := Ground.chain }, { on := 0, ground := Ground.guard }], guard := some (0, true) },
     { dst := some 113, op := Op.call { callee := Callee.value (Operand.func 26), args := #[Operand.tmp 109, Operand.tmp 110, Operand.tmp 112], argTypes := #[23, 23, 3] }, type := 23, pos := "law.go:39", after := #[{ on := 6, ground := Ground.data }, { on := 7, ground := Ground.data }, { on := 9, ground := Ground.data }, { on := 9, ground := Ground.chain }, { on := 0, ground := Ground.guard }], guard := some (0, true) },
     { dst := some 114, op := Op.binOp BinOp.eql 23 (Operand.tmp 108) (Operand.tmp 113) 23, type := 4, pos := "law.go:39", after := #[{ on := 5, ground := Ground.data }, { on := 10, ground := Ground.data }, { on := 0, ground := Ground.guard }], guard := some (0, true) },
     { dst := some 115, op := Op.pick (Operand.tmp 103) (Operand.tmp 114) (Operand.const (Value.bool false)), type := 4, pos := "law.go:39", after := #[{ on := 0, ground := Ground.data }, { on := 11, ground := Ground.data }], guard := none },
     { dst := some 116, op := Op.move (Operand.tmp 115), type := 4, pos := "law.go:39", after := #[{ on := 12, ground := Ground.data }, { on := 10, ground := Ground.chain }], guard := none }],
    [{ dst := some 116, op := Op.move (Operand.tmp 115), type := 4, pos := "law.go:39", after := #[], guard := none },
     { dst := some 117, op := Op.load 23 (Operand.tmp 11), type := 23, pos := "law.go:39", after := #[{ on := 0, ground := Ground.guard }], guard := some (0, true) },
     { dst := some 118, op := Op.load 23 (Operand.tmp 12), type := 23, pos := "law.go:39", after := #[{ on := 0, ground := Ground.guard }], guard := some (0, true) },
     { dst := some 119, op := Op.buildSlice 32 2 #[(0, Operand.tmp 117), (1, Operand.tmp 118)], type := 32, pos := "law.go:39", after := #[{ on := 1, ground := Ground.data }, { on := 2, ground := Ground.data }, { on := 0, ground := Ground.guard }], guard := some (0, true) },
     { dst := some 120, op := Op.call { callee := Callee.value (Operand.func 14), args := #[Operand.tmp 119], argTypes := #[32] }, type := 30, pos := "law.go:39", after := #[{ on := 3, ground := Ground.data }, { on := 0, ground := Ground.chain }, { on := 0, ground := Ground.guard }], guard := some (0, true) },
     { dst := some 121, op := Op.convert 30 9 (Operand.tmp 120), type := 9, pos := "law.go:39", after := #[{ on := 4, ground := Ground.data }, { on := 0, ground := Ground.guard }], guard := some (0, true) },
     { dst := some 122, op := Op.load 23 (Operand.tmp 11), type := 23, pos := "law.go:39", after := #[{ on := 0, ground := Ground.guard }], guard := some (0, true) },
     { dst := some 123, op := Op.load 23 (Operand.tmp 12), type := 23, pos := "law.go:39", after := #[{ on := 0, ground := Ground.guard }], guard := some (0, true) },
     { dst := some 124, op := Op.buildSlice 32 2 #[(0, Operand.tmp 122), (1, Operand.tmp 123)], type := 32, pos := "law.go:39", after := #[{ on := 6, ground := Ground.data }, { on := 7, ground := Ground.data }, { on := 0, ground := Ground.guard }], guard := some (0, true) },
     { dst := some 125, op := Op.call { callee := Callee.value (Operand.func 27), args := #[Operand.tmp 124], argTypes := #[32] }, type := 30, pos := "law.go:39", after := #[{ on := 8, ground := Ground.data }, { on := 4, ground := Ground.chain }, { on := 0, ground := Ground.guard }], guard := some (0, true) },
     { dst := some 126, op := Op.convert 30 9 (Operand.tmp 125), type := 9, pos := "law.go:39", after := #[{ on := 9, ground := Ground.data }, { on := 0, ground := Ground.guard }], guard := some (0, true) },
     { dst := some 127, op := Op.binOp BinOp.eql 9 (Operand.tmp 121) (Operand.tmp 126) 9, type := 4, pos := "law.go:39", after := #[{ on := 5, ground := Ground.data }, { on := 10, ground := Ground.data }, { on := 0, ground := Ground.guard }], guard := some (0, true) },
     { dst := some 128, op := Op.pick (Operand.tmp 116) (Operand.tmp 127) (Operand.const (Value.bool false)), type := 4, pos := "law.go:39", after := #[{ on := 0, ground := Ground.data }, { on := 11, ground := Ground.data }], guard := none },
     { dst := some 10, op := Op.assign (Operand.tmp 128), type := 4, pos := "law.go:39", after := #[{ on := 12, ground := Ground.data }, { on := 9, ground := Ground.chain }, { on := 0, ground := Ground.phase }, { on := 1, ground := Ground.phase }, { on := 2, ground := Ground.phase }, { on := 3, ground := Ground.phase }, { on := 4, ground := Ground.phase }, { on := 5, ground := Ground.phase }, { on := 6, ground := Ground.phase }, { on := 7, ground := Ground.phase }, { on := 8, ground := Ground.phase }, { on := 9, ground := Ground.phase }, { on := 10, ground := Ground.phase }, { on := 11, ground := Ground.phase }, { on := 12, ground := Ground.phase }], guard := none }]
    ] (by kernel_rfl) (by kernel_rfl) (by kernel_rfl) ?_
  obtain ⟨U, hU⟩ : ∃ x, x = V.drew := ⟨_, rfl⟩
  have B0 : Below V.heap.size V U := by rw [hU]; exact below_drewN (Below.refl _ V) 1
  rw [← hU]
  clear hU
  refine chain_held 2 (fun w' => Below U.heap.size U w') (by kernel_rfl) ?_
  refine wpAnyH_ready (rs := [0]) (by kernel_rfl) (by simp) ?_
  refine AllReadyH.cons (o := { dst := some 25, op := Op.call { callee := Callee.value (Operand.func 7), args := #[], argTypes := #[] }, type := 4, pos := "law.go:39", after := #[], guard := none }) rfl (fun K hK => ?_) ?_
  · go_simp
    go_at_call 7
    refine (known_any _).mono ?_
    rintro e w1 ⟨rfl, b1⟩
    go_wp2_with fail
    have B1 := B0.trans (b1.mono B0.size)
    refine (Shut.stronger hK (fun w' => Below w1.heap.size w1 w') (fun w' h => b1.trans (h.mono b1.size))).out _ _ (Below.refl _ _) (fun _ => ?_)
    clear hK K
    try simp only [Act.put, List.setIfInBounds_toArray, List.set_cons_zero, List.set_cons_succ]
    refine wpAnyH_take (i := 1) (oi := { dst := some 26, op := Op.move (Operand.tmp 25), type := 4, pos := "law.go:39", after := #[{ on := 0, ground := Ground.data }, { on := 0, ground := Ground.chain }], guard := none }) (v := ?_) rfl (by kernel_rfl) (by kernel_rfl) (by kernel_rfl) (fun _ _ _ h => h) (Or.inl ⟨by rfl, ?_⟩) (Below.refl _ _) ?_
    rotate_left
    · (intro w' hSw; go_simp) <;> with_reducible rfl
    try simp only [Act.put, List.setIfInBounds_toArray, List.set_cons_zero, List.set_cons_succ]
    refine wpAnyH_done (by kernel_rfl) ?_ _
    refine segQ_end ?_
    refine chain_held 7 (fun w' => Below w1.heap.size w1 w') (by kernel_rfl) ?_
    refine wpAnyH_take (i := 1) (oi := { dst := some 27, op := Op.load 23 (Operand.tmp 11), type := 23, pos := "law.go:39", after := #[{ on := 0, ground := Ground.guard }], guard := some (0, true) }) (v := ?_) rfl (by kernel_rfl) (by kernel_rfl) (by kernel_rfl) (fun _ _ _ h => h) (Or.inl ⟨by rfl, ?_⟩) (Below.refl _ _) ?_
    rotate_left
    · (intro w' hSw; have hX := B1.trans (hSw.mono B1.size); have kp0 := p0 w' hX; have kp1 := p1 w' hX; have kp2 := p2 w' hX; have kp3 := p3 w' hX; go_simp) <;> with_reducible rfl
    try simp only [Act.put, List.setIfInBounds_toArray, List.set_cons_zero, List.set_cons_succ]
    refine wpAnyH_take (i := 3) (oi := { dst := some 29, op := Op.load 23 (Operand.tmp 11), type := 23, pos := "law.go:39", after := #[{ on := 0, ground := Ground.guard }], guard := some (0, true) }) (v := ?_) rfl (by kernel_rfl) (by kernel_rfl) (by kernel_rfl) (fun _ _ _ h => h) (Or.inl ⟨by rfl, ?_⟩) (Below.refl _ _) ?_
    rotate_left
    · (intro w' hSw; have hX := B1.trans (hSw.mono B1.size); have kp0 := p0 w' hX; have kp1 := p1 w' hX; have kp2 := p2 w' hX; have kp3 := p3 w' hX; go_simp) <;> with_reducible rfl
    try simp only [Act.put, List.setIfInBounds_toArray, List.set_cons_zero, List.set_cons_succ]
    refine wpAnyH_ready (rs := [2]) (by kernel_rfl) (by simp) ?_
    refine AllReadyH.cons (o := { dst := some 28, op := Op.call { callee := Callee.value (Operand.func 9), args := #[Operand.tmp 27], argTypes := #[23] }, type := 4, pos := "law.go:39", after := #[{ on := 1, ground := Ground.data }, { on := 0, ground := Ground.chain }, { on := 0, ground := Ground.guard }], guard := some (0, true) }) rfl (fun K hK => ?_) ?_
    · go_simp
      go_at_call 9
      refine (F0a _).mono ?_
      rintro e w2 ⟨rfl, b2⟩
      go_wp2_with fail
      have B2 := B1.trans (b2.mono B1.size)
      refine (Shut.stronger hK (fun w' => Below w2.heap.size w2 w') (fun w' h => b2.trans (h.mono b2.size))).out _ _ (Below.refl _ _) (fun _ => ?_)
      clear hK K
      try simp only [Act.put, List.setIfInBounds_toArray, List.set_cons_zero, List.set_cons_succ]
      refine wpAnyH_ready (rs := [4]) (by kernel_rfl) (by simp) ?_
      refine AllReadyH.cons (o := { dst := some 30, op := Op.call { callee := Callee.value (Operand.func 19), args := #[Operand.tmp 29], argTypes := #[23] }, type := 4, pos := "law.go:39", after := #[{ on := 3, ground := Ground.data }, { on := 2, ground := Ground.chain }, { on := 0, ground := Ground.guard }], guard := some (0, true) }) rfl (fun K hK => ?_) ?_
      · go_simp
        go_at_call 19
        refine (F0b _).mono ?_
        rintro e w3 ⟨rfl, b3⟩
        go_wp2_with fail
        have B3 := B2.trans (b3.mono B2.size)
        refine (Shut.stronger hK (fun w' => Below w3.heap.size w3 w') (fun w' h => b3.trans (h.mono b3.size))).out _ _ (Below.refl _ _) (fun _ => ?_)
        clear hK K
        try simp only [Act.put, List.setIfInBounds_toArray, List.set_cons_zero, List.set_cons_succ]
        refine wpAnyH_take (i := 5) (oi := { dst := some 31, op := Op.binOp BinOp.eql 4 (Operand.tmp 28) (Operand.tmp 30) 4, type := 4, pos := "law.go:39", after := #[{ on := 2, ground := Ground.data }, { on := 4, ground := Ground.data }, { on := 0, ground := Ground.guard }], guard := some (0, true) }) (v := ?_) rfl (by kernel_rfl) (by kernel_rfl) (by kernel_rfl) (fun _ _ _ h => h) (Or.inl ⟨by rfl, ?_⟩) (Below.refl _ _) ?_
        rotate_left
        · (intro w' hSw; go_simp) <;> with_reducible rfl
        try simp only [Act.put, List.setIfInBounds_toArray, List.set_cons_zero, List.set_cons_succ]
        refine wpAnyH_take (i := 6) (oi := { dst := some 32, op := Op.pick (Operand.tmp 26) (Operand.tmp 31) (Operand.const (Value.bool false)), type := 4, pos := "law.go:39", after := #[{ on := 0, ground := Ground.data }, { on := 5, ground := Ground.data }], guard := none }) (v := ?_) rfl (by kernel_rfl) (by kernel_rfl) (by kernel_rfl) (fun _ _ _ h => h) (Or.inl ⟨by rfl, ?_⟩) (Below.refl _ _) ?_
        rotate_left
        · (intro w' hSw; go_simp) <;> with_reducible rfl
        try simp only [Act.put, List.setIfInBounds_toArray, List.set_cons_zero, List.set_cons_succ]
        refine wpAnyH_take (i := 7) (oi := { dst := some 33, op := Op.move (Operand.tmp 32), type := 4, pos := "law.go:39", after := #[{ on := 6, ground := Ground.data }, { on := 4, ground := Ground.chain }], guard := none }) (v := ?_) rfl (by kernel_rfl) (by kernel_rfl) (by kernel_rfl) (fun _ _ _ h => h) (Or.inl ⟨by rfl, ?_⟩) (Below.refl _ _) ?_
        rotate_left
        · (intro w' hSw; go_simp) <;> with_reducible rfl
        try simp only [Act.put, List.setIfInBounds_toArray, List.set_cons_zero, List.set_cons_succ]
        refine wpAnyH_done (by kernel_rfl) ?_ _
        refine segQ_end ?_
        refine chain_held 7 (fun w' => Below w3.heap.size w3 w') (by kernel_rfl) ?_
        refine wpAnyH_take (i := 1) (oi := { dst := some 34, op := Op.load 23 (Operand.tmp 11), type := 23, pos := "law.go:39", after := #[{ on := 0, ground := Ground.guard }], guard := some (0, true) }) (v := ?_) rfl (by kernel_rfl) (by kernel_rfl) (by kernel_rfl) (fun _ _ _ h => h) (Or.inl ⟨by rfl, ?_⟩) (Below.refl _ _) ?_
        rotate_left
        · (intro w' hSw; have hX := B3.trans (hSw.mono B3.size); have kp0 := p0 w' hX; have kp1 := p1 w' hX; have kp2 := p2 w' hX; have kp3 := p3 w' hX; go_simp) <;> with_reducible rfl
        try simp only [Act.put, List.setIfInBounds_toArray, List.set_cons_zero, List.set_cons_succ]
        refine wpAnyH_take (i := 3) (oi := { dst := some 36, op := Op.load 23 (Operand.tmp 11), type := 23, pos := "law.go:39", after := #[{ on := 0, ground := Ground.guard }], guard := some (0, true) }) (v := ?_) rfl (by kernel_rfl) (by kernel_rfl) (by kernel_rfl) (fun _ _ _ h => h) (Or.inl ⟨by rfl, ?_⟩) (Below.refl _ _) ?_
        rotate_left
        · (intro w' hSw; have hX := B3.trans (hSw.mono B3.size); have kp0 := p0 w' hX; have kp1 := p1 w' hX; have kp2 := p2 w' hX; have kp3 := p3 w' hX; go_simp) <;> with_reducible rfl
        try simp only [Act.put, List.setIfInBounds_toArray, List.set_cons_zero, List.set_cons_succ]
        refine wpAnyH_ready (rs := [2]) (by kernel_rfl) (by simp) ?_
        refine AllReadyH.cons (o := { dst := some 35, op := Op.call { callee := Callee.value (Operand.func 16), args := #[Operand.tmp 34], argTypes := #[23] }, type := 23, pos := "law.go:39", after := #[{ on := 1, ground := Ground.data }, { on := 0, ground := Ground.chain }, { on := 0, ground := Ground.guard }], guard := some (0, true) }) rfl (fun K hK => ?_) ?_
        · go_simp
          go_at_call 16
          refine (F1a _).mono ?_
          rintro e w4 ⟨rfl, b4⟩
          go_wp2_with fail
          have B4 := B3.trans (b4.mono B3.size)
          refine (Shut.stronger hK (fun w' => Below w4.heap.size w4 w') (fun w' h => b4.trans (h.mono b4.size))).out _ _ (Below.refl _ _) (fun _ => ?_)
          clear hK K
          try simp only [Act.put, List.setIfInBounds_toArray, List.set_cons_zero, List.set_cons_succ]
          refine wpAnyH_ready (rs := [4]) (by kernel_rfl) (by simp) ?_
          refine AllReadyH.cons (o := { dst := some 37, op := Op.call { callee := Callee.value (Operand.func 20), args := #[Operand.tmp 36], argTypes := #[23] }, type := 23, pos := "law.go:39", after := #[{ on := 3, ground := Ground.data }, { on := 2, ground := Ground.chain }, { on := 0, ground := Ground.guard }], guard := some (0, true) }) rfl (fun K hK => ?_) ?_
          · go_simp
            go_at_call 20
            refine (F1b _).mono ?_
            rintro e w5 ⟨rfl, b5⟩
            go_wp2_with fail
            have B5 := B4.trans (b5.mono B4.size)
            refine (Shut.stronger hK (fun w' => Below w5.heap.size w5 w') (fun w' h => b5.trans (h.mono b5.size))).out _ _ (Below.refl _ _) (fun _ => ?_)
            clear hK K
            try simp only [Act.put, List.setIfInBounds_toArray, List.set_cons_zero, List.set_cons_succ]
            refine wpAnyH_take (i := 5) (oi := { dst := some 38, op := Op.binOp BinOp.eql 23 (Operand.tmp 35) (Operand.tmp 37) 23, type := 4, pos := "law.go:39", after := #[{ on := 2, ground := Ground.data }, { on := 4, ground := Ground.data }, { on := 0, ground := Ground.guard }], guard := some (0, true) }) (v := ?_) rfl (by kernel_rfl) (by kernel_rfl) (by kernel_rfl) (fun _ _ _ h => h) (Or.inl ⟨by rfl, ?_⟩) (Below.refl _ _) ?_
            rotate_left
            · (intro w' hSw; go_simp) <;> with_reducible rfl
            try simp only [Act.put, List.setIfInBounds_toArray, List.set_cons_zero, List.set_cons_succ]
            refine wpAnyH_take (i := 6) (oi := { dst := some 39, op := Op.pick (Operand.tmp 33) (Operand.tmp 38) (Operand.const (Value.bool false)), type := 4, pos := "law.go:39", after := #[{ on := 0, ground := Ground.data }, { on := 5, ground := Ground.data }], guard := none }) (v := ?_) rfl (by kernel_rfl) (by kernel_rfl) (by kernel_rfl) (fun _ _ _ h => h) (Or.inl ⟨by rfl, ?_⟩) (Below.refl _ _) ?_
            rotate_left
            · (intro w' hSw; go_simp) <;> with_reducible rfl
            try simp only [Act.put, List.setIfInBounds_toArray, List.set_cons_zero, List.set_cons_succ]
            refine wpAnyH_take (i := 7) (oi := { dst := some 40, op := Op.move (Operand.tmp 39), type := 4, pos := "law.go:39", after := #[{ on := 6, ground := Ground.data }, { on := 4, ground := Ground.chain }], guard := none }) (v := ?_) rfl (by kernel_rfl) (by kernel_rfl) (by kernel_rfl) (fun _ _ _ h => h) (Or.inl ⟨by rfl, ?_⟩) (Below.refl _ _) ?_
            rotate_left
            · (intro w' hSw; go_simp) <;> with_reducible rfl
            try simp only [Act.put, List.setIfInBounds_toArray, List.set_cons_zero, List.set_cons_succ]
            refine wpAnyH_done (by kernel_rfl) ?_ _
            refine segQ_end ?_
            refine chain_held 7 (fun w' => Below w5.heap.size w5 w') (by kernel_rfl) ?_
            refine wpAnyH_take (i := 1) (oi := { dst := some 41, op := Op.load 23 (Operand.tmp 11), type := 23, pos := "law.go:39", after := #[{ on := 0, ground := Ground.guard }], guard := some (0, true) }) (v := ?_) rfl (by kernel_rfl) (by kernel_rfl) (by kernel_rfl) (fun _ _ _ h => h) (Or.inl ⟨by rfl, ?_⟩) (Below.refl _ _) ?_
            rotate_left
            · (intro w' hSw; have hX := B5.trans (hSw.mono B5.size); have kp0 := p0 w' hX; have kp1 := p1 w' hX; have kp2 := p2 w' hX; have kp3 := p3 w' hX; go_simp) <;> with_reducible rfl
            try simp only [Act.put, List.setIfInBounds_toArray, List.set_cons_zero, List.set_cons_succ]
            refine wpAnyH_take (i := 3) (oi := { dst := some 43, op := Op.load 23 (Operand.tmp 11), type := 23, pos := "law.go:39", after := #[{ on := 0, ground := Ground.guard }], guard := some (0, true) }) (v := ?_) rfl (by kernel_rfl) (by kernel_rfl) (by kernel_rfl) (fun _ _ _ h => h) (Or.inl ⟨by rfl, ?_⟩) (Below.refl _ _) ?_
            rotate_left
            · (intro w' hSw; have hX := B5.trans (hSw.mono B5.size); have kp0 := p0 w' hX; have kp1 := p1 w' hX; have kp2 := p2 w' hX; have kp3 := p3 w' hX; go_simp) <;> with_reducible rfl
            try simp only [Act.put, List.setIfInBounds_toArray, List.set_cons_zero, List.set_cons_succ]
            refine wpAnyH_ready (rs := [2]) (by kernel_rfl) (by simp) ?_
            refine AllReadyH.cons (o := { dst := some 42, op := Op.call { callee := Callee.value (Operand.func 8), args := #[Operand.tmp 41], argTypes := #[23] }, type := 23, pos := "law.go:39", after := #[{ on := 1, ground := Ground.data }, { on := 0, ground := Ground.chain }, { on := 0, ground := Ground.guard }], guard := some (0, true) }) rfl (fun K hK => ?_) ?_
            · go_simp
              go_at_call 8
              refine (F2a _).mono ?_
              rintro e w6 ⟨rfl, b6⟩
              go_wp2_with fail
              have B6 := B5.trans (b6.mono B5.size)
              refine (Shut.stronger hK (fun w' => Below w6.heap.size w6 w') (fun w' h => b6.trans (h.mono b6.size))).out _ _ (Below.refl _ _) (fun _ => ?_)
              clear hK K
              try simp only [Act.put, List.setIfInBounds_toArray, List.set_cons_zero, List.set_cons_succ]
              refine wpAnyH_ready (rs := [4]) (by kernel_rfl) (by simp) ?_
              refine AllReadyH.cons (o := { dst := some 44, op := Op.call { callee := Callee.value (Operand.func 21), args := #[Operand.tmp 43], argTypes := #[23] }, type := 23, pos := "law.go:39", after := #[{ on := 3, ground := Ground.data }, { on := 2, ground := Ground.chain }, { on := 0, ground := Ground.guard }], guard := some (0, true) }) rfl (fun K hK => ?_) ?_
              · go_simp
                go_at_call 21
                refine (F2b _).mono ?_
                rintro e w7 ⟨rfl, b7⟩
                go_wp2_with fail
                have B7 := B6.trans (b7.mono B6.size)
                refine (Shut.stronger hK (fun w' => Below w7.heap.size w7 w') (fun w' h => b7.trans (h.mono b7.size))).out _ _ (Below.refl _ _) (fun _ => ?_)
                clear hK K
                try simp only [Act.put, List.setIfInBounds_toArray, List.set_cons_zero, List.set_cons_succ]
                refine wpAnyH_take (i := 5) (oi := { dst := some 45, op := Op.binOp BinOp.eql 23 (Operand.tmp 42) (Operand.tmp 44) 23, type := 4, pos := "law.go:39", after := #[{ on := 2, ground := Ground.data }, { on := 4, ground := Ground.data }, { on := 0, ground := Ground.guard }], guard := some (0, true) }) (v := ?_) rfl (by kernel_rfl) (by kernel_rfl) (by kernel_rfl) (fun _ _ _ h => h) (Or.inl ⟨by rfl, ?_⟩) (Below.refl _ _) ?_
                rotate_left
                · (intro w' hSw; go_simp) <;> with_reducible rfl
                try simp only [Act.put, List.setIfInBounds_toArray, List.set_cons_zero, List.set_cons_succ]
                refine wpAnyH_take (i := 6) (oi := { dst := some 46, op := Op.pick (Operand.tmp 40) (Operand.tmp 45) (Operand.const (Value.bool false)), type := 4, pos := "law.go:39", after := #[{ on := 0, ground := Ground.data }, { on := 5, ground := Ground.data }], guard := none }) (v := ?_) rfl (by kernel_rfl) (by kernel_rfl) (by kernel_rfl) (fun _ _ _ h => h) (Or.inl ⟨by rfl, ?_⟩) (Below.refl _ _) ?_
                rotate_left
                · (intro w' hSw; go_simp) <;> with_reducible rfl
                try simp only [Act.put, List.setIfInBounds_toArray, List.set_cons_zero, List.set_cons_succ]
                refine wpAnyH_take (i := 7) (oi := { dst := some 47, op := Op.move (Operand.tmp 46), type := 4, pos := "law.go:39", after := #[{ on := 6, ground := Ground.data }, { on := 4, ground := Ground.chain }], guard := none }) (v := ?_) rfl (by kernel_rfl) (by kernel_rfl) (by kernel_rfl) (fun _ _ _ h => h) (Or.inl ⟨by rfl, ?_⟩) (Below.refl _ _) ?_
                rotate_left
                · (intro w' hSw; go_simp) <;> with_reducible rfl
                try simp only [Act.put, List.setIfInBounds_toArray, List.set_cons_zero, List.set_cons_succ]
                refine wpAnyH_done (by kernel_rfl) ?_ _
                refine segQ_end ?_
                refine chain_held 7 (fun w' => Below w7.heap.size w7 w') (by kernel_rfl) ?_
                refine wpAnyH_take (i := 1) (oi := { dst := some 48, op := Op.load 23 (Operand.tmp 11), type := 23, pos := "law.go:39", after := #[{ on := 0, ground := Ground.guard }], guard := some (0, true) }) (v := ?_) rfl (by kernel_rfl) (by kernel_rfl) (by kernel_rfl) (fun _ _ _ h => h) (Or.inl ⟨by rfl, ?_⟩) (Below.refl _ _) ?_
                rotate_left
                · (intro w' hSw; have hX := B7.trans (hSw.mono B7.size); have kp0 := p0 w' hX; have kp1 := p1 w' hX; have kp2 := p2 w' hX; have kp3 := p3 w' hX; go_simp) <;> with_reducible rfl
                try simp only [Act.put, List.setIfInBounds_toArray, List.set_cons_zero, List.set_cons_succ]
                refine wpAnyH_take (i := 3) (oi := { dst := some 50, op := Op.load 23 (Operand.tmp 11), type := 23, pos := "law.go:39", after := #[{ on := 0, ground := Ground.guard }], guard := some (0, true) }) (v := ?_) rfl (by kernel_rfl) (by kernel_rfl) (by kernel_rfl) (fun _ _ _ h => h) (Or.inl ⟨by rfl, ?_⟩) (Below.refl _ _) ?_
                rotate_left
                · (intro w' hSw; have hX := B7.trans (hSw.mono B7.size); have kp0 := p0 w' hX; have kp1 := p1 w' hX; have kp2 := p2 w' hX; have kp3 := p3 w' hX; go_simp) <;> with_reducible rfl
                try simp only [Act.put, List.setIfInBounds_toArray, List.set_cons_zero, List.set_cons_succ]
                refine wpAnyH_ready (rs := [2]) (by kernel_rfl) (by simp) ?_
                refine AllReadyH.cons (o := { dst := some 49, op := Op.call { callee := Callee.value (Operand.func 10), args := #[Operand.tmp 48], argTypes := #[23] }, type := 4, pos := "law.go:39", after := #[{ on := 1, ground := Ground.data }, { on := 0, ground := Ground.chain }, { on := 0, ground := Ground.guard }], guard := some (0, true) }) rfl (fun K hK => ?_) ?_
                · go_simp
                  go_at_call 10
                  refine (F3a _).mono ?_
                  rintro e w8 ⟨rfl, b8⟩
                  go_wp2_with fail
                  have B8 := B7.trans (b8.mono B7.size)
                  refine (Shut.stronger hK (fun w' => Below w8.heap.size w8 w') (fun w' h => b8.trans (h.mono b8.size))).out _ _ (Below.refl _ _) (fun _ => ?_)
                  clear hK K
                  try simp only [Act.put, List.setIfInBounds_toArray, List.set_cons_zero, List.set_cons_succ]
                  refine wpAnyH_ready (rs := [4]) (by kernel_rfl) (by simp) ?_
                  refine AllReadyH.cons (o := { dst := some 51, op := Op.call { callee := Callee.value (Operand.func 22), args := #[Operand.tmp 50], argTypes := #[23] }, type := 4, pos := "law.go:39", after := #[{ on := 3, ground := Ground.data }, { on := 2, ground := Ground.chain }, { on := 0, ground := Ground.guard }], guard := some (0, true) }) rfl (fun K hK => ?_) ?_
                  · go_simp
                    go_at_call 22
                    refine (F3b _).mono ?_
                    rintro e w9 ⟨rfl, b9⟩
                    go_wp2_with fail
                    have B9 := B8.trans (b9.mono B8.size)
                    refine (Shut.stronger hK (fun w' => Below w9.heap.size w9 w') (fun w' h => b9.trans (h.mono b9.size))).out _ _ (Below.refl _ _) (fun _ => ?_)
                    clear hK K
                    try simp only [Act.put, List.setIfInBounds_toArray, List.set_cons_zero, List.set_cons_succ]
                    refine wpAnyH_take (i := 5) (oi := { dst := some 52, op := Op.binOp BinOp.eql 4 (Operand.tmp 49) (Operand.tmp 51) 4, type := 4, pos := "law.go:39", after := #[{ on := 2, ground := Ground.data }, { on := 4, ground := Ground.data }, { on := 0, ground := Ground.guard }], guard := some (0, true) }) (v := ?_) rfl (by kernel_rfl) (by kernel_rfl) (by kernel_rfl) (fun _ _ _ h => h) (Or.inl ⟨by rfl, ?_⟩) (Below.refl _ _) ?_
                    rotate_left
                    · (intro w' hSw; go_simp) <;> with_reducible rfl
                    try simp only [Act.put, List.setIfInBounds_toArray, List.set_cons_zero, List.set_cons_succ]
                    refine wpAnyH_take (i := 6) (oi := { dst := some 53, op := Op.pick (Operand.tmp 47) (Operand.tmp 52) (Operand.const (Value.bool false)), type := 4, pos := "law.go:39", after := #[{ on := 0, ground := Ground.data }, { on := 5, ground := Ground.data }], guard := none }) (v := ?_) rfl (by kernel_rfl) (by kernel_rfl) (by kernel_rfl) (fun _ _ _ h => h) (Or.inl ⟨by rfl, ?_⟩) (Below.refl _ _) ?_
                    rotate_left
                    · (intro w' hSw; go_simp) <;> with_reducible rfl
                    try simp only [Act.put, List.setIfInBounds_toArray, List.set_cons_zero, List.set_cons_succ]
                    refine wpAnyH_take (i := 7) (oi := { dst := some 54, op := Op.move (Operand.tmp 53), type := 4, pos := "law.go:39", after := #[{ on := 6, ground := Ground.data }, { on := 4, ground := Ground.chain }], guard := none }) (v := ?_) rfl (by kernel_rfl) (by kernel_rfl) (by kernel_rfl) (fun _ _ _ h => h) (Or.inl ⟨by rfl, ?_⟩) (Below.refl _ _) ?_
                    rotate_left
                    · (intro w' hSw; go_simp) <;> with_reducible rfl
                    try simp only [Act.put, List.setIfInBounds_toArray, List.set_cons_zero, List.set_cons_succ]
                    refine wpAnyH_done (by kernel_rfl) ?_ _
                    refine segQ_end ?_
                    refine chain_held 9 (fun w' => Below w9.heap.size w9 w') (by kernel_rfl) ?_
                    refine wpAnyH_take (i := 1) (oi := { dst := some 55, op := Op.move (Operand.tmp 13), type := 3, pos := "law.go:39", after := #[{ on := 0, ground := Ground.guard }], guard := some (0, true) }) (v := ?_) rfl (by kernel_rfl) (by kernel_rfl) (by kernel_rfl) (fun _ _ _ h => h) (Or.inl ⟨by rfl, ?_⟩) (Below.refl _ _) ?_
                    rotate_left
                    · (intro w' hSw; go_simp) <;> with_reducible rfl
                    try simp only [Act.put, List.setIfInBounds_toArray, List.set_cons_zero, List.set_cons_succ]
                    refine wpAnyH_take (i := 2) (oi := { dst := some 56, op := Op.move (Operand.tmp 3), type := 3, pos := "law.go:39", after := #[{ on := 0, ground := Ground.guard }], guard := some (0, true) }) (v := ?_) rfl (by kernel_rfl) (by kernel_rfl) (by kernel_rfl) (fun _ _ _ h => h) (Or.inl ⟨by rfl, ?_⟩) (Below.refl _ _) ?_
                    rotate_left
                    · (intro w' hSw; go_simp) <;> with_reducible rfl
                    try simp only [Act.put, List.setIfInBounds_toArray, List.set_cons_zero, List.set_cons_succ]
                    refine wpAnyH_take (i := 4) (oi := { dst := some 58, op := Op.move (Operand.tmp 13), type := 3, pos := "law.go:39", after := #[{ on := 0, ground := Ground.guard }], guard := some (0, true) }) (v := ?_) rfl (by kernel_rfl) (by kernel_rfl) (by kernel_rfl) (fun _ _ _ h => h) (Or.inl ⟨by rfl, ?_⟩) (Below.refl _ _) ?_
                    rotate_left
                    · (intro w' hSw; go_simp) <;> with_reducible rfl
                    try simp only [Act.put, List.setIfInBounds_toArray, List.set_cons_zero, List.set_cons_succ]
                    refine wpAnyH_take (i := 5) (oi := { dst := some 59, op := Op.move (Operand.tmp 3), type := 3, pos := "law.go:39", after := #[{ on := 0, ground := Ground.guard }], guard := some (0, true) }) (v := ?_) rfl (by kernel_rfl) (by kernel_rfl) (by kernel_rfl) (fun _ _ _ h => h) (Or.inl ⟨by rfl, ?_⟩) (Below.refl _ _) ?_
                    rotate_left
                    · (intro w' hSw; go_simp) <;> with_reducible rfl
                    try simp only [Act.put, List.setIfInBounds_toArray, List.set_cons_zero, List.set_cons_succ]
                    refine wpAnyH_ready (rs := [3]) (by kernel_rfl) (by simp) ?_
                    refine AllReadyH.cons (o := { dst := some 57, op := Op.call { callee := Callee.value (Operand.func 15), args := #[Operand.tmp 55, Operand.tmp 56], argTypes := #[3, 3] }, type := 3, pos := "law.go:39", after := #[{ on := 1, ground := Ground.data }, { on := 2, ground := Ground.data }, { on := 0, ground := Ground.chain }, { on := 0, ground := Ground.guard }], guard := some (0, true) }) rfl (fun K hK => ?_) ?_
                    · go_simp
                      go_at_call 15
                      refine (F4a _).mono ?_
                      rintro e w10 ⟨rfl, hw10⟩
                      have b10 : Below w9.heap.size w9 w10 := by rw [hw10]; exact Below.refl _ _
                      clear hw10
                      go_wp2_with fail
                      have B10 := B9.trans (b10.mono B9.size)
                      refine (Shut.stronger hK (fun w' => Below w10.heap.size w10 w') (fun w' h => b10.trans (h.mono b10.size))).out _ _ (Below.refl _ _) (fun _ => ?_)
                      clear hK K
                      try simp only [Act.put, List.setIfInBounds_toArray, List.set_cons_zero, List.set_cons_succ]
                      refine wpAnyH_ready (rs := [6]) (by kernel_rfl) (by simp) ?_
                      refine AllReadyH.cons (o := { dst := some 60, op := Op.call { callee := Callee.value (Operand.func 23), args := #[Operand.tmp 58, Operand.tmp 59], argTypes := #[3, 3] }, type := 3, pos := "law.go:39", after := #[{ on := 4, ground := Ground.data }, { on := 5, ground := Ground.data }, { on := 3, ground := Ground.chain }, { on := 0, ground := Ground.guard }], guard := some (0, true) }) rfl (fun K hK => ?_) ?_
                      · go_simp
                        go_at_call 23
                        refine (F4b _).mono ?_
                        rintro e w11 ⟨rfl, hw11⟩
                        have b11 : Below w10.heap.size w10 w11 := by rw [hw11]; exact Below.refl _ _
                        clear hw11
                        go_wp2_with fail
                        have B11 := B10.trans (b11.mono B10.size)
                        refine (Shut.stronger hK (fun w' => Below w11.heap.size w11 w') (fun w' h => b11.trans (h.mono b11.size))).out _ _ (Below.refl _ _) (fun _ => ?_)
                        clear hK K
                        try simp only [Act.put, List.setIfInBounds_toArray, List.set_cons_zero, List.set_cons_succ]
                        refine wpAnyH_take (i := 7) (oi := { dst := some 61, op := Op.binOp BinOp.eql 3 (Operand.tmp 57) (Operand.tmp 60) 3, type := 4, pos := "law.go:39", after := #[{ on := 3, ground := Ground.data }, { on := 6, ground := Ground.data }, { on := 0, ground := Ground.guard }], guard := some (0, true) }) (v := ?_) rfl (by kernel_rfl) (by kernel_rfl) (by kernel_rfl) (fun _ _ _ h => h) (Or.inl ⟨by rfl, ?_⟩) (Below.refl _ _) ?_
                        rotate_left
                        · (intro w' hSw; go_simp) <;> with_reducible rfl
                        try simp only [Act.put, List.setIfInBounds_toArray, List.set_cons_zero, List.set_cons_succ]
                        refine wpAnyH_take (i := 8) (oi := { dst := some 62, op := Op.pick (Operand.tmp 54) (Operand.tmp 61) (Operand.const (Value.bool false)), type := 4, pos := "law.go:39", after := #[{ on := 0, ground := Ground.data }, { on := 7, ground := Ground.data }], guard := none }) (v := ?_) rfl (by kernel_rfl) (by kernel_rfl) (by kernel_rfl) (fun _ _ _ h => h) (Or.inl ⟨by rfl, ?_⟩) (Below.refl _ _) ?_
                        rotate_left
                        · (intro w' hSw; go_simp) <;> with_reducible rfl
                        try simp only [Act.put, List.setIfInBounds_toArray, List.set_cons_zero, List.set_cons_succ]
                        refine wpAnyH_take (i := 9) (oi := { dst := some 63, op := Op.move (Operand.tmp 62), type := 4, pos := "law.go:39", after := #[{ on := 8, ground := Ground.data }, { on := 6, ground := Ground.chain }], guard := none }) (v := ?_) rfl (by kernel_rfl) (by kernel_rfl) (by kernel_rfl) (fun _ _ _ h => h) (Or.inl ⟨by rfl, ?_⟩) (Below.refl _ _) ?_
                        rotate_left
                        · (intro w' hSw; go_simp) <;> with_reducible rfl
                        try simp only [Act.put, List.setIfInBounds_toArray, List.set_cons_zero, List.set_cons_succ]
                        refine wpAnyH_done (by kernel_rfl) ?_ _
                        refine segQ_end ?_
                        refine chain_held 11 (fun w' => Below w11.heap.size w11 w') (by kernel_rfl) ?_
                        refine wpAnyH_take (i := 1) (oi := { dst := some 64, op := Op.move (Operand.tmp 13), type := 3, pos := "law.go:39", after := #[{ on := 0, ground := Ground.guard }], guard := some (0, true) }) (v := ?_) rfl (by kernel_rfl) (by kernel_rfl) (by kernel_rfl) (fun _ _ _ h => h) (Or.inl ⟨by rfl, ?_⟩) (Below.refl _ _) ?_
                        rotate_left
                        · (intro w' hSw; go_simp) <;> with_reducible rfl
                        try simp only [Act.put, List.setIfInBounds_toArray, List.set_cons_zero, List.set_cons_succ]
                        refine wpAnyH_take (i := 2) (oi := { dst := some 65, op := Op.indexAddr 34 (Operand.tmp 5) (Operand.const (Value.int IntKind.i64 0)), type := 0, pos := "law.go:39", after := #[{ on := 0, ground := Ground.guard }], guard := some (0, true) }) (v := ?_) rfl (by kernel_rfl) (by kernel_rfl) (by kernel_rfl) (fun _ _ _ h => h) (Or.inl ⟨by rfl, ?_⟩) (Below.refl _ _) ?_
                        rotate_left
                        · (intro w' hSw; go_simp) <;> with_reducible rfl
                        try simp only [Act.put, List.setIfInBounds_toArray, List.set_cons_zero, List.set_cons_succ]
                        refine wpAnyH_take (i := 3) (oi := { dst := some 66, op := Op.load 3 (Operand.tmp 65), type := 3, pos := "law.go:39", after := #[{ on := 2, ground := Ground.data }, { on := 0, ground := Ground.guard }], guard := some (0, true) }) (v := ?_) rfl (by kernel_rfl) (by kernel_rfl) (by kernel_rfl) (fun _ _ _ h => h) (Or.inl ⟨by rfl, ?_⟩) (Below.refl _ _) ?_
                        rotate_left
                        · (intro w' hSw; have hX := B11.trans (hSw.mono B11.size); have ka0 := a0 w' hX; go_simp) <;> with_reducible rfl
                        try simp only [Act.put, List.setIfInBounds_toArray, List.set_cons_zero, List.set_cons_succ]
                        refine wpAnyH_take (i := 5) (oi := { dst := some 68, op := Op.move (Operand.tmp 13), type := 3, pos := "law.go:39", after := #[{ on := 0, ground := Ground.guard }], guard := some (0, true) }) (v := ?_) rfl (by kernel_rfl) (by kernel_rfl) (by kernel_rfl) (fun _ _ _ h => h) (Or.inl ⟨by rfl, ?_⟩) (Below.refl _ _) ?_
                        rotate_left
                        · (intro w' hSw; go_simp) <;> with_reducible rfl
                        try simp only [Act.put, List.setIfInBounds_toArray, List.set_cons_zero, List.set_cons_succ]
                        refine wpAnyH_take (i := 6) (oi := { dst := some 69, op := Op.indexAddr 34 (Operand.tmp 5) (Operand.const (Value.int IntKind.i64 0)), type := 0, pos := "law.go:39", after := #[{ on := 0, ground := Ground.guard }], guard := some (0, true) }) (v := ?_) rfl (by kernel_rfl) (by kernel_rfl) (by kernel_rfl) (fun _ _ _ h => h) (Or.inl ⟨by rfl, ?_⟩) (Below.refl _ _) ?_
                        rotate_left
                        · (intro w' hSw; go_simp) <;> with_reducible rfl
                        try simp only [Act.put, List.setIfInBounds_toArray, List.set_cons_zero, List.set_cons_succ]
                        refine wpAnyH_take (i := 7) (oi := { dst := some 70, op := Op.load 3 (Operand.tmp 69), type := 3, pos := "law.go:39", after := #[{ on := 6, ground := Ground.data }, { on := 0, ground := Ground.guard }], guard := some (0, true) }) (v := ?_) rfl (by kernel_rfl) (by kernel_rfl) (by kernel_rfl) (fun _ _ _ h => h) (Or.inl ⟨by rfl, ?_⟩) (Below.refl _ _) ?_
                        rotate_left
                        · (intro w' hSw; have hX := B11.trans (hSw.mono B11.size); have ka0 := a0 w' hX; go_simp) <;> with_reducible rfl
                        try simp only [Act.put, List.setIfInBounds_toArray, List.set_cons_zero, List.set_cons_succ]
                        refine wpAnyH_ready (rs := [4]) (by kernel_rfl) (by simp) ?_
                        refine AllReadyH.cons (o := { dst := some 67, op := Op.call { callee := Callee.value (Operand.func 15), args := #[Operand.tmp 64, Operand.tmp 66], argTypes := #[3, 3] }, type := 3, pos := "law.go:39", after := #[{ on := 1, ground := Ground.data }, { on := 3, ground := Ground.data }, { on := 0, ground := Ground.chain }, { on := 0, ground := Ground.guard }], guard := some (0, true) }) rfl (fun K hK => ?_) ?_
                        · go_simp
                          go_at_call 15
                          refine (F5a _).mono ?_
                          rintro e w12 ⟨rfl, hw12⟩
                          have b12 : Below w11.heap.size w11 w12 := by rw [hw12]; exact Below.refl _ _
                          clear hw12
                          go_wp2_with fail
                          have B12 := B11.trans (b12.mono B11.size)
                          refine (Shut.stronger hK (fun w' => Below w12.heap.size w12 w') (fun w' h => b12.trans (h.mono b12.size))).out _ _ (Below.refl _ _) (fun _ => ?_)
                          clear hK K
                          try simp only [Act.put, List.setIfInBounds_toArray, List.set_cons_zero, List.set_cons_succ]
                          refine wpAnyH_ready (rs := [8]) (by kernel_rfl) (by simp) ?_
                          refine AllReadyH.cons (o := { dst := some 71, op := Op.call { callee := Callee.value (Operand.func 23), args := #[Operand.tmp 68, Operand.tmp 70], argTypes := #[3, 3] }, type := 3, pos := "law.go:39", after := #[{ on := 5, ground := Ground.data }, { on := 7, ground := Ground.data }, { on := 4, ground := Ground.chain }, { on := 0, ground := Ground.guard }], guard := some (0, true) }) rfl (fun K hK => ?_) ?_
                          · go_simp
                            go_at_call 23
                            refine (F5b _).mono ?_
                            rintro e w13 ⟨rfl, hw13⟩
                            have b13 : Below w12.heap.size w12 w13 := by rw [hw13]; exact Below.refl _ _
                            clear hw13
                            go_wp2_with fail
                            have B13 := B12.trans (b13.mono B12.size)
                            refine (Shut.stronger hK (fun w' => Below w13.heap.size w13 w') (fun w' h => b13.trans (h.mono b13.size))).out _ _ (Below.refl _ _) (fun _ => ?_)
                            clear hK K
                            try simp only [Act.put, List.setIfInBounds_toArray, List.set_cons_zero, List.set_cons_succ]
                            refine wpAnyH_take (i := 9) (oi := { dst := some 72, op := Op.binOp BinOp.eql 3 (Operand.tmp 67) (Operand.tmp 71) 3, type := 4, pos := "law.go:39", after := #[{ on := 4, ground := Ground.data }, { on := 8, ground := Ground.data }, { on := 0, ground := Ground.guard }], guard := some (0, true) }) (v := ?_) rfl (by kernel_rfl) (by kernel_rfl) (by kernel_rfl) (fun _ _ _ h => h) (Or.inl ⟨by rfl, ?_⟩) (Below.refl _ _) ?_
                            rotate_left
                            · (intro w' hSw; go_simp) <;> with_reducible rfl
                            try simp only [Act.put, List.setIfInBounds_toArray, List.set_cons_zero, List.set_cons_succ]
                            refine wpAnyH_take (i := 10) (oi := { dst := some 73, op := Op.pick (Operand.tmp 63) (Operand.tmp 72) (Operand.const (Value.bool false)), type := 4, pos := "law.go:39", after := #[{ on := 0, ground := Ground.data }, { on := 9, ground := Ground.data }], guard := none }) (v := ?_) rfl (by kernel_rfl) (by kernel_rfl) (by kernel_rfl) (fun _ _ _ h => h) (Or.inl ⟨by rfl, ?_⟩) (Below.refl _ _) ?_
                            rotate_left
                            · (intro w' hSw; go_simp) <;> with_reducible rfl
                            try simp only [Act.put, List.setIfInBounds_toArray, List.set_cons_zero, List.set_cons_succ]
                            refine wpAnyH_take (i := 11) (oi := { dst := some 74, op := Op.move (Operand.tmp 73), type := 4, pos := "law.go:39", after := #[{ on := 10, ground := Ground.data }, { on := 8, ground := Ground.chain }], guard := none }) (v := ?_) rfl (by kernel_rfl) (by kernel_rfl) (by kernel_rfl) (fun _ _ _ h => h) (Or.inl ⟨by rfl, ?_⟩) (Below.refl _ _) ?_
                            rotate_left
                            · (intro w' hSw; go_simp) <;> with_reducible rfl
                            try simp only [Act.put, List.setIfInBounds_toArray, List.set_cons_zero, List.set_cons_succ]
                            refine wpAnyH_done (by kernel_rfl) ?_ _
                            refine segQ_end ?_
                            refine chain_held 9 (fun w' => Below w13.heap.size w13 w') (by kernel_rfl) ?_
                            refine wpAnyH_take (i := 1) (oi := { dst := some 75, op := Op.load 23 (Operand.tmp 11), type := 23, pos := "law.go:39", after := #[{ on := 0, ground := Ground.guard }], guard := some (0, true) }) (v := ?_) rfl (by kernel_rfl) (by kernel_rfl) (by kernel_rfl) (fun _ _ _ h => h) (Or.inl ⟨by rfl, ?_⟩) (Below.refl _ _) ?_
                            rotate_left
                            · (intro w' hSw; have hX := B13.trans (hSw.mono B13.size); have kp0 := p0 w' hX; have kp1 := p1 w' hX; have kp2 := p2 w' hX; have kp3 := p3 w' hX; go_simp) <;> with_reducible rfl
                            try simp only [Act.put, List.setIfInBounds_toArray, List.set_cons_zero, List.set_cons_succ]
                            refine wpAnyH_take (i := 2) (oi := { dst := some 76, op := Op.move (Operand.tmp 13), type := 3, pos := "law.go:39", after := #[{ on := 0, ground := Ground.guard }], guard := some (0, true) }) (v := ?_) rfl (by kernel_rfl) (by kernel_rfl) (by kernel_rfl) (fun _ _ _ h => h) (Or.inl ⟨by rfl, ?_⟩) (Below.refl _ _) ?_
                            rotate_left
                            · (intro w' hSw; go_simp) <;> with_reducible rfl
                            try simp only [Act.put, List.setIfInBounds_toArray, List.set_cons_zero, List.set_cons_succ]
                            refine wpAnyH_take (i := 4) (oi := { dst := some 78, op := Op.load 23 (Operand.tmp 11), type := 23, pos := "law.go:39", after := #[{ on := 0, ground := Ground.guard }], guard := some (0, true) }) (v := ?_) rfl (by kernel_rfl) (by kernel_rfl) (by kernel_rfl) (fun _ _ _ h => h) (Or.inl ⟨by rfl, ?_⟩) (Below.refl _ _) ?_
                            rotate_left
                            · (intro w' hSw; have hX := B13.trans (hSw.mono B13.size); have kp0 := p0 w' hX; have kp1 := p1 w' hX; have kp2 := p2 w' hX; have kp3 := p3 w' hX; go_simp) <;> with_reducible rfl
                            try simp only [Act.put, List.setIfInBounds_toArray, List.set_cons_zero, List.set_cons_succ]
                            refine wpAnyH_take (i := 5) (oi := { dst := some 79, op := Op.move (Operand.tmp 13), type := 3, pos := "law.go:39", after := #[{ on := 0, ground := Ground.guard }], guard := some (0, true) }) (v := ?_) rfl (by kernel_rfl) (by kernel_rfl) (by kernel_rfl) (fun _ _ _ h => h) (Or.inl ⟨by rfl, ?_⟩) (Below.refl _ _) ?_
                            rotate_left
                            · (intro w' hSw; go_simp) <;> with_reducible rfl
                            try simp only [Act.put, List.setIfInBounds_toArray, List.set_cons_zero, List.set_cons_succ]
                            refine wpAnyH_ready (rs := [3]) (by kernel_rfl) (by simp) ?_
                            refine AllReadyH.cons (o := { dst := some 77, op := Op.call { callee := Callee.value (Operand.func 13), args := #[Operand.tmp 75, Operand.tmp 76], argTypes := #[23, 3] }, type := 23, pos := "law.go:39", after := #[{ on := 1, ground := Ground.data }, { on := 2, ground := Ground.data }, { on := 0, ground := Ground.chain }, { on := 0, ground := Ground.guard }], guard := some (0, true) }) rfl (fun K hK => ?_) ?_
                            · go_simp
                              go_at_call 13
                              refine (F6a _).mono ?_
                              rintro e w14 ⟨rfl, b14⟩
                              go_wp2_with fail
                              have B14 := B13.trans (b14.mono B13.size)
                              refine (Shut.stronger hK (fun w' => Below w14.heap.size w14 w') (fun w' h => b14.trans (h.mono b14.size))).out _ _ (Below.refl _ _) (fun _ => ?_)
                              clear hK K
                              try simp only [Act.put, List.setIfInBounds_toArray, List.set_cons_zero, List.set_cons_succ]
                              refine wpAnyH_ready (rs := [6]) (by kernel_rfl) (by simp) ?_
                              refine AllReadyH.cons (o := { dst := some 80, op := Op.call { callee := Callee.value (Operand.func 24), args := #[Operand.tmp 78, Operand.tmp 79], argTypes := #[23, 3] }, type := 23, pos := "law.go:39", after := #[{ on := 4, ground := Ground.data }, { on := 5, ground := Ground.data }, { on := 3, ground := Ground.chain }, { on := 0, ground := Ground.guard }], guard := some (0, true) }) rfl (fun K hK => ?_) ?_
                              · go_simp
                                go_at_call 24
                                refine (F6b _).mono ?_
                                rintro e w15 ⟨rfl, b15⟩
                                go_wp2_with fail
                                have B15 := B14.trans (b15.mono B14.size)
                                refine (Shut.stronger hK (fun w' => Below w15.heap.size w15 w') (fun w' h => b15.trans (h.mono b15.size))).out _ _ (Below.refl _ _) (fun _ => ?_)
                                clear hK K
                                try simp only [Act.put, List.setIfInBounds_toArray, List.set_cons_zero, List.set_cons_succ]
                                refine wpAnyH_take (i := 7) (oi := { dst := some 81, op := Op.binOp BinOp.eql 23 (Operand.tmp 77) (Operand.tmp 80) 23, type := 4, pos := "law.go:39", after := #[{ on := 3, ground := Ground.data }, { on := 6, ground := Ground.data }, { on := 0, ground := Ground.guard }], guard := some (0, true) }) (v := ?_) rfl (by kernel_rfl) (by kernel_rfl) (by kernel_rfl) (fun _ _ _ h => h) (Or.inl ⟨by rfl, ?_⟩) (Below.refl _ _) ?_
                                rotate_left
                                · (intro w' hSw; go_simp) <;> with_reducible rfl
                                try simp only [Act.put, List.setIfInBounds_toArray, List.set_cons_zero, List.set_cons_succ]
                                refine wpAnyH_take (i := 8) (oi := { dst := some 82, op := Op.pick (Operand.tmp 74) (Operand.tmp 81) (Operand.const (Value.bool false)), type := 4, pos := "law.go:39", after := #[{ on := 0, ground := Ground.data }, { on := 7, ground := Ground.data }], guard := none }) (v := ?_) rfl (by kernel_rfl) (by kernel_rfl) (by kernel_rfl) (fun _ _ _ h => h) (Or.inl ⟨by rfl, ?_⟩) (Below.refl _ _) ?_
                                rotate_left
                                · (intro w' hSw; go_simp) <;> with_reducible rfl
                                try simp only [Act.put, List.setIfInBounds_toArray, List.set_cons_zero, List.set_cons_succ]
                                refine wpAnyH_take (i := 9) (oi := { dst := some 83, op := Op.move (Operand.tmp 82), type := 4, pos := "law.go:39", after := #[{ on := 8, ground := Ground.data }, { on := 6, ground := Ground.chain }], guard := none }) (v := ?_) rfl (by kernel_rfl) (by kernel_rfl) (by kernel_rfl) (fun _ _ _ h => h) (Or.inl ⟨by rfl, ?_⟩) (Below.refl _ _) ?_
                                rotate_left
                                · (intro w' hSw; go_simp) <;> with_reducible rfl
                                try simp only [Act.put, List.setIfInBounds_toArray, List.set_cons_zero, List.set_cons_succ]
                                refine wpAnyH_done (by kernel_rfl) ?_ _
                                refine segQ_end ?_
                                refine chain_held 9 (fun w' => Below w15.heap.size w15 w') (by kernel_rfl) ?_
                                refine wpAnyH_take (i := 1) (oi := { dst := some 84, op := Op.load 23 (Operand.tmp 11), type := 23, pos := "law.go:39", after := #[{ on := 0, ground := Ground.guard }], guard := some (0, true) }) (v := ?_) rfl (by kernel_rfl) (by kernel_rfl) (by kernel_rfl) (fun _ _ _ h => h) (Or.inl ⟨by rfl, ?_⟩) (Below.refl _ _) ?_
                                rotate_left
                                · (intro w' hSw; have hX := B15.trans (hSw.mono B15.size); have kp0 := p0 w' hX; have kp1 := p1 w' hX; have kp2 := p2 w' hX; have kp3 := p3 w' hX; go_simp) <;> with_reducible rfl
                                try simp only [Act.put, List.setIfInBounds_toArray, List.set_cons_zero, List.set_cons_succ]
                                refine wpAnyH_take (i := 2) (oi := { dst := some 85, op := Op.load 23 (Operand.tmp 12), type := 23, pos := "law.go:39", after := #[{ on := 0, ground := Ground.guard }], guard := some (0, true) }) (v := ?_) rfl (by kernel_rfl) (by kernel_rfl) (by kernel_rfl) (fun _ _ _ h => h) (Or.inl ⟨by rfl, ?_⟩) (Below.refl _ _) ?_
                                rotate_left
                                · (intro w' hSw; have hX := B15.trans (hSw.mono B15.size); have kq0 := q0 w' hX; have kq1 := q1 w' hX; have kq2 := q2 w' hX; have kq3 := q3 w' hX; go_simp) <;> with_reducible rfl
                                try simp only [Act.put, List.setIfInBounds_toArray, List.set_cons_zero, List.set_cons_succ]
                                refine wpAnyH_take (i := 4) (oi := { dst := some 87, op := Op.load 23 (Operand.tmp 11), type := 23, pos := "law.go:39", after := #[{ on := 0, ground := Ground.guard }], guard := some (0, true) }) (v := ?_) rfl (by kernel_rfl) (by kernel_rfl) (by kernel_rfl) (fun _ _ _ h => h) (Or.inl ⟨by rfl, ?_⟩) (Below.refl _ _) ?_
                                rotate_left
                                · (intro w' hSw; have hX := B15.trans (hSw.mono B15.size); have kp0 := p0 w' hX; have kp1 := p1 w' hX; have kp2 := p2 w' hX; have kp3 := p3 w' hX; go_simp) <;> with_reducible rfl
                                try simp only [Act.put, List.setIfInBounds_toArray, List.set_cons_zero, List.set_cons_succ]
                                refine wpAnyH_take (i := 5) (oi := { dst := some 88, op := Op.load 23 (Operand.tmp 12), type := 23, pos := "law.go:39", after := #[{ on := 0, ground := Ground.guard }], guard := some (0, true) }) (v := ?_) rfl (by kernel_rfl) (by kernel_rfl) (by kernel_rfl) (fun _ _ _ h => h) (Or.inl ⟨by rfl, ?_⟩) (Below.refl _ _) ?_
                                rotate_left
                                · (intro w' hSw; have hX := B15.trans (hSw.mono B15.size); have kq0 := q0 w' hX; have kq1 := q1 w' hX; have kq2 := q2 w' hX; have kq3 := q3 w' hX; go_simp) <;> with_reducible rfl
                                try simp only [Act.put, List.setIfInBounds_toArray, List.set_cons_zero, List.set_cons_succ]
                                refine wpAnyH_ready (rs := [3]) (by kernel_rfl) (by simp) ?_
                                refine AllReadyH.cons (o := { dst := some 86, op := Op.call { callee := Callee.value (Operand.func 11), args := #[Operand.tmp 84, Operand.tmp 85], argTypes := #[23, 23] }, type := 23, pos := "law.go:39", after := #[{ on := 1, ground := Ground.data }, { on := 2, ground := Ground.data }, { on := 0, ground := Ground.chain }, { on := 0, ground := Ground.guard }], guard := some (0, true) }) rfl (fun K hK => ?_) ?_
                                · go_simp
                                  go_at_call 11
                                  refine (F7a _).mono ?_
                                  rintro e w16 ⟨rfl, b16⟩
                                  go_wp2_with fail
                                  have B16 := B15.trans (b16.mono B15.size)
                                  refine (Shut.stronger hK (fun w' => Below w16.heap.size w16 w') (fun w' h => b16.trans (h.mono b16.size))).out _ _ (Below.refl _ _) (fun _ => ?_)
                                  clear hK K
                                  try simp only [Act.put, List.setIfInBounds_toArray, List.set_cons_zero, List.set_cons_succ]
                                  refine wpAnyH_ready (rs := [6]) (by kernel_rfl) (by simp) ?_
                                  refine AllReadyH.cons (o := { dst := some 89, op := Op.call { callee := Callee.value (Operand.func 25), args := #[Operand.tmp 87, Operand.tmp 88], argTypes := #[23, 23] }, type := 23, pos := "law.go:39", after := #[{ on := 4, ground := Ground.data }, { on := 5, ground := Ground.data }, { on := 3, ground := Ground.chain }, { on := 0, ground := Ground.guard }], guard := some (0, true) }) rfl (fun K hK => ?_) ?_
                                  · go_simp
                                    go_at_call 25
                                    refine (F7b _).mono ?_
                                    rintro e w17 ⟨rfl, b17⟩
                                    go_wp2_with fail
                                    have B17 := B16.trans (b17.mono B16.size)
                                    refine (Shut.stronger hK (fun w' => Below w17.heap.size w17 w') (fun w' h => b17.trans (h.mono b17.size))).out _ _ (Below.refl _ _) (fun _ => ?_)
                                    clear hK K
                                    try simp only [Act.put, List.setIfInBounds_toArray, List.set_cons_zero, List.set_cons_succ]
                                    refine wpAnyH_take (i := 7) (oi := { dst := some 90, op := Op.binOp BinOp.eql 23 (Operand.tmp 86) (Operand.tmp 89) 23, type := 4, pos := "law.go:39", after := #[{ on := 3, ground := Ground.data }, { on := 6, ground := Ground.data }, { on := 0, ground := Ground.guard }], guard := some (0, true) }) (v := ?_) rfl (by kernel_rfl) (by kernel_rfl) (by kernel_rfl) (fun _ _ _ h => h) (Or.inl ⟨by rfl, ?_⟩) (Below.refl _ _) ?_
                                    rotate_left
                                    · (intro w' hSw; go_simp) <;> with_reducible rfl
                                    try simp only [Act.put, List.setIfInBounds_toArray, List.set_cons_zero, List.set_cons_succ]
                                    refine wpAnyH_take (i := 8) (oi := { dst := some 91, op := Op.pick (Operand.tmp 83) (Operand.tmp 90) (Operand.const (Value.bool false)), type := 4, pos := "law.go:39", after := #[{ on := 0, ground := Ground.data }, { on := 7, ground := Ground.data }], guard := none }) (v := ?_) rfl (by kernel_rfl) (by kernel_rfl) (by kernel_rfl) (fun _ _ _ h => h) (Or.inl ⟨by rfl, ?_⟩) (Below.refl _ _) ?_
                                    rotate_left
                                    · (intro w' hSw; go_simp) <;> with_reducible rfl
                                    try simp only [Act.put, List.setIfInBounds_toArray, List.set_cons_zero, List.set_cons_succ]
                                    refine wpAnyH_take (i := 9) (oi := { dst := some 92, op := Op.move (Operand.tmp 91), type := 4, pos := "law.go:39", after := #[{ on := 8, ground := Ground.data }, { on := 6, ground := Ground.chain }], guard := none }) (v := ?_) rfl (by kernel_rfl) (by kernel_rfl) (by kernel_rfl) (fun _ _ _ h => h) (Or.inl ⟨by rfl, ?_⟩) (Below.refl _ _) ?_
                                    rotate_left
                                    · (intro w' hSw; go_simp) <;> with_reducible rfl
                                    try simp only [Act.put, List.setIfInBounds_toArray, List.set_cons_zero, List.set_cons_succ]
                                    refine wpAnyH_done (by kernel_rfl) ?_ _
                                    refine segQ_end ?_
                                    refine chain_held 11 (fun w' => Below w17.heap.size w17 w') (by kernel_rfl) ?_
                                    refine wpAnyH_take (i := 1) (oi := { dst := some 93, op := Op.load 23 (Operand.tmp 11), type := 23, pos := "law.go:39", after := #[{ on := 0, ground := Ground.guard }], guard := some (0, true) }) (v := ?_) rfl (by kernel_rfl) (by kernel_rfl) (by kernel_rfl) (fun _ _ _ h => h) (Or.inl ⟨by rfl, ?_⟩) (Below.refl _ _) ?_
                                    rotate_left
                                    · (intro w' hSw; have hX := B17.trans (hSw.mono B17.size); have kp0 := p0 w' hX; have kp1 := p1 w' hX; have kp2 := p2 w' hX; have kp3 := p3 w' hX; go_simp) <;> with_reducible rfl
                                    try simp only [Act.put, List.setIfInBounds_toArray, List.set_cons_zero, List.set_cons_succ]
                                    refine wpAnyH_take (i := 2) (oi := { dst := some 94, op := Op.load 23 (Operand.tmp 12), type := 23, pos := "law.go:39", after := #[{ on := 0, ground := Ground.guard }], guard := some (0, true) }) (v := ?_) rfl (by kernel_rfl) (by kernel_rfl) (by kernel_rfl) (fun _ _ _ h => h) (Or.inl ⟨by rfl, ?_⟩) (Below.refl _ _) ?_
                                    rotate_left
                                    · (intro w' hSw; have hX := B17.trans (hSw.mono B17.size); have kq0 := q0 w' hX; have kq1 := q1 w' hX; have kq2 := q2 w' hX; have kq3 := q3 w' hX; go_simp) <;> with_reducible rfl
                                    try simp only [Act.put, List.setIfInBounds_toArray, List.set_cons_zero, List.set_cons_succ]
                                    refine wpAnyH_take (i := 3) (oi := { dst := some 95, op := Op.move (Operand.tmp 3), type := 3, pos := "law.go:39", after := #[{ on := 0, ground := Ground.guard }], guard := some (0, true) }) (v := ?_) rfl (by kernel_rfl) (by kernel_rfl) (by kernel_rfl) (fun _ _ _ h => h) (Or.inl ⟨by rfl, ?_⟩) (Below.refl _ _) ?_
                                    rotate_left
                                    · (intro w' hSw; go_simp) <;> with_reducible rfl
                                    try simp only [Act.put, List.setIfInBounds_toArray, List.set_cons_zero, List.set_cons_succ]
                                    refine wpAnyH_take (i := 5) (oi := { dst := some 97, op := Op.load 23 (Operand.tmp 11), type := 23, pos := "law.go:39", after := #[{ on := 0, ground := Ground.guard }], guard := some (0, true) }) (v := ?_) rfl (by kernel_rfl) (by kernel_rfl) (by kernel_rfl) (fun _ _ _ h => h) (Or.inl ⟨by rfl, ?_⟩) (Below.refl _ _) ?_
                                    rotate_left
                                    · (intro w' hSw; have hX := B17.trans (hSw.mono B17.size); have kp0 := p0 w' hX; have kp1 := p1 w' hX; have kp2 := p2 w' hX; have kp3 := p3 w' hX; go_simp) <;> with_reducible rfl
                                    try simp only [Act.put, List.setIfInBounds_toArray, List.set_cons_zero, List.set_cons_succ]
                                    refine wpAnyH_take (i := 6) (oi := { dst := some 98, op := Op.load 23 (Operand.tmp 12), type := 23, pos := "law.go:39", after := #[{ on := 0, ground := Ground.guard }], guard := some (0, true) }) (v := ?_) rfl (by kernel_rfl) (by kernel_rfl) (by kernel_rfl) (fun _ _ _ h => h) (Or.inl ⟨by rfl, ?_⟩) (Below.refl _ _) ?_
                                    rotate_left
                                    · (intro w' hSw; have hX := B17.trans (hSw.mono B17.size); have kq0 := q0 w' hX; have kq1 := q1 w' hX; have kq2 := q2 w' hX; have kq3 := q3 w' hX; go_simp) <;> with_reducible rfl
                                    try simp only [Act.put, List.setIfInBounds_toArray, List.set_cons_zero, List.set_cons_succ]
                                    refine wpAnyH_take (i := 7) (oi := { dst := some 99, op := Op.move (Operand.tmp 3), type := 3, pos := "law.go:39", after := #[{ on := 0, ground := Ground.guard }], guard := some (0, true) }) (v := ?_) rfl (by kernel_rfl) (by kernel_rfl) (by kernel_rfl) (fun _ _ _ h => h) (Or.inl ⟨by rfl, ?_⟩) (Below.refl _ _) ?_
                                    rotate_left
                                    · (intro w' hSw; go_simp) <;> with_reducible rfl
                                    try simp only [Act.put, List.setIfInBounds_toArray, List.set_cons_zero, List.set_cons_succ]
                                    refine wpAnyH_ready (rs := [4]) (by kernel_rfl) (by simp) ?_
                                    refine AllReadyH.cons (o := { dst := some 96, op := Op.call { callee := Callee.value (Operand.func 12), args := #[Operand.tmp 93, Operand.tmp 94, Operand.tmp 95], argTypes := #[23, 23, 3] }, type := 23, pos := "law.go:39", after := #[{ on := 1, ground := Ground.data }, { on := 2, ground := Ground.data }, { on := 3, ground := Ground.data }, { on := 0, ground := Ground.chain }, { on := 0, ground := Ground.guard }], guard := some (0, true) }) rfl (fun K hK => ?_) ?_
                                    · go_simp
                                      go_at_call 12
                                      refine (F8a _).mono ?_
                                      rintro e w18 ⟨rfl, b18⟩
                                      go_wp2_with fail
                                      have B18 := B17.trans (b18.mono B17.size)
                                      refine (Shut.stronger hK (fun w' => Below w18.heap.size w18 w') (fun w' h => b18.trans (h.mono b18.size))).out _ _ (Below.refl _ _) (fun _ => ?_)
                                      clear hK K
                                      try simp only [Act.put, List.setIfInBounds_toArray, List.set_cons_zero, List.set_cons_succ]
                                      refine wpAnyH_ready (rs := [8]) (by kernel_rfl) (by simp) ?_
                                      refine AllReadyH.cons (o := { dst := some 100, op := Op.call { callee := Callee.value (Operand.func 26), args := #[Operand.tmp 97, Operand.tmp 98, Operand.tmp 99], argTypes := #[23, 23, 3] }, type := 23, pos := "law.go:39", after := #[{ on := 5, ground := Ground.data }, { on := 6, ground := Ground.data }, { on := 7, ground := Ground.data }, { on := 4, ground := Ground.chain }, { on := 0, ground := Ground.guard }], guard := some (0, true) }) rfl (fun K hK => ?_) ?_
                                      · go_simp
                                        go_at_call 26
                                        refine (F8b _).mono ?_
                                        rintro e w19 ⟨rfl, b19⟩
                                        go_wp2_with fail
                                        have B19 := B18.trans (b19.mono B18.size)
                                        refine (Shut.stronger hK (fun w' => Below w19.heap.size w19 w') (fun w' h => b19.trans (h.mono b19.size))).out _ _ (Below.refl _ _) (fun _ => ?_)
                                        clear hK K
                                        try simp only [Act.put, List.setIfInBounds_toArray, List.set_cons_zero, List.set_cons_succ]
                                        refine wpAnyH_take (i := 9) (oi := { dst := some 101, op := Op.binOp BinOp.eql 23 (Operand.tmp 96) (Operand.tmp 100) 23, type := 4, pos := "law.go:39", after := #[{ on := 4, ground := Ground.data }, { on := 8, ground := Ground.data }, { on := 0, ground := Ground.guard }], guard := some (0, true) }) (v := ?_) rfl (by kernel_rfl) (by kernel_rfl) (by kernel_rfl) (fun _ _ _ h => h) (Or.inl ⟨by rfl, ?_⟩) (Below.refl _ _) ?_
                                        rotate_left
                                        · (intro w' hSw; go_simp) <;> with_reducible rfl
                                        try simp only [Act.put, List.setIfInBounds_toArray, List.set_cons_zero, List.set_cons_succ]
                                        refine wpAnyH_take (i := 10) (oi := { dst := some 102, op := Op.pick (Operand.tmp 92) (Operand.tmp 101) (Operand.const (Value.bool false)), type := 4, pos := "law.go:39", after := #[{ on := 0, ground := Ground.data }, { on := 9, ground := Ground.data }], guard := none }) (v := ?_) rfl (by kernel_rfl) (by kernel_rfl) (by kernel_rfl) (fun _ _ _ h => h) (Or.inl ⟨by rfl, ?_⟩) (Below.refl _ _) ?_
                                        rotate_left
                                        · (intro w' hSw; go_simp) <;> with_reducible rfl
                                        try simp only [Act.put, List.setIfInBounds_toArray, List.set_cons_zero, List.set_cons_succ]
                                        refine wpAnyH_take (i := 11) (oi := { dst := some 103, op := Op.move (Operand.tmp 102), type := 4, pos := "law.go:39", after := #[{ on := 10, ground := Ground.data }, { on := 8, ground := Ground.chain }], guard := none }) (v := ?_) rfl (by kernel_rfl) (by kernel_rfl) (by kernel_rfl) (fun _ _ _ h => h) (Or.inl ⟨by rfl, ?_⟩) (Below.refl _ _) ?_
                                        rotate_left
                                        · (intro w' hSw; go_simp) <;> with_reducible rfl
                                        try simp only [Act.put, List.setIfInBounds_toArray, List.set_cons_zero, List.set_cons_succ]
                                        refine wpAnyH_done (by kernel_rfl) ?_ _
                                        refine segQ_end ?_
                                        refine chain_held 13 (fun w' => Below w19.heap.size w19 w') (by kernel_rfl) ?_
                                        refine wpAnyH_take (i := 1) (oi := { dst := some 104, op := Op.load 23 (Operand.tmp 11), type := 23, pos := "law.go:39", after := #[{ on := 0, ground := Ground.guard }], guard := some (0, true) }) (v := ?_) rfl (by kernel_rfl) (by kernel_rfl) (by kernel_rfl) (fun _ _ _ h => h) (Or.inl ⟨by rfl, ?_⟩) (Below.refl _ _) ?_
                                        rotate_left
                                        · (intro w' hSw; have hX := B19.trans (hSw.mono B19.size); have kp0 := p0 w' hX; have kp1 := p1 w' hX; have kp2 := p2 w' hX; have kp3 := p3 w' hX; go_simp) <;> with_reducible rfl
                                        try simp only [Act.put, List.setIfInBounds_toArray, List.set_cons_zero, List.set_cons_succ]
                                        refine wpAnyH_take (i := 2) (oi := { dst := some 105, op := Op.load 23 (Operand.tmp 12), type := 23, pos := "law.go:39", after := #[{ on := 0, ground := Ground.guard }], guard := some (0, true) }) (v := ?_) rfl (by kernel_rfl) (by kernel_rfl) (by kernel_rfl) (fun _ _ _ h => h) (Or.inl ⟨by rfl, ?_⟩) (Below.refl _ _) ?_
                                        rotate_left
                                        · (intro w' hSw; have hX := B19.trans (hSw.mono B19.size); have kq0 := q0 w' hX; have kq1 := q1 w' hX; have kq2 := q2 w' hX; have kq3 := q3 w' hX; go_simp) <;> with_reducible rfl
                                        try simp only [Act.put, List.setIfInBounds_toArray, List.set_cons_zero, List.set_cons_succ]
                                        refine wpAnyH_take (i := 3) (oi := { dst := some 106, op := Op.move (Operand.tmp 3), type := 3, pos := "law.go:39", after := #[{ on := 0, ground := Ground.guard }], guard := some (0, true) }) (v := ?_) rfl (by kernel_rfl) (by kernel_rfl) (by kernel_rfl) (fun _ _ _ h => h) (Or.inl ⟨by rfl, ?_⟩) (Below.refl _ _) ?_
                                        rotate_left
                                        · (intro w' hSw; go_simp) <;> with_reducible rfl
                                        try simp only [Act.put, List.setIfInBounds_toArray, List.set_cons_zero, List.set_cons_succ]
                                        refine wpAnyH_take (i := 6) (oi := { dst := some 109, op := Op.load 23 (Operand.tmp 11), type := 23, pos := "law.go:39", after := #[{ on := 0, ground := Ground.guard }], guard := some (0, true) }) (v := ?_) rfl (by kernel_rfl) (by kernel_rfl) (by kernel_rfl) (fun _ _ _ h => h) (Or.inl ⟨by rfl, ?_⟩) (Below.refl _ _) ?_
                                        rotate_left
                                        · (intro w' hSw; have hX := B19.trans (hSw.mono B19.size); have kp0 := p0 w' hX; have kp1 := p1 w' hX; have kp2 := p2 w' hX; have kp3 := p3 w' hX; go_simp) <;> with_reducible rfl
                                        try simp only [Act.put, List.setIfInBounds_toArray, List.set_cons_zero, List.set_cons_succ]
                                        refine wpAnyH_take (i := 7) (oi := { dst := some 110, op := Op.load 23 (Operand.tmp 12), type := 23, pos := "law.go:39", after := #[{ on := 0, ground := Ground.guard }], guard := some (0, true) }) (v := ?_) rfl (by kernel_rfl) (by kernel_rfl) (by kernel_rfl) (fun _ _ _ h => h) (Or.inl ⟨by rfl, ?_⟩) (Below.refl _ _) ?_
                                        rotate_left
                                        · (intro w' hSw; have hX := B19.trans (hSw.mono B19.size); have kq0 := q0 w' hX; have kq1 := q1 w' hX; have kq2 := q2 w' hX; have kq3 := q3 w' hX; go_simp) <;> with_reducible rfl
                                        try simp only [Act.put, List.setIfInBounds_toArray, List.set_cons_zero, List.set_cons_succ]
                                        refine wpAnyH_take (i := 8) (oi := { dst := some 111, op := Op.move (Operand.tmp 3), type := 3, pos := "law.go:39", after := #[{ on := 0, ground := Ground.guard }], guard := some (0, true) }) (v := ?_) rfl (by kernel_rfl) (by kernel_rfl) (by kernel_rfl) (fun _ _ _ h => h) (Or.inl ⟨by rfl, ?_⟩) (Below.refl _ _) ?_
                                        rotate_left
                                        · (intro w' hSw; go_simp) <;> with_reducible rfl
                                        try simp only [Act.put, List.setIfInBounds_toArray, List.set_cons_zero, List.set_cons_succ]
                                        refine wpAnyH_ready (rs := [4]) (by kernel_rfl) (by simp) ?_
                                        refine AllReadyH.cons (o := { dst := some 107, op := Op.call { callee := Callee.value (Operand.func 18), args := #[Operand.tmp 106, Operand.const (Value.int IntKind.i64 65600)], argTypes := #[3, 3] }, type := 3, pos := "law.go:39", after := #[{ on := 3, ground := Ground.data }, { on := 0, ground := Ground.chain }, { on := 0, ground := Ground.guard }], guard := some (0, true) }) rfl (fun K hK => ?_) ?_
                                        · go_simp
                                          go_at_call 18
                                          refine (pick_det t 65600 (by omega) (by omega) _).mono ?_
                                          rintro e w20 ⟨rfl, hw20⟩
                                          have b20 : Below w19.heap.size w19 w20 := by rw [hw20]; exact Below.refl _ _
                                          clear hw20
                                          go_wp2_with fail
                                          have B20 := B19.trans (b20.mono B19.size)
                                          refine (Shut.stronger hK (fun w' => Below w20.heap.size w20 w') (fun w' h => b20.trans (h.mono b20.size))).out _ _ (Below.refl _ _) (fun _ => ?_)
                                          clear hK K
                                          try simp only [Act.put, List.setIfInBounds_toArray, List.set_cons_zero, List.set_cons_succ]
                                          refine wpAnyH_ready (rs := [5]) (by kernel_rfl) (by simp) ?_
                                          refine AllReadyH.cons (o := { dst := some 108, op := Op.call { callee := Callee.value (Operand.func 12), args := #[Operand.tmp 104, Operand.tmp 105, Operand.tmp 107], argTypes := #[23, 23, 3] }, type := 23, pos := "law.go:39", after := #[{ on := 1, ground := Ground.data }, { on := 2, ground := Ground.data }, { on := 4, ground := Ground.data }, { on := 4, ground := Ground.chain }, { on := 0, ground := Ground.guard }], guard := some (0, true) }) rfl (fun K hK => ?_) ?_
                                          · go_simp
                                            go_at_call 12
                                            refine (F9a _).mono ?_
                                            rintro e w21 ⟨rfl, b21⟩
                                            go_wp2_with fail
                                            have B21 := B20.trans (b21.mono B20.size)
                                            refine (Shut.stronger hK (fun w' => Below w21.heap.size w21 w') (fun w' h => b21.trans (h.mono b21.size))).out _ _ (Below.refl _ _) (fun _ => ?_)
                                            clear hK K
                                            try simp only [Act.put, List.setIfInBounds_toArray, List.set_cons_zero, List.set_cons_succ]
                                            refine wpAnyH_ready (rs := [9]) (by kernel_rfl) (by simp) ?_
                                            refine AllReadyH.cons (o := { dst := some 112, op := Op.call { callee := Callee.value (Operand.func 18), args := #[Operand.tmp 111, Operand.const (Value.int IntKind.i64 65600)], argTypes := #[3, 3] }, type := 3, pos := "law.go:39", after := #[{ on := 8, ground := Ground.data }, { on := 5, ground := Ground.chain }, { on := 0, ground := Ground.guard }], guard := some (0, true) }) rfl (fun K hK => ?_) ?_
                                            · go_simp
                                              go_at_call 18
                                              refine (pick_det t 65600 (by omega) (by omega) _).mono ?_
                                              rintro e w22 ⟨rfl, hw22⟩
                                              have b22 : Below w21.heap.size w21 w22 := by rw [hw22]; exact Below.refl _ _
                                              clear hw22
                                              go_wp2_with fail
                                              have B22 := B21.trans (b22.mono B21.size)
                                              refine (Shut.stronger hK (fun w' => Below w22.heap.size w22 w') (fun w' h => b22.trans (h.mono b22.size))).out _ _ (Below.refl _ _) (fun _ => ?_)
                                              clear hK K
                                              try simp only [Act.put, List.setIfInBounds_toArray, List.set_cons_zero, List.set_cons_succ]
                                              refine wpAnyH_ready (rs := [10]) (by kernel_rfl) (by simp) ?_
                                              refine AllReadyH.cons (o := { dst := some 113, op := Op.call { callee := Callee.value (Operand.func 26), args := #[Operand.tmp 109, Operand.tmp 110, Operand.tmp 112], argTypes := #[23, 23, 3] }, type := 23, pos := "law.go:39", after := #[{ on := 6, ground := Ground.data }, { on := 7, ground := Ground.data }, { on := 9, ground := Ground.data }, { on := 9, ground := Ground.chain }, { on := 0, ground := Ground.guard }], guard := some (0, true) }) rfl (fun K hK => ?_) ?_
                                              · go_simp
                                                go_at_call 26
                                                refine (F9b _).mono ?_
                                                rintro e w23 ⟨rfl, b23⟩
                                                go_wp2_with fail
                                                have B23 := B22.trans (b23.mono B22.size)
                                                refine (Shut.stronger hK (fun w' => Below w23.heap.size w23 w') (fun w' h => b23.trans (h.mono b23.size))).out _ _ (Below.refl _ _) (fun _ => ?_)
                                                clear hK K
                                                try simp only [Act.put, List.setIfInBounds_toArray, List.set_cons_zero, List.set_cons_succ]
                                                refine wpAnyH_take (i := 11) (oi := { dst := some 114, op := Op.binOp BinOp.eql 23 (Operand.tmp 108) (Operand.tmp 113) 23, type := 4, pos := "law.go:39", after := #[{ on := 5, ground := Ground.data }, { on := 10, ground := Ground.data }, { on := 0, ground := Ground.guard }], guard := some (0, true) }) (v := ?_) rfl (by kernel_rfl) (by kernel_rfl) (by kernel_rfl) (fun _ _ _ h => h) (Or.inl ⟨by rfl, ?_⟩) (Below.refl _ _) ?_
                                                rotate_left
                                                · (intro w' hSw; go_simp) <;> with_reducible rfl
                                                try simp only [Act.put, List.setIfInBounds_toArray, List.set_cons_zero, List.set_cons_succ]
                                                refine wpAnyH_take (i := 12) (oi := { dst := some 115, op := Op.pick (Operand.tmp 103) (Operand.tmp 114) (Operand.const (Value.bool false)), type := 4, pos := "law.go:39", after := #[{ on := 0, ground := Ground.data }, { on := 11, ground := Ground.data }], guard := none }) (v := ?_) rfl (by kernel_rfl) (by kernel_rfl) (by kernel_rfl) (fun _ _ _ h => h) (Or.inl ⟨by rfl, ?_⟩) (Below.refl _ _) ?_
                                                rotate_left
                                                · (intro w' hSw; go_simp) <;> with_reducible rfl
                                                try simp only [Act.put, List.setIfInBounds_toArray, List.set_cons_zero, List.set_cons_succ]
                                                refine wpAnyH_take (i := 13) (oi := { dst := some 116, op := Op.move (Operand.tmp 115), type := 4, pos := "law.go:39", after := #[{ on := 12, ground := Ground.data }, { on := 10, ground := Ground.chain }], guard := none }) (v := ?_) rfl (by kernel_rfl) (by kernel_rfl) (by kernel_rfl) (fun _ _ _ h => h) (Or.inl ⟨by rfl, ?_⟩) (Below.refl _ _) ?_
                                                rotate_left
                                                · (intro w' hSw; go_simp) <;> with_reducible rfl
                                                try simp only [Act.put, List.setIfInBounds_toArray, List.set_cons_zero, List.set_cons_succ]
                                                refine wpAnyH_done (by kernel_rfl) ?_ _
                                                refine segQ_end ?_
                                                refine chain_last 13 (fun w' => Below w23.heap.size w23 w') (by kernel_rfl) ?_
                                                refine wpAnyH_take (i := 1) (oi := { dst := some 117, op := Op.load 23 (Operand.tmp 11), type := 23, pos := "law.go:39", after := #[{ on := 0, ground := Ground.guard }], guard := some (0, true) }) (v := ?_) rfl (by kernel_rfl) (by kernel_rfl) (by kernel_rfl) (fun _ _ _ h => h) (Or.inl ⟨by rfl, ?_⟩) (Below.refl _ _) ?_
                                                rotate_left
                                                · (intro w' hSw; have hX := B23.trans (hSw.mono B23.size); have kp0 := p0 w' hX; have kp1 := p1 w' hX; have kp2 := p2 w' hX; have kp3 := p3 w' hX; go_simp) <;> with_reducible rfl
                                                try simp only [Act.put, List.setIfInBounds_toArray, List.set_cons_zero, List.set_cons_succ]
                                                refine wpAnyH_take (i := 2) (oi := { dst := some 118, op := Op.load 23 (Operand.tmp 12), type := 23, pos := "law.go:39", after := #[{ on := 0, ground := Ground.guard }], guard := some (0, true) }) (v := ?_) rfl (by kernel_rfl) (by kernel_rfl) (by kernel_rfl) (fun _ _ _ h => h) (Or.inl ⟨by rfl, ?_⟩) (Below.refl _ _) ?_
                                                rotate_left
                                                · (intro w' hSw; have hX := B23.trans (hSw.mono B23.size); have kq0 := q0 w' hX; have kq1 := q1 w' hX; have kq2 := q2 w' hX; have kq3 := q3 w' hX; go_simp) <;> with_reducible rfl
                                                try simp only [Act.put, List.setIfInBounds_toArray, List.set_cons_zero, List.set_cons_succ]
                                                refine wpAnyH_take (i := 6) (oi := { dst := some 122, op := Op.load 23 (Operand.tmp 11), type := 23, pos := "law.go:39", after := #[{ on := 0, ground := Ground.guard }], guard := some (0, true) }) (v := ?_) rfl (by kernel_rfl) (by kernel_rfl) (by kernel_rfl) (fun _ _ _ h => h) (Or.inl ⟨by rfl, ?_⟩) (Below.refl _ _) ?_
                                                rotate_left
                                                · (intro w' hSw; have hX := B23.trans (hSw.mono B23.size); have kp0 := p0 w' hX; have kp1 := p1 w' hX; have kp2 := p2 w' hX; have kp3 := p3 w' hX; go_simp) <;> with_reducible rfl
                                                try simp only [Act.put, List.setIfInBounds_toArray, List.set_cons_zero, List.set_cons_succ]
                                                refine wpAnyH_take (i := 7) (oi := { dst := some 123, op := Op.load 23 (Operand.tmp 12), type := 23, pos := "law.go:39", after := #[{ on := 0, ground := Ground.guard }], guard := some (0, true) }) (v := ?_) rfl (by kernel_rfl) (by kernel_rfl) (by kernel_rfl) (fun _ _ _ h => h) (Or.inl ⟨by rfl, ?_⟩) (Below.refl _ _) ?_
                                                rotate_left
                                                · (intro w' hSw; have hX := B23.trans (hSw.mono B23.size); have kq0 := q0 w' hX; have kq1 := q1 w' hX; have kq2 := q2 w' hX; have kq3 := q3 w' hX; go_simp) <;> with_reducible rfl
                                                try simp only [Act.put, List.setIfInBounds_toArray, List.set_cons_zero, List.set_cons_succ]
                                                refine wpAnyH_ready (rs := [3, 8]) (by kernel_rfl) (by simp) ?_
                                                refine AllReadyH.cons (o := { dst := some 119, op := Op.buildSlice 32 2 #[(0, Operand.tmp 117), (1, Operand.tmp 118)], type := 32, pos := "law.go:39", after := #[{ on := 1, ground := Ground.data }, { on := 2, ground := Ground.data }, { on := 0, ground := Ground.guard }], guard := some (0, true) }) rfl (fun K hK => ?_) ?_
                                                · go_simp
                                                  obtain ⟨w24, hw24⟩ : ∃ x, x = w23.alloc (.cells #[.int .i64 P.r, .int .i64 P.g, .int .i64 P.b, .int .i64 P.a, .int .i64 Q.r, .int .i64 Q.g, .int .i64 Q.b, .int .i64 Q.a] 23) := ⟨_, rfl⟩
                                                  rw [← hw24]
                                                  have gb14 : w24.heap[w23.heap.size]? = some (.cells #[.int .i64 P.r, .int .i64 P.g, .int .i64 P.b, .int .i64 P.a, .int .i64 Q.r, .int .i64 Q.g, .int .i64 Q.b, .int .i64 Q.a] 23) := by rw [hw24]; exact blk_new _ _
                                                  have b24 : Below w23.heap.size w23 w24 := by rw [hw24]; exact (Below.refl _ _).alloc (Nat.le_refl _) _
                                                  have gs14 : ∀ w', Below w24.heap.size w24 w' → w'.heap[w23.heap.size]? = some (.cells #[.int .i64 P.r, .int .i64 P.g, .int .i64 P.b, .int .i64 P.a, .int .i64 Q.r, .int .i64 Q.g, .int .i64 Q.b, .int .i64 Q.a] 23) := fun w' h => Below.blk h gb14 (blk_lt gb14)
                                                  clear hw24 gb14
                                                  have B24 := B23.trans (b24.mono B23.size)
                                                  refine (Shut.stronger hK (fun w' => Below w24.heap.size w24 w') (fun w' h => b24.trans (h.mono b24.size))).out _ _ (Below.refl _ _) (fun _ => ?_)
                                                  clear hK K
                                                  try simp only [Act.put, List.setIfInBounds_toArray, List.set_cons_zero, List.set_cons_succ]
                                                  refine wpAnyH_ready (rs := [4, 8]) (by kernel_rfl) (by simp) ?_
                                                  refine AllReadyH.cons (o := { dst := some 120, op := Op.call { callee := Callee.value (Operand.func 14), args := #[Operand.tmp 119], argTypes := #[32] }, type := 30, pos := "law.go:39", after := #[{ on := 3, ground := Ground.data }, { on := 0, ground := Ground.chain }, { on := 0, ground := Ground.guard }], guard := some (0, true) }) rfl (fun K hK => ?_) ?_
                                                  · go_simp
                                                    go_at_call 14
                                                    refine (bytes2 P Q _ _ (gs14 _ (Below.refl _ _))).mono ?_
                                                    rintro e w25 ⟨a25, c25, rfl, hs25, b25⟩
                                                    go_wp2_with fail
                                                    have B25 := B24.trans (b25.mono B24.size)
                                                    refine (Shut.stronger hK (fun w' => Below w25.heap.size w25 w') (fun w' h => b25.trans (h.mono b25.size))).out _ _ (Below.refl _ _) (fun _ => ?_)
                                                    clear hK K
                                                    try simp only [Act.put, List.setIfInBounds_toArray, List.set_cons_zero, List.set_cons_succ]
                                                    refine wpAnyH_take (i := 5) (oi := { dst := some 121, op := Op.convert 30 9 (Operand.tmp 120), type := 9, pos := "law.go:39", after := #[{ on := 4, ground := Ground.data }, { on := 0, ground := Ground.guard }], guard := some (0, true) }) (v := ?_) rfl (by kernel_rfl) (by kernel_rfl) (by kernel_rfl) (fun _ _ _ h => h) (Or.inl ⟨by rfl, ?_⟩) (Below.refl _ _) ?_
                                                    rotate_left
                                                    · (intro w' hSw; have kc := hs25 w' hSw; go_simp) <;> with_reducible rfl
                                                    try simp only [Act.put, List.setIfInBounds_toArray, List.set_cons_zero, List.set_cons_succ]
                                                    refine wpAnyH_ready (rs := [8]) (by kernel_rfl) (by simp) ?_
                                                    refine AllReadyH.cons (o := { dst := some 124, op := Op.buildSlice 32 2 #[(0, Operand.tmp 122), (1, Operand.tmp 123)], type := 32, pos := "law.go:39", after := #[{ on := 6, ground := Ground.data }, { on := 7, ground := Ground.data }, { on := 0, ground := Ground.guard }], guard := some (0, true) }) rfl (fun K hK => ?_) ?_
                                                    · go_simp
                                                      obtain ⟨w26, hw26⟩ : ∃ x, x = w25.alloc (.cells #[.int .i64 P.r, .int .i64 P.g, .int .i64 P.b, .int .i64 P.a, .int .i64 Q.r, .int .i64 Q.g, .int .i64 Q.b, .int .i64 Q.a] 23) := ⟨_, rfl⟩
                                                      rw [← hw26]
                                                      have gb27 : w26.heap[w25.heap.size]? = some (.cells #[.int .i64 P.r, .int .i64 P.g, .int .i64 P.b, .int .i64 P.a, .int .i64 Q.r, .int .i64 Q.g, .int .i64 Q.b, .int .i64 Q.a] 23) := by rw [hw26]; exact blk_new _ _
                                                      have b26 : Below w25.heap.size w25 w26 := by rw [hw26]; exact (Below.refl _ _).alloc (Nat.le_refl _) _
                                                      have gs27 : ∀ w', Below w26.heap.size w26 w' → w'.heap[w25.heap.size]? = some (.cells #[.int .i64 P.r, .int .i64 P.g, .int .i64 P.b, .int .i64 P.a, .int .i64 Q.r, .int .i64 Q.g, .int .i64 Q.b, .int .i64 Q.a] 23) := fun w' h => Below.blk h gb27 (blk_lt gb27)
                                                      clear hw26 gb27
                                                      have B26 := B25.trans (b26.mono B25.size)
                                                      refine (Shut.stronger hK (fun w' => Below w26.heap.size w26 w') (fun w' h => b26.trans (h.mono b26.size))).out _ _ (Below.refl _ _) (fun _ => ?_)
                                                      clear hK K
                                                      try simp only [Act.put, List.setIfInBounds_toArray, List.set_cons_zero, List.set_cons_succ]
                                                      refine wpAnyH_ready (rs := [9]) (by kernel_rfl) (by simp) ?_
                                                      refine AllReadyH.cons (o := { dst := some 125, op := Op.call { callee := Callee.value (Operand.func 27), args := #[Operand.tmp 124], argTypes := #[32] }, type := 30, pos := "law.go:39", after := #[{ on := 8, ground := Ground.data }, { on := 4, ground := Ground.chain }, { on := 0, ground := Ground.guard }], guard := some (0, true) }) rfl (fun K hK => ?_) ?_
                                                      · go_simp
                                                        go_at_call 27
                                                        refine (rbytes2 P Q _ _ (gs27 _ (Below.refl _ _))).mono ?_
                                                        rintro e w27 ⟨a27, c27, rfl, hs27, b27⟩
                                                        go_wp2_with fail
                                                        have B27 := B26.trans (b27.mono B26.size)
                                                        refine (Shut.stronger hK (fun w' => Below w27.heap.size w27 w') (fun w' h => b27.trans (h.mono b27.size))).out _ _ (Below.refl _ _) (fun _ => ?_)
                                                        clear hK K
                                                        try simp only [Act.put, List.setIfInBounds_toArray, List.set_cons_zero, List.set_cons_succ]
                                                        refine wpAnyH_take (i := 10) (oi := { dst := some 126, op := Op.convert 30 9 (Operand.tmp 125), type := 9, pos := "law.go:39", after := #[{ on := 9, ground := Ground.data }, { on := 0, ground := Ground.guard }], guard := some (0, true) }) (v := ?_) rfl (by kernel_rfl) (by kernel_rfl) (by kernel_rfl) (fun _ _ _ h => h) (Or.inl ⟨by rfl, ?_⟩) (Below.refl _ _) ?_
                                                        rotate_left
                                                        · (intro w' hSw; have kc := hs27 w' hSw; go_simp) <;> with_reducible rfl
                                                        try simp only [Act.put, List.setIfInBounds_toArray, List.set_cons_zero, List.set_cons_succ]
                                                        refine wpAnyH_take (i := 11) (oi := { dst := some 127, op := Op.binOp BinOp.eql 9 (Operand.tmp 121) (Operand.tmp 126) 9, type := 4, pos := "law.go:39", after := #[{ on := 5, ground := Ground.data }, { on := 10, ground := Ground.data }, { on := 0, ground := Ground.guard }], guard := some (0, true) }) (v := ?_) rfl (by kernel_rfl) (by kernel_rfl) (by kernel_rfl) (fun _ _ _ h => h) (Or.inl ⟨by rfl, ?_⟩) (Below.refl _ _) ?_
                                                        rotate_left
                                                        · (intro w' hSw; go_simp) <;> with_reducible rfl
                                                        try simp only [Act.put, List.setIfInBounds_toArray, List.set_cons_zero, List.set_cons_succ]
                                                        refine wpAnyH_take (i := 12) (oi := { dst := some 128, op := Op.pick (Operand.tmp 116) (Operand.tmp 127) (Operand.const (Value.bool false)), type := 4, pos := "law.go:39", after := #[{ on := 0, ground := Ground.data }, { on := 11, ground := Ground.data }], guard := none }) (v := ?_) rfl (by kernel_rfl) (by kernel_rfl) (by kernel_rfl) (fun _ _ _ h => h) (Or.inl ⟨by rfl, ?_⟩) (Below.refl _ _) ?_
                                                        rotate_left
                                                        · (intro w' hSw; go_simp) <;> with_reducible rfl
                                                        try simp only [Act.put, List.setIfInBounds_toArray, List.set_cons_zero, List.set_cons_succ]
                                                        refine wpAnyH_take (i := 13) (oi := { dst := some 10, op := Op.assign (Operand.tmp 128), type := 4, pos := "law.go:39", after := #[{ on := 12, ground := Ground.data }, { on := 9, ground := Ground.chain }, { on := 0, ground := Ground.phase }, { on := 1, ground := Ground.phase }, { on := 2, ground := Ground.phase }, { on := 3, ground := Ground.phase }, { on := 4, ground := Ground.phase }, { on := 5, ground := Ground.phase }, { on := 6, ground := Ground.phase }, { on := 7, ground := Ground.phase }, { on := 8, ground := Ground.phase }, { on := 9, ground := Ground.phase }, { on := 10, ground := Ground.phase }, { on := 11, ground := Ground.phase }, { on := 12, ground := Ground.phase }], guard := none }) (v := ?_) rfl (by kernel_rfl) (by kernel_rfl) (by kernel_rfl) (fun _ _ _ h => h) (Or.inl ⟨by rfl, ?_⟩) (Below.refl _ _) ?_
                                                        rotate_left
                                                        · (intro w' hSw; go_simp) <;> with_reducible rfl
                                                        try simp only [Act.put, List.setIfInBounds_toArray, List.set_cons_zero, List.set_cons_succ]
                                                        refine wpAnyH_done (by kernel_rfl) ?_ _
                                                        go_wp2
                                                        go_ret
                                                        exact ⟨rfl, BV.trans (B27.mono BV.size)⟩
                                                      exact AllReadyH.nil
                                                    exact AllReadyH.nil
                                                  refine AllReadyH.cons (o := { dst := some 124, op := Op.buildSlice 32 2 #[(0, Operand.tmp 122), (1, Operand.tmp 123)], type := 32, pos := "law.go:39", after := #[{ on := 6, ground := Ground.data }, { on := 7, ground := Ground.data }, { on := 0, ground := Ground.guard }], guard := some (0, true) }) rfl (fun K hK => ?_) ?_
                                                  · go_simp
                                                    obtain ⟨w28, hw28⟩ : ∃ x, x = w24.alloc (.cells #[.int .i64 P.r, .int .i64 P.g, .int .i64 P.b, .int .i64 P.a, .int .i64 Q.r, .int .i64 Q.g, .int .i64 Q.b, .int .i64 Q.a] 23) := ⟨_, rfl⟩
                                                    rw [← hw28]
                                                    have gb27 : w28.heap[w24.heap.size]? = some (.cells #[.int .i64 P.r, .int .i64 P.g, .int .i64 P.b, .int .i64 P.a, .int .i64 Q.r, .int .i64 Q.g, .int .i64 Q.b, .int .i64 Q.a] 23) := by rw [hw28]; exact blk_new _ _
                                                    have b28 : Below w24.heap.size w24 w28 := by rw [hw28]; exact (Below.refl _ _).alloc (Nat.le_refl _) _
                                                    have gs27 : ∀ w', Below w28.heap.size w28 w' → w'.heap[w24.heap.size]? = some (.cells #[.int .i64 P.r, .int .i64 P.g, .int .i64 P.b, .int .i64 P.a, .int .i64 Q.r, .int .i64 Q.g, .int .i64 Q.b, .int .i64 Q.a] 23) := fun w' h => Below.blk h gb27 (blk_lt gb27)
                                                    clear hw28 gb27
                                                    have B28 := B24.trans (b28.mono B24.size)
                                                    refine (Shut.stronger hK (fun w' => Below w28.heap.size w28 w') (fun w' h => b28.trans (h.mono b28.size))).out _ _ (Below.refl _ _) (fun _ => ?_)
                                                    clear hK K
                                                    try simp only [Act.put, List.setIfInBounds_toArray, List.set_cons_zero, List.set_cons_succ]
                                                    refine wpAnyH_ready (rs := [4]) (by kernel_rfl) (by simp) ?_
                                                    refine AllReadyH.cons (o := { dst := some 120, op := Op.call { callee := Callee.value (Operand.func 14), args := #[Operand.tmp 119], argTypes := #[32] }, type := 30, pos := "law.go:39", after := #[{ on := 3, ground := Ground.data }, { on := 0, ground := Ground.chain }, { on := 0, ground := Ground.guard }], guard := some (0, true) }) rfl (fun K hK => ?_) ?_
                                                    · go_simp
                                                      go_at_call 14
                                                      refine (bytes2 P Q _ _ (gs14 _ b28)).mono ?_
                                                      rintro e w29 ⟨a29, c29, rfl, hs29, b29⟩
                                                      go_wp2_with fail
                                                      have B29 := B28.trans (b29.mono B28.size)
                                                      refine (Shut.stronger hK (fun w' => Below w29.heap.size w29 w') (fun w' h => b29.trans (h.mono b29.size))).out _ _ (Below.refl _ _) (fun _ => ?_)
                                                      clear hK K
                                                      try simp only [Act.put, List.setIfInBounds_toArray, List.set_cons_zero, List.set_cons_succ]
                                                      refine wpAnyH_take (i := 5) (oi := { dst := some 121, op := Op.convert 30 9 (Operand.tmp 120), type := 9, pos := "law.go:39", after := #[{ on := 4, ground := Ground.data }, { on := 0, ground := Ground.guard }], guard := some (0, true) }) (v := ?_) rfl (by kernel_rfl) (by kernel_rfl) (by kernel_rfl) (fun _ _ _ h => h) (Or.inl ⟨by rfl, ?_⟩) (Below.refl _ _) ?_
                                                      rotate_left
                                                      · (intro w' hSw; have kc := hs29 w' hSw; go_simp) <;> with_reducible rfl
                                                      try simp only [Act.put, List.setIfInBounds_toArray, List.set_cons_zero, List.set_cons_succ]
                                                      refine wpAnyH_ready (rs := [9]) (by kernel_rfl) (by simp) ?_
                                                      refine AllReadyH.cons (o := { dst := some 125, op := Op.call { callee := Callee.value (Operand.func 27), args := #[Operand.tmp 124], argTypes := #[32] }, type := 30, pos := "law.go:39", after := #[{ on := 8, ground := Ground.data }, { on := 4, ground := Ground.chain }, { on := 0, ground := Ground.guard }], guard := some (0, true) }) rfl (fun K hK => ?_) ?_
                                                      · go_simp
                                                        go_at_call 27
                                                        refine (rbytes2 P Q _ _ (gs27 _ b29)).mono ?_
                                                        rintro e w30 ⟨a30, c30, rfl, hs30, b30⟩
                                                        go_wp2_with fail
                                                        have B30 := B29.trans (b30.mono B29.size)
                                                        refine (Shut.stronger hK (fun w' => Below w30.heap.size w30 w') (fun w' h => b30.trans (h.mono b30.size))).out _ _ (Below.refl _ _) (fun _ => ?_)
                                                        clear hK K
                                                        try simp only [Act.put, List.setIfInBounds_toArray, List.set_cons_zero, List.set_cons_succ]
                                                        refine wpAnyH_take (i := 10) (oi := { dst := some 126, op := Op.convert 30 9 (Operand.tmp 125), type := 9, pos := "law.go:39", after := #[{ on := 9, ground := Ground.data }, { on := 0, ground := Ground.guard }], guard := some (0, true) }) (v := ?_) rfl (by kernel_rfl) (by kernel_rfl) (by kernel_rfl) (fun _ _ _ h => h) (Or.inl ⟨by rfl, ?_⟩) (Below.refl _ _) ?_
                                                        rotate_left
                                                        · (intro w' hSw; have kc := hs30 w' hSw; go_simp) <;> with_reducible rfl
                                                        try simp only [Act.put, List.setIfInBounds_toArray, List.set_cons_zero, List.set_cons_succ]
                                                        refine wpAnyH_take (i := 11) (oi := { dst := some 127, op := Op.binOp BinOp.eql 9 (Operand.tmp 121) (Operand.tmp 126) 9, type := 4, pos := "law.go:39", after := #[{ on := 5, ground := Ground.data }, { on := 10, ground := Ground.data }, { on := 0, ground := Ground.guard }], guard := some (0, true) }) (v := ?_) rfl (by kernel_rfl) (by kernel_rfl) (by kernel_rfl) (fun _ _ _ h => h) (Or.inl ⟨by rfl, ?_⟩) (Below.refl _ _) ?_
                                                        rotate_left
                                                        · (intro w' hSw; go_simp) <;> with_reducible rfl
                                                        try simp only [Act.put, List.setIfInBounds_toArray, List.set_cons_zero, List.set_cons_succ]
                                                        refine wpAnyH_take (i := 12) (oi := { dst := some 128, op := Op.pick (Operand.tmp 116) (Operand.tmp 127) (Operand.const (Value.bool false)), type := 4, pos := "law.go:39", after := #[{ on := 0, ground := Ground.data }, { on := 11, ground := Ground.data }], guard := none }) (v := ?_) rfl (by kernel_rfl) (by kernel_rfl) (by kernel_rfl) (fun _ _ _ h => h) (Or.inl ⟨by rfl, ?_⟩) (Below.refl _ _) ?_
                                                        rotate_left
                                                        · (intro w' hSw; go_simp) <;> with_reducible rfl
                                                        try simp only [Act.put, List.setIfInBounds_toArray, List.set_cons_zero, List.set_cons_succ]
                                                        refine wpAnyH_take (i := 13) (oi := { dst := some 10, op := Op.assign (Operand.tmp 128), type := 4, pos := "law.go:39", after := #[{ on := 12, ground := Ground.data }, { on := 9, ground := Ground.chain }, { on := 0, ground := Ground.phase }, { on := 1, ground := Ground.phase }, { on := 2, ground := Ground.phase }, { on := 3, ground := Ground.phase }, { on := 4, ground := Ground.phase }, { on := 5, ground := Ground.phase }, { on := 6, ground := Ground.phase }, { on := 7, ground := Ground.phase }, { on := 8, ground := Ground.phase }, { on := 9, ground := Ground.phase }, { on := 10, ground := Ground.phase }, { on := 11, ground := Ground.phase }, { on := 12, ground := Ground.phase }], guard := none }) (v := ?_) rfl (by kernel_rfl) (by kernel_rfl) (by kernel_rfl) (fun _ _ _ h => h) (Or.inl ⟨by rfl, ?_⟩) (Below.refl _ _) ?_
                                                        rotate_left
                                                        · (intro w' hSw; go_simp) <;> with_reducible rfl
                                                        try simp only [Act.put, List.setIfInBounds_toArray, List.set_cons_zero, List.set_cons_succ]
                                                        refine wpAnyH_done (by kernel_rfl) ?_ _
                                                        go_wp2
                                                        go_ret
                                                        exact ⟨rfl, BV.trans (B30.mono BV.size)⟩
                                                      exact AllReadyH.nil
                                                    exact AllReadyH.nil
                                                  exact AllReadyH.nil
                                                refine AllReadyH.cons (o := { dst := some 124, op := Op.buildSlice 32 2 #[(0, Operand.tmp 122), (1, Operand.tmp 123)], type := 32, pos := "law.go:39", after := #[{ on := 6, ground := Ground.data }, { on := 7, ground := Ground.data }, { on := 0, ground := Ground.guard }], guard := some (0, true) }) rfl (fun K hK => ?_) ?_
                                                · go_simp
                                                  obtain ⟨w31, hw31⟩ : ∃ x, x = w23.alloc (.cells #[.int .i64 P.r, .int .i64 P.g, .int .i64 P.b, .int .i64 P.a, .int .i64 Q.r, .int .i64 Q.g, .int .i64 Q.b, .int .i64 Q.a] 23) := ⟨_, rfl⟩
                                                  rw [← hw31]
                                                  have gb27 : w31.heap[w23.heap.size]? = some (.cells #[.int .i64 P.r, .int .i64 P.g, .int .i64 P.b, .int .i64 P.a, .int .i64 Q.r, .int .i64 Q.g, .int .i64 Q.b, .int .i64 Q.a] 23) := by rw [hw31]; exact blk_new _ _
                                                  have b31 : Below w23.heap.size w23 w31 := by rw [hw31]; exact (Below.refl _ _).alloc (Nat.le_refl _) _
                                                  have gs27 : ∀ w', Below w31.heap.size w31 w' → w'.heap[w23.heap.size]? = some (.cells #[.int .i64 P.r, .int .i64 P.g, .int .i64 P.b, .int .i64 P.a, .int .i64 Q.r, .int .i64 Q.g, .int .i64 Q.b, .int .i64 Q.a] 23) := fun w' h => Below.blk h gb27 (blk_lt gb27)
                                                  clear hw31 gb27
                                                  have B31 := B23.trans (b31.mono B23.size)
                                                  refine (Shut.stronger hK (fun w' => Below w31.heap.size w31 w') (fun w' h => b31.trans (h.mono b31.size))).out _ _ (Below.refl _ _) (fun _ => ?_)
                                                  clear hK K
                                                  try simp only [Act.put, List.setIfInBounds_toArray, List.set_cons_zero, List.set_cons_succ]
                                                  refine wpAnyH_ready (rs := [3]) (by kernel_rfl) (by simp) ?_
                                                  refine AllReadyH.cons (o := { dst := some 119, op := Op.buildSlice 32 2 #[(0, Operand.tmp 117), (1, Operand.tmp 118)], type := 32, pos := "law.go:39", after := #[{ on := 1, ground := Ground.data }, { on := 2, ground := Ground.data }, { on := 0, ground := Ground.guard }], guard := some (0, true) }) rfl (fun K hK => ?_) ?_
                                                  · go_simp
                                                    obtain ⟨w32, hw32⟩ : ∃ x, x = w31.alloc (.cells #[.int .i64 P.r, .int .i64 P.g, .int .i64 P.b, .int .i64 P.a, .int .i64 Q.r, .int .i64 Q.g, .int .i64 Q.b, .int .i64 Q.a] 23) := ⟨_, rfl⟩
                                                    rw [← hw32]
                                                    have gb14 : w32.heap[w31.heap.size]? = some (.cells #[.int .i64 P.r, .int .i64 P.g, .int .i64 P.b, .int .i64 P.a, .int .i64 Q.r, .int .i64 Q.g, .int .i64 Q.b, .int .i64 Q.a] 23) := by rw [hw32]; exact blk_new _ _
                                                    have b32 : Below w31.heap.size w31 w32 := by rw [hw32]; exact (Below.refl _ _).alloc (Nat.le_refl _) _
                                                    have gs14 : ∀ w', Below w32.heap.size w32 w' → w'.heap[w31.heap.size]? = some (.cells #[.int .i64 P.r, .int .i64 P.g, .int .i64 P.b, .int .i64 P.a, .int .i64 Q.r, .int .i64 Q.g, .int .i64 Q.b, .int .i64 Q.a] 23) := fun w' h => Below.blk h gb14 (blk_lt gb14)
                                                    clear hw32 gb14
                                                    have B32 := B31.trans (b32.mono B31.size)
                                                    refine (Shut.stronger hK (fun w' => Below w32.heap.size w32 w') (fun w' h => b32.trans (h.mono b32.size))).out _ _ (Below.refl _ _) (fun _ => ?_)
                                                    clear hK K
                                                    try simp only [Act.put, List.setIfInBounds_toArray, List.set_cons_zero, List.set_cons_succ]
                                                    refine wpAnyH_ready (rs := [4]) (by kernel_rfl) (by simp) ?_
                                                    refine AllReadyH.cons (o := { dst := some 120, op := Op.call { callee := Callee.value (Operand.func 14), args := #[Operand.tmp 119], argTypes := #[32] }, type := 30, pos := "law.go:39", after := #[{ on := 3, ground := Ground.data }, { on := 0, ground := Ground.chain }, { on := 0, ground := Ground.guard }], guard := some (0, true) }) rfl (fun K hK => ?_) ?_
                                                    · go_simp
                                                      go_at_call 14
                                                      refine (bytes2 P Q _ _ (gs14 _ (Below.refl _ _))).mono ?_
                                                      rintro e w33 ⟨a33, c33, rfl, hs33, b33⟩
                                                      go_wp2_with fail
                                                      have B33 := B32.trans (b33.mono B32.size)
                                                      refine (Shut.stronger hK (fun w' => Below w33.heap.size w33 w') (fun w' h => b33.trans (h.mono b33.size))).out _ _ (Below.refl _ _) (fun _ => ?_)
                                                      clear hK K
                                                      try simp only [Act.put, List.setIfInBounds_toArray, List.set_cons_zero, List.set_cons_succ]
                                                      refine wpAnyH_take (i := 5) (oi := { dst := some 121, op := Op.convert 30 9 (Operand.tmp 120), type := 9, pos := "law.go:39", after := #[{ on := 4, ground := Ground.data }, { on := 0, ground := Ground.guard }], guard := some (0, true) }) (v := ?_) rfl (by kernel_rfl) (by kernel_rfl) (by kernel_rfl) (fun _ _ _ h => h) (Or.inl ⟨by rfl, ?_⟩) (Below.refl _ _) ?_
                                                      rotate_left
                                                      · (intro w' hSw; have kc := hs33 w' hSw; go_simp) <;> with_reducible rfl
                                                      try simp only [Act.put, List.setIfInBounds_toArray, List.set_cons_zero, List.set_cons_succ]
                                                      refine wpAnyH_ready (rs := [9]) (by kernel_rfl) (by simp) ?_
                                                      refine AllReadyH.cons (o := { dst := some 125, op := Op.call { callee := Callee.value (Operand.func 27), args := #[Operand.tmp 124], argTypes := #[32] }, type := 30, pos := "law.go:39", after := #[{ on := 8, ground := Ground.data }, { on := 4, ground := Ground.chain }, { on := 0, ground := Ground.guard }], guard := some (0, true) }) rfl (fun K hK => ?_) ?_
                                                      · go_simp
                                                        go_at_call 27
                                                        refine (rbytes2 P Q _ _ (gs27 _ (b32.trans (b33.mono b32.size)))).mono ?_
                                                        rintro e w34 ⟨a34, c34, rfl, hs34, b34⟩
                                                        go_wp2_with fail
                                                        have B34 := B33.trans (b34.mono B33.size)
                                                        refine (Shut.stronger hK (fun w' => Below w34.heap.size w34 w') (fun w' h => b34.trans (h.mono b34.size))).out _ _ (Below.refl _ _) (fun _ => ?_)
                                                        clear hK K
                                                        try simp only [Act.put, List.setIfInBounds_toArray, List.set_cons_zero, List.set_cons_succ]
                                                        refine wpAnyH_take (i := 10) (oi := { dst := some 126, op := Op.convert 30 9 (Operand.tmp 125), type := 9, pos := "law.go:39", after := #[{ on := 9, ground := Ground.data }, { on := 0, ground := Ground.guard }], guard := some (0, true) }) (v := ?_) rfl (by kernel_rfl) (by kernel_rfl) (by kernel_rfl) (fun _ _ _ h => h) (Or.inl ⟨by rfl, ?_⟩) (Below.refl _ _) ?_
                                                        rotate_left
                                                        · (intro w' hSw; have kc := hs34 w' hSw; go_simp) <;> with_reducible rfl
                                                        try simp only [Act.put, List.setIfInBounds_toArray, List.set_cons_zero, List.set_cons_succ]
                                                        refine wpAnyH_take (i := 11) (oi := { dst := some 127, op := Op.binOp BinOp.eql 9 (Operand.tmp 121) (Operand.tmp 126) 9, type := 4, pos := "law.go:39", after := #[{ on := 5, ground := Ground.data }, { on := 10, ground := Ground.data }, { on := 0, ground := Ground.guard }], guard := some (0, true) }) (v := ?_) rfl (by kernel_rfl) (by kernel_rfl) (by kernel_rfl) (fun _ _ _ h => h) (Or.inl ⟨by rfl, ?_⟩) (Below.refl _ _) ?_
                                                        rotate_left
                                                        · (intro w' hSw; go_simp) <;> with_reducible rfl
                                                        try simp only [Act.put, List.setIfInBounds_toArray, List.set_cons_zero, List.set_cons_succ]
                                                        refine wpAnyH_take (i := 12) (oi := { dst := some 128, op := Op.pick (Operand.tmp 116) (Operand.tmp 127) (Operand.const (Value.bool false)), type := 4, pos := "law.go:39", after := #[{ on := 0, ground := Ground.data }, { on := 11, ground := Ground.data }], guard := none }) (v := ?_) rfl (by kernel_rfl) (by kernel_rfl) (by kernel_rfl) (fun _ _ _ h => h) (Or.inl ⟨by rfl, ?_⟩) (Below.refl _ _) ?_
                                                        rotate_left
                                                        · (intro w' hSw; go_simp) <;> with_reducible rfl
                                                        try simp only [Act.put, List.setIfInBounds_toArray, List.set_cons_zero, List.set_cons_succ]
                                                        refine wpAnyH_take (i := 13) (oi := { dst := some 10, op := Op.assign (Operand.tmp 128), type := 4, pos := "law.go:39", after := #[{ on := 12, ground := Ground.data }, { on := 9, ground := Ground.chain }, { on := 0, ground := Ground.phase }, { on := 1, ground := Ground.phase }, { on := 2, ground := Ground.phase }, { on := 3, ground := Ground.phase }, { on := 4, ground := Ground.phase }, { on := 5, ground := Ground.phase }, { on := 6, ground := Ground.phase }, { on := 7, ground := Ground.phase }, { on := 8, ground := Ground.phase }, { on := 9, ground := Ground.phase }, { on := 10, ground := Ground.phase }, { on := 11, ground := Ground.phase }, { on := 12, ground := Ground.phase }], guard := none }) (v := ?_) rfl (by kernel_rfl) (by kernel_rfl) (by kernel_rfl) (fun _ _ _ h => h) (Or.inl ⟨by rfl, ?_⟩) (Below.refl _ _) ?_
                                                        rotate_left
                                                        · (intro w' hSw; go_simp) <;> with_reducible rfl
                                                        try simp only [Act.put, List.setIfInBounds_toArray, List.set_cons_zero, List.set_cons_succ]
                                                        refine wpAnyH_done (by kernel_rfl) ?_ _
                                                        go_wp2
                                                        go_ret
                                                        exact ⟨rfl, BV.trans (B34.mono BV.size)⟩
                                                      exact AllReadyH.nil
                                                    exact AllReadyH.nil
                                                  exact AllReadyH.nil
                                                exact AllReadyH.nil
                                              exact AllReadyH.nil
                                            exact AllReadyH.nil
                                          exact AllReadyH.nil
                                        exact AllReadyH.nil
                                      exact AllReadyH.nil
                                    exact AllReadyH.nil
                                  exact AllReadyH.nil
                                exact AllReadyH.nil
                              exact AllReadyH.nil
                            exact AllReadyH.nil
                          exact AllReadyH.nil
                        exact AllReadyH.nil
                      exact AllReadyH.nil
                    exact AllReadyH.nil
                  exact AllReadyH.nil
                exact AllReadyH.nil
              exact AllReadyH.nil
            exact AllReadyH.nil
          exact AllReadyH.nil
        exact AllReadyH.nil
      exact AllReadyH.nil
    exact AllReadyH.nil
  exact AllReadyH.nil
end Go.Proofs.Ytffkbombeaojjaa
