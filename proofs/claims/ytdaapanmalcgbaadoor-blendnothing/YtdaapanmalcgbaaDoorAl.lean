/-
  BlendAll's own walk.
-/
import Derived.Test.YtdaapanmalcgbaaDoorMis
import Derived.Test.YtdaapanmalcgbaaDoorBni
namespace Go.Proofs.YtdaapanmalcgbaaDoor
open Go.RowKit

/-- What both Blends answer of two premultiplied pixels. -/
theorem blend_yes {m : Int} {p q r : Px} (h0 : 0 ≤ m) (h1 : m < 28) (hp : Pm p) (hq : Pm q) (hr : outv m p q = r) (W : World) (hT : Tab W) : Calls Tryd.prog 9 #[.int .i64 m, pv p, pv q] W fun e w' => e = .returned (.tuple #[pv r, .bool true]) ∧ Below W.heap.size W w' :=
  told (blend_any m p q W hT) (by unfold blendR; rw [hr, mayv_of h0 h1 hp hq])
theorem rblend_yes {m : Int} {p q r : Px} (h0 : 0 ≤ m) (h1 : m < 28) (hp : Pm p) (hq : Pm q) (hr : outv m p q = r) (W : World) : Calls Tryd.prog 13 #[.int .i64 m, pv p, pv q] W fun e w' => e = .returned (.tuple #[pv r, .bool true]) ∧ Below W.heap.size W w' :=
  told (rblend_any m p q W) (by unfold blendR; rw [hr, mayv_of h0 h1 hp hq])

set_option maxRecDepth 100000 in
set_option maxHeartbeats 3200000 in
theorem blendAll_walk (w : World) (a b : Int) (ha : Fits a) (hb : Fits b) (hT : Tab w) : Calls Tryd.prog 5 #[.int .i64 a, .int .i64 b] w fun e w' => e = .returned (.bool true) ∧ Below w.heap.size w w' := by
  have hp := premulv_pm a
  have hq := premulv_pm b
  have A1 := premul_any a ha
  have A2 := premul_any b hb
  obtain ⟨p, hpe⟩ : ∃ x, premulv a = x := ⟨_, rfl⟩
  obtain ⟨q, hqe⟩ : ∃ x, premulv b = x := ⟨_, rfl⟩
  rw [hpe] at hp A1
  rw [hqe] at hq A2
  clear hpe hqe ha hb
  go_enter Tryd.func5, Tryd.ntmps5
  go_wp2_with fail
  refine (A1 _).mono ?_
  rintro e w1 ⟨rfl, b1⟩
  go_wp2_with fail
  refine (A2 _).mono ?_
  rintro e w2 ⟨rfl, b2⟩
  have gp := Below.blk b2 (blk_new w1 (pblk p)) (by simp)
  have B := (b1.alloc b1.size (pblk p)).trans (b2.mono (by have := b1.size; simp; omega))
  have lp := blk_lt gp
  clear b1 b2 A1 A2
  go_wp2_with fail
  obtain ⟨V, hV⟩ : ∃ x, x = w2.alloc (.cells #[.int .i64 q.r, .int .i64 q.g, .int .i64 q.b, .int .i64 q.a] 23) := ⟨_, rfl⟩
  rw [← hV]
  have gq : V.heap[w2.heap.size]? = some (pblk q) := by rw [hV]; exact blk_new _ _
  replace gp : V.heap[w1.heap.size]? = some (pblk p) := by rw [hV]; exact blk_alloc gp _
  replace B : Below w.heap.size w V := by rw [hV]; exact B.alloc B.size _
  have T := hT.on B
  clear hV lp
  go_loopw [7] (fun v wq => ∃ m : Nat, m ≤ 28 ∧ v = .int .i64 (m : Nat) ∧ Below V.heap.size V wq) (fun v _ => 28 - (intOf v).toNat)
  case atStart => exact ⟨0, by omega, rfl, Below.refl _ _⟩
  case round =>
    obtain ⟨m, hm, rfl, hB⟩ := hrel
    have T1 := T.on hB
    by_cases hmn : m < 28
    · have hm' : (m : Int) < 28 := by omega
      have kp := Below.blk hB gp (blk_lt gp)
      have kq := Below.blk hB gq (blk_lt gq)
      obtain ⟨r, hr⟩ : ∃ x, outv m p q = x := ⟨_, rfl⟩
      have A3 := blend_yes (m := m) (by omega) hm' hp hq hr
      have A4 := rblend_yes (m := m) (by omega) hm' hp hq hr
      clear hr
      obtain ⟨p0, p1, p2, p3⟩ := px_cells kp
      obtain ⟨q0, q1, q2, q3⟩ := px_cells kq
      go_wp2_with fail
      refine (A3 _ T1).mono ?_
      rintro e w3 ⟨rfl, b3⟩
      clear p0 p1 p2 p3 q0 q1 q2 q3
      replace kp := blk_alloc (Below.blk b3 kp (blk_lt kp)) (pblk r)
      replace kq := blk_alloc (Below.blk b3 kq (blk_lt kq)) (pblk r)
      replace hB := hB.trans (b3.mono hB.size)
      obtain ⟨p0, p1, p2, p3⟩ := px_cells kp
      obtain ⟨q0, q1, q2, q3⟩ := px_cells kq
      go_wp2_with fail
      refine (A4 _).mono ?_
      rintro e w4 ⟨rfl, b4⟩
      have kx := Below.blk b4 (blk_new w3 (pblk r)) (by simp)
      replace hB := (hB.alloc hB.size (pblk r)).trans (b4.mono (by have := hB.size; simp; omega))
      clear p0 p1 p2 p3 q0 q1 q2 q3 b3 b4 kp kq A3 A4
      obtain ⟨p0, p1, p2, p3⟩ := px_cells kx
      have lx := blk_lt kx
      go_wp2_with fail
      exact ⟨⟨m + 1, by omega, by go_num, hB.alloc hB.size _⟩, by simp [intOf]; omega⟩
    · obtain rfl : m = 28 := by omega
      go_wp2_with fail
      refine (known_any _ T1).mono ?_
      rintro e w3 ⟨rfl, b3⟩
      go_wp2
      go_ret
      exact ⟨rfl, B.trans ((hB.trans (b3.mono hB.size)).mono B.size)⟩
end Go.Proofs.YtdaapanmalcgbaaDoor
