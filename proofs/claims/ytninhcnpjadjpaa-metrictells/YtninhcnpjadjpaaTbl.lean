/-
  A font's Tags and Table as contracts.
-/
import Derived.Test.YtninhcnpjadjpaaOpn
import Derived.Test.YtninhcnpjadjpaaCone
namespace Go.Proofs.Ytninhcnpjadjpaa
open Go.RowKit

theorem make26 (n : Nat) (hn : n ≤ 64) (W : World) : (Instr.makeSlice 30 (.int .i64 n) (.int .i64 n)).run Try.prog W = .ok (.slice (some ⟨W.heap.size, 0, none⟩) n n) (W.alloc (.cells (arr n fun _ => .string ⟨#[]⟩) 9)) := by
  obtain ⟨i, hi, h1, h2, h3⟩ := info_of E26.hi
  have h := run_make (P := Try.prog) W 30 9 i _ Try.underlying30 hi h1 .i64 .i64 n n (by omega) (by omega) (by rw [h2]; omega) (by omega)
  rw [h, h3, Int.toNat_natCast, Nat.mul_one]
  show Result.ok _ (W.alloc (.cells (madeCells #[.string ⟨#[]⟩] n) 9)) = _
  rw [made_arr]

set_option maxRecDepth 100000 in
set_option maxHeartbeats 800000 in
theorem table_no (p len n : Nat) (z : Nat → Nat) (tg : Nat → ByteArray) (at' sz : Nat → Nat) (t : ByteArray) (w : World) (h : Fnt w p len n z tg at' sz) (hf : IsF tg n t n) :
    Calls Try.prog 18 #[.pointer (some ⟨p, 0, none⟩), .string t] w fun e w' => e = .returned (.tuple #[.slice none 0 0, .bool false]) ∧ Below w.heap.size w w' := by
  obtain ⟨a, c, ra, rc, hp, hL, hR⟩ := h.blk
  have c1 := blk_cell hp 1
  simp only [List.getElem?_toArray, List.getElem?_cons_zero, List.getElem?_cons_succ] at c1
  have hne : ∀ W : World, (binOp .eql 34 (.pointer (some ⟨p, 0, none⟩)) (.pointer none)).run Try.prog W = .ok (.bool false) W := fun W => by kernel_rfl
  have P := place_any ra n rc tg at' sz t n w hR hf
  rw [show fndv n n = -1 from if_neg (Nat.lt_irrefl _)] at P
  clear hf hL hR
  go_enter Try.func18, Try.ntmps18
  go_wp2_with fail
  refine P.mono ?_
  rintro e w1 ⟨rfl, b1⟩
  go_wp2
  go_ret2
  exact ⟨rfl, b1⟩

set_option maxRecDepth 100000 in
set_option maxHeartbeats 1600000 in
theorem table_yes (p len n : Nat) (z : Nat → Nat) (tg : Nat → ByteArray) (at' sz : Nat → Nat) (t : ByteArray) (r : Nat) (w : World) (h : Fnt w p len n z tg at' sz) (hf : IsF tg n t r) (hr : r < n) (hfit : at' r + sz r ≤ len) :
    Calls Try.prog 18 #[.pointer (some ⟨p, 0, none⟩), .string t] w fun e w' => ∃ a c, e = .returned (.tuple #[.slice a (sz r) c, .bool true]) ∧ Lies w' a (sz r) c (fun i => z (at' r + i)) ∧ Below w.heap.size w w' := by
  have h0 := h
  obtain ⟨a, c, ra, rc, hp, hL, hR⟩ := h.blk
  have hn := hR.reach
  have c1 := blk_cell hp 1
  simp only [List.getElem?_toArray, List.getElem?_cons_zero, List.getElem?_cons_succ] at c1
  have hne : ∀ W : World, (binOp .eql 34 (.pointer (some ⟨p, 0, none⟩)) (.pointer none)).run Try.prog W = .ok (.bool false) W := fun W => by kernel_rfl
  have P := place_any ra n rc tg at' sz t r w hR hf
  rw [show fndv r n = r from if_pos hr] at P
  obtain ⟨g, rfl, hg, hc⟩ := hR.spot (by omega)
  obtain ⟨d0, d1, d2⟩ := hc r hr
  have hrc := hR.lc
  have hr' : (r : Int) < n := by omega
  clear hf hc
  go_enter Try.func18, Try.ntmps18
  go_wp2_with fail
  refine P.mono ?_
  rintro e w1 ⟨rfl, b1⟩
  have L1 := hL.below b1 (Nat.le_refl _)
  have hp1 := (b1.block p (blk_lt hp)).trans hp
  have e0 := blk_cell hp1 0
  have e1 := blk_cell hp1 1
  simp only [List.getElem?_toArray, List.getElem?_cons_zero, List.getElem?_cons_succ] at e0 e1
  have e2 := (World.cell?_of_block (a := ⟨g, r * 3 + 1, none⟩) (b1.block g hg)).trans d1
  have e3 := (World.cell?_of_block (a := ⟨g, r * 3 + 2, none⟩) (b1.block g hg)).trans d2
  have r0 : (0 : Int) ≤ (r : Int) := by omega
  have bd : Below w1.heap.size w1 w1.drew := (Below.refl _ _).drew
  have L2 := L1.below bd (Nat.le_refl _)
  have hplt := blk_lt hp1
  have hglt : g < w1.heap.size := by have := b1.size; omega
  have KEEP : ∀ w3 : World, Below w1.drew.heap.size w1.drew w3 → w3.cell? ⟨p, 0, none⟩ = some (.slice a len c) ∧ w3.cell? ⟨p, 1, none⟩ = some (.slice (some ⟨g, 0, none⟩) n rc) ∧ w3.cell? ⟨g, r * 3 + 1, none⟩ = some (.int .i64 (at' r : Nat)) ∧ w3.cell? ⟨g, r * 3 + 2, none⟩ = some (.int .i64 (sz r : Nat)) := fun w3 b3 => by
    have B := bd.trans (b3.mono bd.size)
    exact ⟨(World.cell?_of_block (a := ⟨p, 0, none⟩) (B.block p hplt)).trans e0, (World.cell?_of_block (a := ⟨p, 1, none⟩) (B.block p hplt)).trans e1, (World.cell?_of_block (a := ⟨g, r * 3 + 1, none⟩) (B.block g hglt)).trans e2, (World.cell?_of_block (a := ⟨g, r * 3 + 2, none⟩) (B.block g hglt)).trans e3⟩
  have HL2 : Hid (Lies w1.drew a len c z) := L2
  clear c1 d0 d1 d2 P h h0 hp hp1 hL hR L2 L1
  go_wp2_with fail
  go_region_held3 (fun V => V.cell? ⟨p, 0, none⟩ = some (.slice a len c) ∧ V.cell? ⟨p, 1, none⟩ = some (.slice (some ⟨g, 0, none⟩) n rc) ∧ V.cell? ⟨g, r * 3 + 1, none⟩ = some (.int .i64 (at' r : Nat)) ∧ V.cell? ⟨g, r * 3 + 2, none⟩ = some (.int .i64 (sz r : Nat))) (go_keep)
    (first | (go_at_call 29; refine (part_yes a len c z (at' r) (sz r) _ HL2.out hfit).mono ?_; rintro e w3 ⟨a3, c3, rfl, L3, b3⟩; obtain ⟨f0, f1, f2, f3⟩ := KEEP w3 b3))
  all_goals
    have B3 := (b1.trans (bd.mono b1.size)).trans (b3.mono (by have := b1.size; exact this))
    go_wp2
    go_ret2
    exact ⟨a3, c3, rfl, L3, B3⟩
end Go.Proofs.Ytninhcnpjadjpaa
