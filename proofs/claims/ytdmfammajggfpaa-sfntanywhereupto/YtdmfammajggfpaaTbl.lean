/-
  A font's Tags and Table as contracts.
-/
import Derived.Test.YtdmfammajggfpaaOpn
import Derived.Test.YtdmfammajggfpaaCone
namespace Go.Proofs.Ytdmfammajggfpaa
open Go.RowKit

theorem make26 (n : Nat) (hn : n ≤ 64) (W : World) : (Instr.makeSlice 26 (.int .i64 n) (.int .i64 n)).run Try.prog W = .ok (.slice (some ⟨W.heap.size, 0, none⟩) n n) (W.alloc (.cells (arr n fun _ => .string ⟨#[]⟩) 9)) := by
  obtain ⟨i, hi, h1, h2, h3⟩ := info_of E26.hi
  have h := run_make (P := Try.prog) W 26 9 i _ Try.underlying26 hi h1 .i64 .i64 n n (by omega) (by omega) (by rw [h2]; omega) (by omega)
  rw [h, h3, Int.toNat_natCast, Nat.mul_one]
  show Result.ok _ (W.alloc (.cells (madeCells #[.string ⟨#[]⟩] n) 9)) = _
  rw [made_arr]

set_option maxRecDepth 100000 in
set_option maxHeartbeats 1600000 in
theorem tags_any (p len n : Nat) (z : Nat → Nat) (tg : Nat → ByteArray) (at' sz : Nat → Nat) (w : World) (h : Fnt w p len n z tg at' sz) :
    Calls Try.prog 16 #[.pointer (some ⟨p, 0, none⟩)] w fun e w' => ∃ g, e = .returned (.slice (some ⟨g, 0, none⟩) n n) ∧ w.heap.size ≤ g ∧ Strs w' (some ⟨g, 0, none⟩) n n tg ∧ Below w.heap.size w w' := by
  obtain ⟨a, c, ra, rc, hp, hL, hR⟩ := h.blk
  have hn := hR.reach
  have hrc := hR.lc
  have c1 := blk_cell hp 1
  simp only [List.getElem?_toArray, List.getElem?_cons_zero, List.getElem?_cons_succ] at c1
  have hmk := make26 n hn
  have hne : ∀ W : World, (binOp .eql 29 (.pointer (some ⟨p, 0, none⟩)) (.pointer none)).run Try.prog W = .ok (.bool false) W := fun W => by kernel_rfl
  have bw : Below w.heap.size w (w.alloc (.cells (arr n fun _ => .string ⟨#[]⟩) 9)) := (Below.refl _ _).alloc (Nat.le_refl _) _
  have c1' : (w.alloc (.cells (arr n fun _ => .string ⟨#[]⟩) 9)).cell? ⟨p, 1, none⟩ = some (.slice ra n rc) := (World.cell?_of_block (a := ⟨p, 1, none⟩) (bw.block p (blk_lt hp))).trans c1
  have hg0 := blk_new w (.cells (arr n fun _ => .string ⟨#[]⟩) 9)
  clear hp hL
  go_enter Try.func16, Try.ntmps16
  go_wp2_with fail
  go_loopw [19] (fun i wq => ∃ k : Nat, i = .int .i64 (k : Nat) ∧ k ≤ n ∧ wq.heap[w.heap.size]? = some (.cells (arr n fun j => if j < k then .string (tg j) else .string ⟨#[]⟩) 9) ∧ Below w.heap.size w wq) (fun i _ => n - (intOf i).toNat)
  case atStart => exact ⟨0, rfl, by omega, by rw [hg0]; congr 3, bw⟩
  case round =>
    clear bw hg0 c1' c1 hmk hne
    obtain ⟨k, rfl, hk, hG, hB⟩ := hrel
    by_cases hkn : k < n
    · have hkn' : (k : Int) < n := by omega
      have R1 := hR.below hB (Nat.le_refl _)
      obtain ⟨g, rfl, hg, hc⟩ := R1.spot (by omega)
      obtain ⟨d0, d1, d2⟩ := hc k hkn
      obtain ⟨X, hX⟩ : ∃ X, Hid (at' k = X) := ⟨_, rfl⟩
      obtain ⟨Y, hY⟩ : ∃ X, Hid (sz k = X) := ⟨_, rfl⟩
      obtain ⟨T, hT⟩ : ∃ X, Hid (tg k = X) := ⟨_, rfl⟩
      rw [hT.out] at d0
      rw [hX.out] at d1
      rw [hY.out] at d2
      obtain ⟨o, ho⟩ : ∃ o : Obj, o = .cells #[.string T, .int .i64 (X : Nat), .int .i64 (Y : Nat)] 68 := ⟨_, rfl⟩
      have G1 : (wr.alloc o).heap[w.heap.size]? = _ := blk_alloc hG o
      have f1 := blk_free G1 k
      have v1 := arr_cell G1 hkn
      rw [if_neg (Nat.lt_irrefl _)] at v1
      have B1 := hB.alloc hB.size o
      have G2 := arr_blk_set G1 k (.string T)
      subst ho
      clear R1 hc hG
      go_wp2_with fail
      refine ⟨⟨k + 1, by go_num, by omega, ?_, B1.setCell (Nat.le_refl _) _⟩, by simp [intOf]; omega⟩
      rw [G2]
      congr 2
      exact arr_congr n _ _ fun j hj => by
        by_cases e : j = k
        · rw [if_pos e, if_pos (by omega), e, hT.out]
        · rw [if_neg e]
          by_cases e2 : j < k
          · rw [if_pos e2, if_pos (by omega)]
          · rw [if_neg e2, if_neg (by omega)]
    · obtain rfl : k = n := by omega
      have hkn' : ¬ (k : Int) < k := by omega
      go_wp2
      go_ret
      exact ⟨_, rfl, Nat.le_refl _, ⟨Nat.le_refl _, by omega, fun _ => ⟨_, 0, rfl, blk_lt hG, fun i hi => by rw [Nat.zero_add, arr_cell hG hi, if_pos hi]⟩⟩, hB⟩

set_option maxRecDepth 100000 in
set_option maxHeartbeats 800000 in
theorem table_no (p len n : Nat) (z : Nat → Nat) (tg : Nat → ByteArray) (at' sz : Nat → Nat) (t : ByteArray) (w : World) (h : Fnt w p len n z tg at' sz) (hf : IsF tg n t n) :
    Calls Try.prog 17 #[.pointer (some ⟨p, 0, none⟩), .string t] w fun e w' => e = .returned (.tuple #[.slice none 0 0, .bool false]) ∧ Below w.heap.size w w' := by
  obtain ⟨a, c, ra, rc, hp, hL, hR⟩ := h.blk
  have c1 := blk_cell hp 1
  simp only [List.getElem?_toArray, List.getElem?_cons_zero, List.getElem?_cons_succ] at c1
  have hne : ∀ W : World, (binOp .eql 29 (.pointer (some ⟨p, 0, none⟩)) (.pointer none)).run Try.prog W = .ok (.bool false) W := fun W => by kernel_rfl
  have P := place_any ra n rc tg at' sz t n w hR hf
  rw [show fndv n n = -1 from if_neg (Nat.lt_irrefl _)] at P
  clear hf hL hR
  go_enter Try.func17, Try.ntmps17
  go_wp2_with fail
  refine P.mono ?_
  rintro e w1 ⟨rfl, b1⟩
  go_wp2
  go_ret2
  exact ⟨rfl, b1⟩

set_option maxRecDepth 100000 in
set_option maxHeartbeats 1600000 in
theorem table_yes (p len n : Nat) (z : Nat → Nat) (tg : Nat → ByteArray) (at' sz : Nat → Nat) (t : ByteArray) (r : Nat) (w : World) (h : Fnt w p len n z tg at' sz) (hf : IsF tg n t r) (hr : r < n) (hfit : at' r + sz r ≤ len) :
    Calls Try.prog 17 #[.pointer (some ⟨p, 0, none⟩), .string t] w fun e w' => ∃ a c, e = .returned (.tuple #[.slice a (sz r) c, .bool true]) ∧ Lies w' a (sz r) c (fun i => z (at' r + i)) ∧ Below w.heap.size w w' := by
  have h0 := h
  obtain ⟨a, c, ra, rc, hp, hL, hR⟩ := h.blk
  have hn := hR.reach
  have c1 := blk_cell hp 1
  simp only [List.getElem?_toArray, List.getElem?_cons_zero, List.getElem?_cons_succ] at c1
  have hne : ∀ W : World, (binOp .eql 29 (.pointer (some ⟨p, 0, none⟩)) (.pointer none)).run Try.prog W = .ok (.bool false) W := fun W => by kernel_rfl
  have P := place_any ra n rc tg at' sz t r w hR hf
  rw [show fndv r n = r from if_pos hr] at P
  obtain ⟨g, rfl, hg, hc⟩ := hR.spot (by omega)
  obtain ⟨d0, d1, d2⟩ := hc r hr
  have hrc := hR.lc
  have hr' : (r : Int) < n := by omega
  clear hf hc
  go_enter Try.func17, Try.ntmps17
  go_wp2_with fail
  refine P.mono ?_
  rintro e w1 ⟨rfl, b1⟩
  have L1 := hL.below b1 (Nat.le_refl _)
  have hp1 := (b1.block p (blk_lt hp)).trans hp
  have e0 := blk_cell hp1 0
  have e1 := blk_cell hp1 1
  simp only [List.getElem?_toArray, List.getElem?_cons_zero, List.getElem?_cons_succ] at e0 e1
  have e2 := (World.cell?_of_block (a := ⟨g, r * 3 + 1, none⟩) (b1.block g hg)).trans d1
  have e3 := (World.cell?_of_block (a := ⟨g, r * 3 + 2, none⟩) (b1.block g hg)).trans d2
  have r0 : (0 : Int) ≤ (r : Int) := by omega
  have bd : Below w1.heap.size w1 w1.drew := (Below.refl _ _).drew
  have L2 := L1.below bd (Nat.le_refl _)
  have hplt := blk_lt hp1
  have hglt : g < w1.heap.size := by have := b1.size; omega
  have KEEP : ∀ w3 : World, Below w1.drew.heap.size w1.drew w3 → w3.cell? ⟨p, 0, none⟩ = some (.slice a len c) ∧ w3.cell? ⟨p, 1, none⟩ = some (.slice (some ⟨g, 0, none⟩) n rc) ∧ w3.cell? ⟨g, r * 3 + 1, none⟩ = some (.int .i64 (at' r : Nat)) ∧ w3.cell? ⟨g, r * 3 + 2, none⟩ = some (.int .i64 (sz r : Nat)) := fun w3 b3 => by
    have B := bd.trans (b3.mono bd.size)
    exact ⟨(World.cell?_of_block (a := ⟨p, 0, none⟩) (B.block p hplt)).trans e0, (World.cell?_of_block (a := ⟨p, 1, none⟩) (B.block p hplt)).trans e1, (World.cell?_of_block (a := ⟨g, r * 3 + 1, none⟩) (B.block g hglt)).trans e2, (World.cell?_of_block (a := ⟨g, r * 3 + 2, none⟩) (B.block g hglt)).trans e3⟩
  have HL2 : Hid (Lies w1.drew a len c z) := L2
  clear c1 d0 d1 d2 P h h0 hp hp1 hL hR L2 L1
  go_wp2_with fail
  go_region_held3 (fun V => V.cell? ⟨p, 0, none⟩ = some (.slice a len c) ∧ V.cell? ⟨p, 1, none⟩ = some (.slice (some ⟨g, 0, none⟩) n rc) ∧ V.cell? ⟨g, r * 3 + 1, none⟩ = some (.int .i64 (at' r : Nat)) ∧ V.cell? ⟨g, r * 3 + 2, none⟩ = some (.int .i64 (sz r : Nat))) (go_keep)
    (first | (go_at_call 29; refine (part_yes a len c z (at' r) (sz r) _ HL2.out hfit).mono ?_; rintro e w3 ⟨a3, c3, rfl, L3, b3⟩; obtain ⟨f0, f1, f2, f3⟩ := KEEP w3 b3))
  all_goals
    have B3 := (b1.trans (bd.mono b1.size)).trans (b3.mono (by have := b1.size; exact this))
    go_wp2
    go_ret2
    exact ⟨a3, c3, rfl, L3, B3⟩
end Go.Proofs.Ytdmfammajggfpaa
