/-
  FlateKnown, walked.
-/
import Derived.Test.YtkhfdjgnomkfgaaDoorStW
namespace Go.Proofs.YtkhfdjgnomkfgaaDoor
open Go.RowKit

def cps : List Nat := [75, 76, 132, 1, 0]
theorem first_fixed {z : Nat → Nat} {len most : Nat} {E : Except Nat St} (h3 : 3 ≤ 8 * len) (hk : takev z 1 2 = 1) (hb : bit z 0 = 1) (hc : codedE fixL 288 fixD 32 z (8 * len) most (3, []) = E) : inflE z len most = E := by
  unfold inflE
  cases E with
  | error e =>
    refine blocksE_err ?_
    unfold blockE
    simp only [Nat.zero_add]
    rw [if_pos h3, hk]
    unfold kindE
    rw [if_neg (by decide), if_pos rfl, hc]
  | ok st =>
    refine blocksE_last ?_
    unfold blockE
    simp only [Nat.zero_add]
    rw [if_pos h3, hk, hb]
    unfold kindE
    rw [if_neg (by decide), if_pos rfl, hc]
    rfl
theorem ka : inflE (zl cps) 5 100 = .ok (38, [97, 97, 97, 97, 97, 97, 97, 97, 97, 97]) := by
  refine first_fixed (by decide) (by kernel_rfl) (by kernel_rfl) ?_
  rw [codedE_more (show codedS fixL 288 fixD 32 (zl cps) (8 * 5) 100 (3, []) = .inl (11, [97]) by kernel_rfl),
    codedE_more (show codedS fixL 288 fixD 32 (zl cps) (8 * 5) 100 (11, [97]) = .inl (19, [97, 97]) by kernel_rfl),
    codedE_more (show codedS fixL 288 fixD 32 (zl cps) (8 * 5) 100 (19, [97, 97]) = .inl (31, [97, 97, 97, 97, 97, 97, 97, 97, 97, 97]) by kernel_rfl)]
  exact codedE_done (by kernel_rfl)
theorem kb : inflE (zl cps) 5 9 = .error 4 := by
  refine first_fixed (by decide) (by kernel_rfl) (by kernel_rfl) ?_
  rw [codedE_more (show codedS fixL 288 fixD 32 (zl cps) (8 * 5) 9 (3, []) = .inl (11, [97]) by kernel_rfl),
    codedE_more (show codedS fixL 288 fixD 32 (zl cps) (8 * 5) 9 (11, [97]) = .inl (19, [97, 97]) by kernel_rfl)]
  exact codedE_done (by kernel_rfl)
theorem kc : inflE (zl cps) 2 100 = .error 3 := by
  refine first_fixed (by decide) (by kernel_rfl) (by kernel_rfl) ?_
  rw [codedE_more (show codedS fixL 288 fixD 32 (zl cps) (8 * 2) 100 (3, []) = .inl (11, [97]) by kernel_rfl)]
  exact codedE_done (by kernel_rfl)
theorem kd : inflE (zl []) 0 100 = .error 3 := blocksE_err (by unfold blockE; rw [if_neg (by decide)])
theorem ke : inflE (zl [7]) 1 100 = .error 2 := by
  refine blocksE_err ?_
  unfold blockE
  rw [if_pos (by decide), show takev (zl [7]) ((0, ([] : List Int)).1 + 1) 2 = 3 by kernel_rfl]
  rfl
theorem kf : inflE (zl [1, 1, 0, 0, 0]) 5 100 = .error 2 := by
  refine blocksE_err ?_
  unfold blockE
  rw [if_pos (by decide), show takev (zl [1, 1, 0, 0, 0]) ((0, ([] : List Int)).1 + 1) 2 = 0 by kernel_rfl]
  unfold kindE
  rw [if_pos rfl]
  unfold storedE
  rw [if_pos (by decide), if_neg (by decide +kernel)]
theorem kh : inflE (zl [3, 2, 0]) 3 100 = .error 2 := by
  refine first_fixed (by decide) (by kernel_rfl) (by kernel_rfl) ?_
  exact codedE_done (by kernel_rfl)
theorem kg : inflE (zb (stL (zl [97]) 1 0)) 6 0 = .error 4 := by
  have hz : ∀ i, zl [97] i < 256 := fun i => by unfold zl; rcases i with _ | i <;> simp
  have hb : Byt (stL (zl [97]) 1 0) := stL_byt hz 1 1 0 (by omega)
  have hl : (stL (zl [97]) 1 0).length = 6 := by rw [stL_last _ (by omega), blkL_len]
  have := stL_full (y := zb (stL (zl [97]) 1 0)) (z := zl [97]) hb.zb_lt 1 6 0 1 0 0 [] (by omega) hb.at0 (by omega) (by simp) (by simp)
  simpa [inflE] using this
theorem ks : bstr (zb [97, 97, 97, 97, 97, 97, 97, 97, 97, 97]) 10 = ⟨#[97, 97, 97, 97, 97, 97, 97, 97, 97, 97]⟩ := by rfl
/-- What Inflate answers where it is known why not. -/
theorem TellsI.no {most k : Nat} {E : Except Nat St} {w w' : World} {e : Ending} (h : TellsI most E w e w') (hE : E = .error k) : Below w.heap.size w w' ∧ e = .returned (.tuple #[.slice none 0 0, .int .i64 0, .int .i64 (k : Nat)]) := by
  refine ⟨h.1, ?_⟩
  rcases h.2 with ⟨k', h1, _, rfl⟩ | ⟨q, o, r, h1, _⟩
  · rw [err_eq h1.out hE]
  · exact (ok_ne h1.out hE).elim
theorem TellsI.yes {most q : Nat} {o : List Int} {E : Except Nat St} {w w' : World} {e : Ending} (h : TellsI most E w e w') (hE : E = .ok (q, o)) (hl : o.length ≤ 100000000) : Below w.heap.size w w' ∧ ∃ a c, e = .returned (.tuple #[.slice a o.length c, .int .i64 ((q + 7) / 8 : Nat), .int .i64 0]) ∧ Lies w' a o.length c (zb o) := by
  refine ⟨h.1, ?_⟩
  rcases h.2 with ⟨k', h1, _⟩ | ⟨q', o', r, h1, rfl, hO, hb, _⟩
  · exact (ok_ne hE h1.out).elim
  · obtain ⟨rfl, rfl⟩ := ok_eq hE h1.out
    obtain ⟨a, c, rfl, hL⟩ := hO.liesB hb.out hl
    exact ⟨a, c, rfl, hL⟩
theorem lies_nil (w : World) : Lies w none 0 0 (zl []) := ⟨by omega, by omega, fun i => by simp [zl], fun h => by omega⟩
def zero0 (_ : Nat) : Nat := 0
theorem lies_zero {w : World} {g n : Nat} (hn : n ≤ 1000000) (h : w.heap[g]? = some (.cells (arr n fun _ => .int .u8 0) 5)) : Lies w (some ⟨g, 0, none⟩) n n zero0 := lies_new (by omega) (fun _ => by unfold zero0; omega) h

set_option maxRecDepth 100000 in
set_option maxHeartbeats 3200000 in
theorem known_walk (w : World) (hT : Tab w) : Calls Tryd.prog 3 #[] w fun e w' => e = .returned (.bool true) ∧ Below w.heap.size w w' := by
  have hmk : ∀ W : World, (Instr.makeSlice 22 (.int .i64 65536) (.int .i64 65536)).run Tryd.prog W = .ok (.slice (some ⟨W.heap.size, 0, none⟩) 65536 65536) (W.alloc (.cells (arr 65536 fun _ => .int .u8 0) 5)) := make22 65536 (by omega)
  go_enter Tryd.func3, Tryd.ntmps3
  have B0 : Below w.heap.size w w := Below.refl _ _
  have B1 : Below w.heap.size w (w.alloc (.cells #[.int .u8 75, .int .u8 76, .int .u8 132, .int .u8 1, .int .u8 0] 5)) := B0.alloc (Nat.le_refl _) _
  have L1 : Lies (w.alloc (.cells #[.int .u8 75, .int .u8 76, .int .u8 132, .int .u8 1, .int .u8 0] 5)) (some ⟨w.heap.size, 0, none⟩) 5 5 (zl cps) := lies_lit (cs := cps) (by decide) (by decide) (blk_new w _)
  go_wp2_with fail
  refine (inflate_any _ 5 5 (zl cps) 100 100 (by decide) (by omega) _ L1 (hT.below B1 hT.pos)).mono ?_
  intro e w1 h1
  obtain ⟨b1, ra, rc, rfl, R1⟩ := h1.yes ka (by decide)
  have B2 : Below w.heap.size w w1 := B1.trans (b1.mono B1.size)
  have L2 := L1.below b1 (Nat.le_refl _)
  clear h1 L1 b1 B1
  have R1' : Lies w1 ra 10 rc (zb [97, 97, 97, 97, 97, 97, 97, 97, 97, 97]) := R1
  clear R1
  simp only [List.length_cons, List.length_nil]
  go_wp2_with fail
  refine (inflate_any _ 5 5 (zl cps) 9 9 (by decide) (by omega) _ L2 (hT.below B2 hT.pos)).mono ?_
  intro e w2 h2
  obtain ⟨b2, rfl⟩ := h2.no kb
  have B3 : Below w.heap.size w w2 := B2.trans (b2.mono B2.size)
  have L3 : Lies w2 (some ⟨w.heap.size, 0, none⟩) 2 5 (zl cps) := by
    have h := L2.below b2 (Nat.le_refl _)
    obtain ⟨b', o', e', hb', hc'⟩ := h.spot (by omega)
    exact ⟨by omega, by omega, h.byte, fun _ => ⟨b', o', e', hb', fun i hi => hc' i (by omega)⟩⟩
  have R2 := R1'.below b2 (Nat.le_refl _)
  clear h2 L2 b2 B2 R1'
  go_wp2_with fail
  refine (inflate_any _ 2 5 (zl cps) 100 100 (by decide) (by omega) _ L3 (hT.below B3 hT.pos)).mono ?_
  intro e w3 h3
  obtain ⟨b3, rfl⟩ := h3.no kc
  have B4 : Below w.heap.size w w3 := B3.trans (b3.mono B3.size)
  have R3 := R2.below b3 (Nat.le_refl _)
  clear h3 L3 b3 B3 R2
  go_wp2_with fail
  refine (inflate_any none 0 0 (zl []) 100 100 (by decide) (by omega) _ (lies_nil _) (hT.below B4 hT.pos)).mono ?_
  intro e w4 h4
  obtain ⟨b4, rfl⟩ := h4.no kd
  have B5 : Below w.heap.size w w4 := B4.trans (b4.mono B4.size)
  have R4 := R3.below b4 (Nat.le_refl _)
  clear h4 b4 B4 R3
  have b5 : Below w4.heap.size w4 (w4.alloc (.cells #[.int .u8 7] 5)) := (Below.refl _ _).alloc (Nat.le_refl _) _
  have L5 : Lies (w4.alloc (.cells #[.int .u8 7] 5)) (some ⟨w4.heap.size, 0, none⟩) 1 1 (zl [7]) := lies_lit (cs := [7]) (by decide) (by decide) (blk_new w4 _)
  have BB5 : Below w.heap.size w (w4.alloc (.cells #[.int .u8 7] 5)) := B5.trans (b5.mono B5.size)
  have RR5 := R4.below b5 (Nat.le_refl _)
  go_wp2_with fail
  refine (inflate_any _ 1 1 (zl [7]) 100 100 (by decide) (by omega) _ L5 (hT.below BB5 hT.pos)).mono ?_
  intro e w5 h5
  obtain ⟨c5, rfl⟩ := h5.no ke
  have B6 : Below w.heap.size w w5 := BB5.trans (c5.mono BB5.size)
  have R5 := RR5.below c5 (Nat.le_refl _)
  clear h5 L5 b5 BB5 RR5 c5 B5 R4
  have b6 : Below w5.heap.size w5 (w5.alloc (.cells #[.int .u8 1, .int .u8 1, .int .u8 0, .int .u8 0, .int .u8 0] 5)) := (Below.refl _ _).alloc (Nat.le_refl _) _
  have L6 : Lies (w5.alloc (.cells #[.int .u8 1, .int .u8 1, .int .u8 0, .int .u8 0, .int .u8 0] 5)) (some ⟨w5.heap.size, 0, none⟩) 5 5 (zl [1, 1, 0, 0, 0]) := lies_lit (cs := [1, 1, 0, 0, 0]) (by decide) (by decide) (blk_new w5 _)
  have BB6 : Below w.heap.size w (w5.alloc (.cells #[.int .u8 1, .int .u8 1, .int .u8 0, .int .u8 0, .int .u8 0] 5)) := B6.trans (b6.mono B6.size)
  have RR6 := R5.below b6 (Nat.le_refl _)
  go_wp2_with fail
  refine (inflate_any _ 5 5 (zl [1, 1, 0, 0, 0]) 100 100 (by decide) (by omega) _ L6 (hT.below BB6 hT.pos)).mono ?_
  intro e w6 h6
  obtain ⟨c6, rfl⟩ := h6.no kf
  have B7 : Below w.heap.size w w6 := BB6.trans (c6.mono BB6.size)
  have R6 := RR6.below c6 (Nat.le_refl _)
  clear h6 L6 b6 BB6 RR6 c6 B6 R5
  have b7 : Below w6.heap.size w6 (w6.alloc (.cells #[.int .u8 97] 5 (1, 2))) := (Below.refl _ _).alloc (Nat.le_refl _) _
  have L7 : Lies (w6.alloc (.cells #[.int .u8 97] 5 (1, 2))) (some ⟨w6.heap.size, 0, none⟩) 1 1 (zl [97]) := lies_lit (cs := [97]) (by decide) (by decide) (blk_new w6 _)
  have BB7 : Below w.heap.size w (w6.alloc (.cells #[.int .u8 97] 5 (1, 2))) := B7.trans (b7.mono B7.size)
  have RR7 := R6.below b7 (Nat.le_refl _)
  have cv7 : (convert 22 22 (.slice (some ⟨w6.heap.size, 0, none⟩) 1 1)).run Tryd.prog (w6.alloc (.cells #[.int .u8 97] 5)) = .ok (.slice (some ⟨w6.heap.size, 0, none⟩) 1 1) (w6.alloc (.cells #[.int .u8 97] 5 (1, 2))) := Lib.run_convert_bytes_const (P := Tryd.prog) w6 22 5 #[.int .u8 97] 1 1 Tryd.underlying22 Tryd.underlying5
  go_wp2_with fail
  refine (stored_go _ 1 1 (zl [97]) _ L7 (by omega)).mono ?_
  rintro e x7 ⟨g7, c7, rfl, O7, d7⟩
  have hl7 : (stL (zl [97]) 1 0).length = 6 := by rw [stL_last _ (by omega), blkL_len]
  have K7 := O7.liesB (stL_byt L7.byte 1 1 0 (by omega)) (by rw [hl7]; omega)
  rw [hl7] at K7 ⊢
  have BX7 : Below w.heap.size w x7 := BB7.trans (d7.mono BB7.size)
  have RX7 := RR7.below d7 (Nat.le_refl _)
  clear O7 L7 b7 BB7 RR7 d7 B7 R6 cv7 hl7
  go_wp2_with fail
  refine (inflate_any _ 6 c7 (zb (stL (zl [97]) 1 0)) (-5) 0 (by decide) (by omega) _ K7 (hT.below BX7 hT.pos)).mono ?_
  intro e w7 h7
  obtain ⟨e7, rfl⟩ := h7.no kg
  have B8 : Below w.heap.size w w7 := BX7.trans (e7.mono BX7.size)
  have R7 := RX7.below e7 (Nat.le_refl _)
  clear h7 K7 BX7 RX7 e7
  have b8 : Below w7.heap.size w7 (w7.alloc (.cells #[.int .u8 3, .int .u8 2, .int .u8 0] 5)) := (Below.refl _ _).alloc (Nat.le_refl _) _
  have L8 : Lies (w7.alloc (.cells #[.int .u8 3, .int .u8 2, .int .u8 0] 5)) (some ⟨w7.heap.size, 0, none⟩) 3 3 (zl [3, 2, 0]) := lies_lit (cs := [3, 2, 0]) (by decide) (by decide) (blk_new w7 _)
  have BB8 : Below w.heap.size w (w7.alloc (.cells #[.int .u8 3, .int .u8 2, .int .u8 0] 5)) := B8.trans (b8.mono B8.size)
  have RR8 := R7.below b8 (Nat.le_refl _)
  go_wp2_with fail
  refine (inflate_any _ 3 3 (zl [3, 2, 0]) 100 100 (by decide) (by omega) _ L8 (hT.below BB8 hT.pos)).mono ?_
  intro e w8 h8
  obtain ⟨c8, rfl⟩ := h8.no kh
  have B9 : Below w.heap.size w w8 := BB8.trans (c8.mono BB8.size)
  have R8 := RR8.below c8 (Nat.le_refl _)
  clear h8 L8 b8 BB8 RR8 c8 B8 R7
  have b9 : Below w8.heap.size w8 (w8.alloc (.cells (arr 65536 fun _ => .int .u8 0) 5)) := (Below.refl _ _).alloc (Nat.le_refl _) _
  have L9 : Lies (w8.alloc (.cells (arr 65536 fun _ => .int .u8 0) 5)) (some ⟨w8.heap.size, 0, none⟩) 65536 65536 zero0 := lies_zero (by omega) (blk_new w8 _)
  have BB9 : Below w.heap.size w (w8.alloc (.cells (arr 65536 fun _ => .int .u8 0) 5)) := B9.trans (b9.mono B9.size)
  have RR9 := R8.below b9 (Nat.le_refl _)
  go_wp2_with fail
  refine (stored_go _ 65536 65536 zero0 _ L9 (by omega)).mono ?_
  rintro e x9 ⟨g9, c9, rfl, O9, d9⟩
  have hby9 := stL_byt L9.byte 65536 65536 0 (by omega)
  obtain ⟨S, hS⟩ : ∃ S, Hid (stL zero0 65536 0 = S) := ⟨_, rfl⟩
  have hl9 : (stL zero0 65536 0).length = 65546 := by rw [stL_more _ (by omega), List.length_append, blkL_len, stL_last _ (by omega), blkL_len]
  have hi9 : inflE (zb (stL zero0 65536 0)) 65546 65536 = .ok (8 * 65546, byt zero0 0 65536) := by
    have := infl_stored (z := zero0) 65536 65536 (Nat.le_refl _) hby9.zb_lt (LEN := 65546) hby9.at0 (by rw [hl9]; omega)
    rw [hl9] at this; exact this
  have K9 := O9.liesB hby9 (by rw [hl9]; omega)
  rw [hl9] at K9 ⊢
  rw [hS.out] at K9 hi9
  have HI9 : Hid (inflE (zb S) 65546 65536 = .ok (8 * 65546, byt zero0 0 65536)) := hi9
  have BX9 : Below w.heap.size w x9 := BB9.trans (d9.mono BB9.size)
  have RX9 := RR9.below d9 (Nat.le_refl _)
  clear O9 L9 b9 BB9 RR9 d9 B9 R8 hl9 hi9 hby9 hmk
  go_wp2_with fail
  refine (inflate_any _ 65546 c9 (zb S) 65536 65536 (by decide) (by omega) _ K9 (hT.below BX9 hT.pos)).mono ?_
  intro e w9 h9
  obtain ⟨e9, ya, yc, rfl, Y9⟩ := h9.yes HI9.out (by rw [byt_len]; omega)
  have B10 : Below w.heap.size w w9 := BX9.trans (e9.mono BX9.size)
  have R9 := RX9.below e9 (Nat.le_refl _)
  rw [byt_len]
  clear h9 K9 BX9 RX9 e9 Y9 HI9
  go_wp2_with fail
  refine (known_any _ (hT.below B10 hT.pos)).mono ?_
  rintro e wa ⟨rfl, ba⟩
  have B11 : Below w.heap.size w wa := B10.trans (ba.mono B10.size)
  have cv := conv_string (R9.below ba (Nat.le_refl _))
  rw [ks] at cv
  clear R9 ba B10
  go_wp2_with fail
  refine (stored_go none 0 0 (zl []) _ (lies_nil _) (by omega)).mono ?_
  rintro e wb ⟨gb, cb, rfl, Ob, bb⟩
  have B12 : Below w.heap.size w wb := B11.trans (bb.mono B11.size)
  have hlb : (stL (zl []) 0 0).length = 5 := by rw [stL_last _ (by omega), blkL_len]
  rw [hlb]
  clear Ob bb B11 hlb
  go_wp2
  go_ret
  exact ⟨rfl, B12⟩
end Go.Proofs.YtkhfdjgnomkfgaaDoor
