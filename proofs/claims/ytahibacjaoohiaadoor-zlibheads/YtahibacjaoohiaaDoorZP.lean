/-
  What was laid in a frame, opened: as plain functions. No Go text is walked here.
  versallaw9.known.
-/
import Derived.Test.YtahibacjaoohiaaDoorZB
namespace Go.Proofs.YtahibacjaoohiaaDoor
open Go.RowKit

set_option maxRecDepth 100000 in
/-- Some bytes of the end are missing. -/
theorem stL_cut {y z : Nat → Nat} (hy : ∀ i, y i < 256) (len LEN most : Nat) : ∀ (k off P : Nat) (out : List Int), len - off ≤ k → AtP y P (stL z len off) → P ≤ LEN → LEN < P + (stL z len off).length → out.length + (len - off) ≤ most →
    blocksE y (8 * LEN) most (8 * P, out) = .error 3 := by
  intro k
  induction k using Nat.strongRecOn with
  | ind k ih =>
    intro off P out hk hat hP hL hm
    by_cases hs : len - off ≤ 65535
    · rw [stL_last z hs] at hat hL
      obtain ⟨hd, hb⟩ := hat.head hs
      rw [blkL_len] at hL
      by_cases h5 : P + 5 ≤ LEN
      · have := hd.block hy LEN most out h5
        rw [st8_short y LEN most _ _ _ (by omega) h5 hm] at this
        exact blocksE_err this
      · exact blocksE_err (hd.short LEN most out h5)
    · rw [stL_more z hs] at hat hL
      have h1 := hat.front
      have h2 := hat.back
      obtain ⟨hd, hb⟩ := h1.head (Nat.le_refl _)
      rw [blkL_len] at h2
      rw [List.length_append, blkL_len] at hL
      by_cases h5 : P + 5 ≤ LEN
      · have := hd.block hy LEN most out h5
        by_cases h6 : (P + 5) + 65535 ≤ LEN
        · rw [st8_all y hy LEN most _ _ _ (by omega) (by omega), hb] at this
          rw [blocksE_more this, show P + 5 + 65535 = P + (65535 + 5) by omega]
          exact ih (len - (off + 65535)) (by omega) (off + 65535) _ _ (Nat.le_refl _) h2 (by omega) (by omega) (by rw [List.length_append, byt_len]; omega)
        · have h7 : LEN < P + 5 + 65535 := Nat.lt_of_not_le h6
          have h8 : out.length + 65535 ≤ most := Nat.le_trans (Nat.add_le_add_left (Nat.le_of_lt (Nat.lt_of_not_le hs)) _) hm
          rw [st8_short y LEN most _ _ _ h7 h5 h8] at this
          exact blocksE_err this
      · exact blocksE_err (hd.short LEN most out h5)
theorem clov_congr {y t t' : Nat → Nat} {r n : Nat} (h : ∀ i, i < n → t i = t' i) : clov y r t n = clov y r t' n := by
  unfold clov; rw [adv_congr n h]
/-- A frame's head, and what is stored behind it. -/
structure Fram (y z : Nat → Nat) (n : Nat) : Prop where
  byte : ∀ i, y i < 256
  head : hdv (y 0) (y 1) = true
  at' : AtP (fun i => y (2 + i)) 0 (stL z n 0)
theorem opn_cut {y z : Nat → Nat} {n LEN most : Nat} (h : Fram y z n) (hm : n ≤ most) (hL : LEN < 2 + (stL z n 0).length) : opnE y LEN most = .error 3 := by
  by_cases h2 : LEN < 2
  · unfold opnE; rw [if_pos h2]
  · refine opn_err h2 h.head ?_
    unfold inflE
    exact stL_cut (fun i => h.byte _) n (LEN - 2) most n 0 0 [] (by omega) h.at' (by omega) (by omega) (by simpa using hm)
theorem opn_big {y z : Nat → Nat} {n LEN most : Nat} (h : Fram y z n) (hm : most < n) (hL : 2 + (stL z n 0).length ≤ LEN) : opnE y LEN most = .error 4 := by
  refine opn_err (by omega) h.head ?_
  unfold inflE
  exact stL_full (fun i => h.byte _) n (LEN - 2) most n 0 0 [] (by omega) h.at' (by omega) (by simpa using hm) (by simp)
theorem opn_end {y z : Nat → Nat} {n LEN most : Nat} (h : Fram y z n) (hm : n ≤ most) {N : Nat} (hN : (stL z n 0).length = N) (hL : 2 + N ≤ LEN) : opnE y LEN most = if clov (fun i => y (2 + (N + i))) (LEN - 2 - N) z n = 0 then .ok (byt z 0 n) else .error (clov (fun i => y (2 + (N + i))) (LEN - 2 - N) z n) := by
  subst hN
  have hE : inflE (fun i => y (2 + i)) (LEN - 2) most = .ok (8 * (stL z n 0).length, byt z 0 n) := infl_stored n most hm (fun i => h.byte _) h.at' (by omega)
  have := opn_ok (by omega) h.head hE
  rw [show (8 * (stL z n 0).length + 7) / 8 = (stL z n 0).length by omega, byt_len] at this
  rw [this, clov_congr (t := zb (byt z 0 n)) (t' := z) (fun i hi => zb_byt hi)]
theorem zb_mid {xs ys zs : List Int} {i : Nat} (hi : i < ys.length) : zb (xs ++ ys ++ zs) (xs.length + i) = zb ys i := by
  unfold zb
  rw [List.getD_eq_getElem?_getD, List.getD_eq_getElem?_getD, List.getElem?_append_left (by simp; omega), List.getElem?_append_right (by omega), Nat.add_sub_cancel_left]
theorem zb_end {xs ys zs : List Int} {n i : Nat} (hn : n = xs.length + ys.length) : zb (xs ++ ys ++ zs) (n + i) = zb zs i := by
  unfold zb
  rw [List.getD_eq_getElem?_getD, List.getD_eq_getElem?_getD, List.getElem?_append_right (by simp; omega), show n + i - (xs ++ ys).length = i by simp; omega]
/-- What is laid is a frame, whatever its end. -/
theorem fram_of {z : Nat → Nat} (hz : ∀ i, z i < 256) (n : Nat) {a b : Nat} (ha : a < 256) (hb : b < 256) (hv : hdv a b = true) {E : List Int} (hE : Byt E) : Fram (zb ([((a : Nat) : Int), ((b : Nat) : Int)] ++ stL z n 0 ++ E)) z n := by
  have hB : Byt ([((a : Nat) : Int), ((b : Nat) : Int)] ++ stL z n 0 ++ E) := Byt.append (Byt.append (fun i => by rcases i with _ | _ | i <;> simp <;> omega) (stL_byt hz n n 0 (by omega))) hE
  refine ⟨hB.zb_lt, ?_, fun i hi => ?_⟩
  · have h0 : zb ([((a : Nat) : Int), ((b : Nat) : Int)] ++ stL z n 0 ++ E) 0 = a := by unfold zb; simp
    have h1 : zb ([((a : Nat) : Int), ((b : Nat) : Int)] ++ stL z n 0 ++ E) 1 = b := by unfold zb; simp
    rw [h0, h1, hv]
  · rw [Nat.zero_add]
    have := zb_mid (xs := [((a : Nat) : Int), ((b : Nat) : Int)]) (ys := stL z n 0) (zs := E) hi
    simp only [List.length_cons, List.length_nil, Nat.zero_add, Nat.reduceAdd] at this
    show ((zb ([((a : Nat) : Int), ((b : Nat) : Int)] ++ stL z n 0 ++ E) (2 + i) : Nat) : Int) = _
    rw [this]
    have := stL_byt hz n n 0 (by omega) i
    unfold zb; omega
theorem hd1 : hdv 120 1 = true := by decide
theorem fram_lay {z : Nat → Nat} (hz : ∀ i, z i < 256) (n : Nat) : Fram (zb (layL z n)) z n := fram_of hz n (a := 120) (b := 1) (by omega) (by omega) hd1 (bigL_byt (adv_lt z n))
theorem lay_end (z : Nat → Nat) (n i : Nat) : zb (layL z n) (2 + ((stL z n 0).length + i)) = zb (bigL (adv z n)) i := by
  rw [← Nat.add_assoc]
  exact zb_end rfl
theorem clov_lay {z : Nat → Nat} (n : Nat) : clov (fun i => zb (layL z n) (2 + ((stL z n 0).length + i))) 4 z n = 0 := by
  have hb := bigL_byt (adv_lt z n)
  unfold clov
  rw [if_neg (by omega), if_neg (by omega), if_pos]
  refine (numbe_big (fun i => ?_) (adv_lt z n)).2 (fun i _ => lay_end z n i)
  rw [lay_end]; exact hb.zb_lt i
/-- What is laid is opened the same. -/
theorem opn_lay {z : Nat → Nat} (hz : ∀ i, z i < 256) (n : Nat) {most : Nat} (hm : n ≤ most) : opnE (zb (layL z n)) (layL z n).length most = .ok (byt z 0 n) := by
  have hl := layL_len z n
  rw [opn_end (fram_lay hz n) hm rfl (by omega), show (layL z n).length - 2 - (stL z n 0).length = 4 by omega, if_pos (clov_lay n)]
/-- Cut off anywhere it is too short. -/
theorem opn_lay_cut {z : Nat → Nat} (hz : ∀ i, z i < 256) (n : Nat) {LEN most : Nat} (hm : n ≤ most) (hL : LEN < (layL z n).length) : opnE (zb (layL z n)) LEN most = .error 3 := by
  have hl := layL_len z n
  by_cases h : LEN < 2 + (stL z n 0).length
  · exact opn_cut (fram_lay hz n) hm h
  · have hc : clov (fun i => zb (layL z n) (2 + ((stL z n 0).length + i))) (LEN - 2 - (stL z n 0).length) z n = 3 := by unfold clov; rw [if_pos (by omega)]
    rw [opn_end (fram_lay hz n) hm rfl (by omega), hc]; rfl
end Go.Proofs.YtahibacjaoohiaaDoor

namespace Go.Proofs.YtahibacjaoohiaaDoor
open Go.RowKit

theorem zok_eq {E : Except Nat (List Int)} {o o' : List Int} (h : E = .ok o) (h' : E = .ok o') : o = o' := by rw [h] at h'; simpa using h'
theorem zok_ne {E : Except Nat (List Int)} {k : Nat} {o : List Int} (h : E = .ok o) (h' : E = .error k) : False := by rw [h] at h'; cases h'
theorem zerr_eq {E : Except Nat (List Int)} {k k' : Nat} (h : E = .error k) (h' : E = .error k') : k = k' := by rw [h] at h'; simpa using h'
theorem TellsZ.no {most k : Nat} {E : Except Nat (List Int)} {w w' : World} {e : Ending} (h : TellsZ most E w e w') (hE : E = .error k) : Below w.heap.size w w' ∧ e = .returned (.tuple #[.slice none 0 0, .int .i64 (k : Nat)]) := by
  refine ⟨h.1, ?_⟩
  rcases h.2 with ⟨k', h1, _, rfl⟩ | ⟨o, r, h1, _⟩
  · rw [zerr_eq h1.out hE]
  · exact (zok_ne h1.out hE).elim
theorem TellsZ.yes {most : Nat} {o : List Int} {E : Except Nat (List Int)} {w w' : World} {e : Ending} (h : TellsZ most E w e w') (hE : E = .ok o) (hl : o.length ≤ 150000000000000) : Below w.heap.size w w' ∧ ∃ a c, e = .returned (.tuple #[.slice a o.length c, .int .i64 0]) ∧ Lies w' a o.length c (zb o) := by
  refine ⟨h.1, ?_⟩
  rcases h.2 with ⟨k', h1, _⟩ | ⟨o', r, h1, rfl, hO, hb, _⟩
  · exact (zok_ne hE h1.out).elim
  · obtain rfl := zok_eq hE h1.out
    obtain ⟨a, c, rfl, hL⟩ := hO.liesB hb.out hl
    exact ⟨a, c, rfl, hL⟩
theorem list11 : layL (zl []) 0 = [120, 1, 1, 0, 0, 255, 255, 0, 0, 0, 1] := by
  unfold layL
  rw [stL_last _ (by omega)]
  rfl
theorem zl_lt (cs : List Nat) (h : cs.all (· < 256) = true) (i : Nat) : zl cs i < 256 := by
  have hall : ∀ x ∈ cs, x < 256 := by simpa using h
  unfold zl
  rw [List.getD_eq_getElem?_getD]
  cases e : cs[i]? with
  | none => simp
  | some y => simpa using hall y (List.mem_of_getElem? e)
theorem open11 : opnE (zb [120, 1, 1, 0, 0, 255, 255, 0, 0, 0, 1]) 11 9 = .ok [] := by
  have := opn_lay (z := zl []) (fun i => by simp [zl]) 0 (most := 9) (by omega)
  rw [list11] at this
  exact this
theorem byt11 : Byt [120, 1, 1, 0, 0, 255, 255, 0, 0, 0, 1] := by
  have := layL_byt (z := zl []) (fun i => by simp [zl]) 0
  rwa [list11] at this

set_option maxRecDepth 100000 in
set_option maxHeartbeats 1600000 in
theorem known9_any (w : World) (hT : Tab w) : Calls Tryd.prog 17 #[] w fun e w' => e = .returned (.bool true) ∧ Below w.heap.size w w' := by
  have b0 : Below w.heap.size w (w.alloc (.cells #[.int .u8 120, .int .u8 1, .int .u8 1, .int .u8 0, .int .u8 0, .int .u8 255, .int .u8 255, .int .u8 0, .int .u8 0, .int .u8 0, .int .u8 1] 5)) := (Below.refl _ _).alloc (Nat.le_refl _) _
  have O0 : Own (w.alloc (.cells #[.int .u8 120, .int .u8 1, .int .u8 1, .int .u8 0, .int .u8 0, .int .u8 255, .int .u8 255, .int .u8 0, .int .u8 0, .int .u8 0, .int .u8 1] 5)) w.heap.size 5 .u8 w.heap.size 11 [120, 1, 1, 0, 0, 255, 255, 0, 0, 0, 1] := own_lit w w.heap.size 5 .u8 [120, 1, 1, 0, 0, 255, 255, 0, 0, 0, 1] (Nat.le_refl _) (by simp)
  have L0 := O0.liesB byt11 (by simp)
  clear O0
  go_enter Tryd.func17, Tryd.ntmps17
  go_wp2_with fail
  refine (open_any _ 11 11 (zb [120, 1, 1, 0, 0, 255, 255, 0, 0, 0, 1]) 9 9 (by decide) (by omega) _ L0 (hT.below b0 hT.pos)).mono ?_
  intro e w1 h1
  obtain ⟨b1, ra, rc, rfl, hLr⟩ := h1.yes open11 (by simp)
  have B1 : Below w.heap.size w w1 := b0.trans (b1.mono b0.size)
  have b2 : Below w1.heap.size w1 (w1.alloc (.cells #[.int .u8 97, .int .u8 98, .int .u8 99] 5 (3, 4))) := (Below.refl _ _).alloc (Nat.le_refl _) _
  have L2 : Lies (w1.alloc (.cells #[.int .u8 97, .int .u8 98, .int .u8 99] 5 (3, 4))) (some ⟨w1.heap.size, 0, none⟩) 3 3 (zl [97, 98, 99]) := lies_lit (cs := [97, 98, 99]) (by decide) (by decide) (blk_new w1 _)
  have kc : (convert 23 23 (.slice (some ⟨w1.heap.size, 0, none⟩) 3 3)).run Tryd.prog (w1.alloc (.cells #[.int .u8 97, .int .u8 98, .int .u8 99] 5)) = .ok (.slice (some ⟨w1.heap.size, 0, none⟩) 3 3) (w1.alloc (.cells #[.int .u8 97, .int .u8 98, .int .u8 99] 5 (3, 4))) := Lib.run_convert_bytes_const (P := Tryd.prog) w1 23 5 #[.int .u8 97, .int .u8 98, .int .u8 99] 3 3 Tryd.underlying23 Tryd.underlying5
  clear h1 L0 b0 b1 hLr
  go_wp2_with fail
  refine (lay_any _ 3 3 (zl [97, 98, 99]) _ L2 (by omega)).mono ?_
  rintro e w3 ⟨g, c, rfl, hO3, b3⟩
  have hop := opn_lay L2.byte 3 (most := 3) (by omega)
  have hlen : (layL (zl [97, 98, 99]) 3).length = 14 := by rw [layL_len, stL_last _ (by omega), blkL_len]
  have L3 := hO3.liesB (layL_byt L2.byte 3) (by rw [hlen]; omega)
  rw [hlen] at L3 hop ⊢
  have B3 : Below w.heap.size w w3 := (B1.trans (b2.mono B1.size)).trans (b3.mono (B1.trans (b2.mono B1.size)).size)
  clear hO3 L2 b2 b3 B1 kc hlen
  go_wp2_with fail
  refine (open_any _ 14 c (zb (layL (zl [97, 98, 99]) 3)) 3 3 (by decide) (by omega) _ L3 (hT.below B3 hT.pos)).mono ?_
  intro e w4 h4
  obtain ⟨b4, sa, sc, rfl, L4⟩ := h4.yes hop (by rw [byt_len]; omega)
  have hcv := conv_string L4
  rw [byt_len] at hcv ⊢
  rw [kn2] at hcv
  have B4 : Below w.heap.size w w4 := B3.trans (b4.mono B3.size)
  clear L3 hop h4 L4 b4 B3
  go_wp2
  go_ret
  exact ⟨rfl, B4⟩
end Go.Proofs.YtahibacjaoohiaaDoor
