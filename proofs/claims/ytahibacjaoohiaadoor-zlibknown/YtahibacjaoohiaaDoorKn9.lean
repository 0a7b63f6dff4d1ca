/-
  versallaw9.known.
-/
import Derived.Test.YtahibacjaoohiaaDoorZpu
namespace Go.Proofs.YtahibacjaoohiaaDoor
open Go.RowKit

theorem zok_eq {E : Except Nat (List Int)} {o o' : List Int} (h : E = .ok o) (h' : E = .ok o') : o = o' := by rw [h] at h'; simpa using h'
theorem zok_ne {E : Except Nat (List Int)} {k : Nat} {o : List Int} (h : E = .ok o) (h' : E = .error k) : False := by rw [h] at h'; cases h'
theorem zerr_eq {E : Except Nat (List Int)} {k k' : Nat} (h : E = .error k) (h' : E = .error k') : k = k' := by rw [h] at h'; simpa using h'
theorem TellsZ.no {most k : Nat} {E : Except Nat (List Int)} {w w' : World} {e : Ending} (h : TellsZ most E w e w') (hE : E = .error k) : Below w.heap.size w w' ∧ e = .returned (.tuple #[.slice none 0 0, .int .i64 (k : Nat)]) := by
  refine ⟨h.1, ?_⟩
  rcases h.2 with ⟨k', h1, _, rfl⟩ | ⟨o, r, h1, _⟩
  · rw [zerr_eq h1.out hE]
  · exact (zok_ne h1.out hE).elim
theorem TellsZ.yes {most : Nat} {o : List Int} {E : Except Nat (List Int)} {w w' : World} {e : Ending} (h : TellsZ most E w e w') (hE : E = .ok o) (hl : o.length ≤ 100000000) : Below w.heap.size w w' ∧ ∃ a c, e = .returned (.tuple #[.slice a o.length c, .int .i64 0]) ∧ Lies w' a o.length c (zb o) := by
  refine ⟨h.1, ?_⟩
  rcases h.2 with ⟨k', h1, _⟩ | ⟨o', r, h1, rfl, hO, hb, _⟩
  · exact (zok_ne hE h1.out).elim
  · obtain rfl := zok_eq hE h1.out
    obtain ⟨a, c, rfl, hL⟩ := hO.liesB hb.out hl
    exact ⟨a, c, rfl, hL⟩
theorem list11 : layL (zl []) 0 = [120, 1, 1, 0, 0, 255, 255, 0, 0, 0, 1] := by
  unfold layL
  rw [stL_last _ (by omega)]
  rfl
theorem zl_lt (cs : List Nat) (h : cs.all (· < 256) = true) (i : Nat) : zl cs i < 256 := by
  have hall : ∀ x ∈ cs, x < 256 := by simpa using h
  unfold zl
  rw [List.getD_eq_getElem?_getD]
  cases e : cs[i]? with
  | none => simp
  | some y => simpa using hall y (List.mem_of_getElem? e)
theorem open11 : opnE (zb [120, 1, 1, 0, 0, 255, 255, 0, 0, 0, 1]) 11 9 = .ok [] := by
  have := opn_lay (z := zl []) (fun i => by simp [zl]) 0 (most := 9) (by omega)
  rw [list11] at this
  exact this
theorem byt11 : Byt [120, 1, 1, 0, 0, 255, 255, 0, 0, 0, 1] := by
  have := layL_byt (z := zl []) (fun i => by simp [zl]) 0
  rwa [list11] at this

set_option maxRecDepth 100000 in
set_option maxHeartbeats 1600000 in
theorem known9_any (w : World) (hT : Tab w) : Calls Tryd.prog 17 #[] w fun e w' => e = .returned (.bool true) ∧ Below w.heap.size w w' := by
  have b0 : Below w.heap.size w (w.alloc (.cells #[.int .u8 120, .int .u8 1, .int .u8 1, .int .u8 0, .int .u8 0, .int .u8 255, .int .u8 255, .int .u8 0, .int .u8 0, .int .u8 0, .int .u8 1] 5)) := (Below.refl _ _).alloc (Nat.le_refl _) _
  have O0 : Own (w.alloc (.cells #[.int .u8 120, .int .u8 1, .int .u8 1, .int .u8 0, .int .u8 0, .int .u8 255, .int .u8 255, .int .u8 0, .int .u8 0, .int .u8 0, .int .u8 1] 5)) w.heap.size 5 .u8 w.heap.size 11 [120, 1, 1, 0, 0, 255, 255, 0, 0, 0, 1] := own_lit w w.heap.size 5 .u8 [120, 1, 1, 0, 0, 255, 255, 0, 0, 0, 1] (Nat.le_refl _) (by simp)
  have L0 := O0.liesB byt11 (by simp)
  clear O0
  go_enter Tryd.func17, Tryd.ntmps17
  go_wp2_with fail
  refine (open_any _ 11 11 (zb [120, 1, 1, 0, 0, 255, 255, 0, 0, 0, 1]) 9 9 (by decide) (by omega) _ L0 (hT.below b0 hT.pos)).mono ?_
  intro e w1 h1
  obtain ⟨b1, ra, rc, rfl, hLr⟩ := h1.yes open11 (by simp)
  have B1 : Below w.heap.size w w1 := b0.trans (b1.mono b0.size)
  have b2 : Below w1.heap.size w1 (w1.alloc (.cells #[.int .u8 97, .int .u8 98, .int .u8 99] 5 (3, 4))) := (Below.refl _ _).alloc (Nat.le_refl _) _
  have L2 : Lies (w1.alloc (.cells #[.int .u8 97, .int .u8 98, .int .u8 99] 5 (3, 4))) (some ⟨w1.heap.size, 0, none⟩) 3 3 (zl [97, 98, 99]) := lies_lit (cs := [97, 98, 99]) (by decide) (by decide) (blk_new w1 _)
  have kc : (convert 23 23 (.slice (some ⟨w1.heap.size, 0, none⟩) 3 3)).run Tryd.prog (w1.alloc (.cells #[.int .u8 97, .int .u8 98, .int .u8 99] 5)) = .ok (.slice (some ⟨w1.heap.size, 0, none⟩) 3 3) (w1.alloc (.cells #[.int .u8 97, .int .u8 98, .int .u8 99] 5 (3, 4))) := Lib.run_convert_bytes_const (P := Tryd.prog) w1 23 5 #[.int .u8 97, .int .u8 98, .int .u8 99] 3 3 Tryd.underlying23 Tryd.underlying5
  clear h1 L0 b0 b1 hLr
  go_wp2_with fail
  refine (lay_any _ 3 3 (zl [97, 98, 99]) _ L2 (by omega)).mono ?_
  rintro e w3 ⟨g, c, rfl, hO3, b3⟩
  have hop := opn_lay L2.byte 3 (most := 3) (by omega)
  have hlen : (layL (zl [97, 98, 99]) 3).length = 14 := by rw [layL_len, stL_last _ (by omega), blkL_len]
  have L3 := hO3.liesB (layL_byt L2.byte 3) (by rw [hlen]; omega)
  rw [hlen] at L3 hop ⊢
  have B3 : Below w.heap.size w w3 := (B1.trans (b2.mono B1.size)).trans (b3.mono (B1.trans (b2.mono B1.size)).size)
  clear hO3 L2 b2 b3 B1 kc hlen
  go_wp2_with fail
  refine (open_any _ 14 c (zb (layL (zl [97, 98, 99]) 3)) 3 3 (by decide) (by omega) _ L3 (hT.below B3 hT.pos)).mono ?_
  intro e w4 h4
  obtain ⟨b4, sa, sc, rfl, L4⟩ := h4.yes hop (by rw [byt_len]; omega)
  have hcv := conv_string L4
  rw [byt_len] at hcv ⊢
  rw [kn2] at hcv
  have B4 : Below w.heap.size w w4 := B3.trans (b4.mono B3.size)
  clear L3 hop h4 L4 b4 B3
  go_wp2
  go_ret
  exact ⟨rfl, B4⟩
end Go.Proofs.YtahibacjaoohiaaDoor
