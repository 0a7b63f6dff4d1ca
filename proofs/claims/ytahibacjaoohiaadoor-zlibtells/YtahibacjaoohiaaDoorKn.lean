/-
  versallaw8.known.
-/
import Derived.Test.YtahibacjaoohiaaDoorStr
import Derived.Lib.SlBytesConst
namespace Go.Proofs.YtahibacjaoohiaaDoor
open Go.RowKit

theorem kn1c : codedS fixL 288 fixD 32 (zl [3, 0]) 16 10 (3, []) = .inr (.ok (10, [])) := by kernel_rfl
theorem kn1 : inflE (zl [3, 0]) 2 10 = .ok (10, []) := by
  have h1 : codedE fixL 288 fixD 32 (zl [3, 0]) 16 10 (3, []) = .ok (10, []) := codedE_done kn1c
  have h2 : blockE (zl [3, 0]) 16 10 (0, []) = .ok (true, (10, [])) := by
    unfold blockE
    rw [if_pos (by decide), show takev (zl [3, 0]) ((0, ([] : List Int)).1 + 1) 2 = 1 by kernel_rfl]
    unfold kindE
    rw [if_neg (by decide), if_pos rfl]
    simp only [Nat.zero_add]
    rw [h1]
    rfl
  exact blocksE_last h2
theorem ok_eq {E : Except Nat St} {q q' : Nat} {o o' : List Int} (h : E = .ok (q, o)) (h' : E = .ok (q', o')) : q = q' ∧ o = o' := by
  rw [h] at h'; simp at h'; exact h'
theorem ok_ne {E : Except Nat St} {q k : Nat} {o : List Int} (h : E = .ok (q, o)) (h' : E = .error k) : False := by rw [h] at h'; cases h'
theorem err_eq {E : Except Nat St} {k k' : Nat} (h : E = .error k) (h' : E = .error k') : k = k' := by rw [h] at h'; simpa using h'
theorem kn2 : bstr (zb (byt (zl [97, 98, 99]) 0 3)) 3 = ⟨#[97, 98, 99]⟩ := by rfl

set_option maxRecDepth 100000 in
set_option maxHeartbeats 1600000 in
theorem known_any (w : World) (hT : Tab w) : Calls Tryd.prog 13 #[] w fun e w' => e = .returned (.bool true) ∧ Below w.heap.size w w' := by
  have b0 : Below w.heap.size w (w.alloc (.cells #[.int .u8 3, .int .u8 0] 5)) := (Below.refl _ _).alloc (Nat.le_refl _) _
  have L0 : Lies (w.alloc (.cells #[.int .u8 3, .int .u8 0] 5)) (some ⟨w.heap.size, 0, none⟩) 2 2 (zl [3, 0]) := lies_lit (cs := [3, 0]) (by decide) (by decide) (blk_new w _)
  go_enter Tryd.func13, Tryd.ntmps13
  go_wp2_with fail
  refine (inflate_any _ 2 2 (zl [3, 0]) 10 10 (by decide) (by omega) _ L0 (hT.below b0 hT.pos)).mono ?_
  rintro e w1 ⟨b1, ⟨k, hE, hk, rfl⟩ | ⟨q, o, r, hE, rfl, hO, hby, hfit⟩⟩
  · exact (ok_ne kn1 hE.out).elim
  obtain ⟨rfl, rfl⟩ := ok_eq kn1 hE.out
  obtain ⟨ra, rc, rfl⟩ := hO.form
  have B1 : Below w.heap.size w w1 := b0.trans (b1.mono b0.size)
  have b2 : Below w1.heap.size w1 (w1.alloc (.cells #[.int .u8 97, .int .u8 98, .int .u8 99] 5 (3, 4))) := (Below.refl _ _).alloc (Nat.le_refl _) _
  have L2 : Lies (w1.alloc (.cells #[.int .u8 97, .int .u8 98, .int .u8 99] 5 (3, 4))) (some ⟨w1.heap.size, 0, none⟩) 3 3 (zl [97, 98, 99]) := lies_lit (cs := [97, 98, 99]) (by decide) (by decide) (blk_new w1 _)
  have kc : (convert 23 23 (.slice (some ⟨w1.heap.size, 0, none⟩) 3 3)).run Tryd.prog (w1.alloc (.cells #[.int .u8 97, .int .u8 98, .int .u8 99] 5)) = .ok (.slice (some ⟨w1.heap.size, 0, none⟩) 3 3) (w1.alloc (.cells #[.int .u8 97, .int .u8 98, .int .u8 99] 5 (3, 4))) := Lib.run_convert_bytes_const (P := Tryd.prog) w1 23 5 #[.int .u8 97, .int .u8 98, .int .u8 99] 3 3 Tryd.underlying23 Tryd.underlying5
  clear hO hby hfit hE b0 L0
  go_wp2_with fail
  refine (stored_go _ 3 3 (zl [97, 98, 99]) _ L2 (by omega)).mono ?_
  rintro e w3 ⟨g, c, rfl, hO3, b3⟩
  have hlen : (stL (zl [97, 98, 99]) 3 0).length = 8 := by rw [stL_last _ (by omega), blkL_len]
  have hbt : Byt (stL (zl [97, 98, 99]) 3 0) := stL_byt L2.byte 3 3 0 (by omega)
  have L3 := hO3.liesB hbt (by rw [hlen]; omega)
  have hinf := infl_stored (z := zl [97, 98, 99]) 3 3 (by omega) (y := zb (stL (zl [97, 98, 99]) 3 0)) hbt.zb_lt (LEN := 8) hbt.at0 (by omega)
  rw [hlen] at L3 hinf ⊢
  have B3 : Below w.heap.size w w3 := (B1.trans (b2.mono B1.size)).trans (b3.mono (B1.trans (b2.mono B1.size)).size)
  clear hO3 L2 b2 b3 B1
  go_wp2_with fail
  refine (inflate_any _ 8 c (zb (stL (zl [97, 98, 99]) 3 0)) 3 3 (by decide) (by omega) _ L3 (hT.below B3 hT.pos)).mono ?_
  rintro e w4 ⟨b4, ⟨k, hE, hk, rfl⟩ | ⟨q, o, r, hE, rfl, hO, hby, hfit⟩⟩
  · exact (ok_ne hinf hE.out).elim
  obtain ⟨rfl, rfl⟩ := ok_eq hinf hE.out
  obtain ⟨sa, sc, rfl, L4⟩ := hO.liesB hby.out (by rw [byt_len]; omega)
  have hcv := conv_string L4
  rw [byt_len] at hcv ⊢
  rw [kn2] at hcv
  have B4 : Below w.heap.size w w4 := B3.trans (b4.mono B3.size)
  clear L3 hinf hE hO hby hfit L4 b4 B3 hlen hbt
  go_wp2
  go_ret
  exact ⟨rfl, B4⟩
end Go.Proofs.YtahibacjaoohiaaDoor
