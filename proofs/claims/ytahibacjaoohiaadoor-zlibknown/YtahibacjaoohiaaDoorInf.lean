/-
  flate.Inflate as a contract: what inflE says.
-/
import Derived.Test.YtahibacjaoohiaaDoorBlk
namespace Go.Proofs.YtahibacjaoohiaaDoor
open Go.RowKit

/-- What Inflate answers. -/
def TellsI (most : Nat) (E : Except Nat St) (w : World) (e : Ending) (w' : World) : Prop :=
  Below w.heap.size w w' ∧ ((∃ k, Hid (E = .error k) ∧ 0 < k ∧ e = .returned (.tuple #[.slice none 0 0, .int .i64 0, .int .i64 (k : Nat)])) ∨
    ∃ q o r, Hid (E = .ok (q, o)) ∧ e = .returned (.tuple #[r, .int .i64 ((q + 7) / 8 : Nat), .int .i64 0]) ∧ OwnV w' w.heap.size 5 .u8 r o ∧ Hid (∀ i, 0 ≤ o.getD i 0 ∧ o.getD i 0 < 256) ∧ o.length ≤ most)

def scells (b : Nat) (most : Nat) : Array Value := #[.pointer (some ⟨b, 0, none⟩), .slice none 0 0, .int .i64 (most : Nat), .pointer none, .int .i64 0, .int .i64 0, .pointer none, .int .i64 0, .int .i64 0]

set_option maxRecDepth 100000 in
set_option maxHeartbeats 3200000 in
theorem inflate_any (a : Option Addr) (len cap : Nat) (z : Nat → Nat) (mo : Int) (most : Nat) (hm : (most : Int) = if mo < 0 then 0 else mo) (hsm : most ≤ 140737488355000) (w : World) (h : Lies w a len cap z) (hT : Tab w) :
    Calls Tryd.prog 11 #[.slice a len cap, .int .i64 mo] w (TellsI most (inflE z len most) w) := by
  by_cases hneg : mo < 0
  · have hm0 : most = 0 := by rw [if_pos hneg] at hm; omega
    subst hm0
    clear hm
    go_enter Tryd.func11, Tryd.ntmps11
    go_wp2_with fail
    refine (newbits_any a len cap z _ h).mono ?_
    rintro e w1 ⟨b, g, rfl, hBt, hb, hg, b1⟩
    have hz := b1.size
    have hs0 := blk_new w1 (.cells (scells b 0) 59)
    have bw : Below w1.heap.size w1 (w1.alloc (.cells (scells b 0) 59)) := (Below.refl _ _).alloc (Nat.le_refl _) _
    have hBt2 := hBt.below bw
    have b2 : Below w.heap.size w (w1.alloc (.cells (scells b 0) 59)) := b1.trans (bw.mono hz)
    have T2 := hT.below b2 hT.pos
    have hB0 := hT.pos
    obtain ⟨W, hW⟩ : ∃ W, W = w1.alloc (.cells (scells b 0) 59) := ⟨_, rfl⟩
    rw [← hW] at hs0 hBt2 b2 T2
    have S0 : Strm W w.heap.size w1.heap.size b g len z 0 (.slice none 0 0) six0 0 [] := ⟨hs0, hBt2, ownv_nil _ _ _ _, fun q => by simp, by simp, hsm, .inl rfl, by simp [Value.ownBlock], hz, hb, b2.size⟩
    unfold scells at hW
    rw [show ((0 : Nat) : Int) = 0 from rfl] at hW
    have HS0 : Hid (Strm W w.heap.size w1.heap.size b g len z 0 (.slice none 0 0) six0 0 []) := S0
    clear hs0 hBt2 hBt S0 bw
    go_wp2_with fail
    rw [← hW]
    clear hW
    go_loopw [8] (fun l wq => ∃ (d : Bool) (v1 : Value) (x1 : Six) (p1 : Nat) (u1 : List Int), l = .bool d ∧ Strm wq w.heap.size w1.heap.size b g len z 0 v1 x1 p1 u1 ∧ Below w.heap.size w wq ∧ Tab wq ∧ Hid (inflE z len 0 = if d = true then .ok (p1, u1) else blocksE z (8 * len) 0 (p1, u1))) (fun _ wq => 8 * len - pOf b wq)
    case atStart => exact ⟨false, _, six0, 0, [], rfl, HS0.out, b2, T2, rfl⟩
    case round =>
      clear HS0 b2 T2 W b1
      obtain ⟨d, v1, x1, p1, u1, rfl, hS, bel, hT1, hE⟩ := hrel
      have HP : Hid (pOf b wr = p1) := hS.pOf
      cases d with
      | true =>
        obtain ⟨ao, capo, hv⟩ := hS.own.form
        have c1 : wr.cell? ⟨w1.heap.size, 1, none⟩ = some (.slice ao u1.length capo) := by rw [← hv]; exact blk_cell hS.obj 1
        have c0 : wr.cell? ⟨w1.heap.size, 0, none⟩ = some (.pointer (some ⟨b, 0, none⟩)) := blk_cell hS.obj 0
        have BN : ∀ k, BitsAt (wr.drewN k) b g len z p1 := fun k => hS.bits.kept ((Kept.refl (fun _ => False) _).drewN _) id id
        have HV : Hid (v1 = .slice ao u1.length capo) := hv
        clear hv
        go_wp2_with fail
        go_quiet (first | (go_at_call 29; exact Calls.quiet_of_same (used_any b g len z p1 _ (BN _))))
        go_wp2
        go_ret3
        refine ⟨below_drewN bel _, .inr ⟨p1, u1, .slice ao u1.length capo, by show _ = _; rw [hE.out]; rfl, rfl, ?_, hS.byte, hS.fit⟩⟩
        rw [← HV.out]
        exact hS.own.below (below_drewN (Below.refl _ _) _)
      | false =>
        have hE' : Hid (inflE z len 0 = blocksE z (8 * len) 0 (p1, u1)) := by show _ = _; rw [hE.out]; rfl
        clear hE
        go_wp2_with fail
        refine (block_any w.heap.size w1.heap.size b g len z 0 v1 x1 p1 u1 _ hS hT1 hB0).mono ?_
        rintro e w2 (⟨k, v', d', h1, h2, rfl, h4⟩ | ⟨v', x', d', q, o, h1, rfl, h3, h4⟩)
        · have hk0 : ¬ (k : Int) = 0 := by omega
          have bel2 : Below w.heap.size w w2 := bel.trans (h4.below bel.size (fun i hi => (hS.mine hi).1))
          go_wp2
          go_ret3
          exact ⟨bel2, .inl ⟨k, by show _ = _; rw [hE'.out]; exact blocksE_err h1.out, h2, rfl⟩⟩
        · have bel2 : Below w.heap.size w w2 := bel.trans (h4.below bel.size (fun i hi => (hS.mine hi).1))
          have T2 := hT1.moves hS hB0 h4
          have hq := blockE_ok h1.out
          have HQ : Hid (p1 < q ∧ q ≤ 8 * len) := hq
          have HS3 : Hid (Strm w2 w.heap.size w1.heap.size b g len z 0 v' x' q o) := h3
          have HT2 : Hid (Tab w2) := T2
          clear hq h3 hS T2 hT1
          go_wp2
          refine ⟨⟨d', v', x', q, o, rfl, HS3.out, bel2, HT2.out, ?_⟩, ?_⟩
          · show _ = _
            rw [hE'.out]
            cases d' with
            | true => rw [if_pos rfl]; exact blocksE_last h1.out
            | false => rw [if_neg (by simp)]; exact blocksE_more h1.out
          · rw [HS3.out.pOf, HP.out]; have := HQ.out; omega
  · have hm0 : mo = (most : Nat) := by rw [if_neg hneg] at hm; omega
    subst hm0
    clear hm
    go_enter Tryd.func11, Tryd.ntmps11
    go_wp2_with fail
    refine (newbits_any a len cap z _ h).mono ?_
    rintro e w1 ⟨b, g, rfl, hBt, hb, hg, b1⟩
    have hz := b1.size
    have hs0 := blk_new w1 (.cells (scells b most) 59)
    have bw : Below w1.heap.size w1 (w1.alloc (.cells (scells b most) 59)) := (Below.refl _ _).alloc (Nat.le_refl _) _
    have hBt2 := hBt.below bw
    have b2 : Below w.heap.size w (w1.alloc (.cells (scells b most) 59)) := b1.trans (bw.mono hz)
    have T2 := hT.below b2 hT.pos
    have hB0 := hT.pos
    obtain ⟨W, hW⟩ : ∃ W, W = w1.alloc (.cells (scells b most) 59) := ⟨_, rfl⟩
    rw [← hW] at hs0 hBt2 b2 T2
    have S0 : Strm W w.heap.size w1.heap.size b g len z most (.slice none 0 0) six0 0 [] := ⟨hs0, hBt2, ownv_nil _ _ _ _, fun q => by simp, by simp, hsm, .inl rfl, by simp [Value.ownBlock], hz, hb, b2.size⟩
    unfold scells at hW
    have HS0 : Hid (Strm W w.heap.size w1.heap.size b g len z most (.slice none 0 0) six0 0 []) := S0
    clear hs0 hBt2 hBt S0 bw
    go_wp2_with fail
    rw [← hW]
    clear hW
    go_loopw [8] (fun l wq => ∃ (d : Bool) (v1 : Value) (x1 : Six) (p1 : Nat) (u1 : List Int), l = .bool d ∧ Strm wq w.heap.size w1.heap.size b g len z most v1 x1 p1 u1 ∧ Below w.heap.size w wq ∧ Tab wq ∧ Hid (inflE z len most = if d = true then .ok (p1, u1) else blocksE z (8 * len) most (p1, u1))) (fun _ wq => 8 * len - pOf b wq)
    case atStart => exact ⟨false, _, six0, 0, [], rfl, HS0.out, b2, T2, rfl⟩
    case round =>
      clear HS0 b2 T2 W b1
      obtain ⟨d, v1, x1, p1, u1, rfl, hS, bel, hT1, hE⟩ := hrel
      have HP : Hid (pOf b wr = p1) := hS.pOf
      cases d with
      | true =>
        obtain ⟨ao, capo, hv⟩ := hS.own.form
        have c1 : wr.cell? ⟨w1.heap.size, 1, none⟩ = some (.slice ao u1.length capo) := by rw [← hv]; exact blk_cell hS.obj 1
        have c0 : wr.cell? ⟨w1.heap.size, 0, none⟩ = some (.pointer (some ⟨b, 0, none⟩)) := blk_cell hS.obj 0
        have BN : ∀ k, BitsAt (wr.drewN k) b g len z p1 := fun k => hS.bits.kept ((Kept.refl (fun _ => False) _).drewN _) id id
        have HV : Hid (v1 = .slice ao u1.length capo) := hv
        clear hv
        go_wp2_with fail
        go_quiet (first | (go_at_call 29; exact Calls.quiet_of_same (used_any b g len z p1 _ (BN _))))
        go_wp2
        go_ret3
        refine ⟨below_drewN bel _, .inr ⟨p1, u1, .slice ao u1.length capo, by show _ = _; rw [hE.out]; rfl, rfl, ?_, hS.byte, hS.fit⟩⟩
        rw [← HV.out]
        exact hS.own.below (below_drewN (Below.refl _ _) _)
      | false =>
        have hE' : Hid (inflE z len most = blocksE z (8 * len) most (p1, u1)) := by show _ = _; rw [hE.out]; rfl
        clear hE
        go_wp2_with fail
        refine (block_any w.heap.size w1.heap.size b g len z most v1 x1 p1 u1 _ hS hT1 hB0).mono ?_
        rintro e w2 (⟨k, v', d', h1, h2, rfl, h4⟩ | ⟨v', x', d', q, o, h1, rfl, h3, h4⟩)
        · have hk0 : ¬ (k : Int) = 0 := by omega
          have bel2 : Below w.heap.size w w2 := bel.trans (h4.below bel.size (fun i hi => (hS.mine hi).1))
          go_wp2
          go_ret3
          exact ⟨bel2, .inl ⟨k, by show _ = _; rw [hE'.out]; exact blocksE_err h1.out, h2, rfl⟩⟩
        · have bel2 : Below w.heap.size w w2 := bel.trans (h4.below bel.size (fun i hi => (hS.mine hi).1))
          have T2 := hT1.moves hS hB0 h4
          have hq := blockE_ok h1.out
          have HQ : Hid (p1 < q ∧ q ≤ 8 * len) := hq
          have HS3 : Hid (Strm w2 w.heap.size w1.heap.size b g len z most v' x' q o) := h3
          have HT2 : Hid (Tab w2) := T2
          clear hq h3 hS T2 hT1
          go_wp2
          refine ⟨⟨d', v', x', q, o, rfl, HS3.out, bel2, HT2.out, ?_⟩, ?_⟩
          · show _ = _
            rw [hE'.out]
            cases d' with
            | true => rw [if_pos rfl]; exact blocksE_last h1.out
            | false => rw [if_neg (by simp)]; exact blocksE_more h1.out
          · rw [HS3.out.pOf, HP.out]; have := HQ.out; omega
end Go.Proofs.YtahibacjaoohiaaDoor
