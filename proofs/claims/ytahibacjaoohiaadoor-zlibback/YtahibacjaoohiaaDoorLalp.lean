/-
  flate's lengthsAlphabet as a contract.
-/
import Derived.Test.YtahibacjaoohiaaDoorPair
namespace Go.Proofs.YtahibacjaoohiaaDoor
open Go.RowKit

/-- flate.order, as it is laid. -/
def Tab (w : World) : Prop := ∀ i, i < 19 → w.cell? ⟨0, i, none⟩ = some (.int .i64 (ord i : Nat))
theorem Tab.kept {S : Nat → Prop} {w w' : World} (h : Tab w) (k : Kept S w w') (h0 : ¬ S 0) : Tab w' := fun i hi => by
  rw [World.cell?_of_block (a := ⟨0, i, none⟩) (k.block 0 (blk_lt_of_cell (h i hi)) h0)]; exact h i hi
theorem Tab.below {B : Nat} {w w' : World} (h : Tab w) (k : Below B w w') (hB : 0 < B) : Tab w' := fun i hi => by
  rw [World.cell?_of_block (a := ⟨0, i, none⟩) (k.block 0 hB)]; exact h i hi
theorem Tab.pos {w : World} (h : Tab w) : 0 < w.heap.size := blk_lt_of_cell (h 0 (by omega))
theorem Tab.moves {w w' : World} {B s b g len : Nat} {z : Nat → Nat} {most : Nat} {v : Value} {x : Six} {p : Nat} {out : List Int} (h : Tab w) (hS : Strm w B s b g len z most v x p out) (hB : 0 < B) {v' : Value} (m : Moves s b v v' w w') : Tab w' :=
  h.kept m.kept (fun e => by have := (hS.mine e).1; omega)

def shv (z : Nat → Nat) (p k : Nat) : Nat → Value := fun i => .int .i64 (shL z p k i : Nat)
theorem shv_up (z : Nat → Nat) (p k : Nat) {y : Int} (hy : y = (takev z (p + 3 * k) 3 : Nat)) : (arr 19 fun s => if s = ord k then .int .i64 y else shv z p k s) = arr 19 (shv z p (k + 1)) := by
  refine arr_congr _ _ _ fun s _ => ?_
  unfold shv
  simp only [shL]
  by_cases e : s = ord k
  · rw [if_pos e, if_pos e, hy]
  · rw [if_neg e, if_neg e]
theorem shv_zero (z : Nat → Nat) (p : Nat) : (arr 19 fun _ => Value.int .i64 0) = arr 19 (shv z p 0) := arr_congr _ _ _ fun s _ => by simp [shv, shL]
theorem shL_good (z : Nat → Nat) (p k : Nat) : GoodL (fun i => (shL z p k i : Nat)) 19 ↔ okc (shL z p k) 19 = true := by
  have e : (fun i => ((shL z p k i : Nat) : Int).toNat) = shL z p k := by funext i; simp
  constructor
  · intro h; have := h.ok; rwa [e] at this
  · intro h; exact ⟨by omega, fun i _ => by have := shL_le z p k i; omega, by rw [e]; exact h⟩
theorem shL_toNat (z : Nat → Nat) (p k : Nat) : (fun i => ((shL z p k i : Nat) : Int).toNat) = shL z p k := by funext i; simp

/-- What lengthsAlphabet answers. -/
def TellsA (B s b g len : Nat) (z : Nat → Nat) (most : Nat) (v : Value) (x : Six) (p : Nat) (out : List Int) (count : Nat) (w : World) (e : Ending) (w' : World) : Prop :=
  Moves s b v v w w' ∧ ((Hid (¬ p + 3 * count ≤ 8 * len) ∧ e = .returned (.tuple #[.agg #[.pointer none, .int .i64 0, .int .i64 0], .int .i64 3])) ∨
    (Hid (p + 3 * count ≤ 8 * len ∧ ¬ okc (shL z p count) 19 = true) ∧ e = .returned (.tuple #[.agg #[.pointer none, .int .i64 0, .int .i64 0], .int .i64 2])) ∨
    (Hid (p + 3 * count ≤ 8 * len ∧ okc (shL z p count) 19 = true) ∧ ∃ q m n, e = .returned (.tuple #[.agg #[.pointer q, .int .i64 m, .int .i64 n], .int .i64 0]) ∧ Strm w' B s b g len z most v x (p + 3 * count) out ∧ AlphN w' w.heap.size q m n 19 (shL z p count)))

set_option maxRecDepth 100000 in
set_option maxHeartbeats 1600000 in
theorem lalp_any (B s b g len : Nat) (z : Nat → Nat) (most : Nat) (v : Value) (x : Six) (p : Nat) (out : List Int) (count : Nat) (hcount : count ≤ 19) (w : World) (h : Strm w B s b g len z most v x p out) (hT : Tab w) (hB : 0 < B) :
    Calls Tryd.prog 71 #[.pointer (some ⟨s, 0, none⟩), .int .i64 (count : Nat)] w (TellsA B s b g len z most v x p out count w) := by
  have hmk : ∀ W : World, (Instr.makeSlice 24 (.int .i64 19) (.int .i64 19)).run Tryd.prog W = .ok (.slice (some ⟨W.heap.size, 0, none⟩) 19 19) (W.alloc (.cells (arr 19 fun _ => .int .i64 0) 3)) := make29 19 (by omega)
  have bw : Below w.heap.size w ((w.alloc (.cells #[.pointer none, .int .i64 0, .int .i64 0] 55)).alloc (.cells (arr 19 fun _ => .int .i64 0) 3)) := ((Below.refl _ _).alloc (Nat.le_refl _) _).alloc (by simp) _
  have h' := h.below bw
  have m' : Moves s b v v w _ := Moves.of_below bw
  have T' := hT.below bw hT.pos
  have gb := blk_alloc (blk_new w (.cells #[.pointer none, .int .i64 0, .int .i64 0] 55)) (.cells (arr 19 fun _ => .int .i64 0) 3)
  have gr := blk_new (w.alloc (.cells #[.pointer none, .int .i64 0, .int .i64 0] 55)) (.cells (arr 19 fun _ => .int .i64 0) 3)
  rw [World.size_alloc, shv_zero z p] at gr
  have nm : ∀ k, w.heap.size ≤ k → ¬ Mine s b v k := fun k hk e => by have := h.mine e; omega
  rw [shv_zero z p] at h' m' T' gb
  obtain ⟨W, hW⟩ : ∃ W, W = (w.alloc (.cells #[.pointer none, .int .i64 0, .int .i64 0] 55)).alloc (.cells (arr 19 (shv z p 0)) 3) := ⟨_, rfl⟩
  rw [← hW] at h' m' gb gr T'
  go_enter Tryd.func71, Tryd.ntmps71
  go_wp2_with fail
  rw [shv_zero z p, ← hW]
  clear hW bw hmk
  go_loopw [12] (fun j wq => ∃ k : Nat, k ≤ count ∧ j = .int .i64 k ∧ Strm wq B s b g len z most v x (p + 3 * k) out ∧ Moves s b v v w wq ∧ wq.heap[w.heap.size]? = some (.cells #[.pointer none, .int .i64 0, .int .i64 0] 55) ∧ wq.heap[w.heap.size + 1]? = some (.cells (arr 19 (shv z p k)) 3) ∧ Tab wq) (fun j _ => count - (intOf j).toNat)
  case atStart => exact ⟨0, by omega, rfl, h', m', gb, gr, T'⟩
  case round =>
    clear h' m' gb gr T' W
    obtain ⟨k, hk, rfl, hS, hM, gb, gr, hT1⟩ := hrel
    by_cases hin : k < count
    · have hin' : (k : Int) < count := by omega
      by_cases hp : p + 3 * k + 3 ≤ 8 * len
      · go_wp2_with fail
        refine (take_yes B s b g len z most v x (p + 3 * k) out 3 (by omega) _ hS hp).mono ?_
        rintro e w1 ⟨rfl, hS1, hM1⟩
        have T1 := hT1.moves hS hB hM1
        have gb1 := hM1.blk gb (nm _ (Nat.le_refl _))
        have gr1 := hM1.blk gr (nm _ (by omega))
        have c0 := T1 k (by omega)
        have hok := ord_lt k (by omega)
        obtain ⟨ok, hoke⟩ : ∃ ok, Hid (ord k = ok) := ⟨_, rfl⟩
        rw [hoke.out] at c0 hok
        have c1 : w1.cell? ⟨w.heap.size + 1, ok, none⟩ = some (.int .i64 (shL z p k ok : Nat)) := arr_cell gr1 hok
        have f1 := blk_free gr1 ok
        have t3 : takev z (p + 3 * k) 3 < 8 := takev_lt z _ 3
        have M1 := hM.trans hM1
        have HT1 : Hid (Tab w1) := T1
        clear hS hM gb gr hT1 hM1 T1
        go_wp2
        obtain ⟨W3, hW3⟩ : ∃ W3, W3 = w1.setCell ⟨w.heap.size + 1, ok, none⟩ (.int .i64 (takev z (p + 3 * k) 3 : Nat)) := ⟨_, rfl⟩
        rw [← hW3]
        have kW : Kept (fun i => i = w.heap.size + 1) w1 W3 := by rw [hW3]; exact (Kept.refl _ _).set _ _
        have hs1 : w.heap.size ≤ w1.heap.size := M1.kept.size
        refine ⟨⟨k + 1, by omega, by go_num, ?_, ?_, kW.blk gb1 (by omega), ?_, HT1.out.kept kW (by omega)⟩, by simp [intOf]; omega⟩
        · have hl : ∀ i, Mine s b v i → ¬ (i = w.heap.size + 1) := fun i e e2 => nm i (by omega) e
          exact ⟨kW.blk hS1.obj (hl s (.inl rfl)), hS1.bits.kept kW (hl b (.inr (.inl rfl))) (fun e => by have := blk_lt h.bits.row; omega), hS1.own.kept' kW (fun i hi => hl i (.inr (.inr hi))), hS1.byte, hS1.fit, hS1.small, h.fx.moves ⟨⟨kW.os.trans M1.kept.os, kW.tape.trans M1.kept.tape, kW.output.trans M1.kept.output, Nat.le_trans M1.kept.size kW.size, fun i hi ha => by rw [kW.block i (by omega) (by omega)]; exact M1.kept.block i hi ha⟩, .inl rfl⟩, hS1.ng, hS1.bs, hS1.bb, Nat.le_trans hS1.sz kW.size⟩
        · exact ⟨⟨kW.os.trans M1.kept.os, kW.tape.trans M1.kept.tape, kW.output.trans M1.kept.output, Nat.le_trans M1.kept.size kW.size, fun i hi ha => by rw [kW.block i (by omega) (by omega)]; exact M1.kept.block i hi ha⟩, .inl rfl⟩
        · rw [hW3, arr_blk_set gr1, ← hoke.out, shv_up z p k rfl]
      · go_wp2_with fail
        refine (take_no B s b g len z most v x (p + 3 * k) out 3 (by omega) _ hS hp).mono ?_
        rintro e w1 ⟨rfl, hM1⟩
        have gb1 := hM1.blk gb (nm _ (Nat.le_refl _))
        have M1 := hM.trans hM1
        clear hS hM gb gr hT1 hM1
        go_wp2_with (refine store_at (new := #[.pointer none, .int .i64 0, .int .i64 0]) gb1 (by rfl) (by rfl) (by rfl) (by rfl) (by exact size53) (by rfl) (by simp [Value.oneCell']) (by rfl) ?_; intro W2 g2 k2 z2)
        refine bodyPost_ret (res_cell2 rfl _ _ _ _ _ rfl (load53 g2 rfl) rfl) rfl ?_
        refine ⟨⟨⟨k2.os.trans M1.kept.os, k2.tape.trans M1.kept.tape, k2.output.trans M1.kept.output, Nat.le_trans M1.kept.size k2.size, fun i hi ha => by rw [k2.block i (Nat.lt_of_lt_of_le hi M1.kept.size) (by omega)]; exact M1.kept.block i hi ha⟩, .inl rfl⟩, .inl ⟨?_, rfl⟩⟩
        show ¬ _
        omega
    · have hin' : ¬ (k : Int) < count := by omega
      obtain rfl : k = count := by omega
      have I1 : Ints wr (some ⟨w.heap.size + 1, 0, none⟩) 19 19 (fun i => (shL z p k i : Nat)) := ints_new (by omega) (fun i => by have := shL_le z p k i; omega) gr
      have hlim := hS.bits.lim
      go_wp2_with fail
      refine (newalph_any _ 19 19 _ _ I1).mono ?_
      rintro e w1 ⟨b1, ⟨hbad, rfl⟩ | ⟨hgood, q, m, n, rfl, hA⟩⟩
      · have gb1 := Below.blk b1 gb (blk_lt gb)
        have M1 := hM.trans (Moves.of_below b1)
        go_wp2_with (refine store_at (new := #[.pointer none, .int .i64 0, .int .i64 0]) gb1 (by rfl) (by rfl) (by rfl) (by rfl) (by exact size53) (by rfl) (by simp [Value.oneCell']) (by rfl) ?_; intro W2 g2 k2 z2)
        refine bodyPost_ret (res_cell2 rfl _ _ _ _ _ rfl (load53 g2 rfl) rfl) rfl ?_
        refine ⟨⟨⟨k2.os.trans M1.kept.os, k2.tape.trans M1.kept.tape, k2.output.trans M1.kept.output, Nat.le_trans M1.kept.size k2.size, fun i hi ha => by rw [k2.block i (Nat.lt_of_lt_of_le hi M1.kept.size) (by omega)]; exact M1.kept.block i hi ha⟩, .inl rfl⟩, .inr (.inl ⟨⟨hlim, fun e => hbad.out ((shL_good z p k).2 e)⟩, rfl⟩)⟩
      · have gb1 := Below.blk b1 gb (blk_lt gb)
        have hwr := blk_lt gr
        have M1 := hM.trans (Moves.of_below b1)
        have S1 := hS.below b1
        go_wp2_with (refine store_at (new := #[.pointer q, .int .i64 m, .int .i64 n]) gb1 (by rfl) (by rfl) (by rfl) (by rfl) (by exact size53) (by rfl) (by simp [Value.oneCell']) (by rfl) ?_; intro W2 g2 k2 z2)
        refine bodyPost_ret (res_cell2 rfl _ _ _ _ _ rfl (load53 g2 rfl) rfl) rfl ?_
        have M2 : Moves s b v v w W2 := ⟨⟨k2.os.trans M1.kept.os, k2.tape.trans M1.kept.tape, k2.output.trans M1.kept.output, Nat.le_trans M1.kept.size k2.size, fun i hi ha => by rw [k2.block i (Nat.lt_of_lt_of_le hi M1.kept.size) (by omega)]; exact M1.kept.block i hi ha⟩, .inl rfl⟩
        have hl : ∀ i, Mine s b v i → ¬ (i = w.heap.size) := fun i e e2 => nm i (by omega) e
        refine ⟨M2, .inr (.inr ⟨⟨hlim, (shL_good z p k).1 hgood.out⟩, q, m, n, rfl, ?_, ?_⟩)⟩
        · exact ⟨k2.blk S1.obj (hl s (.inl rfl)), S1.bits.kept k2 (hl b (.inr (.inl rfl))) (fun e => by have := blk_lt h.bits.row; omega), S1.own.kept' k2 (fun i hi => hl i (.inr (.inr hi))), S1.byte, S1.fit, S1.small, h.fx.moves M2, S1.ng, S1.bs, S1.bb, Nat.le_trans S1.sz k2.size⟩
        · rw [shL_toNat] at hA
          exact (hA.keep k2 (fun i hi => by omega)).mono (by omega)
end Go.Proofs.YtahibacjaoohiaaDoor
