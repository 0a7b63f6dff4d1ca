/-
  The reference's fixed codes.
  The reference's Inflate: what inflE says.
-/
import Derived.Test.YtahibacjaoohiaaDoorRA
import Derived.Test.YtahibacjaoohiaaDoorPN
import Derived.Test.YtahibacjaoohiaaDoorROwn
import Derived.Test.YtahibacjaoohiaaDoorInf
namespace Go.Proofs.YtahibacjaoohiaaDoor
open Go.RowKit

def fixv (i : Nat) : Nat → Value := fun t => .int .i64 ((if t < i then fixL t else 0 : Nat) : Int)
theorem fixv_up {i x n : Nat} (h : fixL i = x) : (arr n fun s => if s = i then .int .i64 ((x : Nat) : Int) else fixv i s) = arr n (fixv (i + 1)) := by
  refine arr_congr _ _ _ fun j _ => ?_
  unfold fixv
  by_cases e : j = i
  · subst e; rw [if_pos rfl, if_pos (by omega), h]
  · rw [if_neg e]
    by_cases h1 : j < i
    · rw [if_pos h1, if_pos (by omega)]
    · rw [if_neg h1, if_neg (by omega)]
def disv (i : Nat) : Nat → Value := fun t => .int .i64 ((if t < i then 5 else 0 : Nat) : Int)
theorem disv_up {i n : Nat} : (arr n fun s => if s = i then .int .i64 5 else disv i s) = arr n (disv (i + 1)) := by
  refine arr_congr _ _ _ fun j _ => ?_
  unfold disv
  by_cases e : j = i
  · subst e; rw [if_pos rfl, if_pos (by omega)]; rfl
  · rw [if_neg e]
    by_cases h1 : j < i
    · rw [if_pos h1, if_pos (by omega)]
    · rw [if_neg h1, if_neg (by omega)]
theorem ints_fix {w : World} {g : Nat} (h : w.heap[g]? = some (.cells (arr 288 (fixv 288)) 3)) : Ints w (some ⟨g, 0, none⟩) 288 288 fun i => ((fixL i : Nat) : Int) := by
  refine ints_new (T := 3) (fr := (0, 0)) (by omega) (fun i => by have := fixL_le i; omega) ?_
  rw [h]
  exact congrArg (fun x => some (Obj.cells x 3 (0, 0))) (arr_congr _ _ _ fun j hj => by unfold fixv; rw [if_pos hj])
theorem ints_dis {w : World} {g : Nat} (h : w.heap[g]? = some (.cells (arr 32 (disv 32)) 3)) : Ints w (some ⟨g, 0, none⟩) 32 32 fun i => ((fixD i : Nat) : Int) := by
  refine ints_new (T := 3) (fr := (0, 0)) (by omega) (fun i => by unfold fixD; omega) ?_
  rw [h]
  exact congrArg (fun x => some (Obj.cells x 3 (0, 0))) (arr_congr _ _ _ fun j hj => by unfold disv fixD; rw [if_pos hj])
theorem good_fix : GoodL (fun i => ((fixL i : Nat) : Int)) 288 := ⟨by omega, fun i _ => by have := fixL_le i; omega, by simpa using fix_okc⟩
theorem good_dis : GoodL (fun i => ((fixD i : Nat) : Int)) 32 := ⟨by omega, fun i _ => by unfold fixD; omega, by simpa using fixD_okc⟩
/-- What fixed answers. -/
def RFixR (w : World) (e : Ending) (w' : World) : Prop :=
  ∃ rc gc gl capl dc dg dl capd, e = .returned (.tuple #[.pointer (some ⟨rc, 0, none⟩), .pointer (some ⟨dc, 0, none⟩)]) ∧ RCode w' rc gc gl capl 288 fixL ∧ RCode w' dc dg dl capd 32 fixD ∧ Below w.heap.size w w' ∧ w.heap.size ≤ rc ∧ w.heap.size ≤ gc ∧ w.heap.size ≤ gl ∧ w.heap.size ≤ dc ∧ w.heap.size ≤ dg ∧ w.heap.size ≤ dl

set_option maxRecDepth 100000 in
set_option maxHeartbeats 3200000 in
theorem rfixed_any (w : World) : Calls Tryd.prog 32 #[] w (RFixR w) := by
  have hmk : ∀ W : World, (Instr.makeSlice 24 (.int .i64 288) (.int .i64 288)).run Tryd.prog W = .ok (.slice (some ⟨W.heap.size, 0, none⟩) 288 288) (W.alloc (.cells (arr 288 fun _ => .int .i64 0) 3)) := make29 288 (by omega)
  have hmd : ∀ W : World, (Instr.makeSlice 24 (.int .i64 32) (.int .i64 32)).run Tryd.prog W = .ok (.slice (some ⟨W.heap.size, 0, none⟩) 32 32) (W.alloc (.cells (arr 32 fun _ => .int .i64 0) 3)) := make29 32 (by omega)
  have hz : (arr 288 fun _ => Value.int .i64 0) = arr 288 (fixv 0) := arr_congr _ _ _ fun j _ => by unfold fixv; rw [if_neg (by omega)]; rfl
  have hzd : (arr 32 fun _ => Value.int .i64 0) = arr 32 (disv 0) := arr_congr _ _ _ fun j _ => by unfold disv; rw [if_neg (by omega)]; rfl
  rw [hz] at hmk
  rw [hzd] at hmd
  have G0 := blk_new w (.cells (arr 288 (fixv 0)) 3)
  have B0 : Below w.heap.size w (w.alloc (.cells (arr 288 (fixv 0)) 3)) := (Below.refl _ w).alloc (Nat.le_refl _) _
  obtain ⟨W, hW⟩ : ∃ W, W = w.alloc (.cells (arr 288 (fixv 0)) 3) := ⟨_, rfl⟩
  rw [← hW] at G0 B0
  clear hz hzd
  go_enter Tryd.func32, Tryd.ntmps32
  go_wp2_with fail
  rw [← hW]
  clear hW
  go_loopw [3] (fun j wq => ∃ i : Nat, i ≤ 288 ∧ j = .int .i64 i ∧ wq.heap[w.heap.size]? = some (.cells (arr 288 (fixv i)) 3) ∧ Below w.heap.size w wq) (fun j _ => 288 - (intOf j).toNat)
  case atStart => exact ⟨0, by omega, rfl, G0, B0⟩
  case round =>
    clear G0 B0 W
    obtain ⟨i, hi, rfl, P1, P3⟩ := hrel
    by_cases h288 : i < 288
    · have h288' : (i : Int) < 288 := by omega
      have d1 := arr_cell P1 h288
      have d2 := blk_free P1 i
      by_cases h1 : i < 144
      · have h1' : (i : Int) < 144 := by omega
        have HF : Hid (fixL i = 8) := by show _ = _; unfold fixL; rw [if_pos h1]
        go_wp2
        exact ⟨⟨i + 1, by omega, by go_num, by rw [arr_blk_set P1]; exact congrArg (fun x => some (Obj.cells x 3 (0, 0))) (fixv_up HF.out), P3.setCell (Nat.le_refl _) _⟩, by simp [intOf]; omega⟩
      · have h1' : ¬ (i : Int) < 144 := by omega
        by_cases h2 : i < 256
        · have h2' : (i : Int) < 256 := by omega
          have HF : Hid (fixL i = 9) := by show _ = _; unfold fixL; rw [if_neg h1, if_pos h2]
          go_wp2
          exact ⟨⟨i + 1, by omega, by go_num, by rw [arr_blk_set P1]; exact congrArg (fun x => some (Obj.cells x 3 (0, 0))) (fixv_up HF.out), P3.setCell (Nat.le_refl _) _⟩, by simp [intOf]; omega⟩
        · have h2' : ¬ (i : Int) < 256 := by omega
          by_cases h3 : i < 280
          · have h3' : (i : Int) < 280 := by omega
            have HF : Hid (fixL i = 7) := by show _ = _; unfold fixL; rw [if_neg h1, if_neg h2, if_pos h3]
            go_wp2
            exact ⟨⟨i + 1, by omega, by go_num, by rw [arr_blk_set P1]; exact congrArg (fun x => some (Obj.cells x 3 (0, 0))) (fixv_up HF.out), P3.setCell (Nat.le_refl _) _⟩, by simp [intOf]; omega⟩
          · have h3' : ¬ (i : Int) < 280 := by omega
            have HF : Hid (fixL i = 8) := by show _ = _; unfold fixL; rw [if_neg h1, if_neg h2, if_neg h3, if_pos h288]
            go_wp2
            exact ⟨⟨i + 1, by omega, by go_num, by rw [arr_blk_set P1]; exact congrArg (fun x => some (Obj.cells x 3 (0, 0))) (fixv_up HF.out), P3.setCell (Nat.le_refl _) _⟩, by simp [intOf]; omega⟩
    · have h288' : ¬ (i : Int) < 288 := by omega
      have ei : i = 288 := by omega
      have I1 : Ints wr (some ⟨w.heap.size, 0, none⟩) 288 288 fun i => ((fixL i : Nat) : Int) := ints_fix (by rw [P1, ei])
      have G1 := blk_new wr (.cells (arr 32 (disv 0)) 3)
      have B1 : Below wr.heap.size wr (wr.alloc (.cells (arr 32 (disv 0)) 3)) := (Below.refl _ wr).alloc (Nat.le_refl _) _
      obtain ⟨W, hW⟩ : ∃ W, W = wr.alloc (.cells (arr 32 (disv 0)) 3) := ⟨_, rfl⟩
      rw [← hW] at G1 B1
      go_wp2_with fail
      clear h288 h288' ei
      rw [← hW]
      clear hW
      obtain ⟨wz, hwz⟩ : ∃ wz, wz = wr := ⟨_, rfl⟩
      subst hwz
      go_loopw [5] (fun j wq => ∃ k : Nat, k ≤ 32 ∧ j = .int .i64 k ∧ wq.heap[wz.heap.size]? = some (.cells (arr 32 (disv k)) 3) ∧ Below wz.heap.size wz wq) (fun j _ => 32 - (intOf j).toNat)
      case atStart => exact ⟨0, by omega, rfl, G1, B1⟩
      case round =>
        clear G1 B1 W
        obtain ⟨k, hk, rfl, Q1, Q3⟩ := hrel
        by_cases h32 : k < 32
        · have h32' : (k : Int) < 32 := by omega
          have d1 := arr_cell Q1 h32
          have d2 := blk_free Q1 k
          go_wp2
          exact ⟨⟨k + 1, by omega, by go_num, by rw [arr_blk_set Q1]; exact congrArg (fun x => some (Obj.cells x 3 (0, 0))) disv_up, Q3.setCell (Nat.le_refl _) _⟩, by simp [intOf]; omega⟩
        · have h32' : ¬ (k : Int) < 32 := by omega
          have ek : k = 32 := by omega
          have I2 : Ints wr (some ⟨wz.heap.size, 0, none⟩) 32 32 fun i => ((fixD i : Nat) : Int) := ints_dis (by rw [Q1, ek])
          have I1' := I1.below Q3 (Nat.le_refl _)
          have bz : w.heap.size ≤ wz.heap.size := P3.size
          have br : w.heap.size ≤ wr.heap.size := Nat.le_trans bz Q3.size
          have BW : Below w.heap.size w wr := P3.trans (Q3.mono bz)
          go_wp2_with fail
          clear h32 h32' ek
          refine (rnew_any _ 288 288 _ _ I1').mono ?_
          rintro e w1 ⟨hb1, hc1⟩
          rcases hc1 with ⟨hbad, _⟩ | ⟨_, rc, gc, gl, capl, b1, b2, b3, rfl, hC1⟩
          · exact absurd good_fix hbad
          · have hC1' : RCode w1 rc gc gl capl 288 fixL := by
              have e : (fun i => (((fixL i : Nat) : Int)).toNat) = fixL := by funext i; simp
              rw [e] at hC1; exact hC1
            have I3 := I2.below hb1 (Nat.le_refl _)
            have BW1 := BW.trans (hb1.mono br)
            clear hC1 I1 I1' I2 hmk hmd
            go_wp2_with fail
            refine (rnew_any _ 32 32 _ _ I3).mono ?_
            rintro e w2 ⟨hb2, hc2⟩
            rcases hc2 with ⟨hbad, _⟩ | ⟨_, dc, dg, dl, capd, b4, b5, b6, rfl, hC2⟩
            · exact absurd good_dis hbad
            · have hC2' : RCode w2 dc dg dl capd 32 fixD := by
                have e : (fun i => (((fixD i : Nat) : Int)).toNat) = fixD := by funext i; simp
                rw [e] at hC2; exact hC2
              have hC3 := hC1'.below hb2
              have b1s := hb1.size
              go_wp2
              go_ret2
              exact ⟨rc, gc, gl, capl, dc, dg, dl, capd, rfl, hC3, hC2', BW1.trans (hb2.mono (by omega)), by omega, by omega, by omega, by omega, by omega, by omega⟩
end Go.Proofs.YtahibacjaoohiaaDoor

namespace Go.Proofs.YtahibacjaoohiaaDoor
open Go.RowKit

/-- Where the reference's loop stands: lb, the last block was met; E, what went wrong. -/
def RSt (z : Nat → Nat) (len most : Nat) (lb : Bool) (E p : Nat) (u : List Int) : Prop :=
  (E = 0 ∧ ((lb = false ∧ blocksE z (8 * len) most (p, u) = inflE z len most) ∨ (lb = true ∧ inflE z len most = .ok (p, u)))) ∨ (0 < E ∧ inflE z len most = .error E)
theorem rst_ok {z : Nat → Nat} {len most p p' : Nat} {u u' : List Int} {lb : Bool} (h : blocksE z (8 * len) most (p, u) = inflE z len most) (hp : p + 3 ≤ 8 * len) (hF : kindE z (8 * len) most (takev z (p + 1) 2) (p + 3) u = .ok (p', u')) (hlb : (((bit z p : Nat) : Int) == 1) = lb) : RSt z len most lb 0 p' u' := by
  have hb : blockE z (8 * len) most (p, u) = .ok (lb, (p', u')) := by
    unfold blockE; simp only; rw [if_pos hp, hF]; simp only
    congr 2
    rw [← hlb]
    have := bit_lt z p
    rcases (show bit z p = 0 ∨ bit z p = 1 by omega) with e | e <;> rw [e] <;> rfl
  left
  refine ⟨rfl, ?_⟩
  cases lb with
  | false => exact .inl ⟨rfl, by rw [← h]; exact (blocksE_more hb).symm⟩
  | true => exact .inr ⟨rfl, by rw [← h]; exact blocksE_last hb⟩
theorem rst_err {z : Nat → Nat} {len most p p' e : Nat} {u u' : List Int} {lb : Bool} (h : blocksE z (8 * len) most (p, u) = inflE z len most) (hp : p + 3 ≤ 8 * len) (hF : kindE z (8 * len) most (takev z (p + 1) 2) (p + 3) u = .error e) (he : 0 < e) : RSt z len most lb e p' u' :=
  .inr ⟨he, by rw [← h]; exact blocksE_err (by unfold blockE; simp only; rw [if_pos hp, hF])⟩
theorem rst_short {z : Nat → Nat} {len most p p' : Nat} {u u' : List Int} {lb : Bool} (h : blocksE z (8 * len) most (p, u) = inflE z len most) (hp : ¬ p + 3 ≤ 8 * len) : RSt z len most lb 3 p' u' :=
  .inr ⟨by omega, by rw [← h]; exact blocksE_err (by unfold blockE; simp only; rw [if_neg hp])⟩
def eOf (s : Nat) (w : World) : Nat := match w.cell? ⟨s, 3, none⟩ with | some (.int _ n) => n.toNat | _ => 0
theorem RFl.eOf {w : World} {B s sb : Nat} {a : Option Addr} {len cap : Nat} {z : Nat → Nat} {mo : Int} {E : Nat} {v : Value} {p : Nat} {out : List Int} (h : RFl w B s sb a len cap z mo E v p out) : eOf s w = E := by
  have : w.cell? ⟨s, 3, none⟩ = some (.int .i64 E) := blk_cell h.obj 3
  unfold Go.Proofs.YtahibacjaoohiaaDoor.eOf; rw [this]; rfl
def isF : Value → Bool
  | .bool b => !b
  | _ => false
/-- How much the loop has still to do. -/
def todo (len s sb : Nat) (l : Value) (w : World) : Nat := if isF l = true ∧ eOf s w = 0 then 8 * len + 1 - pOf sb w else 0
theorem todo_lt {w w' : World} {B s sb : Nat} {a : Option Addr} {len cap : Nat} {z : Nat → Nat} {mo : Int} {E : Nat} {v v' : Value} {p p' : Nat} {u u' : List Int} {lb : Bool} (h : RFl w B s sb a len cap z mo 0 v p u) (h' : RFl w' B s sb a len cap z mo E v' p' u') (hE : E ≠ 0 ∨ p < p') : todo len s sb (.bool lb) w' < todo len s sb (.bool false) w := by
  have h1 := h.pOf
  have h2 := h.eOf
  have h3 := h'.pOf
  have h4 := h'.eOf
  have h5 := h.bits.lim
  have h6 := h'.bits.lim
  unfold todo
  rw [h1, h2, h3, h4]
  have e0 : (if isF (.bool false) = true ∧ (0 : Nat) = 0 then 8 * len + 1 - p else 0) = 8 * len + 1 - p := if_pos ⟨rfl, rfl⟩
  rw [e0]
  split
  · rename_i hc; have := hc.2; omega
  · omega

set_option maxRecDepth 100000 in
set_option maxHeartbeats 6400000 in
theorem rinflate_any (a : Option Addr) (len cap : Nat) (z : Nat → Nat) (mo : Int) (most : Nat) (hm : (most : Int) = if mo < 0 then 0 else mo) (hml : most ≤ 140737488355000) (w : World) (h : Lies w a len cap z) :
    Calls Tryd.prog 12 #[.slice a len cap, .int .i64 mo] w (TellsI 140737488355000 (inflE z len most) w) := by
  have HM : Hid ((most : Int) = if mo < 0 then 0 else mo) := hm
  clear hm
  have g0 := blk_alloc (blk_new w (.cells #[.slice a len cap, .int .i64 0] 66)) (.cells #[.pointer (some ⟨w.heap.size, 0, none⟩), .slice none 0 0, .int .i64 mo, .int .i64 0] 68)
  have g1 := blk_new (w.alloc (.cells #[.slice a len cap, .int .i64 0] 66)) (.cells #[.pointer (some ⟨w.heap.size, 0, none⟩), .slice none 0 0, .int .i64 mo, .int .i64 0] 68)
  rw [World.size_alloc] at g1
  have bw : Below w.heap.size w ((w.alloc (.cells #[.slice a len cap, .int .i64 0] 66)).alloc (.cells #[.pointer (some ⟨w.heap.size, 0, none⟩), .slice none 0 0, .int .i64 mo, .int .i64 0] 68)) := ((Below.refl _ _).alloc (Nat.le_refl _) _).alloc (by simp) _
  have L0 := h.below bw (Nat.le_refl _)
  have hfar : ∀ b off, 0 < len → a = some ⟨b, off, none⟩ → b < w.heap.size := fun b off hl ea => by
    obtain ⟨b', off', e, hlt, _⟩ := h.spot hl
    rw [ea] at e
    simp at e
    omega
  obtain ⟨W, hW⟩ : ∃ W, W = (w.alloc (.cells #[.slice a len cap, .int .i64 0] 66)).alloc (.cells #[.pointer (some ⟨w.heap.size, 0, none⟩), .slice none 0 0, .int .i64 mo, .int .i64 0] 68) := ⟨_, rfl⟩
  rw [← hW] at g0 g1 bw L0
  have S0 : RFl W w.heap.size (w.heap.size + 1) w.heap.size a len cap z mo 0 (.slice none 0 0) 0 [] := ⟨g1, ⟨g0, L0, by omega, fun hl b off ea => by have := hfar b off hl ea; omega⟩, ownv_nil _ _ _ _, fun q => by simp, by simp, hfar, by omega, by omega, bw.size⟩
  clear g0 g1 L0 hfar
  go_enter Tryd.func12, Tryd.ntmps12
  go_wp2_with fail
  rw [← hW]
  clear hW
  obtain ⟨s, hs⟩ : ∃ s, Hid (w.heap.size + 1 = s) := ⟨_, rfl⟩
  obtain ⟨sb, hsb⟩ : ∃ sb, Hid (w.heap.size = sb) := ⟨_, rfl⟩
  rw [hs.out] at S0 ⊢
  have S1 : RFl W w.heap.size s sb a len cap z mo 0 (.slice none 0 0) 0 [] := by rw [← hsb.out]; exact S0
  clear S0
  go_loopw [8] (fun l wq => ∃ (lb : Bool) (v1 : Value) (p1 E1 : Nat) (u1 : List Int), l = .bool lb ∧ RFl wq w.heap.size s sb a len cap z mo E1 v1 p1 u1 ∧ Below w.heap.size w wq ∧ Hid (RSt z len most lb E1 p1 u1)) (fun l wq => todo len s sb l wq)
  case atStart => exact ⟨false, _, 0, 0, [], rfl, S1, bw, .inl ⟨rfl, .inl ⟨rfl, rfl⟩⟩⟩
  case round =>
    clear S1 bw W
    obtain ⟨lb, v1, p1, E1, u1, rfl, hS, bel, hR⟩ := hrel
    have c3 : wr.cell? ⟨s, 3, none⟩ = some (.int .i64 (E1 : Nat)) := blk_cell hS.obj 3
    have hR' := hR.out
    unfold RSt at hR'
    rcases hR' with ⟨rfl, ⟨rfl, hE⟩ | ⟨rfl, hE⟩⟩ | ⟨hpos, hE⟩
    · have HE : Hid (blocksE z (8 * len) most (p1, u1) = inflE z len most) := hE
      replace c3 : wr.cell? ⟨s, 3, none⟩ = some (.int .i64 0) := c3
      clear hE hR
      have HS0 : Hid (RFl wr w.heap.size s sb a len cap z mo 0 v1 p1 u1) := hS
      obtain ⟨wz, hwz⟩ : ∃ wz, Hid (wz = wr) := ⟨_, rfl⟩
      go_wp2_with fail
      refine (rftake_any w.heap.size s sb a len cap z mo 0 v1 p1 u1 1 (by omega) _ hS).mono ?_
      rintro e w1 ⟨t, q1, E2, rfl, h1, M1, k1⟩
      have lt2 : t < 2 := by
        rcases k1 with ⟨_, e, _, _⟩ | ⟨_, e, _, _⟩
        · rw [e]; exact takev_lt z p1 1
        · omega
      have bel1 : Below w.heap.size w w1 := bel.trans (M1.below bel.size (fun i hi => (HS0.out.mine hi).1))
      obtain ⟨lb, hlb⟩ : ∃ lb, (((t : Nat) : Int) == 1) = lb := ⟨_, rfl⟩
      have HLB : Hid ((((t : Nat) : Int) == 1) = lb) := hlb
      clear hS bel M1 c3
      go_wp2_with fail
      clear hlb
      refine (rftake_any w.heap.size s sb a len cap z mo E2 v1 q1 u1 2 (by omega) _ h1).mono ?_
      rintro e w2 ⟨K, q2, E3, rfl, h2, M2, k2⟩
      have bel2 : Below w.heap.size w w2 := bel1.trans (M2.below bel1.size (fun i hi => (h1.mine hi).1))
      have d3 : w2.cell? ⟨s, 3, none⟩ = some (.int .i64 (E3 : Nat)) := blk_cell h2.obj 3
      clear h1 bel1 M2
      by_cases hp : p1 + 3 ≤ 8 * len
      · obtain ⟨_, ht, rfl, rfl⟩ : p1 + 1 ≤ 8 * len ∧ t = takev z p1 1 ∧ q1 = p1 + 1 ∧ E2 = 0 := by
          rcases k1 with hb | hb
          · exact hb
          · omega
        obtain ⟨_, hK, rfl, rfl⟩ : p1 + 1 + 2 ≤ 8 * len ∧ K = takev z (p1 + 1) 2 ∧ q2 = p1 + 1 + 2 ∧ E3 = 0 := by
          rcases k2 with hb | hb
          · exact hb
          · omega
        replace d3 : w2.cell? ⟨s, 3, none⟩ = some (.int .i64 0) := d3
        have HP : Hid (p1 + 3 ≤ 8 * len) := hp
        have HB : Hid ((((bit z p1 : Nat) : Int) == 1) = lb) := by
          show _ = _
          rw [← HLB.out, ht]
          simp [takev]
        have lK : K < 4 := by rw [hK]; exact takev_lt z (p1 + 1) 2
        have HK : Hid (K = takev z (p1 + 1) 2) := hK
        rw [show p1 + 1 + 2 = p1 + 3 by omega] at h2
        clear k1 k2 ht hK hp HLB lt2
        rcases (show K = 0 ∨ K = 1 ∨ K = 2 ∨ K = 3 by omega) with rfl | rfl | rfl | rfl
        · go_wp2_with fail
          refine (rstored_any w.heap.size s sb a len cap z mo most HM.out hml v1 (p1 + 3) u1 _ h2).mono ?_
          rintro e w4 ⟨v4, p4, o4, E4, h4, M4, hc⟩
          have bel4 : Below w.heap.size w w4 := bel2.trans (M4.below bel2.size (fun i hi => (h2.mine hi).1))
          have H4 : Hid (RFl w4 w.heap.size s sb a len cap z mo E4 v4 p4 o4) := h4
          clear h2 bel2 d3 h4
          rcases hc with ⟨hF, rfl, rfl⟩ | ⟨hF, hp4, rfl⟩
          · have HQ := storedE_ok hF.out
            have HR : Hid (RSt z len most lb 0 p4 o4) := rst_ok HE.out HP.out (by rw [← HK.out]; unfold kindE; rw [if_pos rfl]; exact hF.out) HB.out
            have HL := todo_lt (lb := lb) HS0.out H4.out (.inr (by have := HQ.1; simp at this; omega))
            have HL' : Hid (_) := HL
            clear HQ HL
            go_wp2
            exact ⟨⟨lb, v4, p4, 0, o4, by trivial, H4.out, bel4, HR⟩, HL'.out⟩
          · have HR : Hid (RSt z len most lb E4 p4 o4) := rst_err HE.out HP.out (by rw [← HK.out]; unfold kindE; rw [if_pos rfl]; exact hF.out) hp4
            have HL := todo_lt (lb := lb) HS0.out H4.out (.inl (by omega))
            have HL' : Hid (_) := HL
            clear HL
            go_wp2
            exact ⟨⟨lb, v4, p4, E4, o4, by trivial, H4.out, bel4, HR⟩, HL'.out⟩
        · go_wp2_with fail
          refine (rfixed_any _).mono ?_
          rintro e w3 ⟨rc, gc, gl, capl, dc, dg, dl, capd, rfl, hC, hD, b3, x1, x2, x3, x4, x5, x6⟩
          have h3 := h2.below b3
          have nm : ∀ k, w2.heap.size ≤ k → ¬ Mine s sb v1 k := fun k hk e => by have := h2.mine e; omega
          have A3 : RAl w3 s sb v1 rc gc gl capl 288 fixL := ⟨hC, nm _ x1, nm _ x2, nm _ x3⟩
          have D3 : RAl w3 s sb v1 dc dg dl capd 32 fixD := ⟨hD, nm _ x4, nm _ x5, nm _ x6⟩
          have bel3 : Below w.heap.size w w3 := bel2.trans (b3.mono bel2.size)
          clear h2 bel2 d3 b3 hC hD nm x1 x2 x3 x4 x5 x6
          go_wp2_with fail
          refine (rcoded_any w.heap.size s sb a len cap z mo most HM.out hml v1 (p1 + 3) u1 rc gc gl capl 288 fixL dc dg dl capd 32 fixD _ h3 A3 D3).mono ?_
          rintro e w4 ⟨v4, p4, o4, E4, h4, M4, hc⟩
          have bel4 : Below w.heap.size w w4 := bel3.trans (M4.below bel3.size (fun i hi => (h3.mine hi).1))
          have H4 : Hid (RFl w4 w.heap.size s sb a len cap z mo E4 v4 p4 o4) := h4
          clear h3 bel3 h4 A3 D3
          rcases hc with ⟨hF, rfl, rfl⟩ | ⟨hF, hp4, rfl⟩
          · have HQ := codedE_ok hF.out
            have HR : Hid (RSt z len most lb 0 p4 o4) := rst_ok HE.out HP.out (by rw [← HK.out]; unfold kindE; rw [if_neg (by omega), if_pos rfl]; exact hF.out) HB.out
            have HL := todo_lt (lb := lb) HS0.out H4.out (.inr (by have := HQ.1; simp at this; omega))
            have HL' : Hid (_) := HL
            clear HQ HL
            go_wp2
            exact ⟨⟨lb, v4, p4, 0, o4, by trivial, H4.out, bel4, HR⟩, HL'.out⟩
          · have HR : Hid (RSt z len most lb E4 p4 o4) := rst_err HE.out HP.out (by rw [← HK.out]; unfold kindE; rw [if_neg (by omega), if_pos rfl]; exact hF.out) hp4
            have HL := todo_lt (lb := lb) HS0.out H4.out (.inl (by omega))
            have HL' : Hid (_) := HL
            clear HL
            go_wp2
            exact ⟨⟨lb, v4, p4, E4, o4, by trivial, H4.out, bel4, HR⟩, HL'.out⟩
        · go_wp2_with fail
          refine (rown_any w.heap.size s sb a len cap z mo most HM.out hml v1 (p1 + 3) u1 _ h2).mono ?_
          rintro e w4 ⟨v4, p4, o4, E4, h4, M4, hc⟩
          have bel4 : Below w.heap.size w w4 := bel2.trans (M4.below bel2.size (fun i hi => (h2.mine hi).1))
          have H4 : Hid (RFl w4 w.heap.size s sb a len cap z mo E4 v4 p4 o4) := h4
          clear h2 bel2 d3 h4
          have hkind : kindE z (8 * len) most 2 (p1 + 3) u1 = ownCE z (8 * len) most (p1 + 3) u1 := by
            unfold kindE ownCE
            rw [if_neg (by omega), if_neg (by omega), if_pos rfl]
            cases ownE z (8 * len) (p1 + 3) with
            | error e => rfl
            | ok x => rfl
          have HKd : Hid (_) := hkind
          clear hkind
          rcases hc with ⟨hF, rfl, rfl⟩ | ⟨hF, hp4, rfl⟩
          · have HQ := kindE_ok (HKd.out.trans hF.out)
            have HR : Hid (RSt z len most lb 0 p4 o4) := rst_ok HE.out HP.out (by rw [← HK.out, HKd.out]; exact hF.out) HB.out
            have HL := todo_lt (lb := lb) HS0.out H4.out (.inr (by have := HQ.1; simp at this; omega))
            have HL' : Hid (_) := HL
            clear HQ HL
            go_wp2
            exact ⟨⟨lb, v4, p4, 0, o4, by trivial, H4.out, bel4, HR⟩, HL'.out⟩
          · have HR : Hid (RSt z len most lb E4 p4 o4) := rst_err HE.out HP.out (by rw [← HK.out, HKd.out]; exact hF.out) hp4
            have HL := todo_lt (lb := lb) HS0.out H4.out (.inl (by omega))
            have HL' : Hid (_) := HL
            clear HL
            go_wp2
            exact ⟨⟨lb, v4, p4, E4, o4, by trivial, H4.out, bel4, HR⟩, HL'.out⟩
        · go_wp2_with fail
          refine (fails_new w.heap.size s sb a len cap z mo v1 (p1 + 3) u1 2 _ h2).mono ?_
          rintro e w4 ⟨rfl, h4, M4⟩
          have bel4 : Below w.heap.size w w4 := bel2.trans (M4.below bel2.size (fun i hi => (h2.mine hi).1))
          have H4 : Hid (RFl w4 w.heap.size s sb a len cap z mo 2 v1 (p1 + 3) u1) := h4
          have HR : Hid (RSt z len most lb 2 (p1 + 3) u1) := rst_err HE.out HP.out (by rw [← HK.out]; unfold kindE; rw [if_neg (by omega), if_neg (by omega), if_neg (by omega)]) (by omega)
          have HL := todo_lt (lb := lb) HS0.out H4.out (.inl (by omega))
          have HL' : Hid (_) := HL
          clear HL h2 bel2 d3 h4
          go_wp2
          exact ⟨⟨lb, v1, p1 + 3, 2, u1, by trivial, H4.out, bel4, HR⟩, HL'.out⟩
      · have hE3 : E3 = 3 := by
          rcases k1 with ⟨i1, _, i3, i4⟩ | ⟨i1, _, i3, i4⟩ <;> rcases k2 with ⟨j1, _, j3, j4⟩ | ⟨j1, _, j3, j4⟩ <;> simp_all <;> omega
        subst hE3
        replace d3 : w2.cell? ⟨s, 3, none⟩ = some (.int .i64 3) := d3
        have HR : Hid (RSt z len most lb 3 q2 u1) := rst_short HE.out hp
        have H2 : Hid (RFl w2 w.heap.size s sb a len cap z mo 3 v1 q2 u1) := h2
        have HL := todo_lt (lb := lb) HS0.out H2.out (.inl (by omega))
        have HL' : Hid (_) := HL
        clear HL k1 k2 hp h2 HLB lt2
        go_wp2
        exact ⟨⟨lb, v1, q2, 3, u1, by trivial, H2.out, bel2, HR⟩, HL'.out⟩
    · have HE : Hid (inflE z len most = .ok (p1, u1)) := hE
      replace c3 : wr.cell? ⟨s, 3, none⟩ = some (.int .i64 0) := c3
      obtain ⟨ao, capo, hv⟩ := hS.own.form
      have c1 : wr.cell? ⟨s, 1, none⟩ = some (.slice ao u1.length capo) := by rw [← hv]; exact blk_cell hS.obj 1
      have c0 : wr.cell? ⟨s, 0, none⟩ = some (.pointer (some ⟨sb, 0, none⟩)) := blk_cell hS.obj 0
      have BN : ∀ k, RBits (wr.drewN k) sb a len cap z p1 := fun k => hS.bits.kept (S := fun _ => False) ((Kept.refl _ _).drewN _) id (fun _ _ _ _ => id)
      have HV : Hid (v1 = .slice ao u1.length capo) := hv
      clear hv hE hR
      go_wp2_with fail
      go_quiet (first | (go_at_call 36; exact Calls.quiet_of_same (rused_any sb a len cap z p1 _ (BN _))))
      go_wp2
      go_ret3
      refine ⟨below_drewN bel _, .inr ⟨p1, u1, .slice ao u1.length capo, HE, rfl, ?_, hS.byte, hS.fit⟩⟩
      rw [← HV.out]
      exact hS.own.below (below_drewN (Below.refl _ _) _)
    · have HE : Hid (inflE z len most = .error E1) := hE
      have hk0 : ¬ (E1 : Int) = 0 := by omega
      clear hE hR
      cases lb with
      | true =>
        go_wp2_with fail
        go_quiet (fail)
        go_wp2
        go_ret3
        exact ⟨below_drewN bel _, .inl ⟨E1, HE, hpos, rfl⟩⟩
      | false =>
        go_wp2_with fail
        go_quiet (fail)
        go_wp2
        go_ret3
        exact ⟨below_drewN bel _, .inl ⟨E1, HE, hpos, rfl⟩⟩
end Go.Proofs.YtahibacjaoohiaaDoor
