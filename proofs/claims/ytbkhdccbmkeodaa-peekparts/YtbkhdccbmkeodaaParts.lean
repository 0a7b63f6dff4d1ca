/-
  PeekParts, walked.
-/
import Derived.Test.YtbkhdccbmkeodaaKnown
import Derived.BigQuiet
import Derived.WalkSmall
namespace Go.Proofs.Ytbkhdccbmkeodaa
open Go.RowKit

/-- How many of the first i bytes from X on are there, told one by one. -/
def cnt (len : Nat) (X : Int) (i : Nat) : Nat := if X < 0 then 0 else min i (len - X.toNat)
/-- What has been laid down of them. -/
def lv (z : Nat → Nat) (len : Nat) (X : Int) (i j : Nat) : Nat := if j < cnt len X i then z (X.toNat + j) else 0
def lrow (z : Nat → Nat) (len : Nat) (X : Int) (i : Nat) : Array Value := #[.int .i64 (lv z len X i 0 : Nat), .int .i64 (lv z len X i 1 : Nat), .int .i64 (lv z len X i 2 : Nat), .int .i64 (lv z len X i 3 : Nat)]

theorem cnt_le (len : Nat) (X : Int) (i : Nat) : cnt len X i ≤ i := by unfold cnt; split <;> omega
theorem cnt_in (len : Nat) (X : Int) (i : Nat) (h1 : 0 ≤ X) (h2 : X + i < len) : cnt len X i = i ∧ cnt len X (i + 1) = i + 1 := by
  have h : ¬ X < 0 := by omega
  simp only [cnt, h, if_false]; constructor <;> omega
theorem cnt_neg (len : Nat) (X : Int) (i : Nat) (h1 : X < 0) : cnt len X i = 0 := by unfold cnt; rw [if_pos h1]
theorem cnt_out (len : Nat) (X : Int) (i : Nat) (h2 : (len : Int) ≤ X + i) : cnt len X (i + 1) = cnt len X i := by unfold cnt; split <;> omega
theorem lv_same (z : Nat → Nat) (len : Nat) (X : Int) (i k : Nat) (h : cnt len X i = cnt len X k) (j : Nat) : lv z len X i j = lv z len X k j := by unfold lv; rw [h]
theorem lrow_same (z : Nat → Nat) (len : Nat) (X : Int) (i k : Nat) (h : cnt len X i = cnt len X k) : lrow z len X i = lrow z len X k := by unfold lrow; simp only [lv_same z len X i k h]
theorem lrow_zero (z : Nat → Nat) (len : Nat) (X : Int) : lrow z len X 0 = #[.int .i64 0, .int .i64 0, .int .i64 0, .int .i64 0] := by
  have : cnt len X 0 = 0 := Nat.le_zero.1 (cnt_le len X 0)
  simp [lrow, lv, this]
theorem lrow_set (z : Nat → Nat) (len : Nat) (X : Int) (i : Nat) (hi : i < 4) (h1 : 0 ≤ X) (h2 : X + i < len) : (lrow z len X i).setIfInBounds i (.int .i64 (z (X.toNat + i) : Nat)) = lrow z len X (i + 1) := by
  obtain ⟨e1, e2⟩ := cnt_in len X i h1 h2
  unfold lrow lv
  rw [e1, e2]
  match i, hi with
  | 0, _ => rfl
  | 1, _ => rfl
  | 2, _ => rfl
  | 3, _ => rfl
theorem lrow_get (z : Nat → Nat) (len : Nat) (X : Int) (i j : Nat) (hj : j < 4) : (lrow z len X i)[j]? = some (.int .i64 (lv z len X i j : Nat)) := by
  match j, hj with
  | 0, _ => rfl
  | 1, _ => rfl
  | 2, _ => rfl
  | 3, _ => rfl

theorem there2_cnt (len : Nat) (X : Int) : there len X 2 = true ↔ 2 ≤ cnt len X 4 := by
  rw [there_iff]; unfold cnt; split <;> omega
theorem there4_cnt (len : Nat) (X : Int) : there len X 4 = true ↔ cnt len X 4 = 4 := by
  rw [there_iff]; unfold cnt; split <;> omega
theorem cnt_four (len : Nat) (X : Int) : cnt len X 4 ≤ 4 := cnt_le len X 4
theorem tell2 (z : Nat → Nat) (len : Nat) (X : Int) (h : there len X 2 = true) : tell z len X 2 = (z (X.toNat + 0) : Int) * 256 + (z (X.toNat + 1) : Int) := by
  unfold tell; rw [if_pos (by exact h)]; simp [numv]
theorem tell4 (z : Nat → Nat) (len : Nat) (X : Int) (h : there len X 4 = true) : tell z len X 4 = (((z (X.toNat + 0) : Int) * 256 + (z (X.toNat + 1) : Int)) * 256 + (z (X.toNat + 2) : Int)) * 256 + (z (X.toNat + 3) : Int) := by
  unfold tell; rw [if_pos (by exact h)]; simp [numv]
theorem sgn2_hi (z : Nat → Nat) (len : Nat) (X : Int) (h : there len X 2 = true) (hz : 128 ≤ z (X.toNat + 0)) : sgn z len X 2 = (z (X.toNat + 0) : Int) * 256 + (z (X.toNat + 1) : Int) - 65536 := by
  unfold sgn; rw [if_pos (by exact h), if_pos (by simpa using hz)]; simp [numv]
theorem sgn2_lo (z : Nat → Nat) (len : Nat) (X : Int) (h : there len X 2 = true) (hz : ¬ 128 ≤ z (X.toNat + 0)) : sgn z len X 2 = (z (X.toNat + 0) : Int) * 256 + (z (X.toNat + 1) : Int) := by
  unfold sgn; rw [if_pos (by exact h), if_neg (by simpa using hz)]; simp [numv]
theorem lv_in (z : Nat → Nat) (len : Nat) (X : Int) (j : Nat) (h : j < cnt len X 4) : lv z len X 4 j = z (X.toNat + j) := by unfold lv; rw [if_pos h]
theorem lcell {w : World} {g : Nat} {z : Nat → Nat} {len : Nat} {X : Int} (h : w.heap[g]? = some (.cells (lrow z len X 4) 32)) (j : Nat) (hj : j < 4) : w.cell? ⟨g, j, none⟩ = some (.int .i64 (lv z len X 4 j : Nat)) := by
  rw [blk_cell h, lrow_get z len X 4 j hj]
theorem from_neg (len : Nat) (X : Int) (h : X < 0) : fromOk len X = false := decide_eq_false (by omega)
theorem from_far (len : Nat) (X : Int) (h : (len : Int) < X) : fromOk len X = false := decide_eq_false (by omega)
theorem from_in (len : Nat) (X : Int) (h : 0 ≤ X) (h2 : X ≤ len) : fromOk len X = true := decide_eq_true ⟨h, h2⟩
theorem flen_in (len : Nat) (X : Int) (h : 0 ≤ X) (h2 : X ≤ len) : flen len X = len - X.toNat := by unfold flen; rw [from_in len X h h2]; rfl
theorem plen_in (len : Nat) (X : Int) (m : Nat) (h : there len X m = true) : plen len X m = m := by unfold plen; rw [h]; simp

/-- Its first bytes. -/
theorem Lies.front {w : World} {a : Option Addr} {len cap : Nat} {z : Nat → Nat} (h : Lies w a len cap z) (m : Nat) (hm : m ≤ len) : Lies w a m cap z :=
  ⟨by have := h.lc; omega, by have := h.reach; omega, h.byte, fun hp => by
    obtain ⟨b, off, e, hb, hc⟩ := h.spot (by omega)
    exact ⟨b, off, e, hb, fun i hi => hc i (by omega)⟩⟩

set_option maxRecDepth 100000 in
set_option maxHeartbeats 12800000 in
theorem parts_walk (a : Option Addr) (len cap : Nat) (z : Nat → Nat) (at' n : Int) (w : World) (LL : Lies w a len cap z) :
    Calls Try.prog 5 #[.slice a len cap, .int .i64 at', .int .i64 n] w fun e w' => e = .returned (.bool true) ∧ Below w.heap.size w w' := by
  have hr := LL.reach
  have hnot : ∀ (x : Bool) (w : World), (Op.unary .not (.bool x)).run Try.prog w = .ok (.bool (!x)) w := fun _ _ => rfl
  go_enter Try.func5, Try.ntmps5
  go_wp2_with fail
  refine (pick_any _ _ (by omega) (by omega) _).mono ?_
  rintro e w' ⟨x, hx, rfl, rfl⟩
  obtain ⟨X, hX⟩ : ∃ X : Int, (x : Int) - 1 = X := ⟨_, rfl⟩
  have x1 : -1 ≤ X := by omega
  have x2 : X ≤ (len : Int) + 1 := by omega
  go_wp2_with fail
  refine (pick_any _ _ (by decide) (by decide) _).mono ?_
  rintro e w' ⟨m, hm, rfl, rfl⟩
  clear hX hx
  go_wp2_with fail
  obtain ⟨g, hg⟩ : ∃ g, g = w'.heap.size := ⟨_, rfl⟩
  obtain ⟨W1, hW1⟩ : ∃ W1, W1 = w'.alloc (.cells #[.int .i64 0, .int .i64 0, .int .i64 0, .int .i64 0] 32) := ⟨_, rfl⟩
  rw [← hW1, ← hg]
  have k1 : W1.heap[g]? = some (.cells (lrow z len X 0) 32) := by rw [hW1, hg, lrow_zero]; exact blk_new w' _
  have b1 : Below g w' W1 := by rw [hW1, hg]; exact (Below.refl _ _).alloc (Nat.le_refl _) _
  have g1 : w'.heap.size ≤ g := by omega
  have HG : Hid (g = w'.heap.size) := hg
  clear hW1 hg
  go_loopw [8, 9] (fun c j wq => ∃ i : Nat, i ≤ 4 ∧ j = .int .i64 i ∧ c = .int .i64 (cnt len X i : Nat) ∧ wq.heap[g]? = some (.cells (lrow z len X i) 32) ∧ Below g w' wq) (fun _ j _ => 4 - (intOf j).toNat)
  case atStart => exact ⟨0, by omega, rfl, by rw [Nat.le_zero.1 (cnt_le len X 0)]; rfl, k1, b1⟩
  case round =>
    clear k1 b1
    obtain ⟨i, hi, rfl, hc, kk, bb⟩ := hrel
    have LR : Lies wr a len cap z := LL.below bb g1
    by_cases hi4 : i < 4
    · have i4 : (i : Int) < 4 := by omega
      have i0 : (0 : Int) ≤ (i : Int) := by omega
      by_cases hin : 0 ≤ X + i ∧ X + i < len
      · have ht : there len (X + i) 1 = true := there_iff.2 (by omega)
        have hv : tell z len (X + i) 1 = (z ((X + i).toNat) : Nat) := by unfold tell; rw [if_pos (by exact ht)]; simp [numv]
        obtain ⟨in1, in2⟩ := hin
        by_cases hX : 0 ≤ X
        · obtain ⟨e1, e2⟩ := cnt_in len X i hX in2
          rw [e1] at hc
          subst hc
          have ev : (X + (i : Int)).toNat = X.toNat + i := by omega
          rw [ev] at hv
          have hcell : wr.cell? ⟨g, i, none⟩ = some (.int .i64 (lv z len X i i : Nat)) := by rw [blk_cell kk, lrow_get z len X i i hi4]
          have hfr := blk_free kk i
          have ks := blk_set kk i (.int .i64 (z (X.toNat + i) : Nat))
          rw [lrow_set z len X i hi4 hX in2] at ks
          have KS : Hid ((wr.setCell ⟨g, i, none⟩ (.int .i64 (z (X.toNat + i) : Nat))).heap[g]? = some (.cells (lrow z len X (i + 1)) 32)) := ks
          have E2 : Hid (cnt len X (i + 1) = i + 1) := e2
          clear ks kk e1 e2 ev
          go_wp2_with fail
          refine (u8_any a len cap z _ _ LR (by omega)).mono ?_
          rintro e w'' ⟨rfl, rfl⟩
          rw [ht, hv]
          clear ht hv
          go_wp2
          go_roundw
          case rel => exact ⟨i + 1, by omega, by go_num, by rw [E2.out]; go_num, KS.out, bb.setCell (by simp) _⟩
          case measure => simp [intOf]; omega
        · have e0 := cnt_neg len X i (by omega)
          have e1 := cnt_neg len X (i + 1) (by omega)
          rw [e0] at hc
          subst hc
          have hne : ¬ (i : Int) = 0 := by omega
          have hne' : ¬ (0 : Int) = (i : Int) := by omega
          have KS : Hid (wr.heap[g]? = some (.cells (lrow z len X (i + 1)) 32)) := by rw [lrow_same z len X (i + 1) i (by rw [e0, e1])]; exact kk
          have E1 : Hid (cnt len X (i + 1) = 0) := e1
          clear e0 e1 kk
          go_wp2_with fail
          refine (u8_any a len cap z _ _ LR (by omega)).mono ?_
          rintro e w'' ⟨rfl, rfl⟩
          rw [ht, hv]
          clear ht hv
          go_wp2
          go_roundw
          case rel => exact ⟨i + 1, by omega, by go_num, by rw [E1.out]; rfl, KS.out, bb⟩
          case measure => simp [intOf]; omega
      · have ht : there len (X + i) 1 = false := there_not (by omega)
        have ec : cnt len X (i + 1) = cnt len X i := by
          by_cases hX : X < 0
          · rw [cnt_neg len X i hX, cnt_neg len X (i + 1) hX]
          · exact cnt_out len X i (by omega)
        have KS : Hid (wr.heap[g]? = some (.cells (lrow z len X (i + 1)) 32)) := by rw [lrow_same z len X (i + 1) i ec]; exact kk
        have E1 : Hid (cnt len X (i + 1) = cnt len X i) := ec
        subst hc
        clear ec kk
        by_cases hlo : 0 ≤ X + i
        · have hhi : ¬ X + i < len := by omega
          go_wp2_with fail
          refine (u8_any a len cap z _ _ LR (by omega)).mono ?_
          rintro e w'' ⟨rfl, rfl⟩
          rw [ht]
          clear ht hin
          go_wp2
          go_roundw
          case rel => exact ⟨i + 1, by omega, by go_num, by rw [E1.out], KS.out, bb⟩
          case measure => simp [intOf]; omega
        · go_wp2_with fail
          refine (u8_any a len cap z _ _ LR (by omega)).mono ?_
          rintro e w'' ⟨rfl, rfl⟩
          rw [ht]
          clear ht hin
          go_wp2
          go_roundw
          case rel => exact ⟨i + 1, by omega, by go_num, by rw [E1.out], KS.out, bb⟩
          case measure => simp [intOf]; omega
    · obtain rfl : i = 4 := by omega
      have hcl := cnt_four len X
      have hz := LL.byte
      rcases (by omega : cnt len X 4 = 0 ∨ cnt len X 4 = 1 ∨ cnt len X 4 = 2 ∨ cnt len X 4 = 3 ∨ cnt len X 4 = 4) with hv | hv | hv | hv | hv
      · have tp : there len X 2 = false := by
          cases h : there len X 2 with
          | false => rfl
          | true => exact absurd ((there2_cnt len X).1 h) (by omega)
        have tq : there len X 4 = false := by
          cases h : there len X 4 with
          | false => rfl
          | true => exact absurd ((there4_cnt len X).1 h) (by omega)
        rw [hv] at hc
        subst hc
        clear hv hcl
        go_wp2_with fail
        refine (u16_any a len cap z _ _ LR (by omega)).mono ?_
        rintro e w'' ⟨rfl, rfl⟩
        rw [tp]
        go_wp2_with fail
        refine (u32_any a len cap z _ _ LR (by omega)).mono ?_
        rintro e w'' ⟨rfl, rfl⟩
        rw [tq]
        go_wp2_with fail
        refine (i16_any a len cap z _ _ LR (by omega)).mono ?_
        rintro e w'' ⟨rfl, rfl⟩
        rw [tp]
        go_wp2_with fail
        refine (known_any _).mono ?_
        rintro e w2 ⟨rfl, b2⟩
        have k2 : w2.heap[g]? = some (.cells (lrow z len X 4) 32) := by rw [b2.block g (blk_lt kk)]; exact kk
        have bb2 : Below g w' w2 := bb.trans (b2.mono (by have := blk_lt kk; omega))
        have L2 : Lies w2 a len cap z := LL.below bb2 g1
        have gl2 : g ≤ w2.heap.size := Nat.le_of_lt (blk_lt k2)
        have c0 := lcell k2 0 (by omega)
        clear k2 b2 kk bb LR LL
        simp only [List.append_eq, List.cons_append, List.nil_append] at *
        go_wp2_with fail
        clear c0
        refine (part_any a len cap z X m _ L2 (by omega)).mono ?_
        rintro e w3 ⟨a3, d3, rfl, p3, b3⟩
        have L3 := L2.below b3 (Nat.le_refl _)
        have bb3 : Below g w' w3 := bb2.trans (b3.mono gl2)
        have gl3 : g ≤ w3.heap.size := Nat.le_trans gl2 b3.size
        clear L2 bb2 b3 gl2
        go_wp2_with fail
        refine (from_any a len cap z X _ L3 (by omega)).mono ?_
        rintro e w4 ⟨a4, d4, rfl, q4, b4⟩
        have p4 := p3.below b4 (Nat.le_refl _)
        have bb4 : Below g w' w4 := bb3.trans (b4.mono gl3)
        rw [HG.out] at bb4
        clear L3 bb3 b4 p3 gl3
        by_cases hX0 : X < 0
        · have f1 := from_neg len X (by omega)
          have f2 : there len X m = false := there_not (by omega)
          have d1 : decide ((0 : Int) ≤ X) = false := decide_eq_false (by omega)
          rw [f1, f2]
          go_wp2_with fail
          go_quiet (fail)
          go_wp2
          go_ret
          exact ⟨rfl, below_drewN bb4 _⟩
        · by_cases hXl : (len : Int) < X
          · have f1 := from_far len X (by omega)
            have f2 : there len X m = false := there_not (by omega)
            have d1 : decide ((0 : Int) ≤ X) = true := decide_eq_true (by omega)
            have d2 : decide (X ≤ (len : Int)) = false := decide_eq_false (by omega)
            rw [f1, f2]
            go_wp2_with fail
            go_quiet (fail)
            go_wp2
            go_ret
            exact ⟨rfl, below_drewN bb4 _⟩
          · have f1 := from_in len X (by omega) (by omega)
            have f3 := flen_in len X (by omega) (by omega)
            have d1 : decide ((0 : Int) ≤ X) = true := decide_eq_true (by omega)
            have d2 : decide (X ≤ (len : Int)) = true := decide_eq_true (by omega)
            rw [f3] at q4
            obtain ⟨F, hF⟩ : ∃ F, F = len - X.toNat := ⟨_, rfl⟩
            rw [← hF] at q4 f3
            by_cases hmF : m ≤ F
            · have f2 : there len X m = true := there_iff.2 (by omega)
              have f4 := plen_in len X m f2
              have d3 : decide ((m : Int) ≤ (F : Int)) = true := decide_eq_true (by omega)
              rw [f1, f2, f3, f4]
              rw [f4] at p4
              have q5 : Lies w4 a4 m d4 (fun i => z (X.toNat + i)) := q4.front m hmF
              have m0 : (0 : Int) ≤ (m : Int) := by omega
              have md : (m : Int) ≤ (d4 : Int) := by have := q5.lc; omega
              by_cases hm0 : m = 0
              · have hp : ∀ (s : Option Addr) (c : Nat) (W : World), (convert 22 9 (.slice s m c)).run Try.prog W = .ok (.string (bstr (fun i => z (X.toNat + i)) m)) W := fun s c W => conv_string ⟨by omega, by omega, fun i => hz _, fun h => by omega⟩
                clear p4 q4 q5 hF f1 f2 f3 f4 hz hm0
                go_wp2_with fail
                go_quiet (fail)
                go_wp2
                go_ret
                exact ⟨rfl, below_drewN bb4 _⟩
              · have hd4 : ¬ d4 = 0 := by omega
                have hp := fun k => conv_string (p4.below (below_drewN (Below.refl _ w4) k) (Nat.le_refl _))
                have hq := fun k => conv_string (q5.below (below_drewN (Below.refl _ w4) k) (Nat.le_refl _))
                obtain ⟨b, off, rfl, _, _⟩ := q5.spot (by omega)
                clear p4 q4 q5 hF f1 f2 f3 f4 hz hm0
                go_wp2_with fail
                go_quiet (fail)
                go_wp2
                go_ret
                exact ⟨rfl, below_drewN bb4 _⟩
            · have f2 : there len X m = false := there_not (by omega)
              have d3 : decide ((m : Int) ≤ (F : Int)) = false := decide_eq_false (by omega)
              rw [f1, f2, f3]
              clear p4 q4 hF f1 f2 f3 hz
              go_wp2_with fail
              go_quiet (fail)
              go_wp2
              go_ret
              exact ⟨rfl, below_drewN bb4 _⟩
      · have tp : there len X 2 = false := by
          cases h : there len X 2 with
          | false => rfl
          | true => exact absurd ((there2_cnt len X).1 h) (by omega)
        have tq : there len X 4 = false := by
          cases h : there len X 4 with
          | false => rfl
          | true => exact absurd ((there4_cnt len X).1 h) (by omega)
        rw [hv] at hc
        subst hc
        clear hv hcl
        go_wp2_with fail
        refine (u16_any a len cap z _ _ LR (by omega)).mono ?_
        rintro e w'' ⟨rfl, rfl⟩
        rw [tp]
        go_wp2_with fail
        refine (u32_any a len cap z _ _ LR (by omega)).mono ?_
        rintro e w'' ⟨rfl, rfl⟩
        rw [tq]
        go_wp2_with fail
        refine (i16_any a len cap z _ _ LR (by omega)).mono ?_
        rintro e w'' ⟨rfl, rfl⟩
        rw [tp]
        go_wp2_with fail
        refine (known_any _).mono ?_
        rintro e w2 ⟨rfl, b2⟩
        have k2 : w2.heap[g]? = some (.cells (lrow z len X 4) 32) := by rw [b2.block g (blk_lt kk)]; exact kk
        have bb2 : Below g w' w2 := bb.trans (b2.mono (by have := blk_lt kk; omega))
        have L2 : Lies w2 a len cap z := LL.below bb2 g1
        have gl2 : g ≤ w2.heap.size := Nat.le_of_lt (blk_lt k2)
        have c0 := lcell k2 0 (by omega)
        clear k2 b2 kk bb LR LL
        simp only [List.append_eq, List.cons_append, List.nil_append] at *
        go_wp2_with fail
        clear c0
        refine (part_any a len cap z X m _ L2 (by omega)).mono ?_
        rintro e w3 ⟨a3, d3, rfl, p3, b3⟩
        have L3 := L2.below b3 (Nat.le_refl _)
        have bb3 : Below g w' w3 := bb2.trans (b3.mono gl2)
        have gl3 : g ≤ w3.heap.size := Nat.le_trans gl2 b3.size
        clear L2 bb2 b3 gl2
        go_wp2_with fail
        refine (from_any a len cap z X _ L3 (by omega)).mono ?_
        rintro e w4 ⟨a4, d4, rfl, q4, b4⟩
        have p4 := p3.below b4 (Nat.le_refl _)
        have bb4 : Below g w' w4 := bb3.trans (b4.mono gl3)
        rw [HG.out] at bb4
        clear L3 bb3 b4 p3 gl3
        by_cases hX0 : X < 0
        · have f1 := from_neg len X (by omega)
          have f2 : there len X m = false := there_not (by omega)
          have d1 : decide ((0 : Int) ≤ X) = false := decide_eq_false (by omega)
          rw [f1, f2]
          go_wp2_with fail
          go_quiet (fail)
          go_wp2
          go_ret
          exact ⟨rfl, below_drewN bb4 _⟩
        · by_cases hXl : (len : Int) < X
          · have f1 := from_far len X (by omega)
            have f2 : there len X m = false := there_not (by omega)
            have d1 : decide ((0 : Int) ≤ X) = true := decide_eq_true (by omega)
            have d2 : decide (X ≤ (len : Int)) = false := decide_eq_false (by omega)
            rw [f1, f2]
            go_wp2_with fail
            go_quiet (fail)
            go_wp2
            go_ret
            exact ⟨rfl, below_drewN bb4 _⟩
          · have f1 := from_in len X (by omega) (by omega)
            have f3 := flen_in len X (by omega) (by omega)
            have d1 : decide ((0 : Int) ≤ X) = true := decide_eq_true (by omega)
            have d2 : decide (X ≤ (len : Int)) = true := decide_eq_true (by omega)
            rw [f3] at q4
            obtain ⟨F, hF⟩ : ∃ F, F = len - X.toNat := ⟨_, rfl⟩
            rw [← hF] at q4 f3
            by_cases hmF : m ≤ F
            · have f2 : there len X m = true := there_iff.2 (by omega)
              have f4 := plen_in len X m f2
              have d3 : decide ((m : Int) ≤ (F : Int)) = true := decide_eq_true (by omega)
              rw [f1, f2, f3, f4]
              rw [f4] at p4
              have q5 : Lies w4 a4 m d4 (fun i => z (X.toNat + i)) := q4.front m hmF
              have m0 : (0 : Int) ≤ (m : Int) := by omega
              have md : (m : Int) ≤ (d4 : Int) := by have := q5.lc; omega
              by_cases hm0 : m = 0
              · have hp : ∀ (s : Option Addr) (c : Nat) (W : World), (convert 22 9 (.slice s m c)).run Try.prog W = .ok (.string (bstr (fun i => z (X.toNat + i)) m)) W := fun s c W => conv_string ⟨by omega, by omega, fun i => hz _, fun h => by omega⟩
                clear p4 q4 q5 hF f1 f2 f3 f4 hz hm0
                go_wp2_with fail
                go_quiet (fail)
                go_wp2
                go_ret
                exact ⟨rfl, below_drewN bb4 _⟩
              · have hd4 : ¬ d4 = 0 := by omega
                have hp := fun k => conv_string (p4.below (below_drewN (Below.refl _ w4) k) (Nat.le_refl _))
                have hq := fun k => conv_string (q5.below (below_drewN (Below.refl _ w4) k) (Nat.le_refl _))
                obtain ⟨b, off, rfl, _, _⟩ := q5.spot (by omega)
                clear p4 q4 q5 hF f1 f2 f3 f4 hz hm0
                go_wp2_with fail
                go_quiet (fail)
                go_wp2
                go_ret
                exact ⟨rfl, below_drewN bb4 _⟩
            · have f2 : there len X m = false := there_not (by omega)
              have d3 : decide ((m : Int) ≤ (F : Int)) = false := decide_eq_false (by omega)
              rw [f1, f2, f3]
              clear p4 q4 hF f1 f2 f3 hz
              go_wp2_with fail
              go_quiet (fail)
              go_wp2
              go_ret
              exact ⟨rfl, below_drewN bb4 _⟩
      · have tp : there len X 2 = true := (there2_cnt len X).2 (by omega)
        have tq : there len X 4 = false := by
          cases h : there len X 4 with
          | false => rfl
          | true => exact absurd ((there4_cnt len X).1 h) (by omega)
        have t0 := there_iff.1 tp
        have v0 := lv_in z len X 0 (by omega)
        have v1 := lv_in z len X 1 (by omega)
        have ea := tell2 z len X tp
        have n0 := hz (X.toNat + 0)
        have n1 := hz (X.toNat + 1)
        have n2 := hz (X.toNat + 2)
        have n3 := hz (X.toNat + 3)
        have eh := sgn2_hi z len X tp
        have el := sgn2_lo z len X tp
        obtain ⟨y0, hy0⟩ : ∃ y, y = z (X.toNat + 0) := ⟨_, rfl⟩
        obtain ⟨y1, hy1⟩ : ∃ y, y = z (X.toNat + 1) := ⟨_, rfl⟩
        obtain ⟨y2, hy2⟩ : ∃ y, y = z (X.toNat + 2) := ⟨_, rfl⟩
        obtain ⟨y3, hy3⟩ : ∃ y, y = z (X.toNat + 3) := ⟨_, rfl⟩
        rw [← hy0] at n0 v0 eh el
        rw [← hy1] at n1 v1 eh el
        rw [← hy0, ← hy1] at ea
        rw [← hy2] at n2
        rw [← hy3] at n3
        rw [hv] at hc
        subst hc
        clear hv hcl hy0 hy1 hy2 hy3
        by_cases h8 : 128 ≤ y0
        · have ed := eh h8
          have r1 : decide ((y0 : Int) * 256 + (y1 : Int) - 65536 < 0) = true := decide_eq_true (by omega)
          have r2 : decide ((128 : Int) ≤ (y0 : Int)) = true := decide_eq_true (by omega)
          have r3 : ((y0 : Int) * 256 + (y1 : Int) - 65536 != (y0 : Int) * 256 + (y1 : Int)) = true := by simp; omega
          clear eh el
          go_wp2_with fail
          refine (u16_any a len cap z _ _ LR (by omega)).mono ?_
          rintro e w'' ⟨rfl, rfl⟩
          rw [tp, ea]
          go_wp2_with fail
          refine (u32_any a len cap z _ _ LR (by omega)).mono ?_
          rintro e w'' ⟨rfl, rfl⟩
          rw [tq]
          go_wp2_with fail
          refine (i16_any a len cap z _ _ LR (by omega)).mono ?_
          rintro e w'' ⟨rfl, rfl⟩
          rw [tp, ed]
          go_wp2_with fail
          refine (known_any _).mono ?_
          rintro e w2 ⟨rfl, b2⟩
          have k2 : w2.heap[g]? = some (.cells (lrow z len X 4) 32) := by rw [b2.block g (blk_lt kk)]; exact kk
          have bb2 : Below g w' w2 := bb.trans (b2.mono (by have := blk_lt kk; omega))
          have L2 : Lies w2 a len cap z := LL.below bb2 g1
          have gl2 : g ≤ w2.heap.size := Nat.le_of_lt (blk_lt k2)
          have c0 := lcell k2 0 (by omega)
          have c1 := lcell k2 1 (by omega)
          rw [v0] at c0
          rw [v1] at c1
          clear k2 b2 kk bb LR LL
          simp only [List.append_eq, List.cons_append, List.nil_append] at *
          go_wp2_with fail
          clear c0 c1 r1 r2
          refine (part_any a len cap z X m _ L2 (by omega)).mono ?_
          rintro e w3 ⟨a3, d3, rfl, p3, b3⟩
          have L3 := L2.below b3 (Nat.le_refl _)
          have bb3 : Below g w' w3 := bb2.trans (b3.mono gl2)
          have gl3 : g ≤ w3.heap.size := Nat.le_trans gl2 b3.size
          clear L2 bb2 b3 gl2
          go_wp2_with fail
          refine (from_any a len cap z X _ L3 (by omega)).mono ?_
          rintro e w4 ⟨a4, d4, rfl, q4, b4⟩
          have p4 := p3.below b4 (Nat.le_refl _)
          have bb4 : Below g w' w4 := bb3.trans (b4.mono gl3)
          rw [HG.out] at bb4
          clear L3 bb3 b4 p3 gl3
          have f1 := from_in len X (by omega) (by omega)
          have f3 := flen_in len X (by omega) (by omega)
          have d1 : decide ((0 : Int) ≤ X) = true := decide_eq_true (by omega)
          have d2 : decide (X ≤ (len : Int)) = true := decide_eq_true (by omega)
          rw [f3] at q4
          obtain ⟨F, hF⟩ : ∃ F, F = len - X.toNat := ⟨_, rfl⟩
          rw [← hF] at q4 f3
          by_cases hmF : m ≤ F
          · have f2 : there len X m = true := there_iff.2 (by omega)
            have f4 := plen_in len X m f2
            have d3 : decide ((m : Int) ≤ (F : Int)) = true := decide_eq_true (by omega)
            rw [f1, f2, f3, f4]
            rw [f4] at p4
            have q5 : Lies w4 a4 m d4 (fun i => z (X.toNat + i)) := q4.front m hmF
            have m0 : (0 : Int) ≤ (m : Int) := by omega
            have md : (m : Int) ≤ (d4 : Int) := by have := q5.lc; omega
            by_cases hm0 : m = 0
            · have hp : ∀ (s : Option Addr) (c : Nat) (W : World), (convert 22 9 (.slice s m c)).run Try.prog W = .ok (.string (bstr (fun i => z (X.toNat + i)) m)) W := fun s c W => conv_string ⟨by omega, by omega, fun i => hz _, fun h => by omega⟩
              clear p4 q4 q5 hF f1 f2 f3 f4 hz hm0
              go_wp2_with fail
              go_quiet (fail)
              go_wp2
              go_ret
              exact ⟨rfl, below_drewN bb4 _⟩
            · have hd4 : ¬ d4 = 0 := by omega
              have hp := fun k => conv_string (p4.below (below_drewN (Below.refl _ w4) k) (Nat.le_refl _))
              have hq := fun k => conv_string (q5.below (below_drewN (Below.refl _ w4) k) (Nat.le_refl _))
              obtain ⟨b, off, rfl, _, _⟩ := q5.spot (by omega)
              clear p4 q4 q5 hF f1 f2 f3 f4 hz hm0
              go_wp2_with fail
              go_quiet (fail)
              go_wp2
              go_ret
              exact ⟨rfl, below_drewN bb4 _⟩
          · have f2 : there len X m = false := there_not (by omega)
            have d3 : decide ((m : Int) ≤ (F : Int)) = false := decide_eq_false (by omega)
            rw [f1, f2, f3]
            clear p4 q4 hF f1 f2 f3 hz
            go_wp2_with fail
            go_quiet (fail)
            go_wp2
            go_ret
            exact ⟨rfl, below_drewN bb4 _⟩
        · have ed := el h8
          have r1 : decide ((y0 : Int) * 256 + (y1 : Int) < 0) = false := decide_eq_false (by omega)
          have r2 : decide ((128 : Int) ≤ (y0 : Int)) = false := decide_eq_false (by omega)
          clear eh el
          go_wp2_with fail
          refine (u16_any a len cap z _ _ LR (by omega)).mono ?_
          rintro e w'' ⟨rfl, rfl⟩
          rw [tp, ea]
          go_wp2_with fail
          refine (u32_any a len cap z _ _ LR (by omega)).mono ?_
          rintro e w'' ⟨rfl, rfl⟩
          rw [tq]
          go_wp2_with fail
          refine (i16_any a len cap z _ _ LR (by omega)).mono ?_
          rintro e w'' ⟨rfl, rfl⟩
          rw [tp, ed]
          go_wp2_with fail
          refine (known_any _).mono ?_
          rintro e w2 ⟨rfl, b2⟩
          have k2 : w2.heap[g]? = some (.cells (lrow z len X 4) 32) := by rw [b2.block g (blk_lt kk)]; exact kk
          have bb2 : Below g w' w2 := bb.trans (b2.mono (by have := blk_lt kk; omega))
          have L2 : Lies w2 a len cap z := LL.below bb2 g1
          have gl2 : g ≤ w2.heap.size := Nat.le_of_lt (blk_lt k2)
          have c0 := lcell k2 0 (by omega)
          have c1 := lcell k2 1 (by omega)
          rw [v0] at c0
          rw [v1] at c1
          clear k2 b2 kk bb LR LL
          simp only [List.append_eq, List.cons_append, List.nil_append] at *
          go_wp2_with fail
          clear c0 c1 r1 r2
          refine (part_any a len cap z X m _ L2 (by omega)).mono ?_
          rintro e w3 ⟨a3, d3, rfl, p3, b3⟩
          have L3 := L2.below b3 (Nat.le_refl _)
          have bb3 : Below g w' w3 := bb2.trans (b3.mono gl2)
          have gl3 : g ≤ w3.heap.size := Nat.le_trans gl2 b3.size
          clear L2 bb2 b3 gl2
          go_wp2_with fail
          refine (from_any a len cap z X _ L3 (by omega)).mono ?_
          rintro e w4 ⟨a4, d4, rfl, q4, b4⟩
          have p4 := p3.below b4 (Nat.le_refl _)
          have bb4 : Below g w' w4 := bb3.trans (b4.mono gl3)
          rw [HG.out] at bb4
          clear L3 bb3 b4 p3 gl3
          have f1 := from_in len X (by omega) (by omega)
          have f3 := flen_in len X (by omega) (by omega)
          have d1 : decide ((0 : Int) ≤ X) = true := decide_eq_true (by omega)
          have d2 : decide (X ≤ (len : Int)) = true := decide_eq_true (by omega)
          rw [f3] at q4
          obtain ⟨F, hF⟩ : ∃ F, F = len - X.toNat := ⟨_, rfl⟩
          rw [← hF] at q4 f3
          by_cases hmF : m ≤ F
          · have f2 : there len X m = true := there_iff.2 (by omega)
            have f4 := plen_in len X m f2
            have d3 : decide ((m : Int) ≤ (F : Int)) = true := decide_eq_true (by omega)
            rw [f1, f2, f3, f4]
            rw [f4] at p4
            have q5 : Lies w4 a4 m d4 (fun i => z (X.toNat + i)) := q4.front m hmF
            have m0 : (0 : Int) ≤ (m : Int) := by omega
            have md : (m : Int) ≤ (d4 : Int) := by have := q5.lc; omega
            by_cases hm0 : m = 0
            · have hp : ∀ (s : Option Addr) (c : Nat) (W : World), (convert 22 9 (.slice s m c)).run Try.prog W = .ok (.string (bstr (fun i => z (X.toNat + i)) m)) W := fun s c W => conv_string ⟨by omega, by omega, fun i => hz _, fun h => by omega⟩
              clear p4 q4 q5 hF f1 f2 f3 f4 hz hm0
              go_wp2_with fail
              go_quiet (fail)
              go_wp2
              go_ret
              exact ⟨rfl, below_drewN bb4 _⟩
            · have hd4 : ¬ d4 = 0 := by omega
              have hp := fun k => conv_string (p4.below (below_drewN (Below.refl _ w4) k) (Nat.le_refl _))
              have hq := fun k => conv_string (q5.below (below_drewN (Below.refl _ w4) k) (Nat.le_refl _))
              obtain ⟨b, off, rfl, _, _⟩ := q5.spot (by omega)
              clear p4 q4 q5 hF f1 f2 f3 f4 hz hm0
              go_wp2_with fail
              go_quiet (fail)
              go_wp2
              go_ret
              exact ⟨rfl, below_drewN bb4 _⟩
          · have f2 : there len X m = false := there_not (by omega)
            have d3 : decide ((m : Int) ≤ (F : Int)) = false := decide_eq_false (by omega)
            rw [f1, f2, f3]
            clear p4 q4 hF f1 f2 f3 hz
            go_wp2_with fail
            go_quiet (fail)
            go_wp2
            go_ret
            exact ⟨rfl, below_drewN bb4 _⟩
      · have tp : there len X 2 = true := (there2_cnt len X).2 (by omega)
        have tq : there len X 4 = false := by
          cases h : there len X 4 with
          | false => rfl
          | true => exact absurd ((there4_cnt len X).1 h) (by omega)
        have t0 := there_iff.1 tp
        have v0 := lv_in z len X 0 (by omega)
        have v1 := lv_in z len X 1 (by omega)
        have ea := tell2 z len X tp
        have n0 := hz (X.toNat + 0)
        have n1 := hz (X.toNat + 1)
        have n2 := hz (X.toNat + 2)
        have n3 := hz (X.toNat + 3)
        have eh := sgn2_hi z len X tp
        have el := sgn2_lo z len X tp
        obtain ⟨y0, hy0⟩ : ∃ y, y = z (X.toNat + 0) := ⟨_, rfl⟩
        obtain ⟨y1, hy1⟩ : ∃ y, y = z (X.toNat + 1) := ⟨_, rfl⟩
        obtain ⟨y2, hy2⟩ : ∃ y, y = z (X.toNat + 2) := ⟨_, rfl⟩
        obtain ⟨y3, hy3⟩ : ∃ y, y = z (X.toNat + 3) := ⟨_, rfl⟩
        rw [← hy0] at n0 v0 eh el
        rw [← hy1] at n1 v1 eh el
        rw [← hy0, ← hy1] at ea
        rw [← hy2] at n2
        rw [← hy3] at n3
        rw [hv] at hc
        subst hc
        clear hv hcl hy0 hy1 hy2 hy3
        by_cases h8 : 128 ≤ y0
        · have ed := eh h8
          have r1 : decide ((y0 : Int) * 256 + (y1 : Int) - 65536 < 0) = true := decide_eq_true (by omega)
          have r2 : decide ((128 : Int) ≤ (y0 : Int)) = true := decide_eq_true (by omega)
          have r3 : ((y0 : Int) * 256 + (y1 : Int) - 65536 != (y0 : Int) * 256 + (y1 : Int)) = true := by simp; omega
          clear eh el
          go_wp2_with fail
          refine (u16_any a len cap z _ _ LR (by omega)).mono ?_
          rintro e w'' ⟨rfl, rfl⟩
          rw [tp, ea]
          go_wp2_with fail
          refine (u32_any a len cap z _ _ LR (by omega)).mono ?_
          rintro e w'' ⟨rfl, rfl⟩
          rw [tq]
          go_wp2_with fail
          refine (i16_any a len cap z _ _ LR (by omega)).mono ?_
          rintro e w'' ⟨rfl, rfl⟩
          rw [tp, ed]
          go_wp2_with fail
          refine (known_any _).mono ?_
          rintro e w2 ⟨rfl, b2⟩
          have k2 : w2.heap[g]? = some (.cells (lrow z len X 4) 32) := by rw [b2.block g (blk_lt kk)]; exact kk
          have bb2 : Below g w' w2 := bb.trans (b2.mono (by have := blk_lt kk; omega))
          have L2 : Lies w2 a len cap z := LL.below bb2 g1
          have gl2 : g ≤ w2.heap.size := Nat.le_of_lt (blk_lt k2)
          have c0 := lcell k2 0 (by omega)
          have c1 := lcell k2 1 (by omega)
          rw [v0] at c0
          rw [v1] at c1
          clear k2 b2 kk bb LR LL
          simp only [List.append_eq, List.cons_append, List.nil_append] at *
          go_wp2_with fail
          clear c0 c1 r1 r2
          refine (part_any a len cap z X m _ L2 (by omega)).mono ?_
          rintro e w3 ⟨a3, d3, rfl, p3, b3⟩
          have L3 := L2.below b3 (Nat.le_refl _)
          have bb3 : Below g w' w3 := bb2.trans (b3.mono gl2)
          have gl3 : g ≤ w3.heap.size := Nat.le_trans gl2 b3.size
          clear L2 bb2 b3 gl2
          go_wp2_with fail
          refine (from_any a len cap z X _ L3 (by omega)).mono ?_
          rintro e w4 ⟨a4, d4, rfl, q4, b4⟩
          have p4 := p3.below b4 (Nat.le_refl _)
          have bb4 : Below g w' w4 := bb3.trans (b4.mono gl3)
          rw [HG.out] at bb4
          clear L3 bb3 b4 p3 gl3
          have f1 := from_in len X (by omega) (by omega)
          have f3 := flen_in len X (by omega) (by omega)
          have d1 : decide ((0 : Int) ≤ X) = true := decide_eq_true (by omega)
          have d2 : decide (X ≤ (len : Int)) = true := decide_eq_true (by omega)
          rw [f3] at q4
          obtain ⟨F, hF⟩ : ∃ F, F = len - X.toNat := ⟨_, rfl⟩
          rw [← hF] at q4 f3
          by_cases hmF : m ≤ F
          · have f2 : there len X m = true := there_iff.2 (by omega)
            have f4 := plen_in len X m f2
            have d3 : decide ((m : Int) ≤ (F : Int)) = true := decide_eq_true (by omega)
            rw [f1, f2, f3, f4]
            rw [f4] at p4
            have q5 : Lies w4 a4 m d4 (fun i => z (X.toNat + i)) := q4.front m hmF
            have m0 : (0 : Int) ≤ (m : Int) := by omega
            have md : (m : Int) ≤ (d4 : Int) := by have := q5.lc; omega
            by_cases hm0 : m = 0
            · have hp : ∀ (s : Option Addr) (c : Nat) (W : World), (convert 22 9 (.slice s m c)).run Try.prog W = .ok (.string (bstr (fun i => z (X.toNat + i)) m)) W := fun s c W => conv_string ⟨by omega, by omega, fun i => hz _, fun h => by omega⟩
              clear p4 q4 q5 hF f1 f2 f3 f4 hz hm0
              go_wp2_with fail
              go_quiet (fail)
              go_wp2
              go_ret
              exact ⟨rfl, below_drewN bb4 _⟩
            · have hd4 : ¬ d4 = 0 := by omega
              have hp := fun k => conv_string (p4.below (below_drewN (Below.refl _ w4) k) (Nat.le_refl _))
              have hq := fun k => conv_string (q5.below (below_drewN (Below.refl _ w4) k) (Nat.le_refl _))
              obtain ⟨b, off, rfl, _, _⟩ := q5.spot (by omega)
              clear p4 q4 q5 hF f1 f2 f3 f4 hz hm0
              go_wp2_with fail
              go_quiet (fail)
              go_wp2
              go_ret
              exact ⟨rfl, below_drewN bb4 _⟩
          · have f2 : there len X m = false := there_not (by omega)
            have d3 : decide ((m : Int) ≤ (F : Int)) = false := decide_eq_false (by omega)
            rw [f1, f2, f3]
            clear p4 q4 hF f1 f2 f3 hz
            go_wp2_with fail
            go_quiet (fail)
            go_wp2
            go_ret
            exact ⟨rfl, below_drewN bb4 _⟩
        · have ed := el h8
          have r1 : decide ((y0 : Int) * 256 + (y1 : Int) < 0) = false := decide_eq_false (by omega)
          have r2 : decide ((128 : Int) ≤ (y0 : Int)) = false := decide_eq_false (by omega)
          clear eh el
          go_wp2_with fail
          refine (u16_any a len cap z _ _ LR (by omega)).mono ?_
          rintro e w'' ⟨rfl, rfl⟩
          rw [tp, ea]
          go_wp2_with fail
          refine (u32_any a len cap z _ _ LR (by omega)).mono ?_
          rintro e w'' ⟨rfl, rfl⟩
          rw [tq]
          go_wp2_with fail
          refine (i16_any a len cap z _ _ LR (by omega)).mono ?_
          rintro e w'' ⟨rfl, rfl⟩
          rw [tp, ed]
          go_wp2_with fail
          refine (known_any _).mono ?_
          rintro e w2 ⟨rfl, b2⟩
          have k2 : w2.heap[g]? = some (.cells (lrow z len X 4) 32) := by rw [b2.block g (blk_lt kk)]; exact kk
          have bb2 : Below g w' w2 := bb.trans (b2.mono (by have := blk_lt kk; omega))
          have L2 : Lies w2 a len cap z := LL.below bb2 g1
          have gl2 : g ≤ w2.heap.size := Nat.le_of_lt (blk_lt k2)
          have c0 := lcell k2 0 (by omega)
          have c1 := lcell k2 1 (by omega)
          rw [v0] at c0
          rw [v1] at c1
          clear k2 b2 kk bb LR LL
          simp only [List.append_eq, List.cons_append, List.nil_append] at *
          go_wp2_with fail
          clear c0 c1 r1 r2
          refine (part_any a len cap z X m _ L2 (by omega)).mono ?_
          rintro e w3 ⟨a3, d3, rfl, p3, b3⟩
          have L3 := L2.below b3 (Nat.le_refl _)
          have bb3 : Below g w' w3 := bb2.trans (b3.mono gl2)
          have gl3 : g ≤ w3.heap.size := Nat.le_trans gl2 b3.size
          clear L2 bb2 b3 gl2
          go_wp2_with fail
          refine (from_any a len cap z X _ L3 (by omega)).mono ?_
          rintro e w4 ⟨a4, d4, rfl, q4, b4⟩
          have p4 := p3.below b4 (Nat.le_refl _)
          have bb4 : Below g w' w4 := bb3.trans (b4.mono gl3)
          rw [HG.out] at bb4
          clear L3 bb3 b4 p3 gl3
          have f1 := from_in len X (by omega) (by omega)
          have f3 := flen_in len X (by omega) (by omega)
          have d1 : decide ((0 : Int) ≤ X) = true := decide_eq_true (by omega)
          have d2 : decide (X ≤ (len : Int)) = true := decide_eq_true (by omega)
          rw [f3] at q4
          obtain ⟨F, hF⟩ : ∃ F, F = len - X.toNat := ⟨_, rfl⟩
          rw [← hF] at q4 f3
          by_cases hmF : m ≤ F
          · have f2 : there len X m = true := there_iff.2 (by omega)
            have f4 := plen_in len X m f2
            have d3 : decide ((m : Int) ≤ (F : Int)) = true := decide_eq_true (by omega)
            rw [f1, f2, f3, f4]
            rw [f4] at p4
            have q5 : Lies w4 a4 m d4 (fun i => z (X.toNat + i)) := q4.front m hmF
            have m0 : (0 : Int) ≤ (m : Int) := by omega
            have md : (m : Int) ≤ (d4 : Int) := by have := q5.lc; omega
            by_cases hm0 : m = 0
            · have hp : ∀ (s : Option Addr) (c : Nat) (W : World), (convert 22 9 (.slice s m c)).run Try.prog W = .ok (.string (bstr (fun i => z (X.toNat + i)) m)) W := fun s c W => conv_string ⟨by omega, by omega, fun i => hz _, fun h => by omega⟩
              clear p4 q4 q5 hF f1 f2 f3 f4 hz hm0
              go_wp2_with fail
              go_quiet (fail)
              go_wp2
              go_ret
              exact ⟨rfl, below_drewN bb4 _⟩
            · have hd4 : ¬ d4 = 0 := by omega
              have hp := fun k => conv_string (p4.below (below_drewN (Below.refl _ w4) k) (Nat.le_refl _))
              have hq := fun k => conv_string (q5.below (below_drewN (Below.refl _ w4) k) (Nat.le_refl _))
              obtain ⟨b, off, rfl, _, _⟩ := q5.spot (by omega)
              clear p4 q4 q5 hF f1 f2 f3 f4 hz hm0
              go_wp2_with fail
              go_quiet (fail)
              go_wp2
              go_ret
              exact ⟨rfl, below_drewN bb4 _⟩
          · have f2 : there len X m = false := there_not (by omega)
            have d3 : decide ((m : Int) ≤ (F : Int)) = false := decide_eq_false (by omega)
            rw [f1, f2, f3]
            clear p4 q4 hF f1 f2 f3 hz
            go_wp2_with fail
            go_quiet (fail)
            go_wp2
            go_ret
            exact ⟨rfl, below_drewN bb4 _⟩
      · have tp : there len X 2 = true := (there2_cnt len X).2 (by omega)
        have tq : there len X 4 = true := (there4_cnt len X).2 (by omega)
        have t0 := there_iff.1 tp
        have v0 := lv_in z len X 0 (by omega)
        have v1 := lv_in z len X 1 (by omega)
        have v2 := lv_in z len X 2 (by omega)
        have v3 := lv_in z len X 3 (by omega)
        have ec := tell4 z len X tq
        have ea := tell2 z len X tp
        have n0 := hz (X.toNat + 0)
        have n1 := hz (X.toNat + 1)
        have n2 := hz (X.toNat + 2)
        have n3 := hz (X.toNat + 3)
        have eh := sgn2_hi z len X tp
        have el := sgn2_lo z len X tp
        obtain ⟨y0, hy0⟩ : ∃ y, y = z (X.toNat + 0) := ⟨_, rfl⟩
        obtain ⟨y1, hy1⟩ : ∃ y, y = z (X.toNat + 1) := ⟨_, rfl⟩
        obtain ⟨y2, hy2⟩ : ∃ y, y = z (X.toNat + 2) := ⟨_, rfl⟩
        obtain ⟨y3, hy3⟩ : ∃ y, y = z (X.toNat + 3) := ⟨_, rfl⟩
        rw [← hy0] at n0 v0 eh el
        rw [← hy1] at n1 v1 eh el
        rw [← hy0, ← hy1] at ea
        rw [← hy2] at n2
        rw [← hy3] at n3
        rw [← hy0, ← hy1, ← hy2, ← hy3] at ec
        rw [← hy2] at v2
        rw [← hy3] at v3
        rw [hv] at hc
        subst hc
        clear hv hcl hy0 hy1 hy2 hy3
        by_cases h8 : 128 ≤ y0
        · have ed := eh h8
          have r1 : decide ((y0 : Int) * 256 + (y1 : Int) - 65536 < 0) = true := decide_eq_true (by omega)
          have r2 : decide ((128 : Int) ≤ (y0 : Int)) = true := decide_eq_true (by omega)
          have r3 : ((y0 : Int) * 256 + (y1 : Int) - 65536 != (y0 : Int) * 256 + (y1 : Int)) = true := by simp; omega
          clear eh el
          go_wp2_with fail
          refine (u16_any a len cap z _ _ LR (by omega)).mono ?_
          rintro e w'' ⟨rfl, rfl⟩
          rw [tp, ea]
          go_wp2_with fail
          refine (u32_any a len cap z _ _ LR (by omega)).mono ?_
          rintro e w'' ⟨rfl, rfl⟩
          rw [tq, ec]
          go_wp2_with fail
          refine (i16_any a len cap z _ _ LR (by omega)).mono ?_
          rintro e w'' ⟨rfl, rfl⟩
          rw [tp, ed]
          go_wp2_with fail
          refine (known_any _).mono ?_
          rintro e w2 ⟨rfl, b2⟩
          have k2 : w2.heap[g]? = some (.cells (lrow z len X 4) 32) := by rw [b2.block g (blk_lt kk)]; exact kk
          have bb2 : Below g w' w2 := bb.trans (b2.mono (by have := blk_lt kk; omega))
          have L2 : Lies w2 a len cap z := LL.below bb2 g1
          have gl2 : g ≤ w2.heap.size := Nat.le_of_lt (blk_lt k2)
          have c0 := lcell k2 0 (by omega)
          have c1 := lcell k2 1 (by omega)
          rw [v0] at c0
          rw [v1] at c1
          have c2 := lcell k2 2 (by omega)
          have c3 := lcell k2 3 (by omega)
          rw [v2] at c2
          rw [v3] at c3
          clear k2 b2 kk bb LR LL
          simp only [List.append_eq, List.cons_append, List.nil_append] at *
          go_wp2_with fail
          clear c0 c1 r1 r2
          refine (part_any a len cap z X m _ L2 (by omega)).mono ?_
          rintro e w3 ⟨a3, d3, rfl, p3, b3⟩
          have L3 := L2.below b3 (Nat.le_refl _)
          have bb3 : Below g w' w3 := bb2.trans (b3.mono gl2)
          have gl3 : g ≤ w3.heap.size := Nat.le_trans gl2 b3.size
          clear L2 bb2 b3 gl2
          go_wp2_with fail
          refine (from_any a len cap z X _ L3 (by omega)).mono ?_
          rintro e w4 ⟨a4, d4, rfl, q4, b4⟩
          have p4 := p3.below b4 (Nat.le_refl _)
          have bb4 : Below g w' w4 := bb3.trans (b4.mono gl3)
          rw [HG.out] at bb4
          clear L3 bb3 b4 p3 gl3
          have f1 := from_in len X (by omega) (by omega)
          have f3 := flen_in len X (by omega) (by omega)
          have d1 : decide ((0 : Int) ≤ X) = true := decide_eq_true (by omega)
          have d2 : decide (X ≤ (len : Int)) = true := decide_eq_true (by omega)
          rw [f3] at q4
          obtain ⟨F, hF⟩ : ∃ F, F = len - X.toNat := ⟨_, rfl⟩
          rw [← hF] at q4 f3
          by_cases hmF : m ≤ F
          · have f2 : there len X m = true := there_iff.2 (by omega)
            have f4 := plen_in len X m f2
            have d3 : decide ((m : Int) ≤ (F : Int)) = true := decide_eq_true (by omega)
            rw [f1, f2, f3, f4]
            rw [f4] at p4
            have q5 : Lies w4 a4 m d4 (fun i => z (X.toNat + i)) := q4.front m hmF
            have m0 : (0 : Int) ≤ (m : Int) := by omega
            have md : (m : Int) ≤ (d4 : Int) := by have := q5.lc; omega
            by_cases hm0 : m = 0
            · have hp : ∀ (s : Option Addr) (c : Nat) (W : World), (convert 22 9 (.slice s m c)).run Try.prog W = .ok (.string (bstr (fun i => z (X.toNat + i)) m)) W := fun s c W => conv_string ⟨by omega, by omega, fun i => hz _, fun h => by omega⟩
              clear p4 q4 q5 hF f1 f2 f3 f4 hz hm0
              go_wp2_with fail
              go_quiet (fail)
              go_wp2
              go_ret
              exact ⟨rfl, below_drewN bb4 _⟩
            · have hd4 : ¬ d4 = 0 := by omega
              have hp := fun k => conv_string (p4.below (below_drewN (Below.refl _ w4) k) (Nat.le_refl _))
              have hq := fun k => conv_string (q5.below (below_drewN (Below.refl _ w4) k) (Nat.le_refl _))
              obtain ⟨b, off, rfl, _, _⟩ := q5.spot (by omega)
              clear p4 q4 q5 hF f1 f2 f3 f4 hz hm0
              go_wp2_with fail
              go_quiet (fail)
              go_wp2
              go_ret
              exact ⟨rfl, below_drewN bb4 _⟩
          · have f2 : there len X m = false := there_not (by omega)
            have d3 : decide ((m : Int) ≤ (F : Int)) = false := decide_eq_false (by omega)
            rw [f1, f2, f3]
            clear p4 q4 hF f1 f2 f3 hz
            go_wp2_with fail
            go_quiet (fail)
            go_wp2
            go_ret
            exact ⟨rfl, below_drewN bb4 _⟩
        · have ed := el h8
          have r1 : decide ((y0 : Int) * 256 + (y1 : Int) < 0) = false := decide_eq_false (by omega)
          have r2 : decide ((128 : Int) ≤ (y0 : Int)) = false := decide_eq_false (by omega)
          clear eh el
          go_wp2_with fail
          refine (u16_any a len cap z _ _ LR (by omega)).mono ?_
          rintro e w'' ⟨rfl, rfl⟩
          rw [tp, ea]
          go_wp2_with fail
          refine (u32_any a len cap z _ _ LR (by omega)).mono ?_
          rintro e w'' ⟨rfl, rfl⟩
          rw [tq, ec]
          go_wp2_with fail
          refine (i16_any a len cap z _ _ LR (by omega)).mono ?_
          rintro e w'' ⟨rfl, rfl⟩
          rw [tp, ed]
          go_wp2_with fail
          refine (known_any _).mono ?_
          rintro e w2 ⟨rfl, b2⟩
          have k2 : w2.heap[g]? = some (.cells (lrow z len X 4) 32) := by rw [b2.block g (blk_lt kk)]; exact kk
          have bb2 : Below g w' w2 := bb.trans (b2.mono (by have := blk_lt kk; omega))
          have L2 : Lies w2 a len cap z := LL.below bb2 g1
          have gl2 : g ≤ w2.heap.size := Nat.le_of_lt (blk_lt k2)
          have c0 := lcell k2 0 (by omega)
          have c1 := lcell k2 1 (by omega)
          rw [v0] at c0
          rw [v1] at c1
          have c2 := lcell k2 2 (by omega)
          have c3 := lcell k2 3 (by omega)
          rw [v2] at c2
          rw [v3] at c3
          clear k2 b2 kk bb LR LL
          simp only [List.append_eq, List.cons_append, List.nil_append] at *
          go_wp2_with fail
          clear c0 c1 r1 r2
          refine (part_any a len cap z X m _ L2 (by omega)).mono ?_
          rintro e w3 ⟨a3, d3, rfl, p3, b3⟩
          have L3 := L2.below b3 (Nat.le_refl _)
          have bb3 : Below g w' w3 := bb2.trans (b3.mono gl2)
          have gl3 : g ≤ w3.heap.size := Nat.le_trans gl2 b3.size
          clear L2 bb2 b3 gl2
          go_wp2_with fail
          refine (from_any a len cap z X _ L3 (by omega)).mono ?_
          rintro e w4 ⟨a4, d4, rfl, q4, b4⟩
          have p4 := p3.below b4 (Nat.le_refl _)
          have bb4 : Below g w' w4 := bb3.trans (b4.mono gl3)
          rw [HG.out] at bb4
          clear L3 bb3 b4 p3 gl3
          have f1 := from_in len X (by omega) (by omega)
          have f3 := flen_in len X (by omega) (by omega)
          have d1 : decide ((0 : Int) ≤ X) = true := decide_eq_true (by omega)
          have d2 : decide (X ≤ (len : Int)) = true := decide_eq_true (by omega)
          rw [f3] at q4
          obtain ⟨F, hF⟩ : ∃ F, F = len - X.toNat := ⟨_, rfl⟩
          rw [← hF] at q4 f3
          by_cases hmF : m ≤ F
          · have f2 : there len X m = true := there_iff.2 (by omega)
            have f4 := plen_in len X m f2
            have d3 : decide ((m : Int) ≤ (F : Int)) = true := decide_eq_true (by omega)
            rw [f1, f2, f3, f4]
            rw [f4] at p4
            have q5 : Lies w4 a4 m d4 (fun i => z (X.toNat + i)) := q4.front m hmF
            have m0 : (0 : Int) ≤ (m : Int) := by omega
            have md : (m : Int) ≤ (d4 : Int) := by have := q5.lc; omega
            by_cases hm0 : m = 0
            · have hp : ∀ (s : Option Addr) (c : Nat) (W : World), (convert 22 9 (.slice s m c)).run Try.prog W = .ok (.string (bstr (fun i => z (X.toNat + i)) m)) W := fun s c W => conv_string ⟨by omega, by omega, fun i => hz _, fun h => by omega⟩
              clear p4 q4 q5 hF f1 f2 f3 f4 hz hm0
              go_wp2_with fail
              go_quiet (fail)
              go_wp2
              go_ret
              exact ⟨rfl, below_drewN bb4 _⟩
            · have hd4 : ¬ d4 = 0 := by omega
              have hp := fun k => conv_string (p4.below (below_drewN (Below.refl _ w4) k) (Nat.le_refl _))
              have hq := fun k => conv_string (q5.below (below_drewN (Below.refl _ w4) k) (Nat.le_refl _))
              obtain ⟨b, off, rfl, _, _⟩ := q5.spot (by omega)
              clear p4 q4 q5 hF f1 f2 f3 f4 hz hm0
              go_wp2_with fail
              go_quiet (fail)
              go_wp2
              go_ret
              exact ⟨rfl, below_drewN bb4 _⟩
          · have f2 : there len X m = false := there_not (by omega)
            have d3 : decide ((m : Int) ≤ (F : Int)) = false := decide_eq_false (by omega)
            rw [f1, f2, f3]
            clear p4 q4 hF f1 f2 f3 hz
            go_wp2_with fail
            go_quiet (fail)
            go_wp2
            go_ret
            exact ⟨rfl, below_drewN bb4 _⟩
end Go.Proofs.Ytbkhdccbmkeodaa
