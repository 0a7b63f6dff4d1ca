/-
  MetricKnown's own walk.
-/
import Derived.Test.YtninhcnpjadjpaaWhy
namespace Go.Proofs.Ytninhcnpjadjpaa
open Go.RowKit

def tm (ga : Nat) (_ : Nat) : Tab := ⟨some ⟨ga, 0, none⟩, 2, 2, zl [1, 2]⟩
theorem laidm (w : World) {W : World} (hW : W = (w.alloc (.cells #[.int .u8 1, .int .u8 2] 5)).alloc (.cells #[.slice (some ⟨w.heap.size, 0, none⟩) 2 2] 29)) :
    Tabs W (some ⟨w.heap.size + 1, 0, none⟩) 1 1 (tm w.heap.size) ∧ Below w.heap.size w W := by
  subst hW
  have b1 := blk_new w (.cells #[.int .u8 1, .int .u8 2] 5)
  have b3 := blk_new (w.alloc (.cells #[.int .u8 1, .int .u8 2] 5)) (.cells #[.slice (some ⟨w.heap.size, 0, none⟩) 2 2] 29)
  have c1 := blk_alloc b1 (.cells #[.slice (some ⟨w.heap.size, 0, none⟩) 2 2] 29)
  simp only [World.size_alloc] at b3
  refine ⟨⟨Nat.le_refl _, by omega, fun _ => ⟨_, 0, rfl, blk_lt b3, fun i hi => ?_⟩, fun i hi => ?_⟩, ?_⟩
  · rw [blk_cell b3, Nat.zero_add]
    obtain rfl : i = 0 := by omega
    rfl
  · exact lies_lit (cs := [1, 2]) rfl (by simp) c1
  · exact ((Below.refl _ w).alloc (Nat.le_refl _) _).alloc (by simp) _
theorem glen_tm (a : Nat) : glen (tm a) 1 = 2 ∧ glen (tm a) 0 = 0 := by simp [glen, tm]
/-- Ranges of that font. -/
theorem tm_rng {z : Nat → Nat} {len a : Nat} (h : Pl z len 1000 1 true (tm a)) : rngO (look z lcT) (look z gfT) true 1 = (0, 0, 3) ∧ rngO (look z lcT) (look z gfT) false 1 = (0, 0, 0) := by
  have hg := glen_tm a
  have hl : locB (tm a) true 2 = [0, 0, 0, 0, 0, 0, 0, 2] := by
    show ([] ++ entL true (glen (tm a) 0)) ++ entL true (glen (tm a) 1) = _
    rw [hg.1, hg.2]
    rfl
  constructor
  · rw [h.l.rng h.g, if_neg (by decide)]
  · have e1 : entv (zb (locB (tm a) true (1 + 1))) false 1 = 0 := by
      show entv (zb (locB (tm a) true 2)) false 1 = 0
      rw [hl]; rfl
    have e2 : entv (zb (locB (tm a) true (1 + 1))) false (1 + 1) = 0 := by
      show entv (zb (locB (tm a) true 2)) false 2 = 0
      rw [hl]; rfl
    rw [h.l.rng h.g, if_pos (by decide), e1, e2, if_neg (by omega)]
/-- The closure's answers. -/
theorem rd_both {u : Nat} (hu : u < 65536) {o q : Option Tb} (ho : TbEq o 54 (zb (headL u true))) (hq : TbEq q 6 (zb (maxL 1))) : rdE o q = if u < 16 ∨ 16384 < u then 2 else 0 := by
  have e1 : hdE o = if u < 16 ∨ 16384 < u then 2 else 0 := by
    rw [ho.hd, if_neg (by omega), head_u, head_f, Nat.mod_eq_of_lt hu]
    by_cases e : u < 16 ∨ 16384 < u
    · rw [if_pos e, if_pos (by omega)]
    · rw [if_neg e, if_neg (by simp; omega)]
  have e2 : mxE q = 0 := by rw [hq.mx, if_neg (by omega), maxp_n]; rfl
  unfold rdE
  rw [e1, e2]
  split <;> rfl
theorem why_plain (u E : Nat) (hu : u < 65536) (hE : (if u < 16 ∨ 16384 < u then 2 else 0) = E) (w : World) :
    Calls Try.prog 8 #[.int .i64 (u : Nat), .slice none 0 0, .slice none 0 0] w fun e w' => e = .returned (.int .i64 (E : Nat)) ∧ Below w.heap.size w w' :=
  why_any u none 0 (fun _ => 0) none 0 (fun _ => 0) E w (Lies.none _ _ fun _ => by omega) (Lies.none _ _ fun _ => by omega) (.inl ⟨rfl, rfl⟩) (.inl ⟨rfl, rfl⟩) (by omega) (by omega)
    fun o q ho hq => by rw [if_pos rfl, if_pos rfl] at ho hq; rw [rd_both hu ho hq, hE]
/-- Zeros that were made. -/
theorem made_lies (w : World) (n : Nat) (hn : n ≤ 100) : Lies (w.alloc (.cells (arr n fun _ => .int .u8 0) 5)) (some ⟨w.heap.size, 0, none⟩) n n (fun _ => 0) := by
  have b := blk_new w (.cells (arr n fun _ => .int .u8 0) 5)
  refine ⟨Nat.le_refl _, Nat.le_trans hn (by omega), fun _ => by show (0 : Nat) < 256; omega, fun _ => ⟨_, 0, rfl, blk_lt b, fun i hi => ?_⟩⟩
  rw [Nat.zero_add, arr_cell b hi]
  rfl
theorem why_head (w : World) :
    Calls Try.prog 8 #[.int .i64 16, .slice (some ⟨w.heap.size, 0, none⟩) 53 53, .slice none 0 0] (w.alloc (.cells (arr 53 fun _ => .int .u8 0) 5)) fun e w' => e = .returned (.int .i64 3) ∧ Below w.heap.size w w' := by
  have b : Below w.heap.size w (w.alloc (.cells (arr 53 fun _ => .int .u8 0) 5)) := (Below.refl _ _).alloc (Nat.le_refl _) _
  refine (why_any 16 (some ⟨w.heap.size, 0, none⟩) 53 (fun _ => 0) none 0 (fun _ => 0) 3 _ (made_lies w 53 (by omega)) (Lies.none _ _ fun _ => by omega) (.inr ⟨_, rfl, by simp⟩) (.inl ⟨rfl, rfl⟩) (by omega) (by omega) ?_).mono ?_
  · intro o q ho hq
    rw [if_neg (by simp), if_neg (by simp)] at ho
    unfold rdE
    rw [ho.hd, if_pos (show 53 < 54 by omega)]
    rfl
  · rintro e w' ⟨rfl, b2⟩
    exact ⟨rfl, b.trans (b2.mono b.size)⟩
theorem why_maxp (n E : Nat) (hn : n = 5 ∧ E = 3 ∨ n = 6 ∧ E = 2) (w : World) :
    Calls Try.prog 8 #[.int .i64 16, .slice none 0 0, .slice (some ⟨w.heap.size, 0, none⟩) n n] (w.alloc (.cells (arr n fun _ => .int .u8 0) 5)) fun e w' => e = .returned (.int .i64 (E : Nat)) ∧ Below w.heap.size w w' := by
  have b : Below w.heap.size w (w.alloc (.cells (arr n fun _ => .int .u8 0) 5)) := (Below.refl _ _).alloc (Nat.le_refl _) _
  refine (why_any 16 none 0 (fun _ => 0) (some ⟨w.heap.size, 0, none⟩) n (fun _ => 0) E _ (Lies.none _ _ fun _ => by omega) (made_lies w n (by omega)) (.inl ⟨rfl, rfl⟩) (.inr ⟨_, rfl, by simp⟩) (by omega) (by omega) ?_).mono ?_
  · intro o q ho hq
    rw [if_pos rfl, if_pos rfl] at ho
    rw [if_neg (by simp), if_neg (by simp)] at hq
    have e1 : hdE o = 0 := by
      rw [ho.hd, if_neg (by omega), head_u, head_f, if_neg (by simp)]
    unfold rdE
    rw [e1, hq.mx]
    rcases hn with ⟨rfl, rfl⟩ | ⟨rfl, rfl⟩ <;> rfl
  · rintro e w' ⟨rfl, b2⟩
    exact ⟨rfl, b.trans (b2.mono b.size)⟩

set_option maxRecDepth 100000 in
set_option maxHeartbeats 3200000 in
theorem metricKnown_walk (w : World) : Calls Try.prog 3 #[] w fun e w' => e = .returned (.bool true) ∧ Below w.heap.size w w' := by
  have R0 := read_nil w
  go_enter Try.func3, Try.ntmps3
  go_wp2_with fail
  refine R0.mono ?_
  rintro e w1 ⟨B1, rfl⟩
  obtain ⟨w2, hw2⟩ : ∃ x, x = (w1.alloc (.cells #[.int .i64 0, .int .i64 0, .bool false] 23)).setRow w1.heap.size (mcs zmt) := ⟨_, rfl⟩
  have b2 : Below w1.heap.size w1 w2 := by rw [hw2]; exact below_row ((Below.refl _ _).alloc (Nat.le_refl _) _) (Nat.le_refl _) _
  have HW2 : Hid (w2 = _) := hw2
  have K1 := blk_new w1 (.cells #[.int .i64 0, .int .i64 0, .bool false] 23)
  have B2 := B1.trans (b2.mono B1.size)
  clear hw2 b2 B1 R0
  go_wp2_with (refine store_mt' size23 HW2 K1 rfl _ _ (by rfl) (by rfl) (by rfl) (by rfl) ?_)
  refine (range_out none 0 0 false 0 w2 (.inl rfl)).mono ?_
  rintro e w3 ⟨b3, rfl⟩
  have B3 := B2.trans (b3.mono B2.size)
  clear K1 HW2 b3 B2
  unfold rval
  obtain ⟨w4, hw4⟩ : ∃ x, x = (w3.alloc (.cells #[.int .u8 1, .int .u8 2] 5)).alloc (.cells #[.slice (some ⟨w3.heap.size, 0, none⟩) 2 2] 29) := ⟨_, rfl⟩
  obtain ⟨hT, b4⟩ := laidm w3 hw4
  have HW4 : Hid (w4 = _) := hw4
  have B4 := B3.trans (b4.mono B3.size)
  have P := plain_any 1000 _ 1 1 _ true w4 hT (by omega) (fun k _ => by show (2 : Nat) ≤ 40; omega)
  rw [show ((1000 : Nat) : Int) = 1000 from rfl] at P
  clear hT b4 hw4 B3
  go_wp2_with fail
  rw [← HW4.out]
  refine P.mono ?_
  rintro e w5 ⟨g5, len, c5, z, rfl, hL, b5, hP⟩
  have B5 := B4.trans (b5.mono B4.size)
  have hle := hP.le
  have O := opens_any _ len c5 z w5 hL (by omega)
  clear P hL b5 B4
  go_wp2_with fail
  refine O.mono ?_
  rintro e w6 ⟨b6, ⟨ho, _⟩ | ⟨_, p, q, rfl, hF, hR⟩⟩
  · exact (ho.out hP.ok).elim
  have B6 := B5.trans (b6.mono B5.size)
  have n34 := ptr_no34 p
  clear O hR b6 B5
  go_wp2_with fail
  refine (known_any w6).mono ?_
  rintro e w7 ⟨rfl, b7⟩
  have B7 := B6.trans (b7.mono B6.size)
  have F7 := hF.below b7 (Nat.le_refl _)
  have HRE : Hid (rdE (look z hdT) (look z mxT) = 0) := by show _ = _; unfold rdE; rw [hP.hdE (by omega), hP.mxE (by omega)]; rfl
  have R := read_any p len z w7 F7
  rw [hP.rdM (by omega) (by omega) HRE.out, HRE.out] at R
  rw [show (⟨((1000 : Nat) : Int), ((1 : Nat) : Int), true⟩ : Mt) = ⟨1000, 1, true⟩ from rfl, show ((0 : Nat) : Int) = 0 from rfl] at R
  have HQ := fun m g W (hh : FOk W p len z) hm => range_any p len z m g W hh hm
  have V1 : rngv (look z lcT) (look z gfT) 1 true 1 = (0, 0, 1) := by unfold rngv; rw [if_pos (by omega)]
  have V2 : rngv (look z lcT) (look z gfT) 1 true (-1) = (0, 0, 1) := by unfold rngv; rw [if_pos (by omega)]
  have V3 : rngv (look z lcT) (look z gfT) 9 true 1 = (0, 0, 3) := by unfold rngv; rw [if_neg (by omega)]; exact (tm_rng hP).1
  have V4 : rngv (look z lcT) (look z gfT) 9 false 1 = (0, 0, 0) := by unfold rngv; rw [if_neg (by omega)]; exact (tm_rng hP).2
  have Q1 := fun W (hh : FOk W p len z) => HQ ⟨1000, 1, true⟩ 1 W hh (by simp)
  have Q2 := fun W (hh : FOk W p len z) => HQ ⟨1000, 1, true⟩ (-1) W hh (by simp)
  have Q3 := fun W (hh : FOk W p len z) => HQ ⟨1000, 9, true⟩ 1 W hh (by simp)
  have Q4 := fun W (hh : FOk W p len z) => HQ ⟨1000, 9, false⟩ 1 W hh (by simp)
  simp only [V1] at Q1
  simp only [V2] at Q2
  simp only [V3] at Q3
  simp only [V4] at Q4
  clear HQ V1 V2 V3 V4 hP HRE hF b7 B6
  obtain ⟨U, hU⟩ : ∃ x, x = w7 := ⟨_, rfl⟩
  subst hU
  go_wp2_with fail
  refine R.mono ?_
  rintro e w8 ⟨b8, rfl⟩
  have B8 := B7.trans (b8.mono B7.size)
  have F8 := F7.below b8 (Nat.le_refl _)
  obtain ⟨w9, hw9⟩ : ∃ x, x = (w8.alloc (.cells #[.int .i64 0, .int .i64 0, .bool false] 23)).setRow w8.heap.size (mcs ⟨1000, 1, true⟩) := ⟨_, rfl⟩
  have b9 : Below w8.heap.size w8 w9 := by rw [hw9]; exact below_row ((Below.refl _ _).alloc (Nat.le_refl _) _) (Nat.le_refl _) _
  have K8 := blk_new w8 (.cells #[.int .i64 0, .int .i64 0, .bool false] 23)
  have K9 : w9.heap[w8.heap.size]? = some (.cells (mcs ⟨1000, 1, true⟩) 23) := by rw [hw9]; exact setRow_heap _ _ _ _ _ _ K8
  have HW9 : Hid (w9 = _) := hw9
  have B9 := B8.trans (b9.mono B8.size)
  have F9 := F8.below b9 (Nat.le_refl _)
  clear hw9 b9 B8 F8 b8 B7 F7 R
  go_wp2_with (first
    | (refine store_mt' size23 HW9 K8 rfl _ _ (by rfl) (by rfl) (by rfl) (by rfl) ?_)
    | (refine wpList_load_row (by rfl) 23 _ (by rfl) w8.heap.size (by rfl) 23 (mcs ⟨1000, 1, true⟩) _ _ K9 Try.underlying23 rfl (by rw [size23]; rfl) ?_))
  refine (Q1 w9 F9).mono ?_
  rintro e wa ⟨ba, rfl⟩
  have Ba := B9.trans (ba.mono B9.size)
  have Fa := F9.below ba (Nat.le_refl _)
  have Ka := Below.blk ba K9 (blk_lt K9)
  clear HW9 K8 F9 ba B9 Q1 K9
  unfold rval
  go_wp2_with (refine wpList_load_row (by rfl) 23 _ (by rfl) w8.heap.size (by rfl) 23 (mcs ⟨1000, 1, true⟩) _ _ Ka Try.underlying23 rfl (by rw [size23]; rfl) ?_)
  refine (Q2 wa Fa).mono ?_
  rintro e wb ⟨bb, rfl⟩
  have Bb := Ba.trans (bb.mono Ba.size)
  have Fb := Fa.below bb (Nat.le_refl _)
  have Kb := Below.blk bb Ka (blk_lt Ka)
  clear Fa bb Ba Q2 Ka
  unfold rval
  go_wp2_with fail
  refine (Q3 wb Fb).mono ?_
  rintro e wc ⟨bc, rfl⟩
  have Bc := Bb.trans (bc.mono Bb.size)
  have Fc := Fb.below bc (Nat.le_refl _)
  have Kc := Below.blk bc Kb (blk_lt Kb)
  clear Fb bc Bb Q3 Kb
  unfold rval
  go_wp2_with fail
  refine (Q4 wc Fc).mono ?_
  rintro e wd ⟨bd, rfl⟩
  have Bd := Bc.trans (bd.mono Bc.size)
  have Kd := Below.blk bd Kc (blk_lt Kc)
  clear Fc bd Bc Q4 Kc n34
  unfold rval
  go_wp2_with fail
  refine (why_plain 1000 0 (by omega) (by decide) wd).mono ?_
  rintro e x1 ⟨rfl, e1⟩
  have E1 := Bd.trans (e1.mono Bd.size)
  have L1 := Below.blk e1 Kd (blk_lt Kd)
  clear Bd Kd e1
  go_wp2_with fail
  refine (why_plain 15 2 (by omega) (by decide) x1).mono ?_
  rintro e x2 ⟨rfl, e2⟩
  have E2 := E1.trans (e2.mono E1.size)
  have L2 := Below.blk e2 L1 (blk_lt L1)
  clear E1 L1 e2
  go_wp2_with fail
  refine (why_plain 16385 2 (by omega) (by decide) x2).mono ?_
  rintro e x3 ⟨rfl, e3⟩
  have E3 := E2.trans (e3.mono E2.size)
  have L3 := Below.blk e3 L2 (blk_lt L2)
  clear E2 L2 e3
  have hm53 : ∀ W : World, (Instr.makeSlice 29 (.int .i64 53) (.int .i64 53)).run Try.prog W = .ok (.slice (some ⟨W.heap.size, 0, none⟩) 53 53) (W.alloc (.cells (arr 53 fun _ => .int .u8 0) 5)) := make22 53 (by omega)
  have hm5 : ∀ W : World, (Instr.makeSlice 29 (.int .i64 5) (.int .i64 5)).run Try.prog W = .ok (.slice (some ⟨W.heap.size, 0, none⟩) 5 5) (W.alloc (.cells (arr 5 fun _ => .int .u8 0) 5)) := make22 5 (by omega)
  have hm6 : ∀ W : World, (Instr.makeSlice 29 (.int .i64 6) (.int .i64 6)).run Try.prog W = .ok (.slice (some ⟨W.heap.size, 0, none⟩) 6 6) (W.alloc (.cells (arr 6 fun _ => .int .u8 0) 5)) := make22 6 (by omega)
  go_wp2_with fail
  refine (why_head x3).mono ?_
  rintro e x4 ⟨rfl, e4⟩
  have E4 := E3.trans (e4.mono E3.size)
  have L4 := Below.blk e4 L3 (blk_lt L3)
  clear E3 L3 e4 hm53
  go_wp2_with fail
  refine (why_maxp 5 3 (.inl ⟨rfl, rfl⟩) x4).mono ?_
  rintro e x5 ⟨rfl, e5⟩
  have E5 := E4.trans (e5.mono E4.size)
  have L5 := Below.blk e5 L4 (blk_lt L4)
  clear E4 L4 e5 hm5
  go_wp2_with fail
  refine (why_maxp 6 2 (.inr ⟨rfl, rfl⟩) x5).mono ?_
  rintro e x6 ⟨rfl, e6⟩
  have E6 := E5.trans (e6.mono E5.size)
  have L6 := Below.blk e6 L5 (blk_lt L5)
  obtain ⟨d0, d1, d2⟩ := mt_cells L6
  simp only at d0 d1 d2
  clear E5 L5 e6 hm6
  go_wp2
  go_ret
  exact ⟨rfl, E6⟩
end Go.Proofs.Ytninhcnpjadjpaa
