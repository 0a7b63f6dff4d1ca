/-
  The base tables, one of them changed; MetricKnown's closure as a contract.
-/
import Derived.Test.YtninhcnpjadjpaaKn
namespace Go.Proofs.Ytninhcnpjadjpaa
open Go.RowKit

/-- The base tables, some of them changed: each lies apart from the row of tables. -/
structure Bs2 (w : World) (gt gl : Nat) (T : Nat → Tab) : Prop where
  tags : w.heap[gt]? = some (.cells #[.string hdT, .string mxT, .string lcT, .string gfT] 9)
  tabs : w.heap[gl]? = some (.cells (arr 4 fun i => .slice (T i).a (T i).l (T i).c) 29)
  each : ∀ i, i < 4 → Lies w (T i).a (T i).l (T i).c (T i).z
  apart : ∀ i, i < 4 → 0 < (T i).l → ∀ b off sp, (T i).a = some ⟨b, off, sp⟩ → b ≠ gl
theorem Bse.two {w : World} {gt gl : Nat} {T : Nat → Tab} (h : Bse w gt gl T) : Bs2 w gt gl T :=
  ⟨h.tags, h.tabs, fun i hi => (h.each i hi).lies, fun i hi _ b off sp e e2 => by
    obtain ⟨c, hc⟩ := (h.each i hi).blk b off sp e
    rw [e2, h.tabs] at hc
    cases hc⟩
theorem Bs2.ne {w : World} {gt gl : Nat} {T : Nat → Tab} (h : Bs2 w gt gl T) : gt ≠ gl := fun e => by
  have h1 := h.tags
  rw [e, h.tabs] at h1
  cases h1
theorem Bs2.below {w w' : World} {gt gl : Nat} {T : Nat → Tab} {B : Nat} (h : Bs2 w gt gl T) (hb : Below B w w') (hB : w.heap.size ≤ B) : Bs2 w' gt gl T := by
  have h1 := blk_lt h.tags
  have h2 := blk_lt h.tabs
  exact ⟨(hb.block gt (by omega)).trans h.tags, (hb.block gl (by omega)).trans h.tabs, fun i hi => (h.each i hi).below hb hB, h.apart⟩
theorem lies_other {w : World} {a : Option Addr} {l c g : Nat} {z : Nat → Nat} (h : Lies w a l c z) (hg : 0 < l → ∀ b off sp, a = some ⟨b, off, sp⟩ → b ≠ g) (i : Nat) (v : Value) : Lies (w.setCell ⟨g, i, none⟩ v) a l c z := by
  refine ⟨h.lc, h.reach, h.byte, fun h0 => ?_⟩
  obtain ⟨b, off, e, hb, hc⟩ := h.spot h0
  have hne := hg h0 b off _ e
  refine ⟨b, off, e, by simpa using hb, fun j hj => ?_⟩
  rw [World.cell?_of_block (a := ⟨b, off + j, none⟩) (blk_other v (show b ≠ (⟨g, i, none⟩ : Addr).block from hne))]
  exact hc j hj
theorem Bs2.set {w : World} {gt gl : Nat} {T : Nat → Tab} (h : Bs2 w gt gl T) (i : Nat) (N : Tab) (hN : Lies w N.a N.l N.c N.z) (ha : 0 < N.l → ∀ b off sp, N.a = some ⟨b, off, sp⟩ → b ≠ gl) :
    Bs2 (w.setCell ⟨gl, i, none⟩ (.slice N.a N.l N.c)) gt gl (tabU T i N) := by
  refine ⟨(blk_other _ (show gt ≠ gl from h.ne)).trans h.tags, ?_, fun j hj => ?_, fun j hj h0 => ?_⟩
  · rw [arr_blk_set h.tabs i]
    congr 2
    refine arr_congr 4 _ _ fun j _ => ?_
    unfold tabU
    by_cases e : j = i
    · rw [if_pos e, if_pos e]
    · rw [if_neg e, if_neg e]
  · unfold tabU
    by_cases e : j = i
    · rw [if_pos e]; exact lies_other hN ha i _
    · rw [if_neg e]; exact lies_other (h.each j hj) (h.apart j hj) i _
  · unfold tabU at h0 ⊢
    by_cases e : j = i
    · rw [if_pos e] at h0 ⊢; exact ha h0
    · rw [if_neg e] at h0 ⊢; exact h.apart j hj h0
theorem Bs2.strs {w : World} {gt gl : Nat} {T : Nat → Tab} (h : Bs2 w gt gl T) : Strs w (some ⟨gt, 0, none⟩) 4 4 tag4 := by
  refine ⟨by omega, by omega, fun _ => ⟨gt, 0, rfl, blk_lt h.tags, fun i hi => ?_⟩⟩
  rw [blk_cell h.tags, Nat.zero_add]
  rcases (show i = 0 ∨ i = 1 ∨ i = 2 ∨ i = 3 by omega) with rfl | rfl | rfl | rfl <;> rfl
theorem Bs2.tables {w : World} {gt gl : Nat} {T : Nat → Tab} (h : Bs2 w gt gl T) : Tabs w (some ⟨gl, 0, none⟩) 4 4 T := by
  refine ⟨by omega, by omega, fun _ => ⟨gl, 0, rfl, blk_lt h.tabs, fun i hi => ?_⟩, fun i hi => h.each i hi⟩
  rw [Nat.zero_add, arr_cell h.tabs hi]

set_option maxRecDepth 100000 in
theorem lay_rdE {T : Nat → Tab} (hS : sumN T 4 ≤ 1000000) : opnv (zb (layB tag4 T 4)) (layB tag4 T 4).length = 0 ∧ (layB tag4 T 4).length ≤ 2000000 ∧
    TbEq (look (zb (layB tag4 T 4)) hdT) (T 0).l (T 0).z ∧ TbEq (look (zb (layB tag4 T 4)) mxT) (T 1).l (T 1).z := by
  have h0 := look_eq (t := T) tag4_ok (by omega) hS (show 0 < 4 by omega)
  have h1 := look_eq (t := T) tag4_ok (by omega) hS (show 1 < 4 by omega)
  have h2 := (laid_ok (t := T) tag4_ok (by omega) hS).2
  have h3 := layB_len (t := T) tag4_ok
  have h4 : (layB tag4 T 4).length ≤ 2000000 := by rw [h3]; omega
  exact ⟨h2, h4, h0, h1⟩

/-- The one empty glyph. -/
def t0 (_ : Nat) : Tab := ⟨none, 0, 0, fun _ => 0⟩
theorem laid0 (w : World) : Tabs (w.alloc (.cells #[.slice none 0 0] 29)) (some ⟨w.heap.size, 0, none⟩) 1 1 t0 := by
  have b := blk_new w (.cells #[.slice none 0 0] 29)
  refine ⟨Nat.le_refl _, by omega, fun _ => ⟨_, 0, rfl, blk_lt b, fun i hi => ?_⟩, fun i _ => Lies.none _ _ fun _ => by show (0 : Nat) < 256; omega⟩
  rw [blk_cell b, Nat.zero_add]
  obtain rfl : i = 0 := by omega
  rfl

set_option maxRecDepth 100000 in
set_option maxHeartbeats 3200000 in
/-- The closure: a head and a maxp that may be handed in. -/
theorem why_any (u : Nat) (ah : Option Addr) (lh : Nat) (zh : Nat → Nat) (am : Option Addr) (lm : Nat) (zm : Nat → Nat) (E : Nat) (w : World) (hh : Lies w ah lh lh zh) (hm : Lies w am lm lm zm) (hah : ah = none ∧ lh = 0 ∨ ∃ g, ah = some ⟨g, 0, none⟩ ∧ g < w.heap.size) (ham : am = none ∧ lm = 0 ∨ ∃ g, am = some ⟨g, 0, none⟩ ∧ g < w.heap.size)
    (hlh : lh ≤ 100) (hlm : lm ≤ 100)
    (hE : ∀ o q, TbEq o (if ah = none then 54 else lh) (if ah = none then zb (headL u true) else zh) → TbEq q (if am = none then 6 else lm) (if am = none then zb (maxL 1) else zm) → rdE o q = E) :
    Calls Try.prog 8 #[.int .i64 (u : Nat), .slice ah lh lh, .slice am lm lm] w fun e w' => e = .returned (.int .i64 (E : Nat)) ∧ Below w.heap.size w w' := by
  have bA : Below w.heap.size w (w.alloc (.cells #[.slice none 0 0] 29)) := (Below.refl _ _).alloc (Nat.le_refl _) _
  have BA := base_any u _ 1 1 t0 true _ (laid0 w) (by omega) (fun k hk => by show (0 : Nat) ≤ 40; omega)
  go_enter Try.func8, Try.ntmps8
  go_wp2_with fail
  refine BA.mono ?_
  rintro e w1 ⟨gt, gl, T, rfl, b1, hgl, hB0, hC⟩
  have B1 := bA.trans (b1.mono bA.size)
  have hB := hB0.two
  have hs1 := b1.size
  rw [World.size_alloc] at hgl
  clear BA bA b1 hB0
  have hgll := blk_lt hB.tabs
  obtain ⟨bh, hbh, hbi⟩ : ∃ bh : Bool, (∀ W : World, (binOp .neq 29 (.slice ah lh lh) (.slice none 0 0)).run Try.prog W = .ok (.bool bh) W) ∧ (bh = false ↔ ah = none) := by
    rcases hah with ⟨rfl, rfl⟩ | ⟨g, rfl, _⟩
    · exact ⟨false, fun W => by kernel_rfl, by simp⟩
    · exact ⟨true, fun W => by kernel_rfl, by simp⟩
  obtain ⟨bm, hbm, hmi⟩ : ∃ bh : Bool, (∀ W : World, (binOp .neq 29 (.slice am lm lm) (.slice none 0 0)).run Try.prog W = .ok (.bool bh) W) ∧ (bh = false ↔ am = none) := by
    rcases ham with ⟨rfl, rfl⟩ | ⟨g, rfl, _⟩
    · exact ⟨false, fun W => by kernel_rfl, by simp⟩
    · exact ⟨true, fun W => by kernel_rfl, by simp⟩
  have hh1 := hh.below B1 (Nat.le_refl _)
  have aph : 0 < lh → ∀ b off sp, ah = some ⟨b, off, sp⟩ → b ≠ gl := fun h0 b off sp e => by
    rcases hah with ⟨rfl, rfl⟩ | ⟨g, rfl, hg⟩
    · cases e
    · simp only [Option.some.injEq, Addr.mk.injEq] at e; omega
  have apm : 0 < lm → ∀ b off sp, am = some ⟨b, off, sp⟩ → b ≠ gl := fun h0 b off sp e => by
    rcases ham with ⟨rfl, rfl⟩ | ⟨g, rfl, hg⟩
    · cases e
    · simp only [Option.some.injEq, Addr.mk.injEq] at e; omega
  go_upto_if 20 with fail
  go_cut [] from 21 to 23 (fun wx => Bs2 wx gt gl (if ah = none then T else tabU T 0 ⟨ah, lh, lh, zh⟩) ∧ Below w.heap.size w wx)
  case first =>
    cases bh
    · have e := hbi.1 rfl
      have HB : Hid (Bs2 w1 gt gl (if ah = none then T else tabU T 0 ⟨ah, lh, lh, zh⟩)) := by show Bs2 _ _ _ _; rw [if_pos e]; exact hB
      clear e
      go_wp2
      go_meet
      case rel => exact ⟨HB.out, B1⟩
    · have e : ¬ ah = none := fun e => by have := hbi.2 e; cases this
      have f0 := blk_free hB.tabs 0
      have c0 := arr_cell hB.tabs (t := 0) (by omega)
      have HB : Hid (Bs2 (w1.setCell ⟨gl, 0, none⟩ (.slice ah lh lh)) gt gl (if ah = none then T else tabU T 0 ⟨ah, lh, lh, zh⟩)) := by show Bs2 _ _ _ _; rw [if_neg e]; exact hB.set 0 ⟨ah, lh, lh, zh⟩ hh1 aph
      have HW : Hid (Below w.heap.size w (w1.setCell ⟨gl, 0, none⟩ (.slice ah lh lh))) := B1.setCell (by show w.heap.size ≤ gl; omega) _
      clear e
      go_wp2
      go_meet
      case rel => exact ⟨HB.out, HW.out⟩
  case rest =>
    obtain ⟨hB2, B2⟩ := hcut
    have hm2 := hm.below B2 (Nat.le_refl _)
    have hm2' : Lies wc am lm lm zm := hm2
    clear hB B1 hh1 hbh aph
    obtain ⟨T1, hT1⟩ : ∃ x, Hid ((if ah = none then T else tabU T 0 ⟨ah, lh, lh, zh⟩) = x) := ⟨_, rfl⟩
    rw [hT1.out] at hB2
    go_upto_if 25 with fail
    go_cut [] from 26 to 28 (fun wx => Bs2 wx gt gl (if am = none then T1 else tabU T1 1 ⟨am, lm, lm, zm⟩) ∧ Below w.heap.size w wx)
    case first =>
      cases bm
      · have e := hmi.1 rfl
        have HB : Hid (Bs2 wc gt gl (if am = none then T1 else tabU T1 1 ⟨am, lm, lm, zm⟩)) := by show Bs2 _ _ _ _; rw [if_pos e]; exact hB2
        clear e
        go_wp2
        go_meet
        case rel => exact ⟨HB.out, B2⟩
      · have e : ¬ am = none := fun e => by have := hmi.2 e; cases this
        have f0 := blk_free hB2.tabs 1
        have c0 := arr_cell hB2.tabs (t := 1) (by omega)
        have HB : Hid (Bs2 (wc.setCell ⟨gl, 1, none⟩ (.slice am lm lm)) gt gl (if am = none then T1 else tabU T1 1 ⟨am, lm, lm, zm⟩)) := by show Bs2 _ _ _ _; rw [if_neg e]; exact hB2.set 1 ⟨am, lm, lm, zm⟩ hm2' apm
        have HW : Hid (Below w.heap.size w (wc.setCell ⟨gl, 1, none⟩ (.slice am lm lm))) := B2.setCell (by show w.heap.size ≤ gl; omega) _
        clear e
        go_wp2
        go_meet
        case rel => exact ⟨HB.out, HW.out⟩
    case rest =>
      clear hB2 B2 hm2 hm2' hbm apm
      obtain ⟨hB3, B3⟩ := hcut
      obtain ⟨T2, hT2⟩ : ∃ x, Hid ((if am = none then T1 else tabU T1 1 ⟨am, lm, lm, zm⟩) = x) := ⟨_, rfl⟩
      rw [hT2.out] at hB3
      have e0 : (T2 0).l = (if ah = none then 54 else lh) ∧ (T2 0).z = if ah = none then zb (headL u true) else zh := by
        have : T2 0 = T1 0 := by rw [← hT2.out]; split <;> rfl
        rw [this, ← hT1.out]
        split
        · exact hC.h
        · exact ⟨rfl, rfl⟩
      have e1 : (T2 1).l = (if am = none then 6 else lm) ∧ (T2 1).z = if am = none then zb (maxL 1) else zm := by
        rw [← hT2.out]
        split
        · have : T1 1 = T 1 := by rw [← hT1.out]; split <;> rfl
          rw [this]; exact hC.m
        · exact ⟨rfl, rfl⟩
      have e23 : T2 2 = T 2 ∧ T2 3 = T 3 := by
        rw [← hT2.out, ← hT1.out]
        constructor <;> (split <;> split <;> rfl)
      have hS : sumN T2 4 ≤ 1000000 := by
        rw [sum4, e0.1, e1.1, e23.1, e23.2, hC.l.1, hC.g.1]
        have : glen t0 1 = 0 := rfl
        rw [this]
        have : entW true = 4 := rfl
        rw [this]
        split <;> split <;> omega
      obtain ⟨k1, k2, k3, k4⟩ := lay_rdE hS
      rw [e0.1, e0.2] at k3
      rw [e1.1, e1.2] at k4
      have hrd := hE _ _ k3 k4
      have F := font_any _ 4 4 tag4 _ 4 T2 wc hB3.strs hB3.tables (by omega) tag4_ok (by omega)
      obtain ⟨z, hz⟩ : ∃ x, zb (layB tag4 T2 4) = x := ⟨_, rfl⟩
      obtain ⟨N, hN⟩ : ∃ x, (layB tag4 T2 4).length = x := ⟨_, rfl⟩
      rw [hz, hN] at F k1
      rw [hN] at k2
      rw [hz] at hrd
      clear hB3 e0 e1 e23 hS k3 k4 hz hN hC hE hT1 hT2
      go_wp2_with fail
      refine F.mono ?_
      rintro e w2 ⟨g, c, rfl, hL, b2⟩
      have B4 := B3.trans (b2.mono B3.size)
      have O := opens_any _ N c z w2 hL (by omega)
      clear F hL b2 B3
      go_wp2_with fail
      refine O.mono ?_
      rintro e w3 ⟨b3, ⟨ho, _⟩ | ⟨_, p, q, rfl, hF, hR⟩⟩
      · exact (ho.out k1).elim
      have B5 := B4.trans (b3.mono B4.size)
      have R := read_any p N z w3 hF
      rw [hrd] at R
      clear O hR b3 B4 hF hrd
      go_wp2_with fail
      refine R.mono ?_
      rintro e w4 ⟨b4, rfl⟩
      have B6 := B5.trans (b4.mono B5.size)
      obtain ⟨M, hM⟩ : ∃ x, rdM (look z hdT) (look z mxT) = x := ⟨_, rfl⟩
      rw [hM]
      have K4 := blk_new w4 (.cells #[.int .i64 0, .int .i64 0, .bool false] 23)
      have B7 : Below w.heap.size w ((w4.alloc (.cells #[.int .i64 0, .int .i64 0, .bool false] 23)).setRow w4.heap.size (mcs M)) := below_row (B6.alloc B6.size _) B6.size _
      clear R b4 B5 B6
      go_wp2_with (refine store_mt size23 K4 rfl _ _ M (by rfl) (by rfl) (by rfl) (by rfl) ?_)
      go_ret
      exact ⟨rfl, B7⟩
end Go.Proofs.Ytninhcnpjadjpaa
