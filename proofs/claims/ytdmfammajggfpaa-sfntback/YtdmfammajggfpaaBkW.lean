/-
  SfntBack's own walk.
-/
import Derived.Test.YtdmfammajggfpaaGat
import Derived.Test.YtdmfammajggfpaaKno
import Derived.Test.YtdmfammajggfpaaTeW
namespace Go.Proofs.Ytdmfammajggfpaa
open Go.RowKit

/-- The law's tags. -/
def tagT (r i : Nat) : ByteArray := { data := #[84] } ++ bstr (zl [i + 32, r, 7]) 3
theorem tagT_list (r i : Nat) : (tagT r i).data.toList = [84, UInt8.ofNat (i + 32), UInt8.ofNat r, 7] := by
  unfold tagT bstr
  rw [ByteArray.data_append]
  rfl
theorem tagT_size (r i : Nat) : (tagT r i).size = 4 := by
  have h := congrArg List.length (tagT_list r i)
  rw [Array.length_toList] at h
  exact h
theorem tagT_inj {r i j : Nat} (hi : i < 20) (hj : j < 20) (h : tagT r i = tagT r j) : i = j := by
  have h1 := congrArg (fun b : ByteArray => b.data.toList) h
  simp only [tagT_list] at h1
  have h2 : UInt8.ofNat (i + 32) = UInt8.ofNat (j + 32) := by simpa using h1
  have h3 := congrArg UInt8.toNat h2
  simp at h3
  omega
theorem tagT_ok {r n : Nat} (hn : n ≤ 20) : okN (tagT r) n = true :=
  okN_iff.2 fun k hk => ⟨tagT_size r k, fun j hj e => by have := tagT_inj (by omega) (by omega) e; omega⟩
theorem tagT_colr {r i : Nat} : tagT r i ≠ { data := #[67, 79, 76, 82] } := fun h => by
  have h1 := congrArg (fun b : ByteArray => b.data.toList) h
  simp only [tagT_list] at h1
  simp at h1
theorem tagT_short {r i : Nat} : tagT r i ≠ { data := #[84] } := fun h => by
  have h1 := congrArg ByteArray.size h
  rw [tagT_size] at h1
  exact absurd h1 (by decide)

set_option maxRecDepth 100000 in
set_option maxHeartbeats 12800000 in
theorem back_walk (w : World) (a1 : Option Addr) (n c1 : Nat) (L : Nat → Tab) (a2 : Option Addr) (m c2 : Nat) (f2 : Nat → Int)
    (h1 : Tabs w a1 n c1 L) (hL : ∀ i, i < n → (L i).l ≤ 140737488351232) (h2 : Ints w a2 m c2 f2) :
    Calls Try.prog 5 #[.slice a1 n c1, .slice a2 m c2] w fun e w' => e = .returned (.bool true) ∧ Below w.heap.size w w' := by
  have hr1 := h1.reach
  have hr2 := h2.reach
  have hlc := h1.lc
  have P := fun W => pick_big (m : Nat) 250 (by omega) (by omega) W
  have hp := pickv_lt (m : Nat) 250 (by omega)
  obtain ⟨r, hr⟩ : ∃ r, Hid (pickv (m : Nat) 250 = r) := ⟨_, rfl⟩
  rw [hr.out] at hp
  simp only [hr.out] at P
  have hr256 : (r : Int) < 256 := by omega
  go_enter Try.func5, Try.ntmps5
  go_wp2_with fail
  go_loopw [5, 6, 7] (fun u v i wq => ∃ (k : Nat) (t : Nat → Tab), i = .int .i64 (k : Nat) ∧ k ≤ 20 ∧ Hid (Gath wq w.heap.size k k u v (tagT r) t) ∧ Below w.heap.size w wq) (fun _ _ i _ => 20 - (intOf i).toNat)
  case atStart => exact ⟨0, fun _ => ⟨none, 0, 0, fun _ => 0⟩, rfl, by omega, Gath.nil _ _ _ _, Below.refl _ _⟩
  case round =>
    obtain ⟨k, t, rfl, hk, hG, hB⟩ := hrel
    obtain ⟨av1, cv1, av2, cv2, hv1, hv2, hS0, hT0⟩ := hG.out.take (by omega) (by omega)
    subst hv1
    subst hv2
    by_cases hc : k < n ∧ k < 20
    · obtain ⟨q1, q2⟩ := hc
      have q1' : (k : Int) < n := by omega
      have q2' : (k : Int) < 20 := by omega
      obtain ⟨b, off, rfl, hb, hcl⟩ := h1.spot (by omega)
      have DL : ∀ W, Below w.heap.size w W → W.cell? ⟨b, off + k, none⟩ = some (.slice (L k).a (L k).l (L k).c) := fun W hW => by
        rw [World.cell?_of_block (a := ⟨b, off + k, none⟩) (hW.block b hb), hcl k q1]
      have hLk := hL k q1
      have LK := h1.each k q1
      obtain ⟨q, hq⟩ : ∃ q : Nat, (k : Int) + 32 = q := ⟨k + 32, by omega⟩
      have hq256 : q < 256 := by omega
      have HQ : Hid (q = k + 32) := by show _ = _; omega
      have LL := lies_lit (w := wr.alloc (.cells #[.int .u8 (q : Nat), .int .u8 (r : Nat), .int .u8 7] 5)) (g := wr.heap.size) (cs := [q, r, 7]) (fr := (0, 0)) (by simp; omega) (by simp) (blk_new wr _)
      have CV := conv_string LL
      have HTG : Hid ({ data := #[84] } ++ bstr (zl [q, r, 7]) 3 = tagT r k) := by show _ = _; rw [HQ.out]; rfl
      obtain ⟨Y, hY⟩ : ∃ Y, Hid (bstr (zl [q, r, 7]) 3 = Y) := ⟨_, rfl⟩
      have CV' : (convert 22 9 (.slice (some ⟨wr.heap.size, 0, none⟩) 3 3)).run Try.prog (wr.alloc (.cells #[.int .u8 (q : Nat), .int .u8 (r : Nat), .int .u8 7] 5)) = .ok (.string Y) (wr.alloc (.cells #[.int .u8 (q : Nat), .int .u8 (r : Nat), .int .u8 7] 5)) := by rw [← hY.out]; exact CV
      rw [hY.out] at HTG
      have hYs : Y.size = 3 := by rw [← hY.out]; rfl
      obtain ⟨T, hT⟩ : ∃ T, Hid (({ data := #[84] } : ByteArray) ++ Y = T) := ⟨_, rfl⟩
      have ADD : ∀ W : World, (Op.stringOp .add { data := #[84] } Y).run Try.prog W = .ok (.string T) W := fun W => by rw [← hT.out]; exact run_string_add_sum W _ _ (by rw [hYs]; decide)
      have HTT : Hid (tagT r k = T) := by show _ = _; rw [← HTG.out, hT.out]
      have OA := (hG.out.below ((Below.refl _ _).alloc (Nat.le_refl _) (.cells #[.int .u8 (q : Nat), .int .u8 (r : Nat), .int .u8 7] 5))).below ((Below.refl _ _).alloc (Nat.le_refl _) (.cells #[.string T] 9))
      have BA := (hB.alloc hB.size (.cells #[.int .u8 (q : Nat), .int .u8 (r : Nat), .int .u8 7] 5)).alloc (by have := hB.size; simp; omega) (.cells #[.string T] 9)
      have HAP : Hid (_) := app_one E26 (w0 := w) (w := (wr.alloc (.cells #[.int .u8 (q : Nat), .int .u8 (r : Nat), .int .u8 7] 5)).alloc (.cells #[.string T] 9)) OA.o1 BA (by have := hB.size; simp; omega) (b := wr.heap.size + 1) (by have := blk_new (wr.alloc (.cells #[.int .u8 (q : Nat), .int .u8 (r : Nat), .int .u8 7] 5)) (.cells #[.string T] 9); rwa [World.size_alloc] at this) (news := [.string T]) rfl (by intro u hu; simp at hu; rw [hu]; rfl) (by omega)
      have HOA : Hid (Gath _ _ _ _ _ _ _ _) := OA
      clear OA BA LL CV hcl hS0 hT0 hYs
      go_wp2_with (first
        | (go_at_call 14; refine (P _).mono ?_; rintro e w' ⟨rfl, rfl⟩)
        | (at_builtin; refine wpList_app2 rfl (.tmp 29) (.tmp 40) 26 26 rfl rfl rfl HAP.out ?_; rintro g3 c3 w3 hR1; have HR3 : Hid (_) := hR1; clear hR1; have d3 := DL w3 HR3.out.2.1))
      have B3 := HR3.out.2.1
      have G3 := HOA.out.tag HTT.out HR3.out.1 HR3.out.2.2.1 HR3.out.2.2.2
      obtain ⟨kk, hkk⟩ : ∃ kk, kk = min (L k).l 80 := ⟨_, rfl⟩
      have hkb : kk ≤ 80 := by omega
      have FW := few_up (L k).a (L k).l (L k).c 80 kk (L k).z w3 (LK.below B3 (Nat.le_refl _)) (by omega) (by omega) hkk
      have HG3 : Hid (Gath _ _ _ _ _ _ _ _) := G3
      have hzb := LK.byte
      clear G3 HR3 HAP HOA d3 hkk CV' ADD
      refine FW.mono ?_
      rintro e w4 ⟨g4, c4, rfl, O4, b4⟩
      have B4 := B3.trans (b4.mono B3.size)
      have F4 := own_lies5 O4 hzb (by omega)
      have G4 := (HG3.out.below b4).below ((Below.refl _ _).alloc (Nat.le_refl _) (.cells #[.slice (some ⟨g4, 0, none⟩) kk c4] 22))
      have F5 := F4.same (Same5.of_below ((Below.refl _ _).alloc (Nat.le_refl _) (.cells #[.slice (some ⟨g4, 0, none⟩) kk c4] 22)))
      have HAP : Hid (_) := app_one E27 (w0 := w) (w := w4.alloc (.cells #[.slice (some ⟨g4, 0, none⟩) kk c4] 22)) G4.o2 (B4.alloc B4.size _) (by have := B4.size; simp; omega) (blk_new w4 (.cells #[.slice (some ⟨g4, 0, none⟩) kk c4] 22)) (news := [.slice (some ⟨g4, 0, none⟩) kk c4]) rfl (by intro u hu; simp at hu; rw [hu]; rfl) (by omega)
      have HG4 : Hid (Gath _ _ _ _ _ _ _ _) := G4
      have HF5 : Hid (Lies5 _ _) := F5
      clear G4 F5 F4 O4 HG3 FW
      go_wp2_with (at_builtin; refine wpList_app2 rfl (.tmp 42) (.tmp 48) 27 27 rfl rfl rfl HAP.out ?_; rintro g5 c5 w5 hR1; have HR5 : Hid (_) := hR1; clear hR1)
      exact ⟨⟨k + 1, _, by go_num, by omega, HG4.out.tab HF5.out (by show kk ≤ 100; omega) HR5.out.1 HR5.out.2.2.1 HR5.out.2.2.2, HR5.out.2.1⟩, by simp [intOf]; omega⟩
    · have HOK := tagT_ok (r := r) hk
      have hl := fun i hi => (hG.out.each i hi).2
      have LY := lay_yes av1 k cv1 (tagT r) av2 cv2 t wr hS0 hT0 (by omega) HOK hl
      have hlen := layB_len (t := t) HOK
      have hsum := sumN_le hl (Nat.le_refl k)
      have hbyt := layB_byt (s := tagT r) (t := t) (n := k) (by omega) (fun i hi => (hG.out.each i hi).1.lies.byte) (fun i hi => by have := hl i hi; omega) (by have := hsum; omega)
      obtain ⟨hcnt, hopn⟩ := laid_ok HOK (by omega) hl
      have LR : Hid (_) := fun i hi => laid_rec HOK (by omega) hl (k := i) hi
      have hsm : Hid (∀ i, i < k → sumN t (i + 1) ≤ sumN t k) := fun i hi => sumN_mono hi
      obtain ⟨N, hN⟩ : ∃ N, Hid ((layB (tagT r) t k).length = N) := ⟨_, rfl⟩
      rw [hN.out] at LY hlen hopn
      have hNb : N ≤ 10000 := by omega
      have HLEN : Hid (_) := hlen
      clear hlen hsum
      rcases (show (¬ (k : Int) < n) ∨ ((k : Int) < n ∧ ¬ (k : Int) < 20) by omega) with c1' | ⟨c1', c2'⟩
      all_goals
        clear hc
        go_wp2_with fail
        refine LY.mono ?_
        rintro e w2 ⟨g2, cc2, rfl, hO2, b2⟩
        have B2 := hB.trans (b2.mono hB.size)
        have L2 := hO2.liesB hbyt (by rw [hN.out]; omega)
        rw [hN.out] at L2
        clear LY hO2
        go_wp2_with fail
        refine (open_any _ N cc2 _ _ L2 (by omega)).mono ?_
        rintro e w3 ⟨b3, ⟨hne, _⟩ | ⟨_, p, rfl, hp, hF⟩⟩
        · exact (hne.out hopn).elim
        rw [hcnt] at hF
        have B3 := B2.trans (b3.mono B2.size)
        have hS3 := (hS0.below b2 (Nat.le_refl _)).below b3 (Nat.le_refl _)
        have hT3 := (hT0.below b2 (Nat.le_refl _)).below b3 (Nat.le_refl _)
        have N1 := ptr_no29 p
        have HCN : Hid (_) := hcnt
        have HOP : Hid (_) := hopn
        clear L2 hcnt hopn
        go_wp2_with fail
        refine (known_any _).mono ?_
        rintro e w4 ⟨rfl, b4⟩
        have B4 := B3.trans (b4.mono B3.size)
        have F4 := hF.below b4 (Nat.le_refl _)
        have hS4 := hS3.below b4 (Nat.le_refl _)
        have hT4 := hT3.below b4 (Nat.le_refl _)
        clear hF hS3 hT3
        go_wp2_with fail
        refine (tags_any p N k _ _ _ _ _ F4).mono ?_
        rintro e w5 ⟨g5, rfl, hg5, _, b5⟩
        have B5 := B4.trans (b5.mono B4.size)
        have F5 := F4.below b5 (Nat.le_refl _)
        have S5 := hS4.below b5 (Nat.le_refl _)
        have T5 := hT4.below b5 (Nat.le_refl _)
        have hsl := S5.lc
        have htl := T5.lc
        clear F4 hS4 hT4
        go_wp2_with fail
        go_loopw [85] (fun i wq => ∃ j : Nat, i = .int .i64 (j : Nat) ∧ j ≤ k ∧ Below w5.heap.size w5 wq) (fun i _ => k - (intOf i).toNat)
        case atStart => exact ⟨0, rfl, by omega, Below.refl _ _⟩
        case round =>
          obtain ⟨j, rfl, hj, hB6⟩ := hrel
          have FQ := F5.below hB6 (Nat.le_refl _)
          have BQ := B5.trans (hB6.mono B5.size)
          by_cases hjk : j < k
          · have hjk' : (j : Int) < k := by omega
            obtain ⟨r1, r2, r3, r4⟩ := LR.out j hjk
            have hmo := hsm.out j hjk
            have hsu : sumN t (j + 1) = sumN t j + (t j).l := rfl
            have hff := HLEN.out
            have hfit : atv (zb (layB (tagT r) t k)) j + szv (zb (layB (tagT r) t k)) j ≤ N := by rw [r2, r3]; omega
            have hIF : IsF (tgv (zb (layB (tagT r) t k))) k (tagT r j) j := by
              have := isF_at (s := tgv (zb (layB (tagT r) t k))) hjk (fun i hi => by rw [(LR.out i (by omega)).1, r1]; exact (okN_iff.1 HOK j hjk).2 i hi)
              rwa [r1] at this
            have F0 := FQ
            have TY := table_yes p N k _ _ _ _ (tagT r j) j wr FQ hIF hjk hfit
            rw [r3, r2] at TY
            have SQ := S5.below hB6 (Nat.le_refl _)
            obtain ⟨bq1, oq1, hav1, hbq1, hcq1⟩ := S5.spot (by omega)
            obtain ⟨bq2, oq2, hav2, hbq2, hcq2⟩ := T5.spot (by omega)
            have D1a : ∀ W, Below w5.heap.size w5 W → W.cell? ⟨bq1, oq1 + j, none⟩ = some (.string (tagT r j)) := fun W hW => by
              rw [World.cell?_of_block (a := ⟨bq1, oq1 + j, none⟩) (hW.block bq1 hbq1), hcq1 j hjk]
            have D2a : ∀ W, Below w5.heap.size w5 W → W.cell? ⟨bq2, oq2 + j, none⟩ = some (.slice (t j).a (t j).l (t j).c) := fun W hW => by
              rw [World.cell?_of_block (a := ⟨bq2, oq2 + j, none⟩) (hW.block bq2 hbq2), hcq2 j hjk]
            have TJ := T5.each j hjk
            have CY : Hid (bstr (fun i => zb (layB (tagT r) t k) (12 + 16 * k + sumN t j + i)) (t j).l = bstr (t j).z (t j).l) := bstr_congr r4
            obtain ⟨Y, hY⟩ : ∃ Y, Hid (bstr (t j).z (t j).l = Y) := ⟨_, rfl⟩
            obtain ⟨T, hT'⟩ : ∃ T, Hid (tagT r j = T) := ⟨_, rfl⟩
            rw [hT'.out] at TY D1a r1
            have hs1 := txt_yes (x := T) rfl
            have hs2 := txt_yes (x := Y) rfl
            have e0 := D1a wr hB6
            subst hav1
            subst hav2
            have HR1 : Hid (_) := r1
            clear r1 r2 r3 r4 hmo hsu hff hfit hIF SQ FQ hcq1 hcq2
            go_wp2_with fail
            refine TY.mono ?_
            rintro e w9 ⟨a9, c9, rfl, L9, b9⟩
            have B9 := hB6.trans (b9.mono hB6.size)
            have F9 := F0.below b9 (Nat.le_refl _)
            have D1 : ∀ W, Below w9.heap.size w9 W → W.cell? ⟨bq1, oq1 + j, none⟩ = some (.string T) := fun W hW => D1a W (B9.trans (hW.mono B9.size))
            have D2 : ∀ W, Below w9.heap.size w9 W → W.cell? ⟨bq2, oq2 + j, none⟩ = some (.slice (t j).a (t j).l (t j).c) := fun W hW => D2a W (B9.trans (hW.mono B9.size))
            have C1 : ∀ W, Below w9.heap.size w9 W → (convert 22 9 (.slice a9 (t j).l c9)).run Try.prog W = .ok (.string Y) W := fun W hW => by
              have := conv_string (L9.below hW (Nat.le_refl _))
              rwa [CY.out, hY.out] at this
            have C2 : ∀ W, Below w9.heap.size w9 W → (convert 22 9 (.slice (t j).a (t j).l (t j).c)).run Try.prog W = .ok (.string Y) W := fun W hW => by
              have := conv_string (TJ.below (B9.trans (hW.mono B9.size)) (Nat.le_refl _))
              rwa [hY.out] at this
            have r1 := HR1.out
            clear TY e0 L9 TJ D1a D2a HR1 F0
            go_wp2_with fail
            refine region_segs [11, 5] [
              [{ dst := some 97, op := Op.move (Operand.tmp 10), type := 29, pos := "law.go:117", after := #[], guard := none },
               { dst := some 98, op := Op.call { callee := Callee.value (Operand.func 16), args := #[Operand.tmp 97], argTypes := #[29] }, type := 26, pos := "law.go:117", after := #[{ on := 0, ground := Ground.data }], guard := none },
               { dst := some 99, op := Op.move (Operand.tmp 12), type := 3, pos := "law.go:117", after := #[], guard := none },
               { dst := some 100, op := Op.indexAddr 26 (Operand.tmp 98) (Operand.tmp 99), type := 0, pos := "law.go:117", after := #[{ on := 1, ground := Ground.data }, { on := 2, ground := Ground.data }], guard := none },
               { dst := some 101, op := Op.load 9 (Operand.tmp 100), type := 9, pos := "law.go:117", after := #[{ on := 3, ground := Ground.data }], guard := none },
               { dst := some 102, op := Op.move (Operand.tmp 5), type := 26, pos := "law.go:117", after := #[], guard := none },
               { dst := some 103, op := Op.move (Operand.tmp 12), type := 3, pos := "law.go:117", after := #[], guard := none },
               { dst := some 104, op := Op.indexAddr 26 (Operand.tmp 102) (Operand.tmp 103), type := 0, pos := "law.go:117", after := #[{ on := 5, ground := Ground.data }, { on := 6, ground := Ground.data }], guard := none },
               { dst := some 105, op := Op.load 9 (Operand.tmp 104), type := 9, pos := "law.go:117", after := #[{ on := 7, ground := Ground.data }], guard := none },
               { dst := some 106, op := Op.binOp BinOp.neq 9 (Operand.tmp 101) (Operand.tmp 105) 9, type := 4, pos := "law.go:117", after := #[{ on := 4, ground := Ground.data }, { on := 8, ground := Ground.data }], guard := none },
               { dst := some 107, op := Op.move (Operand.tmp 106), type := 4, pos := "law.go:117", after := #[{ on := 9, ground := Ground.data }, { on := 1, ground := Ground.chain }], guard := none }],
              [{ dst := some 107, op := Op.move (Operand.tmp 106), type := 4, pos := "law.go:117", after := #[], guard := none },
               { dst := some 108, op := Op.move (Operand.tmp 14), type := 4, pos := "law.go:117", after := #[{ on := 0, ground := Ground.guard }], guard := some (0, false) },
               { dst := some 109, op := Op.unOp UnOp.not 4 (Operand.tmp 108), type := 4, pos := "law.go:117", after := #[{ on := 1, ground := Ground.data }, { on := 0, ground := Ground.guard }], guard := some (0, false) },
               { dst := some 110, op := Op.pick (Operand.tmp 107) (Operand.const (Value.bool true)) (Operand.tmp 109), type := 4, pos := "law.go:117", after := #[{ on := 0, ground := Ground.data }, { on := 2, ground := Ground.data }], guard := none },
               { dst := some 111, op := Op.move (Operand.tmp 110), type := 4, pos := "law.go:117", after := #[{ on := 3, ground := Ground.data }, { on := 0, ground := Ground.chain }], guard := none }],
              [{ dst := some 111, op := Op.move (Operand.tmp 110), type := 4, pos := "law.go:117", after := #[], guard := none },
               { dst := some 112, op := Op.move (Operand.tmp 13), type := 22, pos := "law.go:117", after := #[{ on := 0, ground := Ground.guard }], guard := some (0, false) },
               { dst := some 113, op := Op.convert 22 9 (Operand.tmp 112), type := 9, pos := "law.go:117", after := #[{ on := 1, ground := Ground.data }, { on := 0, ground := Ground.guard }], guard := some (0, false) },
               { dst := some 114, op := Op.move (Operand.tmp 6), type := 27, pos := "law.go:117", after := #[{ on := 0, ground := Ground.guard }], guard := some (0, false) },
               { dst := some 115, op := Op.move (Operand.tmp 12), type := 3, pos := "law.go:117", after := #[{ on := 0, ground := Ground.guard }], guard := some (0, false) },
               { dst := some 116, op := Op.indexAddr 27 (Operand.tmp 114) (Operand.tmp 115), type := 0, pos := "law.go:117", after := #[{ on := 3, ground := Ground.data }, { on := 4, ground := Ground.data }, { on := 0, ground := Ground.guard }], guard := some (0, false) },
               { dst := some 117, op := Op.load 22 (Operand.tmp 116), type := 22, pos := "law.go:117", after := #[{ on := 5, ground := Ground.data }, { on := 0, ground := Ground.guard }], guard := some (0, false) },
               { dst := some 118, op := Op.convert 22 9 (Operand.tmp 117), type := 9, pos := "law.go:117", after := #[{ on := 6, ground := Ground.data }, { on := 0, ground := Ground.guard }], guard := some (0, false) },
               { dst := some 119, op := Op.binOp BinOp.neq 9 (Operand.tmp 113) (Operand.tmp 118) 9, type := 4, pos := "law.go:117", after := #[{ on := 2, ground := Ground.data }, { on := 7, ground := Ground.data }, { on := 0, ground := Ground.guard }], guard := some (0, false) },
               { dst := some 120, op := Op.pick (Operand.tmp 111) (Operand.const (Value.bool true)) (Operand.tmp 119), type := 4, pos := "law.go:117", after := #[{ on := 0, ground := Ground.data }, { on := 8, ground := Ground.data }], guard := none }]
              ] (by kernel_rfl) (by kernel_rfl) (by kernel_rfl) ?_
            obtain ⟨U, hU⟩ : ∃ x, x = w9.drew := ⟨_, rfl⟩
            rw [← hU]
            have SU : Below w9.heap.size w9 U := by rw [hU]; exact (Below.refl _ _).drew
            have FU := F9.below SU (Nat.le_refl _)
            clear hU F9
            refine chain_held 11 (fun V => Below w9.heap.size w9 V) (by kernel_rfl) ?_
            refine wpAnyH_take (i := 0) (oi := { dst := some 97, op := Op.move (Operand.tmp 10), type := 29, pos := "law.go:117", after := #[], guard := none }) (v := ?_) rfl (by kernel_rfl) (by kernel_rfl) (by kernel_rfl) (fun _ _ _ h => h) (Or.inl ⟨by rfl, ?_⟩) SU ?_
            rotate_left
            · (intro w' hSw; go_simp) <;> with_reducible rfl
            try simp only [Act.put, List.setIfInBounds_toArray, List.set_cons_zero, List.set_cons_succ]
            refine wpAnyH_take (i := 2) (oi := { dst := some 99, op := Op.move (Operand.tmp 12), type := 3, pos := "law.go:117", after := #[], guard := none }) (v := ?_) rfl (by kernel_rfl) (by kernel_rfl) (by kernel_rfl) (fun _ _ _ h => h) (Or.inl ⟨by rfl, ?_⟩) SU ?_
            rotate_left
            · (intro w' hSw; go_simp) <;> with_reducible rfl
            try simp only [Act.put, List.setIfInBounds_toArray, List.set_cons_zero, List.set_cons_succ]
            refine wpAnyH_take (i := 5) (oi := { dst := some 102, op := Op.move (Operand.tmp 5), type := 26, pos := "law.go:117", after := #[], guard := none }) (v := ?_) rfl (by kernel_rfl) (by kernel_rfl) (by kernel_rfl) (fun _ _ _ h => h) (Or.inl ⟨by rfl, ?_⟩) SU ?_
            rotate_left
            · (intro w' hSw; go_simp) <;> with_reducible rfl
            try simp only [Act.put, List.setIfInBounds_toArray, List.set_cons_zero, List.set_cons_succ]
            refine wpAnyH_take (i := 6) (oi := { dst := some 103, op := Op.move (Operand.tmp 12), type := 3, pos := "law.go:117", after := #[], guard := none }) (v := ?_) rfl (by kernel_rfl) (by kernel_rfl) (by kernel_rfl) (fun _ _ _ h => h) (Or.inl ⟨by rfl, ?_⟩) SU ?_
            rotate_left
            · (intro w' hSw; go_simp) <;> with_reducible rfl
            try simp only [Act.put, List.setIfInBounds_toArray, List.set_cons_zero, List.set_cons_succ]
            refine wpAnyH_take (i := 7) (oi := { dst := some 104, op := Op.indexAddr 26 (Operand.tmp 102) (Operand.tmp 103), type := 0, pos := "law.go:117", after := #[{ on := 5, ground := Ground.data }, { on := 6, ground := Ground.data }], guard := none }) (v := ?_) rfl (by kernel_rfl) (by kernel_rfl) (by kernel_rfl) (fun _ _ _ h => h) (Or.inl ⟨by rfl, ?_⟩) SU ?_
            rotate_left
            · (intro w' hSw; go_simp) <;> with_reducible rfl
            try simp only [Act.put, List.setIfInBounds_toArray, List.set_cons_zero, List.set_cons_succ]
            refine wpAnyH_take (i := 8) (oi := { dst := some 105, op := Op.load 9 (Operand.tmp 104), type := 9, pos := "law.go:117", after := #[{ on := 7, ground := Ground.data }], guard := none }) (v := ?_) rfl (by kernel_rfl) (by kernel_rfl) (by kernel_rfl) (fun _ _ _ h => h) (Or.inl ⟨by rfl, ?_⟩) SU ?_
            rotate_left
            · (intro w' hSw; have k8 := D1 w' hSw; go_simp) <;> with_reducible rfl
            try simp only [Act.put, List.setIfInBounds_toArray, List.set_cons_zero, List.set_cons_succ]
            refine wpAnyH_ready (rs := [1]) (by kernel_rfl) (by simp) ?_
            refine AllReadyH.cons (o := { dst := some 98, op := Op.call { callee := Callee.value (Operand.func 16), args := #[Operand.tmp 97], argTypes := #[29] }, type := 26, pos := "law.go:117", after := #[{ on := 0, ground := Ground.data }], guard := none }) rfl (fun K hK => ?_) AllReadyH.nil
            go_simp
            go_at_call 16
            refine (tags_any p N k _ _ _ _ _ FU).mono ?_
            rintro e w10 ⟨g10, rfl, hg10, S10, b10⟩
            go_wp2_with fail
            have B10 : Below w9.heap.size w9 w10 := SU.trans (b10.mono SU.size)
            have D3 : ∀ W, Below w10.heap.size w10 W → W.cell? ⟨g10, j, none⟩ = some (.string T) := fun W hW => by
                obtain ⟨bq, oq, eq, hbq, hcq⟩ := S10.spot (by omega)
                simp only [Option.some.injEq, Addr.mk.injEq, and_true] at eq
                obtain ⟨rfl, rfl⟩ := eq
                have := hcq j hjk
                rw [Nat.zero_add, r1] at this
                rw [World.cell?_of_block (a := ⟨g10, j, none⟩) (hW.block g10 hbq), this]
            refine (Shut.stronger hK (fun V => Below w10.heap.size w10 V) (fun V h => SU.trans ((b10.trans (h.mono b10.size)).mono SU.size))).out _ _ (Below.refl _ _) (fun _ => ?_)
            clear hK K
            try simp only [Act.put, List.setIfInBounds_toArray, List.set_cons_zero, List.set_cons_succ]
            refine wpAnyH_take (i := 3) (oi := { dst := some 100, op := Op.indexAddr 26 (Operand.tmp 98) (Operand.tmp 99), type := 0, pos := "law.go:117", after := #[{ on := 1, ground := Ground.data }, { on := 2, ground := Ground.data }], guard := none }) (v := ?_) rfl (by kernel_rfl) (by kernel_rfl) (by kernel_rfl) (fun _ _ _ h => h) (Or.inl ⟨by rfl, ?_⟩) (Below.refl _ _) ?_
            rotate_left
            · (intro w' hSw; go_simp) <;> with_reducible rfl
            try simp only [Act.put, List.setIfInBounds_toArray, List.set_cons_zero, List.set_cons_succ]
            refine wpAnyH_take (i := 4) (oi := { dst := some 101, op := Op.load 9 (Operand.tmp 100), type := 9, pos := "law.go:117", after := #[{ on := 3, ground := Ground.data }], guard := none }) (v := ?_) rfl (by kernel_rfl) (by kernel_rfl) (by kernel_rfl) (fun _ _ _ h => h) (Or.inl ⟨by rfl, ?_⟩) (Below.refl _ _) ?_
            rotate_left
            · (intro w' hSw; have k4 := D3 w' hSw; go_simp) <;> with_reducible rfl
            try simp only [Act.put, List.setIfInBounds_toArray, List.set_cons_zero, List.set_cons_succ]
            refine wpAnyH_take (i := 9) (oi := { dst := some 106, op := Op.binOp BinOp.neq 9 (Operand.tmp 101) (Operand.tmp 105) 9, type := 4, pos := "law.go:117", after := #[{ on := 4, ground := Ground.data }, { on := 8, ground := Ground.data }], guard := none }) (v := ?_) rfl (by kernel_rfl) (by kernel_rfl) (by kernel_rfl) (fun _ _ _ h => h) (Or.inl ⟨by rfl, ?_⟩) (Below.refl _ _) ?_
            rotate_left
            · (intro w' hSw; go_simp) <;> with_reducible rfl
            try simp only [Act.put, List.setIfInBounds_toArray, List.set_cons_zero, List.set_cons_succ]
            refine wpAnyH_take (i := 10) (oi := { dst := some 107, op := Op.move (Operand.tmp 106), type := 4, pos := "law.go:117", after := #[{ on := 9, ground := Ground.data }, { on := 1, ground := Ground.chain }], guard := none }) (v := ?_) rfl (by kernel_rfl) (by kernel_rfl) (by kernel_rfl) (fun _ _ _ h => h) (Or.inl ⟨by rfl, ?_⟩) (Below.refl _ _) ?_
            rotate_left
            · (intro w' hSw; go_simp) <;> with_reducible rfl
            try simp only [Act.put, List.setIfInBounds_toArray, List.set_cons_zero, List.set_cons_succ]
            refine wpAnyH_done (by kernel_rfl) ?_ _
            refine segQ_end ?_
            refine chain_held 4 (fun V => Below w10.heap.size w10 V) (by kernel_rfl) ?_
            refine wpAnyH_take (i := 1) (oi := { dst := some 108, op := Op.move (Operand.tmp 14), type := 4, pos := "law.go:117", after := #[{ on := 0, ground := Ground.guard }], guard := some (0, false) }) (v := ?_) rfl (by kernel_rfl) (by kernel_rfl) (by kernel_rfl) (fun _ _ _ h => h) (Or.inl ⟨by rfl, ?_⟩) (Below.refl _ _) ?_
            rotate_left
            · (intro w' hSw; go_simp) <;> with_reducible rfl
            try simp only [Act.put, List.setIfInBounds_toArray, List.set_cons_zero, List.set_cons_succ]
            refine wpAnyH_take (i := 2) (oi := { dst := some 109, op := Op.unOp UnOp.not 4 (Operand.tmp 108), type := 4, pos := "law.go:117", after := #[{ on := 1, ground := Ground.data }, { on := 0, ground := Ground.guard }], guard := some (0, false) }) (v := ?_) rfl (by kernel_rfl) (by kernel_rfl) (by kernel_rfl) (fun _ _ _ h => h) (Or.inl ⟨by rfl, ?_⟩) (Below.refl _ _) ?_
            rotate_left
            · (intro w' hSw; go_simp) <;> with_reducible rfl
            try simp only [Act.put, List.setIfInBounds_toArray, List.set_cons_zero, List.set_cons_succ]
            refine wpAnyH_take (i := 3) (oi := { dst := some 110, op := Op.pick (Operand.tmp 107) (Operand.const (Value.bool true)) (Operand.tmp 109), type := 4, pos := "law.go:117", after := #[{ on := 0, ground := Ground.data }, { on := 2, ground := Ground.data }], guard := none }) (v := ?_) rfl (by kernel_rfl) (by kernel_rfl) (by kernel_rfl) (fun _ _ _ h => h) (Or.inl ⟨by rfl, ?_⟩) (Below.refl _ _) ?_
            rotate_left
            · (intro w' hSw; go_simp) <;> with_reducible rfl
            try simp only [Act.put, List.setIfInBounds_toArray, List.set_cons_zero, List.set_cons_succ]
            refine wpAnyH_take (i := 4) (oi := { dst := some 111, op := Op.move (Operand.tmp 110), type := 4, pos := "law.go:117", after := #[{ on := 3, ground := Ground.data }, { on := 0, ground := Ground.chain }], guard := none }) (v := ?_) rfl (by kernel_rfl) (by kernel_rfl) (by kernel_rfl) (fun _ _ _ h => h) (Or.inl ⟨by rfl, ?_⟩) (Below.refl _ _) ?_
            rotate_left
            · (intro w' hSw; go_simp) <;> with_reducible rfl
            try simp only [Act.put, List.setIfInBounds_toArray, List.set_cons_zero, List.set_cons_succ]
            refine wpAnyH_done (by kernel_rfl) ?_ _
            refine segQ_end ?_
            refine chain_last 9 (fun V => Below w10.heap.size w10 V) (by kernel_rfl) ?_
            refine wpAnyH_take (i := 1) (oi := { dst := some 112, op := Op.move (Operand.tmp 13), type := 22, pos := "law.go:117", after := #[{ on := 0, ground := Ground.guard }], guard := some (0, false) }) (v := ?_) rfl (by kernel_rfl) (by kernel_rfl) (by kernel_rfl) (fun _ _ _ h => h) (Or.inl ⟨by rfl, ?_⟩) (Below.refl _ _) ?_
            rotate_left
            · (intro w' hSw; go_simp) <;> with_reducible rfl
            try simp only [Act.put, List.setIfInBounds_toArray, List.set_cons_zero, List.set_cons_succ]
            refine wpAnyH_take (i := 2) (oi := { dst := some 113, op := Op.convert 22 9 (Operand.tmp 112), type := 9, pos := "law.go:117", after := #[{ on := 1, ground := Ground.data }, { on := 0, ground := Ground.guard }], guard := some (0, false) }) (v := ?_) rfl (by kernel_rfl) (by kernel_rfl) (by kernel_rfl) (fun _ _ _ h => h) (Or.inl ⟨by rfl, ?_⟩) (Below.refl _ _) ?_
            rotate_left
            · (intro w' hSw; have kc := C1 w' (B10.trans (hSw.mono B10.size)); go_simp) <;> with_reducible rfl
            try simp only [Act.put, List.setIfInBounds_toArray, List.set_cons_zero, List.set_cons_succ]
            refine wpAnyH_take (i := 3) (oi := { dst := some 114, op := Op.move (Operand.tmp 6), type := 27, pos := "law.go:117", after := #[{ on := 0, ground := Ground.guard }], guard := some (0, false) }) (v := ?_) rfl (by kernel_rfl) (by kernel_rfl) (by kernel_rfl) (fun _ _ _ h => h) (Or.inl ⟨by rfl, ?_⟩) (Below.refl _ _) ?_
            rotate_left
            · (intro w' hSw; go_simp) <;> with_reducible rfl
            try simp only [Act.put, List.setIfInBounds_toArray, List.set_cons_zero, List.set_cons_succ]
            refine wpAnyH_take (i := 4) (oi := { dst := some 115, op := Op.move (Operand.tmp 12), type := 3, pos := "law.go:117", after := #[{ on := 0, ground := Ground.guard }], guard := some (0, false) }) (v := ?_) rfl (by kernel_rfl) (by kernel_rfl) (by kernel_rfl) (fun _ _ _ h => h) (Or.inl ⟨by rfl, ?_⟩) (Below.refl _ _) ?_
            rotate_left
            · (intro w' hSw; go_simp) <;> with_reducible rfl
            try simp only [Act.put, List.setIfInBounds_toArray, List.set_cons_zero, List.set_cons_succ]
            refine wpAnyH_take (i := 5) (oi := { dst := some 116, op := Op.indexAddr 27 (Operand.tmp 114) (Operand.tmp 115), type := 0, pos := "law.go:117", after := #[{ on := 3, ground := Ground.data }, { on := 4, ground := Ground.data }, { on := 0, ground := Ground.guard }], guard := some (0, false) }) (v := ?_) rfl (by kernel_rfl) (by kernel_rfl) (by kernel_rfl) (fun _ _ _ h => h) (Or.inl ⟨by rfl, ?_⟩) (Below.refl _ _) ?_
            rotate_left
            · (intro w' hSw; go_simp) <;> with_reducible rfl
            try simp only [Act.put, List.setIfInBounds_toArray, List.set_cons_zero, List.set_cons_succ]
            refine wpAnyH_take (i := 6) (oi := { dst := some 117, op := Op.load 22 (Operand.tmp 116), type := 22, pos := "law.go:117", after := #[{ on := 5, ground := Ground.data }, { on := 0, ground := Ground.guard }], guard := some (0, false) }) (v := ?_) rfl (by kernel_rfl) (by kernel_rfl) (by kernel_rfl) (fun _ _ _ h => h) (Or.inl ⟨by rfl, ?_⟩) (Below.refl _ _) ?_
            rotate_left
            · (intro w' hSw; have k20 := D2 w' (B10.trans (hSw.mono B10.size)); go_simp) <;> with_reducible rfl
            try simp only [Act.put, List.setIfInBounds_toArray, List.set_cons_zero, List.set_cons_succ]
            refine wpAnyH_take (i := 7) (oi := { dst := some 118, op := Op.convert 22 9 (Operand.tmp 117), type := 9, pos := "law.go:117", after := #[{ on := 6, ground := Ground.data }, { on := 0, ground := Ground.guard }], guard := some (0, false) }) (v := ?_) rfl (by kernel_rfl) (by kernel_rfl) (by kernel_rfl) (fun _ _ _ h => h) (Or.inl ⟨by rfl, ?_⟩) (Below.refl _ _) ?_
            rotate_left
            · (intro w' hSw; have kc := C2 w' (B10.trans (hSw.mono B10.size)); go_simp) <;> with_reducible rfl
            try simp only [Act.put, List.setIfInBounds_toArray, List.set_cons_zero, List.set_cons_succ]
            refine wpAnyH_take (i := 8) (oi := { dst := some 119, op := Op.binOp BinOp.neq 9 (Operand.tmp 113) (Operand.tmp 118) 9, type := 4, pos := "law.go:117", after := #[{ on := 2, ground := Ground.data }, { on := 7, ground := Ground.data }, { on := 0, ground := Ground.guard }], guard := some (0, false) }) (v := ?_) rfl (by kernel_rfl) (by kernel_rfl) (by kernel_rfl) (fun _ _ _ h => h) (Or.inl ⟨by rfl, ?_⟩) (Below.refl _ _) ?_
            rotate_left
            · (intro w' hSw; go_simp) <;> with_reducible rfl
            try simp only [Act.put, List.setIfInBounds_toArray, List.set_cons_zero, List.set_cons_succ]
            refine wpAnyH_take (i := 9) (oi := { dst := some 120, op := Op.pick (Operand.tmp 111) (Operand.const (Value.bool true)) (Operand.tmp 119), type := 4, pos := "law.go:117", after := #[{ on := 0, ground := Ground.data }, { on := 8, ground := Ground.data }], guard := none }) (v := ?_) rfl (by kernel_rfl) (by kernel_rfl) (by kernel_rfl) (fun _ _ _ h => h) (Or.inl ⟨by rfl, ?_⟩) (Below.refl _ _) ?_
            rotate_left
            · (intro w' hSw; go_simp) <;> with_reducible rfl
            try simp only [Act.put, List.setIfInBounds_toArray, List.set_cons_zero, List.set_cons_succ]
            refine wpAnyH_done (by kernel_rfl) ?_ _
            have BN := B9.trans (B10.mono B9.size)
            go_wp2
            exact ⟨⟨j + 1, by go_num, by omega, BN⟩, by simp [intOf]; omega⟩
          · obtain rfl : j = k := by omega
            have hjk' : ¬ (j : Int) < j := by omega
            have TN1 := table_no p N j _ _ _ _ { data := #[67, 79, 76, 82] } wr FQ ⟨Nat.le_refl _, fun i hi => by rw [(LR.out i hi).1]; exact tagT_colr, fun h => absurd h (Nat.lt_irrefl _)⟩
            go_wp2_with fail
            refine TN1.mono ?_
            rintro e w9 ⟨rfl, b9⟩
            have F9 := FQ.below b9 (Nat.le_refl _)
            have B9 := BQ.trans (b9.mono BQ.size)
            have TN2 := table_no p N j _ _ _ _ { data := #[84] } w9 F9 ⟨Nat.le_refl _, fun i hi => by rw [(LR.out i hi).1]; exact tagT_short, fun h => absurd h (Nat.lt_irrefl _)⟩
            clear TN1 FQ
            go_wp2_with fail
            refine TN2.mono ?_
            rintro e w10 ⟨rfl, b10⟩
            have B10 := B9.trans (b10.mono B9.size)
            clear TN2
            go_wp2
            go_ret
            exact ⟨rfl, B10⟩
end Go.Proofs.Ytdmfammajggfpaa
