/-
  versalhand.Base as a contract.
-/
import Derived.Test.YtninhcnpjadjpaaHlg
import Derived.Test.YtninhcnpjadjpaaSeg
import Derived.BigQuiet
import Derived.Deep.CutRange
namespace Go.Proofs.Ytninhcnpjadjpaa
open Go.RowKit

theorem own_zero (w : World) (base n : Nat) (hb : base ≤ w.heap.size) (hn : n ≤ 100000) : Own (w.alloc (.cells (arr n fun _ => .int .u8 0) 5)) base 5 .u8 w.heap.size n (List.replicate n 0) := by
  have h := own_lit w base 5 .u8 (List.replicate n 0) hb (by rw [List.length_replicate]; exact hn)
  rw [List.length_replicate] at h
  have e : ((List.replicate n 0).map fun x => Value.int .u8 x).toArray = arr n fun _ => .int .u8 0 := by
    unfold arr
    congr 1
    apply List.ext_getElem?
    intro i
    by_cases hi : i < n <;> simp [hi]
  rw [e] at h
  exact h

theorem four (t0 t1 t2 t3 : Tab) : ∃ T : Nat → Tab, T 0 = t0 ∧ T 1 = t1 ∧ T 2 = t2 ∧ T 3 = t3 := ⟨fun i => if i = 0 then t0 else if i = 1 then t1 else if i = 2 then t2 else t3, rfl, rfl, rfl, rfl⟩
theorem arr4 (f : Nat → Value) : arr 4 f = #[f 0, f 1, f 2, f 3] := rfl
def atE (b : Bool) (E : Nat) : Nat := if b = true then E else E / 2
theorem hbigE (b : Bool) (E : Nat) (w : World) :
    Calls Try.prog 22 #[.int .i64 (atE b E : Nat), .int .i64 (entW b : Nat)] w fun e w' => ∃ g c, e = .returned (.slice (some ⟨g, 0, none⟩) (entW b) c) ∧ Own w' w.heap.size 5 .u8 g c (entL b E) ∧ Below w.heap.size w w' := by
  cases b
  · exact hbig2 (E / 2) w
  · exact hbig4 E w
/-- appG, where the new length is told. -/
theorem Hlg.appGn {w0 w : World} {gh N : Nat} {X L G : List Int} {lv gv : Value} (hB : Below w0.heap.size w0 w) (h : Hlg w w0.heap.size gh X lv L gv G) {s : Option Addr} {m c : Nat} {ys : List Int} (hs : SrcI w .u8 s m ys) (hlen : G.length + m ≤ 100000) (hN : G.length + m = N) :
    ∃ v' w', (Builtin.append_ #[29, 29] 29 #[gv, .slice s m c]).run Try.prog w = .ok v' w' ∧ (∃ a' c', v' = .slice a' N c') ∧ (Hlg w' w0.heap.size gh X lv L v' (G ++ ys) ∧ Below w0.heap.size w0 w') := by
  obtain ⟨v', w', h1, h2, h3⟩ := h.appG hB (c := c) hs hlen
  obtain ⟨a', c', e⟩ := h2.g.form
  rw [List.length_append, hs.len, hN] at e
  exact ⟨v', w', h1, ⟨a', c', e⟩, h2, h3⟩
theorem lit_src {w w' : World} {cs : Array Value} {xs : List Int} (hcs : cs = (xs.map fun x => Value.int .u8 x).toArray) {m : Nat} (hm : xs.length = m) (hw : w' = w.alloc (.cells cs 5)) : SrcI w' .u8 (some ⟨w.heap.size, 0, none⟩) m xs := by
  subst hw; subst hcs
  refine ⟨hm, fun _ => ⟨w.heap.size, 0, rfl, fun j hj => ?_⟩⟩
  rw [Nat.zero_add, blk_cell (blk_new w _)]
  simp [List.getD_eq_getElem?_getD, show j < xs.length by omega]
set_option maxRecDepth 100000 in
set_option maxHeartbeats 3200000 in
theorem base_any (u : Nat) (a : Option Addr) (n cap : Nat) (t : Nat → Tab) (b : Bool) (w : World) (h : Tabs w a n cap t) (hn : n ≤ 12) (hl : ∀ k, k < n → (t k).l ≤ 40) :
    Calls Try.prog 9 #[.int .i64 (u : Nat), .slice a n cap, .bool b] w fun e w' => ∃ gt gl T, e = .returned (.tuple #[.slice (some ⟨gt, 0, none⟩) 4 4, .slice (some ⟨gl, 0, none⟩) 4 4]) ∧ Below w.heap.size w w' ∧ w.heap.size ≤ gl ∧ Bse w' gt gl T ∧ BCon T u n b t := by
  have hlc := h.lc
  have hmk : ∀ W : World, (Instr.makeSlice 29 (.int .i64 54) (.int .i64 54)).run Try.prog W = .ok (.slice (some ⟨W.heap.size, 0, none⟩) 54 54) (W.alloc (.cells (arr 54 fun _ => .int .u8 0) 5)) := make22 54 (by omega)
  have O1 := own_zero w w.heap.size 54 (Nat.le_refl _) (by omega)
  have B1 : Below w.heap.size w (w.alloc (.cells (arr 54 fun _ => .int .u8 0) 5)) := (Below.refl _ _).alloc (Nat.le_refl _) _
  obtain ⟨w1, hw1⟩ : ∃ x, x = w.alloc (.cells (arr 54 fun _ => .int .u8 0) 5) := ⟨_, rfl⟩
  rw [← hw1] at O1 B1
  have HW1 : Hid (w1 = w.alloc (.cells (arr 54 fun _ => .int .u8 0) 5)) := hw1
  clear hw1
  go_enter Try.func9, Try.ntmps9
  go_wp2_with fail
  rw [← HW1.out]
  refine region_segs [] [
    [{ dst := some 15, op := Op.move (Operand.tmp 8), type := 29, pos := "hand.go:405", after := #[], guard := none },
     { dst := some 16, op := Op.slice 29 (Operand.tmp 15) (some (Operand.const (Value.int IntKind.i64 18))) none none, type := 29, pos := "hand.go:405", after := #[{ on := 0, ground := Ground.data }], guard := none },
     { dst := some 17, op := Op.move (Operand.tmp 0), type := 3, pos := "hand.go:405", after := #[], guard := none },
     { dst := some 18, op := Op.call { callee := Callee.value (Operand.func 22), args := #[Operand.tmp 17, Operand.const (Value.int IntKind.i64 2)], argTypes := #[3, 3] }, type := 29, pos := "hand.go:405", after := #[{ on := 2, ground := Ground.data }], guard := none },
     { dst := some 19, op := Op.call { callee := Callee.builtin Builtin.copy, args := #[Operand.tmp 16, Operand.tmp 18], argTypes := #[29, 29] }, type := 3, pos := "hand.go:405", after := #[{ on := 1, ground := Ground.data }, { on := 3, ground := Ground.data }, { on := 3, ground := Ground.chain }], guard := none }]
    ] (by kernel_rfl) (by kernel_rfl) (by kernel_rfl) ?_
  obtain ⟨U, hU⟩ : ∃ x, x = w1.drew := ⟨_, rfl⟩
  rw [← hU]
  have SU : True := trivial
  have HO : Hid (Own U w.heap.size 5 .u8 w.heap.size 54 (List.replicate 54 0)) := by show Own _ _ _ _ _ _ _; rw [hU]; exact O1.drew
  have BU : Below w.heap.size w U := by rw [hU]; exact B1.drew
  clear hU
  refine chain_last 5 (fun _ => True) (by kernel_rfl) ?_
  refine wpAnyH_take (i := 0) (oi := { dst := some 15, op := Op.move (Operand.tmp 8), type := 29, pos := "hand.go:405", after := #[], guard := none }) (v := ?_) rfl (by kernel_rfl) (by kernel_rfl) (by kernel_rfl) (fun _ _ _ h => h) (Or.inl ⟨by rfl, ?_⟩) SU ?_
  rotate_left
  · (intro w' hSw; go_simp) <;> with_reducible rfl
  try simp only [Act.put, List.setIfInBounds_toArray, List.set_cons_zero, List.set_cons_succ]
  refine wpAnyH_take (i := 1) (oi := { dst := some 16, op := Op.slice 29 (Operand.tmp 15) (some (Operand.const (Value.int IntKind.i64 18))) none none, type := 29, pos := "hand.go:405", after := #[{ on := 0, ground := Ground.data }], guard := none }) (v := ?_) rfl (by kernel_rfl) (by kernel_rfl) (by kernel_rfl) (fun _ _ _ h => h) (Or.inl ⟨by rfl, ?_⟩) SU ?_
  rotate_left
  · (intro w' hSw; go_simp) <;> with_reducible rfl
  try simp only [Act.put, List.setIfInBounds_toArray, List.set_cons_zero, List.set_cons_succ]
  refine wpAnyH_take (i := 2) (oi := { dst := some 17, op := Op.move (Operand.tmp 0), type := 3, pos := "hand.go:405", after := #[], guard := none }) (v := ?_) rfl (by kernel_rfl) (by kernel_rfl) (by kernel_rfl) (fun _ _ _ h => h) (Or.inl ⟨by rfl, ?_⟩) SU ?_
  rotate_left
  · (intro w' hSw; go_simp) <;> with_reducible rfl
  try simp only [Act.put, List.setIfInBounds_toArray, List.set_cons_zero, List.set_cons_succ]
  refine wpAnyH_ready (rs := [3]) (by kernel_rfl) (by simp) ?_
  refine AllReadyH.cons (o := { dst := some 18, op := Op.call { callee := Callee.value (Operand.func 22), args := #[Operand.tmp 17, Operand.const (Value.int IntKind.i64 2)], argTypes := #[3, 3] }, type := 29, pos := "hand.go:405", after := #[{ on := 2, ground := Ground.data }], guard := none }) rfl (fun K hK => ?_) AllReadyH.nil
  go_simp
  go_at_call 22
  refine (hbig2 u _).mono ?_
  rintro e w2 ⟨g2, c2, rfl, hW2, b2⟩
  go_wp2_with fail
  refine hK.out _ _ trivial (fun _ => ?_)
  clear hK K
  try simp only [Act.put, List.setIfInBounds_toArray, List.set_cons_zero, List.set_cons_succ]
  refine wpAnyH_ready (rs := [4]) (by kernel_rfl) (by simp) ?_
  refine AllReadyH.cons (o := { dst := some 19, op := Op.call { callee := Callee.builtin Builtin.copy, args := #[Operand.tmp 16, Operand.tmp 18], argTypes := #[29, 29] }, type := 3, pos := "hand.go:405", after := #[{ on := 1, ground := Ground.data }, { on := 3, ground := Ground.data }, { on := 3, ground := Ground.chain }], guard := none }) rfl (fun K hK => ?_) AllReadyH.nil
  have HCP : Hid (_) := copy_ownb (HO.out.below b2) 18 36 36 (b := g2) (off := 0) (m := 2) (cm := c2) (ys := wd2 u) (fun j hj => by rw [Nat.zero_add]; exact hW2.cell (by rw [wd2_len]; exact hj)) rfl (by omega) (by simp)
  obtain ⟨w3, hrun, h3, b3⟩ := HCP.out
  go_simp
  refine hK.out _ _ trivial (fun _ => ?_)
  clear hK K
  try simp only [Act.put, List.setIfInBounds_toArray, List.set_cons_zero, List.set_cons_succ]
  refine wpAnyH_done (by kernel_rfl) ?_ _
  have B3 : Below w.heap.size w w3 := (BU.trans (b2.mono BU.size)).trans b3
  have H3 : Own w3 w.heap.size 5 .u8 w.heap.size 54 (headL u false) := h3
  clear h3 b3 b2 HCP hrun hW2 HO BU SU O1 B1 HW1 hmk
  go_upto_if 20 with fail
  go_cut [11] from 21 to 22 (fun v wx => v = .int .i64 (entW b : Nat) ∧ Own wx w.heap.size 5 .u8 w.heap.size 54 (headL u b) ∧ Below w.heap.size w wx)
  case first =>
    cases b
    · go_wp2
      go_meet
      case rel => exact ⟨rfl, H3, B3⟩
    · have f3 := H3.free 51
      have c3 := H3.cell (j := 51) (by rw [headL_len]; omega)
      have H4 : Own (w3.setCell ⟨w.heap.size, 51, none⟩ (.int .u8 1)) w.heap.size 5 .u8 w.heap.size 54 (headL u true) := H3.set 51 1
      have B4 : Below w.heap.size w (w3.setCell ⟨w.heap.size, 51, none⟩ (.int .u8 1)) := B3.setCell (Nat.le_refl _) _
      go_wp2
      go_meet
      case rel => exact ⟨rfl, H4, B4⟩
  case rest =>
    obtain ⟨rfl, H5, B5⟩ := hcut
    clear H3 B3
    have T0 : Hlg wc w.heap.size w.heap.size (headL u b) (.slice none 0 0) [] (.slice none 0 0) [] := ⟨H5, ownv_nil _ _ _ _, ownv_nil _ _ _ _, by simp [Value.ownBlock], by simp [Value.ownBlock], by simp [Value.ownBlock]⟩
    have hLB : ∀ n, n ≤ 12 → (locB t b (n + 1)).length ≤ 150000000000000 := fun n hn => by
      rw [locB_len]
      have h4 : entW b ≤ 4 := by cases b <;> decide
      have := Nat.mul_le_mul_right (n + 1) h4
      omega
    have hLC : ∀ k, k ≤ 12 → entW b * k + entW b ≤ 100000 := fun k hk => by
      have h4 : entW b ≤ 4 := by cases b <;> decide
      have := Nat.mul_le_mul_right k h4
      omega
    have hgl := fun k (hk : k ≤ n) => glen_le hl hk
    clear H5
    go_wp2_with fail
    go_loopw [9, 10, 12] (fun lv gv i wq => ∃ k : Nat, i = .int .i64 (k : Nat) ∧ k ≤ n + 1 ∧ Hid (Hlg wq w.heap.size w.heap.size (headL u b) lv (locB t b k) gv (glyB t (min k n))) ∧ Below w.heap.size w wq) (fun _ _ i _ => n + 1 - (intOf i).toNat)
    case atStart => exact ⟨0, rfl, by omega, by rw [Nat.zero_min]; exact T0, B5⟩
    case round =>
      clear T0 B5
      obtain ⟨k, rfl, hk, hT, hB⟩ := hrel
      by_cases hkn : k ≤ n
      · have hkn' : (k : Int) ≤ n := by omega
        rw [show min k n = k by omega] at hT
        obtain ⟨ag, cg, hgv⟩ := hT.out.g.form
        rw [glyB_len] at hgv
        have hE := hgl k hkn
        have hEe := glen_even t k
        have HL1 : Hid (locB t b (k + 1) = locB t b k ++ entL b (glen t k)) := rfl
        have HG1 : Hid (glyB t (k + 1) = glyB t k ++ byt (t k).z 0 (t k).l ++ List.replicate ((t k).l % 2) 0) := rfl
        have HLL : Hid ((locB t b k).length + entW b ≤ 100000) := by show _ ≤ _; rw [locB_len]; exact hLC k (by omega)
        have HGL : Hid ((glyB t k).length = glen t k) := glyB_len t k
        obtain ⟨E, hE'⟩ : ∃ E, Hid (glen t k = E) := ⟨_, rfl⟩
        rw [hE'.out] at hgv hE hEe HL1 HGL
        subst hgv
        obtain ⟨e2, he2⟩ : ∃ e : Nat, (E : Int) / 2 = e := ⟨E / 2, by omega⟩
        go_upto_if 32 with fail
        go_cut [13] from 33 to 34 (fun v wx => v = .int .i64 (atE b E : Nat) ∧ wx = wr)
        case first =>
          cases b
          · have hat : atE false E = e2 := by show E / 2 = e2; omega
            have HAT : Hid (atE false E = e2) := hat
            clear hat
            go_wp2
            go_meet
            case rel => exact ⟨by rw [HAT.out], rfl⟩
          · go_wp2
            go_meet
            case rel => exact ⟨rfl, rfl⟩
        case rest =>
          obtain ⟨hv1, hw1⟩ := hcut
          subst hv1
          subst hw1
          clear he2
          go_wp2_with fail
          refine (hbigE b E _).mono ?_
          rintro e w5 ⟨g5, c5, rfl, O5, b5⟩
          have B5 := hB.trans (b5.mono hB.size)
          have T5 := hT.out.below b5
          have A5 : Hid (_) := Hlg.appL (c := c5) B5 T5 (O5.src' (n := entW b) (entL_len b E)) HLL.out
          clear T5 O5 B5 b5
          by_cases hlt : k < n
          · have hlt' : (k : Int) < n := by omega
            obtain ⟨bb, off, rfl, hbb, hc⟩ := h.spot (by omega)
            have hlk := hl k hlt
            obtain ⟨tl, htl⟩ : ∃ x, Hid ((t k).l = x) := ⟨_, rfl⟩
            have D6 : ∀ W, Below w.heap.size w W → W.cell? ⟨bb, off + k, none⟩ = some (.slice (t k).a tl (t k).c) := fun W hW => by
              rw [World.cell?_of_block (a := ⟨bb, off + k, none⟩) (hW.block bb hbb), hc k hlt, htl.out]
            have S6 : ∀ W, Below w.heap.size w W → SrcI W .u8 (t k).a tl (byt (t k).z 0 tl) := fun W hW => by
              have := Own.srcB ((h.each k hlt).below hW (Nat.le_refl _))
              rwa [htl.out] at this
            rw [htl.out] at hlk
            obtain ⟨M, hM⟩ : ∃ x, E + tl = x := ⟨_, rfl⟩
            have HMM : Hid (glen t (k + 1) = M + tl % 2) := by show glen t k + (t k).l + (t k).l % 2 = _; rw [hE'.out, htl.out, hM]
            have HMP : M % 2 = tl % 2 := by omega
            have hM480 : M ≤ 520 := by omega
            have A7 : ∀ (v : Value) (W : World), Hid (Hlg W w.heap.size w.heap.size (headL u b) v (locB t b k ++ entL b E) (.slice ag E cg) (glyB t k) ∧ Below w.heap.size w W) → Hid (_) := fun v W hh => Hlg.appGn (c := (t k).c) (N := M) hh.out.2 hh.out.1 (S6 W hh.out.2) (by rw [HGL.out]; omega) (by rw [HGL.out]; exact hM)
            clear hc hT
            rcases (show tl % 2 = 0 ∨ tl % 2 = 1 by omega) with h2 | h2
            · have hm2 : ¬ (M : Int) % 2 = 1 := by omega
              rw [h2] at HMM
              have HRP : Hid (glyB t (k + 1) = glyB t k ++ byt (t k).z 0 tl) := by show _ = _; rw [HG1.out, htl.out, h2, List.replicate_zero, List.append_nil]
              clear h2 HMP
              go_wp2_with (first
                | (at_builtin; refine wpList_appv rfl (.tmp 35) (.tmp 38) 29 29 rfl rfl rfl A5.out ?_; rintro v6 w6 hR1; have HR6 : Hid (_) := hR1; clear hR1; have A7' := A7 v6 w6 HR6; have d6 := D6 w6 HR6.out.2)
                | (at_builtin; refine wpList_appv rfl (.tmp 44) (.tmp 48) 29 29 rfl rfl rfl A7'.out ?_; rintro v7 w7 ⟨⟨a7, c7, rfl⟩, hR1⟩; have HR7 : Hid (_) := hR1; clear hR1))
              refine ⟨⟨k + 1, by go_num, by omega, ?_, HR7.out.2⟩, by simp [intOf]; omega⟩
              have := HR7.out.1
              rw [show min (k + 1) n = k + 1 by omega, HL1.out, HRP.out]
              exact this
            · have hm2 : (M : Int) % 2 = 1 := by omega
              rw [h2] at HMM
              have HRP : Hid (glyB t (k + 1) = glyB t k ++ byt (t k).z 0 tl ++ [0]) := by show _ = _; rw [HG1.out, htl.out, h2]; rfl
              have HGM : Hid ((glyB t k ++ byt (t k).z 0 tl).length = M) := by show _ = _; rw [List.length_append, HGL.out, byt_len, hM]
              have A8 : ∀ (v : Value) (a7 : Option Addr) (c7 : Nat) (W : World), Hid (Hlg W w.heap.size w.heap.size (headL u b) v (locB t b k ++ entL b E) (.slice a7 M c7) (glyB t k ++ byt (t k).z 0 tl) ∧ Below w.heap.size w W) → Hid (_) := fun v a7 c7 W hh =>
                Hlg.appGn (c := 1) (N := M + 1) (hh.out.2.alloc hh.out.2.size (.cells #[.int .u8 0] 5)) (hh.out.1.below ((Below.refl _ _).alloc (Nat.le_refl _) (.cells #[.int .u8 0] 5))) (lit_src (cs := #[.int .u8 0]) (xs := [0]) rfl (m := 1) rfl rfl) (by rw [HGM.out]; omega) (by rw [HGM.out])
              clear h2 HMP
              go_wp2_with (first
                | (at_builtin; refine wpList_appv rfl (.tmp 35) (.tmp 38) 29 29 rfl rfl rfl A5.out ?_; rintro v6 w6 hR1; have HR6 : Hid (_) := hR1; clear hR1; have A7' := A7 v6 w6 HR6; have d6 := D6 w6 HR6.out.2)
                | (at_builtin; refine wpList_appv rfl (.tmp 44) (.tmp 48) 29 29 rfl rfl rfl A7'.out ?_; rintro v7 w7 ⟨⟨a7, c7, rfl⟩, hR1⟩; have HR7 : Hid (_) := hR1; clear hR1; have A8' := A8 v6 a7 c7 w7 HR7)
                | (at_builtin; refine wpList_appv rfl (.tmp 54) (.tmp 55) 29 29 rfl rfl rfl A8'.out ?_; rintro v8 w8 ⟨⟨a8, c8, rfl⟩, hR1⟩; have HR8 : Hid (_) := hR1; clear hR1))
              refine ⟨⟨k + 1, by go_num, by omega, ?_, HR8.out.2⟩, by simp [intOf]; omega⟩
              have := HR8.out.1
              rw [show min (k + 1) n = k + 1 by omega, HL1.out, HRP.out]
              exact this
          · obtain rfl : k = n := by omega
            have hlt' : ¬ (k : Int) < k := by omega
            clear hT
            go_wp2_with (at_builtin; refine wpList_appv rfl (.tmp 35) (.tmp 38) 29 29 rfl rfl rfl A5.out ?_; rintro v6 w6 hR1; have HR6 : Hid (_) := hR1; clear hR1)
            refine ⟨⟨k + 1, by go_num, by omega, ?_, HR6.out.2⟩, by simp [intOf]⟩
            have := HR6.out.1
            rw [show min (k + 1) k = k by omega, HL1.out]
            exact this
      · obtain rfl : k = n + 1 := by omega
        have hkn' : ¬ ((n + 1 : Nat) : Int) ≤ n := by omega
        rw [show min (n + 1) n = n by omega] at hT
        have HT := own_tab5 (own_v hT.out.h (n := 54) (headL_len u b).symm) (headL_byt u b) (Nat.le_trans (Nat.le_of_eq (headL_len u b)) (by omega))
        have LT := own_tab5 hT.out.l (locB_byt t b (n + 1)) (hLB n hn)
        have GT := own_tab5 hT.out.g (glyB_byt (n := n) (fun k hk => (h.each k hk).byte) (Nat.le_refl n)) (by rw [glyB_len]; have := hgl n (Nat.le_refl n); omega)
        obtain ⟨a0, c0, e0, L0⟩ := HT
        obtain ⟨al, cl, rfl, L2⟩ := LT
        obtain ⟨ag, cg, rfl, L3⟩ := GT
        rw [headL_len] at e0 L0
        rw [locB_len] at L2 ⊢
        rw [glyB_len] at L3 ⊢
        simp only [Value.slice.injEq, true_and] at e0
        obtain ⟨rfl, rfl⟩ := e0
        clear hT
        obtain ⟨ll, hll⟩ : ∃ x, Hid (entW b * (n + 1) = x) := ⟨_, rfl⟩
        obtain ⟨gn, hgn⟩ : ∃ x, Hid (glen t n = x) := ⟨_, rfl⟩
        rw [hll.out] at L2 ⊢
        rw [hgn.out] at L3 ⊢
        obtain ⟨wo, hwo⟩ : ∃ x, x = wr := ⟨_, rfl⟩
        subst hwo
        obtain ⟨wA, hwA⟩ : ∃ x, x = wo.alloc (.cells #[.string hdT, .string mxT, .string lcT, .string gfT] 9) := ⟨_, rfl⟩
        have kA : wA.heap[wo.heap.size]? = some (.cells #[.string hdT, .string mxT, .string lcT, .string gfT] 9) := by rw [hwA]; exact blk_new _ _
        have bA : Below wo.heap.size wo wA := by rw [hwA]; exact (Below.refl _ _).alloc (Nat.le_refl _) _
        have sA : wA.heap.size = wo.heap.size + 1 := by rw [hwA]; simp
        obtain ⟨wB, hwB⟩ : ∃ x, x = wA.alloc (.cells #[.int .u8 0, .int .u8 1, .int .u8 0, .int .u8 0] 5) := ⟨_, rfl⟩
        have oB : Own wB wA.heap.size 5 .u8 (wo.heap.size + 1) 4 [0, 1, 0, 0] := by rw [← sA, hwB]; exact own_lit wA wA.heap.size 5 .u8 [0, 1, 0, 0] (Nat.le_refl _) (by simp)
        have bB : Below wA.heap.size wA wB := by rw [hwB]; exact (Below.refl _ _).alloc (Nat.le_refl _) _
        have HWB : Hid (wB = (wo.alloc (.cells #[.string hdT, .string mxT, .string lcT, .string gfT] 9)).alloc (.cells #[.int .u8 0, .int .u8 1, .int .u8 0, .int .u8 0] 5)) := by show _ = _; rw [hwB, hwA]
        have HWA : Hid (wA = wo.alloc (.cells #[.string hdT, .string mxT, .string lcT, .string gfT] 9)) := hwA
        clear hwA hwB
        have hB2 := hB.size
        go_wp2_with fail
        rw [show (wo.alloc (.cells #[.string { data := #[104, 101, 97, 100] }, .string { data := #[109, 97, 120, 112] }, .string { data := #[108, 111, 99, 97] }, .string { data := #[103, 108, 121, 102] }] 9)).alloc (.cells #[.int .u8 0, .int .u8 1, .int .u8 0, .int .u8 0] 5) = wB from HWB.out.symm]
        refine (hbig2 n wB).mono ?_
        rintro e w5 ⟨g5, c5, rfl, O5, b5⟩
        have bA5 : Below wA.heap.size wA w5 := bB.trans (b5.mono bB.size)
        have A6 : Hid (_) := app_on bA5 (oB.below b5) (cm := c5) (O5.src' (n := 2) rfl) (N := 4) rfl (by simp)
        clear oB O5 b5 HWA HWB
        go_wp2_with (at_builtin; refine wpList_app2 rfl (.tmp 59) (.tmp 62) 29 29 rfl rfl rfl A6.out ?_; rintro g6 c6 w6 hR1; have HR6 : Hid (_) := hR1; clear hR1)
        go_ret2
        have O6 : Own w6 wA.heap.size 5 .u8 g6 c6 (maxL n) := HR6.out.1
        have bA6 : Below wA.heap.size wA w6 := HR6.out.2.1
        have bo6 : Below wo.heap.size wo w6 := bA.trans (bA6.mono bA.size)
        have s6 := bo6.size
        obtain ⟨am, cm, em, L1⟩ := own_tab5 (own_v O6 (n := 6) rfl) (maxL_byt n) (Nat.le_trans (Nat.le_of_eq (maxL_len n)) (by omega))
        rw [maxL_len] at em L1
        simp only [Value.slice.injEq, true_and] at em
        obtain ⟨rfl, rfl⟩ := em
        have k6 : w6.heap[wo.heap.size]? = some (.cells #[.string hdT, .string mxT, .string lcT, .string gfT] 9) := Below.blk bA6 kA (by omega)
        obtain ⟨T, h0, h1, h2, h3⟩ := four ⟨some ⟨w.heap.size, 0, none⟩, 54, 54, zb (headL u b)⟩ ⟨some ⟨g6, 0, none⟩, 6, c6, zb (maxL n)⟩ ⟨al, ll, cl, zb (locB t b (n + 1))⟩ ⟨ag, gn, cg, zb (glyB t n)⟩
        have HC : Hid (#[Value.slice (some ⟨w.heap.size, 0, none⟩) 54 54, .slice (some ⟨g6, 0, none⟩) 6 c6, .slice al ll cl, .slice ag gn cg] = arr 4 fun i => .slice (T i).a (T i).l (T i).c) := by
          show _ = _
          rw [arr4, h0, h1, h2, h3]
        refine ⟨wo.heap.size, w6.heap.size, T, rfl, ?_, by omega, ⟨?_, ?_, ?_⟩, ⟨by rw [h0]; exact ⟨rfl, rfl⟩, by rw [h1]; exact ⟨rfl, rfl⟩, by rw [h2]; exact ⟨hll.out.symm, rfl⟩, by rw [h3]; exact ⟨hgn.out.symm, rfl⟩⟩⟩
        · exact (hB.trans (bo6.mono hB2)).alloc (by omega) _
        · exact blk_alloc k6 _
        · rw [← HC.out]
          exact blk_new _ _
        · intro i hi
          have S1 := Same5.of_below bo6
          have S2 : Same5 w6 (w6.alloc (.cells #[.slice (some ⟨w.heap.size, 0, none⟩) 54 54, .slice (some ⟨g6, 0, none⟩) 6 c6, .slice al ll cl, .slice ag gn cg] 29)) := Same5.of_below ((Below.refl _ _).alloc (Nat.le_refl _) _)
          rcases (show i = 0 ∨ i = 1 ∨ i = 2 ∨ i = 3 by omega) with rfl | rfl | rfl | rfl
          · rw [h0]; exact (L0.same S1).same S2
          · rw [h1]; exact L1.same S2
          · rw [h2]; exact (L2.same S1).same S2
          · rw [h3]; exact (L3.same S1).same S2
end Go.Proofs.Ytninhcnpjadjpaa
