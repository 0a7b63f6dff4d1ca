/-
  FlateTells' own walk.
-/
import Derived.Test.YtahibacjaoohiaaDoorFew
import Derived.Test.YtahibacjaoohiaaDoorRE
import Derived.Deep.CutRange
import Derived.Deep.RegionHeld3
namespace Go.Proofs.YtahibacjaoohiaaDoor
open Go.RowKit

theorem Raws.below {w w' : World} {a : Option Addr} {len cap : Nat} {f : Nat → Nat → Int} (h : Raws w a len cap f) (hb : Below w.heap.size w w') : Raws w' a len cap f :=
  ⟨h.lc, h.reach, fun h0 => by
    obtain ⟨b, off, e, hlt, hc⟩ := h.spot h0
    refine ⟨b, off, e, by have := hb.size; omega, fun i hi => ?_⟩
    have g := fun o => World.cell?_of_block (w := w) (w' := w') (a := ⟨b, o, none⟩) (hb.block b hlt)
    rw [g, g, g]
    exact hc i hi⟩
set_option maxRecDepth 100000 in
set_option maxHeartbeats 6400000 in
theorem flateTells_walk (w : World) (a1 : Option Addr) (n1 c1 : Nat) (f1 : Nat → Nat → Int) (a2 : Option Addr) (n2 c2 : Nat) (z2 : Nat → Nat) (how : Int) (a3 : Option Addr) (n3 c3 : Nat) (f3 : Nat → Int) (by' cut most : Int)
    (hR1 : Raws w a1 n1 c1 f1) (hL2 : Lies w a2 n2 c2 z2) (hI : Ints w a3 n3 c3 f3) (hby : 0 ≤ by' ∧ by' < 256) (hn2 : n2 ≤ 140737488351232) (hT : Tab w) :
    Calls Tryd.prog 3 #[.slice a1 n1 c1, .slice a2 n2 c2, .int .i64 how, .slice a3 n3 c3, .int .u8 by', .int .i64 cut, .int .i64 most] w fun e w' => e = .returned (.bool true) ∧ Below w.heap.size w w' := by
  obtain ⟨y, rfl⟩ : ∃ y : Nat, by' = y := ⟨by'.toNat, by omega⟩
  have hy : y < 256 := by omega
  clear hby
  obtain ⟨h4, hh4⟩ : ∃ h, how.tmod 4 = h := ⟨_, rfl⟩
  have hreach := hI.reach
  go_enter Tryd.func3, Tryd.ntmps3
  go_upto_if 29 with (go_at_call 8; refine (few_up a2 n2 c2 n2 n2 z2 _ hL2 (by omega) (by omega) (by omega)).mono ?_; rintro e wA ⟨gA, cA, rfl, hOA, bA⟩)
  go_cut [15] from 16 to 76 (fun zv wx => ∃ (a : Option Addr) (l c : Nat) (zz : Nat → Nat), zv = .slice a l c ∧ Lies wx a l c zz ∧ Below w.heap.size w wx)
  case first =>
    by_cases hp : 0 < h4
    · go_wp2_with fail
      refine (fixed_any wA a1 n1 c1 f1 (hR1.below bA)).mono ?_
      rintro e wB ⟨vB, bs, at', okB, OB, rfl, hOB, bB, hInv, _, _, _, hat, hat17⟩
      have hlen := hInv.len
      obtain ⟨gC, cC, rfl, hOC'⟩ := hOB.own (by omega)
      obtain ⟨N, hN⟩ : ∃ N, Hid (bs.length = N) := ⟨_, rfl⟩
      have hN3 : 3 ≤ N := by rw [← hN.out]; omega
      have hNb : N ≤ 10000 := by rw [← hN.out]; omega
      have BC := bA.trans (bB.mono bA.size)
      have hOC : Own wB w.heap.size 5 .u8 gC cC bs := hOC'.mono bA.size
      have hbC : Hid (Byt bs) := hInv.byte
      obtain ⟨SS, hSS⟩ : ∃ S, S = Value.string (bstr (zb OB) OB.length) := ⟨_, rfl⟩
      rw [hN.out, ← hSS]
      clear hOC' hOB bB hInv hlen hat hat17 hSS
      go_wp2_with fail
      go_loopw [16] (fun v wq => ∃ (i : Nat) (ys : List Int), i ≤ 2 ∧ v = .int .i64 (i : Nat) ∧ Own wq w.heap.size 5 .u8 gC cC ys ∧ Hid (ys.length = N) ∧ Hid (Byt ys) ∧ Below w.heap.size w wq) (fun v _ => 2 - (intOf v).toNat)
      case atStart => exact ⟨0, _, by omega, rfl, hOC, hN.out, hbC.out, BC⟩
      case round =>
        clear hOC hbC BC
        obtain ⟨i, ys, hi2, rfl, hO, hl, hb, hB⟩ := hrel
        obtain ⟨NN, hNN⟩ : ∃ NN : Nat, ((N : Nat) : Int) + 1 = (NN : Nat) := ⟨N + 1, rfl⟩
        obtain ⟨k, hk⟩ : ∃ k, Hid (pickv cut NN = k) := ⟨_, rfl⟩
        have hkN : k ≤ N := by rw [← hk.out]; have := pickv_lt cut NN (by omega); omega
        have P3 : ∀ W, Calls Tryd.prog 10 #[.int .i64 cut, .int .i64 (NN : Nat)] W fun e w' => e = .returned (.int .i64 (k : Nat)) ∧ w' = W := fun W => by rw [← hk.out]; exact pick_big cut NN (by omega) (by omega) W
        have hL2r := hL2.below hB (Nat.le_refl _)
        by_cases q1 : i < n3
        · by_cases q2 : i < 2
          · by_cases q3 : 1 < h4
            · have q1' : (i : Int) < n3 := by omega
              have q2' : (i : Int) < 2 := by omega
              obtain ⟨b3, o3, rfl, hb3, hc3⟩ := hI.spot (by omega)
              have cI : wr.cell? ⟨b3, o3 + i, none⟩ = some (.int .i64 (f3 i)) := by
                rw [World.cell?_of_block (a := ⟨b3, o3 + i, none⟩) (hB.block b3 hb3)]; exact hc3 i q1
              obtain ⟨p, hp'⟩ : ∃ k, Hid (pickv (f3 i) N = k) := ⟨_, rfl⟩
              have hpN : p < N := by rw [← hp'.out]; exact pickv_lt (f3 i) N (by omega)
              have P4 : ∀ W, Calls Tryd.prog 10 #[.int .i64 (f3 i), .int .i64 (N : Nat)] W fun e w' => e = .returned (.int .i64 (p : Nat)) ∧ w' = W := fun W => by rw [← hp'.out]; exact pick_big (f3 i) N (by omega) (by omega) W
              obtain ⟨v, hv⟩ : ∃ v : Nat, Hid (ys.getD p 0 = (v : Nat)) := ⟨(ys.getD p 0).toNat, by show _ = _; have := hb.out p; omega⟩
              have hv256 : v < 256 := by have := hb.out p; rw [hv.out] at this; omega
              obtain ⟨X, hX, hX256, _⟩ := xor_u8 v y hv256 hy
              have cell := hO.cell (j := p) (by rw [hl.out]; omega)
              rw [hv.out] at cell
              have fr := hO.free p
              have hpN' : (p : Int) < N := by omega
              have hO2 : Own (wr.setCell ⟨gC, p, none⟩ (.int .u8 (X : Nat))) w.heap.size 5 .u8 gC cC (ys.set p ((X : Nat) : Int)) := hO.set p ((X : Nat) : Int)
              have hB2 : Below w.heap.size w (wr.setCell ⟨gC, p, none⟩ (.int .u8 (X : Nat))) := hB.setCell (p := ⟨gC, p, none⟩) hO.lt.1 _
              have hb2 : Hid (Byt (ys.set p ((X : Nat) : Int))) := byt_set hb.out p X hX256
              have hl2 : Hid ((ys.set p ((X : Nat) : Int)).length = N) := by show _ = _; rw [List.length_set, hl.out]
              obtain ⟨w2, hw2⟩ : ∃ W, W = wr.setCell ⟨gC, p, none⟩ (.int .u8 (X : Nat)) := ⟨_, rfl⟩
              rw [← hw2] at hO2 hB2
              have HO2 : Hid (Own w2 w.heap.size 5 .u8 gC cC (ys.set p ((X : Nat) : Int))) := hO2
              have HB2 : Hid (Below w.heap.size w w2) := hB2
              have HW2 : Hid (w2 = _) := hw2
              clear hc3 hO2 hB2 hw2 hO hB P3 hNN hL2r
              go_wp2_with (first
                | (go_at_call 10; refine (P4 _).mono ?_; rintro e w' ⟨rfl, rfl⟩)
                | (rw [← HW2.out]))
              exact ⟨⟨i + 1, _, by omega, by go_num, HO2.out, hl2, hb2, HB2.out⟩, by simp [intOf]; omega⟩
            · have q1' : (i : Int) < n3 := by omega
              have q2' : (i : Int) < 2 := by omega
              by_cases c4 : h4 = 3
              · omega
              · have c4b : (h4 == 3) = false := by rw [beq_eq_false_iff_ne]; exact c4
                have HA : Hid (_) := app_on (cm := c2) hB hO (Own.srcB hL2r) hl.out (by rw [hl.out]; omega)
                clear hO c4 P3
                go_wp2_with (at_builtin; refine wpList_append_ex rfl (.tmp 74) (.tmp 75) 23 rfl rfl rfl HA.out ?_; rintro gx cx wx hR1; have HR : Hid (_) := hR1; clear hR1)
                go_meet
                case rel =>
                  have HRO : Own wx w.heap.size 5 .u8 gx cx (ys ++ byt z2 0 n2) := HR.out.1
                  have HL := HRO.liesB (Byt.append hb.out (byt_of hL2.byte)) (by rw [List.length_append, hl.out, byt_len]; omega)
                  rw [List.length_append, hl.out, byt_len] at HL
                  exact ⟨_, _, _, _, rfl, HL, HR.out.2.1⟩
          · have q1' : (i : Int) < n3 := by omega
            have q2' : ¬ (i : Int) < 2 := by omega
            by_cases c4 : h4 = 3
            · have c4b : (h4 == 3) = true := by rw [beq_iff_eq]; exact c4
              have hkc : (k : Int) ≤ cC := by have := hO.lc; have := hl.out; omega
              have hkl : k ≤ ys.length := by rw [hl.out]; omega
              have hO3 := hO.take hkl
              have hb3 := byt_take hb.out k
              have hl3 : (ys.take k).length = k := by rw [List.length_take]; omega
              have HA : Hid (_) := app_on (cm := c2) hB hO3 (Own.srcB hL2r) hl3 (by rw [hl3]; omega)
              clear hO hO3 c4
              go_wp2_with (first
                | (go_at_call 10; refine (P3 _).mono ?_; rintro e w' ⟨rfl, rfl⟩)
                | (at_builtin; refine wpList_append_ex rfl (.tmp 74) (.tmp 75) 23 rfl rfl rfl HA.out ?_; rintro gx cx wx hR1; have HR : Hid (_) := hR1; clear hR1))
              go_meet
              case rel =>
                have HRO : Own wx w.heap.size 5 .u8 gx cx (ys.take k ++ byt z2 0 n2) := HR.out.1
                have HL := HRO.liesB (Byt.append hb3 (byt_of hL2.byte)) (by rw [List.length_append, hl3, byt_len]; omega)
                rw [List.length_append, hl3, byt_len] at HL
                exact ⟨_, _, _, _, rfl, HL, HR.out.2.1⟩
            · have c4b : (h4 == 3) = false := by rw [beq_eq_false_iff_ne]; exact c4
              have HA : Hid (_) := app_on (cm := c2) hB hO (Own.srcB hL2r) hl.out (by rw [hl.out]; omega)
              clear hO c4 P3
              go_wp2_with (at_builtin; refine wpList_append_ex rfl (.tmp 74) (.tmp 75) 23 rfl rfl rfl HA.out ?_; rintro gx cx wx hR1; have HR : Hid (_) := hR1; clear hR1)
              go_meet
              case rel =>
                have HRO : Own wx w.heap.size 5 .u8 gx cx (ys ++ byt z2 0 n2) := HR.out.1
                have HL := HRO.liesB (Byt.append hb.out (byt_of hL2.byte)) (by rw [List.length_append, hl.out, byt_len]; omega)
                rw [List.length_append, hl.out, byt_len] at HL
                exact ⟨_, _, _, _, rfl, HL, HR.out.2.1⟩
        · have q1' : ¬ (i : Int) < n3 := by omega
          by_cases c4 : h4 = 3
          · have c4b : (h4 == 3) = true := by rw [beq_iff_eq]; exact c4
            have hkc : (k : Int) ≤ cC := by have := hO.lc; have := hl.out; omega
            have hkl : k ≤ ys.length := by rw [hl.out]; omega
            have hO3 := hO.take hkl
            have hb3 := byt_take hb.out k
            have hl3 : (ys.take k).length = k := by rw [List.length_take]; omega
            have HA : Hid (_) := app_on (cm := c2) hB hO3 (Own.srcB hL2r) hl3 (by rw [hl3]; omega)
            clear hO hO3 c4
            go_wp2_with (first
              | (go_at_call 10; refine (P3 _).mono ?_; rintro e w' ⟨rfl, rfl⟩)
              | (at_builtin; refine wpList_append_ex rfl (.tmp 74) (.tmp 75) 23 rfl rfl rfl HA.out ?_; rintro gx cx wx hR1; have HR : Hid (_) := hR1; clear hR1))
            go_meet
            case rel =>
              have HRO : Own wx w.heap.size 5 .u8 gx cx (ys.take k ++ byt z2 0 n2) := HR.out.1
              have HL := HRO.liesB (Byt.append hb3 (byt_of hL2.byte)) (by rw [List.length_append, hl3, byt_len]; omega)
              rw [List.length_append, hl3, byt_len] at HL
              exact ⟨_, _, _, _, rfl, HL, HR.out.2.1⟩
          · have c4b : (h4 == 3) = false := by rw [beq_eq_false_iff_ne]; exact c4
            have HA : Hid (_) := app_on (cm := c2) hB hO (Own.srcB hL2r) hl.out (by rw [hl.out]; omega)
            clear hO c4 P3
            go_wp2_with (at_builtin; refine wpList_append_ex rfl (.tmp 74) (.tmp 75) 23 rfl rfl rfl HA.out ?_; rintro gx cx wx hR1; have HR : Hid (_) := hR1; clear hR1)
            go_meet
            case rel =>
              have HRO : Own wx w.heap.size 5 .u8 gx cx (ys ++ byt z2 0 n2) := HR.out.1
              have HL := HRO.liesB (Byt.append hb.out (byt_of hL2.byte)) (by rw [List.length_append, hl.out, byt_len]; omega)
              rw [List.length_append, hl.out, byt_len] at HL
              exact ⟨_, _, _, _, rfl, HL, HR.out.2.1⟩
    · have hLA := hOA.liesB (byt_of hL2.byte) (by rw [byt_len]; omega)
      rw [byt_len] at hLA
      have HLA : Hid (_) := hLA
      clear hLA hOA
      go_wp2
      go_meet
      case rel => exact ⟨_, _, _, _, rfl, HLA.out, bA⟩
  case rest =>
    obtain ⟨az, lz, cz, zz, rfl, hLz, BZ⟩ := hcut
    have hL2c := hL2.below BZ (Nat.le_refl _)
    have hTc := hT.below BZ hT.pos
    obtain ⟨p, hp⟩ : ∃ k, Hid (pickv most 3000 = k) := ⟨_, rfl⟩
    have hpN : p < 3000 := by rw [← hp.out]; exact pickv_lt most 3000 (by omega)
    have P5 : ∀ W, Calls Tryd.prog 10 #[.int .i64 most, .int .i64 3000] W fun e w' => e = .returned (.int .i64 (p : Nat)) ∧ w' = W := fun W => by rw [← hp.out]; exact pick_big most 3000 (by omega) (by omega) W
    obtain ⟨mo, hmo⟩ : ∃ mo : Int, ((p : Nat) : Int) - 5 = mo := ⟨_, rfl⟩
    obtain ⟨m, hmm⟩ : ∃ m : Nat, Hid ((m : Int) = if mo < 0 then 0 else mo) := ⟨mo.toNat, by show _ = _; split <;> omega⟩
    have hmN : m ≤ 3000 := by have := hmm.out; split at this <;> omega
    clear hh4 hR1 hL2 hI hOA bA hT
    go_wp2_with fail
    refine (P5 _).mono ?_
    rintro e w' ⟨rfl, rfl⟩
    clear P5
    go_wp2_with fail
    refine (inflate_any az lz cz zz mo m hmm.out (by omega) _ hLz hTc).mono ?_
    intro e wD hD
    obtain ⟨bD, ad, cd, rfl, LD⟩ := hD.told (by omega)
    have BD := BZ.trans (bD.mono BZ.size)
    have hLzD := hLz.below bD (Nat.le_refl _)
    have hL2D := hL2c.below bD (Nat.le_refl _)
    have hTD := hTc.below bD hTc.pos
    clear hD bD BZ hLz hL2c hTc
    obtain ⟨KE, hKE⟩ : ∃ k, Hid (errI (inflE zz lz m) = k) := ⟨_, rfl⟩
    obtain ⟨NE, hNE⟩ : ∃ k, Hid (numI (inflE zz lz m) = k) := ⟨_, rfl⟩
    obtain ⟨O, hOE⟩ : ∃ k, Hid (outI (inflE zz lz m) = k) := ⟨_, rfl⟩
    rw [hOE.out] at LD
    rw [hKE.out, hOE.out, hNE.out]
    go_wp2_with fail
    refine (rinflate_any az lz cz zz mo m hmm.out (by omega) _ hLzD).mono ?_
    intro e wE hE
    obtain ⟨bE, ae, ce, rfl, LE⟩ := hE.told (by omega)
    have BE := BD.trans (bE.mono BD.size)
    have LDE := LD.below bE (Nat.le_refl _)
    have hL2E := hL2D.below bE (Nat.le_refl _)
    have hTE := hTD.below bE hTD.pos
    rw [hOE.out] at LE
    rw [hKE.out, hOE.out, hNE.out]
    clear hE bE BD hLzD hL2D hTD LD
    obtain ⟨LO, hLO⟩ : ∃ k, Hid (O.length = k) := ⟨_, rfl⟩
    rw [hLO.out] at LE LDE ⊢
    clear hmo
    go_wp2_with fail
    have DT : Tab wE.drew := hTE
    have D1 : Lies wE.drew ad LO cd (zb O) := ⟨LDE.lc, LDE.reach, LDE.byte, LDE.spot⟩
    have D2 : Lies wE.drew ae LO ce (zb O) := ⟨LE.lc, LE.reach, LE.byte, LE.spot⟩
    have D3 : Lies wE.drew a2 n2 c2 z2 := ⟨hL2E.lc, hL2E.reach, hL2E.byte, hL2E.spot⟩
    have DB : Below w.heap.size w wE.drew := BE.trans ⟨rfl, rfl, rfl, Nat.le_refl _, fun _ _ => rfl⟩
    obtain ⟨wd, hwd⟩ : ∃ wd, wd = wE.drew := ⟨_, rfl⟩
    rw [← hwd] at DT D1 D2 D3 DB
    obtain ⟨T, hTT⟩ : ∃ T, Hid (bstr (zb O) LO = T) := ⟨_, rfl⟩
    have hSb := stL_byt hL2E.byte n2 n2 0 (by omega)
    have hSn := stL_len z2 n2 n2 0 (by omega)
    obtain ⟨S, hS⟩ : ∃ S, Hid (stL z2 n2 0 = S) := ⟨_, rfl⟩
    obtain ⟨N0, hN0⟩ : ∃ N, Hid (S.length = N) := ⟨_, rfl⟩
    have hN0b : Hid (N0 ≤ 150000000000000) := by show _ ≤ _; rw [← hN0.out, ← hS.out]; omega
    have hSb' : Hid (Byt S) := by show Byt S; rw [← hS.out]; exact hSb
    obtain ⟨U, hU⟩ : ∃ T, Hid (bstr (zb S) N0 = T) := ⟨_, rfl⟩
    have LA : ∀ W, Lies W a2 n2 c2 z2 → Calls Tryd.prog 14 #[.slice a2 n2 c2] W fun e w' => ∃ g c, e = .returned (.slice (some ⟨g, 0, none⟩) N0 c) ∧ (convert 23 9 (.slice (some ⟨g, 0, none⟩) N0 c)).run Tryd.prog w' = .ok (.string U) w' ∧ Lies w' (some ⟨g, 0, none⟩) N0 c (zb S) ∧ Below W.heap.size W w' := fun W h => by
      have := stored_go a2 n2 c2 z2 W h (by omega)
      rw [hS.out, hN0.out] at this
      refine this.mono ?_
      rintro e w' ⟨g, c, he, hO, hb⟩
      have hl := hO.liesB hSb'.out (by rw [hN0.out]; exact hN0b.out)
      rw [hN0.out] at hl
      have hc := conv_string hl
      rw [hU.out] at hc
      exact ⟨g, c, he, hc, hl, hb⟩
    have LR : ∀ W, Lies W a2 n2 c2 z2 → Calls Tryd.prog 15 #[.slice a2 n2 c2] W fun e w' => ∃ g c, e = .returned (.slice (some ⟨g, 0, none⟩) N0 c) ∧ (convert 23 9 (.slice (some ⟨g, 0, none⟩) N0 c)).run Tryd.prog w' = .ok (.string U) w' ∧ Below W.heap.size W w' := fun W h => by
      have := rstd_any a2 n2 c2 z2 W h (by omega)
      rw [hS.out, hN0.out] at this
      refine this.mono ?_
      rintro e w' ⟨g, c, he, hO, hb⟩
      have hl := hO.liesB hSb'.out (by rw [hN0.out]; exact hN0b.out)
      rw [hN0.out] at hl
      have hc := conv_string hl
      rw [hU.out] at hc
      exact ⟨g, c, he, hc, hb⟩
    have KN : Calls Tryd.prog 13 #[] wd fun e w' => e = .returned (.bool true) ∧ (convert 23 9 (.slice ad LO cd)).run Tryd.prog w' = .ok (.string T) w' ∧ (convert 23 9 (.slice ae LO ce)).run Tryd.prog w' = .ok (.string T) w' ∧ Lies w' a2 n2 c2 z2 ∧ Below w.heap.size w w' := (known_any wd DT).mono fun e w' ⟨he, hb⟩ => by
      have k1 := conv_string (D1.below hb (Nat.le_refl _))
      have k2 := conv_string (D2.below hb (Nat.le_refl _))
      rw [hTT.out] at k1 k2
      exact ⟨he, k1, k2, D3.below hb (Nat.le_refl _), DB.trans (hb.mono DB.size)⟩
    rw [hwd] at KN
    have CV : ∀ W g c, Lies W (some ⟨g, 0, none⟩) N0 c (zb S) → (convert 23 9 (.slice (some ⟨g, 0, none⟩) N0 c)).run Tryd.prog W = .ok (.string U) W := fun W g c h => by rw [← hU.out]; exact conv_string h
    clear hwd DT D1 D2 D3 DB LDE LE hL2E hTE BE hSb hSn hN0b hSb' hmm hn2 hmN hreach hy
    refine wp_region_held_drew (S := fun _ => True) (by kernel_rfl) trivial (fun _ => ?_)
    refine wpAnyH_ready (rs := [0]) (by kernel_rfl) (by simp) ?_
    refine AllReadyH.cons (o := { dst := some 94, op := Op.call { callee := Callee.value (Operand.func 13), args := #[], argTypes := #[] }, type := 4, pos := "law.go:151", after := #[], guard := none }) rfl (fun K hK => ?_) ?_
    · go_simp
      go_at_call 13
      refine KN.mono ?_
      rintro e wF ⟨rfl, kF1, kF2, LF, BF⟩
      go_wp2_with fail
      refine hK.out _ _ trivial (fun _ => ?_)
      clear hK K
      try simp only [Act.put, List.setIfInBounds_toArray, List.set_cons_zero, List.set_cons_succ]
      refine wpAnyH_take (i := 1) (oi := { dst := some 95, op := Op.move (Operand.tmp 94), type := 4, pos := "law.go:151", after := #[{ on := 0, ground := Ground.data }, { on := 0, ground := Ground.chain }], guard := none }) (v := ?_) rfl (by kernel_rfl) (by kernel_rfl) (by kernel_rfl) (fun _ _ _ h => h) (Or.inl ⟨by rfl, ?_⟩) trivial ?_
      rotate_left
      · (intro w' hSw; go_simp) <;> with_reducible rfl
      try simp only [Act.put, List.setIfInBounds_toArray, List.set_cons_zero, List.set_cons_succ]
      refine wpAnyH_take (i := 2) (oi := { dst := some 96, op := Op.move (Operand.tmp 19), type := 29, pos := "law.go:151", after := #[{ on := 1, ground := Ground.guard }], guard := some (1, true) }) (v := ?_) rfl (by kernel_rfl) (by kernel_rfl) (by kernel_rfl) (fun _ _ _ h => h) (Or.inl ⟨by rfl, ?_⟩) trivial ?_
      rotate_left
      · (intro w' hSw; go_simp) <;> with_reducible rfl
      try simp only [Act.put, List.setIfInBounds_toArray, List.set_cons_zero, List.set_cons_succ]
      refine wpAnyH_take (i := 3) (oi := { dst := some 97, op := Op.move (Operand.tmp 22), type := 29, pos := "law.go:151", after := #[{ on := 1, ground := Ground.guard }], guard := some (1, true) }) (v := ?_) rfl (by kernel_rfl) (by kernel_rfl) (by kernel_rfl) (fun _ _ _ h => h) (Or.inl ⟨by rfl, ?_⟩) trivial ?_
      rotate_left
      · (intro w' hSw; go_simp) <;> with_reducible rfl
      try simp only [Act.put, List.setIfInBounds_toArray, List.set_cons_zero, List.set_cons_succ]
      refine wpAnyH_take (i := 4) (oi := { dst := some 98, op := Op.binOp BinOp.eql 29 (Operand.tmp 96) (Operand.tmp 97) 29, type := 4, pos := "law.go:151", after := #[{ on := 2, ground := Ground.data }, { on := 3, ground := Ground.data }, { on := 1, ground := Ground.guard }], guard := some (1, true) }) (v := ?_) rfl (by kernel_rfl) (by kernel_rfl) (by kernel_rfl) (fun _ _ _ h => h) (Or.inl ⟨by rfl, ?_⟩) trivial ?_
      rotate_left
      · (intro w' hSw; go_simp) <;> with_reducible rfl
      try simp only [Act.put, List.setIfInBounds_toArray, List.set_cons_zero, List.set_cons_succ]
      refine wpAnyH_take (i := 5) (oi := { dst := some 99, op := Op.pick (Operand.tmp 95) (Operand.tmp 98) (Operand.const (Value.bool false)), type := 4, pos := "law.go:151", after := #[{ on := 1, ground := Ground.data }, { on := 4, ground := Ground.data }], guard := none }) (v := ?_) rfl (by kernel_rfl) (by kernel_rfl) (by kernel_rfl) (fun _ _ _ h => h) (Or.inl ⟨by rfl, ?_⟩) trivial ?_
      rotate_left
      · (intro w' hSw; go_simp) <;> with_reducible rfl
      try simp only [Act.put, List.setIfInBounds_toArray, List.set_cons_zero, List.set_cons_succ]
      refine wpAnyH_take (i := 6) (oi := { dst := some 100, op := Op.move (Operand.tmp 99), type := 4, pos := "law.go:151", after := #[{ on := 5, ground := Ground.data }, { on := 1, ground := Ground.chain }], guard := none }) (v := ?_) rfl (by kernel_rfl) (by kernel_rfl) (by kernel_rfl) (fun _ _ _ h => h) (Or.inl ⟨by rfl, ?_⟩) trivial ?_
      rotate_left
      · (intro w' hSw; go_simp) <;> with_reducible rfl
      try simp only [Act.put, List.setIfInBounds_toArray, List.set_cons_zero, List.set_cons_succ]
      refine wpAnyH_take (i := 7) (oi := { dst := some 101, op := Op.move (Operand.tmp 18), type := 3, pos := "law.go:151", after := #[{ on := 6, ground := Ground.guard }], guard := some (6, true) }) (v := ?_) rfl (by kernel_rfl) (by kernel_rfl) (by kernel_rfl) (fun _ _ _ h => h) (Or.inl ⟨by rfl, ?_⟩) trivial ?_
      rotate_left
      · (intro w' hSw; go_simp) <;> with_reducible rfl
      try simp only [Act.put, List.setIfInBounds_toArray, List.set_cons_zero, List.set_cons_succ]
      refine wpAnyH_take (i := 8) (oi := { dst := some 102, op := Op.move (Operand.tmp 21), type := 3, pos := "law.go:151", after := #[{ on := 6, ground := Ground.guard }], guard := some (6, true) }) (v := ?_) rfl (by kernel_rfl) (by kernel_rfl) (by kernel_rfl) (fun _ _ _ h => h) (Or.inl ⟨by rfl, ?_⟩) trivial ?_
      rotate_left
      · (intro w' hSw; go_simp) <;> with_reducible rfl
      try simp only [Act.put, List.setIfInBounds_toArray, List.set_cons_zero, List.set_cons_succ]
      refine wpAnyH_take (i := 9) (oi := { dst := some 103, op := Op.binOp BinOp.eql 3 (Operand.tmp 101) (Operand.tmp 102) 3, type := 4, pos := "law.go:151", after := #[{ on := 7, ground := Ground.data }, { on := 8, ground := Ground.data }, { on := 6, ground := Ground.guard }], guard := some (6, true) }) (v := ?_) rfl (by kernel_rfl) (by kernel_rfl) (by kernel_rfl) (fun _ _ _ h => h) (Or.inl ⟨by rfl, ?_⟩) trivial ?_
      rotate_left
      · (intro w' hSw; go_simp) <;> with_reducible rfl
      try simp only [Act.put, List.setIfInBounds_toArray, List.set_cons_zero, List.set_cons_succ]
      refine wpAnyH_take (i := 10) (oi := { dst := some 104, op := Op.pick (Operand.tmp 100) (Operand.tmp 103) (Operand.const (Value.bool false)), type := 4, pos := "law.go:151", after := #[{ on := 6, ground := Ground.data }, { on := 9, ground := Ground.data }], guard := none }) (v := ?_) rfl (by kernel_rfl) (by kernel_rfl) (by kernel_rfl) (fun _ _ _ h => h) (Or.inl ⟨by rfl, ?_⟩) trivial ?_
      rotate_left
      · (intro w' hSw; go_simp) <;> with_reducible rfl
      try simp only [Act.put, List.setIfInBounds_toArray, List.set_cons_zero, List.set_cons_succ]
      refine wpAnyH_take (i := 11) (oi := { dst := some 105, op := Op.move (Operand.tmp 104), type := 4, pos := "law.go:151", after := #[{ on := 10, ground := Ground.data }, { on := 6, ground := Ground.chain }], guard := none }) (v := ?_) rfl (by kernel_rfl) (by kernel_rfl) (by kernel_rfl) (fun _ _ _ h => h) (Or.inl ⟨by rfl, ?_⟩) trivial ?_
      rotate_left
      · (intro w' hSw; go_simp) <;> with_reducible rfl
      try simp only [Act.put, List.setIfInBounds_toArray, List.set_cons_zero, List.set_cons_succ]
      refine wpAnyH_take (i := 12) (oi := { dst := some 106, op := Op.move (Operand.tmp 17), type := 23, pos := "law.go:151", after := #[{ on := 11, ground := Ground.guard }], guard := some (11, true) }) (v := ?_) rfl (by kernel_rfl) (by kernel_rfl) (by kernel_rfl) (fun _ _ _ h => h) (Or.inl ⟨by rfl, ?_⟩) trivial ?_
      rotate_left
      · (intro w' hSw; go_simp) <;> with_reducible rfl
      try simp only [Act.put, List.setIfInBounds_toArray, List.set_cons_zero, List.set_cons_succ]
      refine wpAnyH_take (i := 14) (oi := { dst := some 108, op := Op.move (Operand.tmp 20), type := 23, pos := "law.go:151", after := #[{ on := 11, ground := Ground.guard }], guard := some (11, true) }) (v := ?_) rfl (by kernel_rfl) (by kernel_rfl) (by kernel_rfl) (fun _ _ _ h => h) (Or.inl ⟨by rfl, ?_⟩) trivial ?_
      rotate_left
      · (intro w' hSw; go_simp) <;> with_reducible rfl
      try simp only [Act.put, List.setIfInBounds_toArray, List.set_cons_zero, List.set_cons_succ]
      refine wpAnyH_ready (rs := [13, 15]) (by kernel_rfl) (by simp) ?_
      refine AllReadyH.cons (o := { dst := some 107, op := Op.convert 23 9 (Operand.tmp 106), type := 9, pos := "law.go:151", after := #[{ on := 12, ground := Ground.data }, { on := 11, ground := Ground.guard }], guard := some (11, true) }) rfl (fun K hK => ?_) ?_
      · go_simp
        refine hK.out _ _ trivial (fun _ => ?_)
        clear hK K
        try simp only [Act.put, List.setIfInBounds_toArray, List.set_cons_zero, List.set_cons_succ]
        refine wpAnyH_ready (rs := [15]) (by kernel_rfl) (by simp) ?_
        refine AllReadyH.cons (o := { dst := some 109, op := Op.convert 23 9 (Operand.tmp 108), type := 9, pos := "law.go:151", after := #[{ on := 14, ground := Ground.data }, { on := 11, ground := Ground.guard }], guard := some (11, true) }) rfl (fun K hK => ?_) ?_
        · go_simp
          refine hK.out _ _ trivial (fun _ => ?_)
          clear hK K
          try simp only [Act.put, List.setIfInBounds_toArray, List.set_cons_zero, List.set_cons_succ]
          refine wpAnyH_take (i := 16) (oi := { dst := some 110, op := Op.binOp BinOp.eql 9 (Operand.tmp 107) (Operand.tmp 109) 9, type := 4, pos := "law.go:151", after := #[{ on := 13, ground := Ground.data }, { on := 15, ground := Ground.data }, { on := 11, ground := Ground.guard }], guard := some (11, true) }) (v := ?_) rfl (by kernel_rfl) (by kernel_rfl) (by kernel_rfl) (fun _ _ _ h => h) (Or.inl ⟨by rfl, ?_⟩) trivial ?_
          rotate_left
          · (intro w' hSw; go_simp) <;> with_reducible rfl
          try simp only [Act.put, List.setIfInBounds_toArray, List.set_cons_zero, List.set_cons_succ]
          refine wpAnyH_take (i := 17) (oi := { dst := some 111, op := Op.pick (Operand.tmp 105) (Operand.tmp 110) (Operand.const (Value.bool false)), type := 4, pos := "law.go:151", after := #[{ on := 11, ground := Ground.data }, { on := 16, ground := Ground.data }], guard := none }) (v := ?_) rfl (by kernel_rfl) (by kernel_rfl) (by kernel_rfl) (fun _ _ _ h => h) (Or.inl ⟨by rfl, ?_⟩) trivial ?_
          rotate_left
          · (intro w' hSw; go_simp) <;> with_reducible rfl
          try simp only [Act.put, List.setIfInBounds_toArray, List.set_cons_zero, List.set_cons_succ]
          refine wpAnyH_take (i := 18) (oi := { dst := some 112, op := Op.move (Operand.tmp 111), type := 4, pos := "law.go:151", after := #[{ on := 17, ground := Ground.data }, { on := 11, ground := Ground.chain }], guard := none }) (v := ?_) rfl (by kernel_rfl) (by kernel_rfl) (by kernel_rfl) (fun _ _ _ h => h) (Or.inl ⟨by rfl, ?_⟩) trivial ?_
          rotate_left
          · (intro w' hSw; go_simp) <;> with_reducible rfl
          try simp only [Act.put, List.setIfInBounds_toArray, List.set_cons_zero, List.set_cons_succ]
          refine wpAnyH_take (i := 19) (oi := { dst := some 113, op := Op.move (Operand.tmp 1), type := 23, pos := "law.go:151", after := #[{ on := 18, ground := Ground.guard }], guard := some (18, true) }) (v := ?_) rfl (by kernel_rfl) (by kernel_rfl) (by kernel_rfl) (fun _ _ _ h => h) (Or.inl ⟨by rfl, ?_⟩) trivial ?_
          rotate_left
          · (intro w' hSw; go_simp) <;> with_reducible rfl
          try simp only [Act.put, List.setIfInBounds_toArray, List.set_cons_zero, List.set_cons_succ]
          refine wpAnyH_take (i := 22) (oi := { dst := some 116, op := Op.move (Operand.tmp 1), type := 23, pos := "law.go:151", after := #[{ on := 18, ground := Ground.guard }], guard := some (18, true) }) (v := ?_) rfl (by kernel_rfl) (by kernel_rfl) (by kernel_rfl) (fun _ _ _ h => h) (Or.inl ⟨by rfl, ?_⟩) trivial ?_
          rotate_left
          · (intro w' hSw; go_simp) <;> with_reducible rfl
          try simp only [Act.put, List.setIfInBounds_toArray, List.set_cons_zero, List.set_cons_succ]
          refine wpAnyH_ready (rs := [20]) (by kernel_rfl) (by simp) ?_
          refine AllReadyH.cons (o := { dst := some 114, op := Op.call { callee := Callee.value (Operand.func 14), args := #[Operand.tmp 113], argTypes := #[23] }, type := 23, pos := "law.go:151", after := #[{ on := 19, ground := Ground.data }, { on := 18, ground := Ground.chain }, { on := 18, ground := Ground.guard }], guard := some (18, true) }) rfl (fun K hK => ?_) ?_
          · go_simp
            go_at_call 14
            refine (LA _ LF).mono ?_
            rintro e wG ⟨gG, cG, rfl, kG, LG, bG⟩
            have LFG := LF.below bG (Nat.le_refl _)
            go_wp2_with fail
            refine hK.out _ _ trivial (fun _ => ?_)
            clear hK K
            try simp only [Act.put, List.setIfInBounds_toArray, List.set_cons_zero, List.set_cons_succ]
            refine wpAnyH_ready (rs := [21, 23]) (by kernel_rfl) (by simp) ?_
            refine AllReadyH.cons (o := { dst := some 115, op := Op.convert 23 9 (Operand.tmp 114), type := 9, pos := "law.go:151", after := #[{ on := 20, ground := Ground.data }, { on := 18, ground := Ground.guard }], guard := some (18, true) }) rfl (fun K hK => ?_) ?_
            · go_simp
              refine hK.out _ _ trivial (fun _ => ?_)
              clear hK K
              try simp only [Act.put, List.setIfInBounds_toArray, List.set_cons_zero, List.set_cons_succ]
              refine wpAnyH_ready (rs := [23]) (by kernel_rfl) (by simp) ?_
              refine AllReadyH.cons (o := { dst := some 117, op := Op.call { callee := Callee.value (Operand.func 15), args := #[Operand.tmp 116], argTypes := #[23] }, type := 23, pos := "law.go:151", after := #[{ on := 22, ground := Ground.data }, { on := 20, ground := Ground.chain }, { on := 18, ground := Ground.guard }], guard := some (18, true) }) rfl (fun K hK => ?_) ?_
              · go_simp
                go_at_call 15
                refine (LR _ LFG).mono ?_
                rintro e wH ⟨gH, cH, rfl, kH, bH⟩
                have kGH := CV _ _ _ (LG.below bH (Nat.le_refl _))
                go_wp2_with fail
                refine hK.out _ _ trivial (fun _ => ?_)
                clear hK K
                try simp only [Act.put, List.setIfInBounds_toArray, List.set_cons_zero, List.set_cons_succ]
                refine wpAnyH_ready (rs := [24]) (by kernel_rfl) (by simp) ?_
                refine AllReadyH.cons (o := { dst := some 118, op := Op.convert 23 9 (Operand.tmp 117), type := 9, pos := "law.go:151", after := #[{ on := 23, ground := Ground.data }, { on := 18, ground := Ground.guard }], guard := some (18, true) }) rfl (fun K hK => ?_) ?_
                · go_simp
                  refine hK.out _ _ trivial (fun _ => ?_)
                  clear hK K
                  try simp only [Act.put, List.setIfInBounds_toArray, List.set_cons_zero, List.set_cons_succ]
                  refine wpAnyH_take (i := 25) (oi := { dst := some 119, op := Op.binOp BinOp.eql 9 (Operand.tmp 115) (Operand.tmp 118) 9, type := 4, pos := "law.go:151", after := #[{ on := 21, ground := Ground.data }, { on := 24, ground := Ground.data }, { on := 18, ground := Ground.guard }], guard := some (18, true) }) (v := ?_) rfl (by kernel_rfl) (by kernel_rfl) (by kernel_rfl) (fun _ _ _ h => h) (Or.inl ⟨by rfl, ?_⟩) trivial ?_
                  rotate_left
                  · (intro w' hSw; go_simp) <;> with_reducible rfl
                  try simp only [Act.put, List.setIfInBounds_toArray, List.set_cons_zero, List.set_cons_succ]
                  refine wpAnyH_take (i := 26) (oi := { dst := some 120, op := Op.pick (Operand.tmp 112) (Operand.tmp 119) (Operand.const (Value.bool false)), type := 4, pos := "law.go:151", after := #[{ on := 18, ground := Ground.data }, { on := 25, ground := Ground.data }], guard := none }) (v := ?_) rfl (by kernel_rfl) (by kernel_rfl) (by kernel_rfl) (fun _ _ _ h => h) (Or.inl ⟨by rfl, ?_⟩) trivial ?_
                  rotate_left
                  · (intro w' hSw; go_simp) <;> with_reducible rfl
                  try simp only [Act.put, List.setIfInBounds_toArray, List.set_cons_zero, List.set_cons_succ]
                  refine wpAnyH_take (i := 27) (oi := { dst := some 14, op := Op.assign (Operand.tmp 120), type := 4, pos := "law.go:151", after := #[{ on := 26, ground := Ground.data }, { on := 23, ground := Ground.chain }, { on := 0, ground := Ground.phase }, { on := 1, ground := Ground.phase }, { on := 2, ground := Ground.phase }, { on := 3, ground := Ground.phase }, { on := 4, ground := Ground.phase }, { on := 5, ground := Ground.phase }, { on := 6, ground := Ground.phase }, { on := 7, ground := Ground.phase }, { on := 8, ground := Ground.phase }, { on := 9, ground := Ground.phase }, { on := 10, ground := Ground.phase }, { on := 11, ground := Ground.phase }, { on := 12, ground := Ground.phase }, { on := 13, ground := Ground.phase }, { on := 14, ground := Ground.phase }, { on := 15, ground := Ground.phase }, { on := 16, ground := Ground.phase }, { on := 17, ground := Ground.phase }, { on := 18, ground := Ground.phase }, { on := 19, ground := Ground.phase }, { on := 20, ground := Ground.phase }, { on := 21, ground := Ground.phase }, { on := 22, ground := Ground.phase }, { on := 23, ground := Ground.phase }, { on := 24, ground := Ground.phase }, { on := 25, ground := Ground.phase }, { on := 26, ground := Ground.phase }], guard := none }) (v := ?_) rfl (by kernel_rfl) (by kernel_rfl) (by kernel_rfl) (fun _ _ _ h => h) (Or.inl ⟨by rfl, ?_⟩) trivial ?_
                  rotate_left
                  · (intro w' hSw; go_simp) <;> with_reducible rfl
                  try simp only [Act.put, List.setIfInBounds_toArray, List.set_cons_zero, List.set_cons_succ]
                  refine wpAnyH_done (by kernel_rfl) ?_ _
                  have BG := BF.trans (bG.mono BF.size)
                  have BH := BG.trans (bH.mono BG.size)
                  go_wp2
                  go_ret
                  exact ⟨rfl, BH⟩
                exact AllReadyH.nil
              exact AllReadyH.nil
            refine AllReadyH.cons (o := { dst := some 117, op := Op.call { callee := Callee.value (Operand.func 15), args := #[Operand.tmp 116], argTypes := #[23] }, type := 23, pos := "law.go:151", after := #[{ on := 22, ground := Ground.data }, { on := 20, ground := Ground.chain }, { on := 18, ground := Ground.guard }], guard := some (18, true) }) rfl (fun K hK => ?_) ?_
            · go_simp
              go_at_call 15
              refine (LR _ LFG).mono ?_
              rintro e wH ⟨gH, cH, rfl, kH, bH⟩
              have kGH := CV _ _ _ (LG.below bH (Nat.le_refl _))
              go_wp2_with fail
              refine hK.out _ _ trivial (fun _ => ?_)
              clear hK K
              try simp only [Act.put, List.setIfInBounds_toArray, List.set_cons_zero, List.set_cons_succ]
              refine wpAnyH_ready (rs := [21, 24]) (by kernel_rfl) (by simp) ?_
              refine AllReadyH.cons (o := { dst := some 115, op := Op.convert 23 9 (Operand.tmp 114), type := 9, pos := "law.go:151", after := #[{ on := 20, ground := Ground.data }, { on := 18, ground := Ground.guard }], guard := some (18, true) }) rfl (fun K hK => ?_) ?_
              · go_simp
                refine hK.out _ _ trivial (fun _ => ?_)
                clear hK K
                try simp only [Act.put, List.setIfInBounds_toArray, List.set_cons_zero, List.set_cons_succ]
                refine wpAnyH_ready (rs := [24]) (by kernel_rfl) (by simp) ?_
                refine AllReadyH.cons (o := { dst := some 118, op := Op.convert 23 9 (Operand.tmp 117), type := 9, pos := "law.go:151", after := #[{ on := 23, ground := Ground.data }, { on := 18, ground := Ground.guard }], guard := some (18, true) }) rfl (fun K hK => ?_) ?_
                · go_simp
                  refine hK.out _ _ trivial (fun _ => ?_)
                  clear hK K
                  try simp only [Act.put, List.setIfInBounds_toArray, List.set_cons_zero, List.set_cons_succ]
                  refine wpAnyH_take (i := 25) (oi := { dst := some 119, op := Op.binOp BinOp.eql 9 (Operand.tmp 115) (Operand.tmp 118) 9, type := 4, pos := "law.go:151", after := #[{ on := 21, ground := Ground.data }, { on := 24, ground := Ground.data }, { on := 18, ground := Ground.guard }], guard := some (18, true) }) (v := ?_) rfl (by kernel_rfl) (by kernel_rfl) (by kernel_rfl) (fun _ _ _ h => h) (Or.inl ⟨by rfl, ?_⟩) trivial ?_
                  rotate_left
                  · (intro w' hSw; go_simp) <;> with_reducible rfl
                  try simp only [Act.put, List.setIfInBounds_toArray, List.set_cons_zero, List.set_cons_succ]
                  refine wpAnyH_take (i := 26) (oi := { dst := some 120, op := Op.pick (Operand.tmp 112) (Operand.tmp 119) (Operand.const (Value.bool false)), type := 4, pos := "law.go:151", after := #[{ on := 18, ground := Ground.data }, { on := 25, ground := Ground.data }], guard := none }) (v := ?_) rfl (by kernel_rfl) (by kernel_rfl) (by kernel_rfl) (fun _ _ _ h => h) (Or.inl ⟨by rfl, ?_⟩) trivial ?_
                  rotate_left
                  · (intro w' hSw; go_simp) <;> with_reducible rfl
                  try simp only [Act.put, List.setIfInBounds_toArray, List.set_cons_zero, List.set_cons_succ]
                  refine wpAnyH_take (i := 27) (oi := { dst := some 14, op := Op.assign (Operand.tmp 120), type := 4, pos := "law.go:151", after := #[{ on := 26, ground := Ground.data }, { on := 23, ground := Ground.chain }, { on := 0, ground := Ground.phase }, { on := 1, ground := Ground.phase }, { on := 2, ground := Ground.phase }, { on := 3, ground := Ground.phase }, { on := 4, ground := Ground.phase }, { on := 5, ground := Ground.phase }, { on := 6, ground := Ground.phase }, { on := 7, ground := Ground.phase }, { on := 8, ground := Ground.phase }, { on := 9, ground := Ground.phase }, { on := 10, ground := Ground.phase }, { on := 11, ground := Ground.phase }, { on := 12, ground := Ground.phase }, { on := 13, ground := Ground.phase }, { on := 14, ground := Ground.phase }, { on := 15, ground := Ground.phase }, { on := 16, ground := Ground.phase }, { on := 17, ground := Ground.phase }, { on := 18, ground := Ground.phase }, { on := 19, ground := Ground.phase }, { on := 20, ground := Ground.phase }, { on := 21, ground := Ground.phase }, { on := 22, ground := Ground.phase }, { on := 23, ground := Ground.phase }, { on := 24, ground := Ground.phase }, { on := 25, ground := Ground.phase }, { on := 26, ground := Ground.phase }], guard := none }) (v := ?_) rfl (by kernel_rfl) (by kernel_rfl) (by kernel_rfl) (fun _ _ _ h => h) (Or.inl ⟨by rfl, ?_⟩) trivial ?_
                  rotate_left
                  · (intro w' hSw; go_simp) <;> with_reducible rfl
                  try simp only [Act.put, List.setIfInBounds_toArray, List.set_cons_zero, List.set_cons_succ]
                  refine wpAnyH_done (by kernel_rfl) ?_ _
                  have BG := BF.trans (bG.mono BF.size)
                  have BH := BG.trans (bH.mono BG.size)
                  go_wp2
                  go_ret
                  exact ⟨rfl, BH⟩
                exact AllReadyH.nil
              refine AllReadyH.cons (o := { dst := some 118, op := Op.convert 23 9 (Operand.tmp 117), type := 9, pos := "law.go:151", after := #[{ on := 23, ground := Ground.data }, { on := 18, ground := Ground.guard }], guard := some (18, true) }) rfl (fun K hK => ?_) ?_
              · go_simp
                refine hK.out _ _ trivial (fun _ => ?_)
                clear hK K
                try simp only [Act.put, List.setIfInBounds_toArray, List.set_cons_zero, List.set_cons_succ]
                refine wpAnyH_ready (rs := [21]) (by kernel_rfl) (by simp) ?_
                refine AllReadyH.cons (o := { dst := some 115, op := Op.convert 23 9 (Operand.tmp 114), type := 9, pos := "law.go:151", after := #[{ on := 20, ground := Ground.data }, { on := 18, ground := Ground.guard }], guard := some (18, true) }) rfl (fun K hK => ?_) ?_
                · go_simp
                  refine hK.out _ _ trivial (fun _ => ?_)
                  clear hK K
                  try simp only [Act.put, List.setIfInBounds_toArray, List.set_cons_zero, List.set_cons_succ]
                  refine wpAnyH_take (i := 25) (oi := { dst := some 119, op := Op.binOp BinOp.eql 9 (Operand.tmp 115) (Operand.tmp 118) 9, type := 4, pos := "law.go:151", after := #[{ on := 21, ground := Ground.data }, { on := 24, ground := Ground.data }, { on := 18, ground := Ground.guard }], guard := some (18, true) }) (v := ?_) rfl (by kernel_rfl) (by kernel_rfl) (by kernel_rfl) (fun _ _ _ h => h) (Or.inl ⟨by rfl, ?_⟩) trivial ?_
                  rotate_left
                  · (intro w' hSw; go_simp) <;> with_reducible rfl
                  try simp only [Act.put, List.setIfInBounds_toArray, List.set_cons_zero, List.set_cons_succ]
                  refine wpAnyH_take (i := 26) (oi := { dst := some 120, op := Op.pick (Operand.tmp 112) (Operand.tmp 119) (Operand.const (Value.bool false)), type := 4, pos := "law.go:151", after := #[{ on := 18, ground := Ground.data }, { on := 25, ground := Ground.data }], guard := none }) (v := ?_) rfl (by kernel_rfl) (by kernel_rfl) (by kernel_rfl) (fun _ _ _ h => h) (Or.inl ⟨by rfl, ?_⟩) trivial ?_
                  rotate_left
                  · (intro w' hSw; go_simp) <;> with_reducible rfl
                  try simp only [Act.put, List.setIfInBounds_toArray, List.set_cons_zero, List.set_cons_succ]
                  refine wpAnyH_take (i := 27) (oi := { dst := some 14, op := Op.assign (Operand.tmp 120), type := 4, pos := "law.go:151", after := #[{ on := 26, ground := Ground.data }, { on := 23, ground := Ground.chain }, { on := 0, ground := Ground.phase }, { on := 1, ground := Ground.phase }, { on := 2, ground := Ground.phase }, { on := 3, ground := Ground.phase }, { on := 4, ground := Ground.phase }, { on := 5, ground := Ground.phase }, { on := 6, ground := Ground.phase }, { on := 7, ground := Ground.phase }, { on := 8, ground := Ground.phase }, { on := 9, ground := Ground.phase }, { on := 10, ground := Ground.phase }, { on := 11, ground := Ground.phase }, { on := 12, ground := Ground.phase }, { on := 13, ground := Ground.phase }, { on := 14, ground := Ground.phase }, { on := 15, ground := Ground.phase }, { on := 16, ground := Ground.phase }, { on := 17, ground := Ground.phase }, { on := 18, ground := Ground.phase }, { on := 19, ground := Ground.phase }, { on := 20, ground := Ground.phase }, { on := 21, ground := Ground.phase }, { on := 22, ground := Ground.phase }, { on := 23, ground := Ground.phase }, { on := 24, ground := Ground.phase }, { on := 25, ground := Ground.phase }, { on := 26, ground := Ground.phase }], guard := none }) (v := ?_) rfl (by kernel_rfl) (by kernel_rfl) (by kernel_rfl) (fun _ _ _ h => h) (Or.inl ⟨by rfl, ?_⟩) trivial ?_
                  rotate_left
                  · (intro w' hSw; go_simp) <;> with_reducible rfl
                  try simp only [Act.put, List.setIfInBounds_toArray, List.set_cons_zero, List.set_cons_succ]
                  refine wpAnyH_done (by kernel_rfl) ?_ _
                  have BG := BF.trans (bG.mono BF.size)
                  have BH := BG.trans (bH.mono BG.size)
                  go_wp2
                  go_ret
                  exact ⟨rfl, BH⟩
                exact AllReadyH.nil
              exact AllReadyH.nil
            exact AllReadyH.nil
          exact AllReadyH.nil
        exact AllReadyH.nil
      refine AllReadyH.cons (o := { dst := some 109, op := Op.convert 23 9 (Operand.tmp 108), type := 9, pos := "law.go:151", after := #[{ on := 14, ground := Ground.data }, { on := 11, ground := Ground.guard }], guard := some (11, true) }) rfl (fun K hK => ?_) ?_
      · go_simp
        refine hK.out _ _ trivial (fun _ => ?_)
        clear hK K
        try simp only [Act.put, List.setIfInBounds_toArray, List.set_cons_zero, List.set_cons_succ]
        refine wpAnyH_ready (rs := [13]) (by kernel_rfl) (by simp) ?_
        refine AllReadyH.cons (o := { dst := some 107, op := Op.convert 23 9 (Operand.tmp 106), type := 9, pos := "law.go:151", after := #[{ on := 12, ground := Ground.data }, { on := 11, ground := Ground.guard }], guard := some (11, true) }) rfl (fun K hK => ?_) ?_
        · go_simp
          refine hK.out _ _ trivial (fun _ => ?_)
          clear hK K
          try simp only [Act.put, List.setIfInBounds_toArray, List.set_cons_zero, List.set_cons_succ]
          refine wpAnyH_take (i := 16) (oi := { dst := some 110, op := Op.binOp BinOp.eql 9 (Operand.tmp 107) (Operand.tmp 109) 9, type := 4, pos := "law.go:151", after := #[{ on := 13, ground := Ground.data }, { on := 15, ground := Ground.data }, { on := 11, ground := Ground.guard }], guard := some (11, true) }) (v := ?_) rfl (by kernel_rfl) (by kernel_rfl) (by kernel_rfl) (fun _ _ _ h => h) (Or.inl ⟨by rfl, ?_⟩) trivial ?_
          rotate_left
          · (intro w' hSw; go_simp) <;> with_reducible rfl
          try simp only [Act.put, List.setIfInBounds_toArray, List.set_cons_zero, List.set_cons_succ]
          refine wpAnyH_take (i := 17) (oi := { dst := some 111, op := Op.pick (Operand.tmp 105) (Operand.tmp 110) (Operand.const (Value.bool false)), type := 4, pos := "law.go:151", after := #[{ on := 11, ground := Ground.data }, { on := 16, ground := Ground.data }], guard := none }) (v := ?_) rfl (by kernel_rfl) (by kernel_rfl) (by kernel_rfl) (fun _ _ _ h => h) (Or.inl ⟨by rfl, ?_⟩) trivial ?_
          rotate_left
          · (intro w' hSw; go_simp) <;> with_reducible rfl
          try simp only [Act.put, List.setIfInBounds_toArray, List.set_cons_zero, List.set_cons_succ]
          refine wpAnyH_take (i := 18) (oi := { dst := some 112, op := Op.move (Operand.tmp 111), type := 4, pos := "law.go:151", after := #[{ on := 17, ground := Ground.data }, { on := 11, ground := Ground.chain }], guard := none }) (v := ?_) rfl (by kernel_rfl) (by kernel_rfl) (by kernel_rfl) (fun _ _ _ h => h) (Or.inl ⟨by rfl, ?_⟩) trivial ?_
          rotate_left
          · (intro w' hSw; go_simp) <;> with_reducible rfl
          try simp only [Act.put, List.setIfInBounds_toArray, List.set_cons_zero, List.set_cons_succ]
          refine wpAnyH_take (i := 19) (oi := { dst := some 113, op := Op.move (Operand.tmp 1), type := 23, pos := "law.go:151", after := #[{ on := 18, ground := Ground.guard }], guard := some (18, true) }) (v := ?_) rfl (by kernel_rfl) (by kernel_rfl) (by kernel_rfl) (fun _ _ _ h => h) (Or.inl ⟨by rfl, ?_⟩) trivial ?_
          rotate_left
          · (intro w' hSw; go_simp) <;> with_reducible rfl
          try simp only [Act.put, List.setIfInBounds_toArray, List.set_cons_zero, List.set_cons_succ]
          refine wpAnyH_take (i := 22) (oi := { dst := some 116, op := Op.move (Operand.tmp 1), type := 23, pos := "law.go:151", after := #[{ on := 18, ground := Ground.guard }], guard := some (18, true) }) (v := ?_) rfl (by kernel_rfl) (by kernel_rfl) (by kernel_rfl) (fun _ _ _ h => h) (Or.inl ⟨by rfl, ?_⟩) trivial ?_
          rotate_left
          · (intro w' hSw; go_simp) <;> with_reducible rfl
          try simp only [Act.put, List.setIfInBounds_toArray, List.set_cons_zero, List.set_cons_succ]
          refine wpAnyH_ready (rs := [20]) (by kernel_rfl) (by simp) ?_
          refine AllReadyH.cons (o := { dst := some 114, op := Op.call { callee := Callee.value (Operand.func 14), args := #[Operand.tmp 113], argTypes := #[23] }, type := 23, pos := "law.go:151", after := #[{ on := 19, ground := Ground.data }, { on := 18, ground := Ground.chain }, { on := 18, ground := Ground.guard }], guard := some (18, true) }) rfl (fun K hK => ?_) ?_
          · go_simp
            go_at_call 14
            refine (LA _ LF).mono ?_
            rintro e wG ⟨gG, cG, rfl, kG, LG, bG⟩
            have LFG := LF.below bG (Nat.le_refl _)
            go_wp2_with fail
            refine hK.out _ _ trivial (fun _ => ?_)
            clear hK K
            try simp only [Act.put, List.setIfInBounds_toArray, List.set_cons_zero, List.set_cons_succ]
            refine wpAnyH_ready (rs := [21, 23]) (by kernel_rfl) (by simp) ?_
            refine AllReadyH.cons (o := { dst := some 115, op := Op.convert 23 9 (Operand.tmp 114), type := 9, pos := "law.go:151", after := #[{ on := 20, ground := Ground.data }, { on := 18, ground := Ground.guard }], guard := some (18, true) }) rfl (fun K hK => ?_) ?_
            · go_simp
              refine hK.out _ _ trivial (fun _ => ?_)
              clear hK K
              try simp only [Act.put, List.setIfInBounds_toArray, List.set_cons_zero, List.set_cons_succ]
              refine wpAnyH_ready (rs := [23]) (by kernel_rfl) (by simp) ?_
              refine AllReadyH.cons (o := { dst := some 117, op := Op.call { callee := Callee.value (Operand.func 15), args := #[Operand.tmp 116], argTypes := #[23] }, type := 23, pos := "law.go:151", after := #[{ on := 22, ground := Ground.data }, { on := 20, ground := Ground.chain }, { on := 18, ground := Ground.guard }], guard := some (18, true) }) rfl (fun K hK => ?_) ?_
              · go_simp
                go_at_call 15
                refine (LR _ LFG).mono ?_
                rintro e wH ⟨gH, cH, rfl, kH, bH⟩
                have kGH := CV _ _ _ (LG.below bH (Nat.le_refl _))
                go_wp2_with fail
                refine hK.out _ _ trivial (fun _ => ?_)
                clear hK K
                try simp only [Act.put, List.setIfInBounds_toArray, List.set_cons_zero, List.set_cons_succ]
                refine wpAnyH_ready (rs := [24]) (by kernel_rfl) (by simp) ?_
                refine AllReadyH.cons (o := { dst := some 118, op := Op.convert 23 9 (Operand.tmp 117), type := 9, pos := "law.go:151", after := #[{ on := 23, ground := Ground.data }, { on := 18, ground := Ground.guard }], guard := some (18, true) }) rfl (fun K hK => ?_) ?_
                · go_simp
                  refine hK.out _ _ trivial (fun _ => ?_)
                  clear hK K
                  try simp only [Act.put, List.setIfInBounds_toArray, List.set_cons_zero, List.set_cons_succ]
                  refine wpAnyH_take (i := 25) (oi := { dst := some 119, op := Op.binOp BinOp.eql 9 (Operand.tmp 115) (Operand.tmp 118) 9, type := 4, pos := "law.go:151", after := #[{ on := 21, ground := Ground.data }, { on := 24, ground := Ground.data }, { on := 18, ground := Ground.guard }], guard := some (18, true) }) (v := ?_) rfl (by kernel_rfl) (by kernel_rfl) (by kernel_rfl) (fun _ _ _ h => h) (Or.inl ⟨by rfl, ?_⟩) trivial ?_
                  rotate_left
                  · (intro w' hSw; go_simp) <;> with_reducible rfl
                  try simp only [Act.put, List.setIfInBounds_toArray, List.set_cons_zero, List.set_cons_succ]
                  refine wpAnyH_take (i := 26) (oi := { dst := some 120, op := Op.pick (Operand.tmp 112) (Operand.tmp 119) (Operand.const (Value.bool false)), type := 4, pos := "law.go:151", after := #[{ on := 18, ground := Ground.data }, { on := 25, ground := Ground.data }], guard := none }) (v := ?_) rfl (by kernel_rfl) (by kernel_rfl) (by kernel_rfl) (fun _ _ _ h => h) (Or.inl ⟨by rfl, ?_⟩) trivial ?_
                  rotate_left
                  · (intro w' hSw; go_simp) <;> with_reducible rfl
                  try simp only [Act.put, List.setIfInBounds_toArray, List.set_cons_zero, List.set_cons_succ]
                  refine wpAnyH_take (i := 27) (oi := { dst := some 14, op := Op.assign (Operand.tmp 120), type := 4, pos := "law.go:151", after := #[{ on := 26, ground := Ground.data }, { on := 23, ground := Ground.chain }, { on := 0, ground := Ground.phase }, { on := 1, ground := Ground.phase }, { on := 2, ground := Ground.phase }, { on := 3, ground := Ground.phase }, { on := 4, ground := Ground.phase }, { on := 5, ground := Ground.phase }, { on := 6, ground := Ground.phase }, { on := 7, ground := Ground.phase }, { on := 8, ground := Ground.phase }, { on := 9, ground := Ground.phase }, { on := 10, ground := Ground.phase }, { on := 11, ground := Ground.phase }, { on := 12, ground := Ground.phase }, { on := 13, ground := Ground.phase }, { on := 14, ground := Ground.phase }, { on := 15, ground := Ground.phase }, { on := 16, ground := Ground.phase }, { on := 17, ground := Ground.phase }, { on := 18, ground := Ground.phase }, { on := 19, ground := Ground.phase }, { on := 20, ground := Ground.phase }, { on := 21, ground := Ground.phase }, { on := 22, ground := Ground.phase }, { on := 23, ground := Ground.phase }, { on := 24, ground := Ground.phase }, { on := 25, ground := Ground.phase }, { on := 26, ground := Ground.phase }], guard := none }) (v := ?_) rfl (by kernel_rfl) (by kernel_rfl) (by kernel_rfl) (fun _ _ _ h => h) (Or.inl ⟨by rfl, ?_⟩) trivial ?_
                  rotate_left
                  · (intro w' hSw; go_simp) <;> with_reducible rfl
                  try simp only [Act.put, List.setIfInBounds_toArray, List.set_cons_zero, List.set_cons_succ]
                  refine wpAnyH_done (by kernel_rfl) ?_ _
                  have BG := BF.trans (bG.mono BF.size)
                  have BH := BG.trans (bH.mono BG.size)
                  go_wp2
                  go_ret
                  exact ⟨rfl, BH⟩
                exact AllReadyH.nil
              exact AllReadyH.nil
            refine AllReadyH.cons (o := { dst := some 117, op := Op.call { callee := Callee.value (Operand.func 15), args := #[Operand.tmp 116], argTypes := #[23] }, type := 23, pos := "law.go:151", after := #[{ on := 22, ground := Ground.data }, { on := 20, ground := Ground.chain }, { on := 18, ground := Ground.guard }], guard := some (18, true) }) rfl (fun K hK => ?_) ?_
            · go_simp
              go_at_call 15
              refine (LR _ LFG).mono ?_
              rintro e wH ⟨gH, cH, rfl, kH, bH⟩
              have kGH := CV _ _ _ (LG.below bH (Nat.le_refl _))
              go_wp2_with fail
              refine hK.out _ _ trivial (fun _ => ?_)
              clear hK K
              try simp only [Act.put, List.setIfInBounds_toArray, List.set_cons_zero, List.set_cons_succ]
              refine wpAnyH_ready (rs := [21, 24]) (by kernel_rfl) (by simp) ?_
              refine AllReadyH.cons (o := { dst := some 115, op := Op.convert 23 9 (Operand.tmp 114), type := 9, pos := "law.go:151", after := #[{ on := 20, ground := Ground.data }, { on := 18, ground := Ground.guard }], guard := some (18, true) }) rfl (fun K hK => ?_) ?_
              · go_simp
                refine hK.out _ _ trivial (fun _ => ?_)
                clear hK K
                try simp only [Act.put, List.setIfInBounds_toArray, List.set_cons_zero, List.set_cons_succ]
                refine wpAnyH_ready (rs := [24]) (by kernel_rfl) (by simp) ?_
                refine AllReadyH.cons (o := { dst := some 118, op := Op.convert 23 9 (Operand.tmp 117), type := 9, pos := "law.go:151", after := #[{ on := 23, ground := Ground.data }, { on := 18, ground := Ground.guard }], guard := some (18, true) }) rfl (fun K hK => ?_) ?_
                · go_simp
                  refine hK.out _ _ trivial (fun _ => ?_)
                  clear hK K
                  try simp only [Act.put, List.setIfInBounds_toArray, List.set_cons_zero, List.set_cons_succ]
                  refine wpAnyH_take (i := 25) (oi := { dst := some 119, op := Op.binOp BinOp.eql 9 (Operand.tmp 115) (Operand.tmp 118) 9, type := 4, pos := "law.go:151", after := #[{ on := 21, ground := Ground.data }, { on := 24, ground := Ground.data }, { on := 18, ground := Ground.guard }], guard := some (18, true) }) (v := ?_) rfl (by kernel_rfl) (by kernel_rfl) (by kernel_rfl) (fun _ _ _ h => h) (Or.inl ⟨by rfl, ?_⟩) trivial ?_
                  rotate_left
                  · (intro w' hSw; go_simp) <;> with_reducible rfl
                  try simp only [Act.put, List.setIfInBounds_toArray, List.set_cons_zero, List.set_cons_succ]
                  refine wpAnyH_take (i := 26) (oi := { dst := some 120, op := Op.pick (Operand.tmp 112) (Operand.tmp 119) (Operand.const (Value.bool false)), type := 4, pos := "law.go:151", after := #[{ on := 18, ground := Ground.data }, { on := 25, ground := Ground.data }], guard := none }) (v := ?_) rfl (by kernel_rfl) (by kernel_rfl) (by kernel_rfl) (fun _ _ _ h => h) (Or.inl ⟨by rfl, ?_⟩) trivial ?_
                  rotate_left
                  · (intro w' hSw; go_simp) <;> with_reducible rfl
                  try simp only [Act.put, List.setIfInBounds_toArray, List.set_cons_zero, List.set_cons_succ]
                  refine wpAnyH_take (i := 27) (oi := { dst := some 14, op := Op.assign (Operand.tmp 120), type := 4, pos := "law.go:151", after := #[{ on := 26, ground := Ground.data }, { on := 23, ground := Ground.chain }, { on := 0, ground := Ground.phase }, { on := 1, ground := Ground.phase }, { on := 2, ground := Ground.phase }, { on := 3, ground := Ground.phase }, { on := 4, ground := Ground.phase }, { on := 5, ground := Ground.phase }, { on := 6, ground := Ground.phase }, { on := 7, ground := Ground.phase }, { on := 8, ground := Ground.phase }, { on := 9, ground := Ground.phase }, { on := 10, ground := Ground.phase }, { on := 11, ground := Ground.phase }, { on := 12, ground := Ground.phase }, { on := 13, ground := Ground.phase }, { on := 14, ground := Ground.phase }, { on := 15, ground := Ground.phase }, { on := 16, ground := Ground.phase }, { on := 17, ground := Ground.phase }, { on := 18, ground := Ground.phase }, { on := 19, ground := Ground.phase }, { on := 20, ground := Ground.phase }, { on := 21, ground := Ground.phase }, { on := 22, ground := Ground.phase }, { on := 23, ground := Ground.phase }, { on := 24, ground := Ground.phase }, { on := 25, ground := Ground.phase }, { on := 26, ground := Ground.phase }], guard := none }) (v := ?_) rfl (by kernel_rfl) (by kernel_rfl) (by kernel_rfl) (fun _ _ _ h => h) (Or.inl ⟨by rfl, ?_⟩) trivial ?_
                  rotate_left
                  · (intro w' hSw; go_simp) <;> with_reducible rfl
                  try simp only [Act.put, List.setIfInBounds_toArray, List.set_cons_zero, List.set_cons_succ]
                  refine wpAnyH_done (by kernel_rfl) ?_ _
                  have BG := BF.trans (bG.mono BF.size)
                  have BH := BG.trans (bH.mono BG.size)
                  go_wp2
                  go_ret
                  exact ⟨rfl, BH⟩
                exact AllReadyH.nil
              refine AllReadyH.cons (o := { dst := some 118, op := Op.convert 23 9 (Operand.tmp 117), type := 9, pos := "law.go:151", after := #[{ on := 23, ground := Ground.data }, { on := 18, ground := Ground.guard }], guard := some (18, true) }) rfl (fun K hK => ?_) ?_
              · go_simp
                refine hK.out _ _ trivial (fun _ => ?_)
                clear hK K
                try simp only [Act.put, List.setIfInBounds_toArray, List.set_cons_zero, List.set_cons_succ]
                refine wpAnyH_ready (rs := [21]) (by kernel_rfl) (by simp) ?_
                refine AllReadyH.cons (o := { dst := some 115, op := Op.convert 23 9 (Operand.tmp 114), type := 9, pos := "law.go:151", after := #[{ on := 20, ground := Ground.data }, { on := 18, ground := Ground.guard }], guard := some (18, true) }) rfl (fun K hK => ?_) ?_
                · go_simp
                  refine hK.out _ _ trivial (fun _ => ?_)
                  clear hK K
                  try simp only [Act.put, List.setIfInBounds_toArray, List.set_cons_zero, List.set_cons_succ]
                  refine wpAnyH_take (i := 25) (oi := { dst := some 119, op := Op.binOp BinOp.eql 9 (Operand.tmp 115) (Operand.tmp 118) 9, type := 4, pos := "law.go:151", after := #[{ on := 21, ground := Ground.data }, { on := 24, ground := Ground.data }, { on := 18, ground := Ground.guard }], guard := some (18, true) }) (v := ?_) rfl (by kernel_rfl) (by kernel_rfl) (by kernel_rfl) (fun _ _ _ h => h) (Or.inl ⟨by rfl, ?_⟩) trivial ?_
                  rotate_left
                  · (intro w' hSw; go_simp) <;> with_reducible rfl
                  try simp only [Act.put, List.setIfInBounds_toArray, List.set_cons_zero, List.set_cons_succ]
                  refine wpAnyH_take (i := 26) (oi := { dst := some 120, op := Op.pick (Operand.tmp 112) (Operand.tmp 119) (Operand.const (Value.bool false)), type := 4, pos := "law.go:151", after := #[{ on := 18, ground := Ground.data }, { on := 25, ground := Ground.data }], guard := none }) (v := ?_) rfl (by kernel_rfl) (by kernel_rfl) (by kernel_rfl) (fun _ _ _ h => h) (Or.inl ⟨by rfl, ?_⟩) trivial ?_
                  rotate_left
                  · (intro w' hSw; go_simp) <;> with_reducible rfl
                  try simp only [Act.put, List.setIfInBounds_toArray, List.set_cons_zero, List.set_cons_succ]
                  refine wpAnyH_take (i := 27) (oi := { dst := some 14, op := Op.assign (Operand.tmp 120), type := 4, pos := "law.go:151", after := #[{ on := 26, ground := Ground.data }, { on := 23, ground := Ground.chain }, { on := 0, ground := Ground.phase }, { on := 1, ground := Ground.phase }, { on := 2, ground := Ground.phase }, { on := 3, ground := Ground.phase }, { on := 4, ground := Ground.phase }, { on := 5, ground := Ground.phase }, { on := 6, ground := Ground.phase }, { on := 7, ground := Ground.phase }, { on := 8, ground := Ground.phase }, { on := 9, ground := Ground.phase }, { on := 10, ground := Ground.phase }, { on := 11, ground := Ground.phase }, { on := 12, ground := Ground.phase }, { on := 13, ground := Ground.phase }, { on := 14, ground := Ground.phase }, { on := 15, ground := Ground.phase }, { on := 16, ground := Ground.phase }, { on := 17, ground := Ground.phase }, { on := 18, ground := Ground.phase }, { on := 19, ground := Ground.phase }, { on := 20, ground := Ground.phase }, { on := 21, ground := Ground.phase }, { on := 22, ground := Ground.phase }, { on := 23, ground := Ground.phase }, { on := 24, ground := Ground.phase }, { on := 25, ground := Ground.phase }, { on := 26, ground := Ground.phase }], guard := none }) (v := ?_) rfl (by kernel_rfl) (by kernel_rfl) (by kernel_rfl) (fun _ _ _ h => h) (Or.inl ⟨by rfl, ?_⟩) trivial ?_
                  rotate_left
                  · (intro w' hSw; go_simp) <;> with_reducible rfl
                  try simp only [Act.put, List.setIfInBounds_toArray, List.set_cons_zero, List.set_cons_succ]
                  refine wpAnyH_done (by kernel_rfl) ?_ _
                  have BG := BF.trans (bG.mono BF.size)
                  have BH := BG.trans (bH.mono BG.size)
                  go_wp2
                  go_ret
                  exact ⟨rfl, BH⟩
                exact AllReadyH.nil
              exact AllReadyH.nil
            exact AllReadyH.nil
          exact AllReadyH.nil
        exact AllReadyH.nil
      exact AllReadyH.nil
    exact AllReadyH.nil
end Go.Proofs.YtahibacjaoohiaaDoor
