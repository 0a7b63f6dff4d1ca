/-
  ZlibTells' own walk.
-/
import Derived.Test.YtahibacjaoohiaaDoorZt1
import Derived.Deep.CutRange
import Derived.Deep.RegionHeld3
namespace Go.Proofs.YtahibacjaoohiaaDoor
open Go.RowKit

set_option maxRecDepth 100000 in
set_option maxHeartbeats 6400000 in
theorem zlibTells_walk (w : World) (a1 : Option Addr) (n1 c1 : Nat) (z1 : Nat → Nat) (a2 : Option Addr) (n2 c2 : Nat) (z2 : Nat → Nat) (how : Int) (a3 : Option Addr) (n3 c3 : Nat) (f3 : Nat → Int) (by' cut most : Int)
    (hL1 : Lies w a1 n1 c1 z1) (hL2 : Lies w a2 n2 c2 z2) (hI : Ints w a3 n3 c3 f3) (hby : 0 ≤ by' ∧ by' < 256) (hn1 : n1 ≤ 140737488351232) (hn2 : n2 ≤ 140737488351232) (hT : Tab w) :
    Calls Tryd.prog 5 #[.slice a1 n1 c1, .slice a2 n2 c2, .int .i64 how, .slice a3 n3 c3, .int .u8 by', .int .i64 cut, .int .i64 most] w fun e w' => e = .returned (.bool true) ∧ Below w.heap.size w w' := by
  obtain ⟨y, rfl⟩ : ∃ y : Nat, by' = y := ⟨by'.toNat, by omega⟩
  have hy : y < 256 := by omega
  clear hby
  obtain ⟨h4, hh4⟩ : ∃ h, how.tmod 4 = h := ⟨_, rfl⟩
  obtain ⟨h7, hh7⟩ : ∃ h, how.tmod 7 = h := ⟨_, rfl⟩
  have hreach := hI.reach
  go_enter Tryd.func5, Tryd.ntmps5
  go_upto_if 27 with (go_at_call 8; refine (few_up a2 n2 c2 n2 n2 z2 _ hL2 (by omega) (by omega) (by omega)).mono ?_; rintro e wA ⟨gA, cA, rfl, hOA, bA⟩)
  go_cut [15] from 16 to 74 (fun zv wx => ∃ (a : Option Addr) (l c : Nat) (zz : Nat → Nat), zv = .slice a l c ∧ Lies wx a l c zz ∧ Below w.heap.size w wx)
  case first =>
    by_cases hp : 0 < h4
    · have hSb := layL_byt hL1.byte n1
      have hSl := layL_len z1 n1
      have hSn := stL_len z1 n1 n1 0 (by omega)
      have h5 := stL_five z1 n1 0
      have RL := rlay_any a1 n1 c1 z1 wA (hL1.below bA (Nat.le_refl _)) (by omega)
      obtain ⟨S, hS⟩ : ∃ S, Hid (layL z1 n1 = S) := ⟨_, rfl⟩
      rw [hS.out] at RL hSb hSl
      obtain ⟨N0, hN0⟩ : ∃ N, Hid (S.length = N) := ⟨_, rfl⟩
      rw [hN0.out] at RL hSl
      obtain ⟨N, hN⟩ : ∃ N, Hid (N = min N0 1048576) := ⟨_, rfl⟩
      have hN11 : 11 ≤ N := by rw [hN.out]; omega
      have hNb : N ≤ 1048576 := by rw [hN.out]; omega
      have hN0b : N0 ≤ 149000000000000 := by omega
      have hSb' : Hid (Byt S) := hSb
      clear hSb hSl hSn h5
      go_wp2_with fail
      refine RL.mono ?_
      rintro e wB ⟨gB, cB, rfl, hOB, bB⟩
      have LB := hOB.liesB hSb'.out (by rw [hN0.out]; omega)
      rw [hN0.out] at LB
      have BB := bA.trans (bB.mono bA.size)
      clear RL hOB
      go_wp2_with fail
      refine (few_up _ N0 cB 1048576 N (zb S) _ LB (by omega) (by omega) hN.out).mono ?_
      rintro e wC ⟨gC, cC, rfl, hOC', bC⟩
      have BC := BB.trans (bC.mono BB.size)
      have hOC : Own wC w.heap.size 5 .u8 gC cC (byt (zb S) 0 N) := hOC'.mono BB.size
      have hbC : Byt (byt (zb S) 0 N) := byt_of hSb'.out.zb_lt
      have hlC : (byt (zb S) 0 N).length = N := byt_len _ _ _
      clear hOC' LB bC BB bB
      go_wp2_with fail
      go_loopw [16] (fun v wq => ∃ (i : Nat) (ys : List Int), i ≤ 2 ∧ v = .int .i64 (i : Nat) ∧ Own wq w.heap.size 5 .u8 gC cC ys ∧ Hid (ys.length = N) ∧ Hid (Byt ys) ∧ Below w.heap.size w wq) (fun v _ => 2 - (intOf v).toNat)
      case atStart => exact ⟨0, _, by omega, rfl, hOC, hlC, hbC, BC⟩
      case round =>
        clear hOC hlC hbC BC
        obtain ⟨i, ys, hi2, rfl, hO, hl, hb, hB⟩ := hrel
        obtain ⟨NN, hNN⟩ : ∃ NN : Nat, ((N : Nat) : Int) + 1 = (NN : Nat) := ⟨N + 1, rfl⟩
        obtain ⟨k, hk⟩ : ∃ k, Hid (pickv cut NN = k) := ⟨_, rfl⟩
        have hkN : k ≤ N := by rw [← hk.out]; have := pickv_lt cut NN (by omega); omega
        have P3 : ∀ W, Calls Tryd.prog 10 #[.int .i64 cut, .int .i64 (NN : Nat)] W fun e w' => e = .returned (.int .i64 (k : Nat)) ∧ w' = W := fun W => by rw [← hk.out]; exact pick_big cut NN (by omega) (by omega) W
        have hL2r := hL2.below hB (Nat.le_refl _)
        by_cases q1 : i < n3
        · by_cases q2 : i < 2
          · by_cases q3 : 1 < h4
            · have q1' : (i : Int) < n3 := by omega
              have q2' : (i : Int) < 2 := by omega
              obtain ⟨b3, o3, rfl, hb3, hc3⟩ := hI.spot (by omega)
              have cI : wr.cell? ⟨b3, o3 + i, none⟩ = some (.int .i64 (f3 i)) := by
                rw [World.cell?_of_block (a := ⟨b3, o3 + i, none⟩) (hB.block b3 hb3)]; exact hc3 i q1
              obtain ⟨p, hp'⟩ : ∃ k, Hid (pickv (f3 i) N = k) := ⟨_, rfl⟩
              have hpN : p < N := by rw [← hp'.out]; exact pickv_lt (f3 i) N (by omega)
              have P4 : ∀ W, Calls Tryd.prog 10 #[.int .i64 (f3 i), .int .i64 (N : Nat)] W fun e w' => e = .returned (.int .i64 (p : Nat)) ∧ w' = W := fun W => by rw [← hp'.out]; exact pick_big (f3 i) N (by omega) (by omega) W
              obtain ⟨v, hv⟩ : ∃ v : Nat, Hid (ys.getD p 0 = (v : Nat)) := ⟨(ys.getD p 0).toNat, by show _ = _; have := hb.out p; omega⟩
              have hv256 : v < 256 := by have := hb.out p; rw [hv.out] at this; omega
              obtain ⟨X, hX, hX256, _⟩ := xor_u8 v y hv256 hy
              have cell := hO.cell (j := p) (by rw [hl.out]; omega)
              rw [hv.out] at cell
              have fr := hO.free p
              have hpN' : (p : Int) < N := by omega
              have hO2 : Own (wr.setCell ⟨gC, p, none⟩ (.int .u8 (X : Nat))) w.heap.size 5 .u8 gC cC (ys.set p ((X : Nat) : Int)) := hO.set p ((X : Nat) : Int)
              have hB2 : Below w.heap.size w (wr.setCell ⟨gC, p, none⟩ (.int .u8 (X : Nat))) := hB.setCell (p := ⟨gC, p, none⟩) hO.lt.1 _
              have hb2 : Hid (Byt (ys.set p ((X : Nat) : Int))) := byt_set hb.out p X hX256
              have hl2 : Hid ((ys.set p ((X : Nat) : Int)).length = N) := by show _ = _; rw [List.length_set, hl.out]
              obtain ⟨w2, hw2⟩ : ∃ W, W = wr.setCell ⟨gC, p, none⟩ (.int .u8 (X : Nat)) := ⟨_, rfl⟩
              rw [← hw2] at hO2 hB2
              have HO2 : Hid (Own w2 w.heap.size 5 .u8 gC cC (ys.set p ((X : Nat) : Int))) := hO2
              have HB2 : Hid (Below w.heap.size w w2) := hB2
              have HW2 : Hid (w2 = _) := hw2
              clear hc3 hO2 hB2 hw2 hO hB P3 hNN hL2r
              go_wp2_with (first
                | (go_at_call 10; refine (P4 _).mono ?_; rintro e w' ⟨rfl, rfl⟩)
                | (rw [← HW2.out]))
              exact ⟨⟨i + 1, _, by omega, by go_num, HO2.out, hl2, hb2, HB2.out⟩, by simp [intOf]; omega⟩
            · have q1' : (i : Int) < n3 := by omega
              have q2' : (i : Int) < 2 := by omega
              by_cases c4 : h4 = 3
              · omega
              · have c4b : (h4 == 3) = false := by rw [beq_eq_false_iff_ne]; exact c4
                by_cases c6 : h7 = 6
                · have c6b : (h7 == 6) = true := by rw [beq_iff_eq]; exact c6
                  have HA : Hid (_) := app_on (cm := c2) hB hO (Own.srcB hL2r) hl.out (by rw [hl.out]; omega)
                  clear hO c4 c6 P3
                  go_wp2_with (at_builtin; refine wpList_append_ex rfl (.tmp 72) (.tmp 73) 23 rfl rfl rfl HA.out ?_; rintro gx cx wx hR1; have HR : Hid (_) := hR1; clear hR1)
                  go_meet
                  case rel =>
                    have HRO : Own wx w.heap.size 5 .u8 gx cx (ys ++ byt z2 0 n2) := HR.out.1
                    have HL := HRO.liesB (Byt.append hb.out (byt_of hL2.byte)) (by rw [List.length_append, hl.out, byt_len]; omega)
                    rw [List.length_append, hl.out, byt_len] at HL
                    exact ⟨_, _, _, _, rfl, HL, HR.out.2.1⟩
                · have c6b : (h7 == 6) = false := by rw [beq_eq_false_iff_ne]; exact c6
                  have HL := hO.liesB hb.out (by rw [hl.out]; omega)
                  rw [hl.out] at HL
                  have HLL : Hid (_) := HL
                  clear hO HL c4 c6 P3
                  go_wp2
                  go_meet
                  case rel => exact ⟨_, _, _, _, rfl, HLL.out, hB⟩
          · have q1' : (i : Int) < n3 := by omega
            have q2' : ¬ (i : Int) < 2 := by omega
            by_cases c4 : h4 = 3
            · have c4b : (h4 == 3) = true := by rw [beq_iff_eq]; exact c4
              have hkc : (k : Int) ≤ cC := by have := hO.lc; have := hl.out; omega
              have hkl : k ≤ ys.length := by rw [hl.out]; omega
              have hO3 := hO.take hkl
              have hb3 := byt_take hb.out k
              have hl3 : (ys.take k).length = k := by rw [List.length_take]; omega
              by_cases c6 : h7 = 6
              · have c6b : (h7 == 6) = true := by rw [beq_iff_eq]; exact c6
                have HA : Hid (_) := app_on (cm := c2) hB hO3 (Own.srcB hL2r) hl3 (by rw [hl3]; omega)
                clear hO hO3 c4 c6
                go_wp2_with (first
                  | (go_at_call 10; refine (P3 _).mono ?_; rintro e w' ⟨rfl, rfl⟩)
                  | (at_builtin; refine wpList_append_ex rfl (.tmp 72) (.tmp 73) 23 rfl rfl rfl HA.out ?_; rintro gx cx wx hR1; have HR : Hid (_) := hR1; clear hR1))
                go_meet
                case rel =>
                  have HRO : Own wx w.heap.size 5 .u8 gx cx (ys.take k ++ byt z2 0 n2) := HR.out.1
                  have HL := HRO.liesB (Byt.append hb3 (byt_of hL2.byte)) (by rw [List.length_append, hl3, byt_len]; omega)
                  rw [List.length_append, hl3, byt_len] at HL
                  exact ⟨_, _, _, _, rfl, HL, HR.out.2.1⟩
              · have c6b : (h7 == 6) = false := by rw [beq_eq_false_iff_ne]; exact c6
                have HL := hO3.liesB hb3 (by rw [hl3]; omega)
                rw [hl3] at HL
                have HLL : Hid (_) := HL
                clear hO hO3 HL c4 c6
                go_wp2_with (first
                  | (go_at_call 10; refine (P3 _).mono ?_; rintro e w' ⟨rfl, rfl⟩))
                go_meet
                case rel => exact ⟨_, _, _, _, rfl, HLL.out, hB⟩
            · have c4b : (h4 == 3) = false := by rw [beq_eq_false_iff_ne]; exact c4
              by_cases c6 : h7 = 6
              · have c6b : (h7 == 6) = true := by rw [beq_iff_eq]; exact c6
                have HA : Hid (_) := app_on (cm := c2) hB hO (Own.srcB hL2r) hl.out (by rw [hl.out]; omega)
                clear hO c4 c6 P3
                go_wp2_with (at_builtin; refine wpList_append_ex rfl (.tmp 72) (.tmp 73) 23 rfl rfl rfl HA.out ?_; rintro gx cx wx hR1; have HR : Hid (_) := hR1; clear hR1)
                go_meet
                case rel =>
                  have HRO : Own wx w.heap.size 5 .u8 gx cx (ys ++ byt z2 0 n2) := HR.out.1
                  have HL := HRO.liesB (Byt.append hb.out (byt_of hL2.byte)) (by rw [List.length_append, hl.out, byt_len]; omega)
                  rw [List.length_append, hl.out, byt_len] at HL
                  exact ⟨_, _, _, _, rfl, HL, HR.out.2.1⟩
              · have c6b : (h7 == 6) = false := by rw [beq_eq_false_iff_ne]; exact c6
                have HL := hO.liesB hb.out (by rw [hl.out]; omega)
                rw [hl.out] at HL
                have HLL : Hid (_) := HL
                clear hO HL c4 c6 P3
                go_wp2
                go_meet
                case rel => exact ⟨_, _, _, _, rfl, HLL.out, hB⟩
        · have q1' : ¬ (i : Int) < n3 := by omega
          by_cases c4 : h4 = 3
          · have c4b : (h4 == 3) = true := by rw [beq_iff_eq]; exact c4
            have hkc : (k : Int) ≤ cC := by have := hO.lc; have := hl.out; omega
            have hkl : k ≤ ys.length := by rw [hl.out]; omega
            have hO3 := hO.take hkl
            have hb3 := byt_take hb.out k
            have hl3 : (ys.take k).length = k := by rw [List.length_take]; omega
            by_cases c6 : h7 = 6
            · have c6b : (h7 == 6) = true := by rw [beq_iff_eq]; exact c6
              have HA : Hid (_) := app_on (cm := c2) hB hO3 (Own.srcB hL2r) hl3 (by rw [hl3]; omega)
              clear hO hO3 c4 c6
              go_wp2_with (first
                | (go_at_call 10; refine (P3 _).mono ?_; rintro e w' ⟨rfl, rfl⟩)
                | (at_builtin; refine wpList_append_ex rfl (.tmp 72) (.tmp 73) 23 rfl rfl rfl HA.out ?_; rintro gx cx wx hR1; have HR : Hid (_) := hR1; clear hR1))
              go_meet
              case rel =>
                have HRO : Own wx w.heap.size 5 .u8 gx cx (ys.take k ++ byt z2 0 n2) := HR.out.1
                have HL := HRO.liesB (Byt.append hb3 (byt_of hL2.byte)) (by rw [List.length_append, hl3, byt_len]; omega)
                rw [List.length_append, hl3, byt_len] at HL
                exact ⟨_, _, _, _, rfl, HL, HR.out.2.1⟩
            · have c6b : (h7 == 6) = false := by rw [beq_eq_false_iff_ne]; exact c6
              have HL := hO3.liesB hb3 (by rw [hl3]; omega)
              rw [hl3] at HL
              have HLL : Hid (_) := HL
              clear hO hO3 HL c4 c6
              go_wp2_with (first
                | (go_at_call 10; refine (P3 _).mono ?_; rintro e w' ⟨rfl, rfl⟩))
              go_meet
              case rel => exact ⟨_, _, _, _, rfl, HLL.out, hB⟩
          · have c4b : (h4 == 3) = false := by rw [beq_eq_false_iff_ne]; exact c4
            by_cases c6 : h7 = 6
            · have c6b : (h7 == 6) = true := by rw [beq_iff_eq]; exact c6
              have HA : Hid (_) := app_on (cm := c2) hB hO (Own.srcB hL2r) hl.out (by rw [hl.out]; omega)
              clear hO c4 c6 P3
              go_wp2_with (at_builtin; refine wpList_append_ex rfl (.tmp 72) (.tmp 73) 23 rfl rfl rfl HA.out ?_; rintro gx cx wx hR1; have HR : Hid (_) := hR1; clear hR1)
              go_meet
              case rel =>
                have HRO : Own wx w.heap.size 5 .u8 gx cx (ys ++ byt z2 0 n2) := HR.out.1
                have HL := HRO.liesB (Byt.append hb.out (byt_of hL2.byte)) (by rw [List.length_append, hl.out, byt_len]; omega)
                rw [List.length_append, hl.out, byt_len] at HL
                exact ⟨_, _, _, _, rfl, HL, HR.out.2.1⟩
            · have c6b : (h7 == 6) = false := by rw [beq_eq_false_iff_ne]; exact c6
              have HL := hO.liesB hb.out (by rw [hl.out]; omega)
              rw [hl.out] at HL
              have HLL : Hid (_) := HL
              clear hO HL c4 c6 P3
              go_wp2
              go_meet
              case rel => exact ⟨_, _, _, _, rfl, HLL.out, hB⟩
    · have hLA := hOA.liesB (byt_of hL2.byte) (by rw [byt_len]; omega)
      rw [byt_len] at hLA
      have HLA : Hid (_) := hLA
      clear hLA hOA
      go_wp2
      go_meet
      case rel => exact ⟨_, _, _, _, rfl, HLA.out, bA⟩
  case rest =>
    obtain ⟨az, lz, cz, zz, rfl, hLz, BZ⟩ := hcut
    have hL1c := hL1.below BZ (Nat.le_refl _)
    have hTc := hT.below BZ hT.pos
    obtain ⟨MM, hNN⟩ : ∃ NN : Nat, ((n1 : Nat) : Int) + 9 = (NN : Nat) := ⟨n1 + 9, rfl⟩
    obtain ⟨m, hm⟩ : ∃ k, Hid (pickv most MM = k) := ⟨_, rfl⟩
    have hmN : m < n1 + 9 := by rw [← hm.out]; have := pickv_lt most MM (by omega); omega
    have P5 : ∀ W, Calls Tryd.prog 10 #[.int .i64 most, .int .i64 (MM : Nat)] W fun e w' => e = .returned (.int .i64 (m : Nat)) ∧ w' = W := fun W => by rw [← hm.out]; exact pick_big most MM (by omega) (by omega) W
    have hmm : Hid (((m : Nat) : Int) = if ((m : Nat) : Int) < 0 then 0 else ((m : Nat) : Int)) := by show _ = _; rw [if_neg (by omega)]
    clear hh4 hh7 hL1 hL2 hI hOA bA hT
    go_wp2_with fail
    refine (P5 _).mono ?_
    rintro e w' ⟨rfl, rfl⟩
    clear P5 hNN
    go_wp2_with fail
    refine (open_any az lz cz zz (m : Nat) m hmm.out (by omega) _ hLz hTc).mono ?_
    intro e wD hD
    obtain ⟨bD, ad, cd, rfl, LD⟩ := hD.told (by omega)
    have BD := BZ.trans (bD.mono BZ.size)
    have hLzD := hLz.below bD (Nat.le_refl _)
    have hL1D := hL1c.below bD (Nat.le_refl _)
    have hTD := hTc.below bD hTc.pos
    clear hD bD BZ hLz hL1c hTc
    obtain ⟨KE, hKE⟩ : ∃ k, Hid (errZ (opnE zz lz m) = k) := ⟨_, rfl⟩
    obtain ⟨O, hOE⟩ : ∃ k, Hid (outZ (opnE zz lz m) = k) := ⟨_, rfl⟩
    rw [hOE.out] at LD
    rw [hKE.out, hOE.out]
    go_wp2_with fail
    refine (ropen_any az lz cz zz (m : Nat) m hmm.out (by omega) _ hLzD).mono ?_
    intro e wE hE
    obtain ⟨bE, ae, ce, rfl, LE⟩ := hE.told (by omega)
    have BE := BD.trans (bE.mono BD.size)
    have LDE := LD.below bE (Nat.le_refl _)
    have hL1E := hL1D.below bE (Nat.le_refl _)
    have hTE := hTD.below bE hTD.pos
    rw [hOE.out] at LE
    rw [hKE.out, hOE.out]
    clear hE bE BD hLzD hL1D hTD LD
    obtain ⟨LO, hLO⟩ : ∃ k, Hid (O.length = k) := ⟨_, rfl⟩
    rw [hLO.out] at LE LDE ⊢
    go_wp2_with fail
    have DT : Tab wE.drew := hTE
    have D1 : Lies wE.drew ad LO cd (zb O) := ⟨LDE.lc, LDE.reach, LDE.byte, LDE.spot⟩
    have D2 : Lies wE.drew ae LO ce (zb O) := ⟨LE.lc, LE.reach, LE.byte, LE.spot⟩
    have D3 : Lies wE.drew a1 n1 c1 z1 := ⟨hL1E.lc, hL1E.reach, hL1E.byte, hL1E.spot⟩
    have DB : Below w.heap.size w wE.drew := BE.trans ⟨rfl, rfl, rfl, Nat.le_refl _, fun _ _ => rfl⟩
    obtain ⟨wd, hwd⟩ : ∃ wd, wd = wE.drew := ⟨_, rfl⟩
    rw [← hwd] at DT D1 D2 D3 DB
    have HWD : Hid (wd = wE.drew) := hwd
    obtain ⟨T, hTT⟩ : ∃ T, Hid (bstr (zb O) LO = T) := ⟨_, rfl⟩
    have hSb := layL_byt hL1E.byte n1
    have hSn := stL_len z1 n1 n1 0 (by omega)
    have hSl := layL_len z1 n1
    obtain ⟨S, hS⟩ : ∃ S, Hid (layL z1 n1 = S) := ⟨_, rfl⟩
    obtain ⟨N0, hN0⟩ : ∃ N, Hid (S.length = N) := ⟨_, rfl⟩
    have hN0b : Hid (N0 ≤ 150000000000000) := by show _ ≤ _; rw [← hN0.out, ← hS.out]; omega
    have hSb' : Hid (Byt S) := by show Byt S; rw [← hS.out]; exact hSb
    obtain ⟨U, hU⟩ : ∃ T, Hid (bstr (zb S) N0 = T) := ⟨_, rfl⟩
    have LA : ∀ W, Lies W a1 n1 c1 z1 → Calls Tryd.prog 16 #[.slice a1 n1 c1] W fun e w' => ∃ g c, e = .returned (.slice (some ⟨g, 0, none⟩) N0 c) ∧ (convert 23 9 (.slice (some ⟨g, 0, none⟩) N0 c)).run Tryd.prog w' = .ok (.string U) w' ∧ Lies w' (some ⟨g, 0, none⟩) N0 c (zb S) ∧ Below W.heap.size W w' := fun W h => by
      have := lay_any a1 n1 c1 z1 W h (by omega)
      rw [hS.out, hN0.out] at this
      refine this.mono ?_
      rintro e w' ⟨g, c, he, hO, hb⟩
      have hl := hO.liesB hSb'.out (by rw [hN0.out]; exact hN0b.out)
      rw [hN0.out] at hl
      have hc := conv_string hl
      rw [hU.out] at hc
      exact ⟨g, c, he, hc, hl, hb⟩
    have LR : ∀ W, Lies W a1 n1 c1 z1 → Calls Tryd.prog 20 #[.slice a1 n1 c1] W fun e w' => ∃ g c, e = .returned (.slice (some ⟨g, 0, none⟩) N0 c) ∧ (convert 23 9 (.slice (some ⟨g, 0, none⟩) N0 c)).run Tryd.prog w' = .ok (.string U) w' ∧ Below W.heap.size W w' := fun W h => by
      have := rlay_any a1 n1 c1 z1 W h (by omega)
      rw [hS.out, hN0.out] at this
      refine this.mono ?_
      rintro e w' ⟨g, c, he, hO, hb⟩
      have hl := hO.liesB hSb'.out (by rw [hN0.out]; exact hN0b.out)
      rw [hN0.out] at hl
      have hc := conv_string hl
      rw [hU.out] at hc
      exact ⟨g, c, he, hc, hb⟩
    have KN : Calls Tryd.prog 17 #[] wd fun e w' => e = .returned (.bool true) ∧ (convert 23 9 (.slice ad LO cd)).run Tryd.prog w' = .ok (.string T) w' ∧ (convert 23 9 (.slice ae LO ce)).run Tryd.prog w' = .ok (.string T) w' ∧ Lies w' a1 n1 c1 z1 ∧ Below w.heap.size w w' := (known9_any wd DT).mono fun e w' ⟨he, hb⟩ => by
      have k1 := conv_string (D1.below hb (Nat.le_refl _))
      have k2 := conv_string (D2.below hb (Nat.le_refl _))
      rw [hTT.out] at k1 k2
      exact ⟨he, k1, k2, D3.below hb (Nat.le_refl _), DB.trans (hb.mono DB.size)⟩
    rw [hwd] at KN
    have CV : ∀ W g c, Lies W (some ⟨g, 0, none⟩) N0 c (zb S) → (convert 23 9 (.slice (some ⟨g, 0, none⟩) N0 c)).run Tryd.prog W = .ok (.string U) W := fun W g c h => by rw [← hU.out]; exact conv_string h
    clear hwd HWD DT D1 D2 D3 DB LDE LE hL1E hTE BE hSb hSn hSl hN0b hSb' hmm hn1 hn2 hmN hreach hy
    refine wp_region_held_drew (S := fun _ => True) (by kernel_rfl) trivial (fun _ => ?_)
    refine wpAnyH_ready (rs := [0]) (by kernel_rfl) (by simp) ?_
    refine AllReadyH.cons (o := { dst := some 92, op := Op.call { callee := Callee.value (Operand.func 17), args := #[], argTypes := #[] }, type := 4, pos := "law.go:59", after := #[], guard := none }) rfl (fun K hK => ?_) ?_
    · go_simp
      go_at_call 17
      refine KN.mono ?_
      rintro e wF ⟨rfl, kF1, kF2, LF, BF⟩
      go_wp2_with fail
      refine hK.out _ _ trivial (fun _ => ?_)
      clear hK K
      try simp only [Act.put, List.setIfInBounds_toArray, List.set_cons_zero, List.set_cons_succ]
      refine wpAnyH_take (i := 1) (oi := { dst := some 93, op := Op.move (Operand.tmp 92), type := 4, pos := "law.go:59", after := #[{ on := 0, ground := Ground.data }, { on := 0, ground := Ground.chain }], guard := none }) (v := ?_) rfl (by kernel_rfl) (by kernel_rfl) (by kernel_rfl) (fun _ _ _ h => h) (Or.inl ⟨by rfl, ?_⟩) trivial ?_
      rotate_left
      · (intro w' hSw; go_simp) <;> with_reducible rfl
      try simp only [Act.put, List.setIfInBounds_toArray, List.set_cons_zero, List.set_cons_succ]
      refine wpAnyH_take (i := 2) (oi := { dst := some 94, op := Op.move (Operand.tmp 18), type := 29, pos := "law.go:59", after := #[{ on := 1, ground := Ground.guard }], guard := some (1, true) }) (v := ?_) rfl (by kernel_rfl) (by kernel_rfl) (by kernel_rfl) (fun _ _ _ h => h) (Or.inl ⟨by rfl, ?_⟩) trivial ?_
      rotate_left
      · (intro w' hSw; go_simp) <;> with_reducible rfl
      try simp only [Act.put, List.setIfInBounds_toArray, List.set_cons_zero, List.set_cons_succ]
      refine wpAnyH_take (i := 3) (oi := { dst := some 95, op := Op.move (Operand.tmp 20), type := 29, pos := "law.go:59", after := #[{ on := 1, ground := Ground.guard }], guard := some (1, true) }) (v := ?_) rfl (by kernel_rfl) (by kernel_rfl) (by kernel_rfl) (fun _ _ _ h => h) (Or.inl ⟨by rfl, ?_⟩) trivial ?_
      rotate_left
      · (intro w' hSw; go_simp) <;> with_reducible rfl
      try simp only [Act.put, List.setIfInBounds_toArray, List.set_cons_zero, List.set_cons_succ]
      refine wpAnyH_take (i := 4) (oi := { dst := some 96, op := Op.binOp BinOp.eql 29 (Operand.tmp 94) (Operand.tmp 95) 29, type := 4, pos := "law.go:59", after := #[{ on := 2, ground := Ground.data }, { on := 3, ground := Ground.data }, { on := 1, ground := Ground.guard }], guard := some (1, true) }) (v := ?_) rfl (by kernel_rfl) (by kernel_rfl) (by kernel_rfl) (fun _ _ _ h => h) (Or.inl ⟨by rfl, ?_⟩) trivial ?_
      rotate_left
      · (intro w' hSw; go_simp) <;> with_reducible rfl
      try simp only [Act.put, List.setIfInBounds_toArray, List.set_cons_zero, List.set_cons_succ]
      refine wpAnyH_take (i := 5) (oi := { dst := some 97, op := Op.pick (Operand.tmp 93) (Operand.tmp 96) (Operand.const (Value.bool false)), type := 4, pos := "law.go:59", after := #[{ on := 1, ground := Ground.data }, { on := 4, ground := Ground.data }], guard := none }) (v := ?_) rfl (by kernel_rfl) (by kernel_rfl) (by kernel_rfl) (fun _ _ _ h => h) (Or.inl ⟨by rfl, ?_⟩) trivial ?_
      rotate_left
      · (intro w' hSw; go_simp) <;> with_reducible rfl
      try simp only [Act.put, List.setIfInBounds_toArray, List.set_cons_zero, List.set_cons_succ]
      refine wpAnyH_take (i := 6) (oi := { dst := some 98, op := Op.move (Operand.tmp 97), type := 4, pos := "law.go:59", after := #[{ on := 5, ground := Ground.data }, { on := 1, ground := Ground.chain }], guard := none }) (v := ?_) rfl (by kernel_rfl) (by kernel_rfl) (by kernel_rfl) (fun _ _ _ h => h) (Or.inl ⟨by rfl, ?_⟩) trivial ?_
      rotate_left
      · (intro w' hSw; go_simp) <;> with_reducible rfl
      try simp only [Act.put, List.setIfInBounds_toArray, List.set_cons_zero, List.set_cons_succ]
      refine wpAnyH_take (i := 7) (oi := { dst := some 99, op := Op.move (Operand.tmp 17), type := 23, pos := "law.go:59", after := #[{ on := 6, ground := Ground.guard }], guard := some (6, true) }) (v := ?_) rfl (by kernel_rfl) (by kernel_rfl) (by kernel_rfl) (fun _ _ _ h => h) (Or.inl ⟨by rfl, ?_⟩) trivial ?_
      rotate_left
      · (intro w' hSw; go_simp) <;> with_reducible rfl
      try simp only [Act.put, List.setIfInBounds_toArray, List.set_cons_zero, List.set_cons_succ]
      refine wpAnyH_take (i := 9) (oi := { dst := some 101, op := Op.move (Operand.tmp 19), type := 23, pos := "law.go:59", after := #[{ on := 6, ground := Ground.guard }], guard := some (6, true) }) (v := ?_) rfl (by kernel_rfl) (by kernel_rfl) (by kernel_rfl) (fun _ _ _ h => h) (Or.inl ⟨by rfl, ?_⟩) trivial ?_
      rotate_left
      · (intro w' hSw; go_simp) <;> with_reducible rfl
      try simp only [Act.put, List.setIfInBounds_toArray, List.set_cons_zero, List.set_cons_succ]
      refine wpAnyH_ready (rs := [8, 10]) (by kernel_rfl) (by simp) ?_
      refine AllReadyH.cons (o := { dst := some 100, op := Op.convert 23 9 (Operand.tmp 99), type := 9, pos := "law.go:59", after := #[{ on := 7, ground := Ground.data }, { on := 6, ground := Ground.guard }], guard := some (6, true) }) rfl (fun K hK => ?_) ?_
      · go_simp
        refine hK.out _ _ trivial (fun _ => ?_)
        clear hK K
        try simp only [Act.put, List.setIfInBounds_toArray, List.set_cons_zero, List.set_cons_succ]
        refine wpAnyH_ready (rs := [10]) (by kernel_rfl) (by simp) ?_
        refine AllReadyH.cons (o := { dst := some 102, op := Op.convert 23 9 (Operand.tmp 101), type := 9, pos := "law.go:59", after := #[{ on := 9, ground := Ground.data }, { on := 6, ground := Ground.guard }], guard := some (6, true) }) rfl (fun K hK => ?_) ?_
        · go_simp
          refine hK.out _ _ trivial (fun _ => ?_)
          clear hK K
          try simp only [Act.put, List.setIfInBounds_toArray, List.set_cons_zero, List.set_cons_succ]
          refine wpAnyH_take (i := 11) (oi := { dst := some 103, op := Op.binOp BinOp.eql 9 (Operand.tmp 100) (Operand.tmp 102) 9, type := 4, pos := "law.go:59", after := #[{ on := 8, ground := Ground.data }, { on := 10, ground := Ground.data }, { on := 6, ground := Ground.guard }], guard := some (6, true) }) (v := ?_) rfl (by kernel_rfl) (by kernel_rfl) (by kernel_rfl) (fun _ _ _ h => h) (Or.inl ⟨by rfl, ?_⟩) trivial ?_
          rotate_left
          · (intro w' hSw; go_simp) <;> with_reducible rfl
          try simp only [Act.put, List.setIfInBounds_toArray, List.set_cons_zero, List.set_cons_succ]
          refine wpAnyH_take (i := 12) (oi := { dst := some 104, op := Op.pick (Operand.tmp 98) (Operand.tmp 103) (Operand.const (Value.bool false)), type := 4, pos := "law.go:59", after := #[{ on := 6, ground := Ground.data }, { on := 11, ground := Ground.data }], guard := none }) (v := ?_) rfl (by kernel_rfl) (by kernel_rfl) (by kernel_rfl) (fun _ _ _ h => h) (Or.inl ⟨by rfl, ?_⟩) trivial ?_
          rotate_left
          · (intro w' hSw; go_simp) <;> with_reducible rfl
          try simp only [Act.put, List.setIfInBounds_toArray, List.set_cons_zero, List.set_cons_succ]
          refine wpAnyH_take (i := 13) (oi := { dst := some 105, op := Op.move (Operand.tmp 104), type := 4, pos := "law.go:59", after := #[{ on := 12, ground := Ground.data }, { on := 6, ground := Ground.chain }], guard := none }) (v := ?_) rfl (by kernel_rfl) (by kernel_rfl) (by kernel_rfl) (fun _ _ _ h => h) (Or.inl ⟨by rfl, ?_⟩) trivial ?_
          rotate_left
          · (intro w' hSw; go_simp) <;> with_reducible rfl
          try simp only [Act.put, List.setIfInBounds_toArray, List.set_cons_zero, List.set_cons_succ]
          refine wpAnyH_take (i := 14) (oi := { dst := some 106, op := Op.move (Operand.tmp 0), type := 23, pos := "law.go:59", after := #[{ on := 13, ground := Ground.guard }], guard := some (13, true) }) (v := ?_) rfl (by kernel_rfl) (by kernel_rfl) (by kernel_rfl) (fun _ _ _ h => h) (Or.inl ⟨by rfl, ?_⟩) trivial ?_
          rotate_left
          · (intro w' hSw; go_simp) <;> with_reducible rfl
          try simp only [Act.put, List.setIfInBounds_toArray, List.set_cons_zero, List.set_cons_succ]
          refine wpAnyH_take (i := 17) (oi := { dst := some 109, op := Op.move (Operand.tmp 0), type := 23, pos := "law.go:59", after := #[{ on := 13, ground := Ground.guard }], guard := some (13, true) }) (v := ?_) rfl (by kernel_rfl) (by kernel_rfl) (by kernel_rfl) (fun _ _ _ h => h) (Or.inl ⟨by rfl, ?_⟩) trivial ?_
          rotate_left
          · (intro w' hSw; go_simp) <;> with_reducible rfl
          try simp only [Act.put, List.setIfInBounds_toArray, List.set_cons_zero, List.set_cons_succ]
          refine wpAnyH_ready (rs := [15]) (by kernel_rfl) (by simp) ?_
          refine AllReadyH.cons (o := { dst := some 107, op := Op.call { callee := Callee.value (Operand.func 16), args := #[Operand.tmp 106], argTypes := #[23] }, type := 23, pos := "law.go:59", after := #[{ on := 14, ground := Ground.data }, { on := 13, ground := Ground.chain }, { on := 13, ground := Ground.guard }], guard := some (13, true) }) rfl (fun K hK => ?_) ?_
          · go_simp
            go_at_call 16
            refine (LA _ LF).mono ?_
            rintro e wG ⟨gG, cG, rfl, kG, LG, bG⟩
            have LFG := LF.below bG (Nat.le_refl _)
            go_wp2_with fail
            refine hK.out _ _ trivial (fun _ => ?_)
            clear hK K
            try simp only [Act.put, List.setIfInBounds_toArray, List.set_cons_zero, List.set_cons_succ]
            refine wpAnyH_ready (rs := [16, 18]) (by kernel_rfl) (by simp) ?_
            refine AllReadyH.cons (o := { dst := some 108, op := Op.convert 23 9 (Operand.tmp 107), type := 9, pos := "law.go:59", after := #[{ on := 15, ground := Ground.data }, { on := 13, ground := Ground.guard }], guard := some (13, true) }) rfl (fun K hK => ?_) ?_
            · go_simp
              refine hK.out _ _ trivial (fun _ => ?_)
              clear hK K
              try simp only [Act.put, List.setIfInBounds_toArray, List.set_cons_zero, List.set_cons_succ]
              refine wpAnyH_ready (rs := [18]) (by kernel_rfl) (by simp) ?_
              refine AllReadyH.cons (o := { dst := some 110, op := Op.call { callee := Callee.value (Operand.func 20), args := #[Operand.tmp 109], argTypes := #[23] }, type := 23, pos := "law.go:59", after := #[{ on := 17, ground := Ground.data }, { on := 15, ground := Ground.chain }, { on := 13, ground := Ground.guard }], guard := some (13, true) }) rfl (fun K hK => ?_) ?_
              · go_simp
                go_at_call 20
                refine (LR _ LFG).mono ?_
                rintro e wH ⟨gH, cH, rfl, kH, bH⟩
                have kGH := CV _ _ _ (LG.below bH (Nat.le_refl _))
                go_wp2_with fail
                refine hK.out _ _ trivial (fun _ => ?_)
                clear hK K
                try simp only [Act.put, List.setIfInBounds_toArray, List.set_cons_zero, List.set_cons_succ]
                refine wpAnyH_ready (rs := [19]) (by kernel_rfl) (by simp) ?_
                refine AllReadyH.cons (o := { dst := some 111, op := Op.convert 23 9 (Operand.tmp 110), type := 9, pos := "law.go:59", after := #[{ on := 18, ground := Ground.data }, { on := 13, ground := Ground.guard }], guard := some (13, true) }) rfl (fun K hK => ?_) ?_
                · go_simp
                  refine hK.out _ _ trivial (fun _ => ?_)
                  clear hK K
                  try simp only [Act.put, List.setIfInBounds_toArray, List.set_cons_zero, List.set_cons_succ]
                  refine wpAnyH_take (i := 20) (oi := { dst := some 112, op := Op.binOp BinOp.eql 9 (Operand.tmp 108) (Operand.tmp 111) 9, type := 4, pos := "law.go:59", after := #[{ on := 16, ground := Ground.data }, { on := 19, ground := Ground.data }, { on := 13, ground := Ground.guard }], guard := some (13, true) }) (v := ?_) rfl (by kernel_rfl) (by kernel_rfl) (by kernel_rfl) (fun _ _ _ h => h) (Or.inl ⟨by rfl, ?_⟩) trivial ?_
                  rotate_left
                  · (intro w' hSw; go_simp) <;> with_reducible rfl
                  try simp only [Act.put, List.setIfInBounds_toArray, List.set_cons_zero, List.set_cons_succ]
                  refine wpAnyH_take (i := 21) (oi := { dst := some 113, op := Op.pick (Operand.tmp 105) (Operand.tmp 112) (Operand.const (Value.bool false)), type := 4, pos := "law.go:59", after := #[{ on := 13, ground := Ground.data }, { on := 20, ground := Ground.data }], guard := none }) (v := ?_) rfl (by kernel_rfl) (by kernel_rfl) (by kernel_rfl) (fun _ _ _ h => h) (Or.inl ⟨by rfl, ?_⟩) trivial ?_
                  rotate_left
                  · (intro w' hSw; go_simp) <;> with_reducible rfl
                  try simp only [Act.put, List.setIfInBounds_toArray, List.set_cons_zero, List.set_cons_succ]
                  refine wpAnyH_take (i := 22) (oi := { dst := some 14, op := Op.assign (Operand.tmp 113), type := 4, pos := "law.go:59", after := #[{ on := 21, ground := Ground.data }, { on := 18, ground := Ground.chain }, { on := 0, ground := Ground.phase }, { on := 1, ground := Ground.phase }, { on := 2, ground := Ground.phase }, { on := 3, ground := Ground.phase }, { on := 4, ground := Ground.phase }, { on := 5, ground := Ground.phase }, { on := 6, ground := Ground.phase }, { on := 7, ground := Ground.phase }, { on := 8, ground := Ground.phase }, { on := 9, ground := Ground.phase }, { on := 10, ground := Ground.phase }, { on := 11, ground := Ground.phase }, { on := 12, ground := Ground.phase }, { on := 13, ground := Ground.phase }, { on := 14, ground := Ground.phase }, { on := 15, ground := Ground.phase }, { on := 16, ground := Ground.phase }, { on := 17, ground := Ground.phase }, { on := 18, ground := Ground.phase }, { on := 19, ground := Ground.phase }, { on := 20, ground := Ground.phase }, { on := 21, ground := Ground.phase }], guard := none }) (v := ?_) rfl (by kernel_rfl) (by kernel_rfl) (by kernel_rfl) (fun _ _ _ h => h) (Or.inl ⟨by rfl, ?_⟩) trivial ?_
                  rotate_left
                  · (intro w' hSw; go_simp) <;> with_reducible rfl
                  try simp only [Act.put, List.setIfInBounds_toArray, List.set_cons_zero, List.set_cons_succ]
                  refine wpAnyH_done (by kernel_rfl) ?_ _
                  have BG := BF.trans (bG.mono BF.size)
                  have BH := BG.trans (bH.mono BG.size)
                  go_wp2
                  go_ret
                  exact ⟨rfl, BH⟩
                exact AllReadyH.nil
              exact AllReadyH.nil
            refine AllReadyH.cons (o := { dst := some 110, op := Op.call { callee := Callee.value (Operand.func 20), args := #[Operand.tmp 109], argTypes := #[23] }, type := 23, pos := "law.go:59", after := #[{ on := 17, ground := Ground.data }, { on := 15, ground := Ground.chain }, { on := 13, ground := Ground.guard }], guard := some (13, true) }) rfl (fun K hK => ?_) ?_
            · go_simp
              go_at_call 20
              refine (LR _ LFG).mono ?_
              rintro e wH ⟨gH, cH, rfl, kH, bH⟩
              have kGH := CV _ _ _ (LG.below bH (Nat.le_refl _))
              go_wp2_with fail
              refine hK.out _ _ trivial (fun _ => ?_)
              clear hK K
              try simp only [Act.put, List.setIfInBounds_toArray, List.set_cons_zero, List.set_cons_succ]
              refine wpAnyH_ready (rs := [16, 19]) (by kernel_rfl) (by simp) ?_
              refine AllReadyH.cons (o := { dst := some 108, op := Op.convert 23 9 (Operand.tmp 107), type := 9, pos := "law.go:59", after := #[{ on := 15, ground := Ground.data }, { on := 13, ground := Ground.guard }], guard := some (13, true) }) rfl (fun K hK => ?_) ?_
              · go_simp
                refine hK.out _ _ trivial (fun _ => ?_)
                clear hK K
                try simp only [Act.put, List.setIfInBounds_toArray, List.set_cons_zero, List.set_cons_succ]
                refine wpAnyH_ready (rs := [19]) (by kernel_rfl) (by simp) ?_
                refine AllReadyH.cons (o := { dst := some 111, op := Op.convert 23 9 (Operand.tmp 110), type := 9, pos := "law.go:59", after := #[{ on := 18, ground := Ground.data }, { on := 13, ground := Ground.guard }], guard := some (13, true) }) rfl (fun K hK => ?_) ?_
                · go_simp
                  refine hK.out _ _ trivial (fun _ => ?_)
                  clear hK K
                  try simp only [Act.put, List.setIfInBounds_toArray, List.set_cons_zero, List.set_cons_succ]
                  refine wpAnyH_take (i := 20) (oi := { dst := some 112, op := Op.binOp BinOp.eql 9 (Operand.tmp 108) (Operand.tmp 111) 9, type := 4, pos := "law.go:59", after := #[{ on := 16, ground := Ground.data }, { on := 19, ground := Ground.data }, { on := 13, ground := Ground.guard }], guard := some (13, true) }) (v := ?_) rfl (by kernel_rfl) (by kernel_rfl) (by kernel_rfl) (fun _ _ _ h => h) (Or.inl ⟨by rfl, ?_⟩) trivial ?_
                  rotate_left
                  · (intro w' hSw; go_simp) <;> with_reducible rfl
                  try simp only [Act.put, List.setIfInBounds_toArray, List.set_cons_zero, List.set_cons_succ]
                  refine wpAnyH_take (i := 21) (oi := { dst := some 113, op := Op.pick (Operand.tmp 105) (Operand.tmp 112) (Operand.const (Value.bool false)), type := 4, pos := "law.go:59", after := #[{ on := 13, ground := Ground.data }, { on := 20, ground := Ground.data }], guard := none }) (v := ?_) rfl (by kernel_rfl) (by kernel_rfl) (by kernel_rfl) (fun _ _ _ h => h) (Or.inl ⟨by rfl, ?_⟩) trivial ?_
                  rotate_left
                  · (intro w' hSw; go_simp) <;> with_reducible rfl
                  try simp only [Act.put, List.setIfInBounds_toArray, List.set_cons_zero, List.set_cons_succ]
                  refine wpAnyH_take (i := 22) (oi := { dst := some 14, op := Op.assign (Operand.tmp 113), type := 4, pos := "law.go:59", after := #[{ on := 21, ground := Ground.data }, { on := 18, ground := Ground.chain }, { on := 0, ground := Ground.phase }, { on := 1, ground := Ground.phase }, { on := 2, ground := Ground.phase }, { on := 3, ground := Ground.phase }, { on := 4, ground := Ground.phase }, { on := 5, ground := Ground.phase }, { on := 6, ground := Ground.phase }, { on := 7, ground := Ground.phase }, { on := 8, ground := Ground.phase }, { on := 9, ground := Ground.phase }, { on := 10, ground := Ground.phase }, { on := 11, ground := Ground.phase }, { on := 12, ground := Ground.phase }, { on := 13, ground := Ground.phase }, { on := 14, ground := Ground.phase }, { on := 15, ground := Ground.phase }, { on := 16, ground := Ground.phase }, { on := 17, ground := Ground.phase }, { on := 18, ground := Ground.phase }, { on := 19, ground := Ground.phase }, { on := 20, ground := Ground.phase }, { on := 21, ground := Ground.phase }], guard := none }) (v := ?_) rfl (by kernel_rfl) (by kernel_rfl) (by kernel_rfl) (fun _ _ _ h => h) (Or.inl ⟨by rfl, ?_⟩) trivial ?_
                  rotate_left
                  · (intro w' hSw; go_simp) <;> with_reducible rfl
                  try simp only [Act.put, List.setIfInBounds_toArray, List.set_cons_zero, List.set_cons_succ]
                  refine wpAnyH_done (by kernel_rfl) ?_ _
                  have BG := BF.trans (bG.mono BF.size)
                  have BH := BG.trans (bH.mono BG.size)
                  go_wp2
                  go_ret
                  exact ⟨rfl, BH⟩
                exact AllReadyH.nil
              refine AllReadyH.cons (o := { dst := some 111, op := Op.convert 23 9 (Operand.tmp 110), type := 9, pos := "law.go:59", after := #[{ on := 18, ground := Ground.data }, { on := 13, ground := Ground.guard }], guard := some (13, true) }) rfl (fun K hK => ?_) ?_
              · go_simp
                refine hK.out _ _ trivial (fun _ => ?_)
                clear hK K
                try simp only [Act.put, List.setIfInBounds_toArray, List.set_cons_zero, List.set_cons_succ]
                refine wpAnyH_ready (rs := [16]) (by kernel_rfl) (by simp) ?_
                refine AllReadyH.cons (o := { dst := some 108, op := Op.convert 23 9 (Operand.tmp 107), type := 9, pos := "law.go:59", after := #[{ on := 15, ground := Ground.data }, { on := 13, ground := Ground.guard }], guard := some (13, true) }) rfl (fun K hK => ?_) ?_
                · go_simp
                  refine hK.out _ _ trivial (fun _ => ?_)
                  clear hK K
                  try simp only [Act.put, List.setIfInBounds_toArray, List.set_cons_zero, List.set_cons_succ]
                  refine wpAnyH_take (i := 20) (oi := { dst := some 112, op := Op.binOp BinOp.eql 9 (Operand.tmp 108) (Operand.tmp 111) 9, type := 4, pos := "law.go:59", after := #[{ on := 16, ground := Ground.data }, { on := 19, ground := Ground.data }, { on := 13, ground := Ground.guard }], guard := some (13, true) }) (v := ?_) rfl (by kernel_rfl) (by kernel_rfl) (by kernel_rfl) (fun _ _ _ h => h) (Or.inl ⟨by rfl, ?_⟩) trivial ?_
                  rotate_left
                  · (intro w' hSw; go_simp) <;> with_reducible rfl
                  try simp only [Act.put, List.setIfInBounds_toArray, List.set_cons_zero, List.set_cons_succ]
                  refine wpAnyH_take (i := 21) (oi := { dst := some 113, op := Op.pick (Operand.tmp 105) (Operand.tmp 112) (Operand.const (Value.bool false)), type := 4, pos := "law.go:59", after := #[{ on := 13, ground := Ground.data }, { on := 20, ground := Ground.data }], guard := none }) (v := ?_) rfl (by kernel_rfl) (by kernel_rfl) (by kernel_rfl) (fun _ _ _ h => h) (Or.inl ⟨by rfl, ?_⟩) trivial ?_
                  rotate_left
                  · (intro w' hSw; go_simp) <;> with_reducible rfl
                  try simp only [Act.put, List.setIfInBounds_toArray, List.set_cons_zero, List.set_cons_succ]
                  refine wpAnyH_take (i := 22) (oi := { dst := some 14, op := Op.assign (Operand.tmp 113), type := 4, pos := "law.go:59", after := #[{ on := 21, ground := Ground.data }, { on := 18, ground := Ground.chain }, { on := 0, ground := Ground.phase }, { on := 1, ground := Ground.phase }, { on := 2, ground := Ground.phase }, { on := 3, ground := Ground.phase }, { on := 4, ground := Ground.phase }, { on := 5, ground := Ground.phase }, { on := 6, ground := Ground.phase }, { on := 7, ground := Ground.phase }, { on := 8, ground := Ground.phase }, { on := 9, ground := Ground.phase }, { on := 10, ground := Ground.phase }, { on := 11, ground := Ground.phase }, { on := 12, ground := Ground.phase }, { on := 13, ground := Ground.phase }, { on := 14, ground := Ground.phase }, { on := 15, ground := Ground.phase }, { on := 16, ground := Ground.phase }, { on := 17, ground := Ground.phase }, { on := 18, ground := Ground.phase }, { on := 19, ground := Ground.phase }, { on := 20, ground := Ground.phase }, { on := 21, ground := Ground.phase }], guard := none }) (v := ?_) rfl (by kernel_rfl) (by kernel_rfl) (by kernel_rfl) (fun _ _ _ h => h) (Or.inl ⟨by rfl, ?_⟩) trivial ?_
                  rotate_left
                  · (intro w' hSw; go_simp) <;> with_reducible rfl
                  try simp only [Act.put, List.setIfInBounds_toArray, List.set_cons_zero, List.set_cons_succ]
                  refine wpAnyH_done (by kernel_rfl) ?_ _
                  have BG := BF.trans (bG.mono BF.size)
                  have BH := BG.trans (bH.mono BG.size)
                  go_wp2
                  go_ret
                  exact ⟨rfl, BH⟩
                exact AllReadyH.nil
              exact AllReadyH.nil
            exact AllReadyH.nil
          exact AllReadyH.nil
        exact AllReadyH.nil
      refine AllReadyH.cons (o := { dst := some 102, op := Op.convert 23 9 (Operand.tmp 101), type := 9, pos := "law.go:59", after := #[{ on := 9, ground := Ground.data }, { on := 6, ground := Ground.guard }], guard := some (6, true) }) rfl (fun K hK => ?_) ?_
      · go_simp
        refine hK.out _ _ trivial (fun _ => ?_)
        clear hK K
        try simp only [Act.put, List.setIfInBounds_toArray, List.set_cons_zero, List.set_cons_succ]
        refine wpAnyH_ready (rs := [8]) (by kernel_rfl) (by simp) ?_
        refine AllReadyH.cons (o := { dst := some 100, op := Op.convert 23 9 (Operand.tmp 99), type := 9, pos := "law.go:59", after := #[{ on := 7, ground := Ground.data }, { on := 6, ground := Ground.guard }], guard := some (6, true) }) rfl (fun K hK => ?_) ?_
        · go_simp
          refine hK.out _ _ trivial (fun _ => ?_)
          clear hK K
          try simp only [Act.put, List.setIfInBounds_toArray, List.set_cons_zero, List.set_cons_succ]
          refine wpAnyH_take (i := 11) (oi := { dst := some 103, op := Op.binOp BinOp.eql 9 (Operand.tmp 100) (Operand.tmp 102) 9, type := 4, pos := "law.go:59", after := #[{ on := 8, ground := Ground.data }, { on := 10, ground := Ground.data }, { on := 6, ground := Ground.guard }], guard := some (6, true) }) (v := ?_) rfl (by kernel_rfl) (by kernel_rfl) (by kernel_rfl) (fun _ _ _ h => h) (Or.inl ⟨by rfl, ?_⟩) trivial ?_
          rotate_left
          · (intro w' hSw; go_simp) <;> with_reducible rfl
          try simp only [Act.put, List.setIfInBounds_toArray, List.set_cons_zero, List.set_cons_succ]
          refine wpAnyH_take (i := 12) (oi := { dst := some 104, op := Op.pick (Operand.tmp 98) (Operand.tmp 103) (Operand.const (Value.bool false)), type := 4, pos := "law.go:59", after := #[{ on := 6, ground := Ground.data }, { on := 11, ground := Ground.data }], guard := none }) (v := ?_) rfl (by kernel_rfl) (by kernel_rfl) (by kernel_rfl) (fun _ _ _ h => h) (Or.inl ⟨by rfl, ?_⟩) trivial ?_
          rotate_left
          · (intro w' hSw; go_simp) <;> with_reducible rfl
          try simp only [Act.put, List.setIfInBounds_toArray, List.set_cons_zero, List.set_cons_succ]
          refine wpAnyH_take (i := 13) (oi := { dst := some 105, op := Op.move (Operand.tmp 104), type := 4, pos := "law.go:59", after := #[{ on := 12, ground := Ground.data }, { on := 6, ground := Ground.chain }], guard := none }) (v := ?_) rfl (by kernel_rfl) (by kernel_rfl) (by kernel_rfl) (fun _ _ _ h => h) (Or.inl ⟨by rfl, ?_⟩) trivial ?_
          rotate_left
          · (intro w' hSw; go_simp) <;> with_reducible rfl
          try simp only [Act.put, List.setIfInBounds_toArray, List.set_cons_zero, List.set_cons_succ]
          refine wpAnyH_take (i := 14) (oi := { dst := some 106, op := Op.move (Operand.tmp 0), type := 23, pos := "law.go:59", after := #[{ on := 13, ground := Ground.guard }], guard := some (13, true) }) (v := ?_) rfl (by kernel_rfl) (by kernel_rfl) (by kernel_rfl) (fun _ _ _ h => h) (Or.inl ⟨by rfl, ?_⟩) trivial ?_
          rotate_left
          · (intro w' hSw; go_simp) <;> with_reducible rfl
          try simp only [Act.put, List.setIfInBounds_toArray, List.set_cons_zero, List.set_cons_succ]
          refine wpAnyH_take (i := 17) (oi := { dst := some 109, op := Op.move (Operand.tmp 0), type := 23, pos := "law.go:59", after := #[{ on := 13, ground := Ground.guard }], guard := some (13, true) }) (v := ?_) rfl (by kernel_rfl) (by kernel_rfl) (by kernel_rfl) (fun _ _ _ h => h) (Or.inl ⟨by rfl, ?_⟩) trivial ?_
          rotate_left
          · (intro w' hSw; go_simp) <;> with_reducible rfl
          try simp only [Act.put, List.setIfInBounds_toArray, List.set_cons_zero, List.set_cons_succ]
          refine wpAnyH_ready (rs := [15]) (by kernel_rfl) (by simp) ?_
          refine AllReadyH.cons (o := { dst := some 107, op := Op.call { callee := Callee.value (Operand.func 16), args := #[Operand.tmp 106], argTypes := #[23] }, type := 23, pos := "law.go:59", after := #[{ on := 14, ground := Ground.data }, { on := 13, ground := Ground.chain }, { on := 13, ground := Ground.guard }], guard := some (13, true) }) rfl (fun K hK => ?_) ?_
          · go_simp
            go_at_call 16
            refine (LA _ LF).mono ?_
            rintro e wG ⟨gG, cG, rfl, kG, LG, bG⟩
            have LFG := LF.below bG (Nat.le_refl _)
            go_wp2_with fail
            refine hK.out _ _ trivial (fun _ => ?_)
            clear hK K
            try simp only [Act.put, List.setIfInBounds_toArray, List.set_cons_zero, List.set_cons_succ]
            refine wpAnyH_ready (rs := [16, 18]) (by kernel_rfl) (by simp) ?_
            refine AllReadyH.cons (o := { dst := some 108, op := Op.convert 23 9 (Operand.tmp 107), type := 9, pos := "law.go:59", after := #[{ on := 15, ground := Ground.data }, { on := 13, ground := Ground.guard }], guard := some (13, true) }) rfl (fun K hK => ?_) ?_
            · go_simp
              refine hK.out _ _ trivial (fun _ => ?_)
              clear hK K
              try simp only [Act.put, List.setIfInBounds_toArray, List.set_cons_zero, List.set_cons_succ]
              refine wpAnyH_ready (rs := [18]) (by kernel_rfl) (by simp) ?_
              refine AllReadyH.cons (o := { dst := some 110, op := Op.call { callee := Callee.value (Operand.func 20), args := #[Operand.tmp 109], argTypes := #[23] }, type := 23, pos := "law.go:59", after := #[{ on := 17, ground := Ground.data }, { on := 15, ground := Ground.chain }, { on := 13, ground := Ground.guard }], guard := some (13, true) }) rfl (fun K hK => ?_) ?_
              · go_simp
                go_at_call 20
                refine (LR _ LFG).mono ?_
                rintro e wH ⟨gH, cH, rfl, kH, bH⟩
                have kGH := CV _ _ _ (LG.below bH (Nat.le_refl _))
                go_wp2_with fail
                refine hK.out _ _ trivial (fun _ => ?_)
                clear hK K
                try simp only [Act.put, List.setIfInBounds_toArray, List.set_cons_zero, List.set_cons_succ]
                refine wpAnyH_ready (rs := [19]) (by kernel_rfl) (by simp) ?_
                refine AllReadyH.cons (o := { dst := some 111, op := Op.convert 23 9 (Operand.tmp 110), type := 9, pos := "law.go:59", after := #[{ on := 18, ground := Ground.data }, { on := 13, ground := Ground.guard }], guard := some (13, true) }) rfl (fun K hK => ?_) ?_
                · go_simp
                  refine hK.out _ _ trivial (fun _ => ?_)
                  clear hK K
                  try simp only [Act.put, List.setIfInBounds_toArray, List.set_cons_zero, List.set_cons_succ]
                  refine wpAnyH_take (i := 20) (oi := { dst := some 112, op := Op.binOp BinOp.eql 9 (Operand.tmp 108) (Operand.tmp 111) 9, type := 4, pos := "law.go:59", after := #[{ on := 16, ground := Ground.data }, { on := 19, ground := Ground.data }, { on := 13, ground := Ground.guard }], guard := some (13, true) }) (v := ?_) rfl (by kernel_rfl) (by kernel_rfl) (by kernel_rfl) (fun _ _ _ h => h) (Or.inl ⟨by rfl, ?_⟩) trivial ?_
                  rotate_left
                  · (intro w' hSw; go_simp) <;> with_reducible rfl
                  try simp only [Act.put, List.setIfInBounds_toArray, List.set_cons_zero, List.set_cons_succ]
                  refine wpAnyH_take (i := 21) (oi := { dst := some 113, op := Op.pick (Operand.tmp 105) (Operand.tmp 112) (Operand.const (Value.bool false)), type := 4, pos := "law.go:59", after := #[{ on := 13, ground := Ground.data }, { on := 20, ground := Ground.data }], guard := none }) (v := ?_) rfl (by kernel_rfl) (by kernel_rfl) (by kernel_rfl) (fun _ _ _ h => h) (Or.inl ⟨by rfl, ?_⟩) trivial ?_
                  rotate_left
                  · (intro w' hSw; go_simp) <;> with_reducible rfl
                  try simp only [Act.put, List.setIfInBounds_toArray, List.set_cons_zero, List.set_cons_succ]
                  refine wpAnyH_take (i := 22) (oi := { dst := some 14, op := Op.assign (Operand.tmp 113), type := 4, pos := "law.go:59", after := #[{ on := 21, ground := Ground.data }, { on := 18, ground := Ground.chain }, { on := 0, ground := Ground.phase }, { on := 1, ground := Ground.phase }, { on := 2, ground := Ground.phase }, { on := 3, ground := Ground.phase }, { on := 4, ground := Ground.phase }, { on := 5, ground := Ground.phase }, { on := 6, ground := Ground.phase }, { on := 7, ground := Ground.phase }, { on := 8, ground := Ground.phase }, { on := 9, ground := Ground.phase }, { on := 10, ground := Ground.phase }, { on := 11, ground := Ground.phase }, { on := 12, ground := Ground.phase }, { on := 13, ground := Ground.phase }, { on := 14, ground := Ground.phase }, { on := 15, ground := Ground.phase }, { on := 16, ground := Ground.phase }, { on := 17, ground := Ground.phase }, { on := 18, ground := Ground.phase }, { on := 19, ground := Ground.phase }, { on := 20, ground := Ground.phase }, { on := 21, ground := Ground.phase }], guard := none }) (v := ?_) rfl (by kernel_rfl) (by kernel_rfl) (by kernel_rfl) (fun _ _ _ h => h) (Or.inl ⟨by rfl, ?_⟩) trivial ?_
                  rotate_left
                  · (intro w' hSw; go_simp) <;> with_reducible rfl
                  try simp only [Act.put, List.setIfInBounds_toArray, List.set_cons_zero, List.set_cons_succ]
                  refine wpAnyH_done (by kernel_rfl) ?_ _
                  have BG := BF.trans (bG.mono BF.size)
                  have BH := BG.trans (bH.mono BG.size)
                  go_wp2
                  go_ret
                  exact ⟨rfl, BH⟩
                exact AllReadyH.nil
              exact AllReadyH.nil
            refine AllReadyH.cons (o := { dst := some 110, op := Op.call { callee := Callee.value (Operand.func 20), args := #[Operand.tmp 109], argTypes := #[23] }, type := 23, pos := "law.go:59", after := #[{ on := 17, ground := Ground.data }, { on := 15, ground := Ground.chain }, { on := 13, ground := Ground.guard }], guard := some (13, true) }) rfl (fun K hK => ?_) ?_
            · go_simp
              go_at_call 20
              refine (LR _ LFG).mono ?_
              rintro e wH ⟨gH, cH, rfl, kH, bH⟩
              have kGH := CV _ _ _ (LG.below bH (Nat.le_refl _))
              go_wp2_with fail
              refine hK.out _ _ trivial (fun _ => ?_)
              clear hK K
              try simp only [Act.put, List.setIfInBounds_toArray, List.set_cons_zero, List.set_cons_succ]
              refine wpAnyH_ready (rs := [16, 19]) (by kernel_rfl) (by simp) ?_
              refine AllReadyH.cons (o := { dst := some 108, op := Op.convert 23 9 (Operand.tmp 107), type := 9, pos := "law.go:59", after := #[{ on := 15, ground := Ground.data }, { on := 13, ground := Ground.guard }], guard := some (13, true) }) rfl (fun K hK => ?_) ?_
              · go_simp
                refine hK.out _ _ trivial (fun _ => ?_)
                clear hK K
                try simp only [Act.put, List.setIfInBounds_toArray, List.set_cons_zero, List.set_cons_succ]
                refine wpAnyH_ready (rs := [19]) (by kernel_rfl) (by simp) ?_
                refine AllReadyH.cons (o := { dst := some 111, op := Op.convert 23 9 (Operand.tmp 110), type := 9, pos := "law.go:59", after := #[{ on := 18, ground := Ground.data }, { on := 13, ground := Ground.guard }], guard := some (13, true) }) rfl (fun K hK => ?_) ?_
                · go_simp
                  refine hK.out _ _ trivial (fun _ => ?_)
                  clear hK K
                  try simp only [Act.put, List.setIfInBounds_toArray, List.set_cons_zero, List.set_cons_succ]
                  refine wpAnyH_take (i := 20) (oi := { dst := some 112, op := Op.binOp BinOp.eql 9 (Operand.tmp 108) (Operand.tmp 111) 9, type := 4, pos := "law.go:59", after := #[{ on := 16, ground := Ground.data }, { on := 19, ground := Ground.data }, { on := 13, ground := Ground.guard }], guard := some (13, true) }) (v := ?_) rfl (by kernel_rfl) (by kernel_rfl) (by kernel_rfl) (fun _ _ _ h => h) (Or.inl ⟨by rfl, ?_⟩) trivial ?_
                  rotate_left
                  · (intro w' hSw; go_simp) <;> with_reducible rfl
                  try simp only [Act.put, List.setIfInBounds_toArray, List.set_cons_zero, List.set_cons_succ]
                  refine wpAnyH_take (i := 21) (oi := { dst := some 113, op := Op.pick (Operand.tmp 105) (Operand.tmp 112) (Operand.const (Value.bool false)), type := 4, pos := "law.go:59", after := #[{ on := 13, ground := Ground.data }, { on := 20, ground := Ground.data }], guard := none }) (v := ?_) rfl (by kernel_rfl) (by kernel_rfl) (by kernel_rfl) (fun _ _ _ h => h) (Or.inl ⟨by rfl, ?_⟩) trivial ?_
                  rotate_left
                  · (intro w' hSw; go_simp) <;> with_reducible rfl
                  try simp only [Act.put, List.setIfInBounds_toArray, List.set_cons_zero, List.set_cons_succ]
                  refine wpAnyH_take (i := 22) (oi := { dst := some 14, op := Op.assign (Operand.tmp 113), type := 4, pos := "law.go:59", after := #[{ on := 21, ground := Ground.data }, { on := 18, ground := Ground.chain }, { on := 0, ground := Ground.phase }, { on := 1, ground := Ground.phase }, { on := 2, ground := Ground.phase }, { on := 3, ground := Ground.phase }, { on := 4, ground := Ground.phase }, { on := 5, ground := Ground.phase }, { on := 6, ground := Ground.phase }, { on := 7, ground := Ground.phase }, { on := 8, ground := Ground.phase }, { on := 9, ground := Ground.phase }, { on := 10, ground := Ground.phase }, { on := 11, ground := Ground.phase }, { on := 12, ground := Ground.phase }, { on := 13, ground := Ground.phase }, { on := 14, ground := Ground.phase }, { on := 15, ground := Ground.phase }, { on := 16, ground := Ground.phase }, { on := 17, ground := Ground.phase }, { on := 18, ground := Ground.phase }, { on := 19, ground := Ground.phase }, { on := 20, ground := Ground.phase }, { on := 21, ground := Ground.phase }], guard := none }) (v := ?_) rfl (by kernel_rfl) (by kernel_rfl) (by kernel_rfl) (fun _ _ _ h => h) (Or.inl ⟨by rfl, ?_⟩) trivial ?_
                  rotate_left
                  · (intro w' hSw; go_simp) <;> with_reducible rfl
                  try simp only [Act.put, List.setIfInBounds_toArray, List.set_cons_zero, List.set_cons_succ]
                  refine wpAnyH_done (by kernel_rfl) ?_ _
                  have BG := BF.trans (bG.mono BF.size)
                  have BH := BG.trans (bH.mono BG.size)
                  go_wp2
                  go_ret
                  exact ⟨rfl, BH⟩
                exact AllReadyH.nil
              refine AllReadyH.cons (o := { dst := some 111, op := Op.convert 23 9 (Operand.tmp 110), type := 9, pos := "law.go:59", after := #[{ on := 18, ground := Ground.data }, { on := 13, ground := Ground.guard }], guard := some (13, true) }) rfl (fun K hK => ?_) ?_
              · go_simp
                refine hK.out _ _ trivial (fun _ => ?_)
                clear hK K
                try simp only [Act.put, List.setIfInBounds_toArray, List.set_cons_zero, List.set_cons_succ]
                refine wpAnyH_ready (rs := [16]) (by kernel_rfl) (by simp) ?_
                refine AllReadyH.cons (o := { dst := some 108, op := Op.convert 23 9 (Operand.tmp 107), type := 9, pos := "law.go:59", after := #[{ on := 15, ground := Ground.data }, { on := 13, ground := Ground.guard }], guard := some (13, true) }) rfl (fun K hK => ?_) ?_
                · go_simp
                  refine hK.out _ _ trivial (fun _ => ?_)
                  clear hK K
                  try simp only [Act.put, List.setIfInBounds_toArray, List.set_cons_zero, List.set_cons_succ]
                  refine wpAnyH_take (i := 20) (oi := { dst := some 112, op := Op.binOp BinOp.eql 9 (Operand.tmp 108) (Operand.tmp 111) 9, type := 4, pos := "law.go:59", after := #[{ on := 16, ground := Ground.data }, { on := 19, ground := Ground.data }, { on := 13, ground := Ground.guard }], guard := some (13, true) }) (v := ?_) rfl (by kernel_rfl) (by kernel_rfl) (by kernel_rfl) (fun _ _ _ h => h) (Or.inl ⟨by rfl, ?_⟩) trivial ?_
                  rotate_left
                  · (intro w' hSw; go_simp) <;> with_reducible rfl
                  try simp only [Act.put, List.setIfInBounds_toArray, List.set_cons_zero, List.set_cons_succ]
                  refine wpAnyH_take (i := 21) (oi := { dst := some 113, op := Op.pick (Operand.tmp 105) (Operand.tmp 112) (Operand.const (Value.bool false)), type := 4, pos := "law.go:59", after := #[{ on := 13, ground := Ground.data }, { on := 20, ground := Ground.data }], guard := none }) (v := ?_) rfl (by kernel_rfl) (by kernel_rfl) (by kernel_rfl) (fun _ _ _ h => h) (Or.inl ⟨by rfl, ?_⟩) trivial ?_
                  rotate_left
                  · (intro w' hSw; go_simp) <;> with_reducible rfl
                  try simp only [Act.put, List.setIfInBounds_toArray, List.set_cons_zero, List.set_cons_succ]
                  refine wpAnyH_take (i := 22) (oi := { dst := some 14, op := Op.assign (Operand.tmp 113), type := 4, pos := "law.go:59", after := #[{ on := 21, ground := Ground.data }, { on := 18, ground := Ground.chain }, { on := 0, ground := Ground.phase }, { on := 1, ground := Ground.phase }, { on := 2, ground := Ground.phase }, { on := 3, ground := Ground.phase }, { on := 4, ground := Ground.phase }, { on := 5, ground := Ground.phase }, { on := 6, ground := Ground.phase }, { on := 7, ground := Ground.phase }, { on := 8, ground := Ground.phase }, { on := 9, ground := Ground.phase }, { on := 10, ground := Ground.phase }, { on := 11, ground := Ground.phase }, { on := 12, ground := Ground.phase }, { on := 13, ground := Ground.phase }, { on := 14, ground := Ground.phase }, { on := 15, ground := Ground.phase }, { on := 16, ground := Ground.phase }, { on := 17, ground := Ground.phase }, { on := 18, ground := Ground.phase }, { on := 19, ground := Ground.phase }, { on := 20, ground := Ground.phase }, { on := 21, ground := Ground.phase }], guard := none }) (v := ?_) rfl (by kernel_rfl) (by kernel_rfl) (by kernel_rfl) (fun _ _ _ h => h) (Or.inl ⟨by rfl, ?_⟩) trivial ?_
                  rotate_left
                  · (intro w' hSw; go_simp) <;> with_reducible rfl
                  try simp only [Act.put, List.setIfInBounds_toArray, List.set_cons_zero, List.set_cons_succ]
                  refine wpAnyH_done (by kernel_rfl) ?_ _
                  have BG := BF.trans (bG.mono BF.size)
                  have BH := BG.trans (bH.mono BG.size)
                  go_wp2
                  go_ret
                  exact ⟨rfl, BH⟩
                exact AllReadyH.nil
              exact AllReadyH.nil
            exact AllReadyH.nil
          exact AllReadyH.nil
        exact AllReadyH.nil
      exact AllReadyH.nil
    exact AllReadyH.nil
end Go.Proofs.YtahibacjaoohiaaDoor
