/-
  SfntAnywhere's own walk.
-/
import Derived.Test.YtdmfammajggfpaaAnP
namespace Go.Proofs.Ytdmfammajggfpaa
open Go.RowKit

set_option maxRecDepth 100000 in
set_option maxHeartbeats 12800000 in
theorem any_walk (w : World) (a1 : Option Addr) (L c1 : Nat) (z : Nat → Nat) (a2 : Option Addr) (m c2 : Nat) (f : Nat → Int)
    (h1 : Lies w a1 L c1 z) (hL : L ≤ 1048576) (h2 : Ints w a2 m c2 f) :
    Calls Try.prog 6 #[.slice a1 L c1, .slice a2 m c2] w fun e w' => e = .returned (.bool true) ∧ Below w.heap.size w w' := by
  have hr2 := h2.reach
  have hlc := h1.lc
  have hlc2 := h2.lc
  obtain ⟨hm, hhm⟩ : ∃ hm : Nat, (m : Int) / 2 = hm := ⟨m / 2, by omega⟩
  obtain ⟨n, hn⟩ : ∃ n : Nat, min (hm : Int) 8 = n := ⟨min hm 8, by omega⟩
  have hn8 : n ≤ 8 := by omega
  have hnm : Hid (2 * n ≤ m) := by show _ ≤ _; omega
  go_enter Try.func6, Try.ntmps6
  go_upto_region 1 with fail
  go_cut [5] from 17 to 20 (fun v wx => v = .int .i64 (n : Nat) ∧ wx = w)
  case first =>
    by_cases q : hm ≤ 8
    · obtain rfl : n = hm := by omega
      have q' : (n : Int) ≤ 8 := by omega
      clear hn
      go_wp2
      go_meet
      case rel => exact ⟨rfl, rfl⟩
    · obtain rfl : n = 8 := by omega
      have q' : ¬ (hm : Int) ≤ 8 := by omega
      clear hn
      go_wp2
      go_meet
      case rel => exact ⟨rfl, rfl⟩
  case rest =>
    obtain ⟨rfl, rfl⟩ := hcut
    clear hn hhm
    obtain ⟨A, hA⟩ : ∃ A : Nat, (12 : Int) + 16 * (n : Int) = A := ⟨12 + 16 * n, by omega⟩
    have HA : Hid (A = 12 + 16 * n) := by show _ = _; omega
    have hA140 : A ≤ 140 := by omega
    have O0 : Hid (Own (wc.alloc (.cells #[.int .u8 0, .int .u8 1, .int .u8 0, .int .u8 0] 5)) wc.heap.size 5 .u8 wc.heap.size 4 [0, 1, 0, 0]) := own_lit4 wc
    have B0 : Hid (Below wc.heap.size wc (wc.alloc (.cells #[.int .u8 0, .int .u8 1, .int .u8 0, .int .u8 0] 5))) := (Below.refl _ _).alloc (Nat.le_refl _) _
    go_wp2_with fail
    refine (big2_any n (by omega) _).mono ?_
    rintro e w2 ⟨gb, cb, rfl, Ob, b2⟩
    have B2 := B0.out.trans (b2.mono B0.out.size)
    have T2 : Two w2 wc.heap.size wc.heap.size 4 [0, 1, 0, 0] (.slice none 0 0) 0 (fun i => bstr (fun j => z (fA f L i + j)) (zA f L i)) := ⟨O0.out.below b2, World.ownsRow_nil _ _ _ _⟩
    have A1 : Hid (_) := Two.on (cm := cb) B2 T2 (Ob.src' (n := 2) rfl) (N := 4) rfl (by omega)
    have A2 : ∀ (g : Nat) (c : Nat) (W : World), Hid (Two W wc.heap.size g c ([0, 1, 0, 0] ++ [0, (n : Int)]) (.slice none 0 0) 0 (fun i => bstr (fun j => z (fA f L i + j)) (zA f L i)) ∧ Below wc.heap.size wc W) → Hid (_) := fun g c W hh => app_zeros hh.out.2 hh.out.1.o1 6 (by omega) (n := 4 + 2) rfl (by omega)
    clear Ob T2
    go_wp2_with (first
      | (at_builtin; refine wpList_app2 rfl (.tmp 21) (.tmp 23) 22 22 rfl rfl rfl A1.out ?_; rintro g3 c3 w3 hR1; have HR3 : Hid (_) := hR1; clear hR1; have A2' := A2 g3 c3 w3 HR3)
      | (at_builtin; refine wpList_app2 rfl (.tmp 25) (.const (.int .i64 6)) 22 3 rfl rfl rfl A2'.out ?_; rintro g4 c4 w4 hR1; have HR4 : Hid (_) := hR1; clear hR1))
    have B4 := HR4.out.2
    have T4 : Hid (Two w4 wc.heap.size g4 c4 (headB n ++ recA (fA f L) (zA f L) A 0) (.slice none 0 0) 0 (fun i => bstr (fun j => z (fA f L i + j)) (zA f L i))) := ⟨by rw [recA, List.append_nil]; exact HR4.out.1, World.ownsRow_nil _ _ _ _⟩
    clear A1 A2 A2' HR3 HR4 O0 B0 B2 b2
    go_loopw [6, 8, 9] (fun b v i wq => ∃ (k g c : Nat), i = .int .i64 (k : Nat) ∧ k ≤ n ∧ b = .slice (some ⟨g, 0, none⟩) (12 + 16 * k) c ∧ Hid (Two wq wc.heap.size g c (headB n ++ recA (fA f L) (zA f L) A k) v k (fun i => bstr (fun j => z (fA f L i + j)) (zA f L i))) ∧ Below wc.heap.size wc wq) (fun _ _ i _ => n - (intOf i).toNat)
    case atStart => exact ⟨0, g4, c4, rfl, by omega, rfl, T4, B4⟩
    case round =>
      clear T4 B4
      obtain ⟨k, g, c, rfl, hk, rfl, hT, hB⟩ := hrel
      have hXL : Hid ((headB n ++ recA (fA f L) (zA f L) A k).length = 12 + 16 * k) := by show _ = _; rw [List.length_append, headB_len, recA_len]
      by_cases hkn : k < n
      · have hkn' : (k : Int) < n := by omega
        obtain ⟨q, hq⟩ : ∃ q : Nat, (2 : Int) * (k : Int) = q := ⟨2 * k, by omega⟩
        have HQ : Hid (q = 2 * k) := by show _ = _; omega
        obtain ⟨q1, hq1⟩ : ∃ q1 : Nat, (q : Int) + 1 = q1 := ⟨q + 1, by omega⟩
        have HQ1 : Hid (q1 = 2 * k + 1) := by show _ = _; omega
        have hqm : q < m := by have := hnm.out; omega
        have hqm1 : q1 < m := by have := hnm.out; omega
        have hqm' : (q : Int) < m := by omega
        have hqm1' : (q1 : Int) < m := by omega
        obtain ⟨b2, o2, rfl, hb2, hcl2⟩ := h2.spot (by omega)
        have DN : ∀ W, Below wc.heap.size wc W → W.cell? ⟨b2, o2 + q, none⟩ = some (.int .i64 (f q)) ∧ W.cell? ⟨b2, o2 + q1, none⟩ = some (.int .i64 (f q1)) := fun W hW =>
          ⟨by rw [World.cell?_of_block (a := ⟨b2, o2 + q, none⟩) (hW.block b2 hb2), hcl2 q hqm], by rw [World.cell?_of_block (a := ⟨b2, o2 + q1, none⟩) (hW.block b2 hb2), hcl2 q1 hqm1]⟩
        obtain ⟨d1, d2⟩ := DN wr hB
        obtain ⟨L1, hL1⟩ : ∃ L1 : Nat, (L : Int) + 1 = L1 := ⟨L + 1, by omega⟩
        have P1 := pick_big (f q) L1 (by omega) (by omega) wr
        obtain ⟨F, hF⟩ : ∃ F, Hid (pickv (f q) L1 = F) := ⟨_, rfl⟩
        have hFL : F ≤ L := by rw [← hF.out]; have := pickv_lt (f q) L1 (by omega); omega
        have HF : Hid (fA f L k = F) := by show _ = _; rw [← hF.out, HQ.out]; show pickv _ (L + 1) = pickv _ L1; rw [show L1 = L + 1 by omega]
        obtain ⟨D, hD⟩ : ∃ D : Nat, (L : Int) - (F : Int) = D := ⟨L - F, by omega⟩
        obtain ⟨D1, hD1⟩ : ∃ D1 : Nat, (D : Int) + 1 = D1 := ⟨D + 1, by omega⟩
        have P2 := pick_big (f q1) D1 (by omega) (by omega) wr
        obtain ⟨Z, hZ⟩ : ∃ Z, Hid (pickv (f q1) D1 = Z) := ⟨_, rfl⟩
        have hFZ : F + Z ≤ L := by rw [← hZ.out]; have := pickv_lt (f q1) D1 (by omega); omega
        have HZ : Hid (zA f L k = Z) := by show _ = _; rw [← hZ.out, HQ1.out]; show pickv _ (L - fA f L k + 1) = pickv _ D1; rw [HF.out, show D1 = L - F + 1 by omega]
        rw [hF.out] at P1
        rw [hZ.out] at P2
        obtain ⟨E, hE⟩ : ∃ E : Nat, (F : Int) + (Z : Int) = E := ⟨F + Z, by omega⟩
        have HE : Hid (E = F + Z) := by show _ = _; omega
        obtain ⟨AT, hAT⟩ : ∃ AT : Nat, (A : Int) + (F : Int) = AT := ⟨A + F, by omega⟩
        have HAT : Hid (AT = A + F) := by show _ = _; omega
        obtain ⟨C, hC⟩ : ∃ C : Nat, (48 : Int) + (k : Int) = C := ⟨k + 48, by omega⟩
        have HC : Hid (C = k + 48) := by show _ = _; omega
        have hC256 : C < 256 := by omega
        have hAT32 : AT < 4294967296 := by omega
        have hZ32 : Z < 4294967296 := by omega
        have A1 : Hid (_) := Two.text hB hT.out { data := #[84, 65, 66] } (m := 3) rfl (by omega) hXL.out (by omega)
        have A2 : ∀ (g : Nat) (c : Nat) (W : World), Hid (Two W wc.heap.size g c (headB n ++ recA (fA f L) (zA f L) A k ++ txtL { data := #[84, 65, 66] }) u8 k (fun i => bstr (fun j => z (fA f L i + j)) (zA f L i)) ∧ Below wc.heap.size wc W) → Hid (_) := fun g c W hh => Two.lit hh.out.2 hh.out.1 #[.int .u8 (C : Nat), .int .u8 1, .int .u8 2, .int .u8 3, .int .u8 4] [(C : Int), 1, 2, 3, 4] rfl (m := 5) rfl (N := 12 + 16 * k + 3) (by rw [List.length_append, hXL.out]; rfl) (by omega)
        clear hcl2 DN
        go_wp2_with fail
        refine P1.mono ?_
        rintro e w' ⟨rfl, rfl⟩
        clear P1
        go_wp2_with fail
        refine P2.mono ?_
        rintro e w' ⟨rfl, rfl⟩
        clear P2
        go_wp2_with (first
          | (at_builtin; refine wpList_app2 rfl (.tmp 56) (.const (.string { data := #[84, 65, 66] })) 22 9 rfl rfl rfl A1.out ?_; rintro g5 c5 w5 hR1; have HR5 : Hid (_) := hR1; clear hR1; have A2' := A2 g5 c5 w5 HR5)
          | (at_builtin; refine wpList_app2 rfl (.tmp 58) (.tmp 62) 22 22 rfl rfl rfl A2'.out ?_; rintro g6 c6 w6 hR1; have HR6 : Hid (_) := hR1; clear hR1))
        have B6 := HR6.out.2
        have hlen6 : Hid ((headB n ++ recA (fA f L) (zA f L) A k ++ txtL { data := #[84, 65, 66] } ++ [(C : Int), 1, 2, 3, 4]).length = 12 + 16 * k + 3 + 5) := by show _ = _; rw [List.length_append, List.length_append, hXL.out]; rfl
        clear A1 A2 A2' HR5
        refine (big_any AT hAT32 _).mono ?_
        rintro e w7 ⟨g7, c7, rfl, O7, b7⟩
        have B7 := B6.trans (b7.mono B6.size)
        have A3 : Hid (_) := Two.on (cm := c7) B7 (HR6.out.1.below b7) (O7.src' (n := 4) rfl) hlen6.out (by omega)
        clear O7
        go_wp2_with (at_builtin; refine wpList_app2 rfl (.tmp 64) (.tmp 68) 22 22 rfl rfl rfl A3.out ?_; rintro g8 c8 w8 hR1; have HR8 : Hid (_) := hR1; clear hR1)
        have B8 := HR8.out.2
        refine (big_any Z hZ32 _).mono ?_
        rintro e w9 ⟨g9, c9, rfl, O9, b9⟩
        have B9 := B8.trans (b9.mono B8.size)
        have A4 : Hid (_) := Two.on (cm := c9) B9 (HR8.out.1.below b9) (O9.src' (n := 4) rfl) (N := 12 + 16 * k + 3 + 5 + 4) (by rw [List.length_append, hlen6.out]; rfl) (by omega)
        clear O9
        go_upto_region 15 with (at_builtin; refine wpList_app2 rfl (.tmp 70) (.tmp 72) 22 22 rfl rfl rfl A4.out ?_; rintro g10 c10 w10 hR1; have HR10 : Hid (_) := hR1; clear hR1)
        have B10 := HR10.out.2
        clear A3 A4 HR6 HR8 B6 B7 B8 B9 b7 b9
        have hREC : Hid (headB n ++ recA (fA f L) (zA f L) A k ++ txtL { data := #[84, 65, 66] } ++ [(C : Int), 1, 2, 3, 4] ++ bigL AT ++ bigL Z = headB n ++ recA (fA f L) (zA f L) A (k + 1)) := by
          show _ = _
          rw [recA, tagA_txt (by omega), HF.out, HZ.out, ← HAT.out, HC.out]
          simp only [List.append_assoc]
          rfl
        have T10 : Hid (Two w10 wc.heap.size g10 c10 (headB n ++ recA (fA f L) (zA f L) A (k + 1)) u8 k (fun i => bstr (fun j => z (fA f L i + j)) (zA f L i))) := by
          show Two _ _ _ _ _ _ _ _
          rw [← hREC.out]; exact HR10.out.1
        obtain ⟨Y, hY⟩ : ∃ Y, Hid (bstr (fun j => z (F + j)) Z = Y) := ⟨_, rfl⟩
        have hSY : Hid (bstr (fun j => z (fA f L k + j)) (zA f L k) = Y) := by show _ = _; rw [HF.out, HZ.out]; exact hY.out
        have A5 : Hid (_) := Two.want B10 T10.out (T := Y) hSY.out (by omega)
        have hEc : (E : Int) ≤ (c1 : Int) := by omega
        have hFE : (F : Int) ≤ (E : Int) := by omega
        have hEF : Hid (E - F = Z) := by show _ = _; omega
        have h110 := h1.below B10 (Nat.le_refl _)
        clear HR10
        rcases a1 with _ | ad
        · obtain rfl : L = 0 := by
            rcases Nat.eq_zero_or_pos L with h0 | h0
            · exact h0
            · obtain ⟨b, o, e, _⟩ := h1.spot h0; cases e
          have CV : (convert 22 9 (.slice none (E - F) (c1 - F))).run Try.prog w10 = .ok (.string Y) w10 := by
            have h0 : Z = 0 := by omega
            have hY2 := hY.out
            rw [h0] at hY2
            have := conv_string (a := none) (cap := c1 - F) (w := w10) (len := 0) (z := fun j => z (F + j)) ⟨by omega, by omega, fun i => h110.byte _, fun h => by omega⟩
            rw [hY2] at this
            rw [hEF.out, h0]; exact this
          go_wp2_with (at_builtin; refine wpList_app2 rfl (.tmp 74) (.tmp 82) 26 26 rfl rfl rfl A5.out ?_; rintro g12 c12 w12 hR1; have HR12 : Hid (_) := hR1; clear hR1)
          exact ⟨⟨k + 1, g10, c10, by go_num, by omega, by rw [show 12 + 16 * (k + 1) = 12 + 16 * k + 3 + 5 + 4 + 4 by omega], HR12.out.1, HR12.out.2⟩, by simp [intOf]; omega⟩
        · have CV : (convert 22 9 (.slice (some (ad.add F)) (E - F) (c1 - F))).run Try.prog w10 = .ok (.string Y) w10 := by
            have := conv_string (part_of (c := c1 - F) h110 hFZ (by have := hlc; omega))
            rw [hY.out] at this
            rw [hEF.out]; exact this
          by_cases hcf : c1 ≤ F
          · have CV2 : (convert 22 9 (.slice (some ad) (E - F) 0)).run Try.prog w10 = .ok (.string Y) w10 := by
              have h0 : Z = 0 := by omega
              have hY2 := hY.out
              rw [h0] at hY2
              have := conv_string (a := some ad) (cap := 0) (w := w10) (len := 0) (z := fun j => z (F + j)) ⟨by omega, by omega, fun i => h110.byte _, fun h => by omega⟩
              rw [hY2] at this
              rw [hEF.out, h0]; exact this
            have hcf2 : c1 - F = 0 := by omega
            go_wp2_with (at_builtin; refine wpList_app2 rfl (.tmp 74) (.tmp 82) 26 26 rfl rfl rfl A5.out ?_; rintro g12 c12 w12 hR1; have HR12 : Hid (_) := hR1; clear hR1)
            exact ⟨⟨k + 1, g10, c10, by go_num, by omega, by rw [show 12 + 16 * (k + 1) = 12 + 16 * k + 3 + 5 + 4 + 4 by omega], HR12.out.1, HR12.out.2⟩, by simp [intOf]; omega⟩
          · have hcf2 : ¬ c1 - F = 0 := by omega
            go_wp2_with (at_builtin; refine wpList_app2 rfl (.tmp 74) (.tmp 82) 26 26 rfl rfl rfl A5.out ?_; rintro g12 c12 w12 hR1; have HR12 : Hid (_) := hR1; clear hR1)
            exact ⟨⟨k + 1, g10, c10, by go_num, by omega, by rw [show 12 + 16 * (k + 1) = 12 + 16 * k + 3 + 5 + 4 + 4 by omega], HR12.out.1, HR12.out.2⟩, by simp [intOf]; omega⟩
      · obtain rfl : k = n := by omega
        have hkn' : ¬ (k : Int) < k := by omega
        obtain ⟨av, cv, hv, hS⟩ := ownr_strs hT.out.o2 (by omega)
        subst hv
        have A6 : Hid (_) := Two.on (cm := c1) hB hT.out (Own.srcB (h1.below hB (Nat.le_refl _))) hXL.out (by omega)
        have hAB : Hid (headB k ++ recA (fA f L) (zA f L) A k ++ byt z 0 L = anyB (fA f L) (zA f L) k (byt z 0 L)) := by show _ = _; rw [HA.out]; rfl
        have h32 : Hid (∀ i, i < k → 12 + 16 * k + fA f L i < 4294967296 ∧ zA f L i < 4294967296) := fun i _ => by have := zA_le f L i; exact ⟨by omega, by omega⟩
        have hfz : Hid (∀ i, i < k → fA f L i + zA f L i ≤ (byt z 0 L).length) := fun i _ => by rw [byt_len]; exact zA_le f L i
        have hbyt : Hid (Byt (anyB (fA f L) (zA f L) k (byt z 0 L))) := anyB_byt (by omega) h32.out (byt_of h1.byte)
        have LR : Hid (_) := fun i (hi : i < k) => any_rec (B := byt z 0 L) h32.out hi (hfz.out i hi)
        obtain ⟨hcnt, hopn⟩ := any_ok (B := byt z 0 L) (by omega) h32.out hfz.out
        have hlen : (anyB (fA f L) (zA f L) k (byt z 0 L)).length = 12 + 16 * k + L := by rw [anyB_len, byt_len]
        rw [hlen] at hopn
        have HCN : Hid (_) := hcnt
        have HOP : Hid (_) := hopn
        have HLN : Hid (_) := hlen
        clear hcnt hopn hlen hS
        go_wp2_with (at_builtin; refine wpList_app2 rfl (.tmp 85) (.tmp 86) 22 22 rfl rfl rfl A6.out ?_; rintro g13 c13 w13 hR1; have HR13 : Hid (_) := hR1; clear hR1)
        have B13 := HR13.out.2
        have O13 := HR13.out.1.o1
        rw [hAB.out] at O13
        obtain ⟨av', cv', ev, S13⟩ := ownr_strs HR13.out.1.o2 (by omega)
        simp only [Value.slice.injEq] at ev
        obtain ⟨rfl, -, rfl⟩ := ev
        have L13 := O13.liesB hbyt.out (by rw [HLN.out]; omega)
        rw [HLN.out] at L13
        clear A6 O13 HR13
        refine (open_any _ _ c13 _ _ L13 (by omega)).mono ?_
        rintro e w14 ⟨b14, ⟨hne, _⟩ | ⟨_, p, rfl, hp, hF⟩⟩
        · exact (hne.out HOP.out).elim
        rw [HCN.out] at hF
        have B14 := B13.trans (b14.mono B13.size)
        have S14 := S13.below b14 (Nat.le_refl _)
        have N1 := ptr_no29 p
        clear L13 S13
        go_wp2_with fail
        refine (known_any _).mono ?_
        rintro e w15 ⟨rfl, b15⟩
        have B15 := B14.trans (b15.mono B14.size)
        have F15 := hF.below b15 (Nat.le_refl _)
        have S15 := S14.below b15 (Nat.le_refl _)
        clear hF S14
        go_wp2_with fail
        refine (tags_any p _ k _ _ _ _ _ F15).mono ?_
        rintro e w16 ⟨g16, rfl, hg16, _, b16⟩
        have B16 := B15.trans (b16.mono B15.size)
        have F16 := F15.below b16 (Nat.le_refl _)
        have S16 := S15.below b16 (Nat.le_refl _)
        have hsl := S16.lc
        clear F15 S15
        go_wp2_with fail
        go_loopw [110] (fun i wq => ∃ j : Nat, i = .int .i64 (j : Nat) ∧ j ≤ k ∧ Below w16.heap.size w16 wq) (fun i _ => k - (intOf i).toNat)
        case atStart => exact ⟨0, rfl, by omega, Below.refl _ _⟩
        case round =>
          obtain ⟨j, rfl, hj, hBj⟩ := hrel
          by_cases hjk : j < k
          · have hjk' : (j : Int) < k := by omega
            obtain ⟨r1, r2, r3, r4⟩ := LR.out j hjk
            have hzl := zA_le f L j
            have hfit : atv (zb (anyB (fA f L) (zA f L) k (byt z 0 L))) j + szv (zb (anyB (fA f L) (zA f L) k (byt z 0 L))) j ≤ 12 + 16 * k + L := by rw [r2, r3]; omega
            have hIF : IsF (tgv (zb (anyB (fA f L) (zA f L) k (byt z 0 L)))) k (tagA j) j := by
              have := isF_at (s := tgv (zb (anyB (fA f L) (zA f L) k (byt z 0 L)))) hjk (fun i hi => by rw [(LR.out i (by omega)).1, r1]; exact (okN_iff.1 (tagA_ok (n := k) (by omega)) j hjk).2 i hi)
              rwa [r1] at this
            obtain ⟨C, hC⟩ : ∃ C : Nat, (48 : Int) + (j : Int) = C := ⟨j + 48, by omega⟩
            have HC : Hid (C = j + 48) := by show _ = _; omega
            have hC256 : C < 256 := by omega
            have LL := lies_lit (w := wr.alloc (.cells #[.int .u8 (C : Nat)] 5)) (g := wr.heap.size) (cs := [C]) (fr := (0, 0)) (by simp; omega) (by simp) (blk_new wr _)
            have CV := conv_string LL
            have HTG : Hid ({ data := #[84, 65, 66] } ++ bstr (zl [C]) 1 = tagA j) := by show _ = _; rw [HC.out]; rfl
            obtain ⟨Y1, hY1⟩ : ∃ Y1, Hid (bstr (zl [C]) 1 = Y1) := ⟨_, rfl⟩
            have CV' : (convert 22 9 (.slice (some ⟨wr.heap.size, 0, none⟩) 1 1)).run Try.prog (wr.alloc (.cells #[.int .u8 (C : Nat)] 5)) = .ok (.string Y1) (wr.alloc (.cells #[.int .u8 (C : Nat)] 5)) := by rw [← hY1.out]; exact CV
            rw [hY1.out] at HTG
            have hYs : Y1.size = 1 := by rw [← hY1.out]; rfl
            obtain ⟨T, hT2⟩ : ∃ T, Hid (({ data := #[84, 65, 66] } : ByteArray) ++ Y1 = T) := ⟨_, rfl⟩
            have ADD : ∀ W : World, (Op.stringOp .add { data := #[84, 65, 66] } Y1).run Try.prog W = .ok (.string T) W := fun W => by rw [← hT2.out]; exact run_string_add_sum W _ _ (by rw [hYs]; decide)
            have HTT : Hid (tagA j = T) := by show _ = _; rw [← HTG.out, hT2.out]
            have bA : Below w16.heap.size w16 (wr.alloc (.cells #[.int .u8 (C : Nat)] 5)) := hBj.alloc hBj.size _
            have TY := table_yes p _ k _ _ _ _ (tagA j) j (wr.alloc (.cells #[.int .u8 (C : Nat)] 5)) (F16.below bA (Nat.le_refl _)) hIF hjk hfit
            rw [r3, r2, HTT.out] at TY
            obtain ⟨bq1, oq1, hav1, hbq1, hcq1⟩ := S16.spot (by omega)
            subst hav1
            obtain ⟨Y, hY⟩ : ∃ Y, Hid (bstr (fun i => z (fA f L j + i)) (zA f L j) = Y) := ⟨_, rfl⟩
            have CY : Hid (bstr (fun i => zb (anyB (fA f L) (zA f L) k (byt z 0 L)) (12 + 16 * k + fA f L j + i)) (zA f L j) = Y) := by
              show _ = _
              rw [← hY.out]
              exact bstr_congr fun i hi => by rw [r4 i hi, byt_zb_at (by omega)]
            have hs2 := txt_yes (x := Y) rfl
            have c0 : w16.cell? ⟨bq1, oq1 + j, none⟩ = some (.string Y) := by rw [hcq1 j hjk, hY.out]
            obtain ⟨Zj, hZj⟩ : ∃ Zj, Hid (zA f L j = Zj) := ⟨_, rfl⟩
            rw [hZj.out] at TY CY
            clear r1 r2 r3 r4 hfit hIF CV LL hcq1 hzl hYs
            go_wp2_with fail
            refine TY.mono ?_
            rintro e w17 ⟨a9, c9, rfl, L9, b9⟩
            have B17 := bA.trans (b9.mono bA.size)
            have y1 : w17.cell? ⟨bq1, oq1 + j, none⟩ = some (.string Y) := by rw [World.cell?_of_block (a := ⟨bq1, oq1 + j, none⟩) (B17.block bq1 hbq1), c0]
            have cv1 : ∀ q, (convert 22 9 (.slice a9 Zj c9)).run Try.prog (w17.drewN q) = .ok (.string Y) (w17.drewN q) := fun q => by
              have := conv_string (L9.below (below_drewN (Below.refl _ _) q) (Nat.le_refl _))
              rwa [CY.out] at this
            have hjs : (j : Int) < k := hjk'
            clear TY L9 CV' ADD c0
            go_wp2_with fail
            go_quiet (fail)
            have BN := below_drewN B17 nq
            go_wp2
            exact ⟨⟨j + 1, by go_num, by omega, BN⟩, by simp [intOf]; omega⟩
          · obtain rfl : j = k := by omega
            have hjk' : ¬ (j : Int) < j := by omega
            have BQ := B16.trans (hBj.mono B16.size)
            go_wp2
            go_ret
            exact ⟨rfl, BQ⟩
end Go.Proofs.Ytdmfammajggfpaa
