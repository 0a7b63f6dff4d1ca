/-
  FlateStored, walked.
-/
import Derived.Test.YtkhfdjgnomkfgaaDoorKn
import Derived.Test.YtkhfdjgnomkfgaaDoorPick
namespace Go.Proofs.YtkhfdjgnomkfgaaDoor
open Go.RowKit

theorem Own.srcB {w : World} {a : Option Addr} {n c : Nat} {z : Nat → Nat} (h : Lies w a n c z) : SrcI w .u8 a n (byt z 0 n) :=
  ⟨byt_len _ _ _, fun h0 => by
    obtain ⟨b, o, e, _, hc⟩ := h.spot h0
    exact ⟨b, o, e, fun j hj => by rw [hc j hj]; simp [byt, hj]⟩⟩
theorem byt_zb {S : List Int} (h : Byt S) : byt (zb S) 0 S.length = S := by
  unfold byt
  refine List.ext_getElem? fun i => ?_
  by_cases hi : i < S.length
  · have := h i
    rw [List.getD_eq_getElem?_getD, List.getElem?_eq_getElem hi] at this
    simp [hi, zb]
    simp at this
    omega
  · rw [List.getElem?_eq_none (by simp; omega), List.getElem?_eq_none (by omega)]
theorem zb_byt {z : Nat → Nat} {n i : Nat} (hi : i < n) : zb (byt z 0 n) i = z i := by
  unfold zb byt
  simp [hi]
theorem byt_rep (M : Nat) : Byt (List.replicate M (0 : Int)) := fun i => by
  rw [List.getD_eq_getElem?_getD]
  by_cases h : i < M
  · simp [h]
  · rw [List.getElem?_eq_none (by simp; omega)]; simp
theorem own_full (w : World) (base M : Nat) (hb : base ≤ w.heap.size) (hM : M ≤ 100000) : Own (w.alloc (.cells (arr M fun _ => .int .u8 0) 5)) base 5 .u8 w.heap.size M (List.replicate M 0) := by
  have := World.ownsRow_lit (base := base) (e := 5) (size := 1) w (arr M fun _ => .int .u8 0) M hb (by unfold maxLen; omega) (by rw [arr_size, Nat.mul_one])
  unfold Own
  rw [List.length_replicate, List.map_replicate]
  have e : (arr M fun _ => Value.int .u8 0).toList = List.replicate M (.int .u8 0) := by
    unfold arr
    refine List.ext_getElem? fun i => ?_
    by_cases hi : i < M
    · simp [hi]
    · simp [hi]
  rw [e] at this
  exact this
/-- append(make([]byte, M), b...). -/
theorem app0 (w : World) {a : Option Addr} {l c : Nat} {z : Nat → Nat} (hL : Lies w a l c z) (M : Nat) (hM : M ≤ 65550) (hl : l ≤ 1048576) :
    ∃ g' cap' w', (Builtin.append_ #[22, 22] 22 #[.slice (some ⟨w.heap.size, 0, none⟩) M M, .slice a l c]).run Tryd.prog (w.alloc (.cells (arr M fun _ => .int .u8 0) 5)) = .ok (.slice (some ⟨g', 0, none⟩) (M + l) cap') w' ∧ (Own w' w.heap.size 5 .u8 g' cap' (List.replicate M (0 : Int) ++ byt z 0 l) ∧ Below w.heap.size w w') := by
  have be : Below w.heap.size w (w.alloc (.cells (arr M fun _ => .int .u8 0) 5)) := (Below.refl _ _).alloc (Nat.le_refl _) _
  obtain ⟨g', cap', w', h1, h2, h3, _⟩ := (own_full w w.heap.size M (Nat.le_refl _) (by omega)).appendB be.size (c := c) (Own.srcB (hL.below be (Nat.le_refl _))) (by rw [byt_len]; simp; omega)
  rw [List.length_append, byt_len, List.length_replicate] at h1
  exact ⟨g', cap', w', h1, h2, be.grown h3 be.size (fun k hk => by simp at hk; omega)⟩
/-- append([]byte{}, z...). -/
theorem app1 {w3 : World} {base : Nat} (hb : base ≤ w3.heap.size) (S : List Int) {g c N : Nat} (hL : Lies w3 (some ⟨g, 0, none⟩) N c (zb S)) (hS : Byt S) (hN : S.length = N) (hs : N ≤ 50000000) :
    ∃ g' cap' w', (Builtin.append_ #[22, 22] 22 #[.slice (some ⟨w3.heap.size, 0, none⟩) 0 0, .slice (some ⟨g, 0, none⟩) N c]).run Tryd.prog (w3.alloc (.cells #[] 5)) = .ok (.slice (some ⟨g', 0, none⟩) N cap') w' ∧ (Own w' base 5 .u8 g' cap' S ∧ Below w3.heap.size w3 w' ∧ w3.heap.size ≤ g') := by
  subst hN
  have EB := blk_new w3 (.cells #[] 5)
  have be : Below w3.heap.size w3 (w3.alloc (.cells #[] 5)) := (Below.refl _ _).alloc (Nat.le_refl _) _
  have OE : Own (w3.alloc (.cells #[] 5)) base 5 .u8 w3.heap.size 0 [] := ⟨rfl, .inr ⟨w3.heap.size, 0, #[], rfl, hb, EB, Nat.le_refl _, by unfold maxLen; omega, rfl, rfl⟩⟩
  obtain ⟨g', cap', w', h1, h2, h3, h4⟩ := OE.appendB (by simp; omega) (c := c) (Own.srcB (hL.below be (Nat.le_refl _))) (by rw [byt_len]; simp; omega)
  rw [byt_zb hS] at h1 h2
  refine ⟨g', cap', w', h1, h2, be.grown h3 be.size (fun k hk => by simp at hk; omega), ?_⟩
  rcases h4 with h4 | h4
  · omega
  · rw [h4]; simp
/-- append(.., behind...). -/
theorem app2 {w w3 : World} (hB : Below w.heap.size w w3) {a2 : Option Addr} {l2 c2 : Nat} {z2 : Nat → Nat} (h2 : Lies w a2 l2 c2 z2) (S : List Int) {N : Nat} (hN : S.length = N) (hs : N ≤ 4000000) (hl2 : l2 ≤ 1048576) (g1 c1 : Nat) (w1 : World)
    (hR : Own w1 w.heap.size 5 .u8 g1 c1 S ∧ Below w3.heap.size w3 w1 ∧ w3.heap.size ≤ g1) :
    Hid (∃ g' cap' w', (Builtin.append_ #[22, 22] 22 #[.slice (some ⟨g1, 0, none⟩) N c1, .slice a2 l2 c2]).run Tryd.prog w1 = .ok (.slice (some ⟨g', 0, none⟩) (N + l2) cap') w' ∧ (Own w' w.heap.size 5 .u8 g' cap' (S ++ byt z2 0 l2) ∧ Below w3.heap.size w3 w')) := by
  subst hN
  obtain ⟨hO, b1, hg⟩ := hR
  have B1 : Below w.heap.size w w1 := hB.trans (b1.mono hB.size)
  obtain ⟨g', cap', w', h1, h3, h4, _⟩ := hO.appendB B1.size (c := c2) (Own.srcB (h2.below B1 (Nat.le_refl _))) (by rw [byt_len]; omega)
  rw [List.length_append, byt_len] at h1
  exact ⟨g', cap', w', h1, h3, b1.grown h4 b1.size (fun k hk => by simp at hk; omega)⟩

set_option maxRecDepth 100000 in
set_option maxHeartbeats 3200000 in
theorem stored_walk (w : World) (a : Option Addr) (l c0 : Nat) (z : Nat → Nat) (n : Int) (a2 : Option Addr) (l2 c2' : Nat) (z2 : Nat → Nat) (LB : Lies w a l c0 z) (h2 : Lies w a2 l2 c2' z2) (hl : l ≤ 1048576) (hl2 : l2 ≤ 1048576) (hT : Tab w) :
    Calls Tryd.prog 7 #[.slice a l c0, .int .i64 n, .slice a2 l2 c2'] w fun e w' => e = .returned (.bool true) ∧ Below w.heap.size w w' := by
  have BW : Below w.heap.size w w := Below.refl _ _
  by_cases h12 : n.tmod 13 = 12
  · have hpk := pickv_lt n 20 (by omega)
    obtain ⟨M, hM⟩ : ∃ M : Nat, (65530 : Int) + ((pickv n 20 : Nat) : Int) = M := ⟨65530 + pickv n 20, by omega⟩
    have hMl : M ≤ 65550 := by omega
    have hmk := make22 M (by omega)
    have HAP : Hid (_) := app0 w LB M hMl hl
    go_enter Tryd.func7, Tryd.ntmps7
    go_wp2_with fail
    refine (pick_any n 20 (by omega) (by omega) _).mono ?_
    rintro e w' ⟨rfl, hw⟩
    have hw2 := hw.symm
    subst hw2
    clear hw
    go_wp2_with (first | (at_builtin; refine wpList_append_ex rfl (.tmp 23) (.tmp 24) 22 rfl rfl rfl HAP.out ?_; rintro g0 c00 W hR; have HR : Hid (_) := hR; clear hR))
    obtain ⟨O0, BW⟩ := HR.out
    have hby0 : Byt (List.replicate M (0 : Int) ++ byt z 0 l) := (byt_rep M).append (byt_of LB.byte)
    have LB := O0.liesB hby0 (by simp [byt_len]; omega)
    obtain ⟨Z, hZ⟩ : ∃ Z, Hid (zb (List.replicate M (0 : Int) ++ byt z 0 l) = Z) := ⟨_, rfl⟩
    rw [hZ.out] at LB
    have hlen0 : (List.replicate M (0 : Int) ++ byt z 0 l).length = M + l := by simp [byt_len]
    rw [hlen0] at LB
    obtain ⟨LL, hLL⟩ : ∃ LL, M + l = LL := ⟨_, rfl⟩
    have hl : LL ≤ 1200000 := by omega
    rw [hLL] at LB ⊢
    clear hZ hlen0 hby0 O0 HR HAP hmk hM hMl hLL hpk h12
    go_wp2_with fail
    refine (stored_go _ LL c00 Z _ LB (by omega)).mono ?_
    rintro e w3 ⟨g, c, rfl, hO3, b3⟩
    have B3 : Below w.heap.size w w3 := BW.trans (b3.mono BW.size)
    have hby : Byt (stL Z LL 0) := stL_byt LB.byte LL LL 0 (by omega)
    have hle := stL_len Z LL LL 0 (by omega)
    have h5 := stL_five Z LL 0
    have HO3 : Own w3 w.heap.size 5 .u8 g c (stL Z LL 0) := hO3.mono BW.size
    have LB3 := LB.below b3 (Nat.le_refl _)
    obtain ⟨S, hS⟩ : ∃ S, Hid (stL Z LL 0 = S) := ⟨_, rfl⟩
    rw [hS.out] at hby hle h5 HO3 ⊢
    obtain ⟨N, hN⟩ : ∃ N, Hid (S.length = N) := ⟨_, rfl⟩
    have LZ := HO3.liesB hby (by rw [hN.out] at hle; rw [hN.out]; omega)
    have hcap := HO3.lc
    unfold maxLen at hcap
    rw [hN.out] at hle h5 LZ hcap ⊢
    have hNs : N ≤ 4000000 := by omega
    have hc1 := hcap.1
    have hc2 := hcap.2
    have A1 := app1 B3.size S LZ hby hN.out (by omega)
    have H2 := fun g1 c1 w1 hR => app2 B3 h2 S hN.out hNs hl2 g1 c1 w1 hR
    have HA1 : Hid (_) := A1
    have HLZ : Hid (Lies w3 (some ⟨g, 0, none⟩) N c (zb S)) := LZ
    have HLB3 : Hid (Lies w3 (some ⟨g0, 0, none⟩) LL c00 Z) := LB3
    have HB3 : Hid (Below w.heap.size w w3) := B3
    have HBY : Hid (Byt S) := hby
    clear A1 LZ LB3 B3 b3 hO3 HO3 hcap hby
    go_wp2_with (first
      | (at_builtin; refine wpList_append_ex rfl (.tmp 29) (.tmp 30) 22 rfl rfl rfl HA1.out ?_; rintro g1 c1 w4 hR1; have HR1 := H2 g1 c1 w4 hR1; clear hR1)
      | (at_builtin; refine wpList_append_ex rfl (.tmp 31) (.tmp 32) 22 rfl rfl rfl HR1.out ?_; rintro g2 c2 w5 hR2; have HR2 : Hid (_) := hR2; clear hR2))
    obtain ⟨O5, b5⟩ := HR2.out
    have bw5 : Below w.heap.size w w5 := HB3.out.trans ((b5).mono HB3.out.size)
    have hby5 : Byt (S ++ byt z2 0 l2) := HBY.out.append (byt_of h2.byte)
    have hlen5 : (S ++ byt z2 0 l2).length = N + l2 := by rw [List.length_append, byt_len, hN.out]
    have L5 := O5.liesB hby5 (by rw [hlen5]; omega)
    rw [hlen5] at L5
    have hat5 : AtP (zb (S ++ byt z2 0 l2)) 0 S := hby5.at0.front
    have hinf5 : inflE (zb (S ++ byt z2 0 l2)) (N + l2) LL = .ok (8 * N, byt Z 0 LL) := by
      rw [← hN.out, ← hS.out] at *
      exact infl_stored LL LL (Nat.le_refl _) hby5.zb_lt hat5 (by omega)
    have HI5 : Hid (inflE (zb (S ++ byt z2 0 l2)) (N + l2) LL = .ok (8 * N, byt Z 0 LL)) := hinf5
    clear hinf5 hat5 hby5 hlen5 HA1 H2 HR1 HR2 O5
    refine (inflate_any _ (N + l2) c2 (zb (S ++ byt z2 0 l2)) (LL : Nat) LL (by rw [if_neg (by omega)]) (by omega) _ L5 (hT.below bw5 hT.pos)).mono ?_
    rintro e w6 ⟨b6, ⟨k, hE, hk, rfl⟩ | ⟨q, o, r, hE, rfl, hO6, hby6, hfit6⟩⟩
    · exact (ok_ne HI5.out hE.out).elim
    obtain ⟨rfl, rfl⟩ := ok_eq HI5.out hE.out
    obtain ⟨ra, rc, rfl, L6⟩ := hO6.liesB hby6.out (by rw [byt_len]; omega)
    rw [byt_len] at L6 ⊢
    have B6 : Below w.heap.size w w6 := bw5.trans (b6.mono bw5.size)
    have b36 : Below w3.heap.size w3 w6 := b5.trans (b6.mono b5.size)
    have hu : ((8 * N + 7) / 8 : Nat) = N := by omega
    rw [hu]
    obtain ⟨N1, hN1⟩ : ∃ N1 : Nat, (N : Int) - 1 = N1 := ⟨N - 1, by omega⟩
    have hN1' : N1 + 1 = N := by omega
    have hpos : (0 : Int) < (N1 : Int) := by omega
    have L7 : Lies w6 (some ⟨g, 0, none⟩) N1 c (zb S) := by
      have := HLZ.out.below b36 (Nat.le_refl _)
      refine ⟨by omega, by omega, this.byte, fun _ => ?_⟩
      obtain ⟨b', o', e', h1, h2'⟩ := this.spot (by omega)
      exact ⟨b', o', e', h1, fun i hi => h2' i (by omega)⟩
    have hinf7 : Hid (inflE (zb S) N1 LL = .error 3) := by
      have hh := stL_short (y := zb S) (z := Z) HBY.out.zb_lt LL N1 LL LL 0 0 [] (by omega) (by rw [hS.out]; exact HBY.out.at0) (by rw [hS.out, hN.out]; omega) (by simp)
      show _ = _
      simpa [inflE] using hh
    have hN1c : N1 ≤ c := by omega
    clear hE hby6 hfit6 hO6 HI5 b6 L5 bw5 b5
    go_wp2_with fail
    refine (inflate_any _ N1 c (zb S) (LL : Nat) LL (by rw [if_neg (by omega)]) (by omega) _ L7 (hT.below B6 hT.pos)).mono ?_
    intro e w7 h7
    have b7 := h7.1
    have h7' : e = .returned (.tuple #[.slice none 0 0, .int .i64 0, .int .i64 3]) := by
      rcases h7.2 with ⟨k, hE, _, rfl⟩ | ⟨q, o, r, hE, _⟩
      · rw [err_eq hE.out hinf7.out]; rfl
      · exact (ok_ne hE.out hinf7.out).elim
    subst h7'
    have B7 : Below w.heap.size w w7 := B6.trans (b7.mono B6.size)
    have b37 : Below w3.heap.size w3 w7 := b36.trans (b7.mono b36.size)
    have L6' := L6.below b7 (Nat.le_refl _)
    have L8 := HLZ.out.below b37 (Nat.le_refl _)
    clear L6 L7 h7 hinf7 b36 B6 b7 hpos
    obtain ⟨mo, hmo⟩ : ∃ mo : Int, (LL : Int) - 1 = mo := ⟨_, rfl⟩
    have hmo' : Hid ((LL : Int) - 1 = mo) := hmo
    go_wp2_with fail
    clear hmo
    refine (inflate_any _ N c (zb S) mo (LL - 1) (by have := hmo'.out; split <;> omega) (by omega) _ L8 (hT.below B7 hT.pos)).mono ?_
    intro e w8 h8
    have b8 := h8.1
    have h8' : ∃ (r8 : Value) (u8 : Int) (k8 : Nat), e = .returned (.tuple #[r8, .int .i64 u8, .int .i64 (k8 : Nat)]) ∧ Hid (0 < LL → k8 = 4) := by
      rcases h8.2 with ⟨k, hE, hk, rfl⟩ | ⟨q, o, r, hE, rfl, hO8, hby8, hfit8⟩
      · refine ⟨_, _, k, rfl, fun h0 => ?_⟩
        have hh := stL_full (y := zb S) (z := Z) HBY.out.zb_lt LL N (LL - 1) LL 0 0 [] (by omega) (by rw [hS.out]; exact HBY.out.at0) (by rw [hS.out, hN.out]; omega) (by simp; omega) (by simp)
        exact err_eq hE.out (by simpa [inflE] using hh)
      · refine ⟨_, _, 0, rfl, fun h0 => ?_⟩
        have hh := stL_full (y := zb S) (z := Z) HBY.out.zb_lt LL N (LL - 1) LL 0 0 [] (by omega) (by rw [hS.out]; exact HBY.out.at0) (by rw [hS.out, hN.out]; omega) (by simp; omega) (by simp)
        exact (ok_ne hE.out (by simpa [inflE] using hh)).elim
    obtain ⟨r8, u8, k8, rfl, hk8⟩ := h8'
    have B8 : Below w.heap.size w w8 := B7.trans (b8.mono B7.size)
    have b38 : Below w3.heap.size w3 w8 := b37.trans (b8.mono b37.size)
    have L6'' := L6'.below b8 (Nat.le_refl _)
    clear h8 L8 L6' b37 B7 b8
    go_wp2_with fail
    refine (known_any _ (hT.below B8 hT.pos)).mono ?_
    rintro e w9 ⟨rfl, b9⟩
    have B9 : Below w.heap.size w w9 := B8.trans (b9.mono B8.size)
    have b39 : Below w3.heap.size w3 w9 := b38.trans (b9.mono b38.size)
    have cv1 := conv_string (L6''.below b9 (Nat.le_refl _))
    have cv2 := conv_string (HLB3.out.below b39 (Nat.le_refl _))
    rw [bstr_congr (z' := Z) (fun i hi => zb_byt hi)] at cv1
    clear L6'' b9 b38 B8
    by_cases h0 : LL = 0
    · have h0' : ((LL : Int) == 0) = true := by rw [h0]; rfl
      have H0 : Hid (LL = 0) := h0
      clear h0
      go_wp2
      go_ret
      exact ⟨rfl, B9⟩
    · obtain rfl := hk8.out (by omega)
      have h0' : ((LL : Int) == 0) = false := by simp; omega
      go_wp2
      go_ret
      exact ⟨rfl, B9⟩
  · go_enter Tryd.func7, Tryd.ntmps7
    go_wp2_with fail
    refine (stored_go _ l c0 z _ LB (by omega)).mono ?_
    rintro e w3 ⟨g, c, rfl, hO3, b3⟩
    have B3 : Below w.heap.size w w3 := BW.trans (b3.mono BW.size)
    have hby : Byt (stL z l 0) := stL_byt LB.byte l l 0 (by omega)
    have hle := stL_len z l l 0 (by omega)
    have h5 := stL_five z l 0
    have HO3 : Own w3 w.heap.size 5 .u8 g c (stL z l 0) := hO3.mono BW.size
    have LB3 := LB.below b3 (Nat.le_refl _)
    obtain ⟨S, hS⟩ : ∃ S, Hid (stL z l 0 = S) := ⟨_, rfl⟩
    rw [hS.out] at hby hle h5 HO3 ⊢
    obtain ⟨N, hN⟩ : ∃ N, Hid (S.length = N) := ⟨_, rfl⟩
    have LZ := HO3.liesB hby (by rw [hN.out] at hle; rw [hN.out]; omega)
    have hcap := HO3.lc
    unfold maxLen at hcap
    rw [hN.out] at hle h5 LZ hcap ⊢
    have hNs : N ≤ 4000000 := by omega
    have hc1 := hcap.1
    have hc2 := hcap.2
    have A1 := app1 B3.size S LZ hby hN.out (by omega)
    have H2 := fun g1 c1 w1 hR => app2 B3 h2 S hN.out hNs hl2 g1 c1 w1 hR
    have HA1 : Hid (_) := A1
    have HLZ : Hid (Lies w3 (some ⟨g, 0, none⟩) N c (zb S)) := LZ
    have HLB3 : Hid (Lies w3 a l c0 z) := LB3
    have HB3 : Hid (Below w.heap.size w w3) := B3
    have HBY : Hid (Byt S) := hby
    clear A1 LZ LB3 B3 b3 hO3 HO3 hcap hby
    go_wp2_with (first
      | (at_builtin; refine wpList_append_ex rfl (.tmp 29) (.tmp 30) 22 rfl rfl rfl HA1.out ?_; rintro g1 c1 w4 hR1; have HR1 := H2 g1 c1 w4 hR1; clear hR1)
      | (at_builtin; refine wpList_append_ex rfl (.tmp 31) (.tmp 32) 22 rfl rfl rfl HR1.out ?_; rintro g2 c2 w5 hR2; have HR2 : Hid (_) := hR2; clear hR2))
    obtain ⟨O5, b5⟩ := HR2.out
    have bw5 : Below w.heap.size w w5 := HB3.out.trans ((b5).mono HB3.out.size)
    have hby5 : Byt (S ++ byt z2 0 l2) := HBY.out.append (byt_of h2.byte)
    have hlen5 : (S ++ byt z2 0 l2).length = N + l2 := by rw [List.length_append, byt_len, hN.out]
    have L5 := O5.liesB hby5 (by rw [hlen5]; omega)
    rw [hlen5] at L5
    have hat5 : AtP (zb (S ++ byt z2 0 l2)) 0 S := hby5.at0.front
    have hinf5 : inflE (zb (S ++ byt z2 0 l2)) (N + l2) l = .ok (8 * N, byt z 0 l) := by
      rw [← hN.out, ← hS.out] at *
      exact infl_stored l l (Nat.le_refl _) hby5.zb_lt hat5 (by omega)
    have HI5 : Hid (inflE (zb (S ++ byt z2 0 l2)) (N + l2) l = .ok (8 * N, byt z 0 l)) := hinf5
    clear hinf5 hat5 hby5 hlen5 HA1 H2 HR1 HR2 O5
    refine (inflate_any _ (N + l2) c2 (zb (S ++ byt z2 0 l2)) (l : Nat) l (by rw [if_neg (by omega)]) (by omega) _ L5 (hT.below bw5 hT.pos)).mono ?_
    rintro e w6 ⟨b6, ⟨k, hE, hk, rfl⟩ | ⟨q, o, r, hE, rfl, hO6, hby6, hfit6⟩⟩
    · exact (ok_ne HI5.out hE.out).elim
    obtain ⟨rfl, rfl⟩ := ok_eq HI5.out hE.out
    obtain ⟨ra, rc, rfl, L6⟩ := hO6.liesB hby6.out (by rw [byt_len]; omega)
    rw [byt_len] at L6 ⊢
    have B6 : Below w.heap.size w w6 := bw5.trans (b6.mono bw5.size)
    have b36 : Below w3.heap.size w3 w6 := b5.trans (b6.mono b5.size)
    have hu : ((8 * N + 7) / 8 : Nat) = N := by omega
    rw [hu]
    obtain ⟨N1, hN1⟩ : ∃ N1 : Nat, (N : Int) - 1 = N1 := ⟨N - 1, by omega⟩
    have hN1' : N1 + 1 = N := by omega
    have hpos : (0 : Int) < (N1 : Int) := by omega
    have L7 : Lies w6 (some ⟨g, 0, none⟩) N1 c (zb S) := by
      have := HLZ.out.below b36 (Nat.le_refl _)
      refine ⟨by omega, by omega, this.byte, fun _ => ?_⟩
      obtain ⟨b', o', e', h1, h2'⟩ := this.spot (by omega)
      exact ⟨b', o', e', h1, fun i hi => h2' i (by omega)⟩
    have hinf7 : Hid (inflE (zb S) N1 l = .error 3) := by
      have hh := stL_short (y := zb S) (z := z) HBY.out.zb_lt l N1 l l 0 0 [] (by omega) (by rw [hS.out]; exact HBY.out.at0) (by rw [hS.out, hN.out]; omega) (by simp)
      show _ = _
      simpa [inflE] using hh
    have hN1c : N1 ≤ c := by omega
    clear hE hby6 hfit6 hO6 HI5 b6 L5 bw5 b5
    go_wp2_with fail
    refine (inflate_any _ N1 c (zb S) (l : Nat) l (by rw [if_neg (by omega)]) (by omega) _ L7 (hT.below B6 hT.pos)).mono ?_
    intro e w7 h7
    have b7 := h7.1
    have h7' : e = .returned (.tuple #[.slice none 0 0, .int .i64 0, .int .i64 3]) := by
      rcases h7.2 with ⟨k, hE, _, rfl⟩ | ⟨q, o, r, hE, _⟩
      · rw [err_eq hE.out hinf7.out]; rfl
      · exact (ok_ne hE.out hinf7.out).elim
    subst h7'
    have B7 : Below w.heap.size w w7 := B6.trans (b7.mono B6.size)
    have b37 : Below w3.heap.size w3 w7 := b36.trans (b7.mono b36.size)
    have L6' := L6.below b7 (Nat.le_refl _)
    have L8 := HLZ.out.below b37 (Nat.le_refl _)
    clear L6 L7 h7 hinf7 b36 B6 b7 hpos
    obtain ⟨mo, hmo⟩ : ∃ mo : Int, (l : Int) - 1 = mo := ⟨_, rfl⟩
    have hmo' : Hid ((l : Int) - 1 = mo) := hmo
    go_wp2_with fail
    clear hmo
    refine (inflate_any _ N c (zb S) mo (l - 1) (by have := hmo'.out; split <;> omega) (by omega) _ L8 (hT.below B7 hT.pos)).mono ?_
    intro e w8 h8
    have b8 := h8.1
    have h8' : ∃ (r8 : Value) (u8 : Int) (k8 : Nat), e = .returned (.tuple #[r8, .int .i64 u8, .int .i64 (k8 : Nat)]) ∧ Hid (0 < l → k8 = 4) := by
      rcases h8.2 with ⟨k, hE, hk, rfl⟩ | ⟨q, o, r, hE, rfl, hO8, hby8, hfit8⟩
      · refine ⟨_, _, k, rfl, fun h0 => ?_⟩
        have hh := stL_full (y := zb S) (z := z) HBY.out.zb_lt l N (l - 1) l 0 0 [] (by omega) (by rw [hS.out]; exact HBY.out.at0) (by rw [hS.out, hN.out]; omega) (by simp; omega) (by simp)
        exact err_eq hE.out (by simpa [inflE] using hh)
      · refine ⟨_, _, 0, rfl, fun h0 => ?_⟩
        have hh := stL_full (y := zb S) (z := z) HBY.out.zb_lt l N (l - 1) l 0 0 [] (by omega) (by rw [hS.out]; exact HBY.out.at0) (by rw [hS.out, hN.out]; omega) (by simp; omega) (by simp)
        exact (ok_ne hE.out (by simpa [inflE] using hh)).elim
    obtain ⟨r8, u8, k8, rfl, hk8⟩ := h8'
    have B8 : Below w.heap.size w w8 := B7.trans (b8.mono B7.size)
    have b38 : Below w3.heap.size w3 w8 := b37.trans (b8.mono b37.size)
    have L6'' := L6'.below b8 (Nat.le_refl _)
    clear h8 L8 L6' b37 B7 b8
    go_wp2_with fail
    refine (known_any _ (hT.below B8 hT.pos)).mono ?_
    rintro e w9 ⟨rfl, b9⟩
    have B9 : Below w.heap.size w w9 := B8.trans (b9.mono B8.size)
    have b39 : Below w3.heap.size w3 w9 := b38.trans (b9.mono b38.size)
    have cv1 := conv_string (L6''.below b9 (Nat.le_refl _))
    have cv2 := conv_string (HLB3.out.below b39 (Nat.le_refl _))
    rw [bstr_congr (z' := z) (fun i hi => zb_byt hi)] at cv1
    clear L6'' b9 b38 B8
    by_cases h0 : l = 0
    · have h0' : ((l : Int) == 0) = true := by rw [h0]; rfl
      have H0 : Hid (l = 0) := h0
      clear h0
      go_wp2
      go_ret
      exact ⟨rfl, B9⟩
    · obtain rfl := hk8.out (by omega)
      have h0' : ((l : Int) == 0) = false := by simp; omega
      go_wp2
      go_ret
      exact ⟨rfl, B9⟩
end Go.Proofs.YtkhfdjgnomkfgaaDoor
