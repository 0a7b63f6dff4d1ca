/-
  The reference's Big of two bytes, and its Lay, as contracts.
-/
import Derived.Test.YtninhcnpjadjpaaLyw
namespace Go.Proofs.Ytninhcnpjadjpaa
open Go.RowKit

set_option maxRecDepth 100000 in
set_option maxHeartbeats 1600000 in
theorem big2_any (s : Nat) (hs : s ≤ 64) (w : World) :
    Calls Try.prog 33 #[.int .i64 (s : Nat), .int .i64 2] w fun e w' => ∃ g c, e = .returned (.slice (some ⟨g, 0, none⟩) 2 c) ∧ Own w' w.heap.size 5 .u8 g c [0, (s : Int)] ∧ Below w.heap.size w w' := by
  have e8 : (s : Int) / 256 = 0 := by omega
  go_enter Try.func33, Try.ntmps33
  go_wp2_with fail
  go_loopw [5, 6] (fun v i wq => ∃ (k : Nat) (j : Int), i = .int .i64 j ∧ Hid (k ≤ 2 ∧ j = 1 - (k : Int)) ∧ OwnV wq w.heap.size 5 .u8 v ([0, (s : Int)].take k) ∧ Below w.heap.size w wq) (fun _ i _ => (intOf i + 1).toNat)
  case atStart => exact ⟨0, 1, rfl, ⟨by omega, rfl⟩, ownv_nil _ _ _ _, Below.refl _ _⟩
  case round =>
    obtain ⟨k, j, rfl, hk, hO, hB⟩ := hrel
    rcases (show k = 0 ∨ k = 1 ∨ k = 2 by have := hk.out.1; omega) with rfl | rfl | rfl
    · obtain rfl : j = 1 := hk.out.2
      obtain ⟨av, cv, hv⟩ := hO.form
      obtain rfl : _ = Value.slice av 0 cv := hv
      obtain ⟨W, hW⟩ : ∃ W, W = wr.alloc (.cells #[.int .u8 0] 5) := ⟨_, rfl⟩
      have bW : Below wr.heap.size wr W := by rw [hW]; exact (Below.refl _ _).alloc (Nat.le_refl _) _
      have happ : ∃ g' cap' w', (Builtin.append_ #[29, 29] 29 #[.slice av 0 cv, .slice (some ⟨wr.heap.size, 0, none⟩) 1 1]).run Try.prog W = .ok (.slice (some ⟨g', 0, none⟩) (0 + 1) cap') w' ∧ _ := (hO.below bW).one (Nat.le_trans hB.size bW.size) (C := wr.heap.size) (x := 0) (by rw [hW]; exact blk_new _ _) (by simp)
      have hBW := hB.trans (bW.mono hB.size)
      have HW : Hid (W = _) := hW
      rw [hW] at happ
      have HAP : Hid (_) := happ
      have HG : ∀ k', (Value.slice av 0 cv).ownBlock = some k' → w.heap.size ≤ k' := fun k' hk' => (World.ownsRow.lt hO k' hk').1
      clear happ hO hW hk
      go_wp2_with (at_builtin; refine wpList_append_ex rfl (.tmp 13) (.tmp 20) 29 rfl rfl rfl HAP.out ?_; rintro g' c' w1 hR1; have HR : Hid (_) := hR1; clear hR1)
      refine ⟨⟨1, 0, by go_num, ⟨by omega, rfl⟩, ?_, ?_⟩, by simp [intOf]⟩
      · exact own_v HR.out.1 (by simp)
      · have := HR.out.2.1
        rw [← HW.out] at this
        exact hBW.grown this (Nat.le_trans hB.size bW.size) HG
    · obtain rfl : j = 0 := hk.out.2
      obtain ⟨av, cv, hv⟩ := hO.form
      obtain rfl : _ = Value.slice av 1 cv := hv
      obtain ⟨W, hW⟩ : ∃ W, W = wr.alloc (.cells #[.int .u8 (s : Nat)] 5) := ⟨_, rfl⟩
      have bW : Below wr.heap.size wr W := by rw [hW]; exact (Below.refl _ _).alloc (Nat.le_refl _) _
      have happ : ∃ g' cap' w', (Builtin.append_ #[29, 29] 29 #[.slice av 1 cv, .slice (some ⟨wr.heap.size, 0, none⟩) 1 1]).run Try.prog W = .ok (.slice (some ⟨g', 0, none⟩) (1 + 1) cap') w' ∧ _ := (hO.below bW).one (Nat.le_trans hB.size bW.size) (C := wr.heap.size) (x := (s : Nat)) (by rw [hW]; exact blk_new _ _) (by simp)
      have hBW := hB.trans (bW.mono hB.size)
      have HW : Hid (W = _) := hW
      rw [hW] at happ
      have HAP : Hid (_) := happ
      have HG : ∀ k', (Value.slice av 1 cv).ownBlock = some k' → w.heap.size ≤ k' := fun k' hk' => (World.ownsRow.lt hO k' hk').1
      clear happ hO hW hk
      go_wp2_with (at_builtin; refine wpList_append_ex rfl (.tmp 13) (.tmp 20) 29 rfl rfl rfl HAP.out ?_; rintro g' c' w1 hR1; have HR : Hid (_) := hR1; clear hR1)
      refine ⟨⟨2, -1, by go_num, ⟨by omega, rfl⟩, ?_, ?_⟩, by simp [intOf]⟩
      · exact own_v HR.out.1 (by simp)
      · have := HR.out.2.1
        rw [← HW.out] at this
        exact hBW.grown this (Nat.le_trans hB.size bW.size) HG
    · obtain rfl : j = -1 := hk.out.2
      obtain ⟨g, c, rfl, ho⟩ := OwnV.own (xs := [0, (s : Int)]) hO (by simp)
      clear hO hk
      go_wp2
      go_ret
      exact ⟨g, c, rfl, ho, hB⟩

theorem rlay_out (a : Option Addr) (n cap : Nat) (a2 : Option Addr) (m cap2 : Nat) (w : World) (hn : n ≤ 100000) (hm : m ≤ 6000000000000) (hno : ¬ (n = m ∧ n ≤ 64)) :
    Calls Try.prog 25 #[.slice a n cap, .slice a2 m cap2] w fun e w' => e = .returned (.tuple #[.slice none 0 0, .bool false]) ∧ w' = w := by
  by_cases hnm : n = m
  · subst hnm
    have h64 : (64 : Int) < n := by omega
    clear hno
    go_enter Try.func25, Try.ntmps25
    go_wp2
    go_ret2
    exact ⟨rfl, rfl⟩
  · have e1 : ((n : Int) != m) = true := by rw [bne_iff_ne]; omega
    have e2 : ¬ (n : Int) = m := by omega
    clear hno hnm
    go_enter Try.func25, Try.ntmps25
    go_wp2
    go_ret2
    exact ⟨rfl, rfl⟩

/-- What the reference's Lay answers. -/
def RLays (s : Nat → ByteArray) (t : Nat → Tab) (n : Nat) (w : World) (e : Ending) (w' : World) : Prop :=
  Below w.heap.size w w' ∧ ((Hid (okN s n = false) ∧ e = .returned (.tuple #[.slice none 0 0, .bool false])) ∨ (Hid (okN s n = true) ∧ ∃ g c, e = .returned (.tuple #[.slice (some ⟨g, 0, none⟩) (layB s t n).length c, .bool true]) ∧ Own w' w.heap.size 5 .u8 g c (layB s t n)))

set_option maxRecDepth 100000 in
set_option maxHeartbeats 3200000 in
theorem rlay_any (a : Option Addr) (n cap : Nat) (s : Nat → ByteArray) (a2 : Option Addr) (cap2 : Nat) (t : Nat → Tab) (w : World) (h : Strs w a n cap s) (h2 : Tabs w a2 n cap2 t) (hn : n ≤ 64) (hS : sumN t n ≤ 140737488400000) :
    Calls Try.prog 25 #[.slice a n cap, .slice a2 n cap2] w (RLays s t n w) := by
  have hlc := h.lc
  obtain ⟨A, hA⟩ : ∃ A : Nat, (12 : Int) + 16 * (n : Int) = A := ⟨12 + 16 * n, by omega⟩
  have HA : Hid (A = 12 + 16 * n) := by show _ = _; omega
  have h64 : ¬ (64 : Int) < n := by omega
  have bl : Below w.heap.size w (w.alloc (.cells #[.int .u8 0, .int .u8 1, .int .u8 0, .int .u8 0] 5)) := (Below.refl _ _).alloc (Nat.le_refl _) _
  have hLit : Own (w.alloc (.cells #[.int .u8 0, .int .u8 1, .int .u8 0, .int .u8 0] 5)) w.heap.size 5 .u8 w.heap.size 4 [0, 1, 0, 0] := own_lit w w.heap.size 5 .u8 [0, 1, 0, 0] (Nat.le_refl _) (by simp)
  go_enter Try.func25, Try.ntmps25
  go_wp2_with fail
  refine (big2_any n hn _).mono ?_
  rintro e w1 ⟨gb, cb, rfl, hG, b1⟩
  have B1 := bl.trans (b1.mono bl.size)
  have O1 := hLit.below b1
  have A1 : Hid (_) := app_on B1 O1 (cm := cb) (hG.src' (n := 2) rfl) (N := 4) rfl (by simp)
  have A3 : ∀ (g : Nat) (c : Nat) (W : World), Hid (Own W w.heap.size 5 .u8 g c ([0, 1, 0, 0] ++ [0, (n : Int)]) ∧ Below w.heap.size w W ∧ w1.grownBy W (some w.heap.size)) → Hid (_) := fun g c W hh => app_zeros hh.out.2.1 hh.out.1 6 (by omega) (n := 4 + 2) rfl (by omega)
  clear O1 hG hLit bl b1
  go_wp2_with (first
    | (at_builtin; refine wpList_app2 rfl (.tmp 22) (.tmp 24) 29 29 rfl rfl rfl A1.out ?_; rintro g3 c3 w3 hR1; have HR3 : Hid (_) := hR1; clear hR1; have A3' := A3 g3 c3 w3 HR3)
    | (at_builtin; refine wpList_app2 rfl (.tmp 26) (.const (.int .i64 6)) 29 3 rfl rfl rfl A3'.out ?_; rintro g5 c5 w5 hR1; have HR5 : Hid (_) := hR1; clear hR1))
  have O5 := HR5.out.1
  have B5 := HR5.out.2
  clear A1 A3 A3' HR3 HR5
  go_loopw [7, 8, 9] (fun so at' i wq => ∃ (k g c : Nat), i = .int .i64 (k : Nat) ∧ k ≤ n ∧ at' = .int .i64 (A + sumN t k : Nat) ∧ so = .slice (some ⟨g, 0, none⟩) (12 + 16 * k) c ∧ Own wq w.heap.size 5 .u8 g c (headB n ++ recsB s t A k) ∧ Below w.heap.size w wq ∧ Hid (okN s k = true)) (fun _ _ i _ => n - (intOf i).toNat)
  case atStart => exact ⟨0, g5, c5, rfl, by omega, rfl, rfl, by simpa [recsB, headB] using O5, B5, rfl⟩
  case round =>
    clear O5 B5
    obtain ⟨k, g, c, rfl, hk, rfl, rfl, hO, hB, hok⟩ := hrel
    have h4 := fun j hj => (okN_iff.1 hok.out j hj).1
    have hrl := recsB_len (t := t) (o := A) h4 (Nat.le_refl k)
    have hXL : (headB n ++ recsB s t A k).length = 12 + 16 * k := by rw [List.length_append, headB_len, hrl]
    by_cases hkn : k < n
    · have hkn' : (k : Int) < n := by omega
      have HTk : Strs w a n cap s := h
      obtain ⟨b, off, rfl, hb, hc⟩ := h.spot (by omega)
      have SW : ∀ W, Below w.heap.size w W → ∀ j, j < n → W.cell? ⟨b, off + j, none⟩ = some (.string (s j)) := fun W hBW j hj => by
        rw [World.cell?_of_block (a := ⟨b, off + j, none⟩) (hBW.block b hb), hc j hj]
      clear hc
      obtain ⟨wo, hwo⟩ : ∃ wo, wo = wr := ⟨_, rfl⟩
      subst hwo
      go_wp2_with fail
      go_loopw [10] (fun i wq => ∃ j : Nat, i = .int .i64 (j : Nat) ∧ j ≤ k ∧ Hid (∀ q, q < j → s q ≠ s k) ∧ Below wo.heap.size wo wq) (fun i _ => k - (intOf i).toNat)
      case atStart => exact ⟨0, rfl, by omega, fun q hq => by omega, Below.refl _ _⟩
      case round =>
        obtain ⟨j, rfl, hj, hnj, hBi⟩ := hrel
        have BW := hB.trans (hBi.mono hB.size)
        by_cases hjk : j < k
        · have hjk' : (j : Int) < k := by omega
          have hjn : (j : Int) < n := by omega
          have cj := SW wr BW j (by omega)
          have ck := SW wr BW k hkn
          have bd : ∀ q, Below w.heap.size w (wr.drewN q) := fun q => below_drewN BW q
          have bi : ∀ q, Below wo.heap.size wo (wr.drewN q) := fun q => below_drewN hBi q
          by_cases hs : s j = s k
          · have hs' := txt_yes hs
            have HNO : Hid (okN s n = false) := okN_hit hkn (fun e => e.2 j hjk hs)
            clear hs hBi BW hO HTk
            go_wp2_with fail
            go_quiet (fail)
            go_wp2
            go_ret2
            exact ⟨bd _, .inl ⟨HNO, rfl⟩⟩
          · have hs' := txt_no hs
            have HN : Hid (∀ q, q < j + 1 → s q ≠ s k) := fun q hq => by
              rcases Nat.lt_or_ge q j with h1 | h1
              · exact hnj.out q h1
              · obtain rfl : q = j := by omega
                exact hs
            clear hs hBi BW hO HTk
            go_wp2_with fail
            go_quiet (fail)
            go_wp2
            exact ⟨⟨j + 1, by go_num, by omega, HN, bi _⟩, by simp [intOf]; omega⟩
        · obtain rfl : j = k := by omega
          have hjk' : ¬ (j : Int) < j := by omega
          have cj := SW wr BW j hkn
          by_cases hsz : (s j).size = 4
          · have hO2 := hO.below hBi
            have hsz' : ((s j).size : Int) = 4 := by omega
            have hsz2 : (((s j).size : Int) != 4) = false := by simp [hsz]
            have HOK : Hid (okN s (j + 1) = true) := by
              show _ = _
              rw [okN, hok.out, decide_eq_true hsz, hadn_no.2 hnj.out]; rfl
            have hsk := sumN_each (t := t) hkn
            have hLk : (t j).l ≤ 140737488400000 := by omega
            have hAk : A + sumN t j ≤ 140737488500000 := by omega
            have HSS : Hid (sumN t (j + 1) = sumN t j + (t j).l) := rfl
            have HREC : Hid (headB n ++ recsB s t A j ++ txtL (s j) ++ zer4 ++ wd4 (A + sumN t j) ++ wd4 (t j).l = headB n ++ recsB s t A (j + 1)) := by
              show _ = _; rw [recsB]; simp only [List.append_assoc]
            obtain ⟨b2, off2, e2, hb2, hc2⟩ := h2.spot (by omega)
            subst e2
            obtain ⟨tl, htl⟩ : ∃ q, Hid ((t j).l = q) := ⟨_, rfl⟩
            have DW : ∀ W, Below w.heap.size w W → W.cell? ⟨b2, off2 + j, none⟩ = some (.slice (t j).a tl (t j).c) := fun W hBW => by
              rw [World.cell?_of_block (a := ⟨b2, off2 + j, none⟩) (hBW.block b2 hb2), hc2 j hkn, htl.out]
            obtain ⟨AT, hAT⟩ : ∃ AT, Hid (A + sumN t j = AT) := ⟨_, rfl⟩
            rw [hAT.out] at hAk HREC
            rw [htl.out] at hLk
            have A1 : Hid (_) := app_text BW hO2 (s j) (m := 4) hsz (by omega) (n := 12 + 16 * j) hXL (by omega)
            have A2 : ∀ (g : Nat) (c : Nat) (W : World), Hid (Own W w.heap.size 5 .u8 g c (headB n ++ recsB s t A j ++ txtL (s j)) ∧ Below w.heap.size w W) → Hid (_) := fun g c W hh => app_lit hh.out.2 hh.out.1 #[.int .u8 0, .int .u8 0, .int .u8 0, .int .u8 0] zer4 rfl (m := 4) rfl (N := 12 + 16 * j + 4) (by rw [List.length_append, hXL, txtL_len, hsz]) (by omega)
            have HXL : Hid ((headB n ++ recsB s t A j).length = 12 + 16 * j) := hXL
            have HT : Hid ((s j).size = 4) := hsz
            rw [hAT.out]
            clear hc2 hO hO2 hXL hrl BW hBi HTk hsz
            go_wp2_with (first
              | (at_builtin; refine wpList_app2 rfl (.tmp 56) (.tmp 60) 29 9 rfl rfl rfl A1.out ?_; rintro g3 c3 w3 hR1; have HR3 : Hid (_) := hR1; clear hR1; have A2' := A2 g3 c3 w3 HR3; have d3 := SW w3 HR3.out.2 j hkn)
              | (at_builtin; refine wpList_app2 rfl (.tmp 62) (.tmp 63) 29 29 rfl rfl rfl A2'.out ?_; rintro g4 c4 w4 hR1; have HR4 : Hid (_) := hR1; clear hR1))
            have B4 := HR4.out.2
            refine (big4w AT _).mono ?_
            rintro e w6 ⟨gw6, cw6, rfl, hW6, b6⟩
            have B6 := B4.trans (b6.mono B4.size)
            have O6 := HR4.out.1.below b6
            have A6 : Hid (_) := app_on B6 O6 (cm := cw6) (hW6.src' (n := 4) rfl) (N := 12 + 16 * j + 4 + 4) (by rw [List.length_append, List.length_append, HXL.out, txtL_len, HT.out]; rfl) (by rw [List.length_append, List.length_append, HXL.out, txtL_len, HT.out]; simp [zer4]; omega)
            clear O6 hW6 A1 A2
            go_wp2_with (at_builtin; refine wpList_app2 rfl (.tmp 65) (.tmp 67) 29 29 rfl rfl rfl A6.out ?_; rintro g7 c7 w7 hR1; have HR7 : Hid (_) := hR1; clear hR1; have d7 := DW w7 HR7.out.2.1)
            have B7 := HR7.out.2.1
            refine (big4w tl _).mono ?_
            rintro e w8 ⟨gw8, cw8, rfl, hW8, b8⟩
            have B8 := B7.trans (b8.mono B7.size)
            have O8 := HR7.out.1.below b8
            have A8 : Hid (_) := app_on B8 O8 (cm := cw8) (hW8.src' (n := 4) rfl) (N := 12 + 16 * j + 4 + 4 + 4) (by rw [List.length_append, List.length_append, List.length_append, HXL.out, txtL_len, HT.out]; rfl) (by rw [List.length_append, List.length_append, List.length_append, HXL.out, txtL_len, HT.out]; simp [zer4, wd4_len]; omega)
            clear O8 hW8 d7
            go_wp2_with (at_builtin; refine wpList_app2 rfl (.tmp 69) (.tmp 75) 29 29 rfl rfl rfl A8.out ?_; rintro g9 c9 w9 hR1; have HR9 : Hid (_) := hR1; clear hR1; have d9 := DW w9 HR9.out.2.1)
            have O9 := HR9.out.1
            rw [← htl.out] at O9
            refine ⟨⟨j + 1, g9, c9, by go_num, by omega, congrArg (Value.int .i64) (by rw [HSS.out, htl.out]; have := hAT.out; omega), by rw [show 12 + 16 * (j + 1) = 12 + 16 * j + 4 + 4 + 4 + 4 by omega], by rw [← HREC.out]; exact O9, HR9.out.2.1, HOK⟩, by simp [intOf]; omega⟩
          · have hsz' : ¬ ((s j).size : Int) = 4 := by omega
            have hsz2 : (((s j).size : Int) != 4) = true := by rw [bne_iff_ne]; omega
            have HNO : Hid (okN s n = false) := okN_hit hkn (fun e => hsz e.1)
            clear hsz hO HTk
            go_wp2
            go_ret2
            exact ⟨BW, .inl ⟨HNO, rfl⟩⟩
    · obtain rfl : k = n := by omega
      have hkn' : ¬ (k : Int) < k := by omega
      obtain ⟨wo, hwo⟩ : ∃ wo, wo = wr := ⟨_, rfl⟩
      subst hwo
      have HAk : Hid (headB k ++ recsB s t A k ++ bodyB t k = layB s t k) := by show _ = _; rw [HA.out]; rfl
      have HLN : Hid ((layB s t k).length = 12 + 16 * k + sumN t k) := layB_len hok.out
      have HXL : Hid ((headB k ++ recsB s t A k).length = 12 + 16 * k) := hXL
      clear hXL hrl
      go_wp2_with fail
      go_loopw [7, 11] (fun so i wq => ∃ (j g' c' : Nat), i = .int .i64 (j : Nat) ∧ j ≤ k ∧ so = .slice (some ⟨g', 0, none⟩) (12 + 16 * k + sumN t j) c' ∧ Own wq w.heap.size 5 .u8 g' c' (headB k ++ recsB s t A k ++ bodyB t j) ∧ Below w.heap.size w wq) (fun _ i _ => k - (intOf i).toNat)
      case atStart => exact ⟨0, g, c, rfl, by omega, rfl, by simpa [bodyB] using hO, hB⟩
      case round =>
        clear hO hB
        obtain ⟨j, g', c', rfl, hj, rfl, hO, hB⟩ := hrel
        by_cases hjk : j < k
        · have hjk' : (j : Int) < k := by omega
          have hT := h2.below hB (Nat.le_refl _)
          obtain ⟨b2, off2, e2, hb2, hc2⟩ := hT.spot (by omega)
          subst e2
          have d2 := hc2 j hjk
          have LJ := hT.each j hjk
          have hsj := sumN_each (t := t) hjk
          have HS : Hid (sumN t (j + 1) = sumN t j + (t j).l) := rfl
          have A1 : Hid (_) := app_on hB hO (cm := (t j).c) (Own.srcB LJ) (N := 12 + 16 * k + sumN t j) (by rw [List.length_append, HXL.out, bodyB_len]) (by rw [List.length_append, HXL.out, bodyB_len]; omega)
          clear hc2 hO LJ hT
          go_wp2_with (at_builtin; refine wpList_app2 rfl (.tmp 89) (.tmp 93) 29 29 rfl rfl rfl A1.out ?_; rintro g9 c9 w9 hR1; have HR9 : Hid (_) := hR1; clear hR1)
          refine ⟨⟨j + 1, g9, c9, by go_num, by omega, by rw [HS.out, ← Nat.add_assoc], ?_, HR9.out.2.1⟩, by simp [intOf]; omega⟩
          have := HR9.out.1
          rw [List.append_assoc] at this
          exact this
        · obtain rfl : j = k := by omega
          have hjk' : ¬ (j : Int) < j := by omega
          go_wp2
          go_ret2
          rw [HAk.out] at hO
          exact ⟨hB, .inr ⟨hok, g', c', by rw [HLN.out]; rfl, hO⟩⟩
end Go.Proofs.Ytninhcnpjadjpaa
