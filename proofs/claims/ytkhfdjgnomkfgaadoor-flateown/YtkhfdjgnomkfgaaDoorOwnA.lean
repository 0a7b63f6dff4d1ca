/-
  FlateOwn, walked.
-/
import Derived.Test.YtkhfdjgnomkfgaaDoorOwc
namespace Go.Proofs.YtkhfdjgnomkfgaaDoor
open Go.RowKit

set_option maxRecDepth 100000 in
set_option maxHeartbeats 16000000 in
theorem own_walkA (w : World) (a : Option Addr) (len cap : Nat) (f : Nat → Int) (a2 : Option Addr) (len2 cap2 : Nat) (f2 : Nat → Int) (h1 : Ints w a len cap f) (h2 : Ints w a2 len2 cap2 f2) (hT : Tab w) (HL : Hid (len2 ≤ 20)) :
    Calls Tryd.prog 6 #[.slice a len cap, .slice a2 len2 cap2] w fun e w' => e = .returned (.bool true) ∧ Below w.heap.size w w' := by
  have hr1 := h1.reach
  have hr2 := h2.reach
  have hfit1 := h1.fit
  have hfit2 := h2.fit
  have hmk := make29 257 (by omega)
  have hO := ows_new w
  have hmk' : ∀ W : World, (Instr.makeSlice 29 (.int .i64 257) (.int .i64 257)).run Tryd.prog W = .ok (.slice (some ⟨W.heap.size, 0, none⟩) 257 257) (W.alloc (.cells (arr 257 fun _ => .int .i64 0) 3)) := hmk
  clear hmk
  go_enter Tryd.func6, Tryd.ntmps6
  go_wp2_with fail
  obtain ⟨W, hW⟩ : ∃ W, W = (((w.alloc (.cells (arr 257 fun _ => .int .i64 0) 3)).alloc (.cells #[.int .i64 256] 3)).alloc (.cells #[.int .i64 0] 3)) := ⟨_, rfl⟩
  rw [← hW] at hO ⊢
  clear hW hmk'
  go_loopw [6, 7, 8] (fun su sl si wq => ∃ (i : Nat) (us ls : List Int) (gu cu gl cl : Nat), si = .int .i64 (i : Nat) ∧ su = .slice (some ⟨gu, 0, none⟩) us.length cu ∧ sl = .slice (some ⟨gl, 0, none⟩) ls.length cl ∧ i ≤ 20 ∧ Ows w wq w.heap.size 257 gu cu gl cl (scat [256] [0] 0) us ls ∧ us.length ≤ i + 1 ∧ 0 < us.length ∧ Hid (ls.length = us.length) ∧ Hid (Tree ls) ∧ Hid (Uses us) ∧ Hid (us.getD 0 0 = 256)) (fun _ _ si _ => 20 - (intOf si).toNat)
  case atStart => exact ⟨0, [256], [0], w.heap.size + 1, 1, w.heap.size + 2, 1, rfl, rfl, rfl, by omega, hO, by simp, by simp, rfl, .inl rfl, uses_one, rfl⟩
  case round =>
    clear hO W
    obtain ⟨i, us, ls, gu, cu, gl, cl, rfl, rfl, rfl, hi, hO, hul, hu0, hlu, hTr, hUs, h256⟩ := hrel
    by_cases hgo : i < len2 ∧ i < 20
    · obtain ⟨q1, q2⟩ := hgo
      have q1' : (i : Int) < (len2 : Int) := by omega
      have q2' : (i : Int) < 20 := by omega
      obtain ⟨b, off, rfl, hb, hc⟩ := h2.spot (by omega)
      have hci : wr.cell? ⟨b, off + i, none⟩ = some (.int .i64 (f2 i)) := by
        rw [World.cell?_of_block (a := ⟨b, off + i, none⟩) (hO.below.block b hb)]; exact hc i q1
      have hfi := hfit2 i
      obtain ⟨x2, hx2⟩ : ∃ x2, Hid (f2 i = x2) := ⟨_, rfl⟩
      rw [hx2.out] at hci hfi
      go_wp2_with fail
      refine (pick_any x2 256 (by omega) (by omega) _).mono ?_
      rintro e w' ⟨rfl, hw⟩
      have hw2 := hw.symm
      subst hw2
      clear hw
      have hS := pickv_lt x2 256 (by omega)
      obtain ⟨S, hSe⟩ : ∃ S, Hid (pickv x2 256 = S) := ⟨_, rfl⟩
      rw [hSe.out] at hS ⊢
      have hlc := hO.u.lc.1
      have HO : Hid (_) := hO
      have hcu : ∀ j, j < us.length → wr.cell? ⟨gu, j, none⟩ = some (.int .i64 (us.getD j 0)) := fun j hj => hO.u.cell hj
      have HCU : Hid (∀ j, j < us.length → wr.cell? ⟨gu, j, none⟩ = some (.int .i64 (us.getD j 0))) := hcu
      clear hcu hO
      go_wp2_with fail
      go_loopw [10, 49] (fun sh sj wq => ∃ (j : Nat) (had : Bool), j ≤ us.length ∧ sj = .int .i64 (j : Nat) ∧ sh = .bool had ∧ wq = wr ∧ Hid (had = true ↔ ∃ t, t < j ∧ us.getD t 0 = (S : Int))) (fun _ sj _ => us.length - (intOf sj).toNat)
      case atStart => exact ⟨0, false, by omega, rfl, rfl, rfl, by show _ ↔ _; simp⟩
      case round =>
        obtain ⟨j, had, hj, rfl, rfl, hwr, hhad⟩ := hrel
        subst hwr
        by_cases hjl : j < us.length
        · have hjl' : (j : Int) < (us.length : Int) := by omega
          have hcj := HCU.out j hjl
          obtain ⟨y, hy⟩ : ∃ y, Hid (us.getD j 0 = y) := ⟨_, rfl⟩
          rw [hy.out] at hcj
          have hcj' := hcj
          cases had with
          | true =>
            go_wp2
            refine ⟨⟨j + 1, true, by omega, by go_num, rfl, (by first | rfl | trivial), ?_⟩, by simp [intOf]; omega⟩
            obtain ⟨t, ht, he⟩ := hhad.out.1 rfl
            exact ⟨fun _ => ⟨t, by omega, he⟩, fun _ => rfl⟩
          | false =>
            by_cases hyS : y = (S : Int)
            · have hyS' : (y == (S : Int)) = true := by simpa using hyS
              clear hyS
              go_wp2
              refine ⟨⟨j + 1, true, by omega, by go_num, rfl, (by first | rfl | trivial), ?_⟩, by simp [intOf]; omega⟩
              exact ⟨fun _ => ⟨j, by omega, by rw [hy.out]; simpa using hyS'⟩, fun _ => rfl⟩
            · have hyS' : (y == (S : Int)) = false := by simpa using hyS
              go_wp2
              refine ⟨⟨j + 1, false, by omega, by go_num, rfl, (by first | rfl | trivial), ?_⟩, by simp [intOf]; omega⟩
              refine ⟨fun h => by simp at h, fun ⟨t, ht, he⟩ => ?_⟩
              by_cases e : t = j
              · subst e; rw [hy.out] at he; exact absurd he hyS
              · exact hhad.out.2 ⟨t, by omega, he⟩
        · obtain rfl : j = us.length := by omega
          have hjl' : ¬ ((us.length : Nat) : Int) < (us.length : Int) := by omega
          have hO := HO.out
          have hLl : ls.length = us.length := hlu.out
          obtain ⟨M, hM⟩ : ∃ M, Hid (ls.length = M) := ⟨_, rfl⟩
          have hM0 : 0 < M := by rw [← hM.out]; omega
          have hM1 : M ≤ 21 := by rw [← hM.out]; omega
          rw [hM.out]
          go_wp2_with fail
          refine (pick_any (x2.tdiv 256) M hM0 (by omega) _).mono ?_
          rintro e w' ⟨rfl, hw⟩
          have hw2 := hw.symm
          subst hw2
          clear hw
          have hK := pickv_lt (x2.tdiv 256) M hM0
          obtain ⟨k, hk⟩ : ∃ k, Hid (pickv (x2.tdiv 256) M = k) := ⟨_, rfl⟩
          rw [hk.out] at hK ⊢
          have hkl : k < ls.length := by rw [hM.out]; exact hK
          cases had with
          | true =>
            clear hLl hkl
            go_wp2
            refine ⟨⟨i + 1, us, ls, gu, cu, gl, cl, by go_num, rfl, by rw [hM.out], by omega, hO, by omega, hu0, hlu, hTr, hUs, h256⟩, by simp [intOf]; omega⟩
          | false =>
            have hcl := hO.l.cell hkl
            have hbd := hTr.out.bd k
            obtain ⟨x, hx⟩ : ∃ x, Hid (ls.getD k 0 = x) := ⟨_, rfl⟩
            rw [hx.out] at hcl hbd
            have hlcl := hO.l.lc.1
            rw [hM.out] at hlcl
            by_cases hx15 : x < 15
            · have hx15' := hx15
              have HAU : Hid (_) := hO.addu (S : Int) (by omega)
              have HKL : Hid (k < ls.length) := hkl
              have HLL : Hid (ls.length = us.length) := hLl
              clear hO hkl hLl
              go_wp2_with (first
                | (at_builtin; refine wpList_append_ex rfl (.tmp 77) (.tmp 79) 29 rfl rfl rfl HAU.out ?_; rintro g2 c2 w2 hO2
                   have hcl2 := hO2.l.cell HKL.out
                   rw [hx.out] at hcl2
                   have hfr2 := hO2.l.free k
                   have hO3 := hO2.setl k (x + 1)
                   have hap := hO3.addl (x + 1) (by rw [List.length_set, hM.out]; omega)
                   rw [List.length_set, hM.out, World.size_setCell] at hap
                   have HAL : Hid (_) := hap
                   clear hap hO3 hO2)
                | (at_builtin; refine wpList_append_ex rfl (.tmp 87) (.tmp 92) 29 rfl rfl rfl HAL.out ?_; rintro g3 c3 w3 hO4; have HO4 : Hid (_) := hO4; clear hO4))
              have hno : ∀ t, t < us.length → us.getD t 0 ≠ (S : Int) := fun t ht he => by
                have := hhad.out.2 ⟨t, ht, he⟩
                simp at this
              refine ⟨⟨i + 1, us ++ [(S : Int)], ls.set k (x + 1) ++ [x + 1], g2, c2, g3, c3, by go_num, by rw [List.length_append]; rfl, by rw [List.length_append, List.length_set, hM.out]; rfl, by omega, HO4.out, by rw [List.length_append]; simp; omega, by simp, ?_, hTr.out.split HKL.out hx.out hx15', hUs.out.more (by omega) hno, ?_⟩, by simp [intOf]; omega⟩
              · show _ = _
                rw [List.length_append, List.length_append, List.length_set, HLL.out]; rfl
              · show _ = _
                rw [getD_front _ hu0]; exact h256.out
            · have hx15' : ¬ x < 15 := hx15
              clear hLl hkl
              go_wp2
              refine ⟨⟨i + 1, us, ls, gu, cu, gl, cl, by go_num, rfl, by rw [hM.out], by omega, hO, by omega, hu0, hlu, hTr, hUs, h256⟩, by simp [intOf]; omega⟩
    · have h2l : us.length ≤ 22 := by omega
      by_cases h11 : us.length = 1
      · have q1 : ¬ (i : Int) < (len2 : Int) := by have := HL.out; omega
        obtain rfl := one_use h11 h256.out
        have HAU : Hid (_) := hO.addu 65 (by omega)
        clear hO
        have e1 : ls.length = 1 := hlu.out
        rw [e1]
        go_wp2_with (at_builtin; refine wpList_append_ex rfl (.tmp 97) (.tmp 98) 29 rfl rfl rfl HAU.out ?_; rintro g2 c2 w2 hO2; have HO2 : Hid (_) := hO2.newl [1, 1] (by simp); clear hO2)
        clear e1 hgo HAU hUs hTr hlu h256 hu0 hul h2l h11
        obtain ⟨us, hus⟩ : ∃ us : List Int, Hid ([256, 65] = us) := ⟨_, rfl⟩
        obtain ⟨ls, hls⟩ : ∃ ls : List Int, Hid ([1, 1] = ls) := ⟨_, rfl⟩
        obtain ⟨wr, hwr⟩ : ∃ wr, wr = w2.alloc (.cells #[.int .i64 1, .int .i64 1] 3) := ⟨_, rfl⟩
        obtain ⟨gl, hgl⟩ : ∃ gl, w2.heap.size = gl := ⟨_, rfl⟩
        have hO : Ows w wr w.heap.size 257 g2 c2 gl 2 (scat us ls 0) us ls := by rw [hwr, ← hgl, ← hus.out, ← hls.out]; exact HO2.out
        rw [← hwr, hgl]
        clear hwr HO2 hgl
        have hul : us.length = 2 := by rw [← hus.out]; rfl
        have hTr : Hid (Tree ls) := by show Tree ls; rw [← hls.out]; exact tree_two
        have hUs : Hid (Uses us) := by show Uses us; rw [← hus.out]; exact uses_two
        have h256 : Hid (us.getD 0 0 = 256) := by show _ = _; rw [← hus.out]; rfl
        have hlu : Hid (ls.length = us.length) := by show _ = _; rw [← hls.out, ← hus.out]; rfl
        have hU : Hid (us.length = 2) := hul
        have hU2 : 2 ≤ 2 := by omega
        have hU22 : 2 ≤ 22 := by omega
        clear hul hus hls
        go_loopw [103] (fun sj wq => ∃ j : Nat, j ≤ 2 ∧ sj = .int .i64 (j : Nat) ∧ Ows w wq w.heap.size 257 g2 c2 gl 2 (scat us ls j) us ls) (fun sj _ => 2 - (intOf sj).toNat)
        case atStart => exact ⟨0, by omega, rfl, hO⟩
        case round =>
          clear hO
          obtain ⟨j, hj, rfl, hO⟩ := hrel
          by_cases hjl : j < 2
          · have hjl' : (j : Int) < ((2 : Nat) : Int) := by omega
            have hju : j < us.length := by rw [hU.out]; exact hjl
            have hjL : j < ls.length := by rw [hlu.out]; exact hju
            have d1 := hO.u.cell hju
            have d2 := hO.l.cell hjL
            have hb := hUs.out.bd j hju
            obtain ⟨S, hS⟩ : ∃ S, Hid ((us.getD j 0).toNat = S) := ⟨_, rfl⟩
            have hSe : us.getD j 0 = ((S : Nat) : Int) := by rw [← hS.out]; omega
            rw [hSe] at d1 hb
            obtain ⟨x, hx⟩ : ∃ x, Hid (ls.getD j 0 = x) := ⟨_, rfl⟩
            rw [hx.out] at d2
            have hS257 : S < 257 := by omega
            have hfr := hO.z.free S
            have d3 := hO.z.cell (j := S) (by rw [scat_len]; exact hS257)
            have hl1 := hO.u.lc.1
            have hl2 := hO.l.lc.1
            rw [hU.out] at hl1
            rw [hlu.out, hU.out] at hl2
            have HO2 : Hid (Ows w (wr.setCell ⟨w.heap.size, S, none⟩ (.int .i64 x)) w.heap.size 257 g2 c2 gl 2 (scat us ls (j + 1)) us ls) := by
              have := hO.setz S x
              rw [← hS.out, ← hx.out] at this ⊢
              exact this
            clear hO hju hjL hSe
            go_wp2
            exact ⟨⟨j + 1, by omega, by go_num, HO2.out⟩, by simp [intOf]; omega⟩
          · have HjU : Hid (j = 2) := by show _ = _; omega
            have hjl' : ¬ (j : Int) < ((2 : Nat) : Int) := by omega
            go_wp2_with fail
            have hgd := scat_good hUs.out hTr.out hlu.out (by rw [hU.out]; exact hU2) h256.out
            rw [hU.out] at hgd
            obtain ⟨zs, hzs⟩ : ∃ zs, Hid (scat us ls 2 = zs) := ⟨_, rfl⟩
            rw [HjU.out] at hO
            rw [hzs.out] at hgd hO
            clear hjl hj
            obtain ⟨hGO, hGL, hpos⟩ := hgd
            have hzl : zs.length = 257 := by rw [← hzs.out]; exact scat_len _ _ _
            have hIn := hO.z.intsO (by omega) hGO.h15
            rw [hzl] at hIn
            refine (rnew_any _ 257 257 _ _ hIn).mono ?_
            rintro e w3 ⟨b3, ⟨hbad, _⟩ | ⟨_, rc, gc, gl', capl, _, _, _, rfl, hRC⟩⟩
            · exact absurd hGL hbad
            have hO3 := hO.to b3
            have HGO : Hid (GoodO zs) := hGO
            have HP : Hid (∀ j, j < us.length → 0 < lenF zs (us.getD j 0).toNat) := hU.out ▸ hpos
            clear hIn hGL hGO hpos hO hTr hlu hzs hzl b3
            go_wp2_with fail
            refine (known_any _ (hT.below hO3.below hT.pos)).mono ?_
            rintro e w4 ⟨rfl, b4⟩
            have hO4 := hO3.to b4
            have hRC4 : RCode w4 rc gc gl' capl 257 (lenF zs) := hRC.below b4
            have hp0 := ps_new w4
            clear hO3 hRC b4
            go_wp2_with fail
            refine (penbits_any w4.heap.size w4.heap.size (.slice none 0 0) [] 0 5 3 (by omega) (by omega) (by omega) _ hp0.pen hp0.below.size).mono ?_
            rintro e v1 ⟨rfl, up1, bs1, hP1, hM1, ho1, hn1⟩
            have hS1 := hp0.pend hM1 hP1
            have hH1 : Hid (HeadT zs bs1 (0 + 3)) := HeadT.step (bs := []) (fun p hp => by omega) ho1.out hn1.out (tb0 zs)
            clear hP1 hM1 ho1 hn1 hp0
            go_wp2_with fail
            refine (penbits_any w4.heap.size w4.heap.size up1 bs1 (0 + 3) 0 5 (by omega) (by omega) (by omega) _ hS1.pen hS1.below.size).mono ?_
            rintro e v2 ⟨rfl, up2, bs2, hP2, hM2, ho2, hn2⟩
            have hS2 := hS1.pend hM2 hP2
            have hH2 : Hid (HeadT zs bs2 (0 + 3 + 5)) := hH1.out.step ho2.out hn2.out (fun k hk => tb1 zs (0 + 3) k (by omega) (by omega))
            clear hP2 hM2 ho2 hn2 hS1 hH1
            go_wp2_with fail
            refine (penbits_any w4.heap.size w4.heap.size up2 bs2 (0 + 3 + 5) 0 5 (by omega) (by omega) (by omega) _ hS2.pen hS2.below.size).mono ?_
            rintro e v3 ⟨rfl, up3, bs3, hP3, hM3, ho3, hn3⟩
            have hS3 := hS2.pend hM3 hP3
            have hH3 : Hid (HeadT zs bs3 (0 + 3 + 5 + 5)) := hH2.out.step ho3.out hn3.out (fun k hk => tb1 zs (0 + 3 + 5) k (by omega) (by omega))
            clear hP3 hM3 ho3 hn3 hS2 hH2
            go_wp2_with fail
            refine (penbits_any w4.heap.size w4.heap.size up3 bs3 (0 + 3 + 5 + 5) 15 4 (by omega) (by omega) (by omega) _ hS3.pen hS3.below.size).mono ?_
            rintro e v4 ⟨rfl, up4, bs4, hP4, hM4, ho4, hn4⟩
            have hS4 := hS3.pend hM4 hP4
            have hH4 : Hid (HeadT zs bs4 (0 + 3 + 5 + 5 + 4)) := hH3.out.step ho4.out hn4.out (tb3 zs)
            clear hP4 hM4 ho4 hn4 hS3 hH3
            go_wp2_with fail
            go_loopw [138] (fun sj wq => ∃ (k : Nat) (up : Value) (bs : List Int), k ≤ 19 ∧ sj = .int .i64 (k : Nat) ∧ PS w4 wq up bs (17 + 3 * k) ∧ Hid (HeadT zs bs (17 + 3 * k))) (fun sj _ => 19 - (intOf sj).toNat)
            case atStart => exact ⟨0, up4, bs4, by omega, rfl, hS4, hH4⟩
            case round =>
              clear hS4 hH4
              obtain ⟨k, up, bs, hk, rfl, hS, hH⟩ := hrel
              by_cases hk19 : k < 19
              · have hk' : (k : Int) < 19 := by omega
                have hix := ordV_index k hk19
                unfold ordV at hix
                have ho19 := ord_lt k hk19
                obtain ⟨o, hoe⟩ : ∃ o, Hid (ord k = o) := ⟨_, rfl⟩
                rw [hoe.out] at ho19
                simp only [hoe.out] at hix
                by_cases ho16 : o < 16
                · have ho16' : (o : Int) < 16 := by omega
                  have h4 : four k = 4 := four_lo (by rw [hoe.out]; exact ho16)
                  have H4 : Hid (four k = 4) := h4
                  clear h4
                  go_wp2_with fail
                  refine (penbits_any w4.heap.size w4.heap.size up bs (17 + 3 * k) 4 3 (by omega) (by omega) (by omega) _ hS.pen hS.below.size).mono ?_
                  rintro e v5 ⟨rfl, up5, bs5, hP5, hM5, ho5, hn5⟩
                  have hS5 := hS.pend hM5 hP5
                  have hH5 : Hid (HeadT zs bs5 (17 + 3 * k + 3)) := hH.out.step ho5.out hn5.out (fun j hj => by rw [← H4.out]; exact tb4 zs k j hk19 hj)
                  clear hP5 hM5 ho5 hn5 hS hH hix
                  go_wp2
                  exact ⟨⟨k + 1, up5, bs5, by omega, by go_num, hS5, hH5⟩, by simp [intOf]; omega⟩
                · have ho16' : ¬ (o : Int) < 16 := by omega
                  have h4 : four k = 0 := four_hi (by rw [hoe.out]; exact ho16)
                  have H4 : Hid (four k = 0) := h4
                  clear h4
                  go_wp2_with fail
                  refine (penbits_any w4.heap.size w4.heap.size up bs (17 + 3 * k) 0 3 (by omega) (by omega) (by omega) _ hS.pen hS.below.size).mono ?_
                  rintro e v5 ⟨rfl, up5, bs5, hP5, hM5, ho5, hn5⟩
                  have hS5 := hS.pend hM5 hP5
                  have hH5 : Hid (HeadT zs bs5 (17 + 3 * k + 3)) := hH.out.step ho5.out hn5.out (fun j hj => by rw [← H4.out]; exact tb4 zs k j hk19 hj)
                  clear hP5 hM5 ho5 hn5 hS hH hix
                  go_wp2
                  exact ⟨⟨k + 1, up5, bs5, by omega, by go_num, hS5, hH5⟩, by simp [intOf]; omega⟩
              · have Hk : Hid (k = 19) := by show _ = _; omega
                have hk' : ¬ (k : Int) < 19 := by omega
                go_wp2_with fail
                clear hk19 hk hk'
                go_loopw [150] (fun sj wq => ∃ (i : Nat) (up : Value) (bs : List Int), i ≤ 257 ∧ sj = .int .i64 (i : Nat) ∧ PS w4 wq up bs (74 + 4 * i) ∧ Hid (HeadT zs bs (74 + 4 * i))) (fun sj _ => 257 - (intOf sj).toNat)
                case atStart =>
                  have e := Hk.out
                  subst e
                  exact ⟨0, up, bs, by omega, rfl, hS, hH⟩
                case round =>
                  clear hS hH
                  obtain ⟨i, up, bs, hi, rfl, hS, hH⟩ := hrel
                  by_cases hi257 : i < 257
                  · have hi' : (i : Int) < 257 := by omega
                    have hzc := (hO4.z.below hS.below).cell (j := i) (by rw [HGO.out.len]; exact hi257)
                    have hzb : 0 ≤ zs.getD i 0 ∧ zs.getD i 0 ≤ 15 := by
                      have hi2 : i < zs.length := by rw [HGO.out.len]; exact hi257
                      rw [List.getD_eq_getElem?_getD, List.getElem?_eq_getElem hi2]
                      exact HGO.out.h15 _ (List.getElem_mem hi2)
                    obtain ⟨n, hn⟩ : ∃ n, Hid ((zs.getD i 0).toNat = n) := ⟨_, rfl⟩
                    have hne : zs.getD i 0 = ((n : Nat) : Int) := by rw [← hn.out]; omega
                    rw [hne] at hzc hzb
                    clear hne
                    go_wp2_with fail
                    refine (pencode_any w4.heap.size w4.heap.size up bs (74 + 4 * i) n 4 (by omega) (by omega) (by omega) _ hS.pen hS.below.size).mono ?_
                    rintro e v5 ⟨rfl, up5, bs5, hP5, hM5, ho5, hn5⟩
                    have hS5 := hS.pend hM5 hP5
                    have hH5 : Hid (HeadT zs bs5 (74 + 4 * i + 4)) := hH.out.step ho5.out hn5.out (fun j hj => by rw [← hn.out]; exact tb5 zs i j hi257 hj)
                    clear hP5 hM5 ho5 hn5 hS hH hzc
                    go_wp2
                    exact ⟨⟨i + 1, up5, bs5, by omega, by go_num, hS5, hH5⟩, by simp [intOf]; omega⟩
                  · have Hi : Hid (i = 257) := by show _ = _; omega
                    have hi' : ¬ (i : Int) < 257 := by omega
                    go_wp2_with fail
                    refine (pencode_any w4.heap.size w4.heap.size up bs (74 + 4 * i) 0 4 (by omega) (by omega) (by omega) _ hS.pen hS.below.size).mono ?_
                    rintro e v6 ⟨rfl, up6, bs6, hP6, hM6, ho6, hn6⟩
                    have hS6 : PS w4 v6 up6 bs6 1106 := by
                      have := hS.pend hM6 hP6
                      rwa [Hi.out] at this
                    have hSay : Hid (SaysO zs bs6 1106 []) := by
                      have e := Hi.out
                      subst e
                      exact HeadT.says (hH.out.step ho6.out hn6.out (tb6 zs)) HGO.out
                    clear hP6 hM6 ho6 hn6 hS hH hi257 hi hi'
                    go_wp2_with fail
                    go_loopw [23, 24] (fun st si wq => ∃ (i : Nat) (up : Value) (bs : List Int) (at' : Nat) (O : List Int), st = .string (bstr (zb O) O.length) ∧ si = .int .i64 (i : Nat) ∧ i ≤ 60 ∧ PS w4 wq up bs at' ∧ Hid (SaysO zs bs at' O) ∧ Hid (Byt O) ∧ O.length ≤ i ∧ at' ≤ 1106 + 15 * i) (fun _ si _ => 60 - (intOf si).toNat)
                    case atStart => exact ⟨0, up6, bs6, 1106, [], rfl, rfl, by omega, hS6, hSay, fun q => by simp, by simp, by omega⟩
                    case round =>
                      clear hS6 hSay
                      obtain ⟨i, up, bs, at', O, rfl, rfl, hi, hS, hSay, hBy, hOl, hat⟩ := hrel
                      obtain ⟨ST, hST⟩ : ∃ ST, Hid (bstr (zb O) O.length = ST) := ⟨_, rfl⟩
                      have hBw : Below w.heap.size w wr := hO4.below.trans (hS.below.mono hO4.below.size)
                      by_cases hgo : i < len ∧ i < 60
                      · obtain ⟨q1, q2⟩ := hgo
                        have q1' : (i : Int) < (len : Int) := by omega
                        have q2' : (i : Int) < 60 := by omega
                        obtain ⟨b, off, rfl, hb, hc⟩ := h1.spot (by omega)
                        have hci : wr.cell? ⟨b, off + i, none⟩ = some (.int .i64 (f i)) := by
                          rw [World.cell?_of_block (a := ⟨b, off + i, none⟩) (hBw.block b hb)]; exact hc i q1
                        rw [hST.out]
                        go_wp2_with fail
                        refine (pick_any (f i) 2 (by omega) (by omega) _).mono ?_
                        rintro e w' ⟨rfl, hw⟩
                        have hw2 := hw.symm
                        subst hw2
                        clear hw
                        have hK := pickv_lt (f i) 2 (by omega)
                        obtain ⟨K, hKe⟩ : ∃ K, Hid (pickv (f i) 2 = K) := ⟨_, rfl⟩
                        rw [hKe.out] at hK ⊢
                        have hKu : K < us.length := by rw [hU.out]; exact hK
                        have hcu := (hO4.u.below hS.below).cell hKu
                        have hub := hUs.out.bd K hKu
                        have hps := HP.out K hKu
                        obtain ⟨S, hSS⟩ : ∃ S, Hid ((us.getD K 0).toNat = S) := ⟨_, rfl⟩
                        have hSe : us.getD K 0 = ((S : Nat) : Int) := by rw [← hSS.out]; omega
                        rw [hSS.out] at hps
                        rw [hSe] at hcu hub
                        have hlu1 := hO4.u.lc.1
                        rw [hU.out] at hlu1
                        clear hSe hKu hci
                        by_cases hS256 : S = 256
                        · have hS6 : ((S : Int) == 256) = true := by rw [beq_iff_eq]; omega
                          clear hS256 hub hps hlu1
                          have hKU : (K : Int) < ((2 : Nat) : Int) := by omega
                          go_wp2
                          exact ⟨⟨i + 1, up, bs, at', O, by rw [hST.out], by go_num, by omega, hS, hSay, hBy, by omega, by omega⟩, by simp [intOf]; omega⟩
                        · have hS6 : ((S : Int) == 256) = false := by rw [beq_eq_false_iff_ne]; omega
                          have hS255 : S < 256 := by omega
                          clear hS256 hub
                          have hKU : (K : Int) < ((2 : Nat) : Int) := by omega
                          have hRr := hRC4.below hS.below
                          have e1 := hRr.cs
                          have e2 := hRr.ls
                          have e3 := hRr.c S (by omega)
                          have e4 := hRr.l S (by omega)
                          have hcp := hRr.lcap
                          have hL15 := hRr.each S (by omega)
                          have hCb := code_bits (show S < 257 by omega) hRr.each hRr.ok
                          obtain ⟨L, hL⟩ : ∃ L, Hid (lenF zs S = L) := ⟨_, rfl⟩
                          rw [hL.out] at e4 hL15 hCb hps
                          have hC2 : codev (lenF zs) 257 S < 32768 := Nat.lt_of_lt_of_le hCb (Nat.le_trans (Nat.pow_le_pow_right (by omega) hL15) (by omega))
                          obtain ⟨C, hC⟩ : ∃ C, Hid (codev (lenF zs) 257 S = C) := ⟨_, rfl⟩
                          rw [hC.out] at e3 hC2
                          clear hCb hRr
                          have hwin := Ext.inh wr
                          have d1 := fun k : Ext wr => Ext.cell e1 k
                          have d2 := fun k : Ext wr => Ext.cell e2 k
                          have d3 := fun k : Ext wr => Ext.cell e3 k
                          have d4 := fun k : Ext wr => Ext.cell e4 k
                          have HS : Hid (PS w4 wr up bs at') := hS
                          clear hS
                          go_wp2_with fail
                          refine region_ext_cone 15 (by kernel_rfl) (by kernel_rfl) ?_
                          simp only [List.take_succ_cons, List.take_zero, List.drop_succ_cons, List.drop_zero]
                          repeat (go_big_quiet_step (fail))
                          refine wpQuiet_nil ?_
                          rintro _ ⟨kk, rfl⟩
                          have hS' := HS.out.to kk.h
                          clear d1 d2 d3 d4 hwin e1 e2 e3 e4 HS hcu
                          go_wp2_with fail
                          refine (pencode_any w4.heap.size w4.heap.size up bs at' C L (by omega) (by omega) (by omega) _ hS'.pen hS'.below.size).mono ?_
                          rintro e v7 ⟨rfl, up7, bs7, hP7, hM7, ho7, hn7⟩
                          have hS7 := hS'.pend hM7 hP7
                          have hSay7 : Hid (SaysO zs bs7 (at' + L) (O ++ [(S : Int)])) := by
                            have := hSay.out.lit HGO.out hS255 (by rw [hL.out]; exact hps) ho7.out (by rw [hC.out, hL.out]; exact hn7.out)
                            rw [hL.out] at this
                            exact this
                          have cv := conv_one v7 S hS255
                          obtain ⟨S1, hS1⟩ : ∃ S1, Hid (bstr (zb [(S : Int)]) 1 = S1) := ⟨_, rfl⟩
                          rw [hS1.out] at cv
                          have hnb : ¬ 9223372036854775807 < ST.size + S1.size := by
                            rw [← hST.out, ← hS1.out]
                            simp only [bstr, ByteArray.size, List.size_toArray, List.length_map, List.length_range]
                            omega
                          have hS8 := hS7.to ((Below.refl _ v7).alloc (Nat.le_refl _) (.cells #[.int .u8 (S : Int)] 5))
                          have HS8 : Hid (_) := hS8
                          clear hP7 hM7 ho7 hn7 hS7 hS8 hS' hSay
                          go_wp2
                          refine ⟨⟨i + 1, up7, bs7, at' + L, O ++ [(S : Int)], ?_, by go_num, by omega, HS8.out, hSay7, byt_more hBy.out hS255, by simp; omega, by omega⟩, by simp [intOf]; omega⟩
                          rw [← hST.out, ← hS1.out, bstr_add]
                      · by_cases hl1 : i < len
                        all_goals
                          first
                            | (have q1 : (i : Int) < (len : Int) := by omega
                               have q2 : ¬ (i : Int) < 60 := by omega)
                            | (have q1 : ¬ (i : Int) < (len : Int) := by omega)
                          rw [hST.out]
                          have hRr := hRC4.below hS.below
                          have e1 := hRr.cs
                          have e2 := hRr.ls
                          have e3 := hRr.c 256 (by omega)
                          have e4 := hRr.l 256 (by omega)
                          have hcp := hRr.lcap
                          have hL15 := hRr.each 256 (by omega)
                          have hCb := code_bits (show 256 < 257 by omega) hRr.each hRr.ok
                          have hps : 0 < lenF zs 256 := by
                            have := HP.out 0 (by rw [hU.out]; omega)
                            rw [h256.out] at this
                            exact this
                          obtain ⟨L, hL⟩ : ∃ L, Hid (lenF zs 256 = L) := ⟨_, rfl⟩
                          rw [hL.out] at e4 hL15 hCb hps
                          have hC2 : codev (lenF zs) 257 256 < 32768 := Nat.lt_of_lt_of_le hCb (Nat.le_trans (Nat.pow_le_pow_right (by omega) hL15) (by omega))
                          obtain ⟨C, hC⟩ : ∃ C, Hid (codev (lenF zs) 257 256 = C) := ⟨_, rfl⟩
                          rw [hC.out] at e3 hC2
                          clear hCb hRr hgo hl1
                          have hwin := Ext.inh wr
                          have d1 := fun k : Ext wr => Ext.cell e1 k
                          have d2 := fun k : Ext wr => Ext.cell e2 k
                          have d3 := fun k : Ext wr => Ext.cell e3 k
                          have d4 := fun k : Ext wr => Ext.cell e4 k
                          have HS : Hid (PS w4 wr up bs at') := hS
                          clear hS
                          go_wp2_with fail
                          refine region_ext_cone 13 (by kernel_rfl) (by kernel_rfl) ?_
                          simp only [List.take_succ_cons, List.take_zero, List.drop_succ_cons, List.drop_zero]
                          repeat (go_big_quiet_step (fail))
                          refine wpQuiet_nil ?_
                          rintro _ ⟨kk, rfl⟩
                          have hS' := HS.out.to kk.h
                          clear d1 d2 d3 d4 hwin e1 e2 e3 e4 HS
                          go_wp2_with fail
                          refine (pencode_any w4.heap.size w4.heap.size up bs at' C L (by omega) (by omega) (by omega) _ hS'.pen hS'.below.size).mono ?_
                          rintro e v7 ⟨rfl, up7, bs7, hP7, hM7, ho7, hn7⟩
                          have hS7 := hS'.pend hM7 hP7
                          obtain ⟨ap, capp, rfl⟩ := hS7.pen.own.form
                          have dp : v7.cell? ⟨w4.heap.size, 0, none⟩ = some (.slice ap bs7.length capp) := blk_cell hS7.pen.obj 0
                          have hinv := hS7.pen.inv
                          obtain ⟨N, hN⟩ : ∃ N, Hid (bs7.length = N) := ⟨_, rfl⟩
                          have hNl : N = (at' + L + 7) / 8 := by rw [← hN.out]; exact hinv.len
                          have hE : inflE (zb bs7) N 100 = .ok (at' + L, O) := by
                            have := hSay.out.all HGO.out (by rw [hL.out]; exact hps) ho7.out (by rw [hC.out, hL.out]; exact hn7.out) (n := N) (most := 100) (by rw [hL.out]; omega) (by omega)
                            rw [hL.out] at this
                            exact this
                          obtain ⟨sa, sc, e', LZ⟩ := hS7.pen.own.liesB hinv.byte (by rw [hN.out]; omega)
                          simp only [Value.slice.injEq, true_and] at e'
                          obtain ⟨rfl, rfl⟩ := e'
                          rw [hN.out] at dp LZ
                          have HNL : Hid (N = (at' + L + 7) / 8) := hNl
                          have HE : Hid (_) := hE
                          have HS7 : Hid (_) := hS7
                          have hB7 : Below w.heap.size w v7 := hO4.below.trans (hS7.below.mono hO4.below.size)
                          have hNs : N ≤ 4000 := by omega
                          clear hP7 hM7 ho7 hn7 hS7 hS' hSay hinv hNl hE
                          go_wp2_with fail
                          refine (inflate_any _ N capp (zb bs7) 100 100 (by rw [if_neg (by omega)]; rfl) (by omega) _ LZ (hT.below hB7 hT.pos)).mono ?_
                          intro e w8 h8
                          have b8 := h8.1
                          have B8 : Below w.heap.size w w8 := hB7.trans (b8.mono hB7.size)
                          obtain ⟨_, ra, rcp, rfl, L6⟩ := h8.yes HE.out (by omega)
                          rw [← HNL.out]
                          have cv := conv_string L6
                          rw [hST.out] at cv
                          have dp8 : w8.cell? ⟨w4.heap.size, 0, none⟩ = some (.slice ap N capp) := by
                            rw [World.cell?_of_block (a := ⟨w4.heap.size, 0, none⟩) (b8.block _ (blk_lt HS7.out.pen.obj))]; exact dp
                          clear h8 b8 L6 LZ dp
                          go_wp2
                          go_ret
                          exact ⟨rfl, B8⟩
      · have q1 : ¬ (i : Int) < (len2 : Int) := by have := HL.out; omega
        have h11' : ((us.length : Int) == 1) = false := by rw [beq_eq_false_iff_ne]; omega
        obtain ⟨U, hU⟩ : ∃ U, Hid (us.length = U) := ⟨_, rfl⟩
        have hU2 : 2 ≤ U := by rw [← hU.out]; omega
        have hU22 : U ≤ 22 := by rw [← hU.out]; omega
        have hlU : ls.length = U := by rw [← hU.out]; exact hlu.out
        rw [hU.out] at h11' ⊢
        rw [hlU]
        clear h2l hul hu0 hgo hlU h11
        go_wp2_with fail
        go_loopw [103] (fun sj wq => ∃ j : Nat, j ≤ U ∧ sj = .int .i64 (j : Nat) ∧ Ows w wq w.heap.size 257 gu cu gl cl (scat us ls j) us ls) (fun sj _ => U - (intOf sj).toNat)
        case atStart => exact ⟨0, by omega, rfl, hO⟩
        case round =>
          clear hO
          obtain ⟨j, hj, rfl, hO⟩ := hrel
          by_cases hjl : j < U
          · have hjl' : (j : Int) < ((U : Nat) : Int) := by omega
            have hju : j < us.length := by rw [hU.out]; exact hjl
            have hjL : j < ls.length := by rw [hlu.out]; exact hju
            have d1 := hO.u.cell hju
            have d2 := hO.l.cell hjL
            have hb := hUs.out.bd j hju
            obtain ⟨S, hS⟩ : ∃ S, Hid ((us.getD j 0).toNat = S) := ⟨_, rfl⟩
            have hSe : us.getD j 0 = ((S : Nat) : Int) := by rw [← hS.out]; omega
            rw [hSe] at d1 hb
            obtain ⟨x, hx⟩ : ∃ x, Hid (ls.getD j 0 = x) := ⟨_, rfl⟩
            rw [hx.out] at d2
            have hS257 : S < 257 := by omega
            have hfr := hO.z.free S
            have d3 := hO.z.cell (j := S) (by rw [scat_len]; exact hS257)
            have hl1 := hO.u.lc.1
            have hl2 := hO.l.lc.1
            rw [hU.out] at hl1
            rw [hlu.out, hU.out] at hl2
            have HO2 : Hid (Ows w (wr.setCell ⟨w.heap.size, S, none⟩ (.int .i64 x)) w.heap.size 257 gu cu gl cl (scat us ls (j + 1)) us ls) := by
              have := hO.setz S x
              rw [← hS.out, ← hx.out] at this ⊢
              exact this
            clear hO hju hjL hSe
            go_wp2
            exact ⟨⟨j + 1, by omega, by go_num, HO2.out⟩, by simp [intOf]; omega⟩
          · have HjU : Hid (j = U) := by show _ = _; omega
            have hjl' : ¬ (j : Int) < ((U : Nat) : Int) := by omega
            go_wp2_with fail
            have hgd := scat_good hUs.out hTr.out hlu.out (by rw [hU.out]; exact hU2) h256.out
            rw [hU.out] at hgd
            obtain ⟨zs, hzs⟩ : ∃ zs, Hid (scat us ls U = zs) := ⟨_, rfl⟩
            rw [HjU.out] at hO
            rw [hzs.out] at hgd hO
            clear hjl hj
            obtain ⟨hGO, hGL, hpos⟩ := hgd
            have hzl : zs.length = 257 := by rw [← hzs.out]; exact scat_len _ _ _
            have hIn := hO.z.intsO (by omega) hGO.h15
            rw [hzl] at hIn
            refine (rnew_any _ 257 257 _ _ hIn).mono ?_
            rintro e w3 ⟨b3, ⟨hbad, _⟩ | ⟨_, rc, gc, gl', capl, _, _, _, rfl, hRC⟩⟩
            · exact absurd hGL hbad
            have hO3 := hO.to b3
            have HGO : Hid (GoodO zs) := hGO
            have HP : Hid (∀ j, j < us.length → 0 < lenF zs (us.getD j 0).toNat) := hU.out ▸ hpos
            clear hIn hGL hGO hpos hO hTr hlu hzs hzl b3
            go_wp2_with fail
            refine (known_any _ (hT.below hO3.below hT.pos)).mono ?_
            rintro e w4 ⟨rfl, b4⟩
            have hO4 := hO3.to b4
            have hRC4 : RCode w4 rc gc gl' capl 257 (lenF zs) := hRC.below b4
            have hp0 := ps_new w4
            clear hO3 hRC b4
            go_wp2_with fail
            refine (penbits_any w4.heap.size w4.heap.size (.slice none 0 0) [] 0 5 3 (by omega) (by omega) (by omega) _ hp0.pen hp0.below.size).mono ?_
            rintro e v1 ⟨rfl, up1, bs1, hP1, hM1, ho1, hn1⟩
            have hS1 := hp0.pend hM1 hP1
            have hH1 : Hid (HeadT zs bs1 (0 + 3)) := HeadT.step (bs := []) (fun p hp => by omega) ho1.out hn1.out (tb0 zs)
            clear hP1 hM1 ho1 hn1 hp0
            go_wp2_with fail
            refine (penbits_any w4.heap.size w4.heap.size up1 bs1 (0 + 3) 0 5 (by omega) (by omega) (by omega) _ hS1.pen hS1.below.size).mono ?_
            rintro e v2 ⟨rfl, up2, bs2, hP2, hM2, ho2, hn2⟩
            have hS2 := hS1.pend hM2 hP2
            have hH2 : Hid (HeadT zs bs2 (0 + 3 + 5)) := hH1.out.step ho2.out hn2.out (fun k hk => tb1 zs (0 + 3) k (by omega) (by omega))
            clear hP2 hM2 ho2 hn2 hS1 hH1
            go_wp2_with fail
            refine (penbits_any w4.heap.size w4.heap.size up2 bs2 (0 + 3 + 5) 0 5 (by omega) (by omega) (by omega) _ hS2.pen hS2.below.size).mono ?_
            rintro e v3 ⟨rfl, up3, bs3, hP3, hM3, ho3, hn3⟩
            have hS3 := hS2.pend hM3 hP3
            have hH3 : Hid (HeadT zs bs3 (0 + 3 + 5 + 5)) := hH2.out.step ho3.out hn3.out (fun k hk => tb1 zs (0 + 3 + 5) k (by omega) (by omega))
            clear hP3 hM3 ho3 hn3 hS2 hH2
            go_wp2_with fail
            refine (penbits_any w4.heap.size w4.heap.size up3 bs3 (0 + 3 + 5 + 5) 15 4 (by omega) (by omega) (by omega) _ hS3.pen hS3.below.size).mono ?_
            rintro e v4 ⟨rfl, up4, bs4, hP4, hM4, ho4, hn4⟩
            have hS4 := hS3.pend hM4 hP4
            have hH4 : Hid (HeadT zs bs4 (0 + 3 + 5 + 5 + 4)) := hH3.out.step ho4.out hn4.out (tb3 zs)
            clear hP4 hM4 ho4 hn4 hS3 hH3
            go_wp2_with fail
            go_loopw [138] (fun sj wq => ∃ (k : Nat) (up : Value) (bs : List Int), k ≤ 19 ∧ sj = .int .i64 (k : Nat) ∧ PS w4 wq up bs (17 + 3 * k) ∧ Hid (HeadT zs bs (17 + 3 * k))) (fun sj _ => 19 - (intOf sj).toNat)
            case atStart => exact ⟨0, up4, bs4, by omega, rfl, hS4, hH4⟩
            case round =>
              clear hS4 hH4
              obtain ⟨k, up, bs, hk, rfl, hS, hH⟩ := hrel
              by_cases hk19 : k < 19
              · have hk' : (k : Int) < 19 := by omega
                have hix := ordV_index k hk19
                unfold ordV at hix
                have ho19 := ord_lt k hk19
                obtain ⟨o, hoe⟩ : ∃ o, Hid (ord k = o) := ⟨_, rfl⟩
                rw [hoe.out] at ho19
                simp only [hoe.out] at hix
                by_cases ho16 : o < 16
                · have ho16' : (o : Int) < 16 := by omega
                  have h4 : four k = 4 := four_lo (by rw [hoe.out]; exact ho16)
                  have H4 : Hid (four k = 4) := h4
                  clear h4
                  go_wp2_with fail
                  refine (penbits_any w4.heap.size w4.heap.size up bs (17 + 3 * k) 4 3 (by omega) (by omega) (by omega) _ hS.pen hS.below.size).mono ?_
                  rintro e v5 ⟨rfl, up5, bs5, hP5, hM5, ho5, hn5⟩
                  have hS5 := hS.pend hM5 hP5
                  have hH5 : Hid (HeadT zs bs5 (17 + 3 * k + 3)) := hH.out.step ho5.out hn5.out (fun j hj => by rw [← H4.out]; exact tb4 zs k j hk19 hj)
                  clear hP5 hM5 ho5 hn5 hS hH hix
                  go_wp2
                  exact ⟨⟨k + 1, up5, bs5, by omega, by go_num, hS5, hH5⟩, by simp [intOf]; omega⟩
                · have ho16' : ¬ (o : Int) < 16 := by omega
                  have h4 : four k = 0 := four_hi (by rw [hoe.out]; exact ho16)
                  have H4 : Hid (four k = 0) := h4
                  clear h4
                  go_wp2_with fail
                  refine (penbits_any w4.heap.size w4.heap.size up bs (17 + 3 * k) 0 3 (by omega) (by omega) (by omega) _ hS.pen hS.below.size).mono ?_
                  rintro e v5 ⟨rfl, up5, bs5, hP5, hM5, ho5, hn5⟩
                  have hS5 := hS.pend hM5 hP5
                  have hH5 : Hid (HeadT zs bs5 (17 + 3 * k + 3)) := hH.out.step ho5.out hn5.out (fun j hj => by rw [← H4.out]; exact tb4 zs k j hk19 hj)
                  clear hP5 hM5 ho5 hn5 hS hH hix
                  go_wp2
                  exact ⟨⟨k + 1, up5, bs5, by omega, by go_num, hS5, hH5⟩, by simp [intOf]; omega⟩
              · have Hk : Hid (k = 19) := by show _ = _; omega
                have hk' : ¬ (k : Int) < 19 := by omega
                go_wp2_with fail
                clear hk19 hk hk'
                go_loopw [150] (fun sj wq => ∃ (i : Nat) (up : Value) (bs : List Int), i ≤ 257 ∧ sj = .int .i64 (i : Nat) ∧ PS w4 wq up bs (74 + 4 * i) ∧ Hid (HeadT zs bs (74 + 4 * i))) (fun sj _ => 257 - (intOf sj).toNat)
                case atStart =>
                  have e := Hk.out
                  subst e
                  exact ⟨0, up, bs, by omega, rfl, hS, hH⟩
                case round =>
                  clear hS hH
                  obtain ⟨i, up, bs, hi, rfl, hS, hH⟩ := hrel
                  by_cases hi257 : i < 257
                  · have hi' : (i : Int) < 257 := by omega
                    have hzc := (hO4.z.below hS.below).cell (j := i) (by rw [HGO.out.len]; exact hi257)
                    have hzb : 0 ≤ zs.getD i 0 ∧ zs.getD i 0 ≤ 15 := by
                      have hi2 : i < zs.length := by rw [HGO.out.len]; exact hi257
                      rw [List.getD_eq_getElem?_getD, List.getElem?_eq_getElem hi2]
                      exact HGO.out.h15 _ (List.getElem_mem hi2)
                    obtain ⟨n, hn⟩ : ∃ n, Hid ((zs.getD i 0).toNat = n) := ⟨_, rfl⟩
                    have hne : zs.getD i 0 = ((n : Nat) : Int) := by rw [← hn.out]; omega
                    rw [hne] at hzc hzb
                    clear hne
                    go_wp2_with fail
                    refine (pencode_any w4.heap.size w4.heap.size up bs (74 + 4 * i) n 4 (by omega) (by omega) (by omega) _ hS.pen hS.below.size).mono ?_
                    rintro e v5 ⟨rfl, up5, bs5, hP5, hM5, ho5, hn5⟩
                    have hS5 := hS.pend hM5 hP5
                    have hH5 : Hid (HeadT zs bs5 (74 + 4 * i + 4)) := hH.out.step ho5.out hn5.out (fun j hj => by rw [← hn.out]; exact tb5 zs i j hi257 hj)
                    clear hP5 hM5 ho5 hn5 hS hH hzc
                    go_wp2
                    exact ⟨⟨i + 1, up5, bs5, by omega, by go_num, hS5, hH5⟩, by simp [intOf]; omega⟩
                  · have Hi : Hid (i = 257) := by show _ = _; omega
                    have hi' : ¬ (i : Int) < 257 := by omega
                    go_wp2_with fail
                    refine (pencode_any w4.heap.size w4.heap.size up bs (74 + 4 * i) 0 4 (by omega) (by omega) (by omega) _ hS.pen hS.below.size).mono ?_
                    rintro e v6 ⟨rfl, up6, bs6, hP6, hM6, ho6, hn6⟩
                    have hS6 : PS w4 v6 up6 bs6 1106 := by
                      have := hS.pend hM6 hP6
                      rwa [Hi.out] at this
                    have hSay : Hid (SaysO zs bs6 1106 []) := by
                      have e := Hi.out
                      subst e
                      exact HeadT.says (hH.out.step ho6.out hn6.out (tb6 zs)) HGO.out
                    clear hP6 hM6 ho6 hn6 hS hH hi257 hi hi'
                    go_wp2_with fail
                    go_loopw [23, 24] (fun st si wq => ∃ (i : Nat) (up : Value) (bs : List Int) (at' : Nat) (O : List Int), st = .string (bstr (zb O) O.length) ∧ si = .int .i64 (i : Nat) ∧ i ≤ 60 ∧ PS w4 wq up bs at' ∧ Hid (SaysO zs bs at' O) ∧ Hid (Byt O) ∧ O.length ≤ i ∧ at' ≤ 1106 + 15 * i) (fun _ si _ => 60 - (intOf si).toNat)
                    case atStart => exact ⟨0, up6, bs6, 1106, [], rfl, rfl, by omega, hS6, hSay, fun q => by simp, by simp, by omega⟩
                    case round =>
                      clear hS6 hSay
                      obtain ⟨i, up, bs, at', O, rfl, rfl, hi, hS, hSay, hBy, hOl, hat⟩ := hrel
                      obtain ⟨ST, hST⟩ : ∃ ST, Hid (bstr (zb O) O.length = ST) := ⟨_, rfl⟩
                      have hBw : Below w.heap.size w wr := hO4.below.trans (hS.below.mono hO4.below.size)
                      by_cases hgo : i < len ∧ i < 60
                      · obtain ⟨q1, q2⟩ := hgo
                        have q1' : (i : Int) < (len : Int) := by omega
                        have q2' : (i : Int) < 60 := by omega
                        obtain ⟨b, off, rfl, hb, hc⟩ := h1.spot (by omega)
                        have hci : wr.cell? ⟨b, off + i, none⟩ = some (.int .i64 (f i)) := by
                          rw [World.cell?_of_block (a := ⟨b, off + i, none⟩) (hBw.block b hb)]; exact hc i q1
                        rw [hST.out]
                        go_wp2_with fail
                        refine (pick_any (f i) U (by omega) (by omega) _).mono ?_
                        rintro e w' ⟨rfl, hw⟩
                        have hw2 := hw.symm
                        subst hw2
                        clear hw
                        have hK := pickv_lt (f i) U (by omega)
                        obtain ⟨K, hKe⟩ : ∃ K, Hid (pickv (f i) U = K) := ⟨_, rfl⟩
                        rw [hKe.out] at hK ⊢
                        have hKu : K < us.length := by rw [hU.out]; exact hK
                        have hcu := (hO4.u.below hS.below).cell hKu
                        have hub := hUs.out.bd K hKu
                        have hps := HP.out K hKu
                        obtain ⟨S, hSS⟩ : ∃ S, Hid ((us.getD K 0).toNat = S) := ⟨_, rfl⟩
                        have hSe : us.getD K 0 = ((S : Nat) : Int) := by rw [← hSS.out]; omega
                        rw [hSS.out] at hps
                        rw [hSe] at hcu hub
                        have hlu1 := hO4.u.lc.1
                        rw [hU.out] at hlu1
                        clear hSe hKu hci
                        by_cases hS256 : S = 256
                        · have hS6 : ((S : Int) == 256) = true := by rw [beq_iff_eq]; omega
                          clear hS256 hub hps hlu1
                          have hKU : (K : Int) < ((U : Nat) : Int) := by omega
                          go_wp2
                          exact ⟨⟨i + 1, up, bs, at', O, by rw [hST.out], by go_num, by omega, hS, hSay, hBy, by omega, by omega⟩, by simp [intOf]; omega⟩
                        · have hS6 : ((S : Int) == 256) = false := by rw [beq_eq_false_iff_ne]; omega
                          have hS255 : S < 256 := by omega
                          clear hS256 hub
                          have hKU : (K : Int) < ((U : Nat) : Int) := by omega
                          have hRr := hRC4.below hS.below
                          have e1 := hRr.cs
                          have e2 := hRr.ls
                          have e3 := hRr.c S (by omega)
                          have e4 := hRr.l S (by omega)
                          have hcp := hRr.lcap
                          have hL15 := hRr.each S (by omega)
                          have hCb := code_bits (show S < 257 by omega) hRr.each hRr.ok
                          obtain ⟨L, hL⟩ : ∃ L, Hid (lenF zs S = L) := ⟨_, rfl⟩
                          rw [hL.out] at e4 hL15 hCb hps
                          have hC2 : codev (lenF zs) 257 S < 32768 := Nat.lt_of_lt_of_le hCb (Nat.le_trans (Nat.pow_le_pow_right (by omega) hL15) (by omega))
                          obtain ⟨C, hC⟩ : ∃ C, Hid (codev (lenF zs) 257 S = C) := ⟨_, rfl⟩
                          rw [hC.out] at e3 hC2
                          clear hCb hRr
                          have hwin := Ext.inh wr
                          have d1 := fun k : Ext wr => Ext.cell e1 k
                          have d2 := fun k : Ext wr => Ext.cell e2 k
                          have d3 := fun k : Ext wr => Ext.cell e3 k
                          have d4 := fun k : Ext wr => Ext.cell e4 k
                          have HS : Hid (PS w4 wr up bs at') := hS
                          clear hS
                          go_wp2_with fail
                          refine region_ext_cone 15 (by kernel_rfl) (by kernel_rfl) ?_
                          simp only [List.take_succ_cons, List.take_zero, List.drop_succ_cons, List.drop_zero]
                          repeat (go_big_quiet_step (fail))
                          refine wpQuiet_nil ?_
                          rintro _ ⟨kk, rfl⟩
                          have hS' := HS.out.to kk.h
                          clear d1 d2 d3 d4 hwin e1 e2 e3 e4 HS hcu
                          go_wp2_with fail
                          refine (pencode_any w4.heap.size w4.heap.size up bs at' C L (by omega) (by omega) (by omega) _ hS'.pen hS'.below.size).mono ?_
                          rintro e v7 ⟨rfl, up7, bs7, hP7, hM7, ho7, hn7⟩
                          have hS7 := hS'.pend hM7 hP7
                          have hSay7 : Hid (SaysO zs bs7 (at' + L) (O ++ [(S : Int)])) := by
                            have := hSay.out.lit HGO.out hS255 (by rw [hL.out]; exact hps) ho7.out (by rw [hC.out, hL.out]; exact hn7.out)
                            rw [hL.out] at this
                            exact this
                          have cv := conv_one v7 S hS255
                          obtain ⟨S1, hS1⟩ : ∃ S1, Hid (bstr (zb [(S : Int)]) 1 = S1) := ⟨_, rfl⟩
                          rw [hS1.out] at cv
                          have hnb : ¬ 9223372036854775807 < ST.size + S1.size := by
                            rw [← hST.out, ← hS1.out]
                            simp only [bstr, ByteArray.size, List.size_toArray, List.length_map, List.length_range]
                            omega
                          have hS8 := hS7.to ((Below.refl _ v7).alloc (Nat.le_refl _) (.cells #[.int .u8 (S : Int)] 5))
                          have HS8 : Hid (_) := hS8
                          clear hP7 hM7 ho7 hn7 hS7 hS8 hS' hSay
                          go_wp2
                          refine ⟨⟨i + 1, up7, bs7, at' + L, O ++ [(S : Int)], ?_, by go_num, by omega, HS8.out, hSay7, byt_more hBy.out hS255, by simp; omega, by omega⟩, by simp [intOf]; omega⟩
                          rw [← hST.out, ← hS1.out, bstr_add]
                      · by_cases hl1 : i < len
                        all_goals
                          first
                            | (have q1 : (i : Int) < (len : Int) := by omega
                               have q2 : ¬ (i : Int) < 60 := by omega)
                            | (have q1 : ¬ (i : Int) < (len : Int) := by omega)
                          rw [hST.out]
                          have hRr := hRC4.below hS.below
                          have e1 := hRr.cs
                          have e2 := hRr.ls
                          have e3 := hRr.c 256 (by omega)
                          have e4 := hRr.l 256 (by omega)
                          have hcp := hRr.lcap
                          have hL15 := hRr.each 256 (by omega)
                          have hCb := code_bits (show 256 < 257 by omega) hRr.each hRr.ok
                          have hps : 0 < lenF zs 256 := by
                            have := HP.out 0 (by rw [hU.out]; omega)
                            rw [h256.out] at this
                            exact this
                          obtain ⟨L, hL⟩ : ∃ L, Hid (lenF zs 256 = L) := ⟨_, rfl⟩
                          rw [hL.out] at e4 hL15 hCb hps
                          have hC2 : codev (lenF zs) 257 256 < 32768 := Nat.lt_of_lt_of_le hCb (Nat.le_trans (Nat.pow_le_pow_right (by omega) hL15) (by omega))
                          obtain ⟨C, hC⟩ : ∃ C, Hid (codev (lenF zs) 257 256 = C) := ⟨_, rfl⟩
                          rw [hC.out] at e3 hC2
                          clear hCb hRr hgo hl1
                          have hwin := Ext.inh wr
                          have d1 := fun k : Ext wr => Ext.cell e1 k
                          have d2 := fun k : Ext wr => Ext.cell e2 k
                          have d3 := fun k : Ext wr => Ext.cell e3 k
                          have d4 := fun k : Ext wr => Ext.cell e4 k
                          have HS : Hid (PS w4 wr up bs at') := hS
                          clear hS
                          go_wp2_with fail
                          refine region_ext_cone 13 (by kernel_rfl) (by kernel_rfl) ?_
                          simp only [List.take_succ_cons, List.take_zero, List.drop_succ_cons, List.drop_zero]
                          repeat (go_big_quiet_step (fail))
                          refine wpQuiet_nil ?_
                          rintro _ ⟨kk, rfl⟩
                          have hS' := HS.out.to kk.h
                          clear d1 d2 d3 d4 hwin e1 e2 e3 e4 HS
                          go_wp2_with fail
                          refine (pencode_any w4.heap.size w4.heap.size up bs at' C L (by omega) (by omega) (by omega) _ hS'.pen hS'.below.size).mono ?_
                          rintro e v7 ⟨rfl, up7, bs7, hP7, hM7, ho7, hn7⟩
                          have hS7 := hS'.pend hM7 hP7
                          obtain ⟨ap, capp, rfl⟩ := hS7.pen.own.form
                          have dp : v7.cell? ⟨w4.heap.size, 0, none⟩ = some (.slice ap bs7.length capp) := blk_cell hS7.pen.obj 0
                          have hinv := hS7.pen.inv
                          obtain ⟨N, hN⟩ : ∃ N, Hid (bs7.length = N) := ⟨_, rfl⟩
                          have hNl : N = (at' + L + 7) / 8 := by rw [← hN.out]; exact hinv.len
                          have hE : inflE (zb bs7) N 100 = .ok (at' + L, O) := by
                            have := hSay.out.all HGO.out (by rw [hL.out]; exact hps) ho7.out (by rw [hC.out, hL.out]; exact hn7.out) (n := N) (most := 100) (by rw [hL.out]; omega) (by omega)
                            rw [hL.out] at this
                            exact this
                          obtain ⟨sa, sc, e', LZ⟩ := hS7.pen.own.liesB hinv.byte (by rw [hN.out]; omega)
                          simp only [Value.slice.injEq, true_and] at e'
                          obtain ⟨rfl, rfl⟩ := e'
                          rw [hN.out] at dp LZ
                          have HNL : Hid (N = (at' + L + 7) / 8) := hNl
                          have HE : Hid (_) := hE
                          have HS7 : Hid (_) := hS7
                          have hB7 : Below w.heap.size w v7 := hO4.below.trans (hS7.below.mono hO4.below.size)
                          have hNs : N ≤ 4000 := by omega
                          clear hP7 hM7 ho7 hn7 hS7 hS' hSay hinv hNl hE
                          go_wp2_with fail
                          refine (inflate_any _ N capp (zb bs7) 100 100 (by rw [if_neg (by omega)]; rfl) (by omega) _ LZ (hT.below hB7 hT.pos)).mono ?_
                          intro e w8 h8
                          have b8 := h8.1
                          have B8 : Below w.heap.size w w8 := hB7.trans (b8.mono hB7.size)
                          obtain ⟨_, ra, rcp, rfl, L6⟩ := h8.yes HE.out (by omega)
                          rw [← HNL.out]
                          have cv := conv_string L6
                          rw [hST.out] at cv
                          have dp8 : w8.cell? ⟨w4.heap.size, 0, none⟩ = some (.slice ap N capp) := by
                            rw [World.cell?_of_block (a := ⟨w4.heap.size, 0, none⟩) (b8.block _ (blk_lt HS7.out.pen.obj))]; exact dp
                          clear h8 b8 L6 LZ dp
                          go_wp2
                          go_ret
                          exact ⟨rfl, B8⟩
end Go.Proofs.YtkhfdjgnomkfgaaDoor
