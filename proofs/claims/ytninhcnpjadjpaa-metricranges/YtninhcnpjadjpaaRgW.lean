/-
  MetricRanges' own walk.
-/
import Derived.Test.YtninhcnpjadjpaaKn
import Derived.Test.YtninhcnpjadjpaaGat
import Derived.Deep.CutRange
import Derived.BigQuiet
namespace Go.Proofs.Ytninhcnpjadjpaa
open Go.RowKit

theorem wrap_small {n : Nat} (h : n ≤ 100000) : IntKind.wrap .i64 (n : Int) = n := by
  simp [IntKind.wrap, IntKind.signed, IntKind.bits]; omega
theorem rval_ok (a b : Nat) : rval (a, b, 0) = .tuple #[.int .i64 (a : Nat), .int .i64 (b : Nat), .int .i64 0] := rfl
set_option maxRecDepth 100000 in
set_option maxHeartbeats 6400000 in
theorem ranges_walk (w : World) (x : Int) (b : Bool) (a1 : Option Addr) (n c1 : Nat) (L : Nat → Tab)
    (h1 : Tabs w a1 n c1 L) (hL : ∀ i, i < n → (L i).l ≤ 140737488351232) :
    Calls Try.prog 5 #[.int .i64 x, .bool b, .slice a1 n c1] w fun e w' => e = .returned (.bool true) ∧ Below w.heap.size w w' := by
  have hr1 := h1.reach
  have hlc := h1.lc
  have P := fun W => pick_big x 16369 (by omega) (by omega) W
  have hp := pickv_lt x 16369 (by omega)
  obtain ⟨r, hr⟩ : ∃ r, Hid (pickv x 16369 = r) := ⟨_, rfl⟩
  rw [hr.out] at hp
  simp only [hr.out] at P
  go_enter Try.func5, Try.ntmps5
  go_wp2_with fail
  go_loopw [7, 8] (fun v i wq => ∃ (k : Nat) (t : Nat → Tab), i = .int .i64 (k : Nat) ∧ k ≤ 12 ∧ Hid (Gath wq w.heap.size 0 k (.slice none 0 0) v (fun _ => hdT) t) ∧ Hid (∀ i, i < k → (t i).l ≤ 40) ∧ Below w.heap.size w wq) (fun _ i _ => 12 - (intOf i).toNat)
  case atStart => exact ⟨0, fun _ => ⟨none, 0, 0, fun _ => 0⟩, rfl, by omega, Gath.nil _ _ _ _, fun i hi => by omega, Below.refl _ _⟩
  case round =>
    obtain ⟨k, t, rfl, hk, hG, hl40, hB⟩ := hrel
    obtain ⟨_, _, av, cv, _, hv, _, hT0⟩ := hG.out.take (by omega) (by omega)
    subst hv
    by_cases hc : k < n ∧ k < 12
    · obtain ⟨q1, q2⟩ := hc
      have q1' : (k : Int) < n := by omega
      have q2' : (k : Int) < 12 := by omega
      obtain ⟨bb, off, rfl, hb, hcl⟩ := h1.spot (by omega)
      have d0 : wr.cell? ⟨bb, off + k, none⟩ = some (.slice (L k).a (L k).l (L k).c) := by
        rw [World.cell?_of_block (a := ⟨bb, off + k, none⟩) (hB.block bb hb), hcl k q1]
      have hLk := hL k q1
      have LK := h1.each k q1
      obtain ⟨kk, hkk⟩ : ∃ kk, kk = min (L k).l 40 := ⟨_, rfl⟩
      have hkb : kk ≤ 40 := by omega
      have FW := few_up (L k).a (L k).l (L k).c 40 kk (L k).z wr (LK.below hB (Nat.le_refl _)) (by omega) (by omega) hkk
      have hzb := LK.byte
      clear hkk LK hcl hT0
      go_wp2_with fail
      refine FW.mono ?_
      rintro e w4 ⟨g4, c4, rfl, O4, b4⟩
      have B4 := hB.trans (b4.mono hB.size)
      have F4 := own_lies5 O4 hzb (by omega)
      have G4 := (hG.out.below b4).below ((Below.refl _ _).alloc (Nat.le_refl _) (.cells #[.slice (some ⟨g4, 0, none⟩) kk c4] 29))
      have F5 := F4.same (Same5.of_below ((Below.refl _ _).alloc (Nat.le_refl _) (.cells #[.slice (some ⟨g4, 0, none⟩) kk c4] 29)))
      have HAP : Hid (_) := app_one E27 (w0 := w) (w := w4.alloc (.cells #[.slice (some ⟨g4, 0, none⟩) kk c4] 29)) G4.o2 (B4.alloc B4.size _) (by have := B4.size; simp; omega) (blk_new w4 (.cells #[.slice (some ⟨g4, 0, none⟩) kk c4] 29)) (news := [.slice (some ⟨g4, 0, none⟩) kk c4]) rfl (by intro u hu; simp at hu; rw [hu]; rfl) (by omega)
      have HG4 : Hid (Gath _ _ _ _ _ _ _ _) := G4
      have HF5 : Hid (Lies5 _ _) := F5
      clear G4 F5 F4 O4 FW
      go_wp2_with (at_builtin; refine wpList_app2 rfl (.tmp 30) (.tmp 36) 31 31 rfl rfl rfl HAP.out ?_; rintro g5 c5 w5 hR1; have HR5 : Hid (_) := hR1; clear hR1)
      refine ⟨⟨k + 1, _, by go_num, by omega, HG4.out.tab HF5.out (by show kk ≤ 100; omega) HR5.out.1 HR5.out.2.2.1 HR5.out.2.2.2, fun i hi => ?_, HR5.out.2.1⟩, by simp [intOf]; omega⟩
      by_cases e : i = k
      · subst e; rw [tabU_at]; exact hkb
      · rw [tabU_old t _ (by omega)]; exact hl40.out i (by omega)
    · have PL := fun W (hh : Tabs W av k cv t) => plain_any (16 + r) av k cv t b W hh hk hl40.out
      have q16 : ((16 + r : Nat) : Int) = 16 + (r : Int) := by omega
      simp only [q16] at PL
      have hle := fun j (hj : j ≤ k) => glen_le hl40.out hj
      go_upto_region 3 with fail
      go_cut [27] from 20 to 26 (fun v wx => v = .bool false ∧ wx = wr)
      case first =>
        rcases (show (¬ (k : Int) < n) ∨ ((k : Int) < n ∧ ¬ (k : Int) < 12) by omega) with c1' | ⟨c1', c2'⟩
        · clear hc
          go_wp2
          go_meet
          case rel => exact ⟨rfl, rfl⟩
        · clear hc
          go_wp2
          go_meet
          case rel => exact ⟨rfl, rfl⟩
      case rest =>
        obtain ⟨hv1, hw1⟩ := hcut
        subst hv1
        subst hw1
        have PL' := PL _ hT0
        have HGA : Hid (_) := hG
        clear PL hG hc
        go_wp2_with (go_at_call 15; refine (P _).mono ?_; rintro e w' ⟨rfl, rfl⟩)
        go_wp2_with fail
        refine PL'.mono ?_
        rintro e w5 ⟨g5, len, c5, z, rfl, hL5, b5, hP⟩
        have B5 := hB.trans (b5.mono hB.size)
        have hle5 := hP.le
        have O := opens_any _ len c5 z w5 hL5 (by omega)
        clear PL' hL5 P
        go_wp2_with fail
        refine O.mono ?_
        rintro e w6 ⟨b6, ⟨ho, _⟩ | ⟨_, p, q, rfl, hF, hR⟩⟩
        · exact (ho.out hP.ok).elim
        have B6 := B5.trans (b6.mono B5.size)
        have hG6 : Hid (Gath w6 w.heap.size 0 k (.slice none 0 0) (.slice av k cv) (fun _ => hdT) t) := (HGA.out.below b5).below b6
        have n34 := ptr_no34 p
        have R := read_any p len z w6 hF
        clear O hR b6 b5 B5 hT0 HGA hB
        by_cases hk0 : k = 0
        · subst hk0
          have hr3 : rdE (look z hdT) (look z mxT) = 2 := by
            have e1 : hdE (look z hdT) = 0 := by rw [hP.hdE (by omega), if_neg (by omega)]
            have e2 : mxE (look z mxT) = 2 := by rw [hP.mxE (by omega)]; rfl
            unfold rdE
            rw [e1, e2]; rfl
          have hr4 : rdM (look z hdT) (look z mxT) = zmt := by unfold rdM; rw [hr3]; rfl
          rw [hr3, hr4, show ((2 : Nat) : Int) = 2 from rfl] at R
          clear hP hr3 hr4
          go_wp2_with fail
          refine R.mono ?_
          rintro e w7 ⟨b7, rfl⟩
          have B7 := B6.trans (b7.mono B6.size)
          have K7 := blk_new w7 (.cells #[.int .i64 0, .int .i64 0, .bool false] 23)
          have B8 : Below w.heap.size w ((w7.alloc (.cells #[.int .i64 0, .int .i64 0, .bool false] 23)).setRow w7.heap.size (mcs zmt)) := below_row (B7.alloc B7.size _) B7.size _
          clear R b7 B6 B7
          go_wp2_with (refine store_mt size23 K7 rfl _ _ zmt (by rfl) (by rfl) (by rfl) (by rfl) ?_)
          refine (known_any _).mono ?_
          rintro e w9 ⟨rfl, b9⟩
          have B9 := B8.trans (b9.mono B8.size)
          clear b9 B8 K7
          go_wp2
          go_ret
          exact ⟨rfl, B9⟩
        · obtain ⟨u, hu⟩ : ∃ u : Nat, 16 + r = u := ⟨_, rfl⟩
          rw [hu] at hP
          have hr3 : rdE (look z hdT) (look z mxT) = 0 := by
            have e1 : hdE (look z hdT) = 0 := by rw [hP.hdE (by omega), if_neg (by omega)]
            have e2 : mxE (look z mxT) = 0 := by rw [hP.mxE (by omega), if_neg hk0]
            unfold rdE
            rw [e1, e2]; rfl
          have hr4 := hP.rdM (by omega) (by omega) hr3
          rw [hr3, hr4, show ((0 : Nat) : Int) = 0 from rfl] at R
          have hk0' : ¬ (k : Int) = 0 := by omega
          have hk0'' : ((k : Int) == 0) = false := by rw [beq_eq_false_iff_ne]; omega
          have hgy := hP.g
          have RG : Hid (∀ i, i < k → rngO (look z lcT) (look z gfT) b i = (glen t i, glen t (i + 1), 0)) := fun i hi => hP.rng hk hl40.out hi
          have TB := fun W (hh : FOk W p len z) => tab_any p len z gfT W hh.f hh.ok
          clear hr3 hr4 hP
          obtain ⟨y, hy1, hy2⟩ := hgy
          have HY1 : Hid (look z gfT = some ⟨glen t k, y⟩) := hy1
          have HY2 : Hid (∀ i, i < glen t k → y i = zb (glyB t k) i) := hy2
          have HV := fun i (hi : i < k) W (hh : FOk W p len z) => range_any p len z ⟨(u : Nat), (k : Nat), b⟩ (i : Nat) W hh (by simp only; omega)
          have hkeq : (16 : Int) + (r : Int) = u := by omega
          clear hy1 hy2
          go_wp2_with fail
          refine R.mono ?_
          rintro e w7 ⟨b7, rfl⟩
          have B7 := B6.trans (b7.mono B6.size)
          have F7 := hF.below b7 (Nat.le_refl _)
          have G7 := hG6.out.below b7
          obtain ⟨w8, hw8⟩ : ∃ x, x = (w7.alloc (.cells #[.int .i64 0, .int .i64 0, .bool false] 23)).setRow w7.heap.size (mcs ⟨(u : Nat), (k : Nat), b⟩) := ⟨_, rfl⟩
          have b8 : Below w7.heap.size w7 w8 := by rw [hw8]; exact below_row ((Below.refl _ _).alloc (Nat.le_refl _) _) (Nat.le_refl _) _
          have K7 := blk_new w7 (.cells #[.int .i64 0, .int .i64 0, .bool false] 23)
          have K8 : w8.heap[w7.heap.size]? = some (.cells (mcs ⟨(u : Nat), (k : Nat), b⟩) 23) := by rw [hw8]; exact setRow_heap _ _ _ _ _ _ K7
          have HW8 : Hid (w8 = _) := hw8
          have B8 := B7.trans (b8.mono B7.size)
          have F8 := F7.below b8 (Nat.le_refl _)
          have HG8 : Hid (Gath w8 w.heap.size 0 k (.slice none 0 0) (.slice av k cv) (fun _ => hdT) t) := G7.below b8
          clear hw8 b8 B7 F7 b7 R hG6 hF G7 B6
          go_wp2_with (refine store_mt' size23 HW8 K7 rfl _ _ (by rfl) (by rfl) (by rfl) (by rfl) ?_)
          refine (TB w8 F8).mono ?_
          rintro e w9 ⟨b9, ⟨ho, _⟩ | ⟨tt, ag, cg, ho, rfl, hLG⟩⟩
          · have := ho.out; rw [HY1.out] at this; cases this
          obtain rfl : (⟨glen t k, y⟩ : Tb) = tt := by have := ho.out; rw [HY1.out] at this; exact Option.some.inj this
          simp only at hLG ⊢
          have B9 := B8.trans (b9.mono B8.size)
          have F9 := F8.below b9 (Nat.le_refl _)
          have HG9 : Hid (Gath w9 w.heap.size 0 k (.slice none 0 0) (.slice av k cv) (fun _ => hdT) t) := HG8.out.below b9
          have K9 := Below.blk b9 K8 (blk_lt K8)
          clear TB K7 HW8 K8 b9 B8 F8 HG8 ho
          obtain ⟨gk, hgk⟩ : ∃ x, Hid (glen t k = x) := ⟨_, rfl⟩
          rw [hgk.out] at hLG ⊢
          go_wp2_with fail
          refine (known_any w9).mono ?_
          rintro e wa ⟨rfl, ba⟩
          have Ba := B9.trans (ba.mono B9.size)
          have Fa := F9.below ba (Nat.le_refl _)
          have HGa : Hid (Gath wa w.heap.size 0 k (.slice none 0 0) (.slice av k cv) (fun _ => hdT) t) := HG9.out.below ba
          have Ka := Below.blk ba K9 (blk_lt K9)
          have LGa := hLG.below ba (Nat.le_refl _)
          obtain ⟨d0, d1, d2⟩ := mt_cells Ka
          simp only at d0 d1 d2
          clear K9 ba B9 F9 HG9 hLG
          go_wp2_with fail
          obtain ⟨_, _, av', cv', _, hv', _, hTa⟩ := HGa.out.take (by omega) (by omega)
          simp only [Value.slice.injEq, true_and] at hv'
          obtain ⟨rfl, rfl⟩ := hv'
          obtain ⟨b2, off2, rfl, hb2, hc2⟩ := hTa.spot (by omega)
          have hgyb := LGa.byte
          go_loopw [15, 100] (fun lv iv wq => ∃ j : Nat, iv = .int .i64 (j : Nat) ∧ j ≤ k ∧ lv = .int .i64 (glen t j : Nat) ∧ Below wa.heap.size wa wq) (fun _ iv _ => k - (intOf iv).toNat)
          case atStart => exact ⟨0, rfl, by omega, rfl, Below.refl _ _⟩
          case round =>
            obtain ⟨j, rfl, hj, rfl, hBq⟩ := hrel
            by_cases hjk : j < k
            · have hjk' : (j : Int) < k := by omega
              have Fq := Fa.below hBq (Nat.le_refl _)
              have Kq := Below.blk hBq Ka (blk_lt Ka)
              have hv : rngv (look z lcT) (look z gfT) (k : Nat) b (j : Nat) = (glen t j, glen t (j + 1), 0) := by
                unfold rngv; rw [if_neg (by omega), Int.toNat_natCast]; exact RG.out j hjk
              have V := HV j hjk _ Fq
              simp only [hv] at V
              have hl := hl40.out j hjk
              have hgj := hle j hj
              have hgj1 := hle (j + 1) (by omega)
              have hmo := glen_mono t (n := k) (k := j + 1) (by omega)
              have HS : Hid (glen t (j + 1) = glen t j + (t j).l + (t j).l % 2) := rfl
              have TJ := hTa.each j hjk
              have HGB : Hid (∀ i, i < (t j).l → zb (glyB t k) (glen t j + i) = (t j).z i) := fun i hi => gly_at hjk hi
              have DD : ∀ W, Below wa.heap.size wa W → W.cell? ⟨b2, off2 + j, none⟩ = some (.slice (t j).a (t j).l (t j).c) := fun W hW => by
                rw [World.cell?_of_block (a := ⟨b2, off2 + j, none⟩) (hW.block b2 hb2), hc2 j hjk]
              clear hv Fq
              obtain ⟨A, hA⟩ : ∃ x, Hid (glen t j = x) := ⟨_, rfl⟩
              obtain ⟨Bn, hBn⟩ : ∃ x, Hid (glen t (j + 1) = x) := ⟨_, rfl⟩
              obtain ⟨l, hll⟩ : ∃ x, Hid ((t j).l = x) := ⟨_, rfl⟩
              rw [hA.out] at V HS hgj HGB ⊢
              rw [hBn.out] at V HS hgj1 hmo
              rw [hll.out] at HS hl HGB TJ
              simp only [hll.out] at DD
              rw [hgk.out] at hmo
              go_wp2_with (refine wpList_load_row (by rfl) 23 _ (by rfl) w7.heap.size (by rfl) 23 (mcs ⟨(u : Nat), (k : Nat), b⟩) _ _ Kq Try.underlying23 rfl (by rw [size23]; rfl) ?_)
              refine V.mono ?_
              rintro e wb ⟨bb, rfl⟩
              have Bb := hBq.trans (bb.mono hBq.size)
              rw [rval_ok]
              have LGb := LGa.below Bb (Nat.le_refl _)
              have TJb := TJ.below Bb (Nat.le_refl _)
              have hlc2 : l ≤ (t j).c := TJb.lc
              have hcg : gk ≤ cg := LGb.lc
              have dd := DD wb Bb
              obtain ⟨tc, htc⟩ : ∃ x, (t j).c = x := ⟨_, rfl⟩
              obtain ⟨ta, hta⟩ : ∃ x, (t j).a = x := ⟨_, rfl⟩
              obtain ⟨tz, htz⟩ : ∃ x, Hid ((t j).z = x) := ⟨_, rfl⟩
              rw [htc] at hlc2 TJb
              rw [htc, hta] at dd
              rw [hta, htz.out] at TJb
              rw [htz.out] at HGB
              have CV2 := fun q : Nat => conv_string (TJb.below (below_drewN (Below.refl _ _) q) (Nat.le_refl _))
              obtain ⟨Y, hY⟩ : ∃ Y, Hid (bstr tz l = Y) := ⟨_, rfl⟩
              simp only [hY.out] at CV2
              have hs := txt_yes (x := Y) rfl
              have hS := HS.out
              obtain ⟨D, hD⟩ : ∃ D : Nat, (Bn : Int) - A = D := ⟨Bn - A, by omega⟩
              obtain ⟨Z, hZ⟩ : ∃ Z : Nat, (A : Int) + l = Z := ⟨A + l, by omega⟩
              have i1 : ((A : Int) != A) = false := by simp
              have i2 : ¬ (Bn : Int) < A := by omega
              have i3 : ¬ (gk : Int) < Bn := by omega
              have i4 : ¬ (D : Int) < l := by omega
              have i5 : ¬ (l : Int) + 1 < D := by omega
              have i6 : (A : Int) ≤ Z := by omega
              have i7 : (Z : Int) ≤ cg := by omega
              have i8 : (0 : Int) ≤ A := by omega
              have i9 : (j : Int) < k := hjk'
              have j1 : decide ((Bn : Int) < A) = false := decide_eq_false i2
              have j2 : decide ((gk : Int) < Bn) = false := decide_eq_false i3
              have j3 : decide ((D : Int) < l) = false := decide_eq_false i4
              have j4 : decide ((l : Int) + 1 < D) = false := decide_eq_false i5
              have m1 : decide (Bn < A) = false := decide_eq_false (by omega)
              have m2 : decide (gk < Bn) = false := decide_eq_false (by omega)
              have m3 : decide (D < l) = false := decide_eq_false (by omega)
              have m4 : decide (l + 1 < D) = false := decide_eq_false (by omega)
              have hDb : D ≤ 41 := by omega
              have hZb : Z ≤ 100000 := by omega
              have hwD : IntKind.wrap .i64 (D : Int) = D := wrap_small (by omega)
              have hwZ : IntKind.wrap .i64 (Z : Int) = Z := wrap_small (by omega)
              obtain ⟨l1, hl1⟩ : ∃ x : Nat, (l : Int) + 1 = x := ⟨l + 1, by omega⟩
              have hwL : IntKind.wrap .i64 ((l : Int) + 1) = l1 := by rw [hl1]; exact wrap_small (by omega)
              have hwL2 : IntKind.wrap .i64 (l1 : Int) = l1 := wrap_small (by omega)
              have m5 : decide (l1 < D) = false := decide_eq_false (by omega)
              have HD : Hid (Below w.heap.size w wb) := Ba.trans (Bb.mono Ba.size)
              have HS1 : Hid (A + l ≤ gk) := by show _ ≤ _; omega
              clear hS
              clear V Kq LGa hc2 TJ DD htc hta bb hTa
              rcases Nat.eq_zero_or_pos gk with hg0 | hg0
              · have hl0 : l = 0 := by have := HS1.out; omega
                have hzl : Z - A = 0 := by omega
                have CV1 : ∀ (q : Nat) (a : Option Addr), (convert 29 9 (.slice a (Z - A) (cg - A))).run Try.prog (wb.drewN q) = .ok (.string Y) (wb.drewN q) := fun q a => by
                  rw [hzl, ← hY.out, hl0]
                  exact conv_string (z := tz) ⟨by omega, by omega, TJb.byte, fun h => by omega⟩
                have hs2 : (Y.toList != Y.toList) = false := by simp
                clear LGb hzl TJb hl0 hg0
                rcases ag with _ | ⟨bg, og, sp⟩
                · go_wp2_with fail
                  go_quiet (fail)
                  go_wp2
                  exact ⟨⟨j + 1, by go_num, by omega, by rw [hBn.out], below_drewN Bb _⟩, by simp [intOf]; omega⟩
                · go_wp2_with fail
                  go_quiet (fail)
                  go_wp2
                  exact ⟨⟨j + 1, by go_num, by omega, by rw [hBn.out], below_drewN Bb _⟩, by simp [intOf]; omega⟩
              · obtain ⟨bg, og, rfl, hbg, hcg2⟩ := LGb.spot hg0
                have LP := lies_part (p := A) (n := l) (c := cg - A) LGb HS1.out (by have := HS1.out; omega)
                have hb : bstr (fun i => y (A + i)) l = Y := by
                  rw [← hY.out]
                  refine bstr_congr fun i hi => ?_
                  rw [HY2.out _ (by rw [hgk.out]; have := HS1.out; omega), HGB.out i hi]
                have hzl : Z - A = l := by omega
                have CV1 : ∀ q : Nat, (convert 29 9 (.slice (if cg = A then some ⟨bg, og, none⟩ else some ⟨bg, og + A, none⟩) (Z - A) (cg - A))).run Try.prog (wb.drewN q) = .ok (.string Y) (wb.drewN q) := fun q => by
                  rw [hzl, ← hb]
                  by_cases e : cg = A
                  · rw [if_pos e]
                    have : l = 0 := by have := HS1.out; omega
                    subst this
                    exact conv_string ⟨by omega, by omega, LP.byte, fun h => by omega⟩
                  · rw [if_neg e]
                    exact conv_string (LP.below (below_drewN (Below.refl _ _) q) (Nat.le_refl _))
                have hs2 : (Y.toList != Y.toList) = false := by simp
                clear hb LP LGb hcg2 hzl TJb
                go_wp2_with fail
                go_quiet (fail)
                go_wp2
                exact ⟨⟨j + 1, by go_num, by omega, by rw [hBn.out], below_drewN Bb _⟩, by simp [intOf]; omega⟩
            · obtain rfl : j = k := by omega
              have hjk' : ¬ (j : Int) < j := by omega
              have Bf := Ba.trans (hBq.mono Ba.size)
              rw [hgk.out]
              go_wp2
              go_ret
              exact ⟨ret_bool (by simp), Bf⟩
end Go.Proofs.Ytninhcnpjadjpaa
