/-
  The reference's ReadMetric as a contract.
-/
import Derived.Test.YtninhcnpjadjpaaRdo
namespace Go.Proofs.Ytninhcnpjadjpaa
open Go.RowKit

theorem RFz.lt {w : World} {p : Nat} {z : Nat → Nat} (h : RFz w p z) : p < w.heap.size := by
  obtain ⟨t, h1, _⟩ := h.of
  obtain ⟨a, c, a2, c2, hp, _⟩ := h1.blk
  exact blk_lt hp
set_option maxRecDepth 100000 in
set_option maxHeartbeats 1600000 in
theorem rread_any (p : Nat) (z : Nat → Nat) (w : World) (h : RFz w p z) :
    Calls Try.prog 16 #[.pointer (some ⟨p, 0, none⟩)] w fun e w' => Below w.heap.size w w' ∧ e = .returned (.tuple #[mv (rdM (look z hdT) (look z mxT)), .int .i64 (rdE (look z hdT) (look z mxT) : Nat)]) := by
  have bA : Below w.heap.size w (w.alloc (.cells #[.int .i64 0, .int .i64 0, .bool false] 45)) := (Below.refl _ _).alloc (Nat.le_refl _) _
  have g0 := blk_new w (.cells #[.int .i64 0, .int .i64 0, .bool false] 45)
  have h1 := h.below bA (Nat.le_refl _)
  have T := rtab_any p z hdT _ h1
  have T2 := fun W (hh : RFz W p z) => rtab_any p z mxT W hh
  obtain ⟨o, ho'⟩ : ∃ o, look z hdT = o := ⟨_, rfl⟩
  obtain ⟨q, hq'⟩ : ∃ o, look z mxT = o := ⟨_, rfl⟩
  rw [ho'] at T ⊢
  simp only [hq'] at T2 ⊢
  clear h ho' hq'
  go_enter Try.func16, Try.ntmps16
  go_wp2_with fail
  refine T.mono ?_
  rintro e w1 ⟨b1, hh⟩
  have F1 := h1.below b1 (Nat.le_refl _)
  have g1 := Below.blk b1 g0 (blk_lt g0)
  have B1 : Below w.heap.size w w1 := bA.trans (b1.mono bA.size)
  clear T bA g0 b1 h1
  rcases hh with ⟨ho, rfl⟩ | ⟨t, a, c, ho, rfl, hL⟩
  · have HE : Hid (hdE o = 6) := by show _ = _; rw [ho.out]; rfl
    have HR : Hid (rdE o q = 6) := by show _ = _; unfold rdE; rw [HE.out]; rfl
    have HX : Hid (rdM o q = zmt) := by show _ = _; unfold rdM; rw [HR.out]; rfl
    clear T2 F1
    go_wp2_with (refine store_mt size45 g1 rfl _ _ zmt (by rfl) (by rfl) (by rfl) (by rfl) ?_)
    refine bodyPost_ret (res_mt45 rfl _ _ _ _ _ _ rfl (setRow_heap _ _ _ _ _ _ g1)) rfl ?_
    exact ⟨below_row B1 (Nat.le_refl _) _, by rw [HX.out, HR.out]; rfl⟩
  · have hr := hL.reach
    by_cases hl : t.l < 54
    · have HA : Hid (atl o 54 = 3) := by show _ = _; rw [ho.out]; show (if t.l < 54 then 3 else 0) = 3; rw [if_pos hl]
      have HE : Hid (hdE o = 3) := by show _ = _; unfold hdE; rw [HA.out]; rfl
      have HR : Hid (rdE o q = 3) := by show _ = _; unfold rdE; rw [HE.out]; rfl
      have HX : Hid (rdM o q = zmt) := by show _ = _; unfold rdM; rw [HR.out]; rfl
      obtain ⟨tl, htl⟩ : ∃ n, t.l = n := ⟨_, rfl⟩
      rw [htl] at hl hr ⊢
      have hl' : (tl : Int) < 54 := by omega
      clear T2 F1 hL
      go_wp2_with (refine store_mt size45 g1 rfl _ _ zmt (by rfl) (by rfl) (by rfl) (by rfl) ?_)
      refine bodyPost_ret (res_mt45 rfl _ _ _ _ _ _ rfl (setRow_heap _ _ _ _ _ _ g1)) rfl ?_
      exact ⟨below_row B1 (Nat.le_refl _) _, by rw [HX.out, HR.out]; rfl⟩
    · have hA : Hid (atl o 54 = 0) := atl_ok ho.out (by omega)
      have hu : Hid (u16o o 18 = numv t.z 18 2) := by show _ = _; rw [ho.out]; rfl
      have hv : Hid (u16o o 50 = numv t.z 50 2) := by show _ = _; rw [ho.out]; rfl
      have hlt1 := u16_lt t.z hL.byte 18
      have hlt2 := u16_lt t.z hL.byte 50
      have N1 := rnum_yes a t.l c t.z 18 2 w1 hL (by omega) (by omega) (by omega)
      have N2 := rnum_yes a t.l c t.z 50 2 w1 hL (by omega) (by omega) (by omega)
      obtain ⟨u, hn1⟩ : ∃ n, Hid (numv t.z 18 2 = n) := ⟨_, rfl⟩
      obtain ⟨v, hn2⟩ : ∃ n, Hid (numv t.z 50 2 = n) := ⟨_, rfl⟩
      obtain ⟨tl, htl⟩ : ∃ n, t.l = n := ⟨_, rfl⟩
      rw [hn1.out] at N1 hlt1
      rw [hn2.out] at N2 hlt2
      rw [htl] at N1 N2 hl hr ⊢
      have hl' : ¬ (tl : Int) < 54 := by omega
      have HM : Hid (hdE o = if u < 16 ∨ 16384 < u ∨ 1 < v then 2 else 0) := by show _ = _; unfold hdE; rw [if_neg (by rw [hA.out]; omega), hu.out, hn1.out, hv.out, hn2.out]
      clear hL
      go_wp2_with fail
      refine N1.mono ?_
      rintro e w2 ⟨rfl, rfl⟩
      clear N1
      go_wp2_with fail
      refine N2.mono ?_
      rintro e w2 ⟨rfl, rfl⟩
      clear N2
      by_cases hbad : u < 16 ∨ 16384 < u ∨ 1 < v
      · have HE : Hid (hdE o = 2) := by show _ = _; rw [HM.out, if_pos hbad]
        have HR : Hid (rdE o q = 2) := by show _ = _; unfold rdE; rw [HE.out]; rfl
        have HX : Hid (rdM o q = zmt) := by show _ = _; unfold rdM; rw [HR.out]; rfl
        clear HM T2 F1
        by_cases h1 : u < 16
        · have h1' : (u : Int) < 16 := by omega
          clear hbad
          go_wp2_with (refine store_mt size45 g1 rfl _ _ zmt (by rfl) (by rfl) (by rfl) (by rfl) ?_)
          refine bodyPost_ret (res_mt45 rfl _ _ _ _ _ _ rfl (setRow_heap _ _ _ _ _ _ g1)) rfl ?_
          exact ⟨below_row B1 (Nat.le_refl _) _, by rw [HX.out, HR.out]; rfl⟩
        · have h1' : ¬ (u : Int) < 16 := by omega
          by_cases h2 : 16384 < u
          · have h2' : (16384 : Int) < u := by omega
            clear hbad
            go_wp2_with (refine store_mt size45 g1 rfl _ _ zmt (by rfl) (by rfl) (by rfl) (by rfl) ?_)
            refine bodyPost_ret (res_mt45 rfl _ _ _ _ _ _ rfl (setRow_heap _ _ _ _ _ _ g1)) rfl ?_
            exact ⟨below_row B1 (Nat.le_refl _) _, by rw [HX.out, HR.out]; rfl⟩
          · have h2' : ¬ (16384 : Int) < u := by omega
            have h3 : (1 : Int) < v := by omega
            clear hbad
            go_wp2_with (refine store_mt size45 g1 rfl _ _ zmt (by rfl) (by rfl) (by rfl) (by rfl) ?_)
            refine bodyPost_ret (res_mt45 rfl _ _ _ _ _ _ rfl (setRow_heap _ _ _ _ _ _ g1)) rfl ?_
            exact ⟨below_row B1 (Nat.le_refl _) _, by rw [HX.out, HR.out]; rfl⟩
      · have HE : Hid (hdE o = 0) := by show _ = _; rw [HM.out, if_neg hbad]
        have HR0 : Hid (rdE o q = mxE q) := by show _ = _; unfold rdE; rw [if_neg (by rw [HE.out]; omega)]
        have h1' : ¬ (u : Int) < 16 := by omega
        have h2' : ¬ (16384 : Int) < u := by omega
        have h3' : ¬ (1 : Int) < v := by omega
        have hv01 : v = 0 ∨ v = 1 := by omega
        clear hbad HM hlt1 hlt2
        go_wp2_with fail
        refine (T2 _ F1).mono ?_
        rintro e w3 ⟨b3, hh⟩
        have g3 := Below.blk b3 g1 (blk_lt g1)
        have B3 := B1.trans (b3.mono B1.size)
        clear T2 F1 b3 g1 B1
        rcases hh with ⟨ho2, rfl⟩ | ⟨t2, a2, c2, ho2, rfl, hL2⟩
        · have HQ : Hid (mxE q = 6) := by show _ = _; rw [ho2.out]; rfl
          have HR : Hid (rdE o q = 6) := by show _ = _; rw [HR0.out, HQ.out]
          have HX : Hid (rdM o q = zmt) := by show _ = _; unfold rdM; rw [HR.out]; rfl
          go_wp2_with (refine store_mt size45 g3 rfl _ _ zmt (by rfl) (by rfl) (by rfl) (by rfl) ?_)
          refine bodyPost_ret (res_mt45 rfl _ _ _ _ _ _ rfl (setRow_heap _ _ _ _ _ _ g3)) rfl ?_
          exact ⟨below_row B3 (Nat.le_refl _) _, by rw [HX.out, HR.out]; rfl⟩
        · have hr2 := hL2.reach
          by_cases hm : t2.l < 6
          · have HQA : Hid (atl q 6 = 3) := by show _ = _; rw [ho2.out]; show (if t2.l < 6 then 3 else 0) = 3; rw [if_pos hm]
            have HQ : Hid (mxE q = 3) := by show _ = _; unfold mxE; rw [HQA.out]; rfl
            have HR : Hid (rdE o q = 3) := by show _ = _; rw [HR0.out, HQ.out]
            have HX : Hid (rdM o q = zmt) := by show _ = _; unfold rdM; rw [HR.out]; rfl
            obtain ⟨ml, hml⟩ : ∃ n, t2.l = n := ⟨_, rfl⟩
            rw [hml] at hm hr2 ⊢
            have hm' : (ml : Int) < 6 := by omega
            clear hL2
            go_wp2_with (refine store_mt size45 g3 rfl _ _ zmt (by rfl) (by rfl) (by rfl) (by rfl) ?_)
            refine bodyPost_ret (res_mt45 rfl _ _ _ _ _ _ rfl (setRow_heap _ _ _ _ _ _ g3)) rfl ?_
            exact ⟨below_row B3 (Nat.le_refl _) _, by rw [HX.out, HR.out]; rfl⟩
          · have hQA : Hid (atl q 6 = 0) := atl_ok ho2.out (by omega)
            have hqn : Hid (u16o q 4 = numv t2.z 4 2) := by show _ = _; rw [ho2.out]; rfl
            have hlt3 := u16_lt t2.z hL2.byte 4
            have N3 := rnum_yes a2 t2.l c2 t2.z 4 2 w3 hL2 (by omega) (by omega) (by omega)
            obtain ⟨n, hn3⟩ : ∃ n, Hid (numv t2.z 4 2 = n) := ⟨_, rfl⟩
            obtain ⟨ml, hml⟩ : ∃ n, t2.l = n := ⟨_, rfl⟩
            rw [hn3.out] at N3 hlt3
            rw [hml] at N3 hm hr2 ⊢
            have hm' : ¬ (ml : Int) < 6 := by omega
            have HQ0 : Hid (mxE q = if n = 0 then 2 else 0) := by show _ = _; unfold mxE; rw [if_neg (by rw [hQA.out]; omega), hqn.out, hn3.out]
            clear hL2
            go_wp2_with fail
            refine N3.mono ?_
            rintro e w4 ⟨rfl, rfl⟩
            clear N3
            by_cases h0 : n = 0
            · subst h0
              have HR : Hid (rdE o q = 2) := by show _ = _; rw [HR0.out, HQ0.out]; rfl
              have HX : Hid (rdM o q = zmt) := by show _ = _; unfold rdM; rw [HR.out]; rfl
              go_wp2_with (refine store_mt size45 g3 rfl _ _ zmt (by rfl) (by rfl) (by rfl) (by rfl) ?_)
              refine bodyPost_ret (res_mt45 rfl _ _ _ _ _ _ rfl (setRow_heap _ _ _ _ _ _ g3)) rfl ?_
              exact ⟨below_row B3 (Nat.le_refl _) _, by rw [HX.out, HR.out]; rfl⟩
            · have h0' : ¬ (n : Int) = 0 := by omega
              have h1 : ((n : Int) == 0) = false := by rw [beq_eq_false_iff_ne]; omega
              have HR : Hid (rdE o q = 0) := by show _ = _; rw [HR0.out, HQ0.out, if_neg h0]
              rcases hv01 with rfl | rfl
              · have HX : Hid (rdM o q = ⟨u, n, false⟩) := by show _ = _; unfold rdM; rw [HR.out, if_pos rfl, hu.out, hn1.out, hv.out, hn2.out, hqn.out, hn3.out]; rfl
                clear h0
                go_wp2_with (refine store_mt size45 g3 rfl _ _ ⟨u, n, false⟩ (by rfl) (by rfl) (by rfl) (by rfl) ?_)
                refine bodyPost_ret (res_mt45 rfl _ _ _ _ _ _ rfl (setRow_heap _ _ _ _ _ _ g3)) rfl ?_
                exact ⟨below_row B3 (Nat.le_refl _) _, by rw [HX.out, HR.out]; rfl⟩
              · have HX : Hid (rdM o q = ⟨u, n, true⟩) := by show _ = _; unfold rdM; rw [HR.out, if_pos rfl, hu.out, hn1.out, hv.out, hn2.out, hqn.out, hn3.out]; rfl
                clear h0
                go_wp2_with (refine store_mt size45 g3 rfl _ _ ⟨u, n, true⟩ (by rfl) (by rfl) (by rfl) (by rfl) ?_)
                refine bodyPost_ret (res_mt45 rfl _ _ _ _ _ _ rfl (setRow_heap _ _ _ _ _ _ g3)) rfl ?_
                exact ⟨below_row B3 (Nat.le_refl _) _, by rw [HX.out, HR.out]; rfl⟩
end Go.Proofs.Ytninhcnpjadjpaa
