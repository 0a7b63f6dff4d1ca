/-
  The reference's Open.
-/
import Derived.Test.YtahibacjaoohiaaDoorZop
namespace Go.Proofs.YtahibacjaoohiaaDoor
open Go.RowKit

theorem opn_no {z : Nat → Nat} {len most : Nat} (h2 : ¬ len < 2) (hv : hdv (z 0) (z 1) = false) : opnE z len most = .error 2 := by
  unfold opnE; rw [if_neg h2, if_pos hv]
theorem opn_err {z : Nat → Nat} {len most k : Nat} (h2 : ¬ len < 2) (hv : hdv (z 0) (z 1) = true) (hE : inflE (fun i => z (2 + i)) (len - 2) most = .error k) : opnE z len most = .error k := by
  unfold opnE; rw [if_neg h2, if_neg (by rw [hv]; simp), hE]
theorem opn_ok {z : Nat → Nat} {len most q : Nat} {o : List Int} (h2 : ¬ len < 2) (hv : hdv (z 0) (z 1) = true) (hE : inflE (fun i => z (2 + i)) (len - 2) most = .ok (q, o)) : opnE z len most = if clov (fun i => z (2 + ((q + 7) / 8 + i))) (len - 2 - (q + 7) / 8) (zb o) o.length = 0 then .ok o else .error (clov (fun i => z (2 + ((q + 7) / 8 + i))) (len - 2 - (q + 7) / 8) (zb o) o.length) := by
  unfold opnE; rw [if_neg h2, if_neg (by rw [hv]; simp), hE]
theorem and1u (x : Nat) (hx : x < 256) : bits .and .u8 ((x : Int) / 32) 1 = ((x / 32 % 2 : Nat) : Int) := by
  have h : ∀ x : Fin 256, bits .and .u8 (((x.val : Nat) : Int) / 32) 1 = ((x.val / 32 % 2 : Nat) : Int) := by decide +kernel
  exact h ⟨x, hx⟩
set_option maxRecDepth 100000 in
set_option maxHeartbeats 3200000 in
theorem ropen_any (a : Option Addr) (len cap : Nat) (z : Nat → Nat) (mo : Int) (most : Nat) (hm : (most : Int) = if mo < 0 then 0 else mo) (hsm : most ≤ 2000000) (w : World) (h : Lies w a len cap z) :
    Calls Tryd.prog 21 #[.slice a len cap, .int .i64 mo] w (TellsZ 10000000 (opnE z len most) w) := by
  have hr := h.reach
  have hlc := h.lc
  have HM : Hid ((most : Int) = if mo < 0 then 0 else mo) := hm
  clear hm
  by_cases h2 : len < 2
  · have h2' : (len : Int) < 2 := by omega
    have hv : Hid (opnE z len most = .error 3) := by show _ = _; unfold opnE; rw [if_pos h2]
    go_enter Tryd.func21, Tryd.ntmps21
    go_wp2
    go_ret2
    exact ⟨Below.refl _ _, .inl ⟨3, hv, by omega, rfl⟩⟩
  · have h2' : ¬ (len : Int) < 2 := by omega
    obtain ⟨b, off, rfl, hb, hc⟩ := h.spot (by omega)
    have c0 := hc 0 (by omega)
    have c1 := hc 1 (by omega)
    rw [Nat.add_zero] at c0
    have z0 := h.byte 0
    have z1 := h.byte 1
    have hby0 : Hid (∀ i, z i < 256) := h.byte
    obtain ⟨x0, hx0⟩ : ∃ x, Hid (z 0 = x) := ⟨_, rfl⟩
    obtain ⟨x1, hx1⟩ : ∃ x, Hid (z 1 = x) := ⟨_, rfl⟩
    rw [hx0.out] at c0 z0
    rw [hx1.out] at c1 z1
    have e1 := and1u x1 z1
    obtain ⟨M, hM⟩ : ∃ M, Hid (x0 % 16 = M) := ⟨_, rfl⟩
    obtain ⟨N, hN⟩ : ∃ M, Hid (x0 * 256 + x1 = M) := ⟨_, rfl⟩
    obtain ⟨D, hD⟩ : ∃ M, Hid (x1 / 32 % 2 = M) := ⟨_, rfl⟩
    obtain ⟨R, hR⟩ : ∃ M, Hid (N % 31 = M) := ⟨_, rfl⟩
    rw [hD.out] at e1
    have e2 : (x0 : Int) % 16 = (M : Nat) := by have := hM.out; omega
    have e3 : (x0 : Int) * 256 + x1 = (N : Nat) := by have := hN.out; omega
    have e4 : (N : Int) % 31 = (R : Nat) := by have := hR.out; omega
    obtain ⟨V, hV⟩ : ∃ V, Hid (hdv x0 x1 = V) := ⟨_, rfl⟩
    have HV : Hid (hdv (z 0) (z 1) = V) := by show _ = _; rw [hx0.out, hx1.out]; exact hV.out
    have hr5 : (V = true ∧ M = 8 ∧ x0 < 128 ∧ R = 0 ∧ D = 0) ∨ (V = false ∧ M ≠ 8) ∨ (V = false ∧ M = 8 ∧ ¬ x0 < 128) ∨ (V = false ∧ M = 8 ∧ x0 < 128 ∧ R ≠ 0) ∨ (V = false ∧ M = 8 ∧ x0 < 128 ∧ R = 0 ∧ D = 1) := by
      have h1 := hM.out
      have h2 := hN.out
      have h3 := hD.out
      have h4 := hR.out
      have h6 : decide (x0 % 16 = 8 ∧ x0 / 16 ≤ 7 ∧ (x0 * 256 + x1) % 31 = 0 ∧ x1 / 32 % 2 = 0) = V := hV.out
      cases V with
      | true =>
        obtain ⟨k1, k2, k3, k4⟩ := of_decide_eq_true h6
        exact .inl ⟨rfl, by omega, by omega, by rw [h2] at k3; omega, by omega⟩
      | false =>
        have h7 := of_decide_eq_false h6
        right
        by_cases c1 : M = 8
        · by_cases c2 : x0 < 128
          · by_cases c3 : R = 0
            · refine .inr (.inr (.inr ⟨rfl, c1, c2, c3, ?_⟩))
              by_cases c4 : D = 0
              · exact absurd ⟨by omega, by omega, by rw [h2]; omega, by omega⟩ h7
              · omega
            · exact .inr (.inr (.inl ⟨rfl, c1, c2, c3⟩))
          · exact .inr (.inl ⟨rfl, c1, c2⟩)
        · exact .inl ⟨rfl, c1⟩
    clear hc
    rcases hr5 with ⟨rfl, rfl, g2, rfl, rfl⟩ | ⟨rfl, g1⟩ | ⟨rfl, rfl, g2⟩ | ⟨rfl, rfl, g2, g3⟩ | ⟨rfl, rfl, g2, rfl, rfl⟩
    · replace e2 : (x0 : Int) % 16 = 8 := e2
      replace e4 : (N : Int) % 31 = 0 := e4
      replace e1 : bits .and .u8 ((x1 : Int) / 32) 1 = 0 := e1
      have f2 : decide ((128 : Int) ≤ x0) = false := decide_eq_false (by omega)
      clear g2
      go_enter Tryd.func21, Tryd.ntmps21
      go_wp2_with fail
      go_quiet (fail)
      have BN := below_drewN (Below.refl w.heap.size w) nq
      have hN := h.below BN (Nat.le_refl _)
      obtain ⟨W, hW⟩ : ∃ W, W = w.drewN nq := ⟨_, rfl⟩
      rw [← hW] at BN hN ⊢
      clear hW c0 c1
      have HV2 : Hid (hdv (z 0) (z 1) = true) := HV.out
      clear HV
      by_cases hc2 : cap = 2
      · obtain rfl : len = 2 := by omega
        subst hc2
        have hL0 : Lies W (some ⟨b, off, none⟩) 0 0 (fun i => z (2 + i)) := ⟨by omega, by omega, fun i => hby0.out _, fun h => by omega⟩
        go_wp2_with fail
        refine (rinflate_any _ 0 0 (fun i => z (2 + i)) mo most HM.out hsm _ hL0).mono ?_
        rintro e w1 ⟨b1, ⟨k, hE, hk, rfl⟩ | ⟨q, o, r, hE, rfl, hO, hby, hfit⟩⟩
        · have hk0 : ¬ (k : Int) = 0 := by omega
          have B1 := BN.trans (b1.mono BN.size)
          go_wp2
          go_ret2
          exact ⟨B1, .inl ⟨k, opn_err (by omega) HV2.out hE.out, hk, rfl⟩⟩
        · exact (ok_ne hE.out (inflE_nil _ _)).elim
      · have hL2 := lies_from hN (n := 2) (by omega)
        go_wp2_with fail
        refine (rinflate_any _ (len - 2) (cap - 2) (fun i => z (2 + i)) mo most HM.out hsm _ hL2).mono ?_
        rintro e w1 ⟨b1, ⟨k, hE, hk, rfl⟩ | ⟨q, o, r, hE, rfl, hO, hby, hfit⟩⟩
        · have hk0 : ¬ (k : Int) = 0 := by omega
          have B1 := BN.trans (b1.mono BN.size)
          go_wp2
          go_ret2
          exact ⟨B1, .inl ⟨k, opn_err h2 HV2.out hE.out, hk, rfl⟩⟩
        · have hul := inflE_le hE.out
          obtain ⟨u, hu⟩ : ∃ u, Hid ((q + 7) / 8 = u) := ⟨_, rfl⟩
          have B1 := BN.trans (b1.mono BN.size)
          have HV3 : Hid (opnE z len most = if clov (fun i => z (2 + (u + i))) (len - 2 - u) (zb o) o.length = 0 then .ok o else .error (clov (fun i => z (2 + (u + i))) (len - 2 - u) (zb o) o.length)) := by
            have := opn_ok h2 HV2.out hE.out
            simp only [hu.out] at this
            exact this
          simp only [hu.out] at hul ⊢
          obtain ⟨ra, rc, rfl, hLo⟩ := hO.liesB hby.out (by omega)
          have hL3 := hN.below b1 (Nat.le_refl _)
          have hul2 : 2 + u ≤ len := by omega
          have hL4 := lies_from hL3 hul2
          obtain ⟨U, hU⟩ : ∃ U : Nat, (2 : Int) + u = U := ⟨2 + u, by omega⟩
          obtain rfl : U = 2 + u := by omega
          obtain ⟨K, hK⟩ : ∃ K, Hid (2 + u = K) := ⟨_, rfl⟩
          rw [hK.out] at hU hul2 hL4
          have hul' : (K : Int) ≤ len := by omega
          have HV4 : Hid (opnE z len most = if clov (fun i => z (K + i)) (len - K) (zb o) o.length = 0 then .ok o else .error (clov (fun i => z (K + i)) (len - K) (zb o) o.length)) := by
            show _ = _; rw [HV3.out, ← hK.out]
            have e : (fun i => z (2 + (u + i))) = fun i => z (2 + u + i) := funext fun i => by rw [Nat.add_assoc]
            rw [e, Nat.sub_sub]
          have hK0 : 2 ≤ K := by have := hK.out; omega
          clear HV3 HV2 hE hL2 hL3 hul
          by_cases hcK : cap = K
          · have hLr : Lies w1 (some ⟨b, off, none⟩) (len - K) 0 (fun i => z (K + i)) := ⟨by omega, by omega, fun i => hby0.out _, fun h => by omega⟩
            clear hL4
            go_wp2_with fail
            refine (num_any _ (len - K) 0 (fun i => z (K + i)) _ hLr).mono ?_
            rintro e w2 ⟨rfl, rfl⟩
            obtain ⟨r, hrE⟩ : ∃ r, Hid (len - K = r) := ⟨_, rfl⟩
            rw [hrE.out] at HV4 hLr ⊢
            have hlen : Hid (len = K + r) := by have := hrE.out; show _ = _; omega
            rcases Nat.lt_trichotomy r 4 with hr4 | rfl | hr4
            · have hr4' : (r : Int) < 4 := by omega
              have hv : Hid (opnE z len most = .error 3) := by show _ = _; rw [HV4.out]; unfold clov; simp only [if_pos hr4]; rfl
              clear HV4 hrE
              go_wp2
              go_ret2
              exact ⟨B1, .inl ⟨3, hv, by omega, rfl⟩⟩
            · have hs := adv_lt (zb o) o.length
              rw [if_neg (by omega)]
              have HV5 : Hid (opnE z len most = if numbe (fun i => z (K + i)) 4 = adv (zb o) o.length then .ok o else .error 5) := by
                show _ = _; rw [HV4.out]; unfold clov
                simp only [Nat.lt_irrefl, if_false]
                split <;> rfl
              have hnl := numbe_lt (y := fun i => z (K + i)) (fun i => hby0.out _) 4 (by omega)
              obtain ⟨Y, hY⟩ : ∃ Y, Hid (numbe (fun i => z (K + i)) 4 = Y) := ⟨_, rfl⟩
              have RA := radler_any ra o.length rc (zb o) w2 hLo
              obtain ⟨S, hS⟩ : ∃ Y, Hid (adv (zb o) o.length = Y) := ⟨_, rfl⟩
              rw [hY.out] at HV5 hnl ⊢
              rw [hS.out] at HV5 hs RA
              clear HV4 hrE
              go_wp2_with fail
              refine RA.mono ?_
              rintro e w3 ⟨rfl, rfl⟩
              by_cases hq : Y = S
              · subst hq
                have hv : Hid (opnE z len most = .ok o) := HV5.out.trans (if_pos (by first | trivial | rfl))
                clear HV5
                go_wp2
                go_ret2
                exact ⟨B1, .inr ⟨o, _, hv, rfl, hO.mono' BN.size, hby, hfit⟩⟩
              · have hv : Hid (opnE z len most = .error 5) := HV5.out.trans (if_neg hq)
                have hq' : ((Y : Int) != S) = true := by rw [bne_iff_ne]; omega
                clear HV5
                go_wp2
                go_ret2
                exact ⟨B1, .inl ⟨5, hv, by omega, rfl⟩⟩
            · have hr4' : ¬ (r : Int) < 4 := by omega
              have hr5' : (4 : Int) < r := by omega
              have hv : Hid (opnE z len most = .error 2) := by show _ = _; rw [HV4.out]; unfold clov; simp only [if_neg (show ¬ r < 4 by omega), if_pos hr4]; rfl
              clear HV4 hrE
              go_wp2
              go_ret2
              exact ⟨B1, .inl ⟨2, hv, by omega, rfl⟩⟩
          · have hLr : Lies w1 (some ⟨b, off + K, none⟩) (len - K) (cap - K) (fun i => z (K + i)) := hL4
            clear hL4
            go_wp2_with fail
            refine (num_any _ (len - K) (cap - K) (fun i => z (K + i)) _ hLr).mono ?_
            rintro e w2 ⟨rfl, rfl⟩
            obtain ⟨r, hrE⟩ : ∃ r, Hid (len - K = r) := ⟨_, rfl⟩
            rw [hrE.out] at HV4 hLr ⊢
            have hlen : Hid (len = K + r) := by have := hrE.out; show _ = _; omega
            rcases Nat.lt_trichotomy r 4 with hr4 | rfl | hr4
            · have hr4' : (r : Int) < 4 := by omega
              have hv : Hid (opnE z len most = .error 3) := by show _ = _; rw [HV4.out]; unfold clov; simp only [if_pos hr4]; rfl
              clear HV4 hrE
              go_wp2
              go_ret2
              exact ⟨B1, .inl ⟨3, hv, by omega, rfl⟩⟩
            · have hs := adv_lt (zb o) o.length
              rw [if_neg (by omega)]
              have HV5 : Hid (opnE z len most = if numbe (fun i => z (K + i)) 4 = adv (zb o) o.length then .ok o else .error 5) := by
                show _ = _; rw [HV4.out]; unfold clov
                simp only [Nat.lt_irrefl, if_false]
                split <;> rfl
              have hnl := numbe_lt (y := fun i => z (K + i)) (fun i => hby0.out _) 4 (by omega)
              obtain ⟨Y, hY⟩ : ∃ Y, Hid (numbe (fun i => z (K + i)) 4 = Y) := ⟨_, rfl⟩
              have RA := radler_any ra o.length rc (zb o) w2 hLo
              obtain ⟨S, hS⟩ : ∃ Y, Hid (adv (zb o) o.length = Y) := ⟨_, rfl⟩
              rw [hY.out] at HV5 hnl ⊢
              rw [hS.out] at HV5 hs RA
              clear HV4 hrE
              go_wp2_with fail
              refine RA.mono ?_
              rintro e w3 ⟨rfl, rfl⟩
              by_cases hq : Y = S
              · subst hq
                have hv : Hid (opnE z len most = .ok o) := HV5.out.trans (if_pos (by first | trivial | rfl))
                clear HV5
                go_wp2
                go_ret2
                exact ⟨B1, .inr ⟨o, _, hv, rfl, hO.mono' BN.size, hby, hfit⟩⟩
              · have hv : Hid (opnE z len most = .error 5) := HV5.out.trans (if_neg hq)
                have hq' : ((Y : Int) != S) = true := by rw [bne_iff_ne]; omega
                clear HV5
                go_wp2
                go_ret2
                exact ⟨B1, .inl ⟨5, hv, by omega, rfl⟩⟩
            · have hr4' : ¬ (r : Int) < 4 := by omega
              have hr5' : (4 : Int) < r := by omega
              have hv : Hid (opnE z len most = .error 2) := by show _ = _; rw [HV4.out]; unfold clov; simp only [if_neg (show ¬ r < 4 by omega), if_pos hr4]; rfl
              clear HV4 hrE
              go_wp2
              go_ret2
              exact ⟨B1, .inl ⟨2, hv, by omega, rfl⟩⟩
    · have f1 : ((M : Int) != 8) = true := by rw [bne_iff_ne]; omega
      go_enter Tryd.func21, Tryd.ntmps21
      go_wp2_with fail
      go_quiet (fail)
      have BN := below_drewN (Below.refl w.heap.size w) nq
      have hN := h.below BN (Nat.le_refl _)
      obtain ⟨W, hW⟩ : ∃ W, W = w.drewN nq := ⟨_, rfl⟩
      rw [← hW] at BN hN ⊢
      clear hW c0 c1
      go_wp2
      go_ret2
      exact ⟨BN, .inl ⟨2, opn_no h2 HV.out, by omega, rfl⟩⟩
    · replace e2 : (x0 : Int) % 16 = 8 := e2
      have f2 : decide ((128 : Int) ≤ x0) = true := decide_eq_true (by omega)
      clear g2
      go_enter Tryd.func21, Tryd.ntmps21
      go_wp2_with fail
      go_quiet (fail)
      have BN := below_drewN (Below.refl w.heap.size w) nq
      have hN := h.below BN (Nat.le_refl _)
      obtain ⟨W, hW⟩ : ∃ W, W = w.drewN nq := ⟨_, rfl⟩
      rw [← hW] at BN hN ⊢
      clear hW c0 c1
      go_wp2
      go_ret2
      exact ⟨BN, .inl ⟨2, opn_no h2 HV.out, by omega, rfl⟩⟩
    · replace e2 : (x0 : Int) % 16 = 8 := e2
      have f2 : decide ((128 : Int) ≤ x0) = false := decide_eq_false (by omega)
      clear g2
      have f3 : ((R : Int) != 0) = true := by rw [bne_iff_ne]; omega
      go_enter Tryd.func21, Tryd.ntmps21
      go_wp2_with fail
      go_quiet (fail)
      have BN := below_drewN (Below.refl w.heap.size w) nq
      have hN := h.below BN (Nat.le_refl _)
      obtain ⟨W, hW⟩ : ∃ W, W = w.drewN nq := ⟨_, rfl⟩
      rw [← hW] at BN hN ⊢
      clear hW c0 c1
      go_wp2
      go_ret2
      exact ⟨BN, .inl ⟨2, opn_no h2 HV.out, by omega, rfl⟩⟩
    · replace e2 : (x0 : Int) % 16 = 8 := e2
      replace e4 : (N : Int) % 31 = 0 := e4
      replace e1 : bits .and .u8 ((x1 : Int) / 32) 1 = 1 := e1
      have f2 : decide ((128 : Int) ≤ x0) = false := decide_eq_false (by omega)
      clear g2
      go_enter Tryd.func21, Tryd.ntmps21
      go_wp2_with fail
      go_quiet (fail)
      have BN := below_drewN (Below.refl w.heap.size w) nq
      have hN := h.below BN (Nat.le_refl _)
      obtain ⟨W, hW⟩ : ∃ W, W = w.drewN nq := ⟨_, rfl⟩
      rw [← hW] at BN hN ⊢
      clear hW c0 c1
      go_wp2
      go_ret2
      exact ⟨BN, .inl ⟨2, opn_no h2 HV.out, by omega, rfl⟩⟩
end Go.Proofs.YtahibacjaoohiaaDoor
