/-
  The reference's blocks with codes of their own.
-/
import Derived.Test.YtahibacjaoohiaaDoorRD
import Derived.Test.YtahibacjaoohiaaDoorRA
namespace Go.Proofs.YtahibacjaoohiaaDoor
open Go.RowKit

set_option maxRecDepth 100000 in
set_option maxHeartbeats 12800000 in
theorem rown_any (B s sb : Nat) (a : Option Addr) (len cap : Nat) (z : Nat → Nat) (mo : Int) (most : Nat) (hm : (most : Int) = if mo < 0 then 0 else mo) (hml : most ≤ 140737488355000) (v : Value) (p : Nat) (out : List Int) (w : World) (h : RFl w B s sb a len cap z mo 0 v p out) :
    Calls Tryd.prog 34 #[.pointer (some ⟨s, 0, none⟩)] w (RTells (ownCE z (8 * len) most p out) B s sb a len cap z mo v w) := by
  have HM : Hid ((most : Int) = if mo < 0 then 0 else mo) := hm
  have hmk : ∀ W : World, (Instr.makeSlice 24 (.int .i64 19) (.int .i64 19)).run Tryd.prog W = .ok (.slice (some ⟨W.heap.size, 0, none⟩) 19 19) (W.alloc (.cells (arr 19 fun _ => .int .i64 0) 3)) := make29 19 (by omega)
  clear hm
  go_enter Tryd.func34, Tryd.ntmps34
  go_wp2_with fail
  refine (rftake_any B s sb a len cap z mo 0 v p out 5 (by omega) _ h).mono ?_
  rintro e w1 ⟨A, p1, E1, rfl, h1, M1, k1⟩
  have lA : A < 32 := by
    rcases k1 with ⟨_, e, _, _⟩ | ⟨_, e, _, _⟩
    · rw [e]; exact takev_lt z p 5
    · omega
  go_wp2_with fail
  refine (rftake_any B s sb a len cap z mo E1 v p1 out 5 (by omega) _ h1).mono ?_
  rintro e w2 ⟨D, p2, E2, rfl, h2, M2, k2⟩
  have lD : D < 32 := by
    rcases k2 with ⟨_, e, _, _⟩ | ⟨_, e, _, _⟩
    · rw [e]; exact takev_lt z p1 5
    · omega
  have M2' := M1.trans M2
  clear M1 M2 h1
  go_wp2_with fail
  refine (rftake_any B s sb a len cap z mo E2 v p2 out 4 (by omega) _ h2).mono ?_
  rintro e w3 ⟨C, p3, E3, rfl, h3, M3, k3⟩
  have lC : C < 16 := by
    rcases k3 with ⟨_, e, _, _⟩ | ⟨_, e, _, _⟩
    · rw [e]; exact takev_lt z p2 4
    · omega
  have M3' := M2'.trans M3
  clear M3 M2' h2
  obtain ⟨H, hH⟩ : ∃ H : Nat, 257 + A = H := ⟨_, rfl⟩
  obtain ⟨Dn, hDn⟩ : ∃ Dn : Nat, 1 + D = Dn := ⟨_, rfl⟩
  obtain ⟨C4, hC4⟩ : ∃ C4 : Nat, 4 + C = C4 := ⟨_, rfl⟩
  have a5 : (257 : Int) + (A : Int) = (H : Nat) := by omega
  have a6 : (1 : Int) + (D : Int) = (Dn : Nat) := by omega
  have a7 : (4 : Int) + (C : Int) = (C4 : Nat) := by omega
  have l1 : 257 ≤ H := by omega
  have l2 : 1 ≤ Dn := by omega
  have l3 : 4 ≤ C4 := by omega
  have l4 : C4 ≤ 19 := by omega
  have l5 : H ≤ 288 := by omega
  have l6 : Dn ≤ 32 := by omega
  have c3 : w3.cell? ⟨s, 3, none⟩ = some (.int .i64 (E3 : Nat)) := blk_cell h3.obj 3
  have gz := blk_new w3 (.cells z19 94)
  by_cases hp : p + 14 ≤ 8 * len
  · obtain ⟨_, hA, rfl, rfl⟩ : p + 5 ≤ 8 * len ∧ A = takev z p 5 ∧ p1 = p + 5 ∧ E1 = 0 := by
      rcases k1 with hb | hb
      · exact hb
      · omega
    obtain ⟨_, hD, rfl, rfl⟩ : p + 5 + 5 ≤ 8 * len ∧ D = takev z (p + 5) 5 ∧ p2 = p + 5 + 5 ∧ E2 = 0 := by
      rcases k2 with hb | hb
      · exact hb
      · omega
    obtain ⟨_, hC, rfl, rfl⟩ : p + 5 + 5 + 4 ≤ 8 * len ∧ C = takev z (p + 5 + 5) 4 ∧ p3 = p + 5 + 5 + 4 ∧ E3 = 0 := by
      rcases k3 with hb | hb
      · exact hb
      · omega
    replace c3 : w3.cell? ⟨s, 3, none⟩ = some (.int .i64 0) := c3
    have HH : Hid (257 + takev z p 5 = H) := by show _ = _; rw [← hA]; exact hH
    have HD : Hid (1 + takev z (p + 5) 5 = Dn) := by show _ = _; rw [← hD]; exact hDn
    have HC : Hid (4 + takev z (p + 10) 4 = C4) := by show _ = _; rw [show p + 10 = p + 5 + 5 by omega, ← hC]; exact hC4
    have HP : Hid (p + 14 ≤ 8 * len) := hp
    rw [show p + 5 + 5 + 4 = p + 14 by omega] at h3
    clear k1 k2 k3 hA hD hC hH hDn hC4 hp
    by_cases hbig : 286 < H ∨ 30 < Dn
    · have HF : Hid (ownCE z (8 * len) most p out = .error 2) := own_big HP.out HH.out HD.out hbig
      by_cases hb1 : 286 < H
      · have hb1' : (286 : Int) < (H : Int) := by omega
        clear hbig
        go_wp2_with fail
        refine (fails_new B s sb a len cap z mo v (p + 14) out 2 _ h3).mono ?_
        rintro e w4 ⟨rfl, h4, M4⟩
        go_wp2
        go_ret
        exact ⟨v, _, _, 2, h4, M3'.trans M4, .inr ⟨HF, by omega, rfl⟩⟩
      · have hb1' : ¬ (286 : Int) < (H : Int) := by omega
        have hb2' : (30 : Int) < (Dn : Int) := by omega
        clear hbig
        go_wp2_with fail
        refine (fails_new B s sb a len cap z mo v (p + 14) out 2 _ h3).mono ?_
        rintro e w4 ⟨rfl, h4, M4⟩
        go_wp2
        go_ret
        exact ⟨v, _, _, 2, h4, M3'.trans M4, .inr ⟨HF, by omega, rfl⟩⟩
    · have HBg : Hid (¬ (286 < H ∨ 30 < Dn)) := hbig
      have l7 : H ≤ 286 := by omega
      have l8 : Dn ≤ 30 := by omega
      have hb1' : decide ((286 : Int) < (H : Int)) = false := decide_eq_false (by omega)
      have hb2' : decide ((30 : Int) < (Dn : Int)) = false := decide_eq_false (by omega)
      clear hbig
      go_wp2_with (refine store_at (new := ord19) gz (by rfl) (by rfl) (by rfl) (by rfl) (by exact size94) (by rfl) (by exact one19) (by exact put19) ?_; intro W2 g2 kk2 z2)
      clear gz hb1' hb2' a5 a6 a7
      have bz : Below w3.heap.size w3 (w3.alloc (.cells z19 94)) := (Below.refl _ _).alloc (Nat.le_refl _) _
      have hW2 : W2.heap.size = w3.heap.size + 1 := by rw [z2]; simp
      have S2 : RFl W2 B s sb a len cap z mo 0 v (p + 14) out := h3.new (h3.below bz) kk2 (Nat.le_refl _)
      have mW : Moves s sb v v w3 W2 := (Moves.of_below (s := s) (b := sb) (v := v) bz).new kk2 (Nat.le_refl _)
      have bW : Below W2.heap.size W2 (W2.alloc (.cells (arr 19 (shv z (p + 14) 0)) 3)) := (Below.refl _ _).alloc (Nat.le_refl _) _
      have S3 := S2.below bW
      have mX : Moves s sb v v w3 _ := mW.trans (Moves.of_below bW)
      have go3 := Below.blk bW g2 (blk_lt g2)
      have gl3 := blk_new W2 (.cells (arr 19 (shv z (p + 14) 0)) 3)
      have nm : ∀ k, w3.heap.size ≤ k → ¬ Mine s sb v k := fun k hk e => by have := h3.mine e; omega
      rw [shv_zero z (p + 14)]
      obtain ⟨W, hW⟩ : ∃ W, W = W2.alloc (.cells (arr 19 (shv z (p + 14) 0)) 3) := ⟨_, rfl⟩
      rw [← hW] at S3 mX go3 gl3 ⊢
      rw [hW2] at gl3
      obtain ⟨G, hG⟩ : ∃ G, Hid (w3.heap.size + 1 = G) := ⟨_, rfl⟩
      have hGn : w3.heap.size < G := by rw [← hG.out]; omega
      rw [hG.out] at gl3 ⊢
      clear hW bW S2 mW bz kk2 g2 hW2 z2 hmk c3 hG
      go_loopw [8] (fun j wq => ∃ k : Nat, k ≤ C4 ∧ j = .int .i64 k ∧ Moves s sb v v w3 wq ∧ wq.heap[w3.heap.size]? = some (.cells ord19 94) ∧ ((RFl wq B s sb a len cap z mo 0 v (p + 14 + 3 * k) out ∧ wq.heap[G]? = some (.cells (arr 19 (shv z (p + 14) k)) 3)) ∨ (∃ q, RFl wq B s sb a len cap z mo 3 v q out ∧ Hid (¬ p + 14 + 3 * C4 ≤ 8 * len)))) (fun j _ => C4 - (intOf j).toNat)
      case atStart => exact ⟨0, by omega, rfl, mX, go3, .inl ⟨S3, gl3⟩⟩
      case round =>
        clear S3 mX go3 gl3 W
        obtain ⟨k, hk, rfl, hMv, go1, ⟨hS, gl1⟩ | ⟨q, hS, hbad⟩⟩ := hrel
        · have c3 : wr.cell? ⟨s, 3, none⟩ = some (.int .i64 0) := blk_cell hS.obj 3
          by_cases hin : k < C4
          · have hin' : (k : Int) < (C4 : Int) := by omega
            have hk19 : k < 19 := by omega
            have o1 : wr.cell? ⟨w3.heap.size, k, none⟩ = some (.int .i64 ((ord k : Nat) : Int)) := by rw [blk_cell go1]; exact ord19_get k hk19
            have hok := ord_lt k hk19
            obtain ⟨ok, hoke⟩ : ∃ ok, Hid (ord k = ok) := ⟨_, rfl⟩
            rw [hoke.out] at o1 hok
            have hk19' : (k : Int) < 19 := by omega
            have hk0' : (0 : Int) ≤ (k : Int) := by omega
            have hok' : (ok : Int) < 19 := by omega
            have hok0 : (0 : Int) ≤ (ok : Int) := by omega
            have hne1 : ¬ w3.heap.size = G := by omega
            have hne2 : ¬ G = w3.heap.size := by omega
            have SD : RFl wr.drew B s sb a len cap z mo 0 v (p + 14 + 3 * k) out := hS.below (Below.refl _ _).drew
            have go1d : wr.drew.heap[w3.heap.size]? = some (.cells ord19 94) := go1
            have gl1d : wr.drew.heap[G]? = some (.cells (arr 19 (shv z (p + 14) k)) 3) := gl1
            have MD : Moves s sb v v w3 wr.drew := hMv.drew
            have hoff : ∀ W : World, W.heap[w3.heap.size]? = some (.cells ord19 94) → W.cell? ⟨w3.heap.size, k, none⟩ = some (.int .i64 ((ok : Nat) : Int)) := fun W hW => by rw [blk_cell hW, ord19_get k hk19, hoke.out]
            by_cases hq : p + 14 + 3 * k + 3 ≤ 8 * len
            · have HQ : Hid (p + 14 + 3 * k + 3 ≤ 8 * len) := hq
              have HSD : Hid (RFl wr.drew B s sb a len cap z mo 0 v (p + 14 + 3 * k) out) := SD
              clear SD hS hq
              go_wp2_with fail
              go_region_held3 (fun V => V.cell? ⟨w3.heap.size, k, none⟩ = some (.int .i64 (ok : Nat))) (go_keep)
                (first | (go_at_call 30; refine (rftake_y B s sb a len cap z mo v (p + 14 + 3 * k) out 3 (by omega) _ HSD.out HQ.out).mono ?_; rintro e w4 ⟨rfl, h4, M4⟩; have go4 := M4.blk go1d (nm _ (Nat.le_refl _)); have gl4 := M4.blk gl1d (nm _ (by omega)); have k0 := hoff w4 go4; have d1 : w4.cell? ⟨G, ok, none⟩ = some (.int .i64 (shL z (p + 14) k ok : Nat)) := arr_cell gl4 hok; have d2 := blk_free gl4 ok))
              all_goals
                have t3 : takev z (p + 14 + 3 * k) 3 < 8 := takev_lt z _ 3
                go_wp2
                obtain ⟨W3, hW3⟩ : ∃ W3, W3 = w4.setCell ⟨G, ok, none⟩ (.int .i64 (takev z (p + 14 + 3 * k) 3 : Nat)) := ⟨_, rfl⟩
                rw [← hW3]
                have kW : Kept (fun i => i = G) w4 W3 := by rw [hW3]; exact (Kept.refl _ _).set _ _
                refine ⟨⟨k + 1, by omega, by go_num, (MD.trans M4).new kW (by omega), kW.blk go4 (by omega), .inl ⟨h3.new h4 kW (by omega), ?_⟩⟩, by simp [intOf]; omega⟩
                rw [hW3, arr_blk_set gl4, ← hoke.out, shv_up z (p + 14) k rfl]
            · have HQ : Hid (¬ p + 14 + 3 * k + 3 ≤ 8 * len) := hq
              have HSD : Hid (RFl wr.drew B s sb a len cap z mo 0 v (p + 14 + 3 * k) out) := SD
              have HB : Hid (¬ p + 14 + 3 * C4 ≤ 8 * len) := by show ¬ _; omega
              clear SD hS hq
              go_wp2_with fail
              go_region_held3 (fun V => V.cell? ⟨w3.heap.size, k, none⟩ = some (.int .i64 (ok : Nat))) (go_keep)
                (first | (go_at_call 30; refine (rftake_n B s sb a len cap z mo v (p + 14 + 3 * k) out 3 (by omega) _ HSD.out HQ.out).mono ?_; rintro e w4 ⟨rfl, h4, M4⟩; have go4 := M4.blk go1d (nm _ (Nat.le_refl _)); have gl4 := M4.blk gl1d (nm _ (by omega)); have k0 := hoff w4 go4; have d1 : w4.cell? ⟨G, ok, none⟩ = some (.int .i64 (shL z (p + 14) k ok : Nat)) := arr_cell gl4 hok; have d2 := blk_free gl4 ok))
              all_goals
                go_wp2
                obtain ⟨W3, hW3⟩ : ∃ W3, W3 = w4.setCell ⟨G, ok, none⟩ (.int .i64 0) := ⟨_, rfl⟩
                rw [← hW3]
                have kW : Kept (fun i => i = G) w4 W3 := by rw [hW3]; exact (Kept.refl _ _).set _ _
                exact ⟨⟨k + 1, by omega, by go_num, (MD.trans M4).new kW (by omega), kW.blk go4 (by omega), .inr ⟨_, h3.new h4 kW (by omega), HB⟩⟩, by simp [intOf]; omega⟩
          · have hin' : ¬ (k : Int) < (C4 : Int) := by omega
            have I1 : Ints wr (some ⟨G, 0, none⟩) 19 19 (fun i => (shL z (p + 14) k i : Nat)) := ints_new (by omega) (fun i => by have := shL_le z (p + 14) k i; omega) gl1
            have ek : k = C4 := by omega
            have hlim := hS.bits.lim
            have HL : Hid (p + 14 + 3 * C4 ≤ 8 * len) := by show _ ≤ _; rw [← ek]; exact hlim
            rw [ek] at I1 hS
            have M4 := M3'.trans hMv
            go_wp2_with fail
            clear hin hin' ek hk hlim
            refine (rnew_any _ 19 19 _ _ I1).mono ?_
            rintro e w5 ⟨b5, ⟨hbad, rfl⟩ | ⟨hgood, rc, gc, gl, capl, r1, r2, r3, rfl, hC5⟩⟩
            · have S5 := hS.below b5
              have HF : Hid (ownCE z (8 * len) most p out = .error 2) := own_lens_bad HP.out HH.out HD.out HC.out HBg.out HL.out (fun e => hbad ((shL_good z (p + 14) C4).2 e))
              clear hbad
              go_wp2_with fail
              refine (fails_new B s sb a len cap z mo v (p + 14 + 3 * C4) out 2 _ S5).mono ?_
              rintro e w6 ⟨rfl, h6, M6⟩
              go_wp2
              go_ret
              exact ⟨v, _, _, 2, h6, (M4.trans (Moves.of_below b5)).trans M6, .inr ⟨HF, by omega, rfl⟩⟩
            · obtain ⟨N, hN⟩ : ∃ N : Nat, Hid (H + Dn = N) := ⟨_, rfl⟩
              have HF : Hid (ownCE z (8 * len) most p out = ownF H Dn z (8 * len) most out (lensE (shL z (p + 14) C4) N z (8 * len) (p + 14 + 3 * C4, []))) := own_lens_ok HP.out HH.out HD.out HC.out hN.out HBg.out HL.out ((shL_good z (p + 14) C4).1 hgood)
              have hNi : (H : Int) + (Dn : Int) = (N : Nat) := by rw [← hN.out]; omega
              have lN : N ≤ 316 := by rw [← hN.out]; omega
              have lN2 : 258 ≤ N := by rw [← hN.out]; omega
              have S5 := hS.below b5
              have M5 := M4.trans (Moves.of_below (s := s) (b := sb) (v := v) b5)
              have nm5 : ∀ k, wr.heap.size ≤ k → ¬ Mine s sb v k := fun k hk e => by have := hS.mine e; omega
              rw [shL_toNat] at hC5
              have A5 : RAl w5 s sb v rc gc gl capl 19 (shL z (p + 14) C4) := ⟨hC5, nm5 _ r1, nm5 _ r2, nm5 _ r3⟩
              have O5 : OwnV w5 w5.heap.size 3 .i64 (.slice none 0 0) [] := ⟨rfl, .inl ⟨rfl, rfl⟩⟩
              clear hgood hC5 nm5 I1 hS gl1 go1 hMv M4 b5 c3 r1 r2 r3 HH HD HC HBg HL HP
              obtain ⟨Af, hAf⟩ : ∃ Af, Hid (shL z (p + 14) C4 = Af) := ⟨_, rfl⟩
              rw [hAf.out] at A5 HF
              obtain ⟨P0, hP0⟩ : ∃ P0, Hid (p + 14 + 3 * C4 = P0) := ⟨_, rfl⟩
              rw [hP0.out] at HF S5
              go_wp2_with fail
              obtain ⟨wz, hwz⟩ : ∃ wz, wz = wr := ⟨_, rfl⟩
              subst hwz
              go_loopw [11] (fun u wq => ∃ (p1 : Nat) (acc : List Int), RFl wq B s sb a len cap z mo 0 v p1 out ∧ Moves s sb v v w5 wq ∧ OwnV wq w5.heap.size 3 .i64 u acc ∧ Hid (∀ y ∈ acc, 0 ≤ y ∧ y ≤ 15) ∧ acc.length ≤ N ∧ Hid (lensE Af N z (8 * len) (p1, acc) = lensE Af N z (8 * len) (P0, []))) (fun _ wq => 8 * len - pOf sb wq)
              case atStart => exact ⟨P0, [], S5, Moves.refl _ _ _ _, O5, fun y hy => by simp at hy, by simp, rfl⟩
              case round =>
                obtain ⟨p1, acc, hS, hM, hO, h15, hlc, hls⟩ := hrel
                have HPo : Hid (pOf sb wr = p1) := hS.pOf
                obtain ⟨ax, capx, rfl⟩ := hO.form
                by_cases hlt : acc.length < N
                · have hlt' : (acc.length : Int) < (N : Int) := by omega
                  have A1 := A5.moves hM
                  go_wp2_with fail
                  refine (rsym_al B s sb a len cap z mo v p1 out rc gc gl capl 19 Af _ hS A1).mono ?_
                  rintro e w6 ⟨q, E6, t6, hS6, hM6, rfl, hcase⟩
                  have c6 : w6.cell? ⟨s, 3, none⟩ = some (.int .i64 (E6 : Nat)) := blk_cell hS6.obj 3
                  have O6 := hO.rmoves S5 hM6
                  have M6 := hM.trans hM6
                  clear hS hM hO hM6 A1
                  rcases hcase with ⟨rfl, n, rfl, hE⟩ | ⟨rfl, hpos, hE⟩
                  · replace c6 : w6.cell? ⟨s, 3, none⟩ = some (.int .i64 0) := c6
                    have hok := symE_ok hE.out
                    have hn19 : n < 19 := hok.2.2
                    have HQ : Hid (p1 < q ∧ q ≤ 8 * len) := ⟨hok.1, hok.2.1⟩
                    clear hok
                    by_cases h16 : n < 16
                    · have h16' : (n : Int) < 16 := by omega
                      have hrun : Hid (runE z (8 * len) q n acc = .ok ((n : Int), 1, q)) := by show _ = _; unfold runE; rw [if_pos h16]
                      obtain ⟨WA, hWA⟩ : ∃ WA, Hid (WA = w6.alloc (.cells #[.int .i64 (n : Nat)] 3)) := ⟨_, rfl⟩
                      have O7 : OwnV WA w5.heap.size 3 .i64 (.slice ax acc.length capx) acc := by rw [hWA.out]; exact O6.alloc _
                      have HB7 : WA.heap[w6.heap.size]? = some (.cells #[.int .i64 (n : Nat)] 3) := by rw [hWA.out]; exact blk_new w6 _
                      have bA : Below w6.heap.size w6 WA := by rw [hWA.out]; exact (Below.refl _ _).alloc (Nat.le_refl _) _
                      have hsz : w5.heap.size ≤ WA.heap.size := Nat.le_trans M6.kept.size bA.size
                      have happ := O7.oneI hsz HB7 (by omega)
                      have S7 := hS6.below bA
                      have M7 := M6.trans (Moves.of_below (s := s) (b := sb) (v := v) bA)
                      rw [hWA.out] at happ O7 S7 M7
                      have HAP : Hid (_) := happ
                      have HO7 : Hid (_) := O7
                      have HS7 : Hid (_) := S7
                      clear happ HB7 O7 bA hsz S7 hS6 O6 M6
                      go_wp2_with (at_builtin; refine wpList_append_ex rfl (.tmp 93) (.tmp 95) 24 rfl rfl rfl HAP.out ?_; rintro g' cap' w7 hR; have HR : Hid (_) := hR; clear hR)
                      obtain ⟨r1, r2, r3⟩ := HR.out
                      obtain ⟨S8, M8⟩ := S5.row HS7.out M7 HO7.out (RowM.grown (n := acc.length + 1) (cap := cap') r2 r3)
                      refine ⟨⟨q, acc ++ [((n : Nat) : Int)], S8, M8, own_v r1 (by simp), ?_, by simp; omega, ?_⟩, ?_⟩
                      · exact h15_app (t := 1) h15.out ⟨by omega, by omega⟩
                      · show _ = _
                        rw [← hls.out]
                        exact (lens_more (t := 1) h15.out hlt hE.out hrun.out (by omega)).symm
                      · rw [S8.pOf, HPo.out]; have := HQ.out; omega
                    · have h16' : ¬ (n : Int) < 16 := by omega
                      by_cases e16 : n = 16
                      · subst e16
                        by_cases h0 : acc.length = 0
                        · have e0 : acc = [] := List.length_eq_zero_iff.1 h0
                          subst e0
                          have HX : Hid (lensE Af N z (8 * len) (P0, []) = .error 2) := by show _ = _; rw [← hls.out]; exact lens_run hlt hE.out (by unfold runE; rw [if_neg (by omega), if_pos rfl, if_pos h0])
                          clear h0
                          go_wp2_with fail
                          refine (fails_new B s sb a len cap z mo v q out 2 _ hS6).mono ?_
                          rintro e w7 ⟨rfl, h7, M7⟩
                          go_wp2
                          go_ret
                          exact ⟨v, _, _, 2, h7, (M5.trans M6).trans M7, .inr ⟨by show _ = _; rw [HF.out, HX.out]; rfl, by omega, rfl⟩⟩
                        · have h0' : ¬ (acc.length : Int) = 0 := by omega
                          obtain ⟨g1, cap1, hsl, hO1⟩ := O6.own (by omega)
                          injection hsl with hax _ hcx
                          subst hax
                          subst hcx
                          have hc := hO1.cell (j := acc.length - 1) (by omega)
                          have hlc1 := hO1.lc.1
                          have hcm := hO1.lc.2
                          unfold maxLen at hcm
                          have hX : (acc.length : Int) - 1 = ((acc.length - 1 : Nat) : Int) := by omega
                          have hXl : acc.length - 1 < acc.length := by omega
                          obtain ⟨X, hXe⟩ : ∃ X, Hid (acc.length - 1 = X) := ⟨_, rfl⟩
                          obtain ⟨l, hle⟩ : ∃ l, Hid (acc.getD (acc.length - 1) 0 = l) := ⟨_, rfl⟩
                          rw [hle.out] at hc
                          rw [hXe.out] at hX hXl hc
                          have HRun : ∀ hp : q + 2 ≤ 8 * len, runE z (8 * len) q 16 acc = .ok (l, 3 + takev z q 2, q + 2) := fun hp => by unfold runE; rw [if_neg (by omega), if_pos rfl, if_neg h0, if_pos hp, hle.out]
                          have HRunN : ∀ hp : ¬ q + 2 ≤ 8 * len, runE z (8 * len) q 16 acc = .error 3 := fun hp => by unfold runE; rw [if_neg (by omega), if_pos rfl, if_neg h0, if_neg hp]
                          have HHR : Hid (_) := HRun
                          have HHN : Hid (_) := HRunN
                          clear HRun HRunN hO1
                          as_aux_lemma =>
                            by_cases hq : q + 2 ≤ 8 * len
                            · have HQ2 : Hid (q + 2 ≤ 8 * len) := hq
                              clear hq
                              go_wp2_with fail
                              refine (rftake_y B s sb a len cap z mo v q out 2 (by omega) _ hS6 HQ2.out).mono ?_
                              rintro e w7 ⟨rfl, h7, M7⟩
                              have t1 : takev z q 2 < 4 := takev_lt z q 2
                              have HR0 := HHR.out HQ2.out
                              have c7 : w7.cell? ⟨s, 3, none⟩ = some (.int .i64 0) := blk_cell h7.obj 3
                              have O7 := O6.rmoves S5 M7
                              have M7' := M6.trans M7
                              obtain ⟨T, hT⟩ : ∃ T, Hid (3 + takev z q 2 = T) := ⟨_, rfl⟩
                              have hTi : (3 : Int) + ((takev z q 2 : Nat) : Int) = (T : Nat) := by rw [← hT.out]; omega
                              have lT : T ≤ 200 := by rw [← hT.out]; omega
                              rw [hT.out] at HR0
                              have HRn : Hid (runE z (8 * len) q 16 acc = .ok (l, T, q + 2)) := HR0
                              have HL15 : Hid ((0 : Int) ≤ l ∧ (l : Int) ≤ 15) := by
                                have := runE_ok HR0 HQ.out.2 h15.out
                                exact ⟨this.2.2.1, this.2.2.2.1⟩
                              clear HR0 HHR HHN hS6 O6 M6 M7 c6
                              by_cases hbg : N < acc.length + T
                              · have hbg' : (N : Int) < (acc.length : Int) + (T : Int) := by omega
                                have HX : Hid (lensE Af N z (8 * len) (P0, []) = .error 2) := by show _ = _; rw [← hls.out]; exact lens_big hlt hE.out HRn.out hbg
                                go_wp2_with fail
                                refine (fails_new B s sb a len cap z mo v (q + 2) out 2 _ h7).mono ?_
                                rintro e w8 ⟨rfl, h8, M8⟩
                                go_wp2
                                go_ret
                                exact ⟨v, _, _, 2, h8, (M5.trans M7').trans M8, .inr ⟨by show _ = _; rw [HF.out, HX.out]; rfl, by omega, rfl⟩⟩
                              · have hbg' : ¬ (N : Int) < (acc.length : Int) + (T : Int) := by omega
                                have HX : Hid (lensE Af N z (8 * len) (q + 2, acc ++ List.replicate T l) = lensE Af N z (8 * len) (P0, [])) := by show _ = _; rw [← hls.out]; exact (lens_more h15.out hlt hE.out HRn.out hbg).symm
                                have HN : Hid (acc.length + T ≤ N) := by show _ ≤ _; omega
                                go_wp2_with fail
                                clear hbg hbg' hTi
                                obtain ⟨wy, hwy⟩ : ∃ wy, wy = wr := ⟨_, rfl⟩
                                subst hwy
                                go_loopw [11, 15] (fun u j wq => ∃ i : Nat, i ≤ T ∧ j = .int .i64 i ∧ OwnV wq w5.heap.size 3 .i64 u (acc ++ List.replicate i l) ∧ RFl wq B s sb a len cap z mo 0 v (q + 2) out ∧ Moves s sb v v w5 wq) (fun _ j _ => T - (intOf j).toNat)
                                case atStart => exact ⟨0, by omega, rfl, by simpa using O7, h7, M7'⟩
                                case round =>
                                  clear O7 h7 M7' c7
                                  obtain ⟨i, hi, rfl, hO8, hS8, hM8⟩ := hrel
                                  by_cases hin : i < T
                                  · have hin' : (i : Int) < (T : Int) := by omega
                                    obtain ⟨ys, hys⟩ : ∃ ys, Hid (acc ++ List.replicate i l = ys) := ⟨_, rfl⟩
                                    rw [hys.out] at hO8
                                    have hylen : ys.length ≤ 1000 := by rw [← hys.out]; simp; omega
                                    obtain ⟨ay, capy, rfl⟩ := hO8.form
                                    obtain ⟨WA, hWA⟩ : ∃ WA, Hid (WA = wr.alloc (.cells #[.int .i64 l] 3)) := ⟨_, rfl⟩
                                    have O9 : OwnV WA w5.heap.size 3 .i64 (.slice ay ys.length capy) ys := by rw [hWA.out]; exact hO8.alloc _
                                    have HB9 : WA.heap[wr.heap.size]? = some (.cells #[.int .i64 l] 3) := by rw [hWA.out]; exact blk_new wr _
                                    have bA : Below wr.heap.size wr WA := by rw [hWA.out]; exact (Below.refl _ _).alloc (Nat.le_refl _) _
                                    have hsz : w5.heap.size ≤ WA.heap.size := Nat.le_trans hM8.kept.size bA.size
                                    have happ := O9.oneI hsz HB9 (by omega)
                                    have S9 := hS8.below bA
                                    have M9 := hM8.trans (Moves.of_below (s := s) (b := sb) (v := v) bA)
                                    rw [hWA.out] at happ O9 S9 M9
                                    have HAP : Hid (_) := happ
                                    have HO9 : Hid (_) := O9
                                    have HS9 : Hid (_) := S9
                                    clear happ HB9 O9 bA hsz S9 hS8 hO8 hM8
                                    go_wp2_with (at_builtin; refine wpList_append_ex rfl (.tmp 142) (.tmp 144) 24 rfl rfl rfl HAP.out ?_; rintro g' cap' w9 hR; have HR : Hid (_) := hR; clear hR)
                                    obtain ⟨r1, r2, r3⟩ := HR.out
                                    obtain ⟨S10, M10⟩ := S5.row HS9.out M9 HO9.out (RowM.grown (n := ys.length + 1) (cap := cap') r2 r3)
                                    refine ⟨⟨i + 1, by omega, by go_num, ?_, S10, M10⟩, by simp [intOf]; omega⟩
                                    rw [← rep_up, hys.out]
                                    exact own_v r1 (by simp)
                                  · have hin' : ¬ (i : Int) < (T : Int) := by omega
                                    have ei : i = T := by omega
                                    rw [ei] at hO8
                                    have HO8 : Hid (OwnV wr w5.heap.size 3 .i64 _ (acc ++ List.replicate T l)) := hO8
                                    have HS8 : Hid (RFl wr B s sb a len cap z mo 0 v (q + 2) out) := hS8
                                    clear ei hO8 hS8
                                    go_wp2
                                    refine ⟨⟨q + 2, acc ++ List.replicate T l, HS8.out, hM8, HO8.out, h15_app h15.out HL15.out, by simp; exact HN.out, HX⟩, ?_⟩
                                    rw [HS8.out.pOf, HPo.out]; have := HQ.out; have := HQ2.out; omega
                            · have HQ2 : Hid (¬ q + 2 ≤ 8 * len) := hq
                              have HX : Hid (lensE Af N z (8 * len) (P0, []) = .error 3) := by show _ = _; rw [← hls.out]; exact lens_run hlt hE.out (HHN.out hq)
                              clear hq
                              go_wp2_with fail
                              refine (rftake_n B s sb a len cap z mo v q out 2 (by omega) _ hS6 HQ2.out).mono ?_
                              rintro e w7 ⟨rfl, h7, M7⟩
                              have c7 : w7.cell? ⟨s, 3, none⟩ = some (.int .i64 3) := blk_cell h7.obj 3
                              clear hS6 c6
                              go_wp2
                              go_ret
                              exact ⟨v, _, _, 3, h7, (M5.trans M6).trans M7, .inr ⟨by show _ = _; rw [HF.out, HX.out]; rfl, by omega, rfl⟩⟩
                      · have e16' : ¬ (n : Int) = 16 := by omega
                        by_cases e17 : n = 17
                        · subst e17
                          obtain ⟨l, hl0⟩ : ∃ l : Int, l = 0 := ⟨_, rfl⟩
                          have HRun : ∀ hp : q + 3 ≤ 8 * len, runE z (8 * len) q 17 acc = .ok (l, 3 + takev z q 3, q + 3) := fun hp => by unfold runE; rw [if_neg (by omega), if_neg (by omega), if_neg (by omega), if_pos hp, hl0]
                          have HRunN : ∀ hp : ¬ q + 3 ≤ 8 * len, runE z (8 * len) q 17 acc = .error 3 := fun hp => by unfold runE; rw [if_neg (by omega), if_neg (by omega), if_neg (by omega), if_neg hp]
                          have HHR : Hid (_) := HRun
                          have HHN : Hid (_) := HRunN
                          subst hl0
                          clear HRun HRunN
                          as_aux_lemma =>
                            by_cases hq : q + 3 ≤ 8 * len
                            · have HQ2 : Hid (q + 3 ≤ 8 * len) := hq
                              clear hq
                              go_wp2_with fail
                              refine (rftake_y B s sb a len cap z mo v q out 3 (by omega) _ hS6 HQ2.out).mono ?_
                              rintro e w7 ⟨rfl, h7, M7⟩
                              have t1 : takev z q 3 < 8 := takev_lt z q 3
                              have HR0 := HHR.out HQ2.out
                              have c7 : w7.cell? ⟨s, 3, none⟩ = some (.int .i64 0) := blk_cell h7.obj 3
                              have O7 := O6.rmoves S5 M7
                              have M7' := M6.trans M7
                              obtain ⟨T, hT⟩ : ∃ T, Hid (3 + takev z q 3 = T) := ⟨_, rfl⟩
                              have hTi : (3 : Int) + ((takev z q 3 : Nat) : Int) = (T : Nat) := by rw [← hT.out]; omega
                              have lT : T ≤ 200 := by rw [← hT.out]; omega
                              rw [hT.out] at HR0
                              have HRn : Hid (runE z (8 * len) q 17 acc = .ok ((0 : Int), T, q + 3)) := HR0
                              have HL15 : Hid ((0 : Int) ≤ (0 : Int) ∧ ((0 : Int) : Int) ≤ 15) := by
                                have := runE_ok HR0 HQ.out.2 h15.out
                                exact ⟨this.2.2.1, this.2.2.2.1⟩
                              clear HR0 HHR HHN hS6 O6 M6 M7 c6
                              by_cases hbg : N < acc.length + T
                              · have hbg' : (N : Int) < (acc.length : Int) + (T : Int) := by omega
                                have HX : Hid (lensE Af N z (8 * len) (P0, []) = .error 2) := by show _ = _; rw [← hls.out]; exact lens_big hlt hE.out HRn.out hbg
                                go_wp2_with fail
                                refine (fails_new B s sb a len cap z mo v (q + 3) out 2 _ h7).mono ?_
                                rintro e w8 ⟨rfl, h8, M8⟩
                                go_wp2
                                go_ret
                                exact ⟨v, _, _, 2, h8, (M5.trans M7').trans M8, .inr ⟨by show _ = _; rw [HF.out, HX.out]; rfl, by omega, rfl⟩⟩
                              · have hbg' : ¬ (N : Int) < (acc.length : Int) + (T : Int) := by omega
                                have HX : Hid (lensE Af N z (8 * len) (q + 3, acc ++ List.replicate T (0 : Int)) = lensE Af N z (8 * len) (P0, [])) := by show _ = _; rw [← hls.out]; exact (lens_more h15.out hlt hE.out HRn.out hbg).symm
                                have HN : Hid (acc.length + T ≤ N) := by show _ ≤ _; omega
                                go_wp2_with fail
                                clear hbg hbg' hTi
                                obtain ⟨wy, hwy⟩ : ∃ wy, wy = wr := ⟨_, rfl⟩
                                subst hwy
                                go_loopw [11, 15] (fun u j wq => ∃ i : Nat, i ≤ T ∧ j = .int .i64 i ∧ OwnV wq w5.heap.size 3 .i64 u (acc ++ List.replicate i (0 : Int)) ∧ RFl wq B s sb a len cap z mo 0 v (q + 3) out ∧ Moves s sb v v w5 wq) (fun _ j _ => T - (intOf j).toNat)
                                case atStart => exact ⟨0, by omega, rfl, by simpa using O7, h7, M7'⟩
                                case round =>
                                  clear O7 h7 M7' c7
                                  obtain ⟨i, hi, rfl, hO8, hS8, hM8⟩ := hrel
                                  by_cases hin : i < T
                                  · have hin' : (i : Int) < (T : Int) := by omega
                                    obtain ⟨ys, hys⟩ : ∃ ys, Hid (acc ++ List.replicate i (0 : Int) = ys) := ⟨_, rfl⟩
                                    rw [hys.out] at hO8
                                    have hylen : ys.length ≤ 1000 := by rw [← hys.out]; simp; omega
                                    obtain ⟨ay, capy, rfl⟩ := hO8.form
                                    obtain ⟨WA, hWA⟩ : ∃ WA, Hid (WA = wr.alloc (.cells #[.int .i64 (0 : Int)] 3)) := ⟨_, rfl⟩
                                    have O9 : OwnV WA w5.heap.size 3 .i64 (.slice ay ys.length capy) ys := by rw [hWA.out]; exact hO8.alloc _
                                    have HB9 : WA.heap[wr.heap.size]? = some (.cells #[.int .i64 (0 : Int)] 3) := by rw [hWA.out]; exact blk_new wr _
                                    have bA : Below wr.heap.size wr WA := by rw [hWA.out]; exact (Below.refl _ _).alloc (Nat.le_refl _) _
                                    have hsz : w5.heap.size ≤ WA.heap.size := Nat.le_trans hM8.kept.size bA.size
                                    have happ := O9.oneI hsz HB9 (by omega)
                                    have S9 := hS8.below bA
                                    have M9 := hM8.trans (Moves.of_below (s := s) (b := sb) (v := v) bA)
                                    rw [hWA.out] at happ O9 S9 M9
                                    have HAP : Hid (_) := happ
                                    have HO9 : Hid (_) := O9
                                    have HS9 : Hid (_) := S9
                                    clear happ HB9 O9 bA hsz S9 hS8 hO8 hM8
                                    go_wp2_with (at_builtin; refine wpList_append_ex rfl (.tmp 142) (.tmp 144) 24 rfl rfl rfl HAP.out ?_; rintro g' cap' w9 hR; have HR : Hid (_) := hR; clear hR)
                                    obtain ⟨r1, r2, r3⟩ := HR.out
                                    obtain ⟨S10, M10⟩ := S5.row HS9.out M9 HO9.out (RowM.grown (n := ys.length + 1) (cap := cap') r2 r3)
                                    refine ⟨⟨i + 1, by omega, by go_num, ?_, S10, M10⟩, by simp [intOf]; omega⟩
                                    rw [← rep_up, hys.out]
                                    exact own_v r1 (by simp)
                                  · have hin' : ¬ (i : Int) < (T : Int) := by omega
                                    have ei : i = T := by omega
                                    rw [ei] at hO8
                                    have HO8 : Hid (OwnV wr w5.heap.size 3 .i64 _ (acc ++ List.replicate T (0 : Int))) := hO8
                                    have HS8 : Hid (RFl wr B s sb a len cap z mo 0 v (q + 3) out) := hS8
                                    clear ei hO8 hS8
                                    go_wp2
                                    refine ⟨⟨q + 3, acc ++ List.replicate T (0 : Int), HS8.out, hM8, HO8.out, h15_app h15.out HL15.out, by simp; exact HN.out, HX⟩, ?_⟩
                                    rw [HS8.out.pOf, HPo.out]; have := HQ.out; have := HQ2.out; omega
                            · have HQ2 : Hid (¬ q + 3 ≤ 8 * len) := hq
                              have HX : Hid (lensE Af N z (8 * len) (P0, []) = .error 3) := by show _ = _; rw [← hls.out]; exact lens_run hlt hE.out (HHN.out hq)
                              clear hq
                              go_wp2_with fail
                              refine (rftake_n B s sb a len cap z mo v q out 3 (by omega) _ hS6 HQ2.out).mono ?_
                              rintro e w7 ⟨rfl, h7, M7⟩
                              have c7 : w7.cell? ⟨s, 3, none⟩ = some (.int .i64 3) := blk_cell h7.obj 3
                              clear hS6 c6
                              go_wp2
                              go_ret
                              exact ⟨v, _, _, 3, h7, (M5.trans M6).trans M7, .inr ⟨by show _ = _; rw [HF.out, HX.out]; rfl, by omega, rfl⟩⟩
                        · have e17' : ¬ (n : Int) = 17 := by omega
                          have e18 : n = 18 := by omega
                          subst e18
                          have HRun : ∀ hp : q + 7 ≤ 8 * len, runE z (8 * len) q 18 acc = .ok (0, 11 + takev z q 7, q + 7) := fun hp => by unfold runE; rw [if_neg (by omega), if_neg (by omega), if_pos rfl, if_pos hp]
                          have HRunN : ∀ hp : ¬ q + 7 ≤ 8 * len, runE z (8 * len) q 18 acc = .error 3 := fun hp => by unfold runE; rw [if_neg (by omega), if_neg (by omega), if_pos rfl, if_neg hp]
                          have HHR : Hid (_) := HRun
                          have HHN : Hid (_) := HRunN
                          clear HRun HRunN
                          as_aux_lemma =>
                            by_cases hq : q + 7 ≤ 8 * len
                            · have HQ2 : Hid (q + 7 ≤ 8 * len) := hq
                              clear hq
                              go_wp2_with fail
                              refine (rftake_y B s sb a len cap z mo v q out 7 (by omega) _ hS6 HQ2.out).mono ?_
                              rintro e w7 ⟨rfl, h7, M7⟩
                              have t1 : takev z q 7 < 128 := takev_lt z q 7
                              have HR0 := HHR.out HQ2.out
                              have c7 : w7.cell? ⟨s, 3, none⟩ = some (.int .i64 0) := blk_cell h7.obj 3
                              have O7 := O6.rmoves S5 M7
                              have M7' := M6.trans M7
                              obtain ⟨T, hT⟩ : ∃ T, Hid (11 + takev z q 7 = T) := ⟨_, rfl⟩
                              have hTi : (11 : Int) + ((takev z q 7 : Nat) : Int) = (T : Nat) := by rw [← hT.out]; omega
                              have lT : T ≤ 200 := by rw [← hT.out]; omega
                              rw [hT.out] at HR0
                              have HRn : Hid (runE z (8 * len) q 18 acc = .ok ((0 : Int), T, q + 7)) := HR0
                              have HL15 : Hid ((0 : Int) ≤ (0 : Int) ∧ ((0 : Int) : Int) ≤ 15) := by
                                have := runE_ok HR0 HQ.out.2 h15.out
                                exact ⟨this.2.2.1, this.2.2.2.1⟩
                              clear HR0 HHR HHN hS6 O6 M6 M7 c6
                              by_cases hbg : N < acc.length + T
                              · have hbg' : (N : Int) < (acc.length : Int) + (T : Int) := by omega
                                have HX : Hid (lensE Af N z (8 * len) (P0, []) = .error 2) := by show _ = _; rw [← hls.out]; exact lens_big hlt hE.out HRn.out hbg
                                go_wp2_with fail
                                refine (fails_new B s sb a len cap z mo v (q + 7) out 2 _ h7).mono ?_
                                rintro e w8 ⟨rfl, h8, M8⟩
                                go_wp2
                                go_ret
                                exact ⟨v, _, _, 2, h8, (M5.trans M7').trans M8, .inr ⟨by show _ = _; rw [HF.out, HX.out]; rfl, by omega, rfl⟩⟩
                              · have hbg' : ¬ (N : Int) < (acc.length : Int) + (T : Int) := by omega
                                have HX : Hid (lensE Af N z (8 * len) (q + 7, acc ++ List.replicate T (0 : Int)) = lensE Af N z (8 * len) (P0, [])) := by show _ = _; rw [← hls.out]; exact (lens_more h15.out hlt hE.out HRn.out hbg).symm
                                have HN : Hid (acc.length + T ≤ N) := by show _ ≤ _; omega
                                go_wp2_with fail
                                clear hbg hbg' hTi
                                obtain ⟨wy, hwy⟩ : ∃ wy, wy = wr := ⟨_, rfl⟩
                                subst hwy
                                go_loopw [11, 15] (fun u j wq => ∃ i : Nat, i ≤ T ∧ j = .int .i64 i ∧ OwnV wq w5.heap.size 3 .i64 u (acc ++ List.replicate i (0 : Int)) ∧ RFl wq B s sb a len cap z mo 0 v (q + 7) out ∧ Moves s sb v v w5 wq) (fun _ j _ => T - (intOf j).toNat)
                                case atStart => exact ⟨0, by omega, rfl, by simpa using O7, h7, M7'⟩
                                case round =>
                                  clear O7 h7 M7' c7
                                  obtain ⟨i, hi, rfl, hO8, hS8, hM8⟩ := hrel
                                  by_cases hin : i < T
                                  · have hin' : (i : Int) < (T : Int) := by omega
                                    obtain ⟨ys, hys⟩ : ∃ ys, Hid (acc ++ List.replicate i (0 : Int) = ys) := ⟨_, rfl⟩
                                    rw [hys.out] at hO8
                                    have hylen : ys.length ≤ 1000 := by rw [← hys.out]; simp; omega
                                    obtain ⟨ay, capy, rfl⟩ := hO8.form
                                    obtain ⟨WA, hWA⟩ : ∃ WA, Hid (WA = wr.alloc (.cells #[.int .i64 (0 : Int)] 3)) := ⟨_, rfl⟩
                                    have O9 : OwnV WA w5.heap.size 3 .i64 (.slice ay ys.length capy) ys := by rw [hWA.out]; exact hO8.alloc _
                                    have HB9 : WA.heap[wr.heap.size]? = some (.cells #[.int .i64 (0 : Int)] 3) := by rw [hWA.out]; exact blk_new wr _
                                    have bA : Below wr.heap.size wr WA := by rw [hWA.out]; exact (Below.refl _ _).alloc (Nat.le_refl _) _
                                    have hsz : w5.heap.size ≤ WA.heap.size := Nat.le_trans hM8.kept.size bA.size
                                    have happ := O9.oneI hsz HB9 (by omega)
                                    have S9 := hS8.below bA
                                    have M9 := hM8.trans (Moves.of_below (s := s) (b := sb) (v := v) bA)
                                    rw [hWA.out] at happ O9 S9 M9
                                    have HAP : Hid (_) := happ
                                    have HO9 : Hid (_) := O9
                                    have HS9 : Hid (_) := S9
                                    clear happ HB9 O9 bA hsz S9 hS8 hO8 hM8
                                    go_wp2_with (at_builtin; refine wpList_append_ex rfl (.tmp 142) (.tmp 144) 24 rfl rfl rfl HAP.out ?_; rintro g' cap' w9 hR; have HR : Hid (_) := hR; clear hR)
                                    obtain ⟨r1, r2, r3⟩ := HR.out
                                    obtain ⟨S10, M10⟩ := S5.row HS9.out M9 HO9.out (RowM.grown (n := ys.length + 1) (cap := cap') r2 r3)
                                    refine ⟨⟨i + 1, by omega, by go_num, ?_, S10, M10⟩, by simp [intOf]; omega⟩
                                    rw [← rep_up, hys.out]
                                    exact own_v r1 (by simp)
                                  · have hin' : ¬ (i : Int) < (T : Int) := by omega
                                    have ei : i = T := by omega
                                    rw [ei] at hO8
                                    have HO8 : Hid (OwnV wr w5.heap.size 3 .i64 _ (acc ++ List.replicate T (0 : Int))) := hO8
                                    have HS8 : Hid (RFl wr B s sb a len cap z mo 0 v (q + 7) out) := hS8
                                    clear ei hO8 hS8
                                    go_wp2
                                    refine ⟨⟨q + 7, acc ++ List.replicate T (0 : Int), HS8.out, hM8, HO8.out, h15_app h15.out HL15.out, by simp; exact HN.out, HX⟩, ?_⟩
                                    rw [HS8.out.pOf, HPo.out]; have := HQ.out; have := HQ2.out; omega
                            · have HQ2 : Hid (¬ q + 7 ≤ 8 * len) := hq
                              have HX : Hid (lensE Af N z (8 * len) (P0, []) = .error 3) := by show _ = _; rw [← hls.out]; exact lens_run hlt hE.out (HHN.out hq)
                              clear hq
                              go_wp2_with fail
                              refine (rftake_n B s sb a len cap z mo v q out 7 (by omega) _ hS6 HQ2.out).mono ?_
                              rintro e w7 ⟨rfl, h7, M7⟩
                              have c7 : w7.cell? ⟨s, 3, none⟩ = some (.int .i64 3) := blk_cell h7.obj 3
                              clear hS6 c6
                              go_wp2
                              go_ret
                              exact ⟨v, _, _, 3, h7, (M5.trans M6).trans M7, .inr ⟨by show _ = _; rw [HF.out, HX.out]; rfl, by omega, rfl⟩⟩
                  · have hk0 : ¬ (E6 : Int) = 0 := by omega
                    have HX : Hid (lensE Af N z (8 * len) (P0, []) = .error E6) := by show _ = _; rw [← hls.out]; exact lens_sym hlt hE.out
                    go_wp2
                    go_ret
                    exact ⟨v, _, _, E6, hS6, M5.trans M6, .inr ⟨by show _ = _; rw [HF.out, HX.out]; rfl, hpos, rfl⟩⟩
                · as_aux_lemma =>
                    have hlt' : ¬ (acc.length : Int) < (N : Int) := by omega
                    have HX : Hid (lensE Af N z (8 * len) (P0, []) = .ok (p1, acc)) := by show _ = _; rw [← hls.out]; exact lens_end hlt
                    have HF2 : Hid (ownCE z (8 * len) most p out = ownF H Dn z (8 * len) most out (.ok (p1, acc))) := by show _ = _; rw [HF.out, HX.out]
                    have hlen : Hid (acc.length = N) := by show _ = _; omega
                    have la1 : 256 < acc.length := by omega
                    have la2 : H < acc.length := by rw [hlen.out, ← hN.out]; omega
                    have la3 : acc.length ≤ 320 := by omega
                    have g15 : ∀ j, 0 ≤ acc.getD j 0 ∧ acc.getD j 0 ≤ 15 := fun j => by
                      rw [List.getD_eq_getElem?_getD]
                      cases e : acc[j]? with
                      | none => simp
                      | some y => simpa using h15.out y (List.mem_of_getElem? e)
                    obtain ⟨g1, cap1, hsl, hO4⟩ := hO.own (by omega)
                    injection hsl with hax _ hcx
                    subst hax
                    subst hcx
                    have I3 : Ints wr (some ⟨g1, 0, none⟩) acc.length capx (fun i => acc.getD i 0) := ⟨hO4.lc.1, by omega, fun i => by have := g15 i; omega, fun _ => ⟨g1, 0, rfl, hO4.lt.2, fun i hi => by rw [Nat.zero_add, hO4.cell hi]⟩⟩
                    have c256 := hO4.cell (j := 256) la1
                    have hlc2 := hO4.lc.1
                    have hcm := hO4.lc.2
                    unfold maxLen at hcm
                    obtain ⟨y, hy⟩ : ∃ y, Hid (acc.getD 256 0 = y) := ⟨_, rfl⟩
                    rw [hy.out] at c256
                    have HI3 : Hid (Ints wr (some ⟨g1, 0, none⟩) acc.length capx (fun i => acc.getD i 0)) := I3
                    have MM := M5.trans hM
                    clear I3 g15 hO4 hO hM HF HX hls
                    by_cases hy0 : y = 0
                    · subst hy0
                      have HX : Hid (ownCE z (8 * len) most p out = .error 2) := by show _ = _; rw [HF2.out]; exact ownF_err (pair_zero hy.out)
                      go_wp2_with fail
                      refine (fails_new B s sb a len cap z mo v p1 out 2 _ hS).mono ?_
                      rintro e w7 ⟨rfl, h7, M7⟩
                      go_wp2
                      go_ret
                      exact ⟨v, _, _, 2, h7, MM.trans M7, .inr ⟨HX, by omega, rfl⟩⟩
                    · have I4 := HI3.out.front (hl := H) (by omega)
                      have hEl : acc.length - H = Dn := by rw [hlen.out, ← hN.out]; omega
                      have EL : Hid (acc.length - H = Dn) := hEl
                      have HY0 : Hid (¬ y = 0) := hy0
                      have lS : ∀ k, Mine s sb v k → B ≤ k ∧ k < wr.heap.size := fun k e => hS.mine e
                      clear hEl
                      go_wp2_with fail
                      clear hlt hlt' hy0 c256
                      refine (rnew_any _ H capx (fun i => acc.getD i 0) _ I4).mono ?_
                      rintro e w7 ⟨b7, ⟨hbad, rfl⟩ | ⟨hgood, xc, xg, xl, capy, x1, x2, x3, rfl, hC7⟩⟩
                      · have S7 := hS.below b7
                        have HX : Hid (ownCE z (8 * len) most p out = .error 2) := by
                          show _ = _
                          rw [nth_good0 h15.out (by omega)] at hbad
                          rw [HF2.out]; exact ownF_err (pair_bad1 (by rw [hy.out]; exact HY0.out) hbad)
                        clear hbad
                        go_wp2_with fail
                        refine (fails_new B s sb a len cap z mo v p1 out 2 _ S7).mono ?_
                        rintro e w8 ⟨rfl, h8, M8⟩
                        go_wp2
                        go_ret
                        exact ⟨v, _, _, 2, h8, (MM.trans (Moves.of_below b7)).trans M8, .inr ⟨HX, by omega, rfl⟩⟩
                      · have S7 := hS.below b7
                        have hg0 : Hid (okc (nthL acc 0) H = true) := (nth_good0 h15.out (by omega)).1 hgood
                        rw [nth0] at hC7
                        have I5 := (HI3.out.below b7 (Nat.le_refl _)).back (hl := H) (by omega)
                        rw [Nat.zero_add] at I5
                        have b7s := b7.size
                        clear hgood I4
                        go_wp2_with fail
                        refine (rnew_any _ (acc.length - H) _ (fun i => acc.getD (H + i) 0) _ I5).mono ?_
                        rw [EL.out]
                        rintro e w8 ⟨b8, ⟨hbad, rfl⟩ | ⟨hgood, yc, yg, yl, capw, y1, y2, y3, rfl, hC8⟩⟩
                        · have S8 := S7.below b8
                          have HX : Hid (ownCE z (8 * len) most p out = .error 2) := by
                            show _ = _
                            rw [nth_good h15.out (by omega)] at hbad
                            rw [HF2.out]; exact ownF_err (pair_bad2 (by rw [hy.out]; exact HY0.out) hg0.out hbad)
                          clear hbad
                          go_wp2_with fail
                          refine (fails_new B s sb a len cap z mo v p1 out 2 _ S8).mono ?_
                          rintro e w9 ⟨rfl, h9, M9⟩
                          go_wp2
                          go_ret
                          exact ⟨v, _, _, 2, h9, ((MM.trans (Moves.of_below b7)).trans (Moves.of_below b8)).trans M9, .inr ⟨HX, by omega, rfl⟩⟩
                        · have S8 := S7.below b8
                          have hg1 : Hid (okc (nthL acc H) Dn = true) := (nth_good h15.out (by omega)).1 hgood
                          have nmr : ∀ k, wr.heap.size ≤ k → ¬ Mine s sb v k := fun k hk e => by have := (lS k e).2; omega
                          have A8 : RAl w8 s sb v xc xg xl capy H (nthL acc 0) := ⟨hC7.below b8, nmr _ x1, nmr _ x2, nmr _ x3⟩
                          have D8 : RAl w8 s sb v yc yg yl capw Dn (nthL acc H) := ⟨hC8, nmr _ (by omega), nmr _ (by omega), nmr _ (by omega)⟩
                          have HX : Hid (ownCE z (8 * len) most p out = codedE (nthL acc 0) H (nthL acc H) Dn z (8 * len) most (p1, out)) := by
                            show _ = _
                            rw [HF2.out]; exact ownF_ok (pair_ok (by rw [hy.out]; exact HY0.out) hg0.out hg1.out)
                          have M8 := (MM.trans (Moves.of_below (s := s) (b := sb) (v := v) b7)).trans (Moves.of_below (s := s) (b := sb) (v := v) b8)
                          clear hgood hC7 hC8 I5
                          go_wp2_with fail
                          refine (rcoded_any B s sb a len cap z mo most HM.out hml v p1 out xc xg xl capy H (nthL acc 0) yc yg yl capw Dn (nthL acc H) _ S8 A8 D8).mono ?_
                          rintro e w9 ⟨v9, p9, o9, E9, h9, M9, hcase⟩
                          rcases hcase with ⟨hF9, rfl, rfl⟩ | ⟨hF9, hp9, rfl⟩
                          · go_wp2
                            go_ret
                            exact ⟨v9, p9, o9, 0, h9, M8.trans M9, .inl ⟨by show _ = _; rw [HX.out, hF9.out], rfl, rfl⟩⟩
                          · go_wp2
                            go_ret
                            exact ⟨v9, p9, o9, E9, h9, M8.trans M9, .inr ⟨by show _ = _; rw [HX.out, hF9.out], hp9, rfl⟩⟩
        · have c3 : wr.cell? ⟨s, 3, none⟩ = some (.int .i64 3) := blk_cell hS.obj 3
          have HF : Hid (ownCE z (8 * len) most p out = .error 3) := own_lens_short HP.out HH.out HD.out HC.out HBg.out hbad.out
          have M4 := M3'.trans hMv
          by_cases hin : k < C4
          · have hin' : (k : Int) < (C4 : Int) := by omega
            go_wp2
            go_ret
            exact ⟨v, _, _, 3, hS, M4, .inr ⟨HF, by omega, rfl⟩⟩
          · have hin' : ¬ (k : Int) < (C4 : Int) := by omega
            go_wp2
            go_ret
            exact ⟨v, _, _, 3, hS, M4, .inr ⟨HF, by omega, rfl⟩⟩
  · have hE3 : E3 = 3 := by
      rcases k1 with ⟨i1, _, i3, i4⟩ | ⟨i1, _, i3, i4⟩ <;> rcases k2 with ⟨j1, _, j3, j4⟩ | ⟨j1, _, j3, j4⟩ <;> rcases k3 with ⟨k1, _, k3, k4⟩ | ⟨k1, _, k3, k4⟩ <;> simp_all <;> omega
    subst hE3
    replace c3 : w3.cell? ⟨s, 3, none⟩ = some (.int .i64 3) := c3
    have HF : Hid (ownCE z (8 * len) most p out = .error 3) := own_short hp
    clear k1 k2 k3 hp hH hDn hC4
    have hc' : (0 : Int) < (C4 : Int) := by omega
    go_wp2_with (refine store_at (new := ord19) gz (by rfl) (by rfl) (by rfl) (by rfl) (by exact size94) (by rfl) (by exact one19) (by exact put19) ?_; intro W2 g2 kk2 z2)
    have bz : Below w3.heap.size w3 (w3.alloc (.cells z19 94)) := (Below.refl _ _).alloc (Nat.le_refl _) _
    have S2 : RFl W2 B s sb a len cap z mo 3 v p3 out := h3.new (h3.below bz) kk2 (Nat.le_refl _)
    have mW : Moves s sb v v w3 W2 := (Moves.of_below (s := s) (b := sb) (v := v) bz).new kk2 (Nat.le_refl _)
    have bW : Below W2.heap.size W2 (W2.alloc (.cells (arr 19 fun _ => .int .i64 0) 3)) := (Below.refl _ _).alloc (Nat.le_refl _) _
    have S3 := S2.below bW
    have mX : Moves s sb v v w3 _ := mW.trans (Moves.of_below bW)
    obtain ⟨W, hW⟩ : ∃ W, W = W2.alloc (.cells (arr 19 fun _ => .int .i64 0) 3) := ⟨_, rfl⟩
    rw [← hW] at S3 mX ⊢
    have d3 : W.cell? ⟨s, 3, none⟩ = some (.int .i64 3) := blk_cell S3.obj 3
    clear hW bW S2 mW bz kk2 g2 z2 hmk c3
    refine wp_loop_once ?_
    go_wp2
    go_ret
    exact ⟨v, _, _, 3, S3, M3'.trans mX, .inr ⟨HF, by omega, rfl⟩⟩
end Go.Proofs.YtahibacjaoohiaaDoor
