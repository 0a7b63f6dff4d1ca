/-
  The reference's coded blocks.
  Beside the reference's stream: new blocks, rows of the call's own; what own tells, as plain functions.
-/
import Derived.Test.YtahibacjaoohiaaDoorRC
import Derived.Test.YtahibacjaoohiaaDoorRB
import Derived.Test.YtahibacjaoohiaaDoorCoded2
import Derived.Test.YtahibacjaoohiaaDoorOwnp
namespace Go.Proofs.YtahibacjaoohiaaDoor
open Go.RowKit

/-- The reference's code, apart from what the stream's calls write. -/
def RAl (w : World) (s sb : Nat) (v : Value) (rc gc gl capl N : Nat) (L : Nat → Nat) : Prop := RCode w rc gc gl capl N L ∧ ¬ Mine s sb v rc ∧ ¬ Mine s sb v gc ∧ ¬ Mine s sb v gl
theorem RAl.moves {w w' : World} {s sb : Nat} {v v' : Value} {rc gc gl capl N : Nat} {L : Nat → Nat} (h : RAl w s sb v rc gc gl capl N L) (m : Moves s sb v v' w w') : RAl w' s sb v' rc gc gl capl N L :=
  ⟨h.1.kept m.kept h.2.1 h.2.2.1 h.2.2.2, m.apart h.1.lo h.2.1, m.apart h.1.lc h.2.2.1, m.apart h.1.ll h.2.2.2⟩
theorem rsym_al (B s sb : Nat) (a : Option Addr) (len cap : Nat) (z : Nat → Nat) (mo : Int) (v : Value) (p : Nat) (out : List Int) (rc gc gl capl N : Nat) (L : Nat → Nat) (w : World) (h : RFl w B s sb a len cap z mo 0 v p out) (hC : RAl w s sb v rc gc gl capl N L) :
    Calls Tryd.prog 52 #[.pointer (some ⟨s, 0, none⟩), .pointer (some ⟨rc, 0, none⟩)] w (RSymR (symE L N z (8 * len) p) B s sb a len cap z mo v out w) :=
  rsymbol_any B s sb a len cap z mo v p out rc gc gl capl N L w h hC.1 hC.2.1 hC.2.2.1 hC.2.2.2
theorem RFl.pOf {w : World} {B s sb : Nat} {a : Option Addr} {len cap : Nat} {z : Nat → Nat} {mo : Int} {E : Nat} {v : Value} {p : Nat} {out : List Int} (h : RFl w B s sb a len cap z mo E v p out) : pOf sb w = p := by
  have : w.cell? ⟨sb, 1, none⟩ = some (.int .i64 p) := blk_cell h.bits.obj 1
  unfold Go.Proofs.YtahibacjaoohiaaDoor.pOf; rw [this]; rfl

def lenB (s : Nat) : Nat := if s = 285 then 258 else sumL (s - 257)
def lenK (s : Nat) : Nat := if s = 285 then 0 else morev s
theorem lenB_le (s : Nat) (h : s ≤ 285) : lenB s ≤ 300 := by
  unfold lenB; split
  · omega
  · exact sumL_le _ (by omega)
theorem lenK_le (s : Nat) (h : s ≤ 285) : lenK s ≤ 6 := by
  unfold lenK morev; split <;> omega
theorem sumD_le29 (k : Nat) (h : k ≤ 29) : sumD k ≤ 40000 := by
  have : ∀ k : Fin 30, sumD k.val ≤ 40000 := by decide +kernel
  exact this ⟨k, by omega⟩
theorem farv_le (d : Nat) (h : d ≤ 29) : farv d ≤ 13 := by unfold farv; omega
theorem len_all {z : Nat → Nat} {lim p s : Nat} (h1 : 257 ≤ s) (h2 : s ≤ 285) (hp : p ≤ lim) : lengthE z lim p s = if p + lenK s ≤ lim then .ok (lenB s + takev z p (lenK s), p + lenK s) else .error 3 := by
  by_cases e : s = 285
  · subst e
    unfold lengthE lenK lenB
    simp [takev, hp]
  · by_cases hl : p + morev s ≤ lim
    · rw [len_fix h1 (by omega) hl]
      unfold lenK lenB
      simp [e, hl]
    · unfold lengthE
      rw [if_neg (by omega), if_neg e]
      unfold spreadE lenK
      rw [if_neg (by unfold morev at hl; omega), if_neg (by unfold morev at hl; exact hl), if_neg e, if_neg hl]
theorem dist_all {D : Nat → Nat} {M : Nat} {z : Nat → Nat} {lim p d q : Nat} (hE : symE D M z lim p = .ok (d, q)) (hd : d ≤ 29) : distE D M z lim p = if q + farv d ≤ lim then .ok (sumD d + takev z q (farv d), q + farv d) else .error 3 := by
  have hq := (symE_ok hE).2.1
  have hs := sumD_is d (by omega)
  unfold distE
  rw [hE]
  simp only
  rw [if_neg (by omega)]
  unfold spreadE
  by_cases hl : q + farv d ≤ lim
  · rw [if_pos hl]
    unfold farv at hl ⊢
    by_cases h8 : d < 2 * 2
    · rw [if_pos h8]
      rw [if_pos (by omega)] at hs
      have e0 : d / 2 - 1 = 0 := by omega
      simp only [e0, takev, Nat.add_zero]
      rw [hs]
    · rw [if_neg h8, if_pos hl]
      rw [if_neg (by omega)] at hs
      simp only
      rw [← hs]
      congr 2
      omega
  · rw [if_neg hl]
    rw [if_neg (by unfold farv at hl; simp at hq; omega), if_neg (by unfold farv at hl; exact hl)]
theorem dist_far {D : Nat → Nat} {M : Nat} {z : Nat → Nat} {lim p d q : Nat} (hE : symE D M z lim p = .ok (d, q)) (hd : 29 < d) : distE D M z lim p = .error 2 := by
  unfold distE
  rw [hE]
  simp only
  rw [if_pos hd]
theorem coded_err {L : Nat → Nat} {N : Nat} {D : Nat → Nat} {M : Nat} {z : Nat → Nat} {lim most p q n e : Nat} {out : List Int} (hE : symE L N z lim p = .ok (n, q)) (hn : 256 < n) (ha : againE D M z lim most n q out = .error e) : codedE L N D M z lim most (p, out) = .error e :=
  codedE_done (by unfold codedS; rw [hE]; simp only; rw [if_neg (by omega), if_neg (by omega), ha])
theorem coded_go {L : Nat → Nat} {N : Nat} {D : Nat → Nat} {M : Nat} {z : Nat → Nat} {lim most p q n : Nat} {out : List Int} {st : St} (hE : symE L N z lim p = .ok (n, q)) (hn : 256 < n) (ha : againE D M z lim most n q out = .ok st) : codedE L N D M z lim most (p, out) = codedE L N D M z lim most st :=
  codedE_more (by unfold codedS; rw [hE]; simp only; rw [if_neg (by omega), if_neg (by omega), ha])
theorem again_len {D : Nat → Nat} {M : Nat} {z : Nat → Nat} {lim most s p e : Nat} {out : List Int} (h : lengthE z lim p s = .error e) : againE D M z lim most s p out = .error e := by
  unfold againE; rw [h]
theorem again_dist {D : Nat → Nat} {M : Nat} {z : Nat → Nat} {lim most s p e n q : Nat} {out : List Int} (h : lengthE z lim p s = .ok (n, q)) (h2 : distE D M z lim q = .error e) : againE D M z lim most s p out = .error e := by
  unfold againE; rw [h]; simp only; rw [h2]
theorem again_far {D : Nat → Nat} {M : Nat} {z : Nat → Nat} {lim most s p n q d q2 : Nat} {out : List Int} (h : lengthE z lim p s = .ok (n, q)) (h2 : distE D M z lim q = .ok (d, q2)) (h3 : out.length < d) : againE D M z lim most s p out = .error 2 := by
  unfold againE; rw [h]; simp only; rw [h2]; simp only; rw [if_pos h3]
theorem again_cpe {D : Nat → Nat} {M : Nat} {z : Nat → Nat} {lim most s p n q d q2 e : Nat} {out : List Int} (h : lengthE z lim p s = .ok (n, q)) (h2 : distE D M z lim q = .ok (d, q2)) (h3 : ¬ out.length < d) (h4 : cpE most d n out = .error e) : againE D M z lim most s p out = .error e := by
  unfold againE; rw [h]; simp only; rw [h2]; simp only; rw [if_neg h3, h4]
theorem again_cp {D : Nat → Nat} {M : Nat} {z : Nat → Nat} {lim most s p n q d q2 : Nat} {out o : List Int} (h : lengthE z lim p s = .ok (n, q)) (h2 : distE D M z lim q = .ok (d, q2)) (h3 : ¬ out.length < d) (h4 : cpE most d n out = .ok o) : againE D M z lim most s p out = .ok (q2, o) := by
  unfold againE; rw [h]; simp only; rw [h2]; simp only; rw [if_neg h3, h4]
theorem rlen_all (s : Nat) (h : 257 ≤ s) (h2 : s ≤ 285) (w : World) : Calls Tryd.prog 53 #[.int .i64 (s : Nat)] w fun e w' => e = .returned (.tuple #[.int .i64 (lenB s : Nat), .int .i64 (lenK s : Nat)]) ∧ w' = w := rlength_any s h h2 w

set_option maxRecDepth 100000 in
set_option maxHeartbeats 6400000 in
theorem rcoded_any (B s sb : Nat) (a : Option Addr) (len cap : Nat) (z : Nat → Nat) (mo : Int) (most : Nat) (hm : (most : Int) = if mo < 0 then 0 else mo) (hml : most ≤ 140737488355000) (v : Value) (p : Nat) (out : List Int) (rc gc gl capl N : Nat) (L : Nat → Nat) (dc dg dl capd M : Nat) (D : Nat → Nat) (w : World) (h : RFl w B s sb a len cap z mo 0 v p out) (hA : RAl w s sb v rc gc gl capl N L) (hD : RAl w s sb v dc dg dl capd M D) :
    Calls Tryd.prog 33 #[.pointer (some ⟨s, 0, none⟩), .pointer (some ⟨rc, 0, none⟩), .pointer (some ⟨dc, 0, none⟩)] w (RTells (codedE L N D M z (8 * len) most (p, out)) B s sb a len cap z mo v w) := by
  have HM : Hid ((most : Int) = if mo < 0 then 0 else mo) := hm
  have hN320 : N ≤ 320 := hA.1.few
  have hM320 : M ≤ 320 := hD.1.few
  clear hm
  go_enter Tryd.func33, Tryd.ntmps33
  go_wp2_with fail
  go_loopw [] (fun wq => ∃ (v1 : Value) (p1 : Nat) (u1 : List Int), RFl wq B s sb a len cap z mo 0 v1 p1 u1 ∧ Moves s sb v v1 w wq ∧ Hid (codedE L N D M z (8 * len) most (p1, u1) = codedE L N D M z (8 * len) most (p, out))) (fun wq => 8 * len - pOf sb wq)
  case atStart => exact ⟨v, p, out, h, Moves.refl _ _ _ _, rfl⟩
  case round =>
    obtain ⟨v1, p1, u1, hS, hMv, hcd⟩ := hrel
    have HP : Hid (pOf sb wr = p1) := hS.pOf
    have A1 := hA.moves hMv
    go_wp2_with fail
    refine (rsym_al B s sb a len cap z mo v1 p1 u1 rc gc gl capl N L _ hS A1).mono ?_
    rintro e w1 ⟨q, E1, t, hS1, hM1, rfl, hcase⟩
    have M1 := hMv.trans hM1
    have c3 : w1.cell? ⟨s, 3, none⟩ = some (.int .i64 (E1 : Nat)) := blk_cell hS1.obj 3
    clear hS A1 hM1 hMv
    rcases hcase with ⟨rfl, n, rfl, hE⟩ | ⟨rfl, hpos, hE⟩
    · replace c3 : w1.cell? ⟨s, 3, none⟩ = some (.int .i64 0) := c3
      have hok := symE_ok hE.out
      have hnN : n < N := hok.2.2
      have hpq : p1 < q := hok.1
      have hql : q ≤ 8 * len := hok.2.1
      have HPQ : Hid (p1 < q ∧ q ≤ 8 * len) := ⟨hpq, hql⟩
      clear hok hpq hql
      by_cases hlt : n < 256
      · have hlt' : (n : Int) < 256 := by omega
        by_cases hfull : most ≤ u1.length
        · have HFu : Hid (most ≤ u1.length) := hfull
          clear hfull
          go_wp2_with fail
          refine (rput_new B s sb a len cap z mo most HM.out v1 q u1 _ _ hS1 HFu.out).mono ?_
          rintro e w3 ⟨rfl, h3, M3⟩
          go_wp2
          go_ret
          exact ⟨v1, _, _, 4, h3, M1.trans M3, .inr ⟨by show _ = _; rw [← hcd.out]; exact codedE_done (by unfold codedS; rw [hE.out]; simp only; rw [if_neg (by omega), if_pos hlt, if_pos HFu.out]), by omega, rfl⟩⟩
        · have HFu : Hid (¬ most ≤ u1.length) := hfull
          clear hfull
          go_wp2_with fail
          refine (rput_yes B s sb a len cap z mo most HM.out hml 0 v1 q u1 (n : Nat) (by omega) (by omega) _ hS1 HFu.out).mono ?_
          rintro e w3 ⟨rfl, v3, h3, M3⟩
          have H3 : Hid (RFl w3 B s sb a len cap z mo 0 v3 q (u1 ++ [((n : Nat) : Int)])) := h3
          have M3' := M1.trans M3
          clear h3 hS1
          go_wp2
          refine ⟨⟨v3, q, u1 ++ [((n : Nat) : Int)], H3.out, M3', ?_⟩, ?_⟩
          · show _ = _
            rw [← hcd.out]; exact (codedE_more (by unfold codedS; rw [hE.out]; simp only; rw [if_neg (by omega), if_pos hlt, if_neg HFu.out])).symm
          · rw [H3.out.pOf, HP.out]; have := HPQ.out; omega
      · have hlt' : ¬ (n : Int) < 256 := by omega
        by_cases h256 : n = 256
        · subst h256
          go_wp2
          go_ret
          exact ⟨v1, q, u1, 0, hS1, M1, .inl ⟨by show _ = _; rw [← hcd.out]; exact codedE_done (by unfold codedS; rw [hE.out]; simp), rfl, rfl⟩⟩
        · have h256' : ¬ (n : Int) = 256 := by omega
          have hn256 : 256 < n := by omega
          by_cases h285 : 285 < n
          · have h285' : (285 : Int) < n := by omega
            go_wp2_with fail
            refine (fails_new B s sb a len cap z mo v1 q u1 2 _ hS1).mono ?_
            rintro e w3 ⟨rfl, h3, M3⟩
            go_wp2
            go_ret
            exact ⟨v1, _, _, 2, h3, M1.trans M3, .inr ⟨by show _ = _; rw [← hcd.out]; exact coded_err hE.out hn256 (again_len (by unfold lengthE; rw [if_pos h285])), by omega, rfl⟩⟩
          · have h285' : ¬ (285 : Int) < n := by omega
            have hKB := lenK_le n (by omega)
            have hBB := lenB_le n (by omega)
            have HLen := len_all (z := z) (lim := 8 * len) (p := q) (s := n) (by omega) (by omega) HPQ.out.2
            have hA0 : Hid (257 ≤ n ∧ n ≤ 285) := ⟨by omega, by omega⟩
            go_wp2_with fail
            refine (rlen_all n hA0.out.1 hA0.out.2 _).mono ?_
            rintro e wx ⟨rfl, hwx⟩
            subst hwx
            obtain ⟨K, hK⟩ : ∃ K, Hid (lenK n = K) := ⟨_, rfl⟩
            obtain ⟨Bn, hBn⟩ : ∃ Bn, Hid (lenB n = Bn) := ⟨_, rfl⟩
            rw [hK.out, hBn.out] at HLen ⊢
            rw [hK.out] at hKB
            rw [hBn.out] at hBB
            go_wp2_with fail
            refine (rftake_any B s sb a len cap z mo 0 v1 q u1 K (by omega) _ hS1).mono ?_
            rintro e w2 ⟨x, q2, E2, rfl, hS2, hM2, htk⟩
            have M2 := M1.trans hM2
            have d3 : w2.cell? ⟨s, 3, none⟩ = some (.int .i64 (E2 : Nat)) := blk_cell hS2.obj 3
            clear hS1 c3 M1 hM2
            by_cases hq : q + K ≤ 8 * len
            · obtain ⟨_, hx, rfl, rfl⟩ : q + K ≤ 8 * len ∧ x = takev z q K ∧ q2 = q + K ∧ E2 = 0 := by
                rcases htk with hb | hb
                · exact hb
                · omega
              replace d3 : w2.cell? ⟨s, 3, none⟩ = some (.int .i64 0) := d3
              have lx : x < 64 := by
                rw [hx]
                have h1 := takev_lt z q K
                have h2 : 2 ^ K ≤ 2 ^ 6 := Nat.pow_le_pow_right (by omega) hKB
                omega
              rw [if_pos hq, ← hx] at HLen
              have HL : Hid (lengthE z (8 * len) q n = .ok (Bn + x, q + K)) := HLen
              have HQ : Hid (q + K ≤ 8 * len) := hq
              obtain ⟨nn, hnn⟩ : ∃ nn, Hid (Bn + x = nn) := ⟨_, rfl⟩
              have hnn' : (Bn : Int) + (x : Int) = (nn : Nat) := by rw [← hnn.out]; omega
              have hnnl : nn ≤ 400 := by rw [← hnn.out]; omega
              rw [hnn.out] at HL
              clear htk hx HLen hq
              have D2 := hD.moves M2
              go_wp2_with fail
              clear hnn'
              refine (rsym_al B s sb a len cap z mo v1 (q + K) u1 dc dg dl capd M D _ hS2 D2).mono ?_
              rintro e w3 ⟨q3, E3, t3, hS3, hM3, rfl, hcase3⟩
              have M3 := M2.trans hM3
              have e3 : w3.cell? ⟨s, 3, none⟩ = some (.int .i64 (E3 : Nat)) := blk_cell hS3.obj 3
              clear hS2 d3 D2 hM3 M2
              rcases hcase3 with ⟨rfl, dn, rfl, hE3⟩ | ⟨rfl, hpos3, hE3⟩
              · replace e3 : w3.cell? ⟨s, 3, none⟩ = some (.int .i64 0) := e3
                have hok3 := symE_ok hE3.out
                have hdM : dn < M := hok3.2.2
                have HQ3 : Hid (q + K < q3 ∧ q3 ≤ 8 * len) := ⟨hok3.1, hok3.2.1⟩
                clear hok3
                by_cases h29 : 29 < dn
                · have h29' : (29 : Int) < dn := by omega
                  go_wp2_with fail
                  refine (fails_new B s sb a len cap z mo v1 q3 u1 2 _ hS3).mono ?_
                  rintro e w4 ⟨rfl, h4, M4⟩
                  go_wp2
                  go_ret
                  exact ⟨v1, _, _, 2, h4, M3.trans M4, .inr ⟨by show _ = _; rw [← hcd.out]; exact coded_err hE.out hn256 (again_dist HL.out (dist_far hE3.out h29)), by omega, rfl⟩⟩
                · have h29' : ¬ (29 : Int) < dn := by omega
                  have HDis := dist_all hE3.out (by omega)
                  have hfl := farv_le dn (by omega)
                  have hsl := sumD_le29 dn (by omega)
                  have hd0 : Hid (dn ≤ 29) := by show _ ≤ _; omega
                  go_wp2_with fail
                  refine (rdistance_any dn hd0.out _).mono ?_
                  rintro e wx ⟨rfl, hwx⟩
                  subst hwx
                  obtain ⟨J, hJ⟩ : ∃ J, Hid (farv dn = J) := ⟨_, rfl⟩
                  obtain ⟨Sd, hSd⟩ : ∃ Sd, Hid (sumD dn = Sd) := ⟨_, rfl⟩
                  have hS0 : 0 < Sd := by
                    rw [← hSd.out]
                    have : ∀ k, 0 < sumD k := fun k => by induction k with | zero => decide | succ k ih => exact Nat.lt_of_lt_of_le ih (Nat.le_add_right _ _)
                    exact this dn
                  rw [hJ.out, hSd.out] at HDis ⊢
                  rw [hJ.out] at hfl
                  rw [hSd.out] at hsl
                  go_wp2_with fail
                  refine (rftake_any B s sb a len cap z mo 0 v1 q3 u1 J (by omega) _ hS3).mono ?_
                  rintro e w4 ⟨y, q4, E4, rfl, hS4, hM4, htk4⟩
                  have M4 := M3.trans hM4
                  have f3 : w4.cell? ⟨s, 3, none⟩ = some (.int .i64 (E4 : Nat)) := blk_cell hS4.obj 3
                  clear hS3 e3 M3 hM4
                  by_cases hq4 : q3 + J ≤ 8 * len
                  · obtain ⟨_, hy, rfl, rfl⟩ : q3 + J ≤ 8 * len ∧ y = takev z q3 J ∧ q4 = q3 + J ∧ E4 = 0 := by
                      rcases htk4 with hb | hb
                      · exact hb
                      · omega
                    replace f3 : w4.cell? ⟨s, 3, none⟩ = some (.int .i64 0) := f3
                    have ly : y < 8192 := by
                      rw [hy]
                      have h1 := takev_lt z q3 J
                      have h2 : 2 ^ J ≤ 2 ^ 13 := Nat.pow_le_pow_right (by omega) hfl
                      omega
                    rw [if_pos hq4, ← hy] at HDis
                    have HQ4 : Hid (q3 + J ≤ 8 * len) := hq4
                    obtain ⟨d, hd⟩ : ∃ d, Hid (Sd + y = d) := ⟨_, rfl⟩
                    have hdd' : (Sd : Int) + (y : Int) = (d : Nat) := by rw [← hd.out]; omega
                    have hd1 : 0 < d := by rw [← hd.out]; omega
                    have hdl : d ≤ 70000 := by rw [← hd.out]; omega
                    rw [hd.out] at HDis
                    have HD : Hid (distE D M z (8 * len) (q + K) = .ok (d, q3 + J)) := HDis
                    clear htk4 hy HDis hq4
                    obtain ⟨a1, cap1, hv⟩ := hS4.own.form
                    have o1 : w4.cell? ⟨s, 1, none⟩ = some (.slice a1 u1.length cap1) := by rw [← hv]; exact blk_cell hS4.obj 1
                    have hf := hS4.fit
                    have HV : Hid (v1 = .slice a1 u1.length cap1) := hv
                    clear hv
                    by_cases hfar : u1.length < d
                    · have hfar' : (u1.length : Int) < d := by omega
                      go_wp2_with fail
                      refine (fails_new B s sb a len cap z mo v1 (q3 + J) u1 2 _ hS4).mono ?_
                      rintro e w5 ⟨rfl, h5, M5⟩
                      go_wp2
                      go_ret
                      exact ⟨v1, _, _, 2, h5, M4.trans M5, .inr ⟨by show _ = _; rw [← hcd.out]; exact coded_err hE.out hn256 (again_far HL.out HD.out hfar), by omega, rfl⟩⟩
                    · have hfar' : ¬ (u1.length : Int) < d := by omega
                      have HFar : Hid (¬ u1.length < d) := hfar
                      have hdu0 : d ≤ u1.length := by omega
                      go_wp2_with fail
                      clear hdd' hfar hfar' f3 o1 hf HV
                      obtain ⟨wz, hwz⟩ : ∃ wz, wz = wr := ⟨_, rfl⟩
                      subst hwz
                      go_loopw [13] (fun j wq => ∃ (i : Nat) (v2 : Value) (u2 : List Int), i ≤ nn ∧ j = .int .i64 i ∧ RFl wq B s sb a len cap z mo 0 v2 (q3 + J) u2 ∧ Moves s sb v v2 w wq ∧ Hid (cpE most d (nn - i) u2 = cpE most d nn u1) ∧ d ≤ u2.length) (fun j _ => nn - (intOf j).toNat)
                      case atStart => exact ⟨0, v1, u1, by omega, rfl, hS4, M4, rfl, hdu0⟩
                      case round =>
                        clear hS4 M4 hdu0
                        obtain ⟨i, v2, u2, hi, rfl, hS5, hM5, hcp, hdu⟩ := hrel
                        by_cases hin : i < nn
                        · have hin' : (i : Int) < nn := by omega
                          obtain ⟨g1, cap2, rfl, hO⟩ := hS5.own.own (by omega)
                          have hf := hS5.fit
                          have e1 : wr.cell? ⟨s, 1, none⟩ = some (.slice (some ⟨g1, 0, none⟩) u2.length cap2) := blk_cell hS5.obj 1
                          have e2 : wr.cell? ⟨g1, u2.length - d, none⟩ = some (.int .u8 (u2.getD (u2.length - d) 0)) := hO.cell (by omega)
                          obtain ⟨c, hc⟩ : ∃ c, Hid (u2.getD (u2.length - d) 0 = c) := ⟨_, rfl⟩
                          rw [hc.out] at e2
                          have hby := hS5.byte (u2.length - d)
                          rw [hc.out] at hby
                          have hX : (u2.length : Int) - (d : Int) = ((u2.length - d : Nat) : Int) := by omega
                          have hXl : u2.length - d < u2.length := by omega
                          obtain ⟨X, hXe⟩ : ∃ X, Hid (u2.length - d = X) := ⟨_, rfl⟩
                          rw [hXe.out] at hX hXl e2
                          have hlc := hO.lc.1
                          have hcm := hO.lc.2
                          unfold maxLen at hcm
                          have hwin := Ext.inh wr
                          have d1 := fun k : Ext wr => Ext.cell e1 k
                          have d2 := fun k : Ext wr => Ext.cell e2 k
                          have HSr : Hid (RFl wr B s sb a len cap z mo 0 (.slice (some ⟨g1, 0, none⟩) u2.length cap2) (q3 + J) u2) := hS5
                          clear hS5 hO
                          go_wp2_with fail
                          refine region_ext_cone 14 (by kernel_rfl) (by kernel_rfl) ?_
                          simp only [List.take_succ_cons, List.take_zero, List.drop_succ_cons, List.drop_zero]
                          repeat (go_big_quiet_step (fail))
                          refine wpQuiet_nil ?_
                          rintro _ ⟨k, rfl⟩
                          have S6 := HSr.out.below k.h
                          have M6 := hM5.trans (Moves.of_below k.h)
                          clear d1 d2 hwin e1 e2 HSr hM5
                          by_cases hfull : most ≤ u2.length
                          · have HFu : Hid (most ≤ u2.length) := hfull
                            clear hfull
                            go_wp2_with fail
                            refine (rput_new B s sb a len cap z mo most HM.out _ (q3 + J) u2 c _ S6 HFu.out).mono ?_
                            rintro e w7 ⟨rfl, h7, M7⟩
                            go_wp2
                            go_ret
                            exact ⟨_, _, _, 4, h7, M6.trans M7, .inr ⟨by show _ = _; rw [← hcd.out]; exact coded_err hE.out hn256 (again_cpe HL.out HD.out HFar.out (by rw [← hcp.out]; exact cpE_full HFu.out (by omega))), by omega, rfl⟩⟩
                          · have HFu : Hid (¬ most ≤ u2.length) := hfull
                            clear hfull
                            go_wp2_with fail
                            refine (rput_yes B s sb a len cap z mo most HM.out hml 0 _ (q3 + J) u2 c hby.1 hby.2 _ S6 HFu.out).mono ?_
                            rintro e w7 ⟨rfl, v7, h7, M7⟩
                            have H7 : Hid (RFl w7 B s sb a len cap z mo 0 v7 (q3 + J) (u2 ++ [c])) := h7
                            have M7' := M6.trans M7
                            clear h7 S6 M6 M7
                            go_wp2
                            refine ⟨⟨i + 1, v7, u2 ++ [c], by omega, by go_num, H7.out, M7', ?_, by simp; omega⟩, by simp [intOf]; omega⟩
                            show _ = _
                            rw [← hcp.out, cpE_step HFu.out (show 0 < nn - i by omega), hc.out, show nn - (i + 1) = nn - i - 1 by omega]
                        · have hin' : ¬ (i : Int) < nn := by omega
                          have HC : Hid (cpE most d nn u1 = .ok u2) := by
                            show _ = _
                            rw [← hcp.out, show nn - i = 0 by omega]; rfl
                          have H5 : Hid (RFl wr B s sb a len cap z mo 0 v2 (q3 + J) u2) := hS5
                          clear hcp hS5
                          go_wp2
                          refine ⟨⟨v2, q3 + J, u2, H5.out, hM5, ?_⟩, ?_⟩
                          · show _ = _
                            rw [← hcd.out]; exact (coded_go hE.out hn256 (again_cp HL.out HD.out HFar.out HC.out)).symm
                          · rw [H5.out.pOf, HP.out]; have := HPQ.out; have := HQ3.out; have := HQ4.out; omega
                  · have hE4 : E4 = 3 := by
                      rcases htk4 with hb | ⟨_, _, _, hb⟩
                      · omega
                      · rw [hb, if_pos rfl]
                    subst hE4
                    rw [if_neg hq4] at HDis
                    have HD : Hid (distE D M z (8 * len) (q + K) = .error 3) := HDis
                    clear htk4 hq4 HDis
                    go_wp2
                    go_ret
                    exact ⟨v1, _, _, 3, hS4, M4, .inr ⟨by show _ = _; rw [← hcd.out]; exact coded_err hE.out hn256 (again_dist HL.out HD.out), by omega, rfl⟩⟩
              · have hk0 : ¬ (E3 : Int) = 0 := by omega
                go_wp2
                go_ret
                exact ⟨v1, _, _, E3, hS3, M3, .inr ⟨by show _ = _; rw [← hcd.out]; exact coded_err hE.out hn256 (again_dist HL.out (by unfold distE; rw [hE3.out])), hpos3, rfl⟩⟩
            · have hE2 : E2 = 3 := by
                rcases htk with hb | ⟨_, _, _, hb⟩
                · omega
                · rw [hb, if_pos rfl]
              subst hE2
              rw [if_neg hq] at HLen
              have HL : Hid (lengthE z (8 * len) q n = .error 3) := HLen
              clear htk hq HLen
              go_wp2
              go_ret
              exact ⟨v1, _, _, 3, hS2, M2, .inr ⟨by show _ = _; rw [← hcd.out]; exact coded_err hE.out hn256 (again_len HL.out), by omega, rfl⟩⟩
    · have hk0 : ¬ (E1 : Int) = 0 := by omega
      go_wp2
      go_ret
      exact ⟨v1, _, _, E1, hS1, M1, .inr ⟨by show _ = _; rw [← hcd.out]; exact codedE_done (by unfold codedS; rw [hE.out]), hpos, rfl⟩⟩
end Go.Proofs.YtahibacjaoohiaaDoor

namespace Go.Proofs.YtahibacjaoohiaaDoor
open Go.RowKit

theorem RFl.new {w w1 w2 : World} {B s sb : Nat} {a : Option Addr} {len cap : Nat} {z : Nat → Nat} {mo : Int} {E0 E : Nat} {v : Value} {p q : Nat} {out : List Int} {k : Nat} (h0 : RFl w B s sb a len cap z mo E0 v p out) (h1 : RFl w1 B s sb a len cap z mo E v q out) (hk : Kept (fun i => i = k) w1 w2) (hn : w.heap.size ≤ k) : RFl w2 B s sb a len cap z mo E v q out := by
  have hl : ∀ i, Mine s sb v i → ¬ (i = k) := fun i e e2 => by have := (h0.mine e).2; omega
  exact ⟨hk.blk h1.obj (hl s (.inl rfl)), h1.bits.kept hk (hl sb (.inr (.inl rfl))) (fun hl b off ea e => by have := h0.far b off hl ea; have := h0.sz; omega), h1.own.kept' hk (fun i hi => hl i (.inr (.inr hi))), h1.byte, h1.fit, h1.far, h1.bs, h1.bb, Nat.le_trans h1.sz hk.size⟩
theorem RFl.row {w w1 w2 : World} {B s sb : Nat} {a : Option Addr} {len cap : Nat} {z : Nat → Nat} {mo : Int} {E0 E : Nat} {v : Value} {p q : Nat} {out : List Int} {u u' : Value} {acc : List Int} (h0 : RFl w B s sb a len cap z mo E0 v p out) (h1 : RFl w1 B s sb a len cap z mo E v q out) (M1 : Moves s sb v v w w1) (hO : OwnV w1 w.heap.size 3 .i64 u acc) (m : RowM u u' w1 w2) :
    RFl w2 B s sb a len cap z mo E v q out ∧ Moves s sb v v w w2 := by
  have hu : ∀ k, u.ownBlock = some k → w.heap.size ≤ k := fun k hk => (World.ownsRow.lt hO k hk).1
  have M2 : Moves s sb v v w w2 := ⟨⟨m.kept.os.trans M1.kept.os, m.kept.tape.trans M1.kept.tape, m.kept.output.trans M1.kept.output, Nat.le_trans M1.kept.size m.kept.size, fun k hk ha => by
    rw [m.kept.block k (Nat.lt_of_lt_of_le hk M1.kept.size) (fun e => by have := hu k e; omega)]; exact M1.kept.block k hk ha⟩, .inl rfl⟩
  have ns : ∀ k, k < w.heap.size → ¬ (u.ownBlock = some k) := fun k hk e => by have := hu k e; omega
  exact ⟨⟨m.kept.blk h1.obj (ns s (blk_lt h0.obj)), h1.bits.kept m.kept (ns sb (blk_lt h0.bits.obj)) (fun hl b off ea => ns b (by have := h0.far b off hl ea; have := h0.sz; omega)), h1.own.kept' m.kept (fun i hi => ns i (h0.mine (.inr (.inr hi))).2), h1.byte, h1.fit, h1.far, h1.bs, h1.bb, Nat.le_trans h1.sz m.kept.size⟩, M2⟩
theorem OwnV.rmoves {w w1 w2 : World} {B s sb : Nat} {a : Option Addr} {len cap : Nat} {z : Nat → Nat} {mo : Int} {E0 : Nat} {v : Value} {p : Nat} {out : List Int} {u : Value} {acc : List Int} (h0 : RFl w B s sb a len cap z mo E0 v p out) (hO : OwnV w1 w.heap.size 3 .i64 u acc) (M : Moves s sb v v w1 w2) : OwnV w2 w.heap.size 3 .i64 u acc :=
  hO.kept' M.kept (fun i hi e => by have := (h0.mine e).2; have := (World.ownsRow.lt hO i hi).1; omega)
theorem rftake_y (B s sb : Nat) (a : Option Addr) (len cap : Nat) (z : Nat → Nat) (mo : Int) (v : Value) (p : Nat) (out : List Int) (n : Nat) (hn : n ≤ 24) (w : World) (h : RFl w B s sb a len cap z mo 0 v p out) (hp : p + n ≤ 8 * len) :
    Calls Tryd.prog 30 #[.pointer (some ⟨s, 0, none⟩), .int .i64 (n : Nat)] w fun e w' => e = .returned (.int .i64 (takev z p n : Nat)) ∧ RFl w' B s sb a len cap z mo 0 v (p + n) out ∧ Moves s sb v v w w' :=
  (rftake_any B s sb a len cap z mo 0 v p out n hn w h).mono (by
    rintro e w' ⟨t, p', E', rfl, hF, hM, ⟨_, rfl, rfl, rfl⟩ | ⟨hx, _⟩⟩
    · exact ⟨rfl, hF, hM⟩
    · exact absurd hp hx)
theorem rftake_n (B s sb : Nat) (a : Option Addr) (len cap : Nat) (z : Nat → Nat) (mo : Int) (v : Value) (p : Nat) (out : List Int) (n : Nat) (hn : n ≤ 24) (w : World) (h : RFl w B s sb a len cap z mo 0 v p out) (hp : ¬ p + n ≤ 8 * len) :
    Calls Tryd.prog 30 #[.pointer (some ⟨s, 0, none⟩), .int .i64 (n : Nat)] w fun e w' => e = .returned (.int .i64 0) ∧ RFl w' B s sb a len cap z mo 3 v p out ∧ Moves s sb v v w w' :=
  (rftake_any B s sb a len cap z mo 0 v p out n hn w h).mono (by
    rintro e w' ⟨t, p', E', rfl, hF, hM, ⟨hx, _⟩ | ⟨_, rfl, rfl, rfl⟩⟩
    · exact absurd hx hp
    · exact ⟨rfl, hF, hM⟩)

/-- What a block with codes of its own says. -/
def ownCE (z : Nat → Nat) (lim most p : Nat) (out : List Int) : Except Nat St := match ownE z lim p with
    | .error e => .error e
    | .ok x => codedE x.1.L x.1.N x.1.D x.1.M z lim most (x.2, out)
def ownF (H Dn : Nat) (z : Nat → Nat) (lim most : Nat) (out : List Int) : Except Nat St → Except Nat St
  | .error e => .error e
  | .ok st => match pairE st.2 H Dn with
    | .error e => .error e
    | .ok c => codedE c.L c.N c.D c.M z lim most (st.1, out)
theorem own_short {z : Nat → Nat} {lim most p : Nat} {out : List Int} (h : ¬ p + 14 ≤ lim) : ownCE z lim most p out = .error 3 := by
  unfold ownCE ownE; rw [if_neg h]
theorem own_big {z : Nat → Nat} {lim most p H Dn : Nat} {out : List Int} (h : p + 14 ≤ lim) (hH : 257 + takev z p 5 = H) (hD : 1 + takev z (p + 5) 5 = Dn) (hb : 286 < H ∨ 30 < Dn) : ownCE z lim most p out = .error 2 := by
  unfold ownCE ownE; rw [if_pos h, if_pos (by omega)]
theorem own_lens_short {z : Nat → Nat} {lim most p H Dn C4 : Nat} {out : List Int} (h : p + 14 ≤ lim) (hH : 257 + takev z p 5 = H) (hD : 1 + takev z (p + 5) 5 = Dn) (hC : 4 + takev z (p + 10) 4 = C4) (hb : ¬ (286 < H ∨ 30 < Dn)) (h2 : ¬ p + 14 + 3 * C4 ≤ lim) : ownCE z lim most p out = .error 3 := by
  unfold ownCE ownE; rw [if_pos h, if_neg (by omega), if_neg (by omega)]
theorem own_lens_bad {z : Nat → Nat} {lim most p H Dn C4 : Nat} {out : List Int} (h : p + 14 ≤ lim) (hH : 257 + takev z p 5 = H) (hD : 1 + takev z (p + 5) 5 = Dn) (hC : 4 + takev z (p + 10) 4 = C4) (hb : ¬ (286 < H ∨ 30 < Dn)) (h2 : p + 14 + 3 * C4 ≤ lim) (h3 : ¬ okc (shL z (p + 14) C4) 19 = true) : ownCE z lim most p out = .error 2 := by
  have e : takev z (p + 10) 4 + 4 = C4 := by omega
  unfold ownCE ownE; rw [if_pos h, if_neg (by omega), if_pos (by omega), e, if_neg h3]
theorem own_lens_ok {z : Nat → Nat} {lim most p H Dn C4 N : Nat} {out : List Int} (h : p + 14 ≤ lim) (hH : 257 + takev z p 5 = H) (hD : 1 + takev z (p + 5) 5 = Dn) (hC : 4 + takev z (p + 10) 4 = C4) (hN : H + Dn = N) (hb : ¬ (286 < H ∨ 30 < Dn)) (h2 : p + 14 + 3 * C4 ≤ lim) (h3 : okc (shL z (p + 14) C4) 19 = true) : ownCE z lim most p out = ownF H Dn z lim most out (lensE (shL z (p + 14) C4) N z lim (p + 14 + 3 * C4, [])) := by
  have e : takev z (p + 10) 4 + 4 = C4 := by omega
  have e2 : takev z p 5 + 257 = H := by omega
  have e3 : takev z (p + 5) 5 + 1 = Dn := by omega
  unfold ownCE ownE; rw [if_pos h, if_neg (by omega), if_pos (by omega), e, e2, e3, hN, if_pos h3]
  cases lensE (shL z (p + 14) C4) N z lim (p + 14 + 3 * C4, []) with
  | error e => rfl
  | ok st =>
    show _ = ownF H Dn z lim most out (.ok st)
    unfold ownF
    simp only
    cases pairE st.2 H Dn with
    | error e => rfl
    | ok c => rfl
theorem pair_zero {acc : List Int} {H Dn : Nat} (h : acc.getD 256 0 = 0) : pairE acc H Dn = .error 2 := by unfold pairE; rw [if_pos h]
theorem pair_bad1 {acc : List Int} {H Dn : Nat} (hy : ¬ acc.getD 256 0 = 0) (h : ¬ okc (nthL acc 0) H = true) : pairE acc H Dn = .error 2 := by unfold pairE; rw [if_neg hy, if_neg h]
theorem pair_bad2 {acc : List Int} {H Dn : Nat} (hy : ¬ acc.getD 256 0 = 0) (h : okc (nthL acc 0) H = true) (h2 : ¬ okc (nthL acc H) Dn = true) : pairE acc H Dn = .error 2 := by unfold pairE; rw [if_neg hy, if_pos h, if_neg h2]
theorem pair_ok {acc : List Int} {H Dn : Nat} (hy : ¬ acc.getD 256 0 = 0) (h : okc (nthL acc 0) H = true) (h2 : okc (nthL acc H) Dn = true) : pairE acc H Dn = .ok ⟨nthL acc 0, H, nthL acc H, Dn⟩ := by unfold pairE; rw [if_neg hy, if_pos h, if_pos h2]
theorem ownF_err {H Dn : Nat} {z : Nat → Nat} {lim most e q : Nat} {out acc : List Int} (h : pairE acc H Dn = .error e) : ownF H Dn z lim most out (.ok (q, acc)) = .error e := by unfold ownF; simp only; rw [h]
theorem ownF_ok {H Dn : Nat} {z : Nat → Nat} {lim most q : Nat} {out acc : List Int} {c : Pr} (h : pairE acc H Dn = .ok c) : ownF H Dn z lim most out (.ok (q, acc)) = codedE c.L c.N c.D c.M z lim most (q, out) := by unfold ownF; simp only; rw [h]
theorem lens_sym {A : Nat → Nat} {count : Nat} {z : Nat → Nat} {lim p e : Nat} {acc : List Int} (hc : acc.length < count) (hE : symE A 19 z lim p = .error e) : lensE A count z lim (p, acc) = .error e :=
  lensE_done (by unfold lensS; rw [if_neg (by simp; omega), hE])
theorem lens_run {A : Nat → Nat} {count : Nat} {z : Nat → Nat} {lim p e n q : Nat} {acc : List Int} (hc : acc.length < count) (hE : symE A 19 z lim p = .ok (n, q)) (hr : runE z lim q n acc = .error e) : lensE A count z lim (p, acc) = .error e :=
  lensE_done (by unfold lensS; rw [if_neg (by simp; omega), hE]; simp only; rw [hr])
theorem lens_big {A : Nat → Nat} {count : Nat} {z : Nat → Nat} {lim p n q t q2 : Nat} {l : Int} {acc : List Int} (hc : acc.length < count) (hE : symE A 19 z lim p = .ok (n, q)) (hr : runE z lim q n acc = .ok (l, t, q2)) (hb : count < acc.length + t) : lensE A count z lim (p, acc) = .error 2 :=
  lensE_done (by unfold lensS; rw [if_neg (by simp; omega), hE]; simp only; rw [hr]; simp only; rw [if_pos (by omega)])
theorem lens_more {A : Nat → Nat} {count : Nat} {z : Nat → Nat} {lim p n q t q2 : Nat} {l : Int} {acc : List Int} (h15 : ∀ y ∈ acc, 0 ≤ y ∧ y ≤ 15) (hc : acc.length < count) (hE : symE A 19 z lim p = .ok (n, q)) (hr : runE z lim q n acc = .ok (l, t, q2)) (hb : ¬ count < acc.length + t) : lensE A count z lim (p, acc) = lensE A count z lim (q2, acc ++ List.replicate t l) :=
  lensE_more (by unfold lensS; rw [if_neg (by simp; omega), hE]; simp only; rw [hr]; simp only; rw [if_neg (by omega)]) h15
theorem lens_end {A : Nat → Nat} {count : Nat} {z : Nat → Nat} {lim p : Nat} {acc : List Int} (hc : ¬ acc.length < count) : lensE A count z lim (p, acc) = .ok (p, acc) :=
  lensE_done (by unfold lensS; rw [if_pos (by simp; omega)])
theorem h15_app {acc : List Int} {t : Nat} {l : Int} (h : ∀ y ∈ acc, 0 ≤ y ∧ y ≤ 15) (hl : 0 ≤ l ∧ l ≤ 15) : ∀ y ∈ acc ++ List.replicate t l, 0 ≤ y ∧ y ≤ 15 := fun y hy => by
  simp at hy
  rcases hy with hy | hy
  · exact h y hy
  · rw [hy.2]; exact hl

def z19 : Array Value := #[.int .i64 0, .int .i64 0, .int .i64 0, .int .i64 0, .int .i64 0, .int .i64 0, .int .i64 0, .int .i64 0, .int .i64 0, .int .i64 0, .int .i64 0, .int .i64 0, .int .i64 0, .int .i64 0, .int .i64 0, .int .i64 0, .int .i64 0, .int .i64 0, .int .i64 0]
def ord19 : Array Value := #[.int .i64 16, .int .i64 17, .int .i64 18, .int .i64 0, .int .i64 8, .int .i64 7, .int .i64 9, .int .i64 6, .int .i64 10, .int .i64 5, .int .i64 11, .int .i64 4, .int .i64 12, .int .i64 3, .int .i64 13, .int .i64 2, .int .i64 14, .int .i64 1, .int .i64 15]
theorem ord19_get (k : Nat) (h : k < 19) : ord19[k]? = some (.int .i64 ((ord k : Nat) : Int)) := by
  rcases (show k = 0 ∨ k = 1 ∨ k = 2 ∨ k = 3 ∨ k = 4 ∨ k = 5 ∨ k = 6 ∨ k = 7 ∨ k = 8 ∨ k = 9 ∨ k = 10 ∨ k = 11 ∨ k = 12 ∨ k = 13 ∨ k = 14 ∨ k = 15 ∨ k = 16 ∨ k = 17 ∨ k = 18 by omega) with rfl | rfl | rfl | rfl | rfl | rfl | rfl | rfl | rfl | rfl | rfl | rfl | rfl | rfl | rfl | rfl | rfl | rfl | rfl <;> rfl
theorem size94 : (Tryd.prog.info? 94).map (·.size) = some 19 := by kernel_rfl
theorem one19 : (#[.int .i64 16, .int .i64 17, .int .i64 18, .int .i64 0, .int .i64 8, .int .i64 7, .int .i64 9, .int .i64 6, .int .i64 10, .int .i64 5, .int .i64 11, .int .i64 4, .int .i64 12, .int .i64 3, .int .i64 13, .int .i64 2, .int .i64 14, .int .i64 1, .int .i64 15] : Array Value).all (·.oneCell') = true := by simp [Value.oneCell']
theorem put19 : putA z19 0 (#[.int .i64 16, .int .i64 17, .int .i64 18, .int .i64 0, .int .i64 8, .int .i64 7, .int .i64 9, .int .i64 6, .int .i64 10, .int .i64 5, .int .i64 11, .int .i64 4, .int .i64 12, .int .i64 3, .int .i64 13, .int .i64 2, .int .i64 14, .int .i64 1, .int .i64 15] : Array Value).toList = ord19 := by rfl
end Go.Proofs.YtahibacjaoohiaaDoor
