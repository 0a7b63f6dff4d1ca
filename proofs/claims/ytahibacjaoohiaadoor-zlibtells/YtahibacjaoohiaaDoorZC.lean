/-
  The reference's Stored: the same blocks.
  The reference's Open.
  The reference's Lay.
-/
import Derived.Test.YtahibacjaoohiaaDoorSto
import Derived.Test.YtahibacjaoohiaaDoorZB
import Derived.Test.YtahibacjaoohiaaDoorRE
namespace Go.Proofs.YtahibacjaoohiaaDoor
open Go.RowKit

/-- The first of a block's two appends, upon a row that may be nil. -/
theorem sto_firstV {w wr : World} {v : Value} {acc : List Int} (hO : OwnV wr w.heap.size 5 .u8 v acc) (hB : Below w.heap.size w wr) (x0 x1 x2 x3 x4 : Int) (hl : acc.length ≤ 149000000000000) :
    ∃ N1, Hid (N1 = (acc ++ [x0, x1, x2, x3, x4]).length) ∧ Hid (∃ g' cap' w', (Builtin.append_ #[23, 23] 23 #[v, .slice (some ⟨wr.heap.size, 0, none⟩) 5 5]).run Tryd.prog (wr.alloc (.cells #[.int .u8 x0, .int .u8 x1, .int .u8 x2, .int .u8 x3, .int .u8 x4] 5)) = .ok (.slice (some ⟨g', 0, none⟩) N1 cap') w' ∧
      (Own w' w.heap.size 5 .u8 g' cap' (acc ++ [x0, x1, x2, x3, x4]) ∧ Below w.heap.size w w')) := by
  refine ⟨_, rfl, ?_⟩
  have hb := hB.size
  have hblk := blk_new wr (.cells #[.int .u8 x0, .int .u8 x1, .int .u8 x2, .int .u8 x3, .int .u8 x4] 5)
  have hO2 := hO.alloc (.cells #[.int .u8 x0, .int .u8 x1, .int .u8 x2, .int .u8 x3, .int .u8 x4] 5)
  have hB2 : Below w.heap.size w (wr.alloc (.cells #[.int .u8 x0, .int .u8 x1, .int .u8 x2, .int .u8 x3, .int .u8 x4] 5)) := hB.alloc hB.size _
  obtain ⟨g', cap', w', hr, ho, hg⟩ := run_append_w hO2 ⟨wr.heap.size, 0, none⟩ 5 5 [.int .u8 x0, .int .u8 x1, .int .u8 x2, .int .u8 x3, .int .u8 x4] rfl
    (fun j u hj => World.news_of_block hblk j u (by simpa using hj))
    (by intro u hu; simp at hu; rcases hu with rfl | rfl | rfl | rfl | rfl <;> rfl) (by omega) (by omega) (by simp; omega)
  refine ⟨g', cap', w', ?_, ?_, hO2.grown hB2 hg (Nat.le_refl _) (Nat.le_refl _)⟩
  · rw [hr, List.length_append]; rfl
  · unfold Own; rw [List.length_append, List.map_append]; exact ho
/-- The second. -/
theorem sto_secondV {w w1 : World} {g1 c1 n c' off : Nat} {acc : List Int} {a' : Option Addr} {z : Nat → Nat} (b1 : Below w.heap.size w w1) (hO : Own w1 w.heap.size 5 .u8 g1 c1 acc) (hL : Lies w a' n c' fun i => z (off + i)) (hl : acc.length + n ≤ 149000000000000) (N1 : Nat) (hN1 : Hid (N1 = acc.length)) :
    ∃ N2, Hid (N2 = (acc ++ (List.range n).map fun i => ((z (off + i) : Nat) : Int)).length) ∧ Hid (∃ g' cap' w', (Builtin.append_ #[23, 23] 23 #[.slice (some ⟨g1, 0, none⟩) N1 c1, .slice a' n c']).run Tryd.prog w1 = .ok (.slice (some ⟨g', 0, none⟩) N2 cap') w' ∧
      (Own w' w.heap.size 5 .u8 g' cap' (acc ++ (List.range n).map fun i => ((z (off + i) : Nat) : Int)) ∧ Below w.heap.size w w')) := by
  refine ⟨_, rfl, ?_⟩
  have hN := hN1.out
  subst hN
  have L1 := hL.below b1 (Nat.le_refl _)
  obtain ⟨g', cap', w', h1, h2, h3⟩ := hO.appendB b1.size (s := a') (m := n) (c := c') (ys := (List.range n).map fun i => ((z (off + i) : Nat) : Int)) ⟨by simp, fun h0 => by
    obtain ⟨b, o, e, _, hc⟩ := L1.spot h0
    exact ⟨b, o, e, fun j hj => by rw [hc j hj]; simp [hj]⟩⟩ (by simp; omega)
  exact ⟨g', cap', w', h1, h2, b1.grown h3 b1.size (fun k hk => by simp at hk; subst hk; exact hO.lt.1)⟩

set_option maxRecDepth 100000 in
set_option maxHeartbeats 3200000 in
theorem rstd_any (a : Option Addr) (len cap : Nat) (z : Nat → Nat) (w : World) (h : Lies w a len cap z) (hl : len ≤ 140737488351232) :
    Calls Tryd.prog 15 #[.slice a len cap] w fun e w' => ∃ g c, e = .returned (.slice (some ⟨g, 0, none⟩) (stL z len 0).length c) ∧ Own w' w.heap.size 5 .u8 g c (stL z len 0) ∧ Below w.heap.size w w' := by
  go_enter Tryd.func15, Tryd.ntmps15
  go_wp2_with fail
  go_loopw [0, 3] (fun sb so wq => ∃ (acc : List Int) (a' : Option Addr) (l' c' off : Nat), OwnV wq w.heap.size 5 .u8 so acc ∧ Below w.heap.size w wq ∧ sb = .slice a' l' c' ∧ off + l' = len ∧ Lies w a' l' c' (fun i => z (off + i)) ∧ Hid (acc ++ stL z len off = stL z len 0) ∧ 13107 * acc.length ≤ 13108 * off) (fun sb _ _ => stM sb (.bool false))
  case atStart => exact ⟨[], a, len, cap, 0, ownv_nil _ _ _ _, Below.refl _ _, rfl, by omega, by simpa using h, by show _ = _; simp, by simp⟩
  case round =>
    obtain ⟨acc, a', l', c', off, hO, hB, rfl, hoff, hL, HST, hal⟩ := hrel
    obtain ⟨ao, co, rfl⟩ := hO.form
    have hlc := hL.lc
    by_cases hbig : 65535 < l'
    · have hbig' : (65535 : Int) < l' := by omega
      have hne : ¬ (65535 : Int) = l' := by omega
      obtain ⟨ab, ap, rfl, hab, hcl⟩ := hL.spot (by omega)
      have hL1 : Lies w (some ⟨ab, ap, none⟩) 65535 c' (fun i => z (off + i)) := ⟨by omega, by omega, hL.byte, fun _ => ⟨ab, ap, rfl, hab, fun i hi => hcl i (by omega)⟩⟩
      have hL2 : Lies w (some ⟨ab, ap + 65535, none⟩) (l' - 65535) (c' - 65535) (fun i => z (off + 65535 + i)) := ⟨by omega, by have := hL.reach; omega, fun i => by have := hL.byte (65535 + i); rwa [← Nat.add_assoc] at this, fun _ => ⟨ab, ap + 65535, rfl, hab, fun i hi => by have := hcl (65535 + i) (by omega); rwa [← Nat.add_assoc, ← Nat.add_assoc] at this⟩⟩
      have hoff' : Hid (off + l' = len) := hoff
      obtain ⟨N1, hN1, HAP⟩ := sto_firstV hO hB 0 255 255 0 0 (by omega)
      have H2 := fun g1 c1 w1 (hR : Own w1 w.heap.size 5 .u8 g1 c1 (acc ++ [0, 255, 255, 0, 0]) ∧ Below w.heap.size w w1) => sto_secondV hR.2 hR.1 hL1 (by simp; omega) N1 hN1
      have HL2 : Hid (Lies w (some ⟨ab, ap + 65535, none⟩) (l' - 65535) (c' - 65535) (fun i => z (off + 65535 + i))) := hL2
      have EQ : Hid (acc ++ [0, 255, 255, 0, 0] ++ ((List.range 65535).map fun i => ((z (off + i) : Nat) : Int)) ++ stL z len (off + 65535) = stL z len 0) := by
        show _ = _
        rw [← HST.out, stL_more z (off := off) (by have := hoff'.out; omega)]
        unfold blkL
        simp only [List.append_assoc]
        rfl
      have HAL : Hid (13107 * acc.length ≤ 13108 * off) := hal
      clear hoff hO hL hL1 hL2 hcl hal
      go_wp2_with (first
        | (at_builtin; refine wpList_append_ex rfl (.tmp 13) (.tmp 28) 23 rfl rfl rfl HAP.out ?_; rintro g1 c1 w1 hR1; obtain ⟨N2, hN2, HA2⟩ := H2 g1 c1 w1 hR1; clear hR1)
        | (at_builtin; refine wpList_append_ex rfl (.tmp 30) (.tmp 33) 23 rfl rfl rfl HA2.out ?_; rintro g2 c2 w2 hR2; have HR2 : Hid (_) := hR2; clear hR2))
      refine ⟨⟨_, _, _, _, off + 65535, own_v HR2.out.1 hN2.out, HR2.out.2, rfl, by have := hoff'.out; omega, HL2.out, EQ, by have := HAL.out; simp; omega⟩, ?_⟩
      simp [stM]; omega
    · have hbig' : ¬ (65535 : Int) < l' := by omega
      obtain ⟨lo, hlo⟩ : ∃ lo : Nat, Hid (l' % 256 = lo) := ⟨_, rfl⟩
      obtain ⟨hi, hhi⟩ : ∃ hi : Nat, Hid (l' / 256 = hi) := ⟨_, rfl⟩
      have q1 : (l' : Int) % 256 = (lo : Nat) := by have := hlo.out; omega
      have q2 : (l' : Int) / 256 = (hi : Nat) := by have := hhi.out; omega
      have q3 : lo < 256 := by have := hlo.out; omega
      have q4 : hi < 256 := by have := hhi.out; omega
      obtain ⟨nlo, hnlo⟩ : ∃ n : Nat, Hid (255 - lo = n) := ⟨_, rfl⟩
      obtain ⟨nhi, hnhi⟩ : ∃ n : Nat, Hid (255 - hi = n) := ⟨_, rfl⟩
      have q5 : (255 : Int) - (lo : Int) = (nlo : Nat) := by have := hnlo.out; omega
      have q6 : (255 : Int) - (hi : Int) = (nhi : Nat) := by have := hnhi.out; omega
      have q7 : nlo < 256 := by have := hnlo.out; omega
      have q8 : nhi < 256 := by have := hnhi.out; omega
      have hoff' : Hid (off + l' = len) := hoff
      obtain ⟨N1, hN1, HAP⟩ := sto_firstV hO hB 1 (lo : Nat) (hi : Nat) (nlo : Nat) (nhi : Nat) (by omega)
      have H2 := fun g1 c1 w1 (hR : Own w1 w.heap.size 5 .u8 g1 c1 (acc ++ [1, ((lo : Nat) : Int), ((hi : Nat) : Int), ((nlo : Nat) : Int), ((nhi : Nat) : Int)]) ∧ Below w.heap.size w w1) => sto_secondV hR.2 hR.1 hL (by simp; omega) N1 hN1
      have EQ : Hid (acc ++ [1, ((lo : Nat) : Int), ((hi : Nat) : Int), ((nlo : Nat) : Int), ((nhi : Nat) : Int)] ++ ((List.range l').map fun i => ((z (off + i) : Nat) : Int)) = stL z len 0) := by
        show _ = _
        rw [← HST.out, stL_last z (by have := hoff'.out; omega), show len - off = l' by have := hoff'.out; omega]
        unfold blkL
        rw [hlo.out, hhi.out, hnlo.out, hnhi.out, ← List.append_assoc]; rfl
      obtain ⟨a1, ha1⟩ : ∃ a1, a' = a1 := ⟨_, rfl⟩
      clear hoff hO hal
      rcases Nat.eq_zero_or_pos l' with h0 | h0
      · have HZ : Hid (l' = 0) := h0
        clear h0
        rcases a1 with _ | ad
        · subst ha1
          go_wp2_with (first
            | (at_builtin; refine wpList_append_ex rfl (.tmp 13) (.tmp 28) 23 rfl rfl rfl HAP.out ?_; rintro g1 c1 w1 hR1; obtain ⟨N2, hN2, HA2⟩ := H2 g1 c1 w1 hR1; clear hR1)
            | (at_builtin; refine wpList_append_ex rfl (.tmp 30) (.tmp 33) 23 rfl rfl rfl HA2.out ?_; rintro g2 c2 w2 hR2; have HR2 : Hid (_) := hR2; clear hR2))
          all_goals
            go_ret
            have h2 := HR2.out
            rw [EQ.out] at h2 hN2
            exact ⟨g2, c2, by rw [hN2.out]; rfl, h2.1, h2.2⟩
        · subst ha1
          go_wp2_with (first
            | (at_builtin; refine wpList_append_ex rfl (.tmp 13) (.tmp 28) 23 rfl rfl rfl HAP.out ?_; rintro g1 c1 w1 hR1; obtain ⟨N2, hN2, HA2⟩ := H2 g1 c1 w1 hR1; clear hR1)
            | (at_builtin; refine wpList_append_ex rfl (.tmp 30) (.tmp 33) 23 rfl rfl rfl HA2.out ?_; rintro g2 c2 w2 hR2; have HR2 : Hid (_) := hR2; clear hR2))
          all_goals
            go_ret
            have h2 := HR2.out
            rw [EQ.out] at h2 hN2
            exact ⟨g2, c2, by rw [hN2.out]; rfl, h2.1, h2.2⟩
      · obtain ⟨ab, ap, e, hab, _⟩ := hL.spot h0
        subst e
        clear ha1
        go_wp2_with (first
          | (at_builtin; refine wpList_append_ex rfl (.tmp 13) (.tmp 28) 23 rfl rfl rfl HAP.out ?_; rintro g1 c1 w1 hR1; obtain ⟨N2, hN2, HA2⟩ := H2 g1 c1 w1 hR1; clear hR1)
          | (at_builtin; refine wpList_append_ex rfl (.tmp 30) (.tmp 33) 23 rfl rfl rfl HA2.out ?_; rintro g2 c2 w2 hR2; have HR2 : Hid (_) := hR2; clear hR2))
        all_goals
          go_ret
          have h2 := HR2.out
          rw [EQ.out] at h2 hN2
          exact ⟨g2, c2, by rw [hN2.out]; rfl, h2.1, h2.2⟩
end Go.Proofs.YtahibacjaoohiaaDoor

namespace Go.Proofs.YtahibacjaoohiaaDoor
open Go.RowKit

theorem and1u (x : Nat) (hx : x < 256) : bits .and .u8 ((x : Int) / 32) 1 = ((x / 32 % 2 : Nat) : Int) := by
  have h : ∀ x : Fin 256, bits .and .u8 (((x.val : Nat) : Int) / 32) 1 = ((x.val / 32 % 2 : Nat) : Int) := by decide +kernel
  exact h ⟨x, hx⟩
set_option maxRecDepth 100000 in
set_option maxHeartbeats 3200000 in
theorem ropen_any (a : Option Addr) (len cap : Nat) (z : Nat → Nat) (mo : Int) (most : Nat) (hm : (most : Int) = if mo < 0 then 0 else mo) (hsm : most ≤ 140737488355000) (w : World) (h : Lies w a len cap z) :
    Calls Tryd.prog 21 #[.slice a len cap, .int .i64 mo] w (TellsZ 140737488355000 (opnE z len most) w) := by
  have hr := h.reach
  have hlc := h.lc
  have HM : Hid ((most : Int) = if mo < 0 then 0 else mo) := hm
  clear hm
  by_cases h2 : len < 2
  · have h2' : (len : Int) < 2 := by omega
    have hv : Hid (opnE z len most = .error 3) := by show _ = _; unfold opnE; rw [if_pos h2]
    go_enter Tryd.func21, Tryd.ntmps21
    go_wp2
    go_ret2
    exact ⟨Below.refl _ _, .inl ⟨3, hv, by omega, rfl⟩⟩
  · have h2' : ¬ (len : Int) < 2 := by omega
    obtain ⟨b, off, rfl, hb, hc⟩ := h.spot (by omega)
    have c0 := hc 0 (by omega)
    have c1 := hc 1 (by omega)
    rw [Nat.add_zero] at c0
    have z0 := h.byte 0
    have z1 := h.byte 1
    have hby0 : Hid (∀ i, z i < 256) := h.byte
    obtain ⟨x0, hx0⟩ : ∃ x, Hid (z 0 = x) := ⟨_, rfl⟩
    obtain ⟨x1, hx1⟩ : ∃ x, Hid (z 1 = x) := ⟨_, rfl⟩
    rw [hx0.out] at c0 z0
    rw [hx1.out] at c1 z1
    have e1 := and1u x1 z1
    obtain ⟨M, hM⟩ : ∃ M, Hid (x0 % 16 = M) := ⟨_, rfl⟩
    obtain ⟨N, hN⟩ : ∃ M, Hid (x0 * 256 + x1 = M) := ⟨_, rfl⟩
    obtain ⟨D, hD⟩ : ∃ M, Hid (x1 / 32 % 2 = M) := ⟨_, rfl⟩
    obtain ⟨R, hR⟩ : ∃ M, Hid (N % 31 = M) := ⟨_, rfl⟩
    rw [hD.out] at e1
    have e2 : (x0 : Int) % 16 = (M : Nat) := by have := hM.out; omega
    have e3 : (x0 : Int) * 256 + x1 = (N : Nat) := by have := hN.out; omega
    have e4 : (N : Int) % 31 = (R : Nat) := by have := hR.out; omega
    obtain ⟨V, hV⟩ : ∃ V, Hid (hdv x0 x1 = V) := ⟨_, rfl⟩
    have HV : Hid (hdv (z 0) (z 1) = V) := by show _ = _; rw [hx0.out, hx1.out]; exact hV.out
    have hr5 : (V = true ∧ M = 8 ∧ x0 < 128 ∧ R = 0 ∧ D = 0) ∨ (V = false ∧ M ≠ 8) ∨ (V = false ∧ M = 8 ∧ ¬ x0 < 128) ∨ (V = false ∧ M = 8 ∧ x0 < 128 ∧ R ≠ 0) ∨ (V = false ∧ M = 8 ∧ x0 < 128 ∧ R = 0 ∧ D = 1) := by
      have h1 := hM.out
      have h2 := hN.out
      have h3 := hD.out
      have h4 := hR.out
      have h6 : decide (x0 % 16 = 8 ∧ x0 / 16 ≤ 7 ∧ (x0 * 256 + x1) % 31 = 0 ∧ x1 / 32 % 2 = 0) = V := hV.out
      cases V with
      | true =>
        obtain ⟨k1, k2, k3, k4⟩ := of_decide_eq_true h6
        exact .inl ⟨rfl, by omega, by omega, by rw [h2] at k3; omega, by omega⟩
      | false =>
        have h7 := of_decide_eq_false h6
        right
        by_cases c1 : M = 8
        · by_cases c2 : x0 < 128
          · by_cases c3 : R = 0
            · refine .inr (.inr (.inr ⟨rfl, c1, c2, c3, ?_⟩))
              by_cases c4 : D = 0
              · exact absurd ⟨by omega, by omega, by rw [h2]; omega, by omega⟩ h7
              · omega
            · exact .inr (.inr (.inl ⟨rfl, c1, c2, c3⟩))
          · exact .inr (.inl ⟨rfl, c1, c2⟩)
        · exact .inl ⟨rfl, c1⟩
    clear hc
    rcases hr5 with ⟨rfl, rfl, g2, rfl, rfl⟩ | ⟨rfl, g1⟩ | ⟨rfl, rfl, g2⟩ | ⟨rfl, rfl, g2, g3⟩ | ⟨rfl, rfl, g2, rfl, rfl⟩
    · replace e2 : (x0 : Int) % 16 = 8 := e2
      replace e4 : (N : Int) % 31 = 0 := e4
      replace e1 : bits .and .u8 ((x1 : Int) / 32) 1 = 0 := e1
      have f2 : decide ((128 : Int) ≤ x0) = false := decide_eq_false (by omega)
      clear g2
      go_enter Tryd.func21, Tryd.ntmps21
      go_wp2_with fail
      go_quiet (fail)
      have BN := below_drewN (Below.refl w.heap.size w) nq
      have hN := h.below BN (Nat.le_refl _)
      obtain ⟨W, hW⟩ : ∃ W, W = w.drewN nq := ⟨_, rfl⟩
      rw [← hW] at BN hN ⊢
      clear hW c0 c1
      have HV2 : Hid (hdv (z 0) (z 1) = true) := HV.out
      clear HV
      by_cases hc2 : cap = 2
      · obtain rfl : len = 2 := by omega
        subst hc2
        have hL0 : Lies W (some ⟨b, off, none⟩) 0 0 (fun i => z (2 + i)) := ⟨by omega, by omega, fun i => hby0.out _, fun h => by omega⟩
        go_wp2_with fail
        refine (rinflate_any _ 0 0 (fun i => z (2 + i)) mo most HM.out hsm _ hL0).mono ?_
        rintro e w1 ⟨b1, ⟨k, hE, hk, rfl⟩ | ⟨q, o, r, hE, rfl, hO, hby, hfit⟩⟩
        · have hk0 : ¬ (k : Int) = 0 := by omega
          have B1 := BN.trans (b1.mono BN.size)
          go_wp2
          go_ret2
          exact ⟨B1, .inl ⟨k, opn_err (by omega) HV2.out hE.out, hk, rfl⟩⟩
        · exact (ok_ne hE.out (inflE_nil _ _)).elim
      · have hL2 := lies_from hN (n := 2) (by omega)
        go_wp2_with fail
        refine (rinflate_any _ (len - 2) (cap - 2) (fun i => z (2 + i)) mo most HM.out hsm _ hL2).mono ?_
        rintro e w1 ⟨b1, ⟨k, hE, hk, rfl⟩ | ⟨q, o, r, hE, rfl, hO, hby, hfit⟩⟩
        · have hk0 : ¬ (k : Int) = 0 := by omega
          have B1 := BN.trans (b1.mono BN.size)
          go_wp2
          go_ret2
          exact ⟨B1, .inl ⟨k, opn_err h2 HV2.out hE.out, hk, rfl⟩⟩
        · have hul := inflE_le hE.out
          obtain ⟨u, hu⟩ : ∃ u, Hid ((q + 7) / 8 = u) := ⟨_, rfl⟩
          have B1 := BN.trans (b1.mono BN.size)
          have HV3 : Hid (opnE z len most = if clov (fun i => z (2 + (u + i))) (len - 2 - u) (zb o) o.length = 0 then .ok o else .error (clov (fun i => z (2 + (u + i))) (len - 2 - u) (zb o) o.length)) := by
            have := opn_ok h2 HV2.out hE.out
            simp only [hu.out] at this
            exact this
          simp only [hu.out] at hul ⊢
          obtain ⟨ra, rc, rfl, hLo⟩ := hO.liesB hby.out (by omega)
          have hL3 := hN.below b1 (Nat.le_refl _)
          have hul2 : 2 + u ≤ len := by omega
          have hL4 := lies_from hL3 hul2
          obtain ⟨U, hU⟩ : ∃ U : Nat, (2 : Int) + u = U := ⟨2 + u, by omega⟩
          obtain rfl : U = 2 + u := by omega
          obtain ⟨K, hK⟩ : ∃ K, Hid (2 + u = K) := ⟨_, rfl⟩
          rw [hK.out] at hU hul2 hL4
          have hul' : (K : Int) ≤ len := by omega
          have HV4 : Hid (opnE z len most = if clov (fun i => z (K + i)) (len - K) (zb o) o.length = 0 then .ok o else .error (clov (fun i => z (K + i)) (len - K) (zb o) o.length)) := by
            show _ = _; rw [HV3.out, ← hK.out]
            have e : (fun i => z (2 + (u + i))) = fun i => z (2 + u + i) := funext fun i => by rw [Nat.add_assoc]
            rw [e, Nat.sub_sub]
          have hK0 : 2 ≤ K := by have := hK.out; omega
          clear HV3 HV2 hE hL2 hL3 hul
          by_cases hcK : cap = K
          · have hLr : Lies w1 (some ⟨b, off, none⟩) (len - K) 0 (fun i => z (K + i)) := ⟨by omega, by omega, fun i => hby0.out _, fun h => by omega⟩
            clear hL4
            go_wp2_with fail
            refine (num_any _ (len - K) 0 (fun i => z (K + i)) _ hLr).mono ?_
            rintro e w2 ⟨rfl, rfl⟩
            obtain ⟨r, hrE⟩ : ∃ r, Hid (len - K = r) := ⟨_, rfl⟩
            rw [hrE.out] at HV4 hLr ⊢
            have hlen : Hid (len = K + r) := by have := hrE.out; show _ = _; omega
            rcases Nat.lt_trichotomy r 4 with hr4 | rfl | hr4
            · have hr4' : (r : Int) < 4 := by omega
              have hv : Hid (opnE z len most = .error 3) := by show _ = _; rw [HV4.out]; unfold clov; simp only [if_pos hr4]; rfl
              clear HV4 hrE
              go_wp2
              go_ret2
              exact ⟨B1, .inl ⟨3, hv, by omega, rfl⟩⟩
            · have hs := adv_lt (zb o) o.length
              rw [if_neg (by omega)]
              have HV5 : Hid (opnE z len most = if numbe (fun i => z (K + i)) 4 = adv (zb o) o.length then .ok o else .error 5) := by
                show _ = _; rw [HV4.out]; unfold clov
                simp only [Nat.lt_irrefl, if_false]
                split <;> rfl
              have hnl := numbe_lt (y := fun i => z (K + i)) (fun i => hby0.out _) 4 (by omega)
              obtain ⟨Y, hY⟩ : ∃ Y, Hid (numbe (fun i => z (K + i)) 4 = Y) := ⟨_, rfl⟩
              have RA := radler_any ra o.length rc (zb o) w2 hLo
              obtain ⟨S, hS⟩ : ∃ Y, Hid (adv (zb o) o.length = Y) := ⟨_, rfl⟩
              rw [hY.out] at HV5 hnl ⊢
              rw [hS.out] at HV5 hs RA
              clear HV4 hrE
              go_wp2_with fail
              refine RA.mono ?_
              rintro e w3 ⟨rfl, rfl⟩
              by_cases hq : Y = S
              · subst hq
                have hv : Hid (opnE z len most = .ok o) := HV5.out.trans (if_pos (by first | trivial | rfl))
                clear HV5
                go_wp2
                go_ret2
                exact ⟨B1, .inr ⟨o, _, hv, rfl, hO.mono' BN.size, hby, hfit⟩⟩
              · have hv : Hid (opnE z len most = .error 5) := HV5.out.trans (if_neg hq)
                have hq' : ((Y : Int) != S) = true := by rw [bne_iff_ne]; omega
                clear HV5
                go_wp2
                go_ret2
                exact ⟨B1, .inl ⟨5, hv, by omega, rfl⟩⟩
            · have hr4' : ¬ (r : Int) < 4 := by omega
              have hr5' : (4 : Int) < r := by omega
              have hv : Hid (opnE z len most = .error 2) := by show _ = _; rw [HV4.out]; unfold clov; simp only [if_neg (show ¬ r < 4 by omega), if_pos hr4]; rfl
              clear HV4 hrE
              go_wp2
              go_ret2
              exact ⟨B1, .inl ⟨2, hv, by omega, rfl⟩⟩
          · have hLr : Lies w1 (some ⟨b, off + K, none⟩) (len - K) (cap - K) (fun i => z (K + i)) := hL4
            clear hL4
            go_wp2_with fail
            refine (num_any _ (len - K) (cap - K) (fun i => z (K + i)) _ hLr).mono ?_
            rintro e w2 ⟨rfl, rfl⟩
            obtain ⟨r, hrE⟩ : ∃ r, Hid (len - K = r) := ⟨_, rfl⟩
            rw [hrE.out] at HV4 hLr ⊢
            have hlen : Hid (len = K + r) := by have := hrE.out; show _ = _; omega
            rcases Nat.lt_trichotomy r 4 with hr4 | rfl | hr4
            · have hr4' : (r : Int) < 4 := by omega
              have hv : Hid (opnE z len most = .error 3) := by show _ = _; rw [HV4.out]; unfold clov; simp only [if_pos hr4]; rfl
              clear HV4 hrE
              go_wp2
              go_ret2
              exact ⟨B1, .inl ⟨3, hv, by omega, rfl⟩⟩
            · have hs := adv_lt (zb o) o.length
              rw [if_neg (by omega)]
              have HV5 : Hid (opnE z len most = if numbe (fun i => z (K + i)) 4 = adv (zb o) o.length then .ok o else .error 5) := by
                show _ = _; rw [HV4.out]; unfold clov
                simp only [Nat.lt_irrefl, if_false]
                split <;> rfl
              have hnl := numbe_lt (y := fun i => z (K + i)) (fun i => hby0.out _) 4 (by omega)
              obtain ⟨Y, hY⟩ : ∃ Y, Hid (numbe (fun i => z (K + i)) 4 = Y) := ⟨_, rfl⟩
              have RA := radler_any ra o.length rc (zb o) w2 hLo
              obtain ⟨S, hS⟩ : ∃ Y, Hid (adv (zb o) o.length = Y) := ⟨_, rfl⟩
              rw [hY.out] at HV5 hnl ⊢
              rw [hS.out] at HV5 hs RA
              clear HV4 hrE
              go_wp2_with fail
              refine RA.mono ?_
              rintro e w3 ⟨rfl, rfl⟩
              by_cases hq : Y = S
              · subst hq
                have hv : Hid (opnE z len most = .ok o) := HV5.out.trans (if_pos (by first | trivial | rfl))
                clear HV5
                go_wp2
                go_ret2
                exact ⟨B1, .inr ⟨o, _, hv, rfl, hO.mono' BN.size, hby, hfit⟩⟩
              · have hv : Hid (opnE z len most = .error 5) := HV5.out.trans (if_neg hq)
                have hq' : ((Y : Int) != S) = true := by rw [bne_iff_ne]; omega
                clear HV5
                go_wp2
                go_ret2
                exact ⟨B1, .inl ⟨5, hv, by omega, rfl⟩⟩
            · have hr4' : ¬ (r : Int) < 4 := by omega
              have hr5' : (4 : Int) < r := by omega
              have hv : Hid (opnE z len most = .error 2) := by show _ = _; rw [HV4.out]; unfold clov; simp only [if_neg (show ¬ r < 4 by omega), if_pos hr4]; rfl
              clear HV4 hrE
              go_wp2
              go_ret2
              exact ⟨B1, .inl ⟨2, hv, by omega, rfl⟩⟩
    · have f1 : ((M : Int) != 8) = true := by rw [bne_iff_ne]; omega
      go_enter Tryd.func21, Tryd.ntmps21
      go_wp2_with fail
      go_quiet (fail)
      have BN := below_drewN (Below.refl w.heap.size w) nq
      have hN := h.below BN (Nat.le_refl _)
      obtain ⟨W, hW⟩ : ∃ W, W = w.drewN nq := ⟨_, rfl⟩
      rw [← hW] at BN hN ⊢
      clear hW c0 c1
      go_wp2
      go_ret2
      exact ⟨BN, .inl ⟨2, opn_no h2 HV.out, by omega, rfl⟩⟩
    · replace e2 : (x0 : Int) % 16 = 8 := e2
      have f2 : decide ((128 : Int) ≤ x0) = true := decide_eq_true (by omega)
      clear g2
      go_enter Tryd.func21, Tryd.ntmps21
      go_wp2_with fail
      go_quiet (fail)
      have BN := below_drewN (Below.refl w.heap.size w) nq
      have hN := h.below BN (Nat.le_refl _)
      obtain ⟨W, hW⟩ : ∃ W, W = w.drewN nq := ⟨_, rfl⟩
      rw [← hW] at BN hN ⊢
      clear hW c0 c1
      go_wp2
      go_ret2
      exact ⟨BN, .inl ⟨2, opn_no h2 HV.out, by omega, rfl⟩⟩
    · replace e2 : (x0 : Int) % 16 = 8 := e2
      have f2 : decide ((128 : Int) ≤ x0) = false := decide_eq_false (by omega)
      clear g2
      have f3 : ((R : Int) != 0) = true := by rw [bne_iff_ne]; omega
      go_enter Tryd.func21, Tryd.ntmps21
      go_wp2_with fail
      go_quiet (fail)
      have BN := below_drewN (Below.refl w.heap.size w) nq
      have hN := h.below BN (Nat.le_refl _)
      obtain ⟨W, hW⟩ : ∃ W, W = w.drewN nq := ⟨_, rfl⟩
      rw [← hW] at BN hN ⊢
      clear hW c0 c1
      go_wp2
      go_ret2
      exact ⟨BN, .inl ⟨2, opn_no h2 HV.out, by omega, rfl⟩⟩
    · replace e2 : (x0 : Int) % 16 = 8 := e2
      replace e4 : (N : Int) % 31 = 0 := e4
      replace e1 : bits .and .u8 ((x1 : Int) / 32) 1 = 1 := e1
      have f2 : decide ((128 : Int) ≤ x0) = false := decide_eq_false (by omega)
      clear g2
      go_enter Tryd.func21, Tryd.ntmps21
      go_wp2_with fail
      go_quiet (fail)
      have BN := below_drewN (Below.refl w.heap.size w) nq
      have hN := h.below BN (Nat.le_refl _)
      obtain ⟨W, hW⟩ : ∃ W, W = w.drewN nq := ⟨_, rfl⟩
      rw [← hW] at BN hN ⊢
      clear hW c0 c1
      go_wp2
      go_ret2
      exact ⟨BN, .inl ⟨2, opn_no h2 HV.out, by omega, rfl⟩⟩
end Go.Proofs.YtahibacjaoohiaaDoor

namespace Go.Proofs.YtahibacjaoohiaaDoor
open Go.RowKit

set_option maxRecDepth 100000 in
set_option maxHeartbeats 1600000 in
theorem rlay_any (a : Option Addr) (len cap : Nat) (z : Nat → Nat) (w : World) (h : Lies w a len cap z) (hl : len ≤ 140737488351232) :
    Calls Tryd.prog 20 #[.slice a len cap] w fun e w' => ∃ g c, e = .returned (.slice (some ⟨g, 0, none⟩) (layL z len).length c) ∧ Own w' w.heap.size 5 .u8 g c (layL z len) ∧ Below w.heap.size w w' := by
  have hNl := stL_len z len len 0 (by omega)
  obtain ⟨N, hN⟩ : ∃ N, Hid ((stL z len 0).length = N) := ⟨_, rfl⟩
  have hT : Hid ((layL z len).length = 2 + N + 4) := by show _ = _; rw [layL_len, hN.out]; omega
  have bl : Below w.heap.size w (w.alloc (.cells #[.int .u8 120, .int .u8 1] 5)) := (Below.refl _ _).alloc (Nat.le_refl _) _
  have hLit : Own (w.alloc (.cells #[.int .u8 120, .int .u8 1] 5)) w.heap.size 5 .u8 w.heap.size 2 [120, 1] := own_lit w w.heap.size 5 .u8 [120, 1] (Nat.le_refl _) (by simp)
  obtain ⟨gl, hgl⟩ : ∃ gm, gm = w.heap.size := ⟨_, rfl⟩
  obtain ⟨wl, hwl⟩ : ∃ wm, wm = w.alloc (.cells #[.int .u8 120, .int .u8 1] 5) := ⟨_, rfl⟩
  rw [← hwl] at bl hLit
  have SG := rstd_any a len cap z wl (h.below bl (Nat.le_refl _)) hl
  rw [hN.out] at hNl SG
  have hNb : N ≤ 149000000000000 := by omega
  have HWL : Hid (wl = _) := hwl
  have HGL : Hid (gl = w.heap.size) := hgl
  have hglt : gl < wl.heap.size := by rw [hwl, hgl]; simp
  have hLit' : Own wl w.heap.size 5 .u8 gl 2 [120, 1] := by rw [hgl]; exact hLit
  clear hwl hgl hLit
  go_enter Tryd.func20, Tryd.ntmps20
  go_wp2_with (first
    | (rw [← HWL.out])
    | (rw [← HGL.out]))
  refine SG.mono ?_
  rintro e w1 ⟨gs, cs, rfl, hS, b1⟩
  have B1 := bl.trans (b1.mono bl.size)
  have O1 := hLit'.below b1
  have h1 := h.below B1 (Nat.le_refl _)
  have A1 : ∃ g' c' w', (Builtin.append_ #[23, 23] 23 #[.slice (some ⟨gl, 0, none⟩) 2 2, .slice (some ⟨gs, 0, none⟩) N cs]).run Tryd.prog w1 = .ok (.slice (some ⟨g', 0, none⟩) (2 + N) c') w' ∧ _ := app_on B1 O1 (hS.src' hN.out) (N := 2) rfl (by simp; omega)
  have HA1 : Hid (_) := A1
  clear A1 O1 hS bl b1 SG hLit'
  go_wp2_with (first
    | (rw [← HGL.out])
    | (at_builtin; refine wpList_append_ex rfl (.tmp 3) (.tmp 5) 23 rfl rfl rfl HA1.out ?_; rintro g1 c1 w2 hR1; have HR1 : Hid (_) := hR1; clear hR1))
  have h2 := h.below HR1.out.2.1 (Nat.le_refl _)
  refine (radler_any a len cap z _ h2).mono ?_
  rintro e w3 ⟨rfl, rfl⟩
  have hs := adv_lt z len
  obtain ⟨s, hse⟩ : ∃ s, Hid (adv z len = s) := ⟨_, rfl⟩
  rw [hse.out] at hs ⊢
  go_wp2_with fail
  refine (big_any s hs _).mono ?_
  rintro e w4 ⟨gk, ck, rfl, hK, b4⟩
  have b3 := HR1.out.2.1
  have B4 := b3.trans (b4.mono b3.size)
  have O4 := HR1.out.1.below b4
  have A3 : ∃ g' c' w', (Builtin.append_ #[23, 23] 23 #[.slice (some ⟨g1, 0, none⟩) (2 + N) c1, .slice (some ⟨gk, 0, none⟩) 4 ck]).run Tryd.prog w4 = .ok (.slice (some ⟨g', 0, none⟩) (2 + N + 4) c') w' ∧ _ := app_on B4 O4 (hK.src' (n := 4) rfl) (N := 2 + N) (by simp [hN.out]; omega) (by simp [hN.out]; omega)
  have HA3 : Hid (_) := A3
  clear A3 O4 hK b4 b3 h2
  go_wp2_with (at_builtin; refine wpList_append_ex rfl (.tmp 6) (.tmp 9) 23 rfl rfl rfl HA3.out ?_; rintro g5 c5 w5 hR5; have HR5 : Hid (_) := hR5; clear hR5)
  go_ret
  refine ⟨g5, c5, by rw [hT.out]; rfl, ?_, HR5.out.2.1⟩
  have := HR5.out.1
  unfold layL
  rw [hse.out]
  exact this
end Go.Proofs.YtahibacjaoohiaaDoor
