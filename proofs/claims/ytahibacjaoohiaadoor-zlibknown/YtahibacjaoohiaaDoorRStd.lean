/-
  The reference's Stored: the same blocks.
-/
import Derived.Test.YtahibacjaoohiaaDoorSto
namespace Go.Proofs.YtahibacjaoohiaaDoor
open Go.RowKit

/-- The first of a block's two appends, upon a row that may be nil. -/
theorem sto_firstV {w wr : World} {v : Value} {acc : List Int} (hO : OwnV wr w.heap.size 5 .u8 v acc) (hB : Below w.heap.size w wr) (x0 x1 x2 x3 x4 : Int) (hl : acc.length ≤ 50000000) :
    ∃ N1, Hid (N1 = (acc ++ [x0, x1, x2, x3, x4]).length) ∧ Hid (∃ g' cap' w', (Builtin.append_ #[23, 23] 23 #[v, .slice (some ⟨wr.heap.size, 0, none⟩) 5 5]).run Tryd.prog (wr.alloc (.cells #[.int .u8 x0, .int .u8 x1, .int .u8 x2, .int .u8 x3, .int .u8 x4] 5)) = .ok (.slice (some ⟨g', 0, none⟩) N1 cap') w' ∧
      (Own w' w.heap.size 5 .u8 g' cap' (acc ++ [x0, x1, x2, x3, x4]) ∧ Below w.heap.size w w')) := by
  refine ⟨_, rfl, ?_⟩
  have hb := hB.size
  have hblk := blk_new wr (.cells #[.int .u8 x0, .int .u8 x1, .int .u8 x2, .int .u8 x3, .int .u8 x4] 5)
  have hO2 := hO.alloc (.cells #[.int .u8 x0, .int .u8 x1, .int .u8 x2, .int .u8 x3, .int .u8 x4] 5)
  have hB2 : Below w.heap.size w (wr.alloc (.cells #[.int .u8 x0, .int .u8 x1, .int .u8 x2, .int .u8 x3, .int .u8 x4] 5)) := hB.alloc hB.size _
  obtain ⟨i, hi', h1, h2, h3⟩ := info_of info5
  obtain ⟨g', cap', w', hr, ho, hg, hat, _⟩ := run_append_lies (P := Tryd.prog) _ 23 23 w.heap.size 5 i (.int .u8 0) 1 1 Tryd.underlying23 hi' h1 h3 h2 rfl (by omega) v acc.length _ hO2 ⟨wr.heap.size, 0, none⟩ 5 5 [.int .u8 x0, .int .u8 x1, .int .u8 x2, .int .u8 x3, .int .u8 x4] rfl
    (fun j u hj => World.news_of_block hblk j u (by simpa using hj))
    (by intro u hu; simp at hu; rcases hu with rfl | rfl | rfl | rfl | rfl <;> rfl) (by omega) (by unfold maxLen; omega) (by omega) (by simp; omega) _ rfl
  refine ⟨g', cap', w', ?_, ?_, hO2.grown hB2 hg (Nat.le_refl _) (Nat.le_refl _)⟩
  · rw [hr, List.length_append]; rfl
  · unfold Own; rw [List.length_append, List.map_append]; exact ho
/-- The second. -/
theorem sto_secondV {w w1 : World} {g1 c1 n c' off : Nat} {acc : List Int} {a' : Option Addr} {z : Nat → Nat} (b1 : Below w.heap.size w w1) (hO : Own w1 w.heap.size 5 .u8 g1 c1 acc) (hL : Lies w a' n c' fun i => z (off + i)) (hl : acc.length + n ≤ 50000000) (N1 : Nat) (hN1 : Hid (N1 = acc.length)) :
    ∃ N2, Hid (N2 = (acc ++ (List.range n).map fun i => ((z (off + i) : Nat) : Int)).length) ∧ Hid (∃ g' cap' w', (Builtin.append_ #[23, 23] 23 #[.slice (some ⟨g1, 0, none⟩) N1 c1, .slice a' n c']).run Tryd.prog w1 = .ok (.slice (some ⟨g', 0, none⟩) N2 cap') w' ∧
      (Own w' w.heap.size 5 .u8 g' cap' (acc ++ (List.range n).map fun i => ((z (off + i) : Nat) : Int)) ∧ Below w.heap.size w w')) := by
  refine ⟨_, rfl, ?_⟩
  have hN := hN1.out
  subst hN
  have L1 := hL.below b1 (Nat.le_refl _)
  obtain ⟨g', cap', w', h1, h2, h3, _⟩ := hO.appendB b1.size (s := a') (m := n) (c := c') (ys := (List.range n).map fun i => ((z (off + i) : Nat) : Int)) ⟨by simp, fun h0 => by
    obtain ⟨b, o, e, _, hc⟩ := L1.spot h0
    exact ⟨b, o, e, fun j hj => by rw [hc j hj]; simp [hj]⟩⟩ (by simp; omega)
  exact ⟨g', cap', w', h1, h2, b1.grown h3 b1.size (fun k hk => by simp at hk; subst hk; exact hO.lt.1)⟩

set_option maxRecDepth 100000 in
set_option maxHeartbeats 3200000 in
theorem rstd_any (a : Option Addr) (len cap : Nat) (z : Nat → Nat) (w : World) (h : Lies w a len cap z) (hl : len ≤ 10000000) :
    Calls Tryd.prog 15 #[.slice a len cap] w fun e w' => ∃ g c, e = .returned (.slice (some ⟨g, 0, none⟩) (stL z len 0).length c) ∧ Own w' w.heap.size 5 .u8 g c (stL z len 0) ∧ Below w.heap.size w w' := by
  go_enter Tryd.func15, Tryd.ntmps15
  go_wp2_with fail
  go_loopw [0, 3] (fun sb so wq => ∃ (acc : List Int) (a' : Option Addr) (l' c' off : Nat), OwnV wq w.heap.size 5 .u8 so acc ∧ Below w.heap.size w wq ∧ sb = .slice a' l' c' ∧ off + l' = len ∧ Lies w a' l' c' (fun i => z (off + i)) ∧ Hid (acc ++ stL z len off = stL z len 0) ∧ acc.length ≤ 2 * off) (fun sb _ _ => stM sb (.bool false))
  case atStart => exact ⟨[], a, len, cap, 0, ownv_nil _ _ _ _, Below.refl _ _, rfl, by omega, by simpa using h, by show _ = _; simp, by simp⟩
  case round =>
    obtain ⟨acc, a', l', c', off, hO, hB, rfl, hoff, hL, HST, hal⟩ := hrel
    obtain ⟨ao, co, rfl⟩ := hO.form
    have hlc := hL.lc
    by_cases hbig : 65535 < l'
    · have hbig' : (65535 : Int) < l' := by omega
      have hne : ¬ (65535 : Int) = l' := by omega
      obtain ⟨ab, ap, rfl, hab, hcl⟩ := hL.spot (by omega)
      have hL1 : Lies w (some ⟨ab, ap, none⟩) 65535 c' (fun i => z (off + i)) := ⟨by omega, by omega, hL.byte, fun _ => ⟨ab, ap, rfl, hab, fun i hi => hcl i (by omega)⟩⟩
      have hL2 : Lies w (some ⟨ab, ap + 65535, none⟩) (l' - 65535) (c' - 65535) (fun i => z (off + 65535 + i)) := ⟨by omega, by have := hL.reach; omega, fun i => by have := hL.byte (65535 + i); rwa [← Nat.add_assoc] at this, fun _ => ⟨ab, ap + 65535, rfl, hab, fun i hi => by have := hcl (65535 + i) (by omega); rwa [← Nat.add_assoc, ← Nat.add_assoc] at this⟩⟩
      have hoff' : Hid (off + l' = len) := hoff
      obtain ⟨N1, hN1, HAP⟩ := sto_firstV hO hB 0 255 255 0 0 (by omega)
      have H2 := fun g1 c1 w1 (hR : Own w1 w.heap.size 5 .u8 g1 c1 (acc ++ [0, 255, 255, 0, 0]) ∧ Below w.heap.size w w1) => sto_secondV hR.2 hR.1 hL1 (by simp; omega) N1 hN1
      have HL2 : Hid (Lies w (some ⟨ab, ap + 65535, none⟩) (l' - 65535) (c' - 65535) (fun i => z (off + 65535 + i))) := hL2
      have EQ : Hid (acc ++ [0, 255, 255, 0, 0] ++ ((List.range 65535).map fun i => ((z (off + i) : Nat) : Int)) ++ stL z len (off + 65535) = stL z len 0) := by
        show _ = _
        rw [← HST.out, stL_more z (off := off) (by have := hoff'.out; omega)]
        unfold blkL
        simp only [List.append_assoc]
        rfl
      have HAL : Hid (acc.length ≤ 2 * off) := hal
      clear hoff hO hL hL1 hL2 hcl hal
      go_wp2_with (first
        | (at_builtin; refine wpList_append_ex rfl (.tmp 13) (.tmp 28) 23 rfl rfl rfl HAP.out ?_; rintro g1 c1 w1 hR1; obtain ⟨N2, hN2, HA2⟩ := H2 g1 c1 w1 hR1; clear hR1)
        | (at_builtin; refine wpList_append_ex rfl (.tmp 30) (.tmp 33) 23 rfl rfl rfl HA2.out ?_; rintro g2 c2 w2 hR2; have HR2 : Hid (_) := hR2; clear hR2))
      refine ⟨⟨_, _, _, _, off + 65535, own_v HR2.out.1 hN2.out, HR2.out.2, rfl, by have := hoff'.out; omega, HL2.out, EQ, by have := HAL.out; simp; omega⟩, ?_⟩
      simp [stM]; omega
    · have hbig' : ¬ (65535 : Int) < l' := by omega
      obtain ⟨lo, hlo⟩ : ∃ lo : Nat, Hid (l' % 256 = lo) := ⟨_, rfl⟩
      obtain ⟨hi, hhi⟩ : ∃ hi : Nat, Hid (l' / 256 = hi) := ⟨_, rfl⟩
      have q1 : (l' : Int) % 256 = (lo : Nat) := by have := hlo.out; omega
      have q2 : (l' : Int) / 256 = (hi : Nat) := by have := hhi.out; omega
      have q3 : lo < 256 := by have := hlo.out; omega
      have q4 : hi < 256 := by have := hhi.out; omega
      obtain ⟨nlo, hnlo⟩ : ∃ n : Nat, Hid (255 - lo = n) := ⟨_, rfl⟩
      obtain ⟨nhi, hnhi⟩ : ∃ n : Nat, Hid (255 - hi = n) := ⟨_, rfl⟩
      have q5 : (255 : Int) - (lo : Int) = (nlo : Nat) := by have := hnlo.out; omega
      have q6 : (255 : Int) - (hi : Int) = (nhi : Nat) := by have := hnhi.out; omega
      have q7 : nlo < 256 := by have := hnlo.out; omega
      have q8 : nhi < 256 := by have := hnhi.out; omega
      have hoff' : Hid (off + l' = len) := hoff
      obtain ⟨N1, hN1, HAP⟩ := sto_firstV hO hB 1 (lo : Nat) (hi : Nat) (nlo : Nat) (nhi : Nat) (by omega)
      have H2 := fun g1 c1 w1 (hR : Own w1 w.heap.size 5 .u8 g1 c1 (acc ++ [1, ((lo : Nat) : Int), ((hi : Nat) : Int), ((nlo : Nat) : Int), ((nhi : Nat) : Int)]) ∧ Below w.heap.size w w1) => sto_secondV hR.2 hR.1 hL (by simp; omega) N1 hN1
      have EQ : Hid (acc ++ [1, ((lo : Nat) : Int), ((hi : Nat) : Int), ((nlo : Nat) : Int), ((nhi : Nat) : Int)] ++ ((List.range l').map fun i => ((z (off + i) : Nat) : Int)) = stL z len 0) := by
        show _ = _
        rw [← HST.out, stL_last z (by have := hoff'.out; omega), show len - off = l' by have := hoff'.out; omega]
        unfold blkL
        rw [hlo.out, hhi.out, hnlo.out, hnhi.out, ← List.append_assoc]; rfl
      obtain ⟨a1, ha1⟩ : ∃ a1, a' = a1 := ⟨_, rfl⟩
      clear hoff hO hal
      rcases Nat.eq_zero_or_pos l' with h0 | h0
      · have HZ : Hid (l' = 0) := h0
        clear h0
        rcases a1 with _ | ad
        · subst ha1
          go_wp2_with (first
            | (at_builtin; refine wpList_append_ex rfl (.tmp 13) (.tmp 28) 23 rfl rfl rfl HAP.out ?_; rintro g1 c1 w1 hR1; obtain ⟨N2, hN2, HA2⟩ := H2 g1 c1 w1 hR1; clear hR1)
            | (at_builtin; refine wpList_append_ex rfl (.tmp 30) (.tmp 33) 23 rfl rfl rfl HA2.out ?_; rintro g2 c2 w2 hR2; have HR2 : Hid (_) := hR2; clear hR2))
          all_goals
            go_ret
            have h2 := HR2.out
            rw [EQ.out] at h2 hN2
            exact ⟨g2, c2, by rw [hN2.out]; rfl, h2.1, h2.2⟩
        · subst ha1
          go_wp2_with (first
            | (at_builtin; refine wpList_append_ex rfl (.tmp 13) (.tmp 28) 23 rfl rfl rfl HAP.out ?_; rintro g1 c1 w1 hR1; obtain ⟨N2, hN2, HA2⟩ := H2 g1 c1 w1 hR1; clear hR1)
            | (at_builtin; refine wpList_append_ex rfl (.tmp 30) (.tmp 33) 23 rfl rfl rfl HA2.out ?_; rintro g2 c2 w2 hR2; have HR2 : Hid (_) := hR2; clear hR2))
          all_goals
            go_ret
            have h2 := HR2.out
            rw [EQ.out] at h2 hN2
            exact ⟨g2, c2, by rw [hN2.out]; rfl, h2.1, h2.2⟩
      · obtain ⟨ab, ap, e, hab, _⟩ := hL.spot h0
        subst e
        clear ha1
        go_wp2_with (first
          | (at_builtin; refine wpList_append_ex rfl (.tmp 13) (.tmp 28) 23 rfl rfl rfl HAP.out ?_; rintro g1 c1 w1 hR1; obtain ⟨N2, hN2, HA2⟩ := H2 g1 c1 w1 hR1; clear hR1)
          | (at_builtin; refine wpList_append_ex rfl (.tmp 30) (.tmp 33) 23 rfl rfl rfl HA2.out ?_; rintro g2 c2 w2 hR2; have HR2 : Hid (_) := hR2; clear hR2))
        all_goals
          go_ret
          have h2 := HR2.out
          rw [EQ.out] at h2 hN2
          exact ⟨g2, c2, by rw [hN2.out]; rfl, h2.1, h2.2⟩
end Go.Proofs.YtahibacjaoohiaaDoor
