/-
  The reference's Passes.
-/
import Derived.Test.YtciobjjhdeagkaaDoorPss
namespace Go.Proofs.YtciobjjhdeagkaaDoor
open Go.RowKit

theorem index48 (m : Nat) (hm : m < 7) : ∀ W, (Instr.index 48 (.agg adamL.toArray) (.int .i64 (m : Nat))).run Tryd.prog W = .ok (.agg #[.int .i64 (adX m : Nat), .int .i64 (adY m : Nat), .int .i64 (adDX m : Nat), .int .i64 (adDY m : Nat), .int .i64 0, .int .i64 0]) W := by
  intro W
  rcases (show m = 0 ∨ m = 1 ∨ m = 2 ∨ m = 3 ∨ m = 4 ∨ m = 5 ∨ m = 6 by omega) with rfl | rfl | rfl | rfl | rfl | rfl | rfl <;> kernel_rfl
theorem cntv_iff {s f d j : Nat} (hfd : f < d) : j < cntv s f d ↔ f + d * j < s := by
  unfold cntv
  rw [show j < (s + d - 1 - f) / d ↔ j + 1 ≤ (s + d - 1 - f) / d from Iff.rfl, Nat.le_div_iff_mul_le (by omega), Nat.add_mul, Nat.mul_comm j d]
  omega
/-- A pass in the making. -/
def pblk (x y dx dy a b : Nat) : Obj := .cells #[.int .i64 (x : Nat), .int .i64 (y : Nat), .int .i64 (dx : Nat), .int .i64 (dy : Nat), .int .i64 (a : Nat), .int .i64 (b : Nat)] 36
theorem pblk_w {w : World} {G x y dx dy a b : Nat} (h : w.heap[G]? = some (pblk x y dx dy a b)) {v : Int} (c : Nat) (hv : v = (c : Nat)) : (w.setCell ⟨G, 4, none⟩ (.int .i64 v)).heap[G]? = some (pblk x y dx dy c b) := by
  subst hv; exact blk_set (show w.heap[G]? = some (.cells _ 36 (0, 0)) from h) 4 _
theorem pblk_h {w : World} {G x y dx dy a b : Nat} (h : w.heap[G]? = some (pblk x y dx dy a b)) {v : Int} (c : Nat) (hv : v = (c : Nat)) : (w.setCell ⟨G, 5, none⟩ (.int .i64 v)).heap[G]? = some (pblk x y dx dy a c) := by
  subst hv; exact blk_set (show w.heap[G]? = some (.cells _ 36 (0, 0)) from h) 5 _
theorem pblk_c {w : World} {G x y dx dy a b : Nat} (h : w.heap[G]? = some (pblk x y dx dy a b)) (i : Nat) : w.cell? ⟨G, i, none⟩ = (#[.int .i64 (x : Nat), .int .i64 (y : Nat), .int .i64 (dx : Nat), .int .i64 (dy : Nat), .int .i64 (a : Nat), .int .i64 (b : Nat)] : Array Value)[i]? := blk_cell (show w.heap[G]? = some (.cells _ 36 (0, 0)) from h) i
theorem pblk_f {w : World} {G x y dx dy a b : Nat} (h : w.heap[G]? = some (pblk x y dx dy a b)) (i : Nat) : w.frozen? ⟨G, i, none⟩ = false := blk_free (show w.heap[G]? = some (.cells _ 36 (0, 0)) from h) i

set_option maxRecDepth 100000 in
set_option maxHeartbeats 3200000 in
theorem rpasses_any (n h : Int) (w : World) : Calls Tryd.prog 14 #[.int .i64 n, .int .i64 h] w (PassR (sidev n) (sidev h) 36 w) := by
  obtain ⟨A, hA⟩ : ∃ A : Nat, Hid (sidev n = A) := ⟨_, rfl⟩
  obtain ⟨B, hB⟩ : ∃ B : Nat, Hid (sidev h = B) := ⟨_, rfl⟩
  have S1 : ∀ W, Calls Tryd.prog 21 #[.int .i64 n, .int .i64 0, .int .i64 256] W fun e w' => e = .returned (.int .i64 (A : Nat)) ∧ w' = W := fun W => by rw [← hA.out]; exact within_any n W
  have S2 : ∀ W, Calls Tryd.prog 21 #[.int .i64 h, .int .i64 0, .int .i64 256] W fun e w' => e = .returned (.int .i64 (B : Nat)) ∧ w' = W := fun W => by rw [← hB.out]; exact within_any h W
  have hA1 : A ≤ 256 := by rw [← hA.out]; exact sidev_le n
  have hB1 : B ≤ 256 := by rw [← hB.out]; exact sidev_le h
  rw [hA.out, hB.out]
  go_enter Tryd.func14, Tryd.ntmps14
  go_wp2_with fail
  refine (S1 _).mono ?_
  rintro e w1 ⟨rfl, rfl⟩
  go_wp2_with fail
  refine (S2 _).mono ?_
  rintro e w1 ⟨rfl, rfl⟩
  go_wp2_with fail
  obtain ⟨ag, hag⟩ : ∃ ag, ag = adamL.toArray := ⟨_, rfl⟩
  unfold adamL at hag
  rw [← hag]
  have HAG : Hid (ag = adamL.toArray) := hag
  clear hag
  go_loopw [5, 22] (fun r v wq => ∃ m : Nat, m ≤ 7 ∧ v = .int .i64 (m : Nat) ∧ Rw wq w1.heap.size 36 r (passL A B m) ∧ Below w1.heap.size w1 wq) (fun _ v _ => 7 - (intOf v).toNat)
  case atStart => exact ⟨0, by omega, rfl, World.ownsRow_nil _ _ _ _, Below.refl _ _⟩
  case round =>
    obtain ⟨m, hm, rfl, hR, hBl⟩ := hrel
    by_cases hm7 : m < 7
    · have hm7' : (m : Int) < 7 := by omega
      have hi := index48 m hm7
      have bd := ad_bd m hm7
      obtain ⟨x, hx⟩ : ∃ x, Hid (adX m = x) := ⟨_, rfl⟩
      obtain ⟨y, hy⟩ : ∃ y, Hid (adY m = y) := ⟨_, rfl⟩
      obtain ⟨dx, hdx⟩ : ∃ dx, Hid (adDX m = dx) := ⟨_, rfl⟩
      obtain ⟨dy, hdy⟩ : ∃ dy, Hid (adDY m = dy) := ⟨_, rfl⟩
      rw [← HAG.out, hx.out, hy.out, hdx.out, hdy.out] at hi
      rw [hx.out, hy.out, hdx.out, hdy.out] at bd
      obtain ⟨bd1, bd2, bd3, bd4⟩ := bd
      obtain ⟨cw, hcw⟩ : ∃ c, Hid (cntv A x dx = c) := ⟨_, rfl⟩
      obtain ⟨ch, hch⟩ : ∃ c, Hid (cntv B y dy = c) := ⟨_, rfl⟩
      have D1 : Hid (∀ j, j < cw ↔ x + dx * j < A) := fun j => by rw [← hcw.out]; exact cntv_iff bd1
      have D2 : Hid (∀ j, j < ch ↔ y + dy * j < B) := fun j => by rw [← hch.out]; exact cntv_iff bd2
      have hcw1 : cw ≤ 300 := by rw [← hcw.out]; have := cntv_le (s := A) (f := x) (d := dx) (by omega); omega
      have hch1 : ch ≤ 300 := by rw [← hch.out]; have := cntv_le (s := B) (f := y) (d := dy) (by omega); omega
      have hpas : Hid (pasv A B m = ⟨x, y, dx, dy, cw, ch⟩) := by show _ = _; unfold pasv; rw [hx.out, hy.out, hdx.out, hdy.out, hcw.out, hch.out]
      obtain ⟨L, hL⟩ : ∃ L, Hid (passL A B m = L) := ⟨_, rfl⟩
      have hLl : L.length ≤ 7 := by rw [← hL.out]; exact Nat.le_trans (passL_len A B m) hm
      rw [hL.out] at hR
      obtain ⟨ua, uc, rfl⟩ := hR.form
      have hszw := hBl.size
      have hdx0 : 0 < dx := by omega
      have hdy0 : 0 < dy := by omega
      go_wp2_with fail
      obtain ⟨G, hG⟩ : ∃ G, G = wr.heap.size := ⟨_, rfl⟩
      obtain ⟨W0, hW0⟩ : ∃ W0, W0 = wr.alloc (.cells #[.int .i64 (x : Nat), .int .i64 (y : Nat), .int .i64 (dx : Nat), .int .i64 (dy : Nat), .int .i64 0, .int .i64 0] 36) := ⟨_, rfl⟩
      rw [← hW0, ← hG]
      have g0 : W0.heap[G]? = some (pblk x y dx dy 0 0) := by rw [hW0, hG]; exact blk_new _ _
      have B0 : Below w1.heap.size w1 W0 := by rw [hW0]; exact hBl.alloc hszw _
      have HR : ∀ W, Kept (fun k => k = G) W0 W → Rw W w1.heap.size 36 (.slice ua L.length uc) L := fun W hk => hR.new hW0 hG hk
      have hGb : w1.heap.size ≤ G := by omega
      clear hW0 hG hR hBl hi
      have c0 : W0.cell? ⟨G, 0, none⟩ = some (.int .i64 (x : Nat)) := pblk_c g0 0
      go_wp2_with fail
      go_loopw [8] (fun v wq => ∃ j xx : Nat, v = .int .i64 (xx : Nat) ∧ Hid (xx = x + dx * j) ∧ j ≤ cw ∧ xx ≤ 300 ∧ wq.heap[G]? = some (pblk x y dx dy j 0) ∧ Kept (fun k => k = G) W0 wq) (fun v _ => 300 - (intOf v).toNat)
      case atStart => exact ⟨0, x, rfl, by show _ = _; omega, by omega, by omega, g0, Kept.refl _ _⟩
      case round =>
        clear c0
        obtain ⟨j, xx, rfl, hxx, hj, hx3, hg, hK⟩ := hrel
        have c2 : wr.cell? ⟨G, 2, none⟩ = some (.int .i64 (dx : Nat)) := pblk_c hg 2
        have c4 : wr.cell? ⟨G, 4, none⟩ = some (.int .i64 (j : Nat)) := pblk_c hg 4
        have c1 : wr.cell? ⟨G, 1, none⟩ = some (.int .i64 (y : Nat)) := pblk_c hg 1
        have f4 := pblk_f hg 4
        have hdj := D1.out j
        rw [← hxx.out] at hdj
        by_cases hlt : xx < A
        · have hlt' : (xx : Int) < A := by omega
          have hjc : j < cw := hdj.2 hlt
          have g1 := pblk_w hg (v := (j : Int) + 1) (j + 1) (by omega)
          have K1 := hK.set 4 (.int .i64 ((j : Int) + 1))
          obtain ⟨V, hV⟩ : ∃ V, V = wr.setCell ⟨G, 4, none⟩ (.int .i64 ((j : Int) + 1)) := ⟨_, rfl⟩
          rw [← hV] at g1 K1
          have e2 : V.cell? ⟨G, 2, none⟩ = some (.int .i64 (dx : Nat)) := pblk_c g1 2
          have HV : Hid (V = _) := hV
          clear hV hdj
          go_wp2_with (first | (rw [← HV.out]))
          refine ⟨⟨j + 1, xx + dx, by go_num, ?_, by omega, by omega, g1, K1⟩, by simp [intOf]; omega⟩
          show _ = _
          rw [hxx.out, Nat.mul_add]; omega
        · have hlt' : ¬ (xx : Int) < A := by omega
          have hjc : j = cw := by
            have : ¬ j < cw := fun h' => hlt (hdj.1 h')
            omega
          have hg' : wr.heap[G]? = some (pblk x y dx dy cw 0) := by rw [hg, hjc]
          clear hdj c2 c4 f4 hg hjc
          obtain ⟨V0, hV0⟩ : ∃ V0, V0 = wr := ⟨_, rfl⟩
          rw [← hV0] at hg' hK c1 ⊢
          clear hV0
          go_wp2_with fail
          go_loopw [9] (fun v wq => ∃ j xx : Nat, v = .int .i64 (xx : Nat) ∧ Hid (xx = y + dy * j) ∧ j ≤ ch ∧ xx ≤ 300 ∧ wq.heap[G]? = some (pblk x y dx dy cw j) ∧ Kept (fun k => k = G) W0 wq) (fun v _ => 300 - (intOf v).toNat)
          case atStart => exact ⟨0, y, rfl, by show _ = _; omega, by omega, by omega, hg', hK⟩
          case round =>
            clear c1 hg' hK
            obtain ⟨j, yy, rfl, hyy, hj, hy3, hg, hK⟩ := hrel
            have c3 : wr.cell? ⟨G, 3, none⟩ = some (.int .i64 (dy : Nat)) := pblk_c hg 3
            have c5 : wr.cell? ⟨G, 5, none⟩ = some (.int .i64 (j : Nat)) := pblk_c hg 5
            have f5 := pblk_f hg 5
            have hdj := D2.out j
            rw [← hyy.out] at hdj
            by_cases hlt : yy < B
            · have hlt' : (yy : Int) < B := by omega
              have hjc : j < ch := hdj.2 hlt
              have g1 := pblk_h hg (v := (j : Int) + 1) (j + 1) (by omega)
              have K1 := hK.set 5 (.int .i64 ((j : Int) + 1))
              obtain ⟨V, hV⟩ : ∃ V, V = wr.setCell ⟨G, 5, none⟩ (.int .i64 ((j : Int) + 1)) := ⟨_, rfl⟩
              rw [← hV] at g1 K1
              have e2 : V.cell? ⟨G, 3, none⟩ = some (.int .i64 (dy : Nat)) := pblk_c g1 3
              have HV : Hid (V = _) := hV
              clear hV hdj
              go_wp2_with (first | (rw [← HV.out]))
              refine ⟨⟨j + 1, yy + dy, by go_num, ?_, by omega, by omega, g1, K1⟩, by simp [intOf]; omega⟩
              show _ = _
              rw [hyy.out, Nat.mul_add]; omega
            · have hlt' : ¬ (yy : Int) < B := by omega
              have hjc : j = ch := by
                have : ¬ j < ch := fun h' => hlt (hdj.1 h')
                omega
              have g2 : wr.heap[G]? = some (pblk x y dx dy cw ch) := by rw [hg, hjc]
              clear hdj c3 c5 f5 hg hjc
              obtain ⟨V2, hV2⟩ : ∃ V2, V2 = wr := ⟨_, rfl⟩
              rw [← hV2] at g2 hK ⊢
              clear hV2
              have e4 : V2.cell? ⟨G, 4, none⟩ = some (.int .i64 (cw : Nat)) := pblk_c g2 4
              have e5 : V2.cell? ⟨G, 5, none⟩ = some (.int .i64 (ch : Nat)) := pblk_c g2 5
              have HRG : V2.rangeAt G 0 [.int .i64 (x : Nat), .int .i64 (y : Nat), .int .i64 (dx : Nat), .int .i64 (dy : Nat), .int .i64 (cw : Nat), .int .i64 (ch : Nat)] := blk_range (cs := [.int .i64 (x : Nat), .int .i64 (y : Nat), .int .i64 (dx : Nat), .int .i64 (dy : Nat), .int .i64 (cw : Nat), .int .i64 (ch : Nat)]) g2
              have HR2 := HR V2 hK
              have B2 : Below w1.heap.size w1 V2 := B0.trans (hK.below B0.size (fun k hk => by subst hk; exact hGb))
              have hS2 := B2.size
              by_cases hw0 : 0 < cw
              · by_cases hh0 : 0 < ch
                · have hw0' : (0 : Int) < cw := by omega
                  have hh0' : (0 : Int) < ch := by omega
                  have B3 := B2.alloc hS2 (.cells #[.int .i64 (x : Nat), .int .i64 (y : Nat), .int .i64 (dx : Nat), .int .i64 (dy : Nat), .int .i64 (cw : Nat), .int .i64 (ch : Nat)] 36)
                  have HAP := (HR2.below ((Below.refl _ V2).alloc (Nat.le_refl _) (.cells #[.int .i64 (x : Nat), .int .i64 (y : Nat), .int .i64 (dx : Nat), .int .i64 (dy : Nat), .int .i64 (cw : Nat), .int .i64 (ch : Nat)] 36))).append (t := 34) (p := ⟨x, y, dx, dy, cw, ch⟩) Tryd.underlying34 info36 rfl B3.size (blk_new V2 _) (by omega)
                  have HL : Hid (passL A B (m + 1) = L ++ [⟨x, y, dx, dy, cw, ch⟩]) := passL_yes hL.out hpas.out ⟨hw0, hh0⟩
                  have HAPH : Hid (_) := HAP
                  have HG : ∀ k, (Value.slice ua L.length uc).ownBlock = some k → w1.heap.size ≤ k := fun k hk => (World.ownsRow.lt HR2 k hk).1
                  clear HAP hw0 hh0 HR
                  go_wp2_with (first
                    | (refine wpList_load_mid (by rfl) 36 _ (by rfl) G 0 (by rfl) _ _ HRG Tryd.underlying36 rfl (by kernel_rfl) ?_)
                    | (at_builtin; refine wpList_append_ex rfl (.tmp 59) (.tmp 61) 34 rfl rfl rfl HAPH.out ?_; rintro g' c' w' hR'; have HR' : Hid (_) := hR'; clear hR'))
                  refine ⟨⟨m + 1, by omega, by go_num, ?_, ?_⟩, by simp [intOf]; omega⟩
                  · rw [HL.out]; exact HR'.out.1
                  · exact B3.grown HR'.out.2.1 B3.size HG
                · have hw0' : (0 : Int) < cw := by omega
                  have hh0' : ¬ (0 : Int) < ch := by omega
                  have HL : Hid (passL A B (m + 1) = L) := passL_no hL.out hpas.out (fun h => hh0 h.2)
                  clear hw0 hh0 HR
                  go_wp2
                  refine ⟨⟨m + 1, by omega, by go_num, ?_, B2⟩, by simp [intOf]; omega⟩
                  rw [HL.out]; exact HR2
              · have hw0' : ¬ (0 : Int) < cw := by omega
                have HL : Hid (passL A B (m + 1) = L) := passL_no hL.out hpas.out (fun h => hw0 h.1)
                clear hw0 HR
                go_wp2
                refine ⟨⟨m + 1, by omega, by go_num, ?_, B2⟩, by simp [intOf]; omega⟩
                rw [HL.out]; exact HR2
    · obtain rfl : m = 7 := by omega
      have hm7' : ¬ ((7 : Nat) : Int) < 7 := by omega
      have HR : Hid (_) := hR
      clear hR
      go_wp2
      go_ret
      exact ⟨_, rfl, HR.out, hBl⟩
end Go.Proofs.YtciobjjhdeagkaaDoor
