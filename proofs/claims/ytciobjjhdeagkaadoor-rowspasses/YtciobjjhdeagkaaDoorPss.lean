/-
  rows.Passes.
-/
import Derived.Test.YtciobjjhdeagkaaDoorPas
namespace Go.Proofs.YtciobjjhdeagkaaDoor
open Go.RowKit

def adamL : List Value := [.int .i64 0, .int .i64 0, .int .i64 8, .int .i64 8, .int .i64 0, .int .i64 0, .int .i64 4, .int .i64 0, .int .i64 8, .int .i64 8, .int .i64 0, .int .i64 0, .int .i64 0, .int .i64 4, .int .i64 4, .int .i64 8, .int .i64 0, .int .i64 0, .int .i64 2, .int .i64 0, .int .i64 4, .int .i64 4, .int .i64 0, .int .i64 0, .int .i64 0, .int .i64 2, .int .i64 2, .int .i64 4, .int .i64 0, .int .i64 0, .int .i64 1, .int .i64 0, .int .i64 2, .int .i64 2, .int .i64 0, .int .i64 0, .int .i64 0, .int .i64 1, .int .i64 1, .int .i64 2, .int .i64 0, .int .i64 0]
/-- rows.adam7, as it is laid. -/
def Tab (w : World) : Prop := w.rangeAt 0 0 adamL
theorem Tab.pos {w : World} (h : Tab w) : 0 < w.heap.size := by
  have := h 0 (.int .i64 0) rfl
  exact blk_lt_of_cell this
theorem Tab.below {B : Nat} {w w' : World} (h : Tab w) (hb : Below B w w') (hB : 0 < B) : Tab w' := fun j v hv => by
  rw [World.cell?_of_block (a := ⟨0, 0 + j, none⟩) (hb.block 0 hB)]
  exact h j v hv
theorem index44 (m : Nat) (hm : m < 7) : ∀ W, (Instr.index 44 (.agg adamL.toArray) (.int .i64 (m : Nat))).run Tryd.prog W = .ok (.agg #[.int .i64 (adX m : Nat), .int .i64 (adY m : Nat), .int .i64 (adDX m : Nat), .int .i64 (adDY m : Nat), .int .i64 0, .int .i64 0]) W := by
  intro W
  rcases (show m = 0 ∨ m = 1 ∨ m = 2 ∨ m = 3 ∨ m = 4 ∨ m = 5 ∨ m = 6 by omega) with rfl | rfl | rfl | rfl | rfl | rfl | rfl <;> kernel_rfl
theorem info30 : (Tryd.prog.info? 30).map (fun i => (i.zero, i.size, i.bytes)) = some (some (.agg #[.int .i64 0, .int .i64 0, .int .i64 0, .int .i64 0, .int .i64 0, .int .i64 0]), 6, 48) := by kernel_rfl
theorem info36 : (Tryd.prog.info? 36).map (fun i => (i.zero, i.size, i.bytes)) = some (some (.agg #[.int .i64 0, .int .i64 0, .int .i64 0, .int .i64 0, .int .i64 0, .int .i64 0]), 6, 48) := by kernel_rfl
/-- A side, brought within. -/
def sidev (n : Int) : Nat := (max 0 (min n 256)).toNat
theorem sidev_le (n : Int) : sidev n ≤ 256 := by unfold sidev; omega
/-- What the passes' calls tell. -/
def PassR (A B : Nat) (ty : TypeId) (w : World) (e : Ending) (w' : World) : Prop := ∃ v, e = .returned v ∧ Rw w' w.heap.size ty v (passL A B 7) ∧ Below w.heap.size w w'
theorem Rw.new {w w0 w' : World} {base G : Nat} {ty : TypeId} {v : Value} {L : List Pas} {o : Obj} (h : Rw w base ty v L) (h0 : w0 = w.alloc o) (hG : G = w.heap.size) (hk : Kept (fun k => k = G) w0 w') : Rw w' base ty v L :=
  h.blk fun g hg => by
    have hlt := (World.ownsRow.lt h g hg).2
    rw [hk.block g (by rw [h0]; simp; omega) (by show ¬ g = G; omega), h0]
    exact Below.heap_alloc _ _ _ hlt
theorem passL_yes {A B m : Nat} {p : Pas} {L : List Pas} (hL : passL A B m = L) (hp : pasv A B m = p) (h : 0 < p.w ∧ 0 < p.h) : passL A B (m + 1) = L ++ [p] := by
  simp only [passL]; rw [hp, hL, if_pos h]
theorem passL_no {A B m : Nat} {p : Pas} {L : List Pas} (hL : passL A B m = L) (hp : pasv A B m = p) (h : ¬ (0 < p.w ∧ 0 < p.h)) : passL A B (m + 1) = L := by
  simp only [passL]; rw [hp, hL, if_neg h, List.append_nil]
theorem blk_range {w : World} {G : Nat} {cs : List Value} {t : TypeId} {fr : Nat × Nat} (h : w.heap[G]? = some (.cells cs.toArray t fr)) : w.rangeAt G 0 cs := fun j v hv => by
  rw [Nat.zero_add, blk_cell h]; simpa using hv

set_option maxRecDepth 100000 in
set_option maxHeartbeats 3200000 in
theorem passes_any (n h : Int) (w : World) (T : Tab w) : Calls Tryd.prog 9 #[.int .i64 n, .int .i64 h] w (PassR (sidev n) (sidev h) 30 w) := by
  obtain ⟨A, hA⟩ : ∃ A : Nat, Hid (sidev n = A) := ⟨_, rfl⟩
  obtain ⟨B, hB⟩ : ∃ B : Nat, Hid (sidev h = B) := ⟨_, rfl⟩
  have S1 : ∀ W, Calls Tryd.prog 17 #[.int .i64 n] W fun e w' => e = .returned (.int .i64 (A : Nat)) ∧ w' = W := fun W => by rw [← hA.out]; exact side_any n W
  have S2 : ∀ W, Calls Tryd.prog 17 #[.int .i64 h] W fun e w' => e = .returned (.int .i64 (B : Nat)) ∧ w' = W := fun W => by rw [← hB.out]; exact side_any h W
  have hA1 : A ≤ 256 := by rw [← hA.out]; exact sidev_le n
  have hB1 : B ≤ 256 := by rw [← hB.out]; exact sidev_le h
  rw [hA.out, hB.out]
  go_enter Tryd.func9, Tryd.ntmps9
  go_wp2_with fail
  refine (S1 _).mono ?_
  rintro e w1 ⟨rfl, rfl⟩
  go_wp2_with fail
  refine (S2 _).mono ?_
  rintro e w1 ⟨rfl, rfl⟩
  obtain ⟨ag, hag⟩ : ∃ ag, Hid (ag = adamL.toArray) := ⟨_, rfl⟩
  go_wp2_with (refine wpList_load_mid (by rfl) 44 _ (by rfl) 0 0 (by rfl) _ _ T Tryd.underlying44 rfl (by kernel_rfl) ?_; rw [← hag.out])
  go_loopw [5, 13] (fun r v wq => ∃ m : Nat, m ≤ 7 ∧ v = .int .i64 (m : Nat) ∧ Rw wq w1.heap.size 30 r (passL A B m) ∧ Below w1.heap.size w1 wq) (fun _ v _ => 7 - (intOf v).toNat)
  case atStart => exact ⟨0, by omega, rfl, World.ownsRow_nil _ _ _ _, Below.refl _ _⟩
  case round =>
    obtain ⟨m, hm, rfl, hR, hBl⟩ := hrel
    by_cases hm7 : m < 7
    · have hm7' : (m : Int) < 7 := by omega
      have hi := index44 m hm7
      have bd := ad_bd m hm7
      obtain ⟨x, hx⟩ : ∃ x, Hid (adX m = x) := ⟨_, rfl⟩
      obtain ⟨y, hy⟩ : ∃ y, Hid (adY m = y) := ⟨_, rfl⟩
      obtain ⟨dx, hdx⟩ : ∃ dx, Hid (adDX m = dx) := ⟨_, rfl⟩
      obtain ⟨dy, hdy⟩ : ∃ dy, Hid (adDY m = dy) := ⟨_, rfl⟩
      rw [← hag.out, hx.out, hy.out, hdx.out, hdy.out] at hi
      rw [hx.out, hy.out, hdx.out, hdy.out] at bd
      obtain ⟨bd1, bd2, bd3, bd4⟩ := bd
      obtain ⟨cw, hcw⟩ : ∃ c, Hid (cntv A x dx = c) := ⟨_, rfl⟩
      obtain ⟨ch, hch⟩ : ∃ c, Hid (cntv B y dy = c) := ⟨_, rfl⟩
      have C1 : ∀ W, Calls Tryd.prog 18 #[.int .i64 (A : Nat), .int .i64 (x : Nat), .int .i64 (dx : Nat)] W fun e w' => e = .returned (.int .i64 (cw : Nat)) ∧ w' = W := fun W => by rw [← hcw.out]; exact count_any A x dx hA1 bd1 bd3 W
      have C2 : ∀ W, Calls Tryd.prog 18 #[.int .i64 (B : Nat), .int .i64 (y : Nat), .int .i64 (dy : Nat)] W fun e w' => e = .returned (.int .i64 (ch : Nat)) ∧ w' = W := fun W => by rw [← hch.out]; exact count_any B y dy hB1 bd2 bd4 W
      have hpas : Hid (pasv A B m = ⟨x, y, dx, dy, cw, ch⟩) := by show _ = _; unfold pasv; rw [hx.out, hy.out, hdx.out, hdy.out, hcw.out, hch.out]
      obtain ⟨L, hL⟩ : ∃ L, Hid (passL A B m = L) := ⟨_, rfl⟩
      have hLl : L.length ≤ 7 := by rw [← hL.out]; exact Nat.le_trans (passL_len A B m) hm
      rw [hL.out] at hR
      obtain ⟨ua, uc, rfl⟩ := hR.form
      have hszw := hBl.size
      clear bd1 bd2 bd3 bd4 T
      go_wp2_with fail
      obtain ⟨G, hG⟩ : ∃ G, G = wr.heap.size := ⟨_, rfl⟩
      obtain ⟨W0, hW0⟩ : ∃ W0, W0 = wr.alloc (.cells #[.int .i64 (x : Nat), .int .i64 (y : Nat), .int .i64 (dx : Nat), .int .i64 (dy : Nat), .int .i64 0, .int .i64 0] 30) := ⟨_, rfl⟩
      rw [← hW0, ← hG]
      have g0 : W0.heap[G]? = some (.cells #[.int .i64 (x : Nat), .int .i64 (y : Nat), .int .i64 (dx : Nat), .int .i64 (dy : Nat), .int .i64 0, .int .i64 0] 30) := by rw [hW0, hG]; exact blk_new _ _
      have B0 : Below w1.heap.size w1 W0 := by rw [hW0]; exact hBl.alloc hszw _
      have HR : ∀ W, Kept (fun k => k = G) W0 W → Rw W w1.heap.size 30 (.slice ua L.length uc) L := fun W hk => hR.new hW0 hG hk
      have hGb : w1.heap.size ≤ G := by omega
      clear hW0 hG hR hBl hi
      have d0 : W0.cell? ⟨G, 0, none⟩ = some (.int .i64 (x : Nat)) := blk_cell g0 0
      have d1 : W0.cell? ⟨G, 1, none⟩ = some (.int .i64 (y : Nat)) := blk_cell g0 1
      have d2 : W0.cell? ⟨G, 2, none⟩ = some (.int .i64 (dx : Nat)) := blk_cell g0 2
      have d3 : W0.cell? ⟨G, 3, none⟩ = some (.int .i64 (dy : Nat)) := blk_cell g0 3
      have hin := Ext.inh W0
      have x0 := fun k : Ext W0 => Ext.cell d0 k
      have x1 := fun k : Ext W0 => Ext.cell d1 k
      have x2 := fun k : Ext W0 => Ext.cell d2 k
      have x3 := fun k : Ext W0 => Ext.cell d3 k
      refine region_ext_cone 13 (by kernel_rfl) (by kernel_rfl) ?_
      simp only [List.take_succ_cons, List.take_zero, List.drop_succ_cons, List.drop_zero]
      repeat (go_big_quiet_step (fail))
      go_big_quiet_step (first | (go_at_call 18; exact Ext.same (C1 _)))
      repeat (go_big_quiet_step (fail))
      go_big_quiet_step (first | (go_at_call 18; exact Ext.same (C2 _)))
      repeat (go_big_quiet_step (fail))
      refine wpQuiet_nil ?_
      rintro _ ⟨k, rfl⟩
      have gk := Ext.blk g0 k
      have K0 : Kept (fun k => k = G) W0 k.w := Kept.of_below k.h (Nat.le_refl _) _
      obtain ⟨V, hV⟩ : ∃ V, V = k.w := ⟨_, rfl⟩
      rw [← hV] at gk K0 ⊢
      clear hV k hin x0 x1 x2 x3 d0 d1 d2 d3 g0 C1 C2
      have c4 : V.cell? ⟨G, 4, none⟩ = some (.int .i64 0) := blk_cell gk 4
      have f4 := blk_free gk 4
      have g1 : (V.setCell ⟨G, 4, none⟩ (.int .i64 (cw : Nat))).heap[G]? = some (.cells #[.int .i64 (x : Nat), .int .i64 (y : Nat), .int .i64 (dx : Nat), .int .i64 (dy : Nat), .int .i64 (cw : Nat), .int .i64 0] 30) := blk_set gk 4 _
      have K1 : Kept (fun k => k = G) W0 (V.setCell ⟨G, 4, none⟩ (.int .i64 (cw : Nat))) := K0.set 4 _
      obtain ⟨V1, hV1⟩ : ∃ V1, V1 = V.setCell ⟨G, 4, none⟩ (.int .i64 (cw : Nat)) := ⟨_, rfl⟩
      rw [← hV1] at g1 K1
      have c5 : V1.cell? ⟨G, 5, none⟩ = some (.int .i64 0) := blk_cell g1 5
      have f5 := blk_free g1 5
      have g2 : (V1.setCell ⟨G, 5, none⟩ (.int .i64 (ch : Nat))).heap[G]? = some (.cells #[.int .i64 (x : Nat), .int .i64 (y : Nat), .int .i64 (dx : Nat), .int .i64 (dy : Nat), .int .i64 (cw : Nat), .int .i64 (ch : Nat)] 30) := blk_set g1 5 _
      have K2 : Kept (fun k => k = G) W0 (V1.setCell ⟨G, 5, none⟩ (.int .i64 (ch : Nat))) := K1.set 5 _
      obtain ⟨V2, hV2⟩ : ∃ V2, V2 = V1.setCell ⟨G, 5, none⟩ (.int .i64 (ch : Nat)) := ⟨_, rfl⟩
      rw [← hV2] at g2 K2
      have e4 : V2.cell? ⟨G, 4, none⟩ = some (.int .i64 (cw : Nat)) := blk_cell g2 4
      have e5 : V2.cell? ⟨G, 5, none⟩ = some (.int .i64 (ch : Nat)) := blk_cell g2 5
      have HRG : V2.rangeAt G 0 [.int .i64 (x : Nat), .int .i64 (y : Nat), .int .i64 (dx : Nat), .int .i64 (dy : Nat), .int .i64 (cw : Nat), .int .i64 (ch : Nat)] := blk_range (cs := [.int .i64 (x : Nat), .int .i64 (y : Nat), .int .i64 (dx : Nat), .int .i64 (dy : Nat), .int .i64 (cw : Nat), .int .i64 (ch : Nat)]) g2
      have HV1 : Hid (V1 = _) := hV1
      have HV2 : Hid (V2 = _) := hV2
      clear hV1 hV2
      have HR2 := HR V2 K2
      have B2 : Below w1.heap.size w1 V2 := B0.trans (K2.below B0.size (fun k hk => by subst hk; exact hGb))
      have hS2 := B2.size
      by_cases hw0 : 0 < cw
      · by_cases hh0 : 0 < ch
        · have hw0' : (0 : Int) < cw := by omega
          have hh0' : (0 : Int) < ch := by omega
          have B3 := B2.alloc hS2 (.cells #[.int .i64 (x : Nat), .int .i64 (y : Nat), .int .i64 (dx : Nat), .int .i64 (dy : Nat), .int .i64 (cw : Nat), .int .i64 (ch : Nat)] 30)
          have HAP := (HR2.below ((Below.refl _ V2).alloc (Nat.le_refl _) (.cells #[.int .i64 (x : Nat), .int .i64 (y : Nat), .int .i64 (dx : Nat), .int .i64 (dy : Nat), .int .i64 (cw : Nat), .int .i64 (ch : Nat)] 30))).append (t := 26) (p := ⟨x, y, dx, dy, cw, ch⟩) Tryd.underlying26 info30 rfl B3.size (blk_new V2 _) (by omega)
          have HL : Hid (passL A B (m + 1) = L ++ [⟨x, y, dx, dy, cw, ch⟩]) := passL_yes hL.out hpas.out ⟨hw0, hh0⟩
          have HAPH : Hid (_) := HAP
          have HG : ∀ k, (Value.slice ua L.length uc).ownBlock = some k → w1.heap.size ≤ k := fun k hk => (World.ownsRow.lt HR2 k hk).1
          clear HAP hw0 hh0 HR
          go_wp2_with (first
            | (rw [← HV1.out])
            | (rw [← HV2.out])
            | (refine wpList_load_mid (by rfl) 30 _ (by rfl) G 0 (by rfl) _ _ HRG Tryd.underlying30 rfl (by kernel_rfl) ?_)
            | (at_builtin; refine wpList_append_ex rfl (.tmp 38) (.tmp 40) 26 rfl rfl rfl HAPH.out ?_; rintro g' c' w' hR'; have HR' : Hid (_) := hR'; clear hR'))
          refine ⟨⟨m + 1, by omega, by go_num, ?_, ?_⟩, by simp [intOf]; omega⟩
          · rw [HL.out]; exact HR'.out.1
          · exact B3.grown HR'.out.2.1 B3.size HG
        · have hw0' : (0 : Int) < cw := by omega
          have hh0' : ¬ (0 : Int) < ch := by omega
          have HL : Hid (passL A B (m + 1) = L) := passL_no hL.out hpas.out (fun h => hh0 h.2)
          clear hw0 hh0 HR
          go_wp2_with (first
            | (rw [← HV1.out])
            | (rw [← HV2.out]))
          refine ⟨⟨m + 1, by omega, by go_num, ?_, B2⟩, by simp [intOf]; omega⟩
          rw [HL.out]; exact HR2
      · have hw0' : ¬ (0 : Int) < cw := by omega
        have HL : Hid (passL A B (m + 1) = L) := passL_no hL.out hpas.out (fun h => hw0 h.1)
        clear hw0 HR
        go_wp2_with (first
          | (rw [← HV1.out])
          | (rw [← HV2.out]))
        refine ⟨⟨m + 1, by omega, by go_num, ?_, B2⟩, by simp [intOf]; omega⟩
        rw [HL.out]; exact HR2
    · obtain rfl : m = 7 := by omega
      have hm7' : ¬ ((7 : Nat) : Int) < 7 := by omega
      have HR : Hid (_) := hR
      clear hR
      go_wp2
      go_ret
      exact ⟨_, rfl, HR.out, hBl⟩
end Go.Proofs.YtciobjjhdeagkaaDoor
