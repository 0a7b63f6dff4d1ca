/-
  RowsPasses' own walk.
-/
import Derived.Test.YtciobjjhdeagkaaDoorVis
import Derived.Test.YtciobjjhdeagkaaDoorKno
import Derived.Test.YtciobjjhdeagkaaDoorPick
namespace Go.Proofs.YtciobjjhdeagkaaDoor
open Go.RowKit

theorem zero40 (W : World) : (zeroValue 40).run Tryd.prog W = .ok (.agg (arr 1600 fun _ => .bool false)) W := by kernel_rfl
set_option maxRecDepth 100000 in
set_option maxHeartbeats 3200000 in
theorem rowsPasses_walk (w : World) (n h : Int) (hT : Tab w) :
    Calls Tryd.prog 6 #[.int .i64 n, .int .i64 h] w fun e w' => e = .returned (.bool true) ∧ Below w.heap.size w w' := by
  obtain ⟨A, hA⟩ : ∃ p : Nat, Hid (pickv n 40 = p) := ⟨_, rfl⟩
  obtain ⟨B, hB⟩ : ∃ p : Nat, Hid (pickv h 40 = p) := ⟨_, rfl⟩
  have hA40 : A < 40 := by rw [← hA.out]; exact pickv_lt n 40 (by omega)
  have hB40 : B < 40 := by rw [← hB.out]; exact pickv_lt h 40 (by omega)
  have P1 : ∀ W, Calls Tryd.prog 11 #[.int .i64 n, .int .i64 40] W fun e w' => e = .returned (.int .i64 (A : Nat)) ∧ w' = W := fun W => by rw [← hA.out]; exact pick_any n 40 (by omega) (by omega) W
  have P2 : ∀ W, Calls Tryd.prog 11 #[.int .i64 h, .int .i64 40] W fun e w' => e = .returned (.int .i64 (B : Nat)) ∧ w' = W := fun W => by rw [← hB.out]; exact pick_any h 40 (by omega) (by omega) W
  go_enter Tryd.func6, Tryd.ntmps6
  go_wp2_with fail
  refine (P1 _).mono ?_
  rintro e W1 ⟨rfl, rfl⟩
  go_wp2_with fail
  refine (P2 _).mono ?_
  rintro e W1 ⟨rfl, rfl⟩
  obtain ⟨w, hw⟩ : ∃ w, w = W1 := ⟨_, rfl⟩
  subst hw
  clear P1 P2
  go_wp2_with (rw [zero40])
  obtain ⟨Gh, hGh⟩ : ∃ g, g = w.heap.size := ⟨_, rfl⟩
  have EB := blk_new w (.cells (arr 1600 fun _ => .bool false) 40)
  have B1 : Below w.heap.size w (w.alloc (.cells (arr 1600 fun _ => .bool false) 40)) := (Below.refl _ _).alloc (Nat.le_refl _) _
  obtain ⟨w1, hw1⟩ : ∃ w1, w1 = w.alloc (.cells (arr 1600 fun _ => .bool false) 40) := ⟨_, rfl⟩
  rw [← hw1] at EB B1 ⊢
  rw [← hGh] at EB ⊢
  have hlt1 : Gh < w1.heap.size := blk_lt EB
  have hT1 := hT.below B1 hT.pos
  clear hw1
  have hGB : w.heap.size ≤ Gh := by omega
  clear hGh
  refine (passes_any (A : Nat) (B : Nat) _ hT1).mono ?_
  rintro e w7 ⟨v7, rfl, R7, x7⟩
  have B7 := B1.trans (x7.mono B1.size)
  have hT7 := hT1.below x7 hT1.pos
  have E7 := (x7.block Gh hlt1).trans EB
  have hsd : sidev (A : Nat) = A ∧ sidev (B : Nat) = B := by unfold sidev; omega
  rw [hsd.1, hsd.2] at R7
  obtain ⟨L, hL⟩ : ∃ L, Hid (passL A B 7 = L) := ⟨_, rfl⟩
  rw [hL.out] at R7
  have hl7 : L.length ≤ 7 := by rw [← hL.out]; exact passL_len _ _ 7
  obtain ⟨a7, c7, rfl⟩ := R7.form
  have hgb : ∀ g, (Value.slice a7 L.length c7).ownBlock = some g → g ≠ Gh := fun g hg => by
    have := (World.ownsRow.lt R7 g hg).1
    omega
  have HR : ∀ W, Kept (fun k => k = Gh) w7 W → Rw W w1.heap.size 30 (.slice a7 L.length c7) L := fun W hk => R7.blk (fun g hg => hk.block g (World.ownsRow.lt R7 g hg).2 (hgb g hg))
  have hpos := hT.pos
  clear x7 EB hT1 hT B1 hgb R7
  go_wp2_with fail
  go_loopw [6, 21] (fun v u wq => ∃ i nn : Nat, i ≤ L.length ∧ u = .int .i64 (i : Nat) ∧ v = .int .i64 (nn : Nat) ∧ Hid (nn = sumT L i) ∧ wq.heap[Gh]? = some (.cells (arr 1600 fun s => .bool (vis A B i 0 0 0 (s / 40) (s % 40))) 40) ∧ Kept (fun k => k = Gh) w7 wq) (fun _ u _ => L.length - (intOf u).toNat)
  case atStart => exact ⟨0, 0, by omega, rfl, rfl, by show _ = _; simp [sumT], by rw [E7]; simp only [vis_nil], Kept.refl _ _⟩
  case round =>
    clear E7
    obtain ⟨i, nn, hil, rfl, rfl, hnn, hg, hK⟩ := hrel
    by_cases hi : i < L.length
    · have hi' : (i : Int) < L.length := by omega
      obtain ⟨m, hm7, hmi, hpw, hph, hget⟩ := passL_get A B 7 i (by rw [hL.out]; exact hi)
      rw [hL.out] at hget
      obtain ⟨g7, d7, e7, lc7, _, glt, r7⟩ := (HR _ hK).range hget
      simp only [Value.slice.injEq, true_and] at e7
      obtain ⟨rfl, rfl⟩ := e7
      have hsum := sumT_succ hget
      have hfull : Hid (0 < (pasv A B m).w ∧ 0 < (pasv A B m).h) := ⟨hpw, hph⟩
      have bd := ad_bd m hm7
      have hw1 : (pasv A B m).w ≤ A := cnt_le bd.1
      have hh1 : (pasv A B m).h ≤ B := cnt_le bd.2.1
      have W1 : ∀ t, t < (pasv A B m).w ↔ adX m + adDX m * t < A := fun t => cnt_iff bd.1
      have H1 : ∀ t, t < (pasv A B m).h ↔ adY m + adDY m * t < B := fun t => cnt_iff bd.2.1
      have hS : sumT L i ≤ 11200 := by have := sum_le hA40 hB40 i; rw [hL.out] at this; omega
      have VR : Hid (∀ j x y, vis A B i j (pasv A B m).w m x y = vis A B i (j + 1) 0 m x y) := fun j x y => vis_row hm7 hmi ⟨hpw, hph⟩
      have VP : Hid (∀ x y, vis A B i (pasv A B m).h 0 m x y = vis A B (i + 1) 0 0 m x y) := fun x y => vis_pass hm7 hmi ⟨hpw, hph⟩
      have VN : Hid (∀ j t, vis A B i j t m (adX m + adDX m * t) (adY m + adDY m * j) = false) := fun j t => vis_new hm7 hmi
      have VS : Hid (∀ j t x y, adX m + adDX m * t < A → adY m + adDY m * j < B → vis A B i j (t + 1) m x y = if x = adX m + adDX m * t ∧ y = adY m + adDY m * j then true else vis A B i j t m x y) := fun j t x y h1 h2 => vis_step hm7 hmi ⟨hpw, hph⟩ h1 h2
      have r7' : wr.rangeAt g7 (6 * i) [.int .i64 (adX m : Nat), .int .i64 (adY m : Nat), .int .i64 (adDX m : Nat), .int .i64 (adDY m : Nat), .int .i64 ((pasv A B m).w : Nat), .int .i64 ((pasv A B m).h : Nat)] := r7
      have hgv : wr.heap[Gh]? = some (.cells (arr 1600 fun s => .bool (vis A B i 0 0 m (s / 40) (s % 40))) 40) := hg.trans (congrArg (fun f : Nat → Value => some (Obj.cells (arr 1600 f) 40)) (funext fun s => by rw [vis_any A B i 0 m]))
      obtain ⟨pw, hpwE⟩ : ∃ c, (pasv A B m).w = c := ⟨_, rfl⟩
      obtain ⟨ph, hphE⟩ : ∃ c, (pasv A B m).h = c := ⟨_, rfl⟩
      rw [hpwE, hphE] at hsum r7'
      rw [hpwE] at hpw hw1 VR
      rw [hphE] at hph hh1 VP
      simp only [hpwE] at W1
      simp only [hphE] at H1
      obtain ⟨x, hx⟩ : ∃ c, adX m = c := ⟨_, rfl⟩
      obtain ⟨y, hy⟩ : ∃ c, adY m = c := ⟨_, rfl⟩
      obtain ⟨dx, hdx⟩ : ∃ c, adDX m = c := ⟨_, rfl⟩
      obtain ⟨dy, hdy⟩ : ∃ c, adDY m = c := ⟨_, rfl⟩
      rw [hx, hy, hdx, hdy] at bd r7'
      simp only [hx, hdx] at W1
      simp only [hy, hdy] at H1
      simp only [hx, hdx, hy, hdy] at VN VS
      have hm0 : Hid (m = m) := rfl
      clear hx hy hdx hdy hpwE hphE r7 hget hfull hmi hm7 hg
      have HW1 : Hid (∀ t, t < pw ↔ x + dx * t < A) := W1
      have HH1 : Hid (∀ t, t < ph ↔ y + dy * t < B) := H1
      have HSU : Hid (sumT L (i + 1) = sumT L i + pw * ph) := hsum
      have HS : Hid (sumT L i ≤ 11200) := hS
      clear W1 H1 hsum hS
      obtain ⟨I, hI⟩ : ∃ I, 6 * i = I := ⟨_, rfl⟩
      have hI2 : i * 6 = I := by omega
      rw [hI] at r7'
      obtain ⟨bd1, bd2, bd3, bd4⟩ := bd
      have q0 : ¬ (pw : Int) < 1 := by omega
      have q1 : ¬ (ph : Int) < 1 := by omega
      have q2 : ¬ (dx : Int) < 1 := by omega
      have q3 : ¬ (dy : Int) < 1 := by omega
      have q4 : ¬ (A : Int) < pw := by omega
      have q5 : ¬ (B : Int) < ph := by omega
      obtain ⟨G, hG⟩ : ∃ G, G = wr.heap.size := ⟨_, rfl⟩
      obtain ⟨W0, hW0⟩ : ∃ W0, W0 = wr.alloc (.cells #[.int .i64 (x : Nat), .int .i64 (y : Nat), .int .i64 (dx : Nat), .int .i64 (dy : Nat), .int .i64 (pw : Nat), .int .i64 (ph : Nat)] 30) := ⟨_, rfl⟩
      have g0 : W0.heap[G]? = some (.cells #[.int .i64 (x : Nat), .int .i64 (y : Nat), .int .i64 (dx : Nat), .int .i64 (dy : Nat), .int .i64 (pw : Nat), .int .i64 (ph : Nat)] 30) := by rw [hW0, hG]; exact blk_new _ _
      have K0 : Kept (fun k => k = Gh) w7 W0 := by rw [hW0]; exact hK.alloc _
      have gh0 : W0.heap[Gh]? = some (.cells (arr 1600 fun s => .bool (vis A B i 0 0 m (s / 40) (s % 40))) 40) := by rw [hW0]; exact blk_alloc hgv _
      have hGG : Hid (G ≠ Gh) := by have := blk_lt hgv; show _ ≠ _; omega
      have z2 : W0.cell? ⟨wr.heap.size, 2, none⟩ = some (.int .i64 (dx : Nat)) := by rw [← hG]; exact blk_cell g0 2
      have z3 : W0.cell? ⟨wr.heap.size, 3, none⟩ = some (.int .i64 (dy : Nat)) := by rw [← hG]; exact blk_cell g0 3
      have z4 : W0.cell? ⟨wr.heap.size, 4, none⟩ = some (.int .i64 (pw : Nat)) := by rw [← hG]; exact blk_cell g0 4
      have z5 : W0.cell? ⟨wr.heap.size, 5, none⟩ = some (.int .i64 (ph : Nat)) := by rw [← hG]; exact blk_cell g0 5
      have HW0 : Hid (W0 = _) := hW0
      have HGE : Hid (G = wr.heap.size) := hG
      clear hW0 hG hK hgv
      go_wp2_with (first
        | (refine wpList_load_mid (by rfl) 30 _ (by rfl) g7 I (by rfl) _ _ r7' Tryd.underlying30 rfl (by kernel_rfl) ?_)
        | (rw [← HW0.out]))
      rw [← HGE.out]
      clear z2 z3 z4 z5 HW0 HGE r7' q0 q1 q2 q3 q4 q5 glt
      go_loopw [6, 9] (fun v u wq => ∃ j nn : Nat, j ≤ ph ∧ u = .int .i64 (j : Nat) ∧ v = .int .i64 (nn : Nat) ∧ Hid (nn = sumT L i + pw * j) ∧ wq.heap[Gh]? = some (.cells (arr 1600 fun s => .bool (vis A B i j 0 m (s / 40) (s % 40))) 40) ∧ Kept (fun k => k = Gh) W0 wq) (fun _ u _ => ph - (intOf u).toNat)
      case atStart => exact ⟨0, nn, by omega, rfl, rfl, by show _ = _; rw [hnn.out]; simp, gh0, Kept.refl _ _⟩
      case round =>
        clear gh0 hnn
        obtain ⟨j, nn, hj, rfl, rfl, hnn, hg, hK⟩ := hrel
        have gP := hK.blk g0 hGG.out
        have z5 : wr.cell? ⟨G, 5, none⟩ = some (.int .i64 (ph : Nat)) := blk_cell gP 5
        by_cases hjl : j < ph
        · have hjl' : (j : Int) < ph := by omega
          obtain ⟨W2, hW2⟩ : ∃ W2, W2 = wr := ⟨_, rfl⟩
          rw [← hW2] at hg hK gP z5 ⊢
          clear hW2
          go_wp2_with fail
          clear z5
          go_loopw [6, 10] (fun v u wq => ∃ t nn : Nat, t ≤ pw ∧ u = .int .i64 (t : Nat) ∧ v = .int .i64 (nn : Nat) ∧ Hid (nn = sumT L i + pw * j + t) ∧ wq.heap[Gh]? = some (.cells (arr 1600 fun s => .bool (vis A B i j t m (s / 40) (s % 40))) 40) ∧ Kept (fun k => k = Gh) W2 wq) (fun _ u _ => pw - (intOf u).toNat)
          case atStart => exact ⟨0, nn, by omega, rfl, rfl, by show _ = _; rw [hnn.out]; simp, hg, Kept.refl _ _⟩
          case round =>
            clear hg hnn
            obtain ⟨t, nn, ht, rfl, rfl, hnn, hg, hK3⟩ := hrel
            have gP3 := hK3.blk gP hGG.out
            have z4 : wr.cell? ⟨G, 4, none⟩ = some (.int .i64 (pw : Nat)) := blk_cell gP3 4
            by_cases htl : t < pw
            · have htl' : (t : Int) < pw := by omega
              have z0 : wr.cell? ⟨G, 0, none⟩ = some (.int .i64 (x : Nat)) := blk_cell gP3 0
              have z1 : wr.cell? ⟨G, 1, none⟩ = some (.int .i64 (y : Nat)) := blk_cell gP3 1
              have z2 : wr.cell? ⟨G, 2, none⟩ = some (.int .i64 (dx : Nat)) := blk_cell gP3 2
              have z3 : wr.cell? ⟨G, 3, none⟩ = some (.int .i64 (dy : Nat)) := blk_cell gP3 3
              have hXA := (HW1.out t).1 htl
              have hYB := (HH1.out j).1 hjl
              have vs := fun x' y' => VS.out j t x' y' hXA hYB
              have vn := VN.out j t
              have hnb : nn ≤ 100000 := by
                have := HS.out
                have h1 := Nat.mul_le_mul (show pw ≤ 40 by omega) (show j ≤ 40 by omega)
                have := hnn.out
                omega
              obtain ⟨M1, hM1⟩ : ∃ M : Nat, M = dx * t := ⟨_, rfl⟩
              obtain ⟨M2, hM2⟩ : ∃ M : Nat, M = dy * j := ⟨_, rfl⟩
              rw [← hM1] at hXA vs vn
              rw [← hM2] at hYB vs vn
              have p1 : (t : Int) * dx = M1 := by rw [hM1, Nat.mul_comm]; rfl
              have p2 : (j : Int) * dy = M2 := by rw [hM2, Nat.mul_comm]; rfl
              obtain ⟨X, hX⟩ : ∃ X, x + M1 = X := ⟨_, rfl⟩
              obtain ⟨Y, hY⟩ : ∃ Y, y + M2 = Y := ⟨_, rfl⟩
              have p3 : (x : Int) + M1 = X := by omega
              have p4 : (y : Int) + M2 = Y := by omega
              rw [hX] at hXA vs vn
              rw [hY] at hYB vs vn
              clear hM1 hM2 hX hY
              have r1 : (X : Int) < A := by omega
              have r2 : (Y : Int) < B := by omega
              have r3 : (X : Int) < 40 := by omega
              have r4 : (Y : Int) < 40 := by omega
              have HV1 : Hid (∀ x' y', vis A B i j (t + 1) m x' y' = if x' = X ∧ y' = Y then true else vis A B i j t m x' y') := vs
              clear vs
              have zc : wr.cell? ⟨Gh, X * 40 + Y, none⟩ = some (.bool false) := by
                rw [arr_cell hg (by omega), show (X * 40 + Y) / 40 = X by omega, show (X * 40 + Y) % 40 = Y by omega, vn]
              have zf : wr.frozen? ⟨Gh, X * 40 + Y, none⟩ = false := blk_free hg _
              have gn : (wr.setCell ⟨Gh, X * 40 + Y, none⟩ (.bool true)).heap[Gh]? = some (.cells (arr 1600 fun s => .bool (vis A B i j (t + 1) m (s / 40) (s % 40))) 40) := by
                rw [arr_blk_set hg]
                refine congrArg (fun c => some (Obj.cells c 40)) (arr_congr _ _ _ fun s hs => ?_)
                rw [HV1.out]
                by_cases e : s = X * 40 + Y
                · rw [if_pos e, if_pos (by omega)]
                · rw [if_neg e, if_neg (by omega)]
              have Kn : Kept (fun k => k = Gh) W2 (wr.setCell ⟨Gh, X * 40 + Y, none⟩ (.bool true)) := hK3.set _ _
              have hnn1 : Hid (nn + 1 = sumT L i + pw * j + (t + 1)) := by show _ = _; rw [hnn.out]; omega
              clear hg hK3 gP3 vn
              go_wp2
              all_goals exact ⟨⟨t + 1, nn + 1, by omega, by go_num, by go_num, hnn1, gn, Kn⟩, by simp [intOf]; omega⟩
            · obtain rfl : t = pw := by omega
              have htl' : ¬ (t : Int) < t := by omega
              have gn : wr.heap[Gh]? = some (.cells (arr 1600 fun s => .bool (vis A B i (j + 1) 0 m (s / 40) (s % 40))) 40) := by
                rw [hg]
                exact congrArg (fun f : Nat → Value => some (Obj.cells (arr 1600 f) 40)) (funext fun s => by rw [VR.out])
              have Kn := hK.trans (hK3.mono (fun _ _ h => h))
              have hnn1 : Hid (nn = sumT L i + t * (j + 1)) := by show _ = _; rw [hnn.out, Nat.mul_add]; omega
              clear hg hK3 gP3
              go_wp2
              exact ⟨⟨j + 1, nn, by omega, by go_num, rfl, hnn1, gn, Kn⟩, by simp [intOf]; omega⟩
        · obtain rfl : j = ph := by omega
          have hjl' : ¬ (j : Int) < j := by omega
          have gn : wr.heap[Gh]? = some (.cells (arr 1600 fun s => .bool (vis A B (i + 1) 0 0 0 (s / 40) (s % 40))) 40) := by
            rw [hg]
            exact congrArg (fun f : Nat → Value => some (Obj.cells (arr 1600 f) 40)) (funext fun s => by rw [VP.out, vis_any A B (i + 1) m 0])
          have Kn := K0.trans (hK.mono (fun _ _ h => h))
          have hnn1 : Hid (nn = sumT L (i + 1)) := by show _ = _; rw [hnn.out, HSU.out]
          clear hg hK gP
          go_wp2
          exact ⟨⟨i + 1, nn, by omega, by go_num, rfl, hnn1, gn, Kn⟩, by simp [intOf]; omega⟩
    · obtain rfl : i = L.length := by omega
      have hi' : ¬ (L.length : Int) < L.length := by omega
      have BK : Below w.heap.size w7 wr := hK.below B7.size (fun k hk => by subst hk; exact hGB)
      have BB : Below w.heap.size w wr := B7.trans BK
      have hT9 := hT7.below BK hpos
      have hab : (A : Int) * B = nn := by
        have := sum_whole hA40 hB40
        rw [hL.out] at this
        rw [hnn.out, this]
        rfl
      have hnb : nn ≤ 1600 := by
        have h1 := Nat.mul_le_mul (show A ≤ 40 by omega) (show B ≤ 40 by omega)
        have h2 : A * B = nn := by exact_mod_cast hab
        omega
      clear hg hK
      go_wp2_with fail
      refine (known_any _ hT9).mono ?_
      rintro e w9 ⟨rfl, x9⟩
      have B9 := BB.trans (x9.mono BB.size)
      clear x9 BB
      go_wp2
      go_ret
      exact ⟨rfl, B9⟩
end Go.Proofs.YtciobjjhdeagkaaDoor
