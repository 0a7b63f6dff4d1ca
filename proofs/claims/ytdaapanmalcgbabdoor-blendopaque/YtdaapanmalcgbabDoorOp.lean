/-
  versalhand's Color, as a contract; BlendOpaque's own walk.
-/
import Derived.Test.YtdaapanmalcgbabDoorMis
namespace Go.Proofs.YtdaapanmalcgbabDoor
open Go.RowKit

theorem blend_yes {m : Int} {p q r : Px} (h0 : 0 ≤ m) (h1 : m < 28) (hp : Pm p) (hq : Pm q) (hr : outv m p q = r) (W : World) (hT : Tab W) : Calls Tryd.prog 5 #[.int .i64 m, pv p, pv q] W fun e w' => e = .returned (.tuple #[pv r, .bool true]) ∧ Below W.heap.size W w' :=
  told (blend_any m p q W hT) (by unfold blendR; rw [hr, mayv_of h0 h1 hp hq])

/-- A colour of one number. -/
def colorv (n : Int) : Px := ⟨n % 256, n.tdiv 256 % 256, n.tdiv 7 % 256, if n % 3 = 0 then n.tdiv 3 % 256 else 255⟩
/-- The same, whole. -/
def wholev (n : Int) : Px := ⟨(colorv n).r, (colorv n).g, (colorv n).b, 255⟩
theorem wholev_wh (n : Int) : Wh (wholev n) := by
  have h : ∀ x : Int, 0 ≤ x % 256 ∧ x % 256 ≤ 255 := fun x => by omega
  exact ⟨⟨(h _).1, (h _).2, (h _).1, (h _).2, (h _).1, (h _).2, by show (0 : Int) ≤ 255; omega, by show (255 : Int) ≤ 255; omega⟩, rfl⟩

set_option maxRecDepth 100000 in
set_option maxHeartbeats 1600000 in
theorem color_any (n : Int) (hn : Fits n) (w : World) : Calls Tryd.prog 4 #[.int .i64 n] w fun r w' => r = .returned (pv (colorv n)) ∧ Below w.heap.size w w' := by
  obtain ⟨f1, f2⟩ := hn
  obtain ⟨K, hK⟩ : ∃ K, n % 3 = K := ⟨_, rfl⟩
  have HC : Hid (colorv n = ⟨n % 256, n.tdiv 256 % 256, n.tdiv 7 % 256, if K = 0 then n.tdiv 3 % 256 else 255⟩) := by show _ = _; rw [← hK]; rfl
  have HK : Hid (n % 3 = K) := hK
  clear hK
  by_cases k0 : K = 0
  · have HE : Hid (colorv n = ⟨n % 256, n.tdiv 256 % 256, n.tdiv 7 % 256, n.tdiv 3 % 256⟩) := by show _ = _; rw [HC.out, if_pos k0]
    go_enter Tryd.func4, Tryd.ntmps4
    go_wp2_with fail
    refine (pick_det n 3 (by omega) (by omega) _).mono ?_
    rintro e w' ⟨rfl, rfl⟩
    rw [HK.out]
    go_wp2_with fail
    refine (pick_det _ 256 (by omega) (by omega) _).mono ?_
    rintro e w' ⟨rfl, rfl⟩
    go_wp2_with fail
    refine (pick_det _ 256 (by omega) (by omega) _).mono ?_
    rintro e w' ⟨rfl, rfl⟩
    go_wp2_with fail
    refine (pick_det _ 256 (by omega) (by omega) _).mono ?_
    rintro e w' ⟨rfl, rfl⟩
    go_wp2_with fail
    refine (pick_det _ 256 (by omega) (by omega) _).mono ?_
    rintro e w' ⟨rfl, rfl⟩
    go_wp2
    refine bodyPost_ret (res_px rfl _ _ _ _ _ _ rfl (blk_new _ _) rfl) rfl ?_
    exact ⟨by rw [HE.out], (Below.refl _ w).alloc (Nat.le_refl _) _⟩
  · have HE : Hid (colorv n = ⟨n % 256, n.tdiv 256 % 256, n.tdiv 7 % 256, 255⟩) := by show _ = _; rw [HC.out, if_neg k0]
    go_enter Tryd.func4, Tryd.ntmps4
    go_wp2_with fail
    refine (pick_det n 3 (by omega) (by omega) _).mono ?_
    rintro e w' ⟨rfl, rfl⟩
    rw [HK.out]
    go_wp2_with fail
    refine (pick_det _ 256 (by omega) (by omega) _).mono ?_
    rintro e w' ⟨rfl, rfl⟩
    go_wp2_with fail
    refine (pick_det _ 256 (by omega) (by omega) _).mono ?_
    rintro e w' ⟨rfl, rfl⟩
    go_wp2_with fail
    refine (pick_det _ 256 (by omega) (by omega) _).mono ?_
    rintro e w' ⟨rfl, rfl⟩
    go_wp2
    refine bodyPost_ret (res_px rfl _ _ _ _ _ _ rfl (blk_new _ _) rfl) rfl ?_
    exact ⟨by rw [HE.out], (Below.refl _ w).alloc (Nat.le_refl _) _⟩

theorem idx27 : (∀ W, (Instr.index 27 (.agg #[.int .i64 15, .int .i64 16, .int .i64 26, .int .i64 27]) (.int .i64 0)).run Tryd.prog W = .ok (.int .i64 15) W) ∧ (∀ W, (Instr.index 27 (.agg #[.int .i64 15, .int .i64 16, .int .i64 26, .int .i64 27]) (.int .i64 1)).run Tryd.prog W = .ok (.int .i64 16) W) ∧ (∀ W, (Instr.index 27 (.agg #[.int .i64 15, .int .i64 16, .int .i64 26, .int .i64 27]) (.int .i64 2)).run Tryd.prog W = .ok (.int .i64 26) W) ∧ (∀ W, (Instr.index 27 (.agg #[.int .i64 15, .int .i64 16, .int .i64 26, .int .i64 27]) (.int .i64 3)).run Tryd.prog W = .ok (.int .i64 27) W) :=
  ⟨fun _ => by kernel_rfl, fun _ => by kernel_rfl, fun _ => by kernel_rfl, fun _ => by kernel_rfl⟩
/-- Of which modes what comes of whole colours is whole. -/
def asked (m : Nat) : Bool := decide (m = 3) || decide (m = 4) || decide (m = 9) || decide (m = 10) || decide (12 < m)

set_option maxRecDepth 100000 in
set_option maxHeartbeats 6400000 in
theorem blendOpaque_walk (w : World) (a b : Int) (ha : Fits a) (hb : Fits b) (hT : Tab w) : Calls Tryd.prog 3 #[.int .i64 a, .int .i64 b] w fun e w' => e = .returned (.bool true) ∧ Below w.heap.size w w' := by
  have hp := wholev_wh a
  have hq := wholev_wh b
  have A1 := color_any a ha
  have A2 := color_any b hb
  obtain ⟨p, hpe⟩ : ∃ x, wholev a = x := ⟨_, rfl⟩
  obtain ⟨q, hqe⟩ : ∃ x, wholev b = x := ⟨_, rfl⟩
  have hpw : p = ⟨(colorv a).r, (colorv a).g, (colorv a).b, 255⟩ := hpe.symm
  have hqw : q = ⟨(colorv b).r, (colorv b).g, (colorv b).b, 255⟩ := hqe.symm
  rw [hpe] at hp
  rw [hqe] at hq
  obtain ⟨c, hc⟩ : ∃ x, colorv a = x := ⟨_, rfl⟩
  obtain ⟨d, hd⟩ : ∃ x, colorv b = x := ⟨_, rfl⟩
  rw [hc] at A1 hpw
  rw [hd] at A2 hqw
  have HPw : Hid (p = ⟨c.r, c.g, c.b, 255⟩) := hpw
  have HQw : Hid (q = ⟨d.r, d.g, d.b, 255⟩) := hqw
  clear hpe hqe ha hb hpw hqw hc hd
  obtain ⟨i0, i1, i2, i3⟩ := idx27
  go_enter Tryd.func3, Tryd.ntmps3
  go_wp2_with fail
  refine (A1 _).mono ?_
  rintro e w1 ⟨rfl, b1⟩
  go_wp2_with fail
  refine (A2 _).mono ?_
  rintro e w2 ⟨rfl, b2⟩
  have gp := Below.blk b2 (blk_new w1 (pblk c)) (by simp)
  have B := (b1.alloc b1.size (pblk c)).trans (b2.mono (by have := b1.size; simp; omega))
  have lp := blk_lt gp
  have h1 := b1.size
  clear b1 b2 A1 A2
  obtain ⟨W, hW⟩ : ∃ x, x = w2.alloc (.cells #[.int .i64 d.r, .int .i64 d.g, .int .i64 d.b, .int .i64 d.a] 23) := ⟨_, rfl⟩
  have HW : Hid (W = w2.alloc (.cells #[.int .i64 d.r, .int .i64 d.g, .int .i64 d.b, .int .i64 d.a] 23)) := hW
  have gq : W.heap[w2.heap.size]? = some (pblk d) := by rw [hW]; exact blk_new _ _
  replace gp : W.heap[w1.heap.size]? = some (pblk c) := by rw [hW]; exact blk_alloc gp _
  replace B : Below w.heap.size w W := by rw [hW]; exact B.alloc B.size _
  clear hW
  have n1 : ¬ w1.heap.size = w2.heap.size := by omega
  have n2 : ¬ w2.heap.size = w1.heap.size := by omega
  obtain ⟨p0, p1, p2, p3⟩ := px_cells gp
  obtain ⟨q0, q1, q2, q3⟩ := px_cells gq
  have fp := blk_free gp 3
  have fq := blk_free gq 3
  obtain ⟨W1, hW1⟩ : ∃ x, x = W.setCell ⟨w1.heap.size, 3, none⟩ (.int .i64 255) := ⟨_, rfl⟩
  have HW1 : Hid (W1 = W.setCell ⟨w1.heap.size, 3, none⟩ (.int .i64 255)) := hW1
  have kp : W1.heap[w1.heap.size]? = some (pblk p) := by rw [hW1, HPw.out]; exact blk_set gp 3 _
  have kq : W1.heap[w2.heap.size]? = some (pblk d) := by rw [hW1, blk_other _ n2]; exact gq
  have B1 : Below w.heap.size w W1 := by rw [hW1]; exact B.setCell h1 _
  clear hW1
  obtain ⟨V, hV⟩ : ∃ x, x = W1.setCell ⟨w2.heap.size, 3, none⟩ (.int .i64 255) := ⟨_, rfl⟩
  have HV : Hid (V = W1.setCell ⟨w2.heap.size, 3, none⟩ (.int .i64 255)) := hV
  have fq1 := blk_free kq 3
  obtain ⟨r0, r1, r2, r3⟩ := px_cells kq
  have mp : V.heap[w1.heap.size]? = some (pblk p) := by rw [hV, blk_other _ n1]; exact kp
  have mq : V.heap[w2.heap.size]? = some (pblk q) := by rw [hV, HQw.out]; exact blk_set kq 3 _
  have B2 : Below w.heap.size w V := by rw [hV]; exact B1.setCell (by show _ ≤ w2.heap.size; omega) _
  have T := hT.on B2
  clear hV HPw HQw
  go_wp2_with (first | rw [← HW.out] | rw [← HW1.out] | rw [← HV.out])
  clear HW HW1 HV p0 p1 p2 p3 q0 q1 q2 q3 r0 r1 r2 r3 fp fq fq1 gp gq kp kq B B1 lp h1
  go_loopw [7] (fun v wq => ∃ m : Nat, m ≤ 28 ∧ v = .int .i64 (m : Nat) ∧ Below V.heap.size V wq) (fun v _ => 28 - (intOf v).toNat)
  case atStart => exact ⟨0, by omega, rfl, Below.refl _ _⟩
  case round =>
    obtain ⟨m, hm, rfl, hB⟩ := hrel
    have T1 := T.on hB
    have kp := Below.blk hB mp (blk_lt mp)
    have kq := Below.blk hB mq (blk_lt mq)
    by_cases hmn : m < 28
    · have hm' : (m : Int) < 28 := by omega
      obtain ⟨r, hr⟩ : ∃ x, outv m p q = x := ⟨_, rfl⟩
      have A3 := blend_yes (m := m) (by omega) hm' hp.pm hq.pm hr
      have hA : asked m = true → r.a = 255 := fun h => by
        rw [← hr, outv_of (by omega) hm' hp.pm hq.pm]
        refine blend_whole hp hq ?_
        simp [asked] at h
        omega
      clear hr
      obtain ⟨p0, p1, p2, p3⟩ := px_cells kp
      obtain ⟨q0, q1, q2, q3⟩ := px_cells kq
      go_wp2_with fail
      refine (A3 _ T1).mono ?_
      rintro e w3 ⟨rfl, b3⟩
      clear p0 p1 p2 p3 q0 q1 q2 q3 A3 kp kq
      have kx := blk_new w3 (pblk r)
      replace hB := (hB.trans (b3.mono hB.size)).alloc (Nat.le_trans hB.size b3.size) (pblk r)
      obtain ⟨C, hC⟩ : ∃ x, x = w3.alloc (.cells #[.int .i64 r.r, .int .i64 r.g, .int .i64 r.b, .int .i64 r.a] 23) := ⟨_, rfl⟩
      have HC : Hid (C = w3.alloc (.cells #[.int .i64 r.r, .int .i64 r.g, .int .i64 r.b, .int .i64 r.a] 23)) := hC
      rw [← hC] at kx hB
      clear hC b3
      obtain ⟨x0, x1, x2, x3⟩ := px_cells kx
      clear kx
      by_cases h3 : m = 3
      · have hr := hA (by simp [asked, h3])
        rw [hr] at x3
        have e3 : ((m : Int) == 3) = true := by simp; omega
        have f3 : decide ((m : Int) = 3) = true := by simp; omega
        have e4 : ((m : Int) == 4) = false := by simp; omega
        have f4 : decide ((m : Int) = 4) = false := by simp; omega
        have e9 : ((m : Int) == 9) = false := by simp; omega
        have f9 : decide ((m : Int) = 9) = false := by simp; omega
        have e10 : ((m : Int) == 10) = false := by simp; omega
        have f10 : decide ((m : Int) = 10) = false := by simp; omega
        have g12 : decide ((12 : Int) < m) = false := by simp; omega
        have HM : Hid (m = 3) := h3
        clear hA hr h3
        go_wp2_with (rw [← HC.out])
        exact ⟨⟨m + 1, by omega, by go_num, hB⟩, by simp [intOf]; omega⟩
      by_cases h4 : m = 4
      · have hr := hA (by simp [asked, h4])
        rw [hr] at x3
        have e3 : ((m : Int) == 3) = false := by simp; omega
        have f3 : decide ((m : Int) = 3) = false := by simp; omega
        have e4 : ((m : Int) == 4) = true := by simp; omega
        have f4 : decide ((m : Int) = 4) = true := by simp; omega
        have e9 : ((m : Int) == 9) = false := by simp; omega
        have f9 : decide ((m : Int) = 9) = false := by simp; omega
        have e10 : ((m : Int) == 10) = false := by simp; omega
        have f10 : decide ((m : Int) = 10) = false := by simp; omega
        have g12 : decide ((12 : Int) < m) = false := by simp; omega
        have HM : Hid (m = 4) := h4
        clear hA hr h4
        go_wp2_with (rw [← HC.out])
        exact ⟨⟨m + 1, by omega, by go_num, hB⟩, by simp [intOf]; omega⟩
      by_cases h9 : m = 9
      · have hr := hA (by simp [asked, h9])
        rw [hr] at x3
        have e3 : ((m : Int) == 3) = false := by simp; omega
        have f3 : decide ((m : Int) = 3) = false := by simp; omega
        have e4 : ((m : Int) == 4) = false := by simp; omega
        have f4 : decide ((m : Int) = 4) = false := by simp; omega
        have e9 : ((m : Int) == 9) = true := by simp; omega
        have f9 : decide ((m : Int) = 9) = true := by simp; omega
        have e10 : ((m : Int) == 10) = false := by simp; omega
        have f10 : decide ((m : Int) = 10) = false := by simp; omega
        have g12 : decide ((12 : Int) < m) = false := by simp; omega
        have HM : Hid (m = 9) := h9
        clear hA hr h9
        go_wp2_with (rw [← HC.out])
        exact ⟨⟨m + 1, by omega, by go_num, hB⟩, by simp [intOf]; omega⟩
      by_cases h10 : m = 10
      · have hr := hA (by simp [asked, h10])
        rw [hr] at x3
        have e3 : ((m : Int) == 3) = false := by simp; omega
        have f3 : decide ((m : Int) = 3) = false := by simp; omega
        have e4 : ((m : Int) == 4) = false := by simp; omega
        have f4 : decide ((m : Int) = 4) = false := by simp; omega
        have e9 : ((m : Int) == 9) = false := by simp; omega
        have f9 : decide ((m : Int) = 9) = false := by simp; omega
        have e10 : ((m : Int) == 10) = true := by simp; omega
        have f10 : decide ((m : Int) = 10) = true := by simp; omega
        have g12 : decide ((12 : Int) < m) = false := by simp; omega
        have HM : Hid (m = 10) := h10
        clear hA hr h10
        go_wp2_with (rw [← HC.out])
        exact ⟨⟨m + 1, by omega, by go_num, hB⟩, by simp [intOf]; omega⟩
      by_cases h12 : 12 < m
      · have hr := hA (by simp [asked, h12])
        rw [hr] at x3
        have e3 : ((m : Int) == 3) = false := by simp; omega
        have f3 : decide ((m : Int) = 3) = false := by simp; omega
        have e4 : ((m : Int) == 4) = false := by simp; omega
        have f4 : decide ((m : Int) = 4) = false := by simp; omega
        have e9 : ((m : Int) == 9) = false := by simp; omega
        have f9 : decide ((m : Int) = 9) = false := by simp; omega
        have e10 : ((m : Int) == 10) = false := by simp; omega
        have f10 : decide ((m : Int) = 10) = false := by simp; omega
        have g12 : decide ((12 : Int) < m) = true := by simp; omega
        have HM : Hid (12 < m) := h12
        clear hA hr
        have h12i : (12 : Int) < m := by omega
        go_wp2_with (rw [← HC.out])
        exact ⟨⟨m + 1, by omega, by go_num, hB⟩, by simp [intOf]; omega⟩
      have h12i : ¬ (12 : Int) < m := by omega
      have e3 : ((m : Int) == 3) = false := by simp; omega
      have f3 : decide ((m : Int) = 3) = false := by simp; omega
      have e4 : ((m : Int) == 4) = false := by simp; omega
      have f4 : decide ((m : Int) = 4) = false := by simp; omega
      have e9 : ((m : Int) == 9) = false := by simp; omega
      have f9 : decide ((m : Int) = 9) = false := by simp; omega
      have e10 : ((m : Int) == 10) = false := by simp; omega
      have f10 : decide ((m : Int) = 10) = false := by simp; omega
      have g12 : decide ((12 : Int) < m) = false := by simp; omega
      clear hA h3 h4 h9 h10
      go_wp2_with (rw [← HC.out])
      exact ⟨⟨m + 1, by omega, by go_num, hB⟩, by simp [intOf]; omega⟩
    · obtain rfl : m = 28 := by omega
      replace B2 := B2.trans (hB.mono B2.size)
      clear T mp mq hB kq
      go_wp2_with fail
      refine wp_loop_rounds 5 ?_
      rw [rounds_succ]
      obtain ⟨p0, p1, p2, p3⟩ := px_cells kp
      go_wp2_with fail
      refine (blend_yes (m := 15) (r := p) (by omega) (by omega) hp.pm hp.pm (by rw [outv_of (by omega) (by omega) hp.pm hp.pm]; exact blend_self hp (by omega)) _ T1).mono ?_
      rintro e U0 ⟨rfl, b3⟩
      clear p0 p1 p2 p3
      have kx := blk_new U0 (pblk p)
      replace kp := blk_alloc (Below.blk b3 kp (blk_lt kp)) (pblk p)
      replace T1 := (T1.on b3).on ((Below.refl _ U0).alloc (Nat.le_refl _) (pblk p))
      replace B2 := (B2.trans (b3.mono B2.size)).alloc (Nat.le_trans B2.size b3.size) (pblk p)
      obtain ⟨C0, hC⟩ : ∃ x, x = U0.alloc (.cells #[.int .i64 p.r, .int .i64 p.g, .int .i64 p.b, .int .i64 p.a] 23) := ⟨_, rfl⟩
      have HC : Hid (C0 = U0.alloc (.cells #[.int .i64 p.r, .int .i64 p.g, .int .i64 p.b, .int .i64 p.a] 23)) := hC
      rw [← hC] at kx kp T1 B2
      clear hC b3
      obtain ⟨p0, p1, p2, p3⟩ := px_cells kp
      obtain ⟨x0, x1, x2, x3⟩ := px_cells kx
      go_wp2_with (rw [← HC.out])
      clear p0 p1 p2 p3 x0 x1 x2 x3 kx HC
      rw [rounds_succ]
      obtain ⟨p0, p1, p2, p3⟩ := px_cells kp
      go_wp2_with fail
      refine (blend_yes (m := 16) (r := p) (by omega) (by omega) hp.pm hp.pm (by rw [outv_of (by omega) (by omega) hp.pm hp.pm]; exact blend_self hp (by omega)) _ T1).mono ?_
      rintro e U1 ⟨rfl, b3⟩
      clear p0 p1 p2 p3
      have kx := blk_new U1 (pblk p)
      replace kp := blk_alloc (Below.blk b3 kp (blk_lt kp)) (pblk p)
      replace T1 := (T1.on b3).on ((Below.refl _ U1).alloc (Nat.le_refl _) (pblk p))
      replace B2 := (B2.trans (b3.mono B2.size)).alloc (Nat.le_trans B2.size b3.size) (pblk p)
      obtain ⟨C1, hC⟩ : ∃ x, x = U1.alloc (.cells #[.int .i64 p.r, .int .i64 p.g, .int .i64 p.b, .int .i64 p.a] 23) := ⟨_, rfl⟩
      have HC : Hid (C1 = U1.alloc (.cells #[.int .i64 p.r, .int .i64 p.g, .int .i64 p.b, .int .i64 p.a] 23)) := hC
      rw [← hC] at kx kp T1 B2
      clear hC b3
      obtain ⟨p0, p1, p2, p3⟩ := px_cells kp
      obtain ⟨x0, x1, x2, x3⟩ := px_cells kx
      go_wp2_with (rw [← HC.out])
      clear p0 p1 p2 p3 x0 x1 x2 x3 kx HC
      rw [rounds_succ]
      obtain ⟨p0, p1, p2, p3⟩ := px_cells kp
      go_wp2_with fail
      refine (blend_yes (m := 26) (r := p) (by omega) (by omega) hp.pm hp.pm (by rw [outv_of (by omega) (by omega) hp.pm hp.pm]; exact blend_self hp (by omega)) _ T1).mono ?_
      rintro e U2 ⟨rfl, b3⟩
      clear p0 p1 p2 p3
      have kx := blk_new U2 (pblk p)
      replace kp := blk_alloc (Below.blk b3 kp (blk_lt kp)) (pblk p)
      replace T1 := (T1.on b3).on ((Below.refl _ U2).alloc (Nat.le_refl _) (pblk p))
      replace B2 := (B2.trans (b3.mono B2.size)).alloc (Nat.le_trans B2.size b3.size) (pblk p)
      obtain ⟨C2, hC⟩ : ∃ x, x = U2.alloc (.cells #[.int .i64 p.r, .int .i64 p.g, .int .i64 p.b, .int .i64 p.a] 23) := ⟨_, rfl⟩
      have HC : Hid (C2 = U2.alloc (.cells #[.int .i64 p.r, .int .i64 p.g, .int .i64 p.b, .int .i64 p.a] 23)) := hC
      rw [← hC] at kx kp T1 B2
      clear hC b3
      obtain ⟨p0, p1, p2, p3⟩ := px_cells kp
      obtain ⟨x0, x1, x2, x3⟩ := px_cells kx
      go_wp2_with (rw [← HC.out])
      clear p0 p1 p2 p3 x0 x1 x2 x3 kx HC
      rw [rounds_succ]
      obtain ⟨p0, p1, p2, p3⟩ := px_cells kp
      go_wp2_with fail
      refine (blend_yes (m := 27) (r := p) (by omega) (by omega) hp.pm hp.pm (by rw [outv_of (by omega) (by omega) hp.pm hp.pm]; exact blend_self hp (by omega)) _ T1).mono ?_
      rintro e U3 ⟨rfl, b3⟩
      clear p0 p1 p2 p3
      have kx := blk_new U3 (pblk p)
      replace kp := blk_alloc (Below.blk b3 kp (blk_lt kp)) (pblk p)
      replace T1 := (T1.on b3).on ((Below.refl _ U3).alloc (Nat.le_refl _) (pblk p))
      replace B2 := (B2.trans (b3.mono B2.size)).alloc (Nat.le_trans B2.size b3.size) (pblk p)
      obtain ⟨C3, hC⟩ : ∃ x, x = U3.alloc (.cells #[.int .i64 p.r, .int .i64 p.g, .int .i64 p.b, .int .i64 p.a] 23) := ⟨_, rfl⟩
      have HC : Hid (C3 = U3.alloc (.cells #[.int .i64 p.r, .int .i64 p.g, .int .i64 p.b, .int .i64 p.a] 23)) := hC
      rw [← hC] at kx kp T1 B2
      clear hC b3
      obtain ⟨p0, p1, p2, p3⟩ := px_cells kp
      obtain ⟨x0, x1, x2, x3⟩ := px_cells kx
      go_wp2_with (rw [← HC.out])
      clear p0 p1 p2 p3 x0 x1 x2 x3 kx HC
      rw [rounds_succ]
      go_wp2_with fail
      refine (known_any _ T1).mono ?_
      rintro e U5 ⟨rfl, b3⟩
      go_wp2
      go_ret
      exact ⟨rfl, B2.trans (b3.mono B2.size)⟩
end Go.Proofs.YtdaapanmalcgbabDoor
