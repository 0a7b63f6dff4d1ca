/-
  BlendKeeps' own walk.
-/
import Derived.Test.YtdaapanmalcgbaaDoorAl
namespace Go.Proofs.YtdaapanmalcgbaaDoor
open Go.RowKit

/-- A premultiplied pixel out of four numbers. -/
def kpv (l : Px) : Px := ⟨l.r % (l.a % 256 + 1), l.g % (l.a % 256 + 1), l.b % (l.a % 256 + 1), l.a % 256⟩
theorem kpv_pm (l : Px) : Pm (kpv l) := by
  have h1 : 0 ≤ l.a % 256 := by omega
  have h2 : l.a % 256 ≤ 255 := by omega
  have h3 : ∀ x : Int, 0 ≤ x % (l.a % 256 + 1) ∧ x % (l.a % 256 + 1) ≤ l.a % 256 := fun x =>
    ⟨Int.emod_nonneg _ (by omega), by have := Int.emod_lt_of_pos x (show 0 < l.a % 256 + 1 by omega); omega⟩
  exact ⟨⟨(h3 _).1, Int.le_trans (h3 _).2 h2, (h3 _).1, Int.le_trans (h3 _).2 h2, (h3 _).1, Int.le_trans (h3 _).2 h2, h1, h2⟩, (h3 _).2, (h3 _).2, (h3 _).2⟩

set_option maxRecDepth 100000 in
set_option maxHeartbeats 3200000 in
theorem blendKeeps_walk (w : World) (mode : Int) (l n : Px) (hT : Tab w) : Calls Tryd.prog 6 #[.int .i64 mode, pv l, pv n] w fun e w' => e = .returned (.bool true) ∧ Below w.heap.size w w' := by
  have hp := kpv_pm l
  have hq := kpv_pm n
  have PA := pick_det l.a 256 (by omega) (by omega)
  have PB := pick_det n.a 256 (by omega) (by omega)
  obtain ⟨K, hK⟩ : ∃ x, l.a % 256 = x := ⟨_, rfl⟩
  obtain ⟨L, hL⟩ : ∃ x, n.a % 256 = x := ⟨_, rfl⟩
  have hK0 : 0 ≤ K := by omega
  have hK1 : K ≤ 255 := by omega
  have hL0 : 0 ≤ L := by omega
  have hL1 : L ≤ 255 := by omega
  obtain ⟨pr, hpr⟩ : ∃ x, l.r % (K + 1) = x := ⟨_, rfl⟩
  have Ppr : ∀ W : World, Calls Tryd.prog 12 #[.int .i64 l.r, .int .i64 (K + 1)] W fun e w' => e = .returned (.int .i64 pr) ∧ w' = W := fun W => by rw [← hpr]; exact pick_det _ _ (by omega) (by omega) W
  obtain ⟨pg, hpg⟩ : ∃ x, l.g % (K + 1) = x := ⟨_, rfl⟩
  have Ppg : ∀ W : World, Calls Tryd.prog 12 #[.int .i64 l.g, .int .i64 (K + 1)] W fun e w' => e = .returned (.int .i64 pg) ∧ w' = W := fun W => by rw [← hpg]; exact pick_det _ _ (by omega) (by omega) W
  obtain ⟨pb, hpb⟩ : ∃ x, l.b % (K + 1) = x := ⟨_, rfl⟩
  have Ppb : ∀ W : World, Calls Tryd.prog 12 #[.int .i64 l.b, .int .i64 (K + 1)] W fun e w' => e = .returned (.int .i64 pb) ∧ w' = W := fun W => by rw [← hpb]; exact pick_det _ _ (by omega) (by omega) W
  obtain ⟨qr, hqr⟩ : ∃ x, n.r % (L + 1) = x := ⟨_, rfl⟩
  have Pqr : ∀ W : World, Calls Tryd.prog 12 #[.int .i64 n.r, .int .i64 (L + 1)] W fun e w' => e = .returned (.int .i64 qr) ∧ w' = W := fun W => by rw [← hqr]; exact pick_det _ _ (by omega) (by omega) W
  obtain ⟨qg, hqg⟩ : ∃ x, n.g % (L + 1) = x := ⟨_, rfl⟩
  have Pqg : ∀ W : World, Calls Tryd.prog 12 #[.int .i64 n.g, .int .i64 (L + 1)] W fun e w' => e = .returned (.int .i64 qg) ∧ w' = W := fun W => by rw [← hqg]; exact pick_det _ _ (by omega) (by omega) W
  obtain ⟨qb, hqb⟩ : ∃ x, n.b % (L + 1) = x := ⟨_, rfl⟩
  have Pqb : ∀ W : World, Calls Tryd.prog 12 #[.int .i64 n.b, .int .i64 (L + 1)] W fun e w' => e = .returned (.int .i64 qb) ∧ w' = W := fun W => by rw [← hqb]; exact pick_det _ _ (by omega) (by omega) W
  have ep : kpv l = ⟨pr, pg, pb, K⟩ := by unfold kpv; rw [hK, hpr, hpg, hpb]
  have eq : kpv n = ⟨qr, qg, qb, L⟩ := by unfold kpv; rw [hL, hqr, hqg, hqb]
  rw [ep] at hp
  rw [eq] at hq
  rw [hK] at PA
  rw [hL] at PB
  obtain ⟨m, hm⟩ : ∃ x, mode % 28 = x := ⟨_, rfl⟩
  have hm0 : 0 ≤ m := by omega
  have hm1 : m < 28 := by omega
  have Pm' := pick_det mode 28 (by omega) (by omega)
  rw [hm] at Pm'
  obtain ⟨r, hr⟩ : ∃ x, outv m ⟨pr, pg, pb, K⟩ ⟨qr, qg, qb, L⟩ = x := ⟨_, rfl⟩
  have A3 := blend_yes hm0 hm1 hp hq hr
  have hrp : Pm r := by rw [← hr, outv_of hm0 hm1 hp hq]; exact blendv_pm m hp hq
  have A5 : ∀ W : World, Calls Tryd.prog 14 #[pv r] W fun e w' => e = .returned (.bool true) ∧ Below W.heap.size W w' := fun W => told (rpremultiplied_any r W) (by rw [(premv_iff r).2 hrp])
  clear hr hm hK hL ep eq hpr hpg hpb hqr hqg hqb hp hq hrp
  go_enter Tryd.func6, Tryd.ntmps6
  go_wp2_with fail
  refine (PA _).mono ?_
  rintro e w' ⟨rfl, hw⟩
  obtain rfl := hw.symm
  go_wp2_with fail
  refine (PB _).mono ?_
  rintro e w' ⟨rfl, hw⟩
  obtain rfl := hw.symm
  go_wp2_with fail
  obtain ⟨W, hW⟩ : ∃ x, x = (w.alloc (.cells #[.int .i64 l.r, .int .i64 l.g, .int .i64 l.b, .int .i64 l.a] 28)).alloc (.cells #[.int .i64 n.r, .int .i64 n.g, .int .i64 n.b, .int .i64 n.a] 28) := ⟨_, rfl⟩
  rw [← hW]
  have gl : W.heap[w.heap.size]? = some (.cells (pcs l) 28) := by rw [hW]; exact blk_alloc (blk_new w _) _
  have gn : W.heap[w.heap.size + 1]? = some (.cells (pcs n) 28) := by rw [hW]; exact blk_new2 w _ _
  have B : Below w.heap.size w W := by rw [hW]; exact ((Below.refl _ w).alloc (Nat.le_refl _) _).alloc (by simp) _
  have hs : w.heap.size + 2 ≤ W.heap.size := by rw [hW]; simp
  clear hW PA PB
  refine region_lay1 17 9 (pblk ⟨0, 0, 0, 0⟩) (by kernel_rfl) (by kernel_rfl) (by kernel_rfl) _ rfl (fun _ _ => by kernel_rfl) ?_
  apply Exists.intro
  refine ⟨fun X hX hin => ?_, fun g9 w' hg hb hz => ?_⟩
  · obtain ⟨c0, c1, c2, c3⟩ := px_extX (X := X) gl
    simp only [List.take_succ_cons, List.take_zero]
    repeat (go_big_quiet_step (fail))
    go_big_quiet_step (first | (go_at_call 12; exact ExtX.same (Ppr _)))
    repeat (go_big_quiet_step (fail))
    go_big_quiet_step (first | (go_at_call 12; exact ExtX.same (Ppg _)))
    repeat (go_big_quiet_step (fail))
    go_big_quiet_step (first | (go_at_call 12; exact ExtX.same (Ppb _)))
    repeat (go_big_quiet_step (fail))
    refine wpQuiet_nil ?_
    rfl
  obtain ⟨W1, hW1⟩ : ∃ x, x = w'.setRow g9 (pcs ⟨pr, pg, pb, K⟩) := ⟨_, rfl⟩
  have negn := Nat.ne_of_lt (Nat.lt_of_lt_of_le (blk_lt gn) hg)
  replace gn : W1.heap[w.heap.size + 1]? = some (.cells (pcs n) 28) := by rw [hW1]; exact row_blk (Below.blk hb gn (blk_lt gn)) negn
  have gg9 : W1.heap[g9]? = some (pblk ⟨pr, pg, pb, K⟩) := by rw [hW1]; exact setRow_heap _ _ _ _ _ _ hz
  replace B : Below w.heap.size w W1 := by rw [hW1]; exact below_row (B.trans (hb.mono B.size)) (Nat.le_trans B.size hg) _
  have HW1 : Hid (W1 = w'.setRow g9 (pcs ⟨pr, pg, pb, K⟩)) := hW1
  have HZ : Hid (w'.heap[g9]? = some (pblk ⟨0, 0, 0, 0⟩)) := hz
  clear hW1 hz hb hg negn
  simp only [Nat.reduceAdd, List.drop_succ_cons, List.drop_zero]
  go_wp2_with (refine store_px' ⟨pr, pg, pb, K⟩ HW1 HZ.out rfl _ _ (by rfl) (by rfl) (by rfl) (by rfl) ?_)
  simp only [Act.put, List.setIfInBounds_toArray, List.set_cons_succ, List.set_cons_zero]
  clear HW1 HZ
  refine region_lay1 17 10 (pblk ⟨0, 0, 0, 0⟩) (by kernel_rfl) (by kernel_rfl) (by kernel_rfl) _ rfl (fun _ _ => by kernel_rfl) ?_
  apply Exists.intro
  refine ⟨fun X hX hin => ?_, fun g10 w' hg hb hz => ?_⟩
  · obtain ⟨c0, c1, c2, c3⟩ := px_extX (X := X) gn
    simp only [List.take_succ_cons, List.take_zero]
    repeat (go_big_quiet_step (fail))
    go_big_quiet_step (first | (go_at_call 12; exact ExtX.same (Pqr _)))
    repeat (go_big_quiet_step (fail))
    go_big_quiet_step (first | (go_at_call 12; exact ExtX.same (Pqg _)))
    repeat (go_big_quiet_step (fail))
    go_big_quiet_step (first | (go_at_call 12; exact ExtX.same (Pqb _)))
    repeat (go_big_quiet_step (fail))
    refine wpQuiet_nil ?_
    rfl
  obtain ⟨W2, hW2⟩ : ∃ x, x = w'.setRow g10 (pcs ⟨qr, qg, qb, L⟩) := ⟨_, rfl⟩
  have negg9 := Nat.ne_of_lt (Nat.lt_of_lt_of_le (blk_lt gg9) hg)
  replace gg9 : W2.heap[g9]? = some (pblk ⟨pr, pg, pb, K⟩) := by rw [hW2]; exact row_blk (Below.blk hb gg9 (blk_lt gg9)) negg9
  have gg10 : W2.heap[g10]? = some (pblk ⟨qr, qg, qb, L⟩) := by rw [hW2]; exact setRow_heap _ _ _ _ _ _ hz
  replace B : Below w.heap.size w W2 := by rw [hW2]; exact below_row (B.trans (hb.mono B.size)) (Nat.le_trans B.size hg) _
  have HW2 : Hid (W2 = w'.setRow g10 (pcs ⟨qr, qg, qb, L⟩)) := hW2
  have HZ : Hid (w'.heap[g10]? = some (pblk ⟨0, 0, 0, 0⟩)) := hz
  clear hW2 hz hb hg negg9
  simp only [Nat.reduceAdd, List.drop_succ_cons, List.drop_zero]
  go_wp2_with (refine store_px' ⟨qr, qg, qb, L⟩ HW2 HZ.out rfl _ _ (by rfl) (by rfl) (by rfl) (by rfl) ?_)
  simp only [Act.put, List.setIfInBounds_toArray, List.set_cons_succ, List.set_cons_zero]
  clear HW2 HZ
  have T := hT.on B
  refine region_late1 8 11 (pblk ⟨0, 0, 0, 0⟩) 7 (by omega) (by kernel_rfl) (by kernel_rfl) (by kernel_rfl) (by kernel_rfl) (by kernel_rfl) _ _ _ rfl rfl (fun _ _ _ _ _ h => h) _ rfl (fun _ _ => by kernel_rfl) ?_
  apply Exists.intro
  refine ⟨fun X hX hin => ?_, fun g11 w' hg hb hz => ?_⟩
  · obtain ⟨p0, p1, p2, p3⟩ := px_extX (X := X) (p := ⟨pr, pg, pb, K⟩) gg9
    obtain ⟨q0, q1, q2, q3⟩ := px_extX (X := X) (p := ⟨qr, qg, qb, L⟩) gg10
    simp only [List.take_succ_cons, List.take_zero]
    repeat (go_big_quiet_step (fail))
    go_big_quiet_step (first | (go_at_call 12; exact ExtX.same (Pm' _)))
    repeat (go_big_quiet_step (fail))
    go_big_quiet_step (first | (go_at_call 9; exact ExtX.call hX (A3 _ (T.on (ExtX.h _)))))
    repeat (go_big_quiet_step (fail))
    refine wpQuiet_nil ?_
    rfl
  obtain ⟨W3, hW3⟩ : ∃ x, x = w'.setRow g11 (pcs r) := ⟨_, rfl⟩
  have gg11 : W3.heap[g11]? = some (pblk r) := by rw [hW3]; exact setRow_heap _ _ _ _ _ _ hz
  replace B : Below w.heap.size w W3 := by rw [hW3]; exact below_row (B.trans (hb.mono B.size)) (Nat.le_trans B.size hg) _
  replace T := hT.on B
  have HW3 : Hid (W3 = w'.setRow g11 (pcs r)) := hW3
  have HZ : Hid (w'.heap[g11]? = some (pblk ⟨0, 0, 0, 0⟩)) := hz
  clear hW3 hz hb hg gg9 gg10 A3 Pm'
  simp only [Nat.reduceAdd, List.drop_succ_cons, List.drop_zero]
  go_wp2_with (refine store_px' r HW3 HZ.out rfl _ _ (by rfl) (by rfl) (by rfl) (by rfl) ?_)
  clear HW3 HZ
  refine (known_any _ T).mono ?_
  rintro e w5 ⟨rfl, b5⟩
  replace gg11 := Below.blk b5 gg11 (blk_lt gg11)
  replace B := B.trans (b5.mono B.size)
  clear b5
  obtain ⟨p0, p1, p2, p3⟩ := px_cells gg11
  go_wp2_with fail
  refine (A5 _).mono ?_
  rintro e w6 ⟨rfl, b6⟩
  go_wp2
  go_ret
  exact ⟨rfl, B.trans (b6.mono B.size)⟩
end Go.Proofs.YtdaapanmalcgbaaDoor
