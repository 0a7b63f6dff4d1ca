/-
  Package pixel and the reference's chapter 12: Premultiplied, Over, Mix, as contracts.
-/
import Derived.Test.YtffkbombeaojjaaPxb
import Derived.Laws.Cover1
namespace Go.Proofs.Ytffkbombeaojjaa
open Go.RowKit

set_option maxRecDepth 100000 in
set_option maxHeartbeats 800000 in
theorem premultiplied_any (p : Px) (w : World) : Calls Try.prog 10 #[pv p] w fun e w' => e = .returned (.bool (premv p)) ∧ Below w.heap.size w w' := by
  obtain ⟨R, hR⟩ : ∃ R, rightv p = R := ⟨_, rfl⟩
  have HR : Hid (rightv p = R) := hR
  obtain ⟨m, hm⟩ : ∃ m, (if p.r < p.g then p.g else p.r) = m := ⟨_, rfl⟩
  obtain ⟨M, hM⟩ : ∃ M, (if m < p.b then p.b else m) = M := ⟨_, rfl⟩
  have HM : Hid (premv p = (R && decide (M ≤ p.a))) := by
    show _ = _
    unfold premv
    rw [hR]
    cases R
    · rfl
    · rw [← hM, ← hm, Bool.eq_iff_iff]
      simp only [Bool.true_and, Bool.and_eq_true, decide_eq_true_eq]
      repeat' split
      all_goals omega
  clear hR
  go_enter Try.func10, Try.ntmps10
  go_wp2_with fail
  refine (right_any p _).mono ?_
  rintro e w1 ⟨rfl, hb⟩
  have g1 := Below.blk hb (blk_new w _) (by simp)
  have b1 : Below w.heap.size w w1 := below_new (by simpa using hb)
  clear hb
  obtain ⟨c0, c1, c2, c3⟩ := px_cells g1
  clear g1
  rw [HR.out]
  cases R
  · clear hm hM
    go_wp2
    go_ret
    exact ⟨by rw [HM.out]; rfl, b1⟩
  · by_cases hMa : M ≤ p.a
    · have HE : Hid (premv p = true) := by show _ = _; rw [HM.out, decide_eq_true hMa]; rfl
      go_wp2
      go_ret
      exact ⟨by rw [HE.out]; exact ret_bool (by first | rfl | exact decide_eq_true (by omega) | exact decide_eq_false (by omega)), b1⟩
    · have HE : Hid (premv p = false) := by show _ = _; rw [HM.out, decide_eq_false hMa]; rfl
      go_wp2
      go_ret
      exact ⟨by rw [HE.out]; exact ret_bool (by first | rfl | exact decide_eq_true (by omega) | exact decide_eq_false (by omega)), b1⟩

set_option maxRecDepth 100000 in
set_option maxHeartbeats 800000 in
theorem rpremultiplied_any (p : Px) (w : World) : Calls Try.prog 22 #[pv p] w fun e w' => e = .returned (.bool (premv p)) ∧ Below w.heap.size w w' := by
  obtain ⟨R, hR⟩ : ∃ R, rightv p = R := ⟨_, rfl⟩
  have HR : Hid (rightv p = R) := hR
  have HM : Hid (premv p = (R && decide (p.r ≤ p.a) && decide (p.g ≤ p.a) && decide (p.b ≤ p.a))) := by show _ = _; unfold premv; rw [hR]
  clear hR
  go_enter Try.func22, Try.ntmps22
  go_wp2_with fail
  refine (rright_any p _).mono ?_
  rintro e w1 ⟨rfl, hb⟩
  have g1 := Below.blk hb (blk_new w _) (by simp)
  have b1 : Below w.heap.size w w1 := below_new (by simpa using hb)
  clear hb
  obtain ⟨c0, c1, c2, c3⟩ := px_cells g1
  clear g1
  rw [HR.out]
  cases R
  · go_wp2
    go_ret
    exact ⟨by rw [HM.out]; rfl, b1⟩
  by_cases h1 : p.r ≤ p.a
  · by_cases h2 : p.g ≤ p.a
    · by_cases h3 : p.b ≤ p.a
      · have HE : Hid (premv p = true) := by show _ = _; rw [HM.out, decide_eq_true h1, decide_eq_true h2, decide_eq_true h3]; rfl
        go_wp2
        go_ret
        exact ⟨by rw [HE.out]; exact ret_bool (by first | rfl | exact decide_eq_true (by omega) | exact decide_eq_false (by omega)), b1⟩
      · have HE : Hid (premv p = false) := by show _ = _; rw [HM.out, decide_eq_false h3, Bool.and_false]
        go_wp2
        go_ret
        exact ⟨by rw [HE.out]; exact ret_bool (by first | rfl | exact decide_eq_true (by omega) | exact decide_eq_false (by omega)), b1⟩
    · have HE : Hid (premv p = false) := by show _ = _; rw [HM.out, decide_eq_false h2, Bool.and_false, Bool.false_and]
      go_wp2
      go_ret
      exact ⟨by rw [HE.out]; exact ret_bool (by first | rfl | exact decide_eq_true (by omega) | exact decide_eq_false (by omega)), b1⟩
  · have HE : Hid (premv p = false) := by show _ = _; rw [HM.out, decide_eq_false h1, Bool.and_false, Bool.false_and, Bool.false_and]
    go_wp2
    go_ret
    exact ⟨by rw [HE.out]; exact ret_bool (by first | rfl | exact decide_eq_true (by omega) | exact decide_eq_false (by omega)), b1⟩

set_option maxRecDepth 100000 in
set_option maxHeartbeats 1600000 in
theorem over_any (s d : Px) (w : World) : Calls Try.prog 11 #[pv s, pv d] w fun e w' => e = .returned (pv (overv s d)) ∧ Below w.heap.size w w' := by
  go_enter Try.func11, Try.ntmps11
  go_wp2_with fail
  refine (righted_any s _).mono ?_
  rintro e w1 ⟨rfl, hb⟩
  have g1 := Below.blk hb (blk_alloc (blk_alloc (blk_new w _) _) _) (by simp; omega)
  have g2 := Below.blk hb (blk_alloc (blk_new (w.alloc _) _) _) (by simp)
  have g3 := Below.blk hb (blk_new ((w.alloc _).alloc _) _) (by simp)
  simp only [World.size_alloc] at g1 g2 g3
  have b1 : Below w.heap.size w w1 := ((((Below.refl _ w).alloc (Nat.le_refl _) _).alloc (by simp) _).alloc (by simp; omega) _).trans (hb.mono (by simp; omega))
  clear hb
  obtain ⟨W, hW⟩ : ∃ W, W = w1.setRow w.heap.size (pcs (ownv s)) := ⟨_, rfl⟩
  have k1 : W.heap[w.heap.size]? = some (pblk (ownv s)) := by rw [hW]; exact setRow_heap _ _ _ _ _ _ g1
  have k2 : W.heap[w.heap.size + 1]? = some (pblk d) := by rw [hW, setRow_other _ _ _ _ (by omega)]; exact g2
  have k3 : W.heap[w.heap.size + 1 + 1]? = some (pblk ⟨0, 0, 0, 0⟩) := by rw [hW, setRow_other _ _ _ _ (by omega)]; exact g3
  have b2 : Below w.heap.size w W := by rw [hW]; exact below_row b1 (Nat.le_refl _) _
  have HW : Hid (W = w1.setRow w.heap.size (pcs (ownv s))) := hW
  clear hW g2 g3 b1
  have hrt := ownv_rt s
  obtain ⟨o, ho⟩ : ∃ o, ownv s = o := ⟨_, rfl⟩
  rw [ho] at hrt k1 HW
  have HO : Hid (ownv s = o) := ho
  clear ho
  obtain ⟨e0, e1, e2, e3⟩ := px_cells k2
  obtain ⟨_, _, _, f3⟩ := px_cells k1
  have hoa0 := hrt.a0
  have hoa1 := hrt.a1
  go_wp2_with (refine store_px' o HW g1 rfl _ _ (by rfl) (by rfl) (by rfl) (by rw [← HO.out]; rfl) ?_)
  refine (scale_any d _ _).mono ?_
  rintro e w2 ⟨rfl, hb⟩
  clear e0 e1 e2 e3 f3 hoa0 hoa1 HW g1
  have krt := scalev_rt d (255 - o.a)
  obtain ⟨q, hq⟩ : ∃ q, scalev d (255 - o.a) = q := ⟨_, rfl⟩
  rw [hq] at krt
  have HQ : Hid (scalev d (255 - o.a) = q) := hq
  clear hq
  have HP : Hid (overv s d = ⟨addv o.r q.r, addv o.g q.g, addv o.b q.b, addv o.a q.a⟩) := by show _ = _; rw [← HQ.out, ← HO.out]; rfl
  have g1' := Below.blk hb k1 (blk_lt k1)
  have g2' := Below.blk hb k2 (blk_lt k2)
  have g3' := Below.blk hb k3 (blk_lt k3)
  have b3 := b2.trans (hb.mono b2.size)
  clear hb k1 k2 k3 b2
  obtain ⟨V, hV⟩ : ∃ V, V = w2.setRow (w.heap.size + 1) (pcs q) := ⟨_, rfl⟩
  have l1 : V.heap[w.heap.size]? = some (pblk o) := by rw [hV, setRow_other _ _ _ _ (by omega)]; exact g1'
  have l2 : V.heap[w.heap.size + 1]? = some (pblk q) := by rw [hV]; exact setRow_heap _ _ _ _ _ _ g2'
  have l3 : V.heap[w.heap.size + 1 + 1]? = some (pblk ⟨0, 0, 0, 0⟩) := by rw [hV, setRow_other _ _ _ _ (by omega)]; exact g3'
  have c2 : Below w.heap.size w V := by rw [hV]; exact below_row b3 (by omega) _
  have HV : Hid (V = w2.setRow (w.heap.size + 1) (pcs q)) := hV
  clear hV g1' g3' b3
  obtain ⟨p0, p1, p2, p3⟩ := px_ext l1
  obtain ⟨q0, q1, q2, q3⟩ := px_ext l2
  clear l1 l2
  have hr0 := hrt.r0
  have hr1 := hrt.r1
  have hg0 := hrt.g0
  have hg1 := hrt.g1
  have hb0 := hrt.b0
  have hb1 := hrt.b1
  have ha0 := hrt.a0
  have ha1 := hrt.a1
  have kr0 := krt.r0
  have kr1 := krt.r1
  have kg0 := krt.g0
  have kg1 := krt.g1
  have kb0 := krt.b0
  have kb1 := krt.b1
  have ka0 := krt.a0
  have ka1 := krt.a1
  go_wp2_with (refine store_px' q HV g2' rfl _ _ (by rfl) (by rfl) (by rfl) (by rw [← HQ.out]; rfl) ?_)
  have hin := Ext.inh V
  try simp only [Act.put]
  refine region_ext_tail 21 (by kernel_rfl) (by kernel_rfl) ?_
  simp only [List.take_succ_cons, List.take_zero, List.drop_succ_cons, List.drop_zero]
  repeat (go_big_quiet_step (first | (go_at_call 32; exact Ext.same (added_any _ _ (by assumption) (by assumption) (by assumption) (by assumption) _))))
  refine wpQuiet_nil ?_
  rintro _ ⟨k, rfl⟩
  have b3 := c2.trans (k.h.mono c2.size)
  have g4 := Ext.blk l3 k
  go_wp2_with (refine store_px g4 rfl _ _ ⟨addv o.r q.r, addv o.g q.g, addv o.b q.b, addv o.a q.a⟩ (by rfl) (by rfl) (by rfl) (by rfl) ?_)
  refine bodyPost_ret (res_px rfl _ _ _ _ _ _ rfl (setRow_heap _ _ _ _ _ _ g4) rfl) rfl ?_
  exact ⟨by rw [HP.out], below_row b3 (by omega) _⟩

set_option maxRecDepth 100000 in
set_option maxHeartbeats 1600000 in
theorem rover_any (s d : Px) (w : World) : Calls Try.prog 25 #[pv s, pv d] w fun e w' => e = .returned (pv (overv s d)) ∧ Below w.heap.size w w' := by
  go_enter Try.func25, Try.ntmps25
  go_wp2_with fail
  refine (rown_any s _).mono ?_
  rintro e w1 ⟨rfl, hb⟩
  have g1 := Below.blk hb (blk_alloc (blk_alloc (blk_new w _) _) _) (by simp; omega)
  have g2 := Below.blk hb (blk_alloc (blk_new (w.alloc _) _) _) (by simp)
  have g3 := Below.blk hb (blk_new ((w.alloc _).alloc _) _) (by simp)
  simp only [World.size_alloc] at g1 g2 g3
  have b1 : Below w.heap.size w w1 := ((((Below.refl _ w).alloc (Nat.le_refl _) _).alloc (by simp) _).alloc (by simp; omega) _).trans (hb.mono (by simp; omega))
  clear hb
  obtain ⟨W, hW⟩ : ∃ W, W = w1.setRow w.heap.size (pcs (ownv s)) := ⟨_, rfl⟩
  have k1 : W.heap[w.heap.size]? = some (pblk (ownv s)) := by rw [hW]; exact setRow_heap _ _ _ _ _ _ g1
  have k2 : W.heap[w.heap.size + 1]? = some (pblk d) := by rw [hW, setRow_other _ _ _ _ (by omega)]; exact g2
  have k3 : W.heap[w.heap.size + 1 + 1]? = some (pblk ⟨0, 0, 0, 0⟩) := by rw [hW, setRow_other _ _ _ _ (by omega)]; exact g3
  have b2 : Below w.heap.size w W := by rw [hW]; exact below_row b1 (Nat.le_refl _) _
  have HW : Hid (W = w1.setRow w.heap.size (pcs (ownv s))) := hW
  clear hW g2 g3 b1
  have hrt := ownv_rt s
  obtain ⟨o, ho⟩ : ∃ o, ownv s = o := ⟨_, rfl⟩
  rw [ho] at hrt k1 HW
  have HO : Hid (ownv s = o) := ho
  clear ho
  obtain ⟨e0, e1, e2, e3⟩ := px_cells k2
  go_wp2_with (refine store_px' o HW g1 rfl _ _ (by rfl) (by rfl) (by rfl) (by rw [← HO.out]; rfl) ?_)
  refine (rown_any d _).mono ?_
  rintro e w2 ⟨rfl, hb⟩
  clear e0 e1 e2 e3 HW g1
  have krt := ownv_rt d
  obtain ⟨q, hq⟩ : ∃ q, ownv d = q := ⟨_, rfl⟩
  rw [hq] at krt
  have HQ : Hid (ownv d = q) := hq
  clear hq
  have HP : Hid (overv s d = ⟨addv o.r (partv q.r (255 - o.a)), addv o.g (partv q.g (255 - o.a)), addv o.b (partv q.b (255 - o.a)), addv o.a (partv q.a (255 - o.a))⟩) := by show _ = _; rw [← HQ.out, ← HO.out]; rfl
  have g1' := Below.blk hb k1 (blk_lt k1)
  have g2' := Below.blk hb k2 (blk_lt k2)
  have g3' := Below.blk hb k3 (blk_lt k3)
  have b3 := b2.trans (hb.mono b2.size)
  clear hb k1 k2 k3 b2
  obtain ⟨V, hV⟩ : ∃ V, V = w2.setRow (w.heap.size + 1) (pcs q) := ⟨_, rfl⟩
  have l1 : V.heap[w.heap.size]? = some (pblk o) := by rw [hV, setRow_other _ _ _ _ (by omega)]; exact g1'
  have l2 : V.heap[w.heap.size + 1]? = some (pblk q) := by rw [hV]; exact setRow_heap _ _ _ _ _ _ g2'
  have l3 : V.heap[w.heap.size + 1 + 1]? = some (pblk ⟨0, 0, 0, 0⟩) := by rw [hV, setRow_other _ _ _ _ (by omega)]; exact g3'
  have c2 : Below w.heap.size w V := by rw [hV]; exact below_row b3 (by omega) _
  have HV : Hid (V = w2.setRow (w.heap.size + 1) (pcs q)) := hV
  clear hV g1' g3' b3
  obtain ⟨p0, p1, p2, p3⟩ := px_ext l1
  obtain ⟨q0, q1, q2, q3⟩ := px_ext l2
  clear l1 l2
  have hr0 := hrt.r0
  have hr1 := hrt.r1
  have hg0 := hrt.g0
  have hg1 := hrt.g1
  have hb0 := hrt.b0
  have hb1 := hrt.b1
  have ha0 := hrt.a0
  have ha1 := hrt.a1
  have kr0 := krt.r0
  have kr1 := krt.r1
  have kg0 := krt.g0
  have kg1 := krt.g1
  have kb0 := krt.b0
  have kb1 := krt.b1
  have ka0 := krt.a0
  have ka1 := krt.a1
  go_wp2_with (refine store_px' q HV g2' rfl _ _ (by rfl) (by rfl) (by rfl) (by rw [← HQ.out]; rfl) ?_)
  have hin := Ext.inh V
  try simp only [Act.put]
  refine region_ext_tail 29 (by kernel_rfl) (by kernel_rfl) ?_
  simp only [List.take_succ_cons, List.take_zero, List.drop_succ_cons, List.drop_zero]
  repeat (go_big_quiet_step (first | (go_at_call 38; exact Ext.same (rover1_any _ _ _ (by assumption) (by assumption) ha0 ha1 _))))
  refine wpQuiet_nil ?_
  rintro _ ⟨k, rfl⟩
  have b3 := c2.trans (k.h.mono c2.size)
  have g4 := Ext.blk l3 k
  go_wp2_with (refine store_px g4 rfl _ _ ⟨addv o.r (partv q.r (255 - o.a)), addv o.g (partv q.g (255 - o.a)), addv o.b (partv q.b (255 - o.a)), addv o.a (partv q.a (255 - o.a))⟩ (by rfl) (by rfl) (by rfl) (by rfl) ?_)
  refine bodyPost_ret (res_px rfl _ _ _ _ _ _ rfl (setRow_heap _ _ _ _ _ _ g4) rfl) rfl ?_
  exact ⟨by rw [HP.out], below_row b3 (by omega) _⟩

set_option maxRecDepth 100000 in
set_option maxHeartbeats 1600000 in
theorem rmixp_any (s d : Px) (t : Int) (w : World) : Calls Try.prog 26 #[pv s, pv d, .int .i64 t] w fun e w' => e = .returned (pv (mixpv s d t)) ∧ Below w.heap.size w w' := by
  go_enter Try.func26, Try.ntmps26
  go_wp2_with fail
  refine (rown_any s _).mono ?_
  rintro e w1 ⟨rfl, hb⟩
  have g1 := Below.blk hb (blk_alloc (blk_alloc (blk_new w _) _) _) (by simp; omega)
  have g2 := Below.blk hb (blk_alloc (blk_new (w.alloc _) _) _) (by simp)
  have g3 := Below.blk hb (blk_new ((w.alloc _).alloc _) _) (by simp)
  simp only [World.size_alloc] at g1 g2 g3
  have b1 : Below w.heap.size w w1 := ((((Below.refl _ w).alloc (Nat.le_refl _) _).alloc (by simp) _).alloc (by simp; omega) _).trans (hb.mono (by simp; omega))
  clear hb
  obtain ⟨W, hW⟩ : ∃ W, W = w1.setRow w.heap.size (pcs (ownv s)) := ⟨_, rfl⟩
  have k1 : W.heap[w.heap.size]? = some (pblk (ownv s)) := by rw [hW]; exact setRow_heap _ _ _ _ _ _ g1
  have k2 : W.heap[w.heap.size + 1]? = some (pblk d) := by rw [hW, setRow_other _ _ _ _ (by omega)]; exact g2
  have k3 : W.heap[w.heap.size + 1 + 1]? = some (pblk ⟨0, 0, 0, 0⟩) := by rw [hW, setRow_other _ _ _ _ (by omega)]; exact g3
  have b2 : Below w.heap.size w W := by rw [hW]; exact below_row b1 (Nat.le_refl _) _
  have HW : Hid (W = w1.setRow w.heap.size (pcs (ownv s))) := hW
  clear hW g2 g3 b1
  have hrt := ownv_rt s
  obtain ⟨o, ho⟩ : ∃ o, ownv s = o := ⟨_, rfl⟩
  rw [ho] at hrt k1 HW
  have HO : Hid (ownv s = o) := ho
  clear ho
  obtain ⟨e0, e1, e2, e3⟩ := px_cells k2
  go_wp2_with (refine store_px' o HW g1 rfl _ _ (by rfl) (by rfl) (by rfl) (by rw [← HO.out]; rfl) ?_)
  refine (rown_any d _).mono ?_
  rintro e w2 ⟨rfl, hb⟩
  clear e0 e1 e2 e3 HW g1
  have krt := ownv_rt d
  obtain ⟨q, hq⟩ : ∃ q, ownv d = q := ⟨_, rfl⟩
  rw [hq] at krt
  have HQ : Hid (ownv d = q) := hq
  clear hq
  have ht := win_bd (n := t) (m := 65536) (by omega)
  obtain ⟨T, hT⟩ : ∃ T, win t 65536 = T := ⟨_, rfl⟩
  rw [hT] at ht
  obtain ⟨ht0, ht1⟩ := ht
  obtain ⟨m1, hm1⟩ : ∃ m1, (if t < 65536 then t else 65536) = m1 := ⟨_, rfl⟩
  have hm2 : (if 0 < m1 then m1 else 0) = T := by rw [← hm1, ← hT]; unfold win; repeat' split <;> omega
  have HT : Hid (win t 65536 = T) := hT
  clear hT
  have HP : Hid (mixpv s d t = ⟨mixv o.r q.r T, mixv o.g q.g T, mixv o.b q.b T, mixv o.a q.a T⟩) := by show _ = _; rw [← HQ.out, ← HO.out, ← HT.out]; rfl
  have g1' := Below.blk hb k1 (blk_lt k1)
  have g2' := Below.blk hb k2 (blk_lt k2)
  have g3' := Below.blk hb k3 (blk_lt k3)
  have b3 := b2.trans (hb.mono b2.size)
  clear hb k1 k2 k3 b2
  obtain ⟨V, hV⟩ : ∃ V, V = w2.setRow (w.heap.size + 1) (pcs q) := ⟨_, rfl⟩
  have l1 : V.heap[w.heap.size]? = some (pblk o) := by rw [hV, setRow_other _ _ _ _ (by omega)]; exact g1'
  have l2 : V.heap[w.heap.size + 1]? = some (pblk q) := by rw [hV]; exact setRow_heap _ _ _ _ _ _ g2'
  have l3 : V.heap[w.heap.size + 1 + 1]? = some (pblk ⟨0, 0, 0, 0⟩) := by rw [hV, setRow_other _ _ _ _ (by omega)]; exact g3'
  have c2 : Below w.heap.size w V := by rw [hV]; exact below_row b3 (by omega) _
  have HV : Hid (V = w2.setRow (w.heap.size + 1) (pcs q)) := hV
  clear hV g1' g3' b3
  obtain ⟨p0, p1, p2, p3⟩ := px_ext l1
  obtain ⟨q0, q1, q2, q3⟩ := px_ext l2
  clear l1 l2
  have hr0 := hrt.r0
  have hr1 := hrt.r1
  have hg0 := hrt.g0
  have hg1 := hrt.g1
  have hb0 := hrt.b0
  have hb1 := hrt.b1
  have ha0 := hrt.a0
  have ha1 := hrt.a1
  have kr0 := krt.r0
  have kr1 := krt.r1
  have kg0 := krt.g0
  have kg1 := krt.g1
  have kb0 := krt.b0
  have kb1 := krt.b1
  have ka0 := krt.a0
  have ka1 := krt.a1
  go_wp2_with (refine store_px' q HV g2' rfl _ _ (by rfl) (by rfl) (by rfl) (by rw [← HQ.out]; rfl) ?_)
  clear hm1 hm2
  have hin := Ext.inh V
  try simp only [Act.put]
  refine region_ext_tail 25 (by kernel_rfl) (by kernel_rfl) ?_
  simp only [List.take_succ_cons, List.take_zero, List.drop_succ_cons, List.drop_zero]
  repeat (go_big_quiet_step (first | (go_at_call 39; exact Ext.same (rmix_any _ _ _ (by assumption) (by assumption) (by assumption) (by assumption) ht0 ht1 _))))
  refine wpQuiet_nil ?_
  rintro _ ⟨k, rfl⟩
  have b3 := c2.trans (k.h.mono c2.size)
  have g4 := Ext.blk l3 k
  go_wp2_with (refine store_px g4 rfl _ _ ⟨mixv o.r q.r T, mixv o.g q.g T, mixv o.b q.b T, mixv o.a q.a T⟩ (by rfl) (by rfl) (by rfl) (by rfl) ?_)
  refine bodyPost_ret (res_px rfl _ _ _ _ _ _ rfl (setRow_heap _ _ _ _ _ _ g4) rfl) rfl ?_
  exact ⟨by rw [HP.out], below_row b3 (by omega) _⟩

end Go.Proofs.Ytffkbombeaojjaa
