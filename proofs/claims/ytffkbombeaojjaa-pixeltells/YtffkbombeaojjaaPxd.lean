/-
  Package pixel's Mix; versalhand's Pick and Premul; the law's own 'any', as contracts.
-/
import Derived.Test.YtffkbombeaojjaaPxc
namespace Go.Proofs.Ytffkbombeaojjaa
open Go.RowKit

set_option maxRecDepth 100000 in
set_option maxHeartbeats 1600000 in
theorem mixp_any (s d : Px) (t : Int) (w : World) : Calls Try.prog 12 #[pv s, pv d, .int .i64 t] w fun e w' => e = .returned (pv (mixpv s d t)) ∧ Below w.heap.size w w' := by
  have hrt := ownv_rt s
  have krt := ownv_rt d
  have ht := win_bd (n := t) (m := 65536) (by omega)
  obtain ⟨o, ho⟩ : ∃ o, ownv s = o := ⟨_, rfl⟩
  obtain ⟨q, hq⟩ : ∃ o, ownv d = o := ⟨_, rfl⟩
  obtain ⟨T, hT⟩ : ∃ T, win t 65536 = T := ⟨_, rfl⟩
  rw [ho] at hrt
  rw [hq] at krt
  rw [hT] at ht
  have HP : Hid (mixpv s d t = ⟨mixv o.r q.r T, mixv o.g q.g T, mixv o.b q.b T, mixv o.a q.a T⟩) := by show _ = _; rw [← ho, ← hq, ← hT]; rfl
  have A1 : ∀ W : World, Calls Try.prog 29 #[pv s] W fun e w' => e = .returned (pv o) ∧ Below W.heap.size W w' := fun W => by rw [← ho]; exact righted_any s W
  have A2 : ∀ W : World, Calls Try.prog 29 #[pv d] W fun e w' => e = .returned (pv q) ∧ Below W.heap.size W w' := fun W => by rw [← hq]; exact righted_any d W
  have A3 : ∀ W : World, Calls Try.prog 33 #[.int .i64 t, .int .i64 65536] W fun e w' => e = .returned (.int .i64 T) ∧ w' = W := fun W => by rw [← hT]; exact within_any t 65536 (by omega) W
  clear ho hq hT
  obtain ⟨ht0, ht1⟩ := ht
  go_enter Try.func12, Try.ntmps12
  go_wp2_with fail
  obtain ⟨X, hX⟩ : ∃ X, X = ((w.alloc (.cells #[.int .i64 s.r, .int .i64 s.g, .int .i64 s.b, .int .i64 s.a] 23)).alloc (.cells #[.int .i64 d.r, .int .i64 d.g, .int .i64 d.b, .int .i64 d.a] 23)).alloc (.cells #[.int .i64 0, .int .i64 0, .int .i64 0, .int .i64 0] 23) := ⟨_, rfl⟩
  rw [← hX]
  have g1 : X.heap[w.heap.size]? = some (pblk s) := by rw [hX]; exact blk_alloc (blk_alloc (blk_new w _) _) _
  have g2 : X.heap[w.heap.size + 1]? = some (pblk d) := by rw [hX]; have := blk_alloc (blk_new (w.alloc (pblk s)) (pblk d)) (pblk zpx); simp only [World.size_alloc] at this; exact this
  have g3 : X.heap[w.heap.size + 1 + 1]? = some (pblk ⟨0, 0, 0, 0⟩) := by rw [hX]; have := blk_new ((w.alloc (pblk s)).alloc (pblk d)) (pblk ⟨0, 0, 0, 0⟩); simp only [World.size_alloc] at this; exact this
  have b1 : Below w.heap.size w X := by rw [hX]; exact (((Below.refl _ w).alloc (Nat.le_refl _) _).alloc (by simp) _).alloc (by simp; omega) _
  clear hX
  obtain ⟨p0, p1, p2, p3⟩ := px_ext g1
  obtain ⟨q0, q1, q2, q3⟩ := px_ext g2
  have hin := Ext.inh X
  refine region_ext_cone 6 (by kernel_rfl) (by kernel_rfl) ?_
  simp only [List.take_succ_cons, List.take_zero, List.drop_succ_cons, List.drop_zero]
  repeat (go_big_quiet_step (fail))
  go_big_quiet_step (first | (go_at_call 29; exact Ext.call (A1 _)))
  repeat (go_big_quiet_step (fail))
  go_big_quiet_step (first | (go_at_call 29; exact Ext.call (A2 _)))
  repeat (go_big_quiet_step (fail))
  go_big_quiet_step (first | (go_at_call 33; exact Ext.same (A3 _)))
  repeat (go_big_quiet_step (fail))
  refine wpQuiet_nil ?_
  rintro _ ⟨k, rfl⟩
  have b3 := b1.trans (k.h.mono b1.size)
  replace g1 := Ext.blk g1 k
  replace g2 := Ext.blk g2 k
  replace g3 := Ext.blk g3 k
  clear p0 p1 p2 p3 q0 q1 q2 q3 hin b1 A1 A2 A3
  obtain ⟨Y, hY⟩ : ∃ Y, Y = k.w := ⟨_, rfl⟩
  rw [← hY] at g1 g2 g3 b3 ⊢
  clear hY k
  obtain ⟨W, hW⟩ : ∃ W, W = Y.setRow w.heap.size (pcs o) := ⟨_, rfl⟩
  have k1 : W.heap[w.heap.size]? = some (pblk o) := by rw [hW]; exact setRow_heap _ _ _ _ _ _ g1
  have k2 : W.heap[w.heap.size + 1]? = some (pblk d) := by rw [hW, setRow_other _ _ _ _ (by omega)]; exact g2
  have k3 : W.heap[w.heap.size + 1 + 1]? = some (pblk ⟨0, 0, 0, 0⟩) := by rw [hW, setRow_other _ _ _ _ (by omega)]; exact g3
  have b4 : Below w.heap.size w W := by rw [hW]; exact below_row b3 (Nat.le_refl _) _
  have HW : Hid (W = Y.setRow w.heap.size (pcs o)) := hW
  clear hW
  obtain ⟨V, hV⟩ : ∃ V, V = W.setRow (w.heap.size + 1) (pcs q) := ⟨_, rfl⟩
  have l1 : V.heap[w.heap.size]? = some (pblk o) := by rw [hV, setRow_other _ _ _ _ (by omega)]; exact k1
  have l2 : V.heap[w.heap.size + 1]? = some (pblk q) := by rw [hV]; exact setRow_heap _ _ _ _ _ _ k2
  have l3 : V.heap[w.heap.size + 1 + 1]? = some (pblk ⟨0, 0, 0, 0⟩) := by rw [hV, setRow_other _ _ _ _ (by omega)]; exact k3
  have c2 : Below w.heap.size w V := by rw [hV]; exact below_row b4 (by omega) _
  have HV : Hid (V = W.setRow (w.heap.size + 1) (pcs q)) := hV
  clear hV k3 b3 b4 g2 g3
  go_wp2_with (first | (refine store_px' o HW g1 rfl _ _ (by rfl) (by rfl) (by rfl) (by rfl) ?_) | (refine store_px' q HV k2 rfl _ _ (by rfl) (by rfl) (by rfl) (by rfl) ?_))
  clear g1 k1 k2 HW HV
  obtain ⟨p0, p1, p2, p3⟩ := px_ext l1
  obtain ⟨q0, q1, q2, q3⟩ := px_ext l2
  clear l1 l2
  have hr0 := hrt.r0
  have hr1 := hrt.r1
  have hg0 := hrt.g0
  have hg1 := hrt.g1
  have hb0 := hrt.b0
  have hb1 := hrt.b1
  have ha0 := hrt.a0
  have ha1 := hrt.a1
  have kr0 := krt.r0
  have kr1 := krt.r1
  have kg0 := krt.g0
  have kg1 := krt.g1
  have kb0 := krt.b0
  have kb1 := krt.b1
  have ka0 := krt.a0
  have ka1 := krt.a1
  have hin := Ext.inh V
  try simp only [Act.put]
  refine region_ext_tail 25 (by kernel_rfl) (by kernel_rfl) ?_
  simp only [List.take_succ_cons, List.take_zero, List.drop_succ_cons, List.drop_zero]
  repeat (go_big_quiet_step (first | (go_at_call 34; exact Ext.same (mixed_any _ _ _ (by assumption) (by assumption) (by assumption) (by assumption) ht0 ht1 _))))
  refine wpQuiet_nil ?_
  rintro _ ⟨k, rfl⟩
  have b3 := c2.trans (k.h.mono c2.size)
  have g4 := Ext.blk l3 k
  go_wp2_with (refine store_px g4 rfl _ _ ⟨mixv o.r q.r T, mixv o.g q.g T, mixv o.b q.b T, mixv o.a q.a T⟩ (by rfl) (by rfl) (by rfl) (by rfl) ?_)
  refine bodyPost_ret (res_px rfl _ _ _ _ _ _ rfl (setRow_heap _ _ _ _ _ _ g4) rfl) rfl ?_
  exact ⟨by rw [HP.out], below_row b3 (by omega) _⟩

theorem pick_neg (n m : Int) (hm : 0 < m) (h : n.tmod m < 0) : n.tmod m + m = n % m := by
  have h1 := Int.tmod_eq_emod (a := n) (b := m)
  have h2 := Int.emod_nonneg n (by omega : m ≠ 0)
  split at h1 <;> omega
theorem pick_pos (n m : Int) (hm : 0 < m) (h : 0 ≤ n.tmod m) : n.tmod m = n % m := by
  have h1 := Int.tmod_eq_emod (a := n) (b := m)
  have h2 := Int.emod_lt_of_pos n hm
  split at h1 <;> omega
theorem tmod_bd (n m : Int) (hm : 0 < m) : -m < n.tmod m ∧ n.tmod m < m :=
  ⟨Int.neg_lt_of_neg_lt (by have := Int.tmod_lt_of_pos (-n) hm; rw [Int.neg_tmod] at this; exact this), Int.tmod_lt_of_pos n hm⟩
set_option maxHeartbeats 400000 in
theorem pick_det (n m : Int) (hm : 0 < m) (hm2 : m ≤ 1000000000000000) (w : World) :
    Calls Try.prog 18 #[.int .i64 n, .int .i64 m] w fun e w' => e = .returned (.int .i64 (n % m)) ∧ w' = w := by
  have hb := tmod_bd n m hm
  have hne : ¬ m = 0 := by omega
  by_cases hz : n.tmod m < 0
  · have E : Hid (n.tmod m + m = n % m) := pick_neg n m hm hz
    rw [← E.out]
    go_enter Try.func18, Try.ntmps18
    go_wp2
    go_ret
    exact ⟨rfl, rfl⟩
  · have E : Hid (n.tmod m = n % m) := pick_pos n m hm (by omega)
    rw [← E.out]
    go_enter Try.func18, Try.ntmps18
    go_wp2
    go_ret
    exact ⟨rfl, rfl⟩
end Go.Proofs.Ytffkbombeaojjaa
