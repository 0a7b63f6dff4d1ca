/-
  Proved: LazyKnown answers true and leaves memory as it was, for every world; no condition.
-/
import Derived.Test.YtbaolijhjijlmaaKnown
import Derived.ProofKit
import Derived.OpenShut
namespace Go.Proofs.Ytbaolijhjijlmaa
open Go.ChangeShapes Go.WideShapes Go.ChangeAt Go.RowKit

set_option maxHeartbeats 400000 in
theorem k8 (N : Nat) (W : World) (h : W.heap[N]? = some (.cells #[.int .i64 0] 3)) :
    Calls Try.prog 8 #[.pointer (some ⟨N, 0, none⟩)] W fun e w' => ∃ t v, e = .panicked [{ v := .iface t v, recovered := false }] ∧ w' = W.setCell ⟨N, 0, none⟩ (.int .i64 1) := by
  have c0 : W.cell? ⟨N, 0, none⟩ = some (.int .i64 0) := by rw [blk_cell h]; rfl
  have fr := blk_free h
  clear h
  go_enter Try.func8, Try.ntmps8
  go_wp2
  exact ⟨rfl, _, _, rfl, rfl⟩

theorem enters8 (args : Array Value) (w : World) : (callFunc 8 args).run Try.prog w = .ok (.enter 8 args) w := enters Try.func8 (by kernel_rfl) rfl args w

theorem raise_blk (T : Nat) (x n : Int) (W : World) (h : W.heap[T]? = some (.cells #[.int .i64 x] 34)) (hn : x < n) :
    Calls Try.prog 11 #[.pointer (some ⟨T, 0, none⟩), .int .i64 n] W fun e w' => e = .returned (.bool true) ∧ w'.heap[T]? = some (.cells #[.int .i64 n] 34) ∧ Kept (fun k => k = T) W w' := by
  refine (raise_does T 0 x n W (by rw [blk_cell h]; rfl) (blk_free h 0) hn).mono ?_
  rintro e w' ⟨rfl, rfl⟩
  exact ⟨rfl, by rw [blk_set h]; rfl, (Kept.refl _ W).set _ _⟩

theorem raise_blk_not (T : Nat) (x n : Int) (W : World) (h : W.heap[T]? = some (.cells #[.int .i64 x] 34)) (hn : n ≤ x) :
    Calls Try.prog 11 #[.pointer (some ⟨T, 0, none⟩), .int .i64 n] W fun e w' => e = .returned (.bool false) ∧ w' = W :=
  raise_not T 0 x n W (by rw [blk_cell h]; rfl) hn

theorem add_blk (T : Nat) (x n s : Int) (W : World) (h : W.heap[T]? = some (.cells #[.int .i64 x] 34)) (hs : wrap64 (x + n) = s) :
    Calls Try.prog 12 #[.pointer (some ⟨T, 0, none⟩), .int .i64 n] W fun e w' => e = .returned (.int .i64 s) ∧ w'.heap[T]? = some (.cells #[.int .i64 s] 34) ∧ Kept (fun k => k = T) W w' := by
  refine (add_to T 0 x n s W (by rw [blk_cell h]; rfl) (blk_free h 0) hs).mono ?_
  rintro e w' ⟨rfl, rfl⟩
  exact ⟨rfl, by rw [blk_set h]; rfl, (Kept.refl _ W).set _ _⟩

theorem now_blk (T : Nat) (x : Int) (W : World) (h : W.heap[T]? = some (.cells #[.int .i64 x] 34)) :
    Calls Try.prog 15 #[.pointer (some ⟨T, 0, none⟩)] W fun e w' => e = .returned (.int .i64 x) ∧ w' = W :=
  now_any T 0 x W (by rw [blk_cell h]; rfl)

set_option maxRecDepth 100000 in
set_option maxHeartbeats 1600000 in
theorem lazyKnown_walk (w : World) : Calls Try.prog 3 #[] w fun e w' => e = .returned (.bool true) ∧ Below w.heap.size w w' := by
  have hmf : ∀ (fn : Fn) (first cap : Array Value) (w : World), (Instr.makeFunc fn first cap).run Try.prog w = .ok (.func fn first cap) w := fun _ _ _ _ => rfl
  have hnot : ∀ (x : Bool) (w : World), (Op.unary .not (.bool x)).run Try.prog w = .ok (.bool (!x)) w := fun _ _ => rfl
  obtain ⟨W0, hW0⟩ : ∃ W0, W0 = (((w.alloc (.cells #[.int .i64 0] 3)).alloc (cobj 0 0 0 0 (.func (.func 8) #[] #[.pointer (some ⟨w.heap.size, 0, none⟩)]) 0)).alloc (cobj 0 0 0 0 .nilFunc 0)) := ⟨_, rfl⟩
  have hn0 : W0.heap[w.heap.size]? = some (.cells #[.int .i64 0] 3) := by rw [hW0]; exact blk_alloc (blk_alloc (blk_new w _) _) _
  have hb0 : W0.heap[w.heap.size + 1]? = some (cobj 0 0 0 0 (.func (.func 8) #[] #[.pointer (some ⟨w.heap.size, 0, none⟩)]) 0) := by
    have := blk_new (w.alloc (.cells #[.int .i64 0] 3)) (cobj 0 0 0 0 (.func (.func 8) #[] #[.pointer (some ⟨w.heap.size, 0, none⟩)]) 0)
    rw [World.size_alloc] at this
    rw [hW0]; exact blk_alloc this _
  have ht0 : W0.heap[w.heap.size + 1 + 1]? = some (cobj 0 0 0 0 .nilFunc 0) := by
    have := blk_new ((w.alloc (.cells #[.int .i64 0] 3)).alloc (cobj 0 0 0 0 (.func (.func 8) #[] #[.pointer (some ⟨w.heap.size, 0, none⟩)]) 0)) (cobj 0 0 0 0 .nilFunc 0)
    rw [World.size_alloc, World.size_alloc] at this
    rw [hW0]; exact this
  have k0 : Below w.heap.size w W0 := by
    rw [hW0]; exact (((Below.refl _ _).alloc (Nat.le_refl _) _).alloc (by simp) _).alloc (by simp; omega) _
  have s0 : W0.heap.size = w.heap.size + 3 := by rw [hW0]; simp
  have HW0 : Hid (W0 = (((w.alloc (.cells #[.int .i64 0] 3)).alloc (cobj 0 0 0 0 (.func (.func 8) #[] #[.pointer (some ⟨w.heap.size, 0, none⟩)]) 0)).alloc (cobj 0 0 0 0 .nilFunc 0))) := hW0
  have S0 : Hid (W0.heap.size = w.heap.size + 3) := s0
  clear hW0 s0
  go_enter Try.func3, Try.ntmps3
  go_wp2_with fail
  refine (new_func (.func 8) #[] #[.pointer (some ⟨w.heap.size, 0, none⟩)] _).mono ?_
  rintro e w' ⟨rfl, rfl⟩
  go_wp2_with fail
  refine (new_nil _).mono ?_
  rintro e w' ⟨rfl, rfl⟩
  go_wp2_with fail
  rw [← HW0.out]
  refine (known_any W0).mono ?_
  rintro e w1 ⟨rfl, bl1⟩
  have hn1 : w1.heap[w.heap.size]? = some (.cells #[.int .i64 0] 3) := by rw [bl1.block _ (blk_lt hn0)]; exact hn0
  have hb1 : w1.heap[w.heap.size + 1]? = some (cobj 0 0 0 0 (.func (.func 8) #[] #[.pointer (some ⟨w.heap.size, 0, none⟩)]) 0) := by rw [bl1.block _ (blk_lt hb0)]; exact hb0
  have ht1 : w1.heap[w.heap.size + 1 + 1]? = some (cobj 0 0 0 0 .nilFunc 0) := by rw [bl1.block _ (blk_lt ht0)]; exact ht0
  have k1 : Below w.heap.size w w1 := k0.trans (bl1.mono (by have := k0.size; omega))
  clear HW0 hn0 hb0 ht0 k0 bl1 S0
  have G1 := caught_falls (w.heap.size + 1) 0 8 #[.pointer (some ⟨w.heap.size, 0, none⟩)] w1 (fun k => k = w.heap.size) (fun w2 => w2.heap[w.heap.size]? = some (.cells #[.int .i64 1] 3)) hb1 (enters8 _)
    (fun k hk => by have := blk_lt hb1; omega)
    (fun w2 w' h hq => by rw [h _ (blk_lt hn1) (by omega)]; exact hq)
    (fun W hW _ => (k8 w.heap.size W (by rw [hW.block _ (blk_lt hn1) (by omega)]; exact hn1)).mono (by
      rintro e w2 ⟨t, v, rfl, rfl⟩
      exact ⟨t, v, rfl, by rw [blk_set (by rw [hW.block _ (blk_lt hn1) (by omega)]; exact hn1)]; rfl, (Kept.refl _ W).set _ _⟩))
  go_wp2_with fail
  refine G1.mono ?_
  rintro e w2 ⟨rfl, hn2, hb2, hk2⟩
  have ht2 : w2.heap[w.heap.size + 1 + 1]? = some (cobj 0 0 0 0 .nilFunc 0) := by rw [hk2.block _ (blk_lt ht1) (by rintro (h | h) <;> omega)]; exact ht1
  have k2 : Below w.heap.size w w2 := k1.trans (hk2.below (by have := k1.size; omega) (by rintro k (h | h) <;> omega))
  clear G1 hn1 hb1 ht1 k1 hk2
  go_wp2_with fail
  refine (caught_again _ _ _ _ _ _ _ hb2).mono ?_
  rintro e w3 ⟨rfl, hk3⟩
  have hn3 : w3.heap[w.heap.size]? = some (.cells #[.int .i64 1] 3) := by rw [hk3.block _ (blk_lt hn2) (by simp)]; exact hn2
  have hb3 : w3.heap[w.heap.size + 1]? = some (cobj 1 0 0 1 .nilFunc 0) := by rw [hk3.block _ (blk_lt hb2) (by simp)]; exact hb2
  have ht3 : w3.heap[w.heap.size + 1 + 1]? = some (cobj 0 0 0 0 .nilFunc 0) := by rw [hk3.block _ (blk_lt ht2) (by simp)]; exact ht2
  have k3 : Below w.heap.size w w3 := k2.trans (hk3.below (by have := k2.size; omega) (by simp))
  clear hn2 hb2 ht2 k2 hk3
  obtain ⟨T, hT⟩ : ∃ T, T = w3.heap.size := ⟨_, rfl⟩
  obtain ⟨w4, hw4⟩ : ∃ w4, w4 = w3.alloc (.cells #[.int .i64 0] 34) := ⟨_, rfl⟩
  have hc4 : w4.heap[T]? = some (.cells #[.int .i64 0] 34) := by rw [hw4, hT]; exact blk_new w3 _
  have hn4 : w4.heap[w.heap.size]? = some (.cells #[.int .i64 1] 3) := by rw [hw4]; exact blk_alloc hn3 _
  have hb4 : w4.heap[w.heap.size + 1]? = some (cobj 1 0 0 1 .nilFunc 0) := by rw [hw4]; exact blk_alloc hb3 _
  have ht4 : w4.heap[w.heap.size + 1 + 1]? = some (cobj 0 0 0 0 .nilFunc 0) := by rw [hw4]; exact blk_alloc ht3 _
  have k4 : Below w.heap.size w w4 := by rw [hw4]; exact k3.alloc (by have := blk_lt ht3; omega) _
  have tlt : w.heap.size + 1 + 1 < T := by have := blk_lt ht3; omega
  have HT : Hid (T = w3.heap.size) := hT
  have H4 : Hid (w4 = w3.alloc (.cells #[.int .i64 0] 34)) := hw4
  clear hn3 hb3 ht3 k3 hT hw4
  go_wp2_with fail
  rw [← HT.out, ← H4.out]
  clear HT H4
  refine (raise_blk_not T 0 (-5) w4 hc4 (by decide)).mono ?_
  rintro e w' ⟨rfl, rfl⟩
  go_wp2_with fail
  refine (raise_blk T 0 7 _ hc4 (by decide)).mono ?_
  rintro e w5 ⟨rfl, hc5, hk5⟩
  go_wp2_with fail
  refine (raise_blk_not T 7 7 _ hc5 (by decide)).mono ?_
  rintro e w' ⟨rfl, rfl⟩
  go_wp2_with fail
  refine (add_blk T 7 (-10) (-3) _ hc5 (by kernel_rfl)).mono ?_
  rintro e w6 ⟨rfl, hc6, hk6⟩
  go_wp2_with fail
  refine (raise_blk T (-3) 9223372036854775807 _ hc6 (by decide)).mono ?_
  rintro e w7 ⟨rfl, hc7, hk7⟩
  have hk := (hk5.trans hk6).trans hk7
  have hn7 : w7.heap[w.heap.size]? = some (.cells #[.int .i64 1] 3) := by rw [hk.block _ (blk_lt hn4) (by omega)]; exact hn4
  have hb7 : w7.heap[w.heap.size + 1]? = some (cobj 1 0 0 1 .nilFunc 0) := by rw [hk.block _ (blk_lt hb4) (by omega)]; exact hb4
  have ht7 : w7.heap[w.heap.size + 1 + 1]? = some (cobj 0 0 0 0 .nilFunc 0) := by rw [hk.block _ (blk_lt ht4) (by omega)]; exact ht4
  have k7 : Below w.heap.size w w7 := k4.trans (hk.below (by have := k4.size; omega) (by intro k h; omega))
  have cn : w7.cell? ⟨w.heap.size, 0, none⟩ = some (.int .i64 1) := by rw [blk_cell hn7]; rfl
  clear hc4 hn4 hb4 ht4 k4 hk5 hk6 hk7 hc5 hc6 hk hn7
  go_wp2_with fail
  refine (done_any _ _ _ _ _ _ _ _ hb7).mono ?_
  rintro e w' ⟨rfl, rfl⟩
  go_wp2_with fail
  refine (get_none _ _ _ ht7).mono ?_
  rintro e w8 ⟨v, rfl, rfl, ht8, hk8⟩
  have hc8 : w8.heap[T]? = some (.cells #[.int .i64 9223372036854775807] 34) := by rw [hk8.block _ (blk_lt hc7) (by omega)]; exact hc7
  have k8 : Below w.heap.size w w8 := k7.trans (hk8.below (by have := k7.size; omega) (by intro k h; omega))
  clear hb7 ht7 hk8 hc7 k7
  go_wp2_with fail
  refine (done_any _ _ _ _ _ _ _ _ ht8).mono ?_
  rintro e w' ⟨rfl, rfl⟩
  go_wp2_with fail
  refine (now_blk T _ _ hc8).mono ?_
  rintro e w' ⟨rfl, rfl⟩
  go_wp2
  go_ret
  exact ⟨rfl, k8⟩

theorem own : ownKnob Try.prog.godebug = none := by kernel_rfl

set_option maxRecDepth 100000 in
theorem lazyKnown_lifted (os : Os) (started : os.Started) (H : Type) (enc : TypeId × Value → H) :
    ReturnsInHanded {} Try.checked os 3 .any (Rows.lazyKnownSpec.pre6 enc Try.prog Try.f3 Rows.lazyKnownRow.domain false) (Rows.lazyKnownSpec.post enc Try.prog Try.f3 false true false false) := by
  refine returnsInHanded_of_change (C := Try.checked) own started (by kernel_rfl) Try.func3
    (ChangeSpec.witness6 (enc := enc) (C := Try.checked) false ⟨#[], #[], []⟩ 8 (by kernel_rfl) (by kernel_rfl) (by kernel_rfl) (by kernel_rfl)) ?_
  intro W base args ds gs before hval0 hW hcnd _
  have hW' := hW
  obtain ⟨p, q, hA0, hV, rfl, hfz, hnd⟩ := hW
  have hA : DataW.TrodAll enc Try.prog W 0 (fun _ => true) true Try.f3.params.toList args.toList ds p := hA0
  rw [Try.params3] at hA
  obtain ⟨rfl, rfl, rfl⟩ := trodAll_none hA
  obtain ⟨rfl, rfl⟩ := trodVars_none hV
  clear hA0 hval0
  refine (lazyKnown_walk W).mono fun e W' ⟨he, bel⟩ => ?_
  subst he
  exact ⟨_, rfl, _, _, _, [], [], [], hW', trodAll_mk1 (shut_bool Try.underlying4 _), trodAll_mk0, rfl, bel.frame _, fun h => by cases h⟩

theorem lazyKnown_holds : Rows.LazyKnownSaid :=
  OpenClaim.holds_of_wide 3 Try.f3 rfl rfl rfl rfl rfl rfl rfl ⟨rfl, rfl, rfl, rfl, rfl⟩ rfl rfl rfl rfl rfl (by kernel_rfl) Try.func3 (by kernel_rfl)
    (of_decide_eq_true (by kernel_rfl)) (by unfold Func.isWrapper; first | (rw [if_pos (by decide +kernel)]; kernel_rfl) | (rw [if_neg (by decide +kernel)]; exact ⟨rfl, rfl⟩))
    (fun os started H enc _ => lazyKnown_lifted os started H enc)
#print axioms lazyKnown_holds
end Go.Proofs.Ytbaolijhjijlmaa
