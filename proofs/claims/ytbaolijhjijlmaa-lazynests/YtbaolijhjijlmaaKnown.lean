/-
  'known', the example that every law of chapter 1 asks first, as a contract: it answers true and turns nothing that was there.
-/
import Derived.Test.YtbaolijhjijlmaaGet
namespace Go.Proofs.Ytbaolijhjijlmaa
open Go.RowKit

set_option maxHeartbeats 400000 in
theorem k19 (N : Nat) (W : World) (h : W.heap[N]? = some (.cells #[.int .i64 0] 3)) :
    Calls Try.prog 19 #[.pointer (some ⟨N, 0, none⟩)] W fun e w' => e = .returned (.int .i64 41) ∧ w' = W.setCell ⟨N, 0, none⟩ (.int .i64 1) := by
  have c0 : W.cell? ⟨N, 0, none⟩ = some (.int .i64 0) := by rw [blk_cell h]; rfl
  have fr := blk_free h
  have c1 := fun x => World.cell?_setCell_same W ⟨N, 0, none⟩ x c0
  clear h
  go_enter Try.func19, Try.ntmps19
  go_wp2
  go_ret
  exact ⟨rfl, rfl⟩

theorem enters19 (args : Array Value) (w : World) : (callFunc 19 args).run Try.prog w = .ok (.enter 19 args) w := enters Try.func19 (by kernel_rfl) rfl args w

set_option maxHeartbeats 800000 in
theorem known_any (w : World) : Calls Try.prog 9 #[] w fun e w' => e = .returned (.bool true) ∧ Below w.heap.size w w' := by
  have hmf : ∀ (fn : Fn) (first cap : Array Value) (w : World), (Instr.makeFunc fn first cap).run Try.prog w = .ok (.func fn first cap) w := fun _ _ _ _ => rfl
  have hnot : ∀ (x : Bool) (w : World), (Op.unary .not (.bool x)).run Try.prog w = .ok (.bool (!x)) w := fun _ _ => rfl
  obtain ⟨W0, hW0⟩ : ∃ W0, W0 = (((w.alloc (.cells #[.int .i64 0] 3)).alloc (cobj 0 0 0 0 (.func (.func 19) #[] #[.pointer (some ⟨w.heap.size, 0, none⟩)]) 0)).alloc (.cells #[.int .i64 0] 34)) := ⟨_, rfl⟩
  have hn0 : W0.heap[w.heap.size]? = some (.cells #[.int .i64 0] 3) := by rw [hW0]; exact blk_alloc (blk_alloc (blk_new w _) _) _
  have hb0 : W0.heap[w.heap.size + 1]? = some (cobj 0 0 0 0 (.func (.func 19) #[] #[.pointer (some ⟨w.heap.size, 0, none⟩)]) 0) := by
    have := blk_new (w.alloc (.cells #[.int .i64 0] 3)) (cobj 0 0 0 0 (.func (.func 19) #[] #[.pointer (some ⟨w.heap.size, 0, none⟩)]) 0)
    rw [World.size_alloc] at this
    rw [hW0]; exact blk_alloc this _
  have ht0 : W0.heap[w.heap.size + 1 + 1]? = some (.cells #[.int .i64 0] 34) := by
    have := blk_new ((w.alloc (.cells #[.int .i64 0] 3)).alloc (cobj 0 0 0 0 (.func (.func 19) #[] #[.pointer (some ⟨w.heap.size, 0, none⟩)]) 0)) (.cells #[.int .i64 0] 34)
    rw [World.size_alloc, World.size_alloc] at this
    rw [hW0]; exact this
  have k0 : Below w.heap.size w W0 := by
    rw [hW0]; exact (((Below.refl _ _).alloc (Nat.le_refl _) _).alloc (by simp) _).alloc (by simp; omega) _
  have HW0 : Hid (W0 = (((w.alloc (.cells #[.int .i64 0] 3)).alloc (cobj 0 0 0 0 (.func (.func 19) #[] #[.pointer (some ⟨w.heap.size, 0, none⟩)]) 0)).alloc (.cells #[.int .i64 0] 34))) := hW0
  have G1 := get_once (w.heap.size + 1) 0 19 #[.pointer (some ⟨w.heap.size, 0, none⟩)] W0 (fun k => k = w.heap.size) (fun v w2 => v = 41 ∧ w2.heap[w.heap.size]? = some (.cells #[.int .i64 1] 3)) hb0 (enters19 _) (by omega)
    (fun v w2 w' h hq => ⟨hq.1, by rw [h _ (blk_lt hn0) (by omega)]; exact hq.2⟩)
    (fun W hW _ => (k19 w.heap.size W (by rw [hW.block _ (blk_lt hn0) (by omega)]; exact hn0)).mono (by
      rintro e w2 ⟨rfl, rfl⟩
      exact ⟨41, rfl, ⟨rfl, by rw [blk_set (by rw [hW.block _ (blk_lt hn0) (by omega)]; exact hn0)]; rfl⟩, (Kept.refl _ W).set _ _⟩))
  clear hW0
  go_enter Try.func9, Try.ntmps9
  go_wp2_with (go_at_call 7; refine (new_func (.func 19) #[] #[.pointer (some ⟨w.heap.size, 0, none⟩)] _).mono ?_; rintro e w' ⟨rfl, rfl⟩)
  rw [← HW0.out]
  refine (done_any _ _ _ _ _ _ _ _ hb0).mono ?_
  rintro e w' ⟨rfl, rfl⟩
  go_wp2_with fail
  refine G1.mono ?_
  rintro e w1 ⟨v, rfl, ⟨rfl, hn1⟩, hb1, hk1⟩
  have ht1 : w1.heap[w.heap.size + 1 + 1]? = some (.cells #[.int .i64 0] 34) := by
    rw [hk1.block _ (blk_lt ht0) (by rintro (h | h) <;> omega)]; exact ht0
  have k1 : Below w.heap.size w w1 := k0.trans (hk1.below (by have := k0.size; omega) (by rintro k (h | h) <;> omega))
  clear G1 HW0 hn0 hb0 ht0 k0 hk1
  have cn : w1.cell? ⟨w.heap.size, 0, none⟩ = some (.int .i64 1) := by rw [blk_cell hn1]; rfl
  have ct : w1.cell? ⟨w.heap.size + 1 + 1, 0, none⟩ = some (.int .i64 0) := by rw [blk_cell ht1]; rfl
  have ft := blk_free ht1
  go_wp2_with fail
  refine (get_again _ _ _ _ _ _ _ hb1).mono ?_
  rintro e w' ⟨v, rfl, rfl, rfl⟩
  go_wp2_with fail
  refine (done_any _ _ _ _ _ _ _ _ hb1).mono ?_
  rintro e w' ⟨rfl, rfl⟩
  go_wp2_with fail
  refine (now_any _ _ _ _ ct).mono ?_
  rintro e w' ⟨rfl, rfl⟩
  go_wp2_with fail
  refine (add_to _ _ 0 3 3 _ ct (ft 0) (by kernel_rfl)).mono ?_
  rintro e w' ⟨rfl, rfl⟩
  go_wp2_with fail
  refine (now_any _ _ 3 _ (World.cell?_setCell_same _ _ _ ct)).mono ?_
  rintro e w' ⟨rfl, rfl⟩
  go_wp2
  go_ret
  exact ⟨rfl, k1.setCell (by simp; try omega) _⟩
end Go.Proofs.Ytbaolijhjijlmaa
