/-
  lazy.New and lazy.Count's Add, Now and Raise, each as a contract.
-/
import Derived.Test.YtbaolijhjijlmaaCell
namespace Go.Proofs.Ytbaolijhjijlmaa
open Go.RowKit

set_option maxHeartbeats 400000 in
theorem new_func (fn : Fn) (first cap : Array Value) (w : World) :
    Calls Try.prog 7 #[.func fn first cap] w fun e w' => e = .returned (.pointer (some ⟨w.heap.size, 0, none⟩)) ∧ w' = w.alloc (cobj 0 0 0 0 (.func fn first cap) 0) := by
  go_enter Try.func7, Try.ntmps7
  go_wp2
  go_ret
  exact ⟨rfl, rfl⟩

set_option maxHeartbeats 400000 in
theorem new_nil (w : World) :
    Calls Try.prog 7 #[.nilFunc] w fun e w' => e = .returned (.pointer (some ⟨w.heap.size, 0, none⟩)) ∧ w' = w.alloc (cobj 0 0 0 0 .nilFunc 0) := by
  go_enter Try.func7, Try.ntmps7
  go_wp2
  go_ret
  exact ⟨rfl, rfl⟩

set_option maxHeartbeats 400000 in
theorem now_any (b i : Nat) (x : Int) (w : World) (hc : w.cell? ⟨b, i, none⟩ = some (.int .i64 x)) :
    Calls Try.prog 15 #[.pointer (some ⟨b, i, none⟩)] w fun e w' => e = .returned (.int .i64 x) ∧ w' = w := by
  go_enter Try.func15, Try.ntmps15
  go_wp2_with (go_at_call 21; refine (int_load ⟨b, i, none⟩ x _ hc).mono ?_; rintro e w' ⟨rfl, rfl⟩)
  go_wp2
  go_ret
  exact ⟨rfl, rfl⟩

set_option maxHeartbeats 400000 in
theorem int_add (a : Addr) (x n : Int) (w : World) (hc : w.cell? a = some (.int .i64 x)) (hz : w.frozen? a = false) :
    Calls Try.prog 23 #[.pointer (some a), .int .i64 n] w fun e w' => e = .returned (.int .i64 (wrap64 (x + n))) ∧ w' = w.setCell a (.int .i64 (wrap64 (x + n))) := by
  have hadd := run_call_add (P := Try.prog) Try.func29 (by kernel_rfl) (by kernel_rfl) (by kernel_rfl) .i64 (by kernel_rfl) (y := n) (s := wrap64 (x + n)) hc hz (by simp [go_sem, wrap64, IntKind.wrap_i64])
  go_enter Try.func23, Try.ntmps23
  go_wp2
  go_ret
  exact ⟨rfl, rfl⟩

set_option maxHeartbeats 400000 in
theorem add_any (b i : Nat) (x n : Int) (w : World) (hc : w.cell? ⟨b, i, none⟩ = some (.int .i64 x)) (hz : w.frozen? ⟨b, i, none⟩ = false) :
    Calls Try.prog 12 #[.pointer (some ⟨b, i, none⟩), .int .i64 n] w fun e w' => e = .returned (.int .i64 (wrap64 (x + n))) ∧ w' = w.setCell ⟨b, i, none⟩ (.int .i64 (wrap64 (x + n))) := by
  go_enter Try.func12, Try.ntmps12
  go_wp2_with (go_at_call 23; refine (int_add ⟨b, i, none⟩ x n _ hc hz).mono ?_; rintro e w' ⟨rfl, rfl⟩)
  go_wp2
  go_ret
  exact ⟨rfl, rfl⟩

theorem add_to (b i : Nat) (x n s : Int) (w : World) (hc : w.cell? ⟨b, i, none⟩ = some (.int .i64 x)) (hz : w.frozen? ⟨b, i, none⟩ = false) (hs : wrap64 (x + n) = s) :
    Calls Try.prog 12 #[.pointer (some ⟨b, i, none⟩), .int .i64 n] w fun e w' => e = .returned (.int .i64 s) ∧ w' = w.setCell ⟨b, i, none⟩ (.int .i64 s) := by
  subst hs; exact add_any b i x n w hc hz

set_option maxHeartbeats 400000 in
theorem int_cas (a : Addr) (x n : Int) (w : World) (hc : w.cell? a = some (.int .i64 x)) (hz : w.frozen? a = false) :
    Calls Try.prog 22 #[.pointer (some a), .int .i64 x, .int .i64 n] w fun e w' => e = .returned (.bool true) ∧ w' = w.setCell a (.int .i64 n) := by
  have hcas := run_call_cas_hit (P := Try.prog) Try.func28 (by kernel_rfl) (by kernel_rfl) (by kernel_rfl) .i64 (by kernel_rfl) (y := n) hc hz
  go_enter Try.func22, Try.ntmps22
  go_wp2
  go_ret
  exact ⟨rfl, rfl⟩

set_option maxHeartbeats 400000 in
theorem raise_not (b i : Nat) (x n : Int) (w : World) (hc : w.cell? ⟨b, i, none⟩ = some (.int .i64 x)) (hn : n ≤ x) :
    Calls Try.prog 11 #[.pointer (some ⟨b, i, none⟩), .int .i64 n] w fun e w' => e = .returned (.bool false) ∧ w' = w := by
  go_enter Try.func11, Try.ntmps11
  go_wp2_with (go_at_call 21; refine (int_load ⟨b, i, none⟩ x _ hc).mono ?_; rintro e w' ⟨rfl, rfl⟩)
  refine wp_loop_once ?_
  go_wp2_with (go_at_call 21; refine (int_load ⟨b, i, none⟩ x _ hc).mono ?_; rintro e w' ⟨rfl, rfl⟩)
  go_wp2
  go_ret
  exact ⟨rfl, rfl⟩

set_option maxHeartbeats 400000 in
theorem raise_does (b i : Nat) (x n : Int) (w : World) (hc : w.cell? ⟨b, i, none⟩ = some (.int .i64 x)) (hz : w.frozen? ⟨b, i, none⟩ = false) (hn : x < n) :
    Calls Try.prog 11 #[.pointer (some ⟨b, i, none⟩), .int .i64 n] w fun e w' => e = .returned (.bool true) ∧ w' = w.setCell ⟨b, i, none⟩ (.int .i64 n) := by
  go_enter Try.func11, Try.ntmps11
  go_wp2_with fail
  refine wp_loop_once ?_
  go_wp2_with (first | (go_at_call 21; refine (int_load ⟨b, i, none⟩ x _ hc).mono ?_; rintro e w' ⟨rfl, rfl⟩) | (go_at_call 22; refine (int_cas ⟨b, i, none⟩ x n _ hc hz).mono ?_; rintro e w' ⟨rfl, rfl⟩))
  go_wp2
  go_ret
  exact ⟨rfl, rfl⟩

/-- get's deferred closure, of a frame that panics: n is 0, fell is true; the panic is recovered. -/
theorem catch_panicking (p r : Addr) (hpr : p ≠ r) (x y : Value) (u : TypeId) (pv : Value) (older : List PanicEntry) (w : World) (hp : w.cell? p = some x) (hr : w.cell? r = some y) (zp : w.frozen? p = false) (zr : w.frozen? r = false) :
    CallsD Try.prog 20 #[.pointer (some p), .pointer (some r)] (.panicking ({ v := .iface u pv, recovered := false } :: older)) w fun e u' w' =>
      e = .returned (.tuple #[]) ∧ u' = .panicking ({ v := .iface u pv, recovered := true } :: older) ∧ w' = (w.setCell p (.int .i64 0)).setCell r (.bool true) := by
  have hr' : (w.setCell p (.int .i64 0)).cell? r = some y := (World.cell?_setCell_other _ _ _ _ hpr).trans hr
  have zr' : (w.setCell p (.int .i64 0)).frozen? r = false := by simp [zr]
  refine callsD_of_wpS Try.func20 rfl fun c₀ cs hu => ?_
  apply wpS_seq
  apply wpS_region
  simp [wpOpsS, go_sem, recoverD, hu, Try.ntmps20, Exit.thenS]
  refine wpS_cond (t := true) (by simp [Act.eval, Array.replicate]) ?_
  simp only [if_true]
  apply wpS_seq
  apply wpS_region
  simp [wpOpsS, go_sem, hp, zp, Exit.thenS]
  apply wpS_region
  simp [wpOpsS, go_sem, hr', zr', bodyPostS, results, Try.results20]

/-- .. of a frame that returns: nothing. -/
theorem catch_idle (p r : Addr) (w : World) :
    CallsD Try.prog 20 #[.pointer (some p), .pointer (some r)] .returning w fun e u' w' => e = .returned (.tuple #[]) ∧ u' = .returning ∧ w' = w := by
  refine callsD_of_wpS Try.func20 rfl fun c₀ cs hu => ?_
  apply wpS_seq
  apply wpS_region
  simp [wpOpsS, go_sem, recoverD, hu, Try.ntmps20, Exit.thenS]
  refine wpS_cond (t := false) (by simp [Act.eval, Array.replicate]) ?_
  simp only [Bool.false_eq_true, if_false]
  refine wpS_of_wp (wp_skip ?_)
  cases c₀
  simp_all [bodyPostS, results, Try.results20]
end Go.Proofs.Ytbaolijhjijlmaa
