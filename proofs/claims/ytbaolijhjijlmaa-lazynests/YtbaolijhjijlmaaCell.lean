/-
  lazy.Cell's call, the Once's slow road, Do, Get and Done, each as a contract over a cell's block: for a function that returns, none, one that panics, and a cell that is done.
-/
import Derived.Test.YtbaolijhjijlmaaParts
import Derived.Laws.EntriesVeiled
namespace Go.Proofs.Ytbaolijhjijlmaa
open Go.RowKit

/-- The block of a lazy.Cell: the Once's word, the lock's state and its sema, the cell's own mark, the function, the answer. -/
abbrev cobj (d s q dn : Int) (fv : Value) (ans : Int) : Obj := .cells #[.int .u32 d, .int .i32 s, .int .u32 q, .int .u32 dn, fv, .int .i64 ans] 60

set_option maxHeartbeats 400000 in
theorem call_ret (b : Nat) (d s q : Int) (K : Nat) (cap : Array Value) (w : World) (Q : Int → World → Prop)
    (hb : w.heap[b]? = some (cobj d s q 0 (.func (.func K) #[] cap) 0))
    (hK : ∀ W : World, (callFunc K cap).run Try.prog W = .ok (.enter K cap) W)
    (hf : Calls Try.prog K cap (w.setCell ⟨b, 4, none⟩ .nilFunc) fun e w2 => ∃ v, e = .returned (.int .i64 v) ∧ Q v w2 ∧ w2.heap[b]? = some (cobj d s q 0 .nilFunc 0)) :
    Calls Try.prog 26 #[.pointer (some ⟨b, 0, none⟩)] w fun e w' => e = .returned (.tuple #[]) ∧ ∃ v w2, Q v w2 ∧ w2.heap[b]? = some (cobj d s q 0 .nilFunc 0) ∧ w' = ((w2.setCell ⟨b, 5, none⟩ (.int .i64 v)).setCell ⟨b, 3, none⟩ (.int .u32 1)).drew := by
  have c4 : w.cell? ⟨b, 4, none⟩ = some (.func (.func K) #[] cap) := by rw [blk_cell hb]; rfl
  have fr := blk_free hb
  clear hb
  have hne : ∀ W : World, (binOp .neq 24 (.func (.func K) #[] cap) .nilFunc).run Try.prog W = .ok (.bool true) W := fun _ => by kernel_rfl
  go_enter_defers Try.func26, Try.ntmps26
  go_wp2_with fail
  refine hf.mono ?_
  rintro e w2 ⟨v, rfl, hq, hb2⟩
  have c5 : w2.cell? ⟨b, 5, none⟩ = some (.int .i64 0) := by rw [blk_cell hb2]; rfl
  have c3 : w2.cell? ⟨b, 3, none⟩ = some (.int .u32 0) := by rw [blk_cell hb2]; rfl
  have fr2 := blk_free hb2
  have HB2 : Hid (w2.heap[b]? = some (cobj d s q 0 .nilFunc 0)) := hb2
  clear hb2 hf
  go_wp2
  refine leaves_cons (f := 32) (args := #[.pointer (some ⟨b, 3, none⟩), .bool true]) (by simp) (by simp [go_sem]) ?_
  refine (store_deferred ⟨b, 3, none⟩ (.int .u32 0) .returning _ ?_ (by simp [fr2])).mono ?_
  · exact (World.cell?_setCell_other _ ⟨b, 5, none⟩ ⟨b, 3, none⟩ _ (by simp)).trans c3
  rintro e u' w'' ⟨rfl, rfl, rfl⟩
  simp [Leaves, settle, results, Try.results26]
  exact ⟨v, w2, hq, HB2.out, rfl⟩

set_option maxHeartbeats 400000 in
theorem call_nil (b : Nat) (d s q : Int) (w : World) (hb : w.heap[b]? = some (cobj d s q 0 .nilFunc 0)) :
    Calls Try.prog 26 #[.pointer (some ⟨b, 0, none⟩)] w fun e w' => e = .returned (.tuple #[]) ∧ w' = ((w.setCell ⟨b, 4, none⟩ .nilFunc).setCell ⟨b, 3, none⟩ (.int .u32 1)).drew := by
  have c4 : w.cell? ⟨b, 4, none⟩ = some .nilFunc := by rw [blk_cell hb]; rfl
  have c3 : w.cell? ⟨b, 3, none⟩ = some (.int .u32 0) := by rw [blk_cell hb]; rfl
  have fr := blk_free hb
  clear hb
  have hne : ∀ W : World, (binOp .neq 24 .nilFunc .nilFunc).run Try.prog W = .ok (.bool false) W := fun _ => by kernel_rfl
  go_enter_defers Try.func26, Try.ntmps26
  go_wp2
  refine leaves_cons (f := 32) (args := #[.pointer (some ⟨b, 3, none⟩), .bool true]) (by simp) (by simp [go_sem]) ?_
  refine (store_deferred ⟨b, 3, none⟩ (.int .u32 0) .returning _ ?_ (by simp [fr])).mono ?_
  · exact (World.cell?_setCell_other _ ⟨b, 4, none⟩ ⟨b, 3, none⟩ _ (by simp)).trans c3
  rintro e u' w'' ⟨rfl, rfl, rfl⟩
  simp [Leaves, settle, results, Try.results26]

set_option maxHeartbeats 400000 in
theorem call_panic (b : Nat) (d s q : Int) (K : Nat) (cap : Array Value) (w : World) (Q : List PanicEntry → World → Prop)
    (hb : w.heap[b]? = some (cobj d s q 0 (.func (.func K) #[] cap) 0))
    (hK : ∀ W : World, (callFunc K cap).run Try.prog W = .ok (.enter K cap) W)
    (hf : Calls Try.prog K cap (w.setCell ⟨b, 4, none⟩ .nilFunc) fun e w2 => ∃ t v, e = .panicked [{ v := .iface t v, recovered := false }] ∧ Q [{ v := .iface t v, recovered := false }] w2 ∧ w2.heap[b]? = some (cobj d s q 0 .nilFunc 0)) :
    Calls Try.prog 26 #[.pointer (some ⟨b, 0, none⟩)] w fun e w' => ∃ t v w2, e = .panicked [{ v := .iface t v, recovered := false }] ∧ Q [{ v := .iface t v, recovered := false }] w2 ∧ w2.heap[b]? = some (cobj d s q 0 .nilFunc 0) ∧ w' = (w2.setCell ⟨b, 3, none⟩ (.int .u32 1)).drew := by
  have c4 : w.cell? ⟨b, 4, none⟩ = some (.func (.func K) #[] cap) := by rw [blk_cell hb]; rfl
  have fr := blk_free hb
  clear hb
  have hne : ∀ W : World, (binOp .neq 24 (.func (.func K) #[] cap) .nilFunc).run Try.prog W = .ok (.bool true) W := fun _ => by kernel_rfl
  go_enter_defers Try.func26, Try.ntmps26
  go_wp2_with fail
  refine hf.mono ?_
  rintro e w2 ⟨t, v, rfl, hq, hb2⟩
  have c3 : w2.cell? ⟨b, 3, none⟩ = some (.int .u32 0) := by rw [blk_cell hb2]; rfl
  have fr2 := blk_free hb2
  have HB2 : Hid (w2.heap[b]? = some (cobj d s q 0 .nilFunc 0)) := hb2
  clear hb2 hf
  go_wp2
  refine leaves_cons (f := 32) (args := #[.pointer (some ⟨b, 3, none⟩), .bool true]) (by simp) (by simp [go_sem]) ?_
  refine (store_deferred ⟨b, 3, none⟩ (.int .u32 0) _ _ ?_ (by simp [fr2])).mono ?_
  · exact c3
  rintro e u' w'' ⟨rfl, rfl, rfl⟩
  simp [Leaves, settle]
  exact ⟨t, v, ⟨rfl, rfl⟩, w2, hq, HB2.out, rfl⟩

set_option maxRecDepth 100000 in
set_option maxHeartbeats 1600000 in
/-- doSlow, not yet done, the lock free: the function 'call' returns. -/
theorem slow_ret (b : Nat) (q : Int) (fv : Value) (w : World) (Q : World → Prop) (hb : w.heap[b]? = some (cobj 0 0 q 0 fv 0))
    (hf : Calls Try.prog 26 #[.pointer (some ⟨b, 0, none⟩)] (w.setCell ⟨b, 1, none⟩ (.int .i32 1)) fun e w2 => e = .returned (.tuple #[]) ∧ Q w2 ∧ ∃ v, w2.heap[b]? = some (cobj 0 1 q 1 .nilFunc v)) :
    Calls Try.prog 31 #[.pointer (some ⟨b, 0, none⟩), .func (.func 26) #[.pointer (some ⟨b, 0, none⟩)] #[]] w fun e w' => e = .returned (.tuple #[]) ∧ ∃ v w2, Q w2 ∧ w2.heap[b]? = some (cobj 0 1 q 1 .nilFunc v) ∧ w' = ((w2.setCell ⟨b, 0, none⟩ (.int .u32 1)).setCell ⟨b, 1, none⟩ (.int .i32 0)).drew := by
  have c0 : w.cell? ⟨b, 0, none⟩ = some (.int .u32 0) := by rw [blk_cell hb]; rfl
  have c1 : w.cell? ⟨b, 1, none⟩ = some (.int .i32 0) := by rw [blk_cell hb]; rfl
  have fr := blk_free hb
  clear hb
  have d0 : (w.setCell ⟨b, 1, none⟩ (.int .i32 1)).cell? ⟨b, 0, none⟩ = some (.int .u32 0) := (World.cell?_setCell_other _ ⟨b, 1, none⟩ ⟨b, 0, none⟩ _ (by simp)).trans c0
  have hnot : ∀ (x : Bool) (w : World), (Op.unary .not (.bool x)).run Try.prog w = .ok (.bool (!x)) w := fun _ _ => rfl
  go_enter_defers Try.func31, Try.ntmps31
  go_wp2_with (go_at_call 33; refine (lock_free ⟨b, 1, none⟩ _ (by go_simp) (by go_simp)).mono ?_; rintro e w' ⟨rfl, rfl⟩)
  refine (bool_load ⟨b, 0, none⟩ 0 _ d0).mono ?_
  rintro e w' ⟨rfl, rfl⟩
  go_wp2_with fail
  refine hf.mono ?_
  rintro e w2 ⟨rfl, hq, v, hb2⟩
  have e0 : w2.cell? ⟨b, 0, none⟩ = some (.int .u32 0) := by rw [blk_cell hb2]; rfl
  have e1 : w2.cell? ⟨b, 1, none⟩ = some (.int .i32 1) := by rw [blk_cell hb2]; rfl
  have fr2 := blk_free hb2
  have HB2 : Hid (w2.heap[b]? = some (cobj 0 1 q 1 .nilFunc v)) := hb2
  clear hb2 hf
  go_wp2
  refine leaves_cons (f := 32) (args := #[.pointer (some ⟨b, 0, none⟩), .bool true]) (by simp) (by simp [go_sem]) ?_
  refine (store_deferred ⟨b, 0, none⟩ (.int .u32 0) .returning _ e0 (by simp [fr2])).mono ?_
  rintro e u' w'' ⟨rfl, rfl, rfl⟩
  refine leaves_cons (f := 34) (args := #[.pointer (some ⟨b, 1, none⟩)]) (by simp [settle]) (by simp [go_sem]) ?_
  refine (unlock_deferred ⟨b, 1, none⟩ _ _ ?_ (by simp [fr2])).mono ?_
  · rw [World.cell?_drew]
    exact (World.cell?_setCell_other _ ⟨b, 0, none⟩ ⟨b, 1, none⟩ _ (by simp)).trans e1
  rintro e u' w'' ⟨rfl, rfl, rfl⟩
  simp [Leaves, settle, results, Try.results31]
  exact ⟨v, w2, hq, HB2.out, rfl⟩

set_option maxRecDepth 100000 in
set_option maxHeartbeats 1600000 in
/-- doSlow, not yet done, the lock free: 'call' panics: the panic goes on; done, the lock let go. -/
theorem slow_panic (b : Nat) (q : Int) (fv : Value) (w : World) (Q : List PanicEntry → World → Prop) (hb : w.heap[b]? = some (cobj 0 0 q 0 fv 0))
    (hf : Calls Try.prog 26 #[.pointer (some ⟨b, 0, none⟩)] (w.setCell ⟨b, 1, none⟩ (.int .i32 1)) fun e w2 => ∃ t v, e = .panicked [{ v := .iface t v, recovered := false }] ∧ Q [{ v := .iface t v, recovered := false }] w2 ∧ w2.heap[b]? = some (cobj 0 1 q 1 .nilFunc 0)) :
    Calls Try.prog 31 #[.pointer (some ⟨b, 0, none⟩), .func (.func 26) #[.pointer (some ⟨b, 0, none⟩)] #[]] w fun e w' => ∃ t v w2, e = .panicked [{ v := .iface t v, recovered := false }] ∧ Q [{ v := .iface t v, recovered := false }] w2 ∧ w2.heap[b]? = some (cobj 0 1 q 1 .nilFunc 0) ∧ w' = ((w2.setCell ⟨b, 0, none⟩ (.int .u32 1)).setCell ⟨b, 1, none⟩ (.int .i32 0)).drew := by
  have c0 : w.cell? ⟨b, 0, none⟩ = some (.int .u32 0) := by rw [blk_cell hb]; rfl
  have c1 : w.cell? ⟨b, 1, none⟩ = some (.int .i32 0) := by rw [blk_cell hb]; rfl
  have fr := blk_free hb
  clear hb
  have d0 : (w.setCell ⟨b, 1, none⟩ (.int .i32 1)).cell? ⟨b, 0, none⟩ = some (.int .u32 0) := (World.cell?_setCell_other _ ⟨b, 1, none⟩ ⟨b, 0, none⟩ _ (by simp)).trans c0
  have hnot : ∀ (x : Bool) (w : World), (Op.unary .not (.bool x)).run Try.prog w = .ok (.bool (!x)) w := fun _ _ => rfl
  go_enter_defers Try.func31, Try.ntmps31
  go_wp2_with (go_at_call 33; refine (lock_free ⟨b, 1, none⟩ _ (by go_simp) (by go_simp)).mono ?_; rintro e w' ⟨rfl, rfl⟩)
  refine (bool_load ⟨b, 0, none⟩ 0 _ d0).mono ?_
  rintro e w' ⟨rfl, rfl⟩
  go_wp2_with fail
  refine hf.mono ?_
  rintro e w2 ⟨t, v, rfl, hq, hb2⟩
  have e0 : w2.cell? ⟨b, 0, none⟩ = some (.int .u32 0) := by rw [blk_cell hb2]; rfl
  have e1 : w2.cell? ⟨b, 1, none⟩ = some (.int .i32 1) := by rw [blk_cell hb2]; rfl
  have fr2 := blk_free hb2
  have HB2 : Hid (w2.heap[b]? = some (cobj 0 1 q 1 .nilFunc 0)) := hb2
  clear hb2 hf
  go_wp2
  refine leaves_cons (f := 32) (args := #[.pointer (some ⟨b, 0, none⟩), .bool true]) (by simp) (by simp [go_sem]) ?_
  refine (store_deferred ⟨b, 0, none⟩ (.int .u32 0) _ _ e0 (by simp [fr2])).mono ?_
  rintro e u' w'' ⟨rfl, rfl, rfl⟩
  refine leaves_cons (f := 34) (args := #[.pointer (some ⟨b, 1, none⟩)]) (by simp [settle]) (by simp [go_sem]) ?_
  refine (unlock_deferred ⟨b, 1, none⟩ _ _ ?_ (by simp [fr2])).mono ?_
  · rw [World.cell?_drew]
    exact (World.cell?_setCell_other _ ⟨b, 0, none⟩ ⟨b, 1, none⟩ _ (by simp)).trans e1
  rintro e u' w'' ⟨rfl, rfl, rfl⟩
  simp [Leaves, settle]
  exact ⟨t, v, ⟨rfl, rfl⟩, w2, hq, HB2.out, rfl⟩

set_option maxHeartbeats 400000 in
theorem do_done (b : Nat) (s q dn ans : Int) (g fv : Value) (w : World) (hb : w.heap[b]? = some (cobj 1 s q dn g ans)) :
    Calls Try.prog 25 #[.pointer (some ⟨b, 0, none⟩), fv] w fun e w' => e = .returned (.tuple #[]) ∧ w' = w := by
  have c0 : w.cell? ⟨b, 0, none⟩ = some (.int .u32 1) := by rw [blk_cell hb]; rfl
  clear hb
  have hnot : ∀ (x : Bool) (w : World), (Op.unary .not (.bool x)).run Try.prog w = .ok (.bool (!x)) w := fun _ _ => rfl
  go_enter Try.func25, Try.ntmps25
  go_wp2_with (go_at_call 24; refine (bool_load ⟨b, 0, none⟩ 1 _ c0).mono ?_; rintro e w' ⟨rfl, rfl⟩)
  go_wp2
  go_end0
  exact ⟨rfl, rfl⟩

set_option maxHeartbeats 400000 in
theorem do_slow (b : Nat) (s q dn ans : Int) (g fv : Value) (w : World) (R : Ending → World → Prop) (hb : w.heap[b]? = some (cobj 0 s q dn g ans))
    (hf : Calls Try.prog 31 #[.pointer (some ⟨b, 0, none⟩), fv] w fun e w' => e = .returned (.tuple #[]) ∧ R e w') :
    Calls Try.prog 25 #[.pointer (some ⟨b, 0, none⟩), fv] w fun e w' => e = .returned (.tuple #[]) ∧ R e w' := by
  have c0 : w.cell? ⟨b, 0, none⟩ = some (.int .u32 0) := by rw [blk_cell hb]; rfl
  clear hb
  have hnot : ∀ (x : Bool) (w : World), (Op.unary .not (.bool x)).run Try.prog w = .ok (.bool (!x)) w := fun _ _ => rfl
  go_enter Try.func25, Try.ntmps25
  go_wp2_with (go_at_call 24; refine (bool_load ⟨b, 0, none⟩ 0 _ c0).mono ?_; rintro e w' ⟨rfl, rfl⟩)
  refine hf.mono ?_
  rintro e w2 ⟨rfl, hr⟩
  clear hf
  go_wp2
  go_end0
  exact ⟨rfl, hr⟩

set_option maxHeartbeats 400000 in
theorem do_slow_panic (b : Nat) (s q dn ans : Int) (g fv : Value) (w : World) (R : Ending → World → Prop) (hb : w.heap[b]? = some (cobj 0 s q dn g ans))
    (hf : Calls Try.prog 31 #[.pointer (some ⟨b, 0, none⟩), fv] w fun e w' => (∃ c, e = .panicked c) ∧ R e w') :
    Calls Try.prog 25 #[.pointer (some ⟨b, 0, none⟩), fv] w fun e w' => (∃ c, e = .panicked c) ∧ R e w' := by
  have c0 : w.cell? ⟨b, 0, none⟩ = some (.int .u32 0) := by rw [blk_cell hb]; rfl
  clear hb
  have hnot : ∀ (x : Bool) (w : World), (Op.unary .not (.bool x)).run Try.prog w = .ok (.bool (!x)) w := fun _ _ => rfl
  go_enter Try.func25, Try.ntmps25
  go_wp2_with (go_at_call 24; refine (bool_load ⟨b, 0, none⟩ 0 _ c0).mono ?_; rintro e w' ⟨rfl, rfl⟩)
  refine hf.mono ?_
  rintro e w2 ⟨⟨c, rfl⟩, hr⟩
  clear hf
  go_wp2
  exact ⟨rfl, ⟨c, rfl⟩, hr⟩

/-- The block behind 'call' and the slow road: what each store leaves. -/
theorem held_blk {b : Nat} {q : Int} {fv : Value} {w : World} (hb : w.heap[b]? = some (cobj 0 0 q 0 fv 0)) : (w.setCell ⟨b, 1, none⟩ (.int .i32 1)).heap[b]? = some (cobj 0 1 q 0 fv 0) := by
  rw [blk_set hb]; rfl
theorem left_blk {b : Nat} {q ans : Int} {w : World} (hb : w.heap[b]? = some (cobj 0 1 q 1 .nilFunc ans)) : ((w.setCell ⟨b, 0, none⟩ (.int .u32 1)).setCell ⟨b, 1, none⟩ (.int .i32 0)).drew.heap[b]? = some (cobj 1 0 q 1 .nilFunc ans) := by
  rw [blk_drew, blk_set (blk_set hb 0 _)]; rfl
theorem answer_blk {b : Nat} {q v : Int} {w : World} (hb : w.heap[b]? = some (cobj 0 1 q 0 .nilFunc 0)) : ((w.setCell ⟨b, 5, none⟩ (.int .i64 v)).setCell ⟨b, 3, none⟩ (.int .u32 1)).drew.heap[b]? = some (cobj 0 1 q 1 .nilFunc v) := by
  rw [blk_drew, blk_set (blk_set hb 5 _)]; rfl
theorem mark_blk {b : Nat} {q : Int} {w : World} (hb : w.heap[b]? = some (cobj 0 1 q 0 .nilFunc 0)) : (w.setCell ⟨b, 3, none⟩ (.int .u32 1)).drew.heap[b]? = some (cobj 0 1 q 1 .nilFunc 0) := by
  rw [blk_drew, blk_set hb]; rfl
theorem none_blk {b : Nat} {q : Int} {w : World} (hb : w.heap[b]? = some (cobj 0 1 q 0 .nilFunc 0)) : ((w.setCell ⟨b, 4, none⟩ .nilFunc).setCell ⟨b, 3, none⟩ (.int .u32 1)).drew.heap[b]? = some (cobj 0 1 q 1 .nilFunc 0) := by
  rw [blk_drew, blk_set (blk_set hb 4 _)]; rfl

set_option maxHeartbeats 400000 in
/-- Get, where Do returns and leaves the answer v. -/
theorem get_of_do (b : Nat) (w : World) (R : Int → World → Prop)
    (hf : Calls Try.prog 25 #[.pointer (some ⟨b, 0, none⟩), .func (.func 26) #[.pointer (some ⟨b, 0, none⟩)] #[]] w fun e w' => e = .returned (.tuple #[]) ∧ ∃ v d s q dn g, w'.heap[b]? = some (cobj d s q dn g v) ∧ R v w') :
    Calls Try.prog 14 #[.pointer (some ⟨b, 0, none⟩)] w fun e w' => ∃ v, e = .returned (.int .i64 v) ∧ R v w' := by
  have hmf : ∀ (fn : Fn) (first cap : Array Value) (w : World), (Instr.makeFunc fn first cap).run Try.prog w = .ok (.func fn first cap) w := fun _ _ _ _ => rfl
  go_enter Try.func14, Try.ntmps14
  go_wp2_with fail
  refine hf.mono ?_
  rintro e w2 ⟨rfl, v, d, s, q, dn, g, hb, hr⟩
  have c5 : w2.cell? ⟨b, 5, none⟩ = some (.int .i64 v) := by rw [blk_cell hb]; rfl
  clear hb hf
  go_wp2
  go_ret
  exact ⟨v, rfl, hr⟩

set_option maxHeartbeats 400000 in
/-- Get, where Do panics. -/
theorem get_of_do_panic (b : Nat) (w : World) (R : Ending → World → Prop)
    (hf : Calls Try.prog 25 #[.pointer (some ⟨b, 0, none⟩), .func (.func 26) #[.pointer (some ⟨b, 0, none⟩)] #[]] w fun e w' => (∃ c, e = .panicked c) ∧ R e w') :
    Calls Try.prog 14 #[.pointer (some ⟨b, 0, none⟩)] w fun e w' => (∃ c, e = .panicked c) ∧ R e w' := by
  have hmf : ∀ (fn : Fn) (first cap : Array Value) (w : World), (Instr.makeFunc fn first cap).run Try.prog w = .ok (.func fn first cap) w := fun _ _ _ _ => rfl
  go_enter Try.func14, Try.ntmps14
  go_wp2_with fail
  refine hf.mono ?_
  rintro e w2 ⟨⟨c, rfl⟩, hr⟩
  clear hf
  go_wp2
  exact ⟨rfl, ⟨c, rfl⟩, hr⟩

/-- GET, THE FIRST TIME, the function returns: the answer is what it answered; the cell is done and holds it. -/
theorem get_first (b : Nat) (q : Int) (K : Nat) (cap : Array Value) (w : World) (Q : Int → World → Prop)
    (hb : w.heap[b]? = some (cobj 0 0 q 0 (.func (.func K) #[] cap) 0))
    (hK : ∀ W : World, (callFunc K cap).run Try.prog W = .ok (.enter K cap) W)
    (hf : Calls Try.prog K cap ((w.setCell ⟨b, 1, none⟩ (.int .i32 1)).setCell ⟨b, 4, none⟩ .nilFunc) fun e w2 => ∃ v, e = .returned (.int .i64 v) ∧ Q v w2 ∧ w2.heap[b]? = some (cobj 0 1 q 0 .nilFunc 0)) :
    Calls Try.prog 14 #[.pointer (some ⟨b, 0, none⟩)] w fun e w' => ∃ v, e = .returned (.int .i64 v) ∧ ∃ w2, Q v w2 ∧ w'.heap[b]? = some (cobj 1 0 q 1 .nilFunc v) ∧ Kept (fun k => k = b) w2 w' := by
  refine get_of_do b w _ ?_
  have h1 := call_ret b 0 1 q K cap _ Q (held_blk hb) hK hf
  have h2 := slow_ret b q _ w (fun w' => ∃ v w2, Q v w2 ∧ w'.heap[b]? = some (cobj 0 1 q 1 .nilFunc v) ∧ Kept (fun k => k = b) w2 w') hb
    (h1.mono (by
      rintro e w' ⟨rfl, v, w2, hq, hb2, rfl⟩
      exact ⟨rfl, ⟨v, w2, hq, answer_blk hb2, (((Kept.refl _ _).set _ _).set _ _).drew⟩, v, answer_blk hb2⟩))
  refine (do_slow b 0 q 0 0 _ _ w (fun _ w' => ∃ v w2, Q v w2 ∧ w'.heap[b]? = some (cobj 1 0 q 1 .nilFunc v) ∧ Kept (fun k => k = b) w2 w') hb (h2.mono ?_)).mono ?_
  · rintro e w' ⟨rfl, v, w2, ⟨v', w3, hq, hb3, hk⟩, hb2, rfl⟩
    exact ⟨rfl, v', w3, hq, left_blk hb3, ((hk.set _ _).set _ _).drew⟩
  · rintro e w' ⟨rfl, v, w2, hq, hb2, hk⟩
    exact ⟨rfl, v, _, _, _, _, _, hb2, w2, hq, hb2, hk⟩

/-- GET, THE FIRST TIME, no function: 0. -/
theorem get_none (b : Nat) (q : Int) (w : World) (hb : w.heap[b]? = some (cobj 0 0 q 0 .nilFunc 0)) :
    Calls Try.prog 14 #[.pointer (some ⟨b, 0, none⟩)] w fun e w' => ∃ v, e = .returned (.int .i64 v) ∧ v = 0 ∧ w'.heap[b]? = some (cobj 1 0 q 1 .nilFunc 0) ∧ Kept (fun k => k = b) w w' := by
  refine get_of_do b w _ ?_
  have h1 := call_nil b 0 1 q _ (held_blk hb)
  have h2 := slow_ret b q _ w (fun w' => w'.heap[b]? = some (cobj 0 1 q 1 .nilFunc 0) ∧ Kept (fun k => k = b) w w') hb
    (h1.mono (by
      rintro e w' ⟨rfl, rfl⟩
      exact ⟨rfl, ⟨none_blk (held_blk hb), ((((Kept.refl _ _).set _ _).set _ _).set _ _).drew⟩, 0, none_blk (held_blk hb)⟩))
  refine (do_slow b 0 q 0 0 _ _ w (fun _ w' => w'.heap[b]? = some (cobj 1 0 q 1 .nilFunc 0) ∧ Kept (fun k => k = b) w w') hb (h2.mono ?_)).mono ?_
  · rintro e w' ⟨rfl, v, w2, ⟨hb3, hk⟩, hb2, rfl⟩
    exact ⟨rfl, left_blk hb3, ((hk.set _ _).set _ _).drew⟩
  · rintro e w' ⟨rfl, hb2, hk⟩
    exact ⟨rfl, 0, _, _, _, _, _, hb2, rfl, hb2, hk⟩

/-- GET, THE FIRST TIME, the function panics: the panic goes on; the cell is done, its answer 0. -/
theorem get_falls (b : Nat) (q : Int) (K : Nat) (cap : Array Value) (w : World) (Q : World → Prop)
    (hb : w.heap[b]? = some (cobj 0 0 q 0 (.func (.func K) #[] cap) 0))
    (hK : ∀ W : World, (callFunc K cap).run Try.prog W = .ok (.enter K cap) W)
    (hf : Calls Try.prog K cap ((w.setCell ⟨b, 1, none⟩ (.int .i32 1)).setCell ⟨b, 4, none⟩ .nilFunc) fun e w2 => ∃ t v, e = .panicked [{ v := .iface t v, recovered := false }] ∧ Q w2 ∧ w2.heap[b]? = some (cobj 0 1 q 0 .nilFunc 0)) :
    Calls Try.prog 14 #[.pointer (some ⟨b, 0, none⟩)] w fun e w' => ∃ t v, e = .panicked [{ v := .iface t v, recovered := false }] ∧ ∃ w2, Q w2 ∧ w'.heap[b]? = some (cobj 1 0 q 1 .nilFunc 0) ∧ Kept (fun k => k = b) w2 w' := by
  have h1 := call_panic b 0 1 q K cap _ (fun _ => Q) (held_blk hb) hK hf
  have h2 := slow_panic b q _ w (fun _ w' => ∃ w2, Q w2 ∧ w'.heap[b]? = some (cobj 0 1 q 1 .nilFunc 0) ∧ Kept (fun k => k = b) w2 w') hb
    (h1.mono (by
      rintro e w' ⟨t, v, w2, rfl, hq, hb2, rfl⟩
      exact ⟨t, v, rfl, ⟨w2, hq, mark_blk hb2, ((Kept.refl _ _).set _ _).drew⟩, mark_blk hb2⟩))
  have h3 := do_slow_panic b 0 q 0 0 _ _ w (fun e w' => ∃ t v, e = .panicked [{ v := .iface t v, recovered := false }] ∧ ∃ w2, Q w2 ∧ w'.heap[b]? = some (cobj 1 0 q 1 .nilFunc 0) ∧ Kept (fun k => k = b) w2 w') hb (h2.mono (by
    rintro e w' ⟨t, v, w2, rfl, ⟨w3, hq, hb3, hk⟩, hb2, rfl⟩
    exact ⟨⟨_, rfl⟩, t, v, rfl, w3, hq, left_blk hb3, ((hk.set _ _).set _ _).drew⟩))
  exact (get_of_do_panic b w _ h3).mono fun e w' h => h.2

/-- GET, DONE: the answer; nothing turns. -/
theorem get_again (b : Nat) (s q dn ans : Int) (g : Value) (w : World) (hb : w.heap[b]? = some (cobj 1 s q dn g ans)) :
    Calls Try.prog 14 #[.pointer (some ⟨b, 0, none⟩)] w fun e w' => ∃ v, e = .returned (.int .i64 v) ∧ v = ans ∧ w' = w := by
  refine get_of_do b w _ ((do_done b s q dn ans g _ w hb).mono ?_)
  rintro e w' ⟨rfl, rfl⟩
  exact ⟨rfl, ans, _, _, _, _, _, hb, rfl, rfl⟩

set_option maxHeartbeats 400000 in
theorem done_any (b : Nat) (d s q dn ans : Int) (g : Value) (w : World) (hb : w.heap[b]? = some (cobj d s q dn g ans)) :
    Calls Try.prog 13 #[.pointer (some ⟨b, 0, none⟩)] w fun e w' => e = .returned (.bool (dn != 0)) ∧ w' = w := by
  have c3 : w.cell? ⟨b, 3, none⟩ = some (.int .u32 dn) := by rw [blk_cell hb]; rfl
  clear hb
  go_enter Try.func13, Try.ntmps13
  go_wp2_with (go_at_call 24; refine (bool_load ⟨b, 3, none⟩ dn _ c3).mono ?_; rintro e w' ⟨rfl, rfl⟩)
  go_wp2
  go_ret
  exact ⟨rfl, rfl⟩

end Go.Proofs.Ytbaolijhjijlmaa
