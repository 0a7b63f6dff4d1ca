/-
  The law's own 'get' (a Get whose panic is caught), as a contract: the cell's function returns, panics, or the cell is done.
-/
import Derived.Test.YtbaolijhjijlmaaCount
namespace Go.Proofs.Ytbaolijhjijlmaa
open Go.RowKit

set_option maxHeartbeats 800000 in
theorem caught_ret (b : Nat) (w : World) (R : Int → World → Prop)
    (hf : Calls Try.prog 14 #[.pointer (some ⟨b, 0, none⟩)] ((w.alloc (.cells #[.int .i64 0] 3)).alloc (.cells #[.bool false] 4)) fun e w2 => ∃ v, e = .returned (.int .i64 v) ∧ R v w2 ∧ w2.heap[w.heap.size]? = some (.cells #[.int .i64 0] 3) ∧ w2.heap[w.heap.size + 1]? = some (.cells #[.bool false] 4)) :
    Calls Try.prog 10 #[.pointer (some ⟨b, 0, none⟩)] w fun e w' => ∃ v w2, e = .returned (.tuple #[.int .i64 v, .bool false]) ∧ R v w2 ∧ w' = (w2.setCell ⟨w.heap.size, 0, none⟩ (.int .i64 v)).setCell ⟨w.heap.size + 1, 0, none⟩ (.bool false) := by
  have hmf : ∀ (fn : Fn) (first cap : Array Value) (w : World), (Instr.makeFunc fn first cap).run Try.prog w = .ok (.func fn first cap) w := fun _ _ _ _ => rfl
  go_enter_defers Try.func10, Try.ntmps10
  go_wp2_with fail
  refine hf.mono ?_
  rintro e w2 ⟨v, rfl, hr, hn, hm⟩
  have cn : w2.cell? ⟨w.heap.size, 0, none⟩ = some (.int .i64 0) := by rw [blk_cell hn]; rfl
  have cm : w2.cell? ⟨w.heap.size + 1, 0, none⟩ = some (.bool false) := by rw [blk_cell hm]; rfl
  have fn := blk_free hn
  have fm := blk_free hm
  have dm : ∀ x, (w2.setCell ⟨w.heap.size, 0, none⟩ x).cell? ⟨w.heap.size + 1, 0, none⟩ = some (.bool false) := fun x => (World.cell?_setCell_other _ _ _ _ (by simp)).trans cm
  clear hn hm hf
  go_wp2
  refine leaves_cons (f := 20) (args := #[.pointer (some ⟨w.heap.size, 0, none⟩), .pointer (some ⟨w.heap.size + 1, 0, none⟩)]) (by simp) (by simp [go_sem]) ?_
  refine (catch_idle _ _ _).mono ?_
  rintro e u' w'' ⟨rfl, rfl, rfl⟩
  have r0 : ((w2.setCell ⟨w.heap.size, 0, none⟩ (.int .i64 v)).setCell ⟨w.heap.size + 1, 0, none⟩ (.bool false)).cell? ⟨w.heap.size, 0, none⟩ = some (.int .i64 v) := (World.cell?_setCell_other _ _ _ _ (by simp)).trans (World.cell?_setCell_same _ _ _ cn)
  have r1 : ((w2.setCell ⟨w.heap.size, 0, none⟩ (.int .i64 v)).setCell ⟨w.heap.size + 1, 0, none⟩ (.bool false)).cell? ⟨w.heap.size + 1, 0, none⟩ = some (.bool false) := World.cell?_setCell_same _ _ _ (dm _)
  simp [Leaves, settle, results, Try.results10, go_sem, r0, r1]
  exact ⟨w2, hr, rfl⟩

set_option maxHeartbeats 800000 in
theorem caught_panic (b : Nat) (w : World) (R : World → Prop)
    (hf : Calls Try.prog 14 #[.pointer (some ⟨b, 0, none⟩)] ((w.alloc (.cells #[.int .i64 0] 3)).alloc (.cells #[.bool false] 4)) fun e w2 => ∃ t v, e = .panicked [{ v := .iface t v, recovered := false }] ∧ R w2 ∧ w2.heap[w.heap.size]? = some (.cells #[.int .i64 0] 3) ∧ w2.heap[w.heap.size + 1]? = some (.cells #[.bool false] 4)) :
    Calls Try.prog 10 #[.pointer (some ⟨b, 0, none⟩)] w fun e w' => ∃ w2, e = .returned (.tuple #[.int .i64 0, .bool true]) ∧ R w2 ∧ w' = (w2.setCell ⟨w.heap.size, 0, none⟩ (.int .i64 0)).setCell ⟨w.heap.size + 1, 0, none⟩ (.bool true) := by
  have hmf : ∀ (fn : Fn) (first cap : Array Value) (w : World), (Instr.makeFunc fn first cap).run Try.prog w = .ok (.func fn first cap) w := fun _ _ _ _ => rfl
  go_enter_defers Try.func10, Try.ntmps10
  go_wp2_with fail
  refine hf.mono ?_
  rintro e w2 ⟨t, v, rfl, hr, hn, hm⟩
  have cn : w2.cell? ⟨w.heap.size, 0, none⟩ = some (.int .i64 0) := by rw [blk_cell hn]; rfl
  have cm : w2.cell? ⟨w.heap.size + 1, 0, none⟩ = some (.bool false) := by rw [blk_cell hm]; rfl
  have fn := blk_free hn
  have fm := blk_free hm
  have dm : ∀ x, (w2.setCell ⟨w.heap.size, 0, none⟩ x).cell? ⟨w.heap.size + 1, 0, none⟩ = some (.bool false) := fun x => (World.cell?_setCell_other _ _ _ _ (by simp)).trans cm
  clear hn hm hf
  go_wp2
  refine leaves_cons (f := 20) (args := #[.pointer (some ⟨w.heap.size, 0, none⟩), .pointer (some ⟨w.heap.size + 1, 0, none⟩)]) (by simp) (by simp [go_sem]) ?_
  refine (catch_panicking _ _ (by simp) _ _ t v [] _ cn cm (fn 0) (fm 0)).mono ?_
  rintro e u' w'' ⟨rfl, rfl, rfl⟩
  have r0 : ((w2.setCell ⟨w.heap.size, 0, none⟩ (.int .i64 0)).setCell ⟨w.heap.size + 1, 0, none⟩ (.bool true)).cell? ⟨w.heap.size, 0, none⟩ = some (.int .i64 0) := (World.cell?_setCell_other _ _ _ _ (by simp)).trans (World.cell?_setCell_same _ _ _ cn)
  have r1 : ((w2.setCell ⟨w.heap.size, 0, none⟩ (.int .i64 0)).setCell ⟨w.heap.size + 1, 0, none⟩ (.bool true)).cell? ⟨w.heap.size + 1, 0, none⟩ = some (.bool true) := World.cell?_setCell_same _ _ _ (dm _)
  simp [Leaves, settle, results, Try.results10, go_sem, r0, r1]
  exact ⟨w2, hr, rfl⟩

theorem enters {f : FuncId} {fn : Func} {c : Code} (hf : Try.prog.funcs[f]? = some fn) (hname : (fn.name == "runtime.NumGoroutine") = false) (hb : fn.body = some c) (args : Array Value) (w : World) :
    (callFunc f args).run Try.prog w = .ok (.enter f args) w := by
  have h1 : fn.name ≠ "runtime.NumGoroutine" := by simpa using hname
  simp [callFunc, hf, h1, hb]

/-- The world in which the cell's function is called: behind the lock's store and the field's. -/
theorem asked_kept {b : Nat} {w W : World} (h : Kept (fun k => k = b) w W) : Kept (fun k => k = b) w ((W.setCell ⟨b, 1, none⟩ (.int .i32 1)).setCell ⟨b, 4, none⟩ .nilFunc) := (h.set _ _).set _ _
theorem asked_blk {b : Nat} {q : Int} {fv : Value} {W : World} (hb : W.heap[b]? = some (cobj 0 0 q 0 fv 0)) : ((W.setCell ⟨b, 1, none⟩ (.int .i32 1)).setCell ⟨b, 4, none⟩ .nilFunc).heap[b]? = some (cobj 0 1 q 0 .nilFunc 0) := by
  rw [blk_set (blk_set hb 1 _)]; rfl

/-- GET, THE FIRST TIME, the function returns and turns blocks of S alone. -/
theorem get_once (b : Nat) (q : Int) (K : Nat) (cap : Array Value) (w : World) (S : Nat → Prop) (Q : Int → World → Prop)
    (hb : w.heap[b]? = some (cobj 0 0 q 0 (.func (.func K) #[] cap) 0)) (hK : ∀ W : World, (callFunc K cap).run Try.prog W = .ok (.enter K cap) W)
    (hS : ¬ S b) (hQ : ∀ v w2 w', (∀ k, k < w.heap.size → k ≠ b → w'.heap[k]? = w2.heap[k]?) → Q v w2 → Q v w')
    (hf : ∀ W, Kept (fun k => k = b) w W → W.heap[b]? = some (cobj 0 1 q 0 .nilFunc 0) → Calls Try.prog K cap W fun e w2 => ∃ v, e = .returned (.int .i64 v) ∧ Q v w2 ∧ Kept S W w2) :
    Calls Try.prog 14 #[.pointer (some ⟨b, 0, none⟩)] w fun e w' => ∃ v, e = .returned (.int .i64 v) ∧ Q v w' ∧ w'.heap[b]? = some (cobj 1 0 q 1 .nilFunc v) ∧ Kept (fun k => S k ∨ k = b) w w' := by
  have hbl := blk_lt hb
  have h1 := hf _ (asked_kept (Kept.refl _ w)) (asked_blk hb)
  refine (get_first b q K cap w (fun v w2 => Q v w2 ∧ Kept (fun k => S k ∨ k = b) w w2) hb hK (h1.mono ?_)).mono ?_
  · rintro e w2 ⟨v, rfl, hq, hk⟩
    refine ⟨v, rfl, ⟨hq, ((asked_kept (Kept.refl _ w)).mono fun _ _ h => .inr h).trans (hk.mono fun _ _ h => .inl h)⟩, ?_⟩
    rw [hk.block b (by simpa using hbl) hS]
    exact asked_blk hb
  · rintro e w' ⟨v, rfl, w2, ⟨hq, hk⟩, hb2, hk2⟩
    exact ⟨v, rfl, hQ v w2 w' (fun k hl hne => hk2.block k (Nat.lt_of_lt_of_le hl hk.size) hne) hq, hb2, hk.trans (hk2.mono fun _ _ h => .inr h)⟩

/-- The two blocks of get's own results. -/
theorem own_kept (w : World) (S : Nat → Prop) (x y : Value) {w2 : World} (h : Kept S ((w.alloc (.cells #[.int .i64 0] 3)).alloc (.cells #[.bool false] 4)) w2) :
    Kept S w ((w2.setCell ⟨w.heap.size, 0, none⟩ x).setCell ⟨w.heap.size + 1, 0, none⟩ y) :=
  (((((Kept.refl S w).alloc _).alloc _).trans h).setCell (.inr (Nat.le_refl _)) x).setCell (.inr (by simp)) y
theorem own_same (w w2 : World) (x y : Value) (k : Nat) (h : k < w.heap.size) : ((w2.setCell ⟨w.heap.size, 0, none⟩ x).setCell ⟨w.heap.size + 1, 0, none⟩ y).heap[k]? = w2.heap[k]? := by
  rw [blk_other _ (by simp; omega), blk_other _ (by simp; omega)]

/-- 'get', THE FIRST TIME, the function returns. -/
theorem caught_once (b : Nat) (q : Int) (K : Nat) (cap : Array Value) (w : World) (S : Nat → Prop) (Q : Int → World → Prop)
    (hb : w.heap[b]? = some (cobj 0 0 q 0 (.func (.func K) #[] cap) 0)) (hK : ∀ W : World, (callFunc K cap).run Try.prog W = .ok (.enter K cap) W)
    (hS : ∀ k, S k → k < w.heap.size ∧ k ≠ b) (hQ : ∀ v w2 w', (∀ k, k < w.heap.size → k ≠ b → w'.heap[k]? = w2.heap[k]?) → Q v w2 → Q v w')
    (hf : ∀ W, Kept (fun k => k = b) w W → W.heap[b]? = some (cobj 0 1 q 0 .nilFunc 0) → Calls Try.prog K cap W fun e w2 => ∃ v, e = .returned (.int .i64 v) ∧ Q v w2 ∧ Kept S W w2) :
    Calls Try.prog 10 #[.pointer (some ⟨b, 0, none⟩)] w fun e w' => ∃ v, e = .returned (.tuple #[.int .i64 v, .bool false]) ∧ Q v w' ∧ w'.heap[b]? = some (cobj 1 0 q 1 .nilFunc v) ∧ Kept (fun k => S k ∨ k = b) w w' := by
  have hbl := blk_lt hb
  have kw : Kept (fun k => k = b) w ((w.alloc (.cells #[.int .i64 0] 3)).alloc (.cells #[.bool false] 4)) := ((Kept.refl _ w).alloc _).alloc _
  have hb' := blk_alloc (blk_alloc hb (.cells #[.int .i64 0] 3)) (.cells #[.bool false] 4)
  have n0 : ((w.alloc (.cells #[.int .i64 0] 3)).alloc (.cells #[.bool false] 4)).heap[w.heap.size]? = some (.cells #[.int .i64 0] 3) := blk_alloc (blk_new w _) _
  have n1 : ((w.alloc (.cells #[.int .i64 0] 3)).alloc (.cells #[.bool false] 4)).heap[w.heap.size + 1]? = some (.cells #[.bool false] 4) := by
    have := blk_new (w.alloc (.cells #[.int .i64 0] 3)) (.cells #[.bool false] 4)
    rwa [World.size_alloc] at this
  refine (caught_ret b w (fun v w2 => Q v w2 ∧ w2.heap[b]? = some (cobj 1 0 q 1 .nilFunc v) ∧ Kept (fun k => S k ∨ k = b) ((w.alloc (.cells #[.int .i64 0] 3)).alloc (.cells #[.bool false] 4)) w2)
    ((get_once b q K cap _ S Q hb' hK (fun h => (hS b h).2 rfl) (fun v w2 w' h hq => hQ v w2 w' (fun k hk hne => ?_) hq) (fun W hW hWb => hf W (kw.trans hW) hWb)).mono ?_)).mono ?_
  · exact h k (by simp; omega) hne
  · rintro e w2 ⟨v, rfl, hq, hb2, hk⟩
    refine ⟨v, rfl, ⟨hq, hb2, hk⟩, ?_, ?_⟩
    · rw [hk.block _ (by simp; try omega) (by rintro (h | h); have := (hS _ h).1; omega; omega)]; exact n0
    · rw [hk.block _ (by simp; try omega) (by rintro (h | h); have := (hS _ h).1; omega; omega)]; exact n1
  · rintro e w' ⟨v, w2, rfl, ⟨hq, hb2, hk⟩, rfl⟩
    exact ⟨v, rfl, hQ v w2 _ (fun k hk _ => own_same w w2 _ _ k hk) hq, (own_same w w2 _ _ b hbl).trans hb2, own_kept w _ _ _ hk⟩

theorem own_first (w : World) : ((w.alloc (.cells #[.int .i64 0] 3)).alloc (.cells #[.bool false] 4)).heap[w.heap.size]? = some (.cells #[.int .i64 0] 3) := blk_alloc (blk_new w _) _
theorem own_second (w : World) : ((w.alloc (.cells #[.int .i64 0] 3)).alloc (.cells #[.bool false] 4)).heap[w.heap.size + 1]? = some (.cells #[.bool false] 4) := by
  have := blk_new (w.alloc (.cells #[.int .i64 0] 3)) (.cells #[.bool false] 4)
  rwa [World.size_alloc] at this

/-- 'get', THE FIRST TIME, the function panics: 0, true. -/
theorem caught_falls (b : Nat) (q : Int) (K : Nat) (cap : Array Value) (w : World) (S : Nat → Prop) (Q : World → Prop)
    (hb : w.heap[b]? = some (cobj 0 0 q 0 (.func (.func K) #[] cap) 0)) (hK : ∀ W : World, (callFunc K cap).run Try.prog W = .ok (.enter K cap) W)
    (hS : ∀ k, S k → k < w.heap.size ∧ k ≠ b) (hQ : ∀ w2 w', (∀ k, k < w.heap.size → k ≠ b → w'.heap[k]? = w2.heap[k]?) → Q w2 → Q w')
    (hf : ∀ W, Kept (fun k => k = b) w W → W.heap[b]? = some (cobj 0 1 q 0 .nilFunc 0) → Calls Try.prog K cap W fun e w2 => ∃ t v, e = .panicked [{ v := .iface t v, recovered := false }] ∧ Q w2 ∧ Kept S W w2) :
    Calls Try.prog 10 #[.pointer (some ⟨b, 0, none⟩)] w fun e w' => e = .returned (.tuple #[.int .i64 0, .bool true]) ∧ Q w' ∧ w'.heap[b]? = some (cobj 1 0 q 1 .nilFunc 0) ∧ Kept (fun k => S k ∨ k = b) w w' := by
  have hbl := blk_lt hb
  have kw : Kept (fun k => k = b) w ((w.alloc (.cells #[.int .i64 0] 3)).alloc (.cells #[.bool false] 4)) := ((Kept.refl _ w).alloc _).alloc _
  have hb' := blk_alloc (blk_alloc hb (.cells #[.int .i64 0] 3)) (.cells #[.bool false] 4)
  have h1 := hf _ (asked_kept kw) (asked_blk hb')
  have ka : Kept (fun k => S k ∨ k = b) ((w.alloc (.cells #[.int .i64 0] 3)).alloc (.cells #[.bool false] 4)) ((((w.alloc (.cells #[.int .i64 0] 3)).alloc (.cells #[.bool false] 4)).setCell ⟨b, 1, none⟩ (.int .i32 1)).setCell ⟨b, 4, none⟩ .nilFunc) := (asked_kept (Kept.refl _ _)).mono fun _ _ h => .inr h
  refine (caught_panic b w (fun w2 => Q w2 ∧ w2.heap[b]? = some (cobj 1 0 q 1 .nilFunc 0) ∧ Kept (fun k => S k ∨ k = b) ((w.alloc (.cells #[.int .i64 0] 3)).alloc (.cells #[.bool false] 4)) w2)
    ((get_falls b q K cap _ (fun w2 => Q w2 ∧ Kept (fun k => S k ∨ k = b) ((w.alloc (.cells #[.int .i64 0] 3)).alloc (.cells #[.bool false] 4)) w2) hb' hK (h1.mono ?_)).mono ?_)).mono ?_
  · rintro e w2 ⟨t, v, rfl, hq, hk⟩
    refine ⟨t, v, rfl, ⟨hq, ka.trans (hk.mono fun _ _ h => .inl h)⟩, ?_⟩
    rw [hk.block b (by simp; omega) (fun h => (hS b h).2 rfl)]
    exact asked_blk hb'
  · rintro e w' ⟨t, v, rfl, w2, ⟨hq, hk⟩, hb2, hk2⟩
    have hk3 : Kept (fun k => S k ∨ k = b) ((w.alloc (.cells #[.int .i64 0] 3)).alloc (.cells #[.bool false] 4)) w' := hk.trans (hk2.mono fun _ _ h => .inr h)
    have hsz := hk.size
    simp at hsz
    refine ⟨t, v, rfl, ⟨hQ w2 w' (fun k hl hne => hk2.block k (by omega) hne) hq, hb2, hk3⟩, ?_, ?_⟩
    · rw [hk3.block _ (by simp; try omega) (by rintro (h | h); have := (hS _ h).1; omega; omega)]; exact own_first w
    · rw [hk3.block _ (by simp; try omega) (by rintro (h | h); have := (hS _ h).1; omega; omega)]; exact own_second w
  · rintro e w' ⟨w2, rfl, ⟨hq, hb2, hk⟩, rfl⟩
    exact ⟨rfl, hQ w2 _ (fun k hk _ => own_same w w2 _ _ k hk) hq, (own_same w w2 _ _ b hbl).trans hb2, own_kept w _ _ _ hk⟩

/-- 'get' OF A CELL THAT IS DONE: its answer, false; nothing old turns. -/
theorem caught_again (b : Nat) (s q dn ans : Int) (g : Value) (w : World) (hb : w.heap[b]? = some (cobj 1 s q dn g ans)) :
    Calls Try.prog 10 #[.pointer (some ⟨b, 0, none⟩)] w fun e w' => e = .returned (.tuple #[.int .i64 ans, .bool false]) ∧ Kept (fun _ => False) w w' := by
  have hb' := blk_alloc (blk_alloc hb (.cells #[.int .i64 0] 3)) (.cells #[.bool false] 4)
  refine (caught_ret b w (fun v w2 => v = ans ∧ w2 = ((w.alloc (.cells #[.int .i64 0] 3)).alloc (.cells #[.bool false] 4))) ((get_again b s q dn ans g _ hb').mono ?_)).mono ?_
  · rintro e w2 ⟨v, rfl, rfl, rfl⟩
    exact ⟨v, rfl, ⟨rfl, rfl⟩, own_first w, own_second w⟩
  · rintro e w' ⟨v, w2, rfl, ⟨rfl, rfl⟩, rfl⟩
    exact ⟨rfl, own_kept w _ _ _ (Kept.refl _ _)⟩
end Go.Proofs.Ytbaolijhjijlmaa
