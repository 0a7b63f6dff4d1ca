/-
  Package affine, as contracts: an affine is six numbers, by value.
-/
import Derived.Test.YtkgkoicmpjnjgaaAng
import Derived.Test.YtkgkoicmpjnjgaaTail
import Derived.Laws.Rows
import Derived.BigQuiet
import Derived.Deep.RegionHeld3
namespace Go.Proofs.Ytkgkoicmpjnjgaa
open Go.RowKit

/-- An affine, by value. -/
abbrev aff (a b c d e f : Int) : Value := .agg #[.int .i64 a, .int .i64 b, .int .i64 c, .int .i64 d, .int .i64 e, .int .i64 f]
/-- The block of a variable that holds an affine. -/
abbrev ablk (a b c d e f : Int) : Obj := .cells #[.int .i64 a, .int .i64 b, .int .i64 c, .int .i64 d, .int .i64 e, .int .i64 f] 23

theorem size23 : (Try.prog.info? 23).map (·.size) = some 6 := by kernel_rfl

theorem res_aff {fn : Func} {p : Tmp} (h : fn.results = #[.cell p 23]) (tmps : Array Value) (w : World) (g : Nat) (t : TypeId) (cs : Array Value) (fr : Nat × Nat)
    (hp : tmps.getD p undef = .pointer (some ⟨g, 0, none⟩)) (hg : w.heap[g]? = some (.cells cs t fr)) (hs : cs.size = 6) : (results fn tmps).run Try.prog w = .ok (.agg cs) w :=
  results_cell_row h tmps w g t cs fr _ hp hg Try.underlying23 rfl (by rw [hs]; exact size23)

/-- A whole affine is stored into a variable of the call's own. -/
theorem store_aff {ops : Array Oper} {rest : List Oper} {o : Oper} {A : Act} {w : World} {Q : Exit → Act → World → Prop} {G : Nat} {t : TypeId} {old : Array Value} (hg : w.heap[G]? = some (.cells old t (0, 0))) (hold : old.size = 6)
    (x y : Operand) (a b c d e f : Int) (hgd : o.guard = none) (ho : o.op = .store 23 x y) (hx : A.eval x = .pointer (some ⟨G, 0, none⟩)) (hy : A.eval y = aff a b c d e f)
    (h : wpList Try.prog ops Q rest (A.put o.dst undef) (w.setRow G #[.int .i64 a, .int .i64 b, .int .i64 c, .int .i64 d, .int .i64 e, .int .i64 f])) : wpList Try.prog ops Q (o :: rest) A w :=
  wpList_store_row hgd 23 x y ho G _ hx hy t old hg size23 hold (by simp [Value.oneCell']) h

theorem blk_lt {w : World} {b : Nat} {o : Obj} (h : w.heap[b]? = some o) : b < w.heap.size := by
  rcases Nat.lt_or_ge b w.heap.size with h' | h'
  · exact h'
  · rw [Array.getElem?_eq_none h'] at h; cases h
theorem blk_alloc {w : World} {b : Nat} {o : Obj} (h : w.heap[b]? = some o) (o' : Obj) : (w.alloc o').heap[b]? = some o := (Below.heap_alloc w o' b (blk_lt h)).trans h

/-- The six cells of a variable that holds an affine. -/
theorem aff_cells {w : World} {g : Nat} {a b c d e f : Int} {t : TypeId} {fr : Nat × Nat} (h : w.heap[g]? = some (.cells #[.int .i64 a, .int .i64 b, .int .i64 c, .int .i64 d, .int .i64 e, .int .i64 f] t fr)) :
    w.cell? ⟨g, 0, none⟩ = some (.int .i64 a) ∧ w.cell? ⟨g, 1, none⟩ = some (.int .i64 b) ∧ w.cell? ⟨g, 2, none⟩ = some (.int .i64 c) ∧ w.cell? ⟨g, 3, none⟩ = some (.int .i64 d) ∧ w.cell? ⟨g, 4, none⟩ = some (.int .i64 e) ∧ w.cell? ⟨g, 5, none⟩ = some (.int .i64 f) := by
  simp [World.cell?, h]
theorem aff_ext {w : World} {g : Nat} {a b c d e f : Int} {t : TypeId} {fr : Nat × Nat} (h : w.heap[g]? = some (.cells #[.int .i64 a, .int .i64 b, .int .i64 c, .int .i64 d, .int .i64 e, .int .i64 f] t fr)) :
    (∀ k : Ext w, k.w.cell? ⟨g, 0, none⟩ = some (.int .i64 a)) ∧ (∀ k : Ext w, k.w.cell? ⟨g, 1, none⟩ = some (.int .i64 b)) ∧ (∀ k : Ext w, k.w.cell? ⟨g, 2, none⟩ = some (.int .i64 c)) ∧ (∀ k : Ext w, k.w.cell? ⟨g, 3, none⟩ = some (.int .i64 d)) ∧ (∀ k : Ext w, k.w.cell? ⟨g, 4, none⟩ = some (.int .i64 e)) ∧ (∀ k : Ext w, k.w.cell? ⟨g, 5, none⟩ = some (.int .i64 f)) := by
  obtain ⟨c0, c1, c2, c3, c4, c5⟩ := aff_cells h
  exact ⟨Ext.cell c0, Ext.cell c1, Ext.cell c2, Ext.cell c3, Ext.cell c4, Ext.cell c5⟩
theorem below_drewN {B : Nat} {a w : World} (h : Below B a w) (n : Nat) : Below B a (w.drewN n) := ⟨h.os, h.tape, h.output, h.size, h.block⟩

theorem below_new {w w' : World} {o : Obj} (h : Below (w.heap.size + 1) (w.alloc o) w') : Below w.heap.size w w' :=
  ((Below.refl _ w).alloc (Nat.le_refl _) o).trans (h.mono (Nat.le_succ _))
theorem below_row {B : Nat} {a w : World} {g : Nat} (h : Below B a w) (hg : B ≤ g) (c : Array Value) : Below B a (w.setRow g c) :=
  h.trans ⟨rfl, rfl, rfl, by simp, fun k hk => setRow_other _ _ _ _ (by omega)⟩
/-- Behind a call a block of the caller's is as it was. -/
theorem Below.blk {B : Nat} {w w' : World} (h : Below B w w') {g : Nat} {o : Obj} (hg : w.heap[g]? = some o) (hB : g < B) : w'.heap[g]? = some o := (h.block g hB).trans hg

theorem scale_any (x y : Int) (w : World) :
    Calls Try.prog 8 #[.int .i64 x, .int .i64 y] w fun e w' => e = .returned (aff (clip x) 0 0 (clip y) 0 0) ∧ Below w.heap.size w w' := by
  go_enter Try.func8, Try.ntmps8
  go_wp2_with fail
  refine (clip_any x _).mono ?_
  rintro e w' ⟨rfl, rfl⟩
  go_wp2_with fail
  refine (clip_any y _).mono ?_
  rintro e w' ⟨rfl, rfl⟩
  go_wp2
  refine bodyPost_ret (res_aff rfl _ _ _ _ _ _ rfl (heap_alloc_new _ _) rfl) rfl ?_
  exact ⟨rfl, (Below.refl _ _).alloc (Nat.le_refl _) _⟩

theorem one_any (w : World) :
    Calls Try.prog 26 #[] w fun e w' => e = .returned (aff 65536 0 0 65536 0 0) ∧ Below w.heap.size w w' := by
  go_enter Try.func26, Try.ntmps26
  go_wp2_with fail
  refine (scale_any 65536 65536 _).mono ?_
  rintro e w1 ⟨rfl, hb⟩
  rw [show clip 65536 = 65536 by decide]
  have g1 := Below.blk hb (heap_alloc_new w _) (by simp)
  have b1 : Below w.heap.size w w1 := below_new (by simpa using hb)
  clear hb
  go_wp2_with (refine store_aff g1 rfl _ _ _ _ _ _ _ _ (by rfl) (by rfl) (by rfl) (by rfl) ?_)
  refine bodyPost_ret (res_aff rfl _ _ _ _ _ _ rfl (setRow_heap _ _ _ _ _ _ g1) rfl) rfl ?_
  exact ⟨rfl, below_row b1 (Nat.le_refl _) _⟩

theorem shift_any (x y : Int) (w : World) :
    Calls Try.prog 7 #[.int .i64 x, .int .i64 y] w fun e w' => e = .returned (aff 65536 0 0 65536 (clip x) (clip y)) ∧ Below w.heap.size w w' := by
  go_enter Try.func7, Try.ntmps7
  go_wp2_with fail
  refine (one_any _).mono ?_
  rintro e w1 ⟨rfl, hb⟩
  have g1 := Below.blk hb (heap_alloc_new w _) (by simp)
  have b1 : Below w.heap.size w w1 := below_new (by simpa using hb)
  clear hb
  go_wp2_with fail
  refine (clip_any x _).mono ?_
  rintro e w' ⟨rfl, rfl⟩
  go_wp2_with fail
  refine (clip_any y _).mono ?_
  rintro e w' ⟨rfl, rfl⟩
  go_wp2_with (refine store_aff (blk_alloc g1 _) rfl _ _ _ _ _ _ _ _ (by rfl) (by rfl) (by rfl) (by rfl) ?_)
  refine bodyPost_ret (res_aff rfl _ _ _ _ _ _ rfl (setRow_heap _ _ _ _ _ _ (blk_alloc g1 _)) rfl) rfl ?_
  exact ⟨rfl, below_row (b1.alloc b1.size _) (Nat.le_refl _) _⟩

theorem both_any (a x b y : Int) (w : World) :
    Calls Try.prog 28 #[.int .i64 a, .int .i64 x, .int .i64 b, .int .i64 y] w fun e w' => e = .returned (.int .i64 (mulv a x + mulv b y)) ∧ w' = w := by
  have h1 := mulv_bd a x
  have h2 := mulv_bd b y
  obtain ⟨h11, h12⟩ := h1
  obtain ⟨h21, h22⟩ := h2
  go_enter Try.func28, Try.ntmps28
  go_wp2_with fail
  refine (mul_any a x _).mono ?_
  rintro e w' ⟨rfl, rfl⟩
  go_wp2_with fail
  refine (mul_any b y _).mono ?_
  rintro e w' ⟨rfl, rfl⟩
  go_wp2
  go_ret
  exact ⟨rfl, rfl⟩

set_option maxHeartbeats 800000 in
theorem apply_any (a b c d e f x y : Int) (w : World) :
    Calls Try.prog 9 #[aff a b c d e f, .int .i64 x, .int .i64 y] w fun e' w' => e' = .returned (.tuple #[.int .i64 (clip (mulv a x + mulv c y + clip e)), .int .i64 (clip (mulv b x + mulv d y + clip f))]) ∧ Below w.heap.size w w' := by
  obtain ⟨h11, h12⟩ := mulv_bd a x
  obtain ⟨h21, h22⟩ := mulv_bd c y
  obtain ⟨h31, h32⟩ := mulv_bd b x
  obtain ⟨h41, h42⟩ := mulv_bd d y
  obtain ⟨h51, h52⟩ := clip_bd e
  obtain ⟨h61, h62⟩ := clip_bd f
  go_enter Try.func9, Try.ntmps9
  go_wp2_with fail
  go_quiet (first | (go_at_call 28; exact Calls.quiet_of_same (both_any _ _ _ _ _)) | (go_at_call 27; exact Calls.quiet_of_same (clip_any _ _)))
  have g1 : ((w.alloc (ablk a b c d e f)).drewN nq).heap[w.heap.size]? = some (ablk a b c d e f) := heap_alloc_new w _
  have b1 : Below w.heap.size w ((w.alloc (ablk a b c d e f)).drewN nq) := below_drewN ((Below.refl _ w).alloc (Nat.le_refl _) _) nq
  obtain ⟨W, hW⟩ : ∃ W, W = (w.alloc (ablk a b c d e f)).drewN nq := ⟨_, rfl⟩
  rw [← hW] at g1 b1 ⊢
  clear hW nq
  obtain ⟨c0, c1, c2, c3, c4, c5⟩ := aff_cells g1
  go_wp2_with fail
  go_quiet (first | (go_at_call 28; exact Calls.quiet_of_same (both_any _ _ _ _ _)) | (go_at_call 27; exact Calls.quiet_of_same (clip_any _ _)))
  go_wp2_with fail
  refine (clip_any _ _).mono ?_
  rintro e w' ⟨rfl, rfl⟩
  go_wp2_with fail
  refine (clip_any _ _).mono ?_
  rintro e w' ⟨rfl, rfl⟩
  go_wp2
  go_ret2
  exact ⟨rfl, below_drewN b1 _⟩

set_option maxHeartbeats 1600000 in
theorem mul6_any (a b c d e f a' b' c' d' e' f' : Int) (w : World) :
    Calls Try.prog 6 #[aff a b c d e f, aff a' b' c' d' e' f'] w fun r w' => r = .returned (aff (clip (mulv a a' + mulv c b')) (clip (mulv b a' + mulv d b')) (clip (mulv a c' + mulv c d')) (clip (mulv b c' + mulv d d')) (clip (mulv a e' + mulv c f' + clip e)) (clip (mulv b e' + mulv d f' + clip f))) ∧ Below w.heap.size w w' := by
  go_enter Try.func6, Try.ntmps6
  go_wp2_with fail
  refine (apply_any _ _ _ _ _ _ _ _ _).mono ?_
  rintro r w1 ⟨rfl, hb⟩
  have g1 := Below.blk hb (blk_alloc (blk_alloc (heap_alloc_new w _) _) _) (by simp; omega)
  have g2 := Below.blk hb (blk_alloc (heap_alloc_new (w.alloc _) _) _) (by simp)
  have g3 := Below.blk hb (heap_alloc_new ((w.alloc _).alloc _) _) (by simp)
  have b1 : Below w.heap.size w w1 := ((((Below.refl _ w).alloc (Nat.le_refl _) _).alloc (by simp) _).alloc (by simp; omega) _).trans (hb.mono (by simp; omega))
  simp only [World.size_alloc] at g1 g2 g3
  clear hb
  obtain ⟨c0, c1, c2, c3, c4, c5⟩ := aff_ext g1
  obtain ⟨d0, d1, d2, d3, d4, d5⟩ := aff_ext g2
  go_wp2_with fail
  have hin := Ext.inh w1
  refine region_ext_tail 43 (by kernel_rfl) (by kernel_rfl) ?_
  simp only [List.take_succ_cons, List.take_zero, List.drop_succ_cons, List.drop_zero]
  repeat (go_big_quiet_step (first | (go_at_call 28; exact Ext.same (both_any _ _ _ _ _)) | (go_at_call 27; exact Ext.same (clip_any _ _))))
  refine wpQuiet_nil ?_
  rintro _ ⟨k, rfl⟩
  have b2 := b1.trans (k.h.mono b1.size)
  have g4 := Ext.blk g3 k
  go_wp2_with (refine store_aff g4 rfl _ _ _ _ _ _ _ _ (by rfl) (by rfl) (by rfl) (by rfl) ?_)
  refine bodyPost_ret (res_aff rfl _ _ _ _ _ _ rfl (setRow_heap _ _ _ _ _ _ g4) rfl) rfl ?_
  exact ⟨rfl, below_row b2 (by omega) _⟩

end Go.Proofs.Ytkgkoicmpjnjgaa
