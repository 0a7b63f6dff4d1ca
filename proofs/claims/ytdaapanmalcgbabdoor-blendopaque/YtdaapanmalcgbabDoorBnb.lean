/-
  Package blend's numbers three at once, as contracts.
-/
import Derived.Test.YtdaapanmalcgbabDoorBna
import Derived.LoopN
namespace Go.Proofs.YtdaapanmalcgbabDoor
open Go.RowKit

/-- Each from -B to B. -/
structure Bd (B : Int) (t : T3) : Prop where
  x0 : -B ≤ t.x
  x1 : t.x ≤ B
  y0 : -B ≤ t.y
  y1 : t.y ≤ B
  z0 : -B ≤ t.z
  z1 : t.z ≤ B
theorem In3.bd {t : T3} (h : In3 t) : Bd 255 t := by
  obtain ⟨_, _, _, _, _, _⟩ := h
  exact ⟨by omega, by omega, by omega, by omega, by omega, by omega⟩
theorem Bd.mono {B C : Int} {t : T3} (h : Bd B t) (hc : B ≤ C) : Bd C t := by
  obtain ⟨_, _, _, _, _, _⟩ := h
  exact ⟨by omega, by omega, by omega, by omega, by omega, by omega⟩
theorem mul_abs {x y M N : Int} (hx : -M ≤ x) (hx2 : x ≤ M) (hy : -N ≤ y) (hy2 : y ≤ N) : -(M * N) ≤ x * y ∧ x * y ≤ M * N := by
  have hM : 0 ≤ M := by omega
  have up : ∀ x y : Int, x ≤ M → -x ≤ M → y ≤ N → -y ≤ N → x * y ≤ M * N := by
    intro x y h1 h2 h3 h4
    rcases Int.le_total 0 y with h | h
    · exact Int.le_trans (Int.mul_le_mul_of_nonneg_right h1 h) (Int.mul_le_mul_of_nonneg_left h3 hM)
    · rw [← Int.neg_mul_neg]
      exact Int.le_trans (Int.mul_le_mul_of_nonneg_right h2 (by omega)) (Int.mul_le_mul_of_nonneg_left h4 hM)
  refine ⟨?_, up x y hx2 (by omega) hy2 (by omega)⟩
  have := up (-x) y (by omega) (by omega) hy2 (by omega)
  rw [Int.neg_mul] at this
  omega

abbrev tblk (T : TypeId) (t : T3) : Obj := .cells #[.int .i64 t.x, .int .i64 t.y, .int .i64 t.z] T
theorem size41 : (Tryd.prog.info? 41).map (·.size) = some 3 := by kernel_rfl
theorem res_b {fn : Func} {p : Tmp} (h : fn.results = #[.cell p 41]) (tmps : Array Value) (w : World) (g : Nat) (t : TypeId) (cs : Array Value) (fr : Nat × Nat)
    (hp : tmps.getD p undef = .pointer (some ⟨g, 0, none⟩)) (hg : w.heap[g]? = some (.cells cs t fr)) (hs : cs.size = 3) : (results fn tmps).run Tryd.prog w = .ok (.agg cs) w :=
  results_cell_row h tmps w g t cs fr _ hp hg Tryd.underlying41 rfl (by rw [hs]; exact size41)
/-- Three whole numbers are stored into a variable of the call's own. -/
theorem store_t {ops : Array Oper} {rest : List Oper} {o : Oper} {A : Act} {w : World} {Q : Exit → Act → World → Prop} {G : Nat} {t T : TypeId} {old : Array Value} (hT : (Tryd.prog.info? T).map (·.size) = some 3) (hg : w.heap[G]? = some (.cells old t (0, 0))) (hold : old.size = 3)
    (x y : Operand) (p : T3) (hgd : o.guard = none) (ho : o.op = .store T x y) (hx : A.eval x = .pointer (some ⟨G, 0, none⟩)) (hy : A.eval y = tv p)
    (h : wpList Tryd.prog ops Q rest (A.put o.dst undef) (w.setRow G (tcs p))) : wpList Tryd.prog ops Q (o :: rest) A w :=
  wpList_store_row hgd T x y ho G _ hx hy t old hg hT hold (by simp [Value.oneCell']) h
/-- The same, where the world behind has a name. -/
theorem store_t' {ops : Array Oper} {rest : List Oper} {o : Oper} {A : Act} {w W : World} {Q : Exit → Act → World → Prop} {G : Nat} {t T : TypeId} {old : Array Value} (p : T3) (hW : Hid (W = w.setRow G (tcs p))) (hT : (Tryd.prog.info? T).map (·.size) = some 3) (hg : w.heap[G]? = some (.cells old t (0, 0))) (hold : old.size = 3)
    (x y : Operand) (hgd : o.guard = none) (ho : o.op = .store T x y) (hx : A.eval x = .pointer (some ⟨G, 0, none⟩)) (hy : A.eval y = tv p)
    (h : wpList Tryd.prog ops Q rest (A.put o.dst undef) W) : wpList Tryd.prog ops Q (o :: rest) A w :=
  store_t hT hg hold x y p hgd ho hx hy (hW.out ▸ h)
theorem t3_cells {w : World} {g : Nat} {p : T3} {t : TypeId} {fr : Nat × Nat} (h : w.heap[g]? = some (.cells (tcs p) t fr)) :
    w.cell? ⟨g, 0, none⟩ = some (.int .i64 p.x) ∧ w.cell? ⟨g, 1, none⟩ = some (.int .i64 p.y) ∧ w.cell? ⟨g, 2, none⟩ = some (.int .i64 p.z) := by
  simp [World.cell?, h]
theorem t3_ext {w : World} {g : Nat} {p : T3} {t : TypeId} {fr : Nat × Nat} (h : w.heap[g]? = some (.cells (tcs p) t fr)) :
    (∀ k : Ext w, k.w.cell? ⟨g, 0, none⟩ = some (.int .i64 p.x)) ∧ (∀ k : Ext w, k.w.cell? ⟨g, 1, none⟩ = some (.int .i64 p.y)) ∧ (∀ k : Ext w, k.w.cell? ⟨g, 2, none⟩ = some (.int .i64 p.z)) := by
  obtain ⟨c0, c1, c2⟩ := t3_cells h
  exact ⟨Ext.cell c0, Ext.cell c1, Ext.cell c2⟩

theorem blk_new2 (w : World) (o o' : Obj) : ((w.alloc o).alloc o').heap[w.heap.size + 1]? = some o' := by
  have := blk_new (w.alloc o) o'
  simpa only [World.size_alloc] using this

/-- Three cells of one variable are written one behind the other. -/
abbrev set3 (Y : World) (g : Nat) (a b c : Int) : World := ((Y.setCell ⟨g, 0, none⟩ (.int .i64 a)).setCell ⟨g, 1, none⟩ (.int .i64 b)).setCell ⟨g, 2, none⟩ (.int .i64 c)
theorem set3_other {Y : World} {g h : Nat} {o : Obj} (hY : Y.heap[h]? = some o) (hne : h ≠ g) (a b c : Int) : (set3 Y g a b c).heap[h]? = some o := by
  rw [blk_other _ hne, blk_other _ hne, blk_other _ hne]; exact hY
theorem set3_is {Y : World} {g : Nat} {T : TypeId} {t : T3} (hY : Y.heap[g]? = some (tblk T t)) (a b c : Int) : (set3 Y g a b c).heap[g]? = some (tblk T ⟨a, b, c⟩) :=
  blk_set (blk_set (blk_set hY 0 (.int .i64 a)) 1 (.int .i64 b)) 2 (.int .i64 c)
theorem set3_below {B g : Nat} {w Y : World} (h : Below B w Y) (hg : B ≤ g) (a b c : Int) : Below B w (set3 Y g a b c) :=
  ((h.setCell hg _).setCell hg _).setCell hg _
theorem least_any (t : T3) (w : World) : Calls Tryd.prog 28 #[tv t] w fun e w' => e = .returned (.int .i64 (least t)) ∧ Below w.heap.size w w' := by
  obtain ⟨m, hm⟩ : ∃ m, (if t.y < t.x then t.y else t.x) = m := ⟨_, rfl⟩
  obtain ⟨M, hM⟩ : ∃ M, (if t.z < m then t.z else m) = M := ⟨_, rfl⟩
  have HM : Hid (least t = M) := by show _ = _; rw [← hM, ← hm]; rfl
  have hB : Below w.heap.size w (w.alloc (tblk 41 t)) := (Below.refl _ w).alloc (Nat.le_refl _) _
  go_enter Tryd.func28, Tryd.ntmps28
  go_wp2
  go_ret
  exact ⟨by rw [HM.out]; rfl, hB⟩
theorem great_any (t : T3) (w : World) : Calls Tryd.prog 29 #[tv t] w fun e w' => e = .returned (.int .i64 (great t)) ∧ Below w.heap.size w w' := by
  obtain ⟨m, hm⟩ : ∃ m, (if t.x < t.y then t.y else t.x) = m := ⟨_, rfl⟩
  obtain ⟨M, hM⟩ : ∃ M, (if m < t.z then t.z else m) = M := ⟨_, rfl⟩
  have HM : Hid (great t = M) := by show _ = _; rw [← hM, ← hm]; rfl
  have hB : Below w.heap.size w (w.alloc (tblk 41 t)) := (Below.refl _ w).alloc (Nat.le_refl _) _
  go_enter Tryd.func29, Tryd.ntmps29
  go_wp2
  go_ret
  exact ⟨by rw [HM.out]; rfl, hB⟩
theorem lum_any (t : T3) (ht : Bd 1000000 t) (w : World) : Calls Tryd.prog 24 #[tv t] w fun e w' => e = .returned (.int .i64 (lumv t)) ∧ Below w.heap.size w w' := by
  have hB : Below w.heap.size w (w.alloc (tblk 41 t)) := (Below.refl _ w).alloc (Nat.le_refl _) _
  obtain ⟨x0, x1, y0, y1, z0, z1⟩ := ht
  unfold lumv
  go_enter Tryd.func24, Tryd.ntmps24
  go_wp2_with fail
  refine (floored_any _ 100 (by omega) (by omega) (by omega) (by omega) _).mono ?_
  rintro e w' ⟨rfl, rfl⟩
  go_wp2
  go_ret
  exact ⟨rfl, hB⟩
theorem sat_any (t : T3) (ht : In3 t) (w : World) : Calls Tryd.prog 23 #[tv t] w fun e w' => e = .returned (.int .i64 (satv t)) ∧ Below w.heap.size w w' := by
  have h1 := least_is t
  have h2 := great_is t
  obtain ⟨x0, x1, y0, y1, z0, z1⟩ := ht
  obtain ⟨M, hM⟩ : ∃ M, least t = M := ⟨_, rfl⟩
  obtain ⟨G, hG⟩ : ∃ G, great t = G := ⟨_, rfl⟩
  have hM0 : 0 ≤ M := by omega
  have hM1 : M ≤ 255 := by omega
  have hG0 : 0 ≤ G := by omega
  have hG1 : G ≤ 255 := by omega
  have A1 : ∀ W : World, Calls Tryd.prog 28 #[tv t] W fun e w' => e = .returned (.int .i64 M) ∧ Below W.heap.size W w' := fun W => by rw [← hM]; exact least_any t W
  have A2 : ∀ W : World, Calls Tryd.prog 29 #[tv t] W fun e w' => e = .returned (.int .i64 G) ∧ Below W.heap.size W w' := fun W => by rw [← hG]; exact great_any t W
  have HS : Hid (satv t = G - M) := by show _ = _; rw [← hG, ← hM]; rfl
  clear hM hG h1 h2
  go_enter Tryd.func23, Tryd.ntmps23
  go_wp2_with fail
  obtain ⟨W, hW⟩ : ∃ W, W = w.alloc (tblk 41 t) := ⟨_, rfl⟩
  rw [← hW]
  have g1 : W.heap[w.heap.size]? = some (tblk 41 t) := by rw [hW]; exact blk_new w _
  have b1 : Below w.heap.size w W := by rw [hW]; exact (Below.refl _ w).alloc (Nat.le_refl _) _
  clear hW
  obtain ⟨c0, c1, c2⟩ := t3_ext g1
  have hin := Ext.inh W
  refine region_ext (by kernel_rfl) (by kernel_rfl) ?_
  repeat (go_big_quiet_step (first | (go_at_call 29; exact Ext.call (A2 _)) | (go_at_call 28; exact Ext.call (A1 _))))
  refine wpQuiet_nil ?_
  rintro _ ⟨k, rfl⟩
  have b2 := b1.trans (k.h.mono b1.size)
  go_wp2
  go_ret
  exact ⟨by rw [HS.out]; rfl, b2⟩

theorem idx41 (a b c : Int) : (∀ W, (Instr.index 41 (.agg #[.int .i64 a, .int .i64 b, .int .i64 c]) (.int .i64 0)).run Tryd.prog W = .ok (.int .i64 a) W) ∧ (∀ W, (Instr.index 41 (.agg #[.int .i64 a, .int .i64 b, .int .i64 c]) (.int .i64 1)).run Tryd.prog W = .ok (.int .i64 b) W) ∧ (∀ W, (Instr.index 41 (.agg #[.int .i64 a, .int .i64 b, .int .i64 c]) (.int .i64 2)).run Tryd.prog W = .ok (.int .i64 c) W) :=
  ⟨fun _ => by kernel_rfl, fun _ => by kernel_rfl, fun _ => by kernel_rfl⟩
set_option maxRecDepth 100000 in
set_option maxHeartbeats 1600000 in
theorem drawn_any (t : T3) (l n d : Int) (ht : Bd 300000 t) (hl : -1000 ≤ l) (hl2 : l ≤ 1000) (hn : -1000 ≤ n) (hn2 : n ≤ 1000) (hd : 0 < d) (hd2 : d ≤ 1000000) (w : World) :
    Calls Tryd.prog 30 #[tv t, .int .i64 l, .int .i64 n, .int .i64 d] w fun e w' => e = .returned (tv (drawv t l n d)) ∧ Below w.heap.size w w' := by
  obtain ⟨x, y, z⟩ := t
  obtain ⟨x0, x1, y0, y1, z0, z1⟩ := ht
  dsimp only at x0 x1 y0 y1 z0 z1
  obtain ⟨px0, px1⟩ := mul_abs (x := x - l) (y := n) (M := 301000) (N := 1000) (by omega) (by omega) hn hn2
  obtain ⟨py0, py1⟩ := mul_abs (x := y - l) (y := n) (M := 301000) (N := 1000) (by omega) (by omega) hn hn2
  obtain ⟨pz0, pz1⟩ := mul_abs (x := z - l) (y := n) (M := 301000) (N := 1000) (by omega) (by omega) hn hn2
  obtain ⟨qx0, qx1⟩ := ediv_bd (B := 301000 * 1000) hd (by omega) px0 px1
  obtain ⟨qy0, qy1⟩ := ediv_bd (B := 301000 * 1000) hd (by omega) py0 py1
  obtain ⟨qz0, qz1⟩ := ediv_bd (B := 301000 * 1000) hd (by omega) pz0 pz1
  obtain ⟨i0, i1, i2⟩ := idx41 x y z
  go_enter Tryd.func30, Tryd.ntmps30
  go_wp2_with fail
  refine wp_loop_rounds 4 ?_
  rw [rounds_succ]
  go_wp2_with fail
  refine (floored_any ((x - l) * n) d hd (by omega) (by omega) (by omega) _).mono ?_
  rintro e w' ⟨rfl, rfl⟩
  go_wp2_with fail
  rw [rounds_succ]
  go_wp2_with fail
  refine (floored_any ((y - l) * n) d hd (by omega) (by omega) (by omega) _).mono ?_
  rintro e w' ⟨rfl, rfl⟩
  go_wp2_with fail
  rw [rounds_succ]
  go_wp2_with fail
  refine (floored_any ((z - l) * n) d hd (by omega) (by omega) (by omega) _).mono ?_
  rintro e w' ⟨rfl, rfl⟩
  go_wp2_with fail
  rw [rounds_succ]
  go_wp2_with fail
  refine bodyPost_ret (res_b rfl _ _ (w.heap.size + 1) 41 _ (0, 0) rfl (blk_new2 w _ _) rfl) rfl ?_
  exact ⟨rfl, ((Below.refl _ _).alloc (Nat.le_refl _) _).alloc (by simp) _⟩

theorem quo_bd3 {t : T3} {n : Int} (h : In3 t) (hn : 0 ≤ n) (hn2 : n ≤ 255) :
    (0 ≤ (t.x - least t) * n ∧ (t.x - least t) * n ≤ 255 * 255) ∧ (0 ≤ (t.y - least t) * n ∧ (t.y - least t) * n ≤ 255 * 255) ∧ (0 ≤ (t.z - least t) * n ∧ (t.z - least t) * n ≤ 255 * 255) := by
  have h1 := least_is t
  have h3 := least_le t
  obtain ⟨_, _, _, _, _, _⟩ := h
  have key : ∀ a : Int, 0 ≤ a → a ≤ 255 → 0 ≤ a * n ∧ a * n ≤ 255 * 255 := fun a h0 h1 => ⟨Int.mul_nonneg h0 hn, Int.le_trans (Int.mul_le_mul_of_nonneg_right h1 hn) (by omega)⟩
  exact ⟨key _ (by omega) (by omega), key _ (by omega) (by omega), key _ (by omega) (by omega)⟩
set_option maxRecDepth 100000 in
set_option maxHeartbeats 1600000 in
theorem sated_any (t : T3) (n : Int) (ht : In3 t) (hn : 0 ≤ n) (hn2 : n ≤ 255) (w : World) : Calls Tryd.prog 22 #[tv t, .int .i64 n] w fun e w' => e = .returned (tv (satedv t n)) ∧ Below w.heap.size w w' := by
  obtain ⟨s0, s1⟩ := satv_bd ht
  obtain ⟨M, hM⟩ : ∃ M, least t = M := ⟨_, rfl⟩
  obtain ⟨S, hS⟩ : ∃ S, satv t = S := ⟨_, rfl⟩
  have A1 : ∀ W : World, Calls Tryd.prog 28 #[tv t] W fun e w' => e = .returned (.int .i64 M) ∧ Below W.heap.size W w' := fun W => by rw [← hM]; exact least_any t W
  have A2 : ∀ W : World, Calls Tryd.prog 23 #[tv t] W fun e w' => e = .returned (.int .i64 S) ∧ Below W.heap.size W w' := fun W => by rw [← hS]; exact sat_any t ht W
  have HP : Hid (satedv t n = if S = 0 then ⟨0, 0, 0⟩ else ⟨(t.x - M) * n / S, (t.y - M) * n / S, (t.z - M) * n / S⟩) := by show _ = _; rw [← hS, ← hM]; rfl
  have hq : 0 < S → (0 ≤ (t.x - M) * n ∧ (t.x - M) * n ≤ 255 * 255) ∧ (0 ≤ (t.y - M) * n ∧ (t.y - M) * n ≤ 255 * 255) ∧ (0 ≤ (t.z - M) * n ∧ (t.z - M) * n ≤ 255 * 255) := fun _ => by
    rw [← hM]; exact quo_bd3 ht hn hn2
  have hm0 : 0 ≤ M ∧ M ≤ 255 := by
    have h1 := least_is t
    obtain ⟨_, _, _, _, _, _⟩ := ht
    omega
  rw [hS] at s0 s1
  clear hM hS
  obtain ⟨x, y, z⟩ := t
  obtain ⟨x0, x1, y0, y1, z0, z1⟩ := ht
  dsimp only at x0 x1 y0 y1 z0 z1 HP hq
  obtain ⟨i0, i1, i2⟩ := idx41 x y z
  go_enter Tryd.func22, Tryd.ntmps22
  go_wp2_with fail
  obtain ⟨W, hW⟩ : ∃ W, W = (w.alloc (tblk 41 ⟨x, y, z⟩)).alloc (tblk 41 ⟨0, 0, 0⟩) := ⟨_, rfl⟩
  rw [← hW]
  have g1 : W.heap[w.heap.size]? = some (tblk 41 ⟨x, y, z⟩) := by rw [hW]; exact blk_alloc (blk_new w _) _
  have g2 : W.heap[w.heap.size + 1]? = some (tblk 41 ⟨0, 0, 0⟩) := by rw [hW]; have := blk_new (w.alloc (tblk 41 ⟨x, y, z⟩)) (tblk 41 ⟨0, 0, 0⟩); simp only [World.size_alloc] at this; exact this
  have b1 : Below w.heap.size w W := by rw [hW]; exact ((Below.refl _ w).alloc (Nat.le_refl _) _).alloc (by simp) _
  clear hW
  obtain ⟨c0, c1, c2⟩ := t3_ext g1
  have hin := Ext.inh W
  refine region_ext (by kernel_rfl) (by kernel_rfl) ?_
  repeat (go_big_quiet_step (first | (go_at_call 28; exact Ext.call (A1 _)) | (go_at_call 23; exact Ext.call (A2 _))))
  refine wpQuiet_nil ?_
  rintro _ ⟨k, rfl⟩
  have b2 := b1.trans (k.h.mono b1.size)
  replace g1 := Ext.blk g1 k
  replace g2 := Ext.blk g2 k
  clear A1 A2 c0 c1 c2 hin b1
  obtain ⟨Y, hY⟩ : ∃ Y, Y = k.w := ⟨_, rfl⟩
  rw [← hY] at g1 g2 b2 ⊢
  clear hY k
  obtain ⟨c0, c1, c2⟩ := t3_cells g1
  by_cases h0 : S = 0
  · have HQ : Hid (satedv ⟨x, y, z⟩ n = ⟨0, 0, 0⟩) := by show _ = _; rw [HP.out, if_pos h0]
    subst h0
    clear hq HP s0 s1
    go_wp2_with (refine store_t size41 g2 rfl _ _ ⟨0, 0, 0⟩ (by rfl) (by rfl) (by rfl) (by rfl) ?_)
    refine bodyPost_ret (res_b rfl _ _ _ _ _ _ rfl (setRow_heap _ _ _ _ _ _ g2) rfl) rfl ?_
    exact ⟨by rw [HQ.out], below_row b2 (by omega) _⟩
  have HQ : Hid (satedv ⟨x, y, z⟩ n = ⟨(x - M) * n / S, (y - M) * n / S, (z - M) * n / S⟩) := by show _ = _; rw [HP.out, if_neg h0]
  have hS : 0 < S := by omega
  obtain ⟨⟨px0, px1⟩, ⟨py0, py1⟩, ⟨pz0, pz1⟩⟩ := hq hS
  clear hq HP s0
  obtain ⟨m0, m1⟩ := hm0
  have f0 := blk_free g1 0
  have f1 := blk_free g1 1
  have f2 := blk_free g1 2
  go_wp2_with fail
  refine wp_loop_rounds 4 ?_
  rw [rounds_succ]
  go_wp2_with fail
  refine (floored_any ((x - M) * n) S hS (by omega) (by omega) (by omega) _).mono ?_
  rintro e w' ⟨rfl, rfl⟩
  go_wp2_with fail
  rw [rounds_succ]
  go_wp2_with fail
  refine (floored_any ((y - M) * n) S hS (by omega) (by omega) (by omega) _).mono ?_
  rintro e w' ⟨rfl, rfl⟩
  go_wp2_with fail
  rw [rounds_succ]
  go_wp2_with fail
  refine (floored_any ((z - M) * n) S hS (by omega) (by omega) (by omega) _).mono ?_
  rintro e w' ⟨rfl, rfl⟩
  go_wp2_with fail
  rw [rounds_succ]
  go_wp2_with (refine store_t size41 (set3_other g2 (by omega) ((x - M) * n / S) ((y - M) * n / S) ((z - M) * n / S)) rfl _ _ ⟨(x - M) * n / S, (y - M) * n / S, (z - M) * n / S⟩ (by rfl) (by rfl) (by rfl) (by rfl) ?_)
  refine bodyPost_ret (res_b rfl _ _ _ _ _ _ rfl (setRow_heap _ _ _ _ _ _ (set3_other g2 (by omega) _ _ _)) rfl) rfl ?_
  exact ⟨by rw [HQ.out], below_row (set3_below b2 (Nat.le_refl _) _ _ _) (by omega) _⟩
end Go.Proofs.YtdaapanmalcgbabDoor
