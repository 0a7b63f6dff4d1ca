/-
  Package pixel and the reference's chapter 12, pixel by pixel, as contracts.
-/
import Derived.Test.YtdaapanmalcgbabDoorPix
namespace Go.Proofs.YtdaapanmalcgbabDoor
open Go.RowKit


theorem size23 : (Tryd.prog.info? 23).map (·.size) = some 4 := by kernel_rfl

theorem res_px {fn : Func} {p : Tmp} (h : fn.results = #[.cell p 23]) (tmps : Array Value) (w : World) (g : Nat) (t : TypeId) (cs : Array Value) (fr : Nat × Nat)
    (hp : tmps.getD p undef = .pointer (some ⟨g, 0, none⟩)) (hg : w.heap[g]? = some (.cells cs t fr)) (hs : cs.size = 4) : (results fn tmps).run Tryd.prog w = .ok (.agg cs) w :=
  results_cell_row h tmps w g t cs fr _ hp hg Tryd.underlying23 rfl (by rw [hs]; exact size23)

/-- A whole pixel is stored into a variable of the call's own. -/
theorem store_px {ops : Array Oper} {rest : List Oper} {o : Oper} {A : Act} {w : World} {Q : Exit → Act → World → Prop} {G : Nat} {t : TypeId} {old : Array Value} (hg : w.heap[G]? = some (.cells old t (0, 0))) (hold : old.size = 4)
    (x y : Operand) (p : Px) (hgd : o.guard = none) (ho : o.op = .store 23 x y) (hx : A.eval x = .pointer (some ⟨G, 0, none⟩)) (hy : A.eval y = pv p)
    (h : wpList Tryd.prog ops Q rest (A.put o.dst undef) (w.setRow G (pcs p))) : wpList Tryd.prog ops Q (o :: rest) A w :=
  wpList_store_row hgd 23 x y ho G _ hx hy t old hg size23 hold (by simp [Value.oneCell']) h

/-- The same, where the world behind has a name. -/
theorem store_px' {ops : Array Oper} {rest : List Oper} {o : Oper} {A : Act} {w W : World} {Q : Exit → Act → World → Prop} {G : Nat} {t : TypeId} {old : Array Value} (p : Px) (hW : Hid (W = w.setRow G (pcs p))) (hg : w.heap[G]? = some (.cells old t (0, 0))) (hold : old.size = 4)
    (x y : Operand) (hgd : o.guard = none) (ho : o.op = .store 23 x y) (hx : A.eval x = .pointer (some ⟨G, 0, none⟩)) (hy : A.eval y = pv p)
    (h : wpList Tryd.prog ops Q rest (A.put o.dst undef) W) : wpList Tryd.prog ops Q (o :: rest) A w :=
  store_px hg hold x y p hgd ho hx hy (hW.out ▸ h)

/-- The four cells of a variable that holds a pixel. -/
theorem px_cells {w : World} {g : Nat} {p : Px} {t : TypeId} {fr : Nat × Nat} (h : w.heap[g]? = some (.cells (pcs p) t fr)) :
    w.cell? ⟨g, 0, none⟩ = some (.int .i64 p.r) ∧ w.cell? ⟨g, 1, none⟩ = some (.int .i64 p.g) ∧ w.cell? ⟨g, 2, none⟩ = some (.int .i64 p.b) ∧ w.cell? ⟨g, 3, none⟩ = some (.int .i64 p.a) := by
  simp [World.cell?, h]
theorem px_ext {w : World} {g : Nat} {p : Px} {t : TypeId} {fr : Nat × Nat} (h : w.heap[g]? = some (.cells (pcs p) t fr)) :
    (∀ k : Ext w, k.w.cell? ⟨g, 0, none⟩ = some (.int .i64 p.r)) ∧ (∀ k : Ext w, k.w.cell? ⟨g, 1, none⟩ = some (.int .i64 p.g)) ∧ (∀ k : Ext w, k.w.cell? ⟨g, 2, none⟩ = some (.int .i64 p.b)) ∧ (∀ k : Ext w, k.w.cell? ⟨g, 3, none⟩ = some (.int .i64 p.a)) := by
  obtain ⟨c0, c1, c2, c3⟩ := px_cells h
  exact ⟨Ext.cell c0, Ext.cell c1, Ext.cell c2, Ext.cell c3⟩
theorem below_new {w w' : World} {o : Obj} (h : Below (w.heap.size + 1) (w.alloc o) w') : Below w.heap.size w w' :=
  ((Below.refl _ w).alloc (Nat.le_refl _) o).trans (h.mono (Nat.le_succ _))
theorem below_row {B : Nat} {a w : World} {g : Nat} (h : Below B a w) (hg : B ≤ g) (c : Array Value) : Below B a (w.setRow g c) :=
  h.trans ⟨rfl, rfl, rfl, by simp, fun k hk => setRow_other _ _ _ _ (by omega)⟩

set_option maxHeartbeats 800000 in
theorem righted_any (p : Px) (w : World) : Calls Tryd.prog 26 #[pv p] w fun e w' => e = .returned (pv (ownv p)) ∧ Below w.heap.size w w' := by
  obtain ⟨R, hR⟩ : ∃ R, rightv p = R := ⟨_, rfl⟩
  have HR : Hid (rightv p = R) := hR
  have HO : Hid (ownv p = if R = true then p else zpx) := by show _ = _; rw [← hR]; rfl
  clear hR
  go_enter Tryd.func26, Tryd.ntmps26
  go_wp2_with fail
  refine (right_any p _).mono ?_
  rintro e w1 ⟨rfl, hb⟩
  have g1 := Below.blk hb (blk_alloc (blk_new w _) _) (by simp; omega)
  have g2 := Below.blk hb (blk_new (w.alloc _) _) (by simp)
  simp only [World.size_alloc] at g1 g2
  have b1 : Below w.heap.size w w1 := (((Below.refl _ w).alloc (Nat.le_refl _) _).alloc (by simp) _).trans (hb.mono (by simp; omega))
  clear hb
  rw [HR.out]
  cases R
  · go_wp2_with (refine store_px g2 rfl _ _ zpx (by rfl) (by rfl) (by rfl) (by rfl) ?_)
    refine bodyPost_ret (res_px rfl _ _ _ _ _ _ rfl (setRow_heap _ _ _ _ _ _ g2) rfl) rfl ?_
    exact ⟨by first | (rw [HO.out]; done) | (rw [HO.out]; rfl), below_row b1 (by omega) _⟩
  · obtain ⟨c0, c1, c2, c3⟩ := px_cells g1
    go_wp2_with (refine store_px g2 rfl _ _ p (by rfl) (by rfl) (by rfl) (by rfl) ?_)
    refine bodyPost_ret (res_px rfl _ _ _ _ _ _ rfl (setRow_heap _ _ _ _ _ _ g2) rfl) rfl ?_
    exact ⟨by first | (rw [HO.out]; done) | (rw [HO.out]; rfl), below_row b1 (by omega) _⟩

end Go.Proofs.YtdaapanmalcgbabDoor
