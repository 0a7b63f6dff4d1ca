/-
  BlendKnown's own walk.
-/
import Derived.Test.YtdaapanmalcgbaaDoorAl
namespace Go.Proofs.YtdaapanmalcgbaaDoor
open Go.RowKit

/-- The example's answers, 28 pixels one behind the other. -/
def wantA : Array Value := #[.int .i64 0, .int .i64 0, .int .i64 0, .int .i64 0, .int .i64 200, .int .i64 100, .int .i64 50, .int .i64 255, .int .i64 60, .int .i64 120, .int .i64 240, .int .i64 255, .int .i64 200, .int .i64 100, .int .i64 50, .int .i64 255, .int .i64 60, .int .i64 120, .int .i64 240, .int .i64 255, .int .i64 200, .int .i64 100, .int .i64 50, .int .i64 255, .int .i64 60, .int .i64 120, .int .i64 240, .int .i64 255, .int .i64 0, .int .i64 0, .int .i64 0, .int .i64 0, .int .i64 0, .int .i64 0, .int .i64 0, .int .i64 0, .int .i64 200, .int .i64 100, .int .i64 50, .int .i64 255, .int .i64 60, .int .i64 120, .int .i64 240, .int .i64 255, .int .i64 0, .int .i64 0, .int .i64 0, .int .i64 0, .int .i64 255, .int .i64 220, .int .i64 255, .int .i64 255, .int .i64 0, .int .i64 0, .int .i64 0, .int .i64 0, .int .i64 0, .int .i64 0, .int .i64 0, .int .i64 0, .int .i64 60, .int .i64 100, .int .i64 50, .int .i64 255, .int .i64 200, .int .i64 120, .int .i64 240, .int .i64 255, .int .i64 0, .int .i64 0, .int .i64 0, .int .i64 0, .int .i64 0, .int .i64 0, .int .i64 0, .int .i64 0, .int .i64 0, .int .i64 0, .int .i64 0, .int .i64 0, .int .i64 0, .int .i64 0, .int .i64 0, .int .i64 0, .int .i64 140, .int .i64 20, .int .i64 190, .int .i64 255, .int .i64 0, .int .i64 0, .int .i64 0, .int .i64 0, .int .i64 47, .int .i64 47, .int .i64 47, .int .i64 255, .int .i64 0, .int .i64 0, .int .i64 0, .int .i64 0, .int .i64 0, .int .i64 0, .int .i64 0, .int .i64 0, .int .i64 0, .int .i64 0, .int .i64 0, .int .i64 0, .int .i64 0, .int .i64 0, .int .i64 0, .int .i64 0]
/-- An operation that answers a value. -/
theorem wpList_val {P : Program} {ops : Array Oper} {rest : List Oper} {o : Oper} {a : Act} {w : World} {Q : Exit → Act → World → Prop} {v : Value} (_ : (match o.op with | .build 24 _ => true | _ => false) = true) (hgd : o.guard = none) (h1 : (execOp a.eval o).run P w = .ok (.value v) w)
    (h : wpList P ops Q rest (a.put o.dst v) w) : wpList P ops Q (o :: rest) a w :=
  wpList_plain hgd fun _ hK => by
    unfold Oper.wp
    rw [h1]
    exact hK _ _ h
theorem size24 : (Tryd.prog.info? 24).map (·.size) = some 112 := by kernel_rfl
theorem zsize24 : Tryd.zeroCells24.size = 112 := by kernel_rfl
theorem one24 : wantA.all (·.oneCell') = true := by kernel_rfl
/-- The whole list is stored into a variable of the call's own; the world behind has a name. -/
theorem store_want {ops : Array Oper} {rest : List Oper} {o : Oper} {A : Act} {w W : World} {Q : Exit → Act → World → Prop} {G : Nat} {t : TypeId} {old : Array Value} (hW : Hid (W = w.setRow G wantA)) (hg : w.heap[G]? = some (.cells old t (0, 0))) (hold : old.size = 112)
    (x y : Operand) (hgd : o.guard = none) (ho : o.op = .store 24 x y) (hx : A.eval x = .pointer (some ⟨G, 0, none⟩)) (hy : A.eval y = .agg wantA)
    (h : wpList Tryd.prog ops Q rest (A.put o.dst undef) W) : wpList Tryd.prog ops Q (o :: rest) A w :=
  wpList_store_row hgd 24 x y ho G _ hx hy t old hg size24 hold one24 (hW.out ▸ h)

/-- The 28 answers, one by one. -/
def wantv (m : Nat) : Px := ([⟨0, 0, 0, 0⟩, ⟨200, 100, 50, 255⟩, ⟨60, 120, 240, 255⟩, ⟨200, 100, 50, 255⟩, ⟨60, 120, 240, 255⟩, ⟨200, 100, 50, 255⟩, ⟨60, 120, 240, 255⟩, ⟨0, 0, 0, 0⟩, ⟨0, 0, 0, 0⟩, ⟨200, 100, 50, 255⟩, ⟨60, 120, 240, 255⟩, ⟨0, 0, 0, 0⟩, ⟨255, 220, 255, 255⟩, ⟨0, 0, 0, 0⟩, ⟨0, 0, 0, 0⟩, ⟨60, 100, 50, 255⟩, ⟨200, 120, 240, 255⟩, ⟨0, 0, 0, 0⟩, ⟨0, 0, 0, 0⟩, ⟨0, 0, 0, 0⟩, ⟨0, 0, 0, 0⟩, ⟨140, 20, 190, 255⟩, ⟨0, 0, 0, 0⟩, ⟨47, 47, 47, 255⟩, ⟨0, 0, 0, 0⟩, ⟨0, 0, 0, 0⟩, ⟨0, 0, 0, 0⟩, ⟨0, 0, 0, 0⟩] : List Px).getD m ⟨0, 0, 0, 0⟩
theorem want_get {m : Nat} (hm : m < 28) : wantA[m * 4]? = some (.int .i64 (wantv m).r) ∧ wantA[m * 4 + 1]? = some (.int .i64 (wantv m).g) ∧ wantA[m * 4 + 2]? = some (.int .i64 (wantv m).b) ∧ wantA[m * 4 + 3]? = some (.int .i64 (wantv m).a) := by
  rcases (show m = 0 ∨ m = 1 ∨ m = 2 ∨ m = 3 ∨ m = 4 ∨ m = 5 ∨ m = 6 ∨ m = 7 ∨ m = 8 ∨ m = 9 ∨ m = 10 ∨ m = 11 ∨ m = 12 ∨ m = 13 ∨ m = 14 ∨ m = 15 ∨ m = 16 ∨ m = 17 ∨ m = 18 ∨ m = 19 ∨ m = 20 ∨ m = 21 ∨ m = 22 ∨ m = 23 ∨ m = 24 ∨ m = 25 ∨ m = 26 ∨ m = 27 by omega) with rfl | rfl | rfl | rfl | rfl | rfl | rfl | rfl | rfl | rfl | rfl | rfl | rfl | rfl | rfl | rfl | rfl | rfl | rfl | rfl | rfl | rfl | rfl | rfl | rfl | rfl | rfl | rfl <;> exact ⟨rfl, rfl, rfl, rfl⟩
theorem want_cells {w : World} {g : Nat} {t : TypeId} {fr : Nat × Nat} (h : w.heap[g]? = some (.cells wantA t fr)) {m : Nat} (hm : m < 28) :
    (∀ k : Ext w, k.w.cell? ⟨g, m * 4, none⟩ = some (.int .i64 (wantv m).r)) ∧ (∀ k : Ext w, k.w.cell? ⟨g, m * 4 + 1, none⟩ = some (.int .i64 (wantv m).g)) ∧ (∀ k : Ext w, k.w.cell? ⟨g, m * 4 + 2, none⟩ = some (.int .i64 (wantv m).b)) ∧ (∀ k : Ext w, k.w.cell? ⟨g, m * 4 + 3, none⟩ = some (.int .i64 (wantv m).a)) := by
  obtain ⟨h0, h1, h2, h3⟩ := want_get hm
  exact ⟨Ext.cell ((blk_cell h _).trans h0), Ext.cell ((blk_cell h _).trans h1), Ext.cell ((blk_cell h _).trans h2), Ext.cell ((blk_cell h _).trans h3)⟩
abbrev exS : Px := ⟨200, 100, 50, 255⟩
abbrev exD : Px := ⟨60, 120, 240, 255⟩
theorem ex_may {m : Nat} (hm : m < 28) : mayv m exS exD = true := mayv_of (by omega) (by omega) ⟨⟨by decide, by decide, by decide, by decide, by decide, by decide, by decide, by decide⟩, by decide, by decide, by decide⟩ ⟨⟨by decide, by decide, by decide, by decide, by decide, by decide, by decide, by decide⟩, by decide, by decide, by decide⟩
/-- What the walk asks of each mode. -/
def told13 (m : Nat) : Bool := decide (m < 13) || decide (m = 15) || decide (m = 16) || decide (m = 21) || decide (m = 23)
theorem ex_is {m : Nat} (hm : m < 28) (h : told13 m = true) : outv m exS exD = wantv m := by
  rcases (show m = 0 ∨ m = 1 ∨ m = 2 ∨ m = 3 ∨ m = 4 ∨ m = 5 ∨ m = 6 ∨ m = 7 ∨ m = 8 ∨ m = 9 ∨ m = 10 ∨ m = 11 ∨ m = 12 ∨ m = 13 ∨ m = 14 ∨ m = 15 ∨ m = 16 ∨ m = 17 ∨ m = 18 ∨ m = 19 ∨ m = 20 ∨ m = 21 ∨ m = 22 ∨ m = 23 ∨ m = 24 ∨ m = 25 ∨ m = 26 ∨ m = 27 by omega) with rfl | rfl | rfl | rfl | rfl | rfl | rfl | rfl | rfl | rfl | rfl | rfl | rfl | rfl | rfl | rfl | rfl | rfl | rfl | rfl | rfl | rfl | rfl | rfl | rfl | rfl | rfl | rfl <;> first | exact absurd h (by decide) | kernel_rfl
theorem ex_whole {m : Nat} (hm : m < 28) (h : told13 m = false) : (outv m exS exD).a = 255 ∧ (wantv m).a = 0 := by
  rcases (show m = 0 ∨ m = 1 ∨ m = 2 ∨ m = 3 ∨ m = 4 ∨ m = 5 ∨ m = 6 ∨ m = 7 ∨ m = 8 ∨ m = 9 ∨ m = 10 ∨ m = 11 ∨ m = 12 ∨ m = 13 ∨ m = 14 ∨ m = 15 ∨ m = 16 ∨ m = 17 ∨ m = 18 ∨ m = 19 ∨ m = 20 ∨ m = 21 ∨ m = 22 ∨ m = 23 ∨ m = 24 ∨ m = 25 ∨ m = 26 ∨ m = 27 by omega) with rfl | rfl | rfl | rfl | rfl | rfl | rfl | rfl | rfl | rfl | rfl | rfl | rfl | rfl | rfl | rfl | rfl | rfl | rfl | rfl | rfl | rfl | rfl | rfl | rfl | rfl | rfl | rfl <;> first | exact absurd h (by decide) | exact ⟨by kernel_rfl, rfl⟩

theorem ex_no1 : blendR 28 exS exD = .tuple #[pv ⟨0, 0, 0, 0⟩, .bool false] := by kernel_rfl
theorem ex_no2 : blendR (-1) exS exD = .tuple #[pv ⟨0, 0, 0, 0⟩, .bool false] := by kernel_rfl
theorem ex_no3 : blendR 3 ⟨4, 0, 0, 3⟩ exD = .tuple #[pv ⟨0, 0, 0, 0⟩, .bool false] := by kernel_rfl
theorem ex_no4 : blendR 3 exS ⟨0, 0, 0, 256⟩ = .tuple #[pv ⟨0, 0, 0, 0⟩, .bool false] := by kernel_rfl

set_option maxRecDepth 100000 in
set_option maxHeartbeats 6400000 in
theorem blendKnown_walk (w : World) (hT : Tab w) : Calls Tryd.prog 3 #[] w fun e w' => e = .returned (.bool true) ∧ Below w.heap.size w w' := by
  obtain ⟨X, hX⟩ : ∃ x, x = ((w.alloc (pblk exS)).alloc (pblk exD)).alloc (.cells Tryd.zeroCells24 24) := ⟨_, rfl⟩
  obtain ⟨V, hV⟩ : ∃ x, x = X.setRow (w.heap.size + 1 + 1) wantA := ⟨_, rfl⟩
  have k3 : X.heap[w.heap.size + 1 + 1]? = some (.cells Tryd.zeroCells24 24) := by rw [hX]; have := blk_new2 (w.alloc (pblk exS)) (pblk exD) (.cells Tryd.zeroCells24 24); simp only [World.size_alloc] at this; exact this
  have gs : V.heap[w.heap.size]? = some (pblk exS) := by rw [hV, setRow_other _ _ _ _ (by omega), hX]; exact blk_alloc (blk_alloc (blk_new w _) _) _
  have gd : V.heap[w.heap.size + 1]? = some (pblk exD) := by rw [hV, setRow_other _ _ _ _ (by omega), hX]; exact blk_alloc (blk_new2 w _ _) _
  have gw : V.heap[w.heap.size + 1 + 1]? = some (.cells wantA 24) := by rw [hV]; exact setRow_heap _ _ _ _ _ _ k3
  have B : Below w.heap.size w V := by rw [hV, hX]; exact below_row ((((Below.refl _ w).alloc (Nat.le_refl _) _).alloc (by simp) _).alloc (by simp; omega) _) (by omega) _
  have T := hT.on B
  have HX : Hid (X = ((w.alloc (.cells #[.int .i64 200, .int .i64 100, .int .i64 50, .int .i64 255] 23)).alloc (.cells #[.int .i64 60, .int .i64 120, .int .i64 240, .int .i64 255] 23)).alloc (.cells Tryd.zeroCells24 24)) := hX
  have HV : Hid (V = X.setRow (w.heap.size + 1 + 1) wantA) := hV
  have HK : Hid (X.heap[w.heap.size + 1 + 1]? = some (.cells Tryd.zeroCells24 24)) := k3
  clear hX hV k3
  go_enter Tryd.func3, Tryd.ntmps3
  go_wp2_with (first | (refine wpList_val (v := .agg wantA) (by rfl) (by rfl) (by kernel_rfl) ?_) | rw [← HX.out] | (refine store_want HV HK.out (by exact zsize24) _ _ (by rfl) (by rfl) (by rfl) (by rfl) ?_))
  clear HX HV HK
  go_loopw [4] (fun v wq => ∃ m : Nat, m ≤ 28 ∧ v = .int .i64 (m : Nat) ∧ Below V.heap.size V wq) (fun v _ => 28 - (intOf v).toNat)
  case atStart => exact ⟨0, by omega, rfl, Below.refl _ _⟩
  case round =>
    obtain ⟨m, hm, rfl, hB⟩ := hrel
    have T1 := T.on hB
    have ks := Below.blk hB gs (blk_lt gs)
    have kd := Below.blk hB gd (blk_lt gd)
    by_cases hmn : m < 28
    · have hm' : (m : Int) < 28 := by omega
      have kw := Below.blk hB gw (blk_lt gw)
      have A3 := blend_any m exS exD
      unfold blendR at A3
      rw [ex_may hmn] at A3
      obtain ⟨v, hv⟩ : ∃ x, wantv m = x := ⟨_, rfl⟩
      obtain ⟨r, hr⟩ : ∃ x, outv m exS exD = x := ⟨_, rfl⟩
      have hI : told13 m = true → r = v := fun h => by rw [← hr, ← hv]; exact ex_is hmn h
      have hJ : told13 m = false → r.a = 255 ∧ v.a = 0 := fun h => by rw [← hr, ← hv]; exact ex_whole hmn h
      have HV : Hid (wantv m = v) := hv
      rw [hr] at A3
      clear hr hv
      obtain ⟨p0, p1, p2, p3⟩ := px_cells (p := exS) ks
      obtain ⟨q0, q1, q2, q3⟩ := px_cells (p := exD) kd
      go_wp2_with fail
      refine (A3 _ T1).mono ?_
      rintro e w3 ⟨rfl, b3⟩
      clear p0 p1 p2 p3 q0 q1 q2 q3 A3
      replace kw := blk_alloc (Below.blk b3 kw (blk_lt kw)) (pblk r)
      have kx := blk_new w3 (pblk r)
      replace hB := (hB.trans (b3.mono hB.size)).alloc (Nat.le_trans hB.size b3.size) (pblk r)
      obtain ⟨C, hC⟩ : ∃ x, x = w3.alloc (.cells #[.int .i64 r.r, .int .i64 r.g, .int .i64 r.b, .int .i64 r.a] 23) := ⟨_, rfl⟩
      have HC : Hid (C = w3.alloc (.cells #[.int .i64 r.r, .int .i64 r.g, .int .i64 r.b, .int .i64 r.a] 23)) := hC
      rw [← hC] at kw kx hB
      clear hC b3
      have hw' := want_cells kw hmn
      rw [HV.out] at hw'
      obtain ⟨c0, c1, c2, c3⟩ := hw'
      obtain ⟨x0, x1, x2, x3⟩ := px_ext kx
      have hm0 : (0 : Int) ≤ m := by omega
      clear kw kx HV
      have hin := Ext.inh C
      go_wp2_with (rw [← HC.out])

      by_cases h13 : m < 13
      · have ht : told13 m = true := by simp [told13, h13]
        obtain rfl := hI ht
        have h13' : (m : Int) < 13 := by omega
        have d13 : decide ((m : Int) < 13) = true := decide_eq_true h13'
        clear hI hJ ht
        refine region_ext (by kernel_rfl) (by kernel_rfl) ?_
        repeat (go_big_quiet_step (fail))
        refine wpQuiet_nil ?_
        rintro Y ⟨⟨_, hk⟩, rfl⟩
        go_wp2_with fail
        exact ⟨⟨m + 1, by omega, by go_num, hB.trans (hk.mono hB.size)⟩, by simp [intOf]; omega⟩
      have h13' : ¬ (m : Int) < 13 := by omega
      have d13 : decide ((m : Int) < 13) = false := decide_eq_false h13'
      by_cases h15 : m = 15
      · have ht : told13 m = true := by simp [told13, h15]
        obtain rfl := hI ht
        have e15 : ((m : Int) == 15) = true := by simp; omega
        have f15 : decide ((m : Int) = 15) = true := by simp; omega
        have e16 : ((m : Int) == 16) = false := by simp; omega
        have f16 : decide ((m : Int) = 16) = false := by simp; omega
        have e21 : ((m : Int) == 21) = false := by simp; omega
        have f21 : decide ((m : Int) = 21) = false := by simp; omega
        have e23 : ((m : Int) == 23) = false := by simp; omega
        have f23 : decide ((m : Int) = 23) = false := by simp; omega
        have HK : Hid (m = 15) := h15
        clear hI hJ ht h15
        refine region_ext (by kernel_rfl) (by kernel_rfl) ?_
        repeat (go_big_quiet_step (fail))
        refine wpQuiet_nil ?_
        rintro Y ⟨⟨_, hk⟩, rfl⟩
        go_wp2_with fail
        exact ⟨⟨m + 1, by omega, by go_num, hB.trans (hk.mono hB.size)⟩, by simp [intOf]; omega⟩
      by_cases h16 : m = 16
      · have ht : told13 m = true := by simp [told13, h16]
        obtain rfl := hI ht
        have e15 : ((m : Int) == 15) = false := by simp; omega
        have f15 : decide ((m : Int) = 15) = false := by simp; omega
        have e16 : ((m : Int) == 16) = true := by simp; omega
        have f16 : decide ((m : Int) = 16) = true := by simp; omega
        have e21 : ((m : Int) == 21) = false := by simp; omega
        have f21 : decide ((m : Int) = 21) = false := by simp; omega
        have e23 : ((m : Int) == 23) = false := by simp; omega
        have f23 : decide ((m : Int) = 23) = false := by simp; omega
        have HK : Hid (m = 16) := h16
        clear hI hJ ht h16
        refine region_ext (by kernel_rfl) (by kernel_rfl) ?_
        repeat (go_big_quiet_step (fail))
        refine wpQuiet_nil ?_
        rintro Y ⟨⟨_, hk⟩, rfl⟩
        go_wp2_with fail
        exact ⟨⟨m + 1, by omega, by go_num, hB.trans (hk.mono hB.size)⟩, by simp [intOf]; omega⟩
      by_cases h21 : m = 21
      · have ht : told13 m = true := by simp [told13, h21]
        obtain rfl := hI ht
        have e15 : ((m : Int) == 15) = false := by simp; omega
        have f15 : decide ((m : Int) = 15) = false := by simp; omega
        have e16 : ((m : Int) == 16) = false := by simp; omega
        have f16 : decide ((m : Int) = 16) = false := by simp; omega
        have e21 : ((m : Int) == 21) = true := by simp; omega
        have f21 : decide ((m : Int) = 21) = true := by simp; omega
        have e23 : ((m : Int) == 23) = false := by simp; omega
        have f23 : decide ((m : Int) = 23) = false := by simp; omega
        have HK : Hid (m = 21) := h21
        clear hI hJ ht h21
        refine region_ext (by kernel_rfl) (by kernel_rfl) ?_
        repeat (go_big_quiet_step (fail))
        refine wpQuiet_nil ?_
        rintro Y ⟨⟨_, hk⟩, rfl⟩
        go_wp2_with fail
        exact ⟨⟨m + 1, by omega, by go_num, hB.trans (hk.mono hB.size)⟩, by simp [intOf]; omega⟩
      by_cases h23 : m = 23
      · have ht : told13 m = true := by simp [told13, h23]
        obtain rfl := hI ht
        have e15 : ((m : Int) == 15) = false := by simp; omega
        have f15 : decide ((m : Int) = 15) = false := by simp; omega
        have e16 : ((m : Int) == 16) = false := by simp; omega
        have f16 : decide ((m : Int) = 16) = false := by simp; omega
        have e21 : ((m : Int) == 21) = false := by simp; omega
        have f21 : decide ((m : Int) = 21) = false := by simp; omega
        have e23 : ((m : Int) == 23) = true := by simp; omega
        have f23 : decide ((m : Int) = 23) = true := by simp; omega
        have HK : Hid (m = 23) := h23
        clear hI hJ ht h23
        refine region_ext (by kernel_rfl) (by kernel_rfl) ?_
        repeat (go_big_quiet_step (fail))
        refine wpQuiet_nil ?_
        rintro Y ⟨⟨_, hk⟩, rfl⟩
        go_wp2_with fail
        exact ⟨⟨m + 1, by omega, by go_num, hB.trans (hk.mono hB.size)⟩, by simp [intOf]; omega⟩
      have ht : told13 m = false := by simp [told13]; omega
      obtain ⟨ra, va⟩ := hJ ht
      rw [ra] at x3
      rw [va] at c3
      have e15 : ((m : Int) == 15) = false := by simp; omega
      have f15 : decide ((m : Int) = 15) = false := by simp; omega
      have e16 : ((m : Int) == 16) = false := by simp; omega
      have f16 : decide ((m : Int) = 16) = false := by simp; omega
      have e21 : ((m : Int) == 21) = false := by simp; omega
      have f21 : decide ((m : Int) = 21) = false := by simp; omega
      have e23 : ((m : Int) == 23) = false := by simp; omega
      have f23 : decide ((m : Int) = 23) = false := by simp; omega
      clear hI hJ ht h15 h16 h21 h23
      refine region_ext (by kernel_rfl) (by kernel_rfl) ?_
      repeat (go_big_quiet_step (fail))
      refine wpQuiet_nil ?_
      rintro Y ⟨⟨_, hk⟩, rfl⟩
      go_wp2_with fail
      exact ⟨⟨m + 1, by omega, by go_num, hB.trans (hk.mono hB.size)⟩, by simp [intOf]; omega⟩
    · obtain rfl : m = 28 := by omega
      replace B := B.trans (hB.mono B.size)
      clear gs gd gw T
      obtain ⟨p0, p1, p2, p3⟩ := px_cells (p := exS) ks
      obtain ⟨q0, q1, q2, q3⟩ := px_cells (p := exD) kd
      go_wp2_with fail
      refine (told (blend_any 28 exS exD _ T1) ex_no1).mono ?_
      rintro e U0 ⟨rfl, b3⟩
      clear p0 p1 p2 p3 q0 q1 q2 q3
      replace ks := blk_alloc (Below.blk b3 ks (blk_lt ks)) (pblk ⟨0, 0, 0, 0⟩)
      replace kd := blk_alloc (Below.blk b3 kd (blk_lt kd)) (pblk ⟨0, 0, 0, 0⟩)
      replace T1 := (T1.on b3).on ((Below.refl _ U0).alloc (Nat.le_refl _) (pblk ⟨0, 0, 0, 0⟩))
      replace B := (B.trans (b3.mono B.size)).alloc (Nat.le_trans B.size b3.size) (pblk ⟨0, 0, 0, 0⟩)
      clear b3
      obtain ⟨p0, p1, p2, p3⟩ := px_cells (p := exS) ks
      obtain ⟨q0, q1, q2, q3⟩ := px_cells (p := exD) kd
      go_wp2_with fail
      refine (told (blend_any (-1) exS exD _ T1) ex_no2).mono ?_
      rintro e U1 ⟨rfl, b3⟩
      clear p0 p1 p2 p3 q0 q1 q2 q3
      replace ks := blk_alloc (Below.blk b3 ks (blk_lt ks)) (pblk ⟨0, 0, 0, 0⟩)
      replace kd := blk_alloc (Below.blk b3 kd (blk_lt kd)) (pblk ⟨0, 0, 0, 0⟩)
      replace T1 := (T1.on b3).on ((Below.refl _ U1).alloc (Nat.le_refl _) (pblk ⟨0, 0, 0, 0⟩))
      replace B := (B.trans (b3.mono B.size)).alloc (Nat.le_trans B.size b3.size) (pblk ⟨0, 0, 0, 0⟩)
      clear b3
      obtain ⟨p0, p1, p2, p3⟩ := px_cells (p := exS) ks
      obtain ⟨q0, q1, q2, q3⟩ := px_cells (p := exD) kd
      go_wp2_with fail
      refine (told (blend_any 3 ⟨4, 0, 0, 3⟩ exD _ T1) ex_no3).mono ?_
      rintro e U2 ⟨rfl, b3⟩
      clear p0 p1 p2 p3 q0 q1 q2 q3
      replace ks := blk_alloc (Below.blk b3 ks (blk_lt ks)) (pblk ⟨0, 0, 0, 0⟩)
      replace kd := blk_alloc (Below.blk b3 kd (blk_lt kd)) (pblk ⟨0, 0, 0, 0⟩)
      replace T1 := (T1.on b3).on ((Below.refl _ U2).alloc (Nat.le_refl _) (pblk ⟨0, 0, 0, 0⟩))
      replace B := (B.trans (b3.mono B.size)).alloc (Nat.le_trans B.size b3.size) (pblk ⟨0, 0, 0, 0⟩)
      clear b3
      obtain ⟨p0, p1, p2, p3⟩ := px_cells (p := exS) ks
      obtain ⟨q0, q1, q2, q3⟩ := px_cells (p := exD) kd
      go_wp2_with fail
      refine (told (blend_any 3 exS ⟨0, 0, 0, 256⟩ _ T1) ex_no4).mono ?_
      rintro e U3 ⟨rfl, b3⟩
      clear p0 p1 p2 p3 q0 q1 q2 q3
      replace ks := blk_alloc (Below.blk b3 ks (blk_lt ks)) (pblk ⟨0, 0, 0, 0⟩)
      replace kd := blk_alloc (Below.blk b3 kd (blk_lt kd)) (pblk ⟨0, 0, 0, 0⟩)
      replace T1 := (T1.on b3).on ((Below.refl _ U3).alloc (Nat.le_refl _) (pblk ⟨0, 0, 0, 0⟩))
      replace B := (B.trans (b3.mono B.size)).alloc (Nat.le_trans B.size b3.size) (pblk ⟨0, 0, 0, 0⟩)
      clear b3
      obtain ⟨p0, p1, p2, p3⟩ := px_cells (p := exS) ks
      obtain ⟨q0, q1, q2, q3⟩ := px_cells (p := exD) kd
      go_wp2_with fail
      refine (known_any _ T1).mono ?_
      rintro e U5 ⟨rfl, b3⟩
      go_wp2
      go_ret
      exact ⟨rfl, B.trans (b3.mono B.size)⟩
end Go.Proofs.YtdaapanmalcgbaaDoor
