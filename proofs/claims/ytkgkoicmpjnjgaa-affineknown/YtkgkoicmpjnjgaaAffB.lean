/-
  Package affine, as contracts, the rest: Rotate, Skew, Inverse, Around.
-/
import Derived.Test.YtkgkoicmpjnjgaaAff
import Derived.Test.YtkgkoicmpjnjgaaLay
import Derived.Laws.ResultCell
namespace Go.Proofs.Ytkgkoicmpjnjgaa
open Go.RowKit

theorem res_aff2 {fn : Func} {p u : Tmp} (h : fn.results = #[.cell p 23, .tmp u]) (tmps : Array Value) (w : World) (g : Nat) (t : TypeId) (cs : Array Value) (fr : Nat × Nat) (v : Value)
    (hp : tmps.getD p undef = .pointer (some ⟨g, 0, none⟩)) (hg : w.heap[g]? = some (.cells cs t fr)) (hs : cs.size = 6) (hu : tmps.getD u undef = v) : (results fn tmps).run Try.prog w = .ok (.tuple #[.agg cs, v]) w := by
  rw [results_cell_tmp h, hp, hu]
  simp [asAddr, Result.andThen, run_loadVar_row w g t 23 cs fr _ hg Try.underlying23 rfl (by rw [hs]; exact size23)]

/-- A whole affine is stored into a variable of the call's own; the world behind it under a name. -/
theorem store_aff' {ops : Array Oper} {rest : List Oper} {o : Oper} {A : Act} {w W : World} {Q : Exit → Act → World → Prop} {G : Nat} {t : TypeId} {old : Array Value} (hg : w.heap[G]? = some (.cells old t (0, 0))) (hold : old.size = 6)
    {a b c d e f : Int} (hW : W = w.setRow G #[.int .i64 a, .int .i64 b, .int .i64 c, .int .i64 d, .int .i64 e, .int .i64 f])
    (x y : Operand) (hgd : o.guard = none) (ho : o.op = .store 23 x y) (hx : A.eval x = .pointer (some ⟨G, 0, none⟩)) (hy : A.eval y = aff a b c d e f)
    (h : wpList Try.prog ops Q rest (A.put o.dst undef) W) : wpList Try.prog ops Q (o :: rest) A w := by
  subst hW
  exact store_aff hg hold x y a b c d e f hgd ho hx hy h
/-- One number is stored into a variable of the call's own. -/
theorem store_num {ops : Array Oper} {rest : List Oper} {o : Oper} {A : Act} {w W : World} {Q : Exit → Act → World → Prop} {G i : Nat} {t : TypeId} {old : Array Value} (hg : w.heap[G]? = some (.cells old t (0, 0))) (hi : i < old.size)
    {v : Int} (hW : W = w.setRow G (old.setIfInBounds i (.int .i64 v)))
    (x y : Operand) (hgd : o.guard = none) (ho : o.op = .store 3 x y) (hx : A.eval x = .pointer (some ⟨G, i, none⟩)) (hy : A.eval y = .int .i64 v)
    (h : wpList Try.prog ops Q rest (A.put o.dst undef) W) : wpList Try.prog ops Q (o :: rest) A w := by
  subst hW
  refine wpList_plain hgd fun K hK => ?_
  have hc : w.cell? ⟨G, i, none⟩ = some old[i] := by rw [cell_of_row w G i old t _ hg]; simp [hi]
  have hf := frozen_of_row w G i old t hg
  have e : w.setRow G (old.setIfInBounds i (.int .i64 v)) = w.setCell ⟨G, i, none⟩ (.int .i64 v) := (setCell_eq_setRow w G i old t (0, 0) _ hg).symm
  rw [e] at h
  unfold Oper.wp execOp
  simp only [ho, hx, hy]
  simp [go_sem, hc, hf]
  exact hK _ _ h

theorem rotate_any (a : Int) (w : World) :
    Calls Try.prog 11 #[.int .i64 a] w fun e w' => e = .returned (aff (cosv a) (sinv a) (-sinv a) (cosv a) 0 0) ∧ Below w.heap.size w w' := by
  obtain ⟨h1, h2⟩ := sin_bd a
  go_enter Try.func11, Try.ntmps11
  go_wp2_with fail
  refine (sin_any a _).mono ?_
  rintro e w' ⟨rfl, rfl⟩
  go_wp2_with fail
  refine (cos_any a _).mono ?_
  rintro e w' ⟨rfl, rfl⟩
  go_wp2
  refine bodyPost_ret (res_aff rfl _ _ _ _ _ _ rfl (heap_alloc_new _ _) rfl) rfl ?_
  exact ⟨rfl, (Below.refl _ _).alloc (Nat.le_refl _) _⟩

theorem aff_extX {w : World} {X : World → Prop} {g : Nat} {a b c d e f : Int} {t : TypeId} {fr : Nat × Nat} (h : w.heap[g]? = some (.cells #[.int .i64 a, .int .i64 b, .int .i64 c, .int .i64 d, .int .i64 e, .int .i64 f] t fr)) :
    (∀ k : ExtX w X, k.w.cell? ⟨g, 0, none⟩ = some (.int .i64 a)) ∧ (∀ k : ExtX w X, k.w.cell? ⟨g, 1, none⟩ = some (.int .i64 b)) ∧ (∀ k : ExtX w X, k.w.cell? ⟨g, 2, none⟩ = some (.int .i64 c)) ∧ (∀ k : ExtX w X, k.w.cell? ⟨g, 3, none⟩ = some (.int .i64 d)) ∧ (∀ k : ExtX w X, k.w.cell? ⟨g, 4, none⟩ = some (.int .i64 e)) ∧ (∀ k : ExtX w X, k.w.cell? ⟨g, 5, none⟩ = some (.int .i64 f)) := by
  obtain ⟨c0, c1, c2, c3, c4, c5⟩ := aff_cells h
  exact ⟨ExtX.cell c0, ExtX.cell c1, ExtX.cell c2, ExtX.cell c3, ExtX.cell c4, ExtX.cell c5⟩

theorem tan_bd (a : Int) : -2147483647 ≤ tanv a ∧ tanv a ≤ 2147483647 := by
  unfold tanv divv
  split
  · split
    · omega
    · split <;> omega
  · exact clip_bd _

theorem skew_any (x y : Int) (w : World) :
    Calls Try.prog 13 #[.int .i64 x, .int .i64 y] w fun e w' => e = .returned (aff 65536 (tanv y) (-tanv x) 65536 0 0) ∧ Below w.heap.size w w' := by
  obtain ⟨h1, h2⟩ := tan_bd x
  go_enter Try.func13, Try.ntmps13
  go_wp2_with fail
  refine (one_any _).mono ?_
  rintro e w1 ⟨rfl, hb⟩
  have g1 := Below.blk hb (heap_alloc_new w _) (by simp)
  have b1 : Below w.heap.size w w1 := below_new (by simpa using hb)
  clear hb
  go_wp2_with fail
  refine (tan_any x _).mono ?_
  rintro e w' ⟨rfl, rfl⟩
  go_wp2_with fail
  refine (tan_any y _).mono ?_
  rintro e w' ⟨rfl, rfl⟩
  go_wp2_with (refine store_aff (blk_alloc g1 _) rfl _ _ _ _ _ _ _ _ (by rfl) (by rfl) (by rfl) (by rfl) ?_)
  refine bodyPost_ret (res_aff rfl _ _ _ _ _ _ rfl (setRow_heap _ _ _ _ _ _ (blk_alloc g1 _)) rfl) rfl ?_
  exact ⟨rfl, below_row (b1.alloc b1.size _) (Nat.le_refl _) _⟩

/-- What leads back, or nothing. -/
def detv (a b c d : Int) : Int := mulv a d - mulv c b
theorem det_bd (a b c d : Int) : -4294967294 ≤ detv a b c d ∧ detv a b c d ≤ 4294967294 := by
  have := mulv_bd a d
  have := mulv_bd c b
  unfold detv; omega
theorem divv_bd (a b : Int) : -2147483647 ≤ divv a b ∧ divv a b ≤ 2147483647 := by
  unfold divv
  split
  · split
    · omega
    · split <;> omega
  · exact clip_bd _
def invdx (x y e f : Int) : Int := -clip (mulv x e + mulv y f)

set_option maxHeartbeats 1600000 in
theorem inverse_none (a b c d e f : Int) (hd : detv a b c d = 0) (w : World) :
    Calls Try.prog 10 #[aff a b c d e f] w fun r w' => r = .returned (.tuple #[aff 0 0 0 0 0 0, .bool false]) ∧ Below w.heap.size w w' := by
  obtain ⟨h11, h12⟩ := mulv_bd a d
  obtain ⟨h21, h22⟩ := mulv_bd c b
  go_enter Try.func10, Try.ntmps10
  go_wp2_with fail
  obtain ⟨W, hW⟩ : ∃ W, W = (w.alloc (ablk a b c d e f)).alloc (ablk 0 0 0 0 0 0) := ⟨_, rfl⟩
  rw [← hW]
  have g1 : W.heap[w.heap.size]? = some (ablk a b c d e f) := by rw [hW]; exact blk_alloc (heap_alloc_new w _) _
  have g2 : W.heap[w.heap.size + 1]? = some (ablk 0 0 0 0 0 0) := by rw [hW]; simpa using heap_alloc_new (w.alloc (ablk a b c d e f)) (ablk 0 0 0 0 0 0)
  have b1 : Below w.heap.size w W := by rw [hW]; exact ((Below.refl _ w).alloc (Nat.le_refl _) _).alloc (by simp) _
  clear hW
  obtain ⟨c0, c1, c2, c3, c4, c5⟩ := aff_ext g1
  have hin := Ext.inh W
  have hd' : mulv a d - mulv c b = 0 := hd
  refine region_ext (by kernel_rfl) (by kernel_rfl) ?_
  repeat (go_big_quiet_step (first | (go_at_call 29; exact Ext.same (mul_any _ _ _))))
  refine wpQuiet_nil ?_
  rintro _ ⟨⟨W1, hk⟩, rfl⟩
  have g3 := Below.blk hk g2 (blk_lt g2)
  have b2 := b1.trans (hk.mono b1.size)
  clear c0 c1 c2 c3 c4 c5 hin
  go_wp2_with (refine store_aff g3 rfl _ _ _ _ _ _ _ _ (by rfl) (by rfl) (by rfl) (by rfl) ?_)
  refine bodyPost_ret (res_aff2 rfl _ _ _ _ _ _ _ rfl (setRow_heap _ _ _ _ _ _ g3) rfl rfl) rfl ?_
  exact ⟨rfl, below_row b2 (by omega) _⟩

set_option maxHeartbeats 1600000 in
theorem inverse_some (a b c d e f D : Int) (HD : Hid (mulv a d - mulv c b = D)) (hD0 : ¬ D = 0) (w : World) :
    Calls Try.prog 10 #[aff a b c d e f] w fun r w' => r = .returned (.tuple #[aff (divv d D) (divv (-clip b) D) (divv (-clip c) D) (divv a D) (invdx (divv d D) (divv (-clip c) D) e f) (invdx (divv (-clip b) D) (divv a D) e f), .bool true]) ∧ Below w.heap.size w w' := by
  obtain ⟨h11, h12⟩ := mulv_bd a d
  obtain ⟨h21, h22⟩ := mulv_bd c b
  obtain ⟨h31, h32⟩ := clip_bd b
  obtain ⟨h41, h42⟩ := clip_bd c
  go_enter Try.func10, Try.ntmps10
  go_wp2_with fail
  obtain ⟨W, hW⟩ : ∃ W, W = (w.alloc (ablk a b c d e f)).alloc (ablk 0 0 0 0 0 0) := ⟨_, rfl⟩
  rw [← hW]
  have g1 : W.heap[w.heap.size]? = some (ablk a b c d e f) := by rw [hW]; exact blk_alloc (heap_alloc_new w _) _
  have g2 : W.heap[w.heap.size + 1]? = some (ablk 0 0 0 0 0 0) := by rw [hW]; simpa using heap_alloc_new (w.alloc (ablk a b c d e f)) (ablk 0 0 0 0 0 0)
  have b1 : Below w.heap.size w W := by rw [hW]; exact ((Below.refl _ w).alloc (Nat.le_refl _) _).alloc (by simp) _
  have z1 : w.heap.size + 2 ≤ W.heap.size := by rw [hW]; simp
  clear hW
  obtain ⟨c0, c1, c2, c3, c4, c5⟩ := aff_ext g1
  have hin := Ext.inh W
  refine region_ext (by kernel_rfl) (by kernel_rfl) ?_
  repeat (go_big_quiet_step (first | (go_at_call 29; exact Ext.same (mul_any _ _ _))))
  refine wpQuiet_nil ?_
  rintro W1 ⟨⟨_, hk⟩, rfl⟩
  replace g1 := Below.blk hk g1 (blk_lt g1)
  replace g2 := Below.blk hk g2 (blk_lt g2)
  replace b1 := b1.trans (hk.mono b1.size)
  replace z1 := Nat.le_trans z1 hk.size
  clear c0 c1 c2 c3 c4 c5 hin hk
  rw [HD.out]
  clear h11 h12 h21 h22
  go_wp2_with fail
  refine region_lay 21 5 (ablk 0 0 0 0 0 0) _ (by kernel_rfl) (by kernel_rfl) (by kernel_rfl) rfl rfl rfl (fun _ _ => by kernel_rfl) ?_
  apply Exists.intro
  refine ⟨fun X hX hin => ?_, fun g w' hg hb hz => ?_⟩
  · obtain ⟨c0, c1, c2, c3, c4, c5⟩ := aff_extX (X := X) g1
    simp only [List.take_succ_cons, List.take_zero]
    repeat (go_big_quiet_step (first | (go_at_call 30; exact ExtX.same (div_any _ _ _)) | (go_at_call 27; exact ExtX.same (clip_any _ _))))
    refine wpQuiet_nil ?_
    rfl
  · have hgne : w.heap.size ≠ g := by omega
    have hgne2 : w.heap.size + 1 ≠ g := by omega
    replace g1 := Below.blk hb g1 (blk_lt g1)
    replace g2 := Below.blk hb g2 (blk_lt g2)
    replace b1 := b1.trans (hb.mono b1.size)
    clear hb
    obtain ⟨i11, i12⟩ := clip_bd (mulv (divv d D) e + mulv (divv (-clip c) D) f)
    obtain ⟨i21, i22⟩ := clip_bd (mulv (divv (-clip b) D) e + mulv (divv a D) f)
    obtain ⟨W3, hW3⟩ : ∃ W3, W3 = w'.setRow g #[.int .i64 (divv d D), .int .i64 (divv (-clip b) D), .int .i64 (divv (-clip c) D), .int .i64 (divv a D), .int .i64 0, .int .i64 0] := ⟨_, rfl⟩
    obtain ⟨W4, hW4⟩ : ∃ W4, W4 = W3.setRow g #[.int .i64 (divv d D), .int .i64 (divv (-clip b) D), .int .i64 (divv (-clip c) D), .int .i64 (divv a D), .int .i64 (-clip (mulv (divv d D) e + mulv (divv (-clip c) D) f)), .int .i64 0] := ⟨_, rfl⟩
    obtain ⟨W5, hW5⟩ : ∃ W5, W5 = W4.setRow g #[.int .i64 (divv d D), .int .i64 (divv (-clip b) D), .int .i64 (divv (-clip c) D), .int .i64 (divv a D), .int .i64 (-clip (mulv (divv d D) e + mulv (divv (-clip c) D) f)), .int .i64 (-clip (mulv (divv (-clip b) D) e + mulv (divv a D) f))] := ⟨_, rfl⟩
    have n3 := setRow_heap w' g _ #[.int .i64 (divv d D), .int .i64 (divv (-clip b) D), .int .i64 (divv (-clip c) D), .int .i64 (divv a D), .int .i64 0, .int .i64 0] _ _ hz
    rw [← hW3] at n3
    have n4 := setRow_heap W3 g _ #[.int .i64 (divv d D), .int .i64 (divv (-clip b) D), .int .i64 (divv (-clip c) D), .int .i64 (divv a D), .int .i64 (-clip (mulv (divv d D) e + mulv (divv (-clip c) D) f)), .int .i64 0] _ _ n3
    rw [← hW4] at n4
    have n5 := setRow_heap W4 g _ #[.int .i64 (divv d D), .int .i64 (divv (-clip b) D), .int .i64 (divv (-clip c) D), .int .i64 (divv a D), .int .i64 (-clip (mulv (divv d D) e + mulv (divv (-clip c) D) f)), .int .i64 (-clip (mulv (divv (-clip b) D) e + mulv (divv a D) f))] _ _ n4
    rw [← hW5] at n5
    have m3 : W3.heap[w.heap.size]? = some (ablk a b c d e f) := by rw [hW3, setRow_other _ _ _ _ hgne]; exact g1
    have m4 : W4.heap[w.heap.size]? = some (ablk a b c d e f) := by rw [hW4, setRow_other _ _ _ _ hgne]; exact m3
    have o5 : W5.heap[w.heap.size + 1]? = some (ablk 0 0 0 0 0 0) := by rw [hW5, setRow_other _ _ _ _ hgne2, hW4, setRow_other _ _ _ _ hgne2, hW3, setRow_other _ _ _ _ hgne2]; exact g2
    have b5 : Below w.heap.size w W5 := by rw [hW5, hW4, hW3]; exact below_row (below_row (below_row b1 (by omega) _) (by omega) _) (by omega) _
    obtain ⟨c30, c31, c32, c33, c34, c35⟩ := aff_cells n3
    obtain ⟨d30, d31, d32, d33, d34, d35⟩ := aff_cells m3
    obtain ⟨c40, c41, c42, c43, c44, c45⟩ := aff_cells n4
    obtain ⟨d40, d41, d42, d43, d44, d45⟩ := aff_cells m4
    obtain ⟨c50, c51, c52, c53, c54, c55⟩ := aff_cells n5
    have HZ : Hid (w'.heap[g]? = some (ablk 0 0 0 0 0 0)) := hz
    have H3 : Hid (W3 = _) := hW3
    have H4 : Hid (W4 = _) := hW4
    have H5 : Hid (W5 = _) := hW5
    clear hW3 hW4 hW5 hz
    simp only [Nat.reduceAdd, List.drop_succ_cons, List.drop_zero]
    go_wp2_with (refine store_aff' HZ.out rfl H3.out _ _ (by rfl) (by rfl) (by rfl) (by rfl) ?_)
    refine (both_any _ _ _ _ _).mono ?_
    rintro e w' ⟨rfl, rfl⟩
    go_wp2_with fail
    refine (clip_any _ _).mono ?_
    rintro e w' ⟨rfl, rfl⟩
    go_wp2_with (refine store_num n3 (i := 4) (by simp) H4.out _ _ (by rfl) (by rfl) (by rfl) (by rfl) ?_)
    refine (both_any _ _ _ _ _).mono ?_
    rintro e w' ⟨rfl, rfl⟩
    go_wp2_with fail
    refine (clip_any _ _).mono ?_
    rintro e w' ⟨rfl, rfl⟩
    go_wp2_with (first | (refine store_num n4 (i := 5) (by simp) H5.out _ _ (by rfl) (by rfl) (by rfl) (by rfl) ?_) | (refine store_aff o5 rfl _ _ _ _ _ _ _ _ (by rfl) (by rfl) (by rfl) (by rfl) ?_))
    refine bodyPost_ret (res_aff2 rfl _ _ _ _ _ _ _ rfl (setRow_heap _ _ _ _ _ _ o5) rfl rfl) rfl ?_
    exact ⟨rfl, below_row b5 (by omega) _⟩

/-- The product of two affines. -/
structure A6 where
  a : Int
  b : Int
  c : Int
  d : Int
  e : Int
  f : Int
def A6.v (m : A6) : Value := aff m.a m.b m.c m.d m.e m.f
def A6.mul (m n : A6) : A6 := ⟨clip (mulv m.a n.a + mulv m.c n.b), clip (mulv m.b n.a + mulv m.d n.b), clip (mulv m.a n.c + mulv m.c n.d), clip (mulv m.b n.c + mulv m.d n.d), clip (mulv m.a n.e + mulv m.c n.f + clip m.e), clip (mulv m.b n.e + mulv m.d n.f + clip m.f)⟩
def A6.shift (x y : Int) : A6 := ⟨65536, 0, 0, 65536, clip x, clip y⟩
def A6.around (m : A6) (x y : Int) : A6 := (A6.shift x y).mul (m.mul (A6.shift (-clip x) (-clip y)))

set_option maxHeartbeats 1600000 in
theorem around_any (a b c d e f x y : Int) (w : World) :
    Calls Try.prog 12 #[aff a b c d e f, .int .i64 x, .int .i64 y] w fun r w' => r = .returned (A6.around ⟨a, b, c, d, e, f⟩ x y).v ∧ Below w.heap.size w w' := by
  obtain ⟨h31, h32⟩ := clip_bd x
  obtain ⟨h41, h42⟩ := clip_bd y
  go_enter Try.func12, Try.ntmps12
  go_wp2_with fail
  refine (shift_any _ _ _).mono ?_
  rintro r w1 ⟨rfl, hb⟩
  have g1 := Below.blk hb (blk_alloc (heap_alloc_new w (ablk a b c d e f)) _) (by simp; omega)
  have g2 := Below.blk hb (heap_alloc_new (w.alloc _) _) (by simp)
  have b1 : Below w.heap.size w w1 := (((Below.refl _ w).alloc (Nat.le_refl _) _).alloc (by simp) _).trans (hb.mono (by simp; omega))
  simp only [World.size_alloc] at g2
  clear hb
  go_wp2_with fail
  refine (clip_any _ _).mono ?_
  rintro e w' ⟨rfl, rfl⟩
  go_wp2_with fail
  refine (clip_any _ _).mono ?_
  rintro e w' ⟨rfl, rfl⟩
  go_wp2_with fail
  refine (shift_any _ _ _).mono ?_
  rintro r w2 ⟨rfl, hb⟩
  replace g1 := Below.blk hb g1 (blk_lt g1)
  replace g2 := Below.blk hb g2 (blk_lt g2)
  replace b1 := b1.trans (hb.mono b1.size)
  clear hb
  have k1 := blk_lt g1
  have k2 := blk_lt g2
  go_wp2_with fail
  obtain ⟨W, hW⟩ : ∃ W, W = (w2.alloc (ablk 65536 0 0 65536 (clip x) (clip y))).alloc (ablk 65536 0 0 65536 (clip (-clip x)) (clip (-clip y))) := ⟨_, rfl⟩
  rw [← hW]
  have g3 : W.heap[w2.heap.size]? = some (ablk 65536 0 0 65536 (clip x) (clip y)) := by rw [hW]; exact blk_alloc (heap_alloc_new w2 _) _
  have g4 : W.heap[w2.heap.size + 1]? = some (ablk 65536 0 0 65536 (clip (-clip x)) (clip (-clip y))) := by rw [hW]; simpa using heap_alloc_new (w2.alloc (ablk 65536 0 0 65536 (clip x) (clip y))) (ablk 65536 0 0 65536 (clip (-clip x)) (clip (-clip y)))
  replace g1 : W.heap[w.heap.size]? = some (ablk a b c d e f) := by rw [hW]; exact blk_alloc (blk_alloc g1 _) _
  replace g2 : W.heap[w.heap.size + 1]? = some (ablk 0 0 0 0 0 0) := by rw [hW]; exact blk_alloc (blk_alloc g2 _) _
  replace b1 : Below w.heap.size w W := by rw [hW]; exact (b1.alloc b1.size _).alloc (by simp; omega) _
  clear hW k1 k2
  obtain ⟨c0, c1, c2, c3, c4, c5⟩ := aff_ext g1
  obtain ⟨d0, d1, d2, d3, d4, d5⟩ := aff_ext g3
  obtain ⟨e0, e1, e2, e3, e4, e5⟩ := aff_ext g4
  have hin := Ext.inh W
  refine region_ext_tail 5 (by kernel_rfl) (by kernel_rfl) ?_
  simp only [List.take_succ_cons, List.take_zero, List.drop_succ_cons, List.drop_zero]
  repeat (go_big_quiet_step (first | (go_at_call 6; exact Ext.call (mul6_any _ _ _ _ _ _ _ _ _ _ _ _ _))))
  refine wpQuiet_nil ?_
  rintro W1 ⟨⟨_, hk⟩, rfl⟩
  replace g2 := Below.blk hk g2 (blk_lt g2)
  replace b1 := b1.trans (hk.mono b1.size)
  go_wp2_with (refine store_aff g2 rfl _ _ _ _ _ _ _ _ (by rfl) (by rfl) (by rfl) (by rfl) ?_)
  refine bodyPost_ret (res_aff rfl _ _ _ _ _ _ rfl (setRow_heap _ _ _ _ _ _ g2) rfl) rfl ?_
  exact ⟨rfl, below_row b1 (by omega) _⟩

end Go.Proofs.Ytkgkoicmpjnjgaa
