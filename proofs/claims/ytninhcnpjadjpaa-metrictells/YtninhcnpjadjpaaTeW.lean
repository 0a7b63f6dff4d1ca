/-
  MetricTells' own walk.
-/
import Derived.Test.YtninhcnpjadjpaaWhy
import Derived.Test.YtninhcnpjadjpaaGat
import Derived.Test.YtninhcnpjadjpaaSeg
import Derived.Deep.CutRange
import Derived.BigQuiet
namespace Go.Proofs.Ytninhcnpjadjpaa
open Go.RowKit

theorem look_byte {z : Nat → Nat} (hz : ∀ i, z i < 256) {u : ByteArray} {t : Tb} (h : look z u = some t) : ∀ i, t.z i < 256 := by
  unfold look at h
  split at h
  · cases h; exact fun i => hz _
  · cases h
theorem rdM_g {z : Nat → Nat} (hz : ∀ i, z i < 256) : (rdM (look z hdT) (look z mxT)).g ≤ 9223372036854775807 := by
  unfold rdM
  split
  · show ((u16o (look z mxT) 4 : Nat) : Int) ≤ _
    cases h : look z mxT with
    | none => show ((0 : Nat) : Int) ≤ _; omega
    | some t =>
      have := u16_lt t.z (look_byte hz h) 4
      show ((numv t.z 4 2 : Nat) : Int) ≤ _
      omega
  · show (0 : Int) ≤ _; omega
theorem rval_mk (a b c : Nat) : rval (a, b, c) = .tuple #[.int .i64 (a : Nat), .int .i64 (b : Nat), .int .i64 (c : Nat)] := rfl
theorem sum_tabU (T : Nat → Tab) (N : Tab) {i : Nat} (hi : i < 4) : sumN (tabU T i N) 4 ≤ sumN T 4 + N.l := by
  rw [sum4, sum4]
  rcases (show i = 0 ∨ i = 1 ∨ i = 2 ∨ i = 3 by omega) with rfl | rfl | rfl | rfl <;> simp [tabU] <;> omega
theorem apart_of {w : World} {a : Option Addr} {l c gl : Nat} {z : Nat → Nat} (h : Lies w a l c z) (hg : w.heap.size ≤ gl) : 0 < l → ∀ b off sp, a = some ⟨b, off, sp⟩ → b ≠ gl := fun h0 b off sp e => by
  obtain ⟨b', o', e', hb, _⟩ := h.spot h0
  rw [e'] at e
  simp only [Option.some.injEq, Addr.mk.injEq] at e
  omega
theorem wrap_fit {q : Int} (h : -9223372036854775808 ≤ q ∧ q ≤ 9223372036854775807) : IntKind.wrap .i64 q = q := by
  simp [IntKind.wrap, IntKind.signed, IntKind.bits]; omega
theorem tdiv_12 {x : Int} (h : -9223372036854775808 ≤ x ∧ x ≤ 9223372036854775807) : -9223372036854775808 ≤ x.tdiv 12 ∧ x.tdiv 12 ≤ 9223372036854775807 := by
  rcases Int.le_total 0 x with h0 | h0
  · rw [Int.tdiv_eq_ediv_of_nonneg h0]; omega
  · have e : x.tdiv 12 = -((-x).tdiv 12) := by rw [Int.neg_tdiv]; omega
    rw [e, Int.tdiv_eq_ediv_of_nonneg (show 0 ≤ -x by omega)]; omega
theorem tdiv_3 {x : Int} (h : -9223372036854775808 ≤ x ∧ x ≤ 9223372036854775807) : -9223372036854775808 ≤ x.tdiv 3 ∧ x.tdiv 3 ≤ 9223372036854775807 := by
  rcases Int.le_total 0 x with h0 | h0
  · rw [Int.tdiv_eq_ediv_of_nonneg h0]; omega
  · have e : x.tdiv 3 = -((-x).tdiv 3) := by rw [Int.neg_tdiv]; omega
    rw [e, Int.tdiv_eq_ediv_of_nonneg (show 0 ≤ -x by omega)]; omega
theorem own_empty (w : World) (base : Nat) (e : TypeId) (hb : base ≤ w.heap.size) : (w.alloc (.cells #[] e)).ownsRow base e 1 (.slice (some ⟨w.heap.size, 0, none⟩) 0 0) 0 [] :=
  ⟨rfl, .inr ⟨w.heap.size, 0, #[], rfl, hb, blk_new w _, Nat.le_refl _, by unfold maxLen; omega, rfl, rfl⟩⟩
theorem app_many {t e : TypeId} {z : Value} {size bytes : Nat} (E : ETy t e z size bytes) {w0 w : World} {base B0 : Nat} {v : Value} {n : Nat} {xs : List Value} (hO : w.ownsRow base e size v n xs) (hB : Below B0 w0 w) (hbase : base ≤ w.heap.size)
    {b off m c : Nat} {news : List Value} (hl : news.length = m * size) (hnews : ∀ j u, news[j]? = some u → w.cell? ⟨b, off + j, none⟩ = some u) (h1 : ∀ u ∈ news, u.oneCell' = true) (hn : n + m ≤ 100000) (hB0 : B0 ≤ base := by exact Nat.le_refl _) :
    ∃ v' w', (Builtin.append_ #[t, t] t #[v, .slice (some ⟨b, off, none⟩) m c]).run Try.prog w = .ok v' w' ∧
      ((∃ a' c', v' = .slice a' (n + m) c') ∧ w'.ownsRow base e size v' (n + m) (xs ++ news) ∧ Below B0 w0 w' ∧ w.heap.size ≤ w'.heap.size ∧ ∀ q, q < w.heap.size → v.ownBlock ≠ some q → w'.heap[q]? = w.heap[q]?) := by
  obtain ⟨i, hi', h2, h3, h4⟩ := info_of E.hi
  obtain ⟨v', w', hr, ho, hg, _⟩ := run_append_own (P := Try.prog) w base t t e i z size bytes E.ht hi' h2 h4 h3 E.hz E.hs v n xs hO ⟨b, off, none⟩ m c news hl
    (fun j u hj => by rw [add_none]; exact hnews j u hj) h1 (by unfold maxLen; omega) (by
      have : (n + m) * bytes ≤ 100000 * 32 := Nat.mul_le_mul hn E.hb
      omega) hbase
  refine ⟨v', w', hr, ?_, ho, hB.grown hg (Nat.le_trans hB0 hbase) (fun k hk => Nat.le_trans hB0 (World.ownsRow.lt hO k hk).1), hg.size, fun q hq hne => hg.block q hq (fun e => hne e.symm)⟩
  rcases ho.2 with ⟨rfl, h0⟩ | ⟨g, cap, cur, rfl, _⟩
  · exact ⟨_, _, by rw [h0]⟩
  · exact ⟨_, _, rfl⟩
theorem step_appv {P : Program} {w : World} {ops : Array Oper} {o : Oper} {a : Act} {K : Act → World → Prop} {Q : Exit → Act → World → Prop} {E : Prop} (hgd : o.guard = none) (s x : Operand) (t u : TypeId)
    (ho : o.op = .call { callee := .builtin .append, args := #[s, x], argTypes := #[t, u] }) {v1 v2 : Value} {R : Value → World → Prop} (hs : a.eval s = v1) (hx : a.eval x = v2)
    (hrun : ∃ v' w', (Builtin.append_ #[t, u] o.type #[v1, v2]).run P w = .ok v' w' ∧ R v' w')
    (h : ∀ v' w', R v' w' → K (a.put o.dst v') w') : if Region.wanted o (yielded ops a.tmps) = true then Oper.wp P o a w K Q else E := by
  obtain ⟨v', w', hr, hR⟩ := hrun
  have hw : Region.wanted o (yielded ops a.tmps) = true := by simp [Region.wanted, hgd]
  rw [if_pos hw]
  unfold Oper.wp execOp
  simp only [ho, resolve, invoke, builtin, Sem.run_bind, Sem.run_pure, Result.andThen_ok, List.map_toArray, List.map_cons, List.map_nil, hs, hx, hr]
  exact h v' w' hR
set_option maxRecDepth 100000 in
set_option maxHeartbeats 64000000 in
theorem tells_walk (w : World) (x : Int) (b : Bool) (a1 : Option Addr) (n c1 : Nat) (L : Nat → Tab) (which : Int) (a4 : Option Addr) (l4 c4 : Nat) (z4 : Nat → Nat) (a5 : Option Addr) (l5 c5 : Nat) (z5 : Nat → Nat) (a6 : Option Addr) (l6 c6 : Nat) (z6 : Nat → Nat)
    (a7 : Option Addr) (n7 c7 : Nat) (f7 : Nat → Int) (y ask : Int) (raw : Bool)
    (h1 : Tabs w a1 n c1 L) (hL : ∀ i, i < n → (L i).l ≤ 140737488351232) (h4 : Lies w a4 l4 c4 z4) (hl4 : l4 ≤ 140737488351232) (h5 : Lies w a5 l5 c5 z5) (hl5 : l5 ≤ 140737488351232) (h6 : Lies w a6 l6 c6 z6) (hl6 : l6 ≤ 140737488351232) (h7 : Ints w a7 n7 c7 f7) (hy : 0 ≤ y ∧ y < 256)
    (hwh : -9223372036854775808 ≤ which ∧ which ≤ 9223372036854775807) :
    Calls Try.prog 4 #[.int .i64 x, .bool b, .slice a1 n c1, .int .i64 which, .slice a4 l4 c4, .slice a5 l5 c5, .slice a6 l6 c6, .slice a7 n7 c7, .int .u8 y, .int .i64 ask, .bool raw] w fun e w' => e = .returned (.bool true) ∧ Below w.heap.size w w' := by
  obtain ⟨yn, rfl⟩ : ∃ m : Nat, y = m := ⟨y.toNat, by omega⟩
  have hyn : yn < 256 := by omega
  have hr1 := h1.reach
  have hlc := h1.lc
  have P1 := fun W => pick_big x 3000 (by omega) (by omega) W
  have hp1 := pickv_lt x 3000 (by omega)
  obtain ⟨r1, hr1'⟩ : ∃ r, Hid (pickv x 3000 = r) := ⟨_, rfl⟩
  rw [hr1'.out] at hp1
  simp only [hr1'.out] at P1
  have P2 := fun W => pick_big x 65536 (by omega) (by omega) W
  have hp2 := pickv_lt x 65536 (by omega)
  obtain ⟨r2, hr2'⟩ : ∃ r, Hid (pickv x 65536 = r) := ⟨_, rfl⟩
  rw [hr2'.out] at hp2
  simp only [hr2'.out] at P2
  have P3 := fun W => pick_big which 12 (by omega) (by omega) W
  have hp3 := pickv_lt which 12 (by omega)
  obtain ⟨p, hp'⟩ : ∃ r, Hid (pickv which 12 = r) := ⟨_, rfl⟩
  rw [hp'.out] at hp3
  simp only [hp'.out] at P3
  go_enter Try.func4, Try.ntmps4
  go_wp2_with fail
  go_loopw [23, 24] (fun v i wq => ∃ (k : Nat) (t : Nat → Tab), i = .int .i64 (k : Nat) ∧ k ≤ 6 ∧ Hid (Gath wq w.heap.size 0 k (.slice none 0 0) v (fun _ => hdT) t) ∧ Hid (∀ i, i < k → (t i).l ≤ 40) ∧ Below w.heap.size w wq) (fun _ i _ => 6 - (intOf i).toNat)
  case atStart => exact ⟨0, fun _ => ⟨none, 0, 0, fun _ => 0⟩, rfl, by omega, Gath.nil _ _ _ _, fun i hi => by omega, Below.refl _ _⟩
  case round =>
    obtain ⟨k, t, rfl, hk, hG, hl40, hB⟩ := hrel
    obtain ⟨_, _, av, cv, _, hv, _, hT0⟩ := hG.out.take (by omega) (by omega)
    subst hv
    by_cases hc : k < n ∧ k < 6
    · obtain ⟨q1, q2⟩ := hc
      have q1' : (k : Int) < n := by omega
      have q2' : (k : Int) < 6 := by omega
      obtain ⟨bb, off, rfl, hb, hcl⟩ := h1.spot (by omega)
      have d0 : wr.cell? ⟨bb, off + k, none⟩ = some (.slice (L k).a (L k).l (L k).c) := by
        rw [World.cell?_of_block (a := ⟨bb, off + k, none⟩) (hB.block bb hb), hcl k q1]
      have hLk := hL k q1
      have LK := h1.each k q1
      obtain ⟨kk, hkk⟩ : ∃ kk, kk = min (L k).l 40 := ⟨_, rfl⟩
      have hkb : kk ≤ 40 := by omega
      have FW := few_up (L k).a (L k).l (L k).c 40 kk (L k).z wr (LK.below hB (Nat.le_refl _)) (by omega) (by omega) hkk
      have hzb := LK.byte
      clear hkk LK hcl hT0
      go_wp2_with fail
      refine FW.mono ?_
      rintro e w4 ⟨g4, cc4, rfl, O4, b4⟩
      have B4 := hB.trans (b4.mono hB.size)
      have F4 := own_lies5 O4 hzb (by omega)
      have G4 := (hG.out.below b4).below ((Below.refl _ _).alloc (Nat.le_refl _) (.cells #[.slice (some ⟨g4, 0, none⟩) kk cc4] 29))
      have F5 := F4.same (Same5.of_below ((Below.refl _ _).alloc (Nat.le_refl _) (.cells #[.slice (some ⟨g4, 0, none⟩) kk cc4] 29)))
      have HAP : Hid (_) := app_one E27 (w0 := w) (w := w4.alloc (.cells #[.slice (some ⟨g4, 0, none⟩) kk cc4] 29)) G4.o2 (B4.alloc B4.size _) (by have := B4.size; simp; omega) (blk_new w4 (.cells #[.slice (some ⟨g4, 0, none⟩) kk cc4] 29)) (news := [.slice (some ⟨g4, 0, none⟩) kk cc4]) rfl (by intro u hu; simp at hu; rw [hu]; rfl) (by omega)
      have HG4 : Hid (Gath _ _ _ _ _ _ _ _) := G4
      have HF5 : Hid (Lies5 _ _) := F5
      clear G4 F5 F4 O4 FW
      go_wp2_with (at_builtin; refine wpList_app2 rfl (.tmp 61) (.tmp 67) 31 31 rfl rfl rfl HAP.out ?_; rintro g5 cc5 w5 hR1; have HR5 : Hid (_) := hR1; clear hR1)
      refine ⟨⟨k + 1, _, by go_num, by omega, HG4.out.tab HF5.out (by show kk ≤ 100; omega) HR5.out.1 HR5.out.2.2.1 HR5.out.2.2.2, fun i hi => ?_, HR5.out.2.1⟩, by simp [intOf]; omega⟩
      by_cases e : i = k
      · subst e; rw [tabU_at]; exact hkb
      · rw [tabU_old t _ (by omega)]; exact hl40.out i (by omega)
    · go_upto_region 3 with fail
      go_cut [58] from 51 to 57 (fun v wx => v = .bool false ∧ wx = wr)
      case first =>
        rcases (show (¬ (k : Int) < n) ∨ ((k : Int) < n ∧ ¬ (k : Int) < 6) by omega) with c1' | ⟨c1', c2'⟩
        · clear hc
          go_wp2
          go_meet
          case rel => exact ⟨rfl, rfl⟩
        · clear hc
          go_wp2
          go_meet
          case rel => exact ⟨rfl, rfl⟩
      case rest =>
        obtain ⟨hv1, hw1⟩ := hcut
        subst hv1
        subst hw1
        have hk12 : k ≤ 12 := by omega
        have PB := fun (u : Nat) W (hh : Tabs W av k cv t) => base_any u av k cv t b W hh hk12 hl40.out
        clear hG hc
        obtain ⟨m9, hm9⟩ : ∃ m, x.tmod 9 = m := ⟨_, rfl⟩
        go_upto_if 74 with (go_at_call 15; refine (P1 _).mono ?_; rintro e w' ⟨rfl, rfl⟩)
        go_cut [25] from 75 to 76 (fun v wx => ∃ u : Nat, v = .int .i64 (u : Nat) ∧ Hid (Tabs wx av k cv t) ∧ Below w.heap.size w wx)
        case first =>
          have HT0 : Hid (Tabs w' av k cv t) := hT0
          by_cases e8 : m9 = 8
          · subst e8
            go_wp2_with (go_at_call 15; refine (P2 _).mono ?_; rintro e w' ⟨rfl, rfl⟩)
            go_meet
            case rel => exact ⟨r2, rfl, HT0, hB⟩
          · have e8' : (m9 == 8) = false := by rw [beq_eq_false_iff_ne]; exact e8
            have e8'' : decide (m9 = 8) = false := decide_eq_false e8
            go_wp2
            go_meet
            case rel => exact ⟨16 + r1, rfl, HT0, hB⟩
        case rest =>
          obtain ⟨u, rfl, hT1, hB1⟩ := hcut
          have PB' := PB u _ hT1.out
          clear PB hT0 hB
          go_wp2_with fail
          refine PB'.mono ?_
          rintro e w5 ⟨gt, gl, T, rfl, b5, hgl, hB5, hC⟩
          have B5 := hB1.trans (b5.mono hB1.size)
          have hS := bcon_sum hC hk12 hl40.out
          have hgl2 : w.heap.size ≤ gl := Nat.le_trans hB1.size hgl
          have hT5 := hB5.two
          clear PB' hT1 hB1 b5 hgl hB5 hC hm9
          go_upto_region 10 with fail
          go_cut [85] from 84 to 84 (fun v wx => v = .int .i64 (p : Nat) ∧ wx = w5)
          case first =>
            go_wp2_with (go_at_call 15; refine (P3 _).mono ?_; rintro e w' ⟨rfl, rfl⟩)
            go_meet
            case rel => exact ⟨rfl, rfl⟩
          case rest =>
          obtain ⟨hv2, hw2⟩ := hcut
          subst hv2
          subst hw2
          go_step
          go_cut [26, 27] from 28 to 174 (fun tv lv wx => ∃ (ta : Option Addr) (nn tc : Nat) (s : Nat → ByteArray) (la : Option Addr) (lc : Nat) (T' : Nat → Tab), tv = .slice ta nn tc ∧ lv = .slice la nn lc ∧ Hid (Strs wx ta nn tc s) ∧ Hid (Tabs wx la nn lc T') ∧ Hid (okN s nn = true) ∧ nn ≤ 4 ∧ Hid (sumN T' nn ≤ 140737488400000) ∧ Below w.heap.size w wx)
          case first =>
            rcases (show p < 6 ∨ p = 6 ∨ p = 7 ∨ p = 8 ∨ p = 9 ∨ p = 10 ∨ p = 11 by omega) with hp6 | rfl | rfl | rfl | rfl | rfl | rfl
            · have e6 : ((p : Int) == 6) = false := by rw [beq_eq_false_iff_ne]; omega
              have e7 : ((p : Int) == 7) = false := by rw [beq_eq_false_iff_ne]; omega
              have e8 : ((p : Int) == 8) = false := by rw [beq_eq_false_iff_ne]; omega
              have e9 : ((p : Int) == 9) = false := by rw [beq_eq_false_iff_ne]; omega
              have e10 : ((p : Int) == 10) = false := by rw [beq_eq_false_iff_ne]; omega
              have e11 : ((p : Int) == 11) = false := by rw [beq_eq_false_iff_ne]; omega
              have i6 : ¬ (p : Int) = 6 := by omega
              have i7 : ¬ (p : Int) = 7 := by omega
              have i8 : ¬ (p : Int) = 8 := by omega
              have i9 : ¬ (p : Int) = 9 := by omega
              have i10 : ¬ (p : Int) = 10 := by omega
              have i11 : ¬ (p : Int) = 11 := by omega
              have HB : Hid (Bs2 wc gt gl T) := hT5
              go_wp2
              go_meet
              case rel => exact ⟨_, 4, 4, tag4, _, 4, T, rfl, rfl, HB.out.strs, HB.out.tables, tag4_ok, by omega, by show _ ≤ _; omega, B5⟩
            · have HB : Hid (Bs2 (wc.setCell ⟨gl, 0, none⟩ (.slice a4 l4 c4)) gt gl (tabU T 0 ⟨a4, l4, c4, z4⟩)) := hT5.set 0 ⟨a4, l4, c4, z4⟩ (h4.below B5 (Nat.le_refl _)) (apart_of h4 hgl2)
              have HW : Hid (Below w.heap.size w (wc.setCell ⟨gl, 0, none⟩ (.slice a4 l4 c4))) := B5.setCell (by show w.heap.size ≤ gl; exact hgl2) _
              have HS : Hid (sumN (tabU T 0 ⟨a4, l4, c4, z4⟩) 4 ≤ 140737488400000) := by show _ ≤ _; have := sum_tabU T ⟨a4, l4, c4, z4⟩ (i := 0) (by omega); simp only at this; omega
              have f0 := blk_free hT5.tabs 0
              have c0 := arr_cell hT5.tabs (t := 0) (by omega)
              go_wp2
              go_meet
              case rel => exact ⟨_, 4, 4, tag4, _, 4, tabU T 0 ⟨a4, l4, c4, z4⟩, rfl, rfl, HB.out.strs, HB.out.tables, tag4_ok, by omega, HS, HW.out⟩
            · have HB : Hid (Bs2 (wc.setCell ⟨gl, 1, none⟩ (.slice a5 l5 c5)) gt gl (tabU T 1 ⟨a5, l5, c5, z5⟩)) := hT5.set 1 ⟨a5, l5, c5, z5⟩ (h5.below B5 (Nat.le_refl _)) (apart_of h5 hgl2)
              have HW : Hid (Below w.heap.size w (wc.setCell ⟨gl, 1, none⟩ (.slice a5 l5 c5))) := B5.setCell (by show w.heap.size ≤ gl; exact hgl2) _
              have HS : Hid (sumN (tabU T 1 ⟨a5, l5, c5, z5⟩) 4 ≤ 140737488400000) := by show _ ≤ _; have := sum_tabU T ⟨a5, l5, c5, z5⟩ (i := 1) (by omega); simp only at this; omega
              have f0 := blk_free hT5.tabs 1
              have c0 := arr_cell hT5.tabs (t := 1) (by omega)
              go_wp2
              go_meet
              case rel => exact ⟨_, 4, 4, tag4, _, 4, tabU T 1 ⟨a5, l5, c5, z5⟩, rfl, rfl, HB.out.strs, HB.out.tables, tag4_ok, by omega, HS, HW.out⟩
            · have HB : Hid (Bs2 (wc.setCell ⟨gl, 2, none⟩ (.slice a6 l6 c6)) gt gl (tabU T 2 ⟨a6, l6, c6, z6⟩)) := hT5.set 2 ⟨a6, l6, c6, z6⟩ (h6.below B5 (Nat.le_refl _)) (apart_of h6 hgl2)
              have HW : Hid (Below w.heap.size w (wc.setCell ⟨gl, 2, none⟩ (.slice a6 l6 c6))) := B5.setCell (by show w.heap.size ≤ gl; exact hgl2) _
              have HS : Hid (sumN (tabU T 2 ⟨a6, l6, c6, z6⟩) 4 ≤ 140737488400000) := by show _ ≤ _; have := sum_tabU T ⟨a6, l6, c6, z6⟩ (i := 2) (by omega); simp only at this; omega
              have f0 := blk_free hT5.tabs 2
              have c0 := arr_cell hT5.tabs (t := 2) (by omega)
              go_wp2
              go_meet
              case rel => exact ⟨_, 4, 4, tag4, _, 4, tabU T 2 ⟨a6, l6, c6, z6⟩, rfl, rfl, HB.out.strs, HB.out.tables, tag4_ok, by omega, HS, HW.out⟩
            · have P4 := fun W => pick_big (which.tdiv 12) 4 (by omega) (by omega) W
              have hp4 := pickv_lt (which.tdiv 12) 4 (by omega)
              obtain ⟨kq, hkq⟩ : ∃ r, Hid (pickv (which.tdiv 12) 4 = r) := ⟨_, rfl⟩
              rw [hkq.out] at hp4
              simp only [hkq.out] at P4
              have hqb := tdiv_12 hwh
              obtain ⟨q12, hq12⟩ : ∃ q, which.tdiv 12 = q := ⟨_, rfl⟩
              rw [hq12] at hqb
              have hwq : IntKind.wrap .i64 q12 = q12 := wrap_fit hqb
              rw [hq12] at hkq
              simp only [hq12] at P4
              have gtlt := blk_lt hT5.tags
              have gtcell : ∀ i, i < 4 → wc.cell? ⟨gt, i, none⟩ = some (.string (tag4 i)) := fun i hi => by
                rw [blk_cell hT5.tags]
                rcases (show i = 0 ∨ i = 1 ∨ i = 2 ∨ i = 3 by omega) with rfl | rfl | rfl | rfl <;> rfl
              have ww1 : IntKind.wrap .i64 1 = 1 := by decide
              have ww2 : IntKind.wrap .i64 2 = 2 := by decide
              have ww3 : IntKind.wrap .i64 3 = 3 := by decide
              have ww4 : IntKind.wrap .i64 4 = 4 := by decide
              rcases (show kq = 0 ∨ kq = 1 ∨ kq = 2 ∨ kq = 3 by omega) with rfl | rfl | rfl | rfl
              · go_wp2_with (go_at_call 15; refine (P4 _).mono ?_; rintro e wq ⟨rfl, hww⟩; rw [hww]; clear hww)
                go_wp2_with fail
                refine region_segs [] [
                  [{ dst := some 106, op := Op.buildSlice 30 0 #[], type := 30, pos := "law.go:86", after := #[], guard := none },
                   { dst := some 107, op := Op.move (Operand.tmp 26), type := 30, pos := "law.go:86", after := #[], guard := none },
                   { dst := some 108, op := Op.move (Operand.tmp 28), type := 3, pos := "law.go:86", after := #[], guard := none },
                   { dst := some 109, op := Op.slice 30 (Operand.tmp 107) none (some (Operand.tmp 108)) none, type := 30, pos := "law.go:86", after := #[{ on := 1, ground := Ground.data }, { on := 2, ground := Ground.data }], guard := none },
                   { dst := some 110, op := Op.call { callee := Callee.builtin Builtin.append, args := #[Operand.tmp 106, Operand.tmp 109], argTypes := #[30, 30] }, type := 30, pos := "law.go:86", after := #[{ on := 0, ground := Ground.data }, { on := 3, ground := Ground.data }], guard := none },
                   { dst := some 111, op := Op.move (Operand.tmp 26), type := 30, pos := "law.go:86", after := #[], guard := none },
                   { dst := some 112, op := Op.move (Operand.tmp 28), type := 3, pos := "law.go:86", after := #[], guard := none },
                   { dst := some 113, op := Op.binOp BinOp.add 3 (Operand.tmp 112) (Operand.const (Value.int IntKind.i64 1)) 3, type := 3, pos := "law.go:86", after := #[{ on := 6, ground := Ground.data }], guard := none },
                   { dst := some 114, op := Op.slice 30 (Operand.tmp 111) (some (Operand.tmp 113)) none none, type := 30, pos := "law.go:86", after := #[{ on := 5, ground := Ground.data }, { on := 7, ground := Ground.data }], guard := none },
                   { dst := some 115, op := Op.call { callee := Callee.builtin Builtin.append, args := #[Operand.tmp 110, Operand.tmp 114], argTypes := #[30, 30] }, type := 30, pos := "law.go:86", after := #[{ on := 4, ground := Ground.data }, { on := 8, ground := Ground.data }, { on := 4, ground := Ground.chain }], guard := none },
                   { dst := some 26, op := Op.assign (Operand.tmp 115), type := 30, pos := "law.go:86", after := #[{ on := 9, ground := Ground.data }, { on := 9, ground := Ground.chain }, { on := 0, ground := Ground.phase }, { on := 1, ground := Ground.phase }, { on := 2, ground := Ground.phase }, { on := 3, ground := Ground.phase }, { on := 4, ground := Ground.phase }, { on := 5, ground := Ground.phase }, { on := 6, ground := Ground.phase }, { on := 7, ground := Ground.phase }, { on := 8, ground := Ground.phase }, { on := 9, ground := Ground.phase }], guard := none }]
                  ] (by kernel_rfl) (by kernel_rfl) (by kernel_rfl) ?_
                obtain ⟨U, hU⟩ : ∃ x, x = wc.drew := ⟨_, rfl⟩
                rw [← hU]
                have SU : True := trivial
                have BU : Below wc.heap.size wc U := by rw [hU]; exact (Below.refl _ _).drew
                have hUs : Hid (U.heap.size = wc.heap.size) := by show _ = _; rw [hU]; rfl
                clear hU
                refine chain_last 11 (fun _ => True) (by kernel_rfl) ?_
                refine wpAnyH_take (i := 1) (oi := { dst := some 107, op := Op.move (Operand.tmp 26), type := 30, pos := "law.go:86", after := #[], guard := none }) (v := ?_) rfl (by kernel_rfl) (by kernel_rfl) (by kernel_rfl) (fun _ _ _ h => h) (Or.inl ⟨by rfl, ?_⟩) SU ?_
                rotate_left
                · (intro w' hSw; go_simp) <;> with_reducible rfl
                try simp only [Act.put, List.setIfInBounds_toArray, List.set_cons_zero, List.set_cons_succ]
                refine wpAnyH_take (i := 2) (oi := { dst := some 108, op := Op.move (Operand.tmp 28), type := 3, pos := "law.go:86", after := #[], guard := none }) (v := ?_) rfl (by kernel_rfl) (by kernel_rfl) (by kernel_rfl) (fun _ _ _ h => h) (Or.inl ⟨by rfl, ?_⟩) SU ?_
                rotate_left
                · (intro w' hSw; go_simp) <;> with_reducible rfl
                try simp only [Act.put, List.setIfInBounds_toArray, List.set_cons_zero, List.set_cons_succ]
                refine wpAnyH_take (i := 3) (oi := { dst := some 109, op := Op.slice 30 (Operand.tmp 107) none (some (Operand.tmp 108)) none, type := 30, pos := "law.go:86", after := #[{ on := 1, ground := Ground.data }, { on := 2, ground := Ground.data }], guard := none }) (v := ?_) rfl (by kernel_rfl) (by kernel_rfl) (by kernel_rfl) (fun _ _ _ h => h) (Or.inl ⟨by rfl, ?_⟩) SU ?_
                rotate_left
                · (intro w' hSw; go_simp) <;> with_reducible rfl
                try simp only [Act.put, List.setIfInBounds_toArray, List.set_cons_zero, List.set_cons_succ]
                refine wpAnyH_take (i := 5) (oi := { dst := some 111, op := Op.move (Operand.tmp 26), type := 30, pos := "law.go:86", after := #[], guard := none }) (v := ?_) rfl (by kernel_rfl) (by kernel_rfl) (by kernel_rfl) (fun _ _ _ h => h) (Or.inl ⟨by rfl, ?_⟩) SU ?_
                rotate_left
                · (intro w' hSw; go_simp) <;> with_reducible rfl
                try simp only [Act.put, List.setIfInBounds_toArray, List.set_cons_zero, List.set_cons_succ]
                refine wpAnyH_take (i := 6) (oi := { dst := some 112, op := Op.move (Operand.tmp 28), type := 3, pos := "law.go:86", after := #[], guard := none }) (v := ?_) rfl (by kernel_rfl) (by kernel_rfl) (by kernel_rfl) (fun _ _ _ h => h) (Or.inl ⟨by rfl, ?_⟩) SU ?_
                rotate_left
                · (intro w' hSw; go_simp) <;> with_reducible rfl
                try simp only [Act.put, List.setIfInBounds_toArray, List.set_cons_zero, List.set_cons_succ]
                refine wpAnyH_take (i := 7) (oi := { dst := some 113, op := Op.binOp BinOp.add 3 (Operand.tmp 112) (Operand.const (Value.int IntKind.i64 1)) 3, type := 3, pos := "law.go:86", after := #[{ on := 6, ground := Ground.data }], guard := none }) (v := ?_) rfl (by kernel_rfl) (by kernel_rfl) (by kernel_rfl) (fun _ _ _ h => h) (Or.inl ⟨by rfl, ?_⟩) SU ?_
                rotate_left
                · (intro w' hSw; go_simp) <;> with_reducible rfl
                try simp only [Act.put, List.setIfInBounds_toArray, List.set_cons_zero, List.set_cons_succ]
                refine wpAnyH_take (i := 8) (oi := { dst := some 114, op := Op.slice 30 (Operand.tmp 111) (some (Operand.tmp 113)) none none, type := 30, pos := "law.go:86", after := #[{ on := 5, ground := Ground.data }, { on := 7, ground := Ground.data }], guard := none }) (v := ?_) rfl (by kernel_rfl) (by kernel_rfl) (by kernel_rfl) (fun _ _ _ h => h) (Or.inl ⟨by rfl, ?_⟩) SU ?_
                rotate_left
                · (intro w' hSw; go_simp) <;> with_reducible rfl
                try simp only [Act.put, List.setIfInBounds_toArray, List.set_cons_zero, List.set_cons_succ]
                refine wpAnyH_ready (rs := [0]) (by kernel_rfl) (by simp) ?_
                refine AllReadyH.cons (o := { dst := some 106, op := Op.buildSlice 30 0 #[], type := 30, pos := "law.go:86", after := #[], guard := none }) rfl (fun K hK => ?_) AllReadyH.nil
                go_simp
                obtain ⟨Va, hVa⟩ : ∃ x, x = U.alloc (.cells #[] 9) := ⟨_, rfl⟩
                rw [← hVa]
                have Oa : Va.ownsRow wc.heap.size 9 1 (.slice (some ⟨U.heap.size, 0, none⟩) 0 0) 0 [] := by rw [hVa]; exact own_empty U wc.heap.size 9 (by rw [hUs.out]; exact Nat.le_refl _)
                have Ba : Below wc.heap.size wc Va := by rw [hVa]; exact BU.alloc (by rw [hUs.out]; exact Nat.le_refl _) _
                have HAa : Hid (_) := app_many E26 (w0 := wc) (w := Va) Oa Ba Ba.size (b := gt) (off := 0) (m := 0) (c := 4) (news := []) rfl (fun j u hj => by simp at hj) (by intro u hu; simp at hu) (by omega)
                refine hK.out _ _ trivial (fun _ => ?_)
                clear hK K
                try simp only [Act.put, List.setIfInBounds_toArray, List.set_cons_zero, List.set_cons_succ]
                refine wpAnyH_ready (rs := [4]) (by kernel_rfl) (by simp) ?_
                refine AllReadyH.cons (o := { dst := some 110, op := Op.call { callee := Callee.builtin Builtin.append, args := #[Operand.tmp 106, Operand.tmp 109], argTypes := #[30, 30] }, type := 30, pos := "law.go:86", after := #[{ on := 0, ground := Ground.data }, { on := 3, ground := Ground.data }], guard := none }) rfl (fun K hK => ?_) AllReadyH.nil
                refine step_appv (by rfl) (.tmp 106) (.tmp 109) 30 30 (by rfl) (by rfl) (by rfl) HAa.out ?_
                rintro vb Vb ⟨⟨ab, cb, rfl⟩, Ob, Bb, Zb, Rb⟩
                have HAb : Hid (_) := app_many E26 (w0 := wc) (w := Vb) Ob Bb Bb.size (b := gt) (off := 1) (m := 3) (c := 3) (news := [.string (tag4 1), .string (tag4 2), .string (tag4 3)]) rfl (fun j u hj => by
                    have hj' := (List.getElem?_eq_some_iff.1 hj).1
                    simp only [List.length_cons, List.length_nil] at hj'
                    rw [World.cell?_of_block (a := ⟨gt, 1 + j, none⟩) (Bb.block gt gtlt)]
                    rcases (show j = 0 ∨ j = 1 ∨ j = 2 by omega) with rfl | rfl | rfl <;> (first | (rw [← hj]; exact gtcell _ (by omega)))) (by intro u hu; simp at hu; (rcases hu with rfl | rfl | rfl) <;> rfl) (by omega)
                refine hK.out _ _ trivial (fun _ => ?_)
                clear hK K
                try simp only [Act.put, List.setIfInBounds_toArray, List.set_cons_zero, List.set_cons_succ]
                refine wpAnyH_ready (rs := [9]) (by kernel_rfl) (by simp) ?_
                refine AllReadyH.cons (o := { dst := some 115, op := Op.call { callee := Callee.builtin Builtin.append, args := #[Operand.tmp 110, Operand.tmp 114], argTypes := #[30, 30] }, type := 30, pos := "law.go:86", after := #[{ on := 4, ground := Ground.data }, { on := 8, ground := Ground.data }, { on := 4, ground := Ground.chain }], guard := none }) rfl (fun K hK => ?_) AllReadyH.nil
                refine step_appv (by rfl) (.tmp 110) (.tmp 114) 30 30 (by rfl) (by rfl) (by rfl) HAb.out ?_
                rintro vc Vc ⟨⟨ac, cc, rfl⟩, Oc, Bc, Zc, Rc⟩
                refine hK.out _ _ trivial (fun _ => ?_)
                clear hK K
                try simp only [Act.put, List.setIfInBounds_toArray, List.set_cons_zero, List.set_cons_succ]
                refine wpAnyH_take (i := 10) (oi := { dst := some 26, op := Op.assign (Operand.tmp 115), type := 30, pos := "law.go:86", after := #[{ on := 9, ground := Ground.data }, { on := 9, ground := Ground.chain }, { on := 0, ground := Ground.phase }, { on := 1, ground := Ground.phase }, { on := 2, ground := Ground.phase }, { on := 3, ground := Ground.phase }, { on := 4, ground := Ground.phase }, { on := 5, ground := Ground.phase }, { on := 6, ground := Ground.phase }, { on := 7, ground := Ground.phase }, { on := 8, ground := Ground.phase }, { on := 9, ground := Ground.phase }], guard := none }) (v := ?_) rfl (by kernel_rfl) (by kernel_rfl) (by kernel_rfl) (fun _ _ _ h => h) (Or.inl ⟨by rfl, ?_⟩) trivial ?_
                rotate_left
                · (intro w' hSw; go_simp) <;> with_reducible rfl
                try simp only [Act.put, List.setIfInBounds_toArray, List.set_cons_zero, List.set_cons_succ]
                refine wpAnyH_done (by kernel_rfl) ?_ _
                obtain ⟨a19, c19, e19, hSs⟩ := ownr_strs (s := fun i => if i = 0 then tag4 1 else if i = 1 then tag4 2 else tag4 3) (n := 3) Oc (by omega)
                simp only [Value.slice.injEq] at e19
                obtain ⟨rfl, _, rfl⟩ := e19
                have HSs : Hid (Strs Vc _ 3 _ _) := hSs
                have Bs1 : Below wc.heap.size wc Vc := Bc
                have hsV := Bc.size
                obtain ⟨w19, hw19⟩ : ∃ x, x = Vc := ⟨_, rfl⟩
                subst hw19
                clear hSs Oc Rc Zc Bb Ob Rb Zb HAa HAb Oa Ba BU hUs
                have gllt : gl < w19.heap.size := by have := blk_lt hT5.tabs; omega
                have glcell : ∀ i, i < 4 → w19.cell? ⟨gl, i, none⟩ = some (.slice (T i).a (T i).l (T i).c) := fun i hi => by rw [World.cell?_of_block (a := ⟨gl, i, none⟩) (Bs1.block gl (blk_lt hT5.tabs))]; exact arr_cell hT5.tabs hi
                go_wp2_with fail
                refine region_segs [] [
                  [{ dst := some 116, op := Op.buildSlice 31 0 #[], type := 31, pos := "law.go:87", after := #[], guard := none },
                   { dst := some 117, op := Op.move (Operand.tmp 27), type := 31, pos := "law.go:87", after := #[], guard := none },
                   { dst := some 118, op := Op.move (Operand.tmp 28), type := 3, pos := "law.go:87", after := #[], guard := none },
                   { dst := some 119, op := Op.slice 31 (Operand.tmp 117) none (some (Operand.tmp 118)) none, type := 31, pos := "law.go:87", after := #[{ on := 1, ground := Ground.data }, { on := 2, ground := Ground.data }], guard := none },
                   { dst := some 120, op := Op.call { callee := Callee.builtin Builtin.append, args := #[Operand.tmp 116, Operand.tmp 119], argTypes := #[31, 31] }, type := 31, pos := "law.go:87", after := #[{ on := 0, ground := Ground.data }, { on := 3, ground := Ground.data }], guard := none },
                   { dst := some 121, op := Op.move (Operand.tmp 27), type := 31, pos := "law.go:87", after := #[], guard := none },
                   { dst := some 122, op := Op.move (Operand.tmp 28), type := 3, pos := "law.go:87", after := #[], guard := none },
                   { dst := some 123, op := Op.binOp BinOp.add 3 (Operand.tmp 122) (Operand.const (Value.int IntKind.i64 1)) 3, type := 3, pos := "law.go:87", after := #[{ on := 6, ground := Ground.data }], guard := none },
                   { dst := some 124, op := Op.slice 31 (Operand.tmp 121) (some (Operand.tmp 123)) none none, type := 31, pos := "law.go:87", after := #[{ on := 5, ground := Ground.data }, { on := 7, ground := Ground.data }], guard := none },
                   { dst := some 125, op := Op.call { callee := Callee.builtin Builtin.append, args := #[Operand.tmp 120, Operand.tmp 124], argTypes := #[31, 31] }, type := 31, pos := "law.go:87", after := #[{ on := 4, ground := Ground.data }, { on := 8, ground := Ground.data }, { on := 4, ground := Ground.chain }], guard := none },
                   { dst := some 27, op := Op.assign (Operand.tmp 125), type := 31, pos := "law.go:87", after := #[{ on := 9, ground := Ground.data }, { on := 9, ground := Ground.chain }, { on := 0, ground := Ground.phase }, { on := 1, ground := Ground.phase }, { on := 2, ground := Ground.phase }, { on := 3, ground := Ground.phase }, { on := 4, ground := Ground.phase }, { on := 5, ground := Ground.phase }, { on := 6, ground := Ground.phase }, { on := 7, ground := Ground.phase }, { on := 8, ground := Ground.phase }, { on := 9, ground := Ground.phase }], guard := none }]
                  ] (by kernel_rfl) (by kernel_rfl) (by kernel_rfl) ?_
                obtain ⟨U, hU⟩ : ∃ x, x = w19.drew := ⟨_, rfl⟩
                rw [← hU]
                have SU : True := trivial
                have BU : Below w19.heap.size w19 U := by rw [hU]; exact (Below.refl _ _).drew
                have hUs : Hid (U.heap.size = w19.heap.size) := by show _ = _; rw [hU]; rfl
                clear hU
                refine chain_last 11 (fun _ => True) (by kernel_rfl) ?_
                refine wpAnyH_take (i := 1) (oi := { dst := some 117, op := Op.move (Operand.tmp 27), type := 31, pos := "law.go:87", after := #[], guard := none }) (v := ?_) rfl (by kernel_rfl) (by kernel_rfl) (by kernel_rfl) (fun _ _ _ h => h) (Or.inl ⟨by rfl, ?_⟩) SU ?_
                rotate_left
                · (intro w' hSw; go_simp) <;> with_reducible rfl
                try simp only [Act.put, List.setIfInBounds_toArray, List.set_cons_zero, List.set_cons_succ]
                refine wpAnyH_take (i := 2) (oi := { dst := some 118, op := Op.move (Operand.tmp 28), type := 3, pos := "law.go:87", after := #[], guard := none }) (v := ?_) rfl (by kernel_rfl) (by kernel_rfl) (by kernel_rfl) (fun _ _ _ h => h) (Or.inl ⟨by rfl, ?_⟩) SU ?_
                rotate_left
                · (intro w' hSw; go_simp) <;> with_reducible rfl
                try simp only [Act.put, List.setIfInBounds_toArray, List.set_cons_zero, List.set_cons_succ]
                refine wpAnyH_take (i := 3) (oi := { dst := some 119, op := Op.slice 31 (Operand.tmp 117) none (some (Operand.tmp 118)) none, type := 31, pos := "law.go:87", after := #[{ on := 1, ground := Ground.data }, { on := 2, ground := Ground.data }], guard := none }) (v := ?_) rfl (by kernel_rfl) (by kernel_rfl) (by kernel_rfl) (fun _ _ _ h => h) (Or.inl ⟨by rfl, ?_⟩) SU ?_
                rotate_left
                · (intro w' hSw; go_simp) <;> with_reducible rfl
                try simp only [Act.put, List.setIfInBounds_toArray, List.set_cons_zero, List.set_cons_succ]
                refine wpAnyH_take (i := 5) (oi := { dst := some 121, op := Op.move (Operand.tmp 27), type := 31, pos := "law.go:87", after := #[], guard := none }) (v := ?_) rfl (by kernel_rfl) (by kernel_rfl) (by kernel_rfl) (fun _ _ _ h => h) (Or.inl ⟨by rfl, ?_⟩) SU ?_
                rotate_left
                · (intro w' hSw; go_simp) <;> with_reducible rfl
                try simp only [Act.put, List.setIfInBounds_toArray, List.set_cons_zero, List.set_cons_succ]
                refine wpAnyH_take (i := 6) (oi := { dst := some 122, op := Op.move (Operand.tmp 28), type := 3, pos := "law.go:87", after := #[], guard := none }) (v := ?_) rfl (by kernel_rfl) (by kernel_rfl) (by kernel_rfl) (fun _ _ _ h => h) (Or.inl ⟨by rfl, ?_⟩) SU ?_
                rotate_left
                · (intro w' hSw; go_simp) <;> with_reducible rfl
                try simp only [Act.put, List.setIfInBounds_toArray, List.set_cons_zero, List.set_cons_succ]
                refine wpAnyH_take (i := 7) (oi := { dst := some 123, op := Op.binOp BinOp.add 3 (Operand.tmp 122) (Operand.const (Value.int IntKind.i64 1)) 3, type := 3, pos := "law.go:87", after := #[{ on := 6, ground := Ground.data }], guard := none }) (v := ?_) rfl (by kernel_rfl) (by kernel_rfl) (by kernel_rfl) (fun _ _ _ h => h) (Or.inl ⟨by rfl, ?_⟩) SU ?_
                rotate_left
                · (intro w' hSw; go_simp) <;> with_reducible rfl
                try simp only [Act.put, List.setIfInBounds_toArray, List.set_cons_zero, List.set_cons_succ]
                refine wpAnyH_take (i := 8) (oi := { dst := some 124, op := Op.slice 31 (Operand.tmp 121) (some (Operand.tmp 123)) none none, type := 31, pos := "law.go:87", after := #[{ on := 5, ground := Ground.data }, { on := 7, ground := Ground.data }], guard := none }) (v := ?_) rfl (by kernel_rfl) (by kernel_rfl) (by kernel_rfl) (fun _ _ _ h => h) (Or.inl ⟨by rfl, ?_⟩) SU ?_
                rotate_left
                · (intro w' hSw; go_simp) <;> with_reducible rfl
                try simp only [Act.put, List.setIfInBounds_toArray, List.set_cons_zero, List.set_cons_succ]
                refine wpAnyH_ready (rs := [0]) (by kernel_rfl) (by simp) ?_
                refine AllReadyH.cons (o := { dst := some 116, op := Op.buildSlice 31 0 #[], type := 31, pos := "law.go:87", after := #[], guard := none }) rfl (fun K hK => ?_) AllReadyH.nil
                go_simp
                obtain ⟨Va, hVa⟩ : ∃ x, x = U.alloc (.cells #[] 29) := ⟨_, rfl⟩
                rw [← hVa]
                have Oa : Va.ownsRow w19.heap.size 29 1 (.slice (some ⟨U.heap.size, 0, none⟩) 0 0) 0 [] := by rw [hVa]; exact own_empty U w19.heap.size 29 (by rw [hUs.out]; exact Nat.le_refl _)
                have Ba : Below w19.heap.size w19 Va := by rw [hVa]; exact BU.alloc (by rw [hUs.out]; exact Nat.le_refl _) _
                have HAa : Hid (_) := app_many E27 (w0 := w19) (w := Va) Oa Ba Ba.size (b := gl) (off := 0) (m := 0) (c := 4) (news := []) rfl (fun j u hj => by simp at hj) (by intro u hu; simp at hu) (by omega)
                refine hK.out _ _ trivial (fun _ => ?_)
                clear hK K
                try simp only [Act.put, List.setIfInBounds_toArray, List.set_cons_zero, List.set_cons_succ]
                refine wpAnyH_ready (rs := [4]) (by kernel_rfl) (by simp) ?_
                refine AllReadyH.cons (o := { dst := some 120, op := Op.call { callee := Callee.builtin Builtin.append, args := #[Operand.tmp 116, Operand.tmp 119], argTypes := #[31, 31] }, type := 31, pos := "law.go:87", after := #[{ on := 0, ground := Ground.data }, { on := 3, ground := Ground.data }], guard := none }) rfl (fun K hK => ?_) AllReadyH.nil
                refine step_appv (by rfl) (.tmp 116) (.tmp 119) 31 31 (by rfl) (by rfl) (by rfl) HAa.out ?_
                rintro vb Vb ⟨⟨ab, cb, rfl⟩, Ob, Bb, Zb, Rb⟩
                have HAb : Hid (_) := app_many E27 (w0 := w19) (w := Vb) Ob Bb Bb.size (b := gl) (off := 1) (m := 3) (c := 3) (news := [.slice (T 1).a (T 1).l (T 1).c, .slice (T 2).a (T 2).l (T 2).c, .slice (T 3).a (T 3).l (T 3).c]) rfl (fun j u hj => by
                    have hj' := (List.getElem?_eq_some_iff.1 hj).1
                    simp only [List.length_cons, List.length_nil] at hj'
                    rw [World.cell?_of_block (a := ⟨gl, 1 + j, none⟩) (Bb.block gl gllt)]
                    rcases (show j = 0 ∨ j = 1 ∨ j = 2 by omega) with rfl | rfl | rfl <;> (first | (rw [← hj]; exact glcell _ (by omega)))) (by intro u hu; simp at hu; (rcases hu with rfl | rfl | rfl) <;> rfl) (by omega)
                refine hK.out _ _ trivial (fun _ => ?_)
                clear hK K
                try simp only [Act.put, List.setIfInBounds_toArray, List.set_cons_zero, List.set_cons_succ]
                refine wpAnyH_ready (rs := [9]) (by kernel_rfl) (by simp) ?_
                refine AllReadyH.cons (o := { dst := some 125, op := Op.call { callee := Callee.builtin Builtin.append, args := #[Operand.tmp 120, Operand.tmp 124], argTypes := #[31, 31] }, type := 31, pos := "law.go:87", after := #[{ on := 4, ground := Ground.data }, { on := 8, ground := Ground.data }, { on := 4, ground := Ground.chain }], guard := none }) rfl (fun K hK => ?_) AllReadyH.nil
                refine step_appv (by rfl) (.tmp 120) (.tmp 124) 31 31 (by rfl) (by rfl) (by rfl) HAb.out ?_
                rintro vc Vc ⟨⟨ac, cc, rfl⟩, Oc, Bc, Zc, Rc⟩
                refine hK.out _ _ trivial (fun _ => ?_)
                clear hK K
                try simp only [Act.put, List.setIfInBounds_toArray, List.set_cons_zero, List.set_cons_succ]
                refine wpAnyH_take (i := 10) (oi := { dst := some 27, op := Op.assign (Operand.tmp 125), type := 31, pos := "law.go:87", after := #[{ on := 9, ground := Ground.data }, { on := 9, ground := Ground.chain }, { on := 0, ground := Ground.phase }, { on := 1, ground := Ground.phase }, { on := 2, ground := Ground.phase }, { on := 3, ground := Ground.phase }, { on := 4, ground := Ground.phase }, { on := 5, ground := Ground.phase }, { on := 6, ground := Ground.phase }, { on := 7, ground := Ground.phase }, { on := 8, ground := Ground.phase }, { on := 9, ground := Ground.phase }], guard := none }) (v := ?_) rfl (by kernel_rfl) (by kernel_rfl) (by kernel_rfl) (fun _ _ _ h => h) (Or.inl ⟨by rfl, ?_⟩) trivial ?_
                rotate_left
                · (intro w' hSw; go_simp) <;> with_reducible rfl
                try simp only [Act.put, List.setIfInBounds_toArray, List.set_cons_zero, List.set_cons_succ]
                refine wpAnyH_done (by kernel_rfl) ?_ _
                obtain ⟨a20, c20, e20, hTq⟩ := ownr_tabs (t := fun i => if i = 0 then T 1 else if i = 1 then T 2 else T 3) (n := 3) Oc (by omega) (fun i hi => by rcases (show i = 0 ∨ i = 1 ∨ i = 2 by omega) with rfl | rfl | rfl <;> exact (hT5.each _ (by omega)).below (Bs1.trans (Bc.mono Bs1.size)) (Nat.le_refl _))
                simp only [Value.slice.injEq] at e20
                obtain ⟨rfl, _, rfl⟩ := e20
                have HSq : Hid (Strs Vc _ 3 _ _) := HSs.out.below Bc (Nat.le_refl _)
                have HTq : Hid (Tabs Vc _ 3 _ _) := hTq
                have BQ : Hid (Below w.heap.size w Vc) := B5.trans ((Bs1.trans (Bc.mono Bs1.size)).mono B5.size)
                have HSM : Hid (sumN (fun i => if i = 0 then T 1 else if i = 1 then T 2 else T 3) 3 ≤ 140737488400000) := by show _ ≤ _; have e4 := sum4 T; simp only [sumN]; simp; omega
                have HOKq : Hid (okN (fun i => if i = 0 then tag4 1 else if i = 1 then tag4 2 else tag4 3) 3 = true) := by show _ = _; decide +kernel
                clear hTq Oc Rc Zc Bb Ob Rb Zb HAa HAb Oa Ba BU hUs HSs
                go_wp2
                go_meet
                case rel => exact ⟨_, 3, _, _, _, _, _, rfl, rfl, HSq.out, HTq.out, HOKq.out, by omega, HSM.out, BQ.out⟩
              · go_wp2_with (go_at_call 15; refine (P4 _).mono ?_; rintro e wq ⟨rfl, hww⟩; rw [hww]; clear hww)
                go_wp2_with fail
                refine region_segs [] [
                  [{ dst := some 106, op := Op.buildSlice 30 0 #[], type := 30, pos := "law.go:86", after := #[], guard := none },
                   { dst := some 107, op := Op.move (Operand.tmp 26), type := 30, pos := "law.go:86", after := #[], guard := none },
                   { dst := some 108, op := Op.move (Operand.tmp 28), type := 3, pos := "law.go:86", after := #[], guard := none },
                   { dst := some 109, op := Op.slice 30 (Operand.tmp 107) none (some (Operand.tmp 108)) none, type := 30, pos := "law.go:86", after := #[{ on := 1, ground := Ground.data }, { on := 2, ground := Ground.data }], guard := none },
                   { dst := some 110, op := Op.call { callee := Callee.builtin Builtin.append, args := #[Operand.tmp 106, Operand.tmp 109], argTypes := #[30, 30] }, type := 30, pos := "law.go:86", after := #[{ on := 0, ground := Ground.data }, { on := 3, ground := Ground.data }], guard := none },
                   { dst := some 111, op := Op.move (Operand.tmp 26), type := 30, pos := "law.go:86", after := #[], guard := none },
                   { dst := some 112, op := Op.move (Operand.tmp 28), type := 3, pos := "law.go:86", after := #[], guard := none },
                   { dst := some 113, op := Op.binOp BinOp.add 3 (Operand.tmp 112) (Operand.const (Value.int IntKind.i64 1)) 3, type := 3, pos := "law.go:86", after := #[{ on := 6, ground := Ground.data }], guard := none },
                   { dst := some 114, op := Op.slice 30 (Operand.tmp 111) (some (Operand.tmp 113)) none none, type := 30, pos := "law.go:86", after := #[{ on := 5, ground := Ground.data }, { on := 7, ground := Ground.data }], guard := none },
                   { dst := some 115, op := Op.call { callee := Callee.builtin Builtin.append, args := #[Operand.tmp 110, Operand.tmp 114], argTypes := #[30, 30] }, type := 30, pos := "law.go:86", after := #[{ on := 4, ground := Ground.data }, { on := 8, ground := Ground.data }, { on := 4, ground := Ground.chain }], guard := none },
                   { dst := some 26, op := Op.assign (Operand.tmp 115), type := 30, pos := "law.go:86", after := #[{ on := 9, ground := Ground.data }, { on := 9, ground := Ground.chain }, { on := 0, ground := Ground.phase }, { on := 1, ground := Ground.phase }, { on := 2, ground := Ground.phase }, { on := 3, ground := Ground.phase }, { on := 4, ground := Ground.phase }, { on := 5, ground := Ground.phase }, { on := 6, ground := Ground.phase }, { on := 7, ground := Ground.phase }, { on := 8, ground := Ground.phase }, { on := 9, ground := Ground.phase }], guard := none }]
                  ] (by kernel_rfl) (by kernel_rfl) (by kernel_rfl) ?_
                obtain ⟨U, hU⟩ : ∃ x, x = wc.drew := ⟨_, rfl⟩
                rw [← hU]
                have SU : True := trivial
                have BU : Below wc.heap.size wc U := by rw [hU]; exact (Below.refl _ _).drew
                have hUs : Hid (U.heap.size = wc.heap.size) := by show _ = _; rw [hU]; rfl
                clear hU
                refine chain_last 11 (fun _ => True) (by kernel_rfl) ?_
                refine wpAnyH_take (i := 1) (oi := { dst := some 107, op := Op.move (Operand.tmp 26), type := 30, pos := "law.go:86", after := #[], guard := none }) (v := ?_) rfl (by kernel_rfl) (by kernel_rfl) (by kernel_rfl) (fun _ _ _ h => h) (Or.inl ⟨by rfl, ?_⟩) SU ?_
                rotate_left
                · (intro w' hSw; go_simp) <;> with_reducible rfl
                try simp only [Act.put, List.setIfInBounds_toArray, List.set_cons_zero, List.set_cons_succ]
                refine wpAnyH_take (i := 2) (oi := { dst := some 108, op := Op.move (Operand.tmp 28), type := 3, pos := "law.go:86", after := #[], guard := none }) (v := ?_) rfl (by kernel_rfl) (by kernel_rfl) (by kernel_rfl) (fun _ _ _ h => h) (Or.inl ⟨by rfl, ?_⟩) SU ?_
                rotate_left
                · (intro w' hSw; go_simp) <;> with_reducible rfl
                try simp only [Act.put, List.setIfInBounds_toArray, List.set_cons_zero, List.set_cons_succ]
                refine wpAnyH_take (i := 3) (oi := { dst := some 109, op := Op.slice 30 (Operand.tmp 107) none (some (Operand.tmp 108)) none, type := 30, pos := "law.go:86", after := #[{ on := 1, ground := Ground.data }, { on := 2, ground := Ground.data }], guard := none }) (v := ?_) rfl (by kernel_rfl) (by kernel_rfl) (by kernel_rfl) (fun _ _ _ h => h) (Or.inl ⟨by rfl, ?_⟩) SU ?_
                rotate_left
                · (intro w' hSw; go_simp) <;> with_reducible rfl
                try simp only [Act.put, List.setIfInBounds_toArray, List.set_cons_zero, List.set_cons_succ]
                refine wpAnyH_take (i := 5) (oi := { dst := some 111, op := Op.move (Operand.tmp 26), type := 30, pos := "law.go:86", after := #[], guard := none }) (v := ?_) rfl (by kernel_rfl) (by kernel_rfl) (by kernel_rfl) (fun _ _ _ h => h) (Or.inl ⟨by rfl, ?_⟩) SU ?_
                rotate_left
                · (intro w' hSw; go_simp) <;> with_reducible rfl
                try simp only [Act.put, List.setIfInBounds_toArray, List.set_cons_zero, List.set_cons_succ]
                refine wpAnyH_take (i := 6) (oi := { dst := some 112, op := Op.move (Operand.tmp 28), type := 3, pos := "law.go:86", after := #[], guard := none }) (v := ?_) rfl (by kernel_rfl) (by kernel_rfl) (by kernel_rfl) (fun _ _ _ h => h) (Or.inl ⟨by rfl, ?_⟩) SU ?_
                rotate_left
                · (intro w' hSw; go_simp) <;> with_reducible rfl
                try simp only [Act.put, List.setIfInBounds_toArray, List.set_cons_zero, List.set_cons_succ]
                refine wpAnyH_take (i := 7) (oi := { dst := some 113, op := Op.binOp BinOp.add 3 (Operand.tmp 112) (Operand.const (Value.int IntKind.i64 1)) 3, type := 3, pos := "law.go:86", after := #[{ on := 6, ground := Ground.data }], guard := none }) (v := ?_) rfl (by kernel_rfl) (by kernel_rfl) (by kernel_rfl) (fun _ _ _ h => h) (Or.inl ⟨by rfl, ?_⟩) SU ?_
                rotate_left
                · (intro w' hSw; go_simp) <;> with_reducible rfl
                try simp only [Act.put, List.setIfInBounds_toArray, List.set_cons_zero, List.set_cons_succ]
                refine wpAnyH_take (i := 8) (oi := { dst := some 114, op := Op.slice 30 (Operand.tmp 111) (some (Operand.tmp 113)) none none, type := 30, pos := "law.go:86", after := #[{ on := 5, ground := Ground.data }, { on := 7, ground := Ground.data }], guard := none }) (v := ?_) rfl (by kernel_rfl) (by kernel_rfl) (by kernel_rfl) (fun _ _ _ h => h) (Or.inl ⟨by rfl, ?_⟩) SU ?_
                rotate_left
                · (intro w' hSw; go_simp) <;> with_reducible rfl
                try simp only [Act.put, List.setIfInBounds_toArray, List.set_cons_zero, List.set_cons_succ]
                refine wpAnyH_ready (rs := [0]) (by kernel_rfl) (by simp) ?_
                refine AllReadyH.cons (o := { dst := some 106, op := Op.buildSlice 30 0 #[], type := 30, pos := "law.go:86", after := #[], guard := none }) rfl (fun K hK => ?_) AllReadyH.nil
                go_simp
                obtain ⟨Va, hVa⟩ : ∃ x, x = U.alloc (.cells #[] 9) := ⟨_, rfl⟩
                rw [← hVa]
                have Oa : Va.ownsRow wc.heap.size 9 1 (.slice (some ⟨U.heap.size, 0, none⟩) 0 0) 0 [] := by rw [hVa]; exact own_empty U wc.heap.size 9 (by rw [hUs.out]; exact Nat.le_refl _)
                have Ba : Below wc.heap.size wc Va := by rw [hVa]; exact BU.alloc (by rw [hUs.out]; exact Nat.le_refl _) _
                have HAa : Hid (_) := app_many E26 (w0 := wc) (w := Va) Oa Ba Ba.size (b := gt) (off := 0) (m := 1) (c := 4) (news := [.string (tag4 0)]) rfl (fun j u hj => by
                    have hj' := (List.getElem?_eq_some_iff.1 hj).1
                    simp only [List.length_cons, List.length_nil] at hj'
                    rw [World.cell?_of_block (a := ⟨gt, 0 + j, none⟩) (Ba.block gt gtlt)]
                    rcases (show j = 0 by omega) with rfl <;> (first | (rw [← hj]; exact gtcell _ (by omega)))) (by intro u hu; simp at hu; subst hu; rfl) (by omega)
                refine hK.out _ _ trivial (fun _ => ?_)
                clear hK K
                try simp only [Act.put, List.setIfInBounds_toArray, List.set_cons_zero, List.set_cons_succ]
                refine wpAnyH_ready (rs := [4]) (by kernel_rfl) (by simp) ?_
                refine AllReadyH.cons (o := { dst := some 110, op := Op.call { callee := Callee.builtin Builtin.append, args := #[Operand.tmp 106, Operand.tmp 109], argTypes := #[30, 30] }, type := 30, pos := "law.go:86", after := #[{ on := 0, ground := Ground.data }, { on := 3, ground := Ground.data }], guard := none }) rfl (fun K hK => ?_) AllReadyH.nil
                refine step_appv (by rfl) (.tmp 106) (.tmp 109) 30 30 (by rfl) (by rfl) (by rfl) HAa.out ?_
                rintro vb Vb ⟨⟨ab, cb, rfl⟩, Ob, Bb, Zb, Rb⟩
                have HAb : Hid (_) := app_many E26 (w0 := wc) (w := Vb) Ob Bb Bb.size (b := gt) (off := 2) (m := 2) (c := 2) (news := [.string (tag4 2), .string (tag4 3)]) rfl (fun j u hj => by
                    have hj' := (List.getElem?_eq_some_iff.1 hj).1
                    simp only [List.length_cons, List.length_nil] at hj'
                    rw [World.cell?_of_block (a := ⟨gt, 2 + j, none⟩) (Bb.block gt gtlt)]
                    rcases (show j = 0 ∨ j = 1 by omega) with rfl | rfl <;> (first | (rw [← hj]; exact gtcell _ (by omega)))) (by intro u hu; simp at hu; (rcases hu with rfl | rfl) <;> rfl) (by omega)
                refine hK.out _ _ trivial (fun _ => ?_)
                clear hK K
                try simp only [Act.put, List.setIfInBounds_toArray, List.set_cons_zero, List.set_cons_succ]
                refine wpAnyH_ready (rs := [9]) (by kernel_rfl) (by simp) ?_
                refine AllReadyH.cons (o := { dst := some 115, op := Op.call { callee := Callee.builtin Builtin.append, args := #[Operand.tmp 110, Operand.tmp 114], argTypes := #[30, 30] }, type := 30, pos := "law.go:86", after := #[{ on := 4, ground := Ground.data }, { on := 8, ground := Ground.data }, { on := 4, ground := Ground.chain }], guard := none }) rfl (fun K hK => ?_) AllReadyH.nil
                refine step_appv (by rfl) (.tmp 110) (.tmp 114) 30 30 (by rfl) (by rfl) (by rfl) HAb.out ?_
                rintro vc Vc ⟨⟨ac, cc, rfl⟩, Oc, Bc, Zc, Rc⟩
                refine hK.out _ _ trivial (fun _ => ?_)
                clear hK K
                try simp only [Act.put, List.setIfInBounds_toArray, List.set_cons_zero, List.set_cons_succ]
                refine wpAnyH_take (i := 10) (oi := { dst := some 26, op := Op.assign (Operand.tmp 115), type := 30, pos := "law.go:86", after := #[{ on := 9, ground := Ground.data }, { on := 9, ground := Ground.chain }, { on := 0, ground := Ground.phase }, { on := 1, ground := Ground.phase }, { on := 2, ground := Ground.phase }, { on := 3, ground := Ground.phase }, { on := 4, ground := Ground.phase }, { on := 5, ground := Ground.phase }, { on := 6, ground := Ground.phase }, { on := 7, ground := Ground.phase }, { on := 8, ground := Ground.phase }, { on := 9, ground := Ground.phase }], guard := none }) (v := ?_) rfl (by kernel_rfl) (by kernel_rfl) (by kernel_rfl) (fun _ _ _ h => h) (Or.inl ⟨by rfl, ?_⟩) trivial ?_
                rotate_left
                · (intro w' hSw; go_simp) <;> with_reducible rfl
                try simp only [Act.put, List.setIfInBounds_toArray, List.set_cons_zero, List.set_cons_succ]
                refine wpAnyH_done (by kernel_rfl) ?_ _
                obtain ⟨a19, c19, e19, hSs⟩ := ownr_strs (s := fun i => if i = 0 then tag4 0 else if i = 1 then tag4 2 else tag4 3) (n := 3) Oc (by omega)
                simp only [Value.slice.injEq] at e19
                obtain ⟨rfl, _, rfl⟩ := e19
                have HSs : Hid (Strs Vc _ 3 _ _) := hSs
                have Bs1 : Below wc.heap.size wc Vc := Bc
                have hsV := Bc.size
                obtain ⟨w19, hw19⟩ : ∃ x, x = Vc := ⟨_, rfl⟩
                subst hw19
                clear hSs Oc Rc Zc Bb Ob Rb Zb HAa HAb Oa Ba BU hUs
                have gllt : gl < w19.heap.size := by have := blk_lt hT5.tabs; omega
                have glcell : ∀ i, i < 4 → w19.cell? ⟨gl, i, none⟩ = some (.slice (T i).a (T i).l (T i).c) := fun i hi => by rw [World.cell?_of_block (a := ⟨gl, i, none⟩) (Bs1.block gl (blk_lt hT5.tabs))]; exact arr_cell hT5.tabs hi
                go_wp2_with fail
                refine region_segs [] [
                  [{ dst := some 116, op := Op.buildSlice 31 0 #[], type := 31, pos := "law.go:87", after := #[], guard := none },
                   { dst := some 117, op := Op.move (Operand.tmp 27), type := 31, pos := "law.go:87", after := #[], guard := none },
                   { dst := some 118, op := Op.move (Operand.tmp 28), type := 3, pos := "law.go:87", after := #[], guard := none },
                   { dst := some 119, op := Op.slice 31 (Operand.tmp 117) none (some (Operand.tmp 118)) none, type := 31, pos := "law.go:87", after := #[{ on := 1, ground := Ground.data }, { on := 2, ground := Ground.data }], guard := none },
                   { dst := some 120, op := Op.call { callee := Callee.builtin Builtin.append, args := #[Operand.tmp 116, Operand.tmp 119], argTypes := #[31, 31] }, type := 31, pos := "law.go:87", after := #[{ on := 0, ground := Ground.data }, { on := 3, ground := Ground.data }], guard := none },
                   { dst := some 121, op := Op.move (Operand.tmp 27), type := 31, pos := "law.go:87", after := #[], guard := none },
                   { dst := some 122, op := Op.move (Operand.tmp 28), type := 3, pos := "law.go:87", after := #[], guard := none },
                   { dst := some 123, op := Op.binOp BinOp.add 3 (Operand.tmp 122) (Operand.const (Value.int IntKind.i64 1)) 3, type := 3, pos := "law.go:87", after := #[{ on := 6, ground := Ground.data }], guard := none },
                   { dst := some 124, op := Op.slice 31 (Operand.tmp 121) (some (Operand.tmp 123)) none none, type := 31, pos := "law.go:87", after := #[{ on := 5, ground := Ground.data }, { on := 7, ground := Ground.data }], guard := none },
                   { dst := some 125, op := Op.call { callee := Callee.builtin Builtin.append, args := #[Operand.tmp 120, Operand.tmp 124], argTypes := #[31, 31] }, type := 31, pos := "law.go:87", after := #[{ on := 4, ground := Ground.data }, { on := 8, ground := Ground.data }, { on := 4, ground := Ground.chain }], guard := none },
                   { dst := some 27, op := Op.assign (Operand.tmp 125), type := 31, pos := "law.go:87", after := #[{ on := 9, ground := Ground.data }, { on := 9, ground := Ground.chain }, { on := 0, ground := Ground.phase }, { on := 1, ground := Ground.phase }, { on := 2, ground := Ground.phase }, { on := 3, ground := Ground.phase }, { on := 4, ground := Ground.phase }, { on := 5, ground := Ground.phase }, { on := 6, ground := Ground.phase }, { on := 7, ground := Ground.phase }, { on := 8, ground := Ground.phase }, { on := 9, ground := Ground.phase }], guard := none }]
                  ] (by kernel_rfl) (by kernel_rfl) (by kernel_rfl) ?_
                obtain ⟨U, hU⟩ : ∃ x, x = w19.drew := ⟨_, rfl⟩
                rw [← hU]
                have SU : True := trivial
                have BU : Below w19.heap.size w19 U := by rw [hU]; exact (Below.refl _ _).drew
                have hUs : Hid (U.heap.size = w19.heap.size) := by show _ = _; rw [hU]; rfl
                clear hU
                refine chain_last 11 (fun _ => True) (by kernel_rfl) ?_
                refine wpAnyH_take (i := 1) (oi := { dst := some 117, op := Op.move (Operand.tmp 27), type := 31, pos := "law.go:87", after := #[], guard := none }) (v := ?_) rfl (by kernel_rfl) (by kernel_rfl) (by kernel_rfl) (fun _ _ _ h => h) (Or.inl ⟨by rfl, ?_⟩) SU ?_
                rotate_left
                · (intro w' hSw; go_simp) <;> with_reducible rfl
                try simp only [Act.put, List.setIfInBounds_toArray, List.set_cons_zero, List.set_cons_succ]
                refine wpAnyH_take (i := 2) (oi := { dst := some 118, op := Op.move (Operand.tmp 28), type := 3, pos := "law.go:87", after := #[], guard := none }) (v := ?_) rfl (by kernel_rfl) (by kernel_rfl) (by kernel_rfl) (fun _ _ _ h => h) (Or.inl ⟨by rfl, ?_⟩) SU ?_
                rotate_left
                · (intro w' hSw; go_simp) <;> with_reducible rfl
                try simp only [Act.put, List.setIfInBounds_toArray, List.set_cons_zero, List.set_cons_succ]
                refine wpAnyH_take (i := 3) (oi := { dst := some 119, op := Op.slice 31 (Operand.tmp 117) none (some (Operand.tmp 118)) none, type := 31, pos := "law.go:87", after := #[{ on := 1, ground := Ground.data }, { on := 2, ground := Ground.data }], guard := none }) (v := ?_) rfl (by kernel_rfl) (by kernel_rfl) (by kernel_rfl) (fun _ _ _ h => h) (Or.inl ⟨by rfl, ?_⟩) SU ?_
                rotate_left
                · (intro w' hSw; go_simp) <;> with_reducible rfl
                try simp only [Act.put, List.setIfInBounds_toArray, List.set_cons_zero, List.set_cons_succ]
                refine wpAnyH_take (i := 5) (oi := { dst := some 121, op := Op.move (Operand.tmp 27), type := 31, pos := "law.go:87", after := #[], guard := none }) (v := ?_) rfl (by kernel_rfl) (by kernel_rfl) (by kernel_rfl) (fun _ _ _ h => h) (Or.inl ⟨by rfl, ?_⟩) SU ?_
                rotate_left
                · (intro w' hSw; go_simp) <;> with_reducible rfl
                try simp only [Act.put, List.setIfInBounds_toArray, List.set_cons_zero, List.set_cons_succ]
                refine wpAnyH_take (i := 6) (oi := { dst := some 122, op := Op.move (Operand.tmp 28), type := 3, pos := "law.go:87", after := #[], guard := none }) (v := ?_) rfl (by kernel_rfl) (by kernel_rfl) (by kernel_rfl) (fun _ _ _ h => h) (Or.inl ⟨by rfl, ?_⟩) SU ?_
                rotate_left
                · (intro w' hSw; go_simp) <;> with_reducible rfl
                try simp only [Act.put, List.setIfInBounds_toArray, List.set_cons_zero, List.set_cons_succ]
                refine wpAnyH_take (i := 7) (oi := { dst := some 123, op := Op.binOp BinOp.add 3 (Operand.tmp 122) (Operand.const (Value.int IntKind.i64 1)) 3, type := 3, pos := "law.go:87", after := #[{ on := 6, ground := Ground.data }], guard := none }) (v := ?_) rfl (by kernel_rfl) (by kernel_rfl) (by kernel_rfl) (fun _ _ _ h => h) (Or.inl ⟨by rfl, ?_⟩) SU ?_
                rotate_left
                · (intro w' hSw; go_simp) <;> with_reducible rfl
                try simp only [Act.put, List.setIfInBounds_toArray, List.set_cons_zero, List.set_cons_succ]
                refine wpAnyH_take (i := 8) (oi := { dst := some 124, op := Op.slice 31 (Operand.tmp 121) (some (Operand.tmp 123)) none none, type := 31, pos := "law.go:87", after := #[{ on := 5, ground := Ground.data }, { on := 7, ground := Ground.data }], guard := none }) (v := ?_) rfl (by kernel_rfl) (by kernel_rfl) (by kernel_rfl) (fun _ _ _ h => h) (Or.inl ⟨by rfl, ?_⟩) SU ?_
                rotate_left
                · (intro w' hSw; go_simp) <;> with_reducible rfl
                try simp only [Act.put, List.setIfInBounds_toArray, List.set_cons_zero, List.set_cons_succ]
                refine wpAnyH_ready (rs := [0]) (by kernel_rfl) (by simp) ?_
                refine AllReadyH.cons (o := { dst := some 116, op := Op.buildSlice 31 0 #[], type := 31, pos := "law.go:87", after := #[], guard := none }) rfl (fun K hK => ?_) AllReadyH.nil
                go_simp
                obtain ⟨Va, hVa⟩ : ∃ x, x = U.alloc (.cells #[] 29) := ⟨_, rfl⟩
                rw [← hVa]
                have Oa : Va.ownsRow w19.heap.size 29 1 (.slice (some ⟨U.heap.size, 0, none⟩) 0 0) 0 [] := by rw [hVa]; exact own_empty U w19.heap.size 29 (by rw [hUs.out]; exact Nat.le_refl _)
                have Ba : Below w19.heap.size w19 Va := by rw [hVa]; exact BU.alloc (by rw [hUs.out]; exact Nat.le_refl _) _
                have HAa : Hid (_) := app_many E27 (w0 := w19) (w := Va) Oa Ba Ba.size (b := gl) (off := 0) (m := 1) (c := 4) (news := [.slice (T 0).a (T 0).l (T 0).c]) rfl (fun j u hj => by
                    have hj' := (List.getElem?_eq_some_iff.1 hj).1
                    simp only [List.length_cons, List.length_nil] at hj'
                    rw [World.cell?_of_block (a := ⟨gl, 0 + j, none⟩) (Ba.block gl gllt)]
                    rcases (show j = 0 by omega) with rfl <;> (first | (rw [← hj]; exact glcell _ (by omega)))) (by intro u hu; simp at hu; subst hu; rfl) (by omega)
                refine hK.out _ _ trivial (fun _ => ?_)
                clear hK K
                try simp only [Act.put, List.setIfInBounds_toArray, List.set_cons_zero, List.set_cons_succ]
                refine wpAnyH_ready (rs := [4]) (by kernel_rfl) (by simp) ?_
                refine AllReadyH.cons (o := { dst := some 120, op := Op.call { callee := Callee.builtin Builtin.append, args := #[Operand.tmp 116, Operand.tmp 119], argTypes := #[31, 31] }, type := 31, pos := "law.go:87", after := #[{ on := 0, ground := Ground.data }, { on := 3, ground := Ground.data }], guard := none }) rfl (fun K hK => ?_) AllReadyH.nil
                refine step_appv (by rfl) (.tmp 116) (.tmp 119) 31 31 (by rfl) (by rfl) (by rfl) HAa.out ?_
                rintro vb Vb ⟨⟨ab, cb, rfl⟩, Ob, Bb, Zb, Rb⟩
                have HAb : Hid (_) := app_many E27 (w0 := w19) (w := Vb) Ob Bb Bb.size (b := gl) (off := 2) (m := 2) (c := 2) (news := [.slice (T 2).a (T 2).l (T 2).c, .slice (T 3).a (T 3).l (T 3).c]) rfl (fun j u hj => by
                    have hj' := (List.getElem?_eq_some_iff.1 hj).1
                    simp only [List.length_cons, List.length_nil] at hj'
                    rw [World.cell?_of_block (a := ⟨gl, 2 + j, none⟩) (Bb.block gl gllt)]
                    rcases (show j = 0 ∨ j = 1 by omega) with rfl | rfl <;> (first | (rw [← hj]; exact glcell _ (by omega)))) (by intro u hu; simp at hu; (rcases hu with rfl | rfl) <;> rfl) (by omega)
                refine hK.out _ _ trivial (fun _ => ?_)
                clear hK K
                try simp only [Act.put, List.setIfInBounds_toArray, List.set_cons_zero, List.set_cons_succ]
                refine wpAnyH_ready (rs := [9]) (by kernel_rfl) (by simp) ?_
                refine AllReadyH.cons (o := { dst := some 125, op := Op.call { callee := Callee.builtin Builtin.append, args := #[Operand.tmp 120, Operand.tmp 124], argTypes := #[31, 31] }, type := 31, pos := "law.go:87", after := #[{ on := 4, ground := Ground.data }, { on := 8, ground := Ground.data }, { on := 4, ground := Ground.chain }], guard := none }) rfl (fun K hK => ?_) AllReadyH.nil
                refine step_appv (by rfl) (.tmp 120) (.tmp 124) 31 31 (by rfl) (by rfl) (by rfl) HAb.out ?_
                rintro vc Vc ⟨⟨ac, cc, rfl⟩, Oc, Bc, Zc, Rc⟩
                refine hK.out _ _ trivial (fun _ => ?_)
                clear hK K
                try simp only [Act.put, List.setIfInBounds_toArray, List.set_cons_zero, List.set_cons_succ]
                refine wpAnyH_take (i := 10) (oi := { dst := some 27, op := Op.assign (Operand.tmp 125), type := 31, pos := "law.go:87", after := #[{ on := 9, ground := Ground.data }, { on := 9, ground := Ground.chain }, { on := 0, ground := Ground.phase }, { on := 1, ground := Ground.phase }, { on := 2, ground := Ground.phase }, { on := 3, ground := Ground.phase }, { on := 4, ground := Ground.phase }, { on := 5, ground := Ground.phase }, { on := 6, ground := Ground.phase }, { on := 7, ground := Ground.phase }, { on := 8, ground := Ground.phase }, { on := 9, ground := Ground.phase }], guard := none }) (v := ?_) rfl (by kernel_rfl) (by kernel_rfl) (by kernel_rfl) (fun _ _ _ h => h) (Or.inl ⟨by rfl, ?_⟩) trivial ?_
                rotate_left
                · (intro w' hSw; go_simp) <;> with_reducible rfl
                try simp only [Act.put, List.setIfInBounds_toArray, List.set_cons_zero, List.set_cons_succ]
                refine wpAnyH_done (by kernel_rfl) ?_ _
                obtain ⟨a20, c20, e20, hTq⟩ := ownr_tabs (t := fun i => if i = 0 then T 0 else if i = 1 then T 2 else T 3) (n := 3) Oc (by omega) (fun i hi => by rcases (show i = 0 ∨ i = 1 ∨ i = 2 by omega) with rfl | rfl | rfl <;> exact (hT5.each _ (by omega)).below (Bs1.trans (Bc.mono Bs1.size)) (Nat.le_refl _))
                simp only [Value.slice.injEq] at e20
                obtain ⟨rfl, _, rfl⟩ := e20
                have HSq : Hid (Strs Vc _ 3 _ _) := HSs.out.below Bc (Nat.le_refl _)
                have HTq : Hid (Tabs Vc _ 3 _ _) := hTq
                have BQ : Hid (Below w.heap.size w Vc) := B5.trans ((Bs1.trans (Bc.mono Bs1.size)).mono B5.size)
                have HSM : Hid (sumN (fun i => if i = 0 then T 0 else if i = 1 then T 2 else T 3) 3 ≤ 140737488400000) := by show _ ≤ _; have e4 := sum4 T; simp only [sumN]; simp; omega
                have HOKq : Hid (okN (fun i => if i = 0 then tag4 0 else if i = 1 then tag4 2 else tag4 3) 3 = true) := by show _ = _; decide +kernel
                clear hTq Oc Rc Zc Bb Ob Rb Zb HAa HAb Oa Ba BU hUs HSs
                go_wp2
                go_meet
                case rel => exact ⟨_, 3, _, _, _, _, _, rfl, rfl, HSq.out, HTq.out, HOKq.out, by omega, HSM.out, BQ.out⟩
              · go_wp2_with (go_at_call 15; refine (P4 _).mono ?_; rintro e wq ⟨rfl, hww⟩; rw [hww]; clear hww)
                go_wp2_with fail
                refine region_segs [] [
                  [{ dst := some 106, op := Op.buildSlice 30 0 #[], type := 30, pos := "law.go:86", after := #[], guard := none },
                   { dst := some 107, op := Op.move (Operand.tmp 26), type := 30, pos := "law.go:86", after := #[], guard := none },
                   { dst := some 108, op := Op.move (Operand.tmp 28), type := 3, pos := "law.go:86", after := #[], guard := none },
                   { dst := some 109, op := Op.slice 30 (Operand.tmp 107) none (some (Operand.tmp 108)) none, type := 30, pos := "law.go:86", after := #[{ on := 1, ground := Ground.data }, { on := 2, ground := Ground.data }], guard := none },
                   { dst := some 110, op := Op.call { callee := Callee.builtin Builtin.append, args := #[Operand.tmp 106, Operand.tmp 109], argTypes := #[30, 30] }, type := 30, pos := "law.go:86", after := #[{ on := 0, ground := Ground.data }, { on := 3, ground := Ground.data }], guard := none },
                   { dst := some 111, op := Op.move (Operand.tmp 26), type := 30, pos := "law.go:86", after := #[], guard := none },
                   { dst := some 112, op := Op.move (Operand.tmp 28), type := 3, pos := "law.go:86", after := #[], guard := none },
                   { dst := some 113, op := Op.binOp BinOp.add 3 (Operand.tmp 112) (Operand.const (Value.int IntKind.i64 1)) 3, type := 3, pos := "law.go:86", after := #[{ on := 6, ground := Ground.data }], guard := none },
                   { dst := some 114, op := Op.slice 30 (Operand.tmp 111) (some (Operand.tmp 113)) none none, type := 30, pos := "law.go:86", after := #[{ on := 5, ground := Ground.data }, { on := 7, ground := Ground.data }], guard := none },
                   { dst := some 115, op := Op.call { callee := Callee.builtin Builtin.append, args := #[Operand.tmp 110, Operand.tmp 114], argTypes := #[30, 30] }, type := 30, pos := "law.go:86", after := #[{ on := 4, ground := Ground.data }, { on := 8, ground := Ground.data }, { on := 4, ground := Ground.chain }], guard := none },
                   { dst := some 26, op := Op.assign (Operand.tmp 115), type := 30, pos := "law.go:86", after := #[{ on := 9, ground := Ground.data }, { on := 9, ground := Ground.chain }, { on := 0, ground := Ground.phase }, { on := 1, ground := Ground.phase }, { on := 2, ground := Ground.phase }, { on := 3, ground := Ground.phase }, { on := 4, ground := Ground.phase }, { on := 5, ground := Ground.phase }, { on := 6, ground := Ground.phase }, { on := 7, ground := Ground.phase }, { on := 8, ground := Ground.phase }, { on := 9, ground := Ground.phase }], guard := none }]
                  ] (by kernel_rfl) (by kernel_rfl) (by kernel_rfl) ?_
                obtain ⟨U, hU⟩ : ∃ x, x = wc.drew := ⟨_, rfl⟩
                rw [← hU]
                have SU : True := trivial
                have BU : Below wc.heap.size wc U := by rw [hU]; exact (Below.refl _ _).drew
                have hUs : Hid (U.heap.size = wc.heap.size) := by show _ = _; rw [hU]; rfl
                clear hU
                refine chain_last 11 (fun _ => True) (by kernel_rfl) ?_
                refine wpAnyH_take (i := 1) (oi := { dst := some 107, op := Op.move (Operand.tmp 26), type := 30, pos := "law.go:86", after := #[], guard := none }) (v := ?_) rfl (by kernel_rfl) (by kernel_rfl) (by kernel_rfl) (fun _ _ _ h => h) (Or.inl ⟨by rfl, ?_⟩) SU ?_
                rotate_left
                · (intro w' hSw; go_simp) <;> with_reducible rfl
                try simp only [Act.put, List.setIfInBounds_toArray, List.set_cons_zero, List.set_cons_succ]
                refine wpAnyH_take (i := 2) (oi := { dst := some 108, op := Op.move (Operand.tmp 28), type := 3, pos := "law.go:86", after := #[], guard := none }) (v := ?_) rfl (by kernel_rfl) (by kernel_rfl) (by kernel_rfl) (fun _ _ _ h => h) (Or.inl ⟨by rfl, ?_⟩) SU ?_
                rotate_left
                · (intro w' hSw; go_simp) <;> with_reducible rfl
                try simp only [Act.put, List.setIfInBounds_toArray, List.set_cons_zero, List.set_cons_succ]
                refine wpAnyH_take (i := 3) (oi := { dst := some 109, op := Op.slice 30 (Operand.tmp 107) none (some (Operand.tmp 108)) none, type := 30, pos := "law.go:86", after := #[{ on := 1, ground := Ground.data }, { on := 2, ground := Ground.data }], guard := none }) (v := ?_) rfl (by kernel_rfl) (by kernel_rfl) (by kernel_rfl) (fun _ _ _ h => h) (Or.inl ⟨by rfl, ?_⟩) SU ?_
                rotate_left
                · (intro w' hSw; go_simp) <;> with_reducible rfl
                try simp only [Act.put, List.setIfInBounds_toArray, List.set_cons_zero, List.set_cons_succ]
                refine wpAnyH_take (i := 5) (oi := { dst := some 111, op := Op.move (Operand.tmp 26), type := 30, pos := "law.go:86", after := #[], guard := none }) (v := ?_) rfl (by kernel_rfl) (by kernel_rfl) (by kernel_rfl) (fun _ _ _ h => h) (Or.inl ⟨by rfl, ?_⟩) SU ?_
                rotate_left
                · (intro w' hSw; go_simp) <;> with_reducible rfl
                try simp only [Act.put, List.setIfInBounds_toArray, List.set_cons_zero, List.set_cons_succ]
                refine wpAnyH_take (i := 6) (oi := { dst := some 112, op := Op.move (Operand.tmp 28), type := 3, pos := "law.go:86", after := #[], guard := none }) (v := ?_) rfl (by kernel_rfl) (by kernel_rfl) (by kernel_rfl) (fun _ _ _ h => h) (Or.inl ⟨by rfl, ?_⟩) SU ?_
                rotate_left
                · (intro w' hSw; go_simp) <;> with_reducible rfl
                try simp only [Act.put, List.setIfInBounds_toArray, List.set_cons_zero, List.set_cons_succ]
                refine wpAnyH_take (i := 7) (oi := { dst := some 113, op := Op.binOp BinOp.add 3 (Operand.tmp 112) (Operand.const (Value.int IntKind.i64 1)) 3, type := 3, pos := "law.go:86", after := #[{ on := 6, ground := Ground.data }], guard := none }) (v := ?_) rfl (by kernel_rfl) (by kernel_rfl) (by kernel_rfl) (fun _ _ _ h => h) (Or.inl ⟨by rfl, ?_⟩) SU ?_
                rotate_left
                · (intro w' hSw; go_simp) <;> with_reducible rfl
                try simp only [Act.put, List.setIfInBounds_toArray, List.set_cons_zero, List.set_cons_succ]
                refine wpAnyH_take (i := 8) (oi := { dst := some 114, op := Op.slice 30 (Operand.tmp 111) (some (Operand.tmp 113)) none none, type := 30, pos := "law.go:86", after := #[{ on := 5, ground := Ground.data }, { on := 7, ground := Ground.data }], guard := none }) (v := ?_) rfl (by kernel_rfl) (by kernel_rfl) (by kernel_rfl) (fun _ _ _ h => h) (Or.inl ⟨by rfl, ?_⟩) SU ?_
                rotate_left
                · (intro w' hSw; go_simp) <;> with_reducible rfl
                try simp only [Act.put, List.setIfInBounds_toArray, List.set_cons_zero, List.set_cons_succ]
                refine wpAnyH_ready (rs := [0]) (by kernel_rfl) (by simp) ?_
                refine AllReadyH.cons (o := { dst := some 106, op := Op.buildSlice 30 0 #[], type := 30, pos := "law.go:86", after := #[], guard := none }) rfl (fun K hK => ?_) AllReadyH.nil
                go_simp
                obtain ⟨Va, hVa⟩ : ∃ x, x = U.alloc (.cells #[] 9) := ⟨_, rfl⟩
                rw [← hVa]
                have Oa : Va.ownsRow wc.heap.size 9 1 (.slice (some ⟨U.heap.size, 0, none⟩) 0 0) 0 [] := by rw [hVa]; exact own_empty U wc.heap.size 9 (by rw [hUs.out]; exact Nat.le_refl _)
                have Ba : Below wc.heap.size wc Va := by rw [hVa]; exact BU.alloc (by rw [hUs.out]; exact Nat.le_refl _) _
                have HAa : Hid (_) := app_many E26 (w0 := wc) (w := Va) Oa Ba Ba.size (b := gt) (off := 0) (m := 2) (c := 4) (news := [.string (tag4 0), .string (tag4 1)]) rfl (fun j u hj => by
                    have hj' := (List.getElem?_eq_some_iff.1 hj).1
                    simp only [List.length_cons, List.length_nil] at hj'
                    rw [World.cell?_of_block (a := ⟨gt, 0 + j, none⟩) (Ba.block gt gtlt)]
                    rcases (show j = 0 ∨ j = 1 by omega) with rfl | rfl <;> (first | (rw [← hj]; exact gtcell _ (by omega)))) (by intro u hu; simp at hu; (rcases hu with rfl | rfl) <;> rfl) (by omega)
                refine hK.out _ _ trivial (fun _ => ?_)
                clear hK K
                try simp only [Act.put, List.setIfInBounds_toArray, List.set_cons_zero, List.set_cons_succ]
                refine wpAnyH_ready (rs := [4]) (by kernel_rfl) (by simp) ?_
                refine AllReadyH.cons (o := { dst := some 110, op := Op.call { callee := Callee.builtin Builtin.append, args := #[Operand.tmp 106, Operand.tmp 109], argTypes := #[30, 30] }, type := 30, pos := "law.go:86", after := #[{ on := 0, ground := Ground.data }, { on := 3, ground := Ground.data }], guard := none }) rfl (fun K hK => ?_) AllReadyH.nil
                refine step_appv (by rfl) (.tmp 106) (.tmp 109) 30 30 (by rfl) (by rfl) (by rfl) HAa.out ?_
                rintro vb Vb ⟨⟨ab, cb, rfl⟩, Ob, Bb, Zb, Rb⟩
                have HAb : Hid (_) := app_many E26 (w0 := wc) (w := Vb) Ob Bb Bb.size (b := gt) (off := 3) (m := 1) (c := 1) (news := [.string (tag4 3)]) rfl (fun j u hj => by
                    have hj' := (List.getElem?_eq_some_iff.1 hj).1
                    simp only [List.length_cons, List.length_nil] at hj'
                    rw [World.cell?_of_block (a := ⟨gt, 3 + j, none⟩) (Bb.block gt gtlt)]
                    rcases (show j = 0 by omega) with rfl <;> (first | (rw [← hj]; exact gtcell _ (by omega)))) (by intro u hu; simp at hu; subst hu; rfl) (by omega)
                refine hK.out _ _ trivial (fun _ => ?_)
                clear hK K
                try simp only [Act.put, List.setIfInBounds_toArray, List.set_cons_zero, List.set_cons_succ]
                refine wpAnyH_ready (rs := [9]) (by kernel_rfl) (by simp) ?_
                refine AllReadyH.cons (o := { dst := some 115, op := Op.call { callee := Callee.builtin Builtin.append, args := #[Operand.tmp 110, Operand.tmp 114], argTypes := #[30, 30] }, type := 30, pos := "law.go:86", after := #[{ on := 4, ground := Ground.data }, { on := 8, ground := Ground.data }, { on := 4, ground := Ground.chain }], guard := none }) rfl (fun K hK => ?_) AllReadyH.nil
                refine step_appv (by rfl) (.tmp 110) (.tmp 114) 30 30 (by rfl) (by rfl) (by rfl) HAb.out ?_
                rintro vc Vc ⟨⟨ac, cc, rfl⟩, Oc, Bc, Zc, Rc⟩
                refine hK.out _ _ trivial (fun _ => ?_)
                clear hK K
                try simp only [Act.put, List.setIfInBounds_toArray, List.set_cons_zero, List.set_cons_succ]
                refine wpAnyH_take (i := 10) (oi := { dst := some 26, op := Op.assign (Operand.tmp 115), type := 30, pos := "law.go:86", after := #[{ on := 9, ground := Ground.data }, { on := 9, ground := Ground.chain }, { on := 0, ground := Ground.phase }, { on := 1, ground := Ground.phase }, { on := 2, ground := Ground.phase }, { on := 3, ground := Ground.phase }, { on := 4, ground := Ground.phase }, { on := 5, ground := Ground.phase }, { on := 6, ground := Ground.phase }, { on := 7, ground := Ground.phase }, { on := 8, ground := Ground.phase }, { on := 9, ground := Ground.phase }], guard := none }) (v := ?_) rfl (by kernel_rfl) (by kernel_rfl) (by kernel_rfl) (fun _ _ _ h => h) (Or.inl ⟨by rfl, ?_⟩) trivial ?_
                rotate_left
                · (intro w' hSw; go_simp) <;> with_reducible rfl
                try simp only [Act.put, List.setIfInBounds_toArray, List.set_cons_zero, List.set_cons_succ]
                refine wpAnyH_done (by kernel_rfl) ?_ _
                obtain ⟨a19, c19, e19, hSs⟩ := ownr_strs (s := fun i => if i = 0 then tag4 0 else if i = 1 then tag4 1 else tag4 3) (n := 3) Oc (by omega)
                simp only [Value.slice.injEq] at e19
                obtain ⟨rfl, _, rfl⟩ := e19
                have HSs : Hid (Strs Vc _ 3 _ _) := hSs
                have Bs1 : Below wc.heap.size wc Vc := Bc
                have hsV := Bc.size
                obtain ⟨w19, hw19⟩ : ∃ x, x = Vc := ⟨_, rfl⟩
                subst hw19
                clear hSs Oc Rc Zc Bb Ob Rb Zb HAa HAb Oa Ba BU hUs
                have gllt : gl < w19.heap.size := by have := blk_lt hT5.tabs; omega
                have glcell : ∀ i, i < 4 → w19.cell? ⟨gl, i, none⟩ = some (.slice (T i).a (T i).l (T i).c) := fun i hi => by rw [World.cell?_of_block (a := ⟨gl, i, none⟩) (Bs1.block gl (blk_lt hT5.tabs))]; exact arr_cell hT5.tabs hi
                go_wp2_with fail
                refine region_segs [] [
                  [{ dst := some 116, op := Op.buildSlice 31 0 #[], type := 31, pos := "law.go:87", after := #[], guard := none },
                   { dst := some 117, op := Op.move (Operand.tmp 27), type := 31, pos := "law.go:87", after := #[], guard := none },
                   { dst := some 118, op := Op.move (Operand.tmp 28), type := 3, pos := "law.go:87", after := #[], guard := none },
                   { dst := some 119, op := Op.slice 31 (Operand.tmp 117) none (some (Operand.tmp 118)) none, type := 31, pos := "law.go:87", after := #[{ on := 1, ground := Ground.data }, { on := 2, ground := Ground.data }], guard := none },
                   { dst := some 120, op := Op.call { callee := Callee.builtin Builtin.append, args := #[Operand.tmp 116, Operand.tmp 119], argTypes := #[31, 31] }, type := 31, pos := "law.go:87", after := #[{ on := 0, ground := Ground.data }, { on := 3, ground := Ground.data }], guard := none },
                   { dst := some 121, op := Op.move (Operand.tmp 27), type := 31, pos := "law.go:87", after := #[], guard := none },
                   { dst := some 122, op := Op.move (Operand.tmp 28), type := 3, pos := "law.go:87", after := #[], guard := none },
                   { dst := some 123, op := Op.binOp BinOp.add 3 (Operand.tmp 122) (Operand.const (Value.int IntKind.i64 1)) 3, type := 3, pos := "law.go:87", after := #[{ on := 6, ground := Ground.data }], guard := none },
                   { dst := some 124, op := Op.slice 31 (Operand.tmp 121) (some (Operand.tmp 123)) none none, type := 31, pos := "law.go:87", after := #[{ on := 5, ground := Ground.data }, { on := 7, ground := Ground.data }], guard := none },
                   { dst := some 125, op := Op.call { callee := Callee.builtin Builtin.append, args := #[Operand.tmp 120, Operand.tmp 124], argTypes := #[31, 31] }, type := 31, pos := "law.go:87", after := #[{ on := 4, ground := Ground.data }, { on := 8, ground := Ground.data }, { on := 4, ground := Ground.chain }], guard := none },
                   { dst := some 27, op := Op.assign (Operand.tmp 125), type := 31, pos := "law.go:87", after := #[{ on := 9, ground := Ground.data }, { on := 9, ground := Ground.chain }, { on := 0, ground := Ground.phase }, { on := 1, ground := Ground.phase }, { on := 2, ground := Ground.phase }, { on := 3, ground := Ground.phase }, { on := 4, ground := Ground.phase }, { on := 5, ground := Ground.phase }, { on := 6, ground := Ground.phase }, { on := 7, ground := Ground.phase }, { on := 8, ground := Ground.phase }, { on := 9, ground := Ground.phase }], guard := none }]
                  ] (by kernel_rfl) (by kernel_rfl) (by kernel_rfl) ?_
                obtain ⟨U, hU⟩ : ∃ x, x = w19.drew := ⟨_, rfl⟩
                rw [← hU]
                have SU : True := trivial
                have BU : Below w19.heap.size w19 U := by rw [hU]; exact (Below.refl _ _).drew
                have hUs : Hid (U.heap.size = w19.heap.size) := by show _ = _; rw [hU]; rfl
                clear hU
                refine chain_last 11 (fun _ => True) (by kernel_rfl) ?_
                refine wpAnyH_take (i := 1) (oi := { dst := some 117, op := Op.move (Operand.tmp 27), type := 31, pos := "law.go:87", after := #[], guard := none }) (v := ?_) rfl (by kernel_rfl) (by kernel_rfl) (by kernel_rfl) (fun _ _ _ h => h) (Or.inl ⟨by rfl, ?_⟩) SU ?_
                rotate_left
                · (intro w' hSw; go_simp) <;> with_reducible rfl
                try simp only [Act.put, List.setIfInBounds_toArray, List.set_cons_zero, List.set_cons_succ]
                refine wpAnyH_take (i := 2) (oi := { dst := some 118, op := Op.move (Operand.tmp 28), type := 3, pos := "law.go:87", after := #[], guard := none }) (v := ?_) rfl (by kernel_rfl) (by kernel_rfl) (by kernel_rfl) (fun _ _ _ h => h) (Or.inl ⟨by rfl, ?_⟩) SU ?_
                rotate_left
                · (intro w' hSw; go_simp) <;> with_reducible rfl
                try simp only [Act.put, List.setIfInBounds_toArray, List.set_cons_zero, List.set_cons_succ]
                refine wpAnyH_take (i := 3) (oi := { dst := some 119, op := Op.slice 31 (Operand.tmp 117) none (some (Operand.tmp 118)) none, type := 31, pos := "law.go:87", after := #[{ on := 1, ground := Ground.data }, { on := 2, ground := Ground.data }], guard := none }) (v := ?_) rfl (by kernel_rfl) (by kernel_rfl) (by kernel_rfl) (fun _ _ _ h => h) (Or.inl ⟨by rfl, ?_⟩) SU ?_
                rotate_left
                · (intro w' hSw; go_simp) <;> with_reducible rfl
                try simp only [Act.put, List.setIfInBounds_toArray, List.set_cons_zero, List.set_cons_succ]
                refine wpAnyH_take (i := 5) (oi := { dst := some 121, op := Op.move (Operand.tmp 27), type := 31, pos := "law.go:87", after := #[], guard := none }) (v := ?_) rfl (by kernel_rfl) (by kernel_rfl) (by kernel_rfl) (fun _ _ _ h => h) (Or.inl ⟨by rfl, ?_⟩) SU ?_
                rotate_left
                · (intro w' hSw; go_simp) <;> with_reducible rfl
                try simp only [Act.put, List.setIfInBounds_toArray, List.set_cons_zero, List.set_cons_succ]
                refine wpAnyH_take (i := 6) (oi := { dst := some 122, op := Op.move (Operand.tmp 28), type := 3, pos := "law.go:87", after := #[], guard := none }) (v := ?_) rfl (by kernel_rfl) (by kernel_rfl) (by kernel_rfl) (fun _ _ _ h => h) (Or.inl ⟨by rfl, ?_⟩) SU ?_
                rotate_left
                · (intro w' hSw; go_simp) <;> with_reducible rfl
                try simp only [Act.put, List.setIfInBounds_toArray, List.set_cons_zero, List.set_cons_succ]
                refine wpAnyH_take (i := 7) (oi := { dst := some 123, op := Op.binOp BinOp.add 3 (Operand.tmp 122) (Operand.const (Value.int IntKind.i64 1)) 3, type := 3, pos := "law.go:87", after := #[{ on := 6, ground := Ground.data }], guard := none }) (v := ?_) rfl (by kernel_rfl) (by kernel_rfl) (by kernel_rfl) (fun _ _ _ h => h) (Or.inl ⟨by rfl, ?_⟩) SU ?_
                rotate_left
                · (intro w' hSw; go_simp) <;> with_reducible rfl
                try simp only [Act.put, List.setIfInBounds_toArray, List.set_cons_zero, List.set_cons_succ]
                refine wpAnyH_take (i := 8) (oi := { dst := some 124, op := Op.slice 31 (Operand.tmp 121) (some (Operand.tmp 123)) none none, type := 31, pos := "law.go:87", after := #[{ on := 5, ground := Ground.data }, { on := 7, ground := Ground.data }], guard := none }) (v := ?_) rfl (by kernel_rfl) (by kernel_rfl) (by kernel_rfl) (fun _ _ _ h => h) (Or.inl ⟨by rfl, ?_⟩) SU ?_
                rotate_left
                · (intro w' hSw; go_simp) <;> with_reducible rfl
                try simp only [Act.put, List.setIfInBounds_toArray, List.set_cons_zero, List.set_cons_succ]
                refine wpAnyH_ready (rs := [0]) (by kernel_rfl) (by simp) ?_
                refine AllReadyH.cons (o := { dst := some 116, op := Op.buildSlice 31 0 #[], type := 31, pos := "law.go:87", after := #[], guard := none }) rfl (fun K hK => ?_) AllReadyH.nil
                go_simp
                obtain ⟨Va, hVa⟩ : ∃ x, x = U.alloc (.cells #[] 29) := ⟨_, rfl⟩
                rw [← hVa]
                have Oa : Va.ownsRow w19.heap.size 29 1 (.slice (some ⟨U.heap.size, 0, none⟩) 0 0) 0 [] := by rw [hVa]; exact own_empty U w19.heap.size 29 (by rw [hUs.out]; exact Nat.le_refl _)
                have Ba : Below w19.heap.size w19 Va := by rw [hVa]; exact BU.alloc (by rw [hUs.out]; exact Nat.le_refl _) _
                have HAa : Hid (_) := app_many E27 (w0 := w19) (w := Va) Oa Ba Ba.size (b := gl) (off := 0) (m := 2) (c := 4) (news := [.slice (T 0).a (T 0).l (T 0).c, .slice (T 1).a (T 1).l (T 1).c]) rfl (fun j u hj => by
                    have hj' := (List.getElem?_eq_some_iff.1 hj).1
                    simp only [List.length_cons, List.length_nil] at hj'
                    rw [World.cell?_of_block (a := ⟨gl, 0 + j, none⟩) (Ba.block gl gllt)]
                    rcases (show j = 0 ∨ j = 1 by omega) with rfl | rfl <;> (first | (rw [← hj]; exact glcell _ (by omega)))) (by intro u hu; simp at hu; (rcases hu with rfl | rfl) <;> rfl) (by omega)
                refine hK.out _ _ trivial (fun _ => ?_)
                clear hK K
                try simp only [Act.put, List.setIfInBounds_toArray, List.set_cons_zero, List.set_cons_succ]
                refine wpAnyH_ready (rs := [4]) (by kernel_rfl) (by simp) ?_
                refine AllReadyH.cons (o := { dst := some 120, op := Op.call { callee := Callee.builtin Builtin.append, args := #[Operand.tmp 116, Operand.tmp 119], argTypes := #[31, 31] }, type := 31, pos := "law.go:87", after := #[{ on := 0, ground := Ground.data }, { on := 3, ground := Ground.data }], guard := none }) rfl (fun K hK => ?_) AllReadyH.nil
                refine step_appv (by rfl) (.tmp 116) (.tmp 119) 31 31 (by rfl) (by rfl) (by rfl) HAa.out ?_
                rintro vb Vb ⟨⟨ab, cb, rfl⟩, Ob, Bb, Zb, Rb⟩
                have HAb : Hid (_) := app_many E27 (w0 := w19) (w := Vb) Ob Bb Bb.size (b := gl) (off := 3) (m := 1) (c := 1) (news := [.slice (T 3).a (T 3).l (T 3).c]) rfl (fun j u hj => by
                    have hj' := (List.getElem?_eq_some_iff.1 hj).1
                    simp only [List.length_cons, List.length_nil] at hj'
                    rw [World.cell?_of_block (a := ⟨gl, 3 + j, none⟩) (Bb.block gl gllt)]
                    rcases (show j = 0 by omega) with rfl <;> (first | (rw [← hj]; exact glcell _ (by omega)))) (by intro u hu; simp at hu; subst hu; rfl) (by omega)
                refine hK.out _ _ trivial (fun _ => ?_)
                clear hK K
                try simp only [Act.put, List.setIfInBounds_toArray, List.set_cons_zero, List.set_cons_succ]
                refine wpAnyH_ready (rs := [9]) (by kernel_rfl) (by simp) ?_
                refine AllReadyH.cons (o := { dst := some 125, op := Op.call { callee := Callee.builtin Builtin.append, args := #[Operand.tmp 120, Operand.tmp 124], argTypes := #[31, 31] }, type := 31, pos := "law.go:87", after := #[{ on := 4, ground := Ground.data }, { on := 8, ground := Ground.data }, { on := 4, ground := Ground.chain }], guard := none }) rfl (fun K hK => ?_) AllReadyH.nil
                refine step_appv (by rfl) (.tmp 120) (.tmp 124) 31 31 (by rfl) (by rfl) (by rfl) HAb.out ?_
                rintro vc Vc ⟨⟨ac, cc, rfl⟩, Oc, Bc, Zc, Rc⟩
                refine hK.out _ _ trivial (fun _ => ?_)
                clear hK K
                try simp only [Act.put, List.setIfInBounds_toArray, List.set_cons_zero, List.set_cons_succ]
                refine wpAnyH_take (i := 10) (oi := { dst := some 27, op := Op.assign (Operand.tmp 125), type := 31, pos := "law.go:87", after := #[{ on := 9, ground := Ground.data }, { on := 9, ground := Ground.chain }, { on := 0, ground := Ground.phase }, { on := 1, ground := Ground.phase }, { on := 2, ground := Ground.phase }, { on := 3, ground := Ground.phase }, { on := 4, ground := Ground.phase }, { on := 5, ground := Ground.phase }, { on := 6, ground := Ground.phase }, { on := 7, ground := Ground.phase }, { on := 8, ground := Ground.phase }, { on := 9, ground := Ground.phase }], guard := none }) (v := ?_) rfl (by kernel_rfl) (by kernel_rfl) (by kernel_rfl) (fun _ _ _ h => h) (Or.inl ⟨by rfl, ?_⟩) trivial ?_
                rotate_left
                · (intro w' hSw; go_simp) <;> with_reducible rfl
                try simp only [Act.put, List.setIfInBounds_toArray, List.set_cons_zero, List.set_cons_succ]
                refine wpAnyH_done (by kernel_rfl) ?_ _
                obtain ⟨a20, c20, e20, hTq⟩ := ownr_tabs (t := fun i => if i = 0 then T 0 else if i = 1 then T 1 else T 3) (n := 3) Oc (by omega) (fun i hi => by rcases (show i = 0 ∨ i = 1 ∨ i = 2 by omega) with rfl | rfl | rfl <;> exact (hT5.each _ (by omega)).below (Bs1.trans (Bc.mono Bs1.size)) (Nat.le_refl _))
                simp only [Value.slice.injEq] at e20
                obtain ⟨rfl, _, rfl⟩ := e20
                have HSq : Hid (Strs Vc _ 3 _ _) := HSs.out.below Bc (Nat.le_refl _)
                have HTq : Hid (Tabs Vc _ 3 _ _) := hTq
                have BQ : Hid (Below w.heap.size w Vc) := B5.trans ((Bs1.trans (Bc.mono Bs1.size)).mono B5.size)
                have HSM : Hid (sumN (fun i => if i = 0 then T 0 else if i = 1 then T 1 else T 3) 3 ≤ 140737488400000) := by show _ ≤ _; have e4 := sum4 T; simp only [sumN]; simp; omega
                have HOKq : Hid (okN (fun i => if i = 0 then tag4 0 else if i = 1 then tag4 1 else tag4 3) 3 = true) := by show _ = _; decide +kernel
                clear hTq Oc Rc Zc Bb Ob Rb Zb HAa HAb Oa Ba BU hUs HSs
                go_wp2
                go_meet
                case rel => exact ⟨_, 3, _, _, _, _, _, rfl, rfl, HSq.out, HTq.out, HOKq.out, by omega, HSM.out, BQ.out⟩
              · go_wp2_with (go_at_call 15; refine (P4 _).mono ?_; rintro e wq ⟨rfl, hww⟩; rw [hww]; clear hww)
                go_wp2_with fail
                refine region_segs [] [
                  [{ dst := some 106, op := Op.buildSlice 30 0 #[], type := 30, pos := "law.go:86", after := #[], guard := none },
                   { dst := some 107, op := Op.move (Operand.tmp 26), type := 30, pos := "law.go:86", after := #[], guard := none },
                   { dst := some 108, op := Op.move (Operand.tmp 28), type := 3, pos := "law.go:86", after := #[], guard := none },
                   { dst := some 109, op := Op.slice 30 (Operand.tmp 107) none (some (Operand.tmp 108)) none, type := 30, pos := "law.go:86", after := #[{ on := 1, ground := Ground.data }, { on := 2, ground := Ground.data }], guard := none },
                   { dst := some 110, op := Op.call { callee := Callee.builtin Builtin.append, args := #[Operand.tmp 106, Operand.tmp 109], argTypes := #[30, 30] }, type := 30, pos := "law.go:86", after := #[{ on := 0, ground := Ground.data }, { on := 3, ground := Ground.data }], guard := none },
                   { dst := some 111, op := Op.move (Operand.tmp 26), type := 30, pos := "law.go:86", after := #[], guard := none },
                   { dst := some 112, op := Op.move (Operand.tmp 28), type := 3, pos := "law.go:86", after := #[], guard := none },
                   { dst := some 113, op := Op.binOp BinOp.add 3 (Operand.tmp 112) (Operand.const (Value.int IntKind.i64 1)) 3, type := 3, pos := "law.go:86", after := #[{ on := 6, ground := Ground.data }], guard := none },
                   { dst := some 114, op := Op.slice 30 (Operand.tmp 111) (some (Operand.tmp 113)) none none, type := 30, pos := "law.go:86", after := #[{ on := 5, ground := Ground.data }, { on := 7, ground := Ground.data }], guard := none },
                   { dst := some 115, op := Op.call { callee := Callee.builtin Builtin.append, args := #[Operand.tmp 110, Operand.tmp 114], argTypes := #[30, 30] }, type := 30, pos := "law.go:86", after := #[{ on := 4, ground := Ground.data }, { on := 8, ground := Ground.data }, { on := 4, ground := Ground.chain }], guard := none },
                   { dst := some 26, op := Op.assign (Operand.tmp 115), type := 30, pos := "law.go:86", after := #[{ on := 9, ground := Ground.data }, { on := 9, ground := Ground.chain }, { on := 0, ground := Ground.phase }, { on := 1, ground := Ground.phase }, { on := 2, ground := Ground.phase }, { on := 3, ground := Ground.phase }, { on := 4, ground := Ground.phase }, { on := 5, ground := Ground.phase }, { on := 6, ground := Ground.phase }, { on := 7, ground := Ground.phase }, { on := 8, ground := Ground.phase }, { on := 9, ground := Ground.phase }], guard := none }]
                  ] (by kernel_rfl) (by kernel_rfl) (by kernel_rfl) ?_
                obtain ⟨U, hU⟩ : ∃ x, x = wc.drew := ⟨_, rfl⟩
                rw [← hU]
                have SU : True := trivial
                have BU : Below wc.heap.size wc U := by rw [hU]; exact (Below.refl _ _).drew
                have hUs : Hid (U.heap.size = wc.heap.size) := by show _ = _; rw [hU]; rfl
                clear hU
                refine chain_last 11 (fun _ => True) (by kernel_rfl) ?_
                refine wpAnyH_take (i := 1) (oi := { dst := some 107, op := Op.move (Operand.tmp 26), type := 30, pos := "law.go:86", after := #[], guard := none }) (v := ?_) rfl (by kernel_rfl) (by kernel_rfl) (by kernel_rfl) (fun _ _ _ h => h) (Or.inl ⟨by rfl, ?_⟩) SU ?_
                rotate_left
                · (intro w' hSw; go_simp) <;> with_reducible rfl
                try simp only [Act.put, List.setIfInBounds_toArray, List.set_cons_zero, List.set_cons_succ]
                refine wpAnyH_take (i := 2) (oi := { dst := some 108, op := Op.move (Operand.tmp 28), type := 3, pos := "law.go:86", after := #[], guard := none }) (v := ?_) rfl (by kernel_rfl) (by kernel_rfl) (by kernel_rfl) (fun _ _ _ h => h) (Or.inl ⟨by rfl, ?_⟩) SU ?_
                rotate_left
                · (intro w' hSw; go_simp) <;> with_reducible rfl
                try simp only [Act.put, List.setIfInBounds_toArray, List.set_cons_zero, List.set_cons_succ]
                refine wpAnyH_take (i := 3) (oi := { dst := some 109, op := Op.slice 30 (Operand.tmp 107) none (some (Operand.tmp 108)) none, type := 30, pos := "law.go:86", after := #[{ on := 1, ground := Ground.data }, { on := 2, ground := Ground.data }], guard := none }) (v := ?_) rfl (by kernel_rfl) (by kernel_rfl) (by kernel_rfl) (fun _ _ _ h => h) (Or.inl ⟨by rfl, ?_⟩) SU ?_
                rotate_left
                · (intro w' hSw; go_simp) <;> with_reducible rfl
                try simp only [Act.put, List.setIfInBounds_toArray, List.set_cons_zero, List.set_cons_succ]
                refine wpAnyH_take (i := 5) (oi := { dst := some 111, op := Op.move (Operand.tmp 26), type := 30, pos := "law.go:86", after := #[], guard := none }) (v := ?_) rfl (by kernel_rfl) (by kernel_rfl) (by kernel_rfl) (fun _ _ _ h => h) (Or.inl ⟨by rfl, ?_⟩) SU ?_
                rotate_left
                · (intro w' hSw; go_simp) <;> with_reducible rfl
                try simp only [Act.put, List.setIfInBounds_toArray, List.set_cons_zero, List.set_cons_succ]
                refine wpAnyH_take (i := 6) (oi := { dst := some 112, op := Op.move (Operand.tmp 28), type := 3, pos := "law.go:86", after := #[], guard := none }) (v := ?_) rfl (by kernel_rfl) (by kernel_rfl) (by kernel_rfl) (fun _ _ _ h => h) (Or.inl ⟨by rfl, ?_⟩) SU ?_
                rotate_left
                · (intro w' hSw; go_simp) <;> with_reducible rfl
                try simp only [Act.put, List.setIfInBounds_toArray, List.set_cons_zero, List.set_cons_succ]
                refine wpAnyH_take (i := 7) (oi := { dst := some 113, op := Op.binOp BinOp.add 3 (Operand.tmp 112) (Operand.const (Value.int IntKind.i64 1)) 3, type := 3, pos := "law.go:86", after := #[{ on := 6, ground := Ground.data }], guard := none }) (v := ?_) rfl (by kernel_rfl) (by kernel_rfl) (by kernel_rfl) (fun _ _ _ h => h) (Or.inl ⟨by rfl, ?_⟩) SU ?_
                rotate_left
                · (intro w' hSw; go_simp) <;> with_reducible rfl
                try simp only [Act.put, List.setIfInBounds_toArray, List.set_cons_zero, List.set_cons_succ]
                refine wpAnyH_take (i := 8) (oi := { dst := some 114, op := Op.slice 30 (Operand.tmp 111) (some (Operand.tmp 113)) none none, type := 30, pos := "law.go:86", after := #[{ on := 5, ground := Ground.data }, { on := 7, ground := Ground.data }], guard := none }) (v := ?_) rfl (by kernel_rfl) (by kernel_rfl) (by kernel_rfl) (fun _ _ _ h => h) (Or.inl ⟨by rfl, ?_⟩) SU ?_
                rotate_left
                · (intro w' hSw; go_simp) <;> with_reducible rfl
                try simp only [Act.put, List.setIfInBounds_toArray, List.set_cons_zero, List.set_cons_succ]
                refine wpAnyH_ready (rs := [0]) (by kernel_rfl) (by simp) ?_
                refine AllReadyH.cons (o := { dst := some 106, op := Op.buildSlice 30 0 #[], type := 30, pos := "law.go:86", after := #[], guard := none }) rfl (fun K hK => ?_) AllReadyH.nil
                go_simp
                obtain ⟨Va, hVa⟩ : ∃ x, x = U.alloc (.cells #[] 9) := ⟨_, rfl⟩
                rw [← hVa]
                have Oa : Va.ownsRow wc.heap.size 9 1 (.slice (some ⟨U.heap.size, 0, none⟩) 0 0) 0 [] := by rw [hVa]; exact own_empty U wc.heap.size 9 (by rw [hUs.out]; exact Nat.le_refl _)
                have Ba : Below wc.heap.size wc Va := by rw [hVa]; exact BU.alloc (by rw [hUs.out]; exact Nat.le_refl _) _
                have HAa : Hid (_) := app_many E26 (w0 := wc) (w := Va) Oa Ba Ba.size (b := gt) (off := 0) (m := 3) (c := 4) (news := [.string (tag4 0), .string (tag4 1), .string (tag4 2)]) rfl (fun j u hj => by
                    have hj' := (List.getElem?_eq_some_iff.1 hj).1
                    simp only [List.length_cons, List.length_nil] at hj'
                    rw [World.cell?_of_block (a := ⟨gt, 0 + j, none⟩) (Ba.block gt gtlt)]
                    rcases (show j = 0 ∨ j = 1 ∨ j = 2 by omega) with rfl | rfl | rfl <;> (first | (rw [← hj]; exact gtcell _ (by omega)))) (by intro u hu; simp at hu; (rcases hu with rfl | rfl | rfl) <;> rfl) (by omega)
                refine hK.out _ _ trivial (fun _ => ?_)
                clear hK K
                try simp only [Act.put, List.setIfInBounds_toArray, List.set_cons_zero, List.set_cons_succ]
                refine wpAnyH_ready (rs := [4]) (by kernel_rfl) (by simp) ?_
                refine AllReadyH.cons (o := { dst := some 110, op := Op.call { callee := Callee.builtin Builtin.append, args := #[Operand.tmp 106, Operand.tmp 109], argTypes := #[30, 30] }, type := 30, pos := "law.go:86", after := #[{ on := 0, ground := Ground.data }, { on := 3, ground := Ground.data }], guard := none }) rfl (fun K hK => ?_) AllReadyH.nil
                refine step_appv (by rfl) (.tmp 106) (.tmp 109) 30 30 (by rfl) (by rfl) (by rfl) HAa.out ?_
                rintro vb Vb ⟨⟨ab, cb, rfl⟩, Ob, Bb, Zb, Rb⟩
                have HAb : Hid (_) := app_many E26 (w0 := wc) (w := Vb) Ob Bb Bb.size (b := gt) (off := 0) (m := 0) (c := 0) (news := []) rfl (fun j u hj => by simp at hj) (by intro u hu; simp at hu) (by omega)
                refine hK.out _ _ trivial (fun _ => ?_)
                clear hK K
                try simp only [Act.put, List.setIfInBounds_toArray, List.set_cons_zero, List.set_cons_succ]
                refine wpAnyH_ready (rs := [9]) (by kernel_rfl) (by simp) ?_
                refine AllReadyH.cons (o := { dst := some 115, op := Op.call { callee := Callee.builtin Builtin.append, args := #[Operand.tmp 110, Operand.tmp 114], argTypes := #[30, 30] }, type := 30, pos := "law.go:86", after := #[{ on := 4, ground := Ground.data }, { on := 8, ground := Ground.data }, { on := 4, ground := Ground.chain }], guard := none }) rfl (fun K hK => ?_) AllReadyH.nil
                refine step_appv (by rfl) (.tmp 110) (.tmp 114) 30 30 (by rfl) (by rfl) (by rfl) HAb.out ?_
                rintro vc Vc ⟨⟨ac, cc, rfl⟩, Oc, Bc, Zc, Rc⟩
                refine hK.out _ _ trivial (fun _ => ?_)
                clear hK K
                try simp only [Act.put, List.setIfInBounds_toArray, List.set_cons_zero, List.set_cons_succ]
                refine wpAnyH_take (i := 10) (oi := { dst := some 26, op := Op.assign (Operand.tmp 115), type := 30, pos := "law.go:86", after := #[{ on := 9, ground := Ground.data }, { on := 9, ground := Ground.chain }, { on := 0, ground := Ground.phase }, { on := 1, ground := Ground.phase }, { on := 2, ground := Ground.phase }, { on := 3, ground := Ground.phase }, { on := 4, ground := Ground.phase }, { on := 5, ground := Ground.phase }, { on := 6, ground := Ground.phase }, { on := 7, ground := Ground.phase }, { on := 8, ground := Ground.phase }, { on := 9, ground := Ground.phase }], guard := none }) (v := ?_) rfl (by kernel_rfl) (by kernel_rfl) (by kernel_rfl) (fun _ _ _ h => h) (Or.inl ⟨by rfl, ?_⟩) trivial ?_
                rotate_left
                · (intro w' hSw; go_simp) <;> with_reducible rfl
                try simp only [Act.put, List.setIfInBounds_toArray, List.set_cons_zero, List.set_cons_succ]
                refine wpAnyH_done (by kernel_rfl) ?_ _
                obtain ⟨a19, c19, e19, hSs⟩ := ownr_strs (s := fun i => if i = 0 then tag4 0 else if i = 1 then tag4 1 else tag4 2) (n := 3) Oc (by omega)
                simp only [Value.slice.injEq] at e19
                obtain ⟨rfl, _, rfl⟩ := e19
                have HSs : Hid (Strs Vc _ 3 _ _) := hSs
                have Bs1 : Below wc.heap.size wc Vc := Bc
                have hsV := Bc.size
                obtain ⟨w19, hw19⟩ : ∃ x, x = Vc := ⟨_, rfl⟩
                subst hw19
                clear hSs Oc Rc Zc Bb Ob Rb Zb HAa HAb Oa Ba BU hUs
                have gllt : gl < w19.heap.size := by have := blk_lt hT5.tabs; omega
                have glcell : ∀ i, i < 4 → w19.cell? ⟨gl, i, none⟩ = some (.slice (T i).a (T i).l (T i).c) := fun i hi => by rw [World.cell?_of_block (a := ⟨gl, i, none⟩) (Bs1.block gl (blk_lt hT5.tabs))]; exact arr_cell hT5.tabs hi
                go_wp2_with fail
                refine region_segs [] [
                  [{ dst := some 116, op := Op.buildSlice 31 0 #[], type := 31, pos := "law.go:87", after := #[], guard := none },
                   { dst := some 117, op := Op.move (Operand.tmp 27), type := 31, pos := "law.go:87", after := #[], guard := none },
                   { dst := some 118, op := Op.move (Operand.tmp 28), type := 3, pos := "law.go:87", after := #[], guard := none },
                   { dst := some 119, op := Op.slice 31 (Operand.tmp 117) none (some (Operand.tmp 118)) none, type := 31, pos := "law.go:87", after := #[{ on := 1, ground := Ground.data }, { on := 2, ground := Ground.data }], guard := none },
                   { dst := some 120, op := Op.call { callee := Callee.builtin Builtin.append, args := #[Operand.tmp 116, Operand.tmp 119], argTypes := #[31, 31] }, type := 31, pos := "law.go:87", after := #[{ on := 0, ground := Ground.data }, { on := 3, ground := Ground.data }], guard := none },
                   { dst := some 121, op := Op.move (Operand.tmp 27), type := 31, pos := "law.go:87", after := #[], guard := none },
                   { dst := some 122, op := Op.move (Operand.tmp 28), type := 3, pos := "law.go:87", after := #[], guard := none },
                   { dst := some 123, op := Op.binOp BinOp.add 3 (Operand.tmp 122) (Operand.const (Value.int IntKind.i64 1)) 3, type := 3, pos := "law.go:87", after := #[{ on := 6, ground := Ground.data }], guard := none },
                   { dst := some 124, op := Op.slice 31 (Operand.tmp 121) (some (Operand.tmp 123)) none none, type := 31, pos := "law.go:87", after := #[{ on := 5, ground := Ground.data }, { on := 7, ground := Ground.data }], guard := none },
                   { dst := some 125, op := Op.call { callee := Callee.builtin Builtin.append, args := #[Operand.tmp 120, Operand.tmp 124], argTypes := #[31, 31] }, type := 31, pos := "law.go:87", after := #[{ on := 4, ground := Ground.data }, { on := 8, ground := Ground.data }, { on := 4, ground := Ground.chain }], guard := none },
                   { dst := some 27, op := Op.assign (Operand.tmp 125), type := 31, pos := "law.go:87", after := #[{ on := 9, ground := Ground.data }, { on := 9, ground := Ground.chain }, { on := 0, ground := Ground.phase }, { on := 1, ground := Ground.phase }, { on := 2, ground := Ground.phase }, { on := 3, ground := Ground.phase }, { on := 4, ground := Ground.phase }, { on := 5, ground := Ground.phase }, { on := 6, ground := Ground.phase }, { on := 7, ground := Ground.phase }, { on := 8, ground := Ground.phase }, { on := 9, ground := Ground.phase }], guard := none }]
                  ] (by kernel_rfl) (by kernel_rfl) (by kernel_rfl) ?_
                obtain ⟨U, hU⟩ : ∃ x, x = w19.drew := ⟨_, rfl⟩
                rw [← hU]
                have SU : True := trivial
                have BU : Below w19.heap.size w19 U := by rw [hU]; exact (Below.refl _ _).drew
                have hUs : Hid (U.heap.size = w19.heap.size) := by show _ = _; rw [hU]; rfl
                clear hU
                refine chain_last 11 (fun _ => True) (by kernel_rfl) ?_
                refine wpAnyH_take (i := 1) (oi := { dst := some 117, op := Op.move (Operand.tmp 27), type := 31, pos := "law.go:87", after := #[], guard := none }) (v := ?_) rfl (by kernel_rfl) (by kernel_rfl) (by kernel_rfl) (fun _ _ _ h => h) (Or.inl ⟨by rfl, ?_⟩) SU ?_
                rotate_left
                · (intro w' hSw; go_simp) <;> with_reducible rfl
                try simp only [Act.put, List.setIfInBounds_toArray, List.set_cons_zero, List.set_cons_succ]
                refine wpAnyH_take (i := 2) (oi := { dst := some 118, op := Op.move (Operand.tmp 28), type := 3, pos := "law.go:87", after := #[], guard := none }) (v := ?_) rfl (by kernel_rfl) (by kernel_rfl) (by kernel_rfl) (fun _ _ _ h => h) (Or.inl ⟨by rfl, ?_⟩) SU ?_
                rotate_left
                · (intro w' hSw; go_simp) <;> with_reducible rfl
                try simp only [Act.put, List.setIfInBounds_toArray, List.set_cons_zero, List.set_cons_succ]
                refine wpAnyH_take (i := 3) (oi := { dst := some 119, op := Op.slice 31 (Operand.tmp 117) none (some (Operand.tmp 118)) none, type := 31, pos := "law.go:87", after := #[{ on := 1, ground := Ground.data }, { on := 2, ground := Ground.data }], guard := none }) (v := ?_) rfl (by kernel_rfl) (by kernel_rfl) (by kernel_rfl) (fun _ _ _ h => h) (Or.inl ⟨by rfl, ?_⟩) SU ?_
                rotate_left
                · (intro w' hSw; go_simp) <;> with_reducible rfl
                try simp only [Act.put, List.setIfInBounds_toArray, List.set_cons_zero, List.set_cons_succ]
                refine wpAnyH_take (i := 5) (oi := { dst := some 121, op := Op.move (Operand.tmp 27), type := 31, pos := "law.go:87", after := #[], guard := none }) (v := ?_) rfl (by kernel_rfl) (by kernel_rfl) (by kernel_rfl) (fun _ _ _ h => h) (Or.inl ⟨by rfl, ?_⟩) SU ?_
                rotate_left
                · (intro w' hSw; go_simp) <;> with_reducible rfl
                try simp only [Act.put, List.setIfInBounds_toArray, List.set_cons_zero, List.set_cons_succ]
                refine wpAnyH_take (i := 6) (oi := { dst := some 122, op := Op.move (Operand.tmp 28), type := 3, pos := "law.go:87", after := #[], guard := none }) (v := ?_) rfl (by kernel_rfl) (by kernel_rfl) (by kernel_rfl) (fun _ _ _ h => h) (Or.inl ⟨by rfl, ?_⟩) SU ?_
                rotate_left
                · (intro w' hSw; go_simp) <;> with_reducible rfl
                try simp only [Act.put, List.setIfInBounds_toArray, List.set_cons_zero, List.set_cons_succ]
                refine wpAnyH_take (i := 7) (oi := { dst := some 123, op := Op.binOp BinOp.add 3 (Operand.tmp 122) (Operand.const (Value.int IntKind.i64 1)) 3, type := 3, pos := "law.go:87", after := #[{ on := 6, ground := Ground.data }], guard := none }) (v := ?_) rfl (by kernel_rfl) (by kernel_rfl) (by kernel_rfl) (fun _ _ _ h => h) (Or.inl ⟨by rfl, ?_⟩) SU ?_
                rotate_left
                · (intro w' hSw; go_simp) <;> with_reducible rfl
                try simp only [Act.put, List.setIfInBounds_toArray, List.set_cons_zero, List.set_cons_succ]
                refine wpAnyH_take (i := 8) (oi := { dst := some 124, op := Op.slice 31 (Operand.tmp 121) (some (Operand.tmp 123)) none none, type := 31, pos := "law.go:87", after := #[{ on := 5, ground := Ground.data }, { on := 7, ground := Ground.data }], guard := none }) (v := ?_) rfl (by kernel_rfl) (by kernel_rfl) (by kernel_rfl) (fun _ _ _ h => h) (Or.inl ⟨by rfl, ?_⟩) SU ?_
                rotate_left
                · (intro w' hSw; go_simp) <;> with_reducible rfl
                try simp only [Act.put, List.setIfInBounds_toArray, List.set_cons_zero, List.set_cons_succ]
                refine wpAnyH_ready (rs := [0]) (by kernel_rfl) (by simp) ?_
                refine AllReadyH.cons (o := { dst := some 116, op := Op.buildSlice 31 0 #[], type := 31, pos := "law.go:87", after := #[], guard := none }) rfl (fun K hK => ?_) AllReadyH.nil
                go_simp
                obtain ⟨Va, hVa⟩ : ∃ x, x = U.alloc (.cells #[] 29) := ⟨_, rfl⟩
                rw [← hVa]
                have Oa : Va.ownsRow w19.heap.size 29 1 (.slice (some ⟨U.heap.size, 0, none⟩) 0 0) 0 [] := by rw [hVa]; exact own_empty U w19.heap.size 29 (by rw [hUs.out]; exact Nat.le_refl _)
                have Ba : Below w19.heap.size w19 Va := by rw [hVa]; exact BU.alloc (by rw [hUs.out]; exact Nat.le_refl _) _
                have HAa : Hid (_) := app_many E27 (w0 := w19) (w := Va) Oa Ba Ba.size (b := gl) (off := 0) (m := 3) (c := 4) (news := [.slice (T 0).a (T 0).l (T 0).c, .slice (T 1).a (T 1).l (T 1).c, .slice (T 2).a (T 2).l (T 2).c]) rfl (fun j u hj => by
                    have hj' := (List.getElem?_eq_some_iff.1 hj).1
                    simp only [List.length_cons, List.length_nil] at hj'
                    rw [World.cell?_of_block (a := ⟨gl, 0 + j, none⟩) (Ba.block gl gllt)]
                    rcases (show j = 0 ∨ j = 1 ∨ j = 2 by omega) with rfl | rfl | rfl <;> (first | (rw [← hj]; exact glcell _ (by omega)))) (by intro u hu; simp at hu; (rcases hu with rfl | rfl | rfl) <;> rfl) (by omega)
                refine hK.out _ _ trivial (fun _ => ?_)
                clear hK K
                try simp only [Act.put, List.setIfInBounds_toArray, List.set_cons_zero, List.set_cons_succ]
                refine wpAnyH_ready (rs := [4]) (by kernel_rfl) (by simp) ?_
                refine AllReadyH.cons (o := { dst := some 120, op := Op.call { callee := Callee.builtin Builtin.append, args := #[Operand.tmp 116, Operand.tmp 119], argTypes := #[31, 31] }, type := 31, pos := "law.go:87", after := #[{ on := 0, ground := Ground.data }, { on := 3, ground := Ground.data }], guard := none }) rfl (fun K hK => ?_) AllReadyH.nil
                refine step_appv (by rfl) (.tmp 116) (.tmp 119) 31 31 (by rfl) (by rfl) (by rfl) HAa.out ?_
                rintro vb Vb ⟨⟨ab, cb, rfl⟩, Ob, Bb, Zb, Rb⟩
                have HAb : Hid (_) := app_many E27 (w0 := w19) (w := Vb) Ob Bb Bb.size (b := gl) (off := 0) (m := 0) (c := 0) (news := []) rfl (fun j u hj => by simp at hj) (by intro u hu; simp at hu) (by omega)
                refine hK.out _ _ trivial (fun _ => ?_)
                clear hK K
                try simp only [Act.put, List.setIfInBounds_toArray, List.set_cons_zero, List.set_cons_succ]
                refine wpAnyH_ready (rs := [9]) (by kernel_rfl) (by simp) ?_
                refine AllReadyH.cons (o := { dst := some 125, op := Op.call { callee := Callee.builtin Builtin.append, args := #[Operand.tmp 120, Operand.tmp 124], argTypes := #[31, 31] }, type := 31, pos := "law.go:87", after := #[{ on := 4, ground := Ground.data }, { on := 8, ground := Ground.data }, { on := 4, ground := Ground.chain }], guard := none }) rfl (fun K hK => ?_) AllReadyH.nil
                refine step_appv (by rfl) (.tmp 120) (.tmp 124) 31 31 (by rfl) (by rfl) (by rfl) HAb.out ?_
                rintro vc Vc ⟨⟨ac, cc, rfl⟩, Oc, Bc, Zc, Rc⟩
                refine hK.out _ _ trivial (fun _ => ?_)
                clear hK K
                try simp only [Act.put, List.setIfInBounds_toArray, List.set_cons_zero, List.set_cons_succ]
                refine wpAnyH_take (i := 10) (oi := { dst := some 27, op := Op.assign (Operand.tmp 125), type := 31, pos := "law.go:87", after := #[{ on := 9, ground := Ground.data }, { on := 9, ground := Ground.chain }, { on := 0, ground := Ground.phase }, { on := 1, ground := Ground.phase }, { on := 2, ground := Ground.phase }, { on := 3, ground := Ground.phase }, { on := 4, ground := Ground.phase }, { on := 5, ground := Ground.phase }, { on := 6, ground := Ground.phase }, { on := 7, ground := Ground.phase }, { on := 8, ground := Ground.phase }, { on := 9, ground := Ground.phase }], guard := none }) (v := ?_) rfl (by kernel_rfl) (by kernel_rfl) (by kernel_rfl) (fun _ _ _ h => h) (Or.inl ⟨by rfl, ?_⟩) trivial ?_
                rotate_left
                · (intro w' hSw; go_simp) <;> with_reducible rfl
                try simp only [Act.put, List.setIfInBounds_toArray, List.set_cons_zero, List.set_cons_succ]
                refine wpAnyH_done (by kernel_rfl) ?_ _
                obtain ⟨a20, c20, e20, hTq⟩ := ownr_tabs (t := fun i => if i = 0 then T 0 else if i = 1 then T 1 else T 2) (n := 3) Oc (by omega) (fun i hi => by rcases (show i = 0 ∨ i = 1 ∨ i = 2 by omega) with rfl | rfl | rfl <;> exact (hT5.each _ (by omega)).below (Bs1.trans (Bc.mono Bs1.size)) (Nat.le_refl _))
                simp only [Value.slice.injEq] at e20
                obtain ⟨rfl, _, rfl⟩ := e20
                have HSq : Hid (Strs Vc _ 3 _ _) := HSs.out.below Bc (Nat.le_refl _)
                have HTq : Hid (Tabs Vc _ 3 _ _) := hTq
                have BQ : Hid (Below w.heap.size w Vc) := B5.trans ((Bs1.trans (Bc.mono Bs1.size)).mono B5.size)
                have HSM : Hid (sumN (fun i => if i = 0 then T 0 else if i = 1 then T 1 else T 2) 3 ≤ 140737488400000) := by show _ ≤ _; have e4 := sum4 T; simp only [sumN]; simp; omega
                have HOKq : Hid (okN (fun i => if i = 0 then tag4 0 else if i = 1 then tag4 1 else tag4 2) 3 = true) := by show _ = _; decide +kernel
                clear hTq Oc Rc Zc Bb Ob Rb Zb HAa HAb Oa Ba BU hUs HSs
                go_wp2
                go_meet
                case rel => exact ⟨_, 3, _, _, _, _, _, rfl, rfl, HSq.out, HTq.out, HOKq.out, by omega, HSM.out, BQ.out⟩
            · go_wp2_with fail
              go_loopw [29] (fun v wq => ∃ (i : Nat) (T' : Nat → Tab), v = .int .i64 (i : Nat) ∧ i ≤ 3 ∧ Hid (Bs2 wq gt gl T') ∧ Hid (∀ j, j < 4 → (T' j).l = (T j).l) ∧ Below w.heap.size w wq) (fun v _ => 3 - (intOf v).toNat)
              case atStart => exact ⟨0, T, rfl, by omega, hT5, fun _ _ => rfl, B5⟩
              case round =>
                obtain ⟨i, T', rfl, hi3, hBT, hTl, hBq⟩ := hrel
                by_cases q : i < n7 ∧ i < 3
                · obtain ⟨q1, q2⟩ := q
                  have q1' : (i : Int) < n7 := by omega
                  have q2' : (i : Int) < 3 := by omega
                  obtain ⟨b7, o7, rfl, hb7, hc7⟩ := h7.spot (by omega)
                  have hc7i := hc7 i q1
                  have cI : wr.cell? ⟨b7, o7 + i, none⟩ = some (.int .i64 (f7 i)) := by rw [World.cell?_of_block (a := ⟨b7, o7 + i, none⟩) (hBq.block b7 hb7)]; exact hc7i
                  have P6 := fun W => pick_big (f7 i) 3 (by omega) (by omega) W
                  have hp6 := pickv_lt (f7 i) 3 (by omega)
                  obtain ⟨kq, hkq⟩ : ∃ r, Hid (pickv (f7 i) 3 = r) := ⟨_, rfl⟩
                  rw [hkq.out] at hp6
                  simp only [hkq.out] at P6
                  have hf7 := h7.fit i
                  have hq3b := tdiv_3 hf7
                  obtain ⟨q3, hq3⟩ : ∃ q, (f7 i).tdiv 3 = q := ⟨_, rfl⟩
                  rw [hq3] at hq3b
                  have hwq3 : IntKind.wrap .i64 q3 = q3 := wrap_fit hq3b
                  have kq4 : (kq : Int) < 4 := by omega
                  have cT := arr_cell hBT.out.tabs (t := kq) (by omega)
                  have LT := hBT.out.each kq (by omega)
                  have htlT : Hid ((T' kq).l = (T kq).l) := hTl.out kq (by omega)
                  have hle : (T kq).l ≤ 600 := by
                    have := sum4 T
                    rcases (show kq = 0 ∨ kq = 1 ∨ kq = 2 by omega) with rfl | rfl | rfl <;> omega
                  rw [← htlT.out] at hle
                  obtain ⟨tl, htl⟩ : ∃ x, (T' kq).l = x := ⟨_, rfl⟩
                  obtain ⟨ta, hta⟩ : ∃ x, (T' kq).a = x := ⟨_, rfl⟩
                  obtain ⟨tc, htc⟩ : ∃ x, (T' kq).c = x := ⟨_, rfl⟩
                  obtain ⟨tz, htz'⟩ : ∃ x, (T' kq).z = x := ⟨_, rfl⟩
                  rw [htl, hta, htc] at cT
                  rw [htl, hta, htc, htz'] at LT
                  rw [htl] at htlT hle
                  have htz := LT.byte
                  have hltc := LT.lc
                  clear htl hta htc htz' hc7
                  go_wp2_with (go_at_call 15; refine (P6 _).mono ?_; rintro e w' ⟨rfl, hww⟩; rw [hww]; clear hww)
                  go_wp2_with fail
                  refine region_segs [] [
                    [{ dst := some 144, op := Op.move (Operand.tmp 27), type := 31, pos := "law.go:91", after := #[], guard := none },
                     { dst := some 145, op := Op.move (Operand.tmp 30), type := 3, pos := "law.go:91", after := #[], guard := none },
                     { dst := some 146, op := Op.indexAddr 31 (Operand.tmp 144) (Operand.tmp 145), type := 0, pos := "law.go:91", after := #[{ on := 0, ground := Ground.data }, { on := 1, ground := Ground.data }], guard := none },
                     { dst := some 147, op := Op.load 29 (Operand.tmp 146), type := 29, pos := "law.go:91", after := #[{ on := 2, ground := Ground.data }], guard := none },
                     { dst := some 148, op := Op.move (Operand.tmp 27), type := 31, pos := "law.go:91", after := #[], guard := none },
                     { dst := some 149, op := Op.move (Operand.tmp 30), type := 3, pos := "law.go:91", after := #[], guard := none },
                     { dst := some 150, op := Op.indexAddr 31 (Operand.tmp 148) (Operand.tmp 149), type := 0, pos := "law.go:91", after := #[{ on := 4, ground := Ground.data }, { on := 5, ground := Ground.data }], guard := none },
                     { dst := some 151, op := Op.load 29 (Operand.tmp 150), type := 29, pos := "law.go:91", after := #[{ on := 6, ground := Ground.data }], guard := none },
                     { dst := some 152, op := Op.call { callee := Callee.builtin Builtin.len, args := #[Operand.tmp 151], argTypes := #[29] }, type := 3, pos := "law.go:91", after := #[{ on := 7, ground := Ground.data }], guard := none },
                     { dst := some 153, op := Op.call { callee := Callee.value (Operand.func 14), args := #[Operand.tmp 147, Operand.tmp 152], argTypes := #[29, 3] }, type := 29, pos := "law.go:91", after := #[{ on := 3, ground := Ground.data }, { on := 8, ground := Ground.data }], guard := none },
                     { dst := some 31, op := Op.assign (Operand.tmp 153), type := 29, pos := "law.go:91", after := #[{ on := 9, ground := Ground.data }, { on := 9, ground := Ground.chain }, { on := 0, ground := Ground.phase }, { on := 1, ground := Ground.phase }, { on := 2, ground := Ground.phase }, { on := 3, ground := Ground.phase }, { on := 4, ground := Ground.phase }, { on := 5, ground := Ground.phase }, { on := 6, ground := Ground.phase }, { on := 7, ground := Ground.phase }, { on := 8, ground := Ground.phase }, { on := 9, ground := Ground.phase }], guard := none }]
                    ] (by kernel_rfl) (by kernel_rfl) (by kernel_rfl) ?_
                  obtain ⟨U, hU⟩ : ∃ x, x = wr.drew := ⟨_, rfl⟩
                  rw [← hU]
                  have SU : U.cell? ⟨gl, kq, none⟩ = some (.slice ta tl tc) := by rw [hU]; exact cT
                  have BU : Below wr.heap.size wr U := by rw [hU]; exact (Below.refl _ _).drew
                  have hUs : Hid (U.heap.size = wr.heap.size) := by show _ = _; rw [hU]; rfl
                  have glU : gl < U.heap.size := by rw [hUs.out]; exact blk_lt hBT.out.tabs
                  have FW := few_up ta tl tc tl tl tz U (LT.below BU (Nat.le_refl _)) (by omega) (by omega) (by omega)
                  clear hU
                  refine chain_last 11 (fun V => V.cell? ⟨gl, kq, none⟩ = some (.slice ta tl tc)) (by kernel_rfl) ?_
                  refine wpAnyH_take (i := 0) (oi := { dst := some 144, op := Op.move (Operand.tmp 27), type := 31, pos := "law.go:91", after := #[], guard := none }) (v := ?_) rfl (by kernel_rfl) (by kernel_rfl) (by kernel_rfl) (fun _ _ _ h => h) (Or.inl ⟨by rfl, ?_⟩) SU ?_
                  rotate_left
                  · (intro w' hSw; go_simp) <;> with_reducible rfl
                  try simp only [Act.put, List.setIfInBounds_toArray, List.set_cons_zero, List.set_cons_succ]
                  refine wpAnyH_take (i := 1) (oi := { dst := some 145, op := Op.move (Operand.tmp 30), type := 3, pos := "law.go:91", after := #[], guard := none }) (v := ?_) rfl (by kernel_rfl) (by kernel_rfl) (by kernel_rfl) (fun _ _ _ h => h) (Or.inl ⟨by rfl, ?_⟩) SU ?_
                  rotate_left
                  · (intro w' hSw; go_simp) <;> with_reducible rfl
                  try simp only [Act.put, List.setIfInBounds_toArray, List.set_cons_zero, List.set_cons_succ]
                  refine wpAnyH_take (i := 2) (oi := { dst := some 146, op := Op.indexAddr 31 (Operand.tmp 144) (Operand.tmp 145), type := 0, pos := "law.go:91", after := #[{ on := 0, ground := Ground.data }, { on := 1, ground := Ground.data }], guard := none }) (v := ?_) rfl (by kernel_rfl) (by kernel_rfl) (by kernel_rfl) (fun _ _ _ h => h) (Or.inl ⟨by rfl, ?_⟩) SU ?_
                  rotate_left
                  · (intro w' hSw; go_simp) <;> with_reducible rfl
                  try simp only [Act.put, List.setIfInBounds_toArray, List.set_cons_zero, List.set_cons_succ]
                  refine wpAnyH_take (i := 3) (oi := { dst := some 147, op := Op.load 29 (Operand.tmp 146), type := 29, pos := "law.go:91", after := #[{ on := 2, ground := Ground.data }], guard := none }) (v := ?_) rfl (by kernel_rfl) (by kernel_rfl) (by kernel_rfl) (fun _ _ _ h => h) (Or.inl ⟨by rfl, ?_⟩) SU ?_
                  rotate_left
                  · (intro w' hSw; have k3 := hSw; go_simp) <;> with_reducible rfl
                  try simp only [Act.put, List.setIfInBounds_toArray, List.set_cons_zero, List.set_cons_succ]
                  refine wpAnyH_take (i := 4) (oi := { dst := some 148, op := Op.move (Operand.tmp 27), type := 31, pos := "law.go:91", after := #[], guard := none }) (v := ?_) rfl (by kernel_rfl) (by kernel_rfl) (by kernel_rfl) (fun _ _ _ h => h) (Or.inl ⟨by rfl, ?_⟩) SU ?_
                  rotate_left
                  · (intro w' hSw; go_simp) <;> with_reducible rfl
                  try simp only [Act.put, List.setIfInBounds_toArray, List.set_cons_zero, List.set_cons_succ]
                  refine wpAnyH_take (i := 5) (oi := { dst := some 149, op := Op.move (Operand.tmp 30), type := 3, pos := "law.go:91", after := #[], guard := none }) (v := ?_) rfl (by kernel_rfl) (by kernel_rfl) (by kernel_rfl) (fun _ _ _ h => h) (Or.inl ⟨by rfl, ?_⟩) SU ?_
                  rotate_left
                  · (intro w' hSw; go_simp) <;> with_reducible rfl
                  try simp only [Act.put, List.setIfInBounds_toArray, List.set_cons_zero, List.set_cons_succ]
                  refine wpAnyH_take (i := 6) (oi := { dst := some 150, op := Op.indexAddr 31 (Operand.tmp 148) (Operand.tmp 149), type := 0, pos := "law.go:91", after := #[{ on := 4, ground := Ground.data }, { on := 5, ground := Ground.data }], guard := none }) (v := ?_) rfl (by kernel_rfl) (by kernel_rfl) (by kernel_rfl) (fun _ _ _ h => h) (Or.inl ⟨by rfl, ?_⟩) SU ?_
                  rotate_left
                  · (intro w' hSw; go_simp) <;> with_reducible rfl
                  try simp only [Act.put, List.setIfInBounds_toArray, List.set_cons_zero, List.set_cons_succ]
                  refine wpAnyH_take (i := 7) (oi := { dst := some 151, op := Op.load 29 (Operand.tmp 150), type := 29, pos := "law.go:91", after := #[{ on := 6, ground := Ground.data }], guard := none }) (v := ?_) rfl (by kernel_rfl) (by kernel_rfl) (by kernel_rfl) (fun _ _ _ h => h) (Or.inl ⟨by rfl, ?_⟩) SU ?_
                  rotate_left
                  · (intro w' hSw; have k7 := hSw; go_simp) <;> with_reducible rfl
                  try simp only [Act.put, List.setIfInBounds_toArray, List.set_cons_zero, List.set_cons_succ]
                  refine wpAnyH_take (i := 8) (oi := { dst := some 152, op := Op.call { callee := Callee.builtin Builtin.len, args := #[Operand.tmp 151], argTypes := #[29] }, type := 3, pos := "law.go:91", after := #[{ on := 7, ground := Ground.data }], guard := none }) (v := ?_) rfl (by kernel_rfl) (by kernel_rfl) (by kernel_rfl) (fun _ _ _ h => h) (Or.inl ⟨by rfl, ?_⟩) SU ?_
                  rotate_left
                  · (intro w' hSw; go_simp) <;> with_reducible rfl
                  try simp only [Act.put, List.setIfInBounds_toArray, List.set_cons_zero, List.set_cons_succ]
                  refine wpAnyH_ready (rs := [9]) (by kernel_rfl) (by simp) ?_
                  refine AllReadyH.cons (o := { dst := some 153, op := Op.call { callee := Callee.value (Operand.func 14), args := #[Operand.tmp 147, Operand.tmp 152], argTypes := #[29, 3] }, type := 29, pos := "law.go:91", after := #[{ on := 3, ground := Ground.data }, { on := 8, ground := Ground.data }], guard := none }) rfl (fun K hK => ?_) AllReadyH.nil
                  go_simp
                  go_at_call 14
                  refine FW.mono ?_
                  rintro e w4 ⟨g4, c4', rfl, O4, b4⟩
                  go_wp2_with fail
                  refine hK.out _ _ (by rw [World.cell?_of_block (a := ⟨gl, kq, none⟩) (b4.block gl glU)]; exact SU) (fun _ => ?_)
                  clear hK K
                  try simp only [Act.put, List.setIfInBounds_toArray, List.set_cons_zero, List.set_cons_succ]
                  refine wpAnyH_take (i := 10) (oi := { dst := some 31, op := Op.assign (Operand.tmp 153), type := 29, pos := "law.go:91", after := #[{ on := 9, ground := Ground.data }, { on := 9, ground := Ground.chain }, { on := 0, ground := Ground.phase }, { on := 1, ground := Ground.phase }, { on := 2, ground := Ground.phase }, { on := 3, ground := Ground.phase }, { on := 4, ground := Ground.phase }, { on := 5, ground := Ground.phase }, { on := 6, ground := Ground.phase }, { on := 7, ground := Ground.phase }, { on := 8, ground := Ground.phase }, { on := 9, ground := Ground.phase }], guard := none }) (v := ?_) rfl (by kernel_rfl) (by kernel_rfl) (by kernel_rfl) (fun _ _ _ h => h) (Or.inl ⟨by rfl, ?_⟩) (by rw [World.cell?_of_block (a := ⟨gl, kq, none⟩) (b4.block gl glU)]; exact SU) ?_
                  rotate_left
                  · (intro w' hSw; go_simp) <;> with_reducible rfl
                  try simp only [Act.put, List.setIfInBounds_toArray, List.set_cons_zero, List.set_cons_succ]
                  refine wpAnyH_done (by kernel_rfl) ?_ _
                  have b04 : Below wr.heap.size wr w4 := BU.trans (b4.mono BU.size)
                  have B4 := hBq.trans (b04.mono hBq.size)
                  have hg4 : U.heap.size ≤ g4 := O4.lt.1
                  have hg4w : wr.heap.size ≤ g4 := by rw [← hUs.out]; exact hg4
                  clear SU FW cT cI P6 BU
                  by_cases h0 : 0 < tl
                  · have h0' : (0 : Int) < tl := by omega
                    have P9 := fun W => pick_big q3 tl h0 (by omega) W
                    have hp9 := pickv_lt q3 tl h0
                    obtain ⟨p9, hp9'⟩ : ∃ r, Hid (pickv q3 tl = r) := ⟨_, rfl⟩
                    rw [hp9'.out] at hp9
                    simp only [hp9'.out] at P9
                    have hp9i : (p9 : Int) < tl := by omega
                    have hbyt := byt_of (n := tl) (q := 0) htz
                    obtain ⟨v, hv⟩ : ∃ v : Nat, Hid ((byt tz 0 tl).getD p9 0 = (v : Nat)) := ⟨((byt tz 0 tl).getD p9 0).toNat, by show _ = _; have := hbyt p9; omega⟩
                    have hv256 : v < 256 := by have := hbyt p9; rw [hv.out] at this; omega
                    obtain ⟨X, hX, hX256, _⟩ := xor_u8 v yn hv256 hyn
                    have cell := O4.cell (j := p9) (by rw [byt_len]; exact hp9)
                    rw [hv.out] at cell
                    have fr := O4.free p9
                    have cI4 : w4.cell? ⟨b7, o7 + i, none⟩ = some (.int .i64 (f7 i)) := by rw [World.cell?_of_block (a := ⟨b7, o7 + i, none⟩) (B4.block b7 hb7)]; exact hc7i
                    obtain ⟨w5, hw5⟩ : ∃ W, W = w4.setCell ⟨g4, p9, none⟩ (.int .u8 (X : Nat)) := ⟨_, rfl⟩
                    have O5 : Own w5 U.heap.size 5 .u8 g4 c4' ((byt tz 0 tl).set p9 ((X : Nat) : Int)) := by rw [hw5]; exact O4.set p9 ((X : Nat) : Int)
                    have b05 : Below wr.heap.size wr w5 := by rw [hw5]; exact b04.setCell (p := ⟨g4, p9, none⟩) hg4w _
                    have B5' := hBq.trans (b05.mono hBq.size)
                    have BT5 := hBT.out.below b05 (Nat.le_refl _)
                    have HW5 : Hid (w5 = _) := hw5
                    have f5 := blk_free BT5.tabs kq
                    have c5' := arr_cell BT5.tabs (t := kq) (by omega)
                    have L5 := O5.liesB (byt_set hbyt p9 X hX256) (by rw [List.length_set, byt_len]; omega)
                    rw [List.length_set, byt_len] at L5
                    have glw := blk_lt hBT.out.tabs
                    have BT6 : Hid (Bs2 (w5.setCell ⟨gl, kq, none⟩ (.slice (some ⟨g4, 0, none⟩) tl c4')) gt gl (tabU T' kq ⟨some ⟨g4, 0, none⟩, tl, c4', zb ((byt tz 0 tl).set p9 ((X : Nat) : Int))⟩)) :=
                      BT5.set kq ⟨some ⟨g4, 0, none⟩, tl, c4', zb ((byt tz 0 tl).set p9 ((X : Nat) : Int))⟩ L5 (fun _ b' off' sp' e' => by simp only [Option.some.injEq, Addr.mk.injEq] at e'; omega)
                    have B6 : Hid (Below w.heap.size w (w5.setCell ⟨gl, kq, none⟩ (.slice (some ⟨g4, 0, none⟩) tl c4'))) := B5'.setCell (by show w.heap.size ≤ gl; exact hgl2) _
                    have HL6 : Hid (∀ j, j < 4 → (tabU T' kq ⟨some ⟨g4, 0, none⟩, tl, c4', zb ((byt tz 0 tl).set p9 ((X : Nat) : Int))⟩ j).l = (T j).l) := fun j hj => by
                      unfold tabU
                      by_cases e : j = kq
                      · rw [if_pos e, e]; exact htlT.out
                      · rw [if_neg e]; exact hTl.out j hj
                    clear hw5 O4 O5 b05 B5' BT5 L5 b04 B4 b4
                    go_wp2_with (first
                      | (go_at_call 15; refine (P9 _).mono ?_; rintro e w' ⟨rfl, hww⟩; rw [hww]; clear hww)
                      | (rw [← HW5.out]))
                    try go_wp2
                    refine ⟨?_, by simp [intOf]; omega⟩
                    (repeat apply Exists.intro)
                    refine ⟨?_, rfl⟩
                    exact ⟨i + 1, _, by go_num, by omega, BT6, HL6, B6.out⟩
                  · have h0' : ¬ (0 : Int) < tl := by omega
                    have BT4 : Hid (Bs2 w4 gt gl T') := hBT.out.below b04 (Nat.le_refl _)
                    clear O4 b04 b4
                    go_wp2
                    exact ⟨⟨i + 1, by omega, by omega, _, BT4, hTl⟩, by simp [intOf]; omega⟩
                · have HSM : Hid (sumN T' 4 ≤ 140737488400000) := by
                    show _ ≤ _
                    have e4 := sum4 T
                    rw [sum4, hTl.out 0 (by omega), hTl.out 1 (by omega), hTl.out 2 (by omega), hTl.out 3 (by omega), ← e4]
                    omega
                  rcases (show (¬ (i : Int) < n7) ∨ ((i : Int) < n7 ∧ ¬ (i : Int) < 3) by omega) with c1' | ⟨c1', c2'⟩
                  · clear q
                    go_wp2
                    go_meet
                    case rel => exact ⟨_, 4, 4, tag4, _, 4, T', rfl, rfl, hBT.out.strs, hBT.out.tables, tag4_ok, by omega, HSM, hBq⟩
                  · clear q
                    go_wp2
                    go_meet
                    case rel => exact ⟨_, 4, 4, tag4, _, 4, T', rfl, rfl, hBT.out.strs, hBT.out.tables, tag4_ok, by omega, HSM, hBq⟩
            · go_wp2_with fail
              go_loopw [29] (fun v wq => ∃ (i : Nat) (T' : Nat → Tab), v = .int .i64 (i : Nat) ∧ i ≤ 3 ∧ Hid (Bs2 wq gt gl T') ∧ Hid (∀ j, j < 4 → (T' j).l = (T j).l) ∧ Below w.heap.size w wq) (fun v _ => 3 - (intOf v).toNat)
              case atStart => exact ⟨0, T, rfl, by omega, hT5, fun _ _ => rfl, B5⟩
              case round =>
                obtain ⟨i, T', rfl, hi3, hBT, hTl, hBq⟩ := hrel
                by_cases q : i < n7 ∧ i < 3
                · obtain ⟨q1, q2⟩ := q
                  have q1' : (i : Int) < n7 := by omega
                  have q2' : (i : Int) < 3 := by omega
                  obtain ⟨b7, o7, rfl, hb7, hc7⟩ := h7.spot (by omega)
                  have hc7i := hc7 i q1
                  have cI : wr.cell? ⟨b7, o7 + i, none⟩ = some (.int .i64 (f7 i)) := by rw [World.cell?_of_block (a := ⟨b7, o7 + i, none⟩) (hBq.block b7 hb7)]; exact hc7i
                  have P6 := fun W => pick_big (f7 i) 3 (by omega) (by omega) W
                  have hp6 := pickv_lt (f7 i) 3 (by omega)
                  obtain ⟨kq, hkq⟩ : ∃ r, Hid (pickv (f7 i) 3 = r) := ⟨_, rfl⟩
                  rw [hkq.out] at hp6
                  simp only [hkq.out] at P6
                  have hf7 := h7.fit i
                  have hq3b := tdiv_3 hf7
                  obtain ⟨q3, hq3⟩ : ∃ q, (f7 i).tdiv 3 = q := ⟨_, rfl⟩
                  rw [hq3] at hq3b
                  have hwq3 : IntKind.wrap .i64 q3 = q3 := wrap_fit hq3b
                  have kq4 : (kq : Int) < 4 := by omega
                  have cT := arr_cell hBT.out.tabs (t := kq) (by omega)
                  have LT := hBT.out.each kq (by omega)
                  have htlT : Hid ((T' kq).l = (T kq).l) := hTl.out kq (by omega)
                  have hle : (T kq).l ≤ 600 := by
                    have := sum4 T
                    rcases (show kq = 0 ∨ kq = 1 ∨ kq = 2 by omega) with rfl | rfl | rfl <;> omega
                  rw [← htlT.out] at hle
                  obtain ⟨tl, htl⟩ : ∃ x, (T' kq).l = x := ⟨_, rfl⟩
                  obtain ⟨ta, hta⟩ : ∃ x, (T' kq).a = x := ⟨_, rfl⟩
                  obtain ⟨tc, htc⟩ : ∃ x, (T' kq).c = x := ⟨_, rfl⟩
                  obtain ⟨tz, htz'⟩ : ∃ x, (T' kq).z = x := ⟨_, rfl⟩
                  rw [htl, hta, htc] at cT
                  rw [htl, hta, htc, htz'] at LT
                  rw [htl] at htlT hle
                  have htz := LT.byte
                  have hltc := LT.lc
                  clear htl hta htc htz' hc7
                  go_wp2_with (go_at_call 15; refine (P6 _).mono ?_; rintro e w' ⟨rfl, hww⟩; rw [hww]; clear hww)
                  go_wp2_with fail
                  refine region_segs [] [
                    [{ dst := some 144, op := Op.move (Operand.tmp 27), type := 31, pos := "law.go:91", after := #[], guard := none },
                     { dst := some 145, op := Op.move (Operand.tmp 30), type := 3, pos := "law.go:91", after := #[], guard := none },
                     { dst := some 146, op := Op.indexAddr 31 (Operand.tmp 144) (Operand.tmp 145), type := 0, pos := "law.go:91", after := #[{ on := 0, ground := Ground.data }, { on := 1, ground := Ground.data }], guard := none },
                     { dst := some 147, op := Op.load 29 (Operand.tmp 146), type := 29, pos := "law.go:91", after := #[{ on := 2, ground := Ground.data }], guard := none },
                     { dst := some 148, op := Op.move (Operand.tmp 27), type := 31, pos := "law.go:91", after := #[], guard := none },
                     { dst := some 149, op := Op.move (Operand.tmp 30), type := 3, pos := "law.go:91", after := #[], guard := none },
                     { dst := some 150, op := Op.indexAddr 31 (Operand.tmp 148) (Operand.tmp 149), type := 0, pos := "law.go:91", after := #[{ on := 4, ground := Ground.data }, { on := 5, ground := Ground.data }], guard := none },
                     { dst := some 151, op := Op.load 29 (Operand.tmp 150), type := 29, pos := "law.go:91", after := #[{ on := 6, ground := Ground.data }], guard := none },
                     { dst := some 152, op := Op.call { callee := Callee.builtin Builtin.len, args := #[Operand.tmp 151], argTypes := #[29] }, type := 3, pos := "law.go:91", after := #[{ on := 7, ground := Ground.data }], guard := none },
                     { dst := some 153, op := Op.call { callee := Callee.value (Operand.func 14), args := #[Operand.tmp 147, Operand.tmp 152], argTypes := #[29, 3] }, type := 29, pos := "law.go:91", after := #[{ on := 3, ground := Ground.data }, { on := 8, ground := Ground.data }], guard := none },
                     { dst := some 31, op := Op.assign (Operand.tmp 153), type := 29, pos := "law.go:91", after := #[{ on := 9, ground := Ground.data }, { on := 9, ground := Ground.chain }, { on := 0, ground := Ground.phase }, { on := 1, ground := Ground.phase }, { on := 2, ground := Ground.phase }, { on := 3, ground := Ground.phase }, { on := 4, ground := Ground.phase }, { on := 5, ground := Ground.phase }, { on := 6, ground := Ground.phase }, { on := 7, ground := Ground.phase }, { on := 8, ground := Ground.phase }, { on := 9, ground := Ground.phase }], guard := none }]
                    ] (by kernel_rfl) (by kernel_rfl) (by kernel_rfl) ?_
                  obtain ⟨U, hU⟩ : ∃ x, x = wr.drew := ⟨_, rfl⟩
                  rw [← hU]
                  have SU : U.cell? ⟨gl, kq, none⟩ = some (.slice ta tl tc) := by rw [hU]; exact cT
                  have BU : Below wr.heap.size wr U := by rw [hU]; exact (Below.refl _ _).drew
                  have hUs : Hid (U.heap.size = wr.heap.size) := by show _ = _; rw [hU]; rfl
                  have glU : gl < U.heap.size := by rw [hUs.out]; exact blk_lt hBT.out.tabs
                  have FW := few_up ta tl tc tl tl tz U (LT.below BU (Nat.le_refl _)) (by omega) (by omega) (by omega)
                  clear hU
                  refine chain_last 11 (fun V => V.cell? ⟨gl, kq, none⟩ = some (.slice ta tl tc)) (by kernel_rfl) ?_
                  refine wpAnyH_take (i := 0) (oi := { dst := some 144, op := Op.move (Operand.tmp 27), type := 31, pos := "law.go:91", after := #[], guard := none }) (v := ?_) rfl (by kernel_rfl) (by kernel_rfl) (by kernel_rfl) (fun _ _ _ h => h) (Or.inl ⟨by rfl, ?_⟩) SU ?_
                  rotate_left
                  · (intro w' hSw; go_simp) <;> with_reducible rfl
                  try simp only [Act.put, List.setIfInBounds_toArray, List.set_cons_zero, List.set_cons_succ]
                  refine wpAnyH_take (i := 1) (oi := { dst := some 145, op := Op.move (Operand.tmp 30), type := 3, pos := "law.go:91", after := #[], guard := none }) (v := ?_) rfl (by kernel_rfl) (by kernel_rfl) (by kernel_rfl) (fun _ _ _ h => h) (Or.inl ⟨by rfl, ?_⟩) SU ?_
                  rotate_left
                  · (intro w' hSw; go_simp) <;> with_reducible rfl
                  try simp only [Act.put, List.setIfInBounds_toArray, List.set_cons_zero, List.set_cons_succ]
                  refine wpAnyH_take (i := 2) (oi := { dst := some 146, op := Op.indexAddr 31 (Operand.tmp 144) (Operand.tmp 145), type := 0, pos := "law.go:91", after := #[{ on := 0, ground := Ground.data }, { on := 1, ground := Ground.data }], guard := none }) (v := ?_) rfl (by kernel_rfl) (by kernel_rfl) (by kernel_rfl) (fun _ _ _ h => h) (Or.inl ⟨by rfl, ?_⟩) SU ?_
                  rotate_left
                  · (intro w' hSw; go_simp) <;> with_reducible rfl
                  try simp only [Act.put, List.setIfInBounds_toArray, List.set_cons_zero, List.set_cons_succ]
                  refine wpAnyH_take (i := 3) (oi := { dst := some 147, op := Op.load 29 (Operand.tmp 146), type := 29, pos := "law.go:91", after := #[{ on := 2, ground := Ground.data }], guard := none }) (v := ?_) rfl (by kernel_rfl) (by kernel_rfl) (by kernel_rfl) (fun _ _ _ h => h) (Or.inl ⟨by rfl, ?_⟩) SU ?_
                  rotate_left
                  · (intro w' hSw; have k3 := hSw; go_simp) <;> with_reducible rfl
                  try simp only [Act.put, List.setIfInBounds_toArray, List.set_cons_zero, List.set_cons_succ]
                  refine wpAnyH_take (i := 4) (oi := { dst := some 148, op := Op.move (Operand.tmp 27), type := 31, pos := "law.go:91", after := #[], guard := none }) (v := ?_) rfl (by kernel_rfl) (by kernel_rfl) (by kernel_rfl) (fun _ _ _ h => h) (Or.inl ⟨by rfl, ?_⟩) SU ?_
                  rotate_left
                  · (intro w' hSw; go_simp) <;> with_reducible rfl
                  try simp only [Act.put, List.setIfInBounds_toArray, List.set_cons_zero, List.set_cons_succ]
                  refine wpAnyH_take (i := 5) (oi := { dst := some 149, op := Op.move (Operand.tmp 30), type := 3, pos := "law.go:91", after := #[], guard := none }) (v := ?_) rfl (by kernel_rfl) (by kernel_rfl) (by kernel_rfl) (fun _ _ _ h => h) (Or.inl ⟨by rfl, ?_⟩) SU ?_
                  rotate_left
                  · (intro w' hSw; go_simp) <;> with_reducible rfl
                  try simp only [Act.put, List.setIfInBounds_toArray, List.set_cons_zero, List.set_cons_succ]
                  refine wpAnyH_take (i := 6) (oi := { dst := some 150, op := Op.indexAddr 31 (Operand.tmp 148) (Operand.tmp 149), type := 0, pos := "law.go:91", after := #[{ on := 4, ground := Ground.data }, { on := 5, ground := Ground.data }], guard := none }) (v := ?_) rfl (by kernel_rfl) (by kernel_rfl) (by kernel_rfl) (fun _ _ _ h => h) (Or.inl ⟨by rfl, ?_⟩) SU ?_
                  rotate_left
                  · (intro w' hSw; go_simp) <;> with_reducible rfl
                  try simp only [Act.put, List.setIfInBounds_toArray, List.set_cons_zero, List.set_cons_succ]
                  refine wpAnyH_take (i := 7) (oi := { dst := some 151, op := Op.load 29 (Operand.tmp 150), type := 29, pos := "law.go:91", after := #[{ on := 6, ground := Ground.data }], guard := none }) (v := ?_) rfl (by kernel_rfl) (by kernel_rfl) (by kernel_rfl) (fun _ _ _ h => h) (Or.inl ⟨by rfl, ?_⟩) SU ?_
                  rotate_left
                  · (intro w' hSw; have k7 := hSw; go_simp) <;> with_reducible rfl
                  try simp only [Act.put, List.setIfInBounds_toArray, List.set_cons_zero, List.set_cons_succ]
                  refine wpAnyH_take (i := 8) (oi := { dst := some 152, op := Op.call { callee := Callee.builtin Builtin.len, args := #[Operand.tmp 151], argTypes := #[29] }, type := 3, pos := "law.go:91", after := #[{ on := 7, ground := Ground.data }], guard := none }) (v := ?_) rfl (by kernel_rfl) (by kernel_rfl) (by kernel_rfl) (fun _ _ _ h => h) (Or.inl ⟨by rfl, ?_⟩) SU ?_
                  rotate_left
                  · (intro w' hSw; go_simp) <;> with_reducible rfl
                  try simp only [Act.put, List.setIfInBounds_toArray, List.set_cons_zero, List.set_cons_succ]
                  refine wpAnyH_ready (rs := [9]) (by kernel_rfl) (by simp) ?_
                  refine AllReadyH.cons (o := { dst := some 153, op := Op.call { callee := Callee.value (Operand.func 14), args := #[Operand.tmp 147, Operand.tmp 152], argTypes := #[29, 3] }, type := 29, pos := "law.go:91", after := #[{ on := 3, ground := Ground.data }, { on := 8, ground := Ground.data }], guard := none }) rfl (fun K hK => ?_) AllReadyH.nil
                  go_simp
                  go_at_call 14
                  refine FW.mono ?_
                  rintro e w4 ⟨g4, c4', rfl, O4, b4⟩
                  go_wp2_with fail
                  refine hK.out _ _ (by rw [World.cell?_of_block (a := ⟨gl, kq, none⟩) (b4.block gl glU)]; exact SU) (fun _ => ?_)
                  clear hK K
                  try simp only [Act.put, List.setIfInBounds_toArray, List.set_cons_zero, List.set_cons_succ]
                  refine wpAnyH_take (i := 10) (oi := { dst := some 31, op := Op.assign (Operand.tmp 153), type := 29, pos := "law.go:91", after := #[{ on := 9, ground := Ground.data }, { on := 9, ground := Ground.chain }, { on := 0, ground := Ground.phase }, { on := 1, ground := Ground.phase }, { on := 2, ground := Ground.phase }, { on := 3, ground := Ground.phase }, { on := 4, ground := Ground.phase }, { on := 5, ground := Ground.phase }, { on := 6, ground := Ground.phase }, { on := 7, ground := Ground.phase }, { on := 8, ground := Ground.phase }, { on := 9, ground := Ground.phase }], guard := none }) (v := ?_) rfl (by kernel_rfl) (by kernel_rfl) (by kernel_rfl) (fun _ _ _ h => h) (Or.inl ⟨by rfl, ?_⟩) (by rw [World.cell?_of_block (a := ⟨gl, kq, none⟩) (b4.block gl glU)]; exact SU) ?_
                  rotate_left
                  · (intro w' hSw; go_simp) <;> with_reducible rfl
                  try simp only [Act.put, List.setIfInBounds_toArray, List.set_cons_zero, List.set_cons_succ]
                  refine wpAnyH_done (by kernel_rfl) ?_ _
                  have b04 : Below wr.heap.size wr w4 := BU.trans (b4.mono BU.size)
                  have B4 := hBq.trans (b04.mono hBq.size)
                  have hg4 : U.heap.size ≤ g4 := O4.lt.1
                  have hg4w : wr.heap.size ≤ g4 := by rw [← hUs.out]; exact hg4
                  clear SU FW cT cI P6 BU
                  by_cases h0 : 0 < tl
                  · have h0' : (0 : Int) < tl := by omega
                    have P9 := fun W => pick_big q3 tl h0 (by omega) W
                    have hp9 := pickv_lt q3 tl h0
                    obtain ⟨p9, hp9'⟩ : ∃ r, Hid (pickv q3 tl = r) := ⟨_, rfl⟩
                    rw [hp9'.out] at hp9
                    simp only [hp9'.out] at P9
                    have hp9i : (p9 : Int) < tl := by omega
                    have hbyt := byt_of (n := tl) (q := 0) htz
                    obtain ⟨v, hv⟩ : ∃ v : Nat, Hid ((byt tz 0 tl).getD p9 0 = (v : Nat)) := ⟨((byt tz 0 tl).getD p9 0).toNat, by show _ = _; have := hbyt p9; omega⟩
                    have hv256 : v < 256 := by have := hbyt p9; rw [hv.out] at this; omega
                    obtain ⟨X, hX, hX256, _⟩ := xor_u8 v yn hv256 hyn
                    have cell := O4.cell (j := p9) (by rw [byt_len]; exact hp9)
                    rw [hv.out] at cell
                    have fr := O4.free p9
                    have cI4 : w4.cell? ⟨b7, o7 + i, none⟩ = some (.int .i64 (f7 i)) := by rw [World.cell?_of_block (a := ⟨b7, o7 + i, none⟩) (B4.block b7 hb7)]; exact hc7i
                    obtain ⟨w5, hw5⟩ : ∃ W, W = w4.setCell ⟨g4, p9, none⟩ (.int .u8 (X : Nat)) := ⟨_, rfl⟩
                    have O5 : Own w5 U.heap.size 5 .u8 g4 c4' ((byt tz 0 tl).set p9 ((X : Nat) : Int)) := by rw [hw5]; exact O4.set p9 ((X : Nat) : Int)
                    have b05 : Below wr.heap.size wr w5 := by rw [hw5]; exact b04.setCell (p := ⟨g4, p9, none⟩) hg4w _
                    have B5' := hBq.trans (b05.mono hBq.size)
                    have BT5 := hBT.out.below b05 (Nat.le_refl _)
                    have HW5 : Hid (w5 = _) := hw5
                    have f5 := blk_free BT5.tabs kq
                    have c5' := arr_cell BT5.tabs (t := kq) (by omega)
                    have L5 := O5.liesB (byt_set hbyt p9 X hX256) (by rw [List.length_set, byt_len]; omega)
                    rw [List.length_set, byt_len] at L5
                    have glw := blk_lt hBT.out.tabs
                    have BT6 : Hid (Bs2 (w5.setCell ⟨gl, kq, none⟩ (.slice (some ⟨g4, 0, none⟩) tl c4')) gt gl (tabU T' kq ⟨some ⟨g4, 0, none⟩, tl, c4', zb ((byt tz 0 tl).set p9 ((X : Nat) : Int))⟩)) :=
                      BT5.set kq ⟨some ⟨g4, 0, none⟩, tl, c4', zb ((byt tz 0 tl).set p9 ((X : Nat) : Int))⟩ L5 (fun _ b' off' sp' e' => by simp only [Option.some.injEq, Addr.mk.injEq] at e'; omega)
                    have B6 : Hid (Below w.heap.size w (w5.setCell ⟨gl, kq, none⟩ (.slice (some ⟨g4, 0, none⟩) tl c4'))) := B5'.setCell (by show w.heap.size ≤ gl; exact hgl2) _
                    have HL6 : Hid (∀ j, j < 4 → (tabU T' kq ⟨some ⟨g4, 0, none⟩, tl, c4', zb ((byt tz 0 tl).set p9 ((X : Nat) : Int))⟩ j).l = (T j).l) := fun j hj => by
                      unfold tabU
                      by_cases e : j = kq
                      · rw [if_pos e, e]; exact htlT.out
                      · rw [if_neg e]; exact hTl.out j hj
                    clear hw5 O4 O5 b05 B5' BT5 L5 b04 B4 b4
                    go_wp2_with (first
                      | (go_at_call 15; refine (P9 _).mono ?_; rintro e w' ⟨rfl, hww⟩; rw [hww]; clear hww)
                      | (rw [← HW5.out]))
                    try go_wp2
                    refine ⟨?_, by simp [intOf]; omega⟩
                    (repeat apply Exists.intro)
                    refine ⟨?_, rfl⟩
                    exact ⟨i + 1, _, by go_num, by omega, BT6, HL6, B6.out⟩
                  · have h0' : ¬ (0 : Int) < tl := by omega
                    have BT4 : Hid (Bs2 w4 gt gl T') := hBT.out.below b04 (Nat.le_refl _)
                    clear O4 b04 b4
                    go_wp2
                    exact ⟨⟨i + 1, by omega, by omega, _, BT4, hTl⟩, by simp [intOf]; omega⟩
                · have HSM : Hid (sumN T' 4 ≤ 140737488400000) := by
                    show _ ≤ _
                    have e4 := sum4 T
                    rw [sum4, hTl.out 0 (by omega), hTl.out 1 (by omega), hTl.out 2 (by omega), hTl.out 3 (by omega), ← e4]
                    omega
                  rcases (show (¬ (i : Int) < n7) ∨ ((i : Int) < n7 ∧ ¬ (i : Int) < 3) by omega) with c1' | ⟨c1', c2'⟩
                  · clear q
                    go_wp2
                    go_meet
                    case rel => exact ⟨_, 4, 4, tag4, _, 4, T', rfl, rfl, hBT.out.strs, hBT.out.tables, tag4_ok, by omega, HSM, hBq⟩
                  · clear q
                    go_wp2
                    go_meet
                    case rel => exact ⟨_, 4, 4, tag4, _, 4, T', rfl, rfl, hBT.out.strs, hBT.out.tables, tag4_ok, by omega, HSM, hBq⟩
          case rest =>
            obtain ⟨ta, nn, tc, s, la, lc, T', rfl, rfl, HS1, HT1, hok, hnn, hsum, hB6⟩ := hcut
            clear hT5 hS hgl2 B5
            have F := font_any ta nn tc s la lc T' wc HS1.out HT1.out (by omega) hok.out hsum.out
            have hlen := layB_len (t := T') hok.out
            have hsm := hsum.out
            obtain ⟨z, hz⟩ : ∃ x, zb (layB s T' nn) = x := ⟨_, rfl⟩
            obtain ⟨N, hN⟩ : ∃ x, (layB s T' nn).length = x := ⟨_, rfl⟩
            rw [hz, hN] at F
            rw [hN] at hlen
            have hNle : N ≤ 150000000000000 := by omega
            clear hz hN hlen hsm HS1 HT1 hok hsum
            go_wp2_with fail
            refine F.mono ?_
            rintro e w6 ⟨g6, c6', rfl, hL6, b6⟩
            have B6 := hB6.trans (b6.mono hB6.size)
            have hzb := hL6.byte
            have O := opens_any _ N c6' z w6 hL6 hNle
            clear F hL6 b6 hB6
            go_wp2_with fail
            refine O.mono ?_
            rintro e w7 ⟨b7, ⟨ho, rfl⟩ | ⟨_, pf, pr, rfl, hF, hR⟩⟩
            · have B7 := B6.trans (b7.mono B6.size)
              clear O b7 B6 ho
              go_wp2_with fail
              refine (known_any w7).mono ?_
              rintro e w8 ⟨rfl, b8⟩
              have B8 := B7.trans (b8.mono B7.size)
              clear b8 B7
              go_wp2
              go_ret
              exact ⟨rfl, B8⟩
            have B7 := B6.trans (b7.mono B6.size)
            have n34 := ptr_no34 pf
            have n35 := ptr_no35 pr
            have R1 := read_any pf N z w7 hF
            have hgM := rdM_g hzb
            obtain ⟨⟨mu, mg, mb⟩, hM⟩ : ∃ m, rdM (look z hdT) (look z mxT) = m := ⟨_, rfl⟩
            obtain ⟨E, hE⟩ : ∃ m, rdE (look z hdT) (look z mxT) = m := ⟨_, rfl⟩
            rw [hM] at hgM
            rw [hM, hE] at R1
            have R2 := fun W (hh : RFz W pr z) => rread_any pr z W hh
            simp only [hM, hE] at R2
            have V1 := fun m (hm : m.g ≤ 9223372036854775807) gi W (hh : FOk W pf N z) => range_any pf N z m gi W hh hm
            have V2 := fun m (hm : m.g ≤ 9223372036854775807) gi W (hh : RFz W pr z) => rrange_any pr z m gi W hh hm
            have HEl : E ≤ 10 := by
              rw [← hE]; unfold rdE
              have a1 := hdE_is (look z hdT)
              have a2 := mxE_is (look z mxT)
              split <;> omega
            clear O b7 B6 hM hE
            go_wp2_with fail
            refine R1.mono ?_
            rintro e w8 ⟨b8, rfl⟩
            have B8 := B7.trans (b8.mono B7.size)
            have F8 := hF.below b8 (Nat.le_refl _)
            have G8 := hR.below b8 (Nat.le_refl _)
            obtain ⟨w9, hw9⟩ : ∃ x, x = (w8.alloc (.cells #[.int .i64 0, .int .i64 0, .bool false] 23)).setRow w8.heap.size (mcs ⟨mu, mg, mb⟩) := ⟨_, rfl⟩
            have b9 : Below w8.heap.size w8 w9 := by rw [hw9]; exact below_row ((Below.refl _ _).alloc (Nat.le_refl _) _) (Nat.le_refl _) _
            have K8 := blk_new w8 (.cells #[.int .i64 0, .int .i64 0, .bool false] 23)
            have K9 : w9.heap[w8.heap.size]? = some (.cells (mcs ⟨mu, mg, mb⟩) 23) := by rw [hw9]; exact setRow_heap _ _ _ _ _ _ K8
            have HW9 : Hid (w9 = _) := hw9
            have B9 := B8.trans (b9.mono B8.size)
            have F9 := F8.below b9 (Nat.le_refl _)
            have G9 := G8.below b9 (Nat.le_refl _)
            have hsz8 := B8.size
            have HF8 : Hid (FOk w8 pf N z) := F8
            have HG8 : Hid (RFz w8 pr z) := G8
            have C9 := b9
            clear hw9 b9 B8 F8 G8 b8 B7 R1 hF hR
            go_wp2_with (refine store_mt' size23 HW9 K8 rfl _ _ (by rfl) (by rfl) (by rfl) (by rfl) ?_)
            refine (R2 w9 G9).mono ?_
            rintro e w10 ⟨b10, rfl⟩
            have B10 := B9.trans (b10.mono B9.size)
            have F10 := F9.below b10 (Nat.le_refl _)
            have G10 := G9.below b10 (Nat.le_refl _)
            have K10 := Below.blk b10 K9 (blk_lt K9)
            have h910 := b10.size
            have hK9l := blk_lt K9
            obtain ⟨w11, hw11⟩ : ∃ x, x = (w10.alloc (.cells #[.int .i64 0, .int .i64 0, .bool false] 45)).setRow w10.heap.size (mcs ⟨mu, mg, mb⟩) := ⟨_, rfl⟩
            have b11 : Below w10.heap.size w10 w11 := by rw [hw11]; exact below_row ((Below.refl _ _).alloc (Nat.le_refl _) _) (Nat.le_refl _) _
            have K10' := blk_new w10 (.cells #[.int .i64 0, .int .i64 0, .bool false] 45)
            have J11 : w11.heap[w10.heap.size]? = some (.cells (mcs ⟨mu, mg, mb⟩) 45) := by rw [hw11]; exact setRow_heap _ _ _ _ _ _ K10'
            have K11 := Below.blk b11 K10 (blk_lt K10)
            have HW11 : Hid (w11 = _) := hw11
            have B11 := B10.trans (b11.mono B10.size)
            have F11 := F10.below b11 (Nat.le_refl _)
            have G11 := G10.below b11 (Nat.le_refl _)
            have hsz10 := B10.size
            have C10 := C9.trans (b10.mono C9.size)
            have C11 := C10.trans (b11.mono C10.size)
            have hp12 := C10.size
            clear hw11 b11 B10 F10 G10 b10 B9 R2 F9 G9 K8 K9 HW9 K10
            go_wp2_with (refine store_mt' size45 HW11 K10' rfl _ _ (by rfl) (by rfl) (by rfl) (by rfl) ?_)
            refine (known_any w11).mono ?_
            rintro e w12 ⟨rfl, b12⟩
            have B12 := B11.trans (b12.mono B11.size)
            have F12 := F11.below b12 (Nat.le_refl _)
            have G12 := G11.below b12 (Nat.le_refl _)
            have K12 := Below.blk b12 K11 (blk_lt K11)
            have J12 := Below.blk b12 J11 (blk_lt J11)
            obtain ⟨d0, d1, d2⟩ := mt_cells K12
            obtain ⟨d3, d4, d5⟩ := mt_cells J12
            simp only at d0 d1 d2 d3 d4 d5
            have hne8 : w8.heap.size ≠ w10.heap.size := by omega
            have C12 := C11.trans (b12.mono C11.size)
            clear b12 B11 F11 G11 K11 J11 K10' HW11
            go_upto_if 235 with fail
            have P5 := fun W => pick_big ask 20 (by omega) (by omega) W
            have hp5 := pickv_lt ask 20 (by omega)
            obtain ⟨r5, hr5'⟩ : ∃ r, Hid (pickv ask 20 = r) := ⟨_, rfl⟩
            rw [hr5'.out] at hp5
            simp only [hr5'.out] at P5
            obtain ⟨p1, hp1'⟩ : ∃ q, w8.heap.size = q := ⟨_, rfl⟩
            obtain ⟨p2, hp2'⟩ : ∃ q, w10.heap.size = q := ⟨_, rfl⟩
            rw [hp1'] at K12 d0 d1 d2 hne8 hsz8 C12 hp12 ⊢
            rw [hp2'] at J12 d3 d4 d5 hne8 hsz10 hp12 ⊢
            have hw8p : w8.heap.size ≤ p1 := by omega
            clear hp1' hp2' h910 hK9l C9 C10 C11
            go_cut [] from 236 to 245 (fun wx => ∃ M : Mt, M.g ≤ 9223372036854775807 ∧ Hid (wx.heap[p1]? = some (.cells (mcs M) 23)) ∧ Hid (wx.heap[p2]? = some (.cells (mcs M) 45)) ∧ Hid (FOk wx pf N z) ∧ Hid (RFz wx pr z) ∧ Below w.heap.size w wx)
            case first =>
              have HB12 : Hid (Below w.heap.size w w12) := B12
              have HK12 : Hid (_) := K12
              cases raw
              · go_wp2
                go_meet
                case rel => exact ⟨⟨mu, mg, mb⟩, hgM, HK12.out, J12, F12, G12, HB12.out⟩
              · obtain ⟨w13, hw13⟩ : ∃ y, y = w12.setRow p2 (mcs ⟨x, (r5 : Nat), b⟩) := ⟨_, rfl⟩
                have J13 : w13.heap[p2]? = some (.cells (mcs ⟨x, (r5 : Nat), b⟩) 45) := by rw [hw13]; exact setRow_heap _ _ _ _ _ _ J12
                have K13 : w13.heap[p1]? = some (.cells (mcs ⟨mu, mg, mb⟩) 23) := by rw [hw13, setRow_other _ _ _ _ hne8]; exact K12
                have C13 : Below p1 w8 w13 := by rw [hw13]; exact below_row C12 hp12 _
                have B13 : Below w.heap.size w w13 := by rw [hw13]; exact below_row B12 hsz10 _
                have HW13 : Hid (w13 = _) := hw13
                obtain ⟨w14, hw14⟩ : ∃ y, y = w13.setRow p1 (mcs ⟨x, (r5 : Nat), b⟩) := ⟨_, rfl⟩
                have K14 : w14.heap[p1]? = some (.cells (mcs ⟨x, (r5 : Nat), b⟩) 23) := by rw [hw14]; exact setRow_heap _ _ _ _ _ _ K13
                have J14 : w14.heap[p2]? = some (.cells (mcs ⟨x, (r5 : Nat), b⟩) 45) := by rw [hw14, setRow_other _ _ _ _ (fun e => hne8 e.symm)]; exact J13
                have C14 : Below p1 w8 w14 := by rw [hw14]; exact below_row C13 (Nat.le_refl _) _
                have B14 : Hid (Below w.heap.size w w14) := by show Below _ _ _; rw [hw14]; exact below_row B13 hsz8 _
                have HW14 : Hid (w14 = _) := hw14
                have F14 : Hid (FOk w14 pf N z) := HF8.out.below C14 hw8p
                have G14 : Hid (RFz w14 pr z) := HG8.out.below C14 hw8p
                have HK14 : Hid (_) := K14
                have HJ14 : Hid (_) := J14
                have HR5 : Hid ((r5 : Int) ≤ 9223372036854775807) := by show _ ≤ _; omega
                clear hw13 hw14 C13 C14 B13 K14 J14 J13 F12 G12 B12 HB12 HK12 d0 d1 d2 d3 d4 d5
                go_wp2_with (first
                  | (go_at_call 15; refine (P5 _).mono ?_; rintro e w' ⟨rfl, rfl⟩)
                  | (refine store_mt' size45 HW13 J12 rfl _ _ (by rfl) (by rfl) (by rfl) (by rfl) ?_)
                  | (refine store_mt' size23 HW14 K13 rfl _ _ (by rfl) (by rfl) (by rfl) (by rfl) ?_))
                go_meet
                case rel => exact ⟨⟨x, (r5 : Nat), b⟩, HR5.out, HK14.out, HJ14.out, F14.out, G14.out, B14.out⟩
            case rest =>
              clear HF8 HG8 C12
              clear K12 J12 F12 G12 B12 d0 d1 d2 d3 d4 d5 P5
              obtain ⟨M, hMg, HK, HJ, HF, HR, hB13⟩ := hcut
              go_wp2_with fail
              go_loopw [38] (fun v wq => ∃ i : Int, v = .int .i64 i ∧ -1 ≤ i ∧ i ≤ 9 ∧ Below wc.heap.size wc wq) (fun v _ => (9 - intOf v).toNat)
              case atStart => exact ⟨-1, rfl, by omega, by omega, Below.refl _ _⟩
              case round =>
                obtain ⟨i, rfl, hi1, hi2, hBq⟩ := hrel
                by_cases hi : i < 9
                · have Fq := HF.out.below hBq (Nat.le_refl _)
                  have Kq := Below.blk hBq HK.out (blk_lt HK.out)
                  have A1 := V1 M hMg i wr Fq
                  have A2 := fun W (hh : RFz W pr z) => V2 M hMg i W hh
                  obtain ⟨⟨ra, rb, re⟩, hrr⟩ : ∃ r, rngv (look z lcT) (look z gfT) M.g M.b i = r := ⟨_, rfl⟩
                  rw [hrr] at A1
                  simp only [hrr] at A2
                  clear hrr
                  go_wp2_with (refine wpList_load_row (by rfl) 23 _ (by rfl) p1 (by rfl) 23 (mcs M) _ _ Kq Try.underlying23 rfl (by rw [size23]; rfl) ?_)
                  refine A1.mono ?_
                  rintro e wa ⟨ba, rfl⟩
                  have Ba := hBq.trans (ba.mono hBq.size)
                  have Ja := Below.blk Ba HJ.out (blk_lt HJ.out)
                  have Ra := HR.out.below Ba (Nat.le_refl _)
                  rw [rval_mk]
                  clear A1 ba Kq Fq
                  go_wp2_with (refine wpList_load_row (by rfl) 45 _ (by rfl) p2 (by rfl) 45 (mcs M) _ _ Ja Try.underlying45 rfl (by rw [size45]; rfl) ?_)
                  refine (A2 wa Ra).mono ?_
                  rintro e wb ⟨bb, rfl⟩
                  have Bb := Ba.trans (bb.mono Ba.size)
                  rw [rval_mk]
                  clear A2 bb Ja Ra Ba
                  go_wp2
                  exact ⟨⟨i + 1, rfl, by omega, by omega, Bb⟩, by simp [intOf]; omega⟩
                · obtain rfl : i = 9 := by omega
                  have Fq := HF.out.below hBq (Nat.le_refl _)
                  have Kq := Below.blk hBq HK.out (blk_lt HK.out)
                  have A1 := V1 M hMg ask wr Fq
                  have A2 := fun W (hh : RFz W pr z) => V2 M hMg ask W hh
                  obtain ⟨⟨ra, rb, re⟩, hrr⟩ : ∃ r, rngv (look z lcT) (look z gfT) M.g M.b ask = r := ⟨_, rfl⟩
                  rw [hrr] at A1
                  simp only [hrr] at A2
                  clear hrr hi
                  go_wp2_with (refine wpList_load_row (by rfl) 23 _ (by rfl) p1 (by rfl) 23 (mcs M) _ _ Kq Try.underlying23 rfl (by rw [size23]; rfl) ?_)
                  refine A1.mono ?_
                  rintro e wa ⟨ba, rfl⟩
                  have Ba := hBq.trans (ba.mono hBq.size)
                  have Ja := Below.blk Ba HJ.out (blk_lt HJ.out)
                  have Ra := HR.out.below Ba (Nat.le_refl _)
                  rw [rval_mk]
                  clear A1 ba Kq Fq
                  go_wp2_with (refine wpList_load_row (by rfl) 45 _ (by rfl) p2 (by rfl) 45 (mcs M) _ _ Ja Try.underlying45 rfl (by rw [size45]; rfl) ?_)
                  refine (A2 wa Ra).mono ?_
                  rintro e wb ⟨bb, rfl⟩
                  have Bb := hB13.trans ((Ba.trans (bb.mono Ba.size)).mono hB13.size)
                  rw [rval_mk]
                  clear A2 bb Ja Ra Ba
                  go_wp2
                  go_ret
                  exact ⟨rfl, Bb⟩
end Go.Proofs.Ytninhcnpjadjpaa
