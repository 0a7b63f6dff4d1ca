/-
  metric.Read, the reference's ReadMetric, as contracts.
-/
import Derived.Test.YtninhcnpjadjpaaRdm
namespace Go.Proofs.Ytninhcnpjadjpaa
open Go.RowKit

theorem ptr_no34 (p : Nat) (W : World) : (binOp .eql 34 (.pointer (some ⟨p, 0, none⟩)) (.pointer none)).run Try.prog W = .ok (.bool false) W := by kernel_rfl
theorem ptr_no35 (p : Nat) (W : World) : (binOp .eql 35 (.pointer (some ⟨p, 0, none⟩)) (.pointer none)).run Try.prog W = .ok (.bool false) W := by kernel_rfl
theorem mxE_is (o : Option Tb) : mxE o = 0 ∨ mxE o = 2 ∨ mxE o = 3 ∨ mxE o = 6 := by
  unfold mxE
  by_cases h : atl o 6 ≠ 0
  · rw [if_pos h]; have := atl_is h; omega
  · rw [if_neg h]; split <;> omega
theorem hdE_is (o : Option Tb) : hdE o = 0 ∨ hdE o = 2 ∨ hdE o = 3 ∨ hdE o = 6 := by
  unfold hdE
  by_cases h : atl o 54 ≠ 0
  · rw [if_pos h]; have := atl_is h; omega
  · rw [if_neg h]; split <;> omega
theorem mt_cells {w : World} {g : Nat} {m : Mt} {t : TypeId} {fr : Nat × Nat} (h : w.heap[g]? = some (.cells (mcs m) t fr)) :
    w.cell? ⟨g, 0, none⟩ = some (.int .i64 m.u) ∧ w.cell? ⟨g, 1, none⟩ = some (.int .i64 m.g) ∧ w.cell? ⟨g, 2, none⟩ = some (.bool m.b) := by
  simp [World.cell?, h, mcs]

/-- A store, where the world behind has a name. -/
theorem store_mt' {ops : Array Oper} {rest : List Oper} {o : Oper} {A : Act} {w W : World} {Q : Exit → Act → World → Prop} {T : TypeId} (hT : (Try.prog.info? T).map (·.size) = some 3) {G : Nat} {t : TypeId} {old : Array Value} {m : Mt} (hW : Hid (W = w.setRow G (mcs m))) (hg : w.heap[G]? = some (.cells old t (0, 0))) (hold : old.size = 3)
    (x y : Operand) (hgd : o.guard = none) (ho : o.op = .store T x y) (hx : A.eval x = .pointer (some ⟨G, 0, none⟩)) (hy : A.eval y = mv m)
    (h : wpList Try.prog ops Q rest (A.put o.dst undef) W) : wpList Try.prog ops Q (o :: rest) A w :=
  store_mt hT hg hold x y m hgd ho hx hy (hW.out ▸ h)
set_option maxRecDepth 100000 in
theorem read_nil (w : World) : Calls Try.prog 6 #[.pointer none] w fun e w' => Below w.heap.size w w' ∧ e = .returned (.tuple #[mv zmt, .int .i64 1]) := by
  have bA : Below w.heap.size w (w.alloc (.cells #[.int .i64 0, .int .i64 0, .bool false] 23)) := (Below.refl _ _).alloc (Nat.le_refl _) _
  have g0 := blk_new w (.cells #[.int .i64 0, .int .i64 0, .bool false] 23)
  go_enter Try.func6, Try.ntmps6
  go_wp2_with (refine store_mt size23 g0 rfl _ _ zmt (by rfl) (by rfl) (by rfl) (by rfl) ?_)
  refine bodyPost_ret (res_mt23 rfl _ _ _ _ _ _ rfl (setRow_heap _ _ _ _ _ _ g0)) rfl ?_
  exact ⟨below_row bA (Nat.le_refl _) _, rfl⟩

set_option maxRecDepth 100000 in
set_option maxHeartbeats 1600000 in
theorem read_any (p len : Nat) (z : Nat → Nat) (w : World) (h : FOk w p len z) :
    Calls Try.prog 6 #[.pointer (some ⟨p, 0, none⟩)] w fun e w' => Below w.heap.size w w' ∧ e = .returned (.tuple #[mv (rdM (look z hdT) (look z mxT)), .int .i64 (rdE (look z hdT) (look z mxT) : Nat)]) := by
  have bA : Below w.heap.size w (w.alloc (.cells #[.int .i64 0, .int .i64 0, .bool false] 23)) := (Below.refl _ _).alloc (Nat.le_refl _) _
  have g0 := blk_new w (.cells #[.int .i64 0, .int .i64 0, .bool false] 23)
  have hne := ptr_no34 p
  have hp := h.f.lt
  have h1 := h.below bA (Nat.le_refl _)
  have T := inHead_any p len z _ h1
  have T2 := fun W (hh : FOk W p len z) => inMaxp_any p len z W hh
  obtain ⟨o, ho'⟩ : ∃ o, look z hdT = o := ⟨_, rfl⟩
  obtain ⟨q, hq'⟩ : ∃ o, look z mxT = o := ⟨_, rfl⟩
  rw [ho'] at T ⊢
  simp only [hq'] at T2 ⊢
  clear h ho' hq'
  go_enter Try.func6, Try.ntmps6
  go_wp2_with fail
  refine T.mono ?_
  rintro e w1 ⟨b1, rfl⟩
  have F1 := h1.below b1 (Nat.le_refl _)
  have g1 := Below.blk b1 g0 (blk_lt g0)
  have B1 : Below w.heap.size w w1 := bA.trans (b1.mono bA.size)
  have hs1 := b1.size
  have hlt1 := blk_lt g1
  clear T bA g0 b1 h1
  obtain ⟨w2, hw2⟩ : ∃ x, x = w1.alloc (.cells #[.int .i64 0, .int .i64 0, .bool false] 23) := ⟨_, rfl⟩
  have k2 : w2.heap[w1.heap.size]? = some (.cells #[.int .i64 0, .int .i64 0, .bool false] 23) := by rw [hw2]; exact blk_new _ _
  have g2 : w2.heap[w.heap.size]? = some (.cells #[.int .i64 0, .int .i64 0, .bool false] 23) := by rw [hw2]; exact blk_alloc g1 _
  have B2 : Below w.heap.size w w2 := by rw [hw2]; exact B1.alloc B1.size _
  have s2 : w2.heap.size = w1.heap.size + 1 := by rw [hw2]; simp
  have HW2 : Hid (w2 = w1.alloc (.cells #[.int .i64 0, .int .i64 0, .bool false] 23)) := hw2
  have a12 : Below w1.heap.size w1 w2 := by rw [hw2]; exact (Below.refl _ _).alloc (Nat.le_refl _) _
  clear hw2 B1 g1
  obtain ⟨w3, hw3⟩ : ∃ x, x = w2.setRow w1.heap.size (mcs (hdM o)) := ⟨_, rfl⟩
  have k3 : w3.heap[w1.heap.size]? = some (.cells (mcs (hdM o)) 23) := by rw [hw3]; exact setRow_heap _ _ _ _ _ _ k2
  have g3 : w3.heap[w.heap.size]? = some (.cells #[.int .i64 0, .int .i64 0, .bool false] 23) := by rw [hw3, setRow_other _ _ _ _ (by omega)]; exact g2
  have b3 : Below w1.heap.size w2 w3 := by rw [hw3]; exact below_row (Below.refl _ _) (Nat.le_refl _) _
  have B3 : Below w.heap.size w w3 := B2.trans (b3.mono (by omega))
  have HW3 : Hid (w3 = w2.setRow w1.heap.size (mcs (hdM o))) := hw3
  clear hw3 g2 B2
  have HWX : Hid (w3 = (w1.alloc (.cells #[.int .i64 0, .int .i64 0, .bool false] 23)).setRow w1.heap.size (mcs (hdM o))) := by show _ = _; rw [← HW2.out, HW3.out]
  have KX := blk_new w1 (.cells #[.int .i64 0, .int .i64 0, .bool false] 23)
  have F3 : FOk w3 p len z := F1.below (a12.trans b3) (Nat.le_refl _)
  have hlt3 := blk_lt k3
  by_cases hE : hdE o = 0
  · have HH : Hid (hdM o = ⟨u16o o 18, 0, decide (u16o o 50 = 1)⟩) := by show _ = _; unfold hdM; rw [if_pos hE]
    have HR : Hid (rdE o q = mxE q) := by show _ = _; unfold rdE; rw [if_neg (by omega)]
    rw [HH.out] at k3 HWX ⊢
    rw [hE]
    obtain ⟨U, hU⟩ : ∃ x, Hid (u16o o 18 = x) := ⟨_, rfl⟩
    obtain ⟨L, hL⟩ : ∃ x, Hid (decide (u16o o 50 = 1) = x) := ⟨_, rfl⟩
    rw [hU.out, hL.out] at k3 HWX ⊢
    go_wp2_with (refine store_mt' size23 HWX KX rfl _ _ (by rfl) (by rfl) (by rfl) (by rfl) ?_)
    refine (T2 w3 F3).mono ?_
    rintro e w4 ⟨b4, rfl⟩
    have B4 := B3.trans (b4.mono B3.size)
    have k4 := Below.blk b4 k3 (blk_lt k3)
    have g4 := Below.blk b4 g3 (by omega)
    obtain ⟨n, hn⟩ : ∃ x, Hid (mxN q = x) := ⟨_, rfl⟩
    rw [hn.out]
    obtain ⟨w5, hw5⟩ : ∃ x, x = w4.setCell ⟨w1.heap.size, 1, none⟩ (.int .i64 (n : Nat)) := ⟨_, rfl⟩
    have k5 : w5.heap[w1.heap.size]? = some (.cells (mcs ⟨U, n, L⟩) 23) := by rw [hw5]; exact blk_set k4 1 _
    have g5 : w5.heap[w.heap.size]? = some (.cells #[.int .i64 0, .int .i64 0, .bool false] 23) := by rw [hw5, blk_other _ (by show _ ≠ w1.heap.size; omega)]; exact g4
    have B5 : Below w.heap.size w w5 := by rw [hw5]; exact B4.setCell (by show w.heap.size ≤ w1.heap.size; omega) _
    have c4 := (mt_cells k4).2.1
    have f4 := blk_free k4 1
    have HW5 : Hid (w5 = w4.setCell ⟨w1.heap.size, 1, none⟩ (.int .i64 (n : Nat))) := hw5
    clear hw5 T2 F3 F1 KX HWX HW2 HW3 k2 k3 g3 b3 B3
    have hmx := mxE_is q
    obtain ⟨x, hx⟩ : ∃ x, Hid (mxE q = x) := ⟨_, rfl⟩
    rw [hx.out] at hmx ⊢
    by_cases hx0 : x = 0
    · subst hx0
      have HX : Hid (rdM o q = ⟨U, n, L⟩) := by
        show _ = _
        have e1 := hn.out
        unfold mxN at e1
        rw [if_pos hx.out] at e1
        unfold rdM; rw [HR.out, hx.out, if_pos rfl, hU.out, hL.out, e1]
      clear hmx
      go_wp2_with (first
        | (rw [← HW5.out]; refine wpList_load_row (by rfl) 23 _ (by rfl) w1.heap.size (by rfl) 23 (mcs ⟨U, n, L⟩) _ _ k5 Try.underlying23 rfl (by rw [size23]; rfl) ?_)
        | (refine store_mt size23 g5 rfl _ _ ⟨U, n, L⟩ (by rfl) (by rfl) (by rfl) (by rfl) ?_))
      refine bodyPost_ret (res_mt23 rfl _ _ _ _ _ _ rfl (setRow_heap _ _ _ _ _ _ g5)) rfl ?_
      exact ⟨below_row B5 (Nat.le_refl _) _, by rw [HX.out, HR.out, hx.out]; rfl⟩
    · have HX : Hid (rdM o q = zmt) := by show _ = _; unfold rdM; rw [HR.out, hx.out, if_neg hx0]
      have e0 : ((x : Int) != 0) = true := by rw [bne_iff_ne]; omega
      have e1 : ¬ (x : Int) = 0 := by omega
      clear hx0
      go_wp2_with (rw [← HW5.out]; refine store_mt size23 g5 rfl _ _ zmt (by rfl) (by rfl) (by rfl) (by rfl) ?_)
      refine bodyPost_ret (res_mt23 rfl _ _ _ _ _ _ rfl (setRow_heap _ _ _ _ _ _ g5)) rfl ?_
      exact ⟨below_row B5 (Nat.le_refl _) _, by rw [HX.out, HR.out, hx.out]; rfl⟩
  · have hEi := hdE_is o
    obtain ⟨x, hx⟩ : ∃ x, Hid (hdE o = x) := ⟨_, rfl⟩
    have HH : Hid (hdM o = zmt) := by show _ = _; unfold hdM; rw [if_neg hE]
    have HR : Hid (rdE o q = x) := by show _ = _; unfold rdE; rw [if_pos hE, hx.out]
    have HX : Hid (rdM o q = zmt) := by show _ = _; unfold rdM; rw [HR.out, if_neg (by rw [← hx.out]; exact hE)]
    rw [HH.out] at k3 HWX ⊢
    rw [hx.out] at hE hEi ⊢
    have e0 : ((x : Int) != 0) = true := by rw [bne_iff_ne]; omega
    have e1 : ¬ (x : Int) = 0 := by omega
    clear hE T2
    go_wp2_with (first | (refine store_mt' size23 HWX KX rfl _ _ (by rfl) (by rfl) (by rfl) (by rfl) ?_) | (refine store_mt size23 g3 rfl _ _ zmt (by rfl) (by rfl) (by rfl) (by rfl) ?_))
    refine bodyPost_ret (res_mt23 rfl _ _ _ _ _ _ rfl (setRow_heap _ _ _ _ _ _ g3)) rfl ?_
    exact ⟨below_row B3 (Nat.le_refl _) _, by rw [HX.out, HR.out]; rfl⟩
end Go.Proofs.Ytninhcnpjadjpaa
