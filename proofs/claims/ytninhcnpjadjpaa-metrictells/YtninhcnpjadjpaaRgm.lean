/-
  metric.Range as a contract.
-/
import Derived.Test.YtninhcnpjadjpaaRng
namespace Go.Proofs.Ytninhcnpjadjpaa
open Go.RowKit

/-- What Range answers: from, to, the error. -/
def rngO (L G : Option Tb) (b : Bool) (k : Nat) : Nat × Nat × Nat := match L, G with
  | some l, some t => if entW b * (k + 2) ≤ l.l then (if entv l.z b (k + 1) < entv l.z b k ∨ t.l < entv l.z b (k + 1) then (0, 0, 2) else (entv l.z b k, entv l.z b (k + 1), 0)) else (0, 0, 3)
  | _, _ => (0, 0, 6)
def rngv (L G : Option Tb) (gs : Int) (b : Bool) (g : Int) : Nat × Nat × Nat := if g < 0 ∨ gs ≤ g then (0, 0, 1) else rngO L G b g.toNat
def rval (r : Nat × Nat × Nat) : Value := .tuple #[.int .i64 (r.1 : Nat), .int .i64 (r.2.1 : Nat), .int .i64 (r.2.2 : Nat)]

set_option maxRecDepth 100000 in
set_option maxHeartbeats 800000 in
theorem range_out (q : Option Addr) (u gs : Int) (b : Bool) (g : Int) (w : World) (h : q = none ∨ ((∃ p, q = some ⟨p, 0, none⟩) ∧ (g < 0 ∨ gs ≤ g))) :
    Calls Try.prog 7 #[.pointer q, .agg #[.int .i64 u, .int .i64 gs, .bool b], .int .i64 g] w fun e w' => Below w.heap.size w w' ∧ e = .returned (rval (0, 0, 1)) := by
  have bA : Below w.heap.size w (w.alloc (.cells #[.int .i64 u, .int .i64 gs, .bool b] 23)) := (Below.refl _ _).alloc (Nat.le_refl _) _
  rcases h with rfl | ⟨⟨p, rfl⟩, h⟩
  · go_enter Try.func7, Try.ntmps7
    go_wp2
    go_ret3
    exact ⟨bA, rfl⟩
  · have hne := ptr_no34 p
    by_cases h0 : g < 0
    · clear h
      go_enter Try.func7, Try.ntmps7
      go_wp2
      go_ret3
      exact ⟨bA, rfl⟩
    · have h1 : gs ≤ g := by omega
      clear h
      go_enter Try.func7, Try.ntmps7
      go_wp2
      go_ret3
      exact ⟨bA, rfl⟩

set_option maxRecDepth 100000 in
set_option maxHeartbeats 1600000 in
theorem range_in (p len : Nat) (z : Nat → Nat) (u gs : Int) (b : Bool) (k : Nat) (w : World) (h : FOk w p len z) (hg : (k : Int) < gs) (hgs : gs ≤ 9223372036854775807) :
    Calls Try.prog 7 #[.pointer (some ⟨p, 0, none⟩), .agg #[.int .i64 u, .int .i64 gs, .bool b], .int .i64 (k : Nat)] w fun e w' => Below w.heap.size w w' ∧ e = .returned (rval (rngO (look z lcT) (look z gfT) b k)) := by
  have bA : Below w.heap.size w (w.alloc (.cells #[.int .i64 u, .int .i64 gs, .bool b] 23)) := (Below.refl _ _).alloc (Nat.le_refl _) _
  have g0 := blk_new w (.cells #[.int .i64 u, .int .i64 gs, .bool b] 23)
  have hne := ptr_no34 p
  have h0 : ¬ (k : Int) < 0 := by omega
  have h1 : ¬ gs ≤ (k : Int) := by omega
  have F0 := h.below bA (Nat.le_refl _)
  have T := tab_any p len z lcT _ F0.f F0.ok
  have T2 := fun W (hh : FOk W p len z) => tab_any p len z gfT W hh.f hh.ok
  obtain ⟨L, hL'⟩ : ∃ o, look z lcT = o := ⟨_, rfl⟩
  obtain ⟨G, hG'⟩ : ∃ o, look z gfT = o := ⟨_, rfl⟩
  rw [hL'] at T ⊢
  simp only [hG'] at T2 ⊢
  clear h hL' hG'
  go_enter Try.func7, Try.ntmps7
  go_wp2_with fail
  refine T.mono ?_
  rintro e w1 ⟨b1, hh⟩
  have F1 := F0.below b1 (Nat.le_refl _)
  have g1 := Below.blk b1 g0 (blk_lt g0)
  have B1 : Below w.heap.size w w1 := bA.trans (b1.mono bA.size)
  clear T bA g0 b1 F0
  rcases hh with ⟨ho, rfl⟩ | ⟨l, a, c, ho, rfl, hL⟩
  · have HR : Hid (rngO L G b k = (0, 0, 6)) := by show _ = _; rw [ho.out]; rfl
    go_wp2_with fail
    refine (T2 w1 F1).mono ?_
    rintro e w2 ⟨b2, hh⟩
    have B2 := B1.trans (b2.mono B1.size)
    clear T2 b2
    rcases hh with ⟨ho2, rfl⟩ | ⟨t, a2, c2, ho2, rfl, hL2⟩
    · go_wp2
      go_ret3
      exact ⟨B2, by rw [HR.out]; rfl⟩
    · go_wp2
      go_ret3
      exact ⟨B2, by rw [HR.out]; rfl⟩
  · obtain ⟨ll, lz⟩ := l
    simp only at hL
    go_wp2_with fail
    refine (T2 w1 F1).mono ?_
    rintro e w2 ⟨b2, hh⟩
    have B2 := B1.trans (b2.mono B1.size)
    have g2 := Below.blk b2 g1 (blk_lt g1)
    have hL2 := hL.below b2 (Nat.le_refl _)
    clear T2 b2 g1 hL F1 B1
    rcases hh with ⟨ho2, rfl⟩ | ⟨t, a2, c2, ho2, rfl, hG⟩
    · have HR : Hid (rngO L G b k = (0, 0, 6)) := by show _ = _; rw [ho.out, ho2.out]; rfl
      go_wp2
      go_ret3
      exact ⟨B2, by rw [HR.out]; rfl⟩
    · obtain ⟨tl, tz⟩ := t
      have hgr := hG.reach
      simp only at hgr hG ⊢
      have q1 : ((k : Int) + 1) = ((k + 1 : Nat) : Int) := by omega
      have N1 := entry_any a ll c lz k b w2 hL2 (by omega)
      have N2 := entry_any a ll c lz (k + 1) b w2 hL2 (by omega)
      have l1 := entv_lt lz hL2.byte b k
      have l2 := entv_lt lz hL2.byte b (k + 1)
      have c2 := blk_cell g2 2
      simp only [List.getElem?_toArray, List.getElem?_cons_zero, List.getElem?_cons_succ] at c2
      have HO : Hid (rngO L G b k = if entW b * (k + 2) ≤ ll then (if entv lz b (k + 1) < entv lz b k ∨ tl < entv lz b (k + 1) then (0, 0, 2) else (entv lz b k, entv lz b (k + 1), 0)) else (0, 0, 3)) := by show _ = _; rw [ho.out, ho2.out]; rfl
      have hw : 0 < entW b := by cases b <;> decide
      by_cases hf : entW b * (k + 2) ≤ ll
      · have hf1 : entW b * (k + 1) ≤ ll := by
          have := Nat.mul_le_mul_left (entW b) (show k + 1 ≤ k + 2 by omega)
          omega
        rw [show entN ⟨ll, lz⟩ b k = entv lz b k from if_pos hf1, decide_eq_true hf1] at N1
        rw [show entN ⟨ll, lz⟩ b (k + 1) = entv lz b (k + 1) from if_pos hf, decide_eq_true (show entW b * (k + 1 + 1) ≤ ll from hf)] at N2
        have HO2 : Hid (rngO L G b k = if entv lz b (k + 1) < entv lz b k ∨ tl < entv lz b (k + 1) then (0, 0, 2) else (entv lz b k, entv lz b (k + 1), 0)) := by show _ = _; rw [HO.out, if_pos hf]
        obtain ⟨x, hx⟩ : ∃ x, Hid (entv lz b k = x) := ⟨_, rfl⟩
        obtain ⟨y, hy⟩ : ∃ x, Hid (entv lz b (k + 1) = x) := ⟨_, rfl⟩
        rw [hx.out] at N1 l1 HO2
        rw [hy.out] at N2 l2 HO2
        rw [← q1] at N2
        clear q1 HO hf hf1 hw hL2 hG g2
        go_wp2_with fail
        refine N1.mono ?_
        rintro e w3 ⟨rfl, rfl⟩
        clear N1
        go_wp2_with fail
        refine N2.mono ?_
        rintro e w3 ⟨rfl, rfl⟩
        clear N2
        by_cases hyx : y < x
        · have HR : Hid (rngO L G b k = (0, 0, 2)) := by show _ = _; rw [HO2.out, if_pos (Or.inl hyx)]
          have hyx' : (y : Int) < x := by omega
          clear hyx HO2
          go_wp2
          go_ret3
          exact ⟨B2, by rw [HR.out]; rfl⟩
        · have hyx' : ¬ (y : Int) < x := by omega
          by_cases hty : tl < y
          · have HR : Hid (rngO L G b k = (0, 0, 2)) := by show _ = _; rw [HO2.out, if_pos (Or.inr hty)]
            have hty' : (tl : Int) < y := by omega
            clear hyx hty HO2
            go_wp2
            go_ret3
            exact ⟨B2, by rw [HR.out]; rfl⟩
          · have HR : Hid (rngO L G b k = (x, y, 0)) := by show _ = _; rw [HO2.out, if_neg (by omega)]
            have hty' : ¬ (tl : Int) < y := by omega
            clear hyx hty HO2
            go_wp2
            go_ret3
            exact ⟨B2, by rw [HR.out]; rfl⟩
      · have HR : Hid (rngO L G b k = (0, 0, 3)) := by show _ = _; rw [HO.out, if_neg hf]
        rw [show entN ⟨ll, lz⟩ b (k + 1) = 0 from if_neg hf, decide_eq_false (show ¬ entW b * (k + 1 + 1) ≤ ll from hf)] at N2
        have hxl : entN ⟨ll, lz⟩ b k < 4294967296 := by unfold entN; split <;> omega
        obtain ⟨x, hx⟩ : ∃ x, Hid (entN ⟨ll, lz⟩ b k = x) := ⟨_, rfl⟩
        obtain ⟨d, hd⟩ : ∃ x, Hid (decide (entW b * (k + 1) ≤ ll) = x) := ⟨_, rfl⟩
        rw [hx.out] at hxl
        rw [hx.out, hd.out] at N1
        rw [← q1] at N2
        clear q1 HO hf hw hL2 hG g2
        go_wp2_with fail
        refine N1.mono ?_
        rintro e w3 ⟨rfl, rfl⟩
        clear N1
        go_wp2_with fail
        refine N2.mono ?_
        rintro e w3 ⟨rfl, rfl⟩
        clear N2 hd
        cases d
        · go_wp2
          go_ret3
          exact ⟨B2, by rw [HR.out]; rfl⟩
        · go_wp2
          go_ret3
          exact ⟨B2, by rw [HR.out]; rfl⟩
theorem range_any (p len : Nat) (z : Nat → Nat) (m : Mt) (g : Int) (w : World) (h : FOk w p len z) (hgs : m.g ≤ 9223372036854775807) :
    Calls Try.prog 7 #[.pointer (some ⟨p, 0, none⟩), mv m, .int .i64 g] w fun e w' => Below w.heap.size w w' ∧ e = .returned (rval (rngv (look z lcT) (look z gfT) m.g m.b g)) := by
  obtain ⟨u, gs, b⟩ := m
  simp only at hgs ⊢
  unfold rngv
  by_cases hg : g < 0 ∨ gs ≤ g
  · rw [if_pos hg]
    exact range_out _ u gs b g w (.inr ⟨⟨p, rfl⟩, hg⟩)
  · rw [if_neg hg]
    obtain ⟨k, rfl⟩ : ∃ k : Nat, g = k := ⟨g.toNat, by omega⟩
    rw [Int.toNat_natCast]
    exact range_in p len z u gs b k w h (by omega) hgs
end Go.Proofs.Ytninhcnpjadjpaa
