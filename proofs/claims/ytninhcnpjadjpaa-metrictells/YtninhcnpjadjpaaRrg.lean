/-
  The reference's Range as a contract.
-/
import Derived.Test.YtninhcnpjadjpaaRgm
import Derived.Test.YtninhcnpjadjpaaRrd
namespace Go.Proofs.Ytninhcnpjadjpaa
open Go.RowKit

set_option maxRecDepth 100000 in
set_option maxHeartbeats 800000 in
theorem rrange_out (p : Nat) (u gs : Int) (b : Bool) (g : Int) (w : World) (h : g < 0 ∨ gs ≤ g) :
    Calls Try.prog 17 #[.pointer (some ⟨p, 0, none⟩), .agg #[.int .i64 u, .int .i64 gs, .bool b], .int .i64 g] w fun e w' => Below w.heap.size w w' ∧ e = .returned (rval (0, 0, 1)) := by
  have bA : Below w.heap.size w (w.alloc (.cells #[.int .i64 u, .int .i64 gs, .bool b] 45)) := (Below.refl _ _).alloc (Nat.le_refl _) _
  by_cases h0 : g < 0
  · clear h
    go_enter Try.func17, Try.ntmps17
    go_wp2
    go_ret3
    exact ⟨bA, rfl⟩
  · have h1 : gs ≤ g := by omega
    clear h
    go_enter Try.func17, Try.ntmps17
    go_wp2
    go_ret3
    exact ⟨bA, rfl⟩

set_option maxRecDepth 100000 in
set_option maxHeartbeats 1600000 in
theorem rrange_in (p : Nat) (z : Nat → Nat) (u gs : Int) (b : Bool) (k : Nat) (w : World) (h : RFz w p z) (hg : (k : Int) < gs) (hgs : gs ≤ 9223372036854775807) :
    Calls Try.prog 17 #[.pointer (some ⟨p, 0, none⟩), .agg #[.int .i64 u, .int .i64 gs, .bool b], .int .i64 (k : Nat)] w fun e w' => Below w.heap.size w w' ∧ e = .returned (rval (rngO (look z lcT) (look z gfT) b k)) := by
  have bA : Below w.heap.size w (w.alloc (.cells #[.int .i64 u, .int .i64 gs, .bool b] 45)) := (Below.refl _ _).alloc (Nat.le_refl _) _
  have g0 := blk_new w (.cells #[.int .i64 u, .int .i64 gs, .bool b] 45)
  have h0 : ¬ (k : Int) < 0 := by omega
  have h1 : ¬ gs ≤ (k : Int) := by omega
  have F0 := h.below bA (Nat.le_refl _)
  have T := rtab_any p z lcT _ F0
  have T2 := fun W (hh : RFz W p z) => rtab_any p z gfT W hh
  obtain ⟨L, hL'⟩ : ∃ o, look z lcT = o := ⟨_, rfl⟩
  obtain ⟨G, hG'⟩ : ∃ o, look z gfT = o := ⟨_, rfl⟩
  rw [hL'] at T ⊢
  simp only [hG'] at T2 ⊢
  clear h hL' hG'
  go_enter Try.func17, Try.ntmps17
  go_wp2_with fail
  refine T.mono ?_
  rintro e w1 ⟨b1, hh⟩
  have F1 := F0.below b1 (Nat.le_refl _)
  have g1 := Below.blk b1 g0 (blk_lt g0)
  have B1 : Below w.heap.size w w1 := bA.trans (b1.mono bA.size)
  clear T bA g0 b1 F0
  rcases hh with ⟨ho, rfl⟩ | ⟨l, a, c, ho, rfl, hL⟩
  · have HR : Hid (rngO L G b k = (0, 0, 6)) := by show _ = _; rw [ho.out]; rfl
    go_wp2_with fail
    refine (T2 w1 F1).mono ?_
    rintro e w2 ⟨b2, hh⟩
    have B2 := B1.trans (b2.mono B1.size)
    clear T2 b2
    rcases hh with ⟨ho2, rfl⟩ | ⟨t, a2, c2, ho2, rfl, hL2⟩
    · go_wp2
      go_ret3
      exact ⟨B2, by rw [HR.out]; rfl⟩
    · go_wp2
      go_ret3
      exact ⟨B2, by rw [HR.out]; rfl⟩
  · obtain ⟨ll, lz⟩ := l
    simp only at hL
    go_wp2_with fail
    refine (T2 w1 F1).mono ?_
    rintro e w2 ⟨b2, hh⟩
    have B2 := B1.trans (b2.mono B1.size)
    have g2 := Below.blk b2 g1 (blk_lt g1)
    have hL2 := hL.below b2 (Nat.le_refl _)
    clear T2 b2 g1 hL F1 B1
    rcases hh with ⟨ho2, rfl⟩ | ⟨t, a2, c2, ho2, rfl, hG⟩
    · have HR : Hid (rngO L G b k = (0, 0, 6)) := by show _ = _; rw [ho.out, ho2.out]; rfl
      go_wp2
      go_ret3
      exact ⟨B2, by rw [HR.out]; rfl⟩
    · obtain ⟨tl, tz⟩ := t
      have hgr := hG.reach
      have hlr := hL2.reach
      simp only at hgr hG hlr ⊢
      have l1 := entv_lt lz hL2.byte b k
      have l2 := entv_lt lz hL2.byte b (k + 1)
      have c2 := blk_cell g2 2
      simp only [List.getElem?_toArray, List.getElem?_cons_zero, List.getElem?_cons_succ] at c2
      have HO : Hid (rngO L G b k = if entW b * (k + 2) ≤ ll then (if entv lz b (k + 1) < entv lz b k ∨ tl < entv lz b (k + 1) then (0, 0, 2) else (entv lz b k, entv lz b (k + 1), 0)) else (0, 0, 3)) := by show _ = _; rw [ho.out, ho2.out]; rfl
      by_cases hkl : ll < k
      · have hkl' : (ll : Int) < k := by omega
        have HR : Hid (rngO L G b k = (0, 0, 3)) := by
          show _ = _; rw [HO.out, if_neg (by cases b <;> simp [entW] <;> omega)]
        clear hkl HO hL2 hG g2 hlr hgr
        go_wp2
        go_ret3
        exact ⟨B2, by rw [HR.out]; rfl⟩
      · have hkl' : ¬ (ll : Int) < k := by omega
        cases b
        · have N1 := num_any a ll c lz ((2 : Int) * k) 2 w2 hL2 (by omega) (by omega) (by omega)
          have N2 := num_any a ll c lz ((2 : Int) * ((k : Int) + 1)) 2 w2 hL2 (by omega) (by omega) (by omega)
          have q1 : ((2 : Int) * k).toNat = 2 * k := by omega
          have q2 : ((2 : Int) * ((k : Int) + 1)).toNat = 2 * (k + 1) := by omega
          by_cases hf : 2 * (k + 2) ≤ ll
          · have t1 : there ll ((2 : Int) * k) ((2 : Nat) : Int) = true := there_iff.2 ⟨by omega, by omega, by omega⟩
            have t2 : there ll ((2 : Int) * ((k : Int) + 1)) ((2 : Nat) : Int) = true := there_iff.2 ⟨by omega, by omega, by omega⟩
            have e1 : tell lz ll ((2 : Int) * k) 2 = (numv lz (2 * k) 2 : Nat) := by unfold tell; rw [if_pos t1, q1]
            have e2 : tell lz ll ((2 : Int) * ((k : Int) + 1)) 2 = (numv lz (2 * (k + 1)) 2 : Nat) := by unfold tell; rw [if_pos t2, q2]
            rw [e1, t1] at N1
            rw [e2, t2] at N2
            have HO2 : Hid (rngO L G false k = if entv lz false (k + 1) < entv lz false k ∨ tl < entv lz false (k + 1) then (0, 0, 2) else (entv lz false k, entv lz false (k + 1), 0)) := by show _ = _; rw [HO.out, if_pos (show entW false * (k + 2) ≤ ll from hf)]
            have v1 : entv lz false k = 2 * numv lz (2 * k) 2 := rfl
            have v2 : entv lz false (k + 1) = 2 * numv lz (2 * (k + 1)) 2 := rfl
            obtain ⟨x0, hx0⟩ : ∃ x, Hid (numv lz (2 * k) 2 = x) := ⟨_, rfl⟩
            obtain ⟨y0, hy0⟩ : ∃ x, Hid (numv lz (2 * (k + 1)) 2 = x) := ⟨_, rfl⟩
            rw [hx0.out] at v1 N1
            rw [hy0.out] at v2 N2
            rw [v1] at HO2 l1
            rw [v2] at HO2 l2
            obtain ⟨x, hx⟩ : ∃ x : Nat, (x0 : Int) * 2 = x := ⟨x0 * 2, by omega⟩
            obtain ⟨y, hy⟩ : ∃ x : Nat, (y0 : Int) * 2 = x := ⟨y0 * 2, by omega⟩
            have hx2 : 2 * x0 = x := by omega
            have hy2 : 2 * y0 = y := by omega
            rw [hx2, hy2] at HO2
            clear HO hf hL2 hG g2 e1 e2 t1 t2 q1 q2 v1 v2
            go_wp2_with fail
            refine N1.mono ?_
            rintro e w3 ⟨rfl, rfl⟩
            clear N1
            go_wp2_with fail
            refine N2.mono ?_
            rintro e w3 ⟨rfl, rfl⟩
            clear N2
            by_cases hyx : y < x
            · have HR : Hid (rngO L G false k = (0, 0, 2)) := by show _ = _; rw [HO2.out, if_pos (Or.inl hyx)]
              have hyx' : (y : Int) < x := by omega
              clear hyx HO2
              go_wp2
              go_ret3
              exact ⟨B2, by rw [HR.out]; rfl⟩
            · have hyx' : ¬ (y : Int) < x := by omega
              by_cases hty : tl < y
              · have HR : Hid (rngO L G false k = (0, 0, 2)) := by show _ = _; rw [HO2.out, if_pos (Or.inr hty)]
                have hty' : (tl : Int) < y := by omega
                clear hyx hty HO2
                go_wp2
                go_ret3
                exact ⟨B2, by rw [HR.out]; rfl⟩
              · have HR : Hid (rngO L G false k = (x, y, 0)) := by show _ = _; rw [HO2.out, if_neg (by omega)]
                have hty' : ¬ (tl : Int) < y := by omega
                clear hyx hty HO2
                go_wp2
                go_ret3
                exact ⟨B2, by rw [HR.out]; rfl⟩
          · have HR : Hid (rngO L G false k = (0, 0, 3)) := by show _ = _; rw [HO.out, if_neg (show ¬ entW false * (k + 2) ≤ ll from hf)]
            have t2 : there ll ((2 : Int) * ((k : Int) + 1)) ((2 : Nat) : Int) = false := there_not fun hh => by omega
            rw [t2] at N2
            obtain ⟨x, hx⟩ : ∃ x, tell lz ll ((2 : Int) * k) 2 = x := ⟨_, rfl⟩
            obtain ⟨y, hy⟩ : ∃ x, tell lz ll ((2 : Int) * ((k : Int) + 1)) 2 = x := ⟨_, rfl⟩
            obtain ⟨d, hd⟩ : ∃ x, there ll ((2 : Int) * k) ((2 : Nat) : Int) = x := ⟨_, rfl⟩
            rw [hx, hd] at N1
            rw [hy] at N2
            clear HO hf hL2 hG g2 t2 q1 q2 hx hy hd l1 l2
            go_wp2_with fail
            refine N1.mono ?_
            rintro e w3 ⟨rfl, rfl⟩
            clear N1
            go_wp2_with fail
            refine N2.mono ?_
            rintro e w3 ⟨rfl, rfl⟩
            clear N2
            go_wp2
            go_ret3
            exact ⟨B2, by rw [HR.out]; rfl⟩
        · have N1 := num_any a ll c lz ((4 : Int) * k) 4 w2 hL2 (by omega) (by omega) (by omega)
          have N2 := num_any a ll c lz ((4 : Int) * ((k : Int) + 1)) 4 w2 hL2 (by omega) (by omega) (by omega)
          have q1 : ((4 : Int) * k).toNat = 4 * k := by omega
          have q2 : ((4 : Int) * ((k : Int) + 1)).toNat = 4 * (k + 1) := by omega
          by_cases hf : 4 * (k + 2) ≤ ll
          · have t1 : there ll ((4 : Int) * k) ((4 : Nat) : Int) = true := there_iff.2 ⟨by omega, by omega, by omega⟩
            have t2 : there ll ((4 : Int) * ((k : Int) + 1)) ((4 : Nat) : Int) = true := there_iff.2 ⟨by omega, by omega, by omega⟩
            have e1 : tell lz ll ((4 : Int) * k) 4 = (numv lz (4 * k) 4 : Nat) := by unfold tell; rw [if_pos t1, q1]
            have e2 : tell lz ll ((4 : Int) * ((k : Int) + 1)) 4 = (numv lz (4 * (k + 1)) 4 : Nat) := by unfold tell; rw [if_pos t2, q2]
            rw [e1, t1] at N1
            rw [e2, t2] at N2
            have HO2 : Hid (rngO L G true k = if entv lz true (k + 1) < entv lz true k ∨ tl < entv lz true (k + 1) then (0, 0, 2) else (entv lz true k, entv lz true (k + 1), 0)) := by show _ = _; rw [HO.out, if_pos (show entW true * (k + 2) ≤ ll from hf)]
            have v1 : entv lz true k = numv lz (4 * k) 4 := rfl
            have v2 : entv lz true (k + 1) = numv lz (4 * (k + 1)) 4 := rfl
            obtain ⟨x0, hx0⟩ : ∃ x, Hid (numv lz (4 * k) 4 = x) := ⟨_, rfl⟩
            obtain ⟨y0, hy0⟩ : ∃ x, Hid (numv lz (4 * (k + 1)) 4 = x) := ⟨_, rfl⟩
            rw [hx0.out] at v1 N1
            rw [hy0.out] at v2 N2
            rw [v1] at HO2 l1
            rw [v2] at HO2 l2
            obtain ⟨x, hx⟩ : ∃ x : Nat, (x0 : Int) * 1 = x := ⟨x0 * 1, by omega⟩
            obtain ⟨y, hy⟩ : ∃ x : Nat, (y0 : Int) * 1 = x := ⟨y0 * 1, by omega⟩
            have hx2 : x = x0 := by omega
            have hy2 : y = y0 := by omega
            subst hx2; subst hy2
            clear HO hf hL2 hG g2 e1 e2 t1 t2 q1 q2 v1 v2
            go_wp2_with fail
            refine N1.mono ?_
            rintro e w3 ⟨rfl, rfl⟩
            clear N1
            go_wp2_with fail
            refine N2.mono ?_
            rintro e w3 ⟨rfl, rfl⟩
            clear N2
            by_cases hyx : y < x
            · have HR : Hid (rngO L G true k = (0, 0, 2)) := by show _ = _; rw [HO2.out, if_pos (Or.inl hyx)]
              have hyx' : (y : Int) < x := by omega
              clear hyx HO2
              go_wp2
              go_ret3
              exact ⟨B2, by rw [HR.out]; rfl⟩
            · have hyx' : ¬ (y : Int) < x := by omega
              by_cases hty : tl < y
              · have HR : Hid (rngO L G true k = (0, 0, 2)) := by show _ = _; rw [HO2.out, if_pos (Or.inr hty)]
                have hty' : (tl : Int) < y := by omega
                clear hyx hty HO2
                go_wp2
                go_ret3
                exact ⟨B2, by rw [HR.out]; rfl⟩
              · have HR : Hid (rngO L G true k = (x, y, 0)) := by show _ = _; rw [HO2.out, if_neg (by omega)]
                have hty' : ¬ (tl : Int) < y := by omega
                clear hyx hty HO2
                go_wp2
                go_ret3
                exact ⟨B2, by rw [HR.out]; rfl⟩
          · have HR : Hid (rngO L G true k = (0, 0, 3)) := by show _ = _; rw [HO.out, if_neg (show ¬ entW true * (k + 2) ≤ ll from hf)]
            have t2 : there ll ((4 : Int) * ((k : Int) + 1)) ((4 : Nat) : Int) = false := there_not fun hh => by omega
            rw [t2] at N2
            obtain ⟨x, hx⟩ : ∃ x, tell lz ll ((4 : Int) * k) 4 = x := ⟨_, rfl⟩
            obtain ⟨y, hy⟩ : ∃ x, tell lz ll ((4 : Int) * ((k : Int) + 1)) 4 = x := ⟨_, rfl⟩
            obtain ⟨d, hd⟩ : ∃ x, there ll ((4 : Int) * k) ((4 : Nat) : Int) = x := ⟨_, rfl⟩
            rw [hx, hd] at N1
            rw [hy] at N2
            clear HO hf hL2 hG g2 t2 q1 q2 hx hy hd l1 l2
            go_wp2_with fail
            refine N1.mono ?_
            rintro e w3 ⟨rfl, rfl⟩
            clear N1
            go_wp2_with fail
            refine N2.mono ?_
            rintro e w3 ⟨rfl, rfl⟩
            clear N2
            go_wp2
            go_ret3
            exact ⟨B2, by rw [HR.out]; rfl⟩
theorem rrange_any (p : Nat) (z : Nat → Nat) (m : Mt) (g : Int) (w : World) (h : RFz w p z) (hgs : m.g ≤ 9223372036854775807) :
    Calls Try.prog 17 #[.pointer (some ⟨p, 0, none⟩), mv m, .int .i64 g] w fun e w' => Below w.heap.size w w' ∧ e = .returned (rval (rngv (look z lcT) (look z gfT) m.g m.b g)) := by
  obtain ⟨u, gs, b⟩ := m
  simp only at hgs ⊢
  unfold rngv
  by_cases hg : g < 0 ∨ gs ≤ g
  · rw [if_pos hg]
    exact rrange_out p u gs b g w hg
  · rw [if_neg hg]
    obtain ⟨k, rfl⟩ : ∃ k : Nat, g = k := ⟨g.toNat, by omega⟩
    rw [Int.toNat_natCast]
    exact rrange_in p z u gs b k w h (by omega) hgs
end Go.Proofs.Ytninhcnpjadjpaa
