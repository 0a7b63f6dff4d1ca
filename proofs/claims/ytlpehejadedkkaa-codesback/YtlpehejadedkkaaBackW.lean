/-
  CodesBack, walked.
-/
import Derived.Test.YtlpehejadedkkaaBack
import Derived.Test.YtlpehejadedkkaaAll
import Derived.Test.YtlpehejadedkkaaBitsL
namespace Go.Proofs.Ytlpehejadedkkaa
open Go.RowKit

theorem pow_wrap {n : Nat} (h : n ≤ 15) : wrap64 (2 ^ n) = 2 ^ n := by
  have hP : 2 ^ n ≤ 2 ^ 15 := Nat.pow_le_pow_right (by omega) h
  rw [two_pow_cast]
  generalize 2 ^ n = P at *
  simp only [wrap64]
  omega
/-- Of one length codes rise with the symbols. -/
theorem code_rise {L : Nat → Nat} {N i k : Nat} (h : L k = L i) (h0 : 0 < L i) : (codev L N i < codev L N k ↔ i < k) := by
  have e1 : codev L N i = first (cn L N) (L i) + cnt L (L i) i := by unfold codev; rw [if_neg (by omega)]
  have e2 : codev L N k = first (cn L N) (L i) + cnt L (L i) k := by unfold codev; rw [if_neg (by omega), h]
  rw [e1, e2]
  constructor
  · intro hh
    rcases Nat.lt_or_ge i k with h' | h'
    · exact h'
    · have := cnt_mono L (L i) h'; omega
  · intro hh
    have := cnt_lt (L := L) (n := L i) hh rfl
    omega

theorem OwnV.kept {w w' : World} {base b : Nat} {e : TypeId} {k : IntKind} {v : Value} {xs : List Int} (h : OwnV w base e k v xs) (hk : Kept (fun k => k = b) w w') (hne : v.ownBlock ≠ some b) : OwnV w' base e k v xs :=
  h.far (row := some b) ⟨hk.os, hk.tape, hk.output, hk.size, fun j hj hjb => hk.block j hj (fun e => hjb (by rw [e]))⟩ (.inr hne)

set_option maxRecDepth 100000 in
set_option maxHeartbeats 6400000 in
theorem back_any (w : World) (a : Option Addr) (len cap : Nat) (f : Nat → Int) (a2 : Option Addr) (len2 cap2 : Nat) (f2 : Nat → Int) (hI : Ints w a len cap f) (hI2 : Ints w a2 len2 cap2 f2) :
    Calls Try.prog 6 #[.slice a len cap, .slice a2 len2 cap2] w fun e w' => e = .returned (.bool true) ∧ Below w.heap.size w w' := by
  have hr2 := hI2.reach
  go_enter Try.func6, Try.ntmps6
  go_wp2_with fail
  refine (lengths_any _ a len cap f 0 hI ⟨by omega, by omega⟩).mono ?_
  rintro e w0 ⟨xs, ax, cx, rfl, hIx, hxl, B0, hwh⟩
  obtain ⟨hwh1, hx0⟩ := hwh (by decide)
  have hgood := hwh1.good (by omega)
  clear hwh hwh1
  go_wp2_with fail
  refine (new_yes ax xs.length cx _ _ hIx hgood).mono ?_
  rintro e w1 ⟨o, gw, gs, _, _, _, rfl, hC, k1⟩
  have hIx1 := hIx.below k1 (Nat.le_refl _)
  have B1 := below_plain B0 (Nat.le_refl _) k1
  go_wp2_with fail
  refine (known_any _).mono ?_
  rintro e w2 ⟨rfl, k2⟩
  have hIx2 := hIx1.below k2 (Nat.le_refl _)
  replace hC := hC.below k2
  have B2 := below_plain B1 (Nat.le_refl _) k2
  obtain ⟨L, hLL⟩ : ∃ L : Nat → Nat, Hid ((fun i => (xs.getD i 0).toNat) = L) := ⟨_, rfl⟩
  rw [hLL.out] at hC
  have hxL : ∀ i, i < xs.length → xs.getD i 0 = (L i : Nat) := fun i hi => by have := hgood.each i hi; rw [← hLL.out]; show xs.getD i 0 = ((xs.getD i 0).toNat : Int); omega
  have each := hC.each
  have ok := hC.ok
  have HXL : Hid (∀ i, i < xs.length → xs.getD i 0 = (L i : Nat)) := hxL
  clear B0 B1 k1 k2 hIx hIx1 hgood hxL
  go_wp2_with fail
  go_loopw [46] (fun j wq => ∃ i : Nat, i ≤ xs.length ∧ j = .int .i64 i ∧ CodeAt wq o gw gs xs.length L ∧ Ints wq ax xs.length cx (fun i => xs.getD i 0) ∧ Below w.heap.size w wq) (fun j _ => xs.length - (intOf j).toNat)
  case atStart => exact ⟨0, by omega, rfl, hC, hIx2, B2⟩
  case round =>
    clear hC hIx2 B2
    obtain ⟨i, hi, rfl, hC, hIx, BB⟩ := hrel
    by_cases hil : i < xs.length
    · have hil' : (i : Int) < (xs.length : Int) := by omega
      go_wp2_with fail
      refine (of_any o gw gs xs.length L i hil _ hC).mono ?_
      rintro e w3 ⟨rfl, k3⟩
      replace hC := hC.below k3
      replace hIx := hIx.below k3 (Nat.le_refl _)
      replace BB := below_plain BB (Nat.le_refl _) k3
      obtain ⟨b, off, rfl, hb, hcc⟩ := hIx.spot (by omega)
      have hci := hcc i hil
      rw [HXL.out i hil] at hci
      have hin15 := each i hil
      have hpw := pow_wrap hin15
      have hcb := code_bits hil each ok
      have hq1 : ((codev L xs.length i : Nat) : Int) < 2 ^ L i := by rw [two_pow_cast]; omega
      have hq0 : (0 : Int) ≤ ((codev L xs.length i : Nat) : Int) := by omega
      have hd : decide ((2 : Int) ^ L i ≤ ((codev L xs.length i : Nat) : Int)) = false := decide_eq_false (by omega)
      have hd0 : decide (((codev L xs.length i : Nat) : Int) < 0) = false := decide_eq_false (by omega)
      have hcl2 : codev L xs.length i < 32768 := Nat.lt_of_lt_of_le hcb (Nat.le_trans (Nat.pow_le_pow_right (by omega) hin15) (by decide : 2 ^ 15 ≤ 32768))
      clear k3 hcc hcb
      go_wp2_with fail
      obtain ⟨wz, hwz⟩ : ∃ wz, wz = wr := ⟨_, rfl⟩
      subst hwz
      clear hd hd0 hq1 hpw hci
      go_loopw [74] (fun j wq => ∃ k : Nat, k ≤ xs.length ∧ j = .int .i64 k ∧ CodeAt wq o gw gs xs.length L ∧ Ints wq (some ⟨b, off, none⟩) xs.length cx (fun i => xs.getD i 0) ∧ Below w.heap.size w wq) (fun j _ => xs.length - (intOf j).toNat)
      case atStart => exact ⟨0, by omega, rfl, hC, hIx, BB⟩
      case round =>
        clear hC hIx BB
        obtain ⟨k, hk, rfl, hC, hIx, BB⟩ := hrel
        by_cases hkl : k < xs.length
        · have hkl' : (k : Int) < (xs.length : Int) := by omega
          go_wp2_with fail
          refine (of_any o gw gs xs.length L k hkl _ hC).mono ?_
          rintro e w4 ⟨rfl, k4⟩
          replace hC := hC.below k4
          replace hIx := hIx.below k4 (Nat.le_refl _)
          replace BB := below_plain BB (Nat.le_refl _) k4
          clear k4
          have hkn15 := each k hkl
          by_cases c1 : k = i
          · subst c1
            go_wp2
            exact ⟨⟨k + 1, by omega, by go_num, hC, hIx, BB⟩, by simp [intOf]; omega⟩
          · have c1' : ¬ (k : Int) = (i : Int) := by omega
            by_cases c2 : L i = 0
            · have c2' : (((L i : Nat) : Int) == 0) = true := by simp; omega
              have c2'' : (((k : Nat) : Int) == (i : Int)) = false := by simp; omega
              clear c2 c1' c1
              go_wp2
              exact ⟨⟨k + 1, by omega, by go_num, hC, hIx, BB⟩, by simp [intOf]; omega⟩
            · have c2' : ¬ ((L i : Nat) : Int) = 0 := by omega
              by_cases c3 : L k < L i
              · have c3' : ((L k : Nat) : Int) < ((L i : Nat) : Int) := by omega
                go_wp2
                exact ⟨⟨k + 1, by omega, by go_num, hC, hIx, BB⟩, by simp [intOf]; omega⟩
              · have c3' : ¬ ((L k : Nat) : Int) < ((L i : Nat) : Int) := by omega
                by_cases c4 : L k = L i
                · have hri := code_rise (L := L) (N := xs.length) (i := i) (k := k) c4 (by omega)
                  have hrk := code_rise (L := L) (N := xs.length) (i := k) (k := i) c4.symm (by omega)
                  obtain ⟨Bk, hBk⟩ : ∃ Bk, Hid (codev L xs.length k = Bk) := ⟨_, rfl⟩
                  rw [c4]
                  rw [hBk.out] at hri hrk ⊢
                  clear c4 c3 c3' hkn15 c2 hBk
                  by_cases c5 : i < k
                  · have c6 : codev L xs.length i < Bk := hri.2 c5
                    have c7 : decide ((i : Int) < (k : Int)) = true := decide_eq_true (by omega)
                    have c8 : decide (((codev L xs.length i : Nat) : Int) < (Bk : Int)) = true := decide_eq_true (by omega)
                    have c9 : ¬ (Bk : Int) = ((codev L xs.length i : Nat) : Int) := by omega
                    have d7 : decide (i < k) = true := decide_eq_true (by omega)
                    have d8 : decide (codev L xs.length i < Bk) = true := decide_eq_true (by omega)
                    have d9 : ¬ Bk = codev L xs.length i := by omega
                    clear hri hrk c1
                    go_wp2
                    all_goals exact ⟨⟨k + 1, by omega, by go_num, hC, hIx, BB⟩, by simp [intOf]; omega⟩
                  · have c6 : Bk < codev L xs.length i := hrk.2 (by omega)
                    have c7 : decide ((i : Int) < (k : Int)) = false := decide_eq_false (by omega)
                    have c8 : decide (((codev L xs.length i : Nat) : Int) < (Bk : Int)) = false := decide_eq_false (by omega)
                    have c9 : ¬ (Bk : Int) = ((codev L xs.length i : Nat) : Int) := by omega
                    have d7 : decide (i < k) = false := decide_eq_false (by omega)
                    have d8 : decide (codev L xs.length i < Bk) = false := decide_eq_false (by omega)
                    have d6 : ¬ codev L xs.length i < Bk := by omega
                    have d9 : ¬ Bk = codev L xs.length i := by omega
                    clear hri hrk c1
                    go_wp2
                    all_goals exact ⟨⟨k + 1, by omega, by go_num, hC, hIx, BB⟩, by simp [intOf]; omega⟩
                · have hfar := code_far (L := L) (N := xs.length) (i := k) (n := L i) (by omega)
                  have hlt := code_lt (L := L) (N := xs.length) hil (by omega)
                  have hne : ¬ ((codev L xs.length k : Nat) : Int) / 2 ^ (L k - L i) = ((codev L xs.length i : Nat) : Int) := by
                    rw [two_pow_cast, ← Int.natCast_ediv]
                    omega
                  have c4' : ¬ ((L k : Nat) : Int) = ((L i : Nat) : Int) := by omega
                  have c5 : ((L i : Nat) : Int) < ((L k : Nat) : Int) := by omega
                  clear hfar hlt c3 c4 c1 c2
                  go_wp2
                  all_goals exact ⟨⟨k + 1, by omega, by go_num, hC, hIx, BB⟩, by simp [intOf]; omega⟩
        · have hkl' : ¬ (k : Int) < (xs.length : Int) := by omega
          go_wp2
          exact ⟨⟨i + 1, by omega, by go_num, hC, hIx, BB⟩, by simp [intOf]; omega⟩
    · have hil' : ¬ (i : Int) < (xs.length : Int) := by omega
      go_wp2_with fail
      obtain ⟨W0, hW0⟩ : ∃ W0, W0 = wr := ⟨_, rfl⟩
      subst hW0
      clear hi hil hil'
      go_loopw [14, 15, 16, 17] (fun v x u j wq => ∃ (t at' : Nat) (bs ws : List Int), t ≤ 60 ∧ j = .int .i64 t ∧ x = .int .i64 at' ∧ OwnV wq W0.heap.size 5 .u8 v bs ∧ OwnV wq W0.heap.size 3 .i64 u ws ∧ InvB bs at' ∧ LaidB L xs.length (zb bs) ws at' ∧ ws.length ≤ t ∧ at' ≤ 15 * t ∧ Below W0.heap.size W0 wq) (fun _ _ _ j _ => 60 - (intOf j).toNat)
      case atStart => exact ⟨0, 0, [], [], by omega, rfl, rfl, ownv_nil _ _ _ _, ownv_nil _ _ _ _, ⟨rfl, fun q => by simp, fun h => by simp at h⟩, ⟨rfl, fun t ht => by simp at ht⟩, by simp, by omega, Below.refl _ _⟩
      case round =>
        obtain ⟨t, at', bs, ws, ht, rfl, rfl, hbo, hwo, hinv, hlaid, hwl, hat, B3⟩ := hrel
        by_cases hgo : t < len2 ∧ t < 60
        · obtain ⟨htl, h60⟩ := hgo
          have htl' : (t : Int) < (len2 : Int) := by omega
          have h60' : (t : Int) < 60 := by omega
          have hI3 := (hI2.below BB (Nat.le_refl _)).below B3 (Nat.le_refl _)
          obtain ⟨b2, off2, rfl, hb2, hc2⟩ := hI3.spot (by omega)
          have hci := hc2 t htl
          clear hc2 hI3
          go_wp2_with fail
          refine (pick_any _ xs.length hx0 (by omega) _).mono ?_
          rintro e w' ⟨rfl, rfl⟩
          have hsl := pickv_lt (f2 t) xs.length hx0
          obtain ⟨s, hs⟩ : ∃ s, Hid (pickv (f2 t) xs.length = s) := ⟨_, rfl⟩
          rw [hs.out] at hsl ⊢
          clear hs hci
          have hC3 := hC.below B3
          go_wp2_with fail
          refine (of_any o gw gs xs.length L s hsl _ hC3).mono ?_
          rintro e w4 ⟨rfl, k4⟩
          have B4 := below_plain B3 (Nat.le_refl _) k4
          replace hbo := hbo.below k4
          replace hwo := hwo.below k4
          clear k4 hC3 B3
          have hs15 := each s hsl
          by_cases hn0 : L s = 0
          · have hn0' : (((L s : Nat) : Int) == 0) = true := by simp; omega
            clear hn0
            go_wp2
            exact ⟨⟨t + 1, at', bs, ws, by omega, by go_num, rfl, hbo, hwo, hinv, hlaid, by omega, by omega, B4⟩, by simp [intOf]; omega⟩
          · have hn0' : ¬ ((L s : Nat) : Int) = 0 := by omega
            have hns : 0 < L s := by omega
            have hws := B4.size
            have hap := (hwo.alloc (.cells #[.int .i64 (s : Int)] 3)).append33 (by simp; omega) (blk_new w4 _) (by omega)
            have HAP : Hid _ := hap
            have B5 := B4.alloc B4.size (.cells #[.int .i64 (s : Int)] 3)
            have hbo5 := hbo.alloc (.cells #[.int .i64 (s : Int)] 3)
            have hwo5 := hwo.alloc (.cells #[.int .i64 (s : Int)] 3)
            clear hap hn0
            go_wp2_with (at_builtin; refine wpList_append_ex rfl (.tmp 144) (.tmp 146) 33 rfl rfl rfl HAP.out ?_; rintro g2 cap2 w5 ⟨own2, hgr2⟩)
            have hbo6 := hbo5.far hgr2 (hbo5.apart hwo5 (by decide))
            have B6 := hwo5.grown B5 hgr2 (Nat.le_refl _) (Nat.le_refl _)
            clear hgr2 hbo5 hwo5 B5 HAP hbo hwo B4 hws
            have hcb := code_bits hsl each ok
            have hcl2 : codev L xs.length s < 32768 := Nat.lt_of_lt_of_le hcb (Nat.le_trans (Nat.pow_le_pow_right (by omega) hs15) (by decide : 2 ^ 15 ≤ 32768))
            clear hcb
            go_loopw [14, 15, 21] (fun v x j wq => ∃ (d : Nat) (bs1 : List Int), d ≤ L s ∧ j = .int .i64 ((L s : Nat) - 1 - (d : Nat)) ∧ x = .int .i64 (at' + d : Nat) ∧ OwnV wq W0.heap.size 5 .u8 v bs1 ∧ Own wq W0.heap.size 3 .i64 g2 cap2 (ws ++ [(s : Int)]) ∧ InvB bs1 (at' + d) ∧ (∀ p, p < at' → bit (zb bs1) p = bit (zb bs) p) ∧ (∀ e, e < d → bit (zb bs1) (at' + e) = codev L xs.length s / 2 ^ (L s - 1 - e) % 2) ∧ Below W0.heap.size W0 wq) (fun _ _ j _ => (intOf j + 1).toNat)
            case atStart => exact ⟨0, bs, by omega, congrArg (Value.int .i64) (by omega), rfl, hbo6, own2, hinv, fun p _ => rfl, fun e he => by omega, B6⟩
            case round =>
              clear hbo6 own2 B6
              obtain ⟨d, bs1, hd, rfl, rfl, hbo, own2, hinv1, hbp, hbe, B6⟩ := hrel
              have hws := B6.size
              by_cases hdl : d < L s
              · obtain ⟨kk, hkk⟩ : ∃ kk : Nat, kk = L s - 1 - d := ⟨_, rfl⟩
                have ekk : ((L s : Nat) : Int) - 1 - ((d : Nat) : Int) = (kk : Int) := by omega
                obtain ⟨A, hA⟩ : ∃ A, at' + d = A := ⟨_, rfl⟩
                rw [ekk, hA]
                rw [hA] at hinv1
                have HA : Hid (at' + d = A) := hA
                have HKK : Hid (kk = L s - 1 - d) := hkk
                have HBP : Hid (∀ p, p < at' → bit (zb bs1) p = bit (zb bs) p) := hbp
                have HBE : Hid (∀ e, e < d → bit (zb bs1) (at' + e) = codev L xs.length s / 2 ^ (L s - 1 - e) % 2) := hbe
                have hAl : A ≤ 915 := by omega
                have hkk14 : kk ≤ 14 := by omega
                have hbl := hinv1.len
                have hv := bit_val (codev L xs.length s) kk (by omega)
                have hcm : codev L xs.length s / 2 ^ kk % 2 < 2 := Nat.mod_lt _ (by omega)
                have hvb : Hid (codev L xs.length s / 2 ^ kk % 2 = codev L xs.length s / 2 ^ kk % 2) := rfl
                obtain ⟨cb, hcbq⟩ : ∃ cb, Hid (codev L xs.length s / 2 ^ kk % 2 = cb) := ⟨_, rfl⟩
                rw [hcbq.out] at hv hcm
                clear ekk hkk hA hbp hbe hvb
                by_cases h8 : A % 8 = 0
                · have h8' : ((A : Nat) : Int) % 8 = 0 := by omega
                  have hap := (hbo.alloc (.cells #[.int .u8 0] 5)).append24 (by simp; omega) (blk_new wr _) (by omega)
                  have HAP : Hid _ := hap
                  have hbo5 := hbo.alloc (.cells #[.int .u8 0] 5)
                  have B7 := B6.alloc B6.size (.cells #[.int .u8 0] 5)
                  have own3 := own2.alloc (.cells #[.int .u8 0] 5)
                  obtain ⟨hmid, hbq⟩ := hinv1.grow h8
                  have hap2 : OwnV (wr.alloc (.cells #[.int .u8 0] 5)) W0.heap.size 3 .i64 (.slice (some ⟨g2, 0, none⟩) (ws ++ [(s : Int)]).length cap2) (ws ++ [(s : Int)]) := own3
                  have hapt := hap2.apart hbo5 (by decide)
                  have HAPT : Hid _ := hapt
                  have HBQ : Hid _ := hbq
                  clear hap hbq hap2 hapt
                  obtain ⟨X, hX'⟩ : ∃ X : Nat, zb (bs1 ++ [0]) (A / 8) = X := ⟨_, rfl⟩
                  have hX : Hid (zb (bs1 ++ [0]) (A / 8) = X) := hX'
                  have hXb : Hid ((bs1 ++ [0]).getD (A / 8) 0 = ((X : Nat) : Int)) := by
                    show (bs1 ++ [0]).getD (A / 8) 0 = ((X : Nat) : Int)
                    rw [← hX']; unfold zb; have := hmid.byte (A / 8); omega
                  clear hX'
                  have hXl : X < 2 ^ (A % 8) := by rw [← hX.out]; exact hmid.top
                  have hor := or_u8 X (A % 8) (Nat.mod_lt _ (by omega)) hXl
                  have hml := hmid.len
                  rcases (show cb = 1 ∨ cb = 0 by omega) with rfl | rfl
                  · have hv' : bits .and .i64 (((codev L xs.length s : Nat) : Int) / 2 ^ kk) 1 = 1 := hv
                    clear hv
                    go_wp2_with (at_builtin; refine wpList_append_ex rfl (.tmp 157) (.tmp 158) 24 rfl rfl rfl HAP.out ?_; rintro g3 cap3 w6 ⟨own6, hgr6⟩; have q0 := own6.cell (j := A / 8) (by omega); have q1 := own6.free (A / 8); rw [hXb.out] at q0)
                    have own7 := own3.far hgr6 (by have := HAPT.out; simpa [Value.ownBlock] using this)
                    have hne := own_apart own7 own6 (by decide)
                    have B8 := hbo5.grown B7 hgr6 (Nat.le_refl _) (Nat.le_refl _)
                    have hval : bits .or .u8 (X : Int) 1 = ((X + 2 ^ (A % 8) : Nat) : Int) := by rw [h8] at hor ⊢; exact hor
                    obtain ⟨r1, r2, r3⟩ := lay_one HA.out HKK.out hmid HBQ.out HBP.out HBE.out hcbq.out hX.out hval
                    have hkq := HKK.out
                    have hAq := HA.out
                    exact ⟨⟨d + 1, _, by omega, congrArg (Value.int .i64) (by omega), congrArg (Value.int .i64) (by omega), own_v (own6.set (A / 8) (bits .or .u8 (X : Int) 1)) (by first | (rw [List.length_set, List.length_append]; simp; done) | (rw [List.length_set, List.length_append]; simp; omega)), own7.blk (blk_other _ hne), r1, r2, r3, B8.setCell own6.lt.1 _⟩, by first | (simp [intOf]; done) | (simp [intOf]; omega)⟩
                  · have hv' : bits .and .i64 (((codev L xs.length s : Nat) : Int) / 2 ^ kk) 1 = 0 := hv
                    clear hv
                    go_wp2_with (at_builtin; refine wpList_append_ex rfl (.tmp 157) (.tmp 158) 24 rfl rfl rfl HAP.out ?_; rintro g3 cap3 w6 ⟨own6, hgr6⟩)
                    have own7 := own3.far hgr6 (by have := HAPT.out; simpa [Value.ownBlock] using this)
                    have B8 := hbo5.grown B7 hgr6 (Nat.le_refl _) (Nat.le_refl _)
                    obtain ⟨r1, r2, r3⟩ := lay_zero HA.out HKK.out hmid HBQ.out HBP.out HBE.out hcbq.out
                    have hkq := HKK.out
                    have hAq := HA.out
                    exact ⟨⟨d + 1, _, by omega, congrArg (Value.int .i64) (by omega), congrArg (Value.int .i64) (by omega), own_v own6 (by first | (rw [List.length_append]; simp; done) | (rw [List.length_append]; simp; omega)), own7, r1, r2, r3, B8⟩, by first | (simp [intOf]; done) | (simp [intOf]; omega)⟩
                · have h8' : ¬ ((A : Nat) : Int) % 8 = 0 := by omega
                  obtain ⟨g3, cap3, rfl, own6⟩ := hbo.own (by omega)
                  have hmid := hinv1.stay h8
                  obtain ⟨X, hX'⟩ : ∃ X : Nat, zb bs1 (A / 8) = X := ⟨_, rfl⟩
                  have hX : Hid (zb bs1 (A / 8) = X) := hX'
                  have hXb : Hid (bs1.getD (A / 8) 0 = ((X : Nat) : Int)) := by
                    show bs1.getD (A / 8) 0 = ((X : Nat) : Int)
                    rw [← hX']; unfold zb; have := hmid.byte (A / 8); omega
                  clear hX'
                  have hXl : X < 2 ^ (A % 8) := by rw [← hX.out]; exact hmid.top
                  have hor := or_u8 X (A % 8) (Nat.mod_lt _ (by omega)) hXl
                  have hpl := pow_le_8 (r := A % 8) (Nat.mod_lt _ (by omega))
                  have hml := hmid.len
                  have q0 := own6.cell (j := A / 8) (by omega)
                  have q1 := own6.free (A / 8)
                  rw [hXb.out] at q0
                  have hne := own_apart own2 own6 (by decide)
                  rcases (show cb = 1 ∨ cb = 0 by omega) with rfl | rfl
                  · have hv' : bits .and .i64 (((codev L xs.length s : Nat) : Int) / 2 ^ kk) 1 = 1 := hv
                    clear hv
                    go_wp2
                    have hval : bits .or .u8 (X : Int) (2 ^ (A % 8) % 256) = ((X + 2 ^ (A % 8) : Nat) : Int) := by
                      rw [← hor, Int.emod_eq_of_lt (by rw [two_pow_cast]; omega) (by rw [two_pow_cast]; omega)]
                    obtain ⟨r1, r2, r3⟩ := lay_one HA.out HKK.out hmid (fun _ => rfl) HBP.out HBE.out hcbq.out hX.out hval
                    have hkq := HKK.out
                    have hAq := HA.out
                    exact ⟨⟨d + 1, _, by omega, congrArg (Value.int .i64) (by omega), congrArg (Value.int .i64) (by omega), own_v (own6.set (A / 8) (bits .or .u8 (X : Int) (2 ^ (A % 8) % 256))) (by rw [List.length_set]), own2.blk (blk_other _ hne), r1, r2, r3, B6.setCell own6.lt.1 _⟩, by first | (simp [intOf]; done) | (simp [intOf]; omega)⟩
                  · have hv' : bits .and .i64 (((codev L xs.length s : Nat) : Int) / 2 ^ kk) 1 = 0 := hv
                    clear hv
                    go_wp2
                    obtain ⟨r1, r2, r3⟩ := lay_zero HA.out HKK.out hmid (fun _ => rfl) HBP.out HBE.out hcbq.out
                    have hkq := HKK.out
                    have hAq := HA.out
                    exact ⟨⟨d + 1, _, by omega, congrArg (Value.int .i64) (by omega), congrArg (Value.int .i64) (by omega), own_v own6 (by omega), own2, r1, r2, r3, B6⟩, by first | (simp [intOf]; done) | (simp [intOf]; omega)⟩
              · obtain rfl : d = L s := by omega
                have hdn : ¬ (0 : Int) ≤ ((L s : Nat) : Int) - 1 - ((L s : Nat) : Int) := by omega
                have hlaid2 := hlaid.more hsl hns hbp (fun k hk => hbe k hk)
                have HL2 : Hid (LaidB L xs.length (zb bs1) (ws ++ [(s : Int)]) (at' + L s)) := hlaid2
                have HIV : Hid (InvB bs1 (at' + L s)) := hinv1
                clear hlaid2 hinv1 hbp hbe
                go_wp2
                exact ⟨⟨t + 1, at' + L s, bs1, ws ++ [(s : Int)], by omega, by go_num, by first | rfl | (congr 1; omega), hbo, own_v own2 (by simp), HIV.out, HL2.out, by simp; omega, by omega, B6⟩, by simp [intOf]; omega⟩
        · rcases (show (t < len2 ∧ ¬ t < 60) ∨ ¬ t < len2 by omega) with ⟨htl, h60⟩ | htl
          all_goals
            first | have h1 : (t : Int) < (len2 : Int) := by omega | have h1 : ¬ (t : Int) < (len2 : Int) := by omega
            first | have h2 : (t : Int) < 60 := by omega | have h2 : ¬ (t : Int) < 60 := by omega | skip
            have hbl := hinv.len
            obtain ⟨av, cv, rfl, hLi⟩ := hbo.lies hinv.byte (by omega)
            obtain ⟨au, cu, rfl⟩ := hwo.form
            have hwlt := World.ownsRow.lt hwo
            have HBL : Hid (bs.length = (at' + 7) / 8) := hbl
            have hbl2 : bs.length ≤ 1000 := by omega
            clear hbl
            go_wp2_with fail
            refine (newbits_any av bs.length cv (zb bs) _ hLi).mono ?_
            rintro e w8 ⟨b0, g0, rfl, hB, hb0, hg0, k8⟩
            have hC8 := (hC.below B3).below k8
            have hwo8 := hwo.below k8
            have B8 := below_plain (below_plain BB (Nat.le_refl _) B3) (Nat.le_refl _) k8
            have hub : (Value.slice au ws.length cu).ownBlock ≠ some b0 := fun e => by have := (hwlt b0 e).2; omega
            have HUB : Hid ((Value.slice au ws.length cu).ownBlock ≠ some b0) := hub
            have n1 : o ≠ b0 := by have := (hC.below B3).lo; omega
            have n2 : gw ≠ b0 := by have := (hC.below B3).lw; omega
            have n3 : gs ≠ b0 := by have := (hC.below B3).ls; omega
            have n4 : w.heap.size ≤ b0 := by have := BB.size; have := B3.size; omega
            clear k8 hwo hbo hLi hub hwlt hgo htl h1 hb0 hg0
            have HLD : Hid (LaidB L xs.length (zb bs) ws at') := hlaid
            have HEA : Hid (∀ k, k < xs.length → L k ≤ 15) := each
            have HOK : Hid (okc L xs.length = true) := ok
            clear hlaid
            go_wp2_with fail
            go_loopw [183] (fun j wq => ∃ r : Nat, r ≤ ws.length ∧ j = .int .i64 r ∧ BitsAt wq b0 g0 bs.length (zb bs) (pos L ws r) ∧ CodeAt wq o gw gs xs.length L ∧ OwnV wq W0.heap.size 3 .i64 (.slice au ws.length cu) ws ∧ Below w.heap.size w wq) (fun j _ => ws.length - (intOf j).toNat)
            case atStart => exact ⟨0, by omega, rfl, hB, hC8, hwo8, B8⟩
            case round =>
              clear hB hC8 hwo8 B8
              obtain ⟨r, hr, rfl, hB, hC8, hwo8, B8⟩ := hrel
              by_cases hrl : r < ws.length
              · have hrl' : (r : Int) < (ws.length : Int) := by omega
                obtain ⟨gu, cu', eu, ownu⟩ := hwo8.own (by omega)
                simp only [Value.slice.injEq, true_and] at eu
                obtain ⟨rfl, rfl⟩ := eu
                have hcell := ownu.cell hrl
                obtain ⟨l1, l2, l3, l4⟩ := HLD.out.each r hrl
                obtain ⟨S, hS⟩ : ∃ S : Nat, S = (ws.getD r 0).toNat := ⟨_, rfl⟩
                have hSv : ws.getD r 0 = ((S : Nat) : Int) := by omega
                rw [hSv] at hcell
                have hread := HLD.out.read HEA.out HOK.out (lim := 8 * bs.length) (by have := HBL.out; omega) hrl
                rw [← hS] at hread
                have HRE : Hid _ := hread
                have hlcu := ownu.lc
                clear l1 l2 l3 l4 hS hSv hread ownu
                go_wp2_with fail
                refine (read_any o gw gs xs.length L b0 g0 bs.length (zb bs) (pos L ws r) _ hC8 hB n1 n2 n3).mono ?_
                rintro e w9 ⟨rfl, hB9, k9⟩
                rw [HRE.out] at hB9 ⊢
                replace hC8 := hC8.kept k9 n1 n2 n3
                replace hwo8 := hwo8.kept k9 HUB.out
                replace B8 := Below.kept B8 k9 (Nat.le_refl _) (fun i hi => by omega)
                clear hB k9
                go_wp2
                exact ⟨⟨r + 1, by omega, by go_num, hB9, hC8, hwo8, B8⟩, by simp [intOf]; omega⟩
              · have hrl' : ¬ (r : Int) < (ws.length : Int) := by omega
                obtain rfl : r = ws.length := by omega
                have hfin := HLD.out.fin
                have hus : (pos L ws ws.length + 7) / 8 = bs.length := by rw [hfin]; exact HBL.out.symm
                go_wp2_with fail
                refine (used_any b0 g0 bs.length (zb bs) _ _ hB).mono ?_
                rintro e w' ⟨rfl, rfl⟩
                rw [hus]
                clear hus hfin
                go_wp2
                go_ret
                exact ⟨rfl, B8⟩
end Go.Proofs.Ytlpehejadedkkaa
