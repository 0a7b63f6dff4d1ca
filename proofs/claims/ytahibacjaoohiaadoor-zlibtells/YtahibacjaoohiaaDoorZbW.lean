/-
  ZlibBack's own walk.
-/
import Derived.Test.YtahibacjaoohiaaDoorZP
namespace Go.Proofs.YtahibacjaoohiaaDoor
open Go.RowKit

set_option maxHeartbeats 400000 in
/-- Pick among many. -/
theorem pick_big (n : Int) (m : Nat) (hm : 0 < m) (hm2 : m ≤ 200000000000000) (w : World) :
    Calls Tryd.prog 10 #[.int .i64 n, .int .i64 (m : Nat)] w fun e w' => e = .returned (.int .i64 (pickv n m : Nat)) ∧ w' = w := by
  have hb := tmod_bd n m (by omega)
  have h2 := Int.emod_nonneg n (by omega : (m : Int) ≠ 0)
  have hk : ((pickv n m : Nat) : Int) = n % (m : Int) := by unfold pickv; omega
  have hne : ¬ (m : Int) = 0 := by omega
  by_cases hz : n.tmod m < 0
  · have e := pick_neg n m (by omega) hz
    have E : Hid (n.tmod m + m = n % m) := e
    have HK : Hid (((pickv n m : Nat) : Int) = n % m) := hk
    clear e h2 hk
    go_enter Tryd.func10, Tryd.ntmps10
    go_wp2
    go_ret
    exact ⟨ret_int (by rw [HK.out, ← E.out]), rfl⟩
  · have e := pick_pos n m (by omega) (by omega)
    have E : Hid (n.tmod m = n % m) := e
    have HK : Hid (((pickv n m : Nat) : Int) = n % m) := hk
    clear e h2 hk
    go_enter Tryd.func10, Tryd.ntmps10
    go_wp2
    go_ret
    exact ⟨ret_int (by rw [HK.out, ← E.out]), rfl⟩
theorem xor_u8 (x y : Nat) (hx : x < 256) (hy : y < 256) : ∃ X : Nat, bits .xor .u8 (x : Int) (y : Int) = (X : Nat) ∧ X < 256 ∧ (X = x ↔ y = 0) := by
  have hlt : x ^^^ y < 2 ^ 8 := Nat.xor_lt_two_pow (by omega) (by omega)
  refine ⟨x ^^^ y, ?_, by omega, ?_⟩
  · have h1 : (BitVec.ofInt 8 (x : Int) ^^^ BitVec.ofInt 8 (y : Int)).toNat = x ^^^ y := by
      rw [BitVec.toNat_xor]
      congr 1 <;> simp <;> omega
    show IntKind.wrap .u8 (((BitVec.ofInt 8 (x : Int) ^^^ BitVec.ofInt 8 (y : Int)).toNat : Nat) : Int) = _
    rw [h1]
    simp [IntKind.wrap, IntKind.signed, IntKind.bits]
    omega
  · constructor
    · intro h
      have h2 : x ^^^ (x ^^^ y) = x ^^^ x := by rw [h]
      rwa [← Nat.xor_assoc, Nat.xor_self, Nat.zero_xor] at h2
    · intro h; rw [h, Nat.xor_zero]
theorem lay_turn (z : Nat → Nat) (n p : Nat) (hp : p < 4) (X : Int) : (layL z n).set ((stL z n 0).length + 6 - 1 - p) X = [120, 1] ++ stL z n 0 ++ (bigL (adv z n)).set (3 - p) X := by
  unfold layL
  rw [List.set_append, if_neg (by simp; omega)]
  congr 2
  simp
  omega
theorem lay_getD (z : Nat → Nat) (n p : Nat) (hp : p < 4) : (layL z n).getD ((stL z n 0).length + 6 - 1 - p) 0 = (bigL (adv z n)).getD (3 - p) 0 := by
  unfold layL
  rw [List.getD_eq_getElem?_getD, List.getD_eq_getElem?_getD, List.getElem?_append_right (by simp; omega)]
  congr 2
  simp
  omega
theorem byt_set {xs : List Int} (h : Byt xs) (j X : Nat) (hX : X < 256) : Byt (xs.set j ((X : Nat) : Int)) := fun i => by
  rw [List.getD_eq_getElem?_getD, List.getElem?_set]
  by_cases e : j = i
  · subst e
    by_cases hl : j < xs.length
    · simp [hl]; omega
    · simp [hl]
  · rw [if_neg e, ← List.getD_eq_getElem?_getD]; exact h i
theorem opn_turn {z : Nat → Nat} (hz : ∀ i, z i < 256) (n p X v : Nat) (hp : p < 4) (hX : X < 256) (hv : (layL z n).getD ((layL z n).length - 1 - p) 0 = (v : Nat)) :
    opnE (zb ((layL z n).set ((layL z n).length - 1 - p) ((X : Nat) : Int))) (layL z n).length n = if X = v then .ok (byt z 0 n) else .error 5 := by
  have hl := layL_len z n
  rw [hl] at hv ⊢
  rw [lay_getD z n p hp] at hv
  rw [lay_turn z n p hp]
  have hb := bigL_byt (adv_lt z n)
  have hE := byt_set hb (3 - p) X hX
  have hF : Fram (zb ([120, 1] ++ stL z n 0 ++ (bigL (adv z n)).set (3 - p) ((X : Nat) : Int))) z n := fram_of hz n (a := 120) (b := 1) (by omega) (by omega) hd1 hE
  have he : ∀ i, zb ([120, 1] ++ stL z n 0 ++ (bigL (adv z n)).set (3 - p) ((X : Nat) : Int)) (2 + ((stL z n 0).length + i)) = zb ((bigL (adv z n)).set (3 - p) ((X : Nat) : Int)) i := fun i => by rw [← Nat.add_assoc]; exact zb_end rfl
  have hiff := numbe_big (y := fun i => zb ([120, 1] ++ stL z n 0 ++ (bigL (adv z n)).set (3 - p) ((X : Nat) : Int)) (2 + ((stL z n 0).length + i))) (fun i => by rw [he]; exact hE.zb_lt i) (adv_lt z n)
  have hs : (∀ i, i < 4 → zb ((bigL (adv z n)).set (3 - p) ((X : Nat) : Int)) i = zb (bigL (adv z n)) i) ↔ X = v := by
    have hg : ∀ i, ((bigL (adv z n)).set (3 - p) ((X : Nat) : Int)).getD i 0 = if i = 3 - p then ((X : Nat) : Int) else (bigL (adv z n)).getD i 0 := fun i => by
      rw [List.getD_eq_getElem?_getD, List.getElem?_set]
      by_cases e : 3 - p = i
      · rw [if_pos e, if_pos e.symm, if_pos (by rw [bigL_len]; omega)]; rfl
      · rw [if_neg e, if_neg (fun h => e h.symm), ← List.getD_eq_getElem?_getD]
    constructor
    · intro h
      have := h (3 - p) (by omega)
      unfold zb at this
      rw [hg, if_pos rfl, hv] at this
      omega
    · intro h i _
      unfold zb
      rw [hg]
      by_cases e : i = 3 - p
      · rw [if_pos e, e, hv, h]
      · rw [if_neg e]
  have hc : clov (fun i => zb ([120, 1] ++ stL z n 0 ++ (bigL (adv z n)).set (3 - p) ((X : Nat) : Int)) (2 + ((stL z n 0).length + i))) 4 z n = if X = v then 0 else 5 := by
    unfold clov
    rw [if_neg (by omega), if_neg (by omega)]
    by_cases hq : X = v
    · rw [if_pos hq, if_pos]
      exact hiff.2 (fun i hi => by rw [he]; exact hs.2 hq i hi)
    · rw [if_neg hq, if_neg]
      intro h
      exact hq (hs.1 (fun i hi => by have := hiff.1 h i hi; rwa [he] at this))
  have ho := opn_end hF (most := n) (LEN := (stL z n 0).length + 6) (Nat.le_refl _) rfl (by omega)
  rw [show (stL z n 0).length + 6 - 2 - (stL z n 0).length = 4 by omega, hc] at ho
  rw [ho]
  by_cases hq : X = v
  · rw [if_pos hq, if_pos rfl, if_pos hq]
  · rw [if_neg hq, if_neg (by omega), if_neg hq]
set_option maxRecDepth 100000 in
set_option maxHeartbeats 3200000 in
theorem zlibBack_walk (w : World) (a1 : Option Addr) (n c1 : Nat) (z : Nat → Nat) (cut at' by' : Int) (hL : Lies w a1 n c1 z) (hby' : 0 ≤ by' ∧ by' < 256) (hn : n ≤ 140737488351232) (hT : Tab w) :
    Calls Tryd.prog 6 #[.slice a1 n c1, .int .i64 cut, .int .i64 at', .int .u8 by'] w fun e w' => e = .returned (.bool true) ∧ Below w.heap.size w w' := by
  obtain ⟨y, rfl⟩ : ∃ y : Nat, by' = y := ⟨by'.toNat, by omega⟩
  have hy : y < 256 := by omega
  clear hby'
  have hz := hL.byte
  have hSl := layL_len z n
  have hNb := stL_len z n n 0 (by omega)
  have h5 := stL_five z n 0
  have hN' : Hid ((layL z n).length = (stL z n 0).length + 6) := hSl
  have hbS := layL_byt hz n
  have K1 : Hid (opnE (zb (layL z n)) (layL z n).length n = .ok (byt z 0 n)) := opn_lay hz n (Nat.le_refl _)
  have K2 : Hid (∀ k, k < (layL z n).length → opnE (zb (layL z n)) k n = .error 3) := fun k hk => opn_lay_cut hz n (Nat.le_refl _) hk
  have K3 : Hid (∀ p X v : Nat, p < 4 → X < 256 → (layL z n).getD ((layL z n).length - 1 - p) 0 = (v : Nat) → opnE (zb ((layL z n).set ((layL z n).length - 1 - p) ((X : Nat) : Int))) (layL z n).length n = if X = v then .ok (byt z 0 n) else .error 5) := fun p X v hp hX hv => opn_turn hz n p X v hp hX hv
  have LA := lay_any a1 n c1 z w hL (by omega)
  obtain ⟨S, hS⟩ : ∃ S, Hid (layL z n = S) := ⟨_, rfl⟩
  rw [hS.out] at K1 K2 K3 LA hSl hbS hN'
  obtain ⟨N, hN⟩ : ∃ N, Hid (S.length = N) := ⟨_, rfl⟩
  rw [hN.out] at K1 K2 K3 LA hSl hN'
  obtain ⟨L0, hL0⟩ : ∃ N, Hid ((stL z n 0).length = N) := ⟨_, rfl⟩
  rw [hL0.out] at hNb h5 hSl hN'
  have hN11 : 11 ≤ N := by omega
  have hNb2 : N ≤ 149000000000000 := by omega
  have hnm : Hid (((n : Nat) : Int) = if ((n : Nat) : Int) < 0 then 0 else ((n : Nat) : Int)) := by show _ = _; rw [if_neg (by omega)]
  have hbS' : Hid (Byt S) := hbS
  have hsum : ((L0 : Nat) : Int) + 6 = (N : Nat) := by omega
  obtain ⟨k, hk⟩ : ∃ k, Hid (pickv cut N = k) := ⟨_, rfl⟩
  have hkN : k < N := by rw [← hk.out]; exact pickv_lt cut N (by omega)
  have P1 : ∀ W, Calls Tryd.prog 10 #[.int .i64 cut, .int .i64 (N : Nat)] W fun e w' => e = .returned (.int .i64 (k : Nat)) ∧ w' = W := fun W => by rw [← hk.out]; exact pick_big cut N (by omega) (by omega) W
  obtain ⟨p, hp⟩ : ∃ k, Hid (pickv at' 4 = k) := ⟨_, rfl⟩
  have hp4 : p < 4 := by rw [← hp.out]; exact pickv_lt at' 4 (by omega)
  have P2 : ∀ W, Calls Tryd.prog 10 #[.int .i64 at', .int .i64 4] W fun e w' => e = .returned (.int .i64 (p : Nat)) ∧ w' = W := fun W => by rw [← hp.out]; exact pick_any at' 4 (by omega) (by omega) W
  obtain ⟨J, hJ⟩ : ∃ J, Hid (N - 1 - p = J) := ⟨_, rfl⟩
  obtain ⟨N1, hN1⟩ : ∃ J : Nat, ((N : Nat) : Int) - 1 = (J : Nat) := ⟨N - 1, by omega⟩
  have hJ1 : ((N1 : Nat) : Int) - (p : Nat) = (J : Nat) := by have := hJ.out; omega
  have hJN : J < N := by have := hJ.out; omega
  obtain ⟨v, hv⟩ : ∃ v : Nat, Hid (S.getD J 0 = (v : Nat)) := ⟨(S.getD J 0).toNat, by show _ = _; have := hbS J; omega⟩
  have hv256 : v < 256 := by have := hbS J; rw [hv.out] at this; omega
  obtain ⟨X, hX, hX256, hXv⟩ := xor_u8 v y hv256 hy
  have K4 : Hid (opnE (zb (S.set J ((X : Nat) : Int))) N n = if X = v then .ok (byt z 0 n) else .error 5) := by
    have := K3.out p X v hp4 hX256 (by rw [hJ.out]; exact hv.out)
    rw [hJ.out] at this
    exact this
  have HXV : Hid (X = v ↔ y = 0) := hXv
  have HX256 : Hid (X < 256) := hX256
  clear K3 hXv hbS hSl hN' hNb h5 hz hX256
  go_enter Tryd.func6, Tryd.ntmps6
  go_wp2_with fail
  refine LA.mono ?_
  rintro e w1 ⟨g, c, rfl, hO1, b1⟩
  have L1 := hO1.liesB hbS'.out (by rw [hN.out]; omega)
  rw [hN.out] at L1
  have Z1 := hL.below b1 (Nat.le_refl _)
  have T1 := hT.below b1 hT.pos
  clear hO1 LA
  go_wp2_with fail
  refine (open_any _ N c (zb S) (n : Nat) n hnm.out (by omega) _ L1 T1).mono ?_
  intro e w2 h2
  obtain ⟨x2, ra, rc, rfl, LR2⟩ := h2.yes K1.out (by rw [byt_len]; omega)
  rw [byt_len] at LR2 ⊢
  have B2 := b1.trans (x2.mono b1.size)
  have L2 := L1.below x2 (Nat.le_refl _)
  have Z2 := Z1.below x2 (Nat.le_refl _)
  have T2 := T1.below x2 T1.pos
  clear h2 x2 b1 L1 Z1 T1
  go_wp2_with fail
  refine (known9_any _ T2).mono ?_
  rintro e w3 ⟨rfl, x3⟩
  have B3 := B2.trans (x3.mono B2.size)
  have L3 := L2.below x3 (Nat.le_refl _)
  have Z3 := Z2.below x3 (Nat.le_refl _)
  have T3 := T2.below x3 T2.pos
  have C1 := conv_string (LR2.below x3 (Nat.le_refl _))
  have C2 := conv_string Z3
  rw [bstr_congr (fun i hi => zb_byt hi)] at C1
  obtain ⟨T, hTT⟩ : ∃ T, Hid (bstr z n = T) := ⟨_, rfl⟩
  rw [hTT.out] at C1 C2
  clear x3 B2 L2 Z2 T2 LR2
  go_wp2_with fail
  refine (stored_go a1 n c1 z _ Z3 (by omega)).mono ?_
  rintro e w4 ⟨g4, c4, rfl, hO4, x4⟩
  have B4 := B3.trans (x4.mono B3.size)
  have L4 := L3.below x4 (Nat.le_refl _)
  have Z4 := Z3.below x4 (Nat.le_refl _)
  have T4 := T3.below x4 T3.pos
  rw [hL0.out]
  clear x4 B3 L3 Z3 T3 hO4 C1 C2
  go_wp2_with fail
  refine (P1 _).mono ?_
  rintro e w5 ⟨rfl, rfl⟩
  have hkc : (k : Int) < N := by omega
  have hlc := L4.lc
  have hkc2 : (k : Int) ≤ c := by omega
  have Lk : Lies w5 (some ⟨g, 0, none⟩) k c (zb S) := ⟨by omega, by omega, L4.byte, fun h0 => by
    obtain ⟨b, o, e, hb, hc⟩ := L4.spot (by omega)
    exact ⟨b, o, e, hb, fun i hi => hc i (by omega)⟩⟩
  clear P1
  go_wp2_with fail
  refine (open_any _ k c (zb S) (n : Nat) n hnm.out (by omega) _ Lk T4).mono ?_
  intro e w6 h6
  obtain ⟨x6, rfl⟩ := h6.no (K2.out k hkN)
  have B6 := B4.trans (x6.mono B4.size)
  have L6 := L4.below x6 (Nat.le_refl _)
  have T6 := T4.below x6 T4.pos
  have A1 := app1 (base := w.heap.size) B6.size S L6 hbS'.out hN.out (by omega)
  have HA1 : Hid (_) := A1
  clear h6 x6 B4 L4 T4 Z4 Lk A1 hkc hkc2 hlc
  have hvx : Hid (S.getD J 0 = (v : Nat)) := hv
  go_wp2_with (at_builtin; refine wpList_append_ex rfl (.tmp 60) (.tmp 61) 23 rfl rfl rfl HA1.out ?_; rintro gt ct w7 hR7; obtain ⟨hO7, b7, hgt⟩ := hR7)
  have cell7 := hO7.cell (j := J) (by rw [hN.out]; omega)
  rw [hvx.out] at cell7
  have fr7 := hO7.free J
  have hO8 : Own (w7.setCell ⟨gt, J, none⟩ (.int .u8 (X : Nat))) w.heap.size 5 .u8 gt ct (S.set J ((X : Nat) : Int)) := hO7.set J ((X : Nat) : Int)
  have b8 : Below w6.heap.size w6 (w7.setCell ⟨gt, J, none⟩ (.int .u8 (X : Nat))) := b7.setCell (p := ⟨gt, J, none⟩) hgt _
  obtain ⟨w8, hw8⟩ : ∃ W, W = w7.setCell ⟨gt, J, none⟩ (.int .u8 (X : Nat)) := ⟨_, rfl⟩
  rw [← hw8] at hO8 b8
  have HO8 : Hid (Own w8 w.heap.size 5 .u8 gt ct (S.set J ((X : Nat) : Int))) := hO8
  have HB8 : Hid (Below w6.heap.size w6 w8) := b8
  have HW8 : Hid (w8 = _) := hw8
  have hJN' : (J : Int) < N := by omega
  clear hO7 b7 hgt hO8 b8 hw8
  refine (P2 _).mono ?_
  rintro e w7' ⟨rfl, rfl⟩
  clear P2
  go_wp2_with (rw [← HW8.out])
  have b8 := HB8.out
  have B8 := B6.trans (b8.mono B6.size)
  have T8 := T6.below b8 T6.pos
  have L8 := HO8.out.liesB (byt_set hbS'.out J X HX256.out) (by simp [hN.out]; omega)
  rw [List.length_set, hN.out] at L8
  clear HO8 HB8 HW8 b8 B6 T6 cell7 fr7 hJN'
  refine (open_any _ N ct (zb (S.set J ((X : Nat) : Int))) (n : Nat) n hnm.out (by omega) _ L8 T8).mono ?_
  intro e w9 h9
  by_cases hy0 : y = 0
  · have hq : ((y : Int) != 0) = false := by rw [bne_eq_false_iff_eq]; omega
    obtain ⟨x9, ra9, rc9, rfl, _⟩ := h9.yes (K4.out.trans (if_pos (HXV.out.2 hy0))) (by rw [byt_len]; omega)
    have B9 := B8.trans (x9.mono B8.size)
    clear h9 x9 B8 T8 L8 hy0 hX hsum hN1 hJ1
    go_wp2
    go_ret
    exact ⟨rfl, B9⟩
  · have hq : ((y : Int) != 0) = true := by rw [bne_iff_ne]; omega
    obtain ⟨x9, rfl⟩ := h9.no (K4.out.trans (if_neg (fun h => hy0 (HXV.out.1 h))))
    have B9 := B8.trans (x9.mono B8.size)
    clear h9 x9 B8 T8 L8 hy0 hX hsum hN1 hJ1
    go_wp2
    go_ret
    exact ⟨rfl, B9⟩
end Go.Proofs.YtahibacjaoohiaaDoor
