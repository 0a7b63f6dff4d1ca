/-
  ZlibHeads' own walk.
-/
import Derived.Test.YtahibacjaoohiaaDoorZC
import Derived.Test.YtahibacjaoohiaaDoorZP
namespace Go.Proofs.YtahibacjaoohiaaDoor
open Go.RowKit

theorem lay_heads (z : Nat → Nat) (n : Nat) (a b : Int) : ((layL z n).set 0 a).set 1 b = [a, b] ++ stL z n 0 ++ bigL (adv z n) := by
  unfold layL; rfl
theorem heads_byt {z : Nat → Nat} (hz : ∀ i, z i < 256) (n a b : Nat) (ha : a < 256) (hb : b < 256) : Byt ([((a : Nat) : Int), ((b : Nat) : Int)] ++ stL z n 0 ++ bigL (adv z n)) :=
  Byt.append (Byt.append (fun i => by rcases i with _ | _ | i <;> simp <;> omega) (stL_byt hz n n 0 (by omega))) (bigL_byt (adv_lt z n))
theorem opn_heads {z : Nat → Nat} (hz : ∀ i, z i < 256) (n a b : Nat) (ha : a < 256) (hb : b < 256) {N : Nat} (hN : N = (stL z n 0).length + 6) : opnE (zb ([((a : Nat) : Int), ((b : Nat) : Int)] ++ stL z n 0 ++ bigL (adv z n))) N n = if hdv a b = true then .ok (byt z 0 n) else .error 2 := by
  subst hN
  have h0 : zb ([((a : Nat) : Int), ((b : Nat) : Int)] ++ stL z n 0 ++ bigL (adv z n)) 0 = a := by unfold zb; simp
  have h1 : zb ([((a : Nat) : Int), ((b : Nat) : Int)] ++ stL z n 0 ++ bigL (adv z n)) 1 = b := by unfold zb; simp
  by_cases hv : hdv a b = true
  · rw [if_pos hv]
    have hE := bigL_byt (adv_lt z n)
    have hF := fram_of hz n ha hb hv hE
    have he : ∀ i, zb ([((a : Nat) : Int), ((b : Nat) : Int)] ++ stL z n 0 ++ bigL (adv z n)) (2 + ((stL z n 0).length + i)) = zb (bigL (adv z n)) i := fun i => by rw [← Nat.add_assoc]; exact zb_end rfl
    have hc : clov (fun i => zb ([((a : Nat) : Int), ((b : Nat) : Int)] ++ stL z n 0 ++ bigL (adv z n)) (2 + ((stL z n 0).length + i))) 4 z n = 0 := by
      unfold clov
      rw [if_neg (by omega), if_neg (by omega), if_pos]
      exact (numbe_big (fun i => by rw [he]; exact hE.zb_lt i) (adv_lt z n)).2 (fun i _ => he i)
    rw [opn_end hF (Nat.le_refl _) rfl (by omega), show (stL z n 0).length + 6 - 2 - (stL z n 0).length = 4 by omega, if_pos hc]
  · rw [if_neg hv]
    exact opn_no (by omega) (by rw [h0, h1]; simpa using hv)

set_option maxRecDepth 100000 in
set_option maxHeartbeats 3200000 in
theorem zlibHeads_walk (w : World) (a' b' : Int) (a1 : Option Addr) (n c1 : Nat) (z : Nat → Nat) (ha' : 0 ≤ a' ∧ a' < 256) (hb' : 0 ≤ b' ∧ b' < 256) (hL : Lies w a1 n c1 z) (hn : n ≤ 140737488351232) (hT : Tab w) :
    Calls Tryd.prog 7 #[.int .u8 a', .int .u8 b', .slice a1 n c1] w fun e w' => e = .returned (.bool true) ∧ Below w.heap.size w w' := by
  obtain ⟨a, rfl⟩ : ∃ a : Nat, a' = a := ⟨a'.toNat, by omega⟩
  obtain ⟨b, rfl⟩ : ∃ b : Nat, b' = b := ⟨b'.toNat, by omega⟩
  have ha : a < 256 := by omega
  have hb : b < 256 := by omega
  clear ha' hb'
  have hSl := layL_len z n
  have hS2 := lay_heads z n (a : Nat) (b : Nat)
  have hby := heads_byt hL.byte n a b ha hb
  have hop := opn_heads hL.byte n a b ha hb (N := (layL z n).length) hSl
  rw [← hS2] at hby hop
  have hNb := stL_len z n n 0 (by omega)
  obtain ⟨S, hS⟩ : ∃ S, Hid (layL z n = S) := ⟨_, rfl⟩
  have RL := rlay_any a1 n c1 z w hL (by omega)
  rw [hS.out] at hSl hby hop RL
  obtain ⟨N, hN⟩ : ∃ N, Hid (S.length = N) := ⟨_, rfl⟩
  rw [hN.out] at hSl hop RL
  have hN11 : 11 ≤ N := by have := stL_five z n 0; omega
  have hNb2 : N ≤ 149000000000000 := by omega
  have hnm : ((n : Nat) : Int) = if ((n : Nat) : Int) < 0 then 0 else ((n : Nat) : Int) := by rw [if_neg (by omega)]
  have HOP : Hid (_) := hop
  have HBY : Hid (Byt ((S.set 0 ((a : Nat) : Int)).set 1 ((b : Nat) : Int))) := hby
  have HNM : Hid (((n : Nat) : Int) = if ((n : Nat) : Int) < 0 then 0 else ((n : Nat) : Int)) := hnm
  clear hop hby hnm hS2 hSl hNb
  obtain ⟨M, hM⟩ : ∃ M, Hid (a % 16 = M) := ⟨_, rfl⟩
  obtain ⟨P, hP⟩ : ∃ M, Hid (a / 16 = M) := ⟨_, rfl⟩
  obtain ⟨Q, hQ⟩ : ∃ M, Hid (a * 256 + b = M) := ⟨_, rfl⟩
  obtain ⟨D, hD⟩ : ∃ M, Hid (b / 32 % 2 = M) := ⟨_, rfl⟩
  obtain ⟨R, hR⟩ : ∃ M, Hid (Q % 31 = M) := ⟨_, rfl⟩
  obtain ⟨F, hF⟩ : ∃ M, Hid (b / 32 = M) := ⟨_, rfl⟩
  obtain ⟨V, hV⟩ : ∃ V, Hid (hdv a b = V) := ⟨_, rfl⟩
  have e1 : (a : Int) % 16 = (M : Nat) := by have := hM.out; omega
  have e2 : (a : Int) / 16 = (P : Nat) := by have := hP.out; omega
  have e3 : (a : Int) * 256 + b = (Q : Nat) := by have := hQ.out; omega
  have e4 : (Q : Int) % 31 = (R : Nat) := by have := hR.out; omega
  have e5 : (b : Int) / 32 = (F : Nat) := by have := hF.out; omega
  have e6 : (F : Int) % 2 = (D : Nat) := by have := hF.out; have := hD.out; omega
  have hr5 : (V = true ∧ M = 8 ∧ P < 8 ∧ R = 0 ∧ D = 0) ∨ (V = false ∧ M ≠ 8) ∨ (V = false ∧ M = 8 ∧ ¬ P < 8) ∨ (V = false ∧ M = 8 ∧ P < 8 ∧ R ≠ 0) ∨ (V = false ∧ M = 8 ∧ P < 8 ∧ R = 0 ∧ D = 1) := by
    have h1 := hM.out
    have h2 := hQ.out
    have h3 := hD.out
    have h4 := hR.out
    have h5 := hP.out
    have h6 : decide (a % 16 = 8 ∧ a / 16 ≤ 7 ∧ (a * 256 + b) % 31 = 0 ∧ b / 32 % 2 = 0) = V := hV.out
    cases V with
    | true =>
      obtain ⟨k1, k2, k3, k4⟩ := of_decide_eq_true h6
      exact .inl ⟨rfl, by omega, by omega, by rw [h2] at k3; omega, by omega⟩
    | false =>
      have h7 := of_decide_eq_false h6
      right
      by_cases c1 : M = 8
      · by_cases c2 : P < 8
        · by_cases c3 : R = 0
          · refine .inr (.inr (.inr ⟨rfl, c1, c2, c3, ?_⟩))
            by_cases c4 : D = 0
            · exact absurd ⟨by omega, by omega, by rw [h2]; omega, by omega⟩ h7
            · omega
          · exact .inr (.inr (.inl ⟨rfl, c1, c2, c3⟩))
        · exact .inr (.inl ⟨rfl, c1, c2⟩)
      · exact .inl ⟨rfl, c1⟩
  rw [hV.out] at HOP
  go_enter Tryd.func7, Tryd.ntmps7
  go_wp2_with fail
  refine RL.mono ?_
  rintro e w1 ⟨g, c, rfl, hO, b1⟩
  have f0 := hO.free 0
  have hO1 := hO.set 0 ((a : Nat) : Int)
  have k1 : Below w.heap.size w (w1.setCell ⟨g, 0, none⟩ (.int .u8 (a : Nat))) := b1.setCell hO.lt.1 _
  have v0 := hO.cell (j := 0) (by rw [hN.out]; omega)
  obtain ⟨W1, hW1⟩ : ∃ W, W = w1.setCell ⟨g, 0, none⟩ (.int .u8 (a : Nat)) := ⟨_, rfl⟩
  rw [← hW1] at hO1 k1
  have hO1' : Own W1 w.heap.size 5 .u8 g c (S.set 0 ((a : Nat) : Int)) := hO1
  have f1 := hO1'.free 1
  have v1 := hO1'.cell (j := 1) (by rw [List.length_set, hN.out]; omega)
  have hO2 := hO1'.set 1 ((b : Nat) : Int)
  have k2 : Below w.heap.size w (W1.setCell ⟨g, 1, none⟩ (.int .u8 (b : Nat))) := k1.setCell hO1'.lt.1 _
  obtain ⟨W2, hW2⟩ : ∃ W, W = W1.setCell ⟨g, 1, none⟩ (.int .u8 (b : Nat)) := ⟨_, rfl⟩
  rw [← hW2] at hO2 k2
  have HO2 : Hid (Own W2 w.heap.size 5 .u8 g c ((S.set 0 ((a : Nat) : Int)).set 1 ((b : Nat) : Int))) := hO2
  have HK2 : Hid (Below w.heap.size w W2) := k2
  have HW1 : Hid (W1 = _) := hW1
  have HW2 : Hid (W2 = _) := hW2
  clear hO hO1 hO1' hO2 k1 k2 hW1 hW2 b1 RL
  have q1 : (0 : Int) < N := by omega
  have q2 : (1 : Int) < N := by omega
  go_wp2_with (first
    | (rw [← HW1.out])
    | (rw [← HW2.out]))
  have B2 := HK2.out
  have L2 := HO2.out.liesB HBY.out (by simp [hN.out]; omega)
  rw [List.length_set, List.length_set, hN.out] at L2
  have T2 := hT.below B2 hT.pos
  have Lz2 := hL.below B2 (Nat.le_refl _)
  clear HO2 HK2 f0 f1 v0 v1 q1 q2 HW1 HW2
  refine (open_any _ N c (zb ((S.set 0 ((a : Nat) : Int)).set 1 ((b : Nat) : Int))) (n : Nat) n HNM.out (by omega) _ L2 T2).mono ?_
  intro e w3 h3
  rcases hr5 with ⟨rfl, rfl, g2, rfl, rfl⟩ | ⟨rfl, g1⟩ | ⟨rfl, rfl, g2⟩ | ⟨rfl, rfl, g2, g3⟩ | ⟨rfl, rfl, g2, rfl, rfl⟩
  · replace e1 : (a : Int) % 16 = 8 := e1
    replace e4 : (Q : Int) % 31 = 0 := e4
    replace e6 : (F : Int) % 2 = 0 := e6
    have f2 : decide ((P : Int) < 8) = true := decide_eq_true (by omega)
    clear g2
    obtain ⟨b3, ra, rc, rfl, Lr⟩ := h3.yes (HOP.out.trans (if_pos rfl)) (by rw [byt_len]; omega)
    rw [byt_len] at Lr ⊢
    have B3 := B2.trans (b3.mono B2.size)
    have T3 := T2.below b3 T2.pos
    have Lz3 := Lz2.below b3 (Nat.le_refl _)
    clear h3 b3 B2 T2 Lz2 L2
    go_wp2_with fail
    refine (known9_any _ T3).mono ?_
    rintro e w4 ⟨rfl, b4⟩
    have B4 := B3.trans (b4.mono B3.size)
    have C1 := conv_string (Lr.below b4 (Nat.le_refl _))
    have C2 := conv_string (Lz3.below b4 (Nat.le_refl _))
    rw [bstr_congr (fun i hi => zb_byt hi)] at C1
    obtain ⟨T, hTT⟩ : ∃ T, Hid (bstr z n = T) := ⟨_, rfl⟩
    rw [hTT.out] at C1 C2
    clear b4 B3 T3 Lz3 Lr
    go_wp2
    go_ret
    exact ⟨rfl, B4⟩
  · have f1 : ((M : Int) == 8) = false := by rw [beq_eq_false_iff_ne]; omega
    obtain ⟨b3, rfl⟩ := h3.no (HOP.out.trans (if_neg (by simp)))
    have B3 := B2.trans (b3.mono B2.size)
    have T3 := T2.below b3 T2.pos
    clear h3 b3 B2 T2 Lz2 L2
    go_wp2_with fail
    refine (known9_any _ T3).mono ?_
    rintro e w4 ⟨rfl, b4⟩
    have B4 := B3.trans (b4.mono B3.size)
    clear b4 B3 T3
    go_wp2
    go_ret
    exact ⟨rfl, B4⟩
  · replace e1 : (a : Int) % 16 = 8 := e1
    have f2 : decide ((P : Int) < 8) = false := decide_eq_false (by omega)
    clear g2
    obtain ⟨b3, rfl⟩ := h3.no (HOP.out.trans (if_neg (by simp)))
    have B3 := B2.trans (b3.mono B2.size)
    have T3 := T2.below b3 T2.pos
    clear h3 b3 B2 T2 Lz2 L2
    go_wp2_with fail
    refine (known9_any _ T3).mono ?_
    rintro e w4 ⟨rfl, b4⟩
    have B4 := B3.trans (b4.mono B3.size)
    clear b4 B3 T3
    go_wp2
    go_ret
    exact ⟨rfl, B4⟩
  · replace e1 : (a : Int) % 16 = 8 := e1
    have f2 : decide ((P : Int) < 8) = true := decide_eq_true (by omega)
    have f3 : ((R : Int) == 0) = false := by rw [beq_eq_false_iff_ne]; omega
    clear g2
    obtain ⟨b3, rfl⟩ := h3.no (HOP.out.trans (if_neg (by simp)))
    have B3 := B2.trans (b3.mono B2.size)
    have T3 := T2.below b3 T2.pos
    clear h3 b3 B2 T2 Lz2 L2
    go_wp2_with fail
    refine (known9_any _ T3).mono ?_
    rintro e w4 ⟨rfl, b4⟩
    have B4 := B3.trans (b4.mono B3.size)
    clear b4 B3 T3
    go_wp2
    go_ret
    exact ⟨rfl, B4⟩
  · replace e1 : (a : Int) % 16 = 8 := e1
    replace e4 : (Q : Int) % 31 = 0 := e4
    replace e6 : (F : Int) % 2 = 1 := e6
    have f2 : decide ((P : Int) < 8) = true := decide_eq_true (by omega)
    clear g2
    obtain ⟨b3, rfl⟩ := h3.no (HOP.out.trans (if_neg (by simp)))
    have B3 := B2.trans (b3.mono B2.size)
    have T3 := T2.below b3 T2.pos
    clear h3 b3 B2 T2 Lz2 L2
    go_wp2_with fail
    refine (known9_any _ T3).mono ?_
    rintro e w4 ⟨rfl, b4⟩
    have B4 := B3.trans (b4.mono B3.size)
    clear b4 B3 T3
    go_wp2
    go_ret
    exact ⟨rfl, B4⟩
end Go.Proofs.YtahibacjaoohiaaDoor
