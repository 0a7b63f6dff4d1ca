/-
  The reference's symbol as a contract.
-/
import Derived.Test.YtahibacjaoohiaaDoorRSym
namespace Go.Proofs.YtahibacjaoohiaaDoor
open Go.RowKit

set_option maxRecDepth 100000 in
set_option maxHeartbeats 3200000 in
theorem rsymbol_any (B s sb : Nat) (a : Option Addr) (len cap : Nat) (z : Nat → Nat) (mo : Int) (v : Value) (p : Nat) (out : List Int) (rc gc gl capl N : Nat) (L : Nat → Nat) (w : World) (h : RFl w B s sb a len cap z mo 0 v p out) (hC : RCode w rc gc gl capl N L) (n1 : ¬ Mine s sb v rc) (n2 : ¬ Mine s sb v gc) (n3 : ¬ Mine s sb v gl) :
    Calls Tryd.prog 52 #[.pointer (some ⟨s, 0, none⟩), .pointer (some ⟨rc, 0, none⟩)] w (RSymR (symE L N z (8 * len) p) B s sb a len cap z mo v out w) := by
  have hf := hC.few
  have hlc := hC.lcap
  have HE : Hid (∀ i, i < N → L i ≤ 15) := hC.each
  have HO : Hid (okc L N = true) := hC.ok
  have hls := hC.ls
  obtain ⟨R, hR⟩ : ∃ R, Hid (symE L N z (8 * len) p = R) := ⟨_, rfl⟩
  rw [hR.out]
  go_enter Tryd.func52, Tryd.ntmps52
  go_wp2_with fail
  go_loopw [7, 8] (fun m j wq => ∃ (i : Nat) (bb : Bool), i ≤ N ∧ m = .bool bb ∧ Hid (bb = decide (0 < some' L i)) ∧ j = .int .i64 (i : Nat) ∧ wq = w) (fun _ j _ => N - (intOf j).toNat)
  case atStart => exact ⟨0, false, by omega, rfl, by show _ = _; simp [some'], rfl, rfl⟩
  case round =>
    obtain ⟨i, bb, hi, rfl, hbb, rfl, rfl⟩ := hrel
    by_cases hiN : i < N
    · have hiN' : (i : Int) < (N : Int) := by omega
      have e1 := hC.l i hiN
      cases bb
      · by_cases h0 : 0 < L i
        · have h0' : (0 : Int) < ((L i : Nat) : Int) := by omega
          have HB : Hid (true = decide (0 < some' L (i + 1))) := by show _ = _; rw [some_pos, ← hbb.out, decide_eq_true h0]; rfl
          have H0 : Hid (0 < L i) := h0
          clear h0
          go_wp2
          exact ⟨⟨i + 1, true, by omega, congrArg Value.bool (decide_eq_true H0.out), HB, by go_num, by trivial⟩, by simp [intOf]; omega⟩
        · have h0' : ¬ (0 : Int) < ((L i : Nat) : Int) := by omega
          have HB : Hid (false = decide (0 < some' L (i + 1))) := by show _ = _; rw [some_pos, ← hbb.out, decide_eq_false h0]; rfl
          have H0 : Hid (¬ 0 < L i) := h0
          clear h0
          go_wp2
          exact ⟨⟨i + 1, false, by omega, congrArg Value.bool (decide_eq_false H0.out), HB, by go_num, by trivial⟩, by simp [intOf]; omega⟩
      · have HB : Hid (true = decide (0 < some' L (i + 1))) := by show _ = _; rw [some_pos, ← hbb.out]; rfl
        go_wp2
        exact ⟨⟨i + 1, true, by omega, by trivial, HB, by go_num, by trivial⟩, by simp [intOf]; omega⟩
    · have hiN' : ¬ (i : Int) < (N : Int) := by omega
      have ei : i = N := by omega
      have HBN : Hid (bb = decide (0 < some' L N)) := by show _ = _; rw [← ei]; exact hbb.out
      clear hbb ei
      cases bb
      · have HF : Hid (R = .error 2) := by
          show _ = _
          have h0 : ¬ 0 < some' L N := of_decide_eq_false HBN.out.symm
          rw [← hR.out]; unfold symE; rw [if_pos (by omega)]
        go_wp2_with fail
        refine (fails_new B s sb a len cap z mo v p out 2 _ h).mono ?_
        rintro e w4 ⟨rfl, h4, M4⟩
        go_wp2
        go_ret
        exact ⟨_, _, _, h4, M4, rfl, .inr ⟨rfl, by omega, HF⟩⟩
      · have HN : Hid (symN L N z (8 * len) R 0 0 p) := by
          show symN _ _ _ _ _ _ _ _
          rw [← hR.out]
          exact symN_start HO.out (of_decide_eq_true HBN.out.symm)
        go_wp2_with fail
        clear hiN hiN' hi
        obtain ⟨wz, hwz⟩ : ∃ wz, wz = wr := ⟨_, rfl⟩
        subst hwz
        go_loopw [5, 6] (fun x y wq => ∃ (n c p1 : Nat), x = .int .i64 (n : Nat) ∧ y = .int .i64 (c : Nat) ∧ RFl wq B s sb a len cap z mo 0 v p1 out ∧ Moves s sb v v wz wq ∧ Hid (symN L N z (8 * len) R n c p1)) (fun x _ _ => 15 - (intOf x).toNat)
        case atStart => exact ⟨0, 0, p, rfl, rfl, h, Moves.refl _ _ _ _, HN⟩
        case round =>
          clear HN
          obtain ⟨n, c, p1, rfl, rfl, hS, hM, HN⟩ := hrel
          have hn15 : n < 15 := symN_lt HE.out HN.out
          have hn15' : (n : Int) < 15 := by omega
          have hc : c < 2 ^ n := HN.out.2.1
          have hc15 : c < 32768 := Nat.lt_of_lt_of_le hc (Nat.le_trans (Nat.pow_le_pow_right (by omega) (by omega : n ≤ 15)) (by decide : 2 ^ 15 ≤ 32768))
          clear hc
          have s0 : wr.cell? ⟨s, 0, none⟩ = some (.pointer (some ⟨sb, 0, none⟩)) := blk_cell hS.obj 0
          by_cases hp : p1 < 8 * len
          · go_wp2_with fail
            refine (rtake_yes sb a len cap z p1 _ hS.bits hp).mono ?_
            rintro e w1 ⟨rfl, hB1, hK1⟩
            have hS1 := hS.taken hB1 hK1
            have hM1 : Moves s sb v v wz w1 := hM.trans (Moves.of_bits hK1)
            have hC1 := hC.kept hM1.kept n1 n2 n3
            clear hS hM hB1 hK1 s0
            have hbit := bit_lt z p1
            have hcs1 := hC1.cs
            have hls1 := hC1.ls
            have hci : (c : Int) * 2 = 2 * (c : Int) := by omega
            have HP : Hid (p1 < 8 * len) := hp
            clear hp
            go_wp2_with fail
            obtain ⟨wy, hwy⟩ : ∃ wy, wy = wr := ⟨_, rfl⟩
            subst hwy
            go_loopw [11, 12] (fun an j wq => ∃ (t : Nat) (bb : Bool), t ≤ N ∧ Hid (∀ s, s < t → ¬ (L s = n + 1 ∧ codev L N s = 2 * c + bit z p1)) ∧ an = .bool bb ∧ Hid (bb = longer L (n + 1) t) ∧ j = .int .i64 (t : Nat) ∧ wq = w1) (fun _ j _ => N - (intOf j).toNat)
            case atStart => exact ⟨0, false, by omega, fun s hs => by omega, rfl, rfl, rfl, rfl⟩
            case round =>
              obtain ⟨t, bb, ht, hno, rfl, hbb, rfl, rfl⟩ := hrel
              by_cases htN : t < N
              · have htN' : (t : Int) < (N : Int) := by omega
                have e1 := hC1.l t htN
                have e2 := hC1.c t htN
                by_cases hm : L t = n + 1 ∧ codev L N t = 2 * c + bit z p1
                · obtain ⟨hm1, hm2⟩ := hm
                  have HF : Hid (R = .ok (t, p1 + 1)) := symN_hit HE.out HO.out HN.out HP.out htN hm1 hm2
                  rw [hm1] at e1
                  rw [hm2] at e2
                  clear hm1 hm2
                  go_wp2
                  go_ret
                  exact ⟨p1 + 1, 0, _, hS1, hM1, rfl, .inl ⟨rfl, t, rfl, HF⟩⟩
                · have HS : Hid (∀ s, s < t + 1 → ¬ (L s = n + 1 ∧ codev L N s = 2 * c + bit z p1)) := fun s hs => by
                    by_cases e : s = t
                    · subst e; exact hm
                    · exact hno.out s (by omega)
                  by_cases hl : L t = n + 1
                  · have hne : ¬ ((codev L N t : Nat) : Int) = 2 * (c : Int) + (bit z p1 : Nat) := fun e => hm ⟨hl, by omega⟩
                    have HB : Hid (bb = longer L (n + 1) (t + 1)) := by show _ = _; simp only [longer, ← hbb.out, hl]; simp
                    rw [hl] at e1
                    clear hm hl
                    cases bb
                    · go_wp2
                      exact ⟨⟨t + 1, false, by omega, HS, by trivial, HB, by go_num, by trivial⟩, by simp [intOf]; omega⟩
                    · go_wp2
                      exact ⟨⟨t + 1, true, by omega, HS, by trivial, HB, by go_num, by trivial⟩, by simp [intOf]; omega⟩
                  · have hne : ¬ ((L t : Nat) : Int) = (n : Int) + 1 := by omega
                    have hne2 : ¬ ((L t : Nat) : Int) = ((n + 1 : Nat) : Int) := by omega
                    by_cases hg : n + 1 < L t
                    · have hg' : (n : Int) + 1 < ((L t : Nat) : Int) := by omega
                      have HB : Hid (true = longer L (n + 1) (t + 1)) := by show _ = _; simp only [longer, decide_eq_true hg]; simp
                      clear hm hl hg
                      cases bb
                      · go_wp2
                        exact ⟨⟨t + 1, true, by omega, HS, by trivial, HB, by go_num, by trivial⟩, by simp [intOf]; omega⟩
                      · go_wp2
                        exact ⟨⟨t + 1, true, by omega, HS, by trivial, HB, by go_num, by trivial⟩, by simp [intOf]; omega⟩
                    · have hg' : ¬ (n : Int) + 1 < ((L t : Nat) : Int) := by omega
                      have HB : Hid (bb = longer L (n + 1) (t + 1)) := by show _ = _; simp only [longer, ← hbb.out, decide_eq_false hg]; simp
                      clear hm hl hg
                      cases bb
                      · go_wp2
                        exact ⟨⟨t + 1, false, by omega, HS, by trivial, HB, by go_num, by trivial⟩, by simp [intOf]; omega⟩
                      · go_wp2
                        exact ⟨⟨t + 1, true, by omega, HS, by trivial, HB, by go_num, by trivial⟩, by simp [intOf]; omega⟩
              · have htN' : ¬ (t : Int) < (N : Int) := by omega
                have et : t = N := by omega
                have HX := symN_none HE.out HO.out HN.out HP.out (fun s hs => hno.out s (by omega))
                have HBB : Hid (bb = longer L (n + 1) N) := by show _ = _; rw [← et]; exact hbb.out
                clear hno hbb et
                cases bb
                · have HF : Hid (R = .error 2) := by
                    rcases HX with hx | hx
                    · exact hx.2
                    · exfalso; have := HBB.out; rw [hx.1] at this; cases this
                  clear HX
                  go_wp2_with fail
                  refine (fails_new B s sb a len cap z mo v (p1 + 1) out 2 _ hS1).mono ?_
                  rintro e w4 ⟨rfl, h4, M4⟩
                  go_wp2
                  go_ret
                  exact ⟨_, _, _, h4, hM1.trans M4, rfl, .inr ⟨rfl, by omega, HF⟩⟩
                · have HF : Hid (symN L N z (8 * len) R (n + 1) (2 * c + bit z p1) (p1 + 1)) := by
                    rcases HX with hx | hx
                    · exfalso; have := HBB.out; rw [hx.1] at this; cases this
                    · exact hx.2
                  clear HX
                  go_wp2
                  exact ⟨⟨n + 1, 2 * c + bit z p1, p1 + 1, by go_num, by go_num, hS1, hM1, HF⟩, by simp [intOf]; omega⟩
          · have HF : Hid (R = .error 3) := symN_end HE.out HN.out hp
            go_wp2_with fail
            refine (rtake_no sb a len cap z p1 _ hS.bits hp).mono ?_
            rintro e w1 ⟨rfl, hB1, hK1⟩
            have hS1 := hS.taken hB1 hK1
            have hM1 : Moves s sb v v wz w1 := hM.trans (Moves.of_bits hK1)
            clear hp
            go_wp2_with fail
            refine (fails_new B s sb a len cap z mo v p1 out 3 _ hS1).mono ?_
            rintro e w4 ⟨rfl, h4, M4⟩
            go_wp2
            go_ret
            exact ⟨_, _, _, h4, hM1.trans M4, rfl, .inr ⟨rfl, by omega, HF⟩⟩
end Go.Proofs.YtahibacjaoohiaaDoor
