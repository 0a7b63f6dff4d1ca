/-
  The laws' pen: code and lit as contracts; more and far.
-/
import Derived.Test.YtahibacjaoohiaaDoorPen
import Derived.Test.YtahibacjaoohiaaDoorPair
namespace Go.Proofs.YtahibacjaoohiaaDoor
open Go.RowKit

set_option maxRecDepth 100000 in
set_option maxHeartbeats 1600000 in
theorem pencode_any (base pb : Nat) (u : Value) (bs : List Int) (at' x n : Nat) (hx : x < 1048576) (hn : n ≤ 20) (hs : at' + n ≤ 1000000) (w : World) (h : PenAt w base pb u bs at') (hb : base ≤ w.heap.size) :
    Calls Tryd.prog 26 #[.pointer (some ⟨pb, 0, none⟩), .int .i64 (x : Nat), .int .i64 (n : Nat)] w (PenR base pb u bs at' n (fun k => x / 2 ^ (n - 1 - k) % 2) w) := by
  go_enter Tryd.func26, Tryd.ntmps26
  go_wp2_with fail
  go_loopw [6] (fun j wq => ∃ (d : Nat) (u1 : Value) (bs1 : List Int), d ≤ n ∧ j = .int .i64 ((n : Int) - 1 - (d : Int)) ∧ PenAt wq base pb u1 bs1 (at' + d) ∧ PenM pb u u1 w wq ∧ Hid (∀ p, p < at' → bit (zb bs1) p = bit (zb bs) p) ∧ Hid (∀ e, e < d → bit (zb bs1) (at' + e) = x / 2 ^ (n - 1 - e) % 2)) (fun j _ => (intOf j + 1).toNat)
  case atStart => exact ⟨0, u, bs, by omega, by simp, h, PenM.refl _ _ _, fun _ _ => rfl, fun e he => by omega⟩
  case round =>
    clear h
    obtain ⟨d, u1, bs1, hd, rfl, hP, hM, hold, hnew⟩ := hrel
    by_cases hdn : d < n
    · obtain ⟨kk, hkk⟩ : ∃ kk : Nat, kk = n - 1 - d := ⟨_, rfl⟩
      have ekk : (n : Int) - 1 - (d : Int) = (kk : Int) := by omega
      have hk20 : kk ≤ 20 := by omega
      have hbv := bit_val x kk hx
      have hwz := hM.kept.size
      rw [ekk]
      obtain ⟨t, ht⟩ : ∃ t, Hid (x / 2 ^ kk % 2 = t) := ⟨_, rfl⟩
      rw [ht.out] at hbv
      have ht2 : t < 2 := by rw [← ht.out]; exact Nat.mod_lt _ (by omega)
      have HKK : Hid (kk = n - 1 - d) := hkk
      clear hkk ekk
      go_wp2_with fail
      refine (penbits_any base pb u1 bs1 (at' + d) t 1 (by omega) (by omega) (by omega) _ hP (by omega)).mono ?_
      rintro e w1 ⟨rfl, u2, bs2, hP2, hM2, ho2, hn2⟩
      have HP2 : Hid (PenAt w1 base pb u2 bs2 (at' + (d + 1))) := hP2
      clear hP2 hP hbv
      go_wp2
      refine ⟨⟨d + 1, u2, bs2, by omega, ?_, HP2.out, hM.trans hM2, fun p hp => by rw [ho2.out p (by omega), hold.out p hp], fun e he => ?_⟩, by simp [intOf]⟩
      · have := HKK.out
        congr 1
        omega
      · by_cases h : e = d
        · subst h
          have := hn2.out 0 (by omega)
          simp only [Nat.add_zero, Nat.pow_zero, Nat.div_one] at this
          rw [this, ← HKK.out, ht.out]; omega
        · rw [ho2.out _ (by omega)]; exact hnew.out e (by omega)
    · have hdn' : d = n := by omega
      subst hdn'
      have e1 : (d : Int) - 1 - (d : Int) = -1 := by omega
      rw [e1]
      go_wp2
      go_end0
      exact ⟨rfl, u1, bs1, hP, hM, hold, hnew⟩

theorem fixcode (s : Nat) (h : s < 288) : codev fixL 288 s = if s < 144 then 48 + s else if s < 256 then 400 + (s - 144) else if s < 280 then s - 256 else 192 + (s - 280) := by
  have : ∀ s : Fin 288, codev fixL 288 s.val = if s.val < 144 then 48 + s.val else if s.val < 256 then 400 + (s.val - 144) else if s.val < 280 then s.val - 256 else 192 + (s.val - 280) := by decide +kernel
  exact this ⟨s, h⟩

set_option maxRecDepth 100000 in
set_option maxHeartbeats 800000 in
theorem penlit_any (base pb : Nat) (u : Value) (bs : List Int) (at' s : Nat) (hs288 : s < 288) (hs : at' + 20 ≤ 1000000) (w : World) (h : PenAt w base pb u bs at') (hb : base ≤ w.heap.size) :
    Calls Tryd.prog 24 #[.pointer (some ⟨pb, 0, none⟩), .int .i64 (s : Nat)] w (PenR base pb u bs at' (fixL s) (fun k => codev fixL 288 s / 2 ^ (fixL s - 1 - k) % 2) w) := by
  have hc := fixcode s hs288
  by_cases h1 : s < 144
  · have e1 : fixL s = 8 := by unfold fixL; rw [if_pos h1]
    rw [if_pos h1] at hc
    rw [e1, hc]
    have h1' : (s : Int) < 144 := by omega
    have a1 : (48 : Int) + s = ((48 + s : Nat) : Int) := by omega
    obtain ⟨X, hX⟩ : ∃ X, 48 + s = X := ⟨_, rfl⟩
    rw [hX] at a1 ⊢
    clear hc e1
    go_enter Tryd.func24, Tryd.ntmps24
    go_wp2_with fail
    refine (pencode_any base pb u bs at' X 8 (by omega) (by omega) (by omega) _ h hb).mono ?_
    rintro e w1 ⟨rfl, hR⟩
    have HR : Hid (_) := hR
    clear hR
    go_wp2
    go_end0
    exact ⟨rfl, HR.out⟩
  · rw [if_neg h1] at hc
    have h1' : ¬ (s : Int) < 144 := by omega
    by_cases h2 : s < 256
    · have e1 : fixL s = 9 := by unfold fixL; rw [if_neg h1, if_pos h2]
      rw [if_pos h2] at hc
      rw [e1, hc]
      have h2' : (s : Int) < 256 := by omega
      obtain ⟨X, hX⟩ : ∃ X, 400 + (s - 144) = X := ⟨_, rfl⟩
      have a1 : (400 : Int) + s - 144 = (X : Nat) := by omega
      rw [hX]
      have hXl : X < 1000 := by omega
      clear hc e1 hX
      go_enter Tryd.func24, Tryd.ntmps24
      go_wp2_with fail
      refine (pencode_any base pb u bs at' X 9 (by omega) (by omega) (by omega) _ h hb).mono ?_
      rintro e w1 ⟨rfl, hR⟩
      have HR : Hid (_) := hR
      clear hR
      go_wp2
      go_end0
      exact ⟨rfl, HR.out⟩
    · rw [if_neg h2] at hc
      have h2' : ¬ (s : Int) < 256 := by omega
      by_cases h3 : s < 280
      · have e1 : fixL s = 7 := by unfold fixL; rw [if_neg h1, if_neg h2, if_pos h3]
        rw [if_pos h3] at hc
        rw [e1, hc]
        have h3' : (s : Int) < 280 := by omega
        obtain ⟨X, hX⟩ : ∃ X, s - 256 = X := ⟨_, rfl⟩
        have a1 : (s : Int) - 256 = (X : Nat) := by omega
        rw [hX]
        have hXl : X < 1000 := by omega
        clear hc e1 hX
        go_enter Tryd.func24, Tryd.ntmps24
        go_wp2_with fail
        refine (pencode_any base pb u bs at' X 7 (by omega) (by omega) (by omega) _ h hb).mono ?_
        rintro e w1 ⟨rfl, hR⟩
        have HR : Hid (_) := hR
        clear hR
        go_wp2
        go_end0
        exact ⟨rfl, HR.out⟩
      · have e1 : fixL s = 8 := by unfold fixL; rw [if_neg h1, if_neg h2, if_neg h3, if_pos hs288]
        rw [if_neg h3] at hc
        rw [e1, hc]
        have h3' : ¬ (s : Int) < 280 := by omega
        obtain ⟨X, hX⟩ : ∃ X, 192 + (s - 280) = X := ⟨_, rfl⟩
        have a1 : (192 : Int) + s - 280 = (X : Nat) := by omega
        rw [hX]
        have hXl : X < 1000 := by omega
        clear hc e1 hX
        go_enter Tryd.func24, Tryd.ntmps24
        go_wp2_with fail
        refine (pencode_any base pb u bs at' X 8 (by omega) (by omega) (by omega) _ h hb).mono ?_
        rintro e w1 ⟨rfl, hR⟩
        have HR : Hid (_) := hR
        clear hR
        go_wp2
        go_end0
        exact ⟨rfl, HR.out⟩

/-- Bits behind a length's symbol, and behind a distance's. -/
def morev (s : Nat) : Nat := (s - 257) / 4 - 1
def farv (d : Nat) : Nat := d / 2 - 1
theorem more_any (s : Nat) (h : 257 ≤ s) (h2 : s < 320) (w : World) : Calls Tryd.prog 23 #[.int .i64 (s : Nat)] w fun e w' => e = .returned (.int .i64 (morev s : Nat)) ∧ w' = w := by
  obtain ⟨q, hq⟩ : ∃ q : Nat, Hid ((s - 257) / 4 = q) := ⟨_, rfl⟩
  have e1 : ((s : Int) - 257) / 4 = (q : Nat) := by have := hq.out; omega
  by_cases h1 : 1 ≤ q
  · obtain ⟨r, hr⟩ : ∃ r : Nat, Hid (q - 1 = r) := ⟨_, rfl⟩
    have e2 : (q : Int) - 1 = (r : Nat) := by have := hr.out; omega
    by_cases h0 : 0 < r
    · have h0' : (0 : Int) < (r : Nat) := by omega
      go_enter Tryd.func23, Tryd.ntmps23
      go_wp2
      go_ret
      exact ⟨ret_int (by unfold morev; rw [hq.out, hr.out]), rfl⟩
    · obtain rfl : r = 0 := by omega
      have e3 : (q : Int) - 1 = 0 := by omega
      clear e2
      go_enter Tryd.func23, Tryd.ntmps23
      go_wp2
      go_ret
      exact ⟨ret_int (by unfold morev; rw [hq.out, hr.out]; rfl), rfl⟩
  · obtain rfl : q = 0 := by omega
    have e3 : ((s : Int) - 257) / 4 = 0 := by omega
    clear e1
    go_enter Tryd.func23, Tryd.ntmps23
    go_wp2
    go_ret
    exact ⟨ret_int (by unfold morev; rw [hq.out]; rfl), rfl⟩
theorem far_any (s : Nat) (h2 : s < 320) (w : World) : Calls Tryd.prog 25 #[.int .i64 (s : Nat)] w fun e w' => e = .returned (.int .i64 (farv s : Nat)) ∧ w' = w := by
  obtain ⟨q, hq⟩ : ∃ q : Nat, Hid (s / 2 = q) := ⟨_, rfl⟩
  have e1 : (s : Int) / 2 = (q : Nat) := by have := hq.out; omega
  by_cases h1 : 1 ≤ q
  · obtain ⟨r, hr⟩ : ∃ r : Nat, Hid (q - 1 = r) := ⟨_, rfl⟩
    have e2 : (q : Int) - 1 = (r : Nat) := by have := hr.out; omega
    by_cases h0 : 0 < r
    · have h0' : (0 : Int) < (r : Nat) := by omega
      go_enter Tryd.func25, Tryd.ntmps25
      go_wp2
      go_ret
      exact ⟨ret_int (by unfold farv; rw [hq.out, hr.out]), rfl⟩
    · obtain rfl : r = 0 := by omega
      have e3 : (q : Int) - 1 = 0 := by omega
      clear e2
      go_enter Tryd.func25, Tryd.ntmps25
      go_wp2
      go_ret
      exact ⟨ret_int (by unfold farv; rw [hq.out, hr.out]; rfl), rfl⟩
  · obtain rfl : q = 0 := by omega
    have e3 : (s : Int) / 2 = 0 := by omega
    clear e1
    go_enter Tryd.func25, Tryd.ntmps25
    go_wp2
    go_ret
    exact ⟨ret_int (by unfold farv; rw [hq.out]; rfl), rfl⟩
end Go.Proofs.YtahibacjaoohiaaDoor
