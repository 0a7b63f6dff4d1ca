/-
  The reference's stored blocks.
-/
import Derived.Test.YtahibacjaoohiaaDoorRPt
namespace Go.Proofs.YtahibacjaoohiaaDoor
open Go.RowKit

/-- What a call on the reference's stream tells, held against what is said of the bits. -/
def RTells (F : Except Nat St) (B s sb : Nat) (a : Option Addr) (len cap : Nat) (z : Nat → Nat) (mo : Int) (v : Value) (w : World) (e : Ending) (w' : World) : Prop :=
  ∃ (v' : Value) (p' : Nat) (out' : List Int) (E' : Nat), RFl w' B s sb a len cap z mo E' v' p' out' ∧ Moves s sb v v' w w' ∧ (Hid (F = .ok (p', out')) ∧ E' = 0 ∧ e = .returned (.bool true) ∨ Hid (F = .error E') ∧ 0 < E' ∧ e = .returned (.bool false))

theorem fails_new (B s sb : Nat) (a : Option Addr) (len cap : Nat) (z : Nat → Nat) (mo : Int) (v : Value) (p : Nat) (out : List Int) (e0 : Nat) (w : World) (h : RFl w B s sb a len cap z mo 0 v p out) :
    Calls Tryd.prog 35 #[.pointer (some ⟨s, 0, none⟩), .int .i64 (e0 : Nat)] w fun e w' => e = .returned (.bool false) ∧ RFl w' B s sb a len cap z mo e0 v p out ∧ Moves s sb v v w w' := by
  have := fails_any B s sb a len cap z mo 0 v p out e0 w h
  rwa [if_pos rfl] at this
theorem rput_new (B s sb : Nat) (a : Option Addr) (len cap : Nat) (z : Nat → Nat) (mo : Int) (most : Nat) (hm : (most : Int) = if mo < 0 then 0 else mo) (v : Value) (p : Nat) (out : List Int) (c : Int) (w : World) (h : RFl w B s sb a len cap z mo 0 v p out) (hp : most ≤ out.length) :
    Calls Tryd.prog 50 #[.pointer (some ⟨s, 0, none⟩), .int .u8 c] w fun e w' => e = .returned (.bool false) ∧ RFl w' B s sb a len cap z mo 4 v p out ∧ Moves s sb v v w w' := by
  have := rput_no B s sb a len cap z mo most hm 0 v p out c w h hp
  rwa [if_pos rfl] at this
theorem st8E_end {z : Nat → Nat} {lim most k p : Nat} {out : List Int} (hk : 0 < k) (hp : ¬ p + 8 ≤ lim) : st8E z lim most k p out = .error 3 := by
  obtain ⟨j, rfl⟩ : ∃ j, k = j + 1 := ⟨k - 1, by omega⟩
  unfold st8E; rw [if_neg hp]
theorem st8E_full {z : Nat → Nat} {lim most k p : Nat} {out : List Int} (hk : 0 < k) (hp : p + 8 ≤ lim) (hm : most ≤ out.length) : st8E z lim most k p out = .error 4 := by
  obtain ⟨j, rfl⟩ : ∃ j, k = j + 1 := ⟨k - 1, by omega⟩
  unfold st8E; rw [if_pos hp, if_pos hm]
theorem st8E_more {z : Nat → Nat} {lim most k p : Nat} {out : List Int} (hk : 0 < k) (hp : p + 8 ≤ lim) (hm : ¬ most ≤ out.length) : st8E z lim most k p out = st8E z lim most (k - 1) (p + 8) (out ++ [((takev z p 8 : Nat) : Int)]) := by
  obtain ⟨j, rfl⟩ : ∃ j, k = j + 1 := ⟨k - 1, by omega⟩
  conv => lhs; unfold st8E
  rw [if_pos hp, if_neg hm]
  rfl
set_option maxRecDepth 100000 in
set_option maxHeartbeats 3200000 in
theorem rstored_any (B s sb : Nat) (a : Option Addr) (len cap : Nat) (z : Nat → Nat) (mo : Int) (most : Nat) (hm : (most : Int) = if mo < 0 then 0 else mo) (hml : most ≤ 2000000) (v : Value) (p : Nat) (out : List Int) (w : World) (h : RFl w B s sb a len cap z mo 0 v p out) :
    Calls Tryd.prog 31 #[.pointer (some ⟨s, 0, none⟩)] w (RTells (storedE z (8 * len) most p out) B s sb a len cap z mo v w) := by
  have c0 : w.cell? ⟨s, 0, none⟩ = some (.pointer (some ⟨sb, 0, none⟩)) := blk_cell h.obj 0
  have HM : Hid ((most : Int) = if mo < 0 then 0 else mo) := hm
  clear hm
  go_enter Tryd.func31, Tryd.ntmps31
  go_wp2_with fail
  refine (ralign_any sb a len cap z p _ h.bits).mono ?_
  rintro e w1 ⟨rfl, hB, hK⟩
  have h1 := h.taken hB hK
  have M1 : Moves s sb v v w w1 := Moves.of_bits hK
  clear h hB hK c0
  obtain ⟨q, hq⟩ : ∃ q, Hid (up8 p = q) := ⟨_, rfl⟩
  rw [hq.out] at h1
  go_wp2_with fail
  refine (rftake_any B s sb a len cap z mo 0 v q out 16 (by omega) _ h1).mono ?_
  rintro e w2 ⟨n, q2, E2, rfl, h2, M2, hn⟩
  have M2' := M1.trans M2
  clear h1 M1 M2
  go_wp2_with fail
  refine (rftake_any B s sb a len cap z mo E2 v q2 out 16 (by omega) _ h2).mono ?_
  rintro e w3 ⟨m, q3, E3, rfl, h3, M3, hmm⟩
  have M3' := M2'.trans M3
  have c3 : w3.cell? ⟨s, 3, none⟩ = some (.int .i64 (E3 : Nat)) := blk_cell h3.obj 3
  clear h2 M2' M3
  by_cases hsh : q + 32 ≤ 8 * len
  · obtain ⟨_, rfl, rfl, rfl⟩ : q + 16 ≤ 8 * len ∧ n = takev z q 16 ∧ q2 = q + 16 ∧ E2 = 0 := by
      rcases hn with hn | hn
      · exact hn
      · omega
    obtain ⟨_, rfl, rfl, rfl⟩ : q + 16 + 16 ≤ 8 * len ∧ m = takev z (q + 16) 16 ∧ q3 = q + 16 + 16 ∧ E3 = 0 := by
      rcases hmm with hn | hn
      · exact hn
      · omega
    replace c3 : w3.cell? ⟨s, 3, none⟩ = some (.int .i64 0) := c3
    have l1 := takev_lt z q 16
    have l2 := takev_lt z (q + 16) 16
    obtain ⟨n, hne⟩ : ∃ n, Hid (takev z q 16 = n) := ⟨_, rfl⟩
    obtain ⟨m, hme⟩ : ∃ m, Hid (takev z (q + 16) 16 = m) := ⟨_, rfl⟩
    rw [hne.out] at l1 ⊢
    rw [hme.out] at l2 ⊢
    have HF : Hid (storedE z (8 * len) most p out = if n + m = 65535 then st8E z (8 * len) most n (q + 32) out else .error 2) := by
      show _ = _
      unfold storedE
      rw [hq.out, if_pos hsh, hne.out, hme.out]
    have l1' : n < 65536 := l1
    have l2' : m < 65536 := l2
    clear l1 l2 hn hmm
    by_cases hs : n + m = 65535
    · have hs' : (((n : Int) + (m : Int)) != 65535) = false := by rw [bne_eq_false_iff_eq]; omega
      have HL : Hid (storedE z (8 * len) most p out = st8E z (8 * len) most n (q + 16 + 16) out) := by show _ = _; rw [HF.out, if_pos hs]
      clear hs hsh HF
      go_wp2_with fail
      clear hs' l2'
      go_loopw [5] (fun si wq => ∃ (i : Nat) (v1 : Value) (q1 : Nat) (o : List Int), si = .int .i64 (i : Nat) ∧ i ≤ n ∧ RFl wq B s sb a len cap z mo 0 v1 q1 o ∧ Moves s sb v v1 w wq ∧ Hid (storedE z (8 * len) most p out = st8E z (8 * len) most (n - i) q1 o)) (fun si _ => n - (intOf si).toNat)
      case atStart => exact ⟨0, v, q + 16 + 16, out, rfl, by omega, h3, M3', HL⟩
      case round =>
        clear h3 M3' HL c3
        obtain ⟨i, v1, q1, o, rfl, hi, hR, hMv, HL⟩ := hrel
        by_cases hin : i < n
        · have hin' : (i : Int) < (n : Int) := by omega
          go_wp2_with fail
          refine (rftake_any B s sb a len cap z mo 0 v1 q1 o 8 (by omega) _ hR).mono ?_
          rintro e w5 ⟨b, q5, E5, rfl, h5, M5, hb⟩
          have M5' := hMv.trans M5
          have d3 : w5.cell? ⟨s, 3, none⟩ = some (.int .i64 (E5 : Nat)) := blk_cell h5.obj 3
          clear hR hMv M5
          by_cases hq8 : q1 + 8 ≤ 8 * len
          · obtain ⟨_, rfl, rfl, rfl⟩ : q1 + 8 ≤ 8 * len ∧ b = takev z q1 8 ∧ q5 = q1 + 8 ∧ E5 = 0 := by
              rcases hb with hb | hb
              · exact hb
              · omega
            replace d3 : w5.cell? ⟨s, 3, none⟩ = some (.int .i64 0) := d3
            have lb := takev_lt z q1 8
            obtain ⟨b, hbe⟩ : ∃ b, Hid (takev z q1 8 = b) := ⟨_, rfl⟩
            rw [hbe.out] at lb ⊢
            have lb' : b < 256 := lb
            clear lb hb
            have HQ : Hid (q1 + 8 ≤ 8 * len) := hq8
            by_cases hfull : most ≤ o.length
            · have HFu : Hid (most ≤ o.length) := hfull
              clear hfull hq8
              go_wp2_with fail
              refine (rput_new B s sb a len cap z mo most HM.out v1 (q1 + 8) o _ _ h5 HFu.out).mono ?_
              rintro e w6 ⟨rfl, h6, M6⟩
              go_wp2
              go_ret
              exact ⟨v1, _, _, 4, h6, M5'.trans M6, .inr ⟨by show _ = _; rw [HL.out, st8E_full (by omega) HQ.out HFu.out], by omega, rfl⟩⟩
            · have HFu : Hid (¬ most ≤ o.length) := hfull
              clear hfull hq8
              go_wp2_with fail
              refine (rput_yes B s sb a len cap z mo most HM.out hml 0 v1 (q1 + 8) o (b : Nat) (by omega) (by omega) _ h5 HFu.out).mono ?_
              rintro e w6 ⟨rfl, v6, h6, M6⟩
              have M6' := M5'.trans M6
              go_wp2
              refine ⟨⟨i + 1, v6, q1 + 8, o ++ [((b : Nat) : Int)], by go_num, by omega, h6, M6', ?_⟩, by simp [intOf]; omega⟩
              show _ = _
              rw [HL.out, st8E_more (by omega) HQ.out HFu.out, hbe.out, show n - (i + 1) = n - i - 1 by omega]
          · have hE5 : E5 = 3 := by
              rcases hb with hb | ⟨_, _, _, hb⟩
              · omega
              · rw [hb, if_pos rfl]
            subst hE5
            have HQ : Hid (¬ q1 + 8 ≤ 8 * len) := hq8
            clear hb hq8
            go_wp2
            go_ret
            exact ⟨v1, _, _, 3, h5, M5', .inr ⟨by show _ = _; rw [HL.out, st8E_end (by omega) HQ.out], by omega, rfl⟩⟩
        · have hin' : ¬ (i : Int) < (n : Int) := by omega
          go_wp2
          go_ret
          exact ⟨v1, q1, o, 0, hR, hMv, .inl ⟨by show _ = _; rw [HL.out, show n - i = 0 by omega]; rfl, rfl, rfl⟩⟩
    · have hs' : (((n : Int) + (m : Int)) == 65535) = false := by rw [beq_eq_false_iff_ne]; omega
      have HS : Hid (¬ n + m = 65535) := hs
      clear hs hsh
      go_wp2_with fail
      refine (fails_new B s sb a len cap z mo v (q + 16 + 16) out 2 _ h3).mono ?_
      rintro e w4 ⟨rfl, h4, M4⟩
      go_wp2
      go_ret
      exact ⟨v, _, _, _, h4, M3'.trans M4, .inr ⟨by show _ = _; rw [HF.out, if_neg HS.out], by omega, rfl⟩⟩
  · have hE3 : E3 = 3 := by
      rcases hn with ⟨k1, _, k3, k4⟩ | ⟨k1, _, k3, k4⟩ <;> rcases hmm with ⟨j1, _, j3, j4⟩ | ⟨j1, _, j3, j4⟩ <;> simp_all <;> omega
    have HF : Hid (storedE z (8 * len) most p out = .error 3) := by
      show _ = _
      unfold storedE
      rw [hq.out, if_neg hsh]
    subst hE3
    clear hn hmm hsh
    go_wp2
    go_ret
    exact ⟨v, _, _, 3, h3, M3', .inr ⟨HF, by omega, rfl⟩⟩
end Go.Proofs.YtahibacjaoohiaaDoor
