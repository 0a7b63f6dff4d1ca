/-
  flate's stored as a contract.
-/
import Derived.Test.YtahibacjaoohiaaDoorCoded
namespace Go.Proofs.YtahibacjaoohiaaDoor
open Go.RowKit

theorem xor_nat (a c : Nat) (ha : a < 65536) (hc : c < 65536) : bits .xor .i64 (a : Int) (c : Int) = ((a ^^^ c : Nat) : Int) := by
  show IntKind.i64.wrap ((BitVec.ofInt 64 (a : Int) ^^^ BitVec.ofInt 64 (c : Int)).toNat : Int) = _
  have h1 : (BitVec.ofInt 64 (a : Int)).toNat = a := by rw [BitVec.toNat_ofInt]; omega
  have h2 : (BitVec.ofInt 64 (c : Int)).toNat = c := by rw [BitVec.toNat_ofInt]; omega
  have h3 : a ^^^ c < 2 ^ 16 := Nat.xor_lt_two_pow (by omega) (by omega)
  rw [BitVec.toNat_xor, h1, h2, IntKind.wrap_i64]
  omega
theorem not16 (a : Nat) (ha : a < 65536) : a ^^^ 65535 = 65535 - a := by
  have h1 : (BitVec.ofNat 16 a ^^^ BitVec.allOnes 16).toNat = (~~~ (BitVec.ofNat 16 a)).toNat := by rw [BitVec.xor_allOnes]
  rw [BitVec.toNat_xor, BitVec.toNat_not, BitVec.toNat_ofNat, BitVec.toNat_allOnes, Nat.mod_eq_of_lt (by omega)] at h1
  simpa using h1
theorem xor_full (a c : Nat) (ha : a < 65536) : a ^^^ c = 65535 ↔ a + c = 65535 := by
  have h := not16 a ha
  constructor
  · intro e
    have : c = a ^^^ 65535 := by rw [← e, ← Nat.xor_assoc, Nat.xor_self, Nat.zero_xor]
    omega
  · intro e
    have : c = a ^^^ 65535 := by omega
    rw [this, ← Nat.xor_assoc, Nat.xor_self, Nat.zero_xor]
theorem xor_yes (a c : Nat) (ha : a < 65536) (hc : c < 65536) (h : a + c = 65535) : bits .xor .i64 (a : Int) (c : Int) = 65535 := by
  rw [xor_nat a c ha hc, (xor_full a c ha).2 h]; rfl
theorem xor_no (a c : Nat) (ha : a < 65536) (hc : c < 65536) (h : ¬ a + c = 65535) : ¬ bits .xor .i64 (a : Int) (c : Int) = 65535 := by
  rw [xor_nat a c ha hc]
  intro e
  exact h ((xor_full a c ha).1 (by omega))
theorem st8E_short {z : Nat → Nat} {lim most n p : Nat} {out : List Int} (hn : 0 < n) (h : ¬ p + 8 ≤ lim) : st8E z lim most n p out = .error 3 := by
  obtain ⟨m, rfl⟩ : ∃ m, n = m + 1 := ⟨n - 1, by omega⟩
  unfold st8E; rw [if_neg h]
theorem st8E_full {z : Nat → Nat} {lim most n p : Nat} {out : List Int} (hn : 0 < n) (h : p + 8 ≤ lim) (hf : most ≤ out.length) : st8E z lim most n p out = .error 4 := by
  obtain ⟨m, rfl⟩ : ∃ m, n = m + 1 := ⟨n - 1, by omega⟩
  unfold st8E; rw [if_pos h, if_pos hf]
theorem st8E_step {z : Nat → Nat} {lim most n p : Nat} {out : List Int} (hn : 0 < n) (h : p + 8 ≤ lim) (hf : ¬ most ≤ out.length) : st8E z lim most n p out = st8E z lim most (n - 1) (p + 8) (out ++ [((takev z p 8 : Nat) : Int)]) := by
  obtain ⟨m, rfl⟩ : ∃ m, n = m + 1 := ⟨n - 1, by omega⟩
  conv => lhs; unfold st8E
  rw [if_pos h, if_neg hf]; rfl

set_option maxRecDepth 100000 in
set_option maxHeartbeats 1600000 in
theorem stored_any (B s b g len : Nat) (z : Nat → Nat) (most : Nat) (v : Value) (x : Six) (p : Nat) (out : List Int) (w : World) (h : Strm w B s b g len z most v x p out) :
    Calls Tryd.prog 44 #[.pointer (some ⟨s, 0, none⟩)] w (TellsO B s b g len z most v x (storedE z (8 * len) most p out) w) := by
  have c0 : w.cell? ⟨s, 0, none⟩ = some (.pointer (some ⟨b, 0, none⟩)) := blk_cell h.obj 0
  have hreach := h.bits.reach
  obtain ⟨P, hP⟩ : ∃ P, Hid (up8 p = P) := ⟨_, rfl⟩
  have HE : Hid (storedE z (8 * len) most p out = if P + 32 ≤ 8 * len then (if takev z P 16 + takev z (P + 16) 16 = 65535 then st8E z (8 * len) most (takev z P 16) (P + 32) out else .error 2) else .error 3) := by
    show _ = _; unfold storedE; rw [hP.out]
  go_enter Tryd.func44, Tryd.ntmps44
  go_wp2_with fail
  refine (align_any b g len z p _ h.bits).mono ?_
  rintro e w1 ⟨rfl, hB, hK⟩
  have S1 : Strm w1 B s b g len z most v x P out := by rw [← hP.out]; exact h.taken hB hK
  have M1 : Moves s b v v w w1 := Moves.of_bits hK
  clear h hB hK c0
  by_cases h1 : P + 16 ≤ 8 * len
  · go_wp2_with fail
    refine (take_yes B s b g len z most v x P out 16 (by omega) _ S1 h1).mono ?_
    rintro e w2 ⟨rfl, S2, M2⟩
    have t1 := takev_lt z P 16
    by_cases h2 : P + 32 ≤ 8 * len
    · go_wp2_with fail
      refine (take_yes B s b g len z most v x (P + 16) out 16 (by omega) _ S2 (by omega)).mono ?_
      rintro e w3 ⟨rfl, S3, M3⟩
      have t2 := takev_lt z (P + 16) 16
      have S3' : Strm w3 B s b g len z most v x (P + 32) out := S3
      have M4 := (M1.trans M2).trans M3
      obtain ⟨n, hn⟩ : ∃ n, Hid (takev z P 16 = n) := ⟨_, rfl⟩
      obtain ⟨c, hc⟩ : ∃ c, Hid (takev z (P + 16) 16 = c) := ⟨_, rfl⟩
      rw [hn.out] at t1 ⊢
      rw [hc.out] at t2 ⊢
      have HE2 : Hid (storedE z (8 * len) most p out = if n + c = 65535 then st8E z (8 * len) most n (P + 32) out else .error 2) := by
        show _ = _; rw [HE.out, if_pos h2, hn.out, hc.out]
      clear S1 S2 S3 M1 M2 M3 HE
      have t1' : n < 65536 := t1
      have t2' : c < 65536 := t2
      clear t1 t2
      by_cases hx : n + c = 65535
      · have hxx := xor_yes n c t1' t2' hx
        have HX : Hid (n + c = 65535) := hx
        clear hx
        go_wp2_with fail
        go_loopw [35] (fun j wq => ∃ (i : Nat) (v1 : Value) (u1 : List Int), i ≤ n ∧ j = .int .i64 i ∧ Strm wq B s b g len z most v1 x (P + 32 + 8 * i) u1 ∧ Moves s b v v1 w wq ∧ Hid (st8E z (8 * len) most (n - i) (P + 32 + 8 * i) u1 = st8E z (8 * len) most n (P + 32) out)) (fun j _ => n - (intOf j).toNat)
        case atStart => exact ⟨0, v, out, by omega, rfl, S3', M4, rfl⟩
        case round =>
          clear S3' M4
          obtain ⟨i, v1, u1, hi, rfl, hS, hM, hst⟩ := hrel
          by_cases hin : i < n
          · have hin' : (i : Int) < n := by omega
            by_cases h8 : P + 32 + 8 * i + 8 ≤ 8 * len
            · go_wp2_with fail
              refine (take_yes B s b g len z most v1 x (P + 32 + 8 * i) u1 8 (by omega) _ hS h8).mono ?_
              rintro e w4 ⟨rfl, S4, M4⟩
              have t3 : takev z (P + 32 + 8 * i) 8 < 256 := takev_lt z _ 8
              obtain ⟨y, hy⟩ : ∃ y, Hid (takev z (P + 32 + 8 * i) 8 = y) := ⟨_, rfl⟩
              rw [hy.out] at t3 ⊢
              have M5 := hM.trans M4
              clear hS hM M4
              by_cases hfull : most ≤ u1.length
              · go_wp2_with fail
                refine (put_no B s b g len z most v1 x (P + 32 + 8 * i + 8) u1 (y : Nat) _ S4 hfull).mono ?_
                rintro e w5 ⟨rfl, hM5⟩
                go_wp2
                go_ret
                exact .inl ⟨4, _, by show _ = _; rw [HE2.out, if_pos HX.out, ← hst.out, st8E_full (by omega) h8 hfull], by omega, rfl, M5.trans hM5⟩
              · go_wp2_with fail
                refine (put_yes B s b g len z most v1 x (P + 32 + 8 * i + 8) u1 (y : Nat) (by omega) (by omega) _ S4 hfull).mono ?_
                rintro e w5 ⟨rfl, v3, hS3, hM3⟩
                have HS3 : Hid (Strm w5 B s b g len z most v3 x (P + 32 + 8 * (i + 1)) (u1 ++ [(y : Int)])) := hS3
                clear hS3 S4
                go_wp2
                refine ⟨⟨i + 1, v3, u1 ++ [(y : Int)], by omega, by go_num, HS3.out, M5.trans hM3, ?_⟩, by simp [intOf]; omega⟩
                show _ = _
                rw [← hst.out, st8E_step (show 0 < n - i by omega) h8 hfull, hy.out, show n - (i + 1) = n - i - 1 by omega, show P + 32 + 8 * (i + 1) = P + 32 + 8 * i + 8 by omega]
            · go_wp2_with fail
              refine (take_no B s b g len z most v1 x (P + 32 + 8 * i) u1 8 (by omega) _ hS h8).mono ?_
              rintro e w4 ⟨rfl, M4⟩
              go_wp2
              go_ret
              exact .inl ⟨3, _, by show _ = _; rw [HE2.out, if_pos HX.out, ← hst.out, st8E_short (by omega) h8], by omega, rfl, hM.trans M4⟩
          · have hin' : ¬ (i : Int) < n := by omega
            obtain rfl : i = n := by omega
            go_wp2
            go_ret
            refine .inr ⟨v1, _, u1, ?_, rfl, hS, hM⟩
            show _ = _
            rw [HE2.out, if_pos HX.out, ← hst.out, Nat.sub_self]; rfl
      · have hxx := xor_no n c t1' t2' hx
        have HX : Hid (¬ n + c = 65535) := hx
        clear hx
        go_wp2
        go_ret
        exact .inl ⟨2, v, by show _ = _; rw [HE2.out, if_neg HX.out], by omega, rfl, M4⟩
    · go_wp2_with fail
      refine (take_no B s b g len z most v x (P + 16) out 16 (by omega) _ S2 (by omega)).mono ?_
      rintro e w3 ⟨rfl, M3⟩
      go_wp2
      go_ret
      exact .inl ⟨3, v, by show _ = _; rw [HE.out, if_neg h2], by omega, rfl, (M1.trans M2).trans M3⟩
  · go_wp2_with fail
    refine (take_no B s b g len z most v x P out 16 (by omega) _ S1 h1).mono ?_
    rintro e w2 ⟨rfl, M2⟩
    go_wp2
    go_ret
    exact .inl ⟨3, v, by show _ = _; rw [HE.out, if_neg (by omega)], by omega, rfl, M1.trans M2⟩
end Go.Proofs.YtahibacjaoohiaaDoor
