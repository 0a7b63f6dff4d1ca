/-
  What is stored is inflated the same: as plain functions. No Go text is walked here.
-/
import Derived.Test.YtahibacjaoohiaaDoorProg8
import Derived.Test.YtahibacjaoohiaaDoorSto
import Derived.Test.YtahibacjaoohiaaDoorStor
namespace Go.Proofs.YtahibacjaoohiaaDoor

/-- n bytes from q on. -/
def byt (y : Nat → Nat) (q n : Nat) : List Int := (List.range n).map fun i => ((y (q + i) : Nat) : Int)
theorem byt_len (y : Nat → Nat) (q n : Nat) : (byt y q n).length = n := by simp [byt]
theorem byt_succ (y : Nat → Nat) (q n : Nat) : byt y q (n + 1) = ((y q : Nat) : Int) :: byt y (q + 1) n := by
  unfold byt
  rw [List.range_succ_eq_map, List.map_cons, List.map_map]
  simp only [Nat.add_zero]
  congr 1
  refine List.map_congr_left fun i _ => ?_
  simp only [Function.comp]
  rw [show q + Nat.succ i = q + 1 + i by omega]
theorem byt_add (z : Nat → Nat) (off a b : Nat) : byt z off (a + b) = byt z off a ++ byt z (off + a) b := by
  unfold byt
  rw [List.range_add, List.map_append, List.map_map]
  congr 1
  refine List.map_congr_left fun i _ => ?_
  simp only [Function.comp]
  rw [Nat.add_assoc]
theorem st8_all (y : Nat → Nat) (hy : ∀ i, y i < 256) (LEN most : Nat) : ∀ n q out, q + n ≤ LEN → out.length + n ≤ most → st8E y (8 * LEN) most n (8 * q) out = .ok (8 * (q + n), out ++ byt y q n)
  | 0, q, out, _, _ => by simp [st8E, byt]
  | n + 1, q, out, h1, h2 => by
    rw [st8E_step (by omega) (by omega) (by omega), Nat.add_sub_cancel, show 8 * q + 8 = 8 * (q + 1) by omega, st8_all y hy LEN most n (q + 1) _ (by omega) (by simp; omega), takev_byte y q (hy q), byt_succ]
    simp [Nat.add_comm, Nat.add_left_comm]
theorem st8_full (y : Nat → Nat) (LEN most : Nat) : ∀ n q out, q + n ≤ LEN → most < out.length + n → out.length ≤ most → st8E y (8 * LEN) most n (8 * q) out = .error 4
  | 0, q, out, _, h2, h3 => by omega
  | n + 1, q, out, h1, h2, h3 => by
    by_cases hf : most ≤ out.length
    · exact st8E_full (by omega) (by omega) hf
    · rw [st8E_step (by omega) (by omega) hf, Nat.add_sub_cancel, show 8 * q + 8 = 8 * (q + 1) by omega]
      exact st8_full y LEN most n (q + 1) _ (by omega) (by simp; omega) (by simp; omega)
theorem st8_short (y : Nat → Nat) (LEN most : Nat) : ∀ n q out, LEN < q + n → q ≤ LEN → out.length + n ≤ most → st8E y (8 * LEN) most n (8 * q) out = .error 3
  | 0, q, out, h1, h0, _ => by omega
  | n + 1, q, out, h1, h0, h2 => by
    by_cases hq : q + 1 ≤ LEN
    · rw [st8E_step (by omega) (by omega) (by omega), Nat.add_sub_cancel, show 8 * q + 8 = 8 * (q + 1) by omega]
      exact st8_short y LEN most n (q + 1) _ (by omega) hq (by simp; omega)
    · exact st8E_short (by omega) (by omega)

/-- A stored block's head. -/
structure Head (y : Nat → Nat) (P n : Nat) (d : Bool) : Prop where
  h0 : y P = if d = true then 1 else 0
  h1 : y (P + 1) = n % 256
  h2 : y (P + 2) = n / 256
  h3 : y (P + 3) = 255 - n % 256
  h4 : y (P + 4) = 255 - n / 256
  small : n ≤ 65535
theorem take16 (y : Nat → Nat) (hy : ∀ i, y i < 256) (q : Nat) : takev y (8 * q) 16 = y q + 256 * y (q + 1) := by
  have h1 : takev y (8 * q) 16 = takev y (8 * q) 8 + 2 ^ 8 * takev y (8 * q + 8) 8 := takev_add y (8 * q) 8 8
  rw [h1, takev_byte y q (hy q), show 8 * q + 8 = 8 * (q + 1) by omega, takev_byte y (q + 1) (hy _)]
theorem Head.bits {y : Nat → Nat} {P n : Nat} {d : Bool} (h : Head y P n d) : bit y (8 * P) = (if d = true then 1 else 0) ∧ takev y (8 * P + 1) 2 = 0 := by
  have h0 := h.h0
  have e : ∀ k, k < 8 → bit y (8 * P + k) = y P / 2 ^ k % 2 := by
    intro k hk
    unfold bit
    rw [show (8 * P + k) / 8 = P by omega, show (8 * P + k) % 8 = k by omega]
  have e0 := e 0 (by omega)
  have e1 := e 1 (by omega)
  have e2 := e 2 (by omega)
  refine ⟨?_, ?_⟩
  · rw [Nat.add_zero] at e0
    rw [e0, h0]; split <;> rfl
  · show takev y (8 * P + 1) 1 + bit y (8 * P + 1 + 1) * 2 ^ 1 = 0
    show 0 + bit y (8 * P + 1 + 0) * 2 ^ 0 + bit y (8 * P + 2) * 2 ^ 1 = 0
    rw [Nat.add_zero, e1, e2, h0]; split <;> rfl
theorem Head.block {y : Nat → Nat} (hy : ∀ i, y i < 256) {P n : Nat} {d : Bool} (h : Head y P n d) (LEN most : Nat) (out : List Int) (h5 : P + 5 ≤ LEN) :
    blockE y (8 * LEN) most (8 * P, out) = match st8E y (8 * LEN) most n (8 * (P + 5)) out with
      | .error e => .error e
      | .ok st' => .ok (d, st') := by
  obtain ⟨b0, b1⟩ := h.bits
  have hs := h.small
  have u : up8 (8 * P + 3) = 8 * (P + 1) := by unfold up8; omega
  have t1 := take16 y hy (P + 1)
  have t2 := take16 y hy (P + 3)
  rw [h.h1, show P + 1 + 1 = P + 2 by omega, h.h2] at t1
  rw [h.h3, show P + 3 + 1 = P + 4 by omega, h.h4] at t2
  have t1' : takev y (8 * (P + 1)) 16 = n := by rw [t1]; omega
  have t2' : takev y (8 * (P + 1) + 16) 16 = 65535 - n := by rw [show 8 * (P + 1) + 16 = 8 * (P + 3) by omega, t2]; omega
  have hd : (bit y (8 * P) == 1) = d := by rw [b0]; cases d <;> rfl
  unfold blockE
  simp only
  rw [if_pos (by omega), b1, hd]
  unfold kindE
  rw [if_pos rfl]
  unfold storedE
  rw [u, if_pos (by omega), t1', t2', if_pos (by omega), show 8 * (P + 1) + 32 = 8 * (P + 5) by omega]; rfl
theorem Head.short {y : Nat → Nat} {P n : Nat} {d : Bool} (h : Head y P n d) (LEN most : Nat) (out : List Int) (h5 : ¬ P + 5 ≤ LEN) : blockE y (8 * LEN) most (8 * P, out) = .error 3 := by
  obtain ⟨_, b1⟩ := h.bits
  have u : up8 (8 * P + 3) = 8 * (P + 1) := by unfold up8; omega
  unfold blockE
  simp only
  by_cases h3 : 8 * P + 3 ≤ 8 * LEN
  · rw [if_pos h3, b1]
    unfold kindE
    rw [if_pos rfl]
    unfold storedE
    rw [u, if_neg (by omega)]
  · rw [if_neg h3]

/-- These bytes lie at P. -/
def AtP (y : Nat → Nat) (P : Nat) (xs : List Int) : Prop := ∀ i, i < xs.length → ((y (P + i) : Nat) : Int) = xs.getD i 0
theorem AtP.front {y : Nat → Nat} {P : Nat} {xs ys : List Int} (h : AtP y P (xs ++ ys)) : AtP y P xs := fun i hi => by
  rw [h i (by simp; omega), List.getD_eq_getElem?_getD, List.getD_eq_getElem?_getD, List.getElem?_append_left hi]
theorem AtP.back {y : Nat → Nat} {P : Nat} {xs ys : List Int} (h : AtP y P (xs ++ ys)) : AtP y (P + xs.length) ys := fun i hi => by
  rw [Nat.add_assoc, h (xs.length + i) (by simp; omega), List.getD_eq_getElem?_getD, List.getD_eq_getElem?_getD, List.getElem?_append_right (by omega), Nat.add_sub_cancel_left]
theorem blkL_len (z : Nat → Nat) (off n : Nat) (d : Bool) : (blkL z off n d).length = n + 5 := by simp [blkL]
theorem AtP.head {y z : Nat → Nat} {P off n : Nat} {d : Bool} (h : AtP y P (blkL z off n d)) (hn : n ≤ 65535) : Head y P n d ∧ byt y (P + 5) n = byt z off n := by
  have hl := blkL_len z off n d
  have g0 : ((y P : Nat) : Int) = if d = true then 1 else 0 := h 0 (by omega)
  have g1 : ((y (P + 1) : Nat) : Int) = ((n % 256 : Nat) : Int) := h 1 (by omega)
  have g2 : ((y (P + 2) : Nat) : Int) = ((n / 256 : Nat) : Int) := h 2 (by omega)
  have g3 : ((y (P + 3) : Nat) : Int) = ((255 - n % 256 : Nat) : Int) := h 3 (by omega)
  have g4 : ((y (P + 4) : Nat) : Int) = ((255 - n / 256 : Nat) : Int) := h 4 (by omega)
  refine ⟨⟨by cases d <;> simp at g0 ⊢ <;> omega, by omega, by omega, by omega, by omega, hn⟩, ?_⟩
  unfold byt
  refine List.map_congr_left fun i hi => ?_
  have hi' : i < n := by simpa using hi
  have g5 := h (5 + i) (by omega)
  rw [← Nat.add_assoc] at g5
  rw [g5]
  unfold blkL
  rw [List.getD_eq_getElem?_getD, List.getElem?_append_right (by simp)]
  simp [hi']
/-- All of it is there. -/
theorem stL_all {y z : Nat → Nat} (hy : ∀ i, y i < 256) (len LEN most : Nat) : ∀ (k off P : Nat) (out : List Int), len - off ≤ k → AtP y P (stL z len off) → P + (stL z len off).length ≤ LEN → out.length + (len - off) ≤ most →
    blocksE y (8 * LEN) most (8 * P, out) = .ok (8 * (P + (stL z len off).length), out ++ byt z off (len - off)) := by
  intro k
  induction k using Nat.strongRecOn with
  | ind k ih =>
    intro off P out hk hat hL hm
    by_cases hs : len - off ≤ 65535
    · rw [stL_last z hs] at hat hL ⊢
      obtain ⟨hd, hb⟩ := hat.head hs
      rw [blkL_len] at hL ⊢
      have := hd.block hy LEN most out (by omega)
      rw [st8_all y hy LEN most _ _ _ (by omega) hm, hb] at this
      rw [blocksE_last this, show P + 5 + (len - off) = P + (len - off + 5) by omega]
    · rw [stL_more z hs] at hat hL ⊢
      have h1 := hat.front
      have h2 := hat.back
      obtain ⟨hd, hb⟩ := h1.head (Nat.le_refl _)
      rw [blkL_len] at h2
      rw [List.length_append, blkL_len] at hL ⊢
      have := hd.block hy LEN most out (by omega)
      rw [st8_all y hy LEN most _ _ _ (by omega) (by omega), hb] at this
      rw [blocksE_more this, show P + 5 + 65535 = P + (65535 + 5) by omega, ih (len - (off + 65535)) (by omega) (off + 65535) _ _ (Nat.le_refl _) h2 (by omega) (by rw [List.length_append, byt_len]; omega)]
      have e1 : 8 * (P + (65535 + 5) + (stL z len (off + 65535)).length) = 8 * (P + (65535 + 5 + (stL z len (off + 65535)).length)) := by omega
      rw [e1, List.append_assoc, ← byt_add, show 65535 + (len - (off + 65535)) = len - off by omega]
/-- Too little room for what it says. -/
theorem stL_full {y z : Nat → Nat} (hy : ∀ i, y i < 256) (len LEN most : Nat) : ∀ (k off P : Nat) (out : List Int), len - off ≤ k → AtP y P (stL z len off) → P + (stL z len off).length ≤ LEN → most < out.length + (len - off) → out.length ≤ most →
    blocksE y (8 * LEN) most (8 * P, out) = .error 4 := by
  intro k
  induction k using Nat.strongRecOn with
  | ind k ih =>
    intro off P out hk hat hL hm ho
    by_cases hs : len - off ≤ 65535
    · rw [stL_last z hs] at hat hL
      obtain ⟨hd, hb⟩ := hat.head hs
      rw [blkL_len] at hL
      have := hd.block hy LEN most out (by omega)
      rw [st8_full y LEN most _ _ _ (by omega) hm ho] at this
      exact blocksE_err this
    · rw [stL_more z hs] at hat hL
      have h1 := hat.front
      have h2 := hat.back
      obtain ⟨hd, hb⟩ := h1.head (Nat.le_refl _)
      rw [blkL_len] at h2
      rw [List.length_append, blkL_len] at hL
      have := hd.block hy LEN most out (by omega)
      by_cases hm2 : most < out.length + 65535
      · rw [st8_full y LEN most _ _ _ (by omega) hm2 ho] at this
        exact blocksE_err this
      · rw [st8_all y hy LEN most _ _ _ (by omega) (by omega), hb] at this
        rw [blocksE_more this, show P + 5 + 65535 = P + (65535 + 5) by omega]
        exact ih (len - (off + 65535)) (by omega) (off + 65535) _ _ (Nat.le_refl _) h2 (by omega) (by rw [List.length_append, byt_len]; omega) (by rw [List.length_append, byt_len]; omega)
/-- The last byte is missing. -/
theorem stL_short {y z : Nat → Nat} (hy : ∀ i, y i < 256) (len LEN most : Nat) : ∀ (k off P : Nat) (out : List Int), len - off ≤ k → AtP y P (stL z len off) → P + (stL z len off).length = LEN + 1 → out.length + (len - off) ≤ most →
    blocksE y (8 * LEN) most (8 * P, out) = .error 3 := by
  intro k
  induction k using Nat.strongRecOn with
  | ind k ih =>
    intro off P out hk hat hL hm
    by_cases hs : len - off ≤ 65535
    · rw [stL_last z hs] at hat hL
      obtain ⟨hd, hb⟩ := hat.head hs
      rw [blkL_len] at hL
      by_cases h5 : P + 5 ≤ LEN
      · have := hd.block hy LEN most out h5
        rw [st8_short y LEN most _ _ _ (by omega) h5 hm] at this
        exact blocksE_err this
      · exact blocksE_err (hd.short LEN most out h5)
    · rw [stL_more z hs] at hat hL
      have h1 := hat.front
      have h2 := hat.back
      obtain ⟨hd, hb⟩ := h1.head (Nat.le_refl _)
      rw [blkL_len] at h2
      rw [List.length_append, blkL_len] at hL
      have h6 : 5 ≤ (stL z len (off + 65535)).length := by
        by_cases h7 : len - (off + 65535) ≤ 65535
        · rw [stL_last z h7, blkL_len]; omega
        · rw [stL_more z h7, List.length_append, blkL_len]; omega
      have := hd.block hy LEN most out (by omega)
      rw [st8_all y hy LEN most _ _ _ (by omega) (by omega), hb] at this
      rw [blocksE_more this, show P + 5 + 65535 = P + (65535 + 5) by omega]
      exact ih (len - (off + 65535)) (by omega) (off + 65535) _ _ (Nat.le_refl _) h2 (by omega) (by rw [List.length_append, byt_len]; omega)
end Go.Proofs.YtahibacjaoohiaaDoor
