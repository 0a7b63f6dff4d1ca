/-
  flate's spread, length, symbol and distance as contracts.
-/
import Derived.Test.YtahibacjaoohiaaDoorStrm
import Derived.Test.YtahibacjaoohiaaDoorCone
namespace Go.Proofs.YtahibacjaoohiaaDoor
open Go.RowKit

/-- A call that takes bits alone: it tells a number, or why not. -/
def Tells1 (B s b g len : Nat) (z : Nat → Nat) (most : Nat) (v : Value) (x : Six) (out : List Int) (E : Except Nat (Nat × Nat)) (w : World) (e : Ending) (w' : World) : Prop :=
  Moves s b v v w w' ∧ ((∃ k, Hid (E = .error k) ∧ 0 < k ∧ e = .returned (.tuple #[.int .i64 0, .int .i64 (k : Nat)])) ∨ ∃ n q, Hid (E = .ok (n, q)) ∧ e = .returned (.tuple #[.int .i64 (n : Nat), .int .i64 0]) ∧ Strm w' B s b g len z most v x q out)
theorem ret2 {a b : Int} {u : Value} (h : a = b) : Ending.returned (.tuple #[.int .i64 a, u]) = .returned (.tuple #[.int .i64 b, u]) := by rw [h]

set_option maxRecDepth 100000 in
set_option maxHeartbeats 800000 in
theorem spread_any (B s b g len : Nat) (z : Nat → Nat) (most : Nat) (v : Value) (x : Six) (p : Nat) (out : List Int) (k gr : Nat) (hg : gr = 2 ∨ gr = 4) (hk : k ≤ 29) (w : World) (h : Strm w B s b g len z most v x p out) :
    Calls Tryd.prog 73 #[.pointer (some ⟨s, 0, none⟩), .int .i64 (k : Nat), .int .i64 (gr : Nat)] w (Tells1 B s b g len z most v x out (spreadE z (8 * len) p k gr) w) := by
  rcases hg with rfl | rfl
  · by_cases h1 : k < 2 * 2
    · have h1' : (k : Int) < 4 := by omega
      go_enter Tryd.func73, Tryd.ntmps73
      go_wp2
      go_ret2
      exact ⟨Moves.refl _ _ _ _, .inr ⟨k, p, by show _ = _; unfold spreadE; rw [if_pos h1], rfl, h⟩⟩
    · have h1' : ¬ (k : Int) < 4 := by omega
      obtain ⟨W, hW⟩ : ∃ W : Nat, Hid (k / 2 - 1 = W) := ⟨_, rfl⟩
      have hW0 := hW.out
      have hWi : (k : Int) / 2 - 1 = (W : Nat) := by omega
      have hW13 : W ≤ 13 := by omega
      clear hW0
      by_cases h2 : p + W ≤ 8 * len
      · go_enter Tryd.func73, Tryd.ntmps73
        go_wp2_with fail
        refine (take_yes B s b g len z most v x p out W (by omega) _ h h2).mono ?_
        rintro e w1 ⟨rfl, hS, hM⟩
        have t1 := takev_lt z p W
        have t2 := pow_le_13 hW13
        have t3 : (2 + (k : Int) % 2) * 2 ^ W = (((2 + k % 2) * 2 ^ W : Nat) : Int) := by simp
        have t4 : (2 + k % 2) * 2 ^ W ≤ 3 * 8192 := Nat.mul_le_mul (by omega) t2
        obtain ⟨M, hM2⟩ : ∃ M, M = (2 + k % 2) * 2 ^ W := ⟨_, rfl⟩
        rw [← hM2] at t3 t4
        have HM : Hid (M = (2 + k % 2) * 2 ^ W) := hM2
        clear hM2 hWi
        go_wp2
        go_ret2
        exact ⟨hM, .inr ⟨M + takev z p W, p + W, by show _ = _; unfold spreadE; rw [if_neg h1, hW.out, if_pos h2, HM.out], ret2 (by omega), hS⟩⟩
      · go_enter Tryd.func73, Tryd.ntmps73
        go_wp2_with fail
        refine (take_no B s b g len z most v x p out W (by omega) _ h h2).mono ?_
        rintro e w1 ⟨rfl, hM⟩
        go_wp2
        go_ret2
        exact ⟨hM, .inl ⟨3, by show _ = _; unfold spreadE; rw [if_neg h1, hW.out, if_neg h2], by omega, rfl⟩⟩
  · by_cases h1 : k < 2 * 4
    · have h1' : (k : Int) < 8 := by omega
      go_enter Tryd.func73, Tryd.ntmps73
      go_wp2
      go_ret2
      exact ⟨Moves.refl _ _ _ _, .inr ⟨k, p, by show _ = _; unfold spreadE; rw [if_pos h1], rfl, h⟩⟩
    · have h1' : ¬ (k : Int) < 8 := by omega
      obtain ⟨W, hW⟩ : ∃ W : Nat, Hid (k / 4 - 1 = W) := ⟨_, rfl⟩
      have hW0 := hW.out
      have hWi : (k : Int) / 4 - 1 = (W : Nat) := by omega
      have hW13 : W ≤ 13 := by omega
      clear hW0
      by_cases h2 : p + W ≤ 8 * len
      · go_enter Tryd.func73, Tryd.ntmps73
        go_wp2_with fail
        refine (take_yes B s b g len z most v x p out W (by omega) _ h h2).mono ?_
        rintro e w1 ⟨rfl, hS, hM⟩
        have t1 := takev_lt z p W
        have t2 := pow_le_13 hW13
        have t3 : (4 + (k : Int) % 4) * 2 ^ W = (((4 + k % 4) * 2 ^ W : Nat) : Int) := by simp
        have t4 : (4 + k % 4) * 2 ^ W ≤ 7 * 8192 := Nat.mul_le_mul (by omega) t2
        obtain ⟨M, hM2⟩ : ∃ M, M = (4 + k % 4) * 2 ^ W := ⟨_, rfl⟩
        rw [← hM2] at t3 t4
        have HM : Hid (M = (4 + k % 4) * 2 ^ W) := hM2
        clear hM2 hWi
        go_wp2
        go_ret2
        exact ⟨hM, .inr ⟨M + takev z p W, p + W, by show _ = _; unfold spreadE; rw [if_neg h1, hW.out, if_pos h2, HM.out], ret2 (by omega), hS⟩⟩
      · go_enter Tryd.func73, Tryd.ntmps73
        go_wp2_with fail
        refine (take_no B s b g len z most v x p out W (by omega) _ h h2).mono ?_
        rintro e w1 ⟨rfl, hM⟩
        go_wp2
        go_ret2
        exact ⟨hM, .inl ⟨3, by show _ = _; unfold spreadE; rw [if_neg h1, hW.out, if_neg h2], by omega, rfl⟩⟩

set_option maxRecDepth 100000 in
theorem length_any (B s b g len : Nat) (z : Nat → Nat) (most : Nat) (v : Value) (x : Six) (p : Nat) (out : List Int) (sy : Nat) (hs : 257 ≤ sy) (hs2 : sy < 320) (w : World) (h : Strm w B s b g len z most v x p out) :
    Calls Tryd.prog 67 #[.pointer (some ⟨s, 0, none⟩), .int .i64 (sy : Nat)] w (Tells1 B s b g len z most v x out (lengthE z (8 * len) p sy) w) := by
  by_cases h1 : 285 < sy
  · have h1' : (285 : Int) < sy := by omega
    go_enter Tryd.func67, Tryd.ntmps67
    go_wp2
    go_ret2
    exact ⟨Moves.refl _ _ _ _, .inl ⟨2, by show _ = _; unfold lengthE; rw [if_pos h1], by omega, rfl⟩⟩
  · by_cases h2 : sy = 285
    · subst h2
      go_enter Tryd.func67, Tryd.ntmps67
      go_wp2
      go_ret2
      exact ⟨Moves.refl _ _ _ _, .inr ⟨258, p, by show _ = _; unfold lengthE; rfl, rfl, h⟩⟩
    · have h1' : ¬ (285 : Int) < sy := by omega
      have h2' : ¬ (sy : Int) = 285 := by omega
      have h3' : (sy : Int) - 256 - 1 = ((sy - 257 : Nat) : Int) := by omega
      go_enter Tryd.func67, Tryd.ntmps67
      go_wp2_with fail
      refine (spread_any B s b g len z most v x p out (sy - 257) 4 (.inr rfl) (by omega) _ h).mono ?_
      rintro e w1 ⟨hM, ⟨k, hE, hk, rfl⟩ | ⟨n, q, hE, rfl, hS⟩⟩
      · have hk0 : ¬ (k : Int) = 0 := by omega
        go_wp2
        go_ret2
        exact ⟨hM, .inl ⟨k, by show _ = _; unfold lengthE; rw [if_neg h1, if_neg h2, hE.out], hk, rfl⟩⟩
      · have hn := spreadE_small hE.out (by omega) (by omega) (by omega)
        have hn' : n ≤ 65536 := hn
        clear hn
        go_wp2
        go_ret2
        exact ⟨hM, .inr ⟨n + 3, q, by show _ = _; unfold lengthE; rw [if_neg h1, if_neg h2, hE.out], ret2 (by omega), hS⟩⟩

theorem Alph.below {w w' : World} {s b : Nat} {v : Value} {a0 a1 a2 : Value} {N : Nat} {L : Nat → Nat} (h : Alph w s b v a0 a1 a2 N L) (k : Below w.heap.size w w') : Alph w' s b v a0 a1 a2 N L := h.moves (Moves.of_below k)
set_option maxRecDepth 100000 in
set_option maxHeartbeats 800000 in
theorem symbol_any (B s b g len : Nat) (z : Nat → Nat) (most : Nat) (v : Value) (x : Six) (p : Nat) (out : List Int) (a0 a1 a2 : Value) (N : Nat) (L : Nat → Nat) (w : World) (h : Strm w B s b g len z most v x p out) (hA : Alph w s b v a0 a1 a2 N L) :
    Calls Tryd.prog 60 #[.pointer (some ⟨s, 0, none⟩), .agg #[a0, a1, a2]] w (Tells1 B s b g len z most v x out (symE L N z (8 * len) p) w) := by
  obtain ⟨o, gw, gs, rfl, rfl, rfl, hC, n1, n2, n3⟩ := hA
  have hsl := some_le L N
  have hNf := hC.few
  obtain ⟨c, hc⟩ : ∃ c, Hid (some' L N = c) := ⟨_, rfl⟩
  rw [hc.out] at hsl ⊢
  obtain ⟨y, hy⟩ : ∃ y, Hid (lastsym L N = y) := ⟨_, rfl⟩
  rw [hy.out]
  by_cases h0 : c = 0
  · subst h0
    go_enter Tryd.func60, Tryd.ntmps60
    go_wp2
    go_ret2
    exact ⟨(Moves.refl _ _ _ _).alloc _, .inl ⟨2, by show _ = _; unfold symE; rw [if_pos hc.out], by omega, rfl⟩⟩
  · by_cases h1 : c = 1
    · subst h1
      have h' := h.alloc (.cells #[.pointer (some ⟨o, 0, none⟩), .int .i64 (1 : Nat), .int .i64 (y : Nat)] 55)
      have m' := (Moves.refl s b v w).alloc (.cells #[.pointer (some ⟨o, 0, none⟩), .int .i64 (1 : Nat), .int .i64 (y : Nat)] 55)
      have gb := blk_new w (.cells #[.pointer (some ⟨o, 0, none⟩), .int .i64 (1 : Nat), .int .i64 (y : Nat)] 55)
      have nm : ¬ Mine s b v w.heap.size := fun e => by have := h.mine e; omega
      by_cases hp : p + 1 ≤ 8 * len
      · have e1 : takev z p 1 = bit z p := by simp [takev]
        have hbl := bit_lt z p
        by_cases hb : bit z p = 0
        · go_enter Tryd.func60, Tryd.ntmps60
          go_wp2_with fail
          refine (take_yes B s b g len z most v x p out 1 (by omega) _ h' hp).mono ?_
          rintro e w1 ⟨rfl, hS, hM⟩
          rw [e1, hb]
          have gb1 := hM.blk gb nm
          have cb := blk_cell gb1 2
          clear e1
          go_wp2
          go_ret2
          exact ⟨m'.trans hM, .inr ⟨y, p + 1, by show _ = _; unfold symE; rw [if_neg (by rw [hc.out]; omega), if_pos hc.out, if_pos (by omega), if_pos hb, hy.out], rfl, hS⟩⟩
        · have hb1 : bit z p = 1 := by omega
          go_enter Tryd.func60, Tryd.ntmps60
          go_wp2_with fail
          refine (take_yes B s b g len z most v x p out 1 (by omega) _ h' hp).mono ?_
          rintro e w1 ⟨rfl, hS, hM⟩
          rw [e1, hb1]
          clear e1 hb1
          go_wp2
          go_ret2
          exact ⟨m'.trans hM, .inl ⟨2, by show _ = _; unfold symE; rw [if_neg (by rw [hc.out]; omega), if_pos hc.out, if_pos (by omega), if_neg hb], by omega, rfl⟩⟩
      · go_enter Tryd.func60, Tryd.ntmps60
        go_wp2_with fail
        refine (take_no B s b g len z most v x p out 1 (by omega) _ h' hp).mono ?_
        rintro e w1 ⟨rfl, hM⟩
        go_wp2
        go_ret2
        exact ⟨m'.trans hM, .inl ⟨3, by show _ = _; unfold symE; rw [if_neg (by rw [hc.out]; omega), if_pos hc.out, if_neg (by omega)], by omega, rfl⟩⟩
    · have h0' : ¬ (c : Int) = 0 := by omega
      have h1' : ¬ (c : Int) = 1 := by omega
      obtain ⟨W, hW⟩ : ∃ W, Hid (W = w.alloc (.cells #[.pointer (some ⟨o, 0, none⟩), .int .i64 (c : Nat), .int .i64 (y : Nat)] 55)) := ⟨_, rfl⟩
      have h' : Strm W B s b g len z most v x p out := by rw [hW.out]; exact h.alloc _
      have m' : Moves s b v v w W := by rw [hW.out]; exact (Moves.refl s b v w).alloc _
      have gb : W.heap[w.heap.size]? = some (.cells #[.pointer (some ⟨o, 0, none⟩), .int .i64 (c : Nat), .int .i64 (y : Nat)] 55) := by rw [hW.out]; exact blk_new w _
      have hC' : CodeAt W o gw gs N L := hC.kept m'.kept n1 n2 n3
      have hc0 := blk_cell gb 0
      have hc1 := blk_cell gb 1
      have hs0 : W.cell? ⟨s, 0, none⟩ = some (.pointer (some ⟨b, 0, none⟩)) := blk_cell h'.obj 0
      have hb0 : o ≠ b := fun e => n1 (.inr (.inl e))
      have hb1 : gw ≠ b := fun e => n2 (.inr (.inl e))
      have hb2 : gs ≠ b := fun e => n3 (.inr (.inl e))
      go_enter Tryd.func60, Tryd.ntmps60
      go_wp2_with fail
      rw [← hW.out]
      have S2 : Strm W.drew B s b g len z most v x p out := h'.below (Below.refl _ _).drew
      have C2 : CodeAt W.drew o gw gs N L := hC'.kept (Kept.refl (Mine s b v) W).drew n1 n2 n3
      have nb : w.heap.size ≠ b := by have := blk_lt h.bits.obj; omega
      go_region_held3 (fun V => V.cell? ⟨w.heap.size, 0, none⟩ = some (.pointer (some ⟨o, 0, none⟩)) ∧ V.cell? ⟨s, 0, none⟩ = some (.pointer (some ⟨b, 0, none⟩))) (go_keep)
        (first | (go_at_call 66; refine (read_any o gw gs N L b g len z p _ C2 S2.bits hb0 hb1 hb2).mono ?_; rintro e w1 ⟨rfl, hB1, hK1⟩; have k0 := blk_cell (hK1.blk gb nb) 0; have k1 := blk_cell (hK1.blk S2.obj h.sb) 0))
      clear k0 k1
      have S3 := S2.taken hB1 hK1
      have M3 : Moves s b v v w w1 := m'.drew.trans (Moves.of_bits hK1)
      by_cases hr : (rdv L N (bit z) (8 * len) p).2.1 = true
      · have HR : Hid ((rdv L N (bit z) (8 * len) p).2.1 = true) := hr
        rw [hr]
        clear hr
        go_wp2
        go_ret2
        exact ⟨M3, .inr ⟨_, _, by show _ = _; unfold symE; rw [if_neg (by rw [hc.out]; omega), if_neg (by rw [hc.out]; omega), if_pos HR.out], rfl, S3⟩⟩
      · have HR : Hid (¬ (rdv L N (bit z) (8 * len) p).2.1 = true) := hr
        have hr' : (rdv L N (bit z) (8 * len) p).2.1 = false := by simpa using hr
        rw [hr']
        clear hr hr'
        go_wp2
        go_ret2
        exact ⟨M3, .inl ⟨3, by show _ = _; unfold symE; rw [if_neg (by rw [hc.out]; omega), if_neg (by rw [hc.out]; omega), if_neg HR.out], by omega, rfl⟩⟩

theorem Tells1.moved {B s b g len : Nat} {z : Nat → Nat} {most : Nat} {v : Value} {x : Six} {out : List Int} {E : Except Nat (Nat × Nat)} {w w1 : World} {e : Ending} {w' : World} (m : Moves s b v v w w1) (h : Tells1 B s b g len z most v x out E w1 e w') : Tells1 B s b g len z most v x out E w e w' := ⟨m.trans h.1, h.2⟩
set_option maxRecDepth 100000 in
set_option maxHeartbeats 800000 in
theorem distance_any (B s b g len : Nat) (z : Nat → Nat) (most : Nat) (v : Value) (x : Six) (p : Nat) (out : List Int) (a0 a1 a2 : Value) (N : Nat) (L : Nat → Nat) (w : World) (h : Strm w B s b g len z most v x p out) (hA : Alph w s b v a0 a1 a2 N L) :
    Calls Tryd.prog 68 #[.pointer (some ⟨s, 0, none⟩), .agg #[a0, a1, a2]] w (Tells1 B s b g len z most v x out (distE L N z (8 * len) p) w) := by
  have h' := h.alloc (.cells #[a0, a1, a2] 55)
  have A' := hA.below ((Below.refl _ _).alloc (Nat.le_refl _) (.cells #[a0, a1, a2] 55))
  have m' := (Moves.refl s b v w).alloc (.cells #[a0, a1, a2] 55)
  go_enter Tryd.func68, Tryd.ntmps68
  go_wp2_with fail
  refine (symbol_any B s b g len z most v x p out a0 a1 a2 N L _ h' A').mono ?_
  rintro e w1 ⟨hM, ⟨k, hE, hk, rfl⟩ | ⟨n, q, hE, rfl, hS⟩⟩
  · have hk0 : ¬ (k : Int) = 0 := by omega
    go_wp2
    go_ret2
    exact ⟨m'.trans hM, .inl ⟨k, by show _ = _; unfold distE; rw [hE.out], hk, rfl⟩⟩
  · have hn : n < N := (symE_ok hE.out).2.2
    by_cases h29 : 29 < n
    · have h29' : (29 : Int) < n := by omega
      go_wp2
      go_ret2
      exact ⟨m'.trans hM, .inl ⟨2, by show _ = _; unfold distE; rw [hE.out]; simp only; rw [if_pos h29], by omega, rfl⟩⟩
    · have h29' : ¬ (29 : Int) < n := by omega
      go_wp2_with fail
      refine (spread_any B s b g len z most v x q out n 2 (.inl rfl) (by omega) _ hS).mono ?_
      rintro e w2 ⟨hM2, ⟨k, hE2, hk, rfl⟩ | ⟨n2, q2, hE2, rfl, hS2⟩⟩
      · have hk0 : ¬ (k : Int) = 0 := by omega
        go_wp2
        go_ret2
        exact ⟨(m'.trans hM).trans hM2, .inl ⟨k, by show _ = _; unfold distE; rw [hE.out]; simp only; rw [if_neg h29, hE2.out], hk, rfl⟩⟩
      · have hn2 : n2 ≤ 65536 := spreadE_small hE2.out (by omega) (by omega) (by omega)
        go_wp2
        go_ret2
        exact ⟨(m'.trans hM).trans hM2, .inr ⟨n2 + 1, q2, by show _ = _; unfold distE; rw [hE.out]; simp only; rw [if_neg h29, hE2.out], ret2 (by omega), hS2⟩⟩
end Go.Proofs.YtahibacjaoohiaaDoor
