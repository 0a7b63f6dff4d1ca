/-
  flate's ownPair and own as contracts.
-/
import Derived.Test.YtahibacjaoohiaaDoorLens
import Derived.Test.YtahibacjaoohiaaDoorLalp
namespace Go.Proofs.YtahibacjaoohiaaDoor
open Go.RowKit

theorem head14 (z : Nat → Nat) (p : Nat) : takev z p 14 = takev z p 5 + 32 * takev z (p + 5) 5 + 1024 * takev z (p + 10) 4 := by
  have h1 : takev z p 14 = takev z p 5 + 2 ^ 5 * takev z (p + 5) 9 := takev_add z p 5 9
  have h2 : takev z (p + 5) 9 = takev z (p + 5) 5 + 2 ^ 5 * takev z (p + 10) 4 := takev_add z (p + 5) 5 4
  omega
theorem and31 (a : Nat) (h : a < 100000) : bits .and .i64 (a : Int) 31 = ((a % 32 : Nat) : Int) := by
  show IntKind.i64.wrap ((BitVec.ofInt 64 (a : Int) &&& BitVec.ofInt 64 31).toNat : Int) = _
  have h2 : (BitVec.ofInt 64 31).toNat = 2 ^ 5 - 1 := by decide
  have h1 : (BitVec.ofInt 64 (a : Int)).toNat = a := by rw [BitVec.toNat_ofInt]; omega
  rw [BitVec.toNat_and, h1, h2, Nat.and_two_pow_sub_one_eq_mod, IntKind.wrap_i64]
  omega

/-- What ownPair answers. -/
def TellsP (B s b g len : Nat) (z : Nat → Nat) (most : Nat) (v : Value) (x : Six) (out : List Int) (E : Except Nat (Pr × Nat)) (w : World) (e : Ending) (w' : World) : Prop :=
  Moves s b v v w w' ∧ ((∃ k, Hid (E = .error k) ∧ 0 < k ∧ e = .returned (.tuple #[.agg #[.pointer none, .int .i64 0, .int .i64 0, .pointer none, .int .i64 0, .int .i64 0], .int .i64 (k : Nat)])) ∨
    ∃ pr q a0 a1 a2 d0 d1 d2, Hid (E = .ok (pr, q)) ∧ e = .returned (.tuple #[.agg #[.pointer a0, .int .i64 a1, .int .i64 a2, .pointer d0, .int .i64 d1, .int .i64 d2], .int .i64 0]) ∧ Strm w' B s b g len z most v x q out ∧ Alph w' s b v (.pointer a0) (.int .i64 a1) (.int .i64 a2) pr.N pr.L ∧ Alph w' s b v (.pointer d0) (.int .i64 d1) (.int .i64 d2) pr.M pr.D ∧ pr.N ≤ 320)

/-- A new block beside the stream's has turned alone. -/
theorem Moves.new {s b : Nat} {v v' : Value} {w w1 w2 : World} {k : Nat} (m : Moves s b v v' w w1) (hk : Kept (fun i => i = k) w1 w2) (hn : w.heap.size ≤ k) : Moves s b v v' w w2 :=
  ⟨⟨hk.os.trans m.kept.os, hk.tape.trans m.kept.tape, hk.output.trans m.kept.output, Nat.le_trans m.kept.size hk.size, fun i hi ha => by rw [hk.block i (Nat.lt_of_lt_of_le hi m.kept.size) (by omega)]; exact m.kept.block i hi ha⟩, m.own⟩
theorem Strm.new {w w1 w2 : World} {B s b g len : Nat} {z : Nat → Nat} {most : Nat} {v : Value} {x : Six} {p : Nat} {out : List Int} {q : Nat} {k : Nat} (h0 : Strm w B s b g len z most v x p out) (h1 : Strm w1 B s b g len z most v x q out) (m : Moves s b v v w w1) (hk : Kept (fun i => i = k) w1 w2) (hn : w.heap.size ≤ k) : Strm w2 B s b g len z most v x q out := by
  have hl : ∀ i, Mine s b v i → ¬ (i = k) := fun i e e2 => by have := (h0.mine e).2; omega
  exact ⟨hk.blk h1.obj (hl s (.inl rfl)), h1.bits.kept hk (hl b (.inr (.inl rfl))) (fun e => by have := blk_lt h0.bits.row; omega), h1.own.kept' hk (fun i hi => hl i (.inr (.inr hi))), h1.byte, h1.fit, h1.small, h0.fx.moves (m.new hk hn), h1.ng, h1.bs, h1.bb, Nat.le_trans h1.sz hk.size⟩

theorem nth_good {acc : List Int} {k n : Nat} (h15 : ∀ y ∈ acc, 0 ≤ y ∧ y ≤ 15) (hn : n ≤ 320) : GoodL (fun i => acc.getD (k + i) 0) n ↔ okc (nthL acc k) n = true := by
  have g : ∀ j, 0 ≤ acc.getD j 0 ∧ acc.getD j 0 ≤ 15 := fun j => by
    rw [List.getD_eq_getElem?_getD]
    cases e : acc[j]? with
    | none => simp
    | some y => simpa using h15 y (List.mem_of_getElem? e)
  constructor
  · intro h; exact h.ok
  · intro h; exact ⟨hn, fun i _ => g (k + i), h⟩

theorem nth0 (acc : List Int) : (fun i => (acc.getD i 0).toNat) = nthL acc 0 := by funext i; unfold nthL; rw [Nat.zero_add]
theorem nth_good0 {acc : List Int} {n : Nat} (h15 : ∀ y ∈ acc, 0 ≤ y ∧ y ≤ 15) (hn : n ≤ 320) : GoodL (fun i => acc.getD i 0) n ↔ okc (nthL acc 0) n = true := by
  have := nth_good (k := 0) h15 hn
  simpa only [Nat.zero_add] using this

set_option maxRecDepth 100000 in
set_option maxHeartbeats 3200000 in
theorem ownpair_any (B s b g len : Nat) (z : Nat → Nat) (most : Nat) (v : Value) (x : Six) (p : Nat) (out : List Int) (w : World) (h : Strm w B s b g len z most v x p out) (hT : Tab w) (hB : 0 < B) :
    Calls Tryd.prog 64 #[.pointer (some ⟨s, 0, none⟩)] w (TellsP B s b g len z most v x out (ownE z (8 * len) p) w) := by
  have bw : Below w.heap.size w (w.alloc (.cells #[.pointer none, .int .i64 0, .int .i64 0, .pointer none, .int .i64 0, .int .i64 0] 57)) := (Below.refl _ _).alloc (Nat.le_refl _) _
  have gb := blk_new w (.cells #[.pointer none, .int .i64 0, .int .i64 0, .pointer none, .int .i64 0, .int .i64 0] 57)
  have h' := h.below bw
  have mW : Moves s b v v w _ := Moves.of_below bw
  have T' := hT.below bw hT.pos
  have nm : ∀ k, w.heap.size ≤ k → ¬ Mine s b v k := fun k hk e => by have := h.mine e; omega
  obtain ⟨W, hW⟩ : ∃ W, Hid (W = w.alloc (.cells #[.pointer none, .int .i64 0, .int .i64 0, .pointer none, .int .i64 0, .int .i64 0] 57)) := ⟨_, rfl⟩
  rw [← hW.out] at h' mW gb bw T'
  have hlt := blk_lt gb
  by_cases hp : p + 14 ≤ 8 * len
  · go_enter Tryd.func64, Tryd.ntmps64
    go_wp2_with fail
    rw [← hW.out]
    refine (take_yes B s b g len z most v x p out 14 (by omega) _ h' hp).mono ?_
    rintro e w1 ⟨rfl, hS1, hM1⟩
    have gb1 := hM1.blk gb (nm _ (Nat.le_refl _))
    have M1 := mW.trans hM1
    have T1 := T'.moves h' hB hM1
    have hh := head14 z p
    have t1 : takev z p 5 < 32 := takev_lt z p 5
    have t2 : takev z (p + 5) 5 < 32 := takev_lt z (p + 5) 5
    have t3 : takev z (p + 10) 4 < 16 := takev_lt z (p + 10) 4
    obtain ⟨A, hA⟩ : ∃ A, Hid (takev z p 5 = A) := ⟨_, rfl⟩
    obtain ⟨D, hD⟩ : ∃ D, Hid (takev z (p + 5) 5 = D) := ⟨_, rfl⟩
    obtain ⟨C, hC⟩ : ∃ C, Hid (takev z (p + 10) 4 = C) := ⟨_, rfl⟩
    have t4 : takev z p 14 < 16384 := takev_lt z p 14
    obtain ⟨X, hX⟩ : ∃ X, Hid (takev z p 14 = X) := ⟨_, rfl⟩
    rw [hX.out] at t4
    rw [hA.out, hD.out, hC.out, hX.out] at hh
    rw [hA.out] at t1
    rw [hD.out] at t2
    rw [hC.out] at t3
    rw [hX.out]
    obtain ⟨H, hH⟩ : ∃ H : Nat, A + 257 = H := ⟨_, rfl⟩
    obtain ⟨E, hEe⟩ : ∃ E : Nat, D + 1 = E := ⟨_, rfl⟩
    obtain ⟨C4, hC4⟩ : ∃ C4 : Nat, C + 4 = C4 := ⟨_, rfl⟩
    obtain ⟨N, hN⟩ : ∃ N : Nat, H + E = N := ⟨_, rfl⟩
    have HE : Hid (ownE z (8 * len) p = if 286 < H ∨ 30 < E then .error 2 else
        if p + 14 + 3 * C4 ≤ 8 * len then
          if okc (shL z (p + 14) C4) 19 = true then
            match lensE (shL z (p + 14) C4) N z (8 * len) (p + 14 + 3 * C4, []) with
            | .error e => .error e
            | .ok st => match pairE st.2 H E with
              | .error e => .error e
              | .ok c => .ok (c, st.1)
          else .error 2
        else .error 3) := by
      show _ = _; unfold ownE; rw [if_pos hp, hA.out, hD.out, hC.out, hH, hEe, hC4, hN]; rfl
    obtain ⟨Y, hY⟩ : ∃ Y : Nat, Y = D + 32 * C := ⟨_, rfl⟩
    have y1 : X % 32 = A := by omega
    have y2 : Y % 32 = D := by omega
    have a1 : bits .and .i64 (X : Int) 31 = ((A : Nat) : Int) := by rw [and31 X (by omega), y1]
    have a2 : (X : Int) / 32 = ((Y : Nat) : Int) := by omega
    have a3 : bits .and .i64 ((Y : Nat) : Int) 31 = ((D : Nat) : Int) := by rw [and31 Y (by omega), y2]
    have a4 : (X : Int) / 1024 = ((C : Nat) : Int) := by omega
    have lY : Y < 1000 := by omega
    clear hY y1 y2
    have a5 : (A : Int) + 257 = (H : Nat) := by omega
    have a6 : (D : Int) + 1 = (E : Nat) := by omega
    have a7 : (C : Int) + 4 = (C4 : Nat) := by omega
    have a8 : (H : Int) + (E : Int) = (N : Nat) := by omega
    have l1 : 257 ≤ H := by omega
    have l2 : 1 ≤ E := by omega
    have l3 : C4 ≤ 19 := by omega
    have HN : Hid (H + E = N) := hN
    clear hh hp hX hA hD hC hH hEe hC4 hN
    by_cases hbig : 286 < H ∨ 30 < E
    · have HBg : Hid (286 < H ∨ 30 < E) := hbig
      have fin : ∀ W2 : World, Kept (fun i => i = w.heap.size) w1 W2 → TellsP B s b g len z most v x out (ownE z (8 * len) p) w (.returned (.tuple #[.agg #[.pointer none, .int .i64 0, .int .i64 0, .pointer none, .int .i64 0, .int .i64 0], .int .i64 2])) W2 := fun W2 k2 =>
        ⟨M1.new k2 (Nat.le_refl _), .inl ⟨2, by show _ = _; rw [HE.out, if_pos HBg.out], by omega, rfl⟩⟩
      by_cases hb1 : 286 < H
      · have hb1' : (286 : Int) < (H : Int) := by omega
        clear hbig
        go_wp2_with (refine store_at (new := #[.pointer none, .int .i64 0, .int .i64 0, .pointer none, .int .i64 0, .int .i64 0]) gb1 (by rfl) (by rfl) (by rfl) (by rfl) (by exact size55) (by rfl) (by simp [Value.oneCell']) (by rfl) ?_; intro W2 g2 k2 z2)
        refine bodyPost_ret (res_cell2 rfl _ _ _ _ _ rfl (load55 g2 rfl) rfl) rfl ?_
        exact fin W2 k2
      · have hb1' : ¬ (286 : Int) < (H : Int) := by omega
        have hb2' : (30 : Int) < (E : Int) := by omega
        clear hbig
        go_wp2_with (refine store_at (new := #[.pointer none, .int .i64 0, .int .i64 0, .pointer none, .int .i64 0, .int .i64 0]) gb1 (by rfl) (by rfl) (by rfl) (by rfl) (by exact size55) (by rfl) (by simp [Value.oneCell']) (by rfl) ?_; intro W2 g2 k2 z2)
        refine bodyPost_ret (res_cell2 rfl _ _ _ _ _ rfl (load55 g2 rfl) rfl) rfl ?_
        exact fin W2 k2
    · have HBg : Hid (¬ (286 < H ∨ 30 < E)) := hbig
      have l4 : H ≤ 286 := by omega
      have l5 : E ≤ 30 := by omega
      clear hbig
      have hb1' : ¬ (286 : Int) < (H : Int) := by omega
      have hb2' : ¬ (30 : Int) < (E : Int) := by omega
      have lN : N ≤ 316 := by have := HN.out; omega
      have lN2 : 258 ≤ N := by have := HN.out; omega
      have mineLt : ∀ k, Mine s b v k → k < w1.heap.size := fun k e => by have := (h.mine e).2; have := M1.kept.size; omega
      go_wp2_with fail
      refine (lalp_any B s b g len z most v x (p + 14) out C4 l3 _ hS1 T1 hB).mono ?_
      rintro e w2 ⟨hM2, ⟨hE2, rfl⟩ | ⟨hE2, rfl⟩ | ⟨hE2, qa, ma, na, rfl, hS2, hA2⟩⟩
      · have gb2 := blk_alloc (hM2.blk gb1 (nm _ (Nat.le_refl _))) (.cells #[.pointer none, .int .i64 0, .int .i64 0] 55)
        have M2 := (M1.trans hM2).alloc (.cells #[.pointer none, .int .i64 0, .int .i64 0] 55)
        go_wp2_with (refine store_at (new := #[.pointer none, .int .i64 0, .int .i64 0, .pointer none, .int .i64 0, .int .i64 0]) gb2 (by rfl) (by rfl) (by rfl) (by rfl) (by exact size55) (by rfl) (by simp [Value.oneCell']) (by rfl) ?_; intro W2 g2 k2 z2)
        refine bodyPost_ret (res_cell2 rfl _ _ _ _ _ rfl (load55 g2 rfl) rfl) rfl ?_
        exact ⟨M2.new k2 (Nat.le_refl _), .inl ⟨3, by show _ = _; rw [HE.out, if_neg HBg.out, if_neg hE2.out], by omega, rfl⟩⟩
      · have gb2 := blk_alloc (hM2.blk gb1 (nm _ (Nat.le_refl _))) (.cells #[.pointer none, .int .i64 0, .int .i64 0] 55)
        have M2 := (M1.trans hM2).alloc (.cells #[.pointer none, .int .i64 0, .int .i64 0] 55)
        go_wp2_with (refine store_at (new := #[.pointer none, .int .i64 0, .int .i64 0, .pointer none, .int .i64 0, .int .i64 0]) gb2 (by rfl) (by rfl) (by rfl) (by rfl) (by exact size55) (by rfl) (by simp [Value.oneCell']) (by rfl) ?_; intro W2 g2 k2 z2)
        refine bodyPost_ret (res_cell2 rfl _ _ _ _ _ rfl (load55 g2 rfl) rfl) rfl ?_
        exact ⟨M2.new k2 (Nat.le_refl _), .inl ⟨2, by show _ = _; rw [HE.out, if_neg HBg.out, if_pos hE2.out.1, if_neg hE2.out.2], by omega, rfl⟩⟩
      · have gb2 := blk_alloc (hM2.blk gb1 (nm _ (Nat.le_refl _))) (.cells #[.pointer qa, .int .i64 ma, .int .i64 na] 55)
        have bw2 : Below w2.heap.size w2 (w2.alloc (.cells #[.pointer qa, .int .i64 ma, .int .i64 na] 55)) := (Below.refl _ _).alloc (Nat.le_refl _) _
        have M2 := (M1.trans hM2).alloc (.cells #[.pointer qa, .int .i64 ma, .int .i64 na] 55)
        have S2 := hS2.below bw2
        have A2 := (hA2.below bw2).alph (s := s) (b := b) (v := v) mineLt
        clear gb1 M1 hM2 hS2 hA2 hS1 T1 bw2
        go_wp2_with fail
        refine (lengths_any B s b g len z most v x (p + 14 + 3 * C4) out _ _ _ (shL z (p + 14) C4) N (by omega) _ S2 A2).mono ?_
        rintro e w3 ⟨hM3, ⟨k, hE3, hk, rfl⟩ | ⟨q3, acc, r, hE3, rfl, hS3, hO3, h15, hlen⟩⟩
        · have gb3 := hM3.blk gb2 (nm _ (Nat.le_refl _))
          have M3 := M2.trans hM3
          have hk0 : ¬ (k : Int) = 0 := by omega
          clear gb2 M2 S2 A2 hM3
          go_wp2_with (refine store_at (new := #[.pointer none, .int .i64 0, .int .i64 0, .pointer none, .int .i64 0, .int .i64 0]) gb3 (by rfl) (by rfl) (by rfl) (by rfl) (by exact size55) (by rfl) (by simp [Value.oneCell']) (by rfl) ?_; intro W2 g2 k2 z2)
          refine bodyPost_ret (res_cell2 rfl _ _ _ _ _ rfl (load55 g2 rfl) rfl) rfl ?_
          exact ⟨M3.new k2 (Nat.le_refl _), .inl ⟨k, by show _ = _; rw [HE.out, if_neg HBg.out, if_pos hE2.out.1, if_pos hE2.out.2, hE3.out], hk, rfl⟩⟩
        · have gb3 := hM3.blk gb2 (nm _ (Nat.le_refl _))
          have M3 := M2.trans hM3
          clear gb2 M2 S2 A2 hM3
          have la1 : 256 < acc.length := by rw [hlen.out]; omega
          have la2 : H < acc.length := by rw [hlen.out]; have := HN.out; omega
          have la3 : acc.length ≤ 320 := by rw [hlen.out]; omega
          have g15 : ∀ j, 0 ≤ acc.getD j 0 ∧ acc.getD j 0 ≤ 15 := fun j => by
            rw [List.getD_eq_getElem?_getD]
            cases e : acc[j]? with
            | none => simp
            | some y => simpa using h15.out y (List.mem_of_getElem? e)
          obtain ⟨g1, cap, rfl, hO4⟩ := hO3.own (by omega)
          have I3 : Ints w3 (some ⟨g1, 0, none⟩) acc.length cap (fun i => acc.getD i 0) := ⟨hO4.lc.1, by omega, fun i => by have := g15 i; omega, fun _ => ⟨g1, 0, rfl, hO4.lt.2, fun i hi => by rw [Nat.zero_add, hO4.cell hi]⟩⟩
          have c256 := hO4.cell (j := 256) la1
          have hlc := hO4.lc.1
          have hcm := hO4.lc.2
          unfold maxLen at hcm
          obtain ⟨y, hy⟩ : ∃ y, Hid (acc.getD 256 0 = y) := ⟨_, rfl⟩
          rw [hy.out] at c256
          have HI3 : Hid (Ints w3 (some ⟨g1, 0, none⟩) acc.length cap (fun i => acc.getD i 0)) := I3
          have G15 : Hid (∀ j, 0 ≤ acc.getD j 0 ∧ acc.getD j 0 ≤ 15) := g15
          clear I3 g15 hO4 hO3
          by_cases hy0 : y = 0
          · subst hy0
            go_wp2_with (refine store_at (new := #[.pointer none, .int .i64 0, .int .i64 0, .pointer none, .int .i64 0, .int .i64 0]) gb3 (by rfl) (by rfl) (by rfl) (by rfl) (by exact size55) (by rfl) (by simp [Value.oneCell']) (by rfl) ?_; intro W2 g2 k2 z2)
            refine bodyPost_ret (res_cell2 rfl _ _ _ _ _ rfl (load55 g2 rfl) rfl) rfl ?_
            exact ⟨M3.new k2 (Nat.le_refl _), .inl ⟨2, by show _ = _; rw [HE.out, if_neg HBg.out, if_pos hE2.out.1, if_pos hE2.out.2, hE3.out]; simp only; unfold pairE; rw [if_pos hy.out], by omega, rfl⟩⟩
          · go_wp2_with fail
            refine (newpair_any _ acc.length cap (fun i => acc.getD i 0) H _ HI3.out la2 la3).mono ?_
            have hEl : acc.length - H = E := by rw [hlen.out]; have := HN.out; omega
            have EL : Hid (acc.length - H = E) := hEl
            clear hEl
            rintro e w4 ⟨b4, ⟨hbad, rfl⟩ | ⟨hgood, q, m, k, q', m', k', rfl, hA4, hD4⟩⟩
            · have gb4 := Below.blk b4 gb3 (blk_lt gb3)
              have M4 := M3.trans (Moves.of_below b4)
              go_wp2_with (refine store_at (new := #[.pointer none, .int .i64 0, .int .i64 0, .pointer none, .int .i64 0, .int .i64 0]) gb4 (by rfl) (by rfl) (by rfl) (by rfl) (by exact size55) (by rfl) (by simp [Value.oneCell']) (by rfl) ?_; intro W2 g2 k2 z2)
              refine bodyPost_ret (res_cell2 rfl _ _ _ _ _ rfl (load55 g2 rfl) rfl) rfl ?_
              refine ⟨M4.new k2 (Nat.le_refl _), .inl ⟨2, ?_, by omega, rfl⟩⟩
              show _ = _
              rw [HE.out, if_neg HBg.out, if_pos hE2.out.1, if_pos hE2.out.2, hE3.out]; simp only; unfold pairE; rw [if_neg (by rw [hy.out]; exact hy0)]
              have hb := hbad.out
              rw [EL.out, nth_good0 h15.out (by omega), nth_good h15.out (by omega)] at hb
              by_cases h1 : okc (nthL acc 0) H = true
              · rw [if_pos h1, if_neg (fun h2 => hb ⟨h1, h2⟩)]
              · rw [if_neg h1]
            · have gb4 := Below.blk b4 gb3 (blk_lt gb3)
              have M4 := M3.trans (Moves.of_below b4)
              have S4 := hS3.below b4
              have hlt3 := blk_lt gb3
              go_wp2_with (refine store_at (new := #[.pointer q, .int .i64 m, .int .i64 k, .pointer q', .int .i64 m', .int .i64 k']) gb4 (by rfl) (by rfl) (by rfl) (by rfl) (by exact size55) (by rfl) (by simp [Value.oneCell']) (by rfl) ?_; intro W2 g2 k2 z2)
              refine bodyPost_ret (res_cell2 rfl _ _ _ _ _ rfl (load55 g2 rfl) rfl) rfl ?_
              have hg := hgood.out
              rw [EL.out, nth_good0 h15.out (by omega), nth_good h15.out (by omega)] at hg
              rw [nth0] at hA4
              rw [EL.out] at hD4
              have mineLt3 : ∀ k, Mine s b v k → k < w3.heap.size := fun k e => by have := (h.mine e).2; have := M3.kept.size; omega
              refine ⟨M4.new k2 (Nat.le_refl _), .inr ⟨⟨nthL acc 0, H, nthL acc H, E⟩, q3, q, m, k, q', m', k', ?_, rfl, h.new S4 M4 k2 (Nat.le_refl _), (hA4.keep k2 (fun i hi => by omega)).alph mineLt3, (hD4.keep k2 (fun i hi => by omega)).alph mineLt3, by show H ≤ 320; omega⟩⟩
              show _ = _
              rw [HE.out, if_neg HBg.out, if_pos hE2.out.1, if_pos hE2.out.2, hE3.out]; simp only; unfold pairE; rw [if_neg (by rw [hy.out]; exact hy0), if_pos hg.1, if_pos hg.2]
  · go_enter Tryd.func64, Tryd.ntmps64
    go_wp2_with fail
    rw [← hW.out]
    refine (take_no B s b g len z most v x p out 14 (by omega) _ h' hp).mono ?_
    rintro e w1 ⟨rfl, hM1⟩
    have gb1 := hM1.blk gb (nm _ (Nat.le_refl _))
    have M1 := mW.trans hM1
    go_wp2_with (refine store_at (new := #[.pointer none, .int .i64 0, .int .i64 0, .pointer none, .int .i64 0, .int .i64 0]) gb1 (by rfl) (by rfl) (by rfl) (by rfl) (by exact size55) (by rfl) (by simp [Value.oneCell']) (by rfl) ?_; intro W2 g2 k2 z2)
    refine bodyPost_ret (res_cell2 rfl _ _ _ _ _ rfl (load55 g2 rfl) rfl) rfl ?_
    exact ⟨M1.new k2 (Nat.le_refl _), .inl ⟨3, by show _ = _; unfold ownE; rw [if_neg hp], by omega, rfl⟩⟩
end Go.Proofs.YtahibacjaoohiaaDoor
