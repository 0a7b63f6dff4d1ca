/-
  flate's coded as a contract.
-/
import Derived.Test.YtahibacjaoohiaaDoorCoded
namespace Go.Proofs.YtahibacjaoohiaaDoor
open Go.RowKit

/-- How many bits were taken, out of the memory. -/
def pOf (b : Nat) (w : World) : Nat := match w.cell? ⟨b, 1, none⟩ with | some (.int _ n) => n.toNat | _ => 0
theorem Strm.pOf {w : World} {B s b g len : Nat} {z : Nat → Nat} {most : Nat} {v : Value} {x : Six} {p : Nat} {out : List Int} (h : Strm w B s b g len z most v x p out) : pOf b w = p := by
  have : w.cell? ⟨b, 1, none⟩ = some (.int .i64 p) := blk_cell h.bits.obj 1
  unfold Go.Proofs.YtahibacjaoohiaaDoor.pOf; rw [this]; rfl

set_option maxRecDepth 100000 in
set_option maxHeartbeats 1600000 in
theorem coded_any (B s b g len : Nat) (z : Nat → Nat) (most : Nat) (v : Value) (x : Six) (p : Nat) (out : List Int) (a0 a1 a2 d0 d1 d2 : Value) (N : Nat) (L : Nat → Nat) (M : Nat) (D : Nat → Nat) (hN : N ≤ 320) (w : World) (h : Strm w B s b g len z most v x p out) (hA : Alph w s b v a0 a1 a2 N L) (hD : Alph w s b v d0 d1 d2 M D) :
    Calls Tryd.prog 45 #[.pointer (some ⟨s, 0, none⟩), .agg #[a0, a1, a2, d0, d1, d2]] w (TellsO B s b g len z most v x (codedE L N D M z (8 * len) most (p, out)) w) := by
  have bw : Below w.heap.size w (w.alloc (.cells #[a0, a1, a2, d0, d1, d2] 57)) := (Below.refl _ _).alloc (Nat.le_refl _) _
  have h' := h.below bw
  have A' := hA.below bw
  have D' := hD.below bw
  have m' : Moves s b v v w (w.alloc (.cells #[a0, a1, a2, d0, d1, d2] 57)) := Moves.of_below bw
  have gb := blk_new w (.cells #[a0, a1, a2, d0, d1, d2] 57)
  have nm : ¬ Mine s b v w.heap.size := fun e => by have := h.mine e; omega
  obtain ⟨W, hW⟩ : ∃ W, W = w.alloc (.cells #[a0, a1, a2, d0, d1, d2] 57) := ⟨_, rfl⟩
  rw [← hW] at h' A' D' m' gb
  go_enter Tryd.func45, Tryd.ntmps45
  go_wp2_with fail
  rw [← hW]
  clear hW bw
  go_loopw [] (fun wq => ∃ (v1 : Value) (p1 : Nat) (u1 : List Int), Strm wq B s b g len z most v1 x p1 u1 ∧ Moves s b v v1 W wq ∧ Hid (codedE L N D M z (8 * len) most (p1, u1) = codedE L N D M z (8 * len) most (p, out))) (fun wq => 8 * len - pOf b wq)
  case atStart => exact ⟨v, p, out, h', Moves.refl _ _ _ _, rfl⟩
  case round =>
    obtain ⟨v1, p1, u1, hS, hM, hcd⟩ := hrel
    have hpq := hS.pOf
    have HP : Hid (pOf b wr = p1) := hpq
    clear hpq
    have gb1 := hM.blk gb nm
    have c0 : wr.cell? ⟨w.heap.size, 0, none⟩ = some a0 := blk_cell gb1 0
    have c1 : wr.cell? ⟨w.heap.size, 1, none⟩ = some a1 := blk_cell gb1 1
    have c2 : wr.cell? ⟨w.heap.size, 2, none⟩ = some a2 := blk_cell gb1 2
    have A1 := A'.moves hM
    go_wp2_with fail
    refine (symbol_any B s b g len z most v1 x p1 u1 a0 a1 a2 N L _ hS A1).mono ?_
    rintro e w1 ⟨hM1, ⟨k, hE, hk, rfl⟩ | ⟨n, q, hE, rfl, hS1⟩⟩
    · have hk0 : ¬ (k : Int) = 0 := by omega
      go_wp2
      go_ret
      exact .inl ⟨k, v1, by show _ = _; rw [← hcd.out]; exact codedE_done (by unfold codedS; rw [hE.out]), hk, rfl, (m'.trans hM).trans hM1⟩
    · have hok := symE_ok hE.out
      have hnN : n < N := hok.2.2
      have hpq : p1 < q := hok.1
      have hql : q ≤ 8 * len := hok.2.1
      clear hok
      have M2 := hM.trans hM1
      clear c0 c1 c2 A1 hS
      by_cases h256 : n = 256
      · subst h256
        go_wp2
        go_ret
        exact .inr ⟨v1, q, u1, by show _ = _; rw [← hcd.out]; exact codedE_done (by unfold codedS; rw [hE.out]; simp), rfl, hS1, m'.trans M2⟩
      · have h256' : ¬ (n : Int) = 256 := by omega
        by_cases hlt : n < 256
        · have hlt' : (n : Int) < 256 := by omega
          have HP2 : Hid (p1 < q ∧ q ≤ 8 * len) := ⟨hpq, hql⟩
          by_cases hfull : most ≤ u1.length
          · go_wp2_with fail
            refine (put_no B s b g len z most v1 x q u1 (n : Nat) _ hS1 hfull).mono ?_
            rintro e w3 ⟨rfl, hM3⟩
            go_wp2
            go_ret
            exact .inl ⟨4, _, by show _ = _; rw [← hcd.out]; exact codedE_done (by unfold codedS; rw [hE.out]; simp only; rw [if_neg h256, if_pos hlt, if_pos hfull]), by omega, rfl, (m'.trans M2).trans hM3⟩
          · go_wp2_with fail
            refine (put_yes B s b g len z most v1 x q u1 (n : Nat) (by omega) (by omega) _ hS1 hfull).mono ?_
            rintro e w3 ⟨rfl, v3, hS3, hM3⟩
            have HS3 : Hid (Strm w3 B s b g len z most v3 x q (u1 ++ [(n : Int)])) := hS3
            clear hS3 hS1
            go_wp2
            refine ⟨⟨v3, q, u1 ++ [(n : Int)], HS3.out, M2.trans hM3, ?_⟩, ?_⟩
            · show _ = _
              rw [← hcd.out]; exact (codedE_more (by unfold codedS; rw [hE.out]; simp only; rw [if_neg h256, if_pos hlt, if_neg hfull])).symm
            · rw [HS3.out.pOf, HP.out]; have := HP2.out; omega
        · have hlt' : ¬ (n : Int) < 256 := by omega
          have gb2 := M2.blk gb nm
          have c3 : w1.cell? ⟨w.heap.size, 3, none⟩ = some d0 := blk_cell gb2 3
          have c4 : w1.cell? ⟨w.heap.size, 4, none⟩ = some d1 := blk_cell gb2 4
          have c5 : w1.cell? ⟨w.heap.size, 5, none⟩ = some d2 := blk_cell gb2 5
          have D1 := D'.moves M2
          go_wp2_with fail
          refine (again_any B s b g len z most v1 x q u1 n (by omega) (by omega) d0 d1 d2 M D _ hS1 D1).mono ?_
          rintro e w3 (⟨k, v3, hE3, hk, rfl, hM3⟩ | ⟨v3, q3, u3, hE3, rfl, hS3, hM3⟩)
          · have hk0 : ¬ (k : Int) = 0 := by omega
            go_wp2
            go_ret
            exact .inl ⟨k, v3, by show _ = _; rw [← hcd.out]; exact codedE_done (by unfold codedS; rw [hE.out]; simp only; rw [if_neg h256, if_neg hlt, hE3.out]), hk, rfl, (m'.trans M2).trans hM3⟩
          · have h3 := againE_ok hE3.out hql
            have HP2 : Hid (p1 < q3 ∧ q3 ≤ 8 * len) := ⟨Nat.lt_of_lt_of_le hpq h3.1, h3.2.1⟩
            have HS3 : Hid (Strm w3 B s b g len z most v3 x q3 u3) := hS3
            clear h3 hS3 hS1 hpq hql
            go_wp2
            refine ⟨⟨v3, q3, u3, HS3.out, M2.trans hM3, ?_⟩, ?_⟩
            · show _ = _
              rw [← hcd.out]; exact (codedE_more (by unfold codedS; rw [hE.out]; simp only; rw [if_neg h256, if_neg hlt, hE3.out])).symm
            · rw [HS3.out.pOf, HP.out]; have := HP2.out; omega
end Go.Proofs.YtahibacjaoohiaaDoor
