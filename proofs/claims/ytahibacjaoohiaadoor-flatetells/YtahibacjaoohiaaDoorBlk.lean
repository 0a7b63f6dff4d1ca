/-
  flate's own and block as contracts.
-/
import Derived.Test.YtahibacjaoohiaaDoorOwnp
import Derived.Test.YtahibacjaoohiaaDoorStor
import Derived.Test.YtahibacjaoohiaaDoorProg8
namespace Go.Proofs.YtahibacjaoohiaaDoor
open Go.RowKit

theorem TellsO.moved {B s b g len : Nat} {z : Nat → Nat} {most : Nat} {v : Value} {x : Six} {E E' : Except Nat St} {w w1 : World} {e : Ending} {w' : World} (m : Moves s b v v w w1) (he : E' = E) (h : TellsO B s b g len z most v x E w1 e w') : TellsO B s b g len z most v x E' w e w' := by
  subst he
  rcases h with ⟨k, v', h1, h2, h3, h4⟩ | ⟨v', q, o, h1, h2, h3, h4⟩
  · exact .inl ⟨k, v', h1, h2, h3, m.trans h4⟩
  · exact .inr ⟨v', q, o, h1, h2, h3, m.trans h4⟩

/-- A block that tells its own codes. -/
def ownB (z : Nat → Nat) (lim most p : Nat) (out : List Int) : Except Nat St := match ownE z lim p with
  | .error e => .error e
  | .ok x => codedE x.1.L x.1.N x.1.D x.1.M z lim most (x.2, out)
set_option maxRecDepth 100000 in
set_option maxHeartbeats 1600000 in
theorem own_any (B s b g len : Nat) (z : Nat → Nat) (most : Nat) (v : Value) (x : Six) (p : Nat) (out : List Int) (w : World) (h : Strm w B s b g len z most v x p out) (hT : Tab w) (hB : 0 < B) :
    Calls Tryd.prog 47 #[.pointer (some ⟨s, 0, none⟩)] w (TellsO B s b g len z most v x (ownB z (8 * len) most p out) w) := by
  go_enter Tryd.func47, Tryd.ntmps47
  go_wp2_with fail
  refine (ownpair_any B s b g len z most v x p out _ h hT hB).mono ?_
  rintro e w1 ⟨hM, ⟨k, hE, hk, rfl⟩ | ⟨pr, q, a0, a1, a2, d0, d1, d2, hE, rfl, hS, hA, hD, hN⟩⟩
  · have hk0 : ¬ (k : Int) = 0 := by omega
    go_wp2
    go_ret
    exact .inl ⟨k, v, by show _ = _; unfold ownB; rw [hE.out], hk, rfl, hM.alloc _⟩
  · have bw : Below w1.heap.size w1 (w1.alloc (.cells #[.pointer a0, .int .i64 a1, .int .i64 a2, .pointer d0, .int .i64 d1, .int .i64 d2] 57)) := (Below.refl _ _).alloc (Nat.le_refl _) _
    have S1 := hS.below bw
    have A1 := hA.moves (Moves.of_below bw)
    have D1 := hD.moves (Moves.of_below bw)
    have M1 := hM.trans (Moves.of_below bw)
    clear hS hA hD hM bw
    go_wp2_with fail
    refine (coded_any B s b g len z most v x q out _ _ _ _ _ _ pr.N pr.L pr.M pr.D hN _ S1 A1 D1).mono ?_
    intro e w2 hO
    have hO2 := hO.moved M1 (E' := ownB z (8 * len) most p out) (by unfold ownB; rw [hE.out])
    clear hO
    rcases hO2 with ⟨k, v', h1, h2, rfl, h4⟩ | ⟨v', q', o, h1, rfl, h3, h4⟩
    · go_wp2
      go_ret
      exact .inl ⟨k, v', h1, h2, rfl, h4⟩
    · go_wp2
      go_ret
      exact .inr ⟨v', q', o, h1, rfl, h3, h4⟩

/-- What block answers. -/
def TellsB (B s b g len : Nat) (z : Nat → Nat) (most : Nat) (v : Value) (E : Except Nat (Bool × St)) (w : World) (e : Ending) (w' : World) : Prop :=
  (∃ k v' d, Hid (E = .error k) ∧ 0 < k ∧ e = .returned (.tuple #[.bool d, .int .i64 (k : Nat)]) ∧ Moves s b v v' w w') ∨ ∃ v' x' d q o, Hid (E = .ok (d, q, o)) ∧ e = .returned (.tuple #[.bool d, .int .i64 0]) ∧ Strm w' B s b g len z most v' x' q o ∧ Moves s b v v' w w'
theorem and1 (a : Nat) (h : a < 100000) : bits .and .i64 (a : Int) 1 = ((a % 2 : Nat) : Int) := by
  show IntKind.i64.wrap ((BitVec.ofInt 64 (a : Int) &&& BitVec.ofInt 64 1).toNat : Int) = _
  have h2 : (BitVec.ofInt 64 1).toNat = 2 ^ 1 - 1 := by decide
  have h1 : (BitVec.ofInt 64 (a : Int)).toNat = a := by rw [BitVec.toNat_ofInt]; omega
  rw [BitVec.toNat_and, h1, h2, Nat.and_two_pow_sub_one_eq_mod, IntKind.wrap_i64]
  omega

set_option maxRecDepth 100000 in
set_option maxHeartbeats 3200000 in
theorem block_any (B s b g len : Nat) (z : Nat → Nat) (most : Nat) (v : Value) (x : Six) (p : Nat) (out : List Int) (w : World) (h : Strm w B s b g len z most v x p out) (hT : Tab w) (hB : 0 < B) :
    Calls Tryd.prog 28 #[.pointer (some ⟨s, 0, none⟩)] w (TellsB B s b g len z most v (blockE z (8 * len) most (p, out)) w) := by
  by_cases hp : p + 3 ≤ 8 * len
  · have t1 : takev z p 3 = takev z p 1 + 2 ^ 1 * takev z (p + 1) 2 := takev_add z p 1 2
    have t2 : takev z p 1 = bit z p := by simp [takev]
    have t3 := bit_lt z p
    have t4 : takev z (p + 1) 2 < 4 := takev_lt z (p + 1) 2
    rw [t2] at t1
    have HE : Hid (blockE z (8 * len) most (p, out) = match kindE z (8 * len) most (takev z (p + 1) 2) (p + 3) out with
        | .error e => .error e
        | .ok st' => .ok (bit z p == 1, st')) := by
      show _ = _; unfold blockE; rw [if_pos hp]; rfl
    go_enter Tryd.func28, Tryd.ntmps28
    go_wp2_with fail
    refine (take_yes B s b g len z most v x p out 3 (by omega) _ h hp).mono ?_
    rintro e w1 ⟨rfl, hS1, hM1⟩
    obtain ⟨X, hX⟩ : ∃ X, takev z p 3 = X := ⟨_, rfl⟩
    obtain ⟨K, hK⟩ : ∃ K, takev z (p + 1) 2 = K := ⟨_, rfl⟩
    obtain ⟨b0, hb0⟩ : ∃ b0, bit z p = b0 := ⟨_, rfl⟩
    rw [hX, hK, hb0] at t1
    rw [hK] at t4 HE
    rw [hb0] at t3 HE
    rw [hX]
    have a1 : (X : Int) / 2 = (K : Nat) := by omega
    have a2 : bits .and .i64 (X : Int) 1 = (b0 : Nat) := by rw [and1 X (by omega)]; omega
    have lX : X < 8 := by omega
    have T1 := hT.moves h hB hM1
    have hb : b0 = 0 ∨ b0 = 1 := by omega
    clear t1 t2 hX hK hb0 hp h
    obtain ⟨d, hd⟩ : ∃ d : Bool, Hid ((b0 == 1) = d) := ⟨_, rfl⟩
    have hd' : ((b0 : Int) == 1) = d := by
      rw [← hd.out]
      rcases hb with rfl | rfl <;> rfl
    have fin : ∀ (y : Six) (w2 w3 : World) (E : Except Nat St), Hid (kindE z (8 * len) most K (p + 3) out = E) → Moves s b v v w w2 → ∀ e, TellsO B s b g len z most v y E w2 e w3 → (∃ k, e = .returned (.int .i64 k) ∧ TellsB B s b g len z most v (blockE z (8 * len) most (p, out)) w (.returned (.tuple #[.bool d, .int .i64 k])) w3) := by
      intro y w2 w3 E hE m e hO
      rcases hO with ⟨k, v', h1, h2, h3, h4⟩ | ⟨v', q, o, h1, h2, h3, h4⟩
      · exact ⟨_, h3, .inl ⟨k, v', d, by show _ = _; rw [HE.out, hE.out, h1.out], h2, rfl, m.trans h4⟩⟩
      · exact ⟨_, h2, .inr ⟨v', y, d, q, o, by show _ = _; rw [HE.out, hE.out, h1.out]; simp only; rw [hd.out], rfl, h3, m.trans h4⟩⟩
    rcases (show K = 0 ∨ K = 1 ∨ K = 2 ∨ K = 3 by omega) with rfl | rfl | rfl | rfl
    · have a3 : (X : Int) / 2 = 0 := by omega
      clear a1 hb t3 t4
      go_wp2_with fail
      refine (stored_any B s b g len z most v x (p + 3) out _ hS1).mono ?_
      intro e w2 hO
      obtain ⟨k, rfl, hF⟩ := fin x w1 w2 _ (by show _ = _; unfold kindE; rw [if_pos rfl]) hM1 e hO
      clear hO fin
      go_wp2
      go_ret2
      exact hF
    · have a3 : (X : Int) / 2 = 1 := by omega
      clear a1 hb t3 t4
      go_wp2_with fail
      refine (fixedpair_any B s b g len z most v x (p + 3) out _ hS1).mono ?_
      rintro e w2 ⟨x', rfl, hS2, hA2, hD2, hM2⟩
      go_wp2_with fail
      refine (coded_any B s b g len z most v x' (p + 3) out _ _ _ _ _ _ 288 fixL 32 fixD (by omega) _ hS2 hA2 hD2).mono ?_
      intro e w3 hO
      obtain ⟨k, rfl, hF⟩ := fin x' w2 w3 _ (by show _ = _; unfold kindE; rw [if_neg (by omega), if_pos rfl]) (hM1.trans hM2) e hO
      clear hO fin
      go_wp2
      go_ret2
      exact hF
    · have a3 : (X : Int) / 2 = 2 := by omega
      clear a1 hb t3 t4
      go_wp2_with fail
      refine (own_any B s b g len z most v x (p + 3) out _ hS1 T1 hB).mono ?_
      intro e w2 hO
      obtain ⟨k, rfl, hF⟩ := fin x w1 w2 _ (by show _ = _; unfold kindE ownB; rw [if_neg (by omega), if_neg (by omega), if_pos rfl]; rfl) hM1 e hO
      clear hO fin
      go_wp2
      go_ret2
      exact hF
    · have a3 : (X : Int) / 2 = 3 := by omega
      clear a1 hb t3 t4
      go_wp2
      go_ret2
      refine .inl ⟨2, v, d, by show _ = _; rw [HE.out]; rfl, by omega, rfl, hM1⟩
  · go_enter Tryd.func28, Tryd.ntmps28
    go_wp2_with fail
    refine (take_no B s b g len z most v x p out 3 (by omega) _ h hp).mono ?_
    rintro e w1 ⟨rfl, hM1⟩
    go_wp2
    go_ret2
    exact .inl ⟨3, v, false, by show _ = _; unfold blockE; rw [if_neg hp], by omega, rfl, hM1⟩
end Go.Proofs.YtahibacjaoohiaaDoor
