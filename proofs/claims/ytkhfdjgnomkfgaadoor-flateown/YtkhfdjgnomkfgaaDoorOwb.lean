/-
  The bits ahead of FlateOwn's codes, one by one; the pen beside the rows.
-/
import Derived.Test.YtkhfdjgnomkfgaaDoorOwa
import Derived.Test.YtkhfdjgnomkfgaaDoorFxd
namespace Go.Proofs.YtkhfdjgnomkfgaaDoor
open Go.RowKit

/-- The pen, made behind w4. -/
structure PS (w4 w : World) (up : Value) (bs : List Int) (at' : Nat) : Prop where
  pen : PenAt w w4.heap.size w4.heap.size up bs at'
  below : Below w4.heap.size w4 w
theorem PS.pend {w4 w w' : World} {up up' : Value} {bs bs' : List Int} {at' at2 : Nat} (h : PS w4 w up bs at') (m : PenM w4.heap.size up up' w w') (hp : PenAt w' w4.heap.size w4.heap.size up' bs' at2) : PS w4 w' up' bs' at2 :=
  ⟨hp, h.below.trans (m.below h.below.size h.pen.lo (fun k hk => (h.pen.lt k hk).1))⟩
theorem PS.to {w4 w w' : World} {up : Value} {bs : List Int} {at' : Nat} (h : PS w4 w up bs at') (hb : Below w.heap.size w w') : PS w4 w' up bs at' :=
  ⟨⟨Below.blk hb h.pen.obj (blk_lt h.pen.obj), h.pen.own.below hb, h.pen.inv, h.pen.lo, h.pen.small⟩, h.below.trans (hb.mono h.below.size)⟩
theorem ps_new (w : World) : PS w (w.alloc (.cells #[.slice none 0 0, .int .i64 0] 41)) (.slice none 0 0) [] 0 := ⟨pen_new w, (Below.refl _ w).alloc (Nat.le_refl _) _⟩
/-- The bit that is asked at p. -/
def tb (zs : List Int) (p : Nat) : Nat :=
  if p < 3 then 5 / 2 ^ p % 2 else if p < 13 then 0 else if p < 17 then 1 else
  if p < 74 then four ((p - 17) / 3) / 2 ^ ((p - 17) % 3) % 2 else
  if p < 1102 then (zs.getD ((p - 74) / 4) 0).toNat / 2 ^ (3 - (p - 74) % 4) % 2 else 0
def HeadT (zs bs : List Int) (at' : Nat) : Prop := ∀ p, p < at' → bit (zb bs) p = tb zs p
theorem HeadT.step {zs bs bs' : List Int} {at' n : Nat} {b : Nat → Nat} (h : HeadT zs bs at') (ho : ∀ p, p < at' → bit (zb bs') p = bit (zb bs) p) (hn : ∀ k, k < n → bit (zb bs') (at' + k) = b k) (hb : ∀ k, k < n → b k = tb zs (at' + k)) : HeadT zs bs' (at' + n) := fun p hp => by
  by_cases e : p < at'
  · rw [ho p e]; exact h p e
  · have h1 := hn (p - at') (by omega)
    have h2 := hb (p - at') (by omega)
    rw [show at' + (p - at') = p by omega] at h1 h2
    rw [h1, h2]
theorem tb0 (zs : List Int) (k : Nat) (h : k < 3) : 5 / 2 ^ k % 2 = tb zs (0 + k) := by unfold tb; rw [if_pos (by omega), Nat.zero_add]
theorem tb1 (zs : List Int) (q k : Nat) (h1 : 3 ≤ q) (h2 : q + k < 13) : 0 / 2 ^ k % 2 = tb zs (q + k) := by unfold tb; rw [if_neg (by omega), if_pos (by omega), Nat.zero_div]
theorem tb3 (zs : List Int) (k : Nat) (h : k < 4) : 15 / 2 ^ k % 2 = tb zs (13 + k) := by
  unfold tb
  rw [if_neg (by omega), if_neg (by omega), if_pos (by omega)]
  rcases (show k = 0 ∨ k = 1 ∨ k = 2 ∨ k = 3 by omega) with rfl | rfl | rfl | rfl <;> rfl
theorem tb4 (zs : List Int) (k j : Nat) (hk : k < 19) (h : j < 3) : four k / 2 ^ j % 2 = tb zs (17 + 3 * k + j) := by
  unfold tb
  rw [if_neg (by omega), if_neg (by omega), if_neg (by omega), if_pos (by omega), show (17 + 3 * k + j - 17) / 3 = k by omega, show (17 + 3 * k + j - 17) % 3 = j by omega]
theorem tb5 (zs : List Int) (i j : Nat) (hi : i < 257) (h : j < 4) : (zs.getD i 0).toNat / 2 ^ (4 - 1 - j) % 2 = tb zs (74 + 4 * i + j) := by
  unfold tb
  rw [if_neg (by omega), if_neg (by omega), if_neg (by omega), if_neg (by omega), if_pos (by omega), show (74 + 4 * i + j - 74) / 4 = i by omega, show 3 - (74 + 4 * i + j - 74) % 4 = 4 - 1 - j by omega]
theorem tb6 (zs : List Int) (j : Nat) (h : j < 4) : 0 / 2 ^ (4 - 1 - j) % 2 = tb zs (1102 + j) := by
  unfold tb
  rw [if_neg (by omega), if_neg (by omega), if_neg (by omega), if_neg (by omega), if_neg (by omega), Nat.zero_div]
theorem HeadT.head {zs bs : List Int} (h : HeadT zs bs 1106) : HeadO (zb bs) zs :=
  ⟨fun k hk => by rw [h _ (by omega)]; exact (tb0 zs k hk).symm, fun k hk => by rw [h _ (by omega)]; exact (tb1 zs 3 k (by omega) (by omega)).symm, fun k hk => by rw [h _ (by omega)]; exact (tb1 zs 8 k (by omega) (by omega)).symm,
   fun k hk => by rw [h _ (by omega)]; exact (tb3 zs k hk).symm, fun k hk j hj => by rw [h _ (by omega)]; exact (tb4 zs k j hk hj).symm, fun i hi j hj => by rw [h _ (by omega)]; exact (tb5 zs i j hi hj).symm, fun j hj => by rw [h _ (by omega)]; exact (tb6 zs j hj).symm⟩
theorem four_lo {k : Nat} (h : ord k < 16) : four k = 4 := by unfold four; rw [if_pos h]
theorem four_hi {k : Nat} (h : ¬ ord k < 16) : four k = 0 := by unfold four; rw [if_neg h]
theorem uses_two : Uses [256, 65] :=
  uses_one.more (s := 65) (by omega) (fun j hj => by
    obtain rfl : j = 0 := by simpa using hj
    decide)
theorem tree_two : Tree [1, 1] := .inr ⟨by decide, by decide⟩
theorem one_use {us : List Int} (h : us.length = 1) (h2 : us.getD 0 0 = 256) : us = [256] := by
  match us, h with
  | [x], _ => simp at h2; rw [h2]
end Go.Proofs.YtkhfdjgnomkfgaaDoor
