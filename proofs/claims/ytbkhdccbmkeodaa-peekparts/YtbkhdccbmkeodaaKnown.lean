/-
  'known', chapter 2's example, as a contract.
-/
import Derived.Test.YtbkhdccbmkeodaaRefPart
namespace Go.Proofs.Ytbkhdccbmkeodaa
open Go.RowKit

/-- A row of bytes, written out. -/
def row (L : List Nat) : Nat → Nat := fun i => L.getD i 0
theorem lies_row {w : World} {g : Nat} (L : List Nat) (hL : ∀ x ∈ L, x < 256) (hl : L.length ≤ 1000) {fr : Nat × Nat} (h : w.heap[g]? = some (.cells (L.map fun x => Value.int .u8 (x : Nat)).toArray 5 fr)) : Lies w (some ⟨g, 0, none⟩) L.length L.length (row L) := by
  refine ⟨Nat.le_refl _, by omega, fun i => ?_, fun _ => ⟨g, 0, rfl, blk_lt h, fun i hi => ?_⟩⟩
  · unfold row
    rw [List.getD_eq_getElem?_getD]
    cases e : L[i]? with
    | none => simp
    | some x => simp; exact hL x (List.mem_of_getElem? e)
  · rw [blk_cell h]
    simp [row, List.getD_eq_getElem?_getD, hi]

set_option maxRecDepth 100000 in
set_option maxHeartbeats 800000 in
theorem known_any (w : World) : Calls Try.prog 13 #[] w fun e w' => e = .returned (.bool true) ∧ Below w.heap.size w w' := by
  obtain ⟨W1, hW1⟩ : ∃ W1, W1 = w.alloc (.cells #[.int .u8 255, .int .u8 254] 5) := ⟨_, rfl⟩
  have l1 : Lies W1 (some ⟨w.heap.size, 0, none⟩) 2 2 (row [255, 254]) := lies_row [255, 254] (by decide) (by decide) (by rw [hW1]; exact blk_new w _)
  have b1 : Below w.heap.size w W1 := by rw [hW1]; exact (Below.refl _ _).alloc (Nat.le_refl _) _
  have HW1 : Hid (W1 = w.alloc (.cells #[.int .u8 255, .int .u8 254] 5)) := hW1
  obtain ⟨W2, hW2⟩ : ∃ W2, W2 = W1.alloc (.cells #[.int .u8 9, .int .u8 1, .int .u8 2, .int .u8 3, .int .u8 4] 5) := ⟨_, rfl⟩
  have l2 : Lies W2 (some ⟨W1.heap.size, 0, none⟩) 5 5 (row [9, 1, 2, 3, 4]) := lies_row [9, 1, 2, 3, 4] (by decide) (by decide) (by rw [hW2]; exact blk_new W1 _)
  have b2 : Below w.heap.size w W2 := by rw [hW2]; exact b1.alloc b1.size _
  have HW2 : Hid (W2 = W1.alloc (.cells #[.int .u8 9, .int .u8 1, .int .u8 2, .int .u8 3, .int .u8 4] 5)) := hW2
  clear hW1 hW2
  go_enter Try.func13, Try.ntmps13
  go_wp2_with fail
  rw [← HW1.out]
  refine (i16_any _ _ _ _ _ _ l1 (by decide)).mono ?_
  rintro e w' ⟨rfl, rfl⟩
  rw [show sgn (row [255, 254]) 2 0 2 = -2 by decide, show there 2 0 2 = true by decide]
  go_wp2_with fail
  rw [← HW2.out]
  refine (u32_any _ _ _ _ _ _ l2 (by decide)).mono ?_
  rintro e w' ⟨rfl, rfl⟩
  rw [show tell (row [9, 1, 2, 3, 4]) 5 1 4 = 16909060 by decide, show there 5 1 4 = true by decide]
  go_wp2
  go_ret
  exact ⟨rfl, b2⟩
end Go.Proofs.Ytbkhdccbmkeodaa
