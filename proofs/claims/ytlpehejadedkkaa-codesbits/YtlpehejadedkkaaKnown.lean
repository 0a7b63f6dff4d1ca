/-
  versallaw7.known as a contract.
-/
import Derived.Test.YtlpehejadedkkaaRead
namespace Go.Proofs.Ytlpehejadedkkaa
open Go.RowKit

/-- A new block of ints, as a slice. -/
theorem ints_new {w : World} {g n : Nat} {f : Nat → Int} {T : TypeId} {fr : Nat × Nat} (hn : n ≤ 100000) (hf : ∀ i, -9223372036854775808 ≤ f i ∧ f i ≤ 9223372036854775807) (h : w.heap[g]? = some (.cells (arr n fun i => .int .i64 (f i)) T fr)) : Ints w (some ⟨g, 0, none⟩) n n f :=
  ⟨Nat.le_refl _, by omega, hf, fun _ => ⟨g, 0, rfl, blk_lt h, fun i hi => by rw [Nat.zero_add]; exact arr_cell h hi⟩⟩
theorem lies_new {w : World} {g n : Nat} {z : Nat → Nat} {T : TypeId} {fr : Nat × Nat} (hn : n ≤ 140737488351232) (hz : ∀ i, z i < 256) (h : w.heap[g]? = some (.cells (arr n fun i => .int .u8 (z i : Nat)) T fr)) : Lies w (some ⟨g, 0, none⟩) n n z :=
  ⟨Nat.le_refl _, hn, hz, fun _ => ⟨g, 0, rfl, blk_lt h, fun i hi => by rw [Nat.zero_add]; exact arr_cell h hi⟩⟩

/-- 2, 1, 3, 3. -/
def f4 (i : Nat) : Int := if i = 0 then 2 else if i = 1 then 1 else 3
theorem f4_arr : (#[.int .i64 2, .int .i64 1, .int .i64 3, .int .i64 3] : Array Value) = arr 4 fun i => .int .i64 (f4 i) := by
  simp [arr, f4, List.range, List.range.loop]
theorem f4_fit : ∀ i, -9223372036854775808 ≤ f4 i ∧ f4 i ≤ 9223372036854775807 := fun i => by unfold f4; split; omega; split <;> omega
theorem f4_good : GoodL f4 4 := ⟨by omega, fun i _ => by unfold f4; split; omega; split <;> omega, by decide⟩
def z7 (i : Nat) : Nat := if i = 0 then 7 else 0
theorem z7_arr : (#[.int .u8 7] : Array Value) = arr 1 fun i => .int .u8 (z7 i : Nat) := by simp [arr, z7, List.range, List.range.loop]

set_option maxRecDepth 100000 in
set_option maxHeartbeats 1600000 in
theorem known_any (w : World) : Calls Try.prog 8 #[] w fun e w' => e = .returned (.bool true) ∧ Below w.heap.size w w' := by
  go_enter Try.func8, Try.ntmps8
  go_wp2_with fail
  rw [f4_arr]
  have h1 := blk_new w (.cells (arr 4 fun i => .int .i64 (f4 i)) 3)
  have b1 : Below w.heap.size w (w.alloc (.cells (arr 4 fun i => .int .i64 (f4 i)) 3)) := (Below.refl _ _).alloc (Nat.le_refl _) _
  refine (new_any _ 4 4 f4 _ (ints_new (by omega) f4_fit h1)).mono ?_
  rintro e w2 ⟨b2, ⟨hbad, _⟩ | ⟨_, o, gw, gs, h3, h4, h5, rfl, hC⟩⟩
  · exact absurd f4_good hbad
  have B2 := b1.trans (b2.mono (by simp))
  simp only [World.size_alloc] at h3 h4 h5
  clear b1 b2 h1
  go_wp2_with fail
  refine (of_any o gw gs 4 _ 0 (by omega) _ hC).mono ?_
  rintro e w3 ⟨rfl, b3⟩
  rw [show codev (fun i => (f4 i).toNat) 4 0 = 2 by decide, show (f4 0).toNat = 2 from rfl]
  have hC3 := hC.below b3
  have B3 := B2.trans (b3.mono B2.size)
  clear hC b3 B2
  go_wp2_with fail
  refine (of_any o gw gs 4 _ 3 (by omega) _ hC3).mono ?_
  rintro e w4 ⟨rfl, b4⟩
  rw [show codev (fun i => (f4 i).toNat) 4 3 = 7 by decide, show (f4 3).toNat = 3 from rfl]
  have hC4 := hC3.below b4
  have B4 := B3.trans (b4.mono B3.size)
  clear hC3 b4 B3
  go_wp2_with fail
  rw [z7_arr]
  have h6 := blk_new w4 (.cells (arr 1 fun i => .int .u8 (z7 i : Nat)) 5)
  have b5 : Below w4.heap.size w4 (w4.alloc (.cells (arr 1 fun i => .int .u8 (z7 i : Nat)) 5)) := (Below.refl _ _).alloc (Nat.le_refl _) _
  refine (newbits_any _ 1 1 z7 _ (lies_new (by omega) (fun i => by unfold z7; split <;> omega) h6)).mono ?_
  rintro e w5 ⟨b, g, rfl, hB, h7, h8, b6⟩
  have hC5 := (hC4.below b5).below b6
  have B5 := (B4.trans (b5.mono B4.size)).trans (b6.mono (Nat.le_trans B4.size b5.size))
  have ho := blk_lt_of_cell hC4.words
  have hgw := hC4.lw
  have hgs := hC4.ls
  simp only [World.size_alloc] at h7 h8
  clear hC4 b5 b6 h6
  go_wp2_with fail
  refine (read_any o gw gs 4 _ b g 1 z7 0 _ hC5 hB (by omega) (by omega) (by omega)).mono ?_
  rintro e w6 ⟨rfl, hB6, k6⟩
  rw [show rdv (fun i => (f4 i).toNat) 4 (bit z7) (8 * 1) 0 = (3, true, 3) by decide]
  have B6 : Below w.heap.size w w6 := Below.kept B5 k6 (Nat.le_refl _) (fun k hk => by have := B4.size; omega)
  clear hB6 k6 hC5 hB B5 B4
  go_wp2
  go_ret
  exact ⟨rfl, B6⟩
end Go.Proofs.Ytlpehejadedkkaa
