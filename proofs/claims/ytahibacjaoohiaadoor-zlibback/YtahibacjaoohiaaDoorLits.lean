
/-
  New blocks as slices of ints and of bytes. No Go text is walked here.
-/
import Derived.Test.YtahibacjaoohiaaDoorRead
namespace Go.Proofs.YtahibacjaoohiaaDoor
open Go.RowKit

/-- A new block of ints, as a slice. -/
theorem ints_new {w : World} {g n : Nat} {f : Nat → Int} {T : TypeId} {fr : Nat × Nat} (hn : n ≤ 100000) (hf : ∀ i, -9223372036854775808 ≤ f i ∧ f i ≤ 9223372036854775807) (h : w.heap[g]? = some (.cells (arr n fun i => .int .i64 (f i)) T fr)) : Ints w (some ⟨g, 0, none⟩) n n f :=
  ⟨Nat.le_refl _, by omega, hf, fun _ => ⟨g, 0, rfl, blk_lt h, fun i hi => by rw [Nat.zero_add]; exact arr_cell h hi⟩⟩
theorem lies_new {w : World} {g n : Nat} {z : Nat → Nat} {T : TypeId} {fr : Nat × Nat} (hn : n ≤ 200000000000000) (hz : ∀ i, z i < 256) (h : w.heap[g]? = some (.cells (arr n fun i => .int .u8 (z i : Nat)) T fr)) : Lies w (some ⟨g, 0, none⟩) n n z :=
  ⟨Nat.le_refl _, hn, hz, fun _ => ⟨g, 0, rfl, blk_lt h, fun i hi => by rw [Nat.zero_add]; exact arr_cell h hi⟩⟩

end Go.Proofs.YtahibacjaoohiaaDoor
