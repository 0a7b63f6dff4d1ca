
/-
  The reference's codes in memory.
-/
import Derived.Test.YtahibacjaoohiaaDoorRBits
import Derived.Test.YtahibacjaoohiaaDoorRead
namespace Go.Proofs.YtahibacjaoohiaaDoor
open Go.RowKit

/-- The reference's code in block rc: codes in gc, lengths in gl. -/
structure RCode (w : World) (rc gc gl capl N : Nat) (L : Nat → Nat) : Prop where
  few : N ≤ 320
  lcap : N ≤ capl
  each : ∀ i, i < N → L i ≤ 15
  ok : okc L N = true
  lc : gc < w.heap.size
  ll : gl < w.heap.size
  cs : w.cell? ⟨rc, 0, none⟩ = some (.slice (some ⟨gc, 0, none⟩) N N)
  ls : w.cell? ⟨rc, 1, none⟩ = some (.slice (some ⟨gl, 0, none⟩) N capl)
  c : ∀ i, i < N → w.cell? ⟨gc, i, none⟩ = some (.int .i64 (codev L N i : Nat))
  l : ∀ i, i < N → w.cell? ⟨gl, i, none⟩ = some (.int .i64 (L i : Nat))
theorem RCode.lo {w : World} {rc gc gl capl N : Nat} {L : Nat → Nat} (h : RCode w rc gc gl capl N L) : rc < w.heap.size := blk_lt_of_cell h.cs
theorem RCode.kept {S : Nat → Prop} {w w' : World} {rc gc gl capl N : Nat} {L : Nat → Nat} (h : RCode w rc gc gl capl N L) (k : Kept S w w') (h1 : ¬ S rc) (h2 : ¬ S gc) (h3 : ¬ S gl) : RCode w' rc gc gl capl N L := by
  have key : ∀ b i v, ¬ S b → w.cell? ⟨b, i, none⟩ = some v → w'.cell? ⟨b, i, none⟩ = some v := fun b i v hb hc => by
    rw [World.cell?_of_block (a := ⟨b, i, none⟩) (k.block b (blk_lt_of_cell hc) hb)]; exact hc
  exact ⟨h.few, h.lcap, h.each, h.ok, Nat.lt_of_lt_of_le h.lc k.size, Nat.lt_of_lt_of_le h.ll k.size, key _ _ _ h1 h.cs, key _ _ _ h1 h.ls, fun i hi => key _ _ _ h2 (h.c i hi), fun i hi => key _ _ _ h3 (h.l i hi)⟩
theorem RCode.below {w w' : World} {rc gc gl capl N : Nat} {L : Nat → Nat} (h : RCode w rc gc gl capl N L) (k : Below w.heap.size w w') : RCode w' rc gc gl capl N L :=
  h.kept (S := fun _ => False) (Kept.of_below k (Nat.le_refl _) _) id id id

/-- A symbol of length n whose code is c is the one that is told by counting. -/
theorem code_is {L : Nat → Nat} {N n c t : Nat} (ht : t < N) (h0 : 0 < n) (hl : L t = n) (hc : codev L N t = c) : ∃ r, c = first (cn L N) n + r ∧ r < cn L N n ∧ sym L n r N = t := by
  refine ⟨cnt L n t, ?_, ?_, sym_eq ht hl⟩
  · rw [← hc]; unfold codev; rw [if_neg (by omega), hl]
  · rw [cn_pos h0]; exact cnt_lt ht hl
/-- Where no symbol of length n has the code c, c is beyond all of them. -/
theorem code_none {L : Nat → Nat} {N n c : Nat} (h0 : 0 < n) (hf : first (cn L N) n ≤ c) (h : ∀ t, t < N → ¬ (L t = n ∧ codev L N t = c)) : ¬ c < first (cn L N) n + cn L N n := by
  intro hlt
  have hr : c - first (cn L N) n < cnt L n N := by rw [← cn_pos h0]; omega
  obtain ⟨h1, h2, h3⟩ := sym_is hr
  refine h _ h1 ⟨h2, ?_⟩
  unfold codev
  rw [if_neg (by omega), h2, h3]; omega

end Go.Proofs.YtahibacjaoohiaaDoor
