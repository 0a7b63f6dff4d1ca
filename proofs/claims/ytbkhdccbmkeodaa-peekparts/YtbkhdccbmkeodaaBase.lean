/-
  Plain facts on worlds and on rows of bytes: 'Lies w a len cap z': the slice at a holds the bytes z 0 .. z (len - 1). No Go text is walked here.
-/
import Derived.Test.YtbkhdccbmkeodaaRows
import Derived.WalkKit
import Derived.WalkSpells
import Derived.Below
import Derived.Laws.IdiomStrings
import Derived.Deep.AppendSrc
import Derived.Deep.Upon
import Derived.Laws.CopyOwn
namespace Go.Proofs.Ytbkhdccbmkeodaa
open Go.RowKit

theorem blk_cell {w : World} {b : Nat} {c : Array Value} {t : TypeId} {fr : Nat × Nat} (h : w.heap[b]? = some (.cells c t fr)) (i : Nat) : w.cell? ⟨b, i, none⟩ = c[i]? := by
  simp [World.cell?, h]
theorem blk_free {w : World} {b : Nat} {c : Array Value} {t : TypeId} (h : w.heap[b]? = some (.cells c t (0, 0))) (i : Nat) : w.frozen? ⟨b, i, none⟩ = false := by
  simp [World.frozen?, h]
theorem blk_lt {w : World} {b : Nat} {o : Obj} (h : w.heap[b]? = some o) : b < w.heap.size := by
  rcases Nat.lt_or_ge b w.heap.size with h' | h'
  · exact h'
  · rw [Array.getElem?_eq_none h'] at h; cases h
theorem blk_set {w : World} {b : Nat} {c : Array Value} {t : TypeId} {fr : Nat × Nat} (h : w.heap[b]? = some (.cells c t fr)) (i : Nat) (v : Value) :
    (w.setCell ⟨b, i, none⟩ v).heap[b]? = some (.cells (c.setIfInBounds i v) t fr) := by
  simp only [World.setCell, Array.getElem?_modify, if_true, h, Option.map_some]
  simp
theorem blk_new (w : World) (o : Obj) : (w.alloc o).heap[w.heap.size]? = some o := by
  show (w.heap.push o)[w.heap.size]? = _
  simp
theorem blk_alloc {w : World} {b : Nat} {o : Obj} (h : w.heap[b]? = some o) (o' : Obj) : (w.alloc o').heap[b]? = some o :=
  (Below.heap_alloc w o' b (blk_lt h)).trans h

theorem add_none (b off n : Nat) : (⟨b, off, none⟩ : Addr).add n = ⟨b, off + n, none⟩ := by
  unfold Addr.add
  split
  · subst_vars; rfl
  · rfl

theorem blk_lt_of_cell {w : World} {a : Addr} {v : Value} (h : w.cell? a = some v) : a.block < w.heap.size := by
  unfold World.cell? at h
  rcases Nat.lt_or_ge a.block w.heap.size with h' | h'
  · exact h'
  · rw [Array.getElem?_eq_none h'] at h
    cases h

/-- n values, by an index function. -/
def arr (n : Nat) (f : Nat → Value) : Array Value := ((List.range n).map f).toArray
theorem arr_size (n : Nat) (f : Nat → Value) : (arr n f).size = n := by simp [arr]
theorem arr_get (n : Nat) (f : Nat → Value) (t : Nat) (h : t < n) : (arr n f)[t]? = some (f t) := by simp [arr, h]

/-- The bytes z lie at a: len of them. -/
structure Lies (w : World) (a : Option Addr) (len cap : Nat) (z : Nat → Nat) : Prop where
  lc : len ≤ cap
  reach : len ≤ 140737488351232
  byte : ∀ i, z i < 256
  spot : 0 < len → ∃ b off, a = some ⟨b, off, none⟩ ∧ b < w.heap.size ∧ ∀ i, i < len → w.cell? ⟨b, off + i, none⟩ = some (.int .u8 (z i : Nat))

theorem Lies.below {w w' : World} {a : Option Addr} {len cap : Nat} {z : Nat → Nat} {B : Nat} (h : Lies w a len cap z) (hb : Below B w w') (hB : w.heap.size ≤ B) : Lies w' a len cap z := by
  refine ⟨h.lc, h.reach, h.byte, fun hl => ?_⟩
  obtain ⟨b, off, e, hlt, hc⟩ := h.spot hl
  refine ⟨b, off, e, by have := hb.size; omega, fun i hi => ?_⟩
  rw [World.cell?_of_block (a := ⟨b, off + i, none⟩) (hb.block b (by omega))]
  exact hc i hi

/-- What is cut off in front. -/
theorem Lies.cut {w : World} {a : Option Addr} {len cap : Nat} {z : Nat → Nat} (h : Lies w a len cap z) (p : Nat) (hp : p ≤ len) (n : Nat) (hn : n ≤ len - p) :
    Lies w (if p = cap then a else a.map (·.add p)) n (cap - p) (fun i => z (p + i)) := by
  have h1 := h.lc
  have h2 := h.reach
  refine ⟨by omega, by omega, fun i => h.byte _, fun hl => ?_⟩
  obtain ⟨b, off, e, hlt, hc⟩ := h.spot (by omega)
  rw [if_neg (by omega), e]
  exact ⟨b, off + p, by simp [add_none], hlt, fun i hi => by rw [Nat.add_assoc]; exact hc (p + i) (by omega)⟩

theorem Lies.none (w : World) (z : Nat → Nat) (hz : ∀ i, z i < 256) : Lies w .none 0 0 z := ⟨by omega, by omega, hz, fun h => by omega⟩

/-- The bytes as a string. -/
def bstr (z : Nat → Nat) (n : Nat) : ByteArray := ⟨((List.range n).map fun i => UInt8.ofNat (z i)).toArray⟩

theorem bytes22 : Try.prog.underlying 22 = some (.slice 5) := Try.underlying22
theorem conv_string {w : World} {a : Option Addr} {len cap : Nat} {z : Nat → Nat} (h : Lies w a len cap z) : (convert 22 9 (.slice a len cap)).run Try.prog w = .ok (.string (bstr z len)) w := by
  by_cases h0 : len = 0
  · subst h0
    rw [run_convert_bytes_string w 22 9 5 a 0 cap Try.underlying22 Try.underlying5 Try.underlying9]
    cases a <;> kernel_rfl
  · obtain ⟨b, off, rfl, _, hc⟩ := h.spot (by omega)
    have := run_convert_bytes_back (P := Try.prog) w 22 9 5 ⟨b, off, .none⟩ cap ((List.range len).map fun i => UInt8.ofNat (z i)) Try.underlying22 Try.underlying5 Try.underlying9 (fun j hj => by
      rw [add_none, hc j (by simpa using hj)]
      have := h.byte j
      simp
      omega)
    simpa [bstr] using this
theorem bstr_congr {z z' : Nat → Nat} {n : Nat} (h : ∀ i, i < n → z i = z' i) : bstr z n = bstr z' n := by
  unfold bstr; congr 2; exact List.map_congr_left fun i hi => by rw [h i (List.mem_range.1 hi)]
end Go.Proofs.Ytbkhdccbmkeodaa
