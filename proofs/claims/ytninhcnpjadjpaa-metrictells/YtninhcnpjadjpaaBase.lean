/-
  Plain facts on worlds: blocks that are known whole, rows by an index function, 'Kept S w w1' (no old block outside S has turned), slices of bytes ('Lies') and of ints ('Ints'). No Go text is walked here.
-/
import Derived.Test.YtninhcnpjadjpaaRows
import Derived.Test.YtninhcnpjadjpaaTail
import Derived.WalkKit
import Derived.WalkSpells
import Derived.Below
import Derived.Laws.IdiomStrings
import Derived.Deep.AppendSrc
import Derived.Deep.AppendLies
import Derived.Deep.Upon
import Derived.Laws.CopyOwn
import Derived.Laws.Rows
import Derived.BigQuiet
import Derived.Deep.RegionHeld3
import Derived.Deep.DeepAppendWide
import Derived.OwnWalk
namespace Go.Proofs.Ytninhcnpjadjpaa
open Go.RowKit

/-- Between w and w' no block that was there and does not lie in S has turned; no block has gone. -/
structure Kept (S : Nat → Prop) (w w' : World) : Prop where
  os : w'.os = w.os
  tape : w'.tape = w.tape
  output : w'.output = w.output
  size : w.heap.size ≤ w'.heap.size
  block : ∀ k, k < w.heap.size → ¬ S k → w'.heap[k]? = w.heap[k]?
theorem Kept.refl (S : Nat → Prop) (w : World) : Kept S w w := ⟨rfl, rfl, rfl, Nat.le_refl _, fun _ _ _ => rfl⟩
theorem Kept.trans {S : Nat → Prop} {a b c : World} (h : Kept S a b) (k : Kept S b c) : Kept S a c :=
  ⟨k.os.trans h.os, k.tape.trans h.tape, k.output.trans h.output, Nat.le_trans h.size k.size, fun i hi hs => (k.block i (Nat.lt_of_lt_of_le hi h.size) hs).trans (h.block i hi hs)⟩
theorem Kept.mono {S T : Nat → Prop} {w w' : World} (h : Kept S w w') (hs : ∀ k, k < w.heap.size → S k → T k) : Kept T w w' :=
  ⟨h.os, h.tape, h.output, h.size, fun k hk ht => h.block k hk (fun s => ht (hs k hk s))⟩
theorem Kept.drew {S : Nat → Prop} {a w : World} (h : Kept S a w) : Kept S a w.drew := ⟨h.os, h.tape, h.output, h.size, h.block⟩
theorem Kept.drewN {S : Nat → Prop} {a w : World} (h : Kept S a w) (n : Nat) : Kept S a (w.drewN n) := ⟨h.os, h.tape, h.output, h.size, h.block⟩
theorem Kept.alloc {S : Nat → Prop} {a w : World} (h : Kept S a w) (o : Obj) : Kept S a (w.alloc o) :=
  h.trans ⟨rfl, rfl, rfl, by simp, fun k hk _ => Below.heap_alloc _ _ _ hk⟩
theorem Kept.setCell {S : Nat → Prop} {a w : World} (h : Kept S a w) {p : Addr} (hp : S p.block ∨ a.heap.size ≤ p.block) (u : Value) : Kept S a (w.setCell p u) :=
  ⟨h.os, h.tape, h.output, by simpa using h.size, fun k hk hs => by
    rw [Below.heap_setCell _ _ _ _ (fun e => by subst e; rcases hp with hp | hp; exact hs hp; omega)]
    exact h.block k hk hs⟩
theorem Kept.set {b : Nat} {a w : World} (h : Kept (fun k => k = b) a w) (i : Nat) (u : Value) : Kept (fun k => k = b) a (w.setCell ⟨b, i, none⟩ u) := h.setCell (.inl rfl) u
/-- Blocks from B on alone have turned: 'Below'. -/
theorem Kept.below {S : Nat → Prop} {B : Nat} {w w' : World} (h : Kept S w w') (hB : B ≤ w.heap.size) (hS : ∀ k, S k → B ≤ k) : Below B w w' :=
  ⟨h.os, h.tape, h.output, h.size, fun k hk => h.block k (by omega) (fun s => by have := hS k s; omega)⟩
theorem Kept.of_below {B : Nat} {w w' : World} (h : Below B w w') (hB : w.heap.size ≤ B) (S : Nat → Prop) : Kept S w w' :=
  ⟨h.os, h.tape, h.output, h.size, fun k hk _ => h.block k (by omega)⟩
/-- A call behind others: what it turned lies beyond B. -/
theorem Below.kept {S : Nat → Prop} {B : Nat} {a w w' : World} (h : Below B a w) (k : Kept S w w') (hB : B ≤ a.heap.size) (hS : ∀ i, S i → B ≤ i) : Below B a w' :=
  h.trans (k.below (Nat.le_trans hB h.size) hS)
theorem below_drewN {B : Nat} {a w : World} (h : Below B a w) (n : Nat) : Below B a (w.drewN n) := ⟨h.os, h.tape, h.output, h.size, h.block⟩
theorem blk_cell {w : World} {b : Nat} {c : Array Value} {t : TypeId} {fr : Nat × Nat} (h : w.heap[b]? = some (.cells c t fr)) (i : Nat) : w.cell? ⟨b, i, none⟩ = c[i]? := by
  simp [World.cell?, h]
theorem blk_free {w : World} {b : Nat} {c : Array Value} {t : TypeId} (h : w.heap[b]? = some (.cells c t (0, 0))) (i : Nat) : w.frozen? ⟨b, i, none⟩ = false := by
  simp [World.frozen?, h]
theorem blk_lt {w : World} {b : Nat} {o : Obj} (h : w.heap[b]? = some o) : b < w.heap.size := by
  rcases Nat.lt_or_ge b w.heap.size with h' | h'
  · exact h'
  · rw [Array.getElem?_eq_none h'] at h; cases h
theorem blk_set {w : World} {b : Nat} {c : Array Value} {t : TypeId} {fr : Nat × Nat} (h : w.heap[b]? = some (.cells c t fr)) (i : Nat) (v : Value) :
    (w.setCell ⟨b, i, none⟩ v).heap[b]? = some (.cells (c.setIfInBounds i v) t fr) := by
  simp only [World.setCell, Array.getElem?_modify, if_true, h, Option.map_some]
  simp
theorem blk_new (w : World) (o : Obj) : (w.alloc o).heap[w.heap.size]? = some o := by
  show (w.heap.push o)[w.heap.size]? = _
  simp
theorem blk_alloc {w : World} {b : Nat} {o : Obj} (h : w.heap[b]? = some o) (o' : Obj) : (w.alloc o').heap[b]? = some o :=
  (Below.heap_alloc w o' b (blk_lt h)).trans h
theorem blk_drew {w : World} {b : Nat} : w.drew.heap[b]? = w.heap[b]? := rfl
theorem blk_other {w : World} {b : Nat} {a : Addr} (v : Value) (h : b ≠ a.block) : (w.setCell a v).heap[b]? = w.heap[b]? := Below.heap_setCell _ _ _ _ h
theorem Kept.blk {S : Nat → Prop} {w w' : World} (h : Kept S w w') {b : Nat} {o : Obj} (hb : w.heap[b]? = some o) (hs : ¬ S b) : w'.heap[b]? = some o := (h.block b (blk_lt hb) hs).trans hb
theorem Below.blk {B : Nat} {w w' : World} (h : Below B w w') {g : Nat} {o : Obj} (hg : w.heap[g]? = some o) (hB : g < B) : w'.heap[g]? = some o := (h.block g hB).trans hg
theorem add_none (b off n : Nat) : (⟨b, off, none⟩ : Addr).add n = ⟨b, off + n, none⟩ := by
  unfold Addr.add
  split
  · subst_vars; rfl
  · rfl
theorem blk_lt_of_cell {w : World} {a : Addr} {v : Value} (h : w.cell? a = some v) : a.block < w.heap.size := by
  unfold World.cell? at h
  rcases Nat.lt_or_ge a.block w.heap.size with h' | h'
  · exact h'
  · rw [Array.getElem?_eq_none h'] at h
    cases h
/-- n values, by an index function. -/
def arr (n : Nat) (f : Nat → Value) : Array Value := ((List.range n).map f).toArray
theorem arr_size (n : Nat) (f : Nat → Value) : (arr n f).size = n := by simp [arr]
theorem arr_get (n : Nat) (f : Nat → Value) (t : Nat) (h : t < n) : (arr n f)[t]? = some (f t) := by simp [arr, h]
theorem arr_set (n : Nat) (f : Nat → Value) (t : Nat) (v : Value) : (arr n f).setIfInBounds t v = arr n (fun s => if s = t then v else f s) := by
  apply Array.ext
  · simp [arr]
  · intro i h1 h2
    simp [arr] at h2
    simp [arr]
    by_cases e : t = i
    · subst e; simp
    · have : ¬ i = t := fun h => e h.symm
      simp [e, this]
theorem arr_congr (n : Nat) (f g : Nat → Value) (h : ∀ t, t < n → f t = g t) : arr n f = arr n g := by
  unfold arr; congr 1; exact List.map_congr_left fun t ht => h t (by simpa using ht)
theorem made_arr (z : Value) (n : Nat) : madeCells #[z] n = arr n (fun _ => z) := by
  have h := toList_madeCells_one z n
  have : madeCells #[z] n = (List.replicate n z).toArray := by rw [← h]
  rw [this]; unfold arr; congr 1
  apply List.ext_getElem?; intro i; by_cases hi : i < n <;> simp [hi]
theorem arr_cell {w : World} {b n : Nat} {f : Nat → Value} {T : TypeId} {fr : Nat × Nat} (h : w.heap[b]? = some (.cells (arr n f) T fr)) {t : Nat} (ht : t < n) : w.cell? ⟨b, t, none⟩ = some (f t) := by
  rw [blk_cell h, arr_get n f t ht]
theorem arr_blk_set {w : World} {b n : Nat} {f : Nat → Value} {T : TypeId} {fr : Nat × Nat} (h : w.heap[b]? = some (.cells (arr n f) T fr)) (t : Nat) (v : Value) :
    (w.setCell ⟨b, t, none⟩ v).heap[b]? = some (.cells (arr n fun s => if s = t then v else f s) T fr) := by
  rw [blk_set h, arr_set]
/-- The bytes z lie at a: len of them. -/
structure Lies (w : World) (a : Option Addr) (len cap : Nat) (z : Nat → Nat) : Prop where
  lc : len ≤ cap
  reach : len ≤ 200000000000000
  byte : ∀ i, z i < 256
  spot : 0 < len → ∃ b off, a = some ⟨b, off, none⟩ ∧ b < w.heap.size ∧ ∀ i, i < len → w.cell? ⟨b, off + i, none⟩ = some (.int .u8 (z i : Nat))
theorem Lies.below {w w' : World} {a : Option Addr} {len cap : Nat} {z : Nat → Nat} {B : Nat} (h : Lies w a len cap z) (hb : Below B w w') (hB : w.heap.size ≤ B) : Lies w' a len cap z := by
  refine ⟨h.lc, h.reach, h.byte, fun hl => ?_⟩
  obtain ⟨b, off, e, hlt, hc⟩ := h.spot hl
  refine ⟨b, off, e, by have := hb.size; omega, fun i hi => ?_⟩
  rw [World.cell?_of_block (a := ⟨b, off + i, none⟩) (hb.block b (by omega))]
  exact hc i hi
theorem Lies.none (w : World) (z : Nat → Nat) (hz : ∀ i, z i < 256) : Lies w .none 0 0 z := ⟨by omega, by omega, hz, fun h => by omega⟩
/-- The ints f lie at a: len of them. -/
structure Ints (w : World) (a : Option Addr) (len cap : Nat) (f : Nat → Int) : Prop where
  lc : len ≤ cap
  reach : len ≤ 17592186043904
  fit : ∀ i, -9223372036854775808 ≤ f i ∧ f i ≤ 9223372036854775807
  spot : 0 < len → ∃ b off, a = some ⟨b, off, none⟩ ∧ b < w.heap.size ∧ ∀ i, i < len → w.cell? ⟨b, off + i, none⟩ = some (.int .i64 (f i))
theorem Ints.below {w w' : World} {a : Option Addr} {len cap : Nat} {f : Nat → Int} {B : Nat} (h : Ints w a len cap f) (hb : Below B w w') (hB : w.heap.size ≤ B) : Ints w' a len cap f := by
  refine ⟨h.lc, h.reach, h.fit, fun hl => ?_⟩
  obtain ⟨b, off, e, hlt, hc⟩ := h.spot hl
  refine ⟨b, off, e, by have := hb.size; omega, fun i hi => ?_⟩
  rw [World.cell?_of_block (a := ⟨b, off + i, none⟩) (hb.block b (by omega))]
  exact hc i hi
theorem Ints.kept {S : Nat → Prop} {w w' : World} {a : Option Addr} {len cap : Nat} {f : Nat → Int} (h : Ints w a len cap f) (hb : Kept S w w') (hS : ∀ b off, a = some ⟨b, off, .none⟩ → b < w.heap.size → ¬ S b) : Ints w' a len cap f := by
  refine ⟨h.lc, h.reach, h.fit, fun hl => ?_⟩
  obtain ⟨b, off, e, hlt, hc⟩ := h.spot hl
  refine ⟨b, off, e, by have := hb.size; omega, fun i hi => ?_⟩
  rw [World.cell?_of_block (a := ⟨b, off + i, none⟩) (hb.block b hlt (hS b off e hlt))]
  exact hc i hi
theorem info_of {t : TypeId} {z : Value} {size bytes : Nat} (h : (Try.prog.info? t).map (fun i => (i.zero, i.size, i.bytes)) = some (some z, size, bytes)) : ∃ i, Try.prog.info? t = some i ∧ i.zero = some z ∧ i.bytes = bytes ∧ i.size = size := by
  obtain ⟨i, hi, he⟩ := Option.map_eq_some_iff.1 h
  simp at he
  exact ⟨i, hi, he.1, he.2.2, he.2.1⟩
theorem info5 : (Try.prog.info? 5).map (fun i => (i.zero, i.size, i.bytes)) = some (some (.int .u8 0), 1, 1) := by kernel_rfl
theorem info3 : (Try.prog.info? 3).map (fun i => (i.zero, i.size, i.bytes)) = some (some (.int .i64 0), 1, 8) := by kernel_rfl
theorem size5 : (Try.prog.info? 5).map (·.size) = some 1 := by kernel_rfl
theorem size3 : (Try.prog.info? 3).map (·.size) = some 1 := by kernel_rfl
theorem make22 (n : Nat) (hn : n ≤ 200000000000000) (W : World) : (Instr.makeSlice 29 (.int .i64 n) (.int .i64 n)).run Try.prog W = .ok (.slice (some ⟨W.heap.size, 0, none⟩) n n) (W.alloc (.cells (arr n fun _ => .int .u8 0) 5)) := by
  obtain ⟨i, hi, h1, h2, h3⟩ := info_of info5
  have h := run_make (P := Try.prog) W 29 5 i (.int .u8 0) Try.underlying29 hi h1 .i64 .i64 n n (by omega) (by omega) (by rw [h2]; omega) (by omega)
  rw [h, h3, Int.toNat_natCast, Nat.mul_one]
  show Result.ok _ (W.alloc (.cells (madeCells #[.int .u8 0] n) 5)) = _
  rw [made_arr]
theorem ret_int {k : IntKind} {a b : Int} (h : a = b) : Ending.returned (.int k a) = .returned (.int k b) := by rw [h]
theorem ret_bool {a b : Bool} (h : a = b) : Ending.returned (.bool a) = .returned (.bool b) := by rw [h]
end Go.Proofs.Ytninhcnpjadjpaa
