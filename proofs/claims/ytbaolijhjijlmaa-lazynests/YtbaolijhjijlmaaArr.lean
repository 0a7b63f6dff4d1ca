/-
  Arrays of a known length by an index function; make of ints and bools; a row of lazy cells that a loop builds, one round at a time.
-/
import Derived.Test.YtbaolijhjijlmaaPick
import Derived.Deep.AppendLies
namespace Go.Proofs.Ytbaolijhjijlmaa
open Go.RowKit

/-- n values, by an index function. -/
def arr (n : Nat) (f : Nat → Value) : Array Value := ((List.range n).map f).toArray

theorem arr_size (n : Nat) (f : Nat → Value) : (arr n f).size = n := by simp [arr]
theorem arr_get (n : Nat) (f : Nat → Value) (t : Nat) (h : t < n) : (arr n f)[t]? = some (f t) := by simp [arr, h]
theorem arr_set (n : Nat) (f : Nat → Value) (t : Nat) (v : Value) : (arr n f).setIfInBounds t v = arr n (fun s => if s = t then v else f s) := by
  apply Array.ext
  · simp [arr]
  · intro i h1 h2
    simp [arr] at h2
    simp [arr]
    by_cases e : t = i
    · subst e; simp
    · have : ¬ i = t := fun h => e h.symm
      simp [e, this]
theorem arr_congr (n : Nat) (f g : Nat → Value) (h : ∀ t, t < n → f t = g t) : arr n f = arr n g := by
  unfold arr; congr 1; exact List.map_congr_left fun t ht => h t (by simpa using ht)
theorem made_arr (z : Value) (n : Nat) : madeCells #[z] n = arr n (fun _ => z) := by
  have h := toList_madeCells_one z n
  have : madeCells #[z] n = (List.replicate n z).toArray := by rw [← h]
  rw [this]; unfold arr; congr 1
  apply List.ext_getElem?; intro i; by_cases hi : i < n <;> simp [hi]

theorem arr_cell {w : World} {b n : Nat} {f : Nat → Value} {T : TypeId} {fr : Nat × Nat} (h : w.heap[b]? = some (.cells (arr n f) T fr)) {t : Nat} (ht : t < n) : w.cell? ⟨b, t, none⟩ = some (f t) := by
  rw [blk_cell h, arr_get n f t ht]
theorem arr_blk_set {w : World} {b n : Nat} {f : Nat → Value} {T : TypeId} {fr : Nat × Nat} (h : w.heap[b]? = some (.cells (arr n f) T fr)) (t : Nat) (v : Value) :
    (w.setCell ⟨b, t, none⟩ v).heap[b]? = some (.cells (arr n fun s => if s = t then v else f s) T fr) := by
  rw [blk_set h, arr_set]

theorem info_of {t : TypeId} {z : Value} {size bytes : Nat} (h : (Try.prog.info? t).map (fun i => (i.zero, i.size, i.bytes)) = some (some z, size, bytes)) : ∃ i, Try.prog.info? t = some i ∧ i.zero = some z ∧ i.bytes = bytes ∧ i.size = size := by
  obtain ⟨i, hi, he⟩ := Option.map_eq_some_iff.1 h
  simp at he
  exact ⟨i, hi, he.1, he.2.2, he.2.1⟩
theorem info3 : (Try.prog.info? 3).map (fun i => (i.zero, i.size, i.bytes)) = some (some (.int .i64 0), 1, 8) := by kernel_rfl
theorem info4 : (Try.prog.info? 4).map (fun i => (i.zero, i.size, i.bytes)) = some (some (.bool false), 1, 1) := by kernel_rfl
theorem info22 : (Try.prog.info? 22).map (fun i => (i.zero, i.size, i.bytes)) = some (some (.pointer none), 1, 8) := by kernel_rfl

theorem make37 (n : Nat) (hn : n ≤ 1000) (W : World) : (Instr.makeSlice 37 (.int .i64 n) (.int .i64 n)).run Try.prog W = .ok (.slice (some ⟨W.heap.size, 0, none⟩) n n) (W.alloc (.cells (arr n fun _ => .int .i64 0) 3)) := by
  obtain ⟨i, hi, h1, h2, h3⟩ := info_of info3
  have h := run_make (P := Try.prog) W 37 3 i (.int .i64 0) Try.underlying37 hi h1 .i64 .i64 n n (by omega) (by omega) (by rw [h2]; omega) (by omega)
  rw [h, h3, Int.toNat_natCast, Nat.mul_one]
  show Result.ok _ (W.alloc (.cells (madeCells #[.int .i64 0] n) 3)) = _
  rw [made_arr]
theorem make38 (n : Nat) (hn : n ≤ 1000) (W : World) : (Instr.makeSlice 38 (.int .i64 n) (.int .i64 n)).run Try.prog W = .ok (.slice (some ⟨W.heap.size, 0, none⟩) n n) (W.alloc (.cells (arr n fun _ => .bool false) 4)) := by
  obtain ⟨i, hi, h1, h2, h3⟩ := info_of info4
  have h := run_make (P := Try.prog) W 38 4 i (.bool false) Try.underlying38 hi h1 .i64 .i64 n n (by omega) (by omega) (by rw [h2]; omega) (by omega)
  rw [h, h3, Int.toNat_natCast, Nat.mul_one]
  show Result.ok _ (W.alloc (.cells (madeCells #[.bool false] n) 4)) = _
  rw [made_arr]

/-- j cells have been built: the row of their pointers, each one's block, each one's own variable. -/
structure Built (K : Nat) (capf : Nat → Array Value) (base : Nat) (ws : World) (j : Nat) (v : Value) (cb iv : Nat → Nat) (wr : World) : Prop where
  below : Below base ws wr
  own : wr.ownsRow base 22 1 v j ((List.range j).map fun t => Value.pointer (some ⟨cb t, 0, none⟩))
  cell : ∀ t, t < j → base ≤ cb t ∧ wr.heap[cb t]? = some (cobj 0 0 0 0 (.func (.func K) #[] (capf (iv t))) 0)
  var : ∀ t, t < j → base ≤ iv t ∧ wr.heap[iv t]? = some (.cells #[.int .i64 t] 3)
  apart : ∀ s t, s < j → t < j → cb s = cb t → s = t

def put (f : Nat → Nat) (j b : Nat) : Nat → Nat := fun t => if t = j then b else f t

theorem own_block {w : World} {base : Nat} {e : TypeId} {v : Value} {n : Nat} {xs : List Value} (h : w.ownsRow base e 1 v n xs) {g : Nat} (hg : v.ownBlock = some g) : base ≤ g ∧ ∃ cur, w.heap[g]? = some (.cells cur e (0, 0)) := by
  rcases h.2 with ⟨rfl, _⟩ | ⟨g', cap, cur, rfl, hb, hg', _⟩
  · simp [Value.ownBlock] at hg
  · simp [Value.ownBlock] at hg; subst hg; exact ⟨hb, cur, hg'⟩

/-- What was there, of another type than the row's elements, is there behind the append. -/
theorem grown_old {wr w2 : World} {x y : Obj} {base n : Nat} {v : Value} {xs : List Value} (hown : wr.ownsRow base 22 1 v n xs) (hgrow : ((wr.alloc x).alloc y).grownBy w2 v.ownBlock) {k : Nat} {o : Obj} (hk : wr.heap[k]? = some o) (ho : ∀ cur, o ≠ Obj.cells cur 22 (0, 0)) : w2.heap[k]? = some o := by
  have hlt := blk_lt hk
  have h1 := hgrow.block k (by simp; omega) (fun e => by
    obtain ⟨_, cur, hc⟩ := own_block hown e.symm
    rw [hk] at hc; exact ho cur (by simpa using hc))
  exact h1.trans (blk_alloc (blk_alloc hk _) _)

/-- ONE ROUND: the new cell at W's end, its pointer laid into a block behind it, the row grown by it, the next variable behind all. -/
theorem Built.step {K : Nat} {capf : Nat → Array Value} {base : Nat} {ws : World} {j p : Nat} {v v' : Value} {cb iv : Nat → Nat} {wr w2 wn : World} (h : Built K capf base ws j v cb iv wr)
    (hp : base ≤ p ∧ wr.heap[p]? = some (.cells #[.int .i64 j] 3)) (hbase : base ≤ wr.heap.size)
    (hgrow : ((wr.alloc (cobj 0 0 0 0 (.func (.func K) #[] (capf p)) 0)).alloc (.cells #[.pointer (some ⟨wr.heap.size, 0, none⟩)] 22)).grownBy w2 v.ownBlock)
    (hown : w2.ownsRow base 22 1 v' (j + 1) (((List.range j).map fun t => Value.pointer (some ⟨cb t, 0, none⟩)) ++ [.pointer (some ⟨wr.heap.size, 0, none⟩)]))
    (hn : wn = w2.alloc (.cells #[.int .i64 (j + 1)] 3)) :
    Built K capf base ws (j + 1) v' (put cb j wr.heap.size) (put iv j p) wn ∧ base ≤ w2.heap.size ∧ wn.heap[w2.heap.size]? = some (.cells #[.int .i64 (j + 1 : Nat)] 3) ∧ base ≤ wn.heap.size := by
  have hs := hgrow.size
  simp at hs
  have old : ∀ (k : Nat) (o : Obj), wr.heap[k]? = some o → (∀ cur, o ≠ Obj.cells cur 22 (0, 0)) → wn.heap[k]? = some o := by
    intro k o hk ho
    have hlt := blk_lt hk
    have h1 := hgrow.block k (by simp; omega) (fun e => by
      obtain ⟨_, cur, hc⟩ := own_block h.own e.symm
      rw [hk] at hc; exact ho cur (by simpa using hc))
    rw [hn]
    exact blk_alloc (h1.trans (blk_alloc (blk_alloc hk _) _)) _
  have new : wn.heap[wr.heap.size]? = some (cobj 0 0 0 0 (.func (.func K) #[] (capf p)) 0) := by
    have h1 := hgrow.block wr.heap.size (by simp; omega) (fun e => by
      obtain ⟨_, cur, hc⟩ := own_block h.own e.symm
      have := blk_lt hc; omega)
    rw [hn]
    exact blk_alloc (h1.trans (blk_alloc (blk_new wr _) _)) _
  refine ⟨⟨?_, ?_, ?_, ?_, ?_⟩, by omega, ?_, ?_⟩
  · have b1 : Below base ws w2 := (((h.below.alloc hbase _).alloc (by simp; omega) _).grown hgrow (by simp; omega) (fun k e => (own_block h.own e).1))
    rw [hn]; exact b1.alloc (by omega) _
  · rw [List.range_succ, List.map_append]
    have e1 : ((List.range j).map fun t => Value.pointer (some ⟨put cb j wr.heap.size t, 0, none⟩)) = (List.range j).map fun t => Value.pointer (some ⟨cb t, 0, none⟩) :=
      List.map_congr_left fun t ht => by have : t ≠ j := by have := List.mem_range.1 ht; omega
                                         simp [put, this]
    rw [e1]
    have e2 : ([j].map fun t => Value.pointer (some ⟨put cb j wr.heap.size t, 0, none⟩)) = [.pointer (some ⟨wr.heap.size, 0, none⟩)] := by simp [put]
    rw [e2, hn]
    exact hown.alloc _
  · intro t ht
    by_cases e : t = j
    · subst e; simp only [put, if_true]; exact ⟨hbase, new⟩
    · obtain ⟨h1, h2⟩ := h.cell t (by omega)
      simp only [put, e, if_false]; exact ⟨h1, old _ _ h2 (by simp)⟩
  · intro t ht
    by_cases e : t = j
    · subst e; simp only [put, if_true]; exact ⟨hp.1, old _ _ hp.2 (by simp)⟩
    · obtain ⟨h1, h2⟩ := h.var t (by omega)
      simp only [put, e, if_false]; exact ⟨h1, old _ _ h2 (by simp)⟩
  · intro s t hs' ht' e
    by_cases es : s = j <;> by_cases et : t = j
    · omega
    · have := blk_lt (h.cell t (by omega)).2
      simp [put, es, et] at e; omega
    · have := blk_lt (h.cell s (by omega)).2
      simp [put, es, et] at e; omega
    · simp [put, es, et] at e; exact h.apart s t (by omega) (by omega) e
  · rw [hn]; exact blk_new w2 _
  · rw [hn]; simp; omega
end Go.Proofs.Ytbaolijhjijlmaa
