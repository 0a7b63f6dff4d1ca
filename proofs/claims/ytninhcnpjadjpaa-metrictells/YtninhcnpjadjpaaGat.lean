/-
  Tags and tables that a law gathers, one by one; the law's 'tables' as a contract.
-/
import Derived.Test.YtninhcnpjadjpaaRop
import Derived.Test.YtninhcnpjadjpaaPur
namespace Go.Proofs.Ytninhcnpjadjpaa
open Go.RowKit

/-- k1 tags and k2 tables, gathered. -/
structure Gath (w : World) (base k1 k2 : Nat) (v1 v2 : Value) (s : Nat → ByteArray) (t : Nat → Tab) : Prop where
  o1 : w.ownsRow base 9 1 v1 k1 ((List.range k1).map fun i => .string (s i))
  o2 : w.ownsRow base 29 1 v2 k2 ((List.range k2).map fun i => .slice (t i).a (t i).l (t i).c)
  each : ∀ i, i < k2 → Lies5 w (t i) ∧ (t i).l ≤ 100
theorem Gath.nil (w : World) (base : Nat) (s : Nat → ByteArray) (t : Nat → Tab) : Gath w base 0 0 (.slice .none 0 0) (.slice .none 0 0) s t := ⟨World.ownsRow_nil _ _ _ _, World.ownsRow_nil _ _ _ _, fun i hi => by omega⟩
theorem Gath.below {w w' : World} {base k1 k2 : Nat} {v1 v2 : Value} {s : Nat → ByteArray} {t : Nat → Tab} (h : Gath w base k1 k2 v1 v2 s t) (hb : Below w.heap.size w w') : Gath w' base k1 k2 v1 v2 s t :=
  ⟨ownr_below h.o1 hb, ownr_below h.o2 hb, fun i hi => ⟨(h.each i hi).1.same (Same5.of_below hb), (h.each i hi).2⟩⟩
theorem Gath.apart {w : World} {base k1 k2 : Nat} {v1 v2 : Value} {s : Nat → ByteArray} {t : Nat → Tab} (h : Gath w base k1 k2 v1 v2 s t) {q : Nat} (h1 : v1.ownBlock = some q) : v2.ownBlock ≠ some q := fun h2 => by
  obtain ⟨x, hx⟩ := ownr_blk_of h.o1 h1
  obtain ⟨y, hy⟩ := ownr_blk_of h.o2 h2
  rw [hx] at hy; cases hy
/-- One tag more. -/
theorem Gath.tag {w w' : World} {base k k2 : Nat} {v1 v1' v2 : Value} {s : Nat → ByteArray} {t : Nat → Tab} {T : ByteArray} (h : Gath w base k k2 v1 v2 s t) (hs : s k = T)
    (ho : w'.ownsRow base 9 1 v1' (k + 1) (((List.range k).map fun i => .string (s i)) ++ [.string T])) (hsz : w.heap.size ≤ w'.heap.size) (hr : ∀ q, q < w.heap.size → v1.ownBlock ≠ some q → w'.heap[q]? = w.heap[q]?) : Gath w' base (k + 1) k2 v1' v2 s t :=
  ⟨by rw [range_snoc, hs]; exact ho, ownr_blk h.o2 fun q hq => hr q (World.ownsRow.lt h.o2 q hq).2 (fun e => h.apart e hq), fun i hi => ⟨(h.each i hi).1.same (same5_app h.o1 (by decide) hsz hr), (h.each i hi).2⟩⟩
/-- One table more. -/
theorem Gath.tab {w w' : World} {base k1 k : Nat} {v1 v2 v2' : Value} {s : Nat → ByteArray} {t : Nat → Tab} {T : Tab} (h : Gath w base k1 k v1 v2 s t) (hT : Lies5 w T) (hl : T.l ≤ 100)
    (ho : w'.ownsRow base 29 1 v2' (k + 1) (((List.range k).map fun i => .slice (t i).a (t i).l (t i).c) ++ [.slice T.a T.l T.c])) (hsz : w.heap.size ≤ w'.heap.size) (hr : ∀ q, q < w.heap.size → v2.ownBlock ≠ some q → w'.heap[q]? = w.heap[q]?) : Gath w' base k1 (k + 1) v1 v2' s (tabU t k T) := by
  have hm : Same5 w w' := same5_app h.o2 (by decide) hsz hr
  refine ⟨ownr_blk h.o1 fun q hq => hr q (World.ownsRow.lt h.o1 q hq).2 (fun e => h.apart hq e), by rw [tabU_cells]; exact ho, fun i hi => ?_⟩
  by_cases e : i = k
  · subst e; rw [tabU_at]; exact ⟨hT.same hm, hl⟩
  · rw [tabU_old t _ (by omega)]; exact ⟨(h.each i (by omega)).1.same hm, (h.each i (by omega)).2⟩
theorem Gath.congr {w : World} {base k1 k2 : Nat} {v1 v2 : Value} {s s' : Nat → ByteArray} {t : Nat → Tab} (h : Gath w base k1 k2 v1 v2 s t) (hs : ∀ i, i < k1 → s i = s' i) : Gath w base k1 k2 v1 v2 s' t :=
  ⟨by
    have e : ((List.range k1).map fun i => Value.string (s' i)) = (List.range k1).map fun i => Value.string (s i) := List.map_congr_left fun i hi => by rw [hs i (List.mem_range.1 hi)]
    rw [e]; exact h.o1, h.o2, h.each⟩
/-- The tags with one more. -/
def strU (s : Nat → ByteArray) (k : Nat) (T : ByteArray) : Nat → ByteArray := fun i => if i = k then T else s i
theorem strU_at (s : Nat → ByteArray) (k : Nat) (T : ByteArray) : strU s k T k = T := if_pos rfl
theorem strU_old (s : Nat → ByteArray) {k : Nat} (T : ByteArray) {i : Nat} (h : i < k) : strU s k T i = s i := if_neg (by omega)
theorem Gath.tagU {w w' : World} {base k k2 : Nat} {v1 v1' v2 : Value} {s : Nat → ByteArray} {t : Nat → Tab} {T : ByteArray} (h : Gath w base k k2 v1 v2 s t)
    (ho : w'.ownsRow base 9 1 v1' (k + 1) (((List.range k).map fun i => .string (s i)) ++ [.string T])) (hsz : w.heap.size ≤ w'.heap.size) (hr : ∀ q, q < w.heap.size → v1.ownBlock ≠ some q → w'.heap[q]? = w.heap[q]?) : Gath w' base (k + 1) k2 v1' v2 (strU s k T) t := by
  refine (h.congr (s' := strU s k T) fun i hi => (strU_old s T hi).symm).tag (strU_at s k T) ?_ hsz hr
  have e : ((List.range k).map fun i => Value.string (strU s k T i)) = (List.range k).map fun i => Value.string (s i) := List.map_congr_left fun i hi => by rw [strU_old s T (List.mem_range.1 hi)]
  rw [e]; exact ho
theorem Gath.take {w : World} {base k1 k2 : Nat} {v1 v2 : Value} {s : Nat → ByteArray} {t : Nat → Tab} (h : Gath w base k1 k2 v1 v2 s t) (h1 : k1 ≤ 100) (h2 : k2 ≤ 100) :
    ∃ a c a2 c2, v1 = .slice a k1 c ∧ v2 = .slice a2 k2 c2 ∧ Strs w a k1 c s ∧ Tabs w a2 k2 c2 t := by
  obtain ⟨a, c, e1, hs⟩ := ownr_strs h.o1 (by omega)
  obtain ⟨a2, c2, e2, ht⟩ := ownr_tabs h.o2 (by omega) (fun i hi => (h.each i hi).1.lies)
  exact ⟨a, c, a2, c2, e1, e2, hs, ht⟩
/-- A row of the call's own, as a table. -/
theorem own_lies5 {w : World} {base g c n : Nat} {z : Nat → Nat} (h : Own w base 5 .u8 g c (byt z 0 n)) (hz : ∀ i, z i < 256) (hn : n ≤ 150000000000000) : Lies5 w ⟨some ⟨g, 0, none⟩, n, c, z⟩ := by
  have hL := h.liesB (byt_of hz) (by rw [byt_len]; exact hn)
  rw [byt_len] at hL
  refine ⟨⟨hL.lc, hL.reach, hz, fun h0 => ?_⟩, fun b off sp e => ?_⟩
  · obtain ⟨b', o', e', hb', hc'⟩ := hL.spot h0
    exact ⟨b', o', e', hb', fun i hi => by rw [hc' i hi, byt_zb_at hi]⟩
  · simp only [Option.some.injEq, Addr.mk.injEq] at e
    obtain ⟨rfl, _, _⟩ := e
    exact ownr_blk_of h rfl

/-- Whatever of eight texts. -/
theorem eight {c : Array Value} (hs : ∀ i, i < 8 → ∃ X, c[i]? = some (.string X)) {w : World} {q : Nat} {T : TypeId} (hq : w.heap[q]? = some (.cells c T)) {r : Nat} (hr : r < 8) : ∃ X, w.cell? ⟨q, r, none⟩ = some (.string X) := by
  obtain ⟨X, hX⟩ := hs r hr
  exact ⟨X, (blk_cell hq r).trans hX⟩

end Go.Proofs.Ytninhcnpjadjpaa
