/-
  Three rows of bytes that a call owns, apart from each other; copy of bytes; what the base tables are in memory.
-/
import Derived.Test.YtninhcnpjadjpaaBpu
namespace Go.Proofs.Ytninhcnpjadjpaa
open Go.RowKit

/-- append of any bytes onto any row of the call's own; where the new row lies. -/
theorem OwnV.app {w : World} {base : Nat} {v : Value} {xs : List Int} (h : OwnV w base 5 .u8 v xs) (hbase : base ≤ w.heap.size) {s : Option Addr} {m c : Nat} {ys : List Int} (hs : SrcI w .u8 s m ys) (hlen : xs.length + m ≤ 100000) :
    ∃ v' w', (Builtin.append_ #[29, 29] 29 #[v, .slice s m c]).run Try.prog w = .ok v' w' ∧ (OwnV w' base 5 .u8 v' (xs ++ ys) ∧ w.grownBy w' v.ownBlock ∧ ∀ q, v'.ownBlock = some q → v.ownBlock = some q ∨ q = w.heap.size) := by
  rcases Nat.eq_zero_or_pos m with h0 | h0
  · subst h0
    have hy : ys = [] := List.length_eq_zero_iff.1 hs.len
    subst hy
    obtain ⟨a, cap, rfl⟩ := h.form
    obtain ⟨i, hi, _⟩ := info_of info5
    refine ⟨_, w, run_append_nothing w 29 29 29 5 i Try.underlying29 hi a xs.length cap ?_ _ ?_, by simpa using h, World.grownBy.refl _ _, fun q hq => .inl hq⟩
    · rcases h.2 with ⟨e, h0⟩ | ⟨g, cap', cur, e, h1, h2, h3, h4, h5, h6⟩
      · simp only [Value.slice.injEq] at e; omega
      · simp only [Value.slice.injEq] at e; omega
    · cases s with
      | none => exact Src.ofNil w Try.underlying29 c
      | some x => exact Src.ofSlice w Try.underlying29 x 0 c [] (by simp) (by simp) (by simp)
  · obtain ⟨b, off, rfl, hc⟩ := hs.at' h0
    obtain ⟨i, hi', h1, h2, h3⟩ := info_of info5
    have hsl := hs.len
    obtain ⟨g', cap', w', hr, ho, hg, hat, _⟩ := run_append_lies (P := Try.prog) w 29 29 base 5 i (.int .u8 0) 1 1 Try.underlying29 hi' h1 h3 h2 rfl (by omega) v xs.length _ h ⟨b, off, none⟩ m c (ys.map fun y => .int .u8 y) (by simp [hsl])
      (fun j u hj => by
        have hj' : j < ys.length := by have := (List.getElem?_eq_some_iff.1 hj).1; simpa using this
        rw [add_none, hc j (by omega), ← hj]
        simp [hj'])
      (by intro u hu; obtain ⟨y, _, rfl⟩ := List.mem_map.1 hu; rfl) h0 (by unfold maxLen; omega) (by omega) hbase w.heap.size rfl
    refine ⟨_, w', hr, ?_, hg, ?_⟩
    · unfold OwnV; rw [List.length_append, List.map_append, hsl]; exact ho
    · intro q hq
      simp only [Value.ownBlock, Option.some.injEq] at hq
      subst hq
      exact hat

/-- Three rows: head's, loca's, glyf's. -/
structure Hlg (w : World) (base gh : Nat) (X : List Int) (lv : Value) (L : List Int) (gv : Value) (G : List Int) : Prop where
  h : Own w base 5 .u8 gh 54 X
  l : OwnV w base 5 .u8 lv L
  g : OwnV w base 5 .u8 gv G
  hl : lv.ownBlock ≠ some gh
  hg : gv.ownBlock ≠ some gh
  lg : ∀ q, lv.ownBlock = some q → gv.ownBlock ≠ some q
theorem Hlg.below {w w' : World} {base gh : Nat} {X L G : List Int} {lv gv : Value} (h : Hlg w base gh X lv L gv G) (hb : Below w.heap.size w w') : Hlg w' base gh X lv L gv G :=
  ⟨h.h.below hb, h.l.below hb, h.g.below hb, h.hl, h.hg, h.lg⟩
theorem Hlg.appL {w0 w : World} {gh : Nat} {X L G : List Int} {lv gv : Value} (hB : Below w0.heap.size w0 w) (h : Hlg w w0.heap.size gh X lv L gv G) {s : Option Addr} {m c : Nat} {ys : List Int} (hs : SrcI w .u8 s m ys) (hlen : L.length + m ≤ 100000) :
    ∃ v' w', (Builtin.append_ #[29, 29] 29 #[lv, .slice s m c]).run Try.prog w = .ok v' w' ∧ (Hlg w' w0.heap.size gh X v' (L ++ ys) gv G ∧ Below w0.heap.size w0 w') := by
  obtain ⟨v', w', h1, h2, h3, h4⟩ := h.l.app hB.size (c := c) hs hlen
  have hlt := h.h.lt.2
  refine ⟨v', w', h1, ⟨h.h.far h3 (fun e => h.hl e.symm), h2, h.g.far h3 ?_, fun e => ?_, h.hg, fun q hq hq2 => ?_⟩, hB.grown h3 hB.size fun k hk => (World.ownsRow.lt h.l k hk).1⟩
  · cases hq : gv.ownBlock with
    | none => exact .inl rfl
    | some q => exact .inr fun e => h.lg q e.symm hq
  · rcases h4 _ e with h5 | h5
    · exact h.hl h5
    · omega
  · rcases h4 _ hq with h5 | h5
    · exact h.lg q h5 hq2
    · have := (World.ownsRow.lt h.g q hq2).2; omega
theorem Hlg.appG {w0 w : World} {gh : Nat} {X L G : List Int} {lv gv : Value} (hB : Below w0.heap.size w0 w) (h : Hlg w w0.heap.size gh X lv L gv G) {s : Option Addr} {m c : Nat} {ys : List Int} (hs : SrcI w .u8 s m ys) (hlen : G.length + m ≤ 100000) :
    ∃ v' w', (Builtin.append_ #[29, 29] 29 #[gv, .slice s m c]).run Try.prog w = .ok v' w' ∧ (Hlg w' w0.heap.size gh X lv L v' (G ++ ys) ∧ Below w0.heap.size w0 w') := by
  obtain ⟨v', w', h1, h2, h3, h4⟩ := h.g.app hB.size (c := c) hs hlen
  have hlt := h.h.lt.2
  refine ⟨v', w', h1, ⟨h.h.far h3 (fun e => h.hg e.symm), h.l.far h3 ?_, h2, h.hl, fun e => ?_, fun q hq hq2 => ?_⟩, hB.grown h3 hB.size fun k hk => (World.ownsRow.lt h.g k hk).1⟩
  · cases hq : lv.ownBlock with
    | none => exact .inl rfl
    | some q => exact .inr fun e => h.lg q hq e.symm
  · rcases h4 _ e with h5 | h5
    · exact h.hg h5
    · omega
  · rcases h4 _ hq2 with h5 | h5
    · exact h.lg q hq h5
    · have := (World.ownsRow.lt h.l q hq).2; omega

/-- copy of bytes into a row of the call's own. -/
theorem copy_ownb {w : World} {base g c : Nat} {xs ys : List Int} (h : Own w base 5 .u8 g c xs) (o dLen dCap : Nat) {b off m cm : Nat} (hs : ∀ j, j < m → w.cell? ⟨b, off + j, none⟩ = some (.int .u8 (ys.getD j 0))) (hm : ys.length = m) (hd : m ≤ dLen) (ho : o + m ≤ xs.length) :
    ∃ w', (Builtin.copy_ #[29, 29] 3 #[.slice (some ⟨g, o, none⟩) dLen dCap, .slice (some ⟨b, off, none⟩) m cm]).run Try.prog w = .ok (goInt m) w' ∧ Own w' base 5 .u8 g c (xs.take o ++ ys ++ xs.drop (o + m)) ∧ Below g w w' := by
  rcases h.2 with ⟨h', _⟩ | ⟨g', cap', cur, hv, h1, h2, h3, h4, h5, h6⟩
  · simp at h'
  · simp only [Value.slice.injEq, Option.some.injEq, Addr.mk.injEq, and_true, true_and] at hv
    obtain ⟨rfl, rfl⟩ := hv
    rw [Nat.mul_one] at h6
    have hr := run_copy_row (P := Try.prog) w 29 29 3 5 g o dLen dCap ⟨b, off, none⟩ m cm cur 5 (ys.map fun y => .int .u8 y) Try.underlying29 size5 h2
      (by rw [List.length_map, hm]; exact (Nat.min_eq_left hd).symm)
      (fun j v hj => by
        have hj' : j < ys.length := by have := (List.getElem?_eq_some_iff.1 hj).1; simpa using this
        rw [add_none, hs j (by omega), ← hj]
        simp [hj'])
      (by rw [List.length_map]; omega) (by intro u hu; obtain ⟨y, _, rfl⟩ := List.mem_map.1 hu; rfl)
    rw [List.length_map, hm] at hr
    refine ⟨_, hr, ⟨by simp, .inr ⟨g, c, _, ?_, h1, setRow_heap w g cur _ 5 _ h2, ?_, h4, ?_, ?_⟩⟩, below_setRow (Below.refl _ _) (Nat.le_refl _) _⟩
    · simp only [List.length_append, List.length_take, List.length_drop, hm]
    · simp only [List.length_append, List.length_take, List.length_drop, hm]; omega
    · simp only [List.size_toArray, List.length_append, List.length_take, List.length_drop, Array.length_toList, List.length_map, hm]; omega
    · have e1 : cur.toList.take o = (xs.take o).map fun x => Value.int .u8 x := by rw [List.map_take, ← h6, List.take_take, Nat.min_eq_left (by omega)]
      have e2 : (cur.toList.drop (o + m)).take (xs.length - (o + m)) = (xs.drop (o + m)).map fun x => Value.int .u8 x := by
        rw [List.map_drop, ← h6, List.drop_take]
      have hlen : (xs.take o ++ ys ++ xs.drop (o + m)).length = xs.length := by
        simp only [List.length_append, List.length_take, List.length_drop, hm]; omega
      rw [hlen, Nat.mul_one]
      simp only [List.map_append]
      rw [← e1, ← e2]
      have hl1 : (cur.toList.take o ++ ys.map fun x => Value.int .u8 x).length = o + m := by
        simp only [List.length_append, List.length_take, Array.length_toList, List.length_map, hm]; omega
      rw [List.take_append, List.take_of_length_le (by omega), hl1]

/-- A row of the call's own as a table. -/
theorem own_tab5 {w : World} {base : Nat} {v : Value} {xs : List Int} (h : OwnV w base 5 .u8 v xs) (hb : Byt xs) (hl : xs.length ≤ 150000000000000) : ∃ a c, v = .slice a xs.length c ∧ Lies5 w ⟨a, xs.length, c, zb xs⟩ := by
  obtain ⟨a, c, e, hL⟩ := h.liesB hb hl
  refine ⟨a, c, e, ⟨hL, fun b off sp ea => ?_⟩⟩
  rcases h.2 with ⟨e', h0⟩ | ⟨g, cap', cur, e', h1, h2, _⟩
  · rw [e'] at e; simp only [Value.slice.injEq] at e; obtain ⟨rfl, _⟩ := e; simp only at ea; cases ea
  · rw [e'] at e; simp only [Value.slice.injEq] at e; obtain ⟨rfl, _⟩ := e
    simp only [Option.some.injEq, Addr.mk.injEq] at ea
    obtain ⟨rfl, _⟩ := ea
    exact ⟨cur, h2⟩

/-- The base tables in memory. -/
structure Bse (w : World) (gt gl : Nat) (T : Nat → Tab) : Prop where
  tags : w.heap[gt]? = some (.cells #[.string hdT, .string mxT, .string lcT, .string gfT] 9)
  tabs : w.heap[gl]? = some (.cells (arr 4 fun i => .slice (T i).a (T i).l (T i).c) 29)
  each : ∀ i, i < 4 → Lies5 w (T i)
/-- What they are. -/
structure BCon (T : Nat → Tab) (u n : Nat) (b : Bool) (t : Nat → Tab) : Prop where
  h : (T 0).l = 54 ∧ (T 0).z = zb (headL u b)
  m : (T 1).l = 6 ∧ (T 1).z = zb (maxL n)
  l : (T 2).l = entW b * (n + 1) ∧ (T 2).z = zb (locB t b (n + 1))
  g : (T 3).l = glen t n ∧ (T 3).z = zb (glyB t n)
theorem Bse.below {w w' : World} {gt gl : Nat} {T : Nat → Tab} {B : Nat} (h : Bse w gt gl T) (hb : Below B w w') (hB : w.heap.size ≤ B) : Bse w' gt gl T := by
  have h1 := blk_lt h.tags
  have h2 := blk_lt h.tabs
  refine ⟨(hb.block gt (by omega)).trans h.tags, (hb.block gl (by omega)).trans h.tabs, fun i hi => (h.each i hi).same (Same5.of_below ⟨hb.os, hb.tape, hb.output, hb.size, fun k hk => hb.block k (by omega)⟩)⟩
theorem Bse.strs {w : World} {gt gl : Nat} {T : Nat → Tab} (h : Bse w gt gl T) : Strs w (some ⟨gt, 0, none⟩) 4 4 tag4 := by
  refine ⟨by omega, by omega, fun _ => ⟨gt, 0, rfl, blk_lt h.tags, fun i hi => ?_⟩⟩
  rw [blk_cell h.tags, Nat.zero_add]
  rcases (show i = 0 ∨ i = 1 ∨ i = 2 ∨ i = 3 by omega) with rfl | rfl | rfl | rfl <;> rfl
theorem Bse.tables {w : World} {gt gl : Nat} {T : Nat → Tab} (h : Bse w gt gl T) : Tabs w (some ⟨gl, 0, none⟩) 4 4 T := by
  refine ⟨by omega, by omega, fun _ => ⟨gl, 0, rfl, blk_lt h.tabs, fun i hi => ?_⟩, fun i hi => (h.each i hi).lies⟩
  rw [Nat.zero_add, arr_cell h.tabs hi]
end Go.Proofs.Ytninhcnpjadjpaa
