
/-
  Rows of numbers that the call itself owns: read, stored into, appended to. No Go text is walked here.
-/
import Derived.Test.YtahibacjaoohiaaDoorLits
import Derived.OwnWalk
namespace Go.Proofs.YtahibacjaoohiaaDoor
open Go.RowKit

/-- The slice at g, of capacity cap, holds the numbers xs, and nobody else has it. -/
def Own (w : World) (base : Nat) (e : TypeId) (k : IntKind) (g cap : Nat) (xs : List Int) : Prop :=
  w.ownsRow base e 1 (.slice (some ⟨g, 0, none⟩) xs.length cap) xs.length (xs.map fun x => .int k x)

theorem Own.cell {w : World} {base : Nat} {e : TypeId} {k : IntKind} {g cap : Nat} {xs : List Int} (h : Own w base e k g cap xs) {j : Nat} (hj : j < xs.length) : w.cell? ⟨g, j, none⟩ = some (.int k (xs.getD j 0)) := by
  rw [World.ownsRow.cellAt h j (by omega)]
  simp [hj]
theorem Own.free {w : World} {base : Nat} {e : TypeId} {k : IntKind} {g cap : Nat} {xs : List Int} (h : Own w base e k g cap xs) (j : Nat) : w.frozen? ⟨g, j, none⟩ = false := World.ownsRow.frozenAt h j
theorem Own.lt {w : World} {base : Nat} {e : TypeId} {k : IntKind} {g cap : Nat} {xs : List Int} (h : Own w base e k g cap xs) : base ≤ g ∧ g < w.heap.size := World.ownsRow.lt h g rfl
theorem Own.lc {w : World} {base : Nat} {e : TypeId} {k : IntKind} {g cap : Nat} {xs : List Int} (h : Own w base e k g cap xs) : xs.length ≤ cap ∧ cap ≤ maxLen := by
  rcases h.2 with ⟨h', _⟩ | ⟨g', cap', cur, h', _, _, h1, h2, _⟩
  · simp at h'
  · simp only [Value.slice.injEq, Option.some.injEq, Addr.mk.injEq, and_true, true_and] at h'
    obtain ⟨rfl, rfl⟩ := h'
    exact ⟨h1, h2⟩
theorem Own.set {w : World} {base : Nat} {e : TypeId} {k : IntKind} {g cap : Nat} {xs : List Int} (h : Own w base e k g cap xs) (j : Nat) (v : Int) : Own (w.setCell ⟨g, j, none⟩ (.int k v)) base e k g cap (xs.set j v) := by
  have := (World.ownsRow.stored h j (.int k v)).1
  unfold Own
  rw [List.length_set, List.map_set]
  exact this
theorem Own.alloc {w : World} {base : Nat} {e : TypeId} {k : IntKind} {g cap : Nat} {xs : List Int} (h : Own w base e k g cap xs) (o : Obj) : Own (w.alloc o) base e k g cap xs := World.ownsRow.alloc h o
theorem Own.drew {w : World} {base : Nat} {e : TypeId} {k : IntKind} {g cap : Nat} {xs : List Int} (h : Own w base e k g cap xs) : Own w.drew base e k g cap xs := h
theorem Own.blk {w w' : World} {base : Nat} {e : TypeId} {k : IntKind} {g cap : Nat} {xs : List Int} (h : Own w base e k g cap xs) (hb : w'.heap[g]? = w.heap[g]?) : Own w' base e k g cap xs := by
  refine ⟨h.1, ?_⟩
  rcases h.2 with h' | ⟨g', cap', cur, hv, h1, h2, h3⟩
  · exact .inl h'
  · have hv' := hv
    simp only [Value.slice.injEq, Option.some.injEq, Addr.mk.injEq, and_true, true_and] at hv'
    obtain ⟨rfl, rfl⟩ := hv'
    exact .inr ⟨g, cap, cur, hv, h1, hb.trans h2, h3⟩
theorem Own.below {w w' : World} {base : Nat} {e : TypeId} {k : IntKind} {g cap : Nat} {xs : List Int} (h : Own w base e k g cap xs) (hb : Below w.heap.size w w') : Own w' base e k g cap xs := h.blk (hb.block g h.lt.2)
theorem Own.kept {S : Nat → Prop} {w w' : World} {base : Nat} {e : TypeId} {k : IntKind} {g cap : Nat} {xs : List Int} (h : Own w base e k g cap xs) (hb : Kept S w w') (hg : ¬ S g) : Own w' base e k g cap xs := h.blk (hb.block g h.lt.2 hg)
theorem Own.far {w w' : World} {base : Nat} {e : TypeId} {k : IntKind} {g cap : Nat} {xs : List Int} {row : Option Nat} (h : Own w base e k g cap xs) (hg : w.grownBy w' row) (hne : some g ≠ row) : Own w' base e k g cap xs := h.blk (hg.block g h.lt.2 hne)
theorem Own.mono {w : World} {base base' : Nat} {e : TypeId} {k : IntKind} {g cap : Nat} {xs : List Int} (h : Own w base e k g cap xs) (hb : base' ≤ base) : Own w base' e k g cap xs := by
  refine ⟨h.1, ?_⟩
  rcases h.2 with h' | ⟨g', cap', cur, hv, h1, h3⟩
  · exact .inl h'
  · exact .inr ⟨g', cap', cur, hv, Nat.le_trans hb h1, h3⟩
/-- A literal. -/
theorem own_lit (w : World) (base : Nat) (e : TypeId) (k : IntKind) (xs : List Int) (hb : base ≤ w.heap.size) (hl : xs.length ≤ 100000) : Own (w.alloc (.cells (xs.map fun x => Value.int k x).toArray e)) base e k w.heap.size xs.length xs := by
  have := World.ownsRow_lit (base := base) (e := e) (size := 1) w (xs.map fun x => Value.int k x).toArray xs.length hb (by unfold maxLen; omega) (by simp)
  simpa [Own] using this

/-- What a source of numbers is. -/
structure SrcI (w : World) (k : IntKind) (s : Option Addr) (m : Nat) (ys : List Int) : Prop where
  len : ys.length = m
  at' : 0 < m → ∃ b off, s = some ⟨b, off, none⟩ ∧ ∀ j, j < m → w.cell? ⟨b, off + j, none⟩ = some (.int k (ys.getD j 0))

/-- append. -/
theorem Own.append {w : World} {base : Nat} {t e : TypeId} {k : IntKind} {g cap : Nat} {xs : List Int} {z : Value} {bytes : Nat} (ht : Tryd.prog.underlying t = some (.slice e)) (hi : (Tryd.prog.info? e).map (fun i => (i.zero, i.size, i.bytes)) = some (some z, 1, bytes)) (hzs : z.cells.size = 1) (hby : bytes ≤ 8)
    (h : Own w base e k g cap xs) (hbase : base ≤ w.heap.size) {s : Option Addr} {m c : Nat} {ys : List Int} (hs : SrcI w k s m ys) (hlen : xs.length + ys.length ≤ 100000) (ty : TypeId) :
    ∃ g' cap' w', (Builtin.append_ #[t, t] ty #[.slice (some ⟨g, 0, none⟩) xs.length cap, .slice s m c]).run Tryd.prog w = .ok (.slice (some ⟨g', 0, none⟩) (xs ++ ys).length cap') w' ∧ Own w' base e k g' cap' (xs ++ ys) ∧ w.grownBy w' (some g) ∧ (g' = g ∨ g' = w.heap.size) := by
  obtain ⟨i, hi', h1, h2, h3⟩ := info_of hi
  obtain ⟨hsl, hsa⟩ := hs
  by_cases h0 : m = 0
  · subst h0
    have : ys = [] := List.length_eq_zero_iff.1 hsl
    subst this
    refine ⟨g, cap, w, ?_, by simpa using h, World.grownBy.refl _ _, .inl rfl⟩
    rw [List.append_nil]
    refine run_append_nothing w t t ty e i ht hi' _ _ _ h.lc.1 _ ?_
    cases s with
    | none => exact Src.ofNil w ht c
    | some x => exact Src.ofSlice w ht x 0 c [] (by simp) (by simp) (by simp)
  · obtain ⟨b, off, rfl, hc⟩ := hsa (by omega)
    obtain ⟨g', cap', w', hr, ho, hg, hat, _⟩ := run_append_lies (P := Tryd.prog) w t ty base e i z 1 bytes ht hi' h1 h3 h2 hzs (by omega) (.slice (some ⟨g, 0, none⟩) xs.length cap) xs.length _ h ⟨b, off, none⟩ m c (ys.map fun y => .int k y) (by simp [hsl])
      (fun j u hj => by
        have hj' : j < ys.length := by have := (List.getElem?_eq_some_iff.1 hj).1; simpa using this
        rw [add_none, hc j (by omega), ← hj]
        simp [hj'])
      (by intro u hu; obtain ⟨y, _, rfl⟩ := List.mem_map.1 hu; rfl) (by omega) (by unfold maxLen; omega) (by
        have : (xs.length + m) * bytes ≤ 100000 * 8 := Nat.mul_le_mul (by omega) hby
        omega) hbase w.heap.size rfl
    refine ⟨g', cap', w', ?_, ?_, hg, ?_⟩
    · rw [hr, List.length_append, hsl]
    · unfold Own; rw [List.length_append, List.map_append, hsl]; exact ho
    · rcases hat with h | h
      · left; simpa [Value.ownBlock, eq_comm] using h
      · exact .inr h
theorem Own.append29 {w : World} {base : Nat} {g cap : Nat} {xs : List Int} (h : Own w base 3 .i64 g cap xs) (hbase : base ≤ w.heap.size) {s : Option Addr} {m c : Nat} {ys : List Int} (hs : SrcI w .i64 s m ys) (hlen : xs.length + ys.length ≤ 100000) :
    ∃ g' cap' w', (Builtin.append_ #[24, 24] 24 #[.slice (some ⟨g, 0, none⟩) xs.length cap, .slice s m c]).run Tryd.prog w = .ok (.slice (some ⟨g', 0, none⟩) (xs ++ ys).length cap') w' ∧ Own w' base 3 .i64 g' cap' (xs ++ ys) ∧ w.grownBy w' (some g) ∧ (g' = g ∨ g' = w.heap.size) :=
  Own.append Tryd.underlying24 info3 rfl (by omega) h hbase hs hlen 24
theorem Own.append22 {w : World} {base : Nat} {g cap : Nat} {xs : List Int} (h : Own w base 5 .u8 g cap xs) (hbase : base ≤ w.heap.size) {s : Option Addr} {m c : Nat} {ys : List Int} (hs : SrcI w .u8 s m ys) (hlen : xs.length + ys.length ≤ 100000) :
    ∃ g' cap' w', (Builtin.append_ #[23, 23] 23 #[.slice (some ⟨g, 0, none⟩) xs.length cap, .slice s m c]).run Tryd.prog w = .ok (.slice (some ⟨g', 0, none⟩) (xs ++ ys).length cap') w' ∧ Own w' base 5 .u8 g' cap' (xs ++ ys) ∧ w.grownBy w' (some g) ∧ (g' = g ∨ g' = w.heap.size) :=
  Own.append Tryd.underlying23 info5 rfl (by omega) h hbase hs hlen 23

/-- The builtin append at a plain region's list, where what it does is known. -/
theorem wpList_append_ex {P : Program} {w : World} {ops : Array Oper} {rest : List Oper} {o : Oper} {a : Act} {Q : Exit → Act → World → Prop} (hgd : o.guard = none) (s x : Operand) (t : TypeId)
    (ho : o.op = .call { callee := .builtin .append, args := #[s, x], argTypes := #[t, t] }) {v1 v2 : Value} {R : Nat → Nat → World → Prop} {n : Nat} (hs : a.eval s = v1) (hx : a.eval x = v2)
    (hrun : ∃ g' cap' w', (Builtin.append_ #[t, t] o.type #[v1, v2]).run P w = .ok (.slice (some ⟨g', 0, none⟩) n cap') w' ∧ R g' cap' w')
    (h : ∀ g' cap' w', R g' cap' w' → wpList P ops Q rest (a.put o.dst (.slice (some ⟨g', 0, none⟩) n cap')) w') : wpList P ops Q (o :: rest) a w := by
  obtain ⟨g', cap', w', hr, hR⟩ := hrun
  refine wpList_plain hgd fun K hK => ?_
  unfold Oper.wp execOp
  simp only [ho, resolve, invoke, builtin, Sem.run_bind, Sem.run_pure, Result.andThen_ok, List.map_toArray, List.map_cons, List.map_nil, hs, hx, hr]
  exact hK _ _ (h g' cap' w' hR)
/-- The same at a step of a region that draws its order. -/
theorem step_append_ex {P : Program} {w : World} {ops : Array Oper} {o : Oper} {a : Act} {K : Act → World → Prop} {Q : Exit → Act → World → Prop} {E : Prop} (hgd : o.guard = none) (s x : Operand) (t : TypeId)
    (ho : o.op = .call { callee := .builtin .append, args := #[s, x], argTypes := #[t, t] }) {v1 v2 : Value} {R : Nat → Nat → World → Prop} {n : Nat} (hs : a.eval s = v1) (hx : a.eval x = v2)
    (hrun : ∃ g' cap' w', (Builtin.append_ #[t, t] o.type #[v1, v2]).run P w = .ok (.slice (some ⟨g', 0, none⟩) n cap') w' ∧ R g' cap' w')
    (h : ∀ g' cap' w', R g' cap' w' → K (a.put o.dst (.slice (some ⟨g', 0, none⟩) n cap')) w') : if Region.wanted o (yielded ops a.tmps) = true then Oper.wp P o a w K Q else E := by
  obtain ⟨g', cap', w', hr, hR⟩ := hrun
  have hw : Region.wanted o (yielded ops a.tmps) = true := by simp [Region.wanted, hgd]
  rw [if_pos hw]
  unfold Oper.wp execOp
  simp only [ho, resolve, invoke, builtin, Sem.run_bind, Sem.run_pure, Result.andThen_ok, List.map_toArray, List.map_cons, List.map_nil, hs, hx, hr]
  exact h g' cap' w' hR
end Go.Proofs.YtahibacjaoohiaaDoor
