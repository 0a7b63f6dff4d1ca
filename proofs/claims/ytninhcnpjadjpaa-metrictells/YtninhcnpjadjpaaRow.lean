/-
  Rows of numbers that the call itself owns: read, stored into, appended to; bytes as texts. No Go text is walked here.
-/
import Derived.Test.YtninhcnpjadjpaaBase
namespace Go.Proofs.Ytninhcnpjadjpaa
open Go.RowKit

/-- The slice at g, of capacity cap, holds the numbers xs, and nobody else has it. -/
def Own (w : World) (base : Nat) (e : TypeId) (k : IntKind) (g cap : Nat) (xs : List Int) : Prop :=
  w.ownsRow base e 1 (.slice (some ⟨g, 0, none⟩) xs.length cap) xs.length (xs.map fun x => .int k x)
theorem Own.cell {w : World} {base : Nat} {e : TypeId} {k : IntKind} {g cap : Nat} {xs : List Int} (h : Own w base e k g cap xs) {j : Nat} (hj : j < xs.length) : w.cell? ⟨g, j, none⟩ = some (.int k (xs.getD j 0)) := by
  rw [World.ownsRow.cellAt h j (by omega)]
  simp [hj]
theorem Own.free {w : World} {base : Nat} {e : TypeId} {k : IntKind} {g cap : Nat} {xs : List Int} (h : Own w base e k g cap xs) (j : Nat) : w.frozen? ⟨g, j, none⟩ = false := World.ownsRow.frozenAt h j
theorem Own.lt {w : World} {base : Nat} {e : TypeId} {k : IntKind} {g cap : Nat} {xs : List Int} (h : Own w base e k g cap xs) : base ≤ g ∧ g < w.heap.size := World.ownsRow.lt h g rfl
theorem Own.lc {w : World} {base : Nat} {e : TypeId} {k : IntKind} {g cap : Nat} {xs : List Int} (h : Own w base e k g cap xs) : xs.length ≤ cap ∧ cap ≤ maxLen := by
  rcases h.2 with ⟨h', _⟩ | ⟨g', cap', cur, h', _, _, h1, h2, _⟩
  · simp at h'
  · simp only [Value.slice.injEq, Option.some.injEq, Addr.mk.injEq, and_true, true_and] at h'
    obtain ⟨rfl, rfl⟩ := h'
    exact ⟨h1, h2⟩
theorem Own.set {w : World} {base : Nat} {e : TypeId} {k : IntKind} {g cap : Nat} {xs : List Int} (h : Own w base e k g cap xs) (j : Nat) (v : Int) : Own (w.setCell ⟨g, j, none⟩ (.int k v)) base e k g cap (xs.set j v) := by
  have := (World.ownsRow.stored h j (.int k v)).1
  unfold Own
  rw [List.length_set, List.map_set]
  exact this
theorem Own.alloc {w : World} {base : Nat} {e : TypeId} {k : IntKind} {g cap : Nat} {xs : List Int} (h : Own w base e k g cap xs) (o : Obj) : Own (w.alloc o) base e k g cap xs := World.ownsRow.alloc h o
theorem Own.drew {w : World} {base : Nat} {e : TypeId} {k : IntKind} {g cap : Nat} {xs : List Int} (h : Own w base e k g cap xs) : Own w.drew base e k g cap xs := h
theorem Own.blk {w w' : World} {base : Nat} {e : TypeId} {k : IntKind} {g cap : Nat} {xs : List Int} (h : Own w base e k g cap xs) (hb : w'.heap[g]? = w.heap[g]?) : Own w' base e k g cap xs := by
  refine ⟨h.1, ?_⟩
  rcases h.2 with h' | ⟨g', cap', cur, hv, h1, h2, h3⟩
  · exact .inl h'
  · have hv' := hv
    simp only [Value.slice.injEq, Option.some.injEq, Addr.mk.injEq, and_true, true_and] at hv'
    obtain ⟨rfl, rfl⟩ := hv'
    exact .inr ⟨g, cap, cur, hv, h1, hb.trans h2, h3⟩
theorem Own.below {w w' : World} {base : Nat} {e : TypeId} {k : IntKind} {g cap : Nat} {xs : List Int} (h : Own w base e k g cap xs) (hb : Below w.heap.size w w') : Own w' base e k g cap xs := h.blk (hb.block g h.lt.2)
theorem Own.kept {S : Nat → Prop} {w w' : World} {base : Nat} {e : TypeId} {k : IntKind} {g cap : Nat} {xs : List Int} (h : Own w base e k g cap xs) (hb : Kept S w w') (hg : ¬ S g) : Own w' base e k g cap xs := h.blk (hb.block g h.lt.2 hg)
theorem Own.far {w w' : World} {base : Nat} {e : TypeId} {k : IntKind} {g cap : Nat} {xs : List Int} {row : Option Nat} (h : Own w base e k g cap xs) (hg : w.grownBy w' row) (hne : some g ≠ row) : Own w' base e k g cap xs := h.blk (hg.block g h.lt.2 hne)
theorem Own.mono {w : World} {base base' : Nat} {e : TypeId} {k : IntKind} {g cap : Nat} {xs : List Int} (h : Own w base e k g cap xs) (hb : base' ≤ base) : Own w base' e k g cap xs := by
  refine ⟨h.1, ?_⟩
  rcases h.2 with h' | ⟨g', cap', cur, hv, h1, h3⟩
  · exact .inl h'
  · exact .inr ⟨g', cap', cur, hv, Nat.le_trans hb h1, h3⟩
/-- A literal. -/
theorem own_lit (w : World) (base : Nat) (e : TypeId) (k : IntKind) (xs : List Int) (hb : base ≤ w.heap.size) (hl : xs.length ≤ 100000) : Own (w.alloc (.cells (xs.map fun x => Value.int k x).toArray e)) base e k w.heap.size xs.length xs := by
  have := World.ownsRow_lit (base := base) (e := e) (size := 1) w (xs.map fun x => Value.int k x).toArray xs.length hb (by unfold maxLen; omega) (by simp)
  simpa [Own] using this
/-- What a source of numbers is. -/
structure SrcI (w : World) (k : IntKind) (s : Option Addr) (m : Nat) (ys : List Int) : Prop where
  len : ys.length = m
  at' : 0 < m → ∃ b off, s = some ⟨b, off, none⟩ ∧ ∀ j, j < m → w.cell? ⟨b, off + j, none⟩ = some (.int k (ys.getD j 0))
/-- append. -/
theorem Own.append {w : World} {base : Nat} {t e : TypeId} {k : IntKind} {g cap : Nat} {xs : List Int} {z : Value} {bytes : Nat} (ht : Try.prog.underlying t = some (.slice e)) (hi : (Try.prog.info? e).map (fun i => (i.zero, i.size, i.bytes)) = some (some z, 1, bytes)) (hzs : z.cells.size = 1) (hby : bytes ≤ 8)
    (h : Own w base e k g cap xs) (hbase : base ≤ w.heap.size) {s : Option Addr} {m c : Nat} {ys : List Int} (hs : SrcI w k s m ys) (hlen : xs.length + ys.length ≤ 100000) (ty : TypeId) :
    ∃ g' cap' w', (Builtin.append_ #[t, t] ty #[.slice (some ⟨g, 0, none⟩) xs.length cap, .slice s m c]).run Try.prog w = .ok (.slice (some ⟨g', 0, none⟩) (xs ++ ys).length cap') w' ∧ Own w' base e k g' cap' (xs ++ ys) ∧ w.grownBy w' (some g) ∧ (g' = g ∨ g' = w.heap.size) := by
  obtain ⟨i, hi', h1, h2, h3⟩ := info_of hi
  obtain ⟨hsl, hsa⟩ := hs
  by_cases h0 : m = 0
  · subst h0
    have : ys = [] := List.length_eq_zero_iff.1 hsl
    subst this
    refine ⟨g, cap, w, ?_, by simpa using h, World.grownBy.refl _ _, .inl rfl⟩
    rw [List.append_nil]
    refine run_append_nothing w t t ty e i ht hi' _ _ _ h.lc.1 _ ?_
    cases s with
    | none => exact Src.ofNil w ht c
    | some x => exact Src.ofSlice w ht x 0 c [] (by simp) (by simp) (by simp)
  · obtain ⟨b, off, rfl, hc⟩ := hsa (by omega)
    obtain ⟨g', cap', w', hr, ho, hg, hat, _⟩ := run_append_lies (P := Try.prog) w t ty base e i z 1 bytes ht hi' h1 h3 h2 hzs (by omega) (.slice (some ⟨g, 0, none⟩) xs.length cap) xs.length _ h ⟨b, off, none⟩ m c (ys.map fun y => .int k y) (by simp [hsl])
      (fun j u hj => by
        have hj' : j < ys.length := by have := (List.getElem?_eq_some_iff.1 hj).1; simpa using this
        rw [add_none, hc j (by omega), ← hj]
        simp [hj'])
      (by intro u hu; obtain ⟨y, _, rfl⟩ := List.mem_map.1 hu; rfl) (by omega) (by unfold maxLen; omega) (by
        have : (xs.length + m) * bytes ≤ 100000 * 8 := Nat.mul_le_mul (by omega) hby
        omega) hbase w.heap.size rfl
    refine ⟨g', cap', w', ?_, ?_, hg, ?_⟩
    · rw [hr, List.length_append, hsl]
    · unfold Own; rw [List.length_append, List.map_append, hsl]; exact ho
    · rcases hat with h | h
      · left; simpa [Value.ownBlock, eq_comm] using h
      · exact .inr h
theorem Own.append22 {w : World} {base : Nat} {g cap : Nat} {xs : List Int} (h : Own w base 5 .u8 g cap xs) (hbase : base ≤ w.heap.size) {s : Option Addr} {m c : Nat} {ys : List Int} (hs : SrcI w .u8 s m ys) (hlen : xs.length + ys.length ≤ 100000) :
    ∃ g' cap' w', (Builtin.append_ #[29, 29] 29 #[.slice (some ⟨g, 0, none⟩) xs.length cap, .slice s m c]).run Try.prog w = .ok (.slice (some ⟨g', 0, none⟩) (xs ++ ys).length cap') w' ∧ Own w' base 5 .u8 g' cap' (xs ++ ys) ∧ w.grownBy w' (some g) ∧ (g' = g ∨ g' = w.heap.size) :=
  Own.append Try.underlying29 info5 rfl (by omega) h hbase hs hlen 29
/-- The builtin append at a plain region's list, where what it does is known. -/
theorem wpList_append_ex {P : Program} {w : World} {ops : Array Oper} {rest : List Oper} {o : Oper} {a : Act} {Q : Exit → Act → World → Prop} (hgd : o.guard = none) (s x : Operand) (t : TypeId)
    (ho : o.op = .call { callee := .builtin .append, args := #[s, x], argTypes := #[t, t] }) {v1 v2 : Value} {R : Nat → Nat → World → Prop} {n : Nat} (hs : a.eval s = v1) (hx : a.eval x = v2)
    (hrun : ∃ g' cap' w', (Builtin.append_ #[t, t] o.type #[v1, v2]).run P w = .ok (.slice (some ⟨g', 0, none⟩) n cap') w' ∧ R g' cap' w')
    (h : ∀ g' cap' w', R g' cap' w' → wpList P ops Q rest (a.put o.dst (.slice (some ⟨g', 0, none⟩) n cap')) w') : wpList P ops Q (o :: rest) a w := by
  obtain ⟨g', cap', w', hr, hR⟩ := hrun
  refine wpList_plain hgd fun K hK => ?_
  unfold Oper.wp execOp
  simp only [ho, resolve, invoke, builtin, Sem.run_bind, Sem.run_pure, Result.andThen_ok, List.map_toArray, List.map_cons, List.map_nil, hs, hx, hr]
  exact hK _ _ (h g' cap' w' hR)
/-- The same at a step of a region that draws its order. -/
theorem step_append_ex {P : Program} {w : World} {ops : Array Oper} {o : Oper} {a : Act} {K : Act → World → Prop} {Q : Exit → Act → World → Prop} {E : Prop} (hgd : o.guard = none) (s x : Operand) (t : TypeId)
    (ho : o.op = .call { callee := .builtin .append, args := #[s, x], argTypes := #[t, t] }) {v1 v2 : Value} {R : Nat → Nat → World → Prop} {n : Nat} (hs : a.eval s = v1) (hx : a.eval x = v2)
    (hrun : ∃ g' cap' w', (Builtin.append_ #[t, t] o.type #[v1, v2]).run P w = .ok (.slice (some ⟨g', 0, none⟩) n cap') w' ∧ R g' cap' w')
    (h : ∀ g' cap' w', R g' cap' w' → K (a.put o.dst (.slice (some ⟨g', 0, none⟩) n cap')) w') : if Region.wanted o (yielded ops a.tmps) = true then Oper.wp P o a w K Q else E := by
  obtain ⟨g', cap', w', hr, hR⟩ := hrun
  have hw : Region.wanted o (yielded ops a.tmps) = true := by simp [Region.wanted, hgd]
  rw [if_pos hw]
  unfold Oper.wp execOp
  simp only [ho, resolve, invoke, builtin, Sem.run_bind, Sem.run_pure, Result.andThen_ok, List.map_toArray, List.map_cons, List.map_nil, hs, hx, hr]
  exact h g' cap' w' hR
/-- The bytes of a list. -/
def zb (bs : List Int) (q : Nat) : Nat := (bs.getD q 0).toNat
/-- A row that may be nil still. -/
def OwnV (w : World) (base : Nat) (e : TypeId) (k : IntKind) (v : Value) (xs : List Int) : Prop := w.ownsRow base e 1 v xs.length (xs.map fun x => .int k x)
theorem ownv_nil (w : World) (base : Nat) (e : TypeId) (k : IntKind) : OwnV w base e k (.slice none 0 0) [] := World.ownsRow_nil w base e 1
theorem OwnV.own {w : World} {base : Nat} {e : TypeId} {k : IntKind} {v : Value} {xs : List Int} (h : OwnV w base e k v xs) (h0 : 0 < xs.length) : ∃ g cap, v = .slice (some ⟨g, 0, none⟩) xs.length cap ∧ Own w base e k g cap xs := by
  obtain ⟨g, cap, hv, _, _⟩ := World.ownsRow.form h h0
  subst hv
  exact ⟨g, cap, rfl, h⟩
theorem OwnV.form {w : World} {base : Nat} {e : TypeId} {k : IntKind} {v : Value} {xs : List Int} (h : OwnV w base e k v xs) : ∃ a cap, v = .slice a xs.length cap := by
  rcases h.2 with ⟨hv, h0⟩ | ⟨g, cap, cur, hv, _⟩
  · rw [h0]; exact ⟨none, 0, hv⟩
  · exact ⟨_, _, hv⟩
theorem OwnV.alloc {w : World} {base : Nat} {e : TypeId} {k : IntKind} {v : Value} {xs : List Int} (h : OwnV w base e k v xs) (o : Obj) : OwnV (w.alloc o) base e k v xs := World.ownsRow.alloc h o
theorem OwnV.far {w w' : World} {base : Nat} {e : TypeId} {k : IntKind} {v : Value} {xs : List Int} {row : Option Nat} (h : OwnV w base e k v xs) (hg : w.grownBy w' row) (hne : v.ownBlock = none ∨ v.ownBlock ≠ row) : OwnV w' base e k v xs := World.ownsRow.kept h hg hne
theorem OwnV.below {w w' : World} {base : Nat} {e : TypeId} {k : IntKind} {v : Value} {xs : List Int} (h : OwnV w base e k v xs) (hb : Below w.heap.size w w') : OwnV w' base e k v xs :=
  World.ownsRow.kept (row := none) h ⟨hb.os, hb.tape, hb.output, hb.size, fun k hk _ => hb.block k hk⟩ (by cases v.ownBlock <;> simp)
theorem OwnV.grown {w w' : World} {base B : Nat} {e : TypeId} {k : IntKind} {v : Value} {xs : List Int} {w0 : World} (h : OwnV w base e k v xs) (hb : Below B w0 w) (hg : w.grownBy w' v.ownBlock) (hB : B ≤ w0.heap.size) (hbase : B ≤ base) : Below B w0 w' :=
  hb.grown hg (Nat.le_trans hB hb.size) (fun j hj => Nat.le_trans hbase (World.ownsRow.lt h j hj).1)
theorem own_v {w : World} {base : Nat} {e : TypeId} {k : IntKind} {g cap n : Nat} {xs : List Int} (h : Own w base e k g cap xs) (hn : n = xs.length) : OwnV w base e k (.slice (some ⟨g, 0, none⟩) n cap) xs := by subst hn; exact h
theorem make22c (n : Nat) (hn : n ≤ 150000000000000) (W : World) : (Instr.makeSlice 29 (.int .i64 0) (.int .i64 n)).run Try.prog W = .ok (.slice (some ⟨W.heap.size, 0, none⟩) 0 n) (W.alloc (.cells (arr n fun _ => .int .u8 0) 5)) := by
  obtain ⟨i, hi, h1, h2, h3⟩ := info_of info5
  have h := run_make (P := Try.prog) W 29 5 i (.int .u8 0) Try.underlying29 hi h1 .i64 .i64 0 n (by omega) (by omega) (by rw [h2]; omega) (by omega)
  rw [h, h3, Int.toNat_natCast, Nat.mul_one]
  show Result.ok _ (W.alloc (.cells (madeCells #[.int .u8 0] n) 5)) = _
  rw [made_arr]; rfl
theorem own_made8 (w : World) (base n : Nat) (hb : base ≤ w.heap.size) (hn : n ≤ 150000000000000) : Own (w.alloc (.cells (arr n fun _ => .int .u8 0) 5)) base 5 .u8 w.heap.size n [] :=
  World.ownsRow_made w _ n hb (by unfold maxLen; omega) (by rw [arr_size, Nat.mul_one])
/-- append, of more: as wide as growslice lets it be. -/
theorem run_append_w {w : World} {base : Nat} {v : Value} {n : Nat} {xs : List Value} (h : w.ownsRow base 5 1 v n xs) (ad : Addr) (m c : Nat) (news : List Value) (hl : news.length = m) (hnews : ∀ j u, news[j]? = some u → w.cell? (ad.add j) = some u) (h1 : ∀ u ∈ news, u.oneCell' = true) (hm : 0 < m) (hlen : n + m ≤ 150000000000000) (hbase : base ≤ w.heap.size) :
    ∃ g cap w', (Builtin.append_ #[29, 29] 29 #[v, .slice (some ad) m c]).run Try.prog w = .ok (.slice (some ⟨g, 0, none⟩) (n + m) cap) w' ∧ w'.ownsRow base 5 1 (.slice (some ⟨g, 0, none⟩) (n + m) cap) (n + m) (xs ++ news) ∧ w.grownBy w' v.ownBlock := by
  obtain ⟨i, hi', h2, h3, h4⟩ := info_of info5
  obtain ⟨v', w', hr, ho, hg, _⟩ := run_append_own_wide (P := Try.prog) w base 29 29 5 i (.int .u8 0) 1 1 Try.underlying29 hi' h2 h4 h3 rfl (by omega) v n xs h ad m c news (by rw [hl, Nat.mul_one]) hnews h1 (by unfold maxLen; omega) (by omega) hbase
  obtain ⟨g, cap, rfl, _, _⟩ := ho.form (by omega)
  exact ⟨g, cap, w', hr, ho, hg⟩
theorem Own.appendB {w : World} {base : Nat} {g cap : Nat} {xs : List Int} (h : Own w base 5 .u8 g cap xs) (hbase : base ≤ w.heap.size) {s : Option Addr} {m c : Nat} {ys : List Int} (hs : SrcI w .u8 s m ys) (hlen : xs.length + ys.length ≤ 150000000000000) :
    ∃ g' cap' w', (Builtin.append_ #[29, 29] 29 #[.slice (some ⟨g, 0, none⟩) xs.length cap, .slice s m c]).run Try.prog w = .ok (.slice (some ⟨g', 0, none⟩) (xs ++ ys).length cap') w' ∧ (Own w' base 5 .u8 g' cap' (xs ++ ys) ∧ w.grownBy w' (some g)) := by
  obtain ⟨i, hi', h1, h2, h3⟩ := info_of info5
  obtain ⟨hsl, hsa⟩ := hs
  by_cases h0 : m = 0
  · subst h0
    have : ys = [] := List.length_eq_zero_iff.1 hsl
    subst this
    refine ⟨g, cap, w, ?_, by simpa using h, World.grownBy.refl _ _⟩
    rw [List.append_nil]
    refine run_append_nothing w 29 29 29 5 i Try.underlying29 hi' _ _ _ h.lc.1 _ ?_
    cases s with
    | none => exact Src.ofNil w Try.underlying29 c
    | some x => exact Src.ofSlice w Try.underlying29 x 0 c [] (by simp) (by simp) (by simp)
  · obtain ⟨b, off, rfl, hc⟩ := hsa (by omega)
    obtain ⟨g', cap', w', hr, ho, hg⟩ := run_append_w h ⟨b, off, none⟩ m c (ys.map fun y => .int .u8 y) (by simp [hsl])
      (fun j u hj => by
        have hj' : j < ys.length := by have := (List.getElem?_eq_some_iff.1 hj).1; simpa using this
        rw [add_none, hc j (by omega), ← hj]
        simp [hj'])
      (by intro u hu; obtain ⟨y, _, rfl⟩ := List.mem_map.1 hu; rfl) (by omega) (by omega) hbase
    refine ⟨g', cap', w', ?_, ?_, hg⟩
    · rw [hr, List.length_append, hsl]
    · unfold Own; rw [List.length_append, List.map_append, hsl]; exact ho
/-- n bytes from q on. -/
def byt (y : Nat → Nat) (q n : Nat) : List Int := (List.range n).map fun i => ((y (q + i) : Nat) : Int)
theorem byt_len (y : Nat → Nat) (q n : Nat) : (byt y q n).length = n := by simp [byt]
theorem byt_succ (y : Nat → Nat) (q n : Nat) : byt y q (n + 1) = ((y q : Nat) : Int) :: byt y (q + 1) n := by
  unfold byt
  rw [List.range_succ_eq_map, List.map_cons, List.map_map]
  simp only [Nat.add_zero]
  congr 1
  refine List.map_congr_left fun i _ => ?_
  simp only [Function.comp]
  rw [show q + Nat.succ i = q + 1 + i by omega]
theorem byt_add (z : Nat → Nat) (off a b : Nat) : byt z off (a + b) = byt z off a ++ byt z (off + a) b := by
  unfold byt
  rw [List.range_add, List.map_append, List.map_map]
  congr 1
  refine List.map_congr_left fun i _ => ?_
  simp only [Function.comp]
  rw [Nat.add_assoc]
/-- A text of n bytes. -/
def bstr (z : Nat → Nat) (n : Nat) : ByteArray := ⟨((List.range n).map fun i => UInt8.ofNat (z i)).toArray⟩
theorem conv_string {w : World} {a : Option Addr} {len cap : Nat} {z : Nat → Nat} (h : Lies w a len cap z) : (convert 29 9 (.slice a len cap)).run Try.prog w = .ok (.string (bstr z len)) w := by
  by_cases h0 : len = 0
  · subst h0
    rw [run_convert_bytes_string w 29 9 5 a 0 cap Try.underlying29 Try.underlying5 Try.underlying9]
    cases a <;> kernel_rfl
  · obtain ⟨b, off, rfl, _, hc⟩ := h.spot (by omega)
    have := run_convert_bytes_back (P := Try.prog) w 29 9 5 ⟨b, off, .none⟩ cap ((List.range len).map fun i => UInt8.ofNat (z i)) Try.underlying29 Try.underlying5 Try.underlying9 (fun j hj => by
      rw [add_none, hc j (by simpa using hj)]
      have := h.byte j
      simp
      omega)
    simpa [bstr] using this
theorem bstr_congr {z z' : Nat → Nat} {n : Nat} (h : ∀ i, i < n → z i = z' i) : bstr z n = bstr z' n := by
  unfold bstr; congr 2; exact List.map_congr_left fun i hi => by rw [h i (List.mem_range.1 hi)]
/-- Bytes, as numbers. -/
def Byt (xs : List Int) : Prop := ∀ i, 0 ≤ xs.getD i 0 ∧ xs.getD i 0 < 256
theorem OwnV.liesB {w : World} {base : Nat} {v : Value} {bs : List Int} (h : OwnV w base 5 .u8 v bs) (hb : Byt bs) (hl : bs.length ≤ 150000000000000) : ∃ a cap, v = .slice a bs.length cap ∧ Lies w a bs.length cap (zb bs) := by
  have hbz : ∀ q, zb bs q < 256 := fun q => by have := hb q; unfold zb; omega
  by_cases h0 : 0 < bs.length
  · obtain ⟨g, cap, rfl, ho⟩ := h.own h0
    refine ⟨_, cap, rfl, ho.lc.1, by omega, hbz, fun _ => ⟨g, 0, rfl, ho.lt.2, fun i hi => ?_⟩⟩
    rw [Nat.zero_add, ho.cell hi]
    have := hb i
    unfold zb
    congr 2
    omega
  · obtain ⟨a, cap, rfl⟩ := h.form
    exact ⟨a, cap, rfl, by omega, by omega, hbz, fun h => by omega⟩
theorem Own.liesB {w : World} {base g cap : Nat} {bs : List Int} (h : Own w base 5 .u8 g cap bs) (hb : Byt bs) (hl : bs.length ≤ 150000000000000) : Lies w (some ⟨g, 0, none⟩) bs.length cap (zb bs) := by
  have hbz : ∀ q, zb bs q < 256 := fun q => by have := hb q; unfold zb; omega
  refine ⟨h.lc.1, by omega, hbz, fun _ => ⟨g, 0, rfl, h.lt.2, fun i hi => ?_⟩⟩
  rw [Nat.zero_add, h.cell hi]
  have := hb i
  unfold zb
  congr 2
  omega
theorem Byt.zb_lt {bs : List Int} (h : Byt bs) (i : Nat) : zb bs i < 256 := by have := h i; unfold zb; omega
theorem byt_of {n : Nat} {z : Nat → Nat} {q : Nat} (hz : ∀ i, z i < 256) : Byt (byt z q n) := fun i => by
  unfold byt
  rw [List.getD_eq_getElem?_getD]
  by_cases h : i < n
  · simp [h]; have := hz (q + i); omega
  · rw [List.getElem?_eq_none (by simp; omega)]; simp
theorem Byt.append {xs ys : List Int} (hx : Byt xs) (hy : Byt ys) : Byt (xs ++ ys) := fun i => by
  rw [List.getD_eq_getElem?_getD]
  by_cases h : i < xs.length
  · rw [List.getElem?_append_left h, ← List.getD_eq_getElem?_getD]; exact hx i
  · rw [List.getElem?_append_right (by omega), ← List.getD_eq_getElem?_getD]; exact hy _
/-- Bytes that are written out. -/
def zl (cs : List Nat) (i : Nat) : Nat := cs.getD i 0
theorem lies_lit {w : World} {g : Nat} {cs : List Nat} {fr : Nat × Nat} (hcs : cs.all (· < 256) = true) (hl : cs.length ≤ 1000) (h : w.heap[g]? = some (.cells (cs.map fun c => Value.int .u8 ((c : Nat) : Int)).toArray 5 fr)) : Lies w (some ⟨g, 0, none⟩) cs.length cs.length (zl cs) := by
  have hall : ∀ x ∈ cs, x < 256 := by simpa using hcs
  refine ⟨Nat.le_refl _, by omega, fun i => ?_, fun _ => ⟨g, 0, rfl, blk_lt h, fun i hi => ?_⟩⟩
  · unfold zl
    rw [List.getD_eq_getElem?_getD]
    cases e : cs[i]? with
    | none => simp
    | some y => simpa using hall y (List.mem_of_getElem? e)
  · rw [Nat.zero_add, blk_cell h]
    simp [zl, hi]
theorem Own.srcB {w : World} {a : Option Addr} {n c : Nat} {z : Nat → Nat} (h : Lies w a n c z) : SrcI w .u8 a n (byt z 0 n) :=
  ⟨byt_len _ _ _, fun h0 => by
    obtain ⟨b, o, e, _, hc⟩ := h.spot h0
    exact ⟨b, o, e, fun j hj => by rw [hc j hj]; simp [byt, hj]⟩⟩
theorem byt_zb {S : List Int} (h : Byt S) : byt (zb S) 0 S.length = S := by
  unfold byt
  refine List.ext_getElem? fun i => ?_
  by_cases hi : i < S.length
  · have := h i
    rw [List.getD_eq_getElem?_getD, List.getElem?_eq_getElem hi] at this
    simp [hi, zb]
    simp at this
    omega
  · rw [List.getElem?_eq_none (by simp; omega), List.getElem?_eq_none (by omega)]
/-- A slice from n on, as the model has it. -/
theorem lies_cut {w : World} {p1 p2 : Option Addr} {l c n : Nat} {z : Nat → Nat} (h : Lies w p2 (l - n) (c - n) z) (hl : l ≤ c) (hn : n ≤ l) : Lies w (if c = n then p1 else p2) (l - n) (c - n) z := by
  by_cases e : c = n
  · rw [if_pos e]; exact ⟨h.lc, h.reach, h.byte, fun h0 => by omega⟩
  · rw [if_neg e]; exact h
/-- A number below 2^32 as four bytes, the highest first. -/
def bigL (s : Nat) : List Int := [(s : Int) / 16777216, (s : Int) / 65536 % 256, (s : Int) / 256 % 256, (s : Int) % 256]
theorem bigL_byt {s : Nat} (hs : s < 4294967296) : Byt (bigL s) := fun i => by
  unfold bigL
  rcases i with _ | _ | _ | _ | i
  · simp; omega
  · simp; omega
  · simp; omega
  · simp; omega
  · simp
theorem bigL_len (s : Nat) : (bigL s).length = 4 := rfl
theorem bstr_inj {z y : Nat → Nat} {n : Nat} (hz : ∀ i, z i < 256) (hy : ∀ i, y i < 256) (h : bstr z n = bstr y n) : ∀ i, i < n → z i = y i := by
  intro i hi
  unfold bstr at h
  have h1 := ByteArray.mk.inj h
  have h2 := congrArg Array.toList h1
  simp only at h2
  have h3 := congrArg (·[i]?) h2
  simp [hi] at h3
  have := congrArg UInt8.toNat h3
  simp at this
  have := hz i
  have := hy i
  omega
theorem OwnV.one {w : World} {base : Nat} {v : Value} {xs : List Int} (h : OwnV w base 5 .u8 v xs) (hbase : base ≤ w.heap.size) {C : Nat} {x : Int} (hB : w.heap[C]? = some (.cells #[.int .u8 x] 5)) (hlen : xs.length ≤ 140737488355000) :
    ∃ g' cap' w', (Builtin.append_ #[29, 29] 29 #[v, .slice (some ⟨C, 0, none⟩) 1 1]).run Try.prog w = .ok (.slice (some ⟨g', 0, none⟩) (xs.length + 1) cap') w' ∧ (Own w' base 5 .u8 g' cap' (xs ++ [x]) ∧ w.grownBy w' v.ownBlock ∧ (v.ownBlock = some g' ∨ g' = w.heap.size)) := by
  obtain ⟨i, hi', h1, h2, h3⟩ := info_of info5
  obtain ⟨g', cap', w', hr, ho, hg, hat, _⟩ := run_append_lies (P := Try.prog) w 29 29 base 5 i (.int .u8 0) 1 1 Try.underlying29 hi' h1 h3 h2 rfl (by omega) v xs.length _ h ⟨C, 0, none⟩ 1 1 [.int .u8 x] rfl
    (fun j u hj => by
      have := World.news_of_block hB j u (by simpa using hj)
      exact this)
    (by intro u hu; simp at hu; subst hu; rfl) (by omega) (by unfold maxLen; omega) (by omega) hbase w.heap.size rfl
  refine ⟨g', cap', w', hr, ?_, hg, hat⟩
  unfold Own; rw [List.length_append, List.map_append]; exact ho
theorem OwnV.mono' {w : World} {base base' : Nat} {e : TypeId} {k : IntKind} {v : Value} {xs : List Int} (h : OwnV w base e k v xs) (hb : base' ≤ base) : OwnV w base' e k v xs := by
  refine ⟨h.1, ?_⟩
  rcases h.2 with h' | ⟨g', cap', cur, hv, h1, h3⟩
  · exact .inl h'
  · exact .inr ⟨g', cap', cur, hv, Nat.le_trans hb h1, h3⟩
theorem lies_from {w : World} {b off len cap n : Nat} {z : Nat → Nat} (h : Lies w (some ⟨b, off, none⟩) len cap z) (hn : n ≤ len) : Lies w (some ⟨b, off + n, none⟩) (len - n) (cap - n) (fun i => z (n + i)) :=
  ⟨by have := h.lc; omega, by have := h.reach; omega, fun i => h.byte _, fun h0 => by
    obtain ⟨b', off', e, hb, hc⟩ := h.spot (by omega)
    simp only [Option.some.injEq, Addr.mk.injEq, and_true] at e
    obtain ⟨rfl, rfl⟩ := e
    exact ⟨b, off + n, rfl, hb, fun i hi => by have := hc (n + i) (by omega); rwa [← Nat.add_assoc] at this⟩⟩
theorem byt_bytes {S : List Int} (h : Byt S) {n : Nat} (hn : S.length = n) : byt (zb S) 0 n = S := by rw [← hn]; exact byt_zb h
/-- append, upon a row of the call's own. -/
theorem app_on {w w1 : World} {g c N : Nat} {xs ys : List Int} (hB : Below w.heap.size w w1) (hO : Own w1 w.heap.size 5 .u8 g c xs) {s : Option Addr} {m cm : Nat} (hL : SrcI w1 .u8 s m ys) (hN : xs.length = N) (hl : xs.length + m ≤ 150000000000000) :
    ∃ g' c' w', (Builtin.append_ #[29, 29] 29 #[.slice (some ⟨g, 0, none⟩) N c, .slice s m cm]).run Try.prog w1 = .ok (.slice (some ⟨g', 0, none⟩) (N + m) c') w' ∧ (Own w' w.heap.size 5 .u8 g' c' (xs ++ ys) ∧ Below w.heap.size w w' ∧ w1.grownBy w' (some g)) := by
  subst hN
  have hlen := hL.len
  obtain ⟨g', c', w', h1, h2, h3⟩ := hO.appendB hB.size (c := cm) hL (by omega)
  rw [List.length_append, hlen] at h1
  exact ⟨g', c', w', h1, h2, hB.grown h3 hB.size (fun k hk => by simp at hk; subst hk; exact hO.lt.1), h3⟩
theorem Own.src {w : World} {base g c : Nat} {xs : List Int} (h : Own w base 5 .u8 g c xs) : SrcI w .u8 (some ⟨g, 0, none⟩) xs.length xs :=
  ⟨rfl, fun _ => ⟨g, 0, rfl, fun j hj => by rw [Nat.zero_add]; exact h.cell hj⟩⟩
theorem Own.src' {w : World} {base g c n : Nat} {xs : List Int} (h : Own w base 5 .u8 g c xs) (hn : xs.length = n) : SrcI w .u8 (some ⟨g, 0, none⟩) n xs := by subst hn; exact h.src
end Go.Proofs.Ytninhcnpjadjpaa
