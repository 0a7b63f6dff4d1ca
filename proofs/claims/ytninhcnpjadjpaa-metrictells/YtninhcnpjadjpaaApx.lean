/-
  Rows of any kind that the call itself owns: one more at the end; a number of zero bytes at the end; a text at the end. Records as cells. No Go text is walked here.
-/
import Derived.Test.YtninhcnpjadjpaaSfn
import Derived.Lib.AppendZerosOnto
import Derived.Lib.AppendStr
namespace Go.Proofs.Ytninhcnpjadjpaa
open Go.RowKit

/-- What is asked of a slice's type. -/
structure ETy (t e : TypeId) (z : Value) (size bytes : Nat) : Prop where
  ht : Try.prog.underlying t = some (.slice e)
  hi : (Try.prog.info? e).map (fun i => (i.zero, i.size, i.bytes)) = some (some z, size, bytes)
  hz : z.cells.size = size
  hs : 0 < size
  hb : bytes ≤ 32
theorem E26 : ETy 30 9 (.string ⟨#[]⟩) 1 16 := ⟨Try.underlying30, by kernel_rfl, rfl, by omega, by omega⟩
theorem E27 : ETy 31 29 (.slice .none 0 0) 1 24 := ⟨Try.underlying31, by kernel_rfl, rfl, by omega, by omega⟩
theorem E57 : ETy 65 70 (.agg #[.string ⟨#[]⟩, .int .i64 0, .int .i64 0]) 3 32 := ⟨Try.underlying65, by kernel_rfl, rfl, by omega, by omega⟩

theorem ownr_blk {w w' : World} {base : Nat} {e : TypeId} {size : Nat} {v : Value} {n : Nat} {xs : List Value} (h : w.ownsRow base e size v n xs) (hb : ∀ q, v.ownBlock = some q → w'.heap[q]? = w.heap[q]?) : w'.ownsRow base e size v n xs := by
  refine ⟨h.1, ?_⟩
  rcases h.2 with h' | ⟨g, cap, cur, rfl, h1, h2, h3⟩
  · exact .inl h'
  · exact .inr ⟨g, cap, cur, rfl, h1, (hb g rfl).trans h2, h3⟩
theorem ownr_below {w w' : World} {base : Nat} {e : TypeId} {size : Nat} {v : Value} {n : Nat} {xs : List Value} (h : w.ownsRow base e size v n xs) (hb : Below w.heap.size w w') : w'.ownsRow base e size v n xs :=
  ownr_blk h fun q hq => hb.block q (World.ownsRow.lt h q hq).2
theorem ownr_form {w : World} {base : Nat} {e : TypeId} {size : Nat} {v : Value} {n : Nat} {xs : List Value} (h : w.ownsRow base e size v n xs) : ∃ a cap, v = .slice a n cap ∧ n ≤ cap ∧ cap ≤ maxLen := by
  rcases h.2 with ⟨rfl, rfl⟩ | ⟨g, cap, cur, rfl, h1, h2, h3, h4, _⟩
  · exact ⟨_, _, rfl, Nat.le_refl _, by unfold maxLen; omega⟩
  · exact ⟨_, _, rfl, h3, h4⟩
theorem ownr_mono {w : World} {base base' : Nat} {e : TypeId} {size : Nat} {v : Value} {n : Nat} {xs : List Value} (h : w.ownsRow base e size v n xs) (hb : base' ≤ base) : w.ownsRow base' e size v n xs := by
  refine ⟨h.1, ?_⟩
  rcases h.2 with h' | ⟨g, cap, cur, hv, h1, h3⟩
  · exact .inl h'
  · exact .inr ⟨g, cap, cur, hv, Nat.le_trans hb h1, h3⟩

/-- One more at the end. -/
theorem app_one {t e : TypeId} {z : Value} {size bytes : Nat} (E : ETy t e z size bytes) {w0 w : World} {base B0 : Nat} {v : Value} {n : Nat} {xs : List Value} (hO : w.ownsRow base e size v n xs) (hB : Below B0 w0 w) (hbase : base ≤ w.heap.size)
    {b : Nat} {news : List Value} (hb : w.heap[b]? = some (.cells news.toArray e (0, 0))) (hl : news.length = size) (h1 : ∀ u ∈ news, u.oneCell' = true) (hn : n ≤ 100000) (hB0 : B0 ≤ base := by exact Nat.le_refl _) :
    ∃ g' c' w', (Builtin.append_ #[t, t] t #[v, .slice (some ⟨b, 0, none⟩) 1 1]).run Try.prog w = .ok (.slice (some ⟨g', 0, none⟩) (n + 1) c') w' ∧
      (w'.ownsRow base e size (.slice (some ⟨g', 0, none⟩) (n + 1) c') (n + 1) (xs ++ news) ∧ Below B0 w0 w' ∧ w.heap.size ≤ w'.heap.size ∧ ∀ q, q < w.heap.size → v.ownBlock ≠ some q → w'.heap[q]? = w.heap[q]?) := by
  obtain ⟨i, hi', h2, h3, h4⟩ := info_of E.hi
  obtain ⟨v', w', hr, ho, hg, _⟩ := run_append_own (P := Try.prog) w base t t e i z size bytes E.ht hi' h2 h4 h3 E.hz E.hs v n xs hO ⟨b, 0, none⟩ 1 1 news (by omega)
    (fun j u hj => by rw [add_none, Nat.zero_add, blk_cell hb]; simpa using hj) h1 (by unfold maxLen; omega) (by
      have : (n + 1) * bytes ≤ 100001 * 32 := Nat.mul_le_mul (by omega) E.hb
      omega) hbase
  obtain ⟨g, cap, rfl, _, _⟩ := ho.form (by omega)
  exact ⟨g, cap, w', hr, ho, hB.grown hg (Nat.le_trans hB0 hbase) (fun k hk => Nat.le_trans hB0 (World.ownsRow.lt hO k hk).1), hg.size, fun q hq hne => hg.block q hq (fun e => hne e.symm)⟩

/-- Bytes: a number of zeros at the end. -/
theorem app_zeros {w0 w : World} {g c n : Nat} {xs : List Int} (hB : Below w0.heap.size w0 w) (hO : Own w w0.heap.size 5 .u8 g c xs) (k : Nat) (h0 : 0 < k) (hn : xs.length = n) (hl : n + k ≤ 100000000000000) :
    ∃ g' c' w', (Builtin.append_ #[29, 3] 29 #[.slice (some ⟨g, 0, none⟩) n c, .int .i64 (k : Nat)]).run Try.prog w = .ok (.slice (some ⟨g', 0, none⟩) (n + k) c') w' ∧ (Own w' w0.heap.size 5 .u8 g' c' (xs ++ List.replicate k 0) ∧ Below w0.heap.size w0 w') := by
  subst hn
  obtain ⟨i, hi, h1, h2, h3⟩ := info_of info5
  have hlt := hO.lt
  have hlc := hO.lc
  have hzc : ∀ m, (Builtin.zeroCells (Value.int .u8 0).cells m).toList = List.replicate m (Value.int .u8 0) := by
    intro m
    apply List.ext_getElem?
    intro j
    unfold Builtin.zeroCells
    by_cases hj : j < m
    · simp [Value.cells, hj, Nat.mod_one]
    · rw [List.getElem?_eq_none (by simp [Value.cells]; omega), List.getElem?_eq_none (by simp; omega)]
  by_cases hroom : xs.length + k ≤ c
  · rcases hO.2 with ⟨h', _⟩ | ⟨g', cap', cur, hv, hb1, hb2, hb3, hb4, hb5, hb6⟩
    · simp at h'
    · simp only [Value.slice.injEq, Option.some.injEq, Addr.mk.injEq, and_true, true_and] at hv
      obtain ⟨rfl, rfl⟩ := hv
      have hst := run_storeCells_at Try.prog g xs.length 5 (List.replicate k (Value.int .u8 0)) 0 cur w hb2 (by simp; omega) (by intro u hu; rw [(List.mem_replicate.1 hu).2]; rfl)
      simp only [Nat.add_zero] at hst
      have hw : IntKind.i64.wrap (k : Int) = k := by rw [IntKind.wrap_i64]; omega
      have hneg : ¬ ((k : Int) < 0) := by omega
      have h48 : ¬ (281474976710656 < (k : Int) * (i.bytes : Int)) := by rw [h2]; omega
      have hk : ¬ k = 0 := by omega
      refine ⟨g, c, w.setRow g (cur.toList.take xs.length ++ List.replicate k (Value.int .u8 0) ++ cur.toList.drop (xs.length + k)).toArray, ?_, ?_, ?_⟩
      · simp [Builtin.append_, run_underlying Try.underlying29, run_underlying Try.underlying3, sizeOf, typeInfo, zeroValue, hi, h1, h3, asInt, asIntOf, hw, hneg, h48, hk, hroom, Addr.add_lit, hzc]
        simpa using congrArg (fun r => r.andThen fun _ w' => Result.ok (Value.slice (some ⟨g, 0, none⟩) (xs.length + k) c) w') hst
      · refine ⟨by simp, .inr ⟨g, c, _, by simp, hb1, setRow_heap w g cur _ 5 _ hb2, by simp; omega, hb4, ?_, ?_⟩⟩
        · simp only [List.size_toArray, List.length_append, List.length_take, List.length_drop, Array.length_toList, List.length_replicate]; omega
        · have ht' : cur.toList.take xs.length = xs.map fun x => Value.int .u8 x := by simpa using hb6
          rw [ht']
          simp only [List.length_append, List.length_replicate, Nat.mul_one, List.map_append, List.map_replicate]
          rw [show xs.length + k = (xs.map (fun x => Value.int .u8 x) ++ List.replicate k (Value.int .u8 0)).length by simp, List.take_left]
      · exact hB.grown (row := some g) ⟨rfl, rfl, rfl, by simp, fun q _ hq => setRow_other w g q _ (fun e => hq (by rw [e]))⟩ hB.size (fun q hq => by simp at hq; subst hq; exact hlt.1)
  · have hcells : ∀ j u, (xs.map fun x => Value.int .u8 x)[j]? = some u → w.cell? ((⟨g, 0, none⟩ : Addr).add j) = some u := hO.cells (g := g) rfl
    have hr := Go.Lib.run_append_grow_zeros (P := Try.prog) w 29 3 29 5 i (.int .u8 0) .i64 .i64 Try.underlying29 Try.underlying3 hi h1 (some ⟨g, 0, none⟩) xs.length c (xs.map fun x => Value.int .u8 x)
      (run_firstCells_some _ _ _ _ _ _ _ (by simp [h3]) (by simpa using hcells)) k h0 (by omega) (by omega) (by omega) (by rw [h2]; omega) (by rw [h2]; exact growslice_fits_wide (by omega) (by omega))
    refine ⟨_, _, _, hr, ?_, ?_⟩
    · have hge := grownCap_ge w (xs.length + k) c 5
      have hcm : grownCap w (xs.length + k) c 5 ≤ maxLen := grownCap_le_maxLen w (xs.length + k) c 5 (by unfold maxLen; omega)
      refine ⟨by simp, .inr ⟨w.heap.size, _, _, by simp, hB.size, heap_alloc_new w.drew _, by simpa using hge, hcm, ?_, ?_⟩⟩
      · have hz1 : (Value.int IntKind.u8 0).cells.size = 1 := rfl
        simp only [Array.size_append, List.size_toArray, size_zeroCells, hz1, List.length_map]
        omega
      · simp only [Array.toList_append, hzc, List.length_append, List.length_replicate, Nat.mul_one, List.map_append, List.map_replicate]
        rw [show xs.length + k = (xs.map (fun x => Value.int .u8 x) ++ List.replicate k (Value.int .u8 0)).length by simp, List.take_left]
    · exact (hB.drew).alloc (by simpa using hB.size) _

/-- A text's bytes, as numbers. -/
def txtL (s : ByteArray) : List Int := s.data.toList.map fun b => (b.toNat : Int)
theorem txtL_len (s : ByteArray) : (txtL s).length = s.size := by rw [txtL, List.length_map, Array.length_toList]; rfl
theorem txtL_byt (s : ByteArray) : Byt (txtL s) := fun i => by
  unfold txtL
  rw [List.getD_eq_getElem?_getD, List.getElem?_map]
  cases e : s.data.toList[i]? with
  | none => simp
  | some b => have := b.toNat_lt; simp; omega
/-- Bytes: a text at the end. -/
theorem app_text {w0 w : World} {g c n : Nat} {xs : List Int} (hB : Below w0.heap.size w0 w) (hO : Own w w0.heap.size 5 .u8 g c xs) (s : ByteArray) {m : Nat} (hm : s.size = m) (h0 : 0 < m) (hn : xs.length = n) (hl : n + m ≤ 100000000000000) :
    ∃ g' c' w', (Builtin.append_ #[29, 9] 29 #[.slice (some ⟨g, 0, none⟩) n c, .string s]).run Try.prog w = .ok (.slice (some ⟨g', 0, none⟩) (n + m) c') w' ∧ (Own w' w0.heap.size 5 .u8 g' c' (xs ++ txtL s) ∧ Below w0.heap.size w0 w') := by
  subst hn
  subst hm
  obtain ⟨i, hi, h1, h2, h3⟩ := info_of info5
  obtain ⟨v', w', hr, ho, hg, _⟩ := Go.Lib.run_append_own_string (P := Try.prog) w w0.heap.size 29 9 29 5 i Try.underlying29 Try.underlying9 hi h1 h3 h2 _ _ _ hO s (by unfold maxLen; omega) (by omega) hB.size
  obtain ⟨g', c', rfl, _, _⟩ := ho.form (by omega)
  refine ⟨g', c', w', hr, ?_, hB.grown hg hB.size (fun k hk => (World.ownsRow.lt hO k hk).1)⟩
  have e : Go.Lib.strCells s = (txtL s).map fun x => Value.int .u8 x := by
    unfold Go.Lib.strCells txtL
    rw [List.map_map]; rfl
  unfold Own
  rw [List.length_append, txtL_len, List.map_append, ← e]
  exact ho

/-- The first k records, as cells. -/
def recL (tg : Nat → ByteArray) (at' sz : Nat → Nat) : Nat → List Value
  | 0 => []
  | k + 1 => recL tg at' sz k ++ [.string (tg k), .int .i64 (at' k : Nat), .int .i64 (sz k : Nat)]
theorem recL_len (tg : Nat → ByteArray) (at' sz : Nat → Nat) : ∀ k, (recL tg at' sz k).length = k * 3
  | 0 => rfl
  | k + 1 => by rw [recL, List.length_append, recL_len tg at' sz k]; simp; omega
theorem recL_at (tg : Nat → ByteArray) (at' sz : Nat → Nat) {i : Nat} : ∀ {k : Nat}, i < k → (recL tg at' sz k)[i * 3]? = some (.string (tg i)) ∧ (recL tg at' sz k)[i * 3 + 1]? = some (.int .i64 (at' i : Nat)) ∧ (recL tg at' sz k)[i * 3 + 2]? = some (.int .i64 (sz i : Nat))
  | 0, h => by omega
  | k + 1, h => by
    have hl := recL_len tg at' sz k
    by_cases e : i = k
    · subst e
      rw [recL, List.getElem?_append_right (by omega), List.getElem?_append_right (by omega), List.getElem?_append_right (by omega), hl, Nat.sub_self, show i * 3 + 1 - i * 3 = 1 by omega, show i * 3 + 2 - i * 3 = 2 by omega]
      exact ⟨rfl, rfl, rfl⟩
    · rw [recL, List.getElem?_append_left (by omega), List.getElem?_append_left (by omega), List.getElem?_append_left (by omega)]
      exact recL_at tg at' sz (by omega)
theorem ownr_recs {w : World} {base g c n : Nat} {tg : Nat → ByteArray} {at' sz : Nat → Nat} (h : w.ownsRow base 70 3 (.slice (some ⟨g, 0, none⟩) n c) n (recL tg at' sz n)) (hn : n ≤ 64) : Recs w (some ⟨g, 0, none⟩) n c tg at' sz := by
  obtain ⟨a, cap, e, hc, _⟩ := ownr_form h
  simp only [Value.slice.injEq, true_and] at e
  refine ⟨by omega, hn, fun _ => ⟨g, rfl, (World.ownsRow.lt h g rfl).2, fun i hi => ?_⟩⟩
  rw [World.ownsRow.cellAt h (i * 3) (by omega), World.ownsRow.cellAt h (i * 3 + 1) (by omega), World.ownsRow.cellAt h (i * 3 + 2) (by omega)]
  exact recL_at tg at' sz hi
/-- Texts, tables, as cells. -/
theorem ownr_strs {w : World} {base n : Nat} {v : Value} {s : Nat → ByteArray} (h : w.ownsRow base 9 1 v n ((List.range n).map fun i => .string (s i))) (hn : n ≤ 100000) : ∃ a c, v = .slice a n c ∧ Strs w a n c s := by
  rcases h.2 with ⟨rfl, rfl⟩ | ⟨g, cap, cur, rfl, h1, h2, h3, h4, h5, h6⟩
  · exact ⟨_, _, rfl, Strs.none _ _⟩
  · refine ⟨_, _, rfl, h3, hn, fun _ => ⟨g, 0, rfl, blk_lt h2, fun i hi => ?_⟩⟩
    rw [Nat.zero_add, World.ownsRow.cellAt h i (by omega)]
    simp [hi]
theorem ownr_tabs {w : World} {base n : Nat} {v : Value} {t : Nat → Tab} (h : w.ownsRow base 29 1 v n ((List.range n).map fun i => .slice (t i).a (t i).l (t i).c)) (hn : n ≤ 100000) (he : ∀ i, i < n → Lies w (t i).a (t i).l (t i).c (t i).z) : ∃ a c, v = .slice a n c ∧ Tabs w a n c t := by
  rcases h.2 with ⟨rfl, rfl⟩ | ⟨g, cap, cur, rfl, h1, h2, h3, h4, h5, h6⟩
  · exact ⟨_, _, rfl, Tabs.none _ _⟩
  · refine ⟨_, _, rfl, h3, by omega, fun _ => ⟨g, 0, rfl, blk_lt h2, fun i hi => ?_⟩, he⟩
    rw [Nat.zero_add, World.ownsRow.cellAt h i (by omega)]
    simp [hi]
theorem range_snoc {α : Type} (f : Nat → α) (n : Nat) : (List.range (n + 1)).map f = (List.range n).map f ++ [f n] := by
  rw [List.range_succ, List.map_append]; rfl
end Go.Proofs.Ytninhcnpjadjpaa
