/-
  A font that is laid, as bytes; slices.Grow, slices.Concat, sfnt.Lay as contracts.
-/
import Derived.Test.YtninhcnpjadjpaaCon
import Derived.Test.YtninhcnpjadjpaaApx
namespace Go.Proofs.Ytninhcnpjadjpaa
open Go.RowKit

theorem wpList_app2 {P : Program} {w : World} {ops : Array Oper} {rest : List Oper} {o : Oper} {a : Act} {Q : Exit → Act → World → Prop} (hgd : o.guard = none) (s x : Operand) (t u : TypeId)
    (ho : o.op = .call { callee := .builtin .append, args := #[s, x], argTypes := #[t, u] }) {v1 v2 : Value} {R : Nat → Nat → World → Prop} {n : Nat} (hs : a.eval s = v1) (hx : a.eval x = v2)
    (hrun : ∃ g' cap' w', (Builtin.append_ #[t, u] o.type #[v1, v2]).run P w = .ok (.slice (some ⟨g', 0, none⟩) n cap') w' ∧ R g' cap' w')
    (h : ∀ g' cap' w', R g' cap' w' → wpList P ops Q rest (a.put o.dst (.slice (some ⟨g', 0, none⟩) n cap')) w') : wpList P ops Q (o :: rest) a w := by
  obtain ⟨g', cap', w', hr, hR⟩ := hrun
  refine wpList_plain hgd fun K hK => ?_
  unfold Oper.wp execOp
  simp only [ho, resolve, invoke, builtin, Sem.run_bind, Sem.run_pure, Result.andThen_ok, List.map_toArray, List.map_cons, List.map_nil, hs, hx, hr]
  exact hK _ _ (h g' cap' w' hR)
theorem wpList_appv {P : Program} {w : World} {ops : Array Oper} {rest : List Oper} {o : Oper} {a : Act} {Q : Exit → Act → World → Prop} (hgd : o.guard = none) (s x : Operand) (t u : TypeId)
    (ho : o.op = .call { callee := .builtin .append, args := #[s, x], argTypes := #[t, u] }) {v1 v2 : Value} {R : Value → World → Prop} (hs : a.eval s = v1) (hx : a.eval x = v2)
    (hrun : ∃ v' w', (Builtin.append_ #[t, u] o.type #[v1, v2]).run P w = .ok v' w' ∧ R v' w')
    (h : ∀ v' w', R v' w' → wpList P ops Q rest (a.put o.dst v') w') : wpList P ops Q (o :: rest) a w := by
  obtain ⟨v', w', hr, hR⟩ := hrun
  refine wpList_plain hgd fun K hK => ?_
  unfold Oper.wp execOp
  simp only [ho, resolve, invoke, builtin, Sem.run_bind, Sem.run_pure, Result.andThen_ok, List.map_toArray, List.map_cons, List.map_nil, hs, hx, hr]
  exact hK _ _ (h v' w' hR)

/-- append of a literal. -/
theorem app_lit {w0 w : World} {g c N : Nat} {xs : List Int} (hB : Below w0.heap.size w0 w) (hO : Own w w0.heap.size 5 .u8 g c xs) (cs : Array Value) (ys : List Int) (hcs : cs = (ys.map fun x => Value.int .u8 x).toArray) {m : Nat} (hm : ys.length = m) (hN : xs.length = N) (hl : N + m ≤ 100000000000000) :
    ∃ g' c' w', (Builtin.append_ #[29, 29] 29 #[.slice (some ⟨g, 0, none⟩) N c, .slice (some ⟨w.heap.size, 0, none⟩) m m]).run Try.prog (w.alloc (.cells cs 5)) = .ok (.slice (some ⟨g', 0, none⟩) (N + m) c') w' ∧ (Own w' w0.heap.size 5 .u8 g' c' (xs ++ ys) ∧ Below w0.heap.size w0 w') := by
  have hb := blk_new w (.cells cs 5)
  obtain ⟨g', c', w', h1, h2, h3, _⟩ := app_on (hB.alloc hB.size (.cells cs 5)) (hO.alloc (.cells cs 5)) (s := some ⟨w.heap.size, 0, none⟩) (m := m) (cm := m) (ys := ys) ⟨hm, fun _ => ⟨w.heap.size, 0, rfl, fun j hj => by rw [Nat.zero_add, blk_cell hb, hcs]; simp [List.getD_eq_getElem?_getD, show j < ys.length by omega]⟩⟩ hN (by omega)
  exact ⟨g', c', w', h1, h2, h3⟩
/-- append of any bytes onto any row of the call's own. -/
theorem app_v {w0 w : World} {v : Value} {xs : List Int} (hB : Below w0.heap.size w0 w) (hO : OwnV w w0.heap.size 5 .u8 v xs) {s : Option Addr} {m cm : Nat} {ys : List Int} (hL : SrcI w .u8 s m ys) (hl : xs.length + m ≤ 100000000000000) :
    ∃ v' w', (Builtin.append_ #[29, 29] 29 #[v, .slice s m cm]).run Try.prog w = .ok v' w' ∧ (OwnV w' w0.heap.size 5 .u8 v' (xs ++ ys) ∧ Below w0.heap.size w0 w') := by
  rcases hO.2 with ⟨rfl, h0⟩ | ⟨g, cap, cur, rfl, h1, h2, h3⟩
  · have hx : xs = [] := List.length_eq_zero_iff.1 h0
    subst hx
    rcases Nat.eq_zero_or_pos m with h | h
    · subst h
      have hy : ys = [] := List.length_eq_zero_iff.1 hL.len
      subst hy
      obtain ⟨i, hi, _⟩ := info_of info5
      refine ⟨_, w, run_append_nothing w 29 29 29 5 i Try.underlying29 hi _ 0 0 (Nat.le_refl _) _ ?_, by simpa using hO, hB⟩
      cases s with
      | none => exact Src.ofNil w Try.underlying29 cm
      | some x => exact Src.ofSlice w Try.underlying29 x 0 cm [] (by simp) (by simp) (by simp)
    · obtain ⟨b, off, rfl, hc⟩ := hL.at' h
      obtain ⟨g', cap', w', hr, ho, hg⟩ := run_append_w hO ⟨b, off, none⟩ m cm (ys.map fun y => .int .u8 y) (by simp [hL.len])
        (fun j u hj => by
          have hj' : j < ys.length := by have := (List.getElem?_eq_some_iff.1 hj).1; simpa using this
          rw [add_none, hc j (by have := hL.len; omega), ← hj]
          simp [hj'])
        (by intro u hu; obtain ⟨y, _, rfl⟩ := List.mem_map.1 hu; rfl) h (by simp; simp at hl; omega) hB.size
      refine ⟨_, w', hr, ?_, hB.grown hg hB.size (fun k hk => by simp [Value.ownBlock] at hk)⟩
      have hm := hL.len
      unfold OwnV
      rw [List.length_append, List.map_append, hm]
      exact ho
  · have hO' : Own w w0.heap.size 5 .u8 g cap xs := hO
    obtain ⟨g', c', w', h4, h5, h6, _⟩ := app_on hB hO' (cm := cm) hL rfl (by omega)
    refine ⟨_, w', h4, ?_, h6⟩
    have := own_v h5 (n := xs.length + m) (by rw [List.length_append, hL.len])
    exact this
theorem ownv_src {w : World} {base : Nat} {v : Value} {xs : List Int} (h : OwnV w base 5 .u8 v xs) : ∃ a c, v = .slice a xs.length c ∧ SrcI w .u8 a xs.length xs := by
  rcases h.2 with ⟨rfl, h0⟩ | ⟨g, cap, cur, rfl, h1, h2, h3⟩
  · exact ⟨_, _, by rw [h0], ⟨rfl, fun h => by omega⟩⟩
  · exact ⟨_, _, rfl, Own.src h⟩

/-- How many bytes the first k have. -/
def sumN (t : Nat → Tab) : Nat → Nat
  | 0 => 0
  | k + 1 => sumN t k + (t k).l
/-- The bytes of the first k, one behind the other. -/
def bodyB (t : Nat → Tab) : Nat → List Int
  | 0 => []
  | k + 1 => bodyB t k ++ byt (t k).z 0 (t k).l
theorem bodyB_len (t : Nat → Tab) : ∀ k, (bodyB t k).length = sumN t k
  | 0 => rfl
  | k + 1 => by rw [bodyB, List.length_append, bodyB_len t k, byt_len, sumN]
theorem sumN_le {t : Nat → Tab} {n : Nat} (h : ∀ k, k < n → (t k).l ≤ 100) : ∀ {k : Nat}, k ≤ n → sumN t k ≤ 100 * k
  | 0, _ => by simp [sumN]
  | k + 1, hk => by have := sumN_le h (k := k) (by omega); have := h k (by omega); rw [sumN]; omega

end Go.Proofs.Ytninhcnpjadjpaa
