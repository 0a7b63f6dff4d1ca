/-
  A font that is laid, as bytes; slices.Grow, slices.Concat, sfnt.Lay as contracts.
-/
import Derived.Test.YtdmfammajggfpaaCon
import Derived.Test.YtdmfammajggfpaaApx
namespace Go.Proofs.Ytdmfammajggfpaa
open Go.RowKit

theorem wpList_app2 {P : Program} {w : World} {ops : Array Oper} {rest : List Oper} {o : Oper} {a : Act} {Q : Exit → Act → World → Prop} (hgd : o.guard = none) (s x : Operand) (t u : TypeId)
    (ho : o.op = .call { callee := .builtin .append, args := #[s, x], argTypes := #[t, u] }) {v1 v2 : Value} {R : Nat → Nat → World → Prop} {n : Nat} (hs : a.eval s = v1) (hx : a.eval x = v2)
    (hrun : ∃ g' cap' w', (Builtin.append_ #[t, u] o.type #[v1, v2]).run P w = .ok (.slice (some ⟨g', 0, none⟩) n cap') w' ∧ R g' cap' w')
    (h : ∀ g' cap' w', R g' cap' w' → wpList P ops Q rest (a.put o.dst (.slice (some ⟨g', 0, none⟩) n cap')) w') : wpList P ops Q (o :: rest) a w := by
  obtain ⟨g', cap', w', hr, hR⟩ := hrun
  refine wpList_plain hgd fun K hK => ?_
  unfold Oper.wp execOp
  simp only [ho, resolve, invoke, builtin, Sem.run_bind, Sem.run_pure, Result.andThen_ok, List.map_toArray, List.map_cons, List.map_nil, hs, hx, hr]
  exact hK _ _ (h g' cap' w' hR)
theorem wpList_appv {P : Program} {w : World} {ops : Array Oper} {rest : List Oper} {o : Oper} {a : Act} {Q : Exit → Act → World → Prop} (hgd : o.guard = none) (s x : Operand) (t u : TypeId)
    (ho : o.op = .call { callee := .builtin .append, args := #[s, x], argTypes := #[t, u] }) {v1 v2 : Value} {R : Value → World → Prop} (hs : a.eval s = v1) (hx : a.eval x = v2)
    (hrun : ∃ v' w', (Builtin.append_ #[t, u] o.type #[v1, v2]).run P w = .ok v' w' ∧ R v' w')
    (h : ∀ v' w', R v' w' → wpList P ops Q rest (a.put o.dst v') w') : wpList P ops Q (o :: rest) a w := by
  obtain ⟨v', w', hr, hR⟩ := hrun
  refine wpList_plain hgd fun K hK => ?_
  unfold Oper.wp execOp
  simp only [ho, resolve, invoke, builtin, Sem.run_bind, Sem.run_pure, Result.andThen_ok, List.map_toArray, List.map_cons, List.map_nil, hs, hx, hr]
  exact hK _ _ (h v' w' hR)

/-- append of a literal. -/
theorem app_lit {w0 w : World} {g c N : Nat} {xs : List Int} (hB : Below w0.heap.size w0 w) (hO : Own w w0.heap.size 5 .u8 g c xs) (cs : Array Value) (ys : List Int) (hcs : cs = (ys.map fun x => Value.int .u8 x).toArray) {m : Nat} (hm : ys.length = m) (hN : xs.length = N) (hl : N + m ≤ 100000000000000) :
    ∃ g' c' w', (Builtin.append_ #[22, 22] 22 #[.slice (some ⟨g, 0, none⟩) N c, .slice (some ⟨w.heap.size, 0, none⟩) m m]).run Try.prog (w.alloc (.cells cs 5)) = .ok (.slice (some ⟨g', 0, none⟩) (N + m) c') w' ∧ (Own w' w0.heap.size 5 .u8 g' c' (xs ++ ys) ∧ Below w0.heap.size w0 w') := by
  have hb := blk_new w (.cells cs 5)
  obtain ⟨g', c', w', h1, h2, h3, _⟩ := app_on (hB.alloc hB.size (.cells cs 5)) (hO.alloc (.cells cs 5)) (s := some ⟨w.heap.size, 0, none⟩) (m := m) (cm := m) (ys := ys) ⟨hm, fun _ => ⟨w.heap.size, 0, rfl, fun j hj => by rw [Nat.zero_add, blk_cell hb, hcs]; simp [List.getD_eq_getElem?_getD, show j < ys.length by omega]⟩⟩ hN (by omega)
  exact ⟨g', c', w', h1, h2, h3⟩
/-- append of any bytes onto any row of the call's own. -/
theorem app_v {w0 w : World} {v : Value} {xs : List Int} (hB : Below w0.heap.size w0 w) (hO : OwnV w w0.heap.size 5 .u8 v xs) {s : Option Addr} {m cm : Nat} {ys : List Int} (hL : SrcI w .u8 s m ys) (hl : xs.length + m ≤ 100000000000000) :
    ∃ v' w', (Builtin.append_ #[22, 22] 22 #[v, .slice s m cm]).run Try.prog w = .ok v' w' ∧ (OwnV w' w0.heap.size 5 .u8 v' (xs ++ ys) ∧ Below w0.heap.size w0 w') := by
  rcases hO.2 with ⟨rfl, h0⟩ | ⟨g, cap, cur, rfl, h1, h2, h3⟩
  · have hx : xs = [] := List.length_eq_zero_iff.1 h0
    subst hx
    rcases Nat.eq_zero_or_pos m with h | h
    · subst h
      have hy : ys = [] := List.length_eq_zero_iff.1 hL.len
      subst hy
      obtain ⟨i, hi, _⟩ := info_of info5
      refine ⟨_, w, run_append_nothing w 22 22 22 5 i Try.underlying22 hi _ 0 0 (Nat.le_refl _) _ ?_, by simpa using hO, hB⟩
      cases s with
      | none => exact Src.ofNil w Try.underlying22 cm
      | some x => exact Src.ofSlice w Try.underlying22 x 0 cm [] (by simp) (by simp) (by simp)
    · obtain ⟨b, off, rfl, hc⟩ := hL.at' h
      obtain ⟨g', cap', w', hr, ho, hg⟩ := run_append_w hO ⟨b, off, none⟩ m cm (ys.map fun y => .int .u8 y) (by simp [hL.len])
        (fun j u hj => by
          have hj' : j < ys.length := by have := (List.getElem?_eq_some_iff.1 hj).1; simpa using this
          rw [add_none, hc j (by have := hL.len; omega), ← hj]
          simp [hj'])
        (by intro u hu; obtain ⟨y, _, rfl⟩ := List.mem_map.1 hu; rfl) h (by simp; simp at hl; omega) hB.size
      refine ⟨_, w', hr, ?_, hB.grown hg hB.size (fun k hk => by simp [Value.ownBlock] at hk)⟩
      have hm := hL.len
      unfold OwnV
      rw [List.length_append, List.map_append, hm]
      exact ho
  · have hO' : Own w w0.heap.size 5 .u8 g cap xs := hO
    obtain ⟨g', c', w', h4, h5, h6, _⟩ := app_on hB hO' (cm := cm) hL rfl (by omega)
    refine ⟨_, w', h4, ?_, h6⟩
    have := own_v h5 (n := xs.length + m) (by rw [List.length_append, hL.len])
    exact this
theorem ownv_src {w : World} {base : Nat} {v : Value} {xs : List Int} (h : OwnV w base 5 .u8 v xs) : ∃ a c, v = .slice a xs.length c ∧ SrcI w .u8 a xs.length xs := by
  rcases h.2 with ⟨rfl, h0⟩ | ⟨g, cap, cur, rfl, h1, h2, h3⟩
  · exact ⟨_, _, by rw [h0], ⟨rfl, fun h => by omega⟩⟩
  · exact ⟨_, _, rfl, Own.src h⟩

/-- How many bytes the first k have. -/
def sumN (t : Nat → Tab) : Nat → Nat
  | 0 => 0
  | k + 1 => sumN t k + (t k).l
/-- The bytes of the first k, one behind the other. -/
def bodyB (t : Nat → Tab) : Nat → List Int
  | 0 => []
  | k + 1 => bodyB t k ++ byt (t k).z 0 (t k).l
theorem bodyB_len (t : Nat → Tab) : ∀ k, (bodyB t k).length = sumN t k
  | 0 => rfl
  | k + 1 => by rw [bodyB, List.length_append, bodyB_len t k, byt_len, sumN]
theorem sumN_le {t : Nat → Tab} {n : Nat} (h : ∀ k, k < n → (t k).l ≤ 100) : ∀ {k : Nat}, k ≤ n → sumN t k ≤ 100 * k
  | 0, _ => by simp [sumN]
  | k + 1, hk => by have := sumN_le h (k := k) (by omega); have := h k (by omega); rw [sumN]; omega

set_option maxHeartbeats 400000 in
theorem grow_any (M : Nat) (hM : M ≤ 100000) (w : World) :
    Calls Try.prog 31 #[.slice none 0 0, .int .i64 (M : Nat)] w fun e w' => ∃ v, e = .returned v ∧ OwnV w' w.heap.size 5 .u8 v [] ∧ Below w.heap.size w w' := by
  rcases Nat.eq_zero_or_pos M with h0 | h0
  · have h0' : ¬ (0 : Int) < M := by omega
    go_enter Try.func31, Try.ntmps31
    go_wp2
    go_ret
    exact ⟨_, rfl, ownv_nil _ _ _ _, Below.refl _ _⟩
  · have h0' : (0 : Int) < M := by omega
    obtain ⟨i, hi, h1, h2, h3⟩ := info_of info5
    have hr := Go.Lib.run_append_nil_zeros (P := Try.prog) w 22 3 22 5 i (.int .u8 0) .i64 .i64 Try.underlying22 Try.underlying3 hi h1 M h0 (by omega) (by omega) (by rw [h2]; omega)
    have HAP : Hid (∃ g' c' w', (Builtin.append_ #[22, 3] 22 #[.slice none 0 0, .int .i64 (M : Nat)]).run Try.prog w = .ok (.slice (some ⟨g', 0, none⟩) M c') w' ∧ (Own w' w.heap.size 5 .u8 g' c' [] ∧ Below w.heap.size w w' ∧ M ≤ c')) := by
      have hge := grownCap_ge w M 0 5
      have hcm : grownCap w M 0 5 ≤ maxLen := grownCap_le_maxLen w M 0 5 (by unfold maxLen; omega)
      refine ⟨_, _, _, hr, ⟨rfl, .inr ⟨w.heap.size, _, _, rfl, Nat.le_refl _, heap_alloc_new w.drew _, Nat.zero_le _, hcm, ?_, rfl⟩⟩, ((Below.refl _ w).drew).alloc (by simp) _, hge⟩
      have hz1 : (Value.int IntKind.u8 0).cells.size = 1 := rfl
      simp only [Array.size_append, size_zeroCells, hz1]
      omega
    clear hr
    go_enter Try.func31, Try.ntmps31
    go_wp2_with (at_builtin; refine wpList_app2 rfl (.tmp 20) (.tmp 21) 22 3 rfl rfl rfl HAP.out ?_; rintro g1 c1 w1 hR1; have hc1 := hR1.2.2; have HR : Hid (_) := hR1; clear hR1)
    go_ret
    exact ⟨_, rfl, HR.out.1, HR.out.2.1⟩

set_option maxRecDepth 100000 in
set_option maxHeartbeats 1600000 in
theorem concat_any (a : Option Addr) (n cap : Nat) (t : Nat → Tab) (w : World) (h : Tabs w a n cap t) (hn : n ≤ 64) (hl : ∀ k, k < n → (t k).l ≤ 100) :
    Calls Try.prog 21 #[.slice a n cap] w fun e w' => ∃ v, e = .returned v ∧ OwnV w' w.heap.size 5 .u8 v (bodyB t n) ∧ Below w.heap.size w w' := by
  have hlc := h.lc
  go_enter Try.func21, Try.ntmps21
  go_wp2_with fail
  go_loopw [3, 11] (fun s i wq => ∃ k : Nat, i = .int .i64 (k : Nat) ∧ k ≤ n ∧ s = .int .i64 (sumN t k : Nat) ∧ wq = w) (fun _ i _ => n - (intOf i).toNat)
  case atStart => exact ⟨0, rfl, by omega, rfl, rfl⟩
  case round =>
    obtain ⟨k, rfl, hk, rfl, rfl⟩ := hrel
    have hs := sumN_le hl hk
    by_cases hkn : k < n
    · obtain ⟨b, off, rfl, hb, hc⟩ := h.spot (by omega)
      have c0 := hc k hkn
      have hkn' : (k : Int) < n := by omega
      have hlk := hl k hkn
      have HS : Hid (sumN t (k + 1) = sumN t k + (t k).l) := rfl
      obtain ⟨S, hS⟩ : ∃ S, Hid (sumN t k = S) := ⟨_, rfl⟩
      rw [hS.out] at hs HS ⊢
      have hneg : ¬ ((S : Int) + ((t k).l : Nat) < 0) := by omega
      clear hc
      go_wp2
      exact ⟨⟨k + 1, by go_num, by omega, congrArg (Value.int .i64) (by rw [HS.out]; omega), by trivial⟩, by simp [intOf]; omega⟩
    · obtain rfl : k = n := by omega
      have hkn' : ¬ (k : Int) < k := by omega
      have G := grow_any (sumN t k) (by omega) wr
      go_wp2_with fail
      refine G.mono ?_
      rintro e w1 ⟨v, rfl, hO, hB⟩
      clear G
      go_wp2_with fail
      go_loopw [6, 27] (fun sv i wq => ∃ j : Nat, i = .int .i64 (j : Nat) ∧ j ≤ k ∧ OwnV wq wr.heap.size 5 .u8 sv (bodyB t j) ∧ Below wr.heap.size wr wq) (fun _ i _ => k - (intOf i).toNat)
      case atStart => exact ⟨0, rfl, by omega, hO, hB⟩
      case round =>
        clear hO hB
        obtain ⟨j, rfl, hj, hO, hB⟩ := hrel
        by_cases hjn : j < k
        · have h1 := h.below hB (Nat.le_refl _)
          obtain ⟨b, off, rfl, hb, hc⟩ := h1.spot (by omega)
          have c0 := hc j hjn
          have hjn' : (j : Int) < k := by omega
          have hlj := hl j hjn
          have hsj := sumN_le hl hj
          have LJ := h1.each j hjn
          obtain ⟨av, cv, hv, _⟩ := ownr_form hO
          subst hv
          have HAP : Hid (_) := app_v (cm := (t j).c) hB hO (Own.srcB LJ) (by rw [bodyB_len]; omega)
          clear hc h1 LJ hO
          go_wp2_with (at_builtin; refine wpList_appv rfl (.tmp 31) (.tmp 32) 22 22 rfl rfl rfl HAP.out ?_; rintro v1 w2 hR1; have HR : Hid (_) := hR1; clear hR1)
          exact ⟨⟨j + 1, by go_num, by omega, HR.out.1, HR.out.2⟩, by simp [intOf]; omega⟩
        · obtain rfl : j = k := by omega
          have hjn' : ¬ (j : Int) < j := by omega
          go_wp2
          go_ret
          exact ⟨_, rfl, hO, hB⟩
end Go.Proofs.Ytdmfammajggfpaa
