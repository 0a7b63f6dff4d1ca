/-
  peek.Part and the reference's Part as contracts.
-/
import Derived.Test.YtninhcnpjadjpaaNum
namespace Go.Proofs.Ytninhcnpjadjpaa
open Go.RowKit

theorem make22z (n : Nat) (hn : n ≤ 200000000000000) (W : World) : (Instr.makeSlice 29 (.int .i64 n) (.int .i64 n)).run Try.prog W = .ok (.slice (some ⟨W.heap.size, 0, none⟩) n n) (W.alloc (.cells (zeros n).toArray 5)) := by
  obtain ⟨i, hi, h1, h2, h3⟩ := info_of info5
  have h := run_make (P := Try.prog) W 29 5 i (.int .u8 0) Try.underlying29 hi h1 .i64 .i64 n n (by omega) (by omega) (by rw [h2]; omega) (by omega)
  rw [h, h3, Int.toNat_natCast, Nat.mul_one]
  have h' := toList_madeCells_one (.int .u8 0) n
  have : madeCells #[.int .u8 0] n = (List.replicate n (.int .u8 0)).toArray := by rw [← h']
  show Result.ok _ (W.alloc (.cells (madeCells #[.int .u8 0] n) 5)) = _
  rw [this]; rfl
set_option maxHeartbeats 400000 in
theorem part_any (a : Option Addr) (len cap : Nat) (z : Nat → Nat) (at' n : Int) (w : World) (h : Lies w a len cap z) (ha : at' ≤ 9223372036854775807) :
    Calls Try.prog 29 #[.slice a len cap, .int .i64 at', .int .i64 n] w fun e w' => ∃ a' cap', e = .returned (.tuple #[.slice a' (plen len at' n) cap', .bool (there len at' n)]) ∧ Lies w' a' (plen len at' n) cap' (fun i => z (at'.toNat + i)) ∧ Below w.heap.size w w' := by
  have hr := h.reach
  have hlc := h.lc
  have hbyte := h.byte
  by_cases ht : there len at' n
  · obtain ⟨h1, h2, h3⟩ := there_iff.1 ht
    obtain ⟨p, rfl⟩ : ∃ p : Nat, at' = p := ⟨at'.toNat, by omega⟩
    obtain ⟨m, rfl⟩ : ∃ m : Nat, n = m := ⟨n.toNat, by omega⟩
    have e1 : plen len p m = m := by simp [plen, ht]
    rw [e1, ht, Int.toNat_natCast]
    have hmk := make22z m (by omega)
    by_cases hm : m = 0
    · have hcp : ∀ (W : World) (s : Option Addr) (sl sc g : Nat), (Builtin.copy_ #[29, 29] 3 #[.slice (some ⟨g, 0, none⟩) m m, .slice s sl sc]).run Try.prog W = .ok (goInt 0) W := fun W s sl sc g => run_copy_none W 29 29 3 5 _ _ _ _ _ _ Try.underlying29 size5 (by simp [hm])
      have HM : Hid (m = 0) := hm
      clear hm
      go_enter Try.func29, Try.ntmps29
      go_wp2_with fail
      refine (holds_any _ _ _ _ _ _ hr ha).mono ?_
      rintro e w' ⟨rfl, rfl⟩
      rw [ht]
      go_wp2
      all_goals go_ret2
      all_goals exact ⟨_, _, rfl, lies_block (more := #[]) hbyte (by omega) (Nat.le_refl _) (by rw [HM.out]; simpa [bcells, zeros] using blk_new w' (.cells (zeros 0).toArray 5)), (Below.refl _ _).alloc (Nat.le_refl _) _⟩
    · obtain ⟨b, off, rfl, hb, hc⟩ := h.spot (by omega)
      obtain ⟨W2, hcp, hg2, hbe⟩ : ∃ W2, (Builtin.copy_ #[29, 29] 3 #[.slice (some ⟨w.heap.size, 0, none⟩) m m, .slice (some ⟨b, off + p, none⟩) (len - p) (cap - p)]).run Try.prog (w.alloc (.cells (zeros m).toArray 5)) = .ok (goInt m) W2 ∧ W2.heap[w.heap.size]? = some (.cells (bcells z p m).toArray 5) ∧ Below w.heap.size w W2 := by
        have hg := blk_new w (.cells (zeros m).toArray 5)
        have hrun := run_copy_row (P := Try.prog) (w.alloc (.cells (zeros m).toArray 5)) 29 29 3 5 w.heap.size 0 m m ⟨b, off + p, none⟩ (len - p) (cap - p) (zeros m).toArray 5 (bcells z p m) Try.underlying29 size5 hg
          (by rw [bcells_length]; simp only [Nat.min_def]; split <;> omega)
          (fun j v hj => by
            obtain ⟨hj', rfl⟩ := bcells_get z p m j v hj
            rw [add_none, World.cell?_of_block (a := ⟨b, off + p + j, none⟩) (Below.heap_alloc w _ b hb), Nat.add_assoc]
            exact hc (p + j) (by omega))
          (by simp [bcells, zeros]) (bcells_one z p m)
        rw [bcells_length] at hrun
        refine ⟨_, hrun, ?_, below_setRow ((Below.refl _ _).alloc (Nat.le_refl _) _) (Nat.le_refl _) _⟩
        have := setRow_heap (w.alloc (.cells (zeros m).toArray 5)) w.heap.size (zeros m).toArray (bcells z p m).toArray 5 _ hg
        simpa [bcells, zeros] using this
      have G2 : Hid (W2.heap[w.heap.size]? = some (.cells (bcells z p m).toArray 5)) := hg2
      clear hg2
      go_enter Try.func29, Try.ntmps29
      go_wp2_with fail
      refine (holds_any _ _ _ _ _ _ hr ha).mono ?_
      rintro e w' ⟨rfl, rfl⟩
      rw [ht]
      go_wp2
      go_ret2
      exact ⟨_, _, rfl, lies_block (more := #[]) hbyte (by omega) (Nat.le_refl _) (by simpa using G2.out), hbe⟩
  · have e2 : there len at' n = false := by simpa using ht
    have e1 : plen len at' n = 0 := by simp [plen, e2]
    rw [e1, e2]
    go_enter Try.func29, Try.ntmps29
    go_wp2_with fail
    refine (holds_any _ _ _ _ _ _ hr ha).mono ?_
    rintro e w' ⟨rfl, rfl⟩
    rw [e2]
    go_wp2
    go_ret2
    exact ⟨none, 0, rfl, Lies.none _ _ (fun i => h.byte _), Below.refl _ _⟩
theorem append_none (m : Nat) (hm : m = 0) (s : Option Addr) (sc g : Nat) (W : World) : (Builtin.append_ #[29, 29] 29 #[.slice (some ⟨g, 0, none⟩) 0 0, .slice s m sc]).run Try.prog W = .ok (.slice (some ⟨g, 0, none⟩) 0 0) W := by
  subst hm
  obtain ⟨i, hi, h1, h2, h3⟩ := info_of info5
  refine run_append_nothing W 29 29 29 5 i Try.underlying29 hi _ 0 0 (Nat.le_refl _) _ ?_
  cases s with
  | none => exact Src.ofNil W Try.underlying29 sc
  | some x => exact Src.ofSlice W Try.underlying29 x 0 sc [] (by simp) (by simp) (by simp)
theorem ret_slice {m : Nat} (h : m = 0) (a : Option Addr) (c : Nat) (b : Value) : Ending.returned (.tuple #[.slice a 0 c, b]) = .returned (.tuple #[.slice a m c, b]) := by rw [h]
theorem lies_empty {z : Nat → Nat} (hz : ∀ i, z i < 256) (w : World) (p : Nat) {a : Option Addr} {m : Nat} (hm : m = 0) : Lies w a m 0 (fun i => z (p + i)) := ⟨by omega, by omega, fun i => hz _, fun h => by omega⟩
/-- The builtin append, where what it does is known. -/
theorem wpList_append_run {P : Program} {w : World} {ops : Array Oper} {rest : List Oper} {o : Oper} {a : Act} {Q : Exit → Act → World → Prop} (hgd : o.guard = none) (s x : Operand) (t : TypeId)
    (ho : o.op = .call { callee := .builtin .append, args := #[s, x], argTypes := #[t, t] }) {v1 v2 v : Value} {w' : World} (hs : a.eval s = v1) (hx : a.eval x = v2)
    (hrun : (Builtin.append_ #[t, t] o.type #[v1, v2]).run P w = .ok v w') (h : wpList P ops Q rest (a.put o.dst v) w') : wpList P ops Q (o :: rest) a w := by
  refine wpList_plain hgd fun K hK => ?_
  unfold Oper.wp execOp
  simp only [ho, resolve, invoke, builtin, Sem.run_bind, Sem.run_pure, Result.andThen_ok, List.map_toArray, List.map_cons, List.map_nil, hs, hx, hrun]
  exact hK _ _ h
/-- The bytes from p on, appended onto an empty new row. -/
theorem append_does {w : World} {b off len cap p m : Nat} {z : Nat → Nat} (hb : b < w.heap.size) (hz : ∀ i, z i < 256) (_hr : len ≤ 200000000000000) (hc : ∀ i, i < len → w.cell? ⟨b, off + i, none⟩ = some (.int .u8 (z i : Nat))) (hm : 0 < m) (hpm : p + m ≤ len) {m' : Nat} (hm' : m' = m) (hmb : m ≤ 4294967296) :
    ∃ g c W2, (Builtin.append_ #[29, 29] 29 #[.slice (some ⟨w.heap.size, 0, none⟩) 0 0, .slice (some ⟨b, off + p, none⟩) m' cap]).run Try.prog (w.alloc (.cells #[] 5)) = .ok (.slice (some ⟨g, 0, none⟩) m c) W2 ∧ Lies W2 (some ⟨g, 0, none⟩) m c (fun i => z (p + i)) ∧ Below w.heap.size w W2 ∧ ∃ cc, W2.heap[g]? = some (.cells cc 5) := by
  rw [hm']; clear hm'
  obtain ⟨i, hi, h1, h2, h3⟩ := info_of info5
  have hsrc : Src Try.prog i.size 29 (.slice (some ⟨b, off + p, none⟩) m cap) m (bcells z p m) (w.alloc (.cells #[] 5)) :=
    Src.ofSlice _ Try.underlying29 _ m cap _ (by rw [h3, bcells_length, Nat.mul_one]) (fun j u hj => by
      obtain ⟨hj', rfl⟩ := bcells_get z p m j u hj
      rw [add_none, World.cell?_of_block (a := ⟨b, off + p + j, none⟩) (Below.heap_alloc w _ b hb), Nat.add_assoc]
      exact hc (p + j) (by omega)) (bcells_one z p m)
  have hrun := run_append_grow_src (P := Try.prog) (w.alloc (.cells #[] 5)) 29 29 29 5 i (.int .u8 0) Try.underlying29 hi h1 (some ⟨w.heap.size, 0, none⟩) 0 0 [] (run_firstCells_some _ _ 0 _ 0 0 [] (by simp) (by simp)) _ m _ hsrc (by omega) (by omega) (growslice_fits (by omega) (by rw [h2]; omega))
  rw [Nat.zero_add] at hrun
  refine ⟨_, _, _, hrun, ?_, ?_, _, blk_new _ _⟩
  · have hg := blk_new (w.alloc (.cells #[] 5)).drew (.cells (([] ++ bcells z p m).toArray ++ Builtin.zeroCells (Value.int .u8 0).cells (grownCap (w.alloc (.cells #[] 5)) m 0 5 - m)) 5)
    rw [List.nil_append] at hg
    exact lies_block hz (by omega) (grownCap_ge _ _ _ _) hg
  · exact (((Below.refl _ _).alloc (Nat.le_refl _) _).drew).alloc (by simp) _
set_option maxRecDepth 100000 in
set_option maxHeartbeats 400000 in
theorem rpart_any (a : Option Addr) (len cap : Nat) (z : Nat → Nat) (at' n : Int) (w : World) (h : Lies w a len cap z) (ha : at' ≤ 9223372036854775807) (hnb : n ≤ 4294967296) :
    Calls Try.prog 37 #[.slice a len cap, .int .i64 at', .int .i64 n] w fun e w' => ∃ a' cap', e = .returned (.tuple #[.slice a' (plen len at' n) cap', .bool (there len at' n)]) ∧ Lies w' a' (plen len at' n) cap' (fun i => z (at'.toNat + i)) ∧ Below w.heap.size w w' ∧ ∀ b off sp, a' = some ⟨b, off, sp⟩ → ∃ cc, w'.heap[b]? = some (.cells cc 5) := by
  have hr := h.reach
  have hlc := h.lc
  have hbyte := h.byte
  by_cases ht : there len at' n
  · obtain ⟨h1, h2, h3⟩ := there_iff.1 ht
    obtain ⟨p, rfl⟩ : ∃ p : Nat, at' = p := ⟨at'.toNat, by omega⟩
    obtain ⟨m, rfl⟩ : ∃ m : Nat, n = m := ⟨n.toNat, by omega⟩
    have e1 : plen len p m = m := by simp [plen, ht]
    rw [e1, ht, Int.toNat_natCast]
    have g0 : ¬ (m : Int) < 0 := by omega
    have g1 : ¬ (p : Int) < 0 := by omega
    have g2 : ¬ (len : Int) < (p : Int) := by omega
    have g3 : ¬ ((len : Int) - (p : Int)) < (m : Int) := by omega
    by_cases hm : m = 0
    · have hap := append_none (p + m - p) (by omega)
      have HM : Hid (m = 0) := hm
      clear hm
      go_enter Try.func37, Try.ntmps37
      go_wp2_with (at_builtin; refine wpList_append_run rfl (.tmp 28) (.tmp 34) 29 rfl (v1 := .slice (some ⟨w.heap.size, 0, none⟩) 0 0) (v2 := .slice _ (p + m - p) _) rfl rfl (hap _ _ w.heap.size _) ?_)
      all_goals go_ret2
      all_goals exact ⟨some ⟨w.heap.size, 0, none⟩, 0, ret_slice HM.out _ _ _, lies_empty hbyte _ _ HM.out, (Below.refl _ _).alloc (Nat.le_refl _) _, fun b off sp e => by simp only [Option.some.injEq, Addr.mk.injEq] at e; obtain ⟨rfl, _, _⟩ := e; exact ⟨_, blk_new w _⟩⟩
    · obtain ⟨b, off, rfl, hb, hc⟩ := h.spot (by omega)
      obtain ⟨g, c, W2, hap, hl2, hb2, cc, hk2⟩ := append_does (cap := cap - p) hb hbyte hr hc (p := p) (m := m) (m' := p + m - p) (by omega) (by omega) (by omega) (by omega)
      go_enter Try.func37, Try.ntmps37
      go_wp2_with (at_builtin; refine wpList_append_run rfl (.tmp 28) (.tmp 34) 29 rfl (v1 := .slice (some ⟨w.heap.size, 0, none⟩) 0 0) (v2 := .slice _ (p + m - p) _) rfl rfl hap ?_)
      go_ret2
      exact ⟨_, _, rfl, hl2, hb2, fun b off sp e => by simp only [Option.some.injEq, Addr.mk.injEq] at e; obtain ⟨rfl, _, _⟩ := e; exact ⟨cc, hk2⟩⟩
  · have e2 : there len at' n = false := by simpa using ht
    have e1 : plen len at' n = 0 := by simp [plen, e2]
    rw [e1, e2]
    have hno : ¬ (0 ≤ at' ∧ (0 : Int) ≤ n ∧ n ≤ (len : Int) - at') := fun hh => ht (there_iff.2 hh)
    by_cases g0 : n < 0
    · go_enter Try.func37, Try.ntmps37
      go_wp2
      go_ret2
      exact ⟨none, 0, rfl, Lies.none _ _ (fun i => hbyte _), Below.refl _ _, fun b off sp e => by cases e⟩
    · by_cases g1 : at' < 0
      · go_enter Try.func37, Try.ntmps37
        go_wp2
        go_ret2
        exact ⟨none, 0, rfl, Lies.none _ _ (fun i => hbyte _), Below.refl _ _, fun b off sp e => by cases e⟩
      · by_cases g2 : (len : Int) < at'
        · go_enter Try.func37, Try.ntmps37
          go_wp2
          go_ret2
          exact ⟨none, 0, rfl, Lies.none _ _ (fun i => hbyte _), Below.refl _ _, fun b off sp e => by cases e⟩
        · have g3 : (len : Int) - at' < n := by omega
          clear hno
          go_enter Try.func37, Try.ntmps37
          go_wp2
          go_ret2
          exact ⟨none, 0, rfl, Lies.none _ _ (fun i => hbyte _), Below.refl _ _, fun b off sp e => by cases e⟩
end Go.Proofs.Ytninhcnpjadjpaa
