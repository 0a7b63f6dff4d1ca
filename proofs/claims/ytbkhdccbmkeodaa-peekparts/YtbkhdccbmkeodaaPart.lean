/-
  peek.Part and peek.From as contracts.
-/
import Derived.Test.YtbkhdccbmkeodaaNumber
namespace Go.Proofs.Ytbkhdccbmkeodaa
open Go.RowKit

theorem info_of {t : TypeId} {z : Value} {size bytes : Nat} (h : (Try.prog.info? t).map (fun i => (i.zero, i.size, i.bytes)) = some (some z, size, bytes)) : ∃ i, Try.prog.info? t = some i ∧ i.zero = some z ∧ i.bytes = bytes ∧ i.size = size := by
  obtain ⟨i, hi, he⟩ := Option.map_eq_some_iff.1 h
  simp at he
  exact ⟨i, hi, he.1, he.2.2, he.2.1⟩
theorem info5 : (Try.prog.info? 5).map (fun i => (i.zero, i.size, i.bytes)) = some (some (.int .u8 0), 1, 1) := by kernel_rfl
theorem size5 : (Try.prog.info? 5).map (·.size) = some 1 := by kernel_rfl

/-- n zero bytes. -/
def zeros (n : Nat) : List Value := List.replicate n (.int .u8 0)
theorem make22 (n : Nat) (hn : n ≤ 140737488351232) (W : World) : (Instr.makeSlice 22 (.int .i64 n) (.int .i64 n)).run Try.prog W = .ok (.slice (some ⟨W.heap.size, 0, none⟩) n n) (W.alloc (.cells (zeros n).toArray 5)) := by
  obtain ⟨i, hi, h1, h2, h3⟩ := info_of info5
  have h := run_make (P := Try.prog) W 22 5 i (.int .u8 0) Try.underlying22 hi h1 .i64 .i64 n n (by omega) (by omega) (by rw [h2]; omega) (by omega)
  rw [h, h3, Int.toNat_natCast, Nat.mul_one]
  have h' := toList_madeCells_one (.int .u8 0) n
  have : madeCells #[.int .u8 0] n = (List.replicate n (.int .u8 0)).toArray := by rw [← h']
  show Result.ok _ (W.alloc (.cells (madeCells #[.int .u8 0] n) 5)) = _
  rw [this]; rfl

/-- How many bytes Part hands out. -/
def plen (len : Nat) (at' n : Int) : Nat := if there len at' n then n.toNat else 0
/-- The bytes from p on, as cells. -/
def bcells (z : Nat → Nat) (p n : Nat) : List Value := (List.range n).map fun i => .int .u8 (z (p + i) : Nat)
theorem bcells_length (z : Nat → Nat) (p n : Nat) : (bcells z p n).length = n := by simp [bcells]
theorem bcells_get (z : Nat → Nat) (p n j : Nat) (v : Value) (h : (bcells z p n)[j]? = some v) : j < n ∧ v = .int .u8 (z (p + j) : Nat) := by
  have : j < n := by have := (List.getElem?_eq_some_iff.1 h).1; simpa [bcells] using this
  simp [bcells, this] at h
  exact ⟨this, h.symm⟩
theorem bcells_one (z : Nat → Nat) (p n : Nat) : ∀ v ∈ bcells z p n, v.oneCell' = true := by
  intro v hv; obtain ⟨i, _, rfl⟩ := List.mem_map.1 hv; rfl
theorem splice_all (z : Nat → Nat) (p n : Nat) : splice (zeros n) 0 (bcells z p n) = bcells z p n := by
  simp [splice, zeros, bcells]
theorem lies_block {w : World} {g : Nat} {z : Nat → Nat} {p n cap : Nat} (hz : ∀ i, z i < 256) (hn : n ≤ 140737488351232) (hc : n ≤ cap) {more : Array Value} {fr : Nat × Nat} (h : w.heap[g]? = some (.cells ((bcells z p n).toArray ++ more) 5 fr)) : Lies w (some ⟨g, 0, none⟩) n cap (fun i => z (p + i)) := by
  refine ⟨hc, hn, fun i => hz _, fun _ => ⟨g, 0, rfl, blk_lt h, fun i hi => ?_⟩⟩
  rw [blk_cell h, Array.getElem?_append_left (by simp [bcells]; omega)]
  simp [bcells, hi]

set_option maxHeartbeats 400000 in
theorem part_any (a : Option Addr) (len cap : Nat) (z : Nat → Nat) (at' n : Int) (w : World) (h : Lies w a len cap z) (ha : at' ≤ 9223372036854775807) :
    Calls Try.prog 10 #[.slice a len cap, .int .i64 at', .int .i64 n] w fun e w' => ∃ a' cap', e = .returned (.tuple #[.slice a' (plen len at' n) cap', .bool (there len at' n)]) ∧ Lies w' a' (plen len at' n) cap' (fun i => z (at'.toNat + i)) ∧ Below w.heap.size w w' := by
  have hr := h.reach
  have hlc := h.lc
  have hbyte := h.byte
  by_cases ht : there len at' n
  · obtain ⟨h1, h2, h3⟩ := there_iff.1 ht
    obtain ⟨p, rfl⟩ : ∃ p : Nat, at' = p := ⟨at'.toNat, by omega⟩
    obtain ⟨m, rfl⟩ : ∃ m : Nat, n = m := ⟨n.toNat, by omega⟩
    have e1 : plen len p m = m := by simp [plen, ht]
    rw [e1, ht, Int.toNat_natCast]
    have hmk := make22 m (by omega)
    by_cases hm : m = 0
    · have hcp : ∀ (W : World) (s : Option Addr) (sl sc g : Nat), (Builtin.copy_ #[22, 22] 3 #[.slice (some ⟨g, 0, none⟩) m m, .slice s sl sc]).run Try.prog W = .ok (goInt 0) W := fun W s sl sc g => run_copy_none W 22 22 3 5 _ _ _ _ _ _ Try.underlying22 size5 (by simp [hm])
      have HM : Hid (m = 0) := hm
      clear hm
      go_enter Try.func10, Try.ntmps10
      go_wp2_with fail
      refine (holds_any _ _ _ _ _ _ hr ha).mono ?_
      rintro e w' ⟨rfl, rfl⟩
      rw [ht]
      go_wp2
      all_goals go_ret2
      all_goals exact ⟨_, _, rfl, lies_block (more := #[]) hbyte (by omega) (Nat.le_refl _) (by rw [HM.out]; simpa [bcells, zeros] using blk_new w' (.cells (zeros 0).toArray 5)), (Below.refl _ _).alloc (Nat.le_refl _) _⟩
    · obtain ⟨b, off, rfl, hb, hc⟩ := h.spot (by omega)
      obtain ⟨W2, hcp, hg2, hbe⟩ : ∃ W2, (Builtin.copy_ #[22, 22] 3 #[.slice (some ⟨w.heap.size, 0, none⟩) m m, .slice (some ⟨b, off + p, none⟩) (len - p) (cap - p)]).run Try.prog (w.alloc (.cells (zeros m).toArray 5)) = .ok (goInt m) W2 ∧ W2.heap[w.heap.size]? = some (.cells (bcells z p m).toArray 5) ∧ Below w.heap.size w W2 := by
        have hg := blk_new w (.cells (zeros m).toArray 5)
        have hrun := run_copy_row (P := Try.prog) (w.alloc (.cells (zeros m).toArray 5)) 22 22 3 5 w.heap.size 0 m m ⟨b, off + p, none⟩ (len - p) (cap - p) (zeros m).toArray 5 (bcells z p m) Try.underlying22 size5 hg
          (by rw [bcells_length]; simp only [Nat.min_def]; split <;> omega)
          (fun j v hj => by
            obtain ⟨hj', rfl⟩ := bcells_get z p m j v hj
            rw [add_none, World.cell?_of_block (a := ⟨b, off + p + j, none⟩) (Below.heap_alloc w _ b hb), Nat.add_assoc]
            exact hc (p + j) (by omega))
          (by simp [bcells, zeros]) (bcells_one z p m)
        rw [bcells_length] at hrun
        refine ⟨_, hrun, ?_, below_setRow ((Below.refl _ _).alloc (Nat.le_refl _) _) (Nat.le_refl _) _⟩
        have := setRow_heap (w.alloc (.cells (zeros m).toArray 5)) w.heap.size (zeros m).toArray (bcells z p m).toArray 5 _ hg
        simpa [bcells, zeros] using this
      have G2 : Hid (W2.heap[w.heap.size]? = some (.cells (bcells z p m).toArray 5)) := hg2
      clear hg2
      go_enter Try.func10, Try.ntmps10
      go_wp2_with fail
      refine (holds_any _ _ _ _ _ _ hr ha).mono ?_
      rintro e w' ⟨rfl, rfl⟩
      rw [ht]
      go_wp2
      go_ret2
      exact ⟨_, _, rfl, lies_block (more := #[]) hbyte (by omega) (Nat.le_refl _) (by simpa using G2.out), hbe⟩
  · have e2 : there len at' n = false := by simpa using ht
    have e1 : plen len at' n = 0 := by simp [plen, e2]
    rw [e1, e2]
    go_enter Try.func10, Try.ntmps10
    go_wp2_with fail
    refine (holds_any _ _ _ _ _ _ hr ha).mono ?_
    rintro e w' ⟨rfl, rfl⟩
    rw [e2]
    go_wp2
    go_ret2
    exact ⟨none, 0, rfl, Lies.none _ _ (fun i => h.byte _), Below.refl _ _⟩

/-- All from a place on. -/
def fromOk (len : Nat) (at' : Int) : Bool := decide (0 ≤ at' ∧ at' ≤ len)
def flen (len : Nat) (at' : Int) : Nat := if fromOk len at' then len - at'.toNat else 0
theorem there_from (len : Nat) (at' : Int) (hl : len ≤ 140737488351232) (ha : at' ≤ 9223372036854775807) : there len at' (wrap64 ((len : Int) - at')) = fromOk len at' := by
  unfold there fromOk
  by_cases h : 0 ≤ at'
  · rw [wrap64_fit _ (by omega) (by omega)]
    apply decide_eq_decide.2; omega
  · rw [decide_eq_false (by omega), decide_eq_false (by omega)]
theorem plen_from (len : Nat) (at' : Int) (hl : len ≤ 140737488351232) (ha : at' ≤ 9223372036854775807) : plen len at' (wrap64 ((len : Int) - at')) = flen len at' := by
  unfold plen flen
  rw [there_from len at' hl ha]
  split
  · rename_i h
    have : 0 ≤ at' ∧ at' ≤ len := by simpa [fromOk] using h
    rw [wrap64_fit _ (by omega) (by omega)]; omega
  · rfl
theorem from_any (a : Option Addr) (len cap : Nat) (z : Nat → Nat) (at' : Int) (w : World) (h : Lies w a len cap z) (ha : at' ≤ 9223372036854775807) :
    Calls Try.prog 11 #[.slice a len cap, .int .i64 at'] w fun e w' => ∃ a' cap', e = .returned (.tuple #[.slice a' (flen len at') cap', .bool (fromOk len at')]) ∧ Lies w' a' (flen len at') cap' (fun i => z (at'.toNat + i)) ∧ Below w.heap.size w w' := by
  go_enter Try.func11, Try.ntmps11
  go_wp2_with fail
  refine (part_any a len cap z at' _ w h ha).mono ?_
  rintro e w' ⟨a', cap', rfl, h', hb⟩
  rw [there_from len at' h.reach ha, plen_from len at' h.reach ha]
  rw [plen_from len at' h.reach ha] at h'
  go_wp2
  go_ret2
  exact ⟨a', cap', rfl, h', hb⟩
end Go.Proofs.Ytbkhdccbmkeodaa
