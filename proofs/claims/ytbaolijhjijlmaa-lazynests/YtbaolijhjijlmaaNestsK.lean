/-
  LazyNests' closures and its first Get, as contracts.
-/
import Derived.Test.YtbaolijhjijlmaaNestsV
import Derived.Test.YtbaolijhjijlmaaCountsWalk
namespace Go.Proofs.Ytbaolijhjijlmaa
open Go.RowKit

theorem enters18 (args : Array Value) (w : World) : (callFunc 18 args).run Try.prog w = .ok (.enter 18 args) w := enters Try.func18 (by kernel_rfl) rfl args w

/-- Where the blocks lie: never turns. B: the answers' variable; CL: the count of calls; CS: the cells' variable; g: their row. -/
structure NLie (n B CL CS g : Nat) (cb iv : Nat → Nat) : Prop where
  order : B < CL ∧ CL < CS
  cell : ∀ t, t < n → CL < cb t ∧ cb t ≠ CS ∧ cb t ≠ g
  apart : ∀ s t, s < n → t < n → cb s = cb t → s = t
  other : ∀ s t, s < n → t < n → cb s ≠ iv t
  var : ∀ t, t < n → CL < iv t
  row : CL < g

/-- Of the first u cells the first p are done; cnt: how many calls were counted. -/
structure NS (n B CL CS g l0 k0 cap : Nat) (cb iv : Nat → Nat) (a0 : Option Addr) (av : Nat → Int) (cur : Array Value) (w : World) (u p : Nat) (cnt : Int) (wq : World) : Prop where
  below : Below B w wq
  answers : wq.heap[B]? = some (.cells #[.slice a0 l0 k0] 37)
  count : wq.heap[CL]? = some (.cells #[.int .i64 cnt] 3)
  head : wq.heap[CS]? = some (.cells #[.slice (some ⟨g, 0, none⟩) n cap] 39)
  row : wq.heap[g]? = some (.cells cur 22)
  var : ∀ t, t < n → wq.heap[iv t]? = some (.cells #[.int .i64 t] 3)
  cell : ∀ t, t < u → wq.heap[cb t]? = some (if t < p then cobj 1 0 0 1 .nilFunc (val av t) else
    cobj 0 0 0 0 (.func (.func 18) #[] #[.pointer (some ⟨CL, 0, none⟩), .pointer (some ⟨B, 0, none⟩), .pointer (some ⟨iv t, 0, none⟩), .pointer (some ⟨CS, 0, none⟩)]) 0)

theorem row_at {wq : World} {g n : Nat} {cur : Array Value} {cb : Nat → Nat} (h : wq.heap[g]? = some (.cells cur 22)) (hc : cur.toList.take n = (List.range n).map fun t => Value.pointer (some ⟨cb t, 0, none⟩)) {k : Nat} (hk : k < n) : wq.cell? ⟨g, k, none⟩ = some (.pointer (some ⟨cb k, 0, none⟩)) := by
  rw [blk_cell h]
  have h1 : (cur.toList.take n)[k]? = cur.toList[k]? := by rw [List.getElem?_take, if_pos hk]
  rw [hc] at h1
  simp [hk] at h1
  simpa using h1.symm

section
variable {n B CL CS g l0 k0 cap : Nat} {cb iv : Nat → Nat} {av : Nat → Int} {cur : Array Value} {w : World} {u p : Nat} {cnt : Int} {wq : World}

theorem NS.drew {a0 : Option Addr} (h : NS n B CL CS g l0 k0 cap cb iv a0 av cur w u p cnt wq) : NS n B CL CS g l0 k0 cap cb iv a0 av cur w u p cnt wq.drew :=
  ⟨h.below.drew, h.answers, h.count, h.head, h.row, h.var, h.cell⟩

/-- What turns blocks of none of these keeps it; the count alone may be another, and cell i. -/
theorem NS.kept {a0 : Option Addr} (h : NS n B CL CS g l0 k0 cap cb iv a0 av cur w u p cnt wq) (L : NLie n B CL CS g cb iv) (_hu : u ≤ n) {i : Nat} (hi : i < n) (ui : u ≤ i) {cnt' : Int} {w' : World} (hk : Kept (fun t => t = CL ∨ t = cb i) wq w')
    (hc : w'.heap[CL]? = some (.cells #[.int .i64 cnt'] 3)) : NS n B CL CS g l0 k0 cap cb iv a0 av cur w u p cnt' w' := by
  have lo := L.order
  have li := L.cell i hi
  have same : ∀ (b : Nat) (o : Obj), wq.heap[b]? = some o → b ≠ CL → b ≠ cb i → w'.heap[b]? = some o := fun b o hb h1 h2 => by
    rw [hk.block b (blk_lt hb) (by rintro (e | e); exact h1 e; exact h2 e)]; exact hb
  refine ⟨h.below.trans (hk.below (by have := blk_lt h.answers; omega) (by rintro t (e | e) <;> omega)), ?_, hc, ?_, ?_, ?_, ?_⟩
  · exact same _ _ h.answers (by omega) (by omega)
  · exact same _ _ h.head (by omega) (by omega)
  · exact same _ _ h.row (by have := L.row; omega) (by omega)
  · intro t ht
    exact same _ _ (h.var t ht) (by have := L.var t ht; omega) (fun e => L.other i t hi ht e.symm)
  · intro t ht
    exact same _ _ (h.cell t ht) (by have := L.cell t (by omega); omega) (fun e => by have := L.apart t i (by omega) hi e; omega)

set_option maxHeartbeats 1600000 in
/-- THE CLOSURE OF CELL i, all ahead of it done. -/
theorem k18_done {ab ao i : Nat} (h : NS n B CL CS g l0 k0 cap cb iv (some ⟨ab, ao, none⟩) av cur w i i cnt wq) (L : NLie n B CL CS g cb iv) (hab : ab < B) (hi : i < n) (hn : n ≤ 12) (hl : n ≤ l0) (hcur : cur.toList.take n = (List.range n).map fun t => Value.pointer (some ⟨cb t, 0, none⟩))
    (hav : w.cell? ⟨ab, ao + i, none⟩ = some (.int .i64 (av i))) (hcnt : 0 ≤ cnt ∧ cnt ≤ 100) :
    Calls Try.prog 18 #[.pointer (some ⟨CL, 0, none⟩), .pointer (some ⟨B, 0, none⟩), .pointer (some ⟨iv i, 0, none⟩), .pointer (some ⟨CS, 0, none⟩)] wq fun e w' => e = .returned (.int .i64 (val av i)) ∧ w' = wq.setCell ⟨CL, 0, none⟩ (.int .i64 (cnt + 1)) := by
  have lo := L.order
  obtain ⟨w2, hw2⟩ : ∃ w2, w2 = wq.setCell ⟨CL, 0, none⟩ (.int .i64 (cnt + 1)) := ⟨_, rfl⟩
  have sm : ∀ b, b ≠ CL → w2.heap[b]? = wq.heap[b]? := fun b hb => by rw [hw2]; exact blk_other _ hb
  have c1 : wq.cell? ⟨CL, 0, none⟩ = some (.int .i64 cnt) := by rw [blk_cell h.count]; rfl
  have f1 := blk_free h.count
  have c2 : w2.cell? ⟨B, 0, none⟩ = some (.slice (some ⟨ab, ao, none⟩) l0 k0) := by rw [blk_cell ((sm B (by omega)).trans h.answers)]; rfl
  have c3 : w2.cell? ⟨iv i, 0, none⟩ = some (.int .i64 i) := by rw [blk_cell ((sm _ (by have := L.var i hi; omega)).trans (h.var i hi))]; rfl
  have c4 : w2.cell? ⟨ab, ao + i, none⟩ = some (.int .i64 (av i)) := by
    rw [World.cell?_of_block (w := wq) (sm ab (by omega))]; exact (h.below.cell (p := ⟨ab, ao + i, none⟩) hab).trans hav
  have c5 : w2.cell? ⟨CS, 0, none⟩ = some (.slice (some ⟨g, 0, none⟩) n cap) := by rw [blk_cell ((sm CS (by omega)).trans h.head)]; rfl
  have c6 : ∀ k, k < i → w2.cell? ⟨g, k, none⟩ = some (.pointer (some ⟨cb k, 0, none⟩)) := fun k hk => row_at ((sm g (by have := L.row; omega)).trans h.row) hcur (by omega)
  have c7 : ∀ k, k < i → w2.heap[cb k]? = some (cobj 1 0 0 1 .nilFunc (val av k)) := fun k hk => by
    have := h.cell k hk
    rw [if_pos hk] at this
    rw [sm _ (by have := L.cell k (by omega); omega)]; exact this
  have i0 : (0 : Int) ≤ (i : Int) := by omega
  have il : (i : Int) < (l0 : Int) := by omega
  have HW : wq.setCell ⟨CL, 0, none⟩ (.int .i64 (cnt + 1)) = w2 := hw2.symm
  have A0 : Hid (acc av i 0 = (av i).tmod 1099511627776) := acc_zero av i
  clear h hcur hav sm hw2
  go_enter Try.func18, Try.ntmps18
  go_wp2_with fail
  clear c1 f1 c2 c4
  go_loopw [5, 6] (fun s q wr => ∃ k : Nat, k ≤ i ∧ q = .int .i64 k ∧ s = .int .i64 (acc av i k) ∧ wr = w2) (fun _ q _ => i - (intOf q).toNat)
  case atStart => exact ⟨0, by omega, rfl, by rw [A0.out], rfl⟩
  case round =>
    obtain ⟨k, hk, rfl, rfl, rfl⟩ := hrel
    by_cases ki : k < i
    · have k1 : (k : Int) < (i : Int) := by omega
      have k0 : (0 : Int) ≤ (k : Int) := by omega
      have kn : (k : Int) < (n : Int) := by omega
      have d6 := c6 k ki
      have d7 := c7 k ki
      have AS : Hid (acc av i (k + 1) = wrap64 (acc av i k + val av k)) := acc_succ av i k ki
      clear c6 c7
      go_wp2_with fail
      refine (get_again _ _ _ _ _ _ _ d7).mono ?_
      rintro e w' ⟨v, rfl, rfl, rfl⟩
      go_wp2
      go_roundw
      case rel => exact ⟨k + 1, by omega, by go_num, by rw [AS.out], by first | rfl | trivial⟩
      case measure => simp [intOf]; omega
    · have k1 : ¬ (k : Int) < (i : Int) := by omega
      obtain rfl : k = i := by omega
      have VA : Hid (val av k = (acc av k k).tmod 1099511627776) := val_acc av k
      go_wp2
      go_ret
      exact ⟨ret_int VA.out.symm, rfl⟩

theorem NS.narrow {a0 : Option Addr} (h : NS n B CL CS g l0 k0 cap cb iv a0 av cur w u p cnt wq) {u' : Nat} (hu : u' ≤ u) : NS n B CL CS g l0 k0 cap cb iv a0 av cur w u' p cnt wq :=
  ⟨h.below, h.answers, h.count, h.head, h.row, h.var, fun t ht => h.cell t (by omega)⟩

/-- GET OF CELL k, the first that is not done. -/
theorem NS.get {ab ao k : Nat} (h : NS n B CL CS g l0 k0 cap cb iv (some ⟨ab, ao, none⟩) av cur w u k cnt wq) (L : NLie n B CL CS g cb iv) (hk : k < u) (hu : u ≤ n) (hab : ab < B) (hn : n ≤ 12) (hl : n ≤ l0) (hcur : cur.toList.take n = (List.range n).map fun t => Value.pointer (some ⟨cb t, 0, none⟩))
    (hav : w.cell? ⟨ab, ao + k, none⟩ = some (.int .i64 (av k))) (hcnt : 0 ≤ cnt ∧ cnt ≤ 100) :
    Calls Try.prog 14 #[.pointer (some ⟨cb k, 0, none⟩)] wq fun e w' => e = .returned (.int .i64 (val av k)) ∧ NS n B CL CS g l0 k0 cap cb iv (some ⟨ab, ao, none⟩) av cur w u (k + 1) (cnt + 1) w' ∧ Kept (fun t => t = CL ∨ t = cb k) wq w' := by
  have lo := L.order
  have lk := L.cell k (by omega)
  have hcl := h.cell k hk
  rw [if_neg (by omega)] at hcl
  refine (get_once (cb k) 0 18 _ wq (fun t => t = CL) (fun v w2 => v = val av k ∧ w2.heap[CL]? = some (.cells #[.int .i64 (cnt + 1)] 3)) hcl (enters18 _) (by omega) ?_ ?_).mono ?_
  · intro v w2 w' hs hq; exact ⟨hq.1, by rw [hs CL (blk_lt h.count) (by omega)]; exact hq.2⟩
  · intro W hW _
    have hC : W.heap[CL]? = some (.cells #[.int .i64 cnt] 3) := by rw [hW.block CL (blk_lt h.count) (by omega)]; exact h.count
    have hN : NS n B CL CS g l0 k0 cap cb iv (some ⟨ab, ao, none⟩) av cur w k k cnt W := (h.narrow (by omega : k ≤ u)).kept L (by omega) (i := k) (by omega) (Nat.le_refl k) (hW.mono fun _ _ e => .inr e) hC
    refine (k18_done hN L hab (by omega) hn hl hcur hav hcnt).mono ?_
    rintro e w2 ⟨rfl, rfl⟩
    exact ⟨_, rfl, ⟨rfl, by rw [blk_set hC]; rfl⟩, (Kept.refl _ W).set _ _⟩
  · rintro e w' ⟨v, rfl, ⟨rfl, hq⟩, hb2, hkept⟩
    have same : ∀ (b : Nat) (o : Obj), wq.heap[b]? = some o → b ≠ CL → b ≠ cb k → w'.heap[b]? = some o := fun b o hb h1 h2 => by
      rw [hkept.block b (blk_lt hb) (by rintro (e | e); exact h1 e; exact h2 e)]; exact hb
    refine ⟨rfl, ⟨h.below.trans (hkept.below (by have := blk_lt h.answers; omega) (by rintro t (e | e) <;> omega)), ?_, hq, ?_, ?_, ?_, ?_⟩, hkept⟩
    · exact same _ _ h.answers (by omega) (by omega)
    · exact same _ _ h.head (by omega) (by omega)
    · exact same _ _ h.row (by have := L.row; omega) (by omega)
    · intro t ht
      exact same _ _ (h.var t ht) (by have := L.var t ht; omega) (fun e => L.other k t (by omega) ht e.symm)
    · intro t ht
      by_cases e : t = k
      · subst e; rw [if_pos (by omega)]; exact hb2
      · have h1 := same _ _ (h.cell t ht) (by have := L.cell t (by omega); omega) (fun e' => e (L.apart t k (by omega) (by omega) e'))
        rw [h1]
        by_cases tk : t < k
        · rw [if_pos tk, if_pos (by omega)]
        · rw [if_neg tk, if_neg (by omega)]

set_option maxHeartbeats 1600000 in
/-- THE CLOSURE OF CELL i, called first of all. -/
theorem k18_first {ab ao i : Nat} (h : NS n B CL CS g l0 k0 cap cb iv (some ⟨ab, ao, none⟩) av cur w i 0 0 wq) (L : NLie n B CL CS g cb iv) (hb : wq.heap[cb i]? = some (cobj 0 1 0 0 .nilFunc 0)) (hab : ab < B) (hi : i < n) (hn : n ≤ 12) (hl : n ≤ l0) (hcur : cur.toList.take n = (List.range n).map fun t => Value.pointer (some ⟨cb t, 0, none⟩))
    (hav : ∀ t, t < n → w.cell? ⟨ab, ao + t, none⟩ = some (.int .i64 (av t))) :
    Calls Try.prog 18 #[.pointer (some ⟨CL, 0, none⟩), .pointer (some ⟨B, 0, none⟩), .pointer (some ⟨iv i, 0, none⟩), .pointer (some ⟨CS, 0, none⟩)] wq fun e w' => e = .returned (.int .i64 (val av i)) ∧ NS n B CL CS g l0 k0 cap cb iv (some ⟨ab, ao, none⟩) av cur w i i ((i : Int) + 1) w' ∧ w'.heap[cb i]? = some (cobj 0 1 0 0 .nilFunc 0) := by
  have lo := L.order
  have li := L.cell i hi
  obtain ⟨w2, hw2⟩ : ∃ w2, w2 = wq.setCell ⟨CL, 0, none⟩ (.int .i64 1) := ⟨_, rfl⟩
  have hC2 : w2.heap[CL]? = some (.cells #[.int .i64 1] 3) := by rw [hw2, blk_set h.count]; rfl
  have h2 : NS n B CL CS g l0 k0 cap cb iv (some ⟨ab, ao, none⟩) av cur w i 0 1 w2 := h.kept L (by omega) hi (Nat.le_refl i) (by rw [hw2]; exact (Kept.refl _ wq).setCell (.inl (.inl rfl)) _) hC2
  have hb2 : w2.heap[cb i]? = some (cobj 0 1 0 0 .nilFunc 0) := by rw [hw2, blk_other _ (by simp; omega)]; exact hb
  have c1 : wq.cell? ⟨CL, 0, none⟩ = some (.int .i64 0) := by rw [blk_cell h.count]; rfl
  have f1 := blk_free h.count
  have c2 : w2.cell? ⟨B, 0, none⟩ = some (.slice (some ⟨ab, ao, none⟩) l0 k0) := by rw [blk_cell h2.answers]; rfl
  have c3 : w2.cell? ⟨iv i, 0, none⟩ = some (.int .i64 i) := by rw [blk_cell (h2.var i hi)]; rfl
  have c4 : w2.cell? ⟨ab, ao + i, none⟩ = some (.int .i64 (av i)) := (h2.below.cell (p := ⟨ab, ao + i, none⟩) hab).trans (hav i hi)
  have i0 : (0 : Int) ≤ (i : Int) := by omega
  have il : (i : Int) < (l0 : Int) := by omega
  have HW : wq.setCell ⟨CL, 0, none⟩ (.int .i64 1) = w2 := hw2.symm
  have A0 : Hid (acc av i 0 = (av i).tmod 1099511627776) := acc_zero av i
  have HC : Hid (cur.toList.take n = (List.range n).map fun t => Value.pointer (some ⟨cb t, 0, none⟩)) := hcur
  have HV : Hid (∀ t, t < n → w.cell? ⟨ab, ao + t, none⟩ = some (.int .i64 (av t))) := hav
  have HB : Hid (w2.heap[cb i]? = some (cobj 0 1 0 0 .nilFunc 0)) := hb2
  clear h hcur hav hw2 hb hb2 hC2
  go_enter Try.func18, Try.ntmps18
  go_wp2_with fail
  clear c1 f1 c2 c3 c4
  go_loopw [5, 6] (fun s q wr => ∃ k : Nat, k ≤ i ∧ q = .int .i64 k ∧ s = .int .i64 (acc av i k) ∧ NS n B CL CS g l0 k0 cap cb iv (some ⟨ab, ao, none⟩) av cur w i k ((k : Int) + 1) wr ∧ Hid (wr.heap[cb i]? = some (cobj 0 1 0 0 .nilFunc 0))) (fun _ q _ => i - (intOf q).toNat)
  case atStart => exact ⟨0, by omega, rfl, by rw [A0.out], h2, HB⟩
  case round =>
    clear h2 HB
    obtain ⟨k, hk, rfl, rfl, hN, HI⟩ := hrel
    have d3 : wr.cell? ⟨iv i, 0, none⟩ = some (.int .i64 i) := by rw [blk_cell (hN.var i hi)]; rfl
    by_cases ki : k < i
    · have k1 : (k : Int) < (i : Int) := by omega
      have k0 : (0 : Int) ≤ (k : Int) := by omega
      have kn : (k : Int) < (n : Int) := by omega
      have d5 : wr.cell? ⟨CS, 0, none⟩ = some (.slice (some ⟨g, 0, none⟩) n cap) := by rw [blk_cell hN.head]; rfl
      have d6 := row_at hN.row HC.out (show k < n by omega)
      have AS : Hid (acc av i (k + 1) = wrap64 (acc av i k + val av k)) := acc_succ av i k ki
      have GG := hN.get L ki (by omega) hab hn hl HC.out (HV.out k (by omega)) (by omega)
      go_wp2_with fail
      refine GG.mono ?_
      rintro e w' ⟨rfl, hN', hk'⟩
      have HI' : Hid (w'.heap[cb i]? = some (cobj 0 1 0 0 .nilFunc 0)) := by
        show w'.heap[cb i]? = _
        rw [hk'.block _ (blk_lt HI.out) (by rintro (e | e); omega; have := L.apart i k hi (by omega) e; omega)]; exact HI.out
      clear GG hN HI d3 d5 d6 hk'
      go_wp2
      go_roundw
      case rel =>
        have e1 : ((k + 1 : Nat) : Int) + 1 = (k : Int) + 1 + 1 := by omega
        rw [← e1] at hN'
        exact ⟨k + 1, by omega, by go_num, by rw [AS.out], hN', HI'⟩
      case measure => simp [intOf]; omega
    · have k1 : ¬ (k : Int) < (i : Int) := by omega
      obtain rfl : k = i := by omega
      have VA : Hid (val av k = (acc av k k).tmod 1099511627776) := val_acc av k
      go_wp2
      go_ret
      exact ⟨ret_int VA.out.symm, hN, HI.out⟩

/-- THE FIRST GET OF ALL, of the last cell: all are done behind it, each called once. -/
theorem NS.first {ab ao i : Nat} (h : NS n B CL CS g l0 k0 cap cb iv (some ⟨ab, ao, none⟩) av cur w n 0 0 wq) (L : NLie n B CL CS g cb iv) (hin : i + 1 = n) (hab : ab < B) (hn : n ≤ 12) (hl : n ≤ l0) (hcur : cur.toList.take n = (List.range n).map fun t => Value.pointer (some ⟨cb t, 0, none⟩))
    (hav : ∀ t, t < n → w.cell? ⟨ab, ao + t, none⟩ = some (.int .i64 (av t))) :
    Calls Try.prog 14 #[.pointer (some ⟨cb i, 0, none⟩)] wq fun e w' => e = .returned (.int .i64 (val av i)) ∧ NS n B CL CS g l0 k0 cap cb iv (some ⟨ab, ao, none⟩) av cur w n n (n : Int) w' := by
  have lo := L.order
  have li := L.cell i (by omega)
  have hcl := h.cell i (by omega)
  rw [if_neg (by omega)] at hcl
  have kp : Kept (fun t => t = cb i) wq ((wq.setCell ⟨cb i, 1, none⟩ (.int .i32 1)).setCell ⟨cb i, 4, none⟩ .nilFunc) := asked_kept (Kept.refl _ wq)
  have hC : ((wq.setCell ⟨cb i, 1, none⟩ (.int .i32 1)).setCell ⟨cb i, 4, none⟩ .nilFunc).heap[CL]? = some (.cells #[.int .i64 0] 3) := by rw [kp.block CL (blk_lt h.count) (by omega)]; exact h.count
  have hN : NS n B CL CS g l0 k0 cap cb iv (some ⟨ab, ao, none⟩) av cur w i 0 0 ((wq.setCell ⟨cb i, 1, none⟩ (.int .i32 1)).setCell ⟨cb i, 4, none⟩ .nilFunc) := (h.narrow (by omega : i ≤ n)).kept L (by omega) (i := i) (by omega) (Nat.le_refl i) (kp.mono fun _ _ e => .inr e) hC
  have h1 := k18_first hN L (asked_blk hcl) hab (by omega) hn hl hcur hav
  refine (get_first (cb i) 0 18 _ wq (fun v w2 => v = val av i ∧ NS n B CL CS g l0 k0 cap cb iv (some ⟨ab, ao, none⟩) av cur w i i ((i : Int) + 1) w2) hcl (enters18 _) (h1.mono ?_)).mono ?_
  · rintro e w2 ⟨rfl, h2, h3⟩
    exact ⟨_, rfl, ⟨rfl, h2⟩, h3⟩
  · rintro e w' ⟨v, rfl, w2, ⟨rfl, h2⟩, hb2, hk2⟩
    have hC' : w'.heap[CL]? = some (.cells #[.int .i64 ((i : Int) + 1)] 3) := by rw [hk2.block CL (blk_lt h2.count) (by omega)]; exact h2.count
    have h3 := h2.kept L (by omega) (i := i) (by omega) (Nat.le_refl i) (hk2.mono fun _ _ e => .inr e) hC'
    have en : (n : Int) = (i : Int) + 1 := by omega
    refine ⟨rfl, h3.below, h3.answers, by rw [en]; exact h3.count, h3.head, h3.row, h3.var, fun t ht => ?_⟩
    rw [if_pos ht]
    by_cases e : t = i
    · subst e; exact hb2
    · have := h3.cell t (by omega); rwa [if_pos (by omega)] at this
end
end Go.Proofs.Ytbaolijhjijlmaa
