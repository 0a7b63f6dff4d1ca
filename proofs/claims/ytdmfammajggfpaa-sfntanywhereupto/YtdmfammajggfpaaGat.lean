/-
  Tags and tables that a law gathers, one by one; the law's 'tables' as a contract.
-/
import Derived.Test.YtdmfammajggfpaaRop
import Derived.Test.YtdmfammajggfpaaPur
namespace Go.Proofs.Ytdmfammajggfpaa
open Go.RowKit

/-- k1 tags and k2 tables, gathered. -/
structure Gath (w : World) (base k1 k2 : Nat) (v1 v2 : Value) (s : Nat → ByteArray) (t : Nat → Tab) : Prop where
  o1 : w.ownsRow base 9 1 v1 k1 ((List.range k1).map fun i => .string (s i))
  o2 : w.ownsRow base 22 1 v2 k2 ((List.range k2).map fun i => .slice (t i).a (t i).l (t i).c)
  each : ∀ i, i < k2 → Lies5 w (t i) ∧ (t i).l ≤ 100
theorem Gath.nil (w : World) (base : Nat) (s : Nat → ByteArray) (t : Nat → Tab) : Gath w base 0 0 (.slice .none 0 0) (.slice .none 0 0) s t := ⟨World.ownsRow_nil _ _ _ _, World.ownsRow_nil _ _ _ _, fun i hi => by omega⟩
theorem Gath.below {w w' : World} {base k1 k2 : Nat} {v1 v2 : Value} {s : Nat → ByteArray} {t : Nat → Tab} (h : Gath w base k1 k2 v1 v2 s t) (hb : Below w.heap.size w w') : Gath w' base k1 k2 v1 v2 s t :=
  ⟨ownr_below h.o1 hb, ownr_below h.o2 hb, fun i hi => ⟨(h.each i hi).1.same (Same5.of_below hb), (h.each i hi).2⟩⟩
theorem Gath.apart {w : World} {base k1 k2 : Nat} {v1 v2 : Value} {s : Nat → ByteArray} {t : Nat → Tab} (h : Gath w base k1 k2 v1 v2 s t) {q : Nat} (h1 : v1.ownBlock = some q) : v2.ownBlock ≠ some q := fun h2 => by
  obtain ⟨x, hx⟩ := ownr_blk_of h.o1 h1
  obtain ⟨y, hy⟩ := ownr_blk_of h.o2 h2
  rw [hx] at hy; cases hy
/-- One tag more. -/
theorem Gath.tag {w w' : World} {base k k2 : Nat} {v1 v1' v2 : Value} {s : Nat → ByteArray} {t : Nat → Tab} {T : ByteArray} (h : Gath w base k k2 v1 v2 s t) (hs : s k = T)
    (ho : w'.ownsRow base 9 1 v1' (k + 1) (((List.range k).map fun i => .string (s i)) ++ [.string T])) (hsz : w.heap.size ≤ w'.heap.size) (hr : ∀ q, q < w.heap.size → v1.ownBlock ≠ some q → w'.heap[q]? = w.heap[q]?) : Gath w' base (k + 1) k2 v1' v2 s t :=
  ⟨by rw [range_snoc, hs]; exact ho, ownr_blk h.o2 fun q hq => hr q (World.ownsRow.lt h.o2 q hq).2 (fun e => h.apart e hq), fun i hi => ⟨(h.each i hi).1.same (same5_app h.o1 (by decide) hsz hr), (h.each i hi).2⟩⟩
/-- One table more. -/
theorem Gath.tab {w w' : World} {base k1 k : Nat} {v1 v2 v2' : Value} {s : Nat → ByteArray} {t : Nat → Tab} {T : Tab} (h : Gath w base k1 k v1 v2 s t) (hT : Lies5 w T) (hl : T.l ≤ 100)
    (ho : w'.ownsRow base 22 1 v2' (k + 1) (((List.range k).map fun i => .slice (t i).a (t i).l (t i).c) ++ [.slice T.a T.l T.c])) (hsz : w.heap.size ≤ w'.heap.size) (hr : ∀ q, q < w.heap.size → v2.ownBlock ≠ some q → w'.heap[q]? = w.heap[q]?) : Gath w' base k1 (k + 1) v1 v2' s (tabU t k T) := by
  have hm : Same5 w w' := same5_app h.o2 (by decide) hsz hr
  refine ⟨ownr_blk h.o1 fun q hq => hr q (World.ownsRow.lt h.o1 q hq).2 (fun e => h.apart hq e), by rw [tabU_cells]; exact ho, fun i hi => ?_⟩
  by_cases e : i = k
  · subst e; rw [tabU_at]; exact ⟨hT.same hm, hl⟩
  · rw [tabU_old t _ (by omega)]; exact ⟨(h.each i (by omega)).1.same hm, (h.each i (by omega)).2⟩
theorem Gath.congr {w : World} {base k1 k2 : Nat} {v1 v2 : Value} {s s' : Nat → ByteArray} {t : Nat → Tab} (h : Gath w base k1 k2 v1 v2 s t) (hs : ∀ i, i < k1 → s i = s' i) : Gath w base k1 k2 v1 v2 s' t :=
  ⟨by
    have e : ((List.range k1).map fun i => Value.string (s' i)) = (List.range k1).map fun i => Value.string (s i) := List.map_congr_left fun i hi => by rw [hs i (List.mem_range.1 hi)]
    rw [e]; exact h.o1, h.o2, h.each⟩
/-- The tags with one more. -/
def strU (s : Nat → ByteArray) (k : Nat) (T : ByteArray) : Nat → ByteArray := fun i => if i = k then T else s i
theorem strU_at (s : Nat → ByteArray) (k : Nat) (T : ByteArray) : strU s k T k = T := if_pos rfl
theorem strU_old (s : Nat → ByteArray) {k : Nat} (T : ByteArray) {i : Nat} (h : i < k) : strU s k T i = s i := if_neg (by omega)
theorem Gath.tagU {w w' : World} {base k k2 : Nat} {v1 v1' v2 : Value} {s : Nat → ByteArray} {t : Nat → Tab} {T : ByteArray} (h : Gath w base k k2 v1 v2 s t)
    (ho : w'.ownsRow base 9 1 v1' (k + 1) (((List.range k).map fun i => .string (s i)) ++ [.string T])) (hsz : w.heap.size ≤ w'.heap.size) (hr : ∀ q, q < w.heap.size → v1.ownBlock ≠ some q → w'.heap[q]? = w.heap[q]?) : Gath w' base (k + 1) k2 v1' v2 (strU s k T) t := by
  refine (h.congr (s' := strU s k T) fun i hi => (strU_old s T hi).symm).tag (strU_at s k T) ?_ hsz hr
  have e : ((List.range k).map fun i => Value.string (strU s k T i)) = (List.range k).map fun i => Value.string (s i) := List.map_congr_left fun i hi => by rw [strU_old s T (List.mem_range.1 hi)]
  rw [e]; exact ho
theorem Gath.take {w : World} {base k1 k2 : Nat} {v1 v2 : Value} {s : Nat → ByteArray} {t : Nat → Tab} (h : Gath w base k1 k2 v1 v2 s t) (h1 : k1 ≤ 100) (h2 : k2 ≤ 100) :
    ∃ a c a2 c2, v1 = .slice a k1 c ∧ v2 = .slice a2 k2 c2 ∧ Strs w a k1 c s ∧ Tabs w a2 k2 c2 t := by
  obtain ⟨a, c, e1, hs⟩ := ownr_strs h.o1 (by omega)
  obtain ⟨a2, c2, e2, ht⟩ := ownr_tabs h.o2 (by omega) (fun i hi => (h.each i hi).1.lies)
  exact ⟨a, c, a2, c2, e1, e2, hs, ht⟩
/-- A row of the call's own, as a table. -/
theorem own_lies5 {w : World} {base g c n : Nat} {z : Nat → Nat} (h : Own w base 5 .u8 g c (byt z 0 n)) (hz : ∀ i, z i < 256) (hn : n ≤ 150000000000000) : Lies5 w ⟨some ⟨g, 0, none⟩, n, c, z⟩ := by
  have hL := h.liesB (byt_of hz) (by rw [byt_len]; exact hn)
  rw [byt_len] at hL
  refine ⟨⟨hL.lc, hL.reach, hz, fun h0 => ?_⟩, fun b off sp e => ?_⟩
  · obtain ⟨b', o', e', hb', hc'⟩ := hL.spot h0
    exact ⟨b', o', e', hb', fun i hi => by rw [hc' i hi, byt_zb_at hi]⟩
  · simp only [Option.some.injEq, Addr.mk.injEq] at e
    obtain ⟨rfl, _, _⟩ := e
    exact ownr_blk_of h rfl

/-- Whatever of eight texts. -/
theorem eight {c : Array Value} (hs : ∀ i, i < 8 → ∃ X, c[i]? = some (.string X)) {w : World} {q : Nat} {T : TypeId} (hq : w.heap[q]? = some (.cells c T)) {r : Nat} (hr : r < 8) : ∃ X, w.cell? ⟨q, r, none⟩ = some (.string X) := by
  obtain ⟨X, hX⟩ := hs r hr
  exact ⟨X, (blk_cell hq r).trans hX⟩

set_option maxRecDepth 100000 in
set_option maxHeartbeats 3200000 in
theorem tables_any (a : Option Addr) (n cap : Nat) (L : Nat → Tab) (a2 : Option Addr) (m cap2 : Nat) (f : Nat → Int) (w : World) (h : Tabs w a n cap L) (hL : ∀ i, i < n → (L i).l ≤ 140737488351232) (h2 : Ints w a2 m cap2 f) :
    Calls Try.prog 11 #[.slice a n cap, .slice a2 m cap2] w fun e w' => ∃ v1 v2, e = .returned (.tuple #[v1, v2]) ∧ Below w.heap.size w w' ∧ ∃ K, K ≤ 9 ∧ ∃ s t, Gath w' w.heap.size K K v1 v2 s t := by
  have hr1 := h.reach
  have hr2 := h2.reach
  have hlc := h.lc
  have hlc2 := h2.lc
  go_enter Try.func11, Try.ntmps11
  go_wp2_with fail
  obtain ⟨w1, hw1⟩ : ∃ x, x = w.alloc (.cells #[.string { data := #[67, 79, 76, 82] }, .string { data := #[67, 80, 65, 76] }, .string { data := #[103, 108, 121, 102] }, .string { data := #[108, 111, 99, 97] }, .string { data := #[104, 101, 97, 100] }, .string { data := #[109, 97, 120, 112] }, .string { data := #[32, 32, 32, 32] }, .string { data := #[122, 122] }] 63) := ⟨_, rfl⟩
  obtain ⟨q, hq⟩ : ∃ q, q = w.heap.size := ⟨_, rfl⟩
  have K1 : w1.heap[q]? = some (.cells #[.string { data := #[67, 79, 76, 82] }, .string { data := #[67, 80, 65, 76] }, .string { data := #[103, 108, 121, 102] }, .string { data := #[108, 111, 99, 97] }, .string { data := #[104, 101, 97, 100] }, .string { data := #[109, 97, 120, 112] }, .string { data := #[32, 32, 32, 32] }, .string { data := #[122, 122] }] 63) := by rw [hw1, hq]; exact blk_new _ _
  have b1 : Below w.heap.size w w1 := by rw [hw1]; exact (Below.refl _ _).alloc (Nat.le_refl _) _
  rw [← hw1, ← hq]
  have hq1 : q < w1.heap.size := blk_lt K1
  have EI : ∀ W, Below w1.heap.size w1 W → ∀ r, r < 8 → ∃ X, W.cell? ⟨q, r, none⟩ = some (.string X) := fun W hW r hr =>
    eight (fun i hi => by rcases (show i = 0 ∨ i = 1 ∨ i = 2 ∨ i = 3 ∨ i = 4 ∨ i = 5 ∨ i = 6 ∨ i = 7 by omega) with rfl | rfl | rfl | rfl | rfl | rfl | rfl | rfl <;> exact ⟨_, rfl⟩) ((hW.block q hq1).trans K1) hr
  have h1 := h.below b1 (Nat.le_refl _)
  have h21 := h2.below b1 (Nat.le_refl _)
  clear K1 hw1 hq
  go_loopw [7, 8, 9] (fun u v i wq => ∃ (k : Nat) (s : Nat → ByteArray) (t : Nat → Tab), i = .int .i64 (k : Nat) ∧ k ≤ 9 ∧ Hid (Gath wq w1.heap.size k k u v s t) ∧ Below w1.heap.size w1 wq) (fun _ _ i _ => 9 - (intOf i).toNat)
  case atStart => exact ⟨0, fun _ => ⟨#[]⟩, fun _ => ⟨none, 0, 0, fun _ => 0⟩, rfl, by omega, Gath.nil _ _ _ _, Below.refl _ _⟩
  case round =>
    obtain ⟨k, s, t, rfl, hk, hG, hB⟩ := hrel
    by_cases hc : k < n ∧ k < m ∧ k < 9
    · obtain ⟨c1, c2, c3⟩ := hc
      have c1' : (k : Int) < n := by omega
      have c2' : (k : Int) < m := by omega
      have c3' : (k : Int) < 9 := by omega
      obtain ⟨av1, cv1, av2, cv2, hv1, hv2, _, _⟩ := hG.out.take (by omega) (by omega)
      subst hv1
      subst hv2
      obtain ⟨b, off, rfl, hb, hcl⟩ := h1.spot (by omega)
      obtain ⟨b2, off2, rfl, hb2, hcl2⟩ := h21.spot (by omega)
      have DN : ∀ W, Below w1.heap.size w1 W → W.cell? ⟨b2, off2 + k, none⟩ = some (.int .i64 (f k)) := fun W hW => by
        rw [World.cell?_of_block (a := ⟨b2, off2 + k, none⟩) (hW.block b2 hb2), hcl2 k c2]
      have DL : ∀ W, Below w1.heap.size w1 W → W.cell? ⟨b, off + k, none⟩ = some (.slice (L k).a (L k).l (L k).c) := fun W hW => by
        rw [World.cell?_of_block (a := ⟨b, off + k, none⟩) (hW.block b hb), hcl k c1]
      have d1 := DN wr hB
      have P := pick_big (f k) 8 (by omega) (by omega) wr
      have hp := pickv_lt (f k) 8 (by omega)
      obtain ⟨r, hr⟩ : ∃ r, Hid (pickv (f k) 8 = r) := ⟨_, rfl⟩
      rw [hr.out] at P hp
      obtain ⟨X, hX⟩ := EI wr hB r hp
      have hLk := hL k c1
      have LK := h1.each k c1
      clear hcl hcl2
      go_wp2_with fail
      refine P.mono ?_
      rintro e w2 ⟨rfl, rfl⟩
      have hp' : (r : Int) < 8 := by omega
      have OA := hG.out.below ((Below.refl _ _).alloc (Nat.le_refl _) (.cells #[.string X] 9))
      have HAP : Hid (_) := app_one E26 (w0 := w1) (w := w2.alloc (.cells #[.string X] 9)) OA.o1 (hB.alloc hB.size _) (by have := hB.size; simp; omega) (blk_new w2 (.cells #[.string X] 9)) (news := [.string X]) rfl (by intro u hu; simp at hu; rw [hu]; rfl) (by omega)
      have HOA : Hid (Gath _ _ _ _ _ _ _ _) := OA
      clear OA P
      go_wp2_with (at_builtin; refine wpList_app2 rfl (.tmp 27) (.tmp 35) 26 26 rfl rfl rfl HAP.out ?_; rintro g3 c3 w3 hR1; have HR3 : Hid (_) := hR1; clear hR1; have d3 := DL w3 HR3.out.2.1)
      have B3 := HR3.out.2.1
      have G3 := HOA.out.tagU HR3.out.1 HR3.out.2.2.1 HR3.out.2.2.2
      obtain ⟨kk, hkk⟩ : ∃ kk, kk = min (L k).l 60 := ⟨_, rfl⟩
      have hkb : kk ≤ 60 := by omega
      have FW := few_up (L k).a (L k).l (L k).c 60 kk (L k).z w3 (LK.below B3 (Nat.le_refl _)) (by omega) (by omega) hkk
      have HG3 : Hid (Gath _ _ _ _ _ _ _ _) := G3
      have hzb := LK.byte
      clear G3 HR3 HAP HOA d3 hkk
      refine FW.mono ?_
      rintro e w4 ⟨g4, c4, rfl, O4, b4⟩
      have B4 := B3.trans (b4.mono B3.size)
      have F4 := own_lies5 O4 hzb (by omega)
      have G4 := (HG3.out.below b4).below ((Below.refl _ _).alloc (Nat.le_refl _) (.cells #[.slice (some ⟨g4, 0, none⟩) kk c4] 22))
      have F5 := F4.same (Same5.of_below ((Below.refl _ _).alloc (Nat.le_refl _) (.cells #[.slice (some ⟨g4, 0, none⟩) kk c4] 22)))
      have HAP : Hid (_) := app_one E27 (w0 := w1) (w := w4.alloc (.cells #[.slice (some ⟨g4, 0, none⟩) kk c4] 22)) G4.o2 (B4.alloc B4.size _) (by have := B4.size; simp; omega) (blk_new w4 (.cells #[.slice (some ⟨g4, 0, none⟩) kk c4] 22)) (news := [.slice (some ⟨g4, 0, none⟩) kk c4]) rfl (by intro u hu; simp at hu; rw [hu]; rfl) (by omega)
      have HG4 : Hid (Gath _ _ _ _ _ _ _ _) := G4
      have HF5 : Hid (Lies5 _ _) := F5
      clear G4 F5 F4 O4 HG3 FW
      go_wp2_with (at_builtin; refine wpList_app2 rfl (.tmp 37) (.tmp 43) 27 27 rfl rfl rfl HAP.out ?_; rintro g5 c5 w5 hR1; have HR5 : Hid (_) := hR1; clear hR1)
      exact ⟨⟨k + 1, _, _, by go_num, by omega, HG4.out.tab HF5.out (by show kk ≤ 100; omega) HR5.out.1 HR5.out.2.2.1 HR5.out.2.2.2, HR5.out.2.1⟩, by simp [intOf]; omega⟩
    · have END : ∀ W, Below w1.heap.size w1 W → Below w.heap.size w W := fun W hW => b1.trans (hW.mono b1.size)
      have hbase : w.heap.size ≤ w1.heap.size := b1.size
      have MONO : Gath wr w.heap.size k k _ _ s t := ⟨ownr_mono hG.out.o1 hbase, ownr_mono hG.out.o2 hbase, hG.out.each⟩
      have HMO : Hid (Gath wr w.heap.size k k _ _ s t) := MONO
      clear MONO
      by_cases c1 : k < n
      · have c1' : (k : Int) < n := by omega
        by_cases c2 : k < m
        · have c2' : (k : Int) < m := by omega
          have c3' : ¬ (k : Int) < 9 := by omega
          clear hc
          go_wp2
          go_ret2
          exact ⟨_, _, rfl, END _ hB, k, hk, s, t, HMO.out⟩
        · have c2' : ¬ (k : Int) < m := by omega
          clear hc
          go_wp2
          go_ret2
          exact ⟨_, _, rfl, END _ hB, k, hk, s, t, HMO.out⟩
      · have c1' : ¬ (k : Int) < n := by omega
        clear hc
        go_wp2
        go_ret2
        exact ⟨_, _, rfl, END _ hB, k, hk, s, t, HMO.out⟩
end Go.Proofs.Ytdmfammajggfpaa
