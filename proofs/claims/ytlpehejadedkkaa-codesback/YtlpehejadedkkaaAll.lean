/-
  CodesKnown, walked: chapter 7's example, bits, codes that are none.
-/
import Derived.Test.YtlpehejadedkkaaKnown
namespace Go.Proofs.Ytlpehejadedkkaa
open Go.RowKit

theorem CodeAt.lo {w : World} {o gw gs N : Nat} {L : Nat → Nat} (h : CodeAt w o gw gs N L) : o < w.heap.size := blk_lt_of_cell h.words
theorem new_no (a : Option Addr) (len cap : Nat) (f : Nat → Int) (w : World) (h : Ints w a len cap f) (hbad : ¬ GoodL f len) :
    Calls Try.prog 12 #[.slice a len cap] w fun e w' => e = .returned (.tuple #[.pointer none, .int .i64 2]) ∧ Below w.heap.size w w' := by
  refine (new_any a len cap f w h).mono ?_
  rintro e w' ⟨hb, ⟨_, rfl⟩ | ⟨hg, _⟩⟩
  · exact ⟨rfl, hb⟩
  · exact absurd hg hbad
theorem new_yes (a : Option Addr) (len cap : Nat) (f : Nat → Int) (w : World) (h : Ints w a len cap f) (hgood : GoodL f len) :
    Calls Try.prog 12 #[.slice a len cap] w fun e w' => ∃ o gw gs, w.heap.size ≤ o ∧ w.heap.size ≤ gw ∧ w.heap.size ≤ gs ∧ e = .returned (.tuple #[.pointer (some ⟨o, 0, none⟩), .int .i64 0]) ∧ CodeAt w' o gw gs len (fun i => (f i).toNat) ∧ Below w.heap.size w w' := by
  refine (new_any a len cap f w h).mono ?_
  rintro e w' ⟨hb, ⟨hbad, _⟩ | ⟨_, o, gw, gs, h1, h2, h3, rfl, hC⟩⟩
  · exact absurd hgood hbad
  · exact ⟨o, gw, gs, h1, h2, h3, rfl, hC, hb⟩

/-- A list's numbers. -/
def fl (l : List Int) (i : Nat) : Int := l.getD i 0
def zl (l : List Nat) (i : Nat) : Nat := l.getD i 0
theorem fl_arr (l : List Int) : (l.map fun x => Value.int .i64 x).toArray = arr l.length fun i => .int .i64 (fl l i) := by
  unfold arr fl; congr 1
  apply List.ext_getElem?; intro i
  by_cases hi : i < l.length <;> simp [hi]
theorem zl_arr (l : List Nat) : (l.map fun x => Value.int .u8 (x : Nat)).toArray = arr l.length fun i => .int .u8 (zl l i : Nat) := by
  unfold arr zl; congr 1
  apply List.ext_getElem?; intro i
  by_cases hi : i < l.length <;> simp [hi]
theorem fl_fit (l : List Int) (h : ∀ x ∈ l, -9223372036854775808 ≤ x ∧ x ≤ 9223372036854775807) (i : Nat) : -9223372036854775808 ≤ fl l i ∧ fl l i ≤ 9223372036854775807 := by
  unfold fl
  rw [List.getD_eq_getElem?_getD]
  cases e : l[i]? with
  | none => simp
  | some y => simp; exact h y (List.mem_of_getElem? e)
theorem zl_fit (l : List Nat) (h : ∀ x ∈ l, x < 256) (i : Nat) : zl l i < 256 := by
  unfold zl
  rw [List.getD_eq_getElem?_getD]
  cases e : l[i]? with
  | none => simp
  | some y => simp; exact h y (List.mem_of_getElem? e)
/-- A slice of ints that was just made. -/
theorem ints_list (w : World) (l : List Int) (hl : l.length ≤ 100000) (h : ∀ x ∈ l, -9223372036854775808 ≤ x ∧ x ≤ 9223372036854775807) : Ints (w.alloc (.cells (l.map fun x => Value.int .i64 x).toArray 3)) (some ⟨w.heap.size, 0, none⟩) l.length l.length (fl l) := by
  rw [fl_arr]; exact ints_new hl (fl_fit l h) (blk_new w _)
theorem lies_list (w : World) (l : List Nat) (hl : l.length ≤ 100000) (h : ∀ x ∈ l, x < 256) : Lies (w.alloc (.cells (l.map fun x => Value.int .u8 (x : Nat)).toArray 5)) (some ⟨w.heap.size, 0, none⟩) l.length l.length (zl l) := by
  rw [zl_arr]; exact lies_new (by omega) (zl_fit l h) (blk_new w _)
theorem ints_nil (w : World) : Ints w none 0 0 (fl []) := ⟨by omega, by omega, fl_fit [] (by simp), fun h => by omega⟩
theorem below_list {w0 w w' : World} {B : Nat} {ob : Obj} (h : Below B w0 w) (hB : B ≤ w0.heap.size) (k : Below (w.alloc ob).heap.size (w.alloc ob) w') : Below B w0 w' :=
  (h.alloc (Nat.le_trans hB h.size) ob).trans (k.mono (by have := h.size; simp; omega))
theorem below_plain {w0 w w' : World} {B : Nat} (h : Below B w0 w) (hB : B ≤ w0.heap.size) (k : Below w.heap.size w w') : Below B w0 w' :=
  h.trans (k.mono (Nat.le_trans hB h.size))
theorem BitsAt.list {w w' : World} {b g len : Nat} {z : Nat → Nat} {p : Nat} {ob : Obj} (h : BitsAt w b g len z p) (k : Below (w.alloc ob).heap.size (w.alloc ob) w') : BitsAt w' b g len z p :=
  (h.below ((Below.refl _ w).alloc (Nat.le_refl _) ob)).below k
theorem CodeAt.list {w w' : World} {o gw gs N : Nat} {L : Nat → Nat} {ob : Obj} (h : CodeAt w o gw gs N L) (k : Below (w.alloc ob).heap.size (w.alloc ob) w') : CodeAt w' o gw gs N L :=
  (h.below ((Below.refl _ w).alloc (Nat.le_refl _) ob)).below k

set_option maxRecDepth 100000 in
set_option maxHeartbeats 6400000 in
theorem knownAll_any (w : World) : Calls Try.prog 3 #[] w fun e w' => e = .returned (.bool true) ∧ Below w.heap.size w w' := by
  have BB := Below.refl w.heap.size w
  go_enter Try.func3, Try.ntmps3
  go_wp2_with fail
  refine (newbits_any _ 2 2 (zl [165, 15]) _ (lies_list w [165, 15] (by simp) (by simp))).mono ?_
  rintro e w1 ⟨b, g, rfl, hB, hb, hg, k⟩
  have B1 := below_list BB (Nat.le_refl _) k
  simp only [World.size_alloc] at hb hg
  clear BB k
  go_wp2_with fail
  refine (known_any _).mono ?_
  rintro e w2 ⟨rfl, k⟩
  have BB := below_plain B1 (Nat.le_refl _) k
  replace hB := hB.below k
  clear B1 k
  go_wp2_with fail
  refine (take_yes_mid b g 2 (zl [165, 15]) 0 4 (by omega) _ hB (by omega)).mono ?_
  rintro e w3 ⟨rfl, hB', k⟩
  replace BB := Below.kept BB k (Nat.le_refl _) (fun i hi => by omega)
  clear hB
  have hB := hB'
  clear hB' k
  rw [show takev (zl [165, 15]) 0 4 = 5 by decide]
  go_wp2_with fail
  refine (used_any b g 2 (zl [165, 15]) _ _ hB).mono ?_
  rintro e w' ⟨rfl, rfl⟩
  go_wp2_with fail
  refine (take_yes_mid b g 2 (zl [165, 15]) (0 + 4) 6 (by omega) _ hB (by omega)).mono ?_
  rintro e w4 ⟨rfl, hB', k⟩
  replace BB := Below.kept BB k (Nat.le_refl _) (fun i hi => by omega)
  clear hB
  have hB := hB'
  clear hB' k
  rw [show takev (zl [165, 15]) (0 + 4) 6 = 58 by decide]
  go_wp2_with fail
  refine (align_any b g 2 (zl [165, 15]) (0 + 4 + 6) _ hB).mono ?_
  rintro e w5 ⟨rfl, hB', k⟩
  replace BB := Below.kept BB k (Nat.le_refl _) (fun i hi => by omega)
  clear hB
  have hB := hB'
  clear hB' k
  go_wp2_with fail
  refine (take_no_mid b g 2 (zl [165, 15]) (8 * ((0 + 4 + 6 + 7) / 8)) 1 (by omega) _ hB (by omega)).mono ?_
  rintro e w6 ⟨rfl, hB', k⟩
  replace BB := Below.kept BB k (Nat.le_refl _) (fun i hi => by omega)
  clear hB
  have hB := hB'
  clear hB' k
  go_wp2_with fail
  refine (take_yes_lo b g 2 (zl [165, 15]) (8 * ((0 + 4 + 6 + 7) / 8)) (-3) (by omega) _ hB).mono ?_
  rintro e w7 ⟨rfl, hB', k⟩
  replace BB := Below.kept BB k (Nat.le_refl _) (fun i hi => by omega)
  clear hB
  have hB := hB'
  clear hB' k
  rw [show takev (zl [165, 15]) (8 * ((0 + 4 + 6 + 7) / 8)) 0 = 0 by decide]
  go_wp2_with fail
  refine (new_no _ 3 3 (fl [1, 1, 1]) _ (ints_list _ [1, 1, 1] (by simp) (by simp)) (fun h => absurd h.ok (by decide))).mono ?_
  rintro e w8 ⟨rfl, k⟩
  replace BB := below_list BB (Nat.le_refl _) k
  replace hB := hB.list k
  clear k
  go_wp2_with fail
  refine (new_no _ 3 3 (fl [2, 2, 2]) _ (ints_list _ [2, 2, 2] (by simp) (by simp)) (fun h => absurd h.ok (by decide))).mono ?_
  rintro e w9 ⟨rfl, k⟩
  replace BB := below_list BB (Nat.le_refl _) k
  replace hB := hB.list k
  clear k
  go_wp2_with fail
  refine (new_yes _ 3 3 (fl [0, 1, 0]) _ (ints_list _ [0, 1, 0] (by simp) (by simp)) (⟨by omega, by decide, by decide⟩)).mono ?_
  rintro e w10 ⟨cco, ccw, ccs, _, _, _, rfl, cc, k⟩
  replace BB := below_list BB (Nat.le_refl _) k
  replace hB := hB.list k
  clear k
  go_wp2_with fail
  refine (new_no _ 3 3 (fl [0, 2, 0]) _ (ints_list _ [0, 2, 0] (by simp) (by simp)) (fun h => absurd h.ok (by decide))).mono ?_
  rintro e w11 ⟨rfl, k⟩
  replace BB := below_list BB (Nat.le_refl _) k
  replace hB := hB.list k
  replace cc := cc.list k
  clear k
  go_wp2_with fail
  refine (new_yes _ 0 0 (fl []) _ (ints_nil _) ⟨by omega, fun i hi => by omega, by decide⟩).mono ?_
  rintro e w12 ⟨deo, dew, des, _, _, _, rfl, de, k⟩
  replace BB := below_plain BB (Nat.le_refl _) k
  replace hB := hB.below k
  replace cc := cc.below k
  clear k
  go_wp2_with fail
  refine (new_no _ 1 1 (fl [16]) _ (ints_list _ [16] (by simp) (by simp)) (fun h => absurd (h.each 0 (by omega)).2 (by decide))).mono ?_
  rintro e w13 ⟨rfl, k⟩
  replace BB := below_list BB (Nat.le_refl _) k
  replace hB := hB.list k
  replace cc := cc.list k
  replace de := de.list k
  clear k
  go_wp2_with fail
  refine (new_no _ 1 1 (fl [-1]) _ (ints_list _ [-1] (by simp) (by simp)) (fun h => absurd (h.each 0 (by omega)).1 (by decide))).mono ?_
  rintro e w14 ⟨rfl, k⟩
  replace BB := below_list BB (Nat.le_refl _) k
  replace hB := hB.list k
  replace cc := cc.list k
  replace de := de.list k
  clear k
  have hmk : ∀ W : World, (Instr.makeSlice 33 (.int .i64 321) (.int .i64 321)).run Try.prog W = .ok (.slice (some ⟨W.heap.size, 0, none⟩) 321 321) (W.alloc (.cells (arr 321 fun _ => .int .i64 0) 3)) := make33 321 (by omega)
  go_wp2_with fail
  refine (new_no _ 321 321 (fun _ => 0) _ (ints_new (by omega) (fun _ => by omega) (blk_new _ _)) (fun h => absurd h.few (by omega))).mono ?_
  rintro e w15 ⟨rfl, k⟩
  replace BB := below_list BB (Nat.le_refl _) k
  replace hB := hB.list k
  replace cc := cc.list k
  replace de := de.list k
  clear k hmk
  go_wp2_with fail
  refine (newbits_any _ 1 1 (zl [0]) _ (lies_list _ [0] (by simp) (by simp))).mono ?_
  rintro e w16 ⟨b2, g2, rfl, hB2, h7, h8, k⟩
  have lo := cc.lo
  have lw := cc.lw
  have ls := cc.ls
  simp only [World.size_alloc] at h7 h8
  have NB1 : ¬ b = b2 := by have := blk_lt hB.obj; omega
  have NB2 : ¬ g = b2 := by have := blk_lt hB.row; omega
  have NC1 : ¬ cco = b2 := by have := cc.lo; omega
  have NC2 : ¬ ccw = b2 := by have := cc.lw; omega
  have NC3 : ¬ ccs = b2 := by have := cc.ls; omega
  have ND1 : ¬ deo = b2 := by have := de.lo; omega
  have ND2 : ¬ dew = b2 := by have := de.lw; omega
  have ND3 : ¬ des = b2 := by have := de.ls; omega
  have hsz := BB.size
  replace BB := below_list BB (Nat.le_refl _) k
  replace hB := hB.list k
  replace cc := cc.list k
  replace de := de.list k
  clear k
  have lb := blk_lt hB.obj
  go_wp2_with fail
  refine (read_any cco ccw ccs 3 _ b2 g2 1 (zl [0]) 0 _ cc hB2 (by omega) (by omega) (by omega)).mono ?_
  rintro e w17 ⟨rfl, _, k⟩
  rw [show rdv (fun i => (fl [0, 1, 0] i).toNat) 3 (bit (zl [0])) (8 * 1) 0 = (1, true, 1) by decide]
  replace BB := Below.kept BB k (Nat.le_refl _) (fun i hi => by omega)
  replace hB := hB.kept k NB1 NB2
  replace cc := cc.kept k NC1 NC2 NC3
  replace de := de.kept k ND1 ND2 ND3
  clear k hB2 h7 h8 lo lw ls lb NB1 NB2 NC1 NC2 NC3 ND1 ND2 ND3 hsz
  go_wp2_with fail
  refine (newbits_any _ 1 1 (zl [1]) _ (lies_list _ [1] (by simp) (by simp))).mono ?_
  rintro e w18 ⟨b2, g2, rfl, hB2, h7, h8, k⟩
  have lo := cc.lo
  have lw := cc.lw
  have ls := cc.ls
  simp only [World.size_alloc] at h7 h8
  have NB1 : ¬ b = b2 := by have := blk_lt hB.obj; omega
  have NB2 : ¬ g = b2 := by have := blk_lt hB.row; omega
  have NC1 : ¬ cco = b2 := by have := cc.lo; omega
  have NC2 : ¬ ccw = b2 := by have := cc.lw; omega
  have NC3 : ¬ ccs = b2 := by have := cc.ls; omega
  have ND1 : ¬ deo = b2 := by have := de.lo; omega
  have ND2 : ¬ dew = b2 := by have := de.lw; omega
  have ND3 : ¬ des = b2 := by have := de.ls; omega
  have hsz := BB.size
  replace BB := below_list BB (Nat.le_refl _) k
  replace hB := hB.list k
  replace cc := cc.list k
  replace de := de.list k
  clear k
  have lb := blk_lt hB.obj
  go_wp2_with fail
  refine (read_any cco ccw ccs 3 _ b2 g2 1 (zl [1]) 0 _ cc hB2 (by omega) (by omega) (by omega)).mono ?_
  rintro e w19 ⟨rfl, _, k⟩
  rw [show rdv (fun i => (fl [0, 1, 0] i).toNat) 3 (bit (zl [1])) (8 * 1) 0 = (0, false, 8) by decide]
  replace BB := Below.kept BB k (Nat.le_refl _) (fun i hi => by omega)
  replace hB := hB.kept k NB1 NB2
  replace cc := cc.kept k NC1 NC2 NC3
  replace de := de.kept k ND1 ND2 ND3
  clear k hB2 h7 h8 lo lw ls lb NB1 NB2 NC1 NC2 NC3 ND1 ND2 ND3 hsz
  go_wp2_with fail
  refine (newbits_any _ 1 1 (zl [1]) _ (lies_list _ [1] (by simp) (by simp))).mono ?_
  rintro e w20 ⟨b2, g2, rfl, hB2, h7, h8, k⟩
  have lo := de.lo
  have lw := de.lw
  have ls := de.ls
  simp only [World.size_alloc] at h7 h8
  have NB1 : ¬ b = b2 := by have := blk_lt hB.obj; omega
  have NB2 : ¬ g = b2 := by have := blk_lt hB.row; omega
  have NC1 : ¬ cco = b2 := by have := cc.lo; omega
  have NC2 : ¬ ccw = b2 := by have := cc.lw; omega
  have NC3 : ¬ ccs = b2 := by have := cc.ls; omega
  have ND1 : ¬ deo = b2 := by have := de.lo; omega
  have ND2 : ¬ dew = b2 := by have := de.lw; omega
  have ND3 : ¬ des = b2 := by have := de.ls; omega
  have hsz := BB.size
  replace BB := below_list BB (Nat.le_refl _) k
  replace hB := hB.list k
  replace cc := cc.list k
  replace de := de.list k
  clear k
  have lb := blk_lt hB.obj
  go_wp2_with fail
  refine (read_any deo dew des 0 _ b2 g2 1 (zl [1]) 0 _ de hB2 (by omega) (by omega) (by omega)).mono ?_
  rintro e w21 ⟨rfl, _, k⟩
  rw [show rdv (fun i => (fl [] i).toNat) 0 (bit (zl [1])) (8 * 1) 0 = (0, false, 8) by decide]
  replace BB := Below.kept BB k (Nat.le_refl _) (fun i hi => by omega)
  replace hB := hB.kept k NB1 NB2
  replace cc := cc.kept k NC1 NC2 NC3
  replace de := de.kept k ND1 ND2 ND3
  clear k hB2 h7 h8 lo lw ls lb NB1 NB2 NC1 NC2 NC3 ND1 ND2 ND3 hsz
  clear cc de
  go_wp2_with fail
  refine (used_any b g 2 (zl [165, 15]) _ _ hB).mono ?_
  rintro e w' ⟨rfl, rfl⟩
  go_wp2
  go_ret
  exact ⟨rfl, BB⟩
end Go.Proofs.Ytlpehejadedkkaa
