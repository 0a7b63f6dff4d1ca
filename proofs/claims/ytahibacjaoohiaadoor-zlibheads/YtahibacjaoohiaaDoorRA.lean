/-
  The references: versalref6.Bits' Take of one bit and Used; Code's Read.
  The reference's codes in memory.
  The reference's NewCode.
-/
import Derived.Test.YtahibacjaoohiaaDoorPick
import Derived.Test.YtahibacjaoohiaaDoorRead
import Derived.Test.YtahibacjaoohiaaDoorRow
namespace Go.Proofs.YtahibacjaoohiaaDoor
open Go.RowKit

/-- The reference's bits at block sb: p of the bytes' bits are taken. -/
structure RBits (w : World) (sb : Nat) (a : Option Addr) (len cap : Nat) (z : Nat → Nat) (p : Nat) : Prop where
  obj : w.heap[sb]? = some (.cells #[.slice a len cap, .int .i64 p] 66)
  lies : Lies w a len cap z
  lim : p ≤ 8 * len
  ne : 0 < len → ∀ b off, a = some ⟨b, off, none⟩ → b ≠ sb
theorem Lies.kept {S : Nat → Prop} {w w' : World} {a : Option Addr} {len cap : Nat} {z : Nat → Nat} (h : Lies w a len cap z) (k : Kept S w w') (hS : 0 < len → ∀ b off, a = some ⟨b, off, .none⟩ → ¬ S b) : Lies w' a len cap z := by
  refine ⟨h.lc, h.reach, h.byte, fun hl => ?_⟩
  obtain ⟨b, off, e, hlt, hc⟩ := h.spot hl
  refine ⟨b, off, e, by have := k.size; omega, fun i hi => ?_⟩
  rw [World.cell?_of_block (a := ⟨b, off + i, Option.none⟩) (k.block b hlt (hS hl b off e))]
  exact hc i hi
theorem RBits.kept {S : Nat → Prop} {w w' : World} {sb : Nat} {a : Option Addr} {len cap : Nat} {z : Nat → Nat} {p : Nat} (h : RBits w sb a len cap z p) (k : Kept S w w') (hs : ¬ S sb) (hS : 0 < len → ∀ b off, a = some ⟨b, off, none⟩ → ¬ S b) : RBits w' sb a len cap z p :=
  ⟨k.blk h.obj hs, h.lies.kept k hS, h.lim, h.ne⟩
theorem RBits.below {w w' : World} {sb : Nat} {a : Option Addr} {len cap : Nat} {z : Nat → Nat} {p : Nat} (h : RBits w sb a len cap z p) (k : Below w.heap.size w w') : RBits w' sb a len cap z p :=
  h.kept (S := fun _ => False) (Kept.of_below k (Nat.le_refl _) _) id (fun _ _ _ _ => id)
theorem rbits_set {w : World} {sb : Nat} {a : Option Addr} {len cap : Nat} {z : Nat → Nat} {p : Nat} (h : RBits w sb a len cap z p) (q : Nat) (hq : q ≤ 8 * len) {v : Int} (hv : v = q) : RBits (w.setCell ⟨sb, 1, none⟩ (.int .i64 v)) sb a len cap z q := by
  subst hv
  exact ⟨blk_set h.obj 1 _, h.lies.kept ((Kept.refl (fun k => k = sb) w).set 1 _) h.ne, hq, h.ne⟩

theorem rused_any (sb : Nat) (a : Option Addr) (len cap : Nat) (z : Nat → Nat) (p : Nat) (w : World) (h : RBits w sb a len cap z p) :
    Calls Tryd.prog 36 #[.pointer (some ⟨sb, 0, none⟩)] w fun e w' => e = .returned (.int .i64 ((p + 7) / 8 : Nat)) ∧ w' = w := by
  have hr := h.lies.reach
  have hl := h.lim
  have c1 : w.cell? ⟨sb, 1, none⟩ = some (.int .i64 p) := blk_cell h.obj 1
  go_enter Tryd.func36, Tryd.ntmps36
  go_wp2
  go_ret
  exact ⟨ret_int (by omega), rfl⟩

theorem within_one (w : World) : Calls Tryd.prog 65 #[.int .i64 1, .int .i64 0, .int .i64 24] w fun e w' => e = .returned (.int .i64 1) ∧ w' = w := by
  go_enter Tryd.func65, Tryd.ntmps65
  go_wp2
  go_ret
  exact ⟨rfl, rfl⟩

set_option maxRecDepth 100000 in
theorem and_one_u8 (x : Nat) (hx : x < 256) : bits .and .u8 (x : Int) 1 = ((x % 2 : Nat) : Int) := by
  have h : ∀ y : Fin 256, bits .and .u8 ((y.val : Nat) : Int) 1 = ((y.val % 2 : Nat) : Int) := by decide
  exact h ⟨x, hx⟩

theorem rtake_no (sb : Nat) (a : Option Addr) (len cap : Nat) (z : Nat → Nat) (p : Nat) (w : World) (h : RBits w sb a len cap z p) (hn : ¬ p < 8 * len) :
    Calls Tryd.prog 48 #[.pointer (some ⟨sb, 0, none⟩), .int .i64 1] w fun e w' => e = .returned (.tuple #[.int .i64 0, .bool false]) ∧ RBits w' sb a len cap z p ∧ Kept (fun k => k = sb) w w' := by
  have hr := h.lies.reach
  have hl := h.lim
  have c0 : w.cell? ⟨sb, 0, none⟩ = some (.slice a len cap) := blk_cell h.obj 0
  have c1 : w.cell? ⟨sb, 1, none⟩ = some (.int .i64 p) := blk_cell h.obj 1
  have hd : decide ((8 * (len : Int)) - (p : Int) < 1) = true := decide_eq_true (by omega)
  go_enter Tryd.func48, Tryd.ntmps48
  go_wp2_with fail
  refine (within_one _).mono ?_
  rintro e w' ⟨rfl, rfl⟩
  go_wp2_with fail
  go_quiet (fail)
  go_wp2
  go_ret2
  exact ⟨rfl, h.kept (S := fun _ => False) ((Kept.refl _ _).drewN _) id (fun _ _ _ _ => id), (Kept.refl _ _).drewN _⟩

set_option maxHeartbeats 800000 in
theorem rtake_yes (sb : Nat) (a : Option Addr) (len cap : Nat) (z : Nat → Nat) (p : Nat) (w : World) (h : RBits w sb a len cap z p) (hn : p < 8 * len) :
    Calls Tryd.prog 48 #[.pointer (some ⟨sb, 0, none⟩), .int .i64 1] w fun e w' => e = .returned (.tuple #[.int .i64 (bit z p : Nat), .bool true]) ∧ RBits w' sb a len cap z (p + 1) ∧ Kept (fun k => k = sb) w w' := by
  have hr := h.lies.reach
  have hlc := h.lies.lc
  have c0 : w.cell? ⟨sb, 0, none⟩ = some (.slice a len cap) := blk_cell h.obj 0
  have c1 : w.cell? ⟨sb, 1, none⟩ = some (.int .i64 p) := blk_cell h.obj 1
  have hd : decide ((8 * (len : Int)) - (p : Int) < 1) = false := decide_eq_false (by omega)
  go_enter Tryd.func48, Tryd.ntmps48
  go_wp2_with fail
  refine (within_one _).mono ?_
  rintro e w' ⟨rfl, rfl⟩
  go_wp2_with fail
  go_quiet (fail)
  obtain ⟨W, hW⟩ : ∃ W, W = w'.drewN nq := ⟨_, rfl⟩
  rw [← hW]
  have R0 : RBits W sb a len cap z p := by rw [hW]; exact h.kept (S := fun _ => False) ((Kept.refl _ _).drewN _) id (fun _ _ _ _ => id)
  have K0 : Kept (fun k => k = sb) w' W := by rw [hW]; exact (Kept.refl _ _).drewN _
  clear hW c0 c1 hd
  go_wp2_with fail
  go_loopw [6, 7] (fun v j wq => (j = .int .i64 0 ∧ v = .int .i64 0 ∧ RBits wq sb a len cap z p ∧ Kept (fun k => k = sb) w' wq) ∨ (j = .int .i64 1 ∧ v = .int .i64 (bit z p : Nat) ∧ RBits wq sb a len cap z (p + 1) ∧ Kept (fun k => k = sb) w' wq)) (fun _ j _ => 1 - (intOf j).toNat)
  case atStart => exact .inl ⟨rfl, rfl, R0, K0⟩
  case round =>
    clear R0 K0 W
    rcases hrel with ⟨rfl, rfl, R1, K1⟩ | ⟨rfl, rfl, R1, K1⟩
    · have c0 : wr.cell? ⟨sb, 0, none⟩ = some (.slice a len cap) := blk_cell R1.obj 0
      have c1 : wr.cell? ⟨sb, 1, none⟩ = some (.int .i64 p) := blk_cell R1.obj 1
      have f1 := blk_free R1.obj 1
      obtain ⟨b, off, rfl, hb, hc⟩ := R1.lies.spot (by omega)
      have hci := hc (p / 8) (by omega)
      have hz := R1.lies.byte (p / 8)
      have hbl := bit_lt z p
      have hv : bits .and .u8 (((z (p / 8) : Nat) : Int) / 2 ^ (p % 8)) 1 = ((bit z p : Nat) : Int) := by
        have hle : z (p / 8) / 2 ^ (p % 8) ≤ z (p / 8) := Nat.div_le_self _ _
        rw [two_pow_cast, ← Int.natCast_ediv, and_one_u8 _ (by omega)]; rfl
      by_cases hb1 : bit z p = 1
      · rw [hb1] at hv
        go_wp2_with fail
        go_quiet (fail)
        have R2 : RBits (wr.drewN nq) sb (some ⟨b, off, none⟩) len cap z p := R1.kept (S := fun _ => False) ((Kept.refl _ _).drewN _) id (fun _ _ _ _ => id)
        have HB : Hid (bit z p = 1) := hb1
        clear hb1 hv hbl
        go_wp2
        exact ⟨.inr ⟨rfl, by rw [HB.out]; rfl, rbits_set R2 (p + 1) (by omega) (by omega), (K1.drewN _).set 1 _⟩, by simp [intOf]⟩
      · have hb0 : bit z p = 0 := by omega
        rw [hb0] at hv
        go_wp2_with fail
        go_quiet (fail)
        have R2 : RBits (wr.drewN nq) sb (some ⟨b, off, none⟩) len cap z p := R1.kept (S := fun _ => False) ((Kept.refl _ _).drewN _) id (fun _ _ _ _ => id)
        have HB : Hid (bit z p = 0) := hb0
        clear hb0 hb1 hv hbl
        go_wp2
        exact ⟨.inr ⟨rfl, by rw [HB.out]; rfl, rbits_set R2 (p + 1) (by omega) (by omega), (K1.drewN _).set 1 _⟩, by simp [intOf]⟩
    · go_wp2
      go_ret2
      exact ⟨rfl, R1, K1⟩
end Go.Proofs.YtahibacjaoohiaaDoor

namespace Go.Proofs.YtahibacjaoohiaaDoor
open Go.RowKit

/-- The reference's code in block rc: codes in gc, lengths in gl. -/
structure RCode (w : World) (rc gc gl capl N : Nat) (L : Nat → Nat) : Prop where
  few : N ≤ 320
  lcap : N ≤ capl
  each : ∀ i, i < N → L i ≤ 15
  ok : okc L N = true
  lc : gc < w.heap.size
  ll : gl < w.heap.size
  cs : w.cell? ⟨rc, 0, none⟩ = some (.slice (some ⟨gc, 0, none⟩) N N)
  ls : w.cell? ⟨rc, 1, none⟩ = some (.slice (some ⟨gl, 0, none⟩) N capl)
  c : ∀ i, i < N → w.cell? ⟨gc, i, none⟩ = some (.int .i64 (codev L N i : Nat))
  l : ∀ i, i < N → w.cell? ⟨gl, i, none⟩ = some (.int .i64 (L i : Nat))
theorem RCode.lo {w : World} {rc gc gl capl N : Nat} {L : Nat → Nat} (h : RCode w rc gc gl capl N L) : rc < w.heap.size := blk_lt_of_cell h.cs
theorem RCode.kept {S : Nat → Prop} {w w' : World} {rc gc gl capl N : Nat} {L : Nat → Nat} (h : RCode w rc gc gl capl N L) (k : Kept S w w') (h1 : ¬ S rc) (h2 : ¬ S gc) (h3 : ¬ S gl) : RCode w' rc gc gl capl N L := by
  have key : ∀ b i v, ¬ S b → w.cell? ⟨b, i, none⟩ = some v → w'.cell? ⟨b, i, none⟩ = some v := fun b i v hb hc => by
    rw [World.cell?_of_block (a := ⟨b, i, none⟩) (k.block b (blk_lt_of_cell hc) hb)]; exact hc
  exact ⟨h.few, h.lcap, h.each, h.ok, Nat.lt_of_lt_of_le h.lc k.size, Nat.lt_of_lt_of_le h.ll k.size, key _ _ _ h1 h.cs, key _ _ _ h1 h.ls, fun i hi => key _ _ _ h2 (h.c i hi), fun i hi => key _ _ _ h3 (h.l i hi)⟩
theorem RCode.below {w w' : World} {rc gc gl capl N : Nat} {L : Nat → Nat} (h : RCode w rc gc gl capl N L) (k : Below w.heap.size w w') : RCode w' rc gc gl capl N L :=
  h.kept (S := fun _ => False) (Kept.of_below k (Nat.le_refl _) _) id id id

/-- A symbol of length n whose code is c is the one that is told by counting. -/
theorem code_is {L : Nat → Nat} {N n c t : Nat} (ht : t < N) (h0 : 0 < n) (hl : L t = n) (hc : codev L N t = c) : ∃ r, c = first (cn L N) n + r ∧ r < cn L N n ∧ sym L n r N = t := by
  refine ⟨cnt L n t, ?_, ?_, sym_eq ht hl⟩
  · rw [← hc]; unfold codev; rw [if_neg (by omega), hl]
  · rw [cn_pos h0]; exact cnt_lt ht hl
/-- Where no symbol of length n has the code c, c is beyond all of them. -/
theorem code_none {L : Nat → Nat} {N n c : Nat} (h0 : 0 < n) (hf : first (cn L N) n ≤ c) (h : ∀ t, t < N → ¬ (L t = n ∧ codev L N t = c)) : ¬ c < first (cn L N) n + cn L N n := by
  intro hlt
  have hr : c - first (cn L N) n < cnt L n N := by rw [← cn_pos h0]; omega
  obtain ⟨h1, h2, h3⟩ := sym_is hr
  refine h _ h1 ⟨h2, ?_⟩
  unfold codev
  rw [if_neg (by omega), h2, h3]; omega

end Go.Proofs.YtahibacjaoohiaaDoor

namespace Go.Proofs.YtahibacjaoohiaaDoor
open Go.RowKit

/-- append([]int{}, lengths...). -/
theorem appL {w : World} {base G : Nat} {a : Option Addr} {len cap : Nat} {f : Nat → Int} (hI : Ints w a len cap f) (hG : w.heap[G]? = some (.cells #[] 3)) (hb : base ≤ G) (hl : len ≤ 320) :
    ∃ g' cap' w', (Builtin.append_ #[24, 24] 24 #[.slice (some ⟨G, 0, none⟩) 0 0, .slice a len cap]).run Tryd.prog w = .ok (.slice (some ⟨g', 0, none⟩) len cap') w' ∧ (Own w' base 3 .i64 g' cap' ((List.range len).map f) ∧ w.grownBy w' (some G) ∧ (g' = G ∨ g' = w.heap.size)) := by
  have hG0 : Own w base 3 .i64 G 0 [] := ⟨rfl, .inr ⟨G, 0, #[], rfl, hb, hG, Nat.le_refl _, by unfold maxLen; omega, rfl, rfl⟩⟩
  have hlt := blk_lt hG
  have hsrc : SrcI w .i64 a len ((List.range len).map f) := ⟨by simp, fun h0 => by
    obtain ⟨b, off, e, _, hc⟩ := hI.spot h0
    exact ⟨b, off, e, fun j hj => by rw [hc j hj]; simp [hj]⟩⟩
  obtain ⟨g', cap', w', hr, h1, h2, h3⟩ := hG0.append29 (by omega) (c := cap) hsrc (by simp; omega)
  rw [List.nil_append] at hr h1
  have hlen : ((List.range len).map f).length = len := by simp
  rw [hlen] at hr
  exact ⟨g', cap', w', hr, h1, h2, h3⟩

theorem full_step {L : Nat → Nat} {i n : Nat} (h : L i = n) (h0 : 0 < n) (h15 : n ≤ 15) (hf : full L i ≤ 16384 * i) (hi : i ≤ 320) : wrap64 (((full L i : Nat) : Int) + wrap64 (2 ^ (15 - n))) = ((full L (i + 1) : Nat) : Int) := by
  have hP : 2 ^ (15 - n) ≤ 2 ^ 14 := Nat.pow_le_pow_right (by omega) (by omega)
  have e : full L (i + 1) = full L i + 2 ^ (15 - n) := by simp only [full, h]; rw [if_neg (by omega)]
  rw [e, two_pow_cast]
  generalize 2 ^ (15 - n) = P at *
  simp only [wrap64]
  omega
/-- The codes of all shorter symbols than m + 1, and of the first i of length m + 1. -/
def cvv (L : Nat → Nat) (N m i : Nat) : Nat → Value := fun j => .int .i64 ((if L j ≤ m ∨ L j = m + 1 ∧ j < i then codev L N j else 0 : Nat) : Int)
theorem cvv_zero (L : Nat → Nat) (N n : Nat) : arr n (cvv L N 0 0) = arr n fun _ => .int .i64 0 := by
  refine arr_congr _ _ _ fun j _ => ?_
  unfold cvv
  split
  · rename_i h
    have : L j = 0 := by omega
    simp [codev, this]
  · rfl
theorem cvv_up (L : Nat → Nat) (N m i n : Nat) (h : L i = m + 1) {v : Int} (hv : v = (codev L N i : Nat)) : (arr n fun s => if s = i then .int .i64 v else cvv L N m i s) = arr n (cvv L N m (i + 1)) := by
  refine arr_congr _ _ _ fun j _ => ?_
  by_cases e : j = i
  · subst e; rw [if_pos rfl, hv]; unfold cvv; rw [if_pos (by omega)]
  · rw [if_neg e]; unfold cvv
    by_cases h1 : L j ≤ m ∨ L j = m + 1 ∧ j < i
    · rw [if_pos h1, if_pos (by omega)]
    · rw [if_neg h1, if_neg (by omega)]
theorem cvv_same (L : Nat → Nat) (N m i n : Nat) (h : L i ≠ m + 1) : arr n (cvv L N m i) = arr n (cvv L N m (i + 1)) := by
  refine arr_congr _ _ _ fun j _ => ?_
  unfold cvv
  by_cases h1 : L j ≤ m ∨ L j = m + 1 ∧ j < i
  · rw [if_pos h1, if_pos (by omega)]
  · by_cases e : j = i
    · subst e; rw [if_neg h1, if_neg (by omega)]
    · rw [if_neg h1, if_neg (by omega)]
theorem cvv_next (L : Nat → Nat) (N m n : Nat) : arr n (cvv L N m n) = arr n (cvv L N (m + 1) 0) := by
  refine arr_congr _ _ _ fun j hj => ?_
  unfold cvv
  by_cases h1 : L j ≤ m ∨ L j = m + 1 ∧ j < n
  · rw [if_pos h1, if_pos (by omega)]
  · rw [if_neg h1, if_neg (by omega)]

set_option maxRecDepth 100000 in
set_option maxHeartbeats 3200000 in
theorem rnew_any (a : Option Addr) (len cap : Nat) (f : Nat → Int) (w : World) (h : Ints w a len cap f) :
    Calls Tryd.prog 51 #[.slice a len cap] w fun e w' => Below w.heap.size w w' ∧ ((¬ GoodL f len ∧ e = .returned (.tuple #[.pointer none, .bool false])) ∨
      (GoodL f len ∧ ∃ rc gc gl capl, w.heap.size ≤ rc ∧ w.heap.size ≤ gc ∧ w.heap.size ≤ gl ∧ e = .returned (.tuple #[.pointer (some ⟨rc, 0, none⟩), .bool true]) ∧ RCode w' rc gc gl capl len fun i => (f i).toNat)) := by
  by_cases hlen : len ≤ 320
  · have hlen' : ¬ (320 : Int) < (len : Int) := by omega
    have hmk := make29 len (by omega)
    have GA : (w.alloc (.cells #[] 3)).drew.heap[w.heap.size]? = some (.cells #[] 3) := blk_new w _
    have GB : ((w.alloc (.cells #[] 3)).alloc (.cells (arr len fun _ => .int .i64 0) 3)).drew.heap[w.heap.size]? = some (.cells #[] 3) := blk_alloc (blk_new w _) _
    have GC : ((w.alloc (.cells (arr len fun _ => .int .i64 0) 3)).alloc (.cells #[] 3)).drew.heap[w.heap.size + 1]? = some (.cells #[] 3) := by have := blk_new (w.alloc (.cells (arr len fun _ => .int .i64 0) 3)) (.cells #[] 3); rwa [World.size_alloc] at this
    have IA : ∀ x : Obj, Ints (w.alloc x).drew a len cap f := fun x => h.below ((Below.refl _ w).alloc (Nat.le_refl _) x).drew (Nat.le_refl _)
    have IB : ∀ x y : Obj, Ints ((w.alloc x).alloc y).drew a len cap f := fun x y => h.below (((Below.refl _ w).alloc (Nat.le_refl _) x).alloc (by simp) y).drew (Nat.le_refl _)
    have LB : ∀ w1 : World, ((w.alloc (.cells #[] 3)).alloc (.cells (arr len fun _ => .int .i64 0) 3)).drew.grownBy w1 (some w.heap.size) → w1.heap[w.heap.size + 1]? = some (.cells (arr len fun _ => .int .i64 0) 3) := fun w1 gr => (gr.block (w.heap.size + 1) (by show _ < ((w.alloc _).alloc _).heap.size; simp) (by simp)).trans (by have := blk_new (w.alloc (.cells #[] 3)) (.cells (arr len fun _ => .int .i64 0) 3); rwa [World.size_alloc] at this)
    have LC : ∀ w1 : World, ((w.alloc (.cells (arr len fun _ => .int .i64 0) 3)).alloc (.cells #[] 3)).drew.grownBy w1 (some (w.heap.size + 1)) → w1.heap[w.heap.size]? = some (.cells (arr len fun _ => .int .i64 0) 3) := fun w1 gr => (gr.block w.heap.size (by show _ < ((w.alloc _).alloc _).heap.size; simp; omega) (by simp)).trans (blk_alloc (blk_new w _) _)
    have BA : Below w.heap.size w (w.alloc (.cells #[] 3)).drew := ((Below.refl _ w).alloc (Nat.le_refl _) _).drew
    have BB : ∀ x y : Obj, Below w.heap.size w ((w.alloc x).alloc y).drew := fun x y => (((Below.refl _ w).alloc (Nat.le_refl _) x).alloc (by simp) y).drew
    go_enter Tryd.func51, Tryd.ntmps51
    go_wp2_with fail
    go_region_held3 (fun _ => True) (exact trivial) (first
      | (refine step_append_ex (by rfl) (.tmp 17) (.tmp 18) 24 (by rfl) (by rfl) (by rfl) (appL (base := w.heap.size) (by first | exact IA _ | exact IB _ _) (by first | exact GA | exact GB | exact GC) (by omega) hlen) ?_
         rintro gl capl w1 ⟨own1, gr1, at1⟩
         have bb1 : Below w.heap.size w w1 := Below.grown (by first | exact BA | exact BB _ _) gr1 (by first | exact BA.size | exact (BB _ _).size) (fun k hk => by simp at hk; omega)))
    · obtain ⟨gc, hgc⟩ : ∃ gc, gc = w.heap.size := ⟨_, rfl⟩
      have Q1 : w1.heap[gc]? = some (.cells (arr len fun _ => .int .i64 0) 3) := by rw [hgc]; exact LC w1 gr1
      have Q4 : gc ≠ gl := by rcases at1 with e | e <;> first | omega | (simp at e; omega)
      have hgb : w.heap.size ≤ gc := by have := bb1.size; omega
      have hlb := own1.lt.1
      obtain ⟨rc, hrc⟩ : ∃ rc, rc = w1.heap.size := ⟨_, rfl⟩
      have P0 := blk_new w1 (.cells #[.slice (some ⟨gc, 0, none⟩) len len, .slice (some ⟨gl, 0, none⟩) len capl] 105)
      have P1 := blk_alloc Q1 (.cells #[.slice (some ⟨gc, 0, none⟩) len len, .slice (some ⟨gl, 0, none⟩) len capl] 105)
      have P2 := own1.alloc (.cells #[.slice (some ⟨gc, 0, none⟩) len len, .slice (some ⟨gl, 0, none⟩) len capl] 105)
      have P3 := bb1.alloc bb1.size (.cells #[.slice (some ⟨gc, 0, none⟩) len len, .slice (some ⟨gl, 0, none⟩) len capl] 105)
      have Q5 : rc ≠ gc := by have := blk_lt Q1; omega
      have Q6 : rc ≠ gl := by have := own1.lt; omega
      have hrb : w.heap.size ≤ rc := by have := bb1.size; omega
      rw [← hrc] at P0
      obtain ⟨W, hW⟩ : ∃ W, W = w1.alloc (.cells #[.slice (some ⟨gc, 0, none⟩) len len, .slice (some ⟨gl, 0, none⟩) len capl] 105) := ⟨_, rfl⟩
      rw [← hrc, ← hgc, ← hW]
      rw [← hW] at P0 P1 P2 P3
      clear hW hrc hgc LB LC GA GB GC IA IB BA BB bb1 gr1 at1 own1 hmk Q1
      go_wp2_with fail
      have hI := h.below P3 (Nat.le_refl _)
      obtain ⟨L, hL⟩ : ∃ L : Nat → Nat, Hid (L = fun i => (f i).toNat) := ⟨_, rfl⟩
      go_loopw [5, 6, 7] (fun x y j wq => ∃ i : Nat, i ≤ len ∧ (∀ k, k < i → 0 ≤ f k ∧ f k ≤ 15) ∧ j = .int .i64 i ∧ x = .int .i64 (some' L i : Nat) ∧ y = .int .i64 (full L i : Nat) ∧ wq = W) (fun _ _ j _ => len - (intOf j).toNat)
      case atStart => exact ⟨0, by omega, fun k hk => by omega, rfl, rfl, rfl, rfl⟩
      case round =>
        obtain ⟨i, hi, hk, rfl, rfl, rfl, rfl⟩ := hrel
        have hsl := some_le L i
        have hfl := full_le L i
        by_cases hil : i < len
        · have hil' : (i : Int) < (len : Int) := by omega
          obtain ⟨b, off, rfl, hb, hc⟩ := hI.spot (by omega)
          have hci := hc i hil
          clear hc hI
          by_cases g1 : f i < 0
          · have HB : Hid (¬ GoodL f len) := fun hg => by have := hg.each i hil; omega
            go_wp2
            go_ret2
            exact ⟨P3, .inl ⟨HB.out, rfl⟩⟩
          · by_cases g2 : 15 < f i
            · have HB : Hid (¬ GoodL f len) := fun hg => by have := hg.each i hil; omega
              go_wp2
              go_ret2
              exact ⟨P3, .inl ⟨HB.out, rfl⟩⟩
            · obtain ⟨n, hn⟩ : ∃ n : Nat, Hid (f i = n) := ⟨(f i).toNat, by show f i = _; omega⟩
              rw [hn.out] at hci g1 g2
              have hLi : Hid (L i = n) := by show L i = n; rw [hL.out]; show (f i).toNat = n; rw [hn.out]; rfl
              have HK : Hid (∀ k, k < i + 1 → 0 ≤ f k ∧ f k ≤ 15) := fun k hk' => by
                by_cases e : k = i
                · subst e; rw [hn.out]; omega
                · exact hk k (by omega)
              by_cases g3 : 0 < n
              · have g3' : (0 : Int) < (n : Int) := by omega
                go_wp2
                refine ⟨⟨i + 1, by omega, HK.out, by go_num, ?_, ?_, trivial⟩, by simp [intOf]; omega⟩
                · simp [some', hLi.out, show n ≠ 0 by omega]
                · rw [full_step (hLi.out) g3 (by omega) hfl (by omega)]
              · obtain rfl : n = 0 := by omega
                go_wp2
                refine ⟨⟨i + 1, by omega, HK.out, by go_num, ?_, ?_, trivial⟩, by simp [intOf]; omega⟩
                · simp [some', hLi.out]
                · simp [full, hLi.out]
        · have hil' : ¬ (i : Int) < (len : Int) := by omega
          obtain rfl : i = len := by omega
          have each : ∀ k, k < i → L k ≤ 15 := fun k hk' => by have := hk k hk'; rw [hL.out]; show (f k).toNat ≤ 15; omega
          have hlf : ∀ k, k < i → f k = (L k : Nat) := fun k hk' => by have := hk k hk'; rw [hL.out]; show f k = ((f k).toNat : Int); omega
          have hgood : okc L i = true → GoodL f i := fun ho => ⟨hlen, hk, by rw [← hL.out]; exact ho⟩
          have hbad : ¬ okc L i = true → ¬ GoodL f i := fun ho hg => ho (by rw [hL.out]; exact hg.ok)
          have hokd : okc L i = true ↔ (full L i = 32768 ∨ some' L i = 0 ∨ some' L i = 1 ∧ full L i = 16384) := by simp [okc]
          have hfn := full_none L i
          by_cases hok : okc L i = true
          · have HG : Hid (GoodL f i) := hgood hok
            obtain ⟨F, hF⟩ : ∃ F, Hid (full L i = F) := ⟨_, rfl⟩
            obtain ⟨S, hS⟩ : ∃ S, Hid (some' L i = S) := ⟨_, rfl⟩
            rcases (show F = 32768 ∨ (F = 0 ∧ S = 0) ∨ (F = 16384 ∧ S = 1) by
              rw [← hF.out, ← hS.out]
              rcases hokd.1 hok with h | h | ⟨h, h'⟩
              · exact .inl h
              · exact .inr (.inl ⟨hfn h, h⟩)
              · exact .inr (.inr ⟨h', h⟩)) with rfl | ⟨rfl, rfl⟩ | ⟨rfl, rfl⟩
            all_goals
              rw [hF.out, hS.out]
              clear hgood hbad hokd hfn hk hsl hfl
              go_wp2_with fail
              obtain ⟨wz, hwz⟩ : ∃ wz, wz = wr := ⟨_, rfl⟩
              obtain ⟨c, hc⟩ : ∃ c : Nat → Nat, Hid (c = cn L i) := ⟨_, rfl⟩
              have hcn : ∀ n, c n ≤ 320 := fun n => by rw [hc.out]; exact Nat.le_trans (cn_le L i n) hlen
              have hfit : ∀ n, n ≤ 15 → first c n + c n ≤ 32768 := fun n hn => by
                rw [hc.out]
                have := first_fits each hok hn
                have h2 : 2 ^ n ≤ 2 ^ 15 := Nat.pow_le_pow_right (by omega) hn
                omega
              have z0 : wr.heap[gc]? = some (.cells (arr i (cvv L i 0 0)) 3) := by rw [P1, cvv_zero]
              go_loopw [8, 9] (fun x j wq => ∃ m : Nat, m ≤ 15 ∧ j = .int .i64 (m + 1 : Nat) ∧ x = .int .i64 (first c m + c m : Nat) ∧ wq.heap[gc]? = some (.cells (arr i (cvv L i m 0)) 3) ∧ wq.heap[rc]? = some (.cells #[.slice (some ⟨gc, 0, none⟩) i i, .slice (some ⟨gl, 0, none⟩) i capl] 105) ∧ Own wq w.heap.size 3 .i64 gl capl ((List.range i).map f) ∧ Below w.heap.size w wq) (fun _ j _ => 16 - (intOf j).toNat)
              case atStart => exact ⟨0, by omega, rfl, by rw [hc.out]; simp [first, cn], z0, P0, P2, P3⟩
              case round =>
                clear z0 P0 P1 P2 P3 hI
                clear hwz
                obtain ⟨m, hm, rfl, rfl, P1, P0, P2, P3⟩ := hrel
                have hgcl := blk_lt P1
                by_cases hm15 : m < 15
                · have hm' : ((m + 1 : Nat) : Int) < 16 := by omega
                  have hfm := hfit m hm
                  have hfm1 := hfit (m + 1) (by omega)
                  have e2 : first c (m + 1) = 2 * (first c m + c m) := rfl
                  go_wp2_with fail
                  obtain ⟨wy, hwy⟩ : ∃ wy, wy = wr := ⟨_, rfl⟩
                  subst hwy
                  go_loopw [8, 10] (fun x j wq => ∃ t : Nat, t ≤ i ∧ j = .int .i64 t ∧ x = .int .i64 (first c (m + 1) + cnt L (m + 1) t : Nat) ∧ wq.heap[gc]? = some (.cells (arr i (cvv L i m t)) 3) ∧ wq.heap[rc]? = some (.cells #[.slice (some ⟨gc, 0, none⟩) i i, .slice (some ⟨gl, 0, none⟩) i capl] 105) ∧ Own wq w.heap.size 3 .i64 gl capl ((List.range i).map f) ∧ Below w.heap.size w wq) (fun _ j _ => i - (intOf j).toNat)
                  case atStart => exact ⟨0, by omega, rfl, congrArg (Value.int .i64) (by rw [e2]; simp only [cnt]; omega), P1, P0, P2, P3⟩
                  case round =>
                    clear P0 P1 P2 P3
                    obtain ⟨t, ht, rfl, rfl, P1, P0, P2, P3⟩ := hrel
                    by_cases hti : t < i
                    · have hti' : (t : Int) < (i : Int) := by omega
                      have hI := h.below P3 (Nat.le_refl _)
                      obtain ⟨b, off, rfl, hb, hcc⟩ := hI.spot (by omega)
                      have hci := hcc t hti
                      rw [hlf t hti] at hci
                      clear hcc hI
                      have hcl := cnt_le L (m + 1) t
                      have hblt : ¬ b = gc := by
                        obtain ⟨b', off', e', hb', _⟩ := h.spot (by omega)
                        simp at e'
                        omega
                      by_cases hlt : L t = m + 1
                      · have d0 : wr.cell? ⟨rc, 0, none⟩ = some (.slice (some ⟨gc, 0, none⟩) i i) := blk_cell P0 0
                        have d1 := arr_cell P1 hti
                        have d2 := blk_free P1 t
                        have hcd : Hid (codev L i t = first c (m + 1) + cnt L (m + 1) t) := by show _ = _; unfold codev; rw [if_neg (by omega), hlt, hc.out]
                        have HL : Hid (L t = m + 1) := hlt
                        have HC : Hid (cnt L (m + 1) (t + 1) = cnt L (m + 1) t + 1) := by show _ = _; simp [cnt, hlt]
                        rw [hlt] at hci
                        clear hlt
                        go_wp2
                        refine ⟨⟨t + 1, by omega, by go_num, congrArg (Value.int .i64) (by rw [HC.out]; omega), ?_, ?_, P2.blk (blk_other _ (Ne.symm Q4)), P3.setCell hgb _⟩, by simp [intOf]; omega⟩
                        · rw [arr_blk_set P1, cvv_up L i m t i HL.out (by rw [hcd.out]; omega)]
                        · rw [blk_other _ Q5]; exact P0
                      · have hne : ¬ ((L t : Nat) : Int) = (m : Int) + 1 := by omega
                        have hne2 : ¬ ((L t : Nat) : Int) = ((m + 1 : Nat) : Int) := by omega
                        have HL : Hid (L t ≠ m + 1) := hlt
                        have HC : Hid (cnt L (m + 1) (t + 1) = cnt L (m + 1) t) := by show _ = _; simp [cnt, hlt]
                        clear hlt
                        go_wp2
                        exact ⟨⟨t + 1, by omega, by go_num, congrArg (Value.int .i64) (by rw [HC.out]), by rw [P1, cvv_same L i m t i HL.out], P0, P2, P3⟩, by simp [intOf]; omega⟩
                    · have hti' : ¬ (t : Int) < (i : Int) := by omega
                      have eti : t = i := by omega
                      have HX : Hid (first c (m + 1) + cnt L (m + 1) t = first c (m + 1) + c (m + 1)) := by show _ = _; rw [hc.out, cn_pos (by omega : 0 < m + 1), eti]
                      have HP : Hid (wr.heap[gc]? = some (.cells (arr i (cvv L i (m + 1) 0)) 3)) := by show _ = _; rw [P1, eti, cvv_next]
                      clear eti
                      go_wp2
                      exact ⟨⟨m + 1, by omega, by go_num, congrArg (Value.int .i64) (by have := HX.out; omega), HP.out, P0, P2, P3⟩, by simp [intOf]; omega⟩
                · have hm' : ¬ ((m + 1 : Nat) : Int) < 16 := by omega
                  obtain rfl : m = 15 := by omega
                  go_wp2
                  go_ret2
                  refine ⟨P3, .inr ⟨HG.out, rc, hrb, gc, hgb, gl, hlb, rfl, capl, ?_⟩⟩
                  rw [← hL.out]
                  have hlm : ((List.range i).map f).length = i := by simp
                  refine ⟨hlen, by have := P2.lc.1; omega, each, hok, hgcl, P2.lt.2, blk_cell P0 0, blk_cell P0 1, fun k hk' => ?_, fun k hk' => ?_⟩
                  · rw [arr_cell P1 hk']; unfold cvv; rw [if_pos (by have := each k hk'; omega)]
                  · rw [P2.cell (by omega), ← hlf k hk']; simp [hk']
          · have HB : Hid (¬ GoodL f i) := hbad hok
            have hno : ¬ (full L i = 32768 ∨ some' L i = 0 ∨ some' L i = 1 ∧ full L i = 16384) := fun h => hok (hokd.2 h)
            obtain ⟨F, hF⟩ : ∃ F, Hid (full L i = F) := ⟨_, rfl⟩
            obtain ⟨S, hS⟩ : ∃ S, Hid (some' L i = S) := ⟨_, rfl⟩
            rw [hF.out, hS.out] at hno ⊢
            rw [hF.out] at hfl
            rw [hS.out] at hsl
            clear hgood hbad hokd hfn hk hok
            rcases (show 32768 < F ∨ (F < 32768 ∧ ¬ S = 0 ∧ ¬ S = 1) ∨ (F < 32768 ∧ S = 1 ∧ ¬ F = 16384) by omega) with c1 | ⟨c1, c2, c3⟩ | ⟨c1, rfl, c3⟩
            · have c1' : (32768 : Int) < (F : Int) := by omega
              go_wp2
              go_ret2
              exact ⟨P3, .inl ⟨HB.out, rfl⟩⟩
            · have d1 : decide ((F : Int) < 32768) = true := decide_eq_true (by omega)
              have d2 : decide ((32768 : Int) < (F : Int)) = false := decide_eq_false (by omega)
              have d3 : (((S : Nat) : Int) == 0) = false := by simpa using c2
              have d4 : (((S : Nat) : Int) == 1) = false := by simp; omega
              clear hno c1 c2 c3 hfl hF
              go_wp2
              go_ret2
              exact ⟨P3, .inl ⟨HB.out, rfl⟩⟩
            · have d1 : decide ((F : Int) < 32768) = true := decide_eq_true (by omega)
              have d2 : decide ((32768 : Int) < (F : Int)) = false := decide_eq_false (by omega)
              have d3 : (((F : Nat) : Int) == 16384) = false := by simp; omega
              clear hno c1 c3 hfl hF
              go_wp2
              go_ret2
              exact ⟨P3, .inl ⟨HB.out, rfl⟩⟩
    · obtain ⟨gc, hgc⟩ : ∃ gc, gc = w.heap.size + 1 := ⟨_, rfl⟩
      have Q1 : w1.heap[gc]? = some (.cells (arr len fun _ => .int .i64 0) 3) := by rw [hgc]; exact LB w1 gr1
      have Q4 : gc ≠ gl := by rcases at1 with e | e <;> first | omega | (simp at e; omega)
      have hgb : w.heap.size ≤ gc := by have := bb1.size; omega
      have hlb := own1.lt.1
      obtain ⟨rc, hrc⟩ : ∃ rc, rc = w1.heap.size := ⟨_, rfl⟩
      have P0 := blk_new w1 (.cells #[.slice (some ⟨gc, 0, none⟩) len len, .slice (some ⟨gl, 0, none⟩) len capl] 105)
      have P1 := blk_alloc Q1 (.cells #[.slice (some ⟨gc, 0, none⟩) len len, .slice (some ⟨gl, 0, none⟩) len capl] 105)
      have P2 := own1.alloc (.cells #[.slice (some ⟨gc, 0, none⟩) len len, .slice (some ⟨gl, 0, none⟩) len capl] 105)
      have P3 := bb1.alloc bb1.size (.cells #[.slice (some ⟨gc, 0, none⟩) len len, .slice (some ⟨gl, 0, none⟩) len capl] 105)
      have Q5 : rc ≠ gc := by have := blk_lt Q1; omega
      have Q6 : rc ≠ gl := by have := own1.lt; omega
      have hrb : w.heap.size ≤ rc := by have := bb1.size; omega
      rw [← hrc] at P0
      obtain ⟨W, hW⟩ : ∃ W, W = w1.alloc (.cells #[.slice (some ⟨gc, 0, none⟩) len len, .slice (some ⟨gl, 0, none⟩) len capl] 105) := ⟨_, rfl⟩
      rw [← hrc, ← hgc, ← hW]
      rw [← hW] at P0 P1 P2 P3
      clear hW hrc hgc LB LC GA GB GC IA IB BA BB bb1 gr1 at1 own1 hmk Q1
      go_wp2_with fail
      have hI := h.below P3 (Nat.le_refl _)
      obtain ⟨L, hL⟩ : ∃ L : Nat → Nat, Hid (L = fun i => (f i).toNat) := ⟨_, rfl⟩
      go_loopw [5, 6, 7] (fun x y j wq => ∃ i : Nat, i ≤ len ∧ (∀ k, k < i → 0 ≤ f k ∧ f k ≤ 15) ∧ j = .int .i64 i ∧ x = .int .i64 (some' L i : Nat) ∧ y = .int .i64 (full L i : Nat) ∧ wq = W) (fun _ _ j _ => len - (intOf j).toNat)
      case atStart => exact ⟨0, by omega, fun k hk => by omega, rfl, rfl, rfl, rfl⟩
      case round =>
        obtain ⟨i, hi, hk, rfl, rfl, rfl, rfl⟩ := hrel
        have hsl := some_le L i
        have hfl := full_le L i
        by_cases hil : i < len
        · have hil' : (i : Int) < (len : Int) := by omega
          obtain ⟨b, off, rfl, hb, hc⟩ := hI.spot (by omega)
          have hci := hc i hil
          clear hc hI
          by_cases g1 : f i < 0
          · have HB : Hid (¬ GoodL f len) := fun hg => by have := hg.each i hil; omega
            go_wp2
            go_ret2
            exact ⟨P3, .inl ⟨HB.out, rfl⟩⟩
          · by_cases g2 : 15 < f i
            · have HB : Hid (¬ GoodL f len) := fun hg => by have := hg.each i hil; omega
              go_wp2
              go_ret2
              exact ⟨P3, .inl ⟨HB.out, rfl⟩⟩
            · obtain ⟨n, hn⟩ : ∃ n : Nat, Hid (f i = n) := ⟨(f i).toNat, by show f i = _; omega⟩
              rw [hn.out] at hci g1 g2
              have hLi : Hid (L i = n) := by show L i = n; rw [hL.out]; show (f i).toNat = n; rw [hn.out]; rfl
              have HK : Hid (∀ k, k < i + 1 → 0 ≤ f k ∧ f k ≤ 15) := fun k hk' => by
                by_cases e : k = i
                · subst e; rw [hn.out]; omega
                · exact hk k (by omega)
              by_cases g3 : 0 < n
              · have g3' : (0 : Int) < (n : Int) := by omega
                go_wp2
                refine ⟨⟨i + 1, by omega, HK.out, by go_num, ?_, ?_, trivial⟩, by simp [intOf]; omega⟩
                · simp [some', hLi.out, show n ≠ 0 by omega]
                · rw [full_step (hLi.out) g3 (by omega) hfl (by omega)]
              · obtain rfl : n = 0 := by omega
                go_wp2
                refine ⟨⟨i + 1, by omega, HK.out, by go_num, ?_, ?_, trivial⟩, by simp [intOf]; omega⟩
                · simp [some', hLi.out]
                · simp [full, hLi.out]
        · have hil' : ¬ (i : Int) < (len : Int) := by omega
          obtain rfl : i = len := by omega
          have each : ∀ k, k < i → L k ≤ 15 := fun k hk' => by have := hk k hk'; rw [hL.out]; show (f k).toNat ≤ 15; omega
          have hlf : ∀ k, k < i → f k = (L k : Nat) := fun k hk' => by have := hk k hk'; rw [hL.out]; show f k = ((f k).toNat : Int); omega
          have hgood : okc L i = true → GoodL f i := fun ho => ⟨hlen, hk, by rw [← hL.out]; exact ho⟩
          have hbad : ¬ okc L i = true → ¬ GoodL f i := fun ho hg => ho (by rw [hL.out]; exact hg.ok)
          have hokd : okc L i = true ↔ (full L i = 32768 ∨ some' L i = 0 ∨ some' L i = 1 ∧ full L i = 16384) := by simp [okc]
          have hfn := full_none L i
          by_cases hok : okc L i = true
          · have HG : Hid (GoodL f i) := hgood hok
            obtain ⟨F, hF⟩ : ∃ F, Hid (full L i = F) := ⟨_, rfl⟩
            obtain ⟨S, hS⟩ : ∃ S, Hid (some' L i = S) := ⟨_, rfl⟩
            rcases (show F = 32768 ∨ (F = 0 ∧ S = 0) ∨ (F = 16384 ∧ S = 1) by
              rw [← hF.out, ← hS.out]
              rcases hokd.1 hok with h | h | ⟨h, h'⟩
              · exact .inl h
              · exact .inr (.inl ⟨hfn h, h⟩)
              · exact .inr (.inr ⟨h', h⟩)) with rfl | ⟨rfl, rfl⟩ | ⟨rfl, rfl⟩
            all_goals
              rw [hF.out, hS.out]
              clear hgood hbad hokd hfn hk hsl hfl
              go_wp2_with fail
              obtain ⟨wz, hwz⟩ : ∃ wz, wz = wr := ⟨_, rfl⟩
              obtain ⟨c, hc⟩ : ∃ c : Nat → Nat, Hid (c = cn L i) := ⟨_, rfl⟩
              have hcn : ∀ n, c n ≤ 320 := fun n => by rw [hc.out]; exact Nat.le_trans (cn_le L i n) hlen
              have hfit : ∀ n, n ≤ 15 → first c n + c n ≤ 32768 := fun n hn => by
                rw [hc.out]
                have := first_fits each hok hn
                have h2 : 2 ^ n ≤ 2 ^ 15 := Nat.pow_le_pow_right (by omega) hn
                omega
              have z0 : wr.heap[gc]? = some (.cells (arr i (cvv L i 0 0)) 3) := by rw [P1, cvv_zero]
              go_loopw [8, 9] (fun x j wq => ∃ m : Nat, m ≤ 15 ∧ j = .int .i64 (m + 1 : Nat) ∧ x = .int .i64 (first c m + c m : Nat) ∧ wq.heap[gc]? = some (.cells (arr i (cvv L i m 0)) 3) ∧ wq.heap[rc]? = some (.cells #[.slice (some ⟨gc, 0, none⟩) i i, .slice (some ⟨gl, 0, none⟩) i capl] 105) ∧ Own wq w.heap.size 3 .i64 gl capl ((List.range i).map f) ∧ Below w.heap.size w wq) (fun _ j _ => 16 - (intOf j).toNat)
              case atStart => exact ⟨0, by omega, rfl, by rw [hc.out]; simp [first, cn], z0, P0, P2, P3⟩
              case round =>
                clear z0 P0 P1 P2 P3 hI
                clear hwz
                obtain ⟨m, hm, rfl, rfl, P1, P0, P2, P3⟩ := hrel
                have hgcl := blk_lt P1
                by_cases hm15 : m < 15
                · have hm' : ((m + 1 : Nat) : Int) < 16 := by omega
                  have hfm := hfit m hm
                  have hfm1 := hfit (m + 1) (by omega)
                  have e2 : first c (m + 1) = 2 * (first c m + c m) := rfl
                  go_wp2_with fail
                  obtain ⟨wy, hwy⟩ : ∃ wy, wy = wr := ⟨_, rfl⟩
                  subst hwy
                  go_loopw [8, 10] (fun x j wq => ∃ t : Nat, t ≤ i ∧ j = .int .i64 t ∧ x = .int .i64 (first c (m + 1) + cnt L (m + 1) t : Nat) ∧ wq.heap[gc]? = some (.cells (arr i (cvv L i m t)) 3) ∧ wq.heap[rc]? = some (.cells #[.slice (some ⟨gc, 0, none⟩) i i, .slice (some ⟨gl, 0, none⟩) i capl] 105) ∧ Own wq w.heap.size 3 .i64 gl capl ((List.range i).map f) ∧ Below w.heap.size w wq) (fun _ j _ => i - (intOf j).toNat)
                  case atStart => exact ⟨0, by omega, rfl, congrArg (Value.int .i64) (by rw [e2]; simp only [cnt]; omega), P1, P0, P2, P3⟩
                  case round =>
                    clear P0 P1 P2 P3
                    obtain ⟨t, ht, rfl, rfl, P1, P0, P2, P3⟩ := hrel
                    by_cases hti : t < i
                    · have hti' : (t : Int) < (i : Int) := by omega
                      have hI := h.below P3 (Nat.le_refl _)
                      obtain ⟨b, off, rfl, hb, hcc⟩ := hI.spot (by omega)
                      have hci := hcc t hti
                      rw [hlf t hti] at hci
                      clear hcc hI
                      have hcl := cnt_le L (m + 1) t
                      have hblt : ¬ b = gc := by
                        obtain ⟨b', off', e', hb', _⟩ := h.spot (by omega)
                        simp at e'
                        omega
                      by_cases hlt : L t = m + 1
                      · have d0 : wr.cell? ⟨rc, 0, none⟩ = some (.slice (some ⟨gc, 0, none⟩) i i) := blk_cell P0 0
                        have d1 := arr_cell P1 hti
                        have d2 := blk_free P1 t
                        have hcd : Hid (codev L i t = first c (m + 1) + cnt L (m + 1) t) := by show _ = _; unfold codev; rw [if_neg (by omega), hlt, hc.out]
                        have HL : Hid (L t = m + 1) := hlt
                        have HC : Hid (cnt L (m + 1) (t + 1) = cnt L (m + 1) t + 1) := by show _ = _; simp [cnt, hlt]
                        rw [hlt] at hci
                        clear hlt
                        go_wp2
                        refine ⟨⟨t + 1, by omega, by go_num, congrArg (Value.int .i64) (by rw [HC.out]; omega), ?_, ?_, P2.blk (blk_other _ (Ne.symm Q4)), P3.setCell hgb _⟩, by simp [intOf]; omega⟩
                        · rw [arr_blk_set P1, cvv_up L i m t i HL.out (by rw [hcd.out]; omega)]
                        · rw [blk_other _ Q5]; exact P0
                      · have hne : ¬ ((L t : Nat) : Int) = (m : Int) + 1 := by omega
                        have hne2 : ¬ ((L t : Nat) : Int) = ((m + 1 : Nat) : Int) := by omega
                        have HL : Hid (L t ≠ m + 1) := hlt
                        have HC : Hid (cnt L (m + 1) (t + 1) = cnt L (m + 1) t) := by show _ = _; simp [cnt, hlt]
                        clear hlt
                        go_wp2
                        exact ⟨⟨t + 1, by omega, by go_num, congrArg (Value.int .i64) (by rw [HC.out]), by rw [P1, cvv_same L i m t i HL.out], P0, P2, P3⟩, by simp [intOf]; omega⟩
                    · have hti' : ¬ (t : Int) < (i : Int) := by omega
                      have eti : t = i := by omega
                      have HX : Hid (first c (m + 1) + cnt L (m + 1) t = first c (m + 1) + c (m + 1)) := by show _ = _; rw [hc.out, cn_pos (by omega : 0 < m + 1), eti]
                      have HP : Hid (wr.heap[gc]? = some (.cells (arr i (cvv L i (m + 1) 0)) 3)) := by show _ = _; rw [P1, eti, cvv_next]
                      clear eti
                      go_wp2
                      exact ⟨⟨m + 1, by omega, by go_num, congrArg (Value.int .i64) (by have := HX.out; omega), HP.out, P0, P2, P3⟩, by simp [intOf]; omega⟩
                · have hm' : ¬ ((m + 1 : Nat) : Int) < 16 := by omega
                  obtain rfl : m = 15 := by omega
                  go_wp2
                  go_ret2
                  refine ⟨P3, .inr ⟨HG.out, rc, hrb, gc, hgb, gl, hlb, rfl, capl, ?_⟩⟩
                  rw [← hL.out]
                  have hlm : ((List.range i).map f).length = i := by simp
                  refine ⟨hlen, by have := P2.lc.1; omega, each, hok, hgcl, P2.lt.2, blk_cell P0 0, blk_cell P0 1, fun k hk' => ?_, fun k hk' => ?_⟩
                  · rw [arr_cell P1 hk']; unfold cvv; rw [if_pos (by have := each k hk'; omega)]
                  · rw [P2.cell (by omega), ← hlf k hk']; simp [hk']
          · have HB : Hid (¬ GoodL f i) := hbad hok
            have hno : ¬ (full L i = 32768 ∨ some' L i = 0 ∨ some' L i = 1 ∧ full L i = 16384) := fun h => hok (hokd.2 h)
            obtain ⟨F, hF⟩ : ∃ F, Hid (full L i = F) := ⟨_, rfl⟩
            obtain ⟨S, hS⟩ : ∃ S, Hid (some' L i = S) := ⟨_, rfl⟩
            rw [hF.out, hS.out] at hno ⊢
            rw [hF.out] at hfl
            rw [hS.out] at hsl
            clear hgood hbad hokd hfn hk hok
            rcases (show 32768 < F ∨ (F < 32768 ∧ ¬ S = 0 ∧ ¬ S = 1) ∨ (F < 32768 ∧ S = 1 ∧ ¬ F = 16384) by omega) with c1 | ⟨c1, c2, c3⟩ | ⟨c1, rfl, c3⟩
            · have c1' : (32768 : Int) < (F : Int) := by omega
              go_wp2
              go_ret2
              exact ⟨P3, .inl ⟨HB.out, rfl⟩⟩
            · have d1 : decide ((F : Int) < 32768) = true := decide_eq_true (by omega)
              have d2 : decide ((32768 : Int) < (F : Int)) = false := decide_eq_false (by omega)
              have d3 : (((S : Nat) : Int) == 0) = false := by simpa using c2
              have d4 : (((S : Nat) : Int) == 1) = false := by simp; omega
              clear hno c1 c2 c3 hfl hF
              go_wp2
              go_ret2
              exact ⟨P3, .inl ⟨HB.out, rfl⟩⟩
            · have d1 : decide ((F : Int) < 32768) = true := decide_eq_true (by omega)
              have d2 : decide ((32768 : Int) < (F : Int)) = false := decide_eq_false (by omega)
              have d3 : (((F : Nat) : Int) == 16384) = false := by simp; omega
              clear hno c1 c3 hfl hF
              go_wp2
              go_ret2
              exact ⟨P3, .inl ⟨HB.out, rfl⟩⟩
    · obtain ⟨gc, hgc⟩ : ∃ gc, gc = w1.heap.size := ⟨_, rfl⟩
      have Q4 : gc ≠ gl := by have := own1.lt; omega
      have hgb : w.heap.size ≤ gc := by have := bb1.size; omega
      have hlb := own1.lt.1
      obtain ⟨rc, hrc⟩ : ∃ rc, rc = w1.heap.size + 1 := ⟨_, rfl⟩
      have P0 := blk_new (w1.alloc (.cells (arr len fun _ => .int .i64 0) 3)) (.cells #[.slice (some ⟨gc, 0, none⟩) len len, .slice (some ⟨gl, 0, none⟩) len capl] 105)
      have P1 := blk_alloc (blk_new w1 (.cells (arr len fun _ => .int .i64 0) 3)) (.cells #[.slice (some ⟨gc, 0, none⟩) len len, .slice (some ⟨gl, 0, none⟩) len capl] 105)
      have P2 := (own1.alloc (.cells (arr len fun _ => .int .i64 0) 3)).alloc (.cells #[.slice (some ⟨gc, 0, none⟩) len len, .slice (some ⟨gl, 0, none⟩) len capl] 105)
      have P3 := (bb1.alloc bb1.size (.cells (arr len fun _ => .int .i64 0) 3)).alloc (by simp; have := bb1.size; omega) (.cells #[.slice (some ⟨gc, 0, none⟩) len len, .slice (some ⟨gl, 0, none⟩) len capl] 105)
      have Q5 : rc ≠ gc := by omega
      have Q6 : rc ≠ gl := by have := own1.lt; omega
      have hrb : w.heap.size ≤ rc := by have := bb1.size; omega
      rw [World.size_alloc, ← hrc] at P0
      rw [← hgc] at P1
      obtain ⟨W, hW⟩ : ∃ W, W = (w1.alloc (.cells (arr len fun _ => .int .i64 0) 3)).alloc (.cells #[.slice (some ⟨gc, 0, none⟩) len len, .slice (some ⟨gl, 0, none⟩) len capl] 105) := ⟨_, rfl⟩
      rw [← hrc, ← hgc, ← hW]
      rw [← hW] at P0 P1 P2 P3
      clear hW hrc hgc LB LC GA GB GC IA IB BA BB bb1 gr1 at1 own1 hmk
      go_wp2_with fail
      have hI := h.below P3 (Nat.le_refl _)
      obtain ⟨L, hL⟩ : ∃ L : Nat → Nat, Hid (L = fun i => (f i).toNat) := ⟨_, rfl⟩
      go_loopw [5, 6, 7] (fun x y j wq => ∃ i : Nat, i ≤ len ∧ (∀ k, k < i → 0 ≤ f k ∧ f k ≤ 15) ∧ j = .int .i64 i ∧ x = .int .i64 (some' L i : Nat) ∧ y = .int .i64 (full L i : Nat) ∧ wq = W) (fun _ _ j _ => len - (intOf j).toNat)
      case atStart => exact ⟨0, by omega, fun k hk => by omega, rfl, rfl, rfl, rfl⟩
      case round =>
        obtain ⟨i, hi, hk, rfl, rfl, rfl, rfl⟩ := hrel
        have hsl := some_le L i
        have hfl := full_le L i
        by_cases hil : i < len
        · have hil' : (i : Int) < (len : Int) := by omega
          obtain ⟨b, off, rfl, hb, hc⟩ := hI.spot (by omega)
          have hci := hc i hil
          clear hc hI
          by_cases g1 : f i < 0
          · have HB : Hid (¬ GoodL f len) := fun hg => by have := hg.each i hil; omega
            go_wp2
            go_ret2
            exact ⟨P3, .inl ⟨HB.out, rfl⟩⟩
          · by_cases g2 : 15 < f i
            · have HB : Hid (¬ GoodL f len) := fun hg => by have := hg.each i hil; omega
              go_wp2
              go_ret2
              exact ⟨P3, .inl ⟨HB.out, rfl⟩⟩
            · obtain ⟨n, hn⟩ : ∃ n : Nat, Hid (f i = n) := ⟨(f i).toNat, by show f i = _; omega⟩
              rw [hn.out] at hci g1 g2
              have hLi : Hid (L i = n) := by show L i = n; rw [hL.out]; show (f i).toNat = n; rw [hn.out]; rfl
              have HK : Hid (∀ k, k < i + 1 → 0 ≤ f k ∧ f k ≤ 15) := fun k hk' => by
                by_cases e : k = i
                · subst e; rw [hn.out]; omega
                · exact hk k (by omega)
              by_cases g3 : 0 < n
              · have g3' : (0 : Int) < (n : Int) := by omega
                go_wp2
                refine ⟨⟨i + 1, by omega, HK.out, by go_num, ?_, ?_, trivial⟩, by simp [intOf]; omega⟩
                · simp [some', hLi.out, show n ≠ 0 by omega]
                · rw [full_step (hLi.out) g3 (by omega) hfl (by omega)]
              · obtain rfl : n = 0 := by omega
                go_wp2
                refine ⟨⟨i + 1, by omega, HK.out, by go_num, ?_, ?_, trivial⟩, by simp [intOf]; omega⟩
                · simp [some', hLi.out]
                · simp [full, hLi.out]
        · have hil' : ¬ (i : Int) < (len : Int) := by omega
          obtain rfl : i = len := by omega
          have each : ∀ k, k < i → L k ≤ 15 := fun k hk' => by have := hk k hk'; rw [hL.out]; show (f k).toNat ≤ 15; omega
          have hlf : ∀ k, k < i → f k = (L k : Nat) := fun k hk' => by have := hk k hk'; rw [hL.out]; show f k = ((f k).toNat : Int); omega
          have hgood : okc L i = true → GoodL f i := fun ho => ⟨hlen, hk, by rw [← hL.out]; exact ho⟩
          have hbad : ¬ okc L i = true → ¬ GoodL f i := fun ho hg => ho (by rw [hL.out]; exact hg.ok)
          have hokd : okc L i = true ↔ (full L i = 32768 ∨ some' L i = 0 ∨ some' L i = 1 ∧ full L i = 16384) := by simp [okc]
          have hfn := full_none L i
          by_cases hok : okc L i = true
          · have HG : Hid (GoodL f i) := hgood hok
            obtain ⟨F, hF⟩ : ∃ F, Hid (full L i = F) := ⟨_, rfl⟩
            obtain ⟨S, hS⟩ : ∃ S, Hid (some' L i = S) := ⟨_, rfl⟩
            rcases (show F = 32768 ∨ (F = 0 ∧ S = 0) ∨ (F = 16384 ∧ S = 1) by
              rw [← hF.out, ← hS.out]
              rcases hokd.1 hok with h | h | ⟨h, h'⟩
              · exact .inl h
              · exact .inr (.inl ⟨hfn h, h⟩)
              · exact .inr (.inr ⟨h', h⟩)) with rfl | ⟨rfl, rfl⟩ | ⟨rfl, rfl⟩
            all_goals
              rw [hF.out, hS.out]
              clear hgood hbad hokd hfn hk hsl hfl
              go_wp2_with fail
              obtain ⟨wz, hwz⟩ : ∃ wz, wz = wr := ⟨_, rfl⟩
              obtain ⟨c, hc⟩ : ∃ c : Nat → Nat, Hid (c = cn L i) := ⟨_, rfl⟩
              have hcn : ∀ n, c n ≤ 320 := fun n => by rw [hc.out]; exact Nat.le_trans (cn_le L i n) hlen
              have hfit : ∀ n, n ≤ 15 → first c n + c n ≤ 32768 := fun n hn => by
                rw [hc.out]
                have := first_fits each hok hn
                have h2 : 2 ^ n ≤ 2 ^ 15 := Nat.pow_le_pow_right (by omega) hn
                omega
              have z0 : wr.heap[gc]? = some (.cells (arr i (cvv L i 0 0)) 3) := by rw [P1, cvv_zero]
              go_loopw [8, 9] (fun x j wq => ∃ m : Nat, m ≤ 15 ∧ j = .int .i64 (m + 1 : Nat) ∧ x = .int .i64 (first c m + c m : Nat) ∧ wq.heap[gc]? = some (.cells (arr i (cvv L i m 0)) 3) ∧ wq.heap[rc]? = some (.cells #[.slice (some ⟨gc, 0, none⟩) i i, .slice (some ⟨gl, 0, none⟩) i capl] 105) ∧ Own wq w.heap.size 3 .i64 gl capl ((List.range i).map f) ∧ Below w.heap.size w wq) (fun _ j _ => 16 - (intOf j).toNat)
              case atStart => exact ⟨0, by omega, rfl, by rw [hc.out]; simp [first, cn], z0, P0, P2, P3⟩
              case round =>
                clear z0 P0 P1 P2 P3 hI
                clear hwz
                obtain ⟨m, hm, rfl, rfl, P1, P0, P2, P3⟩ := hrel
                have hgcl := blk_lt P1
                by_cases hm15 : m < 15
                · have hm' : ((m + 1 : Nat) : Int) < 16 := by omega
                  have hfm := hfit m hm
                  have hfm1 := hfit (m + 1) (by omega)
                  have e2 : first c (m + 1) = 2 * (first c m + c m) := rfl
                  go_wp2_with fail
                  obtain ⟨wy, hwy⟩ : ∃ wy, wy = wr := ⟨_, rfl⟩
                  subst hwy
                  go_loopw [8, 10] (fun x j wq => ∃ t : Nat, t ≤ i ∧ j = .int .i64 t ∧ x = .int .i64 (first c (m + 1) + cnt L (m + 1) t : Nat) ∧ wq.heap[gc]? = some (.cells (arr i (cvv L i m t)) 3) ∧ wq.heap[rc]? = some (.cells #[.slice (some ⟨gc, 0, none⟩) i i, .slice (some ⟨gl, 0, none⟩) i capl] 105) ∧ Own wq w.heap.size 3 .i64 gl capl ((List.range i).map f) ∧ Below w.heap.size w wq) (fun _ j _ => i - (intOf j).toNat)
                  case atStart => exact ⟨0, by omega, rfl, congrArg (Value.int .i64) (by rw [e2]; simp only [cnt]; omega), P1, P0, P2, P3⟩
                  case round =>
                    clear P0 P1 P2 P3
                    obtain ⟨t, ht, rfl, rfl, P1, P0, P2, P3⟩ := hrel
                    by_cases hti : t < i
                    · have hti' : (t : Int) < (i : Int) := by omega
                      have hI := h.below P3 (Nat.le_refl _)
                      obtain ⟨b, off, rfl, hb, hcc⟩ := hI.spot (by omega)
                      have hci := hcc t hti
                      rw [hlf t hti] at hci
                      clear hcc hI
                      have hcl := cnt_le L (m + 1) t
                      have hblt : ¬ b = gc := by
                        obtain ⟨b', off', e', hb', _⟩ := h.spot (by omega)
                        simp at e'
                        omega
                      by_cases hlt : L t = m + 1
                      · have d0 : wr.cell? ⟨rc, 0, none⟩ = some (.slice (some ⟨gc, 0, none⟩) i i) := blk_cell P0 0
                        have d1 := arr_cell P1 hti
                        have d2 := blk_free P1 t
                        have hcd : Hid (codev L i t = first c (m + 1) + cnt L (m + 1) t) := by show _ = _; unfold codev; rw [if_neg (by omega), hlt, hc.out]
                        have HL : Hid (L t = m + 1) := hlt
                        have HC : Hid (cnt L (m + 1) (t + 1) = cnt L (m + 1) t + 1) := by show _ = _; simp [cnt, hlt]
                        rw [hlt] at hci
                        clear hlt
                        go_wp2
                        refine ⟨⟨t + 1, by omega, by go_num, congrArg (Value.int .i64) (by rw [HC.out]; omega), ?_, ?_, P2.blk (blk_other _ (Ne.symm Q4)), P3.setCell hgb _⟩, by simp [intOf]; omega⟩
                        · rw [arr_blk_set P1, cvv_up L i m t i HL.out (by rw [hcd.out]; omega)]
                        · rw [blk_other _ Q5]; exact P0
                      · have hne : ¬ ((L t : Nat) : Int) = (m : Int) + 1 := by omega
                        have hne2 : ¬ ((L t : Nat) : Int) = ((m + 1 : Nat) : Int) := by omega
                        have HL : Hid (L t ≠ m + 1) := hlt
                        have HC : Hid (cnt L (m + 1) (t + 1) = cnt L (m + 1) t) := by show _ = _; simp [cnt, hlt]
                        clear hlt
                        go_wp2
                        exact ⟨⟨t + 1, by omega, by go_num, congrArg (Value.int .i64) (by rw [HC.out]), by rw [P1, cvv_same L i m t i HL.out], P0, P2, P3⟩, by simp [intOf]; omega⟩
                    · have hti' : ¬ (t : Int) < (i : Int) := by omega
                      have eti : t = i := by omega
                      have HX : Hid (first c (m + 1) + cnt L (m + 1) t = first c (m + 1) + c (m + 1)) := by show _ = _; rw [hc.out, cn_pos (by omega : 0 < m + 1), eti]
                      have HP : Hid (wr.heap[gc]? = some (.cells (arr i (cvv L i (m + 1) 0)) 3)) := by show _ = _; rw [P1, eti, cvv_next]
                      clear eti
                      go_wp2
                      exact ⟨⟨m + 1, by omega, by go_num, congrArg (Value.int .i64) (by have := HX.out; omega), HP.out, P0, P2, P3⟩, by simp [intOf]; omega⟩
                · have hm' : ¬ ((m + 1 : Nat) : Int) < 16 := by omega
                  obtain rfl : m = 15 := by omega
                  go_wp2
                  go_ret2
                  refine ⟨P3, .inr ⟨HG.out, rc, hrb, gc, hgb, gl, hlb, rfl, capl, ?_⟩⟩
                  rw [← hL.out]
                  have hlm : ((List.range i).map f).length = i := by simp
                  refine ⟨hlen, by have := P2.lc.1; omega, each, hok, hgcl, P2.lt.2, blk_cell P0 0, blk_cell P0 1, fun k hk' => ?_, fun k hk' => ?_⟩
                  · rw [arr_cell P1 hk']; unfold cvv; rw [if_pos (by have := each k hk'; omega)]
                  · rw [P2.cell (by omega), ← hlf k hk']; simp [hk']
          · have HB : Hid (¬ GoodL f i) := hbad hok
            have hno : ¬ (full L i = 32768 ∨ some' L i = 0 ∨ some' L i = 1 ∧ full L i = 16384) := fun h => hok (hokd.2 h)
            obtain ⟨F, hF⟩ : ∃ F, Hid (full L i = F) := ⟨_, rfl⟩
            obtain ⟨S, hS⟩ : ∃ S, Hid (some' L i = S) := ⟨_, rfl⟩
            rw [hF.out, hS.out] at hno ⊢
            rw [hF.out] at hfl
            rw [hS.out] at hsl
            clear hgood hbad hokd hfn hk hok
            rcases (show 32768 < F ∨ (F < 32768 ∧ ¬ S = 0 ∧ ¬ S = 1) ∨ (F < 32768 ∧ S = 1 ∧ ¬ F = 16384) by omega) with c1 | ⟨c1, c2, c3⟩ | ⟨c1, rfl, c3⟩
            · have c1' : (32768 : Int) < (F : Int) := by omega
              go_wp2
              go_ret2
              exact ⟨P3, .inl ⟨HB.out, rfl⟩⟩
            · have d1 : decide ((F : Int) < 32768) = true := decide_eq_true (by omega)
              have d2 : decide ((32768 : Int) < (F : Int)) = false := decide_eq_false (by omega)
              have d3 : (((S : Nat) : Int) == 0) = false := by simpa using c2
              have d4 : (((S : Nat) : Int) == 1) = false := by simp; omega
              clear hno c1 c2 c3 hfl hF
              go_wp2
              go_ret2
              exact ⟨P3, .inl ⟨HB.out, rfl⟩⟩
            · have d1 : decide ((F : Int) < 32768) = true := decide_eq_true (by omega)
              have d2 : decide ((32768 : Int) < (F : Int)) = false := decide_eq_false (by omega)
              have d3 : (((F : Nat) : Int) == 16384) = false := by simp; omega
              clear hno c1 c3 hfl hF
              go_wp2
              go_ret2
              exact ⟨P3, .inl ⟨HB.out, rfl⟩⟩
  · have hlen' : (320 : Int) < (len : Int) := by omega
    have HB : Hid (¬ GoodL f len) := fun hg => hlen hg.few
    go_enter Tryd.func51, Tryd.ntmps51
    go_wp2
    go_ret2
    exact ⟨Below.refl _ _, .inl ⟨HB.out, rfl⟩⟩
end Go.Proofs.YtahibacjaoohiaaDoor
