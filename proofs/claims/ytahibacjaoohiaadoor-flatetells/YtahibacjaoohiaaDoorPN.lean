/-
  The laws' pen: bits, code and lit as contracts: bits that are laid down one behind the other.
  The laws' pen: code and lit as contracts; more and far.
  Streams that are laid down by the fixed codes, as plain functions: what is laid is inflated to what it says. No Go text is walked here.
-/
import Derived.Test.YtahibacjaoohiaaDoorStrm
import Derived.Test.YtahibacjaoohiaaDoorCone
import Derived.Test.YtahibacjaoohiaaDoorRep
import Derived.Test.YtahibacjaoohiaaDoorPair
import Derived.Test.YtahibacjaoohiaaDoorProg8
namespace Go.Proofs.YtahibacjaoohiaaDoor
open Go.RowKit

/-- A pen at block pb: at' bits are laid down in the bytes bs. -/
structure PenAt (w : World) (base pb : Nat) (u : Value) (bs : List Int) (at' : Nat) : Prop where
  obj : w.heap[pb]? = some (.cells #[u, .int .i64 (at' : Nat)] 43)
  own : OwnV w base 5 .u8 u bs
  inv : InvB bs at'
  lo : base ≤ pb
  small : at' ≤ 1000000
/-- The byte for the next bit is there. -/
structure PenMid (w : World) (base pb g cap : Nat) (bs : List Int) (at' : Nat) : Prop where
  obj : w.heap[pb]? = some (.cells #[.slice (some ⟨g, 0, none⟩) bs.length cap, .int .i64 (at' : Nat)] 43)
  own : Own w base 5 .u8 g cap bs
  inv : MidB bs at'
  lo : base ≤ pb
  small : at' ≤ 1000000
structure PenM (pb : Nat) (u u' : Value) (w w' : World) : Prop where
  kept : Kept (fun k => k = pb ∨ u.ownBlock = some k) w w'
  own : u'.ownBlock = u.ownBlock ∨ ∀ k, u'.ownBlock = some k → w.heap.size ≤ k
theorem PenM.refl (pb : Nat) (u : Value) (w : World) : PenM pb u u w w := ⟨Kept.refl _ _, .inl rfl⟩
theorem PenM.trans {pb : Nat} {u v x : Value} {w w1 w2 : World} (h : PenM pb u v w w1) (k : PenM pb v x w1 w2) : PenM pb u x w w2 := by
  refine ⟨⟨k.kept.os.trans h.kept.os, k.kept.tape.trans h.kept.tape, k.kept.output.trans h.kept.output, Nat.le_trans h.kept.size k.kept.size, fun i hi ha => ?_⟩, ?_⟩
  · rw [k.kept.block i (Nat.lt_of_lt_of_le hi h.kept.size) (fun e => by
      rcases e with e | e
      · exact ha (.inl e)
      · rcases h.own with h1 | h1
        · exact ha (.inr (h1 ▸ e))
        · have := h1 i e; omega), h.kept.block i hi ha]
  · rcases k.own with h1 | h1
    · rw [h1]; exact h.own
    · exact .inr fun i hi => Nat.le_trans h.kept.size (h1 i hi)
theorem PenM.below {pb : Nat} {u u' : Value} {w w' : World} (h : PenM pb u u' w w') {B : Nat} (hB : B ≤ w.heap.size) (hp : B ≤ pb) (hu : ∀ k, u.ownBlock = some k → B ≤ k) : Below B w w' :=
  h.kept.below hB (fun k hk => by rcases hk with rfl | hk; exact hp; exact hu k hk)
theorem PenAt.lt {w : World} {base pb : Nat} {u : Value} {bs : List Int} {at' : Nat} (h : PenAt w base pb u bs at') : ∀ k, u.ownBlock = some k → base ≤ k ∧ k < w.heap.size := fun k hk => World.ownsRow.lt h.own k hk
theorem PenAt.ne {w : World} {base pb : Nat} {u : Value} {bs : List Int} {at' : Nat} (h : PenAt w base pb u bs at') : u.ownBlock ≠ some pb := fun e => by
  obtain ⟨c, h1, _⟩ := own_kind h.own e
  rw [h.obj] at h1; simp at h1
theorem PenAt.mid {w : World} {base pb : Nat} {u : Value} {bs : List Int} {at' : Nat} (h : PenAt w base pb u bs at') (h8 : at' % 8 ≠ 0) : ∃ g cap, u = .slice (some ⟨g, 0, none⟩) bs.length cap ∧ PenMid w base pb g cap bs at' := by
  have hl := h.inv.len
  obtain ⟨g, cap, rfl, ho⟩ := h.own.own (by omega)
  exact ⟨g, cap, rfl, h.obj, ho, h.inv.stay h8, h.lo, h.small⟩
theorem PenMid.ne {w : World} {base pb g cap : Nat} {bs : List Int} {at' : Nat} (h : PenMid w base pb g cap bs at') : g ≠ pb := fun e => by
  rcases h.own.2 with ⟨hv, _⟩ | ⟨g', cap', cur, hv, h1, hg, _⟩
  · simp at hv
  · simp at hv
    obtain ⟨rfl, _⟩ := hv
    subst e
    rw [h.obj] at hg; simp at hg
/-- A byte more. -/
theorem PenAt.grown {w : World} {base pb : Nat} {a : Option Addr} {cap : Nat} {bs : List Int} {at' : Nat} (h : PenAt w base pb (.slice a bs.length cap) bs at') (h8 : at' % 8 = 0) {g' cap' : Nat} {w1 : World}
    (hR : Own w1 base 5 .u8 g' cap' (bs ++ [0]) ∧ World.grownBy (w.alloc (.cells #[.int .u8 0] 5)) w1 (Value.slice a bs.length cap).ownBlock ∧ ((Value.slice a bs.length cap).ownBlock = some g' ∨ g' = (w.alloc (.cells #[.int .u8 0] 5)).heap.size)) :
    w1.heap[pb]? = some (.cells #[.slice a bs.length cap, .int .i64 (at' : Nat)] 43) ∧ PenMid (w1.setCell ⟨pb, 0, none⟩ (.slice (some ⟨g', 0, none⟩) (bs.length + 1) cap')) base pb g' cap' (bs ++ [0]) at' ∧
      PenM pb (.slice a bs.length cap) (.slice (some ⟨g', 0, none⟩) (bs.length + 1) cap') w (w1.setCell ⟨pb, 0, none⟩ (.slice (some ⟨g', 0, none⟩) (bs.length + 1) cap')) ∧ ∀ p, bit (zb (bs ++ [0])) p = bit (zb bs) p := by
  obtain ⟨ho, hg, hat⟩ := hR
  have hpb := blk_lt h.obj
  have o1 : w1.heap[pb]? = some (.cells #[.slice a bs.length cap, .int .i64 (at' : Nat)] 43) := (hg.block pb (by simp; omega) (fun e => h.ne e.symm)).trans (blk_alloc h.obj _)
  obtain ⟨hmid, hbit⟩ := h.inv.grow h8
  have hne : g' ≠ pb := fun e => by
    rcases hat with h' | h'
    · exact h.ne (e ▸ h')
    · simp at h'; omega
  refine ⟨o1, ⟨?_, ?_, hmid, h.lo, h.small⟩, ⟨⟨hg.os, hg.tape, hg.output, by have := hg.size; simp at this ⊢; omega, fun k hk ha => ?_⟩, ?_⟩, hbit⟩
  · have := blk_set o1 0 (.slice (some ⟨g', 0, none⟩) (bs.length + 1) cap')
    simpa using this
  · exact ho.blk (blk_other _ hne)
  · rw [blk_other _ (fun e => ha (.inl e)), hg.block k (by simp; omega) (fun e => ha (.inr e.symm))]
    exact Below.heap_alloc _ _ _ hk
  · rcases hat with h' | h'
    · left; rw [h']; rfl
    · right; intro k hk; simp [Value.ownBlock] at hk; simp at h'; omega
/-- A bit that is 0. -/
theorem PenMid.zero {w : World} {base pb g cap : Nat} {bs : List Int} {at' : Nat} (h : PenMid w base pb g cap bs at') (hs : at' < 1000000) {v : Int} (hv : v = at' + 1) :
    PenAt (w.setCell ⟨pb, 1, none⟩ (.int .i64 v)) base pb (.slice (some ⟨g, 0, none⟩) bs.length cap) bs (at' + 1) ∧ PenM pb (.slice (some ⟨g, 0, none⟩) bs.length cap) (.slice (some ⟨g, 0, none⟩) bs.length cap) w (w.setCell ⟨pb, 1, none⟩ (.int .i64 v)) ∧ bit (zb bs) at' = 0 := by
  obtain ⟨h1, h2⟩ := h.inv.zero
  refine ⟨⟨?_, own_v (h.own.blk (blk_other _ h.ne)) rfl, h1, h.lo, by omega⟩, ⟨(Kept.refl _ _).setCell (.inl (.inl rfl)) _, .inl rfl⟩, h2⟩
  have := blk_set h.obj 1 (.int .i64 v)
  rw [hv] at this ⊢
  simpa using this
/-- A bit that is 1. -/
theorem PenMid.one {w : World} {base pb g cap : Nat} {bs : List Int} {at' : Nat} (h : PenMid w base pb g cap bs at') (hs : at' < 1000000) {v y : Int} (hv : v = at' + 1) (hy : y = ((zb bs (at' / 8) + 2 ^ (at' % 8) : Nat) : Int)) :
    PenAt ((w.setCell ⟨g, at' / 8, none⟩ (.int .u8 y)).setCell ⟨pb, 1, none⟩ (.int .i64 v)) base pb (.slice (some ⟨g, 0, none⟩) bs.length cap) (bs.set (at' / 8) y) (at' + 1) ∧ PenM pb (.slice (some ⟨g, 0, none⟩) bs.length cap) (.slice (some ⟨g, 0, none⟩) bs.length cap) w ((w.setCell ⟨g, at' / 8, none⟩ (.int .u8 y)).setCell ⟨pb, 1, none⟩ (.int .i64 v)) ∧ bit (zb (bs.set (at' / 8) y)) at' = 1 ∧ ∀ p, p < at' → bit (zb (bs.set (at' / 8) y)) p = bit (zb bs) p := by
  obtain ⟨h1, h2, h3⟩ := h.inv.one hy
  have o1 : (w.setCell ⟨g, at' / 8, none⟩ (.int .u8 y)).heap[pb]? = some (.cells #[.slice (some ⟨g, 0, none⟩) bs.length cap, .int .i64 (at' : Nat)] 43) := (blk_other _ (fun e => h.ne e.symm)).trans h.obj
  refine ⟨⟨?_, own_v ((h.own.set (at' / 8) y).blk (blk_other _ h.ne)) (by simp), h1, h.lo, by omega⟩, ⟨((Kept.refl _ _).setCell (.inl (.inr rfl)) _).setCell (.inl (.inl rfl)) _, .inl rfl⟩, h2, h3⟩
  have := blk_set o1 1 (.int .i64 v)
  rw [hv] at this ⊢
  simpa using this
theorem and1b (a : Nat) (h : a < 10000000) : bits .and .i64 (a : Int) 1 = ((a % 2 : Nat) : Int) := by
  show IntKind.i64.wrap ((BitVec.ofInt 64 (a : Int) &&& BitVec.ofInt 64 1).toNat : Int) = _
  have h2 : (BitVec.ofInt 64 1).toNat = 2 ^ 1 - 1 := by decide
  have h1 : (BitVec.ofInt 64 (a : Int)).toNat = a := by rw [BitVec.toNat_ofInt]; omega
  rw [BitVec.toNat_and, h1, h2, Nat.and_two_pow_sub_one_eq_mod, IntKind.wrap_i64]
  omega
theorem bit_val (x k : Nat) (hx : x < 1048576) : bits .and .i64 ((x : Int) / 2 ^ k) 1 = ((x / 2 ^ k % 2 : Nat) : Int) := by
  have hle : x / 2 ^ k ≤ x := Nat.div_le_self _ _
  rw [two_pow_cast, ← Int.natCast_ediv, and1b _ (by omega)]
theorem pow_mod (r : Nat) (h : r ≤ 7) : (2 : Int) ^ r % 256 = 2 ^ r := by
  have : ∀ r : Fin 8, (2 : Int) ^ r.val % 256 = 2 ^ r.val := by decide
  exact this ⟨r, by omega⟩
/-- The bits so far, and one more. -/
theorem pen_step {bs bs1 bs2 : List Int} {at' k A x : Nat} (hA : at' + k = A) (hold : ∀ p, p < at' → bit (zb bs1) p = bit (zb bs) p) (hnew : ∀ e, e < k → bit (zb bs1) (at' + e) = x / 2 ^ e % 2) (hsame : ∀ p, p < A → bit (zb bs2) p = bit (zb bs1) p) (hbit : bit (zb bs2) A = x / 2 ^ k % 2) :
    Hid (∀ p, p < at' → bit (zb bs2) p = bit (zb bs) p) ∧ Hid (∀ e, e < k + 1 → bit (zb bs2) (at' + e) = x / 2 ^ e % 2) := by
  refine ⟨fun p hp => by rw [hsame p (by omega), hold p hp], fun e he => ?_⟩
  by_cases h : e = k
  · subst h; rw [hA]; exact hbit
  · rw [hsame _ (by omega)]; exact hnew e (by omega)

/-- What a call of the pen answers: n bits more, each told by b. -/
def PenR (base pb : Nat) (u : Value) (bs : List Int) (at' n : Nat) (b : Nat → Nat) (w : World) (e : Ending) (w' : World) : Prop :=
  e = .returned (.tuple #[]) ∧ ∃ u' bs', PenAt w' base pb u' bs' (at' + n) ∧ PenM pb u u' w w' ∧ Hid (∀ p, p < at' → bit (zb bs') p = bit (zb bs) p) ∧ Hid (∀ k, k < n → bit (zb bs') (at' + k) = b k)

set_option maxRecDepth 100000 in
set_option maxHeartbeats 1600000 in
theorem penbits_any (base pb : Nat) (u : Value) (bs : List Int) (at' x n : Nat) (hx : x < 1048576) (hn : n ≤ 20) (hs : at' + n ≤ 1000000) (w : World) (h : PenAt w base pb u bs at') (hb : base ≤ w.heap.size) :
    Calls Tryd.prog 22 #[.pointer (some ⟨pb, 0, none⟩), .int .i64 (x : Nat), .int .i64 (n : Nat)] w (PenR base pb u bs at' n (fun k => x / 2 ^ k % 2) w) := by
  go_enter Tryd.func22, Tryd.ntmps22
  go_wp2_with fail
  go_loopw [6] (fun j wq => ∃ (k : Nat) (u1 : Value) (bs1 : List Int), k ≤ n ∧ j = .int .i64 k ∧ PenAt wq base pb u1 bs1 (at' + k) ∧ PenM pb u u1 w wq ∧ Hid (∀ p, p < at' → bit (zb bs1) p = bit (zb bs) p) ∧ Hid (∀ e, e < k → bit (zb bs1) (at' + e) = x / 2 ^ e % 2)) (fun j _ => n - (intOf j).toNat)
  case atStart => exact ⟨0, u, bs, by omega, rfl, h, PenM.refl _ _ _, fun _ _ => rfl, fun e he => by omega⟩
  case round =>
    clear h
    obtain ⟨k, u1, bs1, hk, rfl, hP, hM, hold, hnew⟩ := hrel
    by_cases hkn : k < n
    · have hkn' : (k : Int) < n := by omega
      have hk20 : k ≤ 20 := by omega
      obtain ⟨A, hA⟩ : ∃ A, Hid (at' + k = A) := ⟨_, rfl⟩
      rw [hA.out] at hP
      have hAs : A < 1000000 := by have := hA.out; omega
      have hbv := bit_val x k hx
      have hwz := hM.kept.size
      obtain ⟨a1, cap1, rfl⟩ := hP.own.form
      have hlen := hP.inv.len
      have c0 : wr.cell? ⟨pb, 0, none⟩ = some (.slice a1 bs1.length cap1) := blk_cell hP.obj 0
      have c1 : wr.cell? ⟨pb, 1, none⟩ = some (.int .i64 (A : Nat)) := blk_cell hP.obj 1
      have HLEN : Hid (bs1.length = (A + 7) / 8) := hlen
      clear hlen
      by_cases h8 : A % 8 = 0
      · have hr8 : (A : Int) % 8 = 0 := by omega
        have happ := (hP.own.alloc (.cells #[.int .u8 0] 5)).one (by simp; omega) (blk_new wr _) (by rw [HLEN.out]; omega)
        have HAP : Hid (_) := happ
        have G := fun g' cap' w1 hR => hP.grown h8 (g' := g') (cap' := cap') (w1 := w1) hR
        clear happ h8
        by_cases hbit : x / 2 ^ k % 2 = 0
        · rw [hbit] at hbv
          have HB : Hid (x / 2 ^ k % 2 = 0) := hbit
          clear hbit
          go_wp2_with (at_builtin; refine wpList_append_ex rfl (.tmp 22) (.tmp 23) 23 rfl rfl rfl HAP.out ?_; rintro g' cap' w1 hR; obtain ⟨o1, hMid, hMv, hbt⟩ := G g' cap' w1 hR; have d0 := blk_cell o1 0; have fz := blk_free o1 0; have e1 := blk_cell hMid.obj 1; have ef := blk_free hMid.obj 1; clear o1 hR)
          obtain ⟨Q1, Q2, Q3⟩ := hMid.zero hAs (v := (A : Int) + 1) rfl
          obtain ⟨F1, F2⟩ := pen_step hA.out hold.out hnew.out (bs2 := bs1 ++ [(0 : Int)]) (fun p _ => hbt p) (by rw [Q3, HB.out])
          have hl1 : (bs1 ++ [(0 : Int)]).length = bs1.length + 1 := by simp
          rw [hl1] at Q1 Q2
          refine ⟨⟨k + 1, .slice (some ⟨g', 0, none⟩) (bs1.length + 1) cap', bs1 ++ [(0 : Int)], by omega, by go_num, ?_, (hM.trans hMv).trans Q2, F1, F2⟩, by simp [intOf]; omega⟩
          rw [← Nat.add_assoc, hA.out]; exact Q1
        · have hbit1 : x / 2 ^ k % 2 = 1 := by omega
          rw [hbit1] at hbv
          have HB : Hid (x / 2 ^ k % 2 = 1) := hbit1
          clear hbit hbit1
          go_wp2_with (at_builtin; refine wpList_append_ex rfl (.tmp 22) (.tmp 23) 23 rfl rfl rfl HAP.out ?_; rintro g' cap' w1 hR; obtain ⟨o1, hMid, hMv, hbt⟩ := G g' cap' w1 hR; have d0 := blk_cell o1 0; have fz := blk_free o1 0; clear o1 hR)
          obtain ⟨W2, hW2⟩ : ∃ W2, W2 = w1.setCell ⟨pb, 0, none⟩ (.slice (some ⟨g', 0, none⟩) (bs1.length + 1) cap') := ⟨_, rfl⟩
          rw [← hW2] at hMid hMv ⊢
          clear hW2 d0 fz c0 c1 hr8 G HAP
          have hl1 : (bs1 ++ [(0 : Int)]).length = bs1.length + 1 := by simp
          rw [← hl1] at hMv
          have HOLD : Hid (∀ p, bit (zb (bs1 ++ [(0 : Int)])) p = bit (zb bs1) p) := hbt
          clear hl1
          have hml := hMid.inv.len
          have hmt := hMid.inv.top
          have hmb := hMid.inv.byte (A / 8)
          have e0 : W2.cell? ⟨pb, 0, none⟩ = some (.slice (some ⟨g', 0, none⟩) (bs1 ++ [(0 : Int)]).length cap') := blk_cell hMid.obj 0
          have e1 : W2.cell? ⟨pb, 1, none⟩ = some (.int .i64 (A : Nat)) := blk_cell hMid.obj 1
          have e2 : W2.cell? ⟨g', A / 8, none⟩ = some (.int .u8 ((bs1 ++ [(0 : Int)]).getD (A / 8) 0)) := hMid.own.cell (by rw [hml]; omega)
          have ezb : ((bs1 ++ [(0 : Int)]).getD (A / 8) 0) = ((zb (bs1 ++ [(0 : Int)]) (A / 8) : Nat) : Int) := by unfold zb; omega
          rw [ezb] at e2
          have hor := or_u8 (zb (bs1 ++ [(0 : Int)]) (A / 8)) (A % 8) (Nat.mod_lt _ (by omega)) hmt
          have hlc := hMid.own.lc.1
          have hcm := hMid.own.lc.2
          unfold maxLen at hcm
          obtain ⟨Z, hZ⟩ : ∃ Z, Hid (zb (bs1 ++ [(0 : Int)]) (A / 8) = Z) := ⟨_, rfl⟩
          rw [hZ.out] at e2 hor
          obtain ⟨q, hq⟩ : ∃ q, Hid (A / 8 = q) := ⟨_, rfl⟩
          rw [hq.out] at e2 hml
          have q1 : (A : Int) / 8 = (q : Nat) := by have := hq.out; omega
          obtain ⟨r, hr⟩ : ∃ r, Hid (A % 8 = r) := ⟨_, rfl⟩
          rw [hr.out] at hor
          have r1 : (A : Int) % 8 = (r : Nat) := by have := hr.out; omega
          have r8 : r ≤ 7 := by have := hr.out; omega
          obtain ⟨ML, hML⟩ : ∃ ML, Hid ((bs1 ++ [(0 : Int)]).length = ML) := ⟨_, rfl⟩
          rw [hML.out] at e0 hml hlc
          have hqM : q < ML := by omega
          have Zl : Z < 256 := by have := hZ.out; have := hmb; unfold zb at *; omega
          have pl := pow_le_8 (r := r) (by omega)
          have pm := pow_mod r r8
          obtain ⟨Y, hY⟩ : ∃ Y : Nat, Hid (Z + 2 ^ r = Y) := ⟨_, rfl⟩
          rw [hY.out] at hor
          have hin := Ext.inh W2
          have d0 := fun k : Ext W2 => Ext.cell e0 k
          have d1 := fun k : Ext W2 => Ext.cell e1 k
          have d2 := fun k : Ext W2 => Ext.cell e2 k
          have HMid : Hid (PenMid W2 base pb g' cap' (bs1 ++ [(0 : Int)]) A) := hMid
          clear e0 e1 e2 ezb hmb hmt hMid hml
          refine region_ext_cone 20 (by kernel_rfl) (by kernel_rfl) ?_
          simp only [List.take_succ_cons, List.take_zero, List.drop_succ_cons, List.drop_zero]
          repeat (go_big_quiet_step (fail))
          refine wpQuiet_nil ?_
          rintro _ ⟨kk, rfl⟩
          have M2 : PenMid kk.w base pb g' cap' (bs1 ++ [(0 : Int)]) A := ⟨Ext.blk HMid.out.obj kk, HMid.out.own.below kk.h, HMid.out.inv, HMid.out.lo, HMid.out.small⟩
          have x2 : kk.w.cell? ⟨g', q, none⟩ = some (.int .u8 (Z : Nat)) := d2 kk
          have xf := M2.own.free q
          obtain ⟨P1, P2, P3, P4⟩ := M2.one hAs (v := (A : Int) + 1) rfl (y := ((Y : Nat) : Int)) (by rw [hZ.out, hr.out, hY.out])
          rw [hq.out] at P1 P2 P3 P4
          have o2 : (kk.w.setCell ⟨g', q, none⟩ (.int .u8 ((Y : Nat) : Int))).heap[pb]? = some (.cells #[.slice (some ⟨g', 0, none⟩) (bs1 ++ [(0 : Int)]).length cap', .int .i64 (A : Nat)] 43) := (blk_other _ (fun e => M2.ne e.symm)).trans M2.obj
          have y1 : (kk.w.setCell ⟨g', q, none⟩ (.int .u8 ((Y : Nat) : Int))).cell? ⟨pb, 1, none⟩ = some (.int .i64 (A : Nat)) := blk_cell o2 1
          have y2 := blk_free o2 1
          have KX : PenM pb (.slice (some ⟨g', 0, none⟩) (bs1 ++ [(0 : Int)]).length cap') (.slice (some ⟨g', 0, none⟩) (bs1 ++ [(0 : Int)]).length cap') W2 kk.w := ⟨Kept.of_below kk.h (Nat.le_refl _) _, .inl rfl⟩
          have FIN := pen_step hA.out hold.out hnew.out (bs2 := (bs1 ++ [(0 : Int)]).set q ((Y : Nat) : Int)) (fun p hp => by rw [P4 p hp]; exact HOLD.out p) (by rw [P3, HB.out])
          have HP1 : Hid (_) := P1
          have HP2 : Hid (_) := P2
          have HF : Hid (_) := FIN
          clear d0 d1 d2 hin HMid M2 o2 P1 P2 P3 P4 FIN
          rw [hML.out] at HP2 KX HP1
          go_wp2
          refine ⟨⟨k + 1, .slice (some ⟨g', 0, none⟩) ML cap', (bs1 ++ [(0 : Int)]).set q ((Y : Nat) : Int), by omega, by go_num, ?_, ((hM.trans (by rw [hML.out] at hMv; exact hMv)).trans KX).trans HP2.out, HF.out.1, HF.out.2⟩, by simp [intOf]; omega⟩
          rw [← Nat.add_assoc, hA.out]
          exact HP1.out

      · obtain ⟨g', cap', hu, hMid⟩ := hP.mid h8
        simp only [Value.slice.injEq] at hu
        obtain ⟨rfl, _, rfl⟩ := hu
        have hr8 : ¬ (A : Int) % 8 = 0 := by omega
        clear h8
        by_cases hbit : x / 2 ^ k % 2 = 0
        · rw [hbit] at hbv
          have HB : Hid (x / 2 ^ k % 2 = 0) := hbit
          have ef := blk_free hMid.obj 1
          obtain ⟨Q1, Q2, Q3⟩ := hMid.zero hAs (v := (A : Int) + 1) rfl
          obtain ⟨F1, F2⟩ := pen_step hA.out hold.out hnew.out (bs2 := bs1) (fun p _ => rfl) (by rw [Q3, HB.out])
          have HQ1 : Hid (_) := Q1
          have HQ2 : Hid (_) := Q2
          clear hbit hMid Q1 Q2 Q3
          go_wp2
          refine ⟨⟨k + 1, _, bs1, by omega, by go_num, ?_, hM.trans HQ2.out, F1, F2⟩, by simp [intOf]; omega⟩
          rw [← Nat.add_assoc, hA.out]; exact HQ1.out
        · have hbit1 : x / 2 ^ k % 2 = 1 := by omega
          rw [hbit1] at hbv
          have HB : Hid (x / 2 ^ k % 2 = 1) := hbit1
          have HMD : Hid (PenMid wr base pb g' cap1 bs1 A) := hMid
          clear hbit hbit1 hMid
          go_wp2_with fail
          have hMid := HMD.out
          clear c0 c1 hr8 HMD
          have hml := hMid.inv.len
          have hmt := hMid.inv.top
          have hmb := hMid.inv.byte (A / 8)
          have e0 : wr.cell? ⟨pb, 0, none⟩ = some (.slice (some ⟨g', 0, none⟩) (bs1).length cap1) := blk_cell hMid.obj 0
          have e1 : wr.cell? ⟨pb, 1, none⟩ = some (.int .i64 (A : Nat)) := blk_cell hMid.obj 1
          have e2 : wr.cell? ⟨g', A / 8, none⟩ = some (.int .u8 ((bs1).getD (A / 8) 0)) := hMid.own.cell (by rw [hml]; omega)
          have ezb : ((bs1).getD (A / 8) 0) = ((zb (bs1) (A / 8) : Nat) : Int) := by unfold zb; omega
          rw [ezb] at e2
          have hor := or_u8 (zb (bs1) (A / 8)) (A % 8) (Nat.mod_lt _ (by omega)) hmt
          have hlc := hMid.own.lc.1
          have hcm := hMid.own.lc.2
          unfold maxLen at hcm
          obtain ⟨Z, hZ⟩ : ∃ Z, Hid (zb (bs1) (A / 8) = Z) := ⟨_, rfl⟩
          rw [hZ.out] at e2 hor
          obtain ⟨q, hq⟩ : ∃ q, Hid (A / 8 = q) := ⟨_, rfl⟩
          rw [hq.out] at e2 hml
          have q1 : (A : Int) / 8 = (q : Nat) := by have := hq.out; omega
          obtain ⟨r, hr⟩ : ∃ r, Hid (A % 8 = r) := ⟨_, rfl⟩
          rw [hr.out] at hor
          have r1 : (A : Int) % 8 = (r : Nat) := by have := hr.out; omega
          have r8 : r ≤ 7 := by have := hr.out; omega
          obtain ⟨ML, hML⟩ : ∃ ML, Hid ((bs1).length = ML) := ⟨_, rfl⟩
          rw [hML.out] at e0 hml hlc
          have hqM : q < ML := by omega
          have Zl : Z < 256 := by have := hZ.out; have := hmb; unfold zb at *; omega
          have pl := pow_le_8 (r := r) (by omega)
          have pm := pow_mod r r8
          obtain ⟨Y, hY⟩ : ∃ Y : Nat, Hid (Z + 2 ^ r = Y) := ⟨_, rfl⟩
          rw [hY.out] at hor
          have hin := Ext.inh wr
          have d0 := fun k : Ext wr => Ext.cell e0 k
          have d1 := fun k : Ext wr => Ext.cell e1 k
          have d2 := fun k : Ext wr => Ext.cell e2 k
          have HMid : Hid (PenMid wr base pb g' cap1 (bs1) A) := hMid
          clear e0 e1 e2 ezb hmb hmt hMid hml
          refine region_ext_cone 20 (by kernel_rfl) (by kernel_rfl) ?_
          simp only [List.take_succ_cons, List.take_zero, List.drop_succ_cons, List.drop_zero]
          repeat (go_big_quiet_step (fail))
          refine wpQuiet_nil ?_
          rintro _ ⟨kk, rfl⟩
          have M2 : PenMid kk.w base pb g' cap1 (bs1) A := ⟨Ext.blk HMid.out.obj kk, HMid.out.own.below kk.h, HMid.out.inv, HMid.out.lo, HMid.out.small⟩
          have x2 : kk.w.cell? ⟨g', q, none⟩ = some (.int .u8 (Z : Nat)) := d2 kk
          have xf := M2.own.free q
          obtain ⟨P1, P2, P3, P4⟩ := M2.one hAs (v := (A : Int) + 1) rfl (y := ((Y : Nat) : Int)) (by rw [hZ.out, hr.out, hY.out])
          rw [hq.out] at P1 P2 P3 P4
          have o2 : (kk.w.setCell ⟨g', q, none⟩ (.int .u8 ((Y : Nat) : Int))).heap[pb]? = some (.cells #[.slice (some ⟨g', 0, none⟩) (bs1).length cap1, .int .i64 (A : Nat)] 43) := (blk_other _ (fun e => M2.ne e.symm)).trans M2.obj
          have y1 : (kk.w.setCell ⟨g', q, none⟩ (.int .u8 ((Y : Nat) : Int))).cell? ⟨pb, 1, none⟩ = some (.int .i64 (A : Nat)) := blk_cell o2 1
          have y2 := blk_free o2 1
          have KX : PenM pb (.slice (some ⟨g', 0, none⟩) (bs1).length cap1) (.slice (some ⟨g', 0, none⟩) (bs1).length cap1) wr kk.w := ⟨Kept.of_below kk.h (Nat.le_refl _) _, .inl rfl⟩
          have FIN := pen_step hA.out hold.out hnew.out (bs2 := (bs1).set q ((Y : Nat) : Int)) (fun p hp => P4 p hp) (by rw [P3, HB.out])
          have HP1 : Hid (_) := P1
          have HP2 : Hid (_) := P2
          have HF : Hid (_) := FIN
          clear d0 d1 d2 hin HMid M2 o2 P1 P2 P3 P4 FIN
          rw [hML.out] at HP2 KX HP1
          go_wp2
          refine ⟨⟨k + 1, .slice (some ⟨g', 0, none⟩) ML cap1, (bs1).set q ((Y : Nat) : Int), by omega, by go_num, ?_, ((by rw [hML.out] at hM; exact hM : PenM pb u (.slice (some ⟨g', 0, none⟩) ML cap1) w wr).trans KX).trans HP2.out, HF.out.1, HF.out.2⟩, by simp [intOf]; omega⟩
          rw [← Nat.add_assoc, hA.out]
          exact HP1.out
    · have hkn' : ¬ (k : Int) < n := by omega
      obtain rfl : k = n := by omega
      go_wp2
      go_end0
      exact ⟨rfl, u1, bs1, hP, hM, hold, hnew⟩
end Go.Proofs.YtahibacjaoohiaaDoor

namespace Go.Proofs.YtahibacjaoohiaaDoor
open Go.RowKit

set_option maxRecDepth 100000 in
set_option maxHeartbeats 1600000 in
theorem pencode_any (base pb : Nat) (u : Value) (bs : List Int) (at' x n : Nat) (hx : x < 1048576) (hn : n ≤ 20) (hs : at' + n ≤ 1000000) (w : World) (h : PenAt w base pb u bs at') (hb : base ≤ w.heap.size) :
    Calls Tryd.prog 26 #[.pointer (some ⟨pb, 0, none⟩), .int .i64 (x : Nat), .int .i64 (n : Nat)] w (PenR base pb u bs at' n (fun k => x / 2 ^ (n - 1 - k) % 2) w) := by
  go_enter Tryd.func26, Tryd.ntmps26
  go_wp2_with fail
  go_loopw [6] (fun j wq => ∃ (d : Nat) (u1 : Value) (bs1 : List Int), d ≤ n ∧ j = .int .i64 ((n : Int) - 1 - (d : Int)) ∧ PenAt wq base pb u1 bs1 (at' + d) ∧ PenM pb u u1 w wq ∧ Hid (∀ p, p < at' → bit (zb bs1) p = bit (zb bs) p) ∧ Hid (∀ e, e < d → bit (zb bs1) (at' + e) = x / 2 ^ (n - 1 - e) % 2)) (fun j _ => (intOf j + 1).toNat)
  case atStart => exact ⟨0, u, bs, by omega, by simp, h, PenM.refl _ _ _, fun _ _ => rfl, fun e he => by omega⟩
  case round =>
    clear h
    obtain ⟨d, u1, bs1, hd, rfl, hP, hM, hold, hnew⟩ := hrel
    by_cases hdn : d < n
    · obtain ⟨kk, hkk⟩ : ∃ kk : Nat, kk = n - 1 - d := ⟨_, rfl⟩
      have ekk : (n : Int) - 1 - (d : Int) = (kk : Int) := by omega
      have hk20 : kk ≤ 20 := by omega
      have hbv := bit_val x kk hx
      have hwz := hM.kept.size
      rw [ekk]
      obtain ⟨t, ht⟩ : ∃ t, Hid (x / 2 ^ kk % 2 = t) := ⟨_, rfl⟩
      rw [ht.out] at hbv
      have ht2 : t < 2 := by rw [← ht.out]; exact Nat.mod_lt _ (by omega)
      have HKK : Hid (kk = n - 1 - d) := hkk
      clear hkk ekk
      go_wp2_with fail
      refine (penbits_any base pb u1 bs1 (at' + d) t 1 (by omega) (by omega) (by omega) _ hP (by omega)).mono ?_
      rintro e w1 ⟨rfl, u2, bs2, hP2, hM2, ho2, hn2⟩
      have HP2 : Hid (PenAt w1 base pb u2 bs2 (at' + (d + 1))) := hP2
      clear hP2 hP hbv
      go_wp2
      refine ⟨⟨d + 1, u2, bs2, by omega, ?_, HP2.out, hM.trans hM2, fun p hp => by rw [ho2.out p (by omega), hold.out p hp], fun e he => ?_⟩, by simp [intOf]⟩
      · have := HKK.out
        congr 1
        omega
      · by_cases h : e = d
        · subst h
          have := hn2.out 0 (by omega)
          simp only [Nat.add_zero, Nat.pow_zero, Nat.div_one] at this
          rw [this, ← HKK.out, ht.out]; omega
        · rw [ho2.out _ (by omega)]; exact hnew.out e (by omega)
    · have hdn' : d = n := by omega
      subst hdn'
      have e1 : (d : Int) - 1 - (d : Int) = -1 := by omega
      rw [e1]
      go_wp2
      go_end0
      exact ⟨rfl, u1, bs1, hP, hM, hold, hnew⟩

theorem fixcode (s : Nat) (h : s < 288) : codev fixL 288 s = if s < 144 then 48 + s else if s < 256 then 400 + (s - 144) else if s < 280 then s - 256 else 192 + (s - 280) := by
  have : ∀ s : Fin 288, codev fixL 288 s.val = if s.val < 144 then 48 + s.val else if s.val < 256 then 400 + (s.val - 144) else if s.val < 280 then s.val - 256 else 192 + (s.val - 280) := by decide +kernel
  exact this ⟨s, h⟩

set_option maxRecDepth 100000 in
set_option maxHeartbeats 800000 in
theorem penlit_any (base pb : Nat) (u : Value) (bs : List Int) (at' s : Nat) (hs288 : s < 288) (hs : at' + 20 ≤ 1000000) (w : World) (h : PenAt w base pb u bs at') (hb : base ≤ w.heap.size) :
    Calls Tryd.prog 24 #[.pointer (some ⟨pb, 0, none⟩), .int .i64 (s : Nat)] w (PenR base pb u bs at' (fixL s) (fun k => codev fixL 288 s / 2 ^ (fixL s - 1 - k) % 2) w) := by
  have hc := fixcode s hs288
  by_cases h1 : s < 144
  · have e1 : fixL s = 8 := by unfold fixL; rw [if_pos h1]
    rw [if_pos h1] at hc
    rw [e1, hc]
    have h1' : (s : Int) < 144 := by omega
    have a1 : (48 : Int) + s = ((48 + s : Nat) : Int) := by omega
    obtain ⟨X, hX⟩ : ∃ X, 48 + s = X := ⟨_, rfl⟩
    rw [hX] at a1 ⊢
    clear hc e1
    go_enter Tryd.func24, Tryd.ntmps24
    go_wp2_with fail
    refine (pencode_any base pb u bs at' X 8 (by omega) (by omega) (by omega) _ h hb).mono ?_
    rintro e w1 ⟨rfl, hR⟩
    have HR : Hid (_) := hR
    clear hR
    go_wp2
    go_end0
    exact ⟨rfl, HR.out⟩
  · rw [if_neg h1] at hc
    have h1' : ¬ (s : Int) < 144 := by omega
    by_cases h2 : s < 256
    · have e1 : fixL s = 9 := by unfold fixL; rw [if_neg h1, if_pos h2]
      rw [if_pos h2] at hc
      rw [e1, hc]
      have h2' : (s : Int) < 256 := by omega
      obtain ⟨X, hX⟩ : ∃ X, 400 + (s - 144) = X := ⟨_, rfl⟩
      have a1 : (400 : Int) + s - 144 = (X : Nat) := by omega
      rw [hX]
      have hXl : X < 1000 := by omega
      clear hc e1 hX
      go_enter Tryd.func24, Tryd.ntmps24
      go_wp2_with fail
      refine (pencode_any base pb u bs at' X 9 (by omega) (by omega) (by omega) _ h hb).mono ?_
      rintro e w1 ⟨rfl, hR⟩
      have HR : Hid (_) := hR
      clear hR
      go_wp2
      go_end0
      exact ⟨rfl, HR.out⟩
    · rw [if_neg h2] at hc
      have h2' : ¬ (s : Int) < 256 := by omega
      by_cases h3 : s < 280
      · have e1 : fixL s = 7 := by unfold fixL; rw [if_neg h1, if_neg h2, if_pos h3]
        rw [if_pos h3] at hc
        rw [e1, hc]
        have h3' : (s : Int) < 280 := by omega
        obtain ⟨X, hX⟩ : ∃ X, s - 256 = X := ⟨_, rfl⟩
        have a1 : (s : Int) - 256 = (X : Nat) := by omega
        rw [hX]
        have hXl : X < 1000 := by omega
        clear hc e1 hX
        go_enter Tryd.func24, Tryd.ntmps24
        go_wp2_with fail
        refine (pencode_any base pb u bs at' X 7 (by omega) (by omega) (by omega) _ h hb).mono ?_
        rintro e w1 ⟨rfl, hR⟩
        have HR : Hid (_) := hR
        clear hR
        go_wp2
        go_end0
        exact ⟨rfl, HR.out⟩
      · have e1 : fixL s = 8 := by unfold fixL; rw [if_neg h1, if_neg h2, if_neg h3, if_pos hs288]
        rw [if_neg h3] at hc
        rw [e1, hc]
        have h3' : ¬ (s : Int) < 280 := by omega
        obtain ⟨X, hX⟩ : ∃ X, 192 + (s - 280) = X := ⟨_, rfl⟩
        have a1 : (192 : Int) + s - 280 = (X : Nat) := by omega
        rw [hX]
        have hXl : X < 1000 := by omega
        clear hc e1 hX
        go_enter Tryd.func24, Tryd.ntmps24
        go_wp2_with fail
        refine (pencode_any base pb u bs at' X 8 (by omega) (by omega) (by omega) _ h hb).mono ?_
        rintro e w1 ⟨rfl, hR⟩
        have HR : Hid (_) := hR
        clear hR
        go_wp2
        go_end0
        exact ⟨rfl, HR.out⟩

/-- Bits behind a length's symbol, and behind a distance's. -/
def morev (s : Nat) : Nat := (s - 257) / 4 - 1
def farv (d : Nat) : Nat := d / 2 - 1
theorem more_any (s : Nat) (h : 257 ≤ s) (h2 : s < 320) (w : World) : Calls Tryd.prog 23 #[.int .i64 (s : Nat)] w fun e w' => e = .returned (.int .i64 (morev s : Nat)) ∧ w' = w := by
  obtain ⟨q, hq⟩ : ∃ q : Nat, Hid ((s - 257) / 4 = q) := ⟨_, rfl⟩
  have e1 : ((s : Int) - 257) / 4 = (q : Nat) := by have := hq.out; omega
  by_cases h1 : 1 ≤ q
  · obtain ⟨r, hr⟩ : ∃ r : Nat, Hid (q - 1 = r) := ⟨_, rfl⟩
    have e2 : (q : Int) - 1 = (r : Nat) := by have := hr.out; omega
    by_cases h0 : 0 < r
    · have h0' : (0 : Int) < (r : Nat) := by omega
      go_enter Tryd.func23, Tryd.ntmps23
      go_wp2
      go_ret
      exact ⟨ret_int (by unfold morev; rw [hq.out, hr.out]), rfl⟩
    · obtain rfl : r = 0 := by omega
      have e3 : (q : Int) - 1 = 0 := by omega
      clear e2
      go_enter Tryd.func23, Tryd.ntmps23
      go_wp2
      go_ret
      exact ⟨ret_int (by unfold morev; rw [hq.out, hr.out]; rfl), rfl⟩
  · obtain rfl : q = 0 := by omega
    have e3 : ((s : Int) - 257) / 4 = 0 := by omega
    clear e1
    go_enter Tryd.func23, Tryd.ntmps23
    go_wp2
    go_ret
    exact ⟨ret_int (by unfold morev; rw [hq.out]; rfl), rfl⟩
theorem far_any (s : Nat) (h2 : s < 320) (w : World) : Calls Tryd.prog 25 #[.int .i64 (s : Nat)] w fun e w' => e = .returned (.int .i64 (farv s : Nat)) ∧ w' = w := by
  obtain ⟨q, hq⟩ : ∃ q : Nat, Hid (s / 2 = q) := ⟨_, rfl⟩
  have e1 : (s : Int) / 2 = (q : Nat) := by have := hq.out; omega
  by_cases h1 : 1 ≤ q
  · obtain ⟨r, hr⟩ : ∃ r : Nat, Hid (q - 1 = r) := ⟨_, rfl⟩
    have e2 : (q : Int) - 1 = (r : Nat) := by have := hr.out; omega
    by_cases h0 : 0 < r
    · have h0' : (0 : Int) < (r : Nat) := by omega
      go_enter Tryd.func25, Tryd.ntmps25
      go_wp2
      go_ret
      exact ⟨ret_int (by unfold farv; rw [hq.out, hr.out]), rfl⟩
    · obtain rfl : r = 0 := by omega
      have e3 : (q : Int) - 1 = 0 := by omega
      clear e2
      go_enter Tryd.func25, Tryd.ntmps25
      go_wp2
      go_ret
      exact ⟨ret_int (by unfold farv; rw [hq.out, hr.out]; rfl), rfl⟩
  · obtain rfl : q = 0 := by omega
    have e3 : (s : Int) / 2 = 0 := by omega
    clear e1
    go_enter Tryd.func25, Tryd.ntmps25
    go_wp2
    go_ret
    exact ⟨ret_int (by unfold farv; rw [hq.out]; rfl), rfl⟩
end Go.Proofs.YtahibacjaoohiaaDoor

namespace Go.Proofs.YtahibacjaoohiaaDoor

/-- Within a block of fixed codes that isn't the last one. -/
def midE (z : Nat → Nat) (lim most : Nat) (st : St) : Except Nat St := match codedE fixL 288 fixD 32 z lim most st with
  | .error e => .error e
  | .ok st' => blocksE z lim most st'
/-- The bits so far. -/
def Agree (z : Nat → Nat) (bs : List Int) (at' : Nat) : Prop := ∀ p, p < at' → bit z p = bit (zb bs) p
theorem Agree.back {z : Nat → Nat} {bs bs' : List Int} {at' at2 : Nat} (h : Agree z bs' at2) (hl : at' ≤ at2) (ho : ∀ p, p < at' → bit (zb bs') p = bit (zb bs) p) : Agree z bs at' := fun p hp => by rw [h p (by omega), ho p hp]
theorem takev_of {z : Nat → Nat} {p x : Nat} : ∀ {n : Nat}, (∀ k, k < n → bit z (p + k) = x / 2 ^ k % 2) → takev z p n = x % 2 ^ n
  | 0, _ => by simp [takev]; omega
  | n + 1, h => by
    simp only [takev]
    rw [takev_of (n := n) (fun k hk => h k (by omega)), h n (by omega), Nat.pow_succ, Nat.mod_mul]
    rw [Nat.mul_comm]
theorem fix_each (i : Nat) (_ : i < 288) : fixL i ≤ 15 := by have := fixL_le i; omega
theorem fix_okc : okc fixL 288 = true := by decide +kernel
theorem fixD_okc : okc fixD 32 = true := by decide +kernel
theorem fixL_pos (s : Nat) : 0 < fixL s := by unfold fixL; split; omega; split; omega; split; omega; split <;> omega
theorem fixD_some : some' fixD 32 = 32 := by decide +kernel
theorem fixD_code (d : Nat) (h : d < 32) : codev fixD 32 d = d := by
  have : ∀ d : Fin 32, codev fixD 32 d.val = d.val := by decide +kernel
  exact this ⟨d, h⟩
/-- A symbol's fixed code lies at p. -/
def SegF (z : Nat → Nat) (p s : Nat) : Prop := ∀ k, k < fixL s → bit z (p + k) = codev fixL 288 s / 2 ^ (fixL s - 1 - k) % 2
theorem sym_fix {z : Nat → Nat} {lim p s : Nat} (hs : s < 288) (h : SegF z p s) (hl : p + fixL s ≤ lim) : symE fixL 288 z lim p = .ok (s, p + fixL s) := by
  have hr := rdv_back (L := fixL) (N := 288) (b := bit z) hs (fixL_pos s) hl (fix_each s hs) h (code_bits hs fix_each fix_okc)
  unfold symE
  rw [fix_some, if_neg (by omega), if_neg (by omega), hr, if_pos rfl]
theorem sym_dist {z : Nat → Nat} {lim p d : Nat} (hd : d < 32) (h : ∀ k, k < 5 → bit z (p + k) = d / 2 ^ (5 - 1 - k) % 2) (hl : p + 5 ≤ lim) : symE fixD 32 z lim p = .ok (d, p + 5) := by
  have hc : codev fixD 32 d < 2 ^ 5 := by rw [fixD_code d hd]; omega
  have hr := rdv_back (L := fixD) (N := 32) (b := bit z) (lim := lim) (p := p) hd (by unfold fixD; omega) hl (by unfold fixD; omega) (fun k hk => by rw [fixD_code d hd]; exact h k hk) hc
  unfold symE
  rw [fixD_some, if_neg (by omega), if_neg (by omega), hr, if_pos rfl]
  rfl

/-- A header: another block of fixed codes, not the last. -/
theorem hdr_mid {z : Nat → Nat} {lim most p : Nat} {out : List Int} (h : ∀ k, k < 3 → bit z (p + k) = 2 / 2 ^ k % 2) (hl : p + 3 ≤ lim) : blocksE z lim most (p, out) = midE z lim most (p + 3, out) := by
  have b0 : bit z p = 0 := h 0 (by omega)
  have b1 : bit z (p + 1) = 1 := h 1 (by omega)
  have b2 : bit z (p + 2) = 0 := h 2 (by omega)
  have hk : takev z (p + 1) 2 = 1 := by
    show 0 + bit z (p + 1 + 0) * 2 ^ 0 + bit z (p + 1 + 1) * 2 ^ 1 = 1
    rw [Nat.add_zero, show p + 1 + 1 = p + 2 by omega, b1, b2]
  have hb : blockE z lim most (p, out) = match codedE fixL 288 fixD 32 z lim most (p + 3, out) with
      | .error e => .error e
      | .ok st' => .ok (false, st') := by
    unfold blockE
    simp only
    rw [if_pos hl, hk, b0]
    unfold kindE
    rw [if_neg (by omega), if_pos rfl]
    generalize codedE fixL 288 fixD 32 z lim most (p + 3, out) = E
    cases E <;> rfl
  unfold midE
  cases e : codedE fixL 288 fixD 32 z lim most (p + 3, out) with
  | error k => rw [e] at hb; exact blocksE_err hb
  | ok st => rw [e] at hb; exact blocksE_more hb
/-- A byte. -/
theorem mid_lit {z : Nat → Nat} {lim most p c : Nat} {out : List Int} (hc : c < 256) (h : SegF z p c) (hl : p + fixL c ≤ lim) (hm : out.length < most) : midE z lim most (p, out) = midE z lim most (p + fixL c, out ++ [(c : Int)]) := by
  unfold midE
  rw [codedE_more (st' := (p + fixL c, out ++ [(c : Int)])) (by unfold codedS; simp only; rw [sym_fix (by omega) h hl]; simp only; rw [if_neg (by omega), if_pos hc, if_neg (by omega)])]
theorem mid_lit_full {z : Nat → Nat} {lim most p c : Nat} {out : List Int} (hc : c < 256) (h : SegF z p c) (hl : p + fixL c ≤ lim) (hm : most ≤ out.length) : midE z lim most (p, out) = .error 4 := by
  unfold midE
  rw [codedE_done (r := .error 4) (by unfold codedS; simp only; rw [sym_fix (by omega) h hl]; simp only; rw [if_neg (by omega), if_pos hc, if_pos hm])]
/-- The end of a block. -/
theorem mid_end {z : Nat → Nat} {lim most p : Nat} {out : List Int} (h : SegF z p 256) (hl : p + 7 ≤ lim) : midE z lim most (p, out) = blocksE z lim most (p + 7, out) := by
  have e : fixL 256 = 7 := by decide
  unfold midE
  rw [codedE_done (r := .ok (p + 7, out)) (by unfold codedS; simp only; rw [sym_fix (by omega) h (by rw [e]; exact hl), e]; simp)]
/-- The last block, with nothing in it. -/
theorem last_end {z : Nat → Nat} {lim most p : Nat} {out : List Int} (h : ∀ k, k < 3 → bit z (p + k) = 3 / 2 ^ k % 2) (h2 : SegF z (p + 3) 256) (hl : p + 10 ≤ lim) : blocksE z lim most (p, out) = .ok (p + 10, out) := by
  have b0 : bit z p = 1 := h 0 (by omega)
  have b1 : bit z (p + 1) = 1 := h 1 (by omega)
  have b2 : bit z (p + 2) = 0 := h 2 (by omega)
  have hk : takev z (p + 1) 2 = 1 := by
    show 0 + bit z (p + 1 + 0) * 2 ^ 0 + bit z (p + 1 + 1) * 2 ^ 1 = 1
    rw [Nat.add_zero, show p + 1 + 1 = p + 2 by omega, b1, b2]
  have e : fixL 256 = 7 := by decide
  have hc : codedE fixL 288 fixD 32 z lim most (p + 3, out) = .ok (p + 10, out) := codedE_done (by unfold codedS; simp only; rw [sym_fix (by omega) h2 (by rw [e]; omega), e]; simp)
  refine blocksE_last ?_
  unfold blockE
  simp only
  rw [if_pos (by omega), hk, b0]
  unfold kindE
  rw [if_neg (by omega), if_pos rfl, hc]
  rfl
/-- How long, and how far, by counting up. -/
def sumL : Nat → Nat
  | 0 => 3
  | k + 1 => sumL k + 2 ^ morev (257 + k)
def sumD : Nat → Nat
  | 0 => 1
  | k + 1 => sumD k + 2 ^ farv k
theorem sumL_is (k : Nat) (h : k < 28) : (if k < 8 then k + 3 else (4 + k % 4) * 2 ^ (k / 4 - 1) + 3) = sumL k := by
  have : ∀ k : Fin 28, (if k.val < 8 then k.val + 3 else (4 + k.val % 4) * 2 ^ (k.val / 4 - 1) + 3) = sumL k.val := by decide +kernel
  exact this ⟨k, h⟩
theorem sumD_is (k : Nat) (h : k < 30) : (if k < 4 then k + 1 else (2 + k % 2) * 2 ^ (k / 2 - 1) + 1) = sumD k := by
  have : ∀ k : Fin 30, (if k.val < 4 then k.val + 1 else (2 + k.val % 2) * 2 ^ (k.val / 2 - 1) + 1) = sumD k.val := by decide +kernel
  exact this ⟨k, h⟩
theorem sumL_le (k : Nat) (h : k ≤ 28) : sumL k ≤ 300 := by
  have : ∀ k : Fin 29, sumL k.val ≤ 300 := by decide +kernel
  exact this ⟨k, by omega⟩
theorem sumD_le (k : Nat) (h : k ≤ 12) : sumD k ≤ 1000 := by
  have : ∀ k : Fin 13, sumD k.val ≤ 1000 := by decide +kernel
  exact this ⟨k, by omega⟩
theorem len_fix {z : Nat → Nat} {lim p s : Nat} (h1 : 257 ≤ s) (h2 : s < 285) (hl : p + morev s ≤ lim) : lengthE z lim p s = .ok (sumL (s - 257) + takev z p (morev s), p + morev s) := by
  have hs := sumL_is (s - 257) (by omega)
  unfold lengthE
  rw [if_neg (by omega), if_neg (by omega)]
  unfold spreadE
  unfold morev at hl ⊢
  by_cases h8 : s - 257 < 2 * 4
  · rw [if_pos h8]
    rw [if_pos (by omega)] at hs
    have e0 : (s - 257) / 4 - 1 = 0 := by omega
    simp only [e0, takev, Nat.add_zero]
    rw [hs]
  · rw [if_neg h8, if_pos hl]
    rw [if_neg (by omega)] at hs
    simp only
    rw [← hs]
    congr 2
    omega
theorem dist_fix {z : Nat → Nat} {lim p d : Nat} (hd : d < 30) (h : ∀ k, k < 5 → bit z (p + k) = d / 2 ^ (5 - 1 - k) % 2) (hl : p + 5 + farv d ≤ lim) : distE fixD 32 z lim p = .ok (sumD d + takev z (p + 5) (farv d), p + 5 + farv d) := by
  have hs := sumD_is d hd
  unfold distE
  rw [sym_dist (by omega) h (by omega)]
  simp only
  rw [if_neg (by omega)]
  unfold spreadE
  unfold farv at hl ⊢
  by_cases h8 : d < 2 * 2
  · rw [if_pos h8]
    rw [if_pos (by omega)] at hs
    have e0 : d / 2 - 1 = 0 := by omega
    simp only [e0, takev, Nat.add_zero]
    rw [hs]
  · rw [if_neg h8, if_pos hl]
    rw [if_neg (by omega)] at hs
    simp only
    rw [← hs]
    congr 2
    omega
/-- A copy, byte by byte. -/
def cpL (back : Nat) : Nat → List Int → List Int
  | 0, out => out
  | n + 1, out => cpL back n (out ++ [out.getD (out.length - back) 0])
theorem cpL_len (back : Nat) : ∀ n out, (cpL back n out).length = out.length + n
  | 0, out => rfl
  | n + 1, out => by simp only [cpL, cpL_len back n]; simp; omega
theorem cpE_is {most back : Nat} : ∀ {n : Nat} {out : List Int}, out.length + n ≤ most → cpE most back n out = .ok (cpL back n out)
  | 0, out, _ => rfl
  | n + 1, out, h => by
    unfold cpE cpL
    rw [if_neg (by omega)]
    exact cpE_is (by simp; omega)
theorem cpE_over {most back : Nat} : ∀ {n : Nat} {out : List Int}, most < out.length + n → out.length ≤ most → cpE most back n out = .error 4
  | 0, out, h, h2 => by omega
  | n + 1, out, h, h2 => by
    unfold cpE
    by_cases hf : most ≤ out.length
    · rw [if_pos hf]
    · rw [if_neg hf]
      exact cpE_over (by simp; omega) (by simp; omega)
/-- The bits of a copy lie at p: a length's symbol and its bits, a distance's and its. -/
structure SegC (z : Nat → Nat) (p s up d up2 : Nat) : Prop where
  sym : SegF z p s
  more : s = 285 ∨ s < 285 ∧ ∀ k, k < morev s → bit z (p + fixL s + k) = up / 2 ^ k % 2
  dist : ∀ k, k < 5 → bit z (p + fixL s + (if s = 285 then 0 else morev s) + k) = d / 2 ^ (5 - 1 - k) % 2
  far : ∀ k, k < farv d → bit z (p + fixL s + (if s = 285 then 0 else morev s) + 5 + k) = up2 / 2 ^ k % 2
/-- How long the copy is, how far it goes back, where it ends. -/
def cLen (s up : Nat) : Nat := if s = 285 then 258 else sumL (s - 257) + up
def cEnd (p s d : Nat) : Nat := p + fixL s + (if s = 285 then 0 else morev s) + 5 + farv d
theorem again_fix {z : Nat → Nat} {lim most p s up d up2 : Nat} {out : List Int} (h1 : 257 ≤ s) (h2 : s ≤ 285) (hd : d < 30) (hu : s = 285 ∨ up < 2 ^ morev s) (hu2 : up2 < 2 ^ farv d) (h : SegC z p s up d up2) (hl : cEnd p s d ≤ lim) :
    againE fixD 32 z lim most s (p + fixL s) out = if out.length < sumD d + up2 then .error 2 else
      match cpE most (sumD d + up2) (cLen s up) out with
      | .error e => .error e
      | .ok o => .ok (cEnd p s d, o) := by
  unfold cEnd at hl
  have hfar : takev z (p + fixL s + (if s = 285 then 0 else morev s) + 5) (farv d) = up2 := by rw [takev_of h.far, Nat.mod_eq_of_lt hu2]
  have hdist := dist_fix (lim := lim) hd h.dist hl
  rw [hfar] at hdist
  have hlen : lengthE z lim (p + fixL s) s = .ok (cLen s up, p + fixL s + (if s = 285 then 0 else morev s)) := by
    unfold cLen
    rcases h.more with rfl | ⟨hs, hm⟩
    · unfold lengthE; rfl
    · rw [if_neg (by omega), if_neg (by omega), len_fix h1 hs (by rw [if_neg (by omega)] at hl; omega), takev_of hm, Nat.mod_eq_of_lt (hu.resolve_left (by omega))]
  unfold againE
  rw [hlen]
  simp only
  rw [hdist]
  rfl
theorem mid_copy {z : Nat → Nat} {lim most p s up d up2 : Nat} {out : List Int} (h1 : 257 ≤ s) (h2 : s ≤ 285) (hd : d < 30) (hu : s = 285 ∨ up < 2 ^ morev s) (hu2 : up2 < 2 ^ farv d) (h : SegC z p s up d up2) (hl : cEnd p s d ≤ lim) (hb : sumD d + up2 ≤ out.length) (hm : out.length + cLen s up ≤ most) :
    midE z lim most (p, out) = midE z lim most (cEnd p s d, cpL (sumD d + up2) (cLen s up) out) := by
  have ha := again_fix (most := most) (out := out) h1 h2 hd hu hu2 h hl
  rw [if_neg (by omega), cpE_is hm] at ha
  unfold midE
  rw [codedE_more (st' := (cEnd p s d, cpL (sumD d + up2) (cLen s up) out)) (by unfold codedS; simp only; rw [sym_fix (by omega) h.sym (by unfold cEnd at hl; omega)]; simp only; rw [if_neg (by omega), if_neg (by omega), ha])]
theorem mid_copy_full {z : Nat → Nat} {lim most p s up d up2 : Nat} {out : List Int} (h1 : 257 ≤ s) (h2 : s ≤ 285) (hd : d < 30) (hu : s = 285 ∨ up < 2 ^ morev s) (hu2 : up2 < 2 ^ farv d) (h : SegC z p s up d up2) (hl : cEnd p s d ≤ lim) (hb : sumD d + up2 ≤ out.length) (hm : most < out.length + cLen s up) (ho : out.length ≤ most) :
    midE z lim most (p, out) = .error 4 := by
  have ha := again_fix (most := most) (out := out) h1 h2 hd hu hu2 h hl
  rw [if_neg (by omega), cpE_over hm ho] at ha
  unfold midE
  rw [codedE_done (r := .error 4) (by unfold codedS; simp only; rw [sym_fix (by omega) h.sym (by unfold cEnd at hl; omega)]; simp only; rw [if_neg (by omega), if_neg (by omega), ha])]
theorem mid_copy_bad {z : Nat → Nat} {lim most p s up d up2 : Nat} {out : List Int} (h1 : 257 ≤ s) (h2 : s ≤ 285) (hd : d < 30) (hu : s = 285 ∨ up < 2 ^ morev s) (hu2 : up2 < 2 ^ farv d) (h : SegC z p s up d up2) (hl : cEnd p s d ≤ lim) (hb : out.length < sumD d + up2) :
    midE z lim most (p, out) = .error 2 := by
  have ha := again_fix (most := most) (out := out) h1 h2 hd hu hu2 h hl
  rw [if_pos hb] at ha
  unfold midE
  rw [codedE_done (r := .error 2) (by unfold codedS; simp only; rw [sym_fix (by omega) h.sym (by unfold cEnd at hl; omega)]; simp only; rw [if_neg (by omega), if_neg (by omega), ha])]

/-- What is known of the bits so far: what they say, or that they say what may not be. -/
def Says (ok : Bool) (bs : List Int) (at' : Nat) (O : List Int) : Prop := ∀ (z : Nat → Nat) (lim most : Nat), Agree z bs at' → at' ≤ lim →
  if ok = true then (O.length ≤ most → blocksE z lim most (0, []) = midE z lim most (at', O)) ∧ (most < O.length → blocksE z lim most (0, []) = .error 4)
  else O.length ≤ most → blocksE z lim most (0, []) = .error 2
theorem Says.lit {ok : Bool} {bs bs' : List Int} {at' c : Nat} {O : List Int} (h : Says ok bs at' O) (hc : c < 256) (ho : ∀ p, p < at' → bit (zb bs') p = bit (zb bs) p) (hn : SegF (zb bs') at' c) : Says ok bs' (at' + fixL c) (O ++ [(c : Int)]) := by
  intro z lim most ha hl
  have h0 := h z lim most (ha.back (by omega) ho) (by omega)
  have hseg : SegF z at' c := fun k hk => by rw [ha _ (by omega)]; exact hn k hk
  cases ok with
  | true =>
    rw [if_pos rfl] at h0 ⊢
    refine ⟨fun hm => ?_, fun hm => ?_⟩
    · simp at hm
      rw [h0.1 (by omega), mid_lit hc hseg hl (by omega)]
    · simp at hm
      by_cases hm2 : O.length ≤ most
      · rw [h0.1 hm2, mid_lit_full hc hseg hl (by omega)]
      · exact h0.2 (by omega)
  | false =>
    rw [if_neg (by simp)] at h0 ⊢
    intro hm
    simp at hm
    exact h0 (by omega)
theorem Says.block {ok : Bool} {bs bs' : List Int} {at' : Nat} {O : List Int} (h : Says ok bs at' O) (ho : ∀ p, p < at' → bit (zb bs') p = bit (zb bs) p) (hn : SegF (zb bs') at' 256) (h3 : ∀ k, k < 3 → bit (zb bs') (at' + 7 + k) = 2 / 2 ^ k % 2) : Says ok bs' (at' + 7 + 3) O := by
  intro z lim most ha hl
  have h0 := h z lim most (ha.back (by omega) ho) (by omega)
  have e : fixL 256 = 7 := by decide
  have hseg : SegF z at' 256 := fun k hk => by rw [ha _ (by rw [e] at hk; omega)]; exact hn k hk
  cases ok with
  | true =>
    rw [if_pos rfl] at h0 ⊢
    refine ⟨fun hm => ?_, h0.2⟩
    rw [h0.1 hm, mid_end hseg (by omega), hdr_mid (fun k hk => by rw [ha _ (by omega)]; exact h3 k hk) (by omega)]
  | false =>
    rw [if_neg (by simp)] at h0 ⊢
    exact h0
theorem Says.copy {ok : Bool} {bs bs' : List Int} {at' s up d up2 : Nat} {O : List Int} (h : Says ok bs at' O) (h1 : 257 ≤ s) (h2 : s ≤ 285) (hd : d < 30) (hu : s = 285 ∨ up < 2 ^ morev s) (hu2 : up2 < 2 ^ farv d) (ho : ∀ p, p < at' → bit (zb bs') p = bit (zb bs) p) (hn : SegC (zb bs') at' s up d up2) :
    Says (ok && decide (sumD d + up2 ≤ O.length)) bs' (cEnd at' s d) (if (ok && decide (sumD d + up2 ≤ O.length)) = true then cpL (sumD d + up2) (cLen s up) O else O) := by
  intro z lim most ha hl
  have hle : at' ≤ cEnd at' s d := by unfold cEnd; omega
  have h0 := h z lim most (ha.back hle ho) (by omega)
  have hseg : SegC z at' s up d up2 := by
    unfold cEnd at ha
    refine ⟨fun k hk => by rw [ha _ (by omega)]; exact hn.sym k hk, ?_, fun k hk => by rw [ha _ (by omega)]; exact hn.dist k hk, fun k hk => by rw [ha _ (by omega)]; exact hn.far k hk⟩
    rcases hn.more with e | ⟨e, hm⟩
    · exact .inl e
    · exact .inr ⟨e, fun k hk => by rw [ha _ (by rw [if_neg (by omega)]; omega)]; exact hm k hk⟩
  by_cases hb : sumD d + up2 ≤ O.length
  · rw [decide_eq_true hb, Bool.and_true]
    cases ok with
    | true =>
      simp only [if_true] at h0 ⊢
      rw [cpL_len]
      refine ⟨fun hm => ?_, fun hm => ?_⟩
      · rw [h0.1 (by omega), mid_copy h1 h2 hd hu hu2 hseg hl hb hm]
      · by_cases hm2 : O.length ≤ most
        · rw [h0.1 hm2, mid_copy_full h1 h2 hd hu hu2 hseg hl hb hm hm2]
        · exact h0.2 (by omega)
    | false => simpa using h0
  · rw [decide_eq_false hb, Bool.and_false]
    simp only [Bool.false_eq_true, if_false]
    intro hm
    cases ok with
    | true =>
      rw [if_pos rfl] at h0
      rw [h0.1 hm, mid_copy_bad h1 h2 hd hu hu2 hseg hl (by omega)]
    | false => exact (by simpa using h0 : O.length ≤ most → _) hm
/-- What the whole says. -/
def SaysAll (ok : Bool) (bs : List Int) (at' : Nat) (O : List Int) : Prop := ∀ (z : Nat → Nat) (lim most : Nat), Agree z bs at' → at' ≤ lim →
  if ok = true then (O.length ≤ most → blocksE z lim most (0, []) = .ok (at', O)) ∧ (most < O.length → blocksE z lim most (0, []) = .error 4)
  else O.length ≤ most → blocksE z lim most (0, []) = .error 2
theorem Says.all {ok : Bool} {bs bs' : List Int} {at' : Nat} {O : List Int} (h : Says ok bs at' O) (ho : ∀ p, p < at' → bit (zb bs') p = bit (zb bs) p) (hn : SegF (zb bs') at' 256) (h3 : ∀ k, k < 3 → bit (zb bs') (at' + 7 + k) = 3 / 2 ^ k % 2) (hn2 : SegF (zb bs') (at' + 7 + 3) 256) : SaysAll ok bs' (at' + 7 + 3 + 7) O := by
  intro z lim most ha hl
  have h0 := h z lim most (ha.back (by omega) ho) (by omega)
  have e : fixL 256 = 7 := by decide
  have hseg : SegF z at' 256 := fun k hk => by rw [ha _ (by rw [e] at hk; omega)]; exact hn k hk
  have hseg2 : SegF z (at' + 7 + 3) 256 := fun k hk => by rw [ha _ (by rw [e] at hk; omega)]; exact hn2 k hk
  cases ok with
  | true =>
    rw [if_pos rfl] at h0 ⊢
    refine ⟨fun hm => ?_, h0.2⟩
    rw [h0.1 hm, mid_end hseg (by omega), last_end (fun k hk => by rw [ha _ (by omega)]; exact h3 k hk) hseg2 (by omega)]
  | false =>
    rw [if_neg (by simp)] at h0 ⊢
    exact h0
theorem says_new {bs : List Int} (h3 : ∀ k, k < 3 → bit (zb bs) (0 + k) = 2 / 2 ^ k % 2) : Says true bs 3 [] := by
  intro z lim most ha hl
  rw [if_pos rfl]
  refine ⟨fun _ => hdr_mid (fun k hk => by rw [ha _ (by omega)]; exact h3 k hk) (by omega), fun hm => by simp at hm⟩
end Go.Proofs.YtahibacjaoohiaaDoor
