/-
  The laws' pen: bits, code and lit as contracts: bits that are laid down one behind the other.
-/
import Derived.Test.YtahibacjaoohiaaDoorStrm
import Derived.Test.YtahibacjaoohiaaDoorCone
import Derived.Test.YtahibacjaoohiaaDoorRep
namespace Go.Proofs.YtahibacjaoohiaaDoor
open Go.RowKit

/-- A pen at block pb: at' bits are laid down in the bytes bs. -/
structure PenAt (w : World) (base pb : Nat) (u : Value) (bs : List Int) (at' : Nat) : Prop where
  obj : w.heap[pb]? = some (.cells #[u, .int .i64 (at' : Nat)] 43)
  own : OwnV w base 5 .u8 u bs
  inv : InvB bs at'
  lo : base ≤ pb
  small : at' ≤ 1000000
/-- The byte for the next bit is there. -/
structure PenMid (w : World) (base pb g cap : Nat) (bs : List Int) (at' : Nat) : Prop where
  obj : w.heap[pb]? = some (.cells #[.slice (some ⟨g, 0, none⟩) bs.length cap, .int .i64 (at' : Nat)] 43)
  own : Own w base 5 .u8 g cap bs
  inv : MidB bs at'
  lo : base ≤ pb
  small : at' ≤ 1000000
structure PenM (pb : Nat) (u u' : Value) (w w' : World) : Prop where
  kept : Kept (fun k => k = pb ∨ u.ownBlock = some k) w w'
  own : u'.ownBlock = u.ownBlock ∨ ∀ k, u'.ownBlock = some k → w.heap.size ≤ k
theorem PenM.refl (pb : Nat) (u : Value) (w : World) : PenM pb u u w w := ⟨Kept.refl _ _, .inl rfl⟩
theorem PenM.trans {pb : Nat} {u v x : Value} {w w1 w2 : World} (h : PenM pb u v w w1) (k : PenM pb v x w1 w2) : PenM pb u x w w2 := by
  refine ⟨⟨k.kept.os.trans h.kept.os, k.kept.tape.trans h.kept.tape, k.kept.output.trans h.kept.output, Nat.le_trans h.kept.size k.kept.size, fun i hi ha => ?_⟩, ?_⟩
  · rw [k.kept.block i (Nat.lt_of_lt_of_le hi h.kept.size) (fun e => by
      rcases e with e | e
      · exact ha (.inl e)
      · rcases h.own with h1 | h1
        · exact ha (.inr (h1 ▸ e))
        · have := h1 i e; omega), h.kept.block i hi ha]
  · rcases k.own with h1 | h1
    · rw [h1]; exact h.own
    · exact .inr fun i hi => Nat.le_trans h.kept.size (h1 i hi)
theorem PenM.below {pb : Nat} {u u' : Value} {w w' : World} (h : PenM pb u u' w w') {B : Nat} (hB : B ≤ w.heap.size) (hp : B ≤ pb) (hu : ∀ k, u.ownBlock = some k → B ≤ k) : Below B w w' :=
  h.kept.below hB (fun k hk => by rcases hk with rfl | hk; exact hp; exact hu k hk)
theorem PenAt.lt {w : World} {base pb : Nat} {u : Value} {bs : List Int} {at' : Nat} (h : PenAt w base pb u bs at') : ∀ k, u.ownBlock = some k → base ≤ k ∧ k < w.heap.size := fun k hk => World.ownsRow.lt h.own k hk
theorem PenAt.ne {w : World} {base pb : Nat} {u : Value} {bs : List Int} {at' : Nat} (h : PenAt w base pb u bs at') : u.ownBlock ≠ some pb := fun e => by
  obtain ⟨c, h1, _⟩ := own_kind h.own e
  rw [h.obj] at h1; simp at h1
theorem PenAt.mid {w : World} {base pb : Nat} {u : Value} {bs : List Int} {at' : Nat} (h : PenAt w base pb u bs at') (h8 : at' % 8 ≠ 0) : ∃ g cap, u = .slice (some ⟨g, 0, none⟩) bs.length cap ∧ PenMid w base pb g cap bs at' := by
  have hl := h.inv.len
  obtain ⟨g, cap, rfl, ho⟩ := h.own.own (by omega)
  exact ⟨g, cap, rfl, h.obj, ho, h.inv.stay h8, h.lo, h.small⟩
theorem PenMid.ne {w : World} {base pb g cap : Nat} {bs : List Int} {at' : Nat} (h : PenMid w base pb g cap bs at') : g ≠ pb := fun e => by
  rcases h.own.2 with ⟨hv, _⟩ | ⟨g', cap', cur, hv, h1, hg, _⟩
  · simp at hv
  · simp at hv
    obtain ⟨rfl, _⟩ := hv
    subst e
    rw [h.obj] at hg; simp at hg
/-- A byte more. -/
theorem PenAt.grown {w : World} {base pb : Nat} {a : Option Addr} {cap : Nat} {bs : List Int} {at' : Nat} (h : PenAt w base pb (.slice a bs.length cap) bs at') (h8 : at' % 8 = 0) {g' cap' : Nat} {w1 : World}
    (hR : Own w1 base 5 .u8 g' cap' (bs ++ [0]) ∧ World.grownBy (w.alloc (.cells #[.int .u8 0] 5)) w1 (Value.slice a bs.length cap).ownBlock ∧ ((Value.slice a bs.length cap).ownBlock = some g' ∨ g' = (w.alloc (.cells #[.int .u8 0] 5)).heap.size)) :
    w1.heap[pb]? = some (.cells #[.slice a bs.length cap, .int .i64 (at' : Nat)] 43) ∧ PenMid (w1.setCell ⟨pb, 0, none⟩ (.slice (some ⟨g', 0, none⟩) (bs.length + 1) cap')) base pb g' cap' (bs ++ [0]) at' ∧
      PenM pb (.slice a bs.length cap) (.slice (some ⟨g', 0, none⟩) (bs.length + 1) cap') w (w1.setCell ⟨pb, 0, none⟩ (.slice (some ⟨g', 0, none⟩) (bs.length + 1) cap')) ∧ ∀ p, bit (zb (bs ++ [0])) p = bit (zb bs) p := by
  obtain ⟨ho, hg, hat⟩ := hR
  have hpb := blk_lt h.obj
  have o1 : w1.heap[pb]? = some (.cells #[.slice a bs.length cap, .int .i64 (at' : Nat)] 43) := (hg.block pb (by simp; omega) (fun e => h.ne e.symm)).trans (blk_alloc h.obj _)
  obtain ⟨hmid, hbit⟩ := h.inv.grow h8
  have hne : g' ≠ pb := fun e => by
    rcases hat with h' | h'
    · exact h.ne (e ▸ h')
    · simp at h'; omega
  refine ⟨o1, ⟨?_, ?_, hmid, h.lo, h.small⟩, ⟨⟨hg.os, hg.tape, hg.output, by have := hg.size; simp at this ⊢; omega, fun k hk ha => ?_⟩, ?_⟩, hbit⟩
  · have := blk_set o1 0 (.slice (some ⟨g', 0, none⟩) (bs.length + 1) cap')
    simpa using this
  · exact ho.blk (blk_other _ hne)
  · rw [blk_other _ (fun e => ha (.inl e)), hg.block k (by simp; omega) (fun e => ha (.inr e.symm))]
    exact Below.heap_alloc _ _ _ hk
  · rcases hat with h' | h'
    · left; rw [h']; rfl
    · right; intro k hk; simp [Value.ownBlock] at hk; simp at h'; omega
/-- A bit that is 0. -/
theorem PenMid.zero {w : World} {base pb g cap : Nat} {bs : List Int} {at' : Nat} (h : PenMid w base pb g cap bs at') (hs : at' < 1000000) {v : Int} (hv : v = at' + 1) :
    PenAt (w.setCell ⟨pb, 1, none⟩ (.int .i64 v)) base pb (.slice (some ⟨g, 0, none⟩) bs.length cap) bs (at' + 1) ∧ PenM pb (.slice (some ⟨g, 0, none⟩) bs.length cap) (.slice (some ⟨g, 0, none⟩) bs.length cap) w (w.setCell ⟨pb, 1, none⟩ (.int .i64 v)) ∧ bit (zb bs) at' = 0 := by
  obtain ⟨h1, h2⟩ := h.inv.zero
  refine ⟨⟨?_, own_v (h.own.blk (blk_other _ h.ne)) rfl, h1, h.lo, by omega⟩, ⟨(Kept.refl _ _).setCell (.inl (.inl rfl)) _, .inl rfl⟩, h2⟩
  have := blk_set h.obj 1 (.int .i64 v)
  rw [hv] at this ⊢
  simpa using this
/-- A bit that is 1. -/
theorem PenMid.one {w : World} {base pb g cap : Nat} {bs : List Int} {at' : Nat} (h : PenMid w base pb g cap bs at') (hs : at' < 1000000) {v y : Int} (hv : v = at' + 1) (hy : y = ((zb bs (at' / 8) + 2 ^ (at' % 8) : Nat) : Int)) :
    PenAt ((w.setCell ⟨g, at' / 8, none⟩ (.int .u8 y)).setCell ⟨pb, 1, none⟩ (.int .i64 v)) base pb (.slice (some ⟨g, 0, none⟩) bs.length cap) (bs.set (at' / 8) y) (at' + 1) ∧ PenM pb (.slice (some ⟨g, 0, none⟩) bs.length cap) (.slice (some ⟨g, 0, none⟩) bs.length cap) w ((w.setCell ⟨g, at' / 8, none⟩ (.int .u8 y)).setCell ⟨pb, 1, none⟩ (.int .i64 v)) ∧ bit (zb (bs.set (at' / 8) y)) at' = 1 ∧ ∀ p, p < at' → bit (zb (bs.set (at' / 8) y)) p = bit (zb bs) p := by
  obtain ⟨h1, h2, h3⟩ := h.inv.one hy
  have o1 : (w.setCell ⟨g, at' / 8, none⟩ (.int .u8 y)).heap[pb]? = some (.cells #[.slice (some ⟨g, 0, none⟩) bs.length cap, .int .i64 (at' : Nat)] 43) := (blk_other _ (fun e => h.ne e.symm)).trans h.obj
  refine ⟨⟨?_, own_v ((h.own.set (at' / 8) y).blk (blk_other _ h.ne)) (by simp), h1, h.lo, by omega⟩, ⟨((Kept.refl _ _).setCell (.inl (.inr rfl)) _).setCell (.inl (.inl rfl)) _, .inl rfl⟩, h2, h3⟩
  have := blk_set o1 1 (.int .i64 v)
  rw [hv] at this ⊢
  simpa using this
theorem and1b (a : Nat) (h : a < 10000000) : bits .and .i64 (a : Int) 1 = ((a % 2 : Nat) : Int) := by
  show IntKind.i64.wrap ((BitVec.ofInt 64 (a : Int) &&& BitVec.ofInt 64 1).toNat : Int) = _
  have h2 : (BitVec.ofInt 64 1).toNat = 2 ^ 1 - 1 := by decide
  have h1 : (BitVec.ofInt 64 (a : Int)).toNat = a := by rw [BitVec.toNat_ofInt]; omega
  rw [BitVec.toNat_and, h1, h2, Nat.and_two_pow_sub_one_eq_mod, IntKind.wrap_i64]
  omega
theorem bit_val (x k : Nat) (hx : x < 1048576) : bits .and .i64 ((x : Int) / 2 ^ k) 1 = ((x / 2 ^ k % 2 : Nat) : Int) := by
  have hle : x / 2 ^ k ≤ x := Nat.div_le_self _ _
  rw [two_pow_cast, ← Int.natCast_ediv, and1b _ (by omega)]
theorem pow_mod (r : Nat) (h : r ≤ 7) : (2 : Int) ^ r % 256 = 2 ^ r := by
  have : ∀ r : Fin 8, (2 : Int) ^ r.val % 256 = 2 ^ r.val := by decide
  exact this ⟨r, by omega⟩
/-- The bits so far, and one more. -/
theorem pen_step {bs bs1 bs2 : List Int} {at' k A x : Nat} (hA : at' + k = A) (hold : ∀ p, p < at' → bit (zb bs1) p = bit (zb bs) p) (hnew : ∀ e, e < k → bit (zb bs1) (at' + e) = x / 2 ^ e % 2) (hsame : ∀ p, p < A → bit (zb bs2) p = bit (zb bs1) p) (hbit : bit (zb bs2) A = x / 2 ^ k % 2) :
    Hid (∀ p, p < at' → bit (zb bs2) p = bit (zb bs) p) ∧ Hid (∀ e, e < k + 1 → bit (zb bs2) (at' + e) = x / 2 ^ e % 2) := by
  refine ⟨fun p hp => by rw [hsame p (by omega), hold p hp], fun e he => ?_⟩
  by_cases h : e = k
  · subst h; rw [hA]; exact hbit
  · rw [hsame _ (by omega)]; exact hnew e (by omega)

/-- What a call of the pen answers: n bits more, each told by b. -/
def PenR (base pb : Nat) (u : Value) (bs : List Int) (at' n : Nat) (b : Nat → Nat) (w : World) (e : Ending) (w' : World) : Prop :=
  e = .returned (.tuple #[]) ∧ ∃ u' bs', PenAt w' base pb u' bs' (at' + n) ∧ PenM pb u u' w w' ∧ Hid (∀ p, p < at' → bit (zb bs') p = bit (zb bs) p) ∧ Hid (∀ k, k < n → bit (zb bs') (at' + k) = b k)

set_option maxRecDepth 100000 in
set_option maxHeartbeats 1600000 in
theorem penbits_any (base pb : Nat) (u : Value) (bs : List Int) (at' x n : Nat) (hx : x < 1048576) (hn : n ≤ 20) (hs : at' + n ≤ 1000000) (w : World) (h : PenAt w base pb u bs at') (hb : base ≤ w.heap.size) :
    Calls Tryd.prog 22 #[.pointer (some ⟨pb, 0, none⟩), .int .i64 (x : Nat), .int .i64 (n : Nat)] w (PenR base pb u bs at' n (fun k => x / 2 ^ k % 2) w) := by
  go_enter Tryd.func22, Tryd.ntmps22
  go_wp2_with fail
  go_loopw [6] (fun j wq => ∃ (k : Nat) (u1 : Value) (bs1 : List Int), k ≤ n ∧ j = .int .i64 k ∧ PenAt wq base pb u1 bs1 (at' + k) ∧ PenM pb u u1 w wq ∧ Hid (∀ p, p < at' → bit (zb bs1) p = bit (zb bs) p) ∧ Hid (∀ e, e < k → bit (zb bs1) (at' + e) = x / 2 ^ e % 2)) (fun j _ => n - (intOf j).toNat)
  case atStart => exact ⟨0, u, bs, by omega, rfl, h, PenM.refl _ _ _, fun _ _ => rfl, fun e he => by omega⟩
  case round =>
    clear h
    obtain ⟨k, u1, bs1, hk, rfl, hP, hM, hold, hnew⟩ := hrel
    by_cases hkn : k < n
    · have hkn' : (k : Int) < n := by omega
      have hk20 : k ≤ 20 := by omega
      obtain ⟨A, hA⟩ : ∃ A, Hid (at' + k = A) := ⟨_, rfl⟩
      rw [hA.out] at hP
      have hAs : A < 1000000 := by have := hA.out; omega
      have hbv := bit_val x k hx
      have hwz := hM.kept.size
      obtain ⟨a1, cap1, rfl⟩ := hP.own.form
      have hlen := hP.inv.len
      have c0 : wr.cell? ⟨pb, 0, none⟩ = some (.slice a1 bs1.length cap1) := blk_cell hP.obj 0
      have c1 : wr.cell? ⟨pb, 1, none⟩ = some (.int .i64 (A : Nat)) := blk_cell hP.obj 1
      have HLEN : Hid (bs1.length = (A + 7) / 8) := hlen
      clear hlen
      by_cases h8 : A % 8 = 0
      · have hr8 : (A : Int) % 8 = 0 := by omega
        have happ := (hP.own.alloc (.cells #[.int .u8 0] 5)).one (by simp; omega) (blk_new wr _) (by rw [HLEN.out]; omega)
        have HAP : Hid (_) := happ
        have G := fun g' cap' w1 hR => hP.grown h8 (g' := g') (cap' := cap') (w1 := w1) hR
        clear happ h8
        by_cases hbit : x / 2 ^ k % 2 = 0
        · rw [hbit] at hbv
          have HB : Hid (x / 2 ^ k % 2 = 0) := hbit
          clear hbit
          go_wp2_with (at_builtin; refine wpList_append_ex rfl (.tmp 22) (.tmp 23) 23 rfl rfl rfl HAP.out ?_; rintro g' cap' w1 hR; obtain ⟨o1, hMid, hMv, hbt⟩ := G g' cap' w1 hR; have d0 := blk_cell o1 0; have fz := blk_free o1 0; have e1 := blk_cell hMid.obj 1; have ef := blk_free hMid.obj 1; clear o1 hR)
          obtain ⟨Q1, Q2, Q3⟩ := hMid.zero hAs (v := (A : Int) + 1) rfl
          obtain ⟨F1, F2⟩ := pen_step hA.out hold.out hnew.out (bs2 := bs1 ++ [(0 : Int)]) (fun p _ => hbt p) (by rw [Q3, HB.out])
          have hl1 : (bs1 ++ [(0 : Int)]).length = bs1.length + 1 := by simp
          rw [hl1] at Q1 Q2
          refine ⟨⟨k + 1, .slice (some ⟨g', 0, none⟩) (bs1.length + 1) cap', bs1 ++ [(0 : Int)], by omega, by go_num, ?_, (hM.trans hMv).trans Q2, F1, F2⟩, by simp [intOf]; omega⟩
          rw [← Nat.add_assoc, hA.out]; exact Q1
        · have hbit1 : x / 2 ^ k % 2 = 1 := by omega
          rw [hbit1] at hbv
          have HB : Hid (x / 2 ^ k % 2 = 1) := hbit1
          clear hbit hbit1
          go_wp2_with (at_builtin; refine wpList_append_ex rfl (.tmp 22) (.tmp 23) 23 rfl rfl rfl HAP.out ?_; rintro g' cap' w1 hR; obtain ⟨o1, hMid, hMv, hbt⟩ := G g' cap' w1 hR; have d0 := blk_cell o1 0; have fz := blk_free o1 0; clear o1 hR)
          obtain ⟨W2, hW2⟩ : ∃ W2, W2 = w1.setCell ⟨pb, 0, none⟩ (.slice (some ⟨g', 0, none⟩) (bs1.length + 1) cap') := ⟨_, rfl⟩
          rw [← hW2] at hMid hMv ⊢
          clear hW2 d0 fz c0 c1 hr8 G HAP
          have hl1 : (bs1 ++ [(0 : Int)]).length = bs1.length + 1 := by simp
          rw [← hl1] at hMv
          have HOLD : Hid (∀ p, bit (zb (bs1 ++ [(0 : Int)])) p = bit (zb bs1) p) := hbt
          clear hl1
          have hml := hMid.inv.len
          have hmt := hMid.inv.top
          have hmb := hMid.inv.byte (A / 8)
          have e0 : W2.cell? ⟨pb, 0, none⟩ = some (.slice (some ⟨g', 0, none⟩) (bs1 ++ [(0 : Int)]).length cap') := blk_cell hMid.obj 0
          have e1 : W2.cell? ⟨pb, 1, none⟩ = some (.int .i64 (A : Nat)) := blk_cell hMid.obj 1
          have e2 : W2.cell? ⟨g', A / 8, none⟩ = some (.int .u8 ((bs1 ++ [(0 : Int)]).getD (A / 8) 0)) := hMid.own.cell (by rw [hml]; omega)
          have ezb : ((bs1 ++ [(0 : Int)]).getD (A / 8) 0) = ((zb (bs1 ++ [(0 : Int)]) (A / 8) : Nat) : Int) := by unfold zb; omega
          rw [ezb] at e2
          have hor := or_u8 (zb (bs1 ++ [(0 : Int)]) (A / 8)) (A % 8) (Nat.mod_lt _ (by omega)) hmt
          have hlc := hMid.own.lc.1
          have hcm := hMid.own.lc.2
          unfold maxLen at hcm
          obtain ⟨Z, hZ⟩ : ∃ Z, Hid (zb (bs1 ++ [(0 : Int)]) (A / 8) = Z) := ⟨_, rfl⟩
          rw [hZ.out] at e2 hor
          obtain ⟨q, hq⟩ : ∃ q, Hid (A / 8 = q) := ⟨_, rfl⟩
          rw [hq.out] at e2 hml
          have q1 : (A : Int) / 8 = (q : Nat) := by have := hq.out; omega
          obtain ⟨r, hr⟩ : ∃ r, Hid (A % 8 = r) := ⟨_, rfl⟩
          rw [hr.out] at hor
          have r1 : (A : Int) % 8 = (r : Nat) := by have := hr.out; omega
          have r8 : r ≤ 7 := by have := hr.out; omega
          obtain ⟨ML, hML⟩ : ∃ ML, Hid ((bs1 ++ [(0 : Int)]).length = ML) := ⟨_, rfl⟩
          rw [hML.out] at e0 hml hlc
          have hqM : q < ML := by omega
          have Zl : Z < 256 := by have := hZ.out; have := hmb; unfold zb at *; omega
          have pl := pow_le_8 (r := r) (by omega)
          have pm := pow_mod r r8
          obtain ⟨Y, hY⟩ : ∃ Y : Nat, Hid (Z + 2 ^ r = Y) := ⟨_, rfl⟩
          rw [hY.out] at hor
          have hin := Ext.inh W2
          have d0 := fun k : Ext W2 => Ext.cell e0 k
          have d1 := fun k : Ext W2 => Ext.cell e1 k
          have d2 := fun k : Ext W2 => Ext.cell e2 k
          have HMid : Hid (PenMid W2 base pb g' cap' (bs1 ++ [(0 : Int)]) A) := hMid
          clear e0 e1 e2 ezb hmb hmt hMid hml
          refine region_ext_cone 20 (by kernel_rfl) (by kernel_rfl) ?_
          simp only [List.take_succ_cons, List.take_zero, List.drop_succ_cons, List.drop_zero]
          repeat (go_big_quiet_step (fail))
          refine wpQuiet_nil ?_
          rintro _ ⟨kk, rfl⟩
          have M2 : PenMid kk.w base pb g' cap' (bs1 ++ [(0 : Int)]) A := ⟨Ext.blk HMid.out.obj kk, HMid.out.own.below kk.h, HMid.out.inv, HMid.out.lo, HMid.out.small⟩
          have x2 : kk.w.cell? ⟨g', q, none⟩ = some (.int .u8 (Z : Nat)) := d2 kk
          have xf := M2.own.free q
          obtain ⟨P1, P2, P3, P4⟩ := M2.one hAs (v := (A : Int) + 1) rfl (y := ((Y : Nat) : Int)) (by rw [hZ.out, hr.out, hY.out])
          rw [hq.out] at P1 P2 P3 P4
          have o2 : (kk.w.setCell ⟨g', q, none⟩ (.int .u8 ((Y : Nat) : Int))).heap[pb]? = some (.cells #[.slice (some ⟨g', 0, none⟩) (bs1 ++ [(0 : Int)]).length cap', .int .i64 (A : Nat)] 43) := (blk_other _ (fun e => M2.ne e.symm)).trans M2.obj
          have y1 : (kk.w.setCell ⟨g', q, none⟩ (.int .u8 ((Y : Nat) : Int))).cell? ⟨pb, 1, none⟩ = some (.int .i64 (A : Nat)) := blk_cell o2 1
          have y2 := blk_free o2 1
          have KX : PenM pb (.slice (some ⟨g', 0, none⟩) (bs1 ++ [(0 : Int)]).length cap') (.slice (some ⟨g', 0, none⟩) (bs1 ++ [(0 : Int)]).length cap') W2 kk.w := ⟨Kept.of_below kk.h (Nat.le_refl _) _, .inl rfl⟩
          have FIN := pen_step hA.out hold.out hnew.out (bs2 := (bs1 ++ [(0 : Int)]).set q ((Y : Nat) : Int)) (fun p hp => by rw [P4 p hp]; exact HOLD.out p) (by rw [P3, HB.out])
          have HP1 : Hid (_) := P1
          have HP2 : Hid (_) := P2
          have HF : Hid (_) := FIN
          clear d0 d1 d2 hin HMid M2 o2 P1 P2 P3 P4 FIN
          rw [hML.out] at HP2 KX HP1
          go_wp2
          refine ⟨⟨k + 1, .slice (some ⟨g', 0, none⟩) ML cap', (bs1 ++ [(0 : Int)]).set q ((Y : Nat) : Int), by omega, by go_num, ?_, ((hM.trans (by rw [hML.out] at hMv; exact hMv)).trans KX).trans HP2.out, HF.out.1, HF.out.2⟩, by simp [intOf]; omega⟩
          rw [← Nat.add_assoc, hA.out]
          exact HP1.out

      · obtain ⟨g', cap', hu, hMid⟩ := hP.mid h8
        simp only [Value.slice.injEq] at hu
        obtain ⟨rfl, _, rfl⟩ := hu
        have hr8 : ¬ (A : Int) % 8 = 0 := by omega
        clear h8
        by_cases hbit : x / 2 ^ k % 2 = 0
        · rw [hbit] at hbv
          have HB : Hid (x / 2 ^ k % 2 = 0) := hbit
          have ef := blk_free hMid.obj 1
          obtain ⟨Q1, Q2, Q3⟩ := hMid.zero hAs (v := (A : Int) + 1) rfl
          obtain ⟨F1, F2⟩ := pen_step hA.out hold.out hnew.out (bs2 := bs1) (fun p _ => rfl) (by rw [Q3, HB.out])
          have HQ1 : Hid (_) := Q1
          have HQ2 : Hid (_) := Q2
          clear hbit hMid Q1 Q2 Q3
          go_wp2
          refine ⟨⟨k + 1, _, bs1, by omega, by go_num, ?_, hM.trans HQ2.out, F1, F2⟩, by simp [intOf]; omega⟩
          rw [← Nat.add_assoc, hA.out]; exact HQ1.out
        · have hbit1 : x / 2 ^ k % 2 = 1 := by omega
          rw [hbit1] at hbv
          have HB : Hid (x / 2 ^ k % 2 = 1) := hbit1
          have HMD : Hid (PenMid wr base pb g' cap1 bs1 A) := hMid
          clear hbit hbit1 hMid
          go_wp2_with fail
          have hMid := HMD.out
          clear c0 c1 hr8 HMD
          have hml := hMid.inv.len
          have hmt := hMid.inv.top
          have hmb := hMid.inv.byte (A / 8)
          have e0 : wr.cell? ⟨pb, 0, none⟩ = some (.slice (some ⟨g', 0, none⟩) (bs1).length cap1) := blk_cell hMid.obj 0
          have e1 : wr.cell? ⟨pb, 1, none⟩ = some (.int .i64 (A : Nat)) := blk_cell hMid.obj 1
          have e2 : wr.cell? ⟨g', A / 8, none⟩ = some (.int .u8 ((bs1).getD (A / 8) 0)) := hMid.own.cell (by rw [hml]; omega)
          have ezb : ((bs1).getD (A / 8) 0) = ((zb (bs1) (A / 8) : Nat) : Int) := by unfold zb; omega
          rw [ezb] at e2
          have hor := or_u8 (zb (bs1) (A / 8)) (A % 8) (Nat.mod_lt _ (by omega)) hmt
          have hlc := hMid.own.lc.1
          have hcm := hMid.own.lc.2
          unfold maxLen at hcm
          obtain ⟨Z, hZ⟩ : ∃ Z, Hid (zb (bs1) (A / 8) = Z) := ⟨_, rfl⟩
          rw [hZ.out] at e2 hor
          obtain ⟨q, hq⟩ : ∃ q, Hid (A / 8 = q) := ⟨_, rfl⟩
          rw [hq.out] at e2 hml
          have q1 : (A : Int) / 8 = (q : Nat) := by have := hq.out; omega
          obtain ⟨r, hr⟩ : ∃ r, Hid (A % 8 = r) := ⟨_, rfl⟩
          rw [hr.out] at hor
          have r1 : (A : Int) % 8 = (r : Nat) := by have := hr.out; omega
          have r8 : r ≤ 7 := by have := hr.out; omega
          obtain ⟨ML, hML⟩ : ∃ ML, Hid ((bs1).length = ML) := ⟨_, rfl⟩
          rw [hML.out] at e0 hml hlc
          have hqM : q < ML := by omega
          have Zl : Z < 256 := by have := hZ.out; have := hmb; unfold zb at *; omega
          have pl := pow_le_8 (r := r) (by omega)
          have pm := pow_mod r r8
          obtain ⟨Y, hY⟩ : ∃ Y : Nat, Hid (Z + 2 ^ r = Y) := ⟨_, rfl⟩
          rw [hY.out] at hor
          have hin := Ext.inh wr
          have d0 := fun k : Ext wr => Ext.cell e0 k
          have d1 := fun k : Ext wr => Ext.cell e1 k
          have d2 := fun k : Ext wr => Ext.cell e2 k
          have HMid : Hid (PenMid wr base pb g' cap1 (bs1) A) := hMid
          clear e0 e1 e2 ezb hmb hmt hMid hml
          refine region_ext_cone 20 (by kernel_rfl) (by kernel_rfl) ?_
          simp only [List.take_succ_cons, List.take_zero, List.drop_succ_cons, List.drop_zero]
          repeat (go_big_quiet_step (fail))
          refine wpQuiet_nil ?_
          rintro _ ⟨kk, rfl⟩
          have M2 : PenMid kk.w base pb g' cap1 (bs1) A := ⟨Ext.blk HMid.out.obj kk, HMid.out.own.below kk.h, HMid.out.inv, HMid.out.lo, HMid.out.small⟩
          have x2 : kk.w.cell? ⟨g', q, none⟩ = some (.int .u8 (Z : Nat)) := d2 kk
          have xf := M2.own.free q
          obtain ⟨P1, P2, P3, P4⟩ := M2.one hAs (v := (A : Int) + 1) rfl (y := ((Y : Nat) : Int)) (by rw [hZ.out, hr.out, hY.out])
          rw [hq.out] at P1 P2 P3 P4
          have o2 : (kk.w.setCell ⟨g', q, none⟩ (.int .u8 ((Y : Nat) : Int))).heap[pb]? = some (.cells #[.slice (some ⟨g', 0, none⟩) (bs1).length cap1, .int .i64 (A : Nat)] 43) := (blk_other _ (fun e => M2.ne e.symm)).trans M2.obj
          have y1 : (kk.w.setCell ⟨g', q, none⟩ (.int .u8 ((Y : Nat) : Int))).cell? ⟨pb, 1, none⟩ = some (.int .i64 (A : Nat)) := blk_cell o2 1
          have y2 := blk_free o2 1
          have KX : PenM pb (.slice (some ⟨g', 0, none⟩) (bs1).length cap1) (.slice (some ⟨g', 0, none⟩) (bs1).length cap1) wr kk.w := ⟨Kept.of_below kk.h (Nat.le_refl _) _, .inl rfl⟩
          have FIN := pen_step hA.out hold.out hnew.out (bs2 := (bs1).set q ((Y : Nat) : Int)) (fun p hp => P4 p hp) (by rw [P3, HB.out])
          have HP1 : Hid (_) := P1
          have HP2 : Hid (_) := P2
          have HF : Hid (_) := FIN
          clear d0 d1 d2 hin HMid M2 o2 P1 P2 P3 P4 FIN
          rw [hML.out] at HP2 KX HP1
          go_wp2
          refine ⟨⟨k + 1, .slice (some ⟨g', 0, none⟩) ML cap1, (bs1).set q ((Y : Nat) : Int), by omega, by go_num, ?_, ((by rw [hML.out] at hM; exact hM : PenM pb u (.slice (some ⟨g', 0, none⟩) ML cap1) w wr).trans KX).trans HP2.out, HF.out.1, HF.out.2⟩, by simp [intOf]; omega⟩
          rw [← Nat.add_assoc, hA.out]
          exact HP1.out
    · have hkn' : ¬ (k : Int) < n := by omega
      obtain rfl : k = n := by omega
      go_wp2
      go_end0
      exact ⟨rfl, u1, bs1, hP, hM, hold, hnew⟩
end Go.Proofs.YtahibacjaoohiaaDoor
