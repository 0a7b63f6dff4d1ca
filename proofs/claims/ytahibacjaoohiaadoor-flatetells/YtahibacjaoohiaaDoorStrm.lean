/-
  A stream in memory: its bits, what it has said, its fixed codes; what a call on it may turn; take, put, spread, length as contracts.
-/
import Derived.Test.YtahibacjaoohiaaDoorInfl
import Derived.Test.YtahibacjaoohiaaDoorRead
import Derived.Test.YtahibacjaoohiaaDoorBack
namespace Go.Proofs.YtahibacjaoohiaaDoor
open Go.RowKit

/-- The blocks that a stream's calls write. -/
def Mine (s b : Nat) (v : Value) (k : Nat) : Prop := k = s ∨ k = b ∨ v.ownBlock = some k
/-- What a stream's calls do to the memory: v, v': what was said, ahead and behind. -/
structure Moves (s b : Nat) (v v' : Value) (w w' : World) : Prop where
  kept : Kept (Mine s b v) w w'
  own : v'.ownBlock = v.ownBlock ∨ ∀ k, v'.ownBlock = some k → w.heap.size ≤ k
theorem Moves.refl (s b : Nat) (v : Value) (w : World) : Moves s b v v w w := ⟨Kept.refl _ _, .inl rfl⟩
theorem Moves.apart {s b : Nat} {v v' : Value} {w w' : World} (h : Moves s b v v' w w') {k : Nat} (hk : k < w.heap.size) (ha : ¬ Mine s b v k) : ¬ Mine s b v' k := by
  rintro (e | e | e)
  · exact ha (.inl e)
  · exact ha (.inr (.inl e))
  · rcases h.own with h1 | h1
    · exact ha (.inr (.inr (h1 ▸ e)))
    · have := h1 k e; omega
theorem Moves.trans {s b : Nat} {u v x : Value} {w w1 w2 : World} (h : Moves s b u v w w1) (k : Moves s b v x w1 w2) : Moves s b u x w w2 := by
  refine ⟨⟨k.kept.os.trans h.kept.os, k.kept.tape.trans h.kept.tape, k.kept.output.trans h.kept.output, Nat.le_trans h.kept.size k.kept.size, fun i hi ha => ?_⟩, ?_⟩
  · rw [k.kept.block i (Nat.lt_of_lt_of_le hi h.kept.size) (h.apart hi ha), h.kept.block i hi ha]
  · rcases k.own with h1 | h1
    · rw [h1]; exact h.own
    · exact .inr fun i hi => Nat.le_trans h.kept.size (h1 i hi)
theorem Moves.blk {s b : Nat} {v v' : Value} {w w' : World} (h : Moves s b v v' w w') {k : Nat} {o : Obj} (hk : w.heap[k]? = some o) (ha : ¬ Mine s b v k) : w'.heap[k]? = some o := h.kept.blk hk ha
theorem Moves.below {s b : Nat} {v v' : Value} {w w' : World} (h : Moves s b v v' w w') {B : Nat} (hB : B ≤ w.heap.size) (hm : ∀ k, Mine s b v k → B ≤ k) : Below B w w' := h.kept.below hB hm
theorem Moves.of_bits {s b : Nat} {v : Value} {w w' : World} (h : Kept (fun k => k = b) w w') : Moves s b v v w w' := ⟨h.mono fun _ _ e => .inr (.inl e), .inl rfl⟩
theorem Moves.of_below {s b : Nat} {v : Value} {w w' : World} (h : Below w.heap.size w w') : Moves s b v v w w' := ⟨Kept.of_below h (Nat.le_refl _) _, .inl rfl⟩
theorem Moves.drewN {s b : Nat} {v v' : Value} {w w' : World} (h : Moves s b v v' w w') (n : Nat) : Moves s b v v' w (w'.drewN n) := ⟨h.kept.drewN n, h.own⟩
theorem Moves.drew {s b : Nat} {v v' : Value} {w w' : World} (h : Moves s b v v' w w') : Moves s b v v' w w'.drew := ⟨h.kept.drew, h.own⟩
theorem Moves.alloc {s b : Nat} {v v' : Value} {w w' : World} (h : Moves s b v v' w w') (o : Obj) : Moves s b v v' w (w'.alloc o) := ⟨h.kept.alloc o, h.own⟩

/-- An alphabet, by value: its code lies in memory, apart from what the stream's calls write. -/
def Alph (w : World) (s b : Nat) (v : Value) (a0 a1 a2 : Value) (N : Nat) (L : Nat → Nat) : Prop :=
  ∃ o gw gs, a0 = .pointer (some ⟨o, 0, none⟩) ∧ a1 = .int .i64 (some' L N : Nat) ∧ a2 = .int .i64 (lastsym L N : Nat) ∧ CodeAt w o gw gs N L ∧ ¬ Mine s b v o ∧ ¬ Mine s b v gw ∧ ¬ Mine s b v gs
theorem CodeAt.lo {w : World} {o gw gs N : Nat} {L : Nat → Nat} (h : CodeAt w o gw gs N L) : o < w.heap.size := blk_lt_of_cell h.words
theorem Alph.moves {w w' : World} {s b : Nat} {v v' : Value} {a0 a1 a2 : Value} {N : Nat} {L : Nat → Nat} (h : Alph w s b v a0 a1 a2 N L) (m : Moves s b v v' w w') : Alph w' s b v' a0 a1 a2 N L := by
  obtain ⟨o, gw, gs, h0, h1, h2, hc, n1, n2, n3⟩ := h
  exact ⟨o, gw, gs, h0, h1, h2, hc.kept m.kept n1 n2 n3, m.apart hc.lo n1, m.apart hc.lw n2, m.apart hc.ls n3⟩

/-- The fixed codes that a stream keeps: none yet, or all. -/
structure Six where
  x0 : Value
  x1 : Value
  x2 : Value
  x3 : Value
  x4 : Value
  x5 : Value
def six0 : Six := ⟨.pointer none, .int .i64 0, .int .i64 0, .pointer none, .int .i64 0, .int .i64 0⟩
def Fx (w : World) (s b : Nat) (v : Value) (x : Six) : Prop := x = six0 ∨ Alph w s b v x.x0 x.x1 x.x2 288 fixL ∧ Alph w s b v x.x3 x.x4 x.x5 32 fixD
theorem Fx.moves {w w' : World} {s b : Nat} {v v' : Value} {x : Six} (h : Fx w s b v x) (m : Moves s b v v' w w') : Fx w' s b v' x := by
  rcases h with h | ⟨h1, h2⟩
  · exact .inl h
  · exact .inr ⟨h1.moves m, h2.moves m⟩

/-- A stream at block s: p bits are taken, out was said. -/
structure Strm (w : World) (B s b g len : Nat) (z : Nat → Nat) (most : Nat) (v : Value) (x : Six) (p : Nat) (out : List Int) : Prop where
  obj : w.heap[s]? = some (.cells #[.pointer (some ⟨b, 0, none⟩), v, .int .i64 (most : Nat), x.x0, x.x1, x.x2, x.x3, x.x4, x.x5] 59)
  bits : BitsAt w b g len z p
  own : OwnV w B 5 .u8 v out
  byte : ∀ q, 0 ≤ out.getD q 0 ∧ out.getD q 0 < 256
  fit : out.length ≤ most
  small : most ≤ 140737488355000
  fx : Fx w s b v x
  ng : v.ownBlock ≠ some g
  bs : B ≤ s
  bb : B ≤ b
  sz : B ≤ w.heap.size
theorem own_kind {w : World} {B : Nat} {v : Value} {out : List Int} (h : OwnV w B 5 .u8 v out) {k : Nat} (hk : v.ownBlock = some k) : ∃ c, w.heap[k]? = some (.cells c 5 (0, 0)) ∧ B ≤ k := by
  rcases h.2 with ⟨hv, _⟩ | ⟨g, cap, cur, hv, h1, hg, _⟩
  · rw [hv] at hk; simp [Value.ownBlock] at hk
  · rw [hv] at hk; simp [Value.ownBlock] at hk; subst hk; exact ⟨_, hg, h1⟩
theorem Strm.sb {w : World} {B s b g len : Nat} {z : Nat → Nat} {most : Nat} {v : Value} {x : Six} {p : Nat} {out : List Int} (h : Strm w B s b g len z most v x p out) : s ≠ b := fun e => by
  have h1 := h.obj; rw [e, h.bits.obj] at h1; simp at h1
theorem Strm.sg {w : World} {B s b g len : Nat} {z : Nat → Nat} {most : Nat} {v : Value} {x : Six} {p : Nat} {out : List Int} (h : Strm w B s b g len z most v x p out) : s ≠ g := fun e => by
  have h1 := h.obj; rw [e, h.bits.row] at h1; simp at h1
theorem Strm.ns {w : World} {B s b g len : Nat} {z : Nat → Nat} {most : Nat} {v : Value} {x : Six} {p : Nat} {out : List Int} (h : Strm w B s b g len z most v x p out) : v.ownBlock ≠ some s := fun e => by
  obtain ⟨c, h1, _⟩ := own_kind h.own e
  rw [h.obj] at h1; simp at h1
theorem Strm.nb {w : World} {B s b g len : Nat} {z : Nat → Nat} {most : Nat} {v : Value} {x : Six} {p : Nat} {out : List Int} (h : Strm w B s b g len z most v x p out) : v.ownBlock ≠ some b := fun e => by
  obtain ⟨c, h1, _⟩ := own_kind h.own e
  rw [h.bits.obj] at h1; simp at h1
theorem Strm.mine {w : World} {B s b g len : Nat} {z : Nat → Nat} {most : Nat} {v : Value} {x : Six} {p : Nat} {out : List Int} (h : Strm w B s b g len z most v x p out) {k : Nat} (hm : Mine s b v k) : B ≤ k ∧ k < w.heap.size := by
  rcases hm with rfl | rfl | e
  · exact ⟨h.bs, blk_lt h.obj⟩
  · exact ⟨h.bb, blk_lt h.bits.obj⟩
  · obtain ⟨c, h1, h2⟩ := own_kind h.own e; exact ⟨h2, blk_lt h1⟩
theorem Strm.gm {w : World} {B s b g len : Nat} {z : Nat → Nat} {most : Nat} {v : Value} {x : Six} {p : Nat} {out : List Int} (h : Strm w B s b g len z most v x p out) : ¬ Mine s b v g := by
  rintro (e | e | e)
  · exact h.sg e.symm
  · exact h.bits.ne e
  · exact h.ng e
theorem OwnV.kept' {S : Nat → Prop} {w w' : World} {B : Nat} {e : TypeId} {k : IntKind} {v : Value} {xs : List Int} (h : OwnV w B e k v xs) (hk : Kept S w w') (hs : ∀ i, v.ownBlock = some i → ¬ S i) : OwnV w' B e k v xs := by
  rcases h.2 with ⟨hv, h0⟩ | ⟨g, cap, cur, hv, h1, hg, h3⟩
  · exact ⟨h.1, .inl ⟨hv, h0⟩⟩
  · exact ⟨h.1, .inr ⟨g, cap, cur, hv, h1, hk.blk hg (hs g (by rw [hv]; rfl)), h3⟩⟩
/-- New blocks alone. -/
theorem Strm.below {w w' : World} {B s b g len : Nat} {z : Nat → Nat} {most : Nat} {v : Value} {x : Six} {p : Nat} {out : List Int} (h : Strm w B s b g len z most v x p out) (k : Below w.heap.size w w') : Strm w' B s b g len z most v x p out :=
  ⟨Below.blk k h.obj (blk_lt h.obj), h.bits.below k, h.own.below k, h.byte, h.fit, h.small, h.fx.moves (Moves.of_below k), h.ng, h.bs, h.bb, Nat.le_trans h.sz k.size⟩
theorem Strm.alloc {w : World} {B s b g len : Nat} {z : Nat → Nat} {most : Nat} {v : Value} {x : Six} {p : Nat} {out : List Int} (h : Strm w B s b g len z most v x p out) (o : Obj) : Strm (w.alloc o) B s b g len z most v x p out :=
  h.below ((Below.refl _ _).alloc (Nat.le_refl _) _)
theorem Strm.drewN {w : World} {B s b g len : Nat} {z : Nat → Nat} {most : Nat} {v : Value} {x : Six} {p : Nat} {out : List Int} (h : Strm w B s b g len z most v x p out) (n : Nat) : Strm (w.drewN n) B s b g len z most v x p out :=
  h.below (below_drewN (Below.refl _ _) n)
/-- Its bits alone have moved. -/
theorem Strm.taken {w w' : World} {B s b g len : Nat} {z : Nat → Nat} {most : Nat} {v : Value} {x : Six} {p q : Nat} {out : List Int} (h : Strm w B s b g len z most v x p out) (hb : BitsAt w' b g len z q) (hk : Kept (fun k => k = b) w w') : Strm w' B s b g len z most v x q out :=
  ⟨hk.blk h.obj h.sb, hb, h.own.kept' hk (fun _ hi e => h.nb (e ▸ hi)), h.byte, h.fit, h.small, h.fx.moves (Moves.of_bits hk), h.ng, h.bs, h.bb, Nat.le_trans h.sz hk.size⟩

theorem take_yes (B s b g len : Nat) (z : Nat → Nat) (most : Nat) (v : Value) (x : Six) (p : Nat) (out : List Int) (n : Nat) (hn : n ≤ 24) (w : World) (h : Strm w B s b g len z most v x p out) (hp : p + n ≤ 8 * len) :
    Calls Tryd.prog 43 #[.pointer (some ⟨s, 0, none⟩), .int .i64 n] w fun e w' => e = .returned (.tuple #[.int .i64 (takev z p n : Nat), .int .i64 0]) ∧ Strm w' B s b g len z most v x (p + n) out ∧ Moves s b v v w w' := by
  have c0 : w.cell? ⟨s, 0, none⟩ = some (.pointer (some ⟨b, 0, none⟩)) := blk_cell h.obj 0
  go_enter Tryd.func43, Tryd.ntmps43
  go_wp2_with fail
  refine (take_yes_mid b g len z p n hn _ h.bits hp).mono ?_
  rintro e w1 ⟨rfl, hB, hK⟩
  go_wp2
  go_ret2
  exact ⟨rfl, h.taken hB hK, Moves.of_bits hK⟩
theorem take_no (B s b g len : Nat) (z : Nat → Nat) (most : Nat) (v : Value) (x : Six) (p : Nat) (out : List Int) (n : Nat) (hn : n ≤ 24) (w : World) (h : Strm w B s b g len z most v x p out) (hp : ¬ p + n ≤ 8 * len) :
    Calls Tryd.prog 43 #[.pointer (some ⟨s, 0, none⟩), .int .i64 n] w fun e w' => e = .returned (.tuple #[.int .i64 0, .int .i64 3]) ∧ Moves s b v v w w' := by
  have c0 : w.cell? ⟨s, 0, none⟩ = some (.pointer (some ⟨b, 0, none⟩)) := blk_cell h.obj 0
  go_enter Tryd.func43, Tryd.ntmps43
  go_wp2_with fail
  refine (take_no_mid b g len z p n hn _ h.bits (by omega)).mono ?_
  rintro e w1 ⟨rfl, hB, hK⟩
  go_wp2
  go_ret2
  exact ⟨rfl, Moves.of_bits hK⟩

theorem put_no (B s b g len : Nat) (z : Nat → Nat) (most : Nat) (v : Value) (x : Six) (p : Nat) (out : List Int) (c : Int) (w : World) (h : Strm w B s b g len z most v x p out) (hp : most ≤ out.length) :
    Calls Tryd.prog 59 #[.pointer (some ⟨s, 0, none⟩), .int .u8 c] w fun e w' => e = .returned (.int .i64 4) ∧ Moves s b v v w w' := by
  obtain ⟨a, cap, rfl⟩ := h.own.form
  have c1 : w.cell? ⟨s, 1, none⟩ = some (.slice a out.length cap) := blk_cell h.obj 1
  have c2 : w.cell? ⟨s, 2, none⟩ = some (.int .i64 (most : Nat)) := blk_cell h.obj 2
  have hd : decide ((most : Int) ≤ (out.length : Int)) = true := decide_eq_true (by omega)
  have h1 := h.small
  have h2 := h.fit
  go_enter Tryd.func59, Tryd.ntmps59
  go_wp2_with fail
  go_quiet (fail)
  go_wp2
  go_ret
  exact ⟨rfl, (Moves.refl _ _ _ _).drewN _⟩

theorem OwnV.one {w : World} {base : Nat} {v : Value} {xs : List Int} (h : OwnV w base 5 .u8 v xs) (hbase : base ≤ w.heap.size) {C : Nat} {x : Int} (hB : w.heap[C]? = some (.cells #[.int .u8 x] 5)) (hlen : xs.length ≤ 140737488355000) :
    ∃ g' cap' w', (Builtin.append_ #[23, 23] 23 #[v, .slice (some ⟨C, 0, none⟩) 1 1]).run Tryd.prog w = .ok (.slice (some ⟨g', 0, none⟩) (xs.length + 1) cap') w' ∧ (Own w' base 5 .u8 g' cap' (xs ++ [x]) ∧ w.grownBy w' v.ownBlock ∧ (v.ownBlock = some g' ∨ g' = w.heap.size)) := by
  obtain ⟨i, hi', h1, h2, h3⟩ := info_of info5
  obtain ⟨g', cap', w', hr, ho, hg, hat, _⟩ := run_append_lies (P := Tryd.prog) w 23 23 base 5 i (.int .u8 0) 1 1 Tryd.underlying23 hi' h1 h3 h2 rfl (by omega) v xs.length _ h ⟨C, 0, none⟩ 1 1 [.int .u8 x] rfl
    (fun j u hj => by
      have := World.news_of_block hB j u (by simpa using hj)
      exact this)
    (by intro u hu; simp at hu; subst hu; rfl) (by omega) (by unfold maxLen; omega) (by omega) hbase w.heap.size rfl
  refine ⟨g', cap', w', hr, ?_, hg, hat⟩
  unfold Own; rw [List.length_append, List.map_append]; exact ho
theorem getD_snoc (xs : List Int) (c : Int) (q : Nat) : (xs ++ [c]).getD q 0 = if q < xs.length then xs.getD q 0 else if q = xs.length then c else 0 := by
  rw [List.getD_eq_getElem?_getD, List.getD_eq_getElem?_getD]
  by_cases h : q < xs.length
  · rw [List.getElem?_append_left h, if_pos h]
  · rw [List.getElem?_append_right (by omega), if_neg h]
    by_cases e : q = xs.length
    · subst e; simp
    · rw [if_neg e, List.getElem?_eq_none (by simp; omega)]; rfl

theorem grown_obj {w W w1 : World} {B s b g len : Nat} {z : Nat → Nat} {most : Nat} {v : Value} {x : Six} {p : Nat} {out : List Int} {a : Option Addr} {cap : Nat} {o : Obj} {n : Nat} (hv : v = .slice a out.length cap) (_hW : W = (w.drewN n).alloc o) (HS : Strm W B s b g len z most v x p out) (h : Strm w B s b g len z most v x p out)
    (hg : World.grownBy ((w.drewN n).alloc o) w1 (Value.slice a out.length cap).ownBlock) :
    w1.cell? ⟨s, 1, none⟩ = some (.slice a out.length cap) ∧ w1.frozen? ⟨s, 1, none⟩ = false ∧ w1.heap[s]? = some (.cells #[.pointer (some ⟨b, 0, none⟩), v, .int .i64 (most : Nat), x.x0, x.x1, x.x2, x.x3, x.x4, x.x5] 59) := by
  rw [← hv, ← _hW] at hg
  have ob1 : w1.heap[s]? = some (.cells #[.pointer (some ⟨b, 0, none⟩), v, .int .i64 (most : Nat), x.x0, x.x1, x.x2, x.x3, x.x4, x.x5] 59) := (hg.block s (blk_lt HS.obj) (fun e => h.ns e.symm)).trans HS.obj
  exact ⟨by rw [← hv]; exact blk_cell ob1 1, blk_free ob1 1, ob1⟩
theorem put_end {w W w1 : World} {B s b g len : Nat} {z : Nat → Nat} {most : Nat} {v : Value} {x : Six} {p : Nat} {out : List Int} {a : Option Addr} {cap : Nat} {o : Obj} {n : Nat} {c : Int} {g' cap' : Nat} (hv : v = .slice a out.length cap) (hW : W = (w.drewN n).alloc o) (HM : Moves s b v v w W) (HS : Strm W B s b g len z most v x p out) (h : Strm w B s b g len z most v x p out) (hc0 : 0 ≤ c) (hc1 : c < 256) (hp : ¬ most ≤ out.length)
    (hR : Own w1 B 5 .u8 g' cap' (out ++ [c]) ∧ World.grownBy ((w.drewN n).alloc o) w1 (Value.slice a out.length cap).ownBlock ∧ ((Value.slice a out.length cap).ownBlock = some g' ∨ g' = ((w.drewN n).alloc o).heap.size))
    (ob1 : w1.heap[s]? = some (.cells #[.pointer (some ⟨b, 0, none⟩), v, .int .i64 (most : Nat), x.x0, x.x1, x.x2, x.x3, x.x4, x.x5] 59)) :
    ∃ v', Strm (w1.setCell ⟨s, 1, none⟩ (.slice (some ⟨g', 0, none⟩) (out.length + 1) cap')) B s b g len z most v' x p (out ++ [c]) ∧ Moves s b v v' w (w1.setCell ⟨s, 1, none⟩ (.slice (some ⟨g', 0, none⟩) (out.length + 1) cap')) := by
  rw [← hv, ← hW] at hR
  obtain ⟨ho, hg, hat⟩ := hR
  have kW : Kept (Mine s b v) W w1 := ⟨hg.os, hg.tape, hg.output, hg.size, fun k hk hm => hg.block k hk (fun e => hm (.inr (.inr e.symm)))⟩
  have hne : g' ≠ s := fun e => by
    rcases hat with h' | h'
    · exact h.ns (e ▸ h')
    · have := blk_lt HS.obj; omega
  have hnb : g' ≠ b := fun e => by
    rcases hat with h' | h'
    · exact h.nb (e ▸ h')
    · have := blk_lt HS.bits.obj; omega
  have hng : g' ≠ g := fun e => by
    rcases hat with h' | h'
    · exact h.ng (e ▸ h')
    · have := blk_lt HS.bits.row; omega
  have mW : Moves s b v (.slice (some ⟨g', 0, none⟩) (out.length + 1) cap') W (w1.setCell ⟨s, 1, none⟩ (.slice (some ⟨g', 0, none⟩) (out.length + 1) cap')) := by
    refine ⟨kW.setCell (.inl (.inl rfl)) _, ?_⟩
    rcases hat with h' | h'
    · left; rw [h']; rfl
    · right; intro k hk; simp [Value.ownBlock] at hk; omega
  have hb := HS.bits
  refine ⟨.slice (some ⟨g', 0, none⟩) (out.length + 1) cap', ⟨blk_set ob1 1 _, ⟨?_, ?_, hb.reach, hb.byte, hb.lim⟩, ?_, ?_, ?_, h.small, HS.fx.moves mW, ?_, h.bs, h.bb, Nat.le_trans HS.sz mW.kept.size⟩, HM.trans mW⟩
  · rw [blk_other _ h.sb.symm]
    exact (hg.block b (blk_lt hb.obj) (fun e => h.nb e.symm)).trans hb.obj
  · rw [blk_other _ h.sg.symm]
    exact (hg.block g (blk_lt hb.row) (fun e => h.ng e.symm)).trans hb.row
  · exact own_v (ho.blk (blk_other _ hne)) (by simp)
  · intro q
    rw [getD_snoc]
    split
    · exact h.byte q
    · split <;> omega
  · have := h.fit; simp; omega
  · simp [Value.ownBlock]; exact hng

set_option maxHeartbeats 800000 in
theorem put_yes (B s b g len : Nat) (z : Nat → Nat) (most : Nat) (v : Value) (x : Six) (p : Nat) (out : List Int) (c : Int) (hc0 : 0 ≤ c) (hc1 : c < 256) (w : World) (h : Strm w B s b g len z most v x p out) (hp : ¬ most ≤ out.length) :
    Calls Tryd.prog 59 #[.pointer (some ⟨s, 0, none⟩), .int .u8 c] w fun e w' => e = .returned (.int .i64 0) ∧ ∃ v', Strm w' B s b g len z most v' x p (out ++ [c]) ∧ Moves s b v v' w w' := by
  obtain ⟨a, cap, hv⟩ := h.own.form
  have c1 : w.cell? ⟨s, 1, none⟩ = some (.slice a out.length cap) := by rw [← hv]; exact blk_cell h.obj 1
  have c2 : w.cell? ⟨s, 2, none⟩ = some (.int .i64 (most : Nat)) := blk_cell h.obj 2
  have hd : decide ((most : Int) ≤ (out.length : Int)) = false := decide_eq_false (by omega)
  have h1 := h.small
  have h2 := h.fit
  go_enter Tryd.func59, Tryd.ntmps59
  go_wp2_with fail
  go_quiet (fail)
  obtain ⟨W, hW⟩ : ∃ W, Hid (W = (w.drewN nq).alloc (.cells #[.int .u8 c] 5)) := ⟨_, rfl⟩
  have HS : Strm W B s b g len z most v x p out := by rw [hW.out]; exact (h.drewN nq).alloc _
  have HM : Moves s b v v w W := by rw [hW.out]; exact ((Moves.refl s b v w).drewN nq).alloc _
  have HB : W.heap[w.heap.size]? = some (.cells #[.int .u8 c] 5) := by rw [hW.out]; exact blk_new (w.drewN nq) _
  have happ := HS.own.one HS.sz HB (by omega)
  rw [hv, hW.out] at happ
  have HAP : Hid (_) := happ
  have HSb : Hid (Strm W B s b g len z most v x p out) := HS
  have HH : Hid (Strm w B s b g len z most v x p out) := h
  clear happ HB HS h
  go_wp2_with (at_builtin; refine wpList_append_ex rfl (.tmp 19) (.tmp 21) 23 rfl rfl rfl HAP.out ?_; rintro g' cap' w1 hR; have ob1 := grown_obj hv hW.out HSb.out HH.out hR.2.1; have d1 := ob1.1; have d2 := ob1.2.1; have d3 := ob1.2.2; clear ob1; have HR : Hid (_) := hR; clear hR)
  go_ret
  exact ⟨rfl, put_end hv hW.out HM HSb.out HH.out hc0 hc1 hp HR.out d3⟩
end Go.Proofs.YtahibacjaoohiaaDoor
