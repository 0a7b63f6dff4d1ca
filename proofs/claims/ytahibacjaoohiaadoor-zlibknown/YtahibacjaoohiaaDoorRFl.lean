/-
  The reference's stream in memory: its bits, what came out, what went wrong; fails, take, put.
-/
import Derived.Test.YtahibacjaoohiaaDoorRTk
import Derived.Test.YtahibacjaoohiaaDoorStrm
namespace Go.Proofs.YtahibacjaoohiaaDoor
open Go.RowKit

/-- The reference's stream at block s: p bits are taken, out came out, E went wrong. -/
structure RFl (w : World) (B s sb : Nat) (a : Option Addr) (len cap : Nat) (z : Nat → Nat) (mo : Int) (E : Nat) (v : Value) (p : Nat) (out : List Int) : Prop where
  obj : w.heap[s]? = some (.cells #[.pointer (some ⟨sb, 0, none⟩), v, .int .i64 mo, .int .i64 (E : Nat)] 68)
  bits : RBits w sb a len cap z p
  own : OwnV w B 5 .u8 v out
  byte : ∀ q, 0 ≤ out.getD q 0 ∧ out.getD q 0 < 256
  fit : out.length ≤ 10000000
  far : ∀ b off, 0 < len → a = some ⟨b, off, none⟩ → b < B
  bs : B ≤ s
  bb : B ≤ sb
  sz : B ≤ w.heap.size
theorem RFl.sb' {w : World} {B s sb : Nat} {a : Option Addr} {len cap : Nat} {z : Nat → Nat} {mo : Int} {E : Nat} {v : Value} {p : Nat} {out : List Int} (h : RFl w B s sb a len cap z mo E v p out) : s ≠ sb := fun e => by
  have h1 := h.obj; rw [e, h.bits.obj] at h1; simp at h1
theorem RFl.ns {w : World} {B s sb : Nat} {a : Option Addr} {len cap : Nat} {z : Nat → Nat} {mo : Int} {E : Nat} {v : Value} {p : Nat} {out : List Int} (h : RFl w B s sb a len cap z mo E v p out) : v.ownBlock ≠ some s := fun e => by
  obtain ⟨c, h1, _⟩ := own_kind h.own e
  rw [h.obj] at h1; simp at h1
theorem RFl.nb {w : World} {B s sb : Nat} {a : Option Addr} {len cap : Nat} {z : Nat → Nat} {mo : Int} {E : Nat} {v : Value} {p : Nat} {out : List Int} (h : RFl w B s sb a len cap z mo E v p out) : v.ownBlock ≠ some sb := fun e => by
  obtain ⟨c, h1, _⟩ := own_kind h.own e
  rw [h.bits.obj] at h1; simp at h1
theorem RFl.mine {w : World} {B s sb : Nat} {a : Option Addr} {len cap : Nat} {z : Nat → Nat} {mo : Int} {E : Nat} {v : Value} {p : Nat} {out : List Int} (h : RFl w B s sb a len cap z mo E v p out) {k : Nat} (hm : Mine s sb v k) : B ≤ k ∧ k < w.heap.size := by
  rcases hm with rfl | rfl | e
  · exact ⟨h.bs, blk_lt h.obj⟩
  · exact ⟨h.bb, blk_lt h.bits.obj⟩
  · obtain ⟨c, h1, h2⟩ := own_kind h.own e; exact ⟨h2, blk_lt h1⟩
/-- New blocks alone. -/
theorem RFl.below {w w' : World} {B s sb : Nat} {a : Option Addr} {len cap : Nat} {z : Nat → Nat} {mo : Int} {E : Nat} {v : Value} {p : Nat} {out : List Int} (h : RFl w B s sb a len cap z mo E v p out) (k : Below w.heap.size w w') : RFl w' B s sb a len cap z mo E v p out :=
  ⟨Below.blk k h.obj (blk_lt h.obj), h.bits.below k, h.own.below k, h.byte, h.fit, h.far, h.bs, h.bb, Nat.le_trans h.sz k.size⟩
/-- Its bits alone have moved. -/
theorem RFl.taken {w w' : World} {B s sb : Nat} {a : Option Addr} {len cap : Nat} {z : Nat → Nat} {mo : Int} {E : Nat} {v : Value} {p q : Nat} {out : List Int} (h : RFl w B s sb a len cap z mo E v p out) (hb : RBits w' sb a len cap z q) (hk : Kept (fun k => k = sb) w w') : RFl w' B s sb a len cap z mo E v q out :=
  ⟨hk.blk h.obj h.sb', hb, h.own.kept' hk (fun _ hi e => h.nb (e ▸ hi)), h.byte, h.fit, h.far, h.bs, h.bb, Nat.le_trans h.sz hk.size⟩
/-- What went wrong is written. -/
theorem RFl.wrong {w : World} {B s sb : Nat} {a : Option Addr} {len cap : Nat} {z : Nat → Nat} {mo : Int} {E : Nat} {v : Value} {p : Nat} {out : List Int} (h : RFl w B s sb a len cap z mo E v p out) (e : Nat) : RFl (w.setCell ⟨s, 3, none⟩ (.int .i64 (e : Nat))) B s sb a len cap z mo e v p out ∧ Moves s sb v v w (w.setCell ⟨s, 3, none⟩ (.int .i64 (e : Nat))) := by
  have hk : Kept (fun k => k = s) w (w.setCell ⟨s, 3, none⟩ (.int .i64 (e : Nat))) := (Kept.refl _ w).set 3 _
  refine ⟨⟨blk_set h.obj 3 _, h.bits.kept hk (fun e => h.sb' e.symm) (fun hl b off ea e2 => ?_), h.own.kept' hk (fun _ hi e2 => h.ns (e2 ▸ hi)), h.byte, h.fit, h.far, h.bs, h.bb, Nat.le_trans h.sz hk.size⟩, ⟨hk.mono fun _ _ e => .inl e, .inl rfl⟩⟩
  have := h.far b off hl ea
  have := h.bs
  omega
theorem fails_any (B s sb : Nat) (a : Option Addr) (len cap : Nat) (z : Nat → Nat) (mo : Int) (E : Nat) (v : Value) (p : Nat) (out : List Int) (e0 : Nat) (w : World) (h : RFl w B s sb a len cap z mo E v p out) :
    Calls Tryd.prog 35 #[.pointer (some ⟨s, 0, none⟩), .int .i64 (e0 : Nat)] w fun e w' => e = .returned (.bool false) ∧ RFl w' B s sb a len cap z mo (if E = 0 then e0 else E) v p out ∧ Moves s sb v v w w' := by
  have c3 : w.cell? ⟨s, 3, none⟩ = some (.int .i64 (E : Nat)) := blk_cell h.obj 3
  have f3 := blk_free h.obj 3
  by_cases hE : E = 0
  · have hE' : ((E : Int) == 0) = true := by rw [beq_iff_eq]; omega
    obtain ⟨hR, hM⟩ := h.wrong e0
    rw [if_pos hE]
    clear hE
    go_enter Tryd.func35, Tryd.ntmps35
    go_wp2
    go_ret
    exact ⟨rfl, hR, hM⟩
  · have hE' : ((E : Int) == 0) = false := by rw [beq_eq_false_iff_ne]; omega
    rw [if_neg hE]
    clear hE
    go_enter Tryd.func35, Tryd.ntmps35
    go_wp2
    go_ret
    exact ⟨rfl, h, Moves.refl _ _ _ _⟩
/-- What take answers. -/
def RTakeR (B s sb : Nat) (a : Option Addr) (len cap : Nat) (z : Nat → Nat) (mo : Int) (E : Nat) (v : Value) (p : Nat) (out : List Int) (n : Nat) (w : World) (e : Ending) (w' : World) : Prop :=
  ∃ t p' E' : Nat, e = .returned (.int .i64 (t : Nat)) ∧ RFl w' B s sb a len cap z mo E' v p' out ∧ Moves s sb v v w w' ∧ (p + n ≤ 8 * len ∧ t = takev z p n ∧ p' = p + n ∧ E' = E ∨ ¬ p + n ≤ 8 * len ∧ t = 0 ∧ p' = p ∧ E' = if E = 0 then 3 else E)
theorem rftake_any (B s sb : Nat) (a : Option Addr) (len cap : Nat) (z : Nat → Nat) (mo : Int) (E : Nat) (v : Value) (p : Nat) (out : List Int) (n : Nat) (hn : n ≤ 24) (w : World) (h : RFl w B s sb a len cap z mo E v p out) :
    Calls Tryd.prog 30 #[.pointer (some ⟨s, 0, none⟩), .int .i64 (n : Nat)] w (RTakeR B s sb a len cap z mo E v p out n w) := by
  have c0 : w.cell? ⟨s, 0, none⟩ = some (.pointer (some ⟨sb, 0, none⟩)) := blk_cell h.obj 0
  by_cases hp : p + n ≤ 8 * len
  · go_enter Tryd.func30, Tryd.ntmps30
    go_wp2_with fail
    refine (rtakeN_yes sb a len cap z p n hn _ h.bits hp).mono ?_
    rintro e w1 ⟨rfl, hB, hK⟩
    have hF := h.taken hB hK
    have HP : Hid (p + n ≤ 8 * len) := hp
    clear hp
    go_wp2
    go_ret
    exact ⟨_, _, _, rfl, hF, Moves.of_bits hK, .inl ⟨HP.out, rfl, rfl, rfl⟩⟩
  · go_enter Tryd.func30, Tryd.ntmps30
    go_wp2_with fail
    refine (rtakeN_no sb a len cap z p n hn _ h.bits hp).mono ?_
    rintro e w1 ⟨rfl, hB, hK⟩
    have hF := h.taken hB hK
    have HP : Hid (¬ p + n ≤ 8 * len) := hp
    clear hp
    go_wp2_with fail
    refine (fails_any B s sb a len cap z mo E v p out 3 _ hF).mono ?_
    rintro e w2 ⟨rfl, hF2, hM2⟩
    go_wp2
    go_ret
    exact ⟨0, _, _, rfl, hF2, (Moves.of_bits hK).trans hM2, .inr ⟨HP.out, rfl, rfl, rfl⟩⟩
end Go.Proofs.YtahibacjaoohiaaDoor
