/-
  The reference's Bits: Take of any few bits, Align.
  The reference's stream in memory: its bits, what came out, what went wrong; fails, take, put.
  The reference's put, length, distance.
  The reference's put.
-/
import Derived.Test.YtahibacjaoohiaaDoorRA
import Derived.Test.YtahibacjaoohiaaDoorInfl
import Derived.Test.YtahibacjaoohiaaDoorStrm
import Derived.Test.YtahibacjaoohiaaDoorPN
namespace Go.Proofs.YtahibacjaoohiaaDoor
open Go.RowKit

theorem within_few (n : Nat) (hn : n ≤ 24) (w : World) : Calls Tryd.prog 65 #[.int .i64 (n : Nat), .int .i64 0, .int .i64 24] w fun e w' => e = .returned (.int .i64 (n : Nat)) ∧ w' = w := by
  have h1 : ¬ (n : Int) < 0 := by omega
  have h2 : ¬ 24 < (n : Int) := by omega
  go_enter Tryd.func65, Tryd.ntmps65
  go_wp2
  all_goals
    go_ret
    exact ⟨ret_int (by (try split at *) <;> omega), rfl⟩
theorem ralign_any (sb : Nat) (a : Option Addr) (len cap : Nat) (z : Nat → Nat) (p : Nat) (w : World) (h : RBits w sb a len cap z p) :
    Calls Tryd.prog 49 #[.pointer (some ⟨sb, 0, none⟩)] w fun e w' => e = .returned (.tuple #[]) ∧ RBits w' sb a len cap z (up8 p) ∧ Kept (fun k => k = sb) w w' := by
  have hr := h.lies.reach
  have hl := h.lim
  have c1 : w.cell? ⟨sb, 1, none⟩ = some (.int .i64 p) := blk_cell h.obj 1
  have f1 := blk_free h.obj 1
  have R := rbits_set h (up8 p) (by unfold up8; omega) (v := ((up8 p : Nat) : Int)) rfl
  have K : Kept (fun k => k = sb) w (w.setCell ⟨sb, 1, none⟩ (.int .i64 ((up8 p : Nat) : Int))) := (Kept.refl _ w).set 1 _
  have hu : ((p : Int) + 7) / 8 * 8 = ((up8 p : Nat) : Int) := by unfold up8; omega
  go_enter Tryd.func49, Tryd.ntmps49
  go_wp2_with fail
  go_end0
  exact ⟨rfl, R, K⟩
set_option maxRecDepth 100000 in
set_option maxHeartbeats 1600000 in
theorem rtakeN_no (sb : Nat) (a : Option Addr) (len cap : Nat) (z : Nat → Nat) (p n : Nat) (hn24 : n ≤ 24) (w : World) (h : RBits w sb a len cap z p) (hn : ¬ p + n ≤ 8 * len) :
    Calls Tryd.prog 48 #[.pointer (some ⟨sb, 0, none⟩), .int .i64 (n : Nat)] w fun e w' => e = .returned (.tuple #[.int .i64 0, .bool false]) ∧ RBits w' sb a len cap z p ∧ Kept (fun k => k = sb) w w' := by
  have hr := h.lies.reach
  have hl := h.lim
  have c0 : w.cell? ⟨sb, 0, none⟩ = some (.slice a len cap) := blk_cell h.obj 0
  have c1 : w.cell? ⟨sb, 1, none⟩ = some (.int .i64 p) := blk_cell h.obj 1
  have hd : decide ((8 * (len : Int)) - (p : Int) < (n : Int)) = true := decide_eq_true (by omega)
  go_enter Tryd.func48, Tryd.ntmps48
  go_wp2_with fail
  refine (within_few n hn24 _).mono ?_
  rintro e w' ⟨rfl, rfl⟩
  go_wp2_with fail
  go_quiet (fail)
  go_wp2
  go_ret2
  exact ⟨rfl, h.kept (S := fun _ => False) ((Kept.refl _ _).drewN _) id (fun _ _ _ _ => id), (Kept.refl _ _).drewN _⟩
set_option maxRecDepth 100000 in
set_option maxHeartbeats 1600000 in
theorem rtakeN_yes (sb : Nat) (a : Option Addr) (len cap : Nat) (z : Nat → Nat) (p n : Nat) (hn24 : n ≤ 24) (w : World) (h : RBits w sb a len cap z p) (hn : p + n ≤ 8 * len) :
    Calls Tryd.prog 48 #[.pointer (some ⟨sb, 0, none⟩), .int .i64 (n : Nat)] w fun e w' => e = .returned (.tuple #[.int .i64 (takev z p n : Nat), .bool true]) ∧ RBits w' sb a len cap z (p + n) ∧ Kept (fun k => k = sb) w w' := by
  have hr := h.lies.reach
  have hlc := h.lies.lc
  have c0 : w.cell? ⟨sb, 0, none⟩ = some (.slice a len cap) := blk_cell h.obj 0
  have c1 : w.cell? ⟨sb, 1, none⟩ = some (.int .i64 p) := blk_cell h.obj 1
  have hd : decide ((8 * (len : Int)) - (p : Int) < (n : Int)) = false := decide_eq_false (by omega)
  go_enter Tryd.func48, Tryd.ntmps48
  go_wp2_with fail
  refine (within_few n hn24 _).mono ?_
  rintro e w' ⟨rfl, rfl⟩
  go_wp2_with fail
  go_quiet (fail)
  obtain ⟨W, hW⟩ : ∃ W, W = w'.drewN nq := ⟨_, rfl⟩
  rw [← hW]
  have R0 : RBits W sb a len cap z p := by rw [hW]; exact h.kept (S := fun _ => False) ((Kept.refl _ _).drewN _) id (fun _ _ _ _ => id)
  have K0 : Kept (fun k => k = sb) w' W := by rw [hW]; exact (Kept.refl _ _).drewN _
  clear hW c0 c1 hd
  go_wp2_with fail
  go_loopw [6, 7] (fun v j wq => ∃ k : Nat, k ≤ n ∧ j = .int .i64 (k : Nat) ∧ v = .int .i64 (takev z p k : Nat) ∧ RBits wq sb a len cap z (p + k) ∧ Kept (fun k => k = sb) w' wq) (fun _ j _ => n - (intOf j).toNat)
  case atStart => exact ⟨0, by omega, rfl, rfl, R0, K0⟩
  case round =>
    clear R0 K0 W
    obtain ⟨k, hk, rfl, rfl, R1, K1⟩ := hrel
    by_cases hkn : k < n
    · have hkn' : (k : Int) < (n : Int) := by omega
      obtain ⟨A, hA⟩ : ∃ A, Hid (p + k = A) := ⟨_, rfl⟩
      have hAl : A < 8 * len := by rw [← hA.out]; omega
      rw [hA.out] at R1
      have c0 : wr.cell? ⟨sb, 0, none⟩ = some (.slice a len cap) := blk_cell R1.obj 0
      have c1 : wr.cell? ⟨sb, 1, none⟩ = some (.int .i64 A) := blk_cell R1.obj 1
      have f1 := blk_free R1.obj 1
      obtain ⟨b, off, rfl, hb, hc⟩ := R1.lies.spot (by omega)
      have hci := hc (A / 8) (by omega)
      have hz := R1.lies.byte (A / 8)
      have hbl := bit_lt z A
      have hv : bits .and .u8 (((z (A / 8) : Nat) : Int) / 2 ^ (A % 8)) 1 = ((bit z A : Nat) : Int) := by
        have hle : z (A / 8) / 2 ^ (A % 8) ≤ z (A / 8) := Nat.div_le_self _ _
        rw [two_pow_cast, ← Int.natCast_ediv, and_one_u8 _ (by omega)]; rfl
      have hT := takev_lt z p k
      have hP : 2 ^ k ≤ 8388608 := Nat.le_trans (Nat.pow_le_pow_right (by omega) (show k ≤ 23 by omega)) (by decide)
      obtain ⟨T, hTe⟩ : ∃ T, Hid (takev z p k = T) := ⟨_, rfl⟩
      obtain ⟨P, hPe⟩ : ∃ P : Nat, Hid (2 ^ k = P) := ⟨_, rfl⟩
      have hPi : (2 : Int) ^ k = (P : Nat) := by rw [two_pow_cast, hPe.out]
      rw [hTe.out, hPe.out] at hT
      rw [hPe.out] at hP
      rw [hTe.out]
      have hk24 : k < 24 := by omega
      have Hstep : Hid (takev z p (k + 1) = T + bit z A * P) := by show takev z p k + bit z (p + k) * 2 ^ k = _; rw [hTe.out, hA.out, hPe.out]
      by_cases hb1 : bit z A = 1
      · rw [hb1] at hv
        go_wp2_with fail
        go_quiet (fail)
        have R2 : RBits (wr.drewN nq) sb (some ⟨b, off, none⟩) len cap z A := R1.kept (S := fun _ => False) ((Kept.refl _ _).drewN _) id (fun _ _ _ _ => id)
        have HB : Hid (bit z A = 1) := hb1
        clear hb1 hv hbl
        go_wp2
        exact ⟨⟨k + 1, by omega, by go_num, by rw [Hstep.out, HB.out]; congr 1; omega, by rw [← Nat.add_assoc, hA.out]; exact rbits_set R2 (A + 1) (by omega) (by omega), (K1.drewN _).set 1 _⟩, by simp [intOf]; omega⟩
      · have hb0 : bit z A = 0 := by omega
        rw [hb0] at hv
        go_wp2_with fail
        go_quiet (fail)
        have R2 : RBits (wr.drewN nq) sb (some ⟨b, off, none⟩) len cap z A := R1.kept (S := fun _ => False) ((Kept.refl _ _).drewN _) id (fun _ _ _ _ => id)
        have HB : Hid (bit z A = 0) := hb0
        clear hb0 hb1 hv hbl
        go_wp2
        exact ⟨⟨k + 1, by omega, by go_num, by rw [Hstep.out, HB.out]; congr 1; omega, by rw [← Nat.add_assoc, hA.out]; exact rbits_set R2 (A + 1) (by omega) (by omega), (K1.drewN _).set 1 _⟩, by simp [intOf]; omega⟩
    · have e : n = k := by omega
      have hkn' : ¬ (k : Int) < (n : Int) := by omega
      have HE : Hid (n = k) := e
      clear e
      go_wp2
      go_ret2
      have e := HE.out
      subst e
      exact ⟨rfl, R1, K1⟩
end Go.Proofs.YtahibacjaoohiaaDoor

namespace Go.Proofs.YtahibacjaoohiaaDoor
open Go.RowKit

/-- The reference's stream at block s: p bits are taken, out came out, E went wrong. -/
structure RFl (w : World) (B s sb : Nat) (a : Option Addr) (len cap : Nat) (z : Nat → Nat) (mo : Int) (E : Nat) (v : Value) (p : Nat) (out : List Int) : Prop where
  obj : w.heap[s]? = some (.cells #[.pointer (some ⟨sb, 0, none⟩), v, .int .i64 mo, .int .i64 (E : Nat)] 68)
  bits : RBits w sb a len cap z p
  own : OwnV w B 5 .u8 v out
  byte : ∀ q, 0 ≤ out.getD q 0 ∧ out.getD q 0 < 256
  fit : out.length ≤ 140737488355000
  far : ∀ b off, 0 < len → a = some ⟨b, off, none⟩ → b < B
  bs : B ≤ s
  bb : B ≤ sb
  sz : B ≤ w.heap.size
theorem RFl.sb' {w : World} {B s sb : Nat} {a : Option Addr} {len cap : Nat} {z : Nat → Nat} {mo : Int} {E : Nat} {v : Value} {p : Nat} {out : List Int} (h : RFl w B s sb a len cap z mo E v p out) : s ≠ sb := fun e => by
  have h1 := h.obj; rw [e, h.bits.obj] at h1; simp at h1
theorem RFl.ns {w : World} {B s sb : Nat} {a : Option Addr} {len cap : Nat} {z : Nat → Nat} {mo : Int} {E : Nat} {v : Value} {p : Nat} {out : List Int} (h : RFl w B s sb a len cap z mo E v p out) : v.ownBlock ≠ some s := fun e => by
  obtain ⟨c, h1, _⟩ := own_kind h.own e
  rw [h.obj] at h1; simp at h1
theorem RFl.nb {w : World} {B s sb : Nat} {a : Option Addr} {len cap : Nat} {z : Nat → Nat} {mo : Int} {E : Nat} {v : Value} {p : Nat} {out : List Int} (h : RFl w B s sb a len cap z mo E v p out) : v.ownBlock ≠ some sb := fun e => by
  obtain ⟨c, h1, _⟩ := own_kind h.own e
  rw [h.bits.obj] at h1; simp at h1
theorem RFl.mine {w : World} {B s sb : Nat} {a : Option Addr} {len cap : Nat} {z : Nat → Nat} {mo : Int} {E : Nat} {v : Value} {p : Nat} {out : List Int} (h : RFl w B s sb a len cap z mo E v p out) {k : Nat} (hm : Mine s sb v k) : B ≤ k ∧ k < w.heap.size := by
  rcases hm with rfl | rfl | e
  · exact ⟨h.bs, blk_lt h.obj⟩
  · exact ⟨h.bb, blk_lt h.bits.obj⟩
  · obtain ⟨c, h1, h2⟩ := own_kind h.own e; exact ⟨h2, blk_lt h1⟩
/-- New blocks alone. -/
theorem RFl.below {w w' : World} {B s sb : Nat} {a : Option Addr} {len cap : Nat} {z : Nat → Nat} {mo : Int} {E : Nat} {v : Value} {p : Nat} {out : List Int} (h : RFl w B s sb a len cap z mo E v p out) (k : Below w.heap.size w w') : RFl w' B s sb a len cap z mo E v p out :=
  ⟨Below.blk k h.obj (blk_lt h.obj), h.bits.below k, h.own.below k, h.byte, h.fit, h.far, h.bs, h.bb, Nat.le_trans h.sz k.size⟩
/-- Its bits alone have moved. -/
theorem RFl.taken {w w' : World} {B s sb : Nat} {a : Option Addr} {len cap : Nat} {z : Nat → Nat} {mo : Int} {E : Nat} {v : Value} {p q : Nat} {out : List Int} (h : RFl w B s sb a len cap z mo E v p out) (hb : RBits w' sb a len cap z q) (hk : Kept (fun k => k = sb) w w') : RFl w' B s sb a len cap z mo E v q out :=
  ⟨hk.blk h.obj h.sb', hb, h.own.kept' hk (fun _ hi e => h.nb (e ▸ hi)), h.byte, h.fit, h.far, h.bs, h.bb, Nat.le_trans h.sz hk.size⟩
/-- What went wrong is written. -/
theorem RFl.wrong {w : World} {B s sb : Nat} {a : Option Addr} {len cap : Nat} {z : Nat → Nat} {mo : Int} {E : Nat} {v : Value} {p : Nat} {out : List Int} (h : RFl w B s sb a len cap z mo E v p out) (e : Nat) : RFl (w.setCell ⟨s, 3, none⟩ (.int .i64 (e : Nat))) B s sb a len cap z mo e v p out ∧ Moves s sb v v w (w.setCell ⟨s, 3, none⟩ (.int .i64 (e : Nat))) := by
  have hk : Kept (fun k => k = s) w (w.setCell ⟨s, 3, none⟩ (.int .i64 (e : Nat))) := (Kept.refl _ w).set 3 _
  refine ⟨⟨blk_set h.obj 3 _, h.bits.kept hk (fun e => h.sb' e.symm) (fun hl b off ea e2 => ?_), h.own.kept' hk (fun _ hi e2 => h.ns (e2 ▸ hi)), h.byte, h.fit, h.far, h.bs, h.bb, Nat.le_trans h.sz hk.size⟩, ⟨hk.mono fun _ _ e => .inl e, .inl rfl⟩⟩
  have := h.far b off hl ea
  have := h.bs
  omega
theorem fails_any (B s sb : Nat) (a : Option Addr) (len cap : Nat) (z : Nat → Nat) (mo : Int) (E : Nat) (v : Value) (p : Nat) (out : List Int) (e0 : Nat) (w : World) (h : RFl w B s sb a len cap z mo E v p out) :
    Calls Tryd.prog 35 #[.pointer (some ⟨s, 0, none⟩), .int .i64 (e0 : Nat)] w fun e w' => e = .returned (.bool false) ∧ RFl w' B s sb a len cap z mo (if E = 0 then e0 else E) v p out ∧ Moves s sb v v w w' := by
  have c3 : w.cell? ⟨s, 3, none⟩ = some (.int .i64 (E : Nat)) := blk_cell h.obj 3
  have f3 := blk_free h.obj 3
  by_cases hE : E = 0
  · have hE' : ((E : Int) == 0) = true := by rw [beq_iff_eq]; omega
    obtain ⟨hR, hM⟩ := h.wrong e0
    rw [if_pos hE]
    clear hE
    go_enter Tryd.func35, Tryd.ntmps35
    go_wp2
    go_ret
    exact ⟨rfl, hR, hM⟩
  · have hE' : ((E : Int) == 0) = false := by rw [beq_eq_false_iff_ne]; omega
    rw [if_neg hE]
    clear hE
    go_enter Tryd.func35, Tryd.ntmps35
    go_wp2
    go_ret
    exact ⟨rfl, h, Moves.refl _ _ _ _⟩
/-- What take answers. -/
def RTakeR (B s sb : Nat) (a : Option Addr) (len cap : Nat) (z : Nat → Nat) (mo : Int) (E : Nat) (v : Value) (p : Nat) (out : List Int) (n : Nat) (w : World) (e : Ending) (w' : World) : Prop :=
  ∃ t p' E' : Nat, e = .returned (.int .i64 (t : Nat)) ∧ RFl w' B s sb a len cap z mo E' v p' out ∧ Moves s sb v v w w' ∧ (p + n ≤ 8 * len ∧ t = takev z p n ∧ p' = p + n ∧ E' = E ∨ ¬ p + n ≤ 8 * len ∧ t = 0 ∧ p' = p ∧ E' = if E = 0 then 3 else E)
theorem rftake_any (B s sb : Nat) (a : Option Addr) (len cap : Nat) (z : Nat → Nat) (mo : Int) (E : Nat) (v : Value) (p : Nat) (out : List Int) (n : Nat) (hn : n ≤ 24) (w : World) (h : RFl w B s sb a len cap z mo E v p out) :
    Calls Tryd.prog 30 #[.pointer (some ⟨s, 0, none⟩), .int .i64 (n : Nat)] w (RTakeR B s sb a len cap z mo E v p out n w) := by
  have c0 : w.cell? ⟨s, 0, none⟩ = some (.pointer (some ⟨sb, 0, none⟩)) := blk_cell h.obj 0
  by_cases hp : p + n ≤ 8 * len
  · go_enter Tryd.func30, Tryd.ntmps30
    go_wp2_with fail
    refine (rtakeN_yes sb a len cap z p n hn _ h.bits hp).mono ?_
    rintro e w1 ⟨rfl, hB, hK⟩
    have hF := h.taken hB hK
    have HP : Hid (p + n ≤ 8 * len) := hp
    clear hp
    go_wp2
    go_ret
    exact ⟨_, _, _, rfl, hF, Moves.of_bits hK, .inl ⟨HP.out, rfl, rfl, rfl⟩⟩
  · go_enter Tryd.func30, Tryd.ntmps30
    go_wp2_with fail
    refine (rtakeN_no sb a len cap z p n hn _ h.bits hp).mono ?_
    rintro e w1 ⟨rfl, hB, hK⟩
    have hF := h.taken hB hK
    have HP : Hid (¬ p + n ≤ 8 * len) := hp
    clear hp
    go_wp2_with fail
    refine (fails_any B s sb a len cap z mo E v p out 3 _ hF).mono ?_
    rintro e w2 ⟨rfl, hF2, hM2⟩
    go_wp2
    go_ret
    exact ⟨0, _, _, rfl, hF2, (Moves.of_bits hK).trans hM2, .inr ⟨HP.out, rfl, rfl, rfl⟩⟩
end Go.Proofs.YtahibacjaoohiaaDoor

namespace Go.Proofs.YtahibacjaoohiaaDoor
open Go.RowKit

theorem rlength_any (s : Nat) (h : 257 ≤ s) (h2 : s ≤ 285) (w : World) : Calls Tryd.prog 53 #[.int .i64 (s : Nat)] w fun e w' => e = .returned (.tuple #[.int .i64 (if s = 285 then 258 else sumL (s - 257) : Nat), .int .i64 (if s = 285 then 0 else morev s : Nat)]) ∧ w' = w := by
  rcases (show s = 257 ∨ s = 258 ∨ s = 259 ∨ s = 260 ∨ s = 261 ∨ s = 262 ∨ s = 263 ∨ s = 264 ∨ s = 265 ∨ s = 266 ∨ s = 267 ∨ s = 268 ∨ s = 269 ∨ s = 270 ∨ s = 271 ∨ s = 272 ∨ s = 273 ∨ s = 274 ∨ s = 275 ∨ s = 276 ∨ s = 277 ∨ s = 278 ∨ s = 279 ∨ s = 280 ∨ s = 281 ∨ s = 282 ∨ s = 283 ∨ s = 284 ∨ s = 285 by omega) with rfl | rfl | rfl | rfl | rfl | rfl | rfl | rfl | rfl | rfl | rfl | rfl | rfl | rfl | rfl | rfl | rfl | rfl | rfl | rfl | rfl | rfl | rfl | rfl | rfl | rfl | rfl | rfl | rfl
  all_goals
    go_enter Tryd.func53, Tryd.ntmps53
    go_wp2
    go_ret2
    exact ⟨rfl, rfl⟩
theorem rdistance_any (s : Nat) (h2 : s ≤ 29) (w : World) : Calls Tryd.prog 54 #[.int .i64 (s : Nat)] w fun e w' => e = .returned (.tuple #[.int .i64 (sumD s : Nat), .int .i64 (farv s : Nat)]) ∧ w' = w := by
  rcases (show s = 0 ∨ s = 1 ∨ s = 2 ∨ s = 3 ∨ s = 4 ∨ s = 5 ∨ s = 6 ∨ s = 7 ∨ s = 8 ∨ s = 9 ∨ s = 10 ∨ s = 11 ∨ s = 12 ∨ s = 13 ∨ s = 14 ∨ s = 15 ∨ s = 16 ∨ s = 17 ∨ s = 18 ∨ s = 19 ∨ s = 20 ∨ s = 21 ∨ s = 22 ∨ s = 23 ∨ s = 24 ∨ s = 25 ∨ s = 26 ∨ s = 27 ∨ s = 28 ∨ s = 29 by omega) with rfl | rfl | rfl | rfl | rfl | rfl | rfl | rfl | rfl | rfl | rfl | rfl | rfl | rfl | rfl | rfl | rfl | rfl | rfl | rfl | rfl | rfl | rfl | rfl | rfl | rfl | rfl | rfl | rfl | rfl
  all_goals
    go_enter Tryd.func54, Tryd.ntmps54
    go_wp2
    go_ret2
    exact ⟨rfl, rfl⟩
end Go.Proofs.YtahibacjaoohiaaDoor

namespace Go.Proofs.YtahibacjaoohiaaDoor
open Go.RowKit

set_option maxHeartbeats 1600000 in
theorem rput_no (B s sb : Nat) (a : Option Addr) (len cap : Nat) (z : Nat → Nat) (mo : Int) (most : Nat) (hm : (most : Int) = if mo < 0 then 0 else mo) (E : Nat) (v : Value) (p : Nat) (out : List Int) (c : Int) (w : World) (h : RFl w B s sb a len cap z mo E v p out) (hp : most ≤ out.length) :
    Calls Tryd.prog 50 #[.pointer (some ⟨s, 0, none⟩), .int .u8 c] w fun e w' => e = .returned (.bool false) ∧ RFl w' B s sb a len cap z mo (if E = 0 then 4 else E) v p out ∧ Moves s sb v v w w' := by
  obtain ⟨a1, cap1, rfl⟩ := h.own.form
  have c1 : w.cell? ⟨s, 1, none⟩ = some (.slice a1 out.length cap1) := blk_cell h.obj 1
  have c2 : w.cell? ⟨s, 2, none⟩ = some (.int .i64 mo) := blk_cell h.obj 2
  have h2 := h.fit
  obtain ⟨E1, hE1⟩ : ∃ E1, Hid ((if E = 0 then 4 else E) = E1) := ⟨_, rfl⟩
  rw [hE1.out]
  have HH : Hid (RFl w B s sb a len cap z mo E (.slice a1 out.length cap1) p out) := h
  clear h
  by_cases hpos : 0 < mo
  all_goals
    first
      | (have k2 : mo ≤ (out.length : Int) := by rw [if_neg (by omega)] at hm; omega
         have k3 : decide (mo ≤ (out.length : Int)) = true := decide_eq_true k2)
      | (have k1 : ¬ 0 < mo := hpos)
    have HM : Hid ((most : Int) = if mo < 0 then 0 else mo) := hm
    clear hm
    go_enter Tryd.func50, Tryd.ntmps50
    go_wp2_with fail
    go_quiet (fail)
    go_wp2_with fail
    refine (fails_any B s sb a len cap z mo E _ p out 4 _ (HH.out.below (below_drewN (Below.refl _ _) nq))).mono ?_
    rw [hE1.out]
    rintro e w2 ⟨rfl, hF2, hM2⟩
    go_wp2
    go_ret
    exact ⟨rfl, hF2, ((Moves.refl _ _ _ _).drewN _).trans hM2⟩
theorem rgrown_obj {w W w1 : World} {B s sb : Nat} {aa : Option Addr} {len cp : Nat} {z : Nat → Nat} {mo : Int} {E : Nat} {v : Value} {p : Nat} {out : List Int} {a : Option Addr} {cap : Nat} {o : Obj} {n : Nat} (hv : v = .slice a out.length cap) (_hW : W = (w.drewN n).alloc o) (HS : RFl W B s sb aa len cp z mo E v p out) (h : RFl w B s sb aa len cp z mo E v p out)
    (hg : World.grownBy ((w.drewN n).alloc o) w1 (Value.slice a out.length cap).ownBlock) :
    w1.cell? ⟨s, 1, none⟩ = some (.slice a out.length cap) ∧ w1.frozen? ⟨s, 1, none⟩ = false ∧ w1.heap[s]? = some (.cells #[.pointer (some ⟨sb, 0, none⟩), v, .int .i64 mo, .int .i64 (E : Nat)] 68) := by
  rw [← hv, ← _hW] at hg
  have ob1 : w1.heap[s]? = some (.cells #[.pointer (some ⟨sb, 0, none⟩), v, .int .i64 mo, .int .i64 (E : Nat)] 68) := (hg.block s (blk_lt HS.obj) (fun e => h.ns e.symm)).trans HS.obj
  exact ⟨by rw [← hv]; exact blk_cell ob1 1, blk_free ob1 1, ob1⟩
theorem rput_end {w W w1 : World} {B s sb : Nat} {aa : Option Addr} {len cp : Nat} {z : Nat → Nat} {mo : Int} {E : Nat} {v : Value} {p : Nat} {out : List Int} {a : Option Addr} {cap : Nat} {o : Obj} {n : Nat} {c : Int} {g' cap' : Nat} (hv : v = .slice a out.length cap) (hW : W = (w.drewN n).alloc o) (HM : Moves s sb v v w W) (HS : RFl W B s sb aa len cp z mo E v p out) (h : RFl w B s sb aa len cp z mo E v p out) (hc0 : 0 ≤ c) (hc1 : c < 256) (hp : out.length < 140737488355000)
    (hR : Own w1 B 5 .u8 g' cap' (out ++ [c]) ∧ World.grownBy ((w.drewN n).alloc o) w1 (Value.slice a out.length cap).ownBlock ∧ ((Value.slice a out.length cap).ownBlock = some g' ∨ g' = ((w.drewN n).alloc o).heap.size))
    (ob1 : w1.heap[s]? = some (.cells #[.pointer (some ⟨sb, 0, none⟩), v, .int .i64 mo, .int .i64 (E : Nat)] 68)) :
    ∃ v', RFl (w1.setCell ⟨s, 1, none⟩ (.slice (some ⟨g', 0, none⟩) (out.length + 1) cap')) B s sb aa len cp z mo E v' p (out ++ [c]) ∧ Moves s sb v v' w (w1.setCell ⟨s, 1, none⟩ (.slice (some ⟨g', 0, none⟩) (out.length + 1) cap')) := by
  rw [← hv, ← hW] at hR
  obtain ⟨ho, hg, hat⟩ := hR
  have kW : Kept (Mine s sb v) W w1 := ⟨hg.os, hg.tape, hg.output, hg.size, fun k hk hm => hg.block k hk (fun e => hm (.inr (.inr e.symm)))⟩
  have hne : g' ≠ s := fun e => by
    rcases hat with h' | h'
    · exact h.ns (e ▸ h')
    · have := blk_lt HS.obj; omega
  have mW : Moves s sb v (.slice (some ⟨g', 0, none⟩) (out.length + 1) cap') W (w1.setCell ⟨s, 1, none⟩ (.slice (some ⟨g', 0, none⟩) (out.length + 1) cap')) := by
    refine ⟨kW.setCell (.inl (.inl rfl)) _, ?_⟩
    rcases hat with h' | h'
    · left; rw [h']; rfl
    · right; intro k hk; simp [Value.ownBlock] at hk; omega
  have K2 : Kept (fun k => k = s ∨ v.ownBlock = some k) W (w1.setCell ⟨s, 1, none⟩ (.slice (some ⟨g', 0, none⟩) (out.length + 1) cap')) := by
    have k1 : Kept (fun k => k = s ∨ v.ownBlock = some k) W w1 := ⟨hg.os, hg.tape, hg.output, hg.size, fun k hk hm => hg.block k hk (fun e => hm (.inr e.symm))⟩
    exact k1.setCell (.inl (.inl rfl)) _
  refine ⟨.slice (some ⟨g', 0, none⟩) (out.length + 1) cap', ⟨blk_set ob1 1 _, HS.bits.kept K2 ?_ ?_, ?_, ?_, ?_, h.far, h.bs, h.bb, Nat.le_trans HS.sz mW.kept.size⟩, HM.trans mW⟩
  · rintro (e | e)
    · exact h.sb' e.symm
    · exact h.nb e
  · rintro hl b off ea (e | e)
    · have := h.far b off hl ea; have := h.bs; omega
    · have := h.far b off hl ea
      have := (h.mine (.inr (.inr e))).1
      omega
  · exact own_v (ho.blk (blk_other _ hne)) (by simp)
  · intro q
    rw [getD_snoc]
    split
    · exact h.byte q
    · split <;> omega
  · simp; omega
set_option maxHeartbeats 1600000 in
theorem rput_yes (B s sb : Nat) (a : Option Addr) (len cap : Nat) (z : Nat → Nat) (mo : Int) (most : Nat) (hm : (most : Int) = if mo < 0 then 0 else mo) (hml : most ≤ 140737488355000) (E : Nat) (v : Value) (p : Nat) (out : List Int) (c : Int) (hc0 : 0 ≤ c) (hc1 : c < 256) (w : World) (h : RFl w B s sb a len cap z mo E v p out) (hp : ¬ most ≤ out.length) :
    Calls Tryd.prog 50 #[.pointer (some ⟨s, 0, none⟩), .int .u8 c] w fun e w' => e = .returned (.bool true) ∧ ∃ v', RFl w' B s sb a len cap z mo E v' p (out ++ [c]) ∧ Moves s sb v v' w w' := by
  obtain ⟨a1, cap1, hv⟩ := h.own.form
  have c1 : w.cell? ⟨s, 1, none⟩ = some (.slice a1 out.length cap1) := by rw [← hv]; exact blk_cell h.obj 1
  have c2 : w.cell? ⟨s, 2, none⟩ = some (.int .i64 mo) := blk_cell h.obj 2
  have hneg : ¬ mo < 0 := fun e => by rw [if_pos e] at hm; omega
  have k1 : 0 < mo := by rw [if_neg hneg] at hm; omega
  have k3 : decide (mo ≤ (out.length : Int)) = false := decide_eq_false (by rw [if_neg hneg] at hm; omega)
  have k4 : mo ≤ 140737488355000 := by rw [if_neg hneg] at hm; omega
  have hol : out.length < 140737488355000 := by omega
  have HMo : Hid ((most : Int) = if mo < 0 then 0 else mo) := hm
  clear hm hneg
  go_enter Tryd.func50, Tryd.ntmps50
  go_wp2_with fail
  go_quiet (fail)
  obtain ⟨W, hW⟩ : ∃ W, Hid (W = (w.drewN nq).alloc (.cells #[.int .u8 c] 5)) := ⟨_, rfl⟩
  have bW : Below w.heap.size w W := by rw [hW.out]; exact (below_drewN (Below.refl _ w) nq).alloc (Nat.le_refl _) _
  have HS : RFl W B s sb a len cap z mo E v p out := h.below bW
  have HM : Moves s sb v v w W := Moves.of_below bW
  have HB : W.heap[w.heap.size]? = some (.cells #[.int .u8 c] 5) := by rw [hW.out]; exact blk_new (w.drewN nq) _
  have happ := HS.own.one HS.sz HB (by omega)
  rw [hv, hW.out] at happ
  have HAP : Hid (_) := happ
  have HSb : Hid (RFl W B s sb a len cap z mo E v p out) := HS
  have HH : Hid (RFl w B s sb a len cap z mo E v p out) := h
  clear happ HB HS h bW
  go_wp2_with (at_builtin; refine wpList_append_ex rfl (.tmp 22) (.tmp 24) 23 rfl rfl rfl HAP.out ?_; rintro g' cap' w1 hR; have ob1 := rgrown_obj hv hW.out HSb.out HH.out hR.2.1; have d1 := ob1.1; have d2 := ob1.2.1; have d3 := ob1.2.2; clear ob1; have HR : Hid (_) := hR; clear hR)
  go_ret
  exact ⟨rfl, rput_end hv hW.out HM HSb.out HH.out hc0 hc1 hol HR.out d3⟩
end Go.Proofs.YtahibacjaoohiaaDoor
