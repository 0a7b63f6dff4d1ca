/-
  versalhand.Font, the laws' open and plain, as contracts; what a plain font tells.
-/
import Derived.Test.YtninhcnpjadjpaaBse
import Derived.Test.YtninhcnpjadjpaaRrg
namespace Go.Proofs.Ytninhcnpjadjpaa
open Go.RowKit

theorem recsB_byt {s : Nat → ByteArray} {t : Nat → Tab} {o : Nat} : ∀ {n : Nat}, Byt (recsB s t o n)
  | 0 => nil_byt
  | _ + 1 => Byt.append recsB_byt (Byt.append (txtL_byt _) (Byt.append (fun i => by rcases i with _ | _ | _ | _ | i <;> simp [zer4]) (Byt.append (wd4_byt _) (wd4_byt _))))
theorem bodyB_byt {t : Nat → Tab} : ∀ {n : Nat}, (∀ k, k < n → ∀ i, (t k).z i < 256) → Byt (bodyB t n)
  | 0, _ => nil_byt
  | n + 1, h => Byt.append (bodyB_byt fun k hk => h k (by omega)) (byt_of (h n (by omega)))
theorem headB_byt {n : Nat} (hn : n ≤ 64) : Byt (headB n) := by
  refine Byt.append (Byt.append ?_ ?_) (rep_byt 6)
  · repeat (first | exact nil_byt | refine cons_byt (by omega) (by omega) ?_)
  · repeat (first | exact nil_byt | refine cons_byt (by omega) (by omega) ?_)
theorem layB_byt {s : Nat → ByteArray} {t : Nat → Tab} {n : Nat} (hn : n ≤ 64) (hz : ∀ k, k < n → ∀ i, (t k).z i < 256) : Byt (layB s t n) :=
  Byt.append (Byt.append (headB_byt hn) recsB_byt) (bodyB_byt hz)

/-- What the law's open answers. -/
def OpenR (z : Nat → Nat) (len : Nat) (w : World) (e : Ending) (w' : World) : Prop :=
  Below w.heap.size w w' ∧ ((Hid (opnv z len ≠ 0) ∧ e = .returned (.tuple #[.pointer none, .pointer none])) ∨
    (Hid (opnv z len = 0) ∧ ∃ p q, e = .returned (.tuple #[.pointer (some ⟨p, 0, none⟩), .pointer (some ⟨q, 0, none⟩)]) ∧ FOk w' p len z ∧ RFz w' q z))
set_option maxHeartbeats 800000 in
theorem opens_any (a : Option Addr) (len cap : Nat) (z : Nat → Nat) (w : World) (h : Lies w a len cap z) (hl : len ≤ 150000000000000) :
    Calls Try.prog 10 #[.slice a len cap] w (OpenR z len w) := by
  have T := open_any a len cap z w h hl
  go_enter Try.func10, Try.ntmps10
  go_wp2_with fail
  refine T.mono ?_
  rintro e w1 ⟨b1, hh⟩
  have h1 := h.below b1 (Nat.le_refl _)
  have T2 := ropen_any a len cap z w1 h1 hl
  clear T h
  rcases hh with ⟨ho, rfl⟩ | ⟨ho, p, rfl, hp, hF⟩
  · go_wp2_with fail
    refine T2.mono ?_
    rintro e w2 ⟨b2, ⟨_, rfl⟩ | ⟨ho2, _⟩⟩
    · have B2 := b1.trans (b2.mono b1.size)
      clear T2
      go_wp2
      go_ret2
      exact ⟨B2, .inl ⟨ho, rfl⟩⟩
    · exact (ho.out ho2.out).elim
  · go_wp2_with fail
    refine T2.mono ?_
    rintro e w2 ⟨b2, ⟨ho2, _⟩ | ⟨_, q, rfl, t, hR, ht⟩⟩
    · exact (ho2.out ho.out).elim
    · have B2 := b1.trans (b2.mono b1.size)
      have F2 : FOk w2 p len z := ⟨hF.below b2 (Nat.le_refl _), ho.out⟩
      clear T2 hF
      go_wp2
      go_ret2
      exact ⟨B2, .inr ⟨ho, p, q, rfl, F2, ⟨t, hR, ht⟩⟩⟩
theorem font_any (a : Option Addr) (n cap : Nat) (s : Nat → ByteArray) (a2 : Option Addr) (cap2 : Nat) (t : Nat → Tab) (w : World) (h : Strs w a n cap s) (h2 : Tabs w a2 n cap2 t) (hn : n ≤ 64) (hok : okN s n = true) (hS : sumN t n ≤ 140737488400000) :
    Calls Try.prog 11 #[.slice a n cap, .slice a2 n cap2] w fun e w' => ∃ g c, e = .returned (.slice (some ⟨g, 0, none⟩) (layB s t n).length c) ∧ Lies w' (some ⟨g, 0, none⟩) (layB s t n).length c (zb (layB s t n)) ∧ Below w.heap.size w w' := by
  have R := rlay_any a n cap s a2 cap2 t w h h2 hn hS
  have hb : Byt (layB s t n) := layB_byt hn fun k hk => (h2.each k hk).byte
  have hlen := layB_len (t := t) hok
  have hlen2 : (layB s t n).length ≤ 150000000000000 := by omega
  clear hlen
  go_enter Try.func11, Try.ntmps11
  go_wp2_with fail
  refine R.mono ?_
  rintro e w1 ⟨b1, ⟨ho, _⟩ | ⟨_, g, c, rfl, hO⟩⟩
  · rw [hok] at ho; exact absurd ho.out (by simp)
  · have hL := hO.liesB hb hlen2
    obtain ⟨N, hN⟩ : ∃ x, (layB s t n).length = x := ⟨_, rfl⟩
    rw [hN] at hL ⊢
    clear R h h2 hO
    go_wp2
    go_ret
    subst hN
    exact ⟨g, c, rfl, hL, b1⟩

/-- A plain font's bytes. -/
structure Pl (z : Nat → Nat) (len : Nat) (u n : Nat) (b : Bool) (t : Nat → Tab) : Prop where
  ok : opnv z len = 0
  le : len ≤ 1000000
  h : TbEq (look z hdT) 54 (zb (headL u b))
  m : TbEq (look z mxT) 6 (zb (maxL n))
  l : TbEq (look z lcT) (entW b * (n + 1)) (zb (locB t b (n + 1)))
  g : TbEq (look z gfT) (glen t n) (zb (glyB t n))
theorem sum4 (T : Nat → Tab) : sumN T 4 = (T 0).l + (T 1).l + (T 2).l + (T 3).l := by simp [sumN]
theorem bcon_sum {T : Nat → Tab} {u n : Nat} {b : Bool} {t : Nat → Tab} (hC : BCon T u n b t) (hn : n ≤ 12) (hl : ∀ k, k < n → (t k).l ≤ 40) : sumN T 4 ≤ 600 := by
  have h4 : entW b ≤ 4 := by cases b <;> decide
  have h1 := Nat.mul_le_mul_right (n + 1) h4
  have h2 := glen_le hl (Nat.le_refl n)
  rw [sum4, hC.h.1, hC.m.1, hC.l.1, hC.g.1]
  omega
theorem pl_of {T : Nat → Tab} {u n : Nat} {b : Bool} {t : Nat → Tab} (hC : BCon T u n b t) (hn : n ≤ 12) (hl : ∀ k, k < n → (t k).l ≤ 40) : Pl (zb (layB tag4 T 4)) (layB tag4 T 4).length u n b t := by
  have hs := bcon_sum hC hn hl
  have h0 := look_eq (t := T) tag4_ok (by omega) (by omega) (show 0 < 4 by omega)
  have h1 := look_eq (t := T) tag4_ok (by omega) (by omega) (show 1 < 4 by omega)
  have h2 := look_eq (t := T) tag4_ok (by omega) (by omega) (show 2 < 4 by omega)
  have h3 := look_eq (t := T) tag4_ok (by omega) (by omega) (show 3 < 4 by omega)
  rw [hC.h.1, hC.h.2] at h0
  rw [hC.m.1, hC.m.2] at h1
  rw [hC.l.1, hC.l.2] at h2
  rw [hC.g.1, hC.g.2] at h3
  refine ⟨(laid_ok tag4_ok (by omega) (by omega)).2, ?_, h0, h1, h2, h3⟩
  rw [layB_len tag4_ok]
  omega
theorem Pl.hdE {z : Nat → Nat} {len u n : Nat} {b : Bool} {t : Nat → Tab} (h : Pl z len u n b t) (hu : u < 65536) : hdE (look z hdT) = if u < 16 ∨ 16384 < u then 2 else 0 := by
  have hb : ¬ 1 < (if b = true then 1 else 0) := by cases b <;> simp
  rw [h.h.hd, if_neg (by omega), head_u, head_f, Nat.mod_eq_of_lt hu]
  by_cases e : u < 16 ∨ 16384 < u
  · rw [if_pos e, if_pos (by omega)]
  · rw [if_neg e, if_neg (by omega)]
theorem Pl.mxE {z : Nat → Nat} {len u n : Nat} {b : Bool} {t : Nat → Tab} (h : Pl z len u n b t) (hn : n < 65536) : mxE (look z mxT) = if n = 0 then 2 else 0 := by
  rw [h.m.mx, if_neg (by omega), maxp_n, Nat.mod_eq_of_lt hn]
theorem Pl.rdM {z : Nat → Nat} {len u n : Nat} {b : Bool} {t : Nat → Tab} (h : Pl z len u n b t) (hu : u < 65536) (hn : n < 65536) (h0 : rdE (look z hdT) (look z mxT) = 0) : rdM (look z hdT) (look z mxT) = ⟨u, n, b⟩ := by
  unfold Go.Proofs.Ytninhcnpjadjpaa.rdM
  rw [if_pos h0, h.h.u16 (by omega), h.h.u16 (by omega), h.m.u16 (by omega), head_u, head_f, maxp_n, Nat.mod_eq_of_lt hu, Nat.mod_eq_of_lt hn]
  cases b <;> rfl
theorem Pl.rng {z : Nat → Nat} {len u n : Nat} {b : Bool} {t : Nat → Tab} (h : Pl z len u n b t) (hn : n ≤ 12) (hl : ∀ k, k < n → (t k).l ≤ 40) {k : Nat} (hk : k < n) : rngO (look z lcT) (look z gfT) b k = (glen t k, glen t (k + 1), 0) := by
  have h1 := glen_le hl (k := k) (by omega)
  have h2 := glen_le hl (k := k + 1) (by omega)
  have h3 := glen_mono t (n := n) (k := k + 1) (by omega)
  have h4 := glen_mono t (n := k + 1) (k := k) (by omega)
  rw [h.l.rng h.g, if_pos (Nat.mul_le_mul_left _ (by omega)), loc_at (by omega) (by omega), loc_at (by omega) (by omega), if_neg (by omega)]

set_option maxHeartbeats 800000 in
theorem plain_any (u : Nat) (a : Option Addr) (n cap : Nat) (t : Nat → Tab) (b : Bool) (w : World) (h : Tabs w a n cap t) (hn : n ≤ 12) (hl : ∀ k, k < n → (t k).l ≤ 40) :
    Calls Try.prog 12 #[.int .i64 (u : Nat), .bool b, .slice a n cap] w fun e w' => ∃ g len c z, e = .returned (.slice (some ⟨g, 0, none⟩) len c) ∧ Lies w' (some ⟨g, 0, none⟩) len c z ∧ Below w.heap.size w w' ∧ Pl z len u n b t := by
  have BA := base_any u a n cap t b w h hn hl
  clear h
  go_enter Try.func12, Try.ntmps12
  go_wp2_with fail
  refine BA.mono ?_
  rintro e w1 ⟨gt, gl, T, rfl, b1, hgl, hB, hC⟩
  have F := font_any _ 4 4 tag4 _ 4 T w1 hB.strs hB.tables (by omega) tag4_ok (by have := bcon_sum hC hn hl; omega)
  clear BA hB
  go_wp2_with fail
  refine F.mono ?_
  rintro e w2 ⟨g, c, rfl, hL, b2⟩
  have B2 := b1.trans (b2.mono b1.size)
  have hP := pl_of hC hn hl
  obtain ⟨N, hN⟩ : ∃ x, (layB tag4 T 4).length = x := ⟨_, rfl⟩
  rw [hN] at hL hP ⊢
  clear F hC
  go_wp2
  go_ret
  exact ⟨g, N, c, _, rfl, hL, B2, hP⟩
end Go.Proofs.Ytninhcnpjadjpaa
