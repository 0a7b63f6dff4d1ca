/-
  metric.atLeast, inMaxp, inHead, Read; the reference's ReadMetric, as contracts.
-/
import Derived.Test.YtninhcnpjadjpaaMet
namespace Go.Proofs.Ytninhcnpjadjpaa
open Go.RowKit

/-- A font that was opened: both sides' facts. -/
structure FOk (w : World) (p len : Nat) (z : Nat → Nat) : Prop where
  f : Fnt w p len (cntv z) z (tgv z) (atv z) (szv z)
  ok : opnv z len = 0
theorem FOk.below {w w' : World} {p len : Nat} {z : Nat → Nat} {B : Nat} (h : FOk w p len z) (hb : Below B w w') (hB : w.heap.size ≤ B) : FOk w' p len z := ⟨h.f.below hb hB, h.ok⟩
theorem Fnt.lt {w : World} {p len n : Nat} {z : Nat → Nat} {tg : Nat → ByteArray} {at' sz : Nat → Nat} (h : Fnt w p len n z tg at' sz) : p < w.heap.size := by
  obtain ⟨a, c, ra, rc, h1, _⟩ := h.blk
  exact blk_lt h1

set_option maxHeartbeats 800000 in
theorem least_any (p len : Nat) (z : Nat → Nat) (u : ByteArray) (sz : Nat) (w : World) (h : FOk w p len z) :
    Calls Try.prog 30 #[.pointer (some ⟨p, 0, none⟩), .string u, .int .i64 (sz : Nat)] w fun e w' => Below w.heap.size w w' ∧
      ((Hid (atl (look z u) sz ≠ 0) ∧ e = .returned (.tuple #[.slice none 0 0, .int .i64 (atl (look z u) sz : Nat)])) ∨ ∃ t a c, Hid (look z u = some t) ∧ sz ≤ t.l ∧ e = .returned (.tuple #[.slice a t.l c, .int .i64 0]) ∧ Lies w' a t.l c t.z) := by
  have T := tab_any p len z u w h.f h.ok
  clear h
  go_enter Try.func30, Try.ntmps30
  go_wp2_with fail
  refine T.mono ?_
  rintro e w1 ⟨b1, ⟨ho, rfl⟩ | ⟨t, a, c, ho, rfl, hL⟩⟩
  · have hA : Hid (atl (look z u) sz = 6) := by show _ = _; rw [ho.out]; rfl
    clear T
    go_wp2
    go_ret2
    exact ⟨b1, .inl ⟨by show _ ≠ _; rw [hA.out]; omega, by rw [hA.out]; rfl⟩⟩
  · obtain ⟨tl, tz⟩ := t
    have hr := hL.reach
    simp only at hr hL
    by_cases hlt : tl < sz
    · have hA : Hid (atl (look z u) sz = 3) := by show _ = _; rw [ho.out]; show (if tl < sz then 3 else 0) = 3; rw [if_pos hlt]
      have hlt' : (tl : Int) < sz := by omega
      clear T hL
      go_wp2
      go_ret2
      exact ⟨b1, .inl ⟨by show _ ≠ _; rw [hA.out]; omega, by rw [hA.out]; rfl⟩⟩
    · have hlt' : ¬ (tl : Int) < sz := by omega
      clear T
      go_wp2
      go_ret2
      exact ⟨b1, .inr ⟨⟨tl, tz⟩, a, c, ho, by show sz ≤ tl; omega, rfl, hL⟩⟩

theorem atl_ok {o : Option Tb} {t : Tb} {n : Nat} (h : o = some t) (hn : n ≤ t.l) : atl o n = 0 := by subst h; show (if t.l < n then 3 else 0) = 0; rw [if_neg (by omega)]
def mxN (o : Option Tb) : Nat := if mxE o = 0 then u16o o 4 else 0
theorem u16_lt (z : Nat → Nat) (hz : ∀ i, z i < 256) (k : Nat) : numv z k 2 < 65536 := by
  have := numv_lt z hz k 2; omega

set_option maxHeartbeats 800000 in
theorem inMaxp_any (p len : Nat) (z : Nat → Nat) (w : World) (h : FOk w p len z) :
    Calls Try.prog 20 #[.pointer (some ⟨p, 0, none⟩)] w fun e w' => Below w.heap.size w w' ∧ e = .returned (.tuple #[.int .i64 (mxN (look z mxT) : Nat), .int .i64 (mxE (look z mxT) : Nat)]) := by
  have T := least_any p len z mxT 6 w h
  obtain ⟨o, ho'⟩ : ∃ o, look z mxT = o := ⟨_, rfl⟩
  rw [ho'] at T ⊢
  clear h ho'
  go_enter Try.func20, Try.ntmps20
  go_wp2_with fail
  refine T.mono ?_
  rintro e w1 ⟨b1, ⟨hA, rfl⟩ | ⟨t, a, c, ho, hl, rfl, hL⟩⟩
  · have HE : Hid (mxE o = atl o 6) := by show _ = _; unfold mxE; rw [if_pos hA.out]
    have HN : Hid (atl o 6 ≠ 0) := hA
    obtain ⟨x, hx⟩ : ∃ x, Hid (atl o 6 = x) := ⟨_, rfl⟩
    have hx6 : x = 6 ∨ x = 3 := by
      have := HN.out; rw [← hx.out]; revert this; cases o with
      | none => intro _; exact .inl rfl
      | some t => intro h; show (if t.l < 6 then 3 else 0) = 6 ∨ (if t.l < 6 then 3 else 0) = 3; by_cases e : t.l < 6
                  · rw [if_pos e]; exact .inr rfl
                  · exact (h (if_neg e)).elim
    rw [hx.out]
    have HX : Hid (mxN o = 0) := by show _ = _; unfold mxN; rw [HE.out, hx.out, if_neg (by omega)]
    have e0 : ((x : Int) != 0) = true := by rw [bne_iff_ne]; omega
    have e1 : ¬ (x : Int) = 0 := by omega
    clear T hA
    go_wp2
    go_ret2
    exact ⟨b1, by rw [HX.out, HE.out, hx.out]; rfl⟩
  · have hA : Hid (atl o 6 = 0) := atl_ok ho.out hl
    have hu : Hid (u16o o 4 = numv t.z 4 2) := by show _ = _; rw [ho.out]; rfl
    have hlt := u16_lt t.z hL.byte 4
    have N := u16_yes a t.l c t.z 4 w1 hL (by omega)
    obtain ⟨n, hn⟩ : ∃ n, Hid (numv t.z 4 2 = n) := ⟨_, rfl⟩
    obtain ⟨tl, htl⟩ : ∃ n, t.l = n := ⟨_, rfl⟩
    rw [hn.out] at N hlt
    rw [htl] at N ⊢
    have HM : Hid (mxE o = if n = 0 then 2 else 0) := by show _ = _; unfold mxE; rw [if_neg (by rw [hA.out]; omega), hu.out, hn.out]
    clear T hL
    go_wp2_with fail
    refine N.mono ?_
    rintro e w2 ⟨rfl, rfl⟩
    clear N
    by_cases h0 : n = 0
    · subst h0
      have HX : Hid (mxN o = 0) := by show _ = _; unfold mxN; rw [HM.out]; rfl
      go_wp2
      go_ret2
      exact ⟨b1, by rw [HX.out, HM.out]; rfl⟩
    · have h0' : ¬ (n : Int) = 0 := by omega
      have h1 : ((n : Int) == 0) = false := by rw [beq_eq_false_iff_ne]; omega
      have HM' : Hid (mxE o = 0) := by show _ = _; rw [HM.out, if_neg h0]
      have HX : Hid (mxN o = n) := by show _ = _; unfold mxN; rw [HM'.out, if_pos rfl, hu.out, hn.out]
      clear h0
      go_wp2
      go_ret2
      exact ⟨b1, by rw [HX.out, HM'.out]; rfl⟩

theorem atl_is {o : Option Tb} {n : Nat} (h : atl o n ≠ 0) : atl o n = 6 ∨ atl o n = 3 := by
  revert h
  cases o with
  | none => intro _; exact .inl rfl
  | some t =>
    intro h
    show (if t.l < n then 3 else 0) = 6 ∨ (if t.l < n then 3 else 0) = 3
    by_cases e : t.l < n
    · rw [if_pos e]; exact .inr rfl
    · exact (h (if_neg e)).elim
set_option maxRecDepth 100000 in
set_option maxHeartbeats 1600000 in
theorem inHead_any (p len : Nat) (z : Nat → Nat) (w : World) (h : FOk w p len z) :
    Calls Try.prog 19 #[.pointer (some ⟨p, 0, none⟩)] w fun e w' => Below w.heap.size w w' ∧ e = .returned (.tuple #[mv (hdM (look z hdT)), .int .i64 (hdE (look z hdT) : Nat)]) := by
  have bA : Below w.heap.size w (w.alloc (.cells #[.int .i64 0, .int .i64 0, .bool false] 23)) := (Below.refl _ _).alloc (Nat.le_refl _) _
  have g0 := blk_new w (.cells #[.int .i64 0, .int .i64 0, .bool false] 23)
  have T := least_any p len z hdT 54 _ (h.below bA (Nat.le_refl _))
  obtain ⟨o, ho'⟩ : ∃ o, look z hdT = o := ⟨_, rfl⟩
  rw [ho'] at T ⊢
  clear h ho'
  go_enter Try.func19, Try.ntmps19
  go_wp2_with fail
  refine T.mono ?_
  rintro e w1 ⟨b1, hh⟩
  have g1 := Below.blk b1 g0 (blk_lt g0)
  have B1 : Below w.heap.size w w1 := bA.trans (b1.mono bA.size)
  clear T bA g0 b1
  rcases hh with ⟨hA, rfl⟩ | ⟨t, a, c, ho, hl, rfl, hL⟩
  · have HE : Hid (hdE o = atl o 54) := by show _ = _; unfold hdE; rw [if_pos hA.out]
    obtain ⟨x, hx⟩ : ∃ x, Hid (atl o 54 = x) := ⟨_, rfl⟩
    have hx6 := atl_is hA.out
    rw [hx.out] at hx6 ⊢
    have HX : Hid (hdM o = zmt) := by show _ = _; unfold hdM; rw [HE.out, hx.out, if_neg (by omega)]
    have e0 : ((x : Int) != 0) = true := by rw [bne_iff_ne]; omega
    have e1 : ¬ (x : Int) = 0 := by omega
    clear hA
    go_wp2_with (refine store_mt size23 g1 rfl _ _ zmt (by rfl) (by rfl) (by rfl) (by rfl) ?_)
    refine bodyPost_ret (res_mt23 rfl _ _ _ _ _ _ rfl (setRow_heap _ _ _ _ _ _ g1)) rfl ?_
    exact ⟨below_row B1 (Nat.le_refl _) _, by rw [HX.out, HE.out, hx.out]; rfl⟩
  · have hA : Hid (atl o 54 = 0) := atl_ok ho.out hl
    have hu : Hid (u16o o 18 = numv t.z 18 2) := by show _ = _; rw [ho.out]; rfl
    have hv : Hid (u16o o 50 = numv t.z 50 2) := by show _ = _; rw [ho.out]; rfl
    have hlt1 := u16_lt t.z hL.byte 18
    have hlt2 := u16_lt t.z hL.byte 50
    have N1 := u16_yes a t.l c t.z 18 w1 hL (by omega)
    have N2 := u16_yes a t.l c t.z 50 w1 hL (by omega)
    obtain ⟨u, hn1⟩ : ∃ n, Hid (numv t.z 18 2 = n) := ⟨_, rfl⟩
    obtain ⟨v, hn2⟩ : ∃ n, Hid (numv t.z 50 2 = n) := ⟨_, rfl⟩
    obtain ⟨tl, htl⟩ : ∃ n, t.l = n := ⟨_, rfl⟩
    rw [hn1.out] at N1 hlt1
    rw [hn2.out] at N2 hlt2
    rw [htl] at N1 N2 ⊢
    have HM : Hid (hdE o = if u < 16 ∨ 16384 < u ∨ 1 < v then 2 else 0) := by show _ = _; unfold hdE; rw [if_neg (by rw [hA.out]; omega), hu.out, hn1.out, hv.out, hn2.out]
    clear hL
    go_wp2_with fail
    refine N1.mono ?_
    rintro e w2 ⟨rfl, rfl⟩
    clear N1
    go_wp2_with fail
    refine N2.mono ?_
    rintro e w2 ⟨rfl, rfl⟩
    clear N2
    by_cases hbad : u < 16 ∨ 16384 < u ∨ 1 < v
    · have HE : Hid (hdE o = 2) := by show _ = _; rw [HM.out, if_pos hbad]
      have HX : Hid (hdM o = zmt) := by show _ = _; unfold hdM; rw [HE.out]; rfl
      clear HM
      have FIN : Below w.heap.size w (w2.setRow w.heap.size (mcs zmt)) := below_row B1 (Nat.le_refl _) _
      by_cases h1 : u < 16
      · have h1' : (u : Int) < 16 := by omega
        clear hbad
        go_wp2_with (refine store_mt size23 g1 rfl _ _ zmt (by rfl) (by rfl) (by rfl) (by rfl) ?_)
        refine bodyPost_ret (res_mt23 rfl _ _ _ _ _ _ rfl (setRow_heap _ _ _ _ _ _ g1)) rfl ?_
        exact ⟨FIN, by rw [HX.out, HE.out]; rfl⟩
      · have h1' : ¬ (u : Int) < 16 := by omega
        by_cases h2 : 16384 < u
        · have h2' : (16384 : Int) < u := by omega
          clear hbad
          go_wp2_with (refine store_mt size23 g1 rfl _ _ zmt (by rfl) (by rfl) (by rfl) (by rfl) ?_)
          refine bodyPost_ret (res_mt23 rfl _ _ _ _ _ _ rfl (setRow_heap _ _ _ _ _ _ g1)) rfl ?_
          exact ⟨FIN, by rw [HX.out, HE.out]; rfl⟩
        · have h2' : ¬ (16384 : Int) < u := by omega
          have h3 : ¬ (v : Int) = 0 := by omega
          have h4 : ¬ (v : Int) = 1 := by omega
          have h3' : ((v : Int) != 0) = true := by rw [bne_iff_ne]; omega
          have h4' : ((v : Int) != 1) = true := by rw [bne_iff_ne]; omega
          clear hbad
          go_wp2_with (refine store_mt size23 g1 rfl _ _ zmt (by rfl) (by rfl) (by rfl) (by rfl) ?_)
          refine bodyPost_ret (res_mt23 rfl _ _ _ _ _ _ rfl (setRow_heap _ _ _ _ _ _ g1)) rfl ?_
          exact ⟨FIN, by rw [HX.out, HE.out]; rfl⟩
    · have HE : Hid (hdE o = 0) := by show _ = _; rw [HM.out, if_neg hbad]
      have h1' : ¬ (u : Int) < 16 := by omega
      have h2' : ¬ (16384 : Int) < u := by omega
      rcases (show v = 0 ∨ v = 1 by omega) with rfl | rfl
      · have HX : Hid (hdM o = ⟨u, 0, false⟩) := by show _ = _; unfold hdM; rw [HE.out, if_pos rfl, hu.out, hn1.out, hv.out, hn2.out]; rfl
        clear hbad HM
        go_wp2_with (refine store_mt size23 g1 rfl _ _ ⟨u, 0, false⟩ (by rfl) (by rfl) (by rfl) (by rfl) ?_)
        refine bodyPost_ret (res_mt23 rfl _ _ _ _ _ _ rfl (setRow_heap _ _ _ _ _ _ g1)) rfl ?_
        exact ⟨below_row B1 (Nat.le_refl _) _, by rw [HX.out, HE.out]; rfl⟩
      · have HX : Hid (hdM o = ⟨u, 0, true⟩) := by show _ = _; unfold hdM; rw [HE.out, if_pos rfl, hu.out, hn1.out, hv.out, hn2.out]; rfl
        clear hbad HM
        go_wp2_with (refine store_mt size23 g1 rfl _ _ ⟨u, 0, true⟩ (by rfl) (by rfl) (by rfl) (by rfl) ?_)
        refine bodyPost_ret (res_mt23 rfl _ _ _ _ _ _ rfl (setRow_heap _ _ _ _ _ _ g1)) rfl ?_
        exact ⟨below_row B1 (Nat.le_refl _) _, by rw [HX.out, HE.out]; rfl⟩
end Go.Proofs.Ytninhcnpjadjpaa
