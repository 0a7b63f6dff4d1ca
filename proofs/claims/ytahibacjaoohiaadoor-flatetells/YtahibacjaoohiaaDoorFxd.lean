/-
  The laws' fixed: a stream of kind 1 blocks, of raw ones.
-/
import Derived.Test.YtahibacjaoohiaaDoorPN
import Derived.Test.YtahibacjaoohiaaDoorStr
import Derived.Test.YtahibacjaoohiaaDoorStW
namespace Go.Proofs.YtahibacjaoohiaaDoor
open Go.RowKit

/-- A slice of structs of three ints. -/
structure Raws (w : World) (a : Option Addr) (len cap : Nat) (f : Nat → Nat → Int) : Prop where
  lc : len ≤ cap
  reach : len ≤ 17592186043904
  spot : 0 < len → ∃ b off, a = some ⟨b, off, none⟩ ∧ b < w.heap.size ∧ ∀ i, i < len → w.cell? ⟨b, off + i * 3, none⟩ = some (.int .i64 (f i 0)) ∧ w.cell? ⟨b, off + i * 3 + 1, none⟩ = some (.int .i64 (f i 1)) ∧ w.cell? ⟨b, off + i * 3 + 2, none⟩ = some (.int .i64 (f i 2))
/-- A pen and what was said, each in memory of its own. -/
structure FxS (w0 w : World) (pb : Nat) (up : Value) (bs : List Int) (at' : Nat) (uo : Value) (O : List Int) : Prop where
  pen : PenAt w w0.heap.size pb up bs at'
  out : OwnV w w0.heap.size 5 .u8 uo O
  apart : ∀ k, up.ownBlock = some k → uo.ownBlock ≠ some k
  below : Below w0.heap.size w0 w
theorem OwnV.notPen {w : World} {B pb : Nat} {up uo : Value} {bs O : List Int} {at' : Nat} (h : OwnV w B 5 .u8 uo O) (hp : PenAt w B pb up bs at') : uo.ownBlock ≠ some pb := fun e => by
  obtain ⟨c, h1, _⟩ := own_kind h e
  rw [hp.obj] at h1; simp at h1
theorem FxS.pend {w0 w w' : World} {pb : Nat} {up up' : Value} {bs bs' : List Int} {at' at2 : Nat} {uo : Value} {O : List Int} (h : FxS w0 w pb up bs at' uo O) (m : PenM pb up up' w w') (hp : PenAt w' w0.heap.size pb up' bs' at2) : FxS w0 w' pb up' bs' at2 uo O := by
  refine ⟨hp, h.out.kept' m.kept (fun i hi e => ?_), fun k hk e => ?_, h.below.trans (m.below h.below.size h.pen.lo (fun k hk => (h.pen.lt k hk).1))⟩
  · rcases e with e | e
    · subst e; exact h.out.notPen h.pen hi
    · exact h.apart i e hi
  · rcases m.own with h1 | h1
    · exact h.apart k (h1 ▸ hk) e
    · have := h1 k hk
      have := (World.ownsRow.lt h.out k e).2
      omega
theorem FxS.said {w0 w w' : World} {pb : Nat} {up : Value} {bs : List Int} {at' : Nat} {uo uo' : Value} {O O' : List Int} (h : FxS w0 w pb up bs at' uo O) (m : RowM uo uo' w w') (ho : OwnV w' w0.heap.size 5 .u8 uo' O') : FxS w0 w' pb up bs at' uo' O' := by
  refine ⟨⟨m.kept.blk h.pen.obj (h.out.notPen h.pen), h.pen.own.kept' m.kept (fun i hi e => h.apart i hi e), h.pen.inv, h.pen.lo, h.pen.small⟩, ho, fun k hk e => ?_, h.below.trans (m.below h.below.size (fun k hk => (World.ownsRow.lt h.out k hk).1))⟩
  rcases m.own with h1 | h1
  · exact h.apart k hk (h1 ▸ e)
  · have := h1 k e
    have := (h.pen.lt k hk).2
    omega
theorem FxS.drewN {w0 w : World} {pb : Nat} {up : Value} {bs : List Int} {at' : Nat} {uo : Value} {O : List Int} (h : FxS w0 w pb up bs at' uo O) (w' : World) (hb : Below w.heap.size w w') : FxS w0 w' pb up bs at' uo O :=
  ⟨⟨Below.blk hb h.pen.obj (blk_lt h.pen.obj), h.pen.own.below hb, h.pen.inv, h.pen.lo, h.pen.small⟩, h.out.below hb, h.apart, h.below.trans (hb.mono h.below.size)⟩
theorem Raws.cells {w0 w : World} {a : Option Addr} {len cap : Nat} {f : Nat → Nat → Int} (h : Raws w0 a len cap f) (hb : Below w0.heap.size w0 w) {i : Nat} (hi : i < len) : ∃ b off, a = some ⟨b, off, none⟩ ∧ w.cell? ⟨b, off + i * 3, none⟩ = some (.int .i64 (f i 0)) ∧ w.cell? ⟨b, off + i * 3 + 1, none⟩ = some (.int .i64 (f i 1)) ∧ w.cell? ⟨b, off + i * 3 + 2, none⟩ = some (.int .i64 (f i 2)) := by
  obtain ⟨b, off, e, hlt, hc⟩ := h.spot (by omega)
  have key : ∀ j, w.cell? ⟨b, j, none⟩ = w0.cell? ⟨b, j, none⟩ := fun j => World.cell?_of_block (a := ⟨b, j, none⟩) (hb.block b hlt)
  exact ⟨b, off, e, by rw [key]; exact (hc i hi).1, by rw [key]; exact (hc i hi).2.1, by rw [key]; exact (hc i hi).2.2⟩
/-- append(out, x). -/
theorem FxS.add {w0 w : World} {pb : Nat} {up : Value} {bs : List Int} {at' : Nat} {a : Option Addr} {cap : Nat} {O : List Int} (h : FxS w0 w pb up bs at' (.slice a O.length cap) O) (x : Int) (hl : O.length ≤ 1000000) :
    ∃ g' cap' w', (Builtin.append_ #[23, 23] 23 #[.slice a O.length cap, .slice (some ⟨w.heap.size, 0, none⟩) 1 1]).run Tryd.prog (w.alloc (.cells #[.int .u8 x] 5)) = .ok (.slice (some ⟨g', 0, none⟩) (O.length + 1) cap') w' ∧ FxS w0 w' pb up bs at' (.slice (some ⟨g', 0, none⟩) (O.length + 1) cap') (O ++ [x]) := by
  have hb : Below w.heap.size w (w.alloc (.cells #[.int .u8 x] 5)) := (Below.refl _ _).alloc (Nat.le_refl _) _
  have h2 := h.drewN _ hb
  obtain ⟨g', cap', w', h1, ho, hg, hat⟩ := h2.out.one h2.below.size (blk_new w _) (by omega)
  exact ⟨g', cap', w', h1, h2.said (RowM.grown hg hat) (own_v ho (by simp))⟩
theorem pen_new (w : World) : PenAt (w.alloc (.cells #[.slice none 0 0, .int .i64 0] 43)) w.heap.size w.heap.size (.slice none 0 0) [] 0 :=
  ⟨blk_new w _, ownv_nil _ _ _ _, ⟨rfl, fun q => by simp, fun h => by simp at h⟩, Nat.le_refl _, by omega⟩

/-- What fixed answers. -/
def FixedR (w : World) (e : Ending) (w' : World) : Prop := ∃ (v : Value) (bs : List Int) (at' : Nat) (ok : Bool) (O : List Int), e = .returned (.tuple #[v, .string (bstr (zb O) O.length), .bool ok]) ∧ OwnV w' w.heap.size 5 .u8 v bs ∧ Below w.heap.size w w' ∧ InvB bs at' ∧ Hid (SaysAll ok bs at' O) ∧ Hid (Byt O) ∧ O.length ≤ 20000 ∧ at' ≤ 3000 ∧ 17 ≤ at'

set_option maxRecDepth 100000 in
set_option maxHeartbeats 16000000 in
theorem fixed_any (w : World) (a : Option Addr) (len cap : Nat) (f : Nat → Nat → Int) (hR : Raws w a len cap f) : Calls Tryd.prog 9 #[.slice a len cap] w (FixedR w) := by
  have hlc := hR.lc
  have hreach := hR.reach
  have hp0 := pen_new w
  go_enter Tryd.func9, Tryd.ntmps9
  go_wp2_with fail
  refine (penbits_any _ _ _ _ 0 2 3 (by omega) (by omega) (by omega) _ hp0 (by simp)).mono ?_
  rintro e w1 ⟨rfl, up, bs, hP, hM, hold, hnew⟩
  have hS0 : FxS w w1 w.heap.size up bs (0 + 3) (.slice none 0 0) [] := ⟨hP, ownv_nil _ _ _ _, fun k hk => by simp [Value.ownBlock], ((Below.refl _ w).alloc (Nat.le_refl _) _).trans (hM.below (by simp) (Nat.le_refl _) (fun k hk => by simp [Value.ownBlock] at hk))⟩
  have hSay : Hid (Says true bs 3 []) := says_new hnew.out
  clear hP hM hold hnew hp0
  go_wp2_with fail
  go_loopw [6, 7, 8] (fun so sk si wq => ∃ (i : Nat) (ok : Bool) (up : Value) (bs : List Int) (at' : Nat) (O : List Int), sk = .bool ok ∧ si = .int .i64 (i : Nat) ∧ i ≤ 50 ∧ FxS w wq w.heap.size up bs at' so O ∧ Hid (Says ok bs at' O) ∧ Hid (Byt O) ∧ O.length ≤ 400 * i ∧ at' ≤ 3 + 50 * i) (fun _ _ si _ => 50 - (intOf si).toNat)
  case atStart => exact ⟨0, true, up, bs, 3, [], rfl, rfl, by omega, hS0, hSay, fun q => by simp, by simp, by omega⟩
  case round =>
    clear hS0 hSay
    obtain ⟨i, ok, up, bs, at', O, rfl, rfl, hi, hS, hSay, hBy, hOl, hat⟩ := hrel
    by_cases hgo : i < len ∧ i < 50
    · obtain ⟨h1, h2⟩ := hgo
      have h1' : (i : Int) < (len : Int) := by omega
      have h2' : (i : Int) < 50 := by omega
      obtain ⟨b, off, rfl, c0, c1, c2⟩ := hR.cells hS.below h1
      obtain ⟨ao, capo, rfl⟩ := hS.out.form
      go_wp2_with fail
      refine (pick_any (f i 0) 7 (by omega) (by omega) _).mono ?_
      rintro e w' ⟨rfl, hw⟩
      have hw2 := hw.symm
      subst hw2
      clear hw
      have hK := pickv_lt (f i 0) 7 (by omega)
      obtain ⟨K, hKe⟩ : ∃ K, Hid (pickv (f i 0) 7 = K) := ⟨_, rfl⟩
      rw [hKe.out] at hK ⊢
      by_cases hcp : K = 4 ∨ K = 5
      · rcases hcp with rfl | rfl
        all_goals
          as_aux_lemma =>
            have cpw : ∃ wz, wz = wr := ⟨_, rfl⟩
            obtain ⟨wz, hwz⟩ := cpw
            subst hwz
            go_wp2_with fail
            refine (pick_any (f i 1) 29 (by omega) (by omega) _).mono ?_
            rintro e w' ⟨rfl, hw⟩
            have hw2 := hw.symm
            subst hw2
            clear hw
            have hA1 := pickv_lt (f i 1) 29 (by omega)
            obtain ⟨A1, hA1e⟩ : ∃ A1, Hid (pickv (f i 1) 29 = A1) := ⟨_, rfl⟩
            rw [hA1e.out] at hA1 ⊢
            obtain ⟨s, hs⟩ : ∃ s : Nat, (257 : Int) + (A1 : Int) = s := ⟨257 + A1, by omega⟩
            have hs1 : 257 ≤ s := by omega
            have hs2 : s ≤ 285 := by omega
            go_wp2_with fail
            refine (pick_any (f i 2) 12 (by omega) (by omega) _).mono ?_
            rintro e w' ⟨rfl, hw⟩
            have hw2 := hw.symm
            subst hw2
            clear hw
            have hd12 := pickv_lt (f i 2) 12 (by omega)
            obtain ⟨d, hde⟩ : ∃ d, Hid (pickv (f i 2) 12 = d) := ⟨_, rfl⟩
            rw [hde.out] at hd12 ⊢
            clear hs hA1 hA1e hde
            go_wp2_with fail
            go_loopw [11, 12] (fun xn xk wq => ∃ t : Nat, t ≤ 27 ∧ 257 + t ≤ s ∧ xn = .int .i64 (sumL t : Nat) ∧ xk = .int .i64 (257 + t : Nat) ∧ wq = wz) (fun _ xk _ => 300 - (intOf xk).toNat)
            case atStart => exact ⟨0, by omega, by omega, rfl, rfl, rfl⟩
            case round =>
              obtain ⟨t, ht, hts, rfl, rfl, rfl⟩ := hrel
              have hst := sumL_le t (by omega)
              obtain ⟨kk, hkk⟩ : ∃ kk, 257 + t = kk := ⟨_, rfl⟩
              rw [hkk]
              by_cases hin : kk < s ∧ kk < 284
              · obtain ⟨i1, i2⟩ := hin
                have i1' : (kk : Int) < (s : Int) := by omega
                have i2' : (kk : Int) < 284 := by omega
                have hst1 := sumL_le (t + 1) (by omega)
                obtain ⟨F, hF⟩ : ∃ F, Hid (morev kk = F) := ⟨_, rfl⟩
                have hFl : F ≤ 6 := by rw [← hF.out]; unfold morev; omega
                obtain ⟨PF, hPF⟩ : ∃ PF : Nat, Hid (2 ^ F = PF) := ⟨_, rfl⟩
                have hPFi : (2 : Int) ^ F = (PF : Nat) := by rw [two_pow_cast, hPF.out]
                have hPFl : PF ≤ 64 := by rw [← hPF.out]; exact Nat.le_trans (Nat.pow_le_pow_right (by omega) hFl) (by decide)
                go_wp2_with fail
                refine (more_any kk (by omega) (by omega) _).mono ?_
                rintro e w' ⟨rfl, hw⟩
                have hw2 := hw.symm
                subst hw2
                clear hw
                rw [hF.out]
                have HSL : Hid (sumL (t + 1) = sumL t + PF) := by show sumL t + 2 ^ morev (257 + t) = _; rw [hkk, hF.out, hPF.out]
                have HKK : Hid (257 + t = kk) := hkk
                clear hst1 hkk
                go_wp2
                refine ⟨⟨t + 1, by have := HKK.out; omega, by have := HKK.out; omega, ?_, ?_, trivial⟩, by simp [intOf]; have := HKK.out; omega⟩
                · rw [HSL.out]; rfl
                · rw [← Nat.add_assoc, HKK.out]; rfl
              · by_cases hs285 : s = 285
                · have hkk2 : kk = 284 := by omega
                  subst hs285
                  have i1' : (kk : Int) < 285 := by omega
                  have i2' : ¬ (kk : Int) < 284 := by omega
                  go_wp2_with fail
                  refine (more_any 285 (by omega) (by omega) _).mono ?_
                  rintro e w' ⟨rfl, hw⟩
                  have hw2 := hw.symm
                  subst hw2
                  clear hw
                  have hfl := fixL_le 285
                  go_wp2_with fail
                  refine (penlit_any w.heap.size w.heap.size up bs at' 285 (by omega) (by omega) _ hS.pen hS.below.size).mono ?_
                  rintro e w2 ⟨rfl, up2, bs2, hP2, hM2, ho2, hn2⟩
                  have hS2 := hS.pend hM2 hP2
                  obtain ⟨_, _, eab, b0, b1, b2⟩ := hR.cells hS2.below h1
                  simp only [Option.some.injEq, Addr.mk.injEq, and_true] at eab
                  obtain ⟨rfl, rfl⟩ := eab
                  clear hP2 hM2 hS c0 c1 c2
                  go_wp2_with fail
                  refine (pick_any (wrap64 ((f i 1).tdiv 29)) 1 (by omega) (by omega) _).mono ?_
                  rintro e w' ⟨rfl, hw⟩
                  have hw2 := hw.symm
                  subst hw2
                  clear hw
                  have hU := pickv_lt (wrap64 ((f i 1).tdiv 29)) 1 (by omega)
                  obtain ⟨U, hUe⟩ : ∃ U, Hid (pickv (wrap64 ((f i 1).tdiv 29)) 1 = U) := ⟨_, rfl⟩
                  rw [hUe.out] at hU ⊢
                  go_wp2_with fail
                  refine (penbits_any w.heap.size w.heap.size up2 bs2 (at' + fixL 285) U 0 (by omega) (by omega) (by omega) _ hS2.pen hS2.below.size).mono ?_
                  rintro e w3 ⟨rfl, up3, bs3, hP3, hM3, ho3, hn3⟩
                  have hS3 := hS2.pend hM3 hP3
                  clear hP3 hM3 hS2 b0 b1 b2
                  obtain ⟨W3, hW3⟩ : ∃ W3, W3 = w3 := ⟨_, rfl⟩
                  subst hW3
                  obtain ⟨NL, hNL⟩ : ∃ NL : Nat, Hid (258 + U = NL) := ⟨_, rfl⟩
                  have hNLi : (258 : Int) + (U : Int) = (NL : Nat) := by have := hNL.out; omega
                  have hNLl : NL ≤ 400 := by have := hNL.out; omega
                  go_wp2_with fail
                  go_loopw [15, 16] (fun xb xk wq => ∃ t : Nat, t ≤ d ∧ xb = .int .i64 (sumD t : Nat) ∧ xk = .int .i64 (t : Nat) ∧ wq = W3) (fun _ xk _ => 20 - (intOf xk).toNat)
                  case atStart => exact ⟨0, by omega, rfl, rfl, rfl⟩
                  case round =>
                    obtain ⟨t, ht, rfl, rfl, rfl⟩ := hrel
                    have hst := sumD_le t (by omega)
                    by_cases htd : t < d
                    · have htd' : (t : Int) < (d : Int) := by omega
                      have hst1 := sumD_le (t + 1) (by omega)
                      obtain ⟨F, hF⟩ : ∃ F, Hid (farv t = F) := ⟨_, rfl⟩
                      have hFl : F ≤ 5 := by rw [← hF.out]; unfold farv; omega
                      obtain ⟨PF, hPF⟩ : ∃ PF : Nat, Hid (2 ^ F = PF) := ⟨_, rfl⟩
                      have hPFi : (2 : Int) ^ F = (PF : Nat) := by rw [two_pow_cast, hPF.out]
                      have hPFl : PF ≤ 32 := by rw [← hPF.out]; exact Nat.le_trans (Nat.pow_le_pow_right (by omega) hFl) (by decide)
                      go_wp2_with fail
                      refine (far_any t (by omega) _).mono ?_
                      rintro e w' ⟨rfl, hw⟩
                      have hw2 := hw.symm
                      subst hw2
                      clear hw
                      rw [hF.out]
                      have HSD : Hid (sumD (t + 1) = sumD t + PF) := by show sumD t + 2 ^ farv t = _; rw [hF.out, hPF.out]
                      clear hst1
                      go_wp2
                      refine ⟨⟨t + 1, by omega, ?_, by go_num, trivial⟩, by simp [intOf]; omega⟩
                      rw [HSD.out]; rfl
                    · as_aux_lemma =>
                        obtain rfl : t = d := by omega
                        have htd' : ¬ (t : Int) < (t : Int) := by omega
                        go_wp2_with fail
                        refine (pencode_any w.heap.size w.heap.size up3 bs3 (at' + fixL 285 + 0) t 5 (by omega) (by omega) (by omega) _ hS3.pen hS3.below.size).mono ?_
                        rintro e w4 ⟨rfl, up4, bs4, hP4, hM4, ho4, hn4⟩
                        have hS4 := hS3.pend hM4 hP4
                        obtain ⟨_, _, eab, b0, b1, b2⟩ := hR.cells hS4.below h1
                        simp only [Option.some.injEq, Addr.mk.injEq, and_true] at eab
                        obtain ⟨rfl, rfl⟩ := eab
                        clear hP4 hM4 hS3
                        obtain ⟨F, hF⟩ : ∃ F, Hid (farv t = F) := ⟨_, rfl⟩
                        have hFl : F ≤ 5 := by rw [← hF.out]; unfold farv; omega
                        obtain ⟨PF, hPF⟩ : ∃ PF : Nat, Hid (2 ^ F = PF) := ⟨_, rfl⟩
                        have hPFi : (2 : Int) ^ F = (PF : Nat) := by rw [two_pow_cast, hPF.out]
                        have hPFl : PF ≤ 32 := by rw [← hPF.out]; exact Nat.le_trans (Nat.pow_le_pow_right (by omega) hFl) (by decide)
                        have hPF0 : 0 < PF := by rw [← hPF.out]; exact Nat.two_pow_pos _
                        have b2q : ∀ k, (w4.drewN k).cell? ⟨b, off + i * 3 + 2, none⟩ = some (.int .i64 (f i 2)) := fun k => b2
                        have far2 := fun k : Nat => far_any t (by omega) (w4.drewN k)
                        rw [hF.out] at far2
                        go_wp2_with fail
                        go_quiet (first | (go_at_call 25; exact Calls.quiet_of_same (far2 _)) | (go_at_call 10; exact Calls.quiet_of_same (pick_any (wrap64 ((f i 2).tdiv 12)) PF (by omega) (by omega) _)))
                        have hU2 := pickv_lt (wrap64 ((f i 2).tdiv 12)) PF hPF0
                        obtain ⟨U2, hU2e⟩ : ∃ U2, Hid (pickv (wrap64 ((f i 2).tdiv 12)) PF = U2) := ⟨_, rfl⟩
                        rw [hU2e.out] at hU2 ⊢
                        have hS4' := hS4.drewN (w4.drewN nq) (below_drewN (Below.refl _ w4) nq)
                        obtain ⟨W4, hW4⟩ : ∃ W4, W4 = w4.drewN nq := ⟨_, rfl⟩
                        rw [← hW4] at hS4' ⊢
                        clear hW4 hS4 b0 b1 b2 b2q far2
                        go_wp2_with fail
                        refine (far_any t (by omega) _).mono ?_
                        rintro e w' ⟨rfl, hw⟩
                        have hw2 := hw.symm
                        subst hw2
                        clear hw
                        rw [hF.out]
                        go_wp2_with fail
                        refine (penbits_any w.heap.size w.heap.size up4 bs4 (at' + fixL 285 + 0 + 5) U2 F (by omega) (by omega) (by omega) _ hS4'.pen hS4'.below.size).mono ?_
                        rintro e w5 ⟨rfl, up5, bs5, hP5, hM5, ho5, hn5⟩
                        have hS5 := hS4'.pend hM5 hP5
                        clear hP5 hM5 hS4'
                        have hcE : cEnd at' 285 t = at' + fixL 285 + 0 + 5 + F := by unfold cEnd; rw [hF.out, if_pos rfl]
                        have hcL : cLen 285 U = NL := by unfold cLen; rw [if_pos rfl]; have := hNL.out; omega
                        have hsegC : SegC (zb bs5) at' 285 U t U2 := by
                          refine ⟨fun k hk => ?_, .inl rfl, ?_, ?_⟩
                          · rw [ho5.out _ (by omega), ho4.out _ (by omega), ho3.out _ (by omega)]; exact hn2.out k hk
                          · rw [if_pos rfl]; intro k hk; rw [ho5.out _ (by omega)]; exact hn4.out k hk
                          · rw [if_pos rfl, hF.out]; exact hn5.out
                        have hSayC := hSay.out.copy (up := U) (d := t) (up2 := U2) hs1 hs2 (by omega) (.inl rfl) (by rw [hF.out, hPF.out]; exact hU2) (fun p hp => by rw [ho5.out p (by omega), ho4.out p (by omega), ho3.out p (by omega), ho2.out p hp]) hsegC
                        rw [hcE, hcL] at hSayC
                        obtain ⟨BK, hBK⟩ : ∃ BK : Nat, Hid (sumD t + U2 = BK) := ⟨_, rfl⟩
                        have hBKi : ((sumD t : Nat) : Int) + (U2 : Int) = (BK : Nat) := by have := hBK.out; omega
                        have hBKl : BK ≤ 2000 := by have := hBK.out; omega
                        have hBK0 : 0 < BK := by
                          have h0 : 0 < sumD t := by
                            have hh : ∀ k : Fin 13, 0 < sumD k.val := by decide +kernel
                            exact hh ⟨t, by omega⟩
                          have := hBK.out
                          omega
                        rw [hBK.out] at hSayC
                        have HSC : Hid (_) := hSayC
                        clear ho2 ho3 ho4 ho5 hn2 hn3 hn4 hn5 hsegC hcE hcL hSayC hSay hst
                        by_cases hgood : ok = true ∧ BK ≤ O.length
                        · obtain ⟨rfl, hbk⟩ := hgood
                          have hbk' : (BK : Int) ≤ (O.length : Int) := by omega
                          have HSC2 : Hid (Says true bs5 (at' + fixL 285 + 0 + 5 + F) (cpL BK NL O)) := by
                            have := HSC.out
                            have e0 : (true && decide (BK ≤ O.length)) = true := by rw [decide_eq_true hbk]; rfl
                            rw [e0, if_pos rfl] at this
                            exact this
                          clear HSC
                          go_wp2_with fail
                          go_loopw [6, 17] (fun so xk wq => ∃ (t : Nat) (O1 : List Int), t ≤ NL ∧ xk = .int .i64 (t : Nat) ∧ FxS w wq w.heap.size up5 bs5 (at' + fixL 285 + 0 + 5 + F) so O1 ∧ Hid (cpL BK (NL - t) O1 = cpL BK NL O) ∧ Hid (Byt O1) ∧ Hid (O1.length = O.length + t)) (fun _ xk _ => NL - (intOf xk).toNat)
                          case atStart => exact ⟨0, O, by omega, rfl, hS5, rfl, hBy, rfl⟩
                          case round =>
                            clear hS5
                            obtain ⟨t1, O1, ht1, rfl, hS6, hcp1, hBy1, hO1⟩ := hrel
                            by_cases htn : t1 < NL
                            · have htn' : (t1 : Int) < (NL : Int) := by omega
                              have hO1l : BK ≤ O1.length := by rw [hO1.out]; omega
                              have hO1s : O1.length ≤ 100000 := by rw [hO1.out]; omega
                              obtain ⟨g1, cap1, rfl, hOw⟩ := hS6.out.own (by omega)
                              have hlc1 := hOw.lc.1
                              have hcm1 := hOw.lc.2
                              unfold maxLen at hcm1
                              have c6 := hOw.cell (j := O1.length - BK) (by omega)
                              obtain ⟨X, hXe⟩ : ∃ X, Hid (O1.length - BK = X) := ⟨_, rfl⟩
                              have hX : (O1.length : Int) - (BK : Int) = (X : Nat) := by have := hXe.out; omega
                              have hXl : X < O1.length := by have := hXe.out; omega
                              obtain ⟨y, hy⟩ : ∃ y, Hid (O1.getD (O1.length - BK) 0 = y) := ⟨_, rfl⟩
                              rw [hy.out, hXe.out] at c6
                              have HAP : Hid (_) := hS6.add y (by omega)
                              clear hOw hS6
                              go_wp2_with (at_builtin; refine wpList_append_ex rfl (.tmp 159) (.tmp 167) 23 rfl rfl rfl HAP.out ?_; rintro g' cap' w6 hS7; have HS7 : Hid (_) := hS7; clear hS7)
                              refine ⟨⟨t1 + 1, O1 ++ [y], by omega, by go_num, HS7.out, ?_, ?_, ?_⟩, by simp [intOf]; omega⟩
                              · show _ = _
                                rw [← hcp1.out, show NL - t1 = (NL - (t1 + 1)) + 1 by omega]
                                simp only [cpL]
                                rw [hy.out]
                              · refine hBy1.out.append (fun q => ?_)
                                rcases q with _ | q
                                · have := hBy1.out (O1.length - BK); rw [hy.out] at this; simpa using this
                                · simp
                              · show _ = _
                                rw [List.length_append, hO1.out]; rfl
                            · have htn' : ¬ (t1 : Int) < (NL : Int) := by omega
                              obtain rfl : t1 = NL := by omega
                              have hcp2 := hcp1.out
                              rw [Nat.sub_self] at hcp2
                              have HCP : Hid (O1 = cpL BK t1 O) := hcp2
                              clear hcp2
                              go_wp2
                              refine ⟨⟨i + 1, true, up5, bs5, at' + fixL 285 + 0 + 5 + F, O1, rfl, by go_num, by omega, hS6, by rw [HCP.out]; exact HSC2, hBy1, by have := hO1.out; omega, by omega⟩, by simp [intOf]; omega⟩
                        · have HSC2 : Hid (Says false bs5 (at' + fixL 285 + 0 + 5 + F) O) := by
                            have := HSC.out
                            have e0 : (ok && decide (BK ≤ O.length)) = false := by
                              cases ok with
                              | true => simp at hgood ⊢; omega
                              | false => rfl
                            rw [e0, if_neg (by simp)] at this
                            exact this
                          have HS5 : Hid (_) := hS5
                          clear HSC hS5
                          cases ok with
                          | true =>
                            have hnb : ¬ BK ≤ O.length := by simp at hgood; omega
                            have hbk' : ¬ (BK : Int) ≤ (O.length : Int) := by omega
                            have HNB : Hid (¬ BK ≤ O.length) := hnb
                            clear hgood hnb
                            go_wp2_with fail
                            refine wp_loop_once ?_
                            go_wp2
                            all_goals exact ⟨⟨i + 1, false, up5, bs5, at' + fixL 285 + 0 + 5 + F, O, by first | rfl | rw [decide_eq_false HNB.out], by go_num, by omega, HS5.out, HSC2, hBy, by omega, by omega⟩, by simp [intOf]; omega⟩
                          | false =>
                            clear hgood
                            go_wp2_with fail
                            refine wp_loop_once ?_
                            go_wp2
                            all_goals exact ⟨⟨i + 1, false, up5, bs5, at' + fixL 285 + 0 + 5 + F, O, rfl, by go_num, by omega, HS5.out, HSC2, hBy, by omega, by omega⟩, by simp [intOf]; omega⟩
                · have i1' : ¬ (kk : Int) < (s : Int) := by omega
                  have hsI : ¬ (s : Int) = 285 := by omega
                  obtain ⟨EX, hEX⟩ : ∃ EX, Hid (morev s = EX) := ⟨_, rfl⟩
                  have hEXl : EX ≤ 5 := by rw [← hEX.out]; unfold morev; omega
                  obtain ⟨PW, hPW⟩ : ∃ PW : Nat, Hid (2 ^ EX = PW) := ⟨_, rfl⟩
                  have hPWi : (2 : Int) ^ EX = (PW : Nat) := by rw [two_pow_cast, hPW.out]
                  have hPWl : PW ≤ 32 := by rw [← hPW.out]; exact Nat.le_trans (Nat.pow_le_pow_right (by omega) hEXl) (by decide)
                  have hPW0 : 0 < PW := by rw [← hPW.out]; exact Nat.two_pow_pos _
                  obtain ⟨NB, hNB0⟩ : ∃ NB, sumL t = NB := ⟨_, rfl⟩
                  have hNB : Hid (sumL (s - 257) = NB) := by show _ = _; rw [← hNB0]; congr 1; omega
                  rw [hNB0] at hst ⊢
                  clear hNB0
                  go_wp2_with fail
                  refine (more_any s (by omega) (by omega) _).mono ?_
                  rintro e w' ⟨rfl, hw⟩
                  have hw2 := hw.symm
                  subst hw2
                  clear hw
                  rw [hEX.out]
                  clear hkk hts ht
                  have hfl := fixL_le s
                  go_wp2_with fail
                  refine (penlit_any w.heap.size w.heap.size up bs at' s (by omega) (by omega) _ hS.pen hS.below.size).mono ?_
                  rintro e w2 ⟨rfl, up2, bs2, hP2, hM2, ho2, hn2⟩
                  have hS2 := hS.pend hM2 hP2
                  obtain ⟨_, _, eab, b0, b1, b2⟩ := hR.cells hS2.below h1
                  simp only [Option.some.injEq, Addr.mk.injEq, and_true] at eab
                  obtain ⟨rfl, rfl⟩ := eab
                  clear hP2 hM2 hS c0 c1 c2
                  go_wp2_with fail
                  refine (pick_any (wrap64 ((f i 1).tdiv 29)) PW (by omega) (by omega) _).mono ?_
                  rintro e w' ⟨rfl, hw⟩
                  have hw2 := hw.symm
                  subst hw2
                  clear hw
                  have hU := pickv_lt (wrap64 ((f i 1).tdiv 29)) PW (by omega)
                  obtain ⟨U, hUe⟩ : ∃ U, Hid (pickv (wrap64 ((f i 1).tdiv 29)) PW = U) := ⟨_, rfl⟩
                  rw [hUe.out] at hU ⊢
                  go_wp2_with fail
                  refine (penbits_any w.heap.size w.heap.size up2 bs2 (at' + fixL s) U EX (by omega) (by omega) (by omega) _ hS2.pen hS2.below.size).mono ?_
                  rintro e w3 ⟨rfl, up3, bs3, hP3, hM3, ho3, hn3⟩
                  have hS3 := hS2.pend hM3 hP3
                  clear hP3 hM3 hS2 b0 b1 b2
                  obtain ⟨W3, hW3⟩ : ∃ W3, W3 = w3 := ⟨_, rfl⟩
                  subst hW3
                  obtain ⟨NL, hNL⟩ : ∃ NL : Nat, Hid (NB + U = NL) := ⟨_, rfl⟩
                  have hNLi : ((NB : Nat) : Int) + (U : Int) = (NL : Nat) := by have := hNL.out; omega
                  have hNLl : NL ≤ 400 := by have := hNL.out; omega
                  go_wp2_with fail
                  go_loopw [15, 16] (fun xb xk wq => ∃ t : Nat, t ≤ d ∧ xb = .int .i64 (sumD t : Nat) ∧ xk = .int .i64 (t : Nat) ∧ wq = W3) (fun _ xk _ => 20 - (intOf xk).toNat)
                  case atStart => exact ⟨0, by omega, rfl, rfl, rfl⟩
                  case round =>
                    obtain ⟨t, ht, rfl, rfl, rfl⟩ := hrel
                    have hst := sumD_le t (by omega)
                    by_cases htd : t < d
                    · have htd' : (t : Int) < (d : Int) := by omega
                      have hst1 := sumD_le (t + 1) (by omega)
                      obtain ⟨F, hF⟩ : ∃ F, Hid (farv t = F) := ⟨_, rfl⟩
                      have hFl : F ≤ 5 := by rw [← hF.out]; unfold farv; omega
                      obtain ⟨PF, hPF⟩ : ∃ PF : Nat, Hid (2 ^ F = PF) := ⟨_, rfl⟩
                      have hPFi : (2 : Int) ^ F = (PF : Nat) := by rw [two_pow_cast, hPF.out]
                      have hPFl : PF ≤ 32 := by rw [← hPF.out]; exact Nat.le_trans (Nat.pow_le_pow_right (by omega) hFl) (by decide)
                      go_wp2_with fail
                      refine (far_any t (by omega) _).mono ?_
                      rintro e w' ⟨rfl, hw⟩
                      have hw2 := hw.symm
                      subst hw2
                      clear hw
                      rw [hF.out]
                      have HSD : Hid (sumD (t + 1) = sumD t + PF) := by show sumD t + 2 ^ farv t = _; rw [hF.out, hPF.out]
                      clear hst1
                      go_wp2
                      refine ⟨⟨t + 1, by omega, ?_, by go_num, trivial⟩, by simp [intOf]; omega⟩
                      rw [HSD.out]; rfl
                    · as_aux_lemma =>
                        obtain rfl : t = d := by omega
                        have htd' : ¬ (t : Int) < (t : Int) := by omega
                        go_wp2_with fail
                        refine (pencode_any w.heap.size w.heap.size up3 bs3 (at' + fixL s + EX) t 5 (by omega) (by omega) (by omega) _ hS3.pen hS3.below.size).mono ?_
                        rintro e w4 ⟨rfl, up4, bs4, hP4, hM4, ho4, hn4⟩
                        have hS4 := hS3.pend hM4 hP4
                        obtain ⟨_, _, eab, b0, b1, b2⟩ := hR.cells hS4.below h1
                        simp only [Option.some.injEq, Addr.mk.injEq, and_true] at eab
                        obtain ⟨rfl, rfl⟩ := eab
                        clear hP4 hM4 hS3
                        obtain ⟨F, hF⟩ : ∃ F, Hid (farv t = F) := ⟨_, rfl⟩
                        have hFl : F ≤ 5 := by rw [← hF.out]; unfold farv; omega
                        obtain ⟨PF, hPF⟩ : ∃ PF : Nat, Hid (2 ^ F = PF) := ⟨_, rfl⟩
                        have hPFi : (2 : Int) ^ F = (PF : Nat) := by rw [two_pow_cast, hPF.out]
                        have hPFl : PF ≤ 32 := by rw [← hPF.out]; exact Nat.le_trans (Nat.pow_le_pow_right (by omega) hFl) (by decide)
                        have hPF0 : 0 < PF := by rw [← hPF.out]; exact Nat.two_pow_pos _
                        have b2q : ∀ k, (w4.drewN k).cell? ⟨b, off + i * 3 + 2, none⟩ = some (.int .i64 (f i 2)) := fun k => b2
                        have far2 := fun k : Nat => far_any t (by omega) (w4.drewN k)
                        rw [hF.out] at far2
                        go_wp2_with fail
                        go_quiet (first | (go_at_call 25; exact Calls.quiet_of_same (far2 _)) | (go_at_call 10; exact Calls.quiet_of_same (pick_any (wrap64 ((f i 2).tdiv 12)) PF (by omega) (by omega) _)))
                        have hU2 := pickv_lt (wrap64 ((f i 2).tdiv 12)) PF hPF0
                        obtain ⟨U2, hU2e⟩ : ∃ U2, Hid (pickv (wrap64 ((f i 2).tdiv 12)) PF = U2) := ⟨_, rfl⟩
                        rw [hU2e.out] at hU2 ⊢
                        have hS4' := hS4.drewN (w4.drewN nq) (below_drewN (Below.refl _ w4) nq)
                        obtain ⟨W4, hW4⟩ : ∃ W4, W4 = w4.drewN nq := ⟨_, rfl⟩
                        rw [← hW4] at hS4' ⊢
                        clear hW4 hS4 b0 b1 b2 b2q far2
                        go_wp2_with fail
                        refine (far_any t (by omega) _).mono ?_
                        rintro e w' ⟨rfl, hw⟩
                        have hw2 := hw.symm
                        subst hw2
                        clear hw
                        rw [hF.out]
                        go_wp2_with fail
                        refine (penbits_any w.heap.size w.heap.size up4 bs4 (at' + fixL s + EX + 5) U2 F (by omega) (by omega) (by omega) _ hS4'.pen hS4'.below.size).mono ?_
                        rintro e w5 ⟨rfl, up5, bs5, hP5, hM5, ho5, hn5⟩
                        have hS5 := hS4'.pend hM5 hP5
                        clear hP5 hM5 hS4'
                        have hcE : cEnd at' s t = at' + fixL s + EX + 5 + F := by unfold cEnd; rw [hF.out, if_neg hs285, hEX.out]
                        have hcL : cLen s U = NL := by unfold cLen; rw [if_neg hs285, hNB.out]; have := hNL.out; omega
                        have hsegC : SegC (zb bs5) at' s U t U2 := by
                          refine ⟨fun k hk => ?_, .inr ⟨by omega, fun k hk => by rw [hEX.out] at hk; rw [ho5.out _ (by omega), ho4.out _ (by omega)]; exact hn3.out k hk⟩, ?_, ?_⟩
                          · rw [ho5.out _ (by omega), ho4.out _ (by omega), ho3.out _ (by omega)]; exact hn2.out k hk
                          · rw [if_neg hs285, hEX.out]; intro k hk; rw [ho5.out _ (by omega)]; exact hn4.out k hk
                          · rw [if_neg hs285, hEX.out, hF.out]; exact hn5.out
                        have hSayC := hSay.out.copy (up := U) (d := t) (up2 := U2) hs1 hs2 (by omega) (.inr (by rw [hEX.out, hPW.out]; exact hU)) (by rw [hF.out, hPF.out]; exact hU2) (fun p hp => by rw [ho5.out p (by omega), ho4.out p (by omega), ho3.out p (by omega), ho2.out p hp]) hsegC
                        rw [hcE, hcL] at hSayC
                        obtain ⟨BK, hBK⟩ : ∃ BK : Nat, Hid (sumD t + U2 = BK) := ⟨_, rfl⟩
                        have hBKi : ((sumD t : Nat) : Int) + (U2 : Int) = (BK : Nat) := by have := hBK.out; omega
                        have hBKl : BK ≤ 2000 := by have := hBK.out; omega
                        have hBK0 : 0 < BK := by
                          have h0 : 0 < sumD t := by
                            have hh : ∀ k : Fin 13, 0 < sumD k.val := by decide +kernel
                            exact hh ⟨t, by omega⟩
                          have := hBK.out
                          omega
                        rw [hBK.out] at hSayC
                        have HSC : Hid (_) := hSayC
                        clear ho2 ho3 ho4 ho5 hn2 hn3 hn4 hn5 hsegC hcE hcL hSayC hSay hst
                        by_cases hgood : ok = true ∧ BK ≤ O.length
                        · obtain ⟨rfl, hbk⟩ := hgood
                          have hbk' : (BK : Int) ≤ (O.length : Int) := by omega
                          have HSC2 : Hid (Says true bs5 (at' + fixL s + EX + 5 + F) (cpL BK NL O)) := by
                            have := HSC.out
                            have e0 : (true && decide (BK ≤ O.length)) = true := by rw [decide_eq_true hbk]; rfl
                            rw [e0, if_pos rfl] at this
                            exact this
                          clear HSC
                          go_wp2_with fail
                          go_loopw [6, 17] (fun so xk wq => ∃ (t : Nat) (O1 : List Int), t ≤ NL ∧ xk = .int .i64 (t : Nat) ∧ FxS w wq w.heap.size up5 bs5 (at' + fixL s + EX + 5 + F) so O1 ∧ Hid (cpL BK (NL - t) O1 = cpL BK NL O) ∧ Hid (Byt O1) ∧ Hid (O1.length = O.length + t)) (fun _ xk _ => NL - (intOf xk).toNat)
                          case atStart => exact ⟨0, O, by omega, rfl, hS5, rfl, hBy, rfl⟩
                          case round =>
                            clear hS5
                            obtain ⟨t1, O1, ht1, rfl, hS6, hcp1, hBy1, hO1⟩ := hrel
                            by_cases htn : t1 < NL
                            · have htn' : (t1 : Int) < (NL : Int) := by omega
                              have hO1l : BK ≤ O1.length := by rw [hO1.out]; omega
                              have hO1s : O1.length ≤ 100000 := by rw [hO1.out]; omega
                              obtain ⟨g1, cap1, rfl, hOw⟩ := hS6.out.own (by omega)
                              have hlc1 := hOw.lc.1
                              have hcm1 := hOw.lc.2
                              unfold maxLen at hcm1
                              have c6 := hOw.cell (j := O1.length - BK) (by omega)
                              obtain ⟨X, hXe⟩ : ∃ X, Hid (O1.length - BK = X) := ⟨_, rfl⟩
                              have hX : (O1.length : Int) - (BK : Int) = (X : Nat) := by have := hXe.out; omega
                              have hXl : X < O1.length := by have := hXe.out; omega
                              obtain ⟨y, hy⟩ : ∃ y, Hid (O1.getD (O1.length - BK) 0 = y) := ⟨_, rfl⟩
                              rw [hy.out, hXe.out] at c6
                              have HAP : Hid (_) := hS6.add y (by omega)
                              clear hOw hS6
                              go_wp2_with (at_builtin; refine wpList_append_ex rfl (.tmp 159) (.tmp 167) 23 rfl rfl rfl HAP.out ?_; rintro g' cap' w6 hS7; have HS7 : Hid (_) := hS7; clear hS7)
                              refine ⟨⟨t1 + 1, O1 ++ [y], by omega, by go_num, HS7.out, ?_, ?_, ?_⟩, by simp [intOf]; omega⟩
                              · show _ = _
                                rw [← hcp1.out, show NL - t1 = (NL - (t1 + 1)) + 1 by omega]
                                simp only [cpL]
                                rw [hy.out]
                              · refine hBy1.out.append (fun q => ?_)
                                rcases q with _ | q
                                · have := hBy1.out (O1.length - BK); rw [hy.out] at this; simpa using this
                                · simp
                              · show _ = _
                                rw [List.length_append, hO1.out]; rfl
                            · have htn' : ¬ (t1 : Int) < (NL : Int) := by omega
                              obtain rfl : t1 = NL := by omega
                              have hcp2 := hcp1.out
                              rw [Nat.sub_self] at hcp2
                              have HCP : Hid (O1 = cpL BK t1 O) := hcp2
                              clear hcp2
                              go_wp2
                              refine ⟨⟨i + 1, true, up5, bs5, at' + fixL s + EX + 5 + F, O1, rfl, by go_num, by omega, hS6, by rw [HCP.out]; exact HSC2, hBy1, by have := hO1.out; omega, by omega⟩, by simp [intOf]; omega⟩
                        · have HSC2 : Hid (Says false bs5 (at' + fixL s + EX + 5 + F) O) := by
                            have := HSC.out
                            have e0 : (ok && decide (BK ≤ O.length)) = false := by
                              cases ok with
                              | true => simp at hgood ⊢; omega
                              | false => rfl
                            rw [e0, if_neg (by simp)] at this
                            exact this
                          have HS5 : Hid (_) := hS5
                          clear HSC hS5
                          cases ok with
                          | true =>
                            have hnb : ¬ BK ≤ O.length := by simp at hgood; omega
                            have hbk' : ¬ (BK : Int) ≤ (O.length : Int) := by omega
                            have HNB : Hid (¬ BK ≤ O.length) := hnb
                            clear hgood hnb
                            go_wp2_with fail
                            refine wp_loop_once ?_
                            go_wp2
                            all_goals exact ⟨⟨i + 1, false, up5, bs5, at' + fixL s + EX + 5 + F, O, by first | rfl | rw [decide_eq_false HNB.out], by go_num, by omega, HS5.out, HSC2, hBy, by omega, by omega⟩, by simp [intOf]; omega⟩
                          | false =>
                            clear hgood
                            go_wp2_with fail
                            refine wp_loop_once ?_
                            go_wp2
                            all_goals exact ⟨⟨i + 1, false, up5, bs5, at' + fixL s + EX + 5 + F, O, rfl, by go_num, by omega, HS5.out, HSC2, hBy, by omega, by omega⟩, by simp [intOf]; omega⟩
      · by_cases h6 : K = 6
        · as_aux_lemma =>
            subst h6
            go_wp2_with fail
            refine (penlit_any w.heap.size w.heap.size up bs at' 256 (by omega) (by omega) _ hS.pen hS.below.size).mono ?_
            rintro e w2 ⟨rfl, up2, bs2, hP2, hM2, ho2, hn2⟩
            have e7 : fixL 256 = 7 := by decide
            have hS2 := hS.pend hM2 hP2
            rw [e7] at hS2
            clear hP2 hM2 hS c0 c1 c2
            go_wp2_with fail
            refine (penbits_any w.heap.size w.heap.size up2 bs2 (at' + 7) 2 3 (by omega) (by omega) (by omega) _ hS2.pen hS2.below.size).mono ?_
            rintro e w3 ⟨rfl, up3, bs3, hP3, hM3, ho3, hn3⟩
            have hS3 := hS2.pend hM3 hP3
            have hSay3 : Hid (Says ok bs3 (at' + 7 + 3) O) := hSay.out.block (fun p hp => by rw [ho3.out p (by omega), ho2.out p hp]) (fun k hk => by rw [ho3.out _ (by rw [e7] at hk; omega)]; exact hn2.out k hk) hn3.out
            have HS3 : Hid (_) := hS3
            clear hP3 hM3 ho2 ho3 hn2 hn3 hS2 hS3 hSay e7
            go_wp2
            exact ⟨⟨i + 1, ok, up3, bs3, at' + 7 + 3, O, rfl, by go_num, by omega, HS3.out, hSay3, hBy, by omega, by omega⟩, by simp [intOf]; omega⟩
        · as_aux_lemma =>
            have k4 : ¬ (K : Int) = 4 := by omega
            have k5 : ¬ (K : Int) = 5 := by omega
            have k6 : ¬ (K : Int) = 6 := by omega
            go_wp2_with fail
            refine (pick_any (f i 1) 256 (by omega) (by omega) _).mono ?_
            rintro e w' ⟨rfl, hw⟩
            have hw2 := hw.symm
            subst hw2
            clear hw
            have hC := pickv_lt (f i 1) 256 (by omega)
            go_wp2_with fail
            obtain ⟨c, hc⟩ : ∃ c, Hid (pickv (f i 1) 256 = c) := ⟨_, rfl⟩
            have hcl : c < 256 := by rw [← hc.out]; exact hC
            rw [hc.out]
            refine (penlit_any w.heap.size w.heap.size up bs at' c (by omega) (by omega) _ hS.pen hS.below.size).mono ?_
            rintro e w2 ⟨rfl, up2, bs2, hP2, hM2, ho2, hn2⟩
            have hS2 := hS.pend hM2 hP2
            obtain ⟨_, _, eab, c0', c1', _⟩ := hR.cells hS2.below h1
            simp only [Option.some.injEq, Addr.mk.injEq, and_true] at eab
            obtain ⟨rfl, rfl⟩ := eab
            have hSay2 : Hid (Says ok bs2 (at' + fixL c) (O ++ [(c : Int)])) := hSay.out.lit hcl ho2.out hn2.out
            have hfl := fixL_le c
            clear hP2 hM2 ho2 hn2 hS c0 c1 c2 hSay hC
            go_wp2_with fail
            refine (pick_any (f i 1) 256 (by omega) (by omega) _).mono ?_
            rintro e w' ⟨rfl, hw⟩
            have hw2 := hw.symm
            subst hw2
            clear hw
            rw [hc.out]
            have HAP : Hid (_) := hS2.add (c : Int) (by omega)
            clear hS2
            go_wp2_with (at_builtin; refine wpList_append_ex rfl (.tmp 46) (.tmp 54) 23 rfl rfl rfl HAP.out ?_; rintro g' cap' w3 hS3; have HS3 : Hid (_) := hS3; clear hS3)
            refine ⟨⟨i + 1, ok, up2, bs2, at' + fixL c, O ++ [(c : Int)], rfl, by go_num, by omega, HS3.out, hSay2, hBy.out.append ?_, by simp; omega, by omega⟩, by simp [intOf]; omega⟩
            intro q
            rcases q with _ | q
            · simp; omega
            · simp
    · obtain ⟨ao, capo, rfl⟩ := hS.out.form
      have e7 : fixL 256 = 7 := by decide
      by_cases hl1 : i < len
      all_goals
        first
          | (have q1 : (i : Int) < (len : Int) := by omega
             have q2 : ¬ (i : Int) < 50 := by omega)
          | (have q1 : ¬ (i : Int) < (len : Int) := by omega)
        go_wp2_with fail
        refine (penlit_any w.heap.size w.heap.size up bs at' 256 (by omega) (by omega) _ hS.pen hS.below.size).mono ?_
        rintro e w2 ⟨rfl, up2, bs2, hP2, hM2, ho2, hn2⟩
        have hS2 := hS.pend hM2 hP2
        rw [e7] at hS2
        clear hP2 hM2 hS
        go_wp2_with fail
        refine (penbits_any w.heap.size w.heap.size up2 bs2 (at' + 7) 3 3 (by omega) (by omega) (by omega) _ hS2.pen hS2.below.size).mono ?_
        rintro e w3 ⟨rfl, up3, bs3, hP3, hM3, ho3, hn3⟩
        have hS3 := hS2.pend hM3 hP3
        clear hP3 hM3 hS2
        go_wp2_with fail
        refine (penlit_any w.heap.size w.heap.size up3 bs3 (at' + 7 + 3) 256 (by omega) (by omega) _ hS3.pen hS3.below.size).mono ?_
        rintro e w4 ⟨rfl, up4, bs4, hP4, hM4, ho4, hn4⟩
        have hS4 := hS3.pend hM4 hP4
        rw [e7] at hS4
        have hSay4 : Hid (SaysAll ok bs4 (at' + 7 + 3 + 7) O) := hSay.out.all (fun p hp => by rw [ho4.out p (by omega), ho3.out p (by omega), ho2.out p hp]) (fun k hk => by rw [ho4.out _ (by rw [e7] at hk; omega), ho3.out _ (by rw [e7] at hk; omega)]; exact hn2.out k hk) (fun k hk => by rw [ho4.out _ (by omega)]; exact hn3.out k hk) hn4.out
        clear hP4 hM4 hS3 ho2 ho3 ho4 hn2 hn3 hn4
        obtain ⟨ap, capp, rfl⟩ := hS4.pen.own.form
        have d0 : w4.cell? ⟨w.heap.size, 0, none⟩ = some (.slice ap bs4.length capp) := blk_cell hS4.pen.obj 0
        have cv : ∀ k, (convert 23 9 (.slice ao O.length capo)).run Tryd.prog (w4.drewN k) = .ok (.string (bstr (zb O) O.length)) (w4.drewN k) := fun k => by
          obtain ⟨a', c', e', hL⟩ := hS4.out.liesB hBy.out (by omega)
          simp only [Value.slice.injEq, true_and] at e'
          obtain ⟨rfl, rfl⟩ := e'
          exact conv_string (hL.below (below_drewN (Below.refl _ w4) k) (Nat.le_refl _))
        have HS4 : Hid (_) := hS4
        clear hS4
        go_wp2_with fail
        go_quiet (fail)
        go_wp2
        go_ret3
        have hS5 := HS4.out.drewN (w4.drewN nq) (below_drewN (Below.refl _ w4) nq)
        exact ⟨_, bs4, at' + 7 + 3 + 7, ok, O, rfl, hS5.pen.own, hS5.below, hS5.pen.inv, hSay4, hBy, by omega, by omega, by omega⟩
end Go.Proofs.YtahibacjaoohiaaDoor
