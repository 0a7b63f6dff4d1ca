/-
  Proved: AngleTurns answers true and leaves its argument and all memory as they were, for every input; no condition.
-/
import Derived.Test.YtgbmmbimcmegcaaAngleTells
namespace Go.Proofs.Ytgbmmbimcmegcaa
open Go.ChangeShapes Go.WideShapes Go.ChangeAt Go.RowKit

theorem tmod_rng (n m : Int) (hm : 0 < m) : ∃ x, n.tmod m = x ∧ -m < x ∧ x < m := ⟨_, rfl, (tmod_bd n m hm).1, (tmod_bd n m hm).2⟩
theorem ret_bool {a b : Bool} (h : a = b) : Ending.returned (.bool a) = .returned (.bool b) := by rw [h]
theorem norm_rest {a n : Int} (h : normv a = n) : (a - n).tmod 65536 = 0 := by
  unfold normv at h
  exact Int.tmod_eq_zero_of_dvd (by omega)

set_option maxRecDepth 100000 in
set_option maxHeartbeats 1600000 in
theorem turns_walk (a0 : Int) (_ha : Fits a0) (w : World) :
    Calls Try.prog 5 #[.int .i64 a0] w fun e w' => e = .returned (.bool true) ∧ w' = w := by
  obtain ⟨a, hxa, ha1, ha2⟩ := tmod_rng a0 1099511627776 (by omega)
  obtain ⟨s, hs⟩ : ∃ s, sinv a = s := ⟨_, rfl⟩
  obtain ⟨n, hn⟩ : ∃ n, normv a = n := ⟨_, rfl⟩
  have HS : Hid (sinv a = s) := hs
  have HN : Hid (normv a = n) := hn
  obtain ⟨hs1, hs2⟩ := sin_bd a
  obtain ⟨hn1, hn2⟩ := norm_bd a
  have hr := norm_rest hn
  have hp : (0 < n ∧ n < 32768 ∧ 0 < s) ∨ (n = 0 ∧ s ≤ 0) ∨ (32768 ≤ n ∧ s ≤ 0) := by
    rw [← hn, ← hs]
    rcases (by omega : normv a = 0 ∨ (0 < normv a ∧ normv a < 32768) ∨ 32768 ≤ normv a) with h | ⟨h, h2⟩ | h
    · exact .inr (.inl ⟨h, sin_not (.inl h)⟩)
    · exact .inl ⟨h, h2, sin_pos h h2⟩
    · exact .inr (.inr ⟨h, sin_not (.inr h)⟩)
  rw [hs] at hs1 hs2
  rw [hn] at hn1 hn2
  clear hs hn
  have k1 : Hid (sinv (a + 32768) = -s) := by rw [← HS.out]; exact sin_half a
  have k2 : Hid (sinv (a + 65536) = s) := by rw [← HS.out]; exact sin_whole a
  have k3 : Hid (sinv (32768 - a) = s) := by rw [← HS.out]; exact sin_flip a
  have k4 : Hid (sinv (-a) = -s) := by rw [← HS.out]; exact sin_neg a
  rcases hp with ⟨h1, h2, h3⟩ | ⟨h1, h3⟩ | ⟨h1, h3⟩
  · go_enter Try.func5, Try.ntmps5
    go_wp2_with fail
    refine (sin_any a _).mono ?_
    rintro e w' ⟨rfl, rfl⟩
    rw [HS.out]
    go_wp2_with fail
    refine (norm_any a _).mono ?_
    rintro e w' ⟨rfl, rfl⟩
    rw [HN.out]
    go_wp2_with fail
    refine (known_any _).mono ?_
    rintro e w' ⟨rfl, rfl⟩
    go_wp2_with fail
    refine (sin_any (a + 32768) _).mono ?_
    rintro e w' ⟨rfl, rfl⟩
    rw [k1.out]
    go_wp2_with fail
    refine (sin_any (a + 65536) _).mono ?_
    rintro e w' ⟨rfl, rfl⟩
    rw [k2.out]
    go_wp2_with fail
    refine (sin_any (32768 - a) _).mono ?_
    rintro e w' ⟨rfl, rfl⟩
    rw [k3.out]
    go_wp2_with fail
    refine (sin_any (-a) _).mono ?_
    rintro e w' ⟨rfl, rfl⟩
    rw [k4.out]
    go_wp2_with fail
    refine (cos_any (-a) _).mono ?_
    rintro e w' ⟨rfl, rfl⟩
    rw [cos_neg a]
    go_wp2_with fail
    refine (cos_any a _).mono ?_
    rintro e w' ⟨rfl, rfl⟩
    go_wp2_with fail
    refine (cos_any a _).mono ?_
    rintro e w' ⟨rfl, rfl⟩
    rw [cos_eq a]
    go_wp2_with fail
    refine (sin_any (a + 16384) _).mono ?_
    rintro e w' ⟨rfl, rfl⟩
    go_wp2
    go_ret
    exact ⟨rfl, rfl⟩
  · rw [h1, Int.sub_zero] at hr
    go_enter Try.func5, Try.ntmps5
    go_wp2_with fail
    refine (sin_any a _).mono ?_
    rintro e w' ⟨rfl, rfl⟩
    rw [HS.out]
    go_wp2_with fail
    refine (norm_any a _).mono ?_
    rintro e w' ⟨rfl, rfl⟩
    rw [HN.out]
    go_wp2_with fail
    refine (known_any _).mono ?_
    rintro e w' ⟨rfl, rfl⟩
    go_wp2_with fail
    refine (sin_any (a + 32768) _).mono ?_
    rintro e w' ⟨rfl, rfl⟩
    rw [k1.out]
    go_wp2_with fail
    refine (sin_any (a + 65536) _).mono ?_
    rintro e w' ⟨rfl, rfl⟩
    rw [k2.out]
    go_wp2_with fail
    refine (sin_any (32768 - a) _).mono ?_
    rintro e w' ⟨rfl, rfl⟩
    rw [k3.out]
    go_wp2_with fail
    refine (sin_any (-a) _).mono ?_
    rintro e w' ⟨rfl, rfl⟩
    rw [k4.out]
    go_wp2_with fail
    refine (cos_any (-a) _).mono ?_
    rintro e w' ⟨rfl, rfl⟩
    rw [cos_neg a]
    go_wp2_with fail
    refine (cos_any a _).mono ?_
    rintro e w' ⟨rfl, rfl⟩
    go_wp2_with fail
    refine (cos_any a _).mono ?_
    rintro e w' ⟨rfl, rfl⟩
    rw [cos_eq a]
    go_wp2_with fail
    refine (sin_any (a + 16384) _).mono ?_
    rintro e w' ⟨rfl, rfl⟩
    go_wp2
    go_ret
    exact ⟨ret_bool (by rw [decide_eq_false (show ¬ 0 < s by omega)]; rfl), rfl⟩
  · go_enter Try.func5, Try.ntmps5
    go_wp2_with fail
    refine (sin_any a _).mono ?_
    rintro e w' ⟨rfl, rfl⟩
    rw [HS.out]
    go_wp2_with fail
    refine (norm_any a _).mono ?_
    rintro e w' ⟨rfl, rfl⟩
    rw [HN.out]
    go_wp2_with fail
    refine (known_any _).mono ?_
    rintro e w' ⟨rfl, rfl⟩
    go_wp2_with fail
    refine (sin_any (a + 32768) _).mono ?_
    rintro e w' ⟨rfl, rfl⟩
    rw [k1.out]
    go_wp2_with fail
    refine (sin_any (a + 65536) _).mono ?_
    rintro e w' ⟨rfl, rfl⟩
    rw [k2.out]
    go_wp2_with fail
    refine (sin_any (32768 - a) _).mono ?_
    rintro e w' ⟨rfl, rfl⟩
    rw [k3.out]
    go_wp2_with fail
    refine (sin_any (-a) _).mono ?_
    rintro e w' ⟨rfl, rfl⟩
    rw [k4.out]
    go_wp2_with fail
    refine (cos_any (-a) _).mono ?_
    rintro e w' ⟨rfl, rfl⟩
    rw [cos_neg a]
    go_wp2_with fail
    refine (cos_any a _).mono ?_
    rintro e w' ⟨rfl, rfl⟩
    go_wp2_with fail
    refine (cos_any a _).mono ?_
    rintro e w' ⟨rfl, rfl⟩
    rw [cos_eq a]
    go_wp2_with fail
    refine (sin_any (a + 16384) _).mono ?_
    rintro e w' ⟨rfl, rfl⟩
    go_wp2
    go_ret
    exact ⟨ret_bool (by rw [decide_eq_false (show ¬ 0 < s by omega), decide_eq_false (show ¬ n < 32768 by omega)]; rfl), rfl⟩

set_option maxRecDepth 100000 in
theorem angleTurns_lifted (os : Os) (started : os.Started) (H : Type) (enc : TypeId × Value → H) :
    ReturnsInHanded {} Try.checked os 5 .any (Rows.angleTurnsSpec.pre6 enc Try.prog Try.f5 Rows.angleTurnsRow.domain false) (Rows.angleTurnsSpec.post enc Try.prog Try.f5 false true false false) := by
  refine returnsInHanded_of_change (C := Try.checked) own started (by kernel_rfl) Try.func5
    (ChangeSpec.witness6 (enc := enc) (C := Try.checked) false ⟨#[], #[.int .i64 0], []⟩ 8 (by kernel_rfl) (by kernel_rfl) (by kernel_rfl) (by kernel_rfl)) ?_
  intro W base args ds gs before hval0 hW hcnd _
  have hval : ∀ (j : Nat) t v, Try.f5.params[j]? = some t → args[j]? = some v → Value.okWide Try.prog W .any base t v := hval0
  have hW' := hW
  obtain ⟨p, q, hA0, hV, rfl, hfz, hnd⟩ := hW
  have hA : DataW.TrodAll enc Try.prog W 0 (fun _ => true) true Try.f5.params.toList args.toList ds p := hA0
  rw [Try.params5] at hA hval
  obtain ⟨v0, vs0, d0, ds0, p0, q0, hargs, rfl, rfl, h0, r0⟩ := trodAll_cons hA
  obtain ⟨rfl, rfl, rfl⟩ := trodAll_nil r0
  obtain rfl : args = #[v0] := by cases args; simp_all
  obtain ⟨rfl, rfl⟩ := trodVars_none hV
  obtain ⟨a0, rfl, rfl, rfl, w0⟩ := open_int Try.underlying3 (hval 0 3 v0 rfl rfl) h0
  clear hA0 hval0
  refine (turns_walk a0 (wf_i64 w0) W).mono fun e W' ⟨he, hw⟩ => ?_
  subst he
  subst hw
  exact ⟨_, rfl, _, _, _, [], _, [], hW', trodAll_mk1 (shut_bool Try.underlying4 _), (trodAll_cons_mk (shut_int Try.underlying3 w0) trodAll_mk0), rfl, (Below.refl _ _).frame _, fun h => by cases h⟩

theorem angleTurns_holds : Rows.AngleTurnsSaid :=
  OpenClaim.holds_of_wide 5 Try.f5 rfl rfl rfl rfl rfl rfl rfl ⟨rfl, rfl, rfl, rfl, rfl⟩ rfl rfl rfl rfl rfl (by kernel_rfl) Try.func5 (by kernel_rfl)
    (of_decide_eq_true (by kernel_rfl)) (by unfold Func.isWrapper; first | (rw [if_pos (by decide +kernel)]; kernel_rfl) | (rw [if_neg (by decide +kernel)]; exact ⟨rfl, rfl⟩))
    (fun os started H enc _ => angleTurns_lifted os started H enc)
#print axioms angleTurns_holds
end Go.Proofs.Ytgbmmbimcmegcaa
