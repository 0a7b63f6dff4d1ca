/-
  Proved: FixedRises answers true and leaves its arguments and all memory as they were, for every input; no condition.
-/
import Derived.Test.YtaceobpgopdejaaFixedTells
namespace Go.Proofs.Ytaceobpgopdejaa
open Go.ChangeShapes Go.WideShapes Go.ChangeAt Go.RowKit

theorem clip_nonneg {d : Int} (h : 0 ≤ d) : 0 ≤ clip d := by
  have := clip_mono h
  have e : clip 0 = 0 := by decide
  omega
theorem clip_pos {d : Int} (h : 0 < d) : 0 < clip d := by
  have := clip_mono (show 1 ≤ d by omega)
  have e : clip 1 = 1 := by decide
  omega
theorem mulv_mono {a b d : Int} (h : a ≤ b) (hd : 0 ≤ d) : mulv a d ≤ mulv b d := by
  have h1 := Int.mul_le_mul_of_nonneg_right (clip_mono h) (clip_nonneg hd)
  unfold mulv
  apply clip_mono
  omega
theorem roundv_mono {a b : Int} (h : a ≤ b) : roundv a ≤ roundv b := by
  have := clip_mono h
  unfold roundv
  omega
theorem wholev_mono {a b : Int} (h : a ≤ b) : wholev a ≤ wholev b := by
  have := clip_mono h
  unfold wholev
  apply clip_mono
  omega
theorem divv_mono {a b d : Int} (h : a ≤ b) (hd : 0 < d) : divv a d ≤ divv b d := by
  have h1 := clip_mono h
  have h2 := clip_pos hd
  unfold divv
  rw [if_neg (by omega), if_neg (by omega), fdiv_pos h2, fdiv_pos h2]
  apply clip_mono
  exact Int.ediv_le_ediv h2 (by omega)

set_option maxRecDepth 100000 in
set_option maxHeartbeats 1600000 in
theorem rises_walk (a0 b0 c0 : Int) (ha : Fits a0) (hb : Fits b0) (hc : Fits c0) (w : World) :
    Calls Try.prog 6 #[.int .i64 a0, .int .i64 b0, .int .i64 c0] w fun e w' => e = .returned (.bool true) ∧ w' = w := by
  go_enter Try.func6, Try.ntmps6
  go_wp2_with fail
  refine (num_any a0 ha.1 ha.2 _).mono ?_
  rintro e w' ⟨a, ha1, ha2, rfl, rfl⟩
  go_wp2_with fail
  refine (num_any b0 hb.1 hb.2 _).mono ?_
  rintro e w' ⟨b, hb1, hb2, rfl, rfl⟩
  go_wp2_with fail
  refine (num_any c0 hc.1 hc.2 _).mono ?_
  rintro e w' ⟨c, hc1, hc2, rfl, rfl⟩
  obtain ⟨lo, hlo⟩ : ∃ lo, (if b < a then b else a) = lo := ⟨_, rfl⟩
  obtain ⟨hi, hhi⟩ : ∃ hi, (if a < b then b else a) = hi := ⟨_, rfl⟩
  obtain ⟨d, hd⟩ : ∃ d, (if 0 < c then c else 0) = d := ⟨_, rfl⟩
  have hle : lo ≤ hi := by rw [← hlo, ← hhi]; repeat' split <;> omega
  have hlo2 : lo ≤ 9223372036854775807 := by rw [← hlo]; split <;> omega
  have hhi2 : hi ≤ 9223372036854775807 := by rw [← hhi]; split <;> omega
  have hd0 : 0 ≤ d := by rw [← hd]; split <;> omega
  have m1 := mulv_mono hle hd0
  have m2 := roundv_mono hle
  have m3 := wholev_mono hle
  have m4 := clip_mono hle
  by_cases hz : d = 0
  · subst hz
    go_wp2_with fail
    refine (known_any  _).mono ?_
    rintro e w' ⟨rfl, rfl⟩
    go_wp2_with fail
    refine (mul_any lo 0 _).mono ?_
    rintro e w' ⟨rfl, rfl⟩
    go_wp2_with fail
    refine (mul_any hi 0 _).mono ?_
    rintro e w' ⟨rfl, rfl⟩
    go_wp2_with fail
    refine (round_any lo _).mono ?_
    rintro e w' ⟨rfl, rfl⟩
    go_wp2_with fail
    refine (round_any hi _).mono ?_
    rintro e w' ⟨rfl, rfl⟩
    go_wp2_with fail
    refine (whole_any lo _).mono ?_
    rintro e w' ⟨rfl, rfl⟩
    go_wp2_with fail
    refine (whole_any hi _).mono ?_
    rintro e w' ⟨rfl, rfl⟩
    go_wp2_with fail
    refine (root_any lo hlo2 _).mono ?_
    rintro e w' ⟨r, hr, rfl, rfl⟩
    go_wp2_with fail
    refine (root_any hi hhi2 _).mono ?_
    rintro e w' ⟨s, hs, rfl, rfl⟩
    have hroot := root_mono hle hr hs
    clear hr hs
    go_wp2_with fail
    refine (clip_any lo _).mono ?_
    rintro e w' ⟨rfl, rfl⟩
    go_wp2_with fail
    refine (clip_any hi _).mono ?_
    rintro e w' ⟨rfl, rfl⟩
    go_wp2
    go_ret
    exact ⟨rfl, rfl⟩
  · have h0c : 0 < c := by
      rcases Int.lt_or_le 0 c with h | h
      · exact h
      · rw [if_neg (by omega)] at hd; omega
    obtain rfl : c = d := by rw [if_pos h0c] at hd; exact hd
    clear hd
    have m5 := divv_mono hle h0c
    go_wp2_with fail
    refine (known_any  _).mono ?_
    rintro e w' ⟨rfl, rfl⟩
    go_wp2_with fail
    refine (mul_any lo c _).mono ?_
    rintro e w' ⟨rfl, rfl⟩
    go_wp2_with fail
    refine (mul_any hi c _).mono ?_
    rintro e w' ⟨rfl, rfl⟩
    go_wp2_with fail
    refine (round_any lo _).mono ?_
    rintro e w' ⟨rfl, rfl⟩
    go_wp2_with fail
    refine (round_any hi _).mono ?_
    rintro e w' ⟨rfl, rfl⟩
    go_wp2_with fail
    refine (whole_any lo _).mono ?_
    rintro e w' ⟨rfl, rfl⟩
    go_wp2_with fail
    refine (whole_any hi _).mono ?_
    rintro e w' ⟨rfl, rfl⟩
    go_wp2_with fail
    refine (div_any lo c _).mono ?_
    rintro e w' ⟨rfl, rfl⟩
    go_wp2_with fail
    refine (div_any hi c _).mono ?_
    rintro e w' ⟨rfl, rfl⟩
    go_wp2_with fail
    refine (root_any lo hlo2 _).mono ?_
    rintro e w' ⟨r, hr, rfl, rfl⟩
    go_wp2_with fail
    refine (root_any hi hhi2 _).mono ?_
    rintro e w' ⟨s, hs, rfl, rfl⟩
    have hroot := root_mono hle hr hs
    clear hr hs
    go_wp2_with fail
    refine (clip_any lo _).mono ?_
    rintro e w' ⟨rfl, rfl⟩
    go_wp2_with fail
    refine (clip_any hi _).mono ?_
    rintro e w' ⟨rfl, rfl⟩
    go_wp2
    go_ret
    exact ⟨rfl, rfl⟩

set_option maxRecDepth 100000 in
theorem fixedRises_lifted (os : Os) (started : os.Started) (H : Type) (enc : TypeId × Value → H) :
    ReturnsInHanded {} Try.checked os 6 .any (Rows.fixedRisesSpec.pre6 enc Try.prog Try.f6 Rows.fixedRisesRow.domain false) (Rows.fixedRisesSpec.post enc Try.prog Try.f6 false true false false) := by
  refine returnsInHanded_of_change (C := Try.checked) own started (by kernel_rfl) Try.func6
    (ChangeSpec.witness6 (enc := enc) (C := Try.checked) false ⟨#[], #[.int .i64 0, .int .i64 0, .int .i64 0], []⟩ 8 (by kernel_rfl) (by kernel_rfl) (by kernel_rfl) (by kernel_rfl)) ?_
  intro W base args ds gs before hval0 hW hcnd _
  have hval : ∀ (j : Nat) t v, Try.f6.params[j]? = some t → args[j]? = some v → Value.okWide Try.prog W .any base t v := hval0
  have hW' := hW
  obtain ⟨p, q, hA0, hV, rfl, hfz, hnd⟩ := hW
  have hA : DataW.TrodAll enc Try.prog W 0 (fun _ => true) true Try.f6.params.toList args.toList ds p := hA0
  rw [Try.params6] at hA hval
  obtain ⟨v0, vs0, d0, ds0, p0, q0, hargs, rfl, rfl, h0, r0⟩ := trodAll_cons hA
  obtain ⟨v1, vs1, d1, ds1, p1, q1, rfl, rfl, rfl, h1, r1⟩ := trodAll_cons r0
  obtain ⟨v2, vs2, d2, ds2, p2, q2, rfl, rfl, rfl, h2, r2⟩ := trodAll_cons r1
  obtain ⟨rfl, rfl, rfl⟩ := trodAll_nil r2
  obtain rfl : args = #[v0, v1, v2] := by cases args; simp_all
  obtain ⟨rfl, rfl⟩ := trodVars_none hV
  obtain ⟨a0, rfl, rfl, rfl, w0⟩ := open_int Try.underlying3 (hval 0 3 v0 rfl rfl) h0
  obtain ⟨a1, rfl, rfl, rfl, w1⟩ := open_int Try.underlying3 (hval 1 3 v1 rfl rfl) h1
  obtain ⟨a2, rfl, rfl, rfl, w2⟩ := open_int Try.underlying3 (hval 2 3 v2 rfl rfl) h2
  clear hA0 hval0
  refine (rises_walk a0 a1 a2 (wf_i64 w0) (wf_i64 w1) (wf_i64 w2) W).mono fun e W' ⟨he, hw⟩ => ?_
  subst he
  subst hw
  exact ⟨_, rfl, _, _, _, [], _, [], hW', trodAll_mk1 (shut_bool Try.underlying4 _), (trodAll_cons_mk (shut_int Try.underlying3 w0) (trodAll_cons_mk (shut_int Try.underlying3 w1) (trodAll_cons_mk (shut_int Try.underlying3 w2) trodAll_mk0))), rfl, (Below.refl _ _).frame _, fun h => by cases h⟩

theorem fixedRises_holds : Rows.FixedRisesSaid :=
  OpenClaim.holds_of_wide 6 Try.f6 rfl rfl rfl rfl rfl rfl rfl ⟨rfl, rfl, rfl, rfl, rfl⟩ rfl rfl rfl rfl rfl (by kernel_rfl) Try.func6 (by kernel_rfl)
    (of_decide_eq_true (by kernel_rfl)) (by unfold Func.isWrapper; first | (rw [if_pos (by decide +kernel)]; kernel_rfl) | (rw [if_neg (by decide +kernel)]; exact ⟨rfl, rfl⟩))
    (fun os started H enc _ => fixedRises_lifted os started H enc)
#print axioms fixedRises_holds
end Go.Proofs.Ytaceobpgopdejaa
