/-
  Proved: FixedLaws answers true and leaves its arguments and all memory as they were, for every input; no condition.
-/
import Derived.Test.YtaceobpgopdejaaFixedTells
namespace Go.Proofs.Ytaceobpgopdejaa
open Go.ChangeShapes Go.WideShapes Go.ChangeAt Go.RowKit

theorem mulv_comm (a b : Int) : mulv b a = mulv a b := by unfold mulv; rw [Int.mul_comm]
theorem mulv_one {a : Int} (h : -1073741824 < a) (h2 : a < 1073741824) : mulv a 65536 = a := by
  unfold mulv
  rw [clip_id (n := a) (by omega) (by omega), show clip 65536 = 65536 by decide, show (a * 65536 + 32768) / 65536 = a by omega]
  exact clip_id (by omega) (by omega)
theorem mulv_null (a : Int) : mulv a 0 = 0 := by
  unfold mulv
  rw [show clip 0 = 0 by decide, Int.mul_zero]
  decide
theorem divv_one {a : Int} (h : -1073741824 < a) (h2 : a < 1073741824) : divv a 65536 = a := by
  unfold divv
  rw [if_neg (by decide), clip_id (n := a) (by omega) (by omega), show clip 65536 = 65536 by decide, fdiv_pos (by omega), show a * 65536 / 65536 = a by omega]
  exact clip_id (by omega) (by omega)
theorem round_whole {y : Int} (h : -30000 < y) (h2 : y < 30000) : roundv (wholev y) = y := by
  unfold roundv wholev
  rw [clip_id (n := y) (by omega) (by omega), clip_clip, clip_id (by omega) (by omega)]
  omega
/-- What is left over: of a divisor above 0 it lies from 0 on, below it; of one below 0 the other way round. -/
theorem div_rest {a b q : Int} (h : -1073741824 < a) (h2 : a < 1073741824) (hb : -1073741824 < b) (hb2 : b < 1073741824) (hz : b ≠ 0) (hq : divv a b = q) (q1 : -2147483647 < q) (q2 : q < 2147483647) :
    (0 < b → 0 ≤ a * 65536 - q * b ∧ a * 65536 - q * b < b) ∧ (b < 0 → a * 65536 - q * b ≤ 0 ∧ b < a * 65536 - q * b) := by
  unfold divv at hq
  rw [clip_id (n := a) (by omega) (by omega), clip_id (n := b) (by omega) (by omega), if_neg hz] at hq
  have e : (a * 65536).fdiv b = q := by
    rw [← hq]
    unfold clip within at hq ⊢
    split at hq
    · omega
    · split at hq
      · omega
      · rw [if_neg (by assumption), if_neg (by assumption)]
  have hm : (a * 65536).fmod b = a * 65536 - q * b := by
    have h3 := Int.fmod_def (a * 65536) b
    rw [e, Int.mul_comm b q] at h3
    exact h3
  constructor
  · intro hp
    rw [← hm]
    exact ⟨Int.fmod_nonneg_of_pos _ hp, Int.fmod_lt_of_pos _ hp⟩
  · intro hn
    have h4 := Int.neg_fmod_neg (a * 65536) b
    have h5 := Int.fmod_nonneg_of_pos (-(a * 65536)) (show 0 < -b by omega)
    have h6 := Int.fmod_lt_of_pos (-(a * 65536)) (show 0 < -b by omega)
    omega
theorem root_laws {n : Int} {r : Nat} (hr : IsRoot n r) (hn : 0 ≤ n) (hn2 : n ≤ 1073741823000) : (r : Int) ≤ 2000000 ∧ (r : Int) * r ≤ n ∧ n < ((r : Int) + 1) * (r + 1) ∧ ((r : Int) + 1) * (r + 1) ≤ 4000004000001 := by
  rcases hr with ⟨h, _⟩ | ⟨_, h0, h1, h2⟩
  · omega
  · have hle : (r : Int) ≤ 2000000 := by
      rcases Int.lt_or_le 2000000 (r : Int) with h | h
      · have := sq_le (a := 2000000) (b := (r : Int)) (by omega) (by omega)
        omega
      · exact h
    have := sq_le (a := (r : Int) + 1) (b := 2000001) (by omega) (by omega)
    exact ⟨hle, h1, h2, by omega⟩
theorem tmod_rng (n m : Int) (hm : 0 < m) : ∃ x, n.tmod m = x ∧ -m < x ∧ x < m := ⟨_, rfl, (tmod_bd n m hm).1, (tmod_bd n m hm).2⟩

set_option maxRecDepth 100000 in
set_option maxHeartbeats 1600000 in
theorem laws_walk (a0 b0 : Int) (ha : Fits a0) (hb : Fits b0) (w : World) :
    Calls Try.prog 5 #[.int .i64 a0, .int .i64 b0] w fun e w' => e = .returned (.bool true) ∧ w' = w := by
  have hnot : ∀ (x : Bool) (w : World), (Op.unary .not (.bool x)).run Try.prog w = .ok (.bool (!x)) w := fun _ _ => rfl
  go_enter Try.func5, Try.ntmps5
  go_wp2_with fail
  refine (num_any a0 ha.1 ha.2 _).mono ?_
  rintro e w' ⟨A, hA1, hA2, rfl, rfl⟩
  obtain ⟨a, hxa, ha1, ha2⟩ := tmod_rng A 1073741824 (by omega)
  go_wp2_with fail
  refine (num_any b0 hb.1 hb.2 _).mono ?_
  rintro e w' ⟨B, hB1, hB2, rfl, rfl⟩
  obtain ⟨b, hxb, hb1, hb2⟩ := tmod_rng B 1073741824 (by omega)
  obtain ⟨y, hy, hy1, hy2⟩ := tmod_rng a 30000 (by omega)
  obtain ⟨m, hm⟩ : ∃ m, (if a < -a then -a else a) = m := ⟨_, rfl⟩
  have hm0 : 0 ≤ m := by rw [← hm]; split <;> omega
  have hm1 : m < 1073741824 := by rw [← hm]; split <;> omega
  go_wp2_with fail
  refine (known_any  _).mono ?_
  rintro e w' ⟨rfl, rfl⟩
  go_wp2_with fail
  refine (mul_any a b _).mono ?_
  rintro e w' ⟨rfl, rfl⟩
  go_wp2_with fail
  refine (mul_any b a _).mono ?_
  rintro e w' ⟨rfl, rfl⟩
  rw [mulv_comm a b]
  go_wp2_with fail
  refine (mul_any a 65536 _).mono ?_
  rintro e w' ⟨rfl, rfl⟩
  rw [mulv_one ha1 ha2]
  go_wp2_with fail
  refine (mul_any a 0 _).mono ?_
  rintro e w' ⟨rfl, rfl⟩
  rw [mulv_null a]
  go_wp2_with fail
  refine (div_any a 65536 _).mono ?_
  rintro e w' ⟨rfl, rfl⟩
  rw [divv_one ha1 ha2]
  go_wp2_with fail
  refine (whole_any y _).mono ?_
  rintro e w' ⟨rfl, rfl⟩
  go_wp2_with fail
  refine (round_any _ _).mono ?_
  rintro e w' ⟨rfl, rfl⟩
  rw [round_whole hy1 hy2]
  rcases Int.lt_trichotomy b 0 with hz | hz | hz
  · obtain ⟨q, hq⟩ : ∃ q, divv a b = q := ⟨_, rfl⟩
    have hqb : -2147483647 ≤ q ∧ q ≤ 2147483647 := by rw [← hq]; unfold divv; rw [if_neg (by rw [clip_id (by omega) (by omega)]; omega)]; exact clip_bd _
    obtain ⟨hqb1, hqb2⟩ := hqb
    have hab := abs_mul (x := q) (y := b) (M := 2147483647) (N := 1073741824) (by omega) (by omega)
    have hab1 : -2305843009213693952 ≤ q * b := by omega
    have hab2 : q * b ≤ 2305843009213693952 := by omega
    by_cases hq1 : -2147483647 < q
    · by_cases hq2 : q < 2147483647
      · obtain ⟨f1, f2⟩ := (div_rest ha1 ha2 hb1 hb2 (by omega) hq hq1 hq2).2 hz
        have HQ : Hid (divv a b = q) := hq
        clear hq hab
        go_wp2_with fail
        refine (div_any a b _).mono ?_
        rintro e w' ⟨rfl, rfl⟩
        rw [HQ.out]
        go_wp2_with fail
        refine (root_any _ (by omega) _).mono ?_
        rintro e w' ⟨r, hr, rfl, rfl⟩
        obtain ⟨r0, r1, r2, r3⟩ := root_laws hr (by omega) (by omega)
        have r4 : 0 ≤ ((r : Int) + 1) * (r + 1) := Int.mul_nonneg (by omega) (by omega)
        have r5 : 0 ≤ (r : Int) * r := Int.mul_nonneg (by omega) (by omega)
        clear hr
        go_wp2
        go_ret
        exact ⟨rfl, rfl⟩
      · have HQ : Hid (divv a b = q) := hq
        clear hq hab
        go_wp2_with fail
        refine (div_any a b _).mono ?_
        rintro e w' ⟨rfl, rfl⟩
        rw [HQ.out]
        go_wp2_with fail
        refine (root_any _ (by omega) _).mono ?_
        rintro e w' ⟨r, hr, rfl, rfl⟩
        obtain ⟨r0, r1, r2, r3⟩ := root_laws hr (by omega) (by omega)
        have r4 : 0 ≤ ((r : Int) + 1) * (r + 1) := Int.mul_nonneg (by omega) (by omega)
        have r5 : 0 ≤ (r : Int) * r := Int.mul_nonneg (by omega) (by omega)
        clear hr
        go_wp2
        go_ret
        exact ⟨rfl, rfl⟩
    · have HQ : Hid (divv a b = q) := hq
      clear hq hab
      go_wp2_with fail
      refine (div_any a b _).mono ?_
      rintro e w' ⟨rfl, rfl⟩
      rw [HQ.out]
      go_wp2_with fail
      refine (root_any _ (by omega) _).mono ?_
      rintro e w' ⟨r, hr, rfl, rfl⟩
      obtain ⟨r0, r1, r2, r3⟩ := root_laws hr (by omega) (by omega)
      have r4 : 0 ≤ ((r : Int) + 1) * (r + 1) := Int.mul_nonneg (by omega) (by omega)
      have r5 : 0 ≤ (r : Int) * r := Int.mul_nonneg (by omega) (by omega)
      clear hr
      go_wp2
      go_ret
      exact ⟨rfl, rfl⟩
  · subst hz
    go_wp2_with fail
    refine (root_any _ (by omega) _).mono ?_
    rintro e w' ⟨r, hr, rfl, rfl⟩
    obtain ⟨r0, r1, r2, r3⟩ := root_laws hr (by omega) (by omega)
    have r4 : 0 ≤ ((r : Int) + 1) * (r + 1) := Int.mul_nonneg (by omega) (by omega)
    have r5 : 0 ≤ (r : Int) * r := Int.mul_nonneg (by omega) (by omega)
    clear hr
    go_wp2
    go_ret
    exact ⟨rfl, rfl⟩
  · obtain ⟨q, hq⟩ : ∃ q, divv a b = q := ⟨_, rfl⟩
    have hqb : -2147483647 ≤ q ∧ q ≤ 2147483647 := by rw [← hq]; unfold divv; rw [if_neg (by rw [clip_id (by omega) (by omega)]; omega)]; exact clip_bd _
    obtain ⟨hqb1, hqb2⟩ := hqb
    have hab := abs_mul (x := q) (y := b) (M := 2147483647) (N := 1073741824) (by omega) (by omega)
    have hab1 : -2305843009213693952 ≤ q * b := by omega
    have hab2 : q * b ≤ 2305843009213693952 := by omega
    by_cases hq1 : -2147483647 < q
    · by_cases hq2 : q < 2147483647
      · obtain ⟨f1, f2⟩ := (div_rest ha1 ha2 hb1 hb2 (by omega) hq hq1 hq2).1 hz
        have HQ : Hid (divv a b = q) := hq
        clear hq hab
        go_wp2_with fail
        refine (div_any a b _).mono ?_
        rintro e w' ⟨rfl, rfl⟩
        rw [HQ.out]
        go_wp2_with fail
        refine (root_any _ (by omega) _).mono ?_
        rintro e w' ⟨r, hr, rfl, rfl⟩
        obtain ⟨r0, r1, r2, r3⟩ := root_laws hr (by omega) (by omega)
        have r4 : 0 ≤ ((r : Int) + 1) * (r + 1) := Int.mul_nonneg (by omega) (by omega)
        have r5 : 0 ≤ (r : Int) * r := Int.mul_nonneg (by omega) (by omega)
        clear hr
        go_wp2
        go_ret
        exact ⟨rfl, rfl⟩
      · have HQ : Hid (divv a b = q) := hq
        clear hq hab
        go_wp2_with fail
        refine (div_any a b _).mono ?_
        rintro e w' ⟨rfl, rfl⟩
        rw [HQ.out]
        go_wp2_with fail
        refine (root_any _ (by omega) _).mono ?_
        rintro e w' ⟨r, hr, rfl, rfl⟩
        obtain ⟨r0, r1, r2, r3⟩ := root_laws hr (by omega) (by omega)
        have r4 : 0 ≤ ((r : Int) + 1) * (r + 1) := Int.mul_nonneg (by omega) (by omega)
        have r5 : 0 ≤ (r : Int) * r := Int.mul_nonneg (by omega) (by omega)
        clear hr
        go_wp2
        go_ret
        exact ⟨rfl, rfl⟩
    · have HQ : Hid (divv a b = q) := hq
      clear hq hab
      go_wp2_with fail
      refine (div_any a b _).mono ?_
      rintro e w' ⟨rfl, rfl⟩
      rw [HQ.out]
      go_wp2_with fail
      refine (root_any _ (by omega) _).mono ?_
      rintro e w' ⟨r, hr, rfl, rfl⟩
      obtain ⟨r0, r1, r2, r3⟩ := root_laws hr (by omega) (by omega)
      have r4 : 0 ≤ ((r : Int) + 1) * (r + 1) := Int.mul_nonneg (by omega) (by omega)
      have r5 : 0 ≤ (r : Int) * r := Int.mul_nonneg (by omega) (by omega)
      clear hr
      go_wp2
      go_ret
      exact ⟨rfl, rfl⟩

set_option maxRecDepth 100000 in
theorem fixedLaws_lifted (os : Os) (started : os.Started) (H : Type) (enc : TypeId × Value → H) :
    ReturnsInHanded {} Try.checked os 5 .any (Rows.fixedLawsSpec.pre6 enc Try.prog Try.f5 Rows.fixedLawsRow.domain false) (Rows.fixedLawsSpec.post enc Try.prog Try.f5 false true false false) := by
  refine returnsInHanded_of_change (C := Try.checked) own started (by kernel_rfl) Try.func5
    (ChangeSpec.witness6 (enc := enc) (C := Try.checked) false ⟨#[], #[.int .i64 0, .int .i64 0], []⟩ 8 (by kernel_rfl) (by kernel_rfl) (by kernel_rfl) (by kernel_rfl)) ?_
  intro W base args ds gs before hval0 hW hcnd _
  have hval : ∀ (j : Nat) t v, Try.f5.params[j]? = some t → args[j]? = some v → Value.okWide Try.prog W .any base t v := hval0
  have hW' := hW
  obtain ⟨p, q, hA0, hV, rfl, hfz, hnd⟩ := hW
  have hA : DataW.TrodAll enc Try.prog W 0 (fun _ => true) true Try.f5.params.toList args.toList ds p := hA0
  rw [Try.params5] at hA hval
  obtain ⟨v0, vs0, d0, ds0, p0, q0, hargs, rfl, rfl, h0, r0⟩ := trodAll_cons hA
  obtain ⟨v1, vs1, d1, ds1, p1, q1, rfl, rfl, rfl, h1, r1⟩ := trodAll_cons r0
  obtain ⟨rfl, rfl, rfl⟩ := trodAll_nil r1
  obtain rfl : args = #[v0, v1] := by cases args; simp_all
  obtain ⟨rfl, rfl⟩ := trodVars_none hV
  obtain ⟨a0, rfl, rfl, rfl, w0⟩ := open_int Try.underlying3 (hval 0 3 v0 rfl rfl) h0
  obtain ⟨a1, rfl, rfl, rfl, w1⟩ := open_int Try.underlying3 (hval 1 3 v1 rfl rfl) h1
  clear hA0 hval0
  refine (laws_walk a0 a1 (wf_i64 w0) (wf_i64 w1) W).mono fun e W' ⟨he, hw⟩ => ?_
  subst he
  subst hw
  exact ⟨_, rfl, _, _, _, [], _, [], hW', trodAll_mk1 (shut_bool Try.underlying4 _), (trodAll_cons_mk (shut_int Try.underlying3 w0) (trodAll_cons_mk (shut_int Try.underlying3 w1) trodAll_mk0)), rfl, (Below.refl _ _).frame _, fun h => by cases h⟩

theorem fixedLaws_holds : Rows.FixedLawsSaid :=
  OpenClaim.holds_of_wide 5 Try.f5 rfl rfl rfl rfl rfl rfl rfl ⟨rfl, rfl, rfl, rfl, rfl⟩ rfl rfl rfl rfl rfl (by kernel_rfl) Try.func5 (by kernel_rfl)
    (of_decide_eq_true (by kernel_rfl)) (by unfold Func.isWrapper; first | (rw [if_pos (by decide +kernel)]; kernel_rfl) | (rw [if_neg (by decide +kernel)]; exact ⟨rfl, rfl⟩))
    (fun os started H enc _ => fixedLaws_lifted os started H enc)
#print axioms fixedLaws_holds
end Go.Proofs.Ytaceobpgopdejaa
