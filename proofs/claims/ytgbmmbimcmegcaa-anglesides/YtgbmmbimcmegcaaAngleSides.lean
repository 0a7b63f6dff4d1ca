/-
  Proved: AngleSides answers true and leaves its arguments and all memory as they were, for every input; no condition.
-/
import Derived.Test.YtgbmmbimcmegcaaAngleTurns
namespace Go.Proofs.Ytgbmmbimcmegcaa
open Go.ChangeShapes Go.WideShapes Go.ChangeAt Go.RowKit

theorem absv_flip (n : Int) : absv (-n) = absv n := by unfold absv; repeat' split <;> omega
theorem absv_two (n : Int) : absv (2 * n) = 2 * absv n := by unfold absv; repeat' split <;> omega
theorem absv_bd (n : Int) : 0 ≤ absv n ∧ (n ≠ 0 → 0 < absv n) := by unfold absv; split <;> omega
theorem atan_seen {y x : Int} (hy : -2147483647 ≤ y) (hy2 : y ≤ 2147483647) (hx : -2147483647 ≤ x) (hx2 : x ≤ 2147483647) (h : ¬ (y = 0 ∧ x = 0)) : atanv y x = seen y x := by
  unfold atanv
  rw [clip_id hy hy2, clip_id hx hx2, if_neg h]
/-- What the statement asks of a place, but of (0, 0). -/
theorem sides {y x : Int} (hy : -536870912 < y) (hy2 : y < 536870912) (hx : -536870912 < x) (hx2 : x < 536870912) (h : ¬ (y = 0 ∧ x = 0)) :
    ∃ A, atanv y x = A ∧ atanv (-y) x = normv (-A) ∧ (y ≠ 0 → atanv y (-x) = normv (32768 - A)) ∧ atanv (2 * y) (2 * x) = A ∧ 0 ≤ A ∧ A < 65536
      ∧ (0 < y → A ≤ 32768) ∧ (y < 0 → A = 0 ∨ 32768 ≤ A) ∧ (0 < x → A ≤ 16384 ∨ 49152 ≤ A) ∧ (x < 0 → 16384 ≤ A ∧ A ≤ 49152) := by
  rw [atan_seen (by omega) (by omega) (by omega) (by omega) h, atan_seen (by omega) (by omega) (by omega) (by omega) (by omega),
    atan_seen (y := y) (x := -x) (by omega) (by omega) (by omega) (by omega) (by omega), atan_seen (y := 2 * y) (by omega) (by omega) (by omega) (by omega) (by omega)]
  refine ⟨_, rfl, ?_⟩
  unfold seen
  rw [absv_flip, absv_flip, absv_two, absv_two, quart_two]
  have ay := absv_bd y
  have ax := absv_bd x
  have hb := quart_bd (t := absv y) (w := absv x) ay.1 ax.1 (by omega)
  have hb0 : y = 0 → quart (absv y) (absv x) = 0 := by
    intro e; subst e; exact quart_side ax.1
  have hb1 : x = 0 → quart (absv y) (absv x) = 16384 := by
    intro e; subst e; exact quart_up (ay.2 (by omega))
  generalize quart (absv y) (absv x) = b at *
  unfold normv
  rcases Int.lt_trichotomy y 0 with sy | sy | sy <;> rcases Int.lt_trichotomy x 0 with sx | sx | sx
  all_goals
    repeat' first | rw [if_pos (by omega)] | rw [if_neg (by omega)]
    omega

set_option maxRecDepth 100000 in
set_option maxHeartbeats 16000000 in
theorem sides_walk (y0 x0 : Int) (hy0 : Fits y0) (hx0 : Fits x0) (w : World) :
    Calls Try.prog 6 #[.int .i64 y0, .int .i64 x0] w fun e w' => e = .returned (.bool true) ∧ w' = w := by
  have hnot : ∀ (x : Bool) (w : World), (Op.unary .not (.bool x)).run Try.prog w = .ok (.bool (!x)) w := fun _ _ => rfl
  go_enter Try.func6, Try.ntmps6
  go_wp2_with fail
  refine (num_any y0 hy0.1 hy0.2 _).mono ?_
  rintro e w' ⟨Y, hY1, hY2, rfl, rfl⟩
  obtain ⟨y, hxy, hy1, hy2⟩ := tmod_rng Y 536870912 (by omega)
  clear hY1 hY2
  go_wp2_with fail
  refine (num_any x0 hx0.1 hx0.2 _).mono ?_
  rintro e w' ⟨X, hX1, hX2, rfl, rfl⟩
  obtain ⟨x, hxx, hx1, hx2⟩ := tmod_rng X 536870912 (by omega)
  clear hX1 hX2 hy0 hx0
  by_cases h0 : y = 0 ∧ x = 0
  · obtain ⟨rfl, rfl⟩ := h0
    go_wp2_with fail
    refine (atan_any 0 0 _).mono ?_
    rintro e w' ⟨rfl, rfl⟩
    rw [show atanv 0 0 = 0 by decide]
    go_wp2_with fail
    refine (known_any _).mono ?_
    rintro e w' ⟨rfl, rfl⟩
    go_wp2
    go_ret
    exact ⟨rfl, rfl⟩
  · obtain ⟨A, k0, k1, k2, k3, A0, A1, c1, c2, c3, c4⟩ := sides hy1 hy2 hx1 hx2 h0
    have K0 : Hid (atanv y x = A) := k0
    have K1 : Hid (atanv (-y) x = normv (-A)) := k1
    have K2 : Hid (y ≠ 0 → atanv y (-x) = normv (32768 - A)) := k2
    have K3 : Hid (atanv (2 * y) (2 * x) = A) := k3
    clear k0 k1 k2 k3
    rcases Int.lt_trichotomy y 0 with sy | sy | sy
    · rcases Int.lt_trichotomy x 0 with sx | sx | sx
      · obtain ⟨a1, a2⟩ : 32768 ≤ A ∧ A ≤ 49152 := by omega
        clear h0 c1 c2 c3 c4
        go_wp2_with fail
        refine (atan_any y x _).mono ?_
        rintro e w' ⟨rfl, rfl⟩
        rw [K0.out]
        go_wp2_with fail
        refine (known_any _).mono ?_
        rintro e w' ⟨rfl, rfl⟩
        go_wp2_with fail
        refine (atan_any (-y) x _).mono ?_
        rintro e w' ⟨rfl, rfl⟩
        rw [K1.out]
        go_wp2_with fail
        refine (norm_any (-A) _).mono ?_
        rintro e w' ⟨rfl, rfl⟩
        go_wp2_with fail
        refine (atan_any y (-x) _).mono ?_
        rintro e w' ⟨rfl, rfl⟩
        rw [K2.out (by omega)]
        go_wp2_with fail
        refine (norm_any _ _).mono ?_
        rintro e w' ⟨rfl, rfl⟩
        go_wp2_with fail
        refine (atan_any (2 * y) (2 * x) _).mono ?_
        rintro e w' ⟨rfl, rfl⟩
        rw [show atanv (2 * y) (2 * x) = A from K3.out]
        go_wp2
        go_ret
        exact ⟨rfl, rfl⟩
      · rcases (by omega : A = 0 ∨ 32768 ≤ A) with a1 | a1
        · subst sx
          subst a1
          clear h0 c1 c2 c3 c4
          go_wp2_with fail
          refine (atan_any y 0 _).mono ?_
          rintro e w' ⟨rfl, rfl⟩
          rw [K0.out]
          go_wp2_with fail
          refine (known_any _).mono ?_
          rintro e w' ⟨rfl, rfl⟩
          go_wp2_with fail
          refine (atan_any (-y) 0 _).mono ?_
          rintro e w' ⟨rfl, rfl⟩
          rw [K1.out]
          go_wp2_with fail
          refine (norm_any 0 _).mono ?_
          rintro e w' ⟨rfl, rfl⟩
          go_wp2_with fail
          refine (atan_any y 0 _).mono ?_
          rintro e w' ⟨rfl, rfl⟩
          rw [show atanv y 0 = normv (32768 - 0) from K2.out (by omega)]
          go_wp2_with fail
          refine (norm_any _ _).mono ?_
          rintro e w' ⟨rfl, rfl⟩
          go_wp2_with fail
          refine (atan_any (2 * y) 0 _).mono ?_
          rintro e w' ⟨rfl, rfl⟩
          rw [show atanv (2 * y) 0 = 0 from K3.out]
          go_wp2
          go_ret
          exact ⟨rfl, rfl⟩
        · subst sx
          clear h0 c1 c2 c3 c4
          go_wp2_with fail
          refine (atan_any y 0 _).mono ?_
          rintro e w' ⟨rfl, rfl⟩
          rw [K0.out]
          go_wp2_with fail
          refine (known_any _).mono ?_
          rintro e w' ⟨rfl, rfl⟩
          go_wp2_with fail
          refine (atan_any (-y) 0 _).mono ?_
          rintro e w' ⟨rfl, rfl⟩
          rw [K1.out]
          go_wp2_with fail
          refine (norm_any (-A) _).mono ?_
          rintro e w' ⟨rfl, rfl⟩
          go_wp2_with fail
          refine (atan_any y 0 _).mono ?_
          rintro e w' ⟨rfl, rfl⟩
          rw [show atanv y 0 = normv (32768 - A) from K2.out (by omega)]
          go_wp2_with fail
          refine (norm_any _ _).mono ?_
          rintro e w' ⟨rfl, rfl⟩
          go_wp2_with fail
          refine (atan_any (2 * y) 0 _).mono ?_
          rintro e w' ⟨rfl, rfl⟩
          rw [show atanv (2 * y) 0 = A from K3.out]
          go_wp2
          go_ret
          exact ⟨rfl, rfl⟩
      · rcases (by omega : A = 0 ∨ 49152 ≤ A) with a1 | a1
        · subst a1
          clear h0 c1 c2 c3 c4
          go_wp2_with fail
          refine (atan_any y x _).mono ?_
          rintro e w' ⟨rfl, rfl⟩
          rw [K0.out]
          go_wp2_with fail
          refine (known_any _).mono ?_
          rintro e w' ⟨rfl, rfl⟩
          go_wp2_with fail
          refine (atan_any (-y) x _).mono ?_
          rintro e w' ⟨rfl, rfl⟩
          rw [K1.out]
          go_wp2_with fail
          refine (norm_any 0 _).mono ?_
          rintro e w' ⟨rfl, rfl⟩
          go_wp2_with fail
          refine (atan_any y (-x) _).mono ?_
          rintro e w' ⟨rfl, rfl⟩
          rw [K2.out (by omega)]
          go_wp2_with fail
          refine (norm_any _ _).mono ?_
          rintro e w' ⟨rfl, rfl⟩
          go_wp2_with fail
          refine (atan_any (2 * y) (2 * x) _).mono ?_
          rintro e w' ⟨rfl, rfl⟩
          rw [show atanv (2 * y) (2 * x) = 0 from K3.out]
          go_wp2
          go_ret
          exact ⟨rfl, rfl⟩
        · clear h0 c1 c2 c3 c4
          go_wp2_with fail
          refine (atan_any y x _).mono ?_
          rintro e w' ⟨rfl, rfl⟩
          rw [K0.out]
          go_wp2_with fail
          refine (known_any _).mono ?_
          rintro e w' ⟨rfl, rfl⟩
          go_wp2_with fail
          refine (atan_any (-y) x _).mono ?_
          rintro e w' ⟨rfl, rfl⟩
          rw [K1.out]
          go_wp2_with fail
          refine (norm_any (-A) _).mono ?_
          rintro e w' ⟨rfl, rfl⟩
          go_wp2_with fail
          refine (atan_any y (-x) _).mono ?_
          rintro e w' ⟨rfl, rfl⟩
          rw [K2.out (by omega)]
          go_wp2_with fail
          refine (norm_any _ _).mono ?_
          rintro e w' ⟨rfl, rfl⟩
          go_wp2_with fail
          refine (atan_any (2 * y) (2 * x) _).mono ?_
          rintro e w' ⟨rfl, rfl⟩
          rw [show atanv (2 * y) (2 * x) = A from K3.out]
          go_wp2
          go_ret
          exact ⟨rfl, rfl⟩
    · rcases Int.lt_trichotomy x 0 with sx | sx | sx
      · obtain ⟨a1, a2⟩ : 16384 ≤ A ∧ A ≤ 49152 := by omega
        subst sy
        clear h0 c1 c2 c3 c4
        go_wp2_with fail
        refine (atan_any 0 x _).mono ?_
        rintro e w' ⟨rfl, rfl⟩
        rw [K0.out]
        go_wp2_with fail
        refine (known_any _).mono ?_
        rintro e w' ⟨rfl, rfl⟩
        go_wp2_with fail
        refine (atan_any 0 x _).mono ?_
        rintro e w' ⟨rfl, rfl⟩
        rw [show atanv 0 x = normv (-A) from K1.out]
        go_wp2_with fail
        refine (norm_any (-A) _).mono ?_
        rintro e w' ⟨rfl, rfl⟩
        go_wp2_with fail
        refine (atan_any 0 (2 * x) _).mono ?_
        rintro e w' ⟨rfl, rfl⟩
        rw [show atanv 0 (2 * x) = A from K3.out]
        go_wp2
        go_ret
        exact ⟨rfl, rfl⟩
      · exact absurd ⟨sy, sx⟩ h0
      · rcases (by omega : A ≤ 16384 ∨ 49152 ≤ A) with a1 | a1
        · subst sy
          clear h0 c1 c2 c3 c4
          go_wp2_with fail
          refine (atan_any 0 x _).mono ?_
          rintro e w' ⟨rfl, rfl⟩
          rw [K0.out]
          go_wp2_with fail
          refine (known_any _).mono ?_
          rintro e w' ⟨rfl, rfl⟩
          go_wp2_with fail
          refine (atan_any 0 x _).mono ?_
          rintro e w' ⟨rfl, rfl⟩
          rw [show atanv 0 x = normv (-A) from K1.out]
          go_wp2_with fail
          refine (norm_any (-A) _).mono ?_
          rintro e w' ⟨rfl, rfl⟩
          go_wp2_with fail
          refine (atan_any 0 (2 * x) _).mono ?_
          rintro e w' ⟨rfl, rfl⟩
          rw [show atanv 0 (2 * x) = A from K3.out]
          go_wp2
          go_ret
          exact ⟨rfl, rfl⟩
        · subst sy
          clear h0 c1 c2 c3 c4
          go_wp2_with fail
          refine (atan_any 0 x _).mono ?_
          rintro e w' ⟨rfl, rfl⟩
          rw [K0.out]
          go_wp2_with fail
          refine (known_any _).mono ?_
          rintro e w' ⟨rfl, rfl⟩
          go_wp2_with fail
          refine (atan_any 0 x _).mono ?_
          rintro e w' ⟨rfl, rfl⟩
          rw [show atanv 0 x = normv (-A) from K1.out]
          go_wp2_with fail
          refine (norm_any (-A) _).mono ?_
          rintro e w' ⟨rfl, rfl⟩
          go_wp2_with fail
          refine (atan_any 0 (2 * x) _).mono ?_
          rintro e w' ⟨rfl, rfl⟩
          rw [show atanv 0 (2 * x) = A from K3.out]
          go_wp2
          go_ret
          exact ⟨rfl, rfl⟩
    · rcases Int.lt_trichotomy x 0 with sx | sx | sx
      · obtain ⟨a1, a2⟩ : 16384 ≤ A ∧ A ≤ 32768 := by omega
        clear h0 c1 c2 c3 c4
        go_wp2_with fail
        refine (atan_any y x _).mono ?_
        rintro e w' ⟨rfl, rfl⟩
        rw [K0.out]
        go_wp2_with fail
        refine (known_any _).mono ?_
        rintro e w' ⟨rfl, rfl⟩
        go_wp2_with fail
        refine (atan_any (-y) x _).mono ?_
        rintro e w' ⟨rfl, rfl⟩
        rw [K1.out]
        go_wp2_with fail
        refine (norm_any (-A) _).mono ?_
        rintro e w' ⟨rfl, rfl⟩
        go_wp2_with fail
        refine (atan_any y (-x) _).mono ?_
        rintro e w' ⟨rfl, rfl⟩
        rw [K2.out (by omega)]
        go_wp2_with fail
        refine (norm_any _ _).mono ?_
        rintro e w' ⟨rfl, rfl⟩
        go_wp2_with fail
        refine (atan_any (2 * y) (2 * x) _).mono ?_
        rintro e w' ⟨rfl, rfl⟩
        rw [show atanv (2 * y) (2 * x) = A from K3.out]
        go_wp2
        go_ret
        exact ⟨rfl, rfl⟩
      · have a1 : A ≤ 32768 := by omega
        subst sx
        clear h0 c1 c2 c3 c4
        go_wp2_with fail
        refine (atan_any y 0 _).mono ?_
        rintro e w' ⟨rfl, rfl⟩
        rw [K0.out]
        go_wp2_with fail
        refine (known_any _).mono ?_
        rintro e w' ⟨rfl, rfl⟩
        go_wp2_with fail
        refine (atan_any (-y) 0 _).mono ?_
        rintro e w' ⟨rfl, rfl⟩
        rw [K1.out]
        go_wp2_with fail
        refine (norm_any (-A) _).mono ?_
        rintro e w' ⟨rfl, rfl⟩
        go_wp2_with fail
        refine (atan_any y 0 _).mono ?_
        rintro e w' ⟨rfl, rfl⟩
        rw [show atanv y 0 = normv (32768 - A) from K2.out (by omega)]
        go_wp2_with fail
        refine (norm_any _ _).mono ?_
        rintro e w' ⟨rfl, rfl⟩
        go_wp2_with fail
        refine (atan_any (2 * y) 0 _).mono ?_
        rintro e w' ⟨rfl, rfl⟩
        rw [show atanv (2 * y) 0 = A from K3.out]
        go_wp2
        go_ret
        exact ⟨rfl, rfl⟩
      · have a1 : A ≤ 16384 := by omega
        clear h0 c1 c2 c3 c4
        go_wp2_with fail
        refine (atan_any y x _).mono ?_
        rintro e w' ⟨rfl, rfl⟩
        rw [K0.out]
        go_wp2_with fail
        refine (known_any _).mono ?_
        rintro e w' ⟨rfl, rfl⟩
        go_wp2_with fail
        refine (atan_any (-y) x _).mono ?_
        rintro e w' ⟨rfl, rfl⟩
        rw [K1.out]
        go_wp2_with fail
        refine (norm_any (-A) _).mono ?_
        rintro e w' ⟨rfl, rfl⟩
        go_wp2_with fail
        refine (atan_any y (-x) _).mono ?_
        rintro e w' ⟨rfl, rfl⟩
        rw [K2.out (by omega)]
        go_wp2_with fail
        refine (norm_any _ _).mono ?_
        rintro e w' ⟨rfl, rfl⟩
        go_wp2_with fail
        refine (atan_any (2 * y) (2 * x) _).mono ?_
        rintro e w' ⟨rfl, rfl⟩
        rw [show atanv (2 * y) (2 * x) = A from K3.out]
        go_wp2
        go_ret
        exact ⟨rfl, rfl⟩

set_option maxRecDepth 100000 in
theorem angleSides_lifted (os : Os) (started : os.Started) (H : Type) (enc : TypeId × Value → H) :
    ReturnsInHanded {} Try.checked os 6 .any (Rows.angleSidesSpec.pre6 enc Try.prog Try.f6 Rows.angleSidesRow.domain false) (Rows.angleSidesSpec.post enc Try.prog Try.f6 false true false false) := by
  refine returnsInHanded_of_change (C := Try.checked) own started (by kernel_rfl) Try.func6
    (ChangeSpec.witness6 (enc := enc) (C := Try.checked) false ⟨#[], #[.int .i64 0, .int .i64 0], []⟩ 8 (by kernel_rfl) (by kernel_rfl) (by kernel_rfl) (by kernel_rfl)) ?_
  intro W base args ds gs before hval0 hW hcnd _
  have hval : ∀ (j : Nat) t v, Try.f6.params[j]? = some t → args[j]? = some v → Value.okWide Try.prog W .any base t v := hval0
  have hW' := hW
  obtain ⟨p, q, hA0, hV, rfl, hfz, hnd⟩ := hW
  have hA : DataW.TrodAll enc Try.prog W 0 (fun _ => true) true Try.f6.params.toList args.toList ds p := hA0
  rw [Try.params6] at hA hval
  obtain ⟨v0, vs0, d0, ds0, p0, q0, hargs, rfl, rfl, h0, r0⟩ := trodAll_cons hA
  obtain ⟨v1, vs1, d1, ds1, p1, q1, rfl, rfl, rfl, h1, r1⟩ := trodAll_cons r0
  obtain ⟨rfl, rfl, rfl⟩ := trodAll_nil r1
  obtain rfl : args = #[v0, v1] := by cases args; simp_all
  obtain ⟨rfl, rfl⟩ := trodVars_none hV
  obtain ⟨a0, rfl, rfl, rfl, w0⟩ := open_int Try.underlying3 (hval 0 3 v0 rfl rfl) h0
  obtain ⟨a1, rfl, rfl, rfl, w1⟩ := open_int Try.underlying3 (hval 1 3 v1 rfl rfl) h1
  clear hA0 hval0
  refine (sides_walk a0 a1 (wf_i64 w0) (wf_i64 w1) W).mono fun e W' ⟨he, hw⟩ => ?_
  subst he
  subst hw
  exact ⟨_, rfl, _, _, _, [], _, [], hW', trodAll_mk1 (shut_bool Try.underlying4 _), (trodAll_cons_mk (shut_int Try.underlying3 w0) (trodAll_cons_mk (shut_int Try.underlying3 w1) trodAll_mk0)), rfl, (Below.refl _ _).frame _, fun h => by cases h⟩

theorem angleSides_holds : Rows.AngleSidesSaid :=
  OpenClaim.holds_of_wide 6 Try.f6 rfl rfl rfl rfl rfl rfl rfl ⟨rfl, rfl, rfl, rfl, rfl⟩ rfl rfl rfl rfl rfl (by kernel_rfl) Try.func6 (by kernel_rfl)
    (of_decide_eq_true (by kernel_rfl)) (by unfold Func.isWrapper; first | (rw [if_pos (by decide +kernel)]; kernel_rfl) | (rw [if_neg (by decide +kernel)]; exact ⟨rfl, rfl⟩))
    (fun os started H enc _ => angleSides_lifted os started H enc)
#print axioms angleSides_holds
end Go.Proofs.Ytgbmmbimcmegcaa
