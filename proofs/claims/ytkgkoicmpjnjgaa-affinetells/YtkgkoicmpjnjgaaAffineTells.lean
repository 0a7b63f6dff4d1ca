/-
  Proved: AffineTells answers true and leaves its arguments and all memory as they were, for every input; no condition.
-/
import Derived.Test.YtkgkoicmpjnjgaaTells
namespace Go.Proofs.Ytkgkoicmpjnjgaa
open Go.ChangeShapes Go.WideShapes Go.ChangeAt Go.RowKit

theorem own : ownKnob Try.prog.godebug = none := by kernel_rfl

theorem tells_walk (l0 l1 l2 l3 l4 l5 m0 m1 m2 m3 m4 m5 x y : Int) (raw : Bool) (fl0 : Fits l0) (fl1 : Fits l1) (fl2 : Fits l2) (fl3 : Fits l3) (fl4 : Fits l4) (fl5 : Fits l5) (fm0 : Fits m0) (fm1 : Fits m1) (fm2 : Fits m2) (fm3 : Fits m3) (fm4 : Fits m4) (fm5 : Fits m5) (hx : Fits x) (hy : Fits y) (w : World) :
    Calls Try.prog 4 #[aff l0 l1 l2 l3 l4 l5, aff m0 m1 m2 m3 m4 m5, .int .i64 x, .int .i64 y, .bool raw] w fun e w' => e = .returned (.bool true) ∧ Below w.heap.size w w' := by
  have h1 := of_any l0 l1 l2 l3 l4 l5 raw fl0 fl1 fl2 fl3 fl4 fl5
  have h2 := of_any m0 m1 m2 m3 m4 m5 raw fm0 fm1 fm2 fm3 fm4 fm5
  cases raw
  · exact tells_num l0 l1 l2 l3 l4 l5 m0 m1 m2 m3 m4 m5 x y hx hy h1 h2 w
  · exact tells_raw l0 l1 l2 l3 l4 l5 m0 m1 m2 m3 m4 m5 x y h1 h2 w

set_option maxRecDepth 100000 in
theorem affineTells_lifted (os : Os) (started : os.Started) (H : Type) (enc : TypeId × Value → H) :
    ReturnsInHanded {} Try.checked os 4 .any (Rows.affineTellsSpec.pre6 enc Try.prog Try.f4 Rows.affineTellsRow.domain false) (Rows.affineTellsSpec.post enc Try.prog Try.f4 false true false false) := by
  refine returnsInHanded_of_change (C := Try.checked) own started (by kernel_rfl) Try.func4
    (ChangeSpec.witness6 (enc := enc) (C := Try.checked) false ⟨#[], #[.agg #[.int .i64 0, .int .i64 0, .int .i64 0, .int .i64 0, .int .i64 0, .int .i64 0], .agg #[.int .i64 0, .int .i64 0, .int .i64 0, .int .i64 0, .int .i64 0, .int .i64 0], .int .i64 0, .int .i64 0, .bool false], []⟩ 8 (by kernel_rfl) (by kernel_rfl) (by kernel_rfl) (by kernel_rfl)) ?_
  intro W base args ds gs before hval0 hW hcnd _
  have hval : ∀ (j : Nat) t v, Try.f4.params[j]? = some t → args[j]? = some v → Value.okWide Try.prog W .any base t v := hval0
  have hW' := hW
  obtain ⟨p, q, hA0, hV, rfl, hfz, hnd⟩ := hW
  have hA : DataW.TrodAll enc Try.prog W 0 (fun _ => true) true Try.f4.params.toList args.toList ds p := hA0
  rw [Try.params4] at hA hval
  obtain ⟨v0, vs0, d0, ds0, p0, q0, hargs, rfl, rfl, h0, r0⟩ := trodAll_cons hA
  obtain ⟨v1, vs1, d1, ds1, p1, q1, rfl, rfl, rfl, h1, r1⟩ := trodAll_cons r0
  obtain ⟨v2, vs2, d2, ds2, p2, q2, rfl, rfl, rfl, h2, r2⟩ := trodAll_cons r1
  obtain ⟨v3, vs3, d3, ds3, p3, q3, rfl, rfl, rfl, h3, r3⟩ := trodAll_cons r2
  obtain ⟨v4, vs4, d4, ds4, p4, q4, rfl, rfl, rfl, h4, r4⟩ := trodAll_cons r3
  obtain ⟨rfl, rfl, rfl⟩ := trodAll_nil r4
  obtain rfl : args = #[v0, v1, v2, v3, v4] := by cases args; simp_all
  obtain ⟨rfl, rfl⟩ := trodVars_none hV
  have lt0 : ∀ x ∈ p0, x.block < W.heap.size := by obtain ⟨m, hm⟩ := h0; exact DataW.trod_lt m _ _ _ hm
  obtain ⟨a0x0, a0x1, a0x2, a0x3, a0x4, a0x5, rfl, f0x0, f0x1, f0x2, f0x3, f0x4, f0x5⟩ := open_six (hval 0 33 v0 rfl rfl) h0
  have lt1 : ∀ x ∈ p1, x.block < W.heap.size := by obtain ⟨m, hm⟩ := h1; exact DataW.trod_lt m _ _ _ hm
  obtain ⟨a1x0, a1x1, a1x2, a1x3, a1x4, a1x5, rfl, f1x0, f1x1, f1x2, f1x3, f1x4, f1x5⟩ := open_six (hval 1 33 v1 rfl rfl) h1
  obtain ⟨a2, rfl, rfl, rfl, w2⟩ := open_int Try.underlying3 (hval 2 3 v2 rfl rfl) h2
  obtain ⟨a3, rfl, rfl, rfl, w3⟩ := open_int Try.underlying3 (hval 3 3 v3 rfl rfl) h3
  obtain ⟨a4, rfl, rfl, rfl⟩ := open_bool Try.underlying4 (hval 4 4 v4 rfl rfl) h4
  clear hA0 hval0
  refine (tells_walk a0x0 a0x1 a0x2 a0x3 a0x4 a0x5 a1x0 a1x1 a1x2 a1x3 a1x4 a1x5 a2 a3 a4 f0x0 f0x1 f0x2 f0x3 f0x4 f0x5 f1x0 f1x1 f1x2 f1x3 f1x4 f1x5 (wf_i64 w2) (wf_i64 w3) W).mono fun e W' ⟨he, hw⟩ => ?_
  subst he
  exact ⟨_, rfl, _, _, _, [], _, [], hW', trodAll_mk1 (shut_bool Try.underlying4 _), (trodAll_cons_mk (Below.trod laidOut (by kernel_rfl) (of_decide_eq_true (by kernel_rfl)) h0 hw lt0) (trodAll_cons_mk (Below.trod laidOut (by kernel_rfl) (of_decide_eq_true (by kernel_rfl)) h1 hw lt1) (trodAll_cons_mk (shut_int Try.underlying3 w2) (trodAll_cons_mk (shut_int Try.underlying3 w3) (trodAll_cons_mk (shut_bool Try.underlying4 _) trodAll_mk0))))), rfl, hw.frame _, fun h => by cases h⟩

theorem affineTells_holds : Rows.AffineTellsSaid :=
  OpenClaim.holds_of_wide 4 Try.f4 rfl rfl rfl rfl rfl rfl rfl ⟨rfl, rfl, rfl, rfl, rfl⟩ rfl rfl rfl rfl rfl (by kernel_rfl) Try.func4 (by kernel_rfl)
    (of_decide_eq_true (by kernel_rfl)) (by unfold Func.isWrapper; first | (rw [if_pos (by decide +kernel)]; kernel_rfl) | (rw [if_neg (by decide +kernel)]; exact ⟨rfl, rfl⟩))
    (fun os started H enc _ => affineTells_lifted os started H enc)
#print axioms affineTells_holds
end Go.Proofs.Ytkgkoicmpjnjgaa
