/-
  Proved: LazyOnce answers true and leaves its arguments and all memory as it was, for every answers, order and panics; no condition.
-/
import Derived.Test.YtbaolijhjijlmaaOnceWalk
import Derived.Test.YtbaolijhjijlmaaLazyCounts
namespace Go.Proofs.Ytbaolijhjijlmaa
open Go.ChangeShapes Go.WideShapes Go.ChangeAt Go.RowKit

theorem cells4 : Try.prog.cellsOf 4 = 1 := by kernel_rfl

theorem spot_none {W : World} {a : Addr} {v : Value} (h : W.cell? (a.add 0) = some v) : ∃ b o, a = ⟨b, o, none⟩ := by
  obtain ⟨b, off, sp⟩ := a
  cases sp with
  | none => exact ⟨b, off, rfl⟩
  | some s => simp [Addr.add, World.cell?] at h; split at h <;> simp_all

/-- A slice of ints, opened. -/
theorem open_nums {H : Type} {enc : TypeId × Value → H} {W : World} {a0 : Option Addr} {len cap : Nat} {fuel : Nat} {x : DataW H × List MemPlace}
    (h : DataW.trod enc Try.prog W 0 (fun _ => true) true fuel 37 [.slice a0 len cap] = some x) :
    len ≤ maxLen ∧ ∃ f : Nat → Int, len = 0 ∨ ∃ b o, a0 = some ⟨b, o, none⟩ ∧ b < W.heap.size ∧ ∀ t, t < len → W.cell? ⟨b, o + t, none⟩ = some (.int .i64 (f t)) := by
  rcases open_ints Try.underlying37 Try.underlying3 cells3 h with ⟨hcs, _⟩ | ⟨a, l, c, zs, hcs, _, hl, hm, hz, _, hcell, hwz⟩
  · simp at hcs; exact ⟨by omega, fun _ => 0, .inl hcs.2.1⟩
  · simp at hcs
    obtain ⟨rfl, rfl, rfl⟩ := hcs
    refine ⟨by omega, fun t => zs.getD t 0, ?_⟩
    by_cases hz0 : len = 0
    · exact .inl hz0
    right
    have hzl : zs.length = cap := by simpa using hz
    have h0 := hcell 0 (by omega)
    obtain ⟨b, o, rfl⟩ := spot_none h0
    refine ⟨b, o, rfl, ?_, fun t ht => ?_⟩
    · have := blk_lt_of_cell h0; rwa [add_none] at this
    · have := hcell t (by omega); rwa [add_none] at this

/-- A slice of bools, opened. -/
theorem open_bools {H : Type} {enc : TypeId × Value → H} {W : World} {a0 : Option Addr} {len cap : Nat} {fuel : Nat} {x : DataW H × List MemPlace}
    (h : DataW.trod enc Try.prog W 0 (fun _ => true) true fuel 38 [.slice a0 len cap] = some x) :
    ∃ f : Nat → Bool, len = 0 ∨ ∃ b o, a0 = some ⟨b, o, none⟩ ∧ b < W.heap.size ∧ ∀ t, t < len → W.cell? ⟨b, o + t, none⟩ = some (.bool (f t)) := by
  rcases Deep.open_slice Try.underlying38 h with ⟨hc, _⟩ | ⟨a, len', cap', m, n, D, Pl, hc, _, hl, hm, hmm, _, hx⟩
  · simp at hc; exact ⟨fun _ => false, .inl hc.2.1⟩
  · simp at hc
    obtain ⟨rfl, rfl, rfl⟩ := hc
    have each : ∀ i, i < len → ∃ q : Bool, W.cell? (a.add i) = some (.bool q) := by
      intro i hi
      obtain ⟨cs', h1, h2⟩ := hx i (by rw [hmm]; split <;> omega)
      rw [cells4] at h1
      obtain ⟨_, hlen, hcell⟩ := World.cells?_some h1
      match cs', hlen with
      | [v0], _ =>
        obtain ⟨q, e, _⟩ := DataW.trod_bool Try.underlying4 h2
        simp at e
        subst e
        have c0 := hcell 0 (by omega)
        rw [Deep.add_add] at c0
        exact ⟨q, by simpa using c0⟩
    obtain ⟨q, hq⟩ := Deep.choose_lt each
    refine ⟨q, ?_⟩
    by_cases hz0 : len = 0
    · exact .inl hz0
    right
    have h0 := hq 0 (by omega)
    obtain ⟨b, o, rfl⟩ := spot_none h0
    refine ⟨b, o, rfl, ?_, fun t ht => ?_⟩
    · have := blk_lt_of_cell h0; rwa [add_none] at this
    · have := hq t ht; rwa [add_none] at this

set_option maxRecDepth 100000 in
theorem lazyOnce_lifted (os : Os) (started : os.Started) (H : Type) (enc : TypeId × Value → H) :
    ReturnsInHanded {} Try.checked os 4 .any (Rows.lazyOnceSpec.pre6 enc Try.prog Try.f4 Rows.lazyOnceRow.domain false) (Rows.lazyOnceSpec.post enc Try.prog Try.f4 false true false false) := by
  refine returnsInHanded_of_change (C := Try.checked) own started (by kernel_rfl) Try.func4
    (ChangeSpec.witness6 (enc := enc) (C := Try.checked) false ⟨#[], #[.slice none 0 0, .slice none 0 0, .slice none 0 0], []⟩ 8 (by kernel_rfl) (by kernel_rfl) (by kernel_rfl) (by kernel_rfl)) ?_
  intro W base args ds gs before hval0 hW hcnd _
  have hval : ∀ (j : Nat) t v, Try.f4.params[j]? = some t → args[j]? = some v → Value.okWide Try.prog W .any base t v := hval0
  have hW' := hW
  obtain ⟨p, q, hA0, hV, rfl, hfz, hnd⟩ := hW
  have hA : DataW.TrodAll enc Try.prog W 0 (fun _ => true) true Try.f4.params.toList args.toList ds p := hA0
  rw [Try.params4] at hA hval
  obtain ⟨v0, v1, v2, d0, d1, d2, p0, p1, p2, rfl, rfl, rfl, h0, h1, h2⟩ := trodAll_three hA
  obtain ⟨rfl, rfl⟩ := trodVars_none hV
  obtain ⟨a0, len0, cap0, rfl⟩ := okWide_slice Try.underlying37 (hval 0 37 v0 rfl rfl)
  obtain ⟨a1, len1, cap1, rfl⟩ := okWide_slice Try.underlying37 (hval 1 37 v1 rfl rfl)
  obtain ⟨a2, len2, cap2, rfl⟩ := okWide_slice Try.underlying38 (hval 2 38 v2 rfl rfl)
  have r0 := h0
  have r1 := h1
  have r2 := h2
  have lt0 : ∀ x ∈ p0, x.block < W.heap.size := by obtain ⟨m, hm⟩ := r0; exact DataW.trod_lt m _ _ _ hm
  have lt1 : ∀ x ∈ p1, x.block < W.heap.size := by obtain ⟨m, hm⟩ := r1; exact DataW.trod_lt m _ _ _ hm
  have lt2 : ∀ x ∈ p2, x.block < W.heap.size := by obtain ⟨m, hm⟩ := r2; exact DataW.trod_lt m _ _ _ hm
  have hwalk : Calls Try.prog 4 #[.slice a0 len0 cap0, .slice a1 len1 cap1, .slice a2 len2 cap2] W fun e w' => e = .returned (.bool true) ∧ Below W.heap.size W w' := by
    obtain ⟨f0, hf0⟩ := h0
    obtain ⟨f1, hf1⟩ := h1
    obtain ⟨f2, hf2⟩ := h2
    obtain ⟨hl0, av, hav⟩ := open_nums (by simpa [Value.cells] using hf0)
    obtain ⟨_, ov, hov⟩ := open_nums (by simpa [Value.cells] using hf1)
    obtain ⟨pan, hpan⟩ := open_bools (by simpa [Value.cells] using hf2)
    exact once_walk a0 a1 a2 len0 cap0 len1 cap1 len2 cap2 av ov pan W hl0 _ rfl hav hov hpan
  clear hA0 hval0
  refine hwalk.mono fun e W' ⟨he, bel⟩ => ?_
  subst he
  exact ⟨_, rfl, _, _, _, [], _, [], hW', trodAll_mk1 (shut_bool Try.underlying4 _), trodAll_mk3 (Below.trod Try.laidOut (by kernel_rfl) (of_decide_eq_true (by kernel_rfl)) r0 bel lt0) (Below.trod Try.laidOut (by kernel_rfl) (of_decide_eq_true (by kernel_rfl)) r1 bel lt1) (Below.trod Try.laidOut (by kernel_rfl) (of_decide_eq_true (by kernel_rfl)) r2 bel lt2), rfl, bel.frame _, fun h => by cases h⟩

theorem lazyOnce_holds : Rows.LazyOnceSaid :=
  OpenClaim.holds_of_wide 4 Try.f4 rfl rfl rfl rfl rfl rfl rfl ⟨rfl, rfl, rfl, rfl, rfl⟩ rfl rfl rfl rfl rfl (by kernel_rfl) Try.func4 (by kernel_rfl)
    (of_decide_eq_true (by kernel_rfl)) (by unfold Func.isWrapper; first | (rw [if_pos (by decide +kernel)]; kernel_rfl) | (rw [if_neg (by decide +kernel)]; exact ⟨rfl, rfl⟩))
    (fun os started H enc _ => lazyOnce_lifted os started H enc)
#print axioms lazyOnce_holds
end Go.Proofs.Ytbaolijhjijlmaa
