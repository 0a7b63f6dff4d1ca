/-
  An array of six numbers that came in by value, opened.
-/
import Derived.Test.YtkgkoicmpjnjgaaKnown
import Derived.Test.YtkgkoicmpjnjgaaNum
import Derived.ChangeOld
namespace Go.Proofs.Ytkgkoicmpjnjgaa
open Go.ChangeShapes Go.WideShapes Go.ChangeAt Go.RowKit

theorem laidOut : laidOutB Try.prog = true := by kernel_rfl
theorem wf_i64 {n : Int} (h : (Lit.int .i64 n).wf = true) : Fits n := by
  simp [Lit.wf, IntKind.min, IntKind.max, IntKind.signed, IntKind.bits] at h
  unfold Fits
  omega
theorem cells33 : Try.prog.cellsOf 33 = 6 := by kernel_rfl
theorem cells3 : Try.prog.cellsOf 3 = 1 := by kernel_rfl

theorem list6 {l : List Value} (h : l.length = 6) : ∃ a b c d e f, l = [a, b, c, d, e, f] := by
  match l, h with
  | [a, b, c, d, e, f], _ => exact ⟨a, b, c, d, e, f, rfl⟩

theorem open_six {H : Type} {enc : TypeId × Value → H} {W : World} {base : Nat} {v : Value} {x : DataW H} {pl : List MemPlace} (hv : Value.okWide Try.prog W .any base 33 v)
    (h : DataW.Trod enc Try.prog W 0 (fun _ => true) true 33 v x pl) : ∃ a b c d e f, v = aff a b c d e f ∧ Fits a ∧ Fits b ∧ Fits c ∧ Fits d ∧ Fits e ∧ Fits f := by
  obtain ⟨cs, rfl, hsz⟩ : ∃ cs, v = .agg cs ∧ cs.size = Try.prog.cellsOf 33 := by
    simp only [Value.okWide, Try.underlying33] at hv
    obtain ⟨cs, h1, h2, _⟩ := hv
    exact ⟨cs, h1, h2⟩
  obtain ⟨l⟩ := cs
  rw [cells33] at hsz
  obtain ⟨c0, c1, c2, c3, c4, c5, rfl⟩ := list6 (by simpa using hsz)
  obtain ⟨fuel, hf⟩ := h
  obtain ⟨xs, m, _, _, _, hl, hi⟩ := DataW.trod_array Try.underlying33 hf
  rw [cells3] at hi
  have go : ∀ (i : Nat) (u : Value), i < 6 → ([c0, c1, c2, c3, c4, c5].drop (i * 1)).take 1 = [u] → ∃ n, u = .int .i64 n ∧ Fits n := by
    intro i u hi6 hu
    have h1 := hi i hi6
    simp only [Value.cells] at h1
    rw [hu] at h1
    have hx : i < xs.length := by omega
    rw [List.getElem?_eq_getElem hx] at h1
    obtain ⟨n, e1, _, hw⟩ := DataW.trod_int Try.underlying3 h1
    simp at e1
    exact ⟨n, e1, wf_i64 hw⟩
  obtain ⟨a, rfl, ha⟩ := go 0 c0 (by omega) rfl
  obtain ⟨b, rfl, hb⟩ := go 1 c1 (by omega) rfl
  obtain ⟨c, rfl, hc⟩ := go 2 c2 (by omega) rfl
  obtain ⟨d, rfl, hd⟩ := go 3 c3 (by omega) rfl
  obtain ⟨e, rfl, he⟩ := go 4 c4 (by omega) rfl
  obtain ⟨f, rfl, hff⟩ := go 5 c5 (by omega) rfl
  exact ⟨a, b, c, d, e, f, rfl, ha, hb, hc, hd, he, hff⟩
end Go.Proofs.Ytkgkoicmpjnjgaa
