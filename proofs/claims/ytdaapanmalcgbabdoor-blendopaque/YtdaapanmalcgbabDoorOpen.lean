/-
  Numbers, and an array of four numbers, that came in by value, opened.
-/
import Derived.Test.YtdaapanmalcgbabDoorMis
import Derived.ChangeOld
import Derived.OpenShut
namespace Go.Proofs.YtdaapanmalcgbabDoor
open Go.ChangeShapes Go.WideShapes Go.ChangeAt Go.RowKit

theorem laidOut : laidOutB Tryd.prog = true := by kernel_rfl
theorem own : ownKnob Tryd.prog.godebug = none := by kernel_rfl
theorem wf_i64 {n : Int} (h : (Lit.int .i64 n).wf = true) : Fits n := by
  simp [Lit.wf, IntKind.min, IntKind.max, IntKind.signed, IntKind.bits] at h
  unfold Fits
  omega
theorem cells27 : Tryd.prog.cellsOf 27 = 4 := by kernel_rfl
theorem cells3 : Tryd.prog.cellsOf 3 = 1 := by kernel_rfl
theorem list4 {l : List Value} (h : l.length = 4) : ∃ a b c d, l = [a, b, c, d] := by
  match l, h with
  | [a, b, c, d], _ => exact ⟨a, b, c, d, rfl⟩
theorem open_four {H : Type} {enc : TypeId × Value → H} {W : World} {base : Nat} {v : Value} {x : DataW H} {pl : List MemPlace} (hv : Value.okWide Tryd.prog W .any base 27 v)
    (h : DataW.Trod enc Tryd.prog W 0 (fun _ => true) true 27 v x pl) : ∃ a b c d, v = .agg #[.int .i64 a, .int .i64 b, .int .i64 c, .int .i64 d] := by
  obtain ⟨cs, rfl, hsz⟩ : ∃ cs, v = .agg cs ∧ cs.size = Tryd.prog.cellsOf 27 := by
    simp only [Value.okWide, Tryd.underlying27] at hv
    obtain ⟨cs, h1, h2, _⟩ := hv
    exact ⟨cs, h1, h2⟩
  obtain ⟨l⟩ := cs
  rw [cells27] at hsz
  obtain ⟨c0, c1, c2, c3, rfl⟩ := list4 (by simpa using hsz)
  obtain ⟨fuel, hf⟩ := h
  obtain ⟨xs, m, _, _, _, hl, hi⟩ := DataW.trod_array Tryd.underlying27 hf
  rw [cells3] at hi
  have go : ∀ (i : Nat) (u : Value), i < 4 → ([c0, c1, c2, c3].drop (i * 1)).take 1 = [u] → ∃ n, u = .int .i64 n := by
    intro i u hi6 hu
    have h1 := hi i hi6
    simp only [Value.cells] at h1
    rw [hu] at h1
    have hx : i < xs.length := by omega
    rw [List.getElem?_eq_getElem hx] at h1
    obtain ⟨n, e1, _, _⟩ := DataW.trod_int Tryd.underlying3 h1
    simp at e1
    exact ⟨n, e1⟩
  obtain ⟨a, rfl⟩ := go 0 c0 (by omega) rfl
  obtain ⟨b, rfl⟩ := go 1 c1 (by omega) rfl
  obtain ⟨c, rfl⟩ := go 2 c2 (by omega) rfl
  obtain ⟨d, rfl⟩ := go 3 c3 (by omega) rfl
  exact ⟨a, b, c, d, rfl⟩
end Go.Proofs.YtdaapanmalcgbabDoor
