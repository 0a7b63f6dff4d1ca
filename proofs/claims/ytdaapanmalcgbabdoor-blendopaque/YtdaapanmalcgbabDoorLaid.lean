/-
  blend.plain as it is laid; a world for the rows' witnesses. No Go text is walked here.
-/
import Derived.Test.YtdaapanmalcgbabDoorOpen
import Derived.Test.YtdaapanmalcgbabDoorTie
import Derived.ProofKit
import Derived.Deep.DeepHandedRow
import Derived.Lib.LaidTab
namespace Go.Proofs.YtdaapanmalcgbabDoor
open Go.ChangeShapes Go.WideShapes Go.ChangeAt Go.RowKit

/-- The variable's name, as the rows have it. -/
def plName : String := Rows.blendOpaqueRow.named.getD 0 Rows.blendOpaqueRow.spec
theorem gTab : Tryd.prog.globalNamed plName = some 0 := by kernel_rfl
theorem gTabType : (Tryd.prog.globals[0]?).map (·.type) = some 36 := by kernel_rfl
theorem cells36 : Tryd.prog.cellsOf 36 = 26 := by kernel_rfl
theorem cells35 : Tryd.prog.cellsOf 35 = 2 := by kernel_rfl
theorem wei_fields : ∃ f0 f1 : Field, Tryd.prog.underlying 35 = some (.struct #[f0, f1]) ∧ ∀ i : Fin 2, (([f0, f1] : List Field).getD i.val f0).type = 3 ∧ (([f0, f1] : List Field).getD i.val f0).offset = i.val :=
  ⟨_, _, Tryd.underlying35, by decide⟩
theorem two_cells {H : Type} {enc : TypeId × Value → H} {W : World} {base : Nat} {sp : Nat → Bool} {held : Bool} {n : Nat} {cs : List Value} {ns : List Int} {p : List MemPlace} (hal : ns.length = 2)
    (h : DataW.trod enc Tryd.prog W base sp held n 35 cs = some (.agg (ns.map fun a => .lit (.int .i64 a)), p)) : ∀ i, i < 2 → cs[i]? = some (.int .i64 (ns.getD i 0)) := by
  intro i hi
  obtain ⟨f0, f1, hu, hfs⟩ := wei_fields
  obtain ⟨ys, k, _, hy, hl, hyl, hf⟩ := DataW.trod_struct hu h
  have hyl' : ys.length = 2 := hyl
  have hg : (#[f0, f1] : Array Field)[i]? = some (([f0, f1] : List Field).getD i f0) := by
    rcases (show i = 0 ∨ i = 1 by omega) with rfl | rfl <;> rfl
  have h1 := hf i _ hg
  have hft := hfs ⟨i, hi⟩
  rw [hft.1, hft.2, cells3, List.getElem?_eq_getElem (by omega : i < ys.length)] at h1
  obtain ⟨z, e1, e2, _⟩ := DataW.trod_int Tryd.underlying3 h1
  have h2 : cs[i]? = some (.int .i64 z) := by
    have := congrArg (·[0]?) e1
    simpa [List.getElem?_take, List.getElem?_drop] using this
  have h3 : ns.map (fun a => (DataW.lit (.int .i64 a) : DataW H)) = ys.map (·.1) := by
    have := congrArg Prod.fst hy
    simpa using this
  have h4 := congrArg (·[i]?) h3
  simp only [List.getElem?_map, List.getElem?_eq_getElem (by omega : i < ys.length), List.getElem?_eq_getElem (by omega : i < ns.length), Option.map_some, Option.some.injEq] at h4
  rw [e2] at h4
  simp only [DataW.lit.injEq, Lit.int.injEq, true_and] at h4
  rw [h2, ← h4]
  simp [List.getD, List.getElem?_eq_getElem (by omega : i < ns.length)]
def weiRow (i : Nat) : List Int := [ksv i, kdv i]
theorem plainL_get (i j : Nat) (hi : i < 13) (hj : j < 2) : plainL[i * 2 + j]? = some (.int .i64 ((weiRow i).getD j 0)) := by
  rcases (show i = 0 ∨ i = 1 ∨ i = 2 ∨ i = 3 ∨ i = 4 ∨ i = 5 ∨ i = 6 ∨ i = 7 ∨ i = 8 ∨ i = 9 ∨ i = 10 ∨ i = 11 ∨ i = 12 by omega) with rfl | rfl | rfl | rfl | rfl | rfl | rfl | rfl | rfl | rfl | rfl | rfl | rfl <;>
  rcases (show j = 0 ∨ j = 1 by omega) with rfl | rfl <;> rfl
theorem laid_get {H : Type} : (Rows.laid_versal_blend_plain : DataW H) = .agg ((List.range 13).map fun i => .agg ((weiRow i).map fun a => .lit (.int .i64 a))) := by rfl
/-- What the rows' list gives. -/
theorem tab_of {W : World} (h : laidMetH Tryd.prog Rows.blendOpaqueRow.laid W) : Tab W := by
  have h' : laidMet Tryd.prog ((plName, Rows.laid_versal_blend_plain) :: []) W := h
  obtain ⟨ps, ⟨g', t', cs, fuel, p, q, hg', ht', hvar, hd, _, _⟩, _⟩ := h'
  obtain rfl := Option.some.inj (gTab.symm.trans hg')
  obtain rfl := Option.some.inj (gTabType.symm.trans ht')
  rw [laid_get] at hd
  obtain ⟨xs, m, _, hx, hl, hxl, hf⟩ := DataW.trod_array Tryd.underlying36 hd
  rw [cells36] at hl
  rw [cells35] at hf
  have h3 := congrArg Prod.fst hx
  simp only [DataW.agg.injEq] at h3
  have cell : ∀ i j, i < 13 → j < 2 → cs[i * 2 + j]? = some (.int .i64 ((weiRow i).getD j 0)) := by
    intro i j hi hj
    have h4 := congrArg (·[i]?) h3
    have hxi : i < xs.length := by omega
    simp only [List.getElem?_map, List.getElem?_range hi, List.getElem?_eq_getElem hxi, Option.map_some, Option.some.injEq] at h4
    have h5 := hf i hi
    rw [List.getElem?_eq_getElem hxi] at h5
    have h6 := two_cells (ns := weiRow i) (p := xs[i].2) rfl (h5.trans (by rw [h4])) j hj
    rw [← h6]
    simp [List.getElem?_drop, hj]
  intro j v hv
  have hj : j < 26 := (List.getElem?_eq_some_iff.1 hv).1
  rw [Nat.zero_add, World.var?_cell gTab hvar j]
  have h7 := cell (j / 2) (j % 2) (by omega) (by omega)
  have h8 := plainL_get (j / 2) (j % 2) (by omega) (by omega)
  rw [show j / 2 * 2 + j % 2 = j by omega] at h7 h8
  rw [h7, ← h8, hv]
/-- The variable's block, laid. -/
def relay : Obj → Obj
  | .cells _ t frozen => .cells plainL.toArray t frozen
  | o => o
end Go.Proofs.YtdaapanmalcgbabDoor
