/-
  rows.adam7 as it is laid; a world for the rows' witnesses; how small a slice is whose reading is small. No Go text is walked here.
-/
import Derived.Test.YtciobjjhdeagkaaDoorOpen
import Derived.Test.YtciobjjhdeagkaaDoorPss
import Derived.Test.YtciobjjhdeagkaaDoorTie
import Derived.Deep.DeepHandedRow
import Derived.Lib.LaidTab
namespace Go.Proofs.YtciobjjhdeagkaaDoor
open Go.ChangeShapes Go.WideShapes Go.ChangeAt Go.RowKit

/-- The variable's name, ns the rows have it. -/
def adName : String := Rows.rowsKnownRow.named.getD 0 Rows.rowsKnownRow.spec
theorem gTab : Tryd.prog.globalNamed adName = some 0 := by kernel_rfl
theorem gTabType : (Tryd.prog.globals[0]?).map (·.type) = some 44 := by kernel_rfl
theorem cells44 : Tryd.prog.cellsOf 44 = 42 := by kernel_rfl
theorem cells30 : Tryd.prog.cellsOf 30 = 6 := by kernel_rfl
theorem cells3 : Tryd.prog.cellsOf 3 = 1 := by kernel_rfl
theorem pas_fields : ∃ f0 f1 f2 f3 f4 f5 : Field, Tryd.prog.underlying 30 = some (.struct #[f0, f1, f2, f3, f4, f5]) ∧ ∀ i : Fin 6, (([f0, f1, f2, f3, f4, f5] : List Field).getD i.val f0).type = 3 ∧ (([f0, f1, f2, f3, f4, f5] : List Field).getD i.val f0).offset = i.val :=
  ⟨_, _, _, _, _, _, Tryd.underlying30, by decide⟩
theorem six_cells {H : Type} {enc : TypeId × Value → H} {W : World} {base : Nat} {sp : Nat → Bool} {held : Bool} {n : Nat} {cs : List Value} {ns : List Int} {p : List MemPlace} (hal : ns.length = 6)
    (h : DataW.trod enc Tryd.prog W base sp held n 30 cs = some (.agg (ns.map fun a => .lit (.int .i64 a)), p)) : ∀ i, i < 6 → cs[i]? = some (.int .i64 (ns.getD i 0)) := by
  intro i hi
  obtain ⟨f0, f1, f2, f3, f4, f5, hu, hfs⟩ := pas_fields
  obtain ⟨ys, k, _, hy, hl, hyl, hf⟩ := DataW.trod_struct hu h
  have hyl' : ys.length = 6 := hyl
  have hg : (#[f0, f1, f2, f3, f4, f5] : Array Field)[i]? = some (([f0, f1, f2, f3, f4, f5] : List Field).getD i f0) := by
    rcases (show i = 0 ∨ i = 1 ∨ i = 2 ∨ i = 3 ∨ i = 4 ∨ i = 5 by omega) with rfl | rfl | rfl | rfl | rfl | rfl <;> rfl
  have h1 := hf i _ hg
  have hft := hfs ⟨i, hi⟩
  rw [hft.1, hft.2, cells3, List.getElem?_eq_getElem (by omega : i < ys.length)] at h1
  obtain ⟨z, e1, e2, _⟩ := DataW.trod_int Tryd.underlying3 h1
  have h2 : cs[i]? = some (.int .i64 z) := by
    have := congrArg (·[0]?) e1
    simpa [List.getElem?_take, List.getElem?_drop] using this
  have h3 : ns.map (fun a => (DataW.lit (.int .i64 a) : DataW H)) = ys.map (·.1) := by
    have := congrArg Prod.fst hy
    simpa using this
  have h4 := congrArg (·[i]?) h3
  simp only [List.getElem?_map, List.getElem?_eq_getElem (by omega : i < ys.length), List.getElem?_eq_getElem (by omega : i < ns.length), Option.map_some, Option.some.injEq] at h4
  rw [e2] at h4
  simp only [DataW.lit.injEq, Lit.int.injEq, true_and] at h4
  rw [h2, ← h4]
  simp [List.getD, List.getElem?_eq_getElem (by omega : i < ns.length)]
def adRow (i : Nat) : List Int := [(adX i : Int), (adY i : Int), (adDX i : Int), (adDY i : Int), 0, 0]
theorem adamL_get (i j : Nat) (hi : i < 7) (hj : j < 6) : adamL[i * 6 + j]? = some (.int .i64 ((adRow i).getD j 0)) := by
  rcases (show i = 0 ∨ i = 1 ∨ i = 2 ∨ i = 3 ∨ i = 4 ∨ i = 5 ∨ i = 6 by omega) with rfl | rfl | rfl | rfl | rfl | rfl | rfl <;>
  rcases (show j = 0 ∨ j = 1 ∨ j = 2 ∨ j = 3 ∨ j = 4 ∨ j = 5 by omega) with rfl | rfl | rfl | rfl | rfl | rfl <;> rfl
theorem laid_get {H : Type} : (Rows.laid_versal_rows_adam7 : DataW H) = .agg ((List.range 7).map fun i => .agg ((adRow i).map fun a => .lit (.int .i64 a))) := by rfl
/-- What the rows' list gives. -/
theorem tab_of {W : World} (h : laidMetH Tryd.prog Rows.rowsKnownRow.laid W) : Tab W := by
  have h' : laidMet Tryd.prog ((adName, Rows.laid_versal_rows_adam7) :: []) W := h
  obtain ⟨ps, ⟨g', t', cs, fuel, p, q, hg', ht', hvar, hd, _, _⟩, _⟩ := h'
  obtain rfl := Option.some.inj (gTab.symm.trans hg')
  obtain rfl := Option.some.inj (gTabType.symm.trans ht')
  rw [laid_get] at hd
  obtain ⟨xs, m, _, hx, hl, hxl, hf⟩ := DataW.trod_array Tryd.underlying44 hd
  rw [cells44] at hl
  rw [cells30] at hf
  have h3 := congrArg Prod.fst hx
  simp only [DataW.agg.injEq] at h3
  have cell : ∀ i j, i < 7 → j < 6 → cs[i * 6 + j]? = some (.int .i64 ((adRow i).getD j 0)) := by
    intro i j hi hj
    have h4 := congrArg (·[i]?) h3
    have hxi : i < xs.length := by omega
    simp only [List.getElem?_map, List.getElem?_range hi, List.getElem?_eq_getElem hxi, Option.map_some, Option.some.injEq] at h4
    have h5 := hf i hi
    rw [List.getElem?_eq_getElem hxi] at h5
    have h6 := six_cells (ns := adRow i) (p := xs[i].2) rfl (h5.trans (by rw [h4])) j hj
    rw [← h6]
    simp [List.getElem?_drop, hj]
  intro j v hv
  have hj : j < 42 := (List.getElem?_eq_some_iff.1 hv).1
  rw [Nat.zero_add, World.var?_cell gTab hvar j]
  have h7 := cell (j / 6) (j % 6) (by omega) (by omega)
  have h8 := adamL_get (j / 6) (j % 6) (by omega) (by omega)
  rw [show j / 6 * 6 + j % 6 = j by omega] at h7 h8
  rw [h7, ← h8, hv]
/-- The variable's block, laid. -/
def relay : Obj → Obj
  | .cells _ t frozen => .cells adamL.toArray t frozen
  | o => o
theorem bulk_pos {H : Type} (d : DataW H) : 0 < Rows.uptoBulk d := by
  cases d with
  | lit l => cases l <;> simp [Rows.uptoBulk]
  | _ => simp [Rows.uptoBulk]
theorem bulk_all {H : Type} : ∀ l : List (DataW H), l.length ≤ Rows.uptoBulkAll l
  | [] => by simp [Rows.uptoBulkAll]
  | x :: r => by have := bulk_all r; have := bulk_pos x; simp only [Rows.uptoBulkAll, List.length_cons]; omega
theorem bulk_bytes {H : Type} {enc : TypeId × Value → H} {W : World} {a0 : Option Addr} {len cap : Nat} {d : DataW H} {pl : List MemPlace}
    (h : DataW.Trod enc Tryd.prog W 0 (fun _ => true) true 22 (.slice a0 len cap) d pl) : len ≤ Rows.uptoBulk d := by
  obtain ⟨fuel, hf⟩ := h
  rcases open_ints Tryd.underlying22 Tryd.underlying5 (by kernel_rfl) hf with ⟨hcs, _⟩ | ⟨x, l, c, zs, hcs, _, hl, hm, hz, hx, hcell, hwz⟩
  · simp [Value.cells] at hcs
    omega
  · simp [Value.cells] at hcs
    obtain ⟨rfl, rfl, rfl⟩ := hcs
    simp only [Prod.mk.injEq] at hx
    obtain ⟨rfl, rfl⟩ := hx
    simp only [Rows.uptoBulk]
    have h1 := bulk_all (lits (H := H) .u8 (zs.take len))
    rw [if_pos rfl] at hz
    have h2 : (lits (H := H) .u8 (zs.take len)).length = len := by simp [lits]; omega
    omega
end Go.Proofs.YtciobjjhdeagkaaDoor
