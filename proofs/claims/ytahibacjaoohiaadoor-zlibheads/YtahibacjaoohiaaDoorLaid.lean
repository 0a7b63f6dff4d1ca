/-
  flate.order as it is laid; a world for the rows' witnesses; how small a slice is whose reading is small. No Go text is walked here.
-/
import Derived.Test.YtahibacjaoohiaaDoorOpen
import Derived.Test.YtahibacjaoohiaaDoorLalp
import Derived.Test.YtahibacjaoohiaaDoorTie
import Derived.Deep.DeepHandedRow
import Derived.Lib.LaidTab
namespace Go.Proofs.YtahibacjaoohiaaDoor
open Go.ChangeShapes Go.WideShapes Go.ChangeAt Go.RowKit

/-- The variable's name, as the rows have it. -/
def ordName : String := Rows.zlibKnownRow.named.getD 0 Rows.zlibKnownRow.spec
theorem gTab : Tryd.prog.globalNamed ordName = some 0 := by kernel_rfl
theorem gTabType : (Tryd.prog.globals[0]?).map (·.type) = some 94 := by kernel_rfl
theorem cells43 : Tryd.prog.cellsOf 94 = 19 := by kernel_rfl
theorem cells3 : Tryd.prog.cellsOf 3 = 1 := by kernel_rfl
theorem ord_get (i : Nat) (h : i < 19) : ([16, 17, 18, 0, 8, 7, 9, 6, 10, 5, 11, 4, 12, 3, 13, 2, 14, 1, 15] : List Int).getD i 0 = ((ord i : Nat) : Int) := by
  have : ∀ i : Fin 19, ([16, 17, 18, 0, 8, 7, 9, 6, 10, 5, 11, 4, 12, 3, 13, 2, 14, 1, 15] : List Int).getD i.val 0 = ((ord i.val : Nat) : Int) := by decide
  exact this ⟨i, h⟩
/-- What the rows' list gives. -/
theorem tab_of {W : World} (h : laidMetH Tryd.prog Rows.zlibKnownRow.laid W) : Tab W := fun i hi => by
  have t : Lib.TabIs Tryd.prog W ordName .i64 [16, 17, 18, 0, 8, 7, 9, 6, 10, 5, 11, 4, 12, 3, 13, 2, 14, 1, 15] := Lib.tabIs_of_head (rest := []) gTab gTabType Tryd.underlying94 Tryd.underlying3 cells3 cells43 h
  rw [t.cell gTab i (by simpa using hi), ord_get i hi]
def ordCells : Array Value := #[.int .i64 16, .int .i64 17, .int .i64 18, .int .i64 0, .int .i64 8, .int .i64 7, .int .i64 9, .int .i64 6, .int .i64 10, .int .i64 5, .int .i64 11, .int .i64 4, .int .i64 12, .int .i64 3, .int .i64 13, .int .i64 2, .int .i64 14, .int .i64 1, .int .i64 15]
/-- The variable's block, laid. -/
def relay : Obj → Obj
  | .cells _ t frozen => .cells ordCells t frozen
  | o => o
theorem bulk_pos {H : Type} (d : DataW H) : 0 < Rows.uptoBulk d := by
  cases d with
  | lit l => cases l <;> simp [Rows.uptoBulk]
  | _ => simp [Rows.uptoBulk]
theorem bulk_all {H : Type} : ∀ l : List (DataW H), l.length ≤ Rows.uptoBulkAll l
  | [] => by simp [Rows.uptoBulkAll]
  | x :: r => by have := bulk_all r; have := bulk_pos x; simp only [Rows.uptoBulkAll, List.length_cons]; omega
theorem bulk_bytes {H : Type} {enc : TypeId × Value → H} {W : World} {a0 : Option Addr} {len cap : Nat} {d : DataW H} {pl : List MemPlace}
    (h : DataW.Trod enc Tryd.prog W 0 (fun _ => true) true 23 (.slice a0 len cap) d pl) : len ≤ Rows.uptoBulk d := by
  obtain ⟨fuel, hf⟩ := h
  rcases open_ints Tryd.underlying23 Tryd.underlying5 (by kernel_rfl) hf with ⟨hcs, _⟩ | ⟨x, l, c, zs, hcs, _, hl, hm, hz, hx, hcell, hwz⟩
  · simp [Value.cells] at hcs
    omega
  · simp [Value.cells] at hcs
    obtain ⟨rfl, rfl, rfl⟩ := hcs
    simp only [Prod.mk.injEq] at hx
    obtain ⟨rfl, rfl⟩ := hx
    simp only [Rows.uptoBulk]
    have h1 := bulk_all (lits (H := H) .u8 (zs.take len))
    rw [if_pos rfl] at hz
    have h2 : (lits (H := H) .u8 (zs.take len)).length = len := by simp [lits]; omega
    omega
end Go.Proofs.YtahibacjaoohiaaDoor
