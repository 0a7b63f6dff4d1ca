/-
  NARROWER THAN 'FOR EVERY INPUT', by the rows' own cells (each row's printed sentence says how): RowsKnown: laid · RowsTells: laid · RowsBack: laid · RowsPasses: laid.
  DERIVED. THE GIVEN ROWS OF THIS SEAT. 4 by the template 'for every input the law returns true; each argument reads behind the call as it read before'; 0 by the template 'total and deterministic' (their statements: YtciobjjhdeagkaaDoorTotals.lean).
  GIVEN WITH THE SEED: the statements are not yours to turn. If you find one false, say at which input.
  Laid BY PROGRAM, IN A SANDBOX (cutbox-rows.mjs): the forced cells as the released guide's own fill.sh prints them over the translation ddf6c5bd6f0fe502… (all of the seat's roots in one cut). By AI agents, Wed Nov 11 2026. No macro, syntax, notation, axiom, sorry.
-/
import Derived.Test.YtciobjjhdeagkaaDoorChecked
import GoSem.Claim
import GoSem.ClaimJoined
import GoSem.ClaimMapViews
import Derived.JoinedTies
import Derived.KernelRfl
namespace Go.Proofs.YtciobjjhdeagkaaDoor
/- THE CELL 'sum', in the pinned program and in every row, IS THE sha256 OF THE DUMP (.gsa) THAT YtciobjjhdeagkaaDoorProg.lean LOADS. Nothing in Lean hashes anything: it is a label: what it is worth is what the hold of that sum in a sandbox is worth. -/
noncomputable def Tryd.pinned : Pinned := { name := "ytciobjjhdeagkaadoor", sum := "ddf6c5bd6f0fe502eb33f4da6f7fc994ece6e87a5ff4f9c5fca0dfd61a5221ca", checked := Tryd.checked }
namespace Rows
def none {H : Type} : Left H := { results := [], args := [] }

/- WHAT THE LISTED PACKAGE-LEVEL VARIABLES READ AS WHEN THE CALL BEGINS. Each datum BY PROGRAM (the guide's laid-datum.mjs) off the statement by which the dump's own 'gosem.cut.vars' lays the variable. In a bare row this is a premise. The card (YtciobjjhdeagkaaDoorCards.lean) ties it to the program's text. -/
def laid_versal_rows_adam7 {H : Type} : DataW H := .agg [.agg [.lit (.int .i64 0), .lit (.int .i64 0), .lit (.int .i64 8), .lit (.int .i64 8), .lit (.int .i64 0), .lit (.int .i64 0)], .agg [.lit (.int .i64 4), .lit (.int .i64 0), .lit (.int .i64 8), .lit (.int .i64 8), .lit (.int .i64 0), .lit (.int .i64 0)], .agg [.lit (.int .i64 0), .lit (.int .i64 4), .lit (.int .i64 4), .lit (.int .i64 8), .lit (.int .i64 0), .lit (.int .i64 0)], .agg [.lit (.int .i64 2), .lit (.int .i64 0), .lit (.int .i64 4), .lit (.int .i64 4), .lit (.int .i64 0), .lit (.int .i64 0)], .agg [.lit (.int .i64 0), .lit (.int .i64 2), .lit (.int .i64 2), .lit (.int .i64 4), .lit (.int .i64 0), .lit (.int .i64 0)], .agg [.lit (.int .i64 1), .lit (.int .i64 0), .lit (.int .i64 2), .lit (.int .i64 2), .lit (.int .i64 0), .lit (.int .i64 0)], .agg [.lit (.int .i64 0), .lit (.int .i64 1), .lit (.int .i64 1), .lit (.int .i64 2), .lit (.int .i64 0), .lit (.int .i64 0)]]

/-- 'versallaw10.RowsKnown': WHATEVER THE INPUT: true; the input reads as it did. -/
def rowsKnownSpec : ChangeSpec := { name := "rowsKnown", fn := fun _ => fun
  | [] => { results := [.lit (.bool true)], args := [] }
  | _ => none }
def rowsKnownRow : OpenClaim := { program := "ytciobjjhdeagkaadoor", sum := "ddf6c5bd6f0fe502eb33f4da6f7fc994ece6e87a5ff4f9c5fca0dfd61a5221ca", func := "versal/versallaw10.RowsKnown", spec := "rowsKnown", named := ["versal/rows.adam7"], apart := false, laid := [("versal/rows.adam7", laid_versal_rows_adam7)] }
def RowsKnownSaid : Prop := rowsKnownRow.holds Tryd.pinned (OpenSpec.ofChange rowsKnownSpec)

/-- ITS FALSE NEIGHBOUR: 'it returns false'. Refute it at one input. -/
def rowsKnownWrong : ChangeSpec := { name := "rowsKnown", fn := fun _ => fun
  | [] => { results := [.lit (.bool false)], args := [] }
  | _ => none }
def RowsKnownWrongFalsely : Prop := rowsKnownRow.holds Tryd.pinned (OpenSpec.ofChange rowsKnownWrong)

/-- 'versallaw10.RowsTells': WHATEVER THE INPUT: true; the input reads as it did. -/
def rowsTellsSpec : ChangeSpec := { name := "rowsTells", fn := fun _ => fun
  | [d1, d2, d3, d4, d5, d6, d7] => { results := [.lit (.bool true)], args := [d1, d2, d3, d4, d5, d6, d7] }
  | _ => none }
def rowsTellsRow : OpenClaim := { program := "ytciobjjhdeagkaadoor", sum := "ddf6c5bd6f0fe502eb33f4da6f7fc994ece6e87a5ff4f9c5fca0dfd61a5221ca", func := "versal/versallaw10.RowsTells", spec := "rowsTells", named := ["versal/rows.adam7"], apart := false, laid := [("versal/rows.adam7", laid_versal_rows_adam7)] }
def RowsTellsSaid : Prop := rowsTellsRow.holds Tryd.pinned (OpenSpec.ofChange rowsTellsSpec)

/-- ITS FALSE NEIGHBOUR: 'it returns false'. Refute it at one input. -/
def rowsTellsWrong : ChangeSpec := { name := "rowsTells", fn := fun _ => fun
  | [d1, d2, d3, d4, d5, d6, d7] => { results := [.lit (.bool false)], args := [d1, d2, d3, d4, d5, d6, d7] }
  | _ => none }
def RowsTellsWrongFalsely : Prop := rowsTellsRow.holds Tryd.pinned (OpenSpec.ofChange rowsTellsWrong)

/-- 'versallaw10.RowsBack': WHATEVER THE INPUT: true; the input reads as it did. -/
def rowsBackSpec : ChangeSpec := { name := "rowsBack", fn := fun _ => fun
  | [d1, d2, d3] => { results := [.lit (.bool true)], args := [d1, d2, d3] }
  | _ => none }
def rowsBackRow : OpenClaim := { program := "ytciobjjhdeagkaadoor", sum := "ddf6c5bd6f0fe502eb33f4da6f7fc994ece6e87a5ff4f9c5fca0dfd61a5221ca", func := "versal/versallaw10.RowsBack", spec := "rowsBack", named := ["versal/rows.adam7"], apart := false, laid := [("versal/rows.adam7", laid_versal_rows_adam7)] }
def RowsBackSaid : Prop := rowsBackRow.holds Tryd.pinned (OpenSpec.ofChange rowsBackSpec)

/-- ITS FALSE NEIGHBOUR: 'it returns false'. Refute it at one input. -/
def rowsBackWrong : ChangeSpec := { name := "rowsBack", fn := fun _ => fun
  | [d1, d2, d3] => { results := [.lit (.bool false)], args := [d1, d2, d3] }
  | _ => none }
def RowsBackWrongFalsely : Prop := rowsBackRow.holds Tryd.pinned (OpenSpec.ofChange rowsBackWrong)

/-- 'versallaw10.RowsPasses': WHATEVER THE INPUT: true; the input reads as it did. -/
def rowsPassesSpec : ChangeSpec := { name := "rowsPasses", fn := fun _ => fun
  | [d1, d2] => { results := [.lit (.bool true)], args := [d1, d2] }
  | _ => none }
def rowsPassesRow : OpenClaim := { program := "ytciobjjhdeagkaadoor", sum := "ddf6c5bd6f0fe502eb33f4da6f7fc994ece6e87a5ff4f9c5fca0dfd61a5221ca", func := "versal/versallaw10.RowsPasses", spec := "rowsPasses", named := ["versal/rows.adam7"], apart := false, laid := [("versal/rows.adam7", laid_versal_rows_adam7)] }
def RowsPassesSaid : Prop := rowsPassesRow.holds Tryd.pinned (OpenSpec.ofChange rowsPassesSpec)

/-- ITS FALSE NEIGHBOUR: 'it returns false'. Refute it at one input. -/
def rowsPassesWrong : ChangeSpec := { name := "rowsPasses", fn := fun _ => fun
  | [d1, d2] => { results := [.lit (.bool false)], args := [d1, d2] }
  | _ => none }
def RowsPassesWrongFalsely : Prop := rowsPassesRow.holds Tryd.pinned (OpenSpec.ofChange rowsPassesWrong)

/- THE SECOND FORM. 'bulk': how many values and letters a reading holds, each counted each time it is reached (what is shared counts as often as it is met; a slice's spare places count too). A statement '..UptoSaid' is the law's where the arguments, and the package variables that the reading takes, are together of bulk at most 1048576: NARROWER than '..Said'. Prove '..Said' where nothing that the law and all that it calls make is longer than what came in: it says more and counts as full. Else prove '..UptoSaid'. A law counts once. -/
mutual
def uptoBulk {H : Type} : DataW H → Nat
  | .lit (.string bytes) => bytes.length + 1
  | .lit _ => 1
  | .nil => 1
  | .ptr d => uptoBulk d + 1
  | .slice elems spare => uptoBulkAll elems + uptoBulkAll spare + 1
  | .agg parts => uptoBulkAll parts + 1
  | .iface _ d => uptoBulk d + 1
  | .map entries => uptoBulkEntries entries + 1
  | .held _ => 1
def uptoBulkAll {H : Type} : List (DataW H) → Nat
  | [] => 0
  | d :: r => uptoBulk d + uptoBulkAll r
def uptoBulkEntries {H : Type} : List (Lit × DataW H) → Nat
  | [] => 0
  | x :: r => uptoBulkEntry x + uptoBulkEntries r
def uptoBulkEntry {H : Type} : Lit × DataW H → Nat
  | (.string bytes, d) => bytes.length + uptoBulk d + 1
  | (_, d) => uptoBulk d + 1
 end
def uptoSmall : (H : Type) → List (DataW H) → Bool := fun _ ds => decide (uptoBulkAll ds ≤ 1048576)
def OpenSpec.upto (s : _root_.Go.ChangeSpec) : _root_.Go.OpenSpec := { _root_.Go.OpenSpec.ofChange s with cond := some uptoSmall }

/-- 'versallaw10.RowsKnown', WHERE WHAT IT READS IS OF BULK AT MOST 1048576: true; the input reads as it did. -/
def rowsKnownUptoRow : OpenClaim := { program := "ytciobjjhdeagkaadoor", sum := "ddf6c5bd6f0fe502eb33f4da6f7fc994ece6e87a5ff4f9c5fca0dfd61a5221ca", func := "versal/versallaw10.RowsKnown", spec := "rowsKnown", named := ["versal/rows.adam7"], apart := false, laid := [("versal/rows.adam7", laid_versal_rows_adam7)], narrowed := true }
def RowsKnownUptoSaid : Prop := rowsKnownUptoRow.holds Tryd.pinned (OpenSpec.upto rowsKnownSpec)

/-- 'versallaw10.RowsTells', WHERE WHAT IT READS IS OF BULK AT MOST 1048576: true; the input reads as it did. -/
def rowsTellsUptoRow : OpenClaim := { program := "ytciobjjhdeagkaadoor", sum := "ddf6c5bd6f0fe502eb33f4da6f7fc994ece6e87a5ff4f9c5fca0dfd61a5221ca", func := "versal/versallaw10.RowsTells", spec := "rowsTells", named := ["versal/rows.adam7"], apart := false, laid := [("versal/rows.adam7", laid_versal_rows_adam7)], narrowed := true }
def RowsTellsUptoSaid : Prop := rowsTellsUptoRow.holds Tryd.pinned (OpenSpec.upto rowsTellsSpec)

/-- 'versallaw10.RowsBack', WHERE WHAT IT READS IS OF BULK AT MOST 1048576: true; the input reads as it did. -/
def rowsBackUptoRow : OpenClaim := { program := "ytciobjjhdeagkaadoor", sum := "ddf6c5bd6f0fe502eb33f4da6f7fc994ece6e87a5ff4f9c5fca0dfd61a5221ca", func := "versal/versallaw10.RowsBack", spec := "rowsBack", named := ["versal/rows.adam7"], apart := false, laid := [("versal/rows.adam7", laid_versal_rows_adam7)], narrowed := true }
def RowsBackUptoSaid : Prop := rowsBackUptoRow.holds Tryd.pinned (OpenSpec.upto rowsBackSpec)

/-- 'versallaw10.RowsPasses', WHERE WHAT IT READS IS OF BULK AT MOST 1048576: true; the input reads as it did. -/
def rowsPassesUptoRow : OpenClaim := { program := "ytciobjjhdeagkaadoor", sum := "ddf6c5bd6f0fe502eb33f4da6f7fc994ece6e87a5ff4f9c5fca0dfd61a5221ca", func := "versal/versallaw10.RowsPasses", spec := "rowsPasses", named := ["versal/rows.adam7"], apart := false, laid := [("versal/rows.adam7", laid_versal_rows_adam7)], narrowed := true }
def RowsPassesUptoSaid : Prop := rowsPassesUptoRow.holds Tryd.pinned (OpenSpec.upto rowsPassesSpec)

end Rows
end Go.Proofs.YtciobjjhdeagkaaDoor
