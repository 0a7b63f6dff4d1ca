/-
  NARROWER THAN 'FOR EVERY INPUT', by the rows' own cells (each row's printed sentence says how): FlateTells: laid · ZlibKnown: laid · ZlibTells: laid · ZlibBack: laid · ZlibHeads: laid.
  DERIVED. THE GIVEN ROWS OF THIS SEAT. 5 by the template 'for every input the law returns true; each argument reads behind the call as it read before'; 0 by the template 'total and deterministic' (their statements: YtahibacjaoohiaaDoorTotals.lean).
  GIVEN WITH THE SEED: the statements are not yours to turn. If you find one false, say at which input.
  Laid BY PROGRAM, IN A SANDBOX (cutbox-rows.mjs): the forced cells as the released guide's own fill.sh prints them over the translation 0dd55935616e7b39… (all of the seat's roots in one cut). By AI agents, Wed Nov 11 2026. No macro, syntax, notation, axiom, sorry.
-/
import Derived.Test.YtahibacjaoohiaaDoorChecked
import GoSem.Claim
import GoSem.ClaimJoined
import GoSem.ClaimMapViews
import Derived.JoinedTies
import Derived.KernelRfl
namespace Go.Proofs.YtahibacjaoohiaaDoor
/- THE CELL 'sum', in the pinned program and in every row, IS THE sha256 OF THE DUMP (.gsa) THAT YtahibacjaoohiaaDoorProg.lean LOADS. Nothing in Lean hashes anything: it is a label: what it is worth is what the hold of that sum in a sandbox is worth. -/
noncomputable def Tryd.pinned : Pinned := { name := "ytahibacjaoohiaadoor", sum := "0dd55935616e7b39ac770a0071b0e203602a3b67a48564a64cca4770b84d2770", checked := Tryd.checked }
namespace Rows
def none {H : Type} : Left H := { results := [], args := [] }

/- WHAT THE LISTED PACKAGE-LEVEL VARIABLES READ AS WHEN THE CALL BEGINS. Each datum BY PROGRAM (the guide's laid-datum.mjs) off the statement by which the dump's own 'gosem.cut.vars' lays the variable. In a bare row this is a premise. The card (YtahibacjaoohiaaDoorCards.lean) ties it to the program's text. -/
def laid_versal_flate_order {H : Type} : DataW H := .agg [.lit (.int .i64 16), .lit (.int .i64 17), .lit (.int .i64 18), .lit (.int .i64 0), .lit (.int .i64 8), .lit (.int .i64 7), .lit (.int .i64 9), .lit (.int .i64 6), .lit (.int .i64 10), .lit (.int .i64 5), .lit (.int .i64 11), .lit (.int .i64 4), .lit (.int .i64 12), .lit (.int .i64 3), .lit (.int .i64 13), .lit (.int .i64 2), .lit (.int .i64 14), .lit (.int .i64 1), .lit (.int .i64 15)]

/-- 'versallaw8.FlateTells': WHATEVER THE INPUT: true; the input reads as it did. -/
def flateTellsSpec : ChangeSpec := { name := "flateTells", fn := fun _ => fun
  | [d1, d2, d3, d4, d5, d6, d7] => { results := [.lit (.bool true)], args := [d1, d2, d3, d4, d5, d6, d7] }
  | _ => none }
def flateTellsRow : OpenClaim := { program := "ytahibacjaoohiaadoor", sum := "0dd55935616e7b39ac770a0071b0e203602a3b67a48564a64cca4770b84d2770", func := "versal/versallaw8.FlateTells", spec := "flateTells", named := ["versal/flate.order"], apart := false, laid := [("versal/flate.order", laid_versal_flate_order)] }
def FlateTellsSaid : Prop := flateTellsRow.holds Tryd.pinned (OpenSpec.ofChange flateTellsSpec)

/-- ITS FALSE NEIGHBOUR: 'it returns false'. Refute it at one input. -/
def flateTellsWrong : ChangeSpec := { name := "flateTells", fn := fun _ => fun
  | [d1, d2, d3, d4, d5, d6, d7] => { results := [.lit (.bool false)], args := [d1, d2, d3, d4, d5, d6, d7] }
  | _ => none }
def FlateTellsWrongFalsely : Prop := flateTellsRow.holds Tryd.pinned (OpenSpec.ofChange flateTellsWrong)

/-- 'versallaw9.ZlibKnown': WHATEVER THE INPUT: true; the input reads as it did. -/
def zlibKnownSpec : ChangeSpec := { name := "zlibKnown", fn := fun _ => fun
  | [] => { results := [.lit (.bool true)], args := [] }
  | _ => none }
def zlibKnownRow : OpenClaim := { program := "ytahibacjaoohiaadoor", sum := "0dd55935616e7b39ac770a0071b0e203602a3b67a48564a64cca4770b84d2770", func := "versal/versallaw9.ZlibKnown", spec := "zlibKnown", unfollowed := true, recurses := true, named := ["versal/flate.order"], apart := false, laid := [("versal/flate.order", laid_versal_flate_order)] }
def ZlibKnownSaid : Prop := zlibKnownRow.holds Tryd.pinned (OpenSpec.ofChange zlibKnownSpec)

/-- ITS FALSE NEIGHBOUR: 'it returns false'. Refute it at one input. -/
def zlibKnownWrong : ChangeSpec := { name := "zlibKnown", fn := fun _ => fun
  | [] => { results := [.lit (.bool false)], args := [] }
  | _ => none }
def ZlibKnownWrongFalsely : Prop := zlibKnownRow.holds Tryd.pinned (OpenSpec.ofChange zlibKnownWrong)

/-- 'versallaw9.ZlibTells': WHATEVER THE INPUT: true; the input reads as it did. -/
def zlibTellsSpec : ChangeSpec := { name := "zlibTells", fn := fun _ => fun
  | [d1, d2, d3, d4, d5, d6, d7] => { results := [.lit (.bool true)], args := [d1, d2, d3, d4, d5, d6, d7] }
  | _ => none }
def zlibTellsRow : OpenClaim := { program := "ytahibacjaoohiaadoor", sum := "0dd55935616e7b39ac770a0071b0e203602a3b67a48564a64cca4770b84d2770", func := "versal/versallaw9.ZlibTells", spec := "zlibTells", named := ["versal/flate.order"], apart := false, laid := [("versal/flate.order", laid_versal_flate_order)] }
def ZlibTellsSaid : Prop := zlibTellsRow.holds Tryd.pinned (OpenSpec.ofChange zlibTellsSpec)

/-- ITS FALSE NEIGHBOUR: 'it returns false'. Refute it at one input. -/
def zlibTellsWrong : ChangeSpec := { name := "zlibTells", fn := fun _ => fun
  | [d1, d2, d3, d4, d5, d6, d7] => { results := [.lit (.bool false)], args := [d1, d2, d3, d4, d5, d6, d7] }
  | _ => none }
def ZlibTellsWrongFalsely : Prop := zlibTellsRow.holds Tryd.pinned (OpenSpec.ofChange zlibTellsWrong)

/-- 'versallaw9.ZlibBack': WHATEVER THE INPUT: true; the input reads as it did. -/
def zlibBackSpec : ChangeSpec := { name := "zlibBack", fn := fun _ => fun
  | [d1, d2, d3, d4] => { results := [.lit (.bool true)], args := [d1, d2, d3, d4] }
  | _ => none }
def zlibBackRow : OpenClaim := { program := "ytahibacjaoohiaadoor", sum := "0dd55935616e7b39ac770a0071b0e203602a3b67a48564a64cca4770b84d2770", func := "versal/versallaw9.ZlibBack", spec := "zlibBack", named := ["versal/flate.order"], apart := false, laid := [("versal/flate.order", laid_versal_flate_order)] }
def ZlibBackSaid : Prop := zlibBackRow.holds Tryd.pinned (OpenSpec.ofChange zlibBackSpec)

/-- ITS FALSE NEIGHBOUR: 'it returns false'. Refute it at one input. -/
def zlibBackWrong : ChangeSpec := { name := "zlibBack", fn := fun _ => fun
  | [d1, d2, d3, d4] => { results := [.lit (.bool false)], args := [d1, d2, d3, d4] }
  | _ => none }
def ZlibBackWrongFalsely : Prop := zlibBackRow.holds Tryd.pinned (OpenSpec.ofChange zlibBackWrong)

/-- 'versallaw9.ZlibHeads': WHATEVER THE INPUT: true; the input reads as it did. -/
def zlibHeadsSpec : ChangeSpec := { name := "zlibHeads", fn := fun _ => fun
  | [d1, d2, d3] => { results := [.lit (.bool true)], args := [d1, d2, d3] }
  | _ => none }
def zlibHeadsRow : OpenClaim := { program := "ytahibacjaoohiaadoor", sum := "0dd55935616e7b39ac770a0071b0e203602a3b67a48564a64cca4770b84d2770", func := "versal/versallaw9.ZlibHeads", spec := "zlibHeads", named := ["versal/flate.order"], apart := false, laid := [("versal/flate.order", laid_versal_flate_order)] }
def ZlibHeadsSaid : Prop := zlibHeadsRow.holds Tryd.pinned (OpenSpec.ofChange zlibHeadsSpec)

/-- ITS FALSE NEIGHBOUR: 'it returns false'. Refute it at one input. -/
def zlibHeadsWrong : ChangeSpec := { name := "zlibHeads", fn := fun _ => fun
  | [d1, d2, d3] => { results := [.lit (.bool false)], args := [d1, d2, d3] }
  | _ => none }
def ZlibHeadsWrongFalsely : Prop := zlibHeadsRow.holds Tryd.pinned (OpenSpec.ofChange zlibHeadsWrong)

/- THE SECOND FORM. 'bulk': how many values and letters a reading holds, each counted each time it is reached (what is shared counts as often as it is met; a slice's spare places count too). A statement '..UptoSaid' is the law's where the arguments, and the package variables that the reading takes, are together of bulk at most 1048576: NARROWER than '..Said'. Prove '..Said' where nothing that the law and all that it calls make is longer than what came in: it says more and counts as full. Else prove '..UptoSaid'. A law counts once. -/
mutual
def uptoBulk {H : Type} : DataW H → Nat
  | .lit (.string bytes) => bytes.length + 1
  | .lit _ => 1
  | .nil => 1
  | .ptr d => uptoBulk d + 1
  | .slice elems spare => uptoBulkAll elems + uptoBulkAll spare + 1
  | .agg parts => uptoBulkAll parts + 1
  | .iface _ d => uptoBulk d + 1
  | .map entries => uptoBulkEntries entries + 1
  | .held _ => 1
def uptoBulkAll {H : Type} : List (DataW H) → Nat
  | [] => 0
  | d :: r => uptoBulk d + uptoBulkAll r
def uptoBulkEntries {H : Type} : List (Lit × DataW H) → Nat
  | [] => 0
  | x :: r => uptoBulkEntry x + uptoBulkEntries r
def uptoBulkEntry {H : Type} : Lit × DataW H → Nat
  | (.string bytes, d) => bytes.length + uptoBulk d + 1
  | (_, d) => uptoBulk d + 1
 end
def uptoSmall : (H : Type) → List (DataW H) → Bool := fun _ ds => decide (uptoBulkAll ds ≤ 1048576)
def OpenSpec.upto (s : _root_.Go.ChangeSpec) : _root_.Go.OpenSpec := { _root_.Go.OpenSpec.ofChange s with cond := some uptoSmall }

/-- 'versallaw8.FlateTells', WHERE WHAT IT READS IS OF BULK AT MOST 1048576: true; the input reads as it did. -/
def flateTellsUptoRow : OpenClaim := { program := "ytahibacjaoohiaadoor", sum := "0dd55935616e7b39ac770a0071b0e203602a3b67a48564a64cca4770b84d2770", func := "versal/versallaw8.FlateTells", spec := "flateTells", named := ["versal/flate.order"], apart := false, laid := [("versal/flate.order", laid_versal_flate_order)], narrowed := true }
def FlateTellsUptoSaid : Prop := flateTellsUptoRow.holds Tryd.pinned (OpenSpec.upto flateTellsSpec)

/-- 'versallaw9.ZlibKnown', WHERE WHAT IT READS IS OF BULK AT MOST 1048576: true; the input reads as it did. -/
def zlibKnownUptoRow : OpenClaim := { program := "ytahibacjaoohiaadoor", sum := "0dd55935616e7b39ac770a0071b0e203602a3b67a48564a64cca4770b84d2770", func := "versal/versallaw9.ZlibKnown", spec := "zlibKnown", unfollowed := true, recurses := true, named := ["versal/flate.order"], apart := false, laid := [("versal/flate.order", laid_versal_flate_order)], narrowed := true }
def ZlibKnownUptoSaid : Prop := zlibKnownUptoRow.holds Tryd.pinned (OpenSpec.upto zlibKnownSpec)

/-- 'versallaw9.ZlibTells', WHERE WHAT IT READS IS OF BULK AT MOST 1048576: true; the input reads as it did. -/
def zlibTellsUptoRow : OpenClaim := { program := "ytahibacjaoohiaadoor", sum := "0dd55935616e7b39ac770a0071b0e203602a3b67a48564a64cca4770b84d2770", func := "versal/versallaw9.ZlibTells", spec := "zlibTells", named := ["versal/flate.order"], apart := false, laid := [("versal/flate.order", laid_versal_flate_order)], narrowed := true }
def ZlibTellsUptoSaid : Prop := zlibTellsUptoRow.holds Tryd.pinned (OpenSpec.upto zlibTellsSpec)

/-- 'versallaw9.ZlibBack', WHERE WHAT IT READS IS OF BULK AT MOST 1048576: true; the input reads as it did. -/
def zlibBackUptoRow : OpenClaim := { program := "ytahibacjaoohiaadoor", sum := "0dd55935616e7b39ac770a0071b0e203602a3b67a48564a64cca4770b84d2770", func := "versal/versallaw9.ZlibBack", spec := "zlibBack", named := ["versal/flate.order"], apart := false, laid := [("versal/flate.order", laid_versal_flate_order)], narrowed := true }
def ZlibBackUptoSaid : Prop := zlibBackUptoRow.holds Tryd.pinned (OpenSpec.upto zlibBackSpec)

/-- 'versallaw9.ZlibHeads', WHERE WHAT IT READS IS OF BULK AT MOST 1048576: true; the input reads as it did. -/
def zlibHeadsUptoRow : OpenClaim := { program := "ytahibacjaoohiaadoor", sum := "0dd55935616e7b39ac770a0071b0e203602a3b67a48564a64cca4770b84d2770", func := "versal/versallaw9.ZlibHeads", spec := "zlibHeads", named := ["versal/flate.order"], apart := false, laid := [("versal/flate.order", laid_versal_flate_order)], narrowed := true }
def ZlibHeadsUptoSaid : Prop := zlibHeadsUptoRow.holds Tryd.pinned (OpenSpec.upto zlibHeadsSpec)

end Rows
end Go.Proofs.YtahibacjaoohiaaDoor
