/-
  NARROWER THAN 'FOR EVERY INPUT', by the rows' own cells (each row's printed sentence says how): FlateKnown: laid · FlateTells: laid · FlateFixed: laid · FlateOwn: laid · FlateStored: laid.
  DERIVED. THE GIVEN ROWS OF THIS SEAT. 5 by the template 'for every input the law returns true; each argument reads behind the call as it read before'; 0 by the template 'total and deterministic' (their statements: YtkhfdjgnomkfgaaDoorTotals.lean).
  GIVEN WITH THE SEED: the statements are not yours to turn. If you find one false, say at which input.
  Laid BY PROGRAM, IN A SANDBOX (cutbox-rows.mjs): the forced cells as the released guide's own fill.sh prints them over the translation 47a512e352cd6bce… (all of the seat's roots in one cut). By AI agents, Wed Nov 11 2026. No macro, syntax, notation, axiom, sorry.
-/
import Derived.Test.YtkhfdjgnomkfgaaDoorChecked
import GoSem.Claim
import GoSem.ClaimJoined
import GoSem.ClaimMapViews
import Derived.JoinedTies
import Derived.KernelRfl
namespace Go.Proofs.YtkhfdjgnomkfgaaDoor
/- THE CELL 'sum', in the pinned program and in every row, IS THE sha256 OF THE DUMP (.gsa) THAT YtkhfdjgnomkfgaaDoorProg.lean LOADS. Nothing in Lean hashes anything: it is a label: what it is worth is what the hold of that sum in a sandbox is worth. -/
noncomputable def Tryd.pinned : Pinned := { name := "ytkhfdjgnomkfgaadoor", sum := "47a512e352cd6bcef856bee8732d2f6e9eb4d978d5bdc13981977e36755b62f0", checked := Tryd.checked }
namespace Rows
def none {H : Type} : Left H := { results := [], args := [] }

/- WHAT THE LISTED PACKAGE-LEVEL VARIABLES READ AS WHEN THE CALL BEGINS. Each datum BY PROGRAM (the guide's laid-datum.mjs) off the statement by which the dump's own 'gosem.cut.vars' lays the variable. In a bare row this is a premise. The card (YtkhfdjgnomkfgaaDoorCards.lean) ties it to the program's text. -/
def laid_versal_flate_order {H : Type} : DataW H := .agg [.lit (.int .i64 16), .lit (.int .i64 17), .lit (.int .i64 18), .lit (.int .i64 0), .lit (.int .i64 8), .lit (.int .i64 7), .lit (.int .i64 9), .lit (.int .i64 6), .lit (.int .i64 10), .lit (.int .i64 5), .lit (.int .i64 11), .lit (.int .i64 4), .lit (.int .i64 12), .lit (.int .i64 3), .lit (.int .i64 13), .lit (.int .i64 2), .lit (.int .i64 14), .lit (.int .i64 1), .lit (.int .i64 15)]

/-- 'versallaw8.FlateKnown': WHATEVER THE INPUT: true; the input reads as it did. -/
def flateKnownSpec : ChangeSpec := { name := "flateKnown", fn := fun _ => fun
  | [] => { results := [.lit (.bool true)], args := [] }
  | _ => none }
def flateKnownRow : OpenClaim := { program := "ytkhfdjgnomkfgaadoor", sum := "47a512e352cd6bcef856bee8732d2f6e9eb4d978d5bdc13981977e36755b62f0", func := "versal/versallaw8.FlateKnown", spec := "flateKnown", named := ["versal/flate.order"], apart := false, laid := [("versal/flate.order", laid_versal_flate_order)] }
def FlateKnownSaid : Prop := flateKnownRow.holds Tryd.pinned (OpenSpec.ofChange flateKnownSpec)

/-- ITS FALSE NEIGHBOUR: 'it returns false'. Refute it at one input. -/
def flateKnownWrong : ChangeSpec := { name := "flateKnown", fn := fun _ => fun
  | [] => { results := [.lit (.bool false)], args := [] }
  | _ => none }
def FlateKnownWrongFalsely : Prop := flateKnownRow.holds Tryd.pinned (OpenSpec.ofChange flateKnownWrong)

/-- 'versallaw8.FlateTells': WHATEVER THE INPUT: true; the input reads as it did. -/
def flateTellsSpec : ChangeSpec := { name := "flateTells", fn := fun _ => fun
  | [d1, d2, d3, d4, d5, d6, d7] => { results := [.lit (.bool true)], args := [d1, d2, d3, d4, d5, d6, d7] }
  | _ => none }
def flateTellsRow : OpenClaim := { program := "ytkhfdjgnomkfgaadoor", sum := "47a512e352cd6bcef856bee8732d2f6e9eb4d978d5bdc13981977e36755b62f0", func := "versal/versallaw8.FlateTells", spec := "flateTells", named := ["versal/flate.order"], apart := false, laid := [("versal/flate.order", laid_versal_flate_order)] }
def FlateTellsSaid : Prop := flateTellsRow.holds Tryd.pinned (OpenSpec.ofChange flateTellsSpec)

/-- ITS FALSE NEIGHBOUR: 'it returns false'. Refute it at one input. -/
def flateTellsWrong : ChangeSpec := { name := "flateTells", fn := fun _ => fun
  | [d1, d2, d3, d4, d5, d6, d7] => { results := [.lit (.bool false)], args := [d1, d2, d3, d4, d5, d6, d7] }
  | _ => none }
def FlateTellsWrongFalsely : Prop := flateTellsRow.holds Tryd.pinned (OpenSpec.ofChange flateTellsWrong)

/-- 'versallaw8.FlateFixed': WHATEVER THE INPUT: true; the input reads as it did. -/
def flateFixedSpec : ChangeSpec := { name := "flateFixed", fn := fun _ => fun
  | [d1, d2] => { results := [.lit (.bool true)], args := [d1, d2] }
  | _ => none }
def flateFixedRow : OpenClaim := { program := "ytkhfdjgnomkfgaadoor", sum := "47a512e352cd6bcef856bee8732d2f6e9eb4d978d5bdc13981977e36755b62f0", func := "versal/versallaw8.FlateFixed", spec := "flateFixed", named := ["versal/flate.order"], apart := false, laid := [("versal/flate.order", laid_versal_flate_order)] }
def FlateFixedSaid : Prop := flateFixedRow.holds Tryd.pinned (OpenSpec.ofChange flateFixedSpec)

/-- ITS FALSE NEIGHBOUR: 'it returns false'. Refute it at one input. -/
def flateFixedWrong : ChangeSpec := { name := "flateFixed", fn := fun _ => fun
  | [d1, d2] => { results := [.lit (.bool false)], args := [d1, d2] }
  | _ => none }
def FlateFixedWrongFalsely : Prop := flateFixedRow.holds Tryd.pinned (OpenSpec.ofChange flateFixedWrong)

/-- 'versallaw8.FlateOwn': WHATEVER THE INPUT: true; the input reads as it did. -/
def flateOwnSpec : ChangeSpec := { name := "flateOwn", fn := fun _ => fun
  | [d1, d2] => { results := [.lit (.bool true)], args := [d1, d2] }
  | _ => none }
def flateOwnRow : OpenClaim := { program := "ytkhfdjgnomkfgaadoor", sum := "47a512e352cd6bcef856bee8732d2f6e9eb4d978d5bdc13981977e36755b62f0", func := "versal/versallaw8.FlateOwn", spec := "flateOwn", named := ["versal/flate.order"], apart := false, laid := [("versal/flate.order", laid_versal_flate_order)] }
def FlateOwnSaid : Prop := flateOwnRow.holds Tryd.pinned (OpenSpec.ofChange flateOwnSpec)

/-- ITS FALSE NEIGHBOUR: 'it returns false'. Refute it at one input. -/
def flateOwnWrong : ChangeSpec := { name := "flateOwn", fn := fun _ => fun
  | [d1, d2] => { results := [.lit (.bool false)], args := [d1, d2] }
  | _ => none }
def FlateOwnWrongFalsely : Prop := flateOwnRow.holds Tryd.pinned (OpenSpec.ofChange flateOwnWrong)

/-- 'versallaw8.FlateStored': WHATEVER THE INPUT: true; the input reads as it did. -/
def flateStoredSpec : ChangeSpec := { name := "flateStored", fn := fun _ => fun
  | [d1, d2, d3] => { results := [.lit (.bool true)], args := [d1, d2, d3] }
  | _ => none }
def flateStoredRow : OpenClaim := { program := "ytkhfdjgnomkfgaadoor", sum := "47a512e352cd6bcef856bee8732d2f6e9eb4d978d5bdc13981977e36755b62f0", func := "versal/versallaw8.FlateStored", spec := "flateStored", named := ["versal/flate.order"], apart := false, laid := [("versal/flate.order", laid_versal_flate_order)] }
def FlateStoredSaid : Prop := flateStoredRow.holds Tryd.pinned (OpenSpec.ofChange flateStoredSpec)

/-- ITS FALSE NEIGHBOUR: 'it returns false'. Refute it at one input. -/
def flateStoredWrong : ChangeSpec := { name := "flateStored", fn := fun _ => fun
  | [d1, d2, d3] => { results := [.lit (.bool false)], args := [d1, d2, d3] }
  | _ => none }
def FlateStoredWrongFalsely : Prop := flateStoredRow.holds Tryd.pinned (OpenSpec.ofChange flateStoredWrong)

/- THE SECOND FORM. 'bulk': how many values and letters a reading holds, each counted each time it is reached (what is shared counts as often as it is met; a slice's spare places count too). A statement '..UptoSaid' is the law's where the arguments, and the package variables that the reading takes, are together of bulk at most 1048576: NARROWER than '..Said'. Prove '..Said' where nothing that the law and all that it calls make is longer than what came in: it says more and counts as full. Else prove '..UptoSaid'. A law counts once. -/
mutual
def uptoBulk {H : Type} : DataW H → Nat
  | .lit (.string bytes) => bytes.length + 1
  | .lit _ => 1
  | .nil => 1
  | .ptr d => uptoBulk d + 1
  | .slice elems spare => uptoBulkAll elems + uptoBulkAll spare + 1
  | .agg parts => uptoBulkAll parts + 1
  | .iface _ d => uptoBulk d + 1
  | .map entries => uptoBulkEntries entries + 1
  | .held _ => 1
def uptoBulkAll {H : Type} : List (DataW H) → Nat
  | [] => 0
  | d :: r => uptoBulk d + uptoBulkAll r
def uptoBulkEntries {H : Type} : List (Lit × DataW H) → Nat
  | [] => 0
  | x :: r => uptoBulkEntry x + uptoBulkEntries r
def uptoBulkEntry {H : Type} : Lit × DataW H → Nat
  | (.string bytes, d) => bytes.length + uptoBulk d + 1
  | (_, d) => uptoBulk d + 1
 end
def uptoSmall : (H : Type) → List (DataW H) → Bool := fun _ ds => decide (uptoBulkAll ds ≤ 1048576)
def OpenSpec.upto (s : _root_.Go.ChangeSpec) : _root_.Go.OpenSpec := { _root_.Go.OpenSpec.ofChange s with cond := some uptoSmall }

/-- 'versallaw8.FlateKnown', WHERE WHAT IT READS IS OF BULK AT MOST 1048576: true; the input reads as it did. -/
def flateKnownUptoRow : OpenClaim := { program := "ytkhfdjgnomkfgaadoor", sum := "47a512e352cd6bcef856bee8732d2f6e9eb4d978d5bdc13981977e36755b62f0", func := "versal/versallaw8.FlateKnown", spec := "flateKnown", named := ["versal/flate.order"], apart := false, laid := [("versal/flate.order", laid_versal_flate_order)], narrowed := true }
def FlateKnownUptoSaid : Prop := flateKnownUptoRow.holds Tryd.pinned (OpenSpec.upto flateKnownSpec)

/-- 'versallaw8.FlateTells', WHERE WHAT IT READS IS OF BULK AT MOST 1048576: true; the input reads as it did. -/
def flateTellsUptoRow : OpenClaim := { program := "ytkhfdjgnomkfgaadoor", sum := "47a512e352cd6bcef856bee8732d2f6e9eb4d978d5bdc13981977e36755b62f0", func := "versal/versallaw8.FlateTells", spec := "flateTells", named := ["versal/flate.order"], apart := false, laid := [("versal/flate.order", laid_versal_flate_order)], narrowed := true }
def FlateTellsUptoSaid : Prop := flateTellsUptoRow.holds Tryd.pinned (OpenSpec.upto flateTellsSpec)

/-- 'versallaw8.FlateFixed', WHERE WHAT IT READS IS OF BULK AT MOST 1048576: true; the input reads as it did. -/
def flateFixedUptoRow : OpenClaim := { program := "ytkhfdjgnomkfgaadoor", sum := "47a512e352cd6bcef856bee8732d2f6e9eb4d978d5bdc13981977e36755b62f0", func := "versal/versallaw8.FlateFixed", spec := "flateFixed", named := ["versal/flate.order"], apart := false, laid := [("versal/flate.order", laid_versal_flate_order)], narrowed := true }
def FlateFixedUptoSaid : Prop := flateFixedUptoRow.holds Tryd.pinned (OpenSpec.upto flateFixedSpec)

/-- 'versallaw8.FlateOwn', WHERE WHAT IT READS IS OF BULK AT MOST 1048576: true; the input reads as it did. -/
def flateOwnUptoRow : OpenClaim := { program := "ytkhfdjgnomkfgaadoor", sum := "47a512e352cd6bcef856bee8732d2f6e9eb4d978d5bdc13981977e36755b62f0", func := "versal/versallaw8.FlateOwn", spec := "flateOwn", named := ["versal/flate.order"], apart := false, laid := [("versal/flate.order", laid_versal_flate_order)], narrowed := true }
def FlateOwnUptoSaid : Prop := flateOwnUptoRow.holds Tryd.pinned (OpenSpec.upto flateOwnSpec)

/-- 'versallaw8.FlateStored', WHERE WHAT IT READS IS OF BULK AT MOST 1048576: true; the input reads as it did. -/
def flateStoredUptoRow : OpenClaim := { program := "ytkhfdjgnomkfgaadoor", sum := "47a512e352cd6bcef856bee8732d2f6e9eb4d978d5bdc13981977e36755b62f0", func := "versal/versallaw8.FlateStored", spec := "flateStored", named := ["versal/flate.order"], apart := false, laid := [("versal/flate.order", laid_versal_flate_order)], narrowed := true }
def FlateStoredUptoSaid : Prop := flateStoredUptoRow.holds Tryd.pinned (OpenSpec.upto flateStoredSpec)

end Rows
end Go.Proofs.YtkhfdjgnomkfgaaDoor
