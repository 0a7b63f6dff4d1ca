/-
  No cell of these rows narrows 'for every input' (looked for: loops, veiled, ifaces, maps, wideKeys, modest, calm, conditions, laid).
  DERIVED. THE GIVEN ROWS OF THIS SEAT. 4 by the template 'for every input the law returns true; each argument reads behind the call as it read before'; 0 by the template 'total and deterministic' (their statements: YtgbmmbimcmegcaaTotals.lean).
  GIVEN WITH THE SEED: the statements are not yours to turn. If you find one false, say at which input.
  Laid BY PROGRAM, IN A SANDBOX (cutbox-rows.mjs): the forced cells as the released guide's own fill.sh prints them over the translation 69804d9bbfebc11e… (all of the seat's roots in one cut). By AI agents, Wed Nov 11 2026. No macro, syntax, notation, axiom, sorry.
-/
import Derived.Test.YtgbmmbimcmegcaaChecked
import GoSem.Claim
import GoSem.ClaimJoined
import GoSem.ClaimMapViews
import Derived.JoinedTies
import Derived.KernelRfl
namespace Go.Proofs.Ytgbmmbimcmegcaa
/- THE CELL 'sum', in the pinned program and in every row, IS THE sha256 OF THE DUMP (.gsa) THAT YtgbmmbimcmegcaaProg.lean LOADS. Nothing in Lean hashes anything: it is a label: what it is worth is what the hold of that sum in a sandbox is worth. -/
noncomputable def Try.pinned : Pinned := { name := "ytgbmmbimcmegcaa", sum := "69804d9bbfebc11ee8d2debdb81ced611c1d0b895fdb6ed8684422401ca4324f", checked := Try.checked }
namespace Rows
def none {H : Type} : Left H := { results := [], args := [] }

/-- 'versallaw4.AngleKnown': WHATEVER THE INPUT: true; the input reads as it did. -/
def angleKnownSpec : ChangeSpec := { name := "angleKnown", fn := fun _ => fun
  | [] => { results := [.lit (.bool true)], args := [] }
  | _ => none }
def angleKnownRow : OpenClaim := { program := "ytgbmmbimcmegcaa", sum := "69804d9bbfebc11ee8d2debdb81ced611c1d0b895fdb6ed8684422401ca4324f", func := "versal/versallaw4.AngleKnown", spec := "angleKnown", apart := false }
def AngleKnownSaid : Prop := angleKnownRow.holds Try.pinned (OpenSpec.ofChange angleKnownSpec)

/-- ITS FALSE NEIGHBOUR: 'it returns false'. Refute it at one input. -/
def angleKnownWrong : ChangeSpec := { name := "angleKnown", fn := fun _ => fun
  | [] => { results := [.lit (.bool false)], args := [] }
  | _ => none }
def AngleKnownWrongFalsely : Prop := angleKnownRow.holds Try.pinned (OpenSpec.ofChange angleKnownWrong)

/-- 'versallaw4.AngleTells': WHATEVER THE INPUT: true; the input reads as it did. -/
def angleTellsSpec : ChangeSpec := { name := "angleTells", fn := fun _ => fun
  | [d1, d2, d3, d4] => { results := [.lit (.bool true)], args := [d1, d2, d3, d4] }
  | _ => none }
def angleTellsRow : OpenClaim := { program := "ytgbmmbimcmegcaa", sum := "69804d9bbfebc11ee8d2debdb81ced611c1d0b895fdb6ed8684422401ca4324f", func := "versal/versallaw4.AngleTells", spec := "angleTells", recurses := true, apart := false }
def AngleTellsSaid : Prop := angleTellsRow.holds Try.pinned (OpenSpec.ofChange angleTellsSpec)

/-- ITS FALSE NEIGHBOUR: 'it returns false'. Refute it at one input. -/
def angleTellsWrong : ChangeSpec := { name := "angleTells", fn := fun _ => fun
  | [d1, d2, d3, d4] => { results := [.lit (.bool false)], args := [d1, d2, d3, d4] }
  | _ => none }
def AngleTellsWrongFalsely : Prop := angleTellsRow.holds Try.pinned (OpenSpec.ofChange angleTellsWrong)

/-- 'versallaw4.AngleTurns': WHATEVER THE INPUT: true; the input reads as it did. -/
def angleTurnsSpec : ChangeSpec := { name := "angleTurns", fn := fun _ => fun
  | [d] => { results := [.lit (.bool true)], args := [d] }
  | _ => none }
def angleTurnsRow : OpenClaim := { program := "ytgbmmbimcmegcaa", sum := "69804d9bbfebc11ee8d2debdb81ced611c1d0b895fdb6ed8684422401ca4324f", func := "versal/versallaw4.AngleTurns", spec := "angleTurns", apart := false }
def AngleTurnsSaid : Prop := angleTurnsRow.holds Try.pinned (OpenSpec.ofChange angleTurnsSpec)

/-- ITS FALSE NEIGHBOUR: 'it returns false'. Refute it at one input. -/
def angleTurnsWrong : ChangeSpec := { name := "angleTurns", fn := fun _ => fun
  | [d] => { results := [.lit (.bool false)], args := [d] }
  | _ => none }
def AngleTurnsWrongFalsely : Prop := angleTurnsRow.holds Try.pinned (OpenSpec.ofChange angleTurnsWrong)

/-- 'versallaw4.AngleSides': WHATEVER THE INPUT: true; the input reads as it did. -/
def angleSidesSpec : ChangeSpec := { name := "angleSides", fn := fun _ => fun
  | [d1, d2] => { results := [.lit (.bool true)], args := [d1, d2] }
  | _ => none }
def angleSidesRow : OpenClaim := { program := "ytgbmmbimcmegcaa", sum := "69804d9bbfebc11ee8d2debdb81ced611c1d0b895fdb6ed8684422401ca4324f", func := "versal/versallaw4.AngleSides", spec := "angleSides", apart := false }
def AngleSidesSaid : Prop := angleSidesRow.holds Try.pinned (OpenSpec.ofChange angleSidesSpec)

/-- ITS FALSE NEIGHBOUR: 'it returns false'. Refute it at one input. -/
def angleSidesWrong : ChangeSpec := { name := "angleSides", fn := fun _ => fun
  | [d1, d2] => { results := [.lit (.bool false)], args := [d1, d2] }
  | _ => none }
def AngleSidesWrongFalsely : Prop := angleSidesRow.holds Try.pinned (OpenSpec.ofChange angleSidesWrong)

/- THE SECOND FORM. 'bulk': how many values and letters a reading holds, each counted each time it is reached (what is shared counts as often as it is met; a slice's spare places count too). A statement '..UptoSaid' is the law's where the arguments, and the package variables that the reading takes, are together of bulk at most 1048576: NARROWER than '..Said'. Prove '..Said' where nothing that the law and all that it calls make is longer than what came in: it says more and counts as full. Else prove '..UptoSaid'. A law counts once. -/
mutual
def uptoBulk {H : Type} : DataW H → Nat
  | .lit (.string bytes) => bytes.length + 1
  | .lit _ => 1
  | .nil => 1
  | .ptr d => uptoBulk d + 1
  | .slice elems spare => uptoBulkAll elems + uptoBulkAll spare + 1
  | .agg parts => uptoBulkAll parts + 1
  | .iface _ d => uptoBulk d + 1
  | .map entries => uptoBulkEntries entries + 1
  | .held _ => 1
def uptoBulkAll {H : Type} : List (DataW H) → Nat
  | [] => 0
  | d :: r => uptoBulk d + uptoBulkAll r
def uptoBulkEntries {H : Type} : List (Lit × DataW H) → Nat
  | [] => 0
  | x :: r => uptoBulkEntry x + uptoBulkEntries r
def uptoBulkEntry {H : Type} : Lit × DataW H → Nat
  | (.string bytes, d) => bytes.length + uptoBulk d + 1
  | (_, d) => uptoBulk d + 1
 end
def uptoSmall : (H : Type) → List (DataW H) → Bool := fun _ ds => decide (uptoBulkAll ds ≤ 1048576)
def OpenSpec.upto (s : _root_.Go.ChangeSpec) : _root_.Go.OpenSpec := { _root_.Go.OpenSpec.ofChange s with cond := some uptoSmall }

/-- 'versallaw4.AngleKnown', WHERE WHAT IT READS IS OF BULK AT MOST 1048576: true; the input reads as it did. -/
def angleKnownUptoRow : OpenClaim := { program := "ytgbmmbimcmegcaa", sum := "69804d9bbfebc11ee8d2debdb81ced611c1d0b895fdb6ed8684422401ca4324f", func := "versal/versallaw4.AngleKnown", spec := "angleKnown", apart := false, narrowed := true }
def AngleKnownUptoSaid : Prop := angleKnownUptoRow.holds Try.pinned (OpenSpec.upto angleKnownSpec)

/-- 'versallaw4.AngleTells', WHERE WHAT IT READS IS OF BULK AT MOST 1048576: true; the input reads as it did. -/
def angleTellsUptoRow : OpenClaim := { program := "ytgbmmbimcmegcaa", sum := "69804d9bbfebc11ee8d2debdb81ced611c1d0b895fdb6ed8684422401ca4324f", func := "versal/versallaw4.AngleTells", spec := "angleTells", recurses := true, apart := false, narrowed := true }
def AngleTellsUptoSaid : Prop := angleTellsUptoRow.holds Try.pinned (OpenSpec.upto angleTellsSpec)

/-- 'versallaw4.AngleTurns', WHERE WHAT IT READS IS OF BULK AT MOST 1048576: true; the input reads as it did. -/
def angleTurnsUptoRow : OpenClaim := { program := "ytgbmmbimcmegcaa", sum := "69804d9bbfebc11ee8d2debdb81ced611c1d0b895fdb6ed8684422401ca4324f", func := "versal/versallaw4.AngleTurns", spec := "angleTurns", apart := false, narrowed := true }
def AngleTurnsUptoSaid : Prop := angleTurnsUptoRow.holds Try.pinned (OpenSpec.upto angleTurnsSpec)

/-- 'versallaw4.AngleSides', WHERE WHAT IT READS IS OF BULK AT MOST 1048576: true; the input reads as it did. -/
def angleSidesUptoRow : OpenClaim := { program := "ytgbmmbimcmegcaa", sum := "69804d9bbfebc11ee8d2debdb81ced611c1d0b895fdb6ed8684422401ca4324f", func := "versal/versallaw4.AngleSides", spec := "angleSides", apart := false, narrowed := true }
def AngleSidesUptoSaid : Prop := angleSidesUptoRow.holds Try.pinned (OpenSpec.upto angleSidesSpec)

end Rows
end Go.Proofs.Ytgbmmbimcmegcaa
