/-
  No cell of these rows narrows 'for every input' (looked for: loops, veiled, ifaces, maps, wideKeys, modest, calm, conditions, laid).
  DERIVED. THE GIVEN ROWS OF THIS SEAT. 4 by the template 'for every input the law returns true; each argument reads behind the call as it read before'; 0 by the template 'total and deterministic' (their statements: YtffkbombeaojjaaTotals.lean).
  GIVEN WITH THE SEED: the statements are not yours to turn. If you find one false, say at which input.
  Laid BY PROGRAM, IN A SANDBOX (cutbox-rows.mjs): the forced cells as the released guide's own fill.sh prints them over the translation 40c58a8567be0dd2… (all of the seat's roots in one cut). By AI agents, Wed Nov 11 2026. No macro, syntax, notation, axiom, sorry.
-/
import Derived.Test.YtffkbombeaojjaaChecked
import GoSem.Claim
import GoSem.ClaimJoined
import GoSem.ClaimMapViews
import Derived.JoinedTies
import Derived.KernelRfl
namespace Go.Proofs.Ytffkbombeaojjaa
/- THE CELL 'sum', in the pinned program and in every row, IS THE sha256 OF THE DUMP (.gsa) THAT YtffkbombeaojjaaProg.lean LOADS. Nothing in Lean hashes anything: it is a label: what it is worth is what the hold of that sum in a sandbox is worth. -/
noncomputable def Try.pinned : Pinned := { name := "ytffkbombeaojjaa", sum := "40c58a8567be0dd2da35a56b2ef0b96d5e378923ebd5e4d2a8d59c3d97afa432", checked := Try.checked }
namespace Rows
def none {H : Type} : Left H := { results := [], args := [] }

/-- 'versallaw12.PixelKnown': WHATEVER THE INPUT: true; the input reads as it did. -/
def pixelKnownSpec : ChangeSpec := { name := "pixelKnown", fn := fun _ => fun
  | [] => { results := [.lit (.bool true)], args := [] }
  | _ => none }
def pixelKnownRow : OpenClaim := { program := "ytffkbombeaojjaa", sum := "40c58a8567be0dd2da35a56b2ef0b96d5e378923ebd5e4d2a8d59c3d97afa432", func := "versal/versallaw12.PixelKnown", spec := "pixelKnown", apart := false }
def PixelKnownSaid : Prop := pixelKnownRow.holds Try.pinned (OpenSpec.ofChange pixelKnownSpec)

/-- ITS FALSE NEIGHBOUR: 'it returns false'. Refute it at one input. -/
def pixelKnownWrong : ChangeSpec := { name := "pixelKnown", fn := fun _ => fun
  | [] => { results := [.lit (.bool false)], args := [] }
  | _ => none }
def PixelKnownWrongFalsely : Prop := pixelKnownRow.holds Try.pinned (OpenSpec.ofChange pixelKnownWrong)

/-- 'versallaw12.PixelTells': WHATEVER THE INPUT: true; the input reads as it did. -/
def pixelTellsSpec : ChangeSpec := { name := "pixelTells", fn := fun _ => fun
  | [d1, d2, d3, d4, d5] => { results := [.lit (.bool true)], args := [d1, d2, d3, d4, d5] }
  | _ => none }
def pixelTellsRow : OpenClaim := { program := "ytffkbombeaojjaa", sum := "40c58a8567be0dd2da35a56b2ef0b96d5e378923ebd5e4d2a8d59c3d97afa432", func := "versal/versallaw12.PixelTells", spec := "pixelTells", apart := false }
def PixelTellsSaid : Prop := pixelTellsRow.holds Try.pinned (OpenSpec.ofChange pixelTellsSpec)

/-- ITS FALSE NEIGHBOUR: 'it returns false'. Refute it at one input. -/
def pixelTellsWrong : ChangeSpec := { name := "pixelTells", fn := fun _ => fun
  | [d1, d2, d3, d4, d5] => { results := [.lit (.bool false)], args := [d1, d2, d3, d4, d5] }
  | _ => none }
def PixelTellsWrongFalsely : Prop := pixelTellsRow.holds Try.pinned (OpenSpec.ofChange pixelTellsWrong)

/-- 'versallaw12.PixelKeeps': WHATEVER THE INPUT: true; the input reads as it did. -/
def pixelKeepsSpec : ChangeSpec := { name := "pixelKeeps", fn := fun _ => fun
  | [d1, d2, d3, d4, d5] => { results := [.lit (.bool true)], args := [d1, d2, d3, d4, d5] }
  | _ => none }
def pixelKeepsRow : OpenClaim := { program := "ytffkbombeaojjaa", sum := "40c58a8567be0dd2da35a56b2ef0b96d5e378923ebd5e4d2a8d59c3d97afa432", func := "versal/versallaw12.PixelKeeps", spec := "pixelKeeps", apart := false }
def PixelKeepsSaid : Prop := pixelKeepsRow.holds Try.pinned (OpenSpec.ofChange pixelKeepsSpec)

/-- ITS FALSE NEIGHBOUR: 'it returns false'. Refute it at one input. -/
def pixelKeepsWrong : ChangeSpec := { name := "pixelKeeps", fn := fun _ => fun
  | [d1, d2, d3, d4, d5] => { results := [.lit (.bool false)], args := [d1, d2, d3, d4, d5] }
  | _ => none }
def PixelKeepsWrongFalsely : Prop := pixelKeepsRow.holds Try.pinned (OpenSpec.ofChange pixelKeepsWrong)

/-- 'versallaw12.PixelParts': WHATEVER THE INPUT: true; the input reads as it did. -/
def pixelPartsSpec : ChangeSpec := { name := "pixelParts", fn := fun _ => fun
  | [d1, d2, d3] => { results := [.lit (.bool true)], args := [d1, d2, d3] }
  | _ => none }
def pixelPartsRow : OpenClaim := { program := "ytffkbombeaojjaa", sum := "40c58a8567be0dd2da35a56b2ef0b96d5e378923ebd5e4d2a8d59c3d97afa432", func := "versal/versallaw12.PixelParts", spec := "pixelParts", apart := false }
def PixelPartsSaid : Prop := pixelPartsRow.holds Try.pinned (OpenSpec.ofChange pixelPartsSpec)

/-- ITS FALSE NEIGHBOUR: 'it returns false'. Refute it at one input. -/
def pixelPartsWrong : ChangeSpec := { name := "pixelParts", fn := fun _ => fun
  | [d1, d2, d3] => { results := [.lit (.bool false)], args := [d1, d2, d3] }
  | _ => none }
def PixelPartsWrongFalsely : Prop := pixelPartsRow.holds Try.pinned (OpenSpec.ofChange pixelPartsWrong)

/- THE SECOND FORM. 'bulk': how many values and letters a reading holds, each counted each time it is reached (what is shared counts as often as it is met; a slice's spare places count too). A statement '..UptoSaid' is the law's where the arguments, and the package variables that the reading takes, are together of bulk at most 1048576: NARROWER than '..Said'. Prove '..Said' where nothing that the law and all that it calls make is longer than what came in: it says more and counts as full. Else prove '..UptoSaid'. A law counts once. -/
mutual
def uptoBulk {H : Type} : DataW H → Nat
  | .lit (.string bytes) => bytes.length + 1
  | .lit _ => 1
  | .nil => 1
  | .ptr d => uptoBulk d + 1
  | .slice elems spare => uptoBulkAll elems + uptoBulkAll spare + 1
  | .agg parts => uptoBulkAll parts + 1
  | .iface _ d => uptoBulk d + 1
  | .map entries => uptoBulkEntries entries + 1
  | .held _ => 1
def uptoBulkAll {H : Type} : List (DataW H) → Nat
  | [] => 0
  | d :: r => uptoBulk d + uptoBulkAll r
def uptoBulkEntries {H : Type} : List (Lit × DataW H) → Nat
  | [] => 0
  | x :: r => uptoBulkEntry x + uptoBulkEntries r
def uptoBulkEntry {H : Type} : Lit × DataW H → Nat
  | (.string bytes, d) => bytes.length + uptoBulk d + 1
  | (_, d) => uptoBulk d + 1
 end
def uptoSmall : (H : Type) → List (DataW H) → Bool := fun _ ds => decide (uptoBulkAll ds ≤ 1048576)
def OpenSpec.upto (s : _root_.Go.ChangeSpec) : _root_.Go.OpenSpec := { _root_.Go.OpenSpec.ofChange s with cond := some uptoSmall }

/-- 'versallaw12.PixelKnown', WHERE WHAT IT READS IS OF BULK AT MOST 1048576: true; the input reads as it did. -/
def pixelKnownUptoRow : OpenClaim := { program := "ytffkbombeaojjaa", sum := "40c58a8567be0dd2da35a56b2ef0b96d5e378923ebd5e4d2a8d59c3d97afa432", func := "versal/versallaw12.PixelKnown", spec := "pixelKnown", apart := false, narrowed := true }
def PixelKnownUptoSaid : Prop := pixelKnownUptoRow.holds Try.pinned (OpenSpec.upto pixelKnownSpec)

/-- 'versallaw12.PixelTells', WHERE WHAT IT READS IS OF BULK AT MOST 1048576: true; the input reads as it did. -/
def pixelTellsUptoRow : OpenClaim := { program := "ytffkbombeaojjaa", sum := "40c58a8567be0dd2da35a56b2ef0b96d5e378923ebd5e4d2a8d59c3d97afa432", func := "versal/versallaw12.PixelTells", spec := "pixelTells", apart := false, narrowed := true }
def PixelTellsUptoSaid : Prop := pixelTellsUptoRow.holds Try.pinned (OpenSpec.upto pixelTellsSpec)

/-- 'versallaw12.PixelKeeps', WHERE WHAT IT READS IS OF BULK AT MOST 1048576: true; the input reads as it did. -/
def pixelKeepsUptoRow : OpenClaim := { program := "ytffkbombeaojjaa", sum := "40c58a8567be0dd2da35a56b2ef0b96d5e378923ebd5e4d2a8d59c3d97afa432", func := "versal/versallaw12.PixelKeeps", spec := "pixelKeeps", apart := false, narrowed := true }
def PixelKeepsUptoSaid : Prop := pixelKeepsUptoRow.holds Try.pinned (OpenSpec.upto pixelKeepsSpec)

/-- 'versallaw12.PixelParts', WHERE WHAT IT READS IS OF BULK AT MOST 1048576: true; the input reads as it did. -/
def pixelPartsUptoRow : OpenClaim := { program := "ytffkbombeaojjaa", sum := "40c58a8567be0dd2da35a56b2ef0b96d5e378923ebd5e4d2a8d59c3d97afa432", func := "versal/versallaw12.PixelParts", spec := "pixelParts", apart := false, narrowed := true }
def PixelPartsUptoSaid : Prop := pixelPartsUptoRow.holds Try.pinned (OpenSpec.upto pixelPartsSpec)

end Rows
end Go.Proofs.Ytffkbombeaojjaa
