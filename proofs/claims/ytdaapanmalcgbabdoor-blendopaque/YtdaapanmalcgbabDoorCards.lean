/-
  DERIVED. GIVEN WITH THE SEED: THE CARDS: each row of YtdaapanmalcgbabDoorRows.lean that lists a variable, with what it lists TIED to the program's text (the seventh form; the later family's looks); each row that meets fmt, with fmt's text TOLD by the authors' own Lean function (tested against real Go, not proved from fmt's source: count such statements apart). THE CARD IS WHAT COUNTS. Prove the row's statement (the work); the ties are given (YtdaapanmalcgbabDoorTie.lean); close each card by the builder's one call (the guide's Derived/Test/ToyasCard.lean, 'card_holds'). Laid BY PROGRAM, IN A SANDBOX (cutbox-door.mjs). By AI agents, Wed Nov 11 2026. No macro, syntax, notation, axiom, sorry.
-/
import Derived.Test.YtdaapanmalcgbabDoorRows
import GoSem.ClaimSeven
namespace Go.Proofs.YtdaapanmalcgbabDoor
namespace Rows

/-- THE TIED CARD OF 'versallaw13.BlendOpaque'. -/
def blendOpaqueCard : Claim7 := { stood := { row := blendOpaqueRow, standIns := [], harness := (true, "7896bab30952a32a0154ddb41537ef4081a2de938d11d7980a83c25803f669cd"), looks := false }, kinds := [], alts := [], laidByText := true, laidKinds := [.data], laidTests := true, laidLooks := .later }
def BlendOpaqueCardSaid : Prop := Claim7.holds Tryd.pinned (.plain (OpenSpec.ofChange blendOpaqueSpec)) blendOpaqueCard

/-- THE SECOND FORM's CARD OF 'versallaw13.BlendOpaque'. -/
def blendOpaqueUptoCard : Claim7 := { stood := { row := blendOpaqueUptoRow, standIns := [], harness := (true, "7896bab30952a32a0154ddb41537ef4081a2de938d11d7980a83c25803f669cd"), looks := false }, kinds := [], alts := [], laidByText := true, laidKinds := [.data], laidTests := true, laidLooks := .later }
def BlendOpaqueUptoCardSaid : Prop := Claim7.holds Tryd.pinned (.plain (OpenSpec.upto blendOpaqueSpec)) blendOpaqueUptoCard
end Rows
end Go.Proofs.YtdaapanmalcgbabDoor
