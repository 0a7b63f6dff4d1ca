/-
  DERIVED. GIVEN WITH THE SEED: THE CARDS: each row of YtdaapanmalcgbaaDoorRows.lean that lists a variable, with what it lists TIED to the program's text (the seventh form; the later family's looks); each row that meets fmt, with fmt's text TOLD by the authors' own Lean function (tested against real Go, not proved from fmt's source: count such statements apart). THE CARD IS WHAT COUNTS. Prove the row's statement (the work); the ties are given (YtdaapanmalcgbaaDoorTie.lean); close each card by the builder's one call (the guide's Derived/Test/ToyasCard.lean, 'card_holds'). Laid BY PROGRAM, IN A SANDBOX (cutbox-door.mjs). By AI agents, Wed Nov 11 2026. No macro, syntax, notation, axiom, sorry.
-/
import Derived.Test.YtdaapanmalcgbaaDoorRows
import GoSem.ClaimSeven
namespace Go.Proofs.YtdaapanmalcgbaaDoor
namespace Rows

/-- THE TIED CARD OF 'versallaw13.BlendKnown'. -/
def blendKnownCard : Claim7 := { stood := { row := blendKnownRow, standIns := [], harness := (true, "4a64a67dcbc3897727a6090d1afff5d76f4ecb7b5326763733f8d29d71d8ecd4"), looks := false }, kinds := [], alts := [], laidByText := true, laidKinds := [.data], laidTests := true, laidLooks := .later }
def BlendKnownCardSaid : Prop := Claim7.holds Tryd.pinned (.plain (OpenSpec.ofChange blendKnownSpec)) blendKnownCard

/-- THE TIED CARD OF 'versallaw13.BlendTells'. -/
def blendTellsCard : Claim7 := { stood := { row := blendTellsRow, standIns := [], harness := (true, "4a64a67dcbc3897727a6090d1afff5d76f4ecb7b5326763733f8d29d71d8ecd4"), looks := false }, kinds := [], alts := [], laidByText := true, laidKinds := [.data], laidTests := true, laidLooks := .later }
def BlendTellsCardSaid : Prop := Claim7.holds Tryd.pinned (.plain (OpenSpec.ofChange blendTellsSpec)) blendTellsCard

/-- THE TIED CARD OF 'versallaw13.BlendAll'. -/
def blendAllCard : Claim7 := { stood := { row := blendAllRow, standIns := [], harness := (true, "4a64a67dcbc3897727a6090d1afff5d76f4ecb7b5326763733f8d29d71d8ecd4"), looks := false }, kinds := [], alts := [], laidByText := true, laidKinds := [.data], laidTests := true, laidLooks := .later }
def BlendAllCardSaid : Prop := Claim7.holds Tryd.pinned (.plain (OpenSpec.ofChange blendAllSpec)) blendAllCard

/-- THE TIED CARD OF 'versallaw13.BlendKeeps'. -/
def blendKeepsCard : Claim7 := { stood := { row := blendKeepsRow, standIns := [], harness := (true, "4a64a67dcbc3897727a6090d1afff5d76f4ecb7b5326763733f8d29d71d8ecd4"), looks := false }, kinds := [], alts := [], laidByText := true, laidKinds := [.data], laidTests := true, laidLooks := .later }
def BlendKeepsCardSaid : Prop := Claim7.holds Tryd.pinned (.plain (OpenSpec.ofChange blendKeepsSpec)) blendKeepsCard

/-- THE TIED CARD OF 'versallaw13.BlendNothing'. -/
def blendNothingCard : Claim7 := { stood := { row := blendNothingRow, standIns := [], harness := (true, "4a64a67dcbc3897727a6090d1afff5d76f4ecb7b5326763733f8d29d71d8ecd4"), looks := false }, kinds := [], alts := [], laidByText := true, laidKinds := [.data], laidTests := true, laidLooks := .later }
def BlendNothingCardSaid : Prop := Claim7.holds Tryd.pinned (.plain (OpenSpec.ofChange blendNothingSpec)) blendNothingCard

/-- THE TIED CARD OF 'versallaw13.BlendSame'. -/
def blendSameCard : Claim7 := { stood := { row := blendSameRow, standIns := [], harness := (true, "4a64a67dcbc3897727a6090d1afff5d76f4ecb7b5326763733f8d29d71d8ecd4"), looks := false }, kinds := [], alts := [], laidByText := true, laidKinds := [.data], laidTests := true, laidLooks := .later }
def BlendSameCardSaid : Prop := Claim7.holds Tryd.pinned (.plain (OpenSpec.ofChange blendSameSpec)) blendSameCard

/-- THE SECOND FORM's CARD OF 'versallaw13.BlendKnown'. -/
def blendKnownUptoCard : Claim7 := { stood := { row := blendKnownUptoRow, standIns := [], harness := (true, "4a64a67dcbc3897727a6090d1afff5d76f4ecb7b5326763733f8d29d71d8ecd4"), looks := false }, kinds := [], alts := [], laidByText := true, laidKinds := [.data], laidTests := true, laidLooks := .later }
def BlendKnownUptoCardSaid : Prop := Claim7.holds Tryd.pinned (.plain (OpenSpec.upto blendKnownSpec)) blendKnownUptoCard

/-- THE SECOND FORM's CARD OF 'versallaw13.BlendTells'. -/
def blendTellsUptoCard : Claim7 := { stood := { row := blendTellsUptoRow, standIns := [], harness := (true, "4a64a67dcbc3897727a6090d1afff5d76f4ecb7b5326763733f8d29d71d8ecd4"), looks := false }, kinds := [], alts := [], laidByText := true, laidKinds := [.data], laidTests := true, laidLooks := .later }
def BlendTellsUptoCardSaid : Prop := Claim7.holds Tryd.pinned (.plain (OpenSpec.upto blendTellsSpec)) blendTellsUptoCard

/-- THE SECOND FORM's CARD OF 'versallaw13.BlendAll'. -/
def blendAllUptoCard : Claim7 := { stood := { row := blendAllUptoRow, standIns := [], harness := (true, "4a64a67dcbc3897727a6090d1afff5d76f4ecb7b5326763733f8d29d71d8ecd4"), looks := false }, kinds := [], alts := [], laidByText := true, laidKinds := [.data], laidTests := true, laidLooks := .later }
def BlendAllUptoCardSaid : Prop := Claim7.holds Tryd.pinned (.plain (OpenSpec.upto blendAllSpec)) blendAllUptoCard

/-- THE SECOND FORM's CARD OF 'versallaw13.BlendKeeps'. -/
def blendKeepsUptoCard : Claim7 := { stood := { row := blendKeepsUptoRow, standIns := [], harness := (true, "4a64a67dcbc3897727a6090d1afff5d76f4ecb7b5326763733f8d29d71d8ecd4"), looks := false }, kinds := [], alts := [], laidByText := true, laidKinds := [.data], laidTests := true, laidLooks := .later }
def BlendKeepsUptoCardSaid : Prop := Claim7.holds Tryd.pinned (.plain (OpenSpec.upto blendKeepsSpec)) blendKeepsUptoCard

/-- THE SECOND FORM's CARD OF 'versallaw13.BlendNothing'. -/
def blendNothingUptoCard : Claim7 := { stood := { row := blendNothingUptoRow, standIns := [], harness := (true, "4a64a67dcbc3897727a6090d1afff5d76f4ecb7b5326763733f8d29d71d8ecd4"), looks := false }, kinds := [], alts := [], laidByText := true, laidKinds := [.data], laidTests := true, laidLooks := .later }
def BlendNothingUptoCardSaid : Prop := Claim7.holds Tryd.pinned (.plain (OpenSpec.upto blendNothingSpec)) blendNothingUptoCard

/-- THE SECOND FORM's CARD OF 'versallaw13.BlendSame'. -/
def blendSameUptoCard : Claim7 := { stood := { row := blendSameUptoRow, standIns := [], harness := (true, "4a64a67dcbc3897727a6090d1afff5d76f4ecb7b5326763733f8d29d71d8ecd4"), looks := false }, kinds := [], alts := [], laidByText := true, laidKinds := [.data], laidTests := true, laidLooks := .later }
def BlendSameUptoCardSaid : Prop := Claim7.holds Tryd.pinned (.plain (OpenSpec.upto blendSameSpec)) blendSameUptoCard
end Rows
end Go.Proofs.YtdaapanmalcgbaaDoor
