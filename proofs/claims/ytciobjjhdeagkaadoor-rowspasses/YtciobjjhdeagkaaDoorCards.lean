/-
  DERIVED. GIVEN WITH THE SEED: THE CARDS: each row of YtciobjjhdeagkaaDoorRows.lean that lists a variable, with what it lists TIED to the program's text (the seventh form; the later family's looks); each row that meets fmt, with fmt's text TOLD by the authors' own Lean function (tested against real Go, not proved from fmt's source: count such statements apart). THE CARD IS WHAT COUNTS. Prove the row's statement (the work); the ties are given (YtciobjjhdeagkaaDoorTie.lean); close each card by the builder's one call (the guide's Derived/Test/ToyasCard.lean, 'card_holds'). Laid BY PROGRAM, IN A SANDBOX (cutbox-door.mjs). By AI agents, Wed Nov 11 2026. No macro, syntax, notation, axiom, sorry.
-/
import Derived.Test.YtciobjjhdeagkaaDoorRows
import GoSem.ClaimSeven
namespace Go.Proofs.YtciobjjhdeagkaaDoor
namespace Rows

/-- THE TIED CARD OF 'versallaw10.RowsKnown'. -/
def rowsKnownCard : Claim7 := { stood := { row := rowsKnownRow, standIns := [], harness := (true, "543fde911da4ec73bb378e210c45a57184d4ce87ed223c17e460a8354441fa16"), looks := false }, kinds := [], alts := [], laidByText := true, laidKinds := [.data], laidTests := true, laidLooks := .later }
def RowsKnownCardSaid : Prop := Claim7.holds Tryd.pinned (.plain (OpenSpec.ofChange rowsKnownSpec)) rowsKnownCard

/-- THE TIED CARD OF 'versallaw10.RowsTells'. -/
def rowsTellsCard : Claim7 := { stood := { row := rowsTellsRow, standIns := [], harness := (true, "543fde911da4ec73bb378e210c45a57184d4ce87ed223c17e460a8354441fa16"), looks := false }, kinds := [], alts := [], laidByText := true, laidKinds := [.data], laidTests := true, laidLooks := .later }
def RowsTellsCardSaid : Prop := Claim7.holds Tryd.pinned (.plain (OpenSpec.ofChange rowsTellsSpec)) rowsTellsCard

/-- THE TIED CARD OF 'versallaw10.RowsBack'. -/
def rowsBackCard : Claim7 := { stood := { row := rowsBackRow, standIns := [], harness := (true, "543fde911da4ec73bb378e210c45a57184d4ce87ed223c17e460a8354441fa16"), looks := false }, kinds := [], alts := [], laidByText := true, laidKinds := [.data], laidTests := true, laidLooks := .later }
def RowsBackCardSaid : Prop := Claim7.holds Tryd.pinned (.plain (OpenSpec.ofChange rowsBackSpec)) rowsBackCard

/-- THE TIED CARD OF 'versallaw10.RowsPasses'. -/
def rowsPassesCard : Claim7 := { stood := { row := rowsPassesRow, standIns := [], harness := (true, "543fde911da4ec73bb378e210c45a57184d4ce87ed223c17e460a8354441fa16"), looks := false }, kinds := [], alts := [], laidByText := true, laidKinds := [.data], laidTests := true, laidLooks := .later }
def RowsPassesCardSaid : Prop := Claim7.holds Tryd.pinned (.plain (OpenSpec.ofChange rowsPassesSpec)) rowsPassesCard

/-- THE SECOND FORM's CARD OF 'versallaw10.RowsKnown'. -/
def rowsKnownUptoCard : Claim7 := { stood := { row := rowsKnownUptoRow, standIns := [], harness := (true, "543fde911da4ec73bb378e210c45a57184d4ce87ed223c17e460a8354441fa16"), looks := false }, kinds := [], alts := [], laidByText := true, laidKinds := [.data], laidTests := true, laidLooks := .later }
def RowsKnownUptoCardSaid : Prop := Claim7.holds Tryd.pinned (.plain (OpenSpec.upto rowsKnownSpec)) rowsKnownUptoCard

/-- THE SECOND FORM's CARD OF 'versallaw10.RowsTells'. -/
def rowsTellsUptoCard : Claim7 := { stood := { row := rowsTellsUptoRow, standIns := [], harness := (true, "543fde911da4ec73bb378e210c45a57184d4ce87ed223c17e460a8354441fa16"), looks := false }, kinds := [], alts := [], laidByText := true, laidKinds := [.data], laidTests := true, laidLooks := .later }
def RowsTellsUptoCardSaid : Prop := Claim7.holds Tryd.pinned (.plain (OpenSpec.upto rowsTellsSpec)) rowsTellsUptoCard

/-- THE SECOND FORM's CARD OF 'versallaw10.RowsBack'. -/
def rowsBackUptoCard : Claim7 := { stood := { row := rowsBackUptoRow, standIns := [], harness := (true, "543fde911da4ec73bb378e210c45a57184d4ce87ed223c17e460a8354441fa16"), looks := false }, kinds := [], alts := [], laidByText := true, laidKinds := [.data], laidTests := true, laidLooks := .later }
def RowsBackUptoCardSaid : Prop := Claim7.holds Tryd.pinned (.plain (OpenSpec.upto rowsBackSpec)) rowsBackUptoCard

/-- THE SECOND FORM's CARD OF 'versallaw10.RowsPasses'. -/
def rowsPassesUptoCard : Claim7 := { stood := { row := rowsPassesUptoRow, standIns := [], harness := (true, "543fde911da4ec73bb378e210c45a57184d4ce87ed223c17e460a8354441fa16"), looks := false }, kinds := [], alts := [], laidByText := true, laidKinds := [.data], laidTests := true, laidLooks := .later }
def RowsPassesUptoCardSaid : Prop := Claim7.holds Tryd.pinned (.plain (OpenSpec.upto rowsPassesSpec)) rowsPassesUptoCard
end Rows
end Go.Proofs.YtciobjjhdeagkaaDoor
