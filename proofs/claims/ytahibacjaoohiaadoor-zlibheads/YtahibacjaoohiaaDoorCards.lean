/-
  DERIVED. GIVEN WITH THE SEED: THE CARDS: each row of YtahibacjaoohiaaDoorRows.lean that lists a variable, with what it lists TIED to the program's text (the seventh form; the later family's looks); each row that meets fmt, with fmt's text TOLD by the authors' own Lean function (tested against real Go, not proved from fmt's source: count such statements apart). THE CARD IS WHAT COUNTS. Prove the row's statement (the work); the ties are given (YtahibacjaoohiaaDoorTie.lean); close each card by the builder's one call (the guide's Derived/Test/ToyasCard.lean, 'card_holds'). Laid BY PROGRAM, IN A SANDBOX (cutbox-door.mjs). By AI agents, Wed Nov 11 2026. No macro, syntax, notation, axiom, sorry.
-/
import Derived.Test.YtahibacjaoohiaaDoorRows
import GoSem.ClaimSeven
namespace Go.Proofs.YtahibacjaoohiaaDoor
namespace Rows

/-- THE TIED CARD OF 'versallaw8.FlateTells'. -/
def flateTellsCard : Claim7 := { stood := { row := flateTellsRow, standIns := [], harness := (true, "3e5ef6e6854515238849b26f47d129557036c2341914a80014ee67174c6f84e1"), looks := false }, kinds := [], alts := [], laidByText := true, laidKinds := [.data], laidTests := true, laidLooks := .later }
def FlateTellsCardSaid : Prop := Claim7.holds Tryd.pinned (.plain (OpenSpec.ofChange flateTellsSpec)) flateTellsCard

/-- THE TIED CARD OF 'versallaw9.ZlibKnown'. -/
def zlibKnownCard : Claim7 := { stood := { row := zlibKnownRow, standIns := [], harness := (true, "3e5ef6e6854515238849b26f47d129557036c2341914a80014ee67174c6f84e1"), looks := false }, kinds := [], alts := [], laidByText := true, laidKinds := [.data], laidTests := true, laidLooks := .later }
def ZlibKnownCardSaid : Prop := Claim7.holds Tryd.pinned (.plain (OpenSpec.ofChange zlibKnownSpec)) zlibKnownCard

/-- THE TIED CARD OF 'versallaw9.ZlibTells'. -/
def zlibTellsCard : Claim7 := { stood := { row := zlibTellsRow, standIns := [], harness := (true, "3e5ef6e6854515238849b26f47d129557036c2341914a80014ee67174c6f84e1"), looks := false }, kinds := [], alts := [], laidByText := true, laidKinds := [.data], laidTests := true, laidLooks := .later }
def ZlibTellsCardSaid : Prop := Claim7.holds Tryd.pinned (.plain (OpenSpec.ofChange zlibTellsSpec)) zlibTellsCard

/-- THE TIED CARD OF 'versallaw9.ZlibBack'. -/
def zlibBackCard : Claim7 := { stood := { row := zlibBackRow, standIns := [], harness := (true, "3e5ef6e6854515238849b26f47d129557036c2341914a80014ee67174c6f84e1"), looks := false }, kinds := [], alts := [], laidByText := true, laidKinds := [.data], laidTests := true, laidLooks := .later }
def ZlibBackCardSaid : Prop := Claim7.holds Tryd.pinned (.plain (OpenSpec.ofChange zlibBackSpec)) zlibBackCard

/-- THE TIED CARD OF 'versallaw9.ZlibHeads'. -/
def zlibHeadsCard : Claim7 := { stood := { row := zlibHeadsRow, standIns := [], harness := (true, "3e5ef6e6854515238849b26f47d129557036c2341914a80014ee67174c6f84e1"), looks := false }, kinds := [], alts := [], laidByText := true, laidKinds := [.data], laidTests := true, laidLooks := .later }
def ZlibHeadsCardSaid : Prop := Claim7.holds Tryd.pinned (.plain (OpenSpec.ofChange zlibHeadsSpec)) zlibHeadsCard

/-- THE SECOND FORM's CARD OF 'versallaw8.FlateTells'. -/
def flateTellsUptoCard : Claim7 := { stood := { row := flateTellsUptoRow, standIns := [], harness := (true, "3e5ef6e6854515238849b26f47d129557036c2341914a80014ee67174c6f84e1"), looks := false }, kinds := [], alts := [], laidByText := true, laidKinds := [.data], laidTests := true, laidLooks := .later }
def FlateTellsUptoCardSaid : Prop := Claim7.holds Tryd.pinned (.plain (OpenSpec.upto flateTellsSpec)) flateTellsUptoCard

/-- THE SECOND FORM's CARD OF 'versallaw9.ZlibKnown'. -/
def zlibKnownUptoCard : Claim7 := { stood := { row := zlibKnownUptoRow, standIns := [], harness := (true, "3e5ef6e6854515238849b26f47d129557036c2341914a80014ee67174c6f84e1"), looks := false }, kinds := [], alts := [], laidByText := true, laidKinds := [.data], laidTests := true, laidLooks := .later }
def ZlibKnownUptoCardSaid : Prop := Claim7.holds Tryd.pinned (.plain (OpenSpec.upto zlibKnownSpec)) zlibKnownUptoCard

/-- THE SECOND FORM's CARD OF 'versallaw9.ZlibTells'. -/
def zlibTellsUptoCard : Claim7 := { stood := { row := zlibTellsUptoRow, standIns := [], harness := (true, "3e5ef6e6854515238849b26f47d129557036c2341914a80014ee67174c6f84e1"), looks := false }, kinds := [], alts := [], laidByText := true, laidKinds := [.data], laidTests := true, laidLooks := .later }
def ZlibTellsUptoCardSaid : Prop := Claim7.holds Tryd.pinned (.plain (OpenSpec.upto zlibTellsSpec)) zlibTellsUptoCard

/-- THE SECOND FORM's CARD OF 'versallaw9.ZlibBack'. -/
def zlibBackUptoCard : Claim7 := { stood := { row := zlibBackUptoRow, standIns := [], harness := (true, "3e5ef6e6854515238849b26f47d129557036c2341914a80014ee67174c6f84e1"), looks := false }, kinds := [], alts := [], laidByText := true, laidKinds := [.data], laidTests := true, laidLooks := .later }
def ZlibBackUptoCardSaid : Prop := Claim7.holds Tryd.pinned (.plain (OpenSpec.upto zlibBackSpec)) zlibBackUptoCard

/-- THE SECOND FORM's CARD OF 'versallaw9.ZlibHeads'. -/
def zlibHeadsUptoCard : Claim7 := { stood := { row := zlibHeadsUptoRow, standIns := [], harness := (true, "3e5ef6e6854515238849b26f47d129557036c2341914a80014ee67174c6f84e1"), looks := false }, kinds := [], alts := [], laidByText := true, laidKinds := [.data], laidTests := true, laidLooks := .later }
def ZlibHeadsUptoCardSaid : Prop := Claim7.holds Tryd.pinned (.plain (OpenSpec.upto zlibHeadsSpec)) zlibHeadsUptoCard
end Rows
end Go.Proofs.YtahibacjaoohiaaDoor
