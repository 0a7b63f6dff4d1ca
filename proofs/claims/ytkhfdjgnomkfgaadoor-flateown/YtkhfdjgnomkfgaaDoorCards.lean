/-
  DERIVED. GIVEN WITH THE SEED: THE CARDS: each row of YtkhfdjgnomkfgaaDoorRows.lean that lists a variable, with what it lists TIED to the program's text (the seventh form; the later family's looks); each row that meets fmt, with fmt's text TOLD by the authors' own Lean function (tested against real Go, not proved from fmt's source: count such statements apart). THE CARD IS WHAT COUNTS. Prove the row's statement (the work); the ties are given (YtkhfdjgnomkfgaaDoorTie.lean); close each card by the builder's one call (the guide's Derived/Test/ToyasCard.lean, 'card_holds'). Laid BY PROGRAM, IN A SANDBOX (cutbox-door.mjs). By AI agents, Wed Nov 11 2026. No macro, syntax, notation, axiom, sorry.
-/
import Derived.Test.YtkhfdjgnomkfgaaDoorRows
import GoSem.ClaimSeven
namespace Go.Proofs.YtkhfdjgnomkfgaaDoor
namespace Rows

/-- THE TIED CARD OF 'versallaw8.FlateKnown'. -/
def flateKnownCard : Claim7 := { stood := { row := flateKnownRow, standIns := [], harness := (true, "4aeb4d8644e656946f276e149cc6ed4e798f1728c1b7a1b65f2227bbe8fd3bfe"), looks := false }, kinds := [], alts := [], laidByText := true, laidKinds := [.data], laidTests := true, laidLooks := .later }
def FlateKnownCardSaid : Prop := Claim7.holds Tryd.pinned (.plain (OpenSpec.ofChange flateKnownSpec)) flateKnownCard

/-- THE TIED CARD OF 'versallaw8.FlateTells'. -/
def flateTellsCard : Claim7 := { stood := { row := flateTellsRow, standIns := [], harness := (true, "4aeb4d8644e656946f276e149cc6ed4e798f1728c1b7a1b65f2227bbe8fd3bfe"), looks := false }, kinds := [], alts := [], laidByText := true, laidKinds := [.data], laidTests := true, laidLooks := .later }
def FlateTellsCardSaid : Prop := Claim7.holds Tryd.pinned (.plain (OpenSpec.ofChange flateTellsSpec)) flateTellsCard

/-- THE TIED CARD OF 'versallaw8.FlateFixed'. -/
def flateFixedCard : Claim7 := { stood := { row := flateFixedRow, standIns := [], harness := (true, "4aeb4d8644e656946f276e149cc6ed4e798f1728c1b7a1b65f2227bbe8fd3bfe"), looks := false }, kinds := [], alts := [], laidByText := true, laidKinds := [.data], laidTests := true, laidLooks := .later }
def FlateFixedCardSaid : Prop := Claim7.holds Tryd.pinned (.plain (OpenSpec.ofChange flateFixedSpec)) flateFixedCard

/-- THE TIED CARD OF 'versallaw8.FlateOwn'. -/
def flateOwnCard : Claim7 := { stood := { row := flateOwnRow, standIns := [], harness := (true, "4aeb4d8644e656946f276e149cc6ed4e798f1728c1b7a1b65f2227bbe8fd3bfe"), looks := false }, kinds := [], alts := [], laidByText := true, laidKinds := [.data], laidTests := true, laidLooks := .later }
def FlateOwnCardSaid : Prop := Claim7.holds Tryd.pinned (.plain (OpenSpec.ofChange flateOwnSpec)) flateOwnCard

/-- THE TIED CARD OF 'versallaw8.FlateStored'. -/
def flateStoredCard : Claim7 := { stood := { row := flateStoredRow, standIns := [], harness := (true, "4aeb4d8644e656946f276e149cc6ed4e798f1728c1b7a1b65f2227bbe8fd3bfe"), looks := false }, kinds := [], alts := [], laidByText := true, laidKinds := [.data], laidTests := true, laidLooks := .later }
def FlateStoredCardSaid : Prop := Claim7.holds Tryd.pinned (.plain (OpenSpec.ofChange flateStoredSpec)) flateStoredCard

/-- THE SECOND FORM's CARD OF 'versallaw8.FlateKnown'. -/
def flateKnownUptoCard : Claim7 := { stood := { row := flateKnownUptoRow, standIns := [], harness := (true, "4aeb4d8644e656946f276e149cc6ed4e798f1728c1b7a1b65f2227bbe8fd3bfe"), looks := false }, kinds := [], alts := [], laidByText := true, laidKinds := [.data], laidTests := true, laidLooks := .later }
def FlateKnownUptoCardSaid : Prop := Claim7.holds Tryd.pinned (.plain (OpenSpec.upto flateKnownSpec)) flateKnownUptoCard

/-- THE SECOND FORM's CARD OF 'versallaw8.FlateTells'. -/
def flateTellsUptoCard : Claim7 := { stood := { row := flateTellsUptoRow, standIns := [], harness := (true, "4aeb4d8644e656946f276e149cc6ed4e798f1728c1b7a1b65f2227bbe8fd3bfe"), looks := false }, kinds := [], alts := [], laidByText := true, laidKinds := [.data], laidTests := true, laidLooks := .later }
def FlateTellsUptoCardSaid : Prop := Claim7.holds Tryd.pinned (.plain (OpenSpec.upto flateTellsSpec)) flateTellsUptoCard

/-- THE SECOND FORM's CARD OF 'versallaw8.FlateFixed'. -/
def flateFixedUptoCard : Claim7 := { stood := { row := flateFixedUptoRow, standIns := [], harness := (true, "4aeb4d8644e656946f276e149cc6ed4e798f1728c1b7a1b65f2227bbe8fd3bfe"), looks := false }, kinds := [], alts := [], laidByText := true, laidKinds := [.data], laidTests := true, laidLooks := .later }
def FlateFixedUptoCardSaid : Prop := Claim7.holds Tryd.pinned (.plain (OpenSpec.upto flateFixedSpec)) flateFixedUptoCard

/-- THE SECOND FORM's CARD OF 'versallaw8.FlateOwn'. -/
def flateOwnUptoCard : Claim7 := { stood := { row := flateOwnUptoRow, standIns := [], harness := (true, "4aeb4d8644e656946f276e149cc6ed4e798f1728c1b7a1b65f2227bbe8fd3bfe"), looks := false }, kinds := [], alts := [], laidByText := true, laidKinds := [.data], laidTests := true, laidLooks := .later }
def FlateOwnUptoCardSaid : Prop := Claim7.holds Tryd.pinned (.plain (OpenSpec.upto flateOwnSpec)) flateOwnUptoCard

/-- THE SECOND FORM's CARD OF 'versallaw8.FlateStored'. -/
def flateStoredUptoCard : Claim7 := { stood := { row := flateStoredUptoRow, standIns := [], harness := (true, "4aeb4d8644e656946f276e149cc6ed4e798f1728c1b7a1b65f2227bbe8fd3bfe"), looks := false }, kinds := [], alts := [], laidByText := true, laidKinds := [.data], laidTests := true, laidLooks := .later }
def FlateStoredUptoCardSaid : Prop := Claim7.holds Tryd.pinned (.plain (OpenSpec.upto flateStoredSpec)) flateStoredUptoCard
end Rows
end Go.Proofs.YtkhfdjgnomkfgaaDoor
