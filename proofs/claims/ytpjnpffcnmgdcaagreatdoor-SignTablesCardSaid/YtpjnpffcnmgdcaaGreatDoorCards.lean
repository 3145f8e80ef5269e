/-
  DERIVED. GIVEN WITH THE SEED: THE CARDS: each row of YtpjnpffcnmgdcaaGreatDoorRows.lean that lists a variable, with what it lists TIED to the program's text (the seventh form; the later family's looks); each row that meets fmt, with fmt's text TOLD by the authors' own Lean function (tested against real Go, not proved from fmt's source: count such statements apart). THE CARD IS WHAT COUNTS. Prove the row's statement (the work); the ties are given (YtpjnpffcnmgdcaaGreatDoorTie.lean); close each card by the builder's one call (the guide's Derived/Test/ToyasCard.lean, 'card_holds'). Laid BY PROGRAM, IN A SANDBOX (cutbox-door.mjs). By AI agents, Wed Nov 11 2026. No macro, syntax, notation, axiom, sorry.
-/
import Derived.Test.YtpjnpffcnmgdcaaGreatDoorRows
import GoSem.ClaimSeven
namespace Go.Proofs.YtpjnpffcnmgdcaaGreatDoor
namespace Rows

/-- THE TIED CARD OF 'lychgatelaw12.SignSigs'. -/
def signSigsCard : Claim7 := { stood := { row := signSigsRow, standIns := [], harness := (true, "e0eb885c69e62131c05f964d648f0b0c8d1a602e409732f2d49f0400518d23f9"), looks := true }, kinds := [], alts := [], laidByText := true, laidKinds := [.data, .data, .data], laidTests := true, laidLooks := .later }
def SignSigsCardSaid : Prop := Claim7.holds Tryz.pinned (.plain (OpenSpec.ofChange signSigsSpec)) signSigsCard

/-- THE TIED CARD OF 'lychgatelaw12.SignTables'. -/
def signTablesCard : Claim7 := { stood := { row := signTablesRow, standIns := [], harness := (true, "e0eb885c69e62131c05f964d648f0b0c8d1a602e409732f2d49f0400518d23f9"), looks := true }, kinds := [], alts := [], laidByText := true, laidKinds := [.data, .data, .data], laidTests := true, laidLooks := .later }
def SignTablesCardSaid : Prop := Claim7.holds Tryz.pinned (.plain (OpenSpec.ofChange signTablesSpec)) signTablesCard

/-- THE SECOND FORM's CARD OF 'lychgatelaw12.SignSigs'. -/
def signSigsUptoCard : Claim7 := { stood := { row := signSigsUptoRow, standIns := [], harness := (true, "e0eb885c69e62131c05f964d648f0b0c8d1a602e409732f2d49f0400518d23f9"), looks := true }, kinds := [], alts := [], laidByText := true, laidKinds := [.data, .data, .data], laidTests := true, laidLooks := .later }
def SignSigsUptoCardSaid : Prop := Claim7.holds Tryz.pinned (.plain (OpenSpec.upto signSigsSpec)) signSigsUptoCard

/-- THE SECOND FORM's CARD OF 'lychgatelaw12.SignTables'. -/
def signTablesUptoCard : Claim7 := { stood := { row := signTablesUptoRow, standIns := [], harness := (true, "e0eb885c69e62131c05f964d648f0b0c8d1a602e409732f2d49f0400518d23f9"), looks := true }, kinds := [], alts := [], laidByText := true, laidKinds := [.data, .data, .data], laidTests := true, laidLooks := .later }
def SignTablesUptoCardSaid : Prop := Claim7.holds Tryz.pinned (.plain (OpenSpec.upto signTablesSpec)) signTablesUptoCard
end Rows
end Go.Proofs.YtpjnpffcnmgdcaaGreatDoor
