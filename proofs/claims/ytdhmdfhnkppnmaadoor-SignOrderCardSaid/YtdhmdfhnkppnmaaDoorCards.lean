/-
  DERIVED. GIVEN WITH THE SEED: THE CARDS: each row of YtdhmdfhnkppnmaaDoorRows.lean that lists a variable, with what it lists TIED to the program's text (the seventh form; the later family's looks); each row that meets fmt, with fmt's text TOLD by the authors' own Lean function (tested against real Go, not proved from fmt's source: count such statements apart). THE CARD IS WHAT COUNTS. Prove the row's statement (the work); the ties are given (YtdhmdfhnkppnmaaDoorTie.lean); close each card by the builder's one call (the guide's Derived/Test/ToyasCard.lean, 'card_holds'). Laid BY PROGRAM, IN A SANDBOX (cutbox-door.mjs). By AI agents, Wed Nov 11 2026. No macro, syntax, notation, axiom, sorry.
-/
import Derived.Test.YtdhmdfhnkppnmaaDoorRows
import GoSem.ClaimSeven
namespace Go.Proofs.YtdhmdfhnkppnmaaDoor
namespace Rows

/-- THE TIED CARD OF 'lychgatelaw12.SignAlone'. -/
def signAloneCard : Claim7 := { stood := { row := signAloneRow, standIns := [], harness := (true, "1caad4445923f89d7256086b9b4d297dbc49326c61c48bc9675f9eac8479d1b6"), looks := true }, kinds := [], alts := [], laidByText := true, laidKinds := [.data, .data, .data], laidTests := true, laidLooks := .later }
def SignAloneCardSaid : Prop := Claim7.holds Tryd.pinned (.plain (OpenSpec.ofChange signAloneSpec)) signAloneCard

/-- THE TIED CARD OF 'lychgatelaw12.SignOrder'. -/
def signOrderCard : Claim7 := { stood := { row := signOrderRow, standIns := [], harness := (true, "1caad4445923f89d7256086b9b4d297dbc49326c61c48bc9675f9eac8479d1b6"), looks := true }, kinds := [], alts := [], laidByText := true, laidKinds := [.data, .data, .data], laidTests := true, laidLooks := .later }
def SignOrderCardSaid : Prop := Claim7.holds Tryd.pinned (.plain (OpenSpec.ofChange signOrderSpec)) signOrderCard

/-- THE SECOND FORM's CARD OF 'lychgatelaw12.SignAlone'. -/
def signAloneUptoCard : Claim7 := { stood := { row := signAloneUptoRow, standIns := [], harness := (true, "1caad4445923f89d7256086b9b4d297dbc49326c61c48bc9675f9eac8479d1b6"), looks := true }, kinds := [], alts := [], laidByText := true, laidKinds := [.data, .data, .data], laidTests := true, laidLooks := .later }
def SignAloneUptoCardSaid : Prop := Claim7.holds Tryd.pinned (.plain (OpenSpec.upto signAloneSpec)) signAloneUptoCard

/-- THE SECOND FORM's CARD OF 'lychgatelaw12.SignOrder'. -/
def signOrderUptoCard : Claim7 := { stood := { row := signOrderUptoRow, standIns := [], harness := (true, "1caad4445923f89d7256086b9b4d297dbc49326c61c48bc9675f9eac8479d1b6"), looks := true }, kinds := [], alts := [], laidByText := true, laidKinds := [.data, .data, .data], laidTests := true, laidLooks := .later }
def SignOrderUptoCardSaid : Prop := Claim7.holds Tryd.pinned (.plain (OpenSpec.upto signOrderSpec)) signOrderUptoCard
end Rows
end Go.Proofs.YtdhmdfhnkppnmaaDoor
