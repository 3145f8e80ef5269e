/-
  DERIVED. GIVEN WITH THE SEED: THE CARDS: each row of YtdkdidgeaalcgaaDoorRows.lean that lists a variable, with what it lists TIED to the program's text (the seventh form; the later family's looks); each row that meets fmt, with fmt's text TOLD by the authors' own Lean function (tested against real Go, not proved from fmt's source: count such statements apart). THE CARD IS WHAT COUNTS. Prove the row's statement (the work); the ties are given (YtdkdidgeaalcgaaDoorTie.lean); close each card by the builder's one call (the guide's Derived/Test/ToyasCard.lean, 'card_holds'). Laid BY PROGRAM, IN A SANDBOX (cutbox-door.mjs). By AI agents, Wed Nov 11 2026. No macro, syntax, notation, axiom, sorry.
-/
import Derived.Test.YtdkdidgeaalcgaaDoorRows
import GoSem.ClaimSeven
namespace Go.Proofs.YtdkdidgeaalcgaaDoor
namespace Rows

/-- THE TIED CARD OF 'lychgatelaw11.ShapeFacts'. -/
def shapeFactsCard : Claim7 := { stood := { row := shapeFactsRow, standIns := [], harness := (true, "d95e5fbf4161a2cc2b59a60311fc5788b607c88b98f16db745b22743e9b4def3"), looks := true }, kinds := [], alts := [], laidByText := true, laidKinds := [.data, .data, .data], laidTests := true, laidLooks := .later }
def ShapeFactsCardSaid : Prop := Claim7.holds Tryd.pinned (.plain (OpenSpec.ofChange shapeFactsSpec)) shapeFactsCard

/-- THE TIED CARD OF 'lychgatelaw11.ShapeMeans'. -/
def shapeMeansCard : Claim7 := { stood := { row := shapeMeansRow, standIns := [], harness := (true, "d95e5fbf4161a2cc2b59a60311fc5788b607c88b98f16db745b22743e9b4def3"), looks := true }, kinds := [], alts := [], laidByText := true, laidKinds := [.data, .data, .data], laidTests := true, laidLooks := .later }
def ShapeMeansCardSaid : Prop := Claim7.holds Tryd.pinned (.plain (OpenSpec.ofChange shapeMeansSpec)) shapeMeansCard

/-- THE TIED CARD OF 'lychgatelaw11.ShapeSound'. -/
def shapeSoundCard : Claim7 := { stood := { row := shapeSoundRow, standIns := [], harness := (true, "d95e5fbf4161a2cc2b59a60311fc5788b607c88b98f16db745b22743e9b4def3"), looks := true }, kinds := [], alts := [], laidByText := true, laidKinds := [.data, .data, .data], laidTests := true, laidLooks := .later }
def ShapeSoundCardSaid : Prop := Claim7.holds Tryd.pinned (.plain (OpenSpec.ofChange shapeSoundSpec)) shapeSoundCard

/-- THE TIED CARD OF 'lychgatelaw11.ShapeFirst'. -/
def shapeFirstCard : Claim7 := { stood := { row := shapeFirstRow, standIns := [], harness := (true, "d95e5fbf4161a2cc2b59a60311fc5788b607c88b98f16db745b22743e9b4def3"), looks := true }, kinds := [], alts := [], laidByText := true, laidKinds := [.data, .data, .data], laidTests := true, laidLooks := .later }
def ShapeFirstCardSaid : Prop := Claim7.holds Tryd.pinned (.plain (OpenSpec.ofChange shapeFirstSpec)) shapeFirstCard

/-- THE TIED CARD OF 'lychgatelaw11.ShapeOrder'. -/
def shapeOrderCard : Claim7 := { stood := { row := shapeOrderRow, standIns := [], harness := (true, "d95e5fbf4161a2cc2b59a60311fc5788b607c88b98f16db745b22743e9b4def3"), looks := true }, kinds := [], alts := [], laidByText := true, laidKinds := [.data, .data, .data], laidTests := true, laidLooks := .later }
def ShapeOrderCardSaid : Prop := Claim7.holds Tryd.pinned (.plain (OpenSpec.ofChange shapeOrderSpec)) shapeOrderCard

/-- THE SECOND FORM's CARD OF 'lychgatelaw11.ShapeFacts'. -/
def shapeFactsUptoCard : Claim7 := { stood := { row := shapeFactsUptoRow, standIns := [], harness := (true, "d95e5fbf4161a2cc2b59a60311fc5788b607c88b98f16db745b22743e9b4def3"), looks := true }, kinds := [], alts := [], laidByText := true, laidKinds := [.data, .data, .data], laidTests := true, laidLooks := .later }
def ShapeFactsUptoCardSaid : Prop := Claim7.holds Tryd.pinned (.plain (OpenSpec.upto shapeFactsSpec)) shapeFactsUptoCard

/-- THE SECOND FORM's CARD OF 'lychgatelaw11.ShapeMeans'. -/
def shapeMeansUptoCard : Claim7 := { stood := { row := shapeMeansUptoRow, standIns := [], harness := (true, "d95e5fbf4161a2cc2b59a60311fc5788b607c88b98f16db745b22743e9b4def3"), looks := true }, kinds := [], alts := [], laidByText := true, laidKinds := [.data, .data, .data], laidTests := true, laidLooks := .later }
def ShapeMeansUptoCardSaid : Prop := Claim7.holds Tryd.pinned (.plain (OpenSpec.upto shapeMeansSpec)) shapeMeansUptoCard

/-- THE SECOND FORM's CARD OF 'lychgatelaw11.ShapeSound'. -/
def shapeSoundUptoCard : Claim7 := { stood := { row := shapeSoundUptoRow, standIns := [], harness := (true, "d95e5fbf4161a2cc2b59a60311fc5788b607c88b98f16db745b22743e9b4def3"), looks := true }, kinds := [], alts := [], laidByText := true, laidKinds := [.data, .data, .data], laidTests := true, laidLooks := .later }
def ShapeSoundUptoCardSaid : Prop := Claim7.holds Tryd.pinned (.plain (OpenSpec.upto shapeSoundSpec)) shapeSoundUptoCard

/-- THE SECOND FORM's CARD OF 'lychgatelaw11.ShapeFirst'. -/
def shapeFirstUptoCard : Claim7 := { stood := { row := shapeFirstUptoRow, standIns := [], harness := (true, "d95e5fbf4161a2cc2b59a60311fc5788b607c88b98f16db745b22743e9b4def3"), looks := true }, kinds := [], alts := [], laidByText := true, laidKinds := [.data, .data, .data], laidTests := true, laidLooks := .later }
def ShapeFirstUptoCardSaid : Prop := Claim7.holds Tryd.pinned (.plain (OpenSpec.upto shapeFirstSpec)) shapeFirstUptoCard

/-- THE SECOND FORM's CARD OF 'lychgatelaw11.ShapeOrder'. -/
def shapeOrderUptoCard : Claim7 := { stood := { row := shapeOrderUptoRow, standIns := [], harness := (true, "d95e5fbf4161a2cc2b59a60311fc5788b607c88b98f16db745b22743e9b4def3"), looks := true }, kinds := [], alts := [], laidByText := true, laidKinds := [.data, .data, .data], laidTests := true, laidLooks := .later }
def ShapeOrderUptoCardSaid : Prop := Claim7.holds Tryd.pinned (.plain (OpenSpec.upto shapeOrderSpec)) shapeOrderUptoCard
end Rows
end Go.Proofs.YtdkdidgeaalcgaaDoor
