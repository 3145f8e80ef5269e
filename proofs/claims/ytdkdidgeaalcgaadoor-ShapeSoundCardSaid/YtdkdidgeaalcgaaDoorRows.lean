/-
  NARROWER THAN 'FOR EVERY INPUT', by the rows' own cells (each row's printed sentence says how): ShapeFacts: laid · ShapeMeans: laid · ShapeSound: laid · ShapeFirst: laid · ShapeOrder: laid.
  DERIVED. THE GIVEN ROWS OF THIS SEAT. 5 by the template 'for every input the law returns true; each argument reads behind the call as it read before'; 0 by the template 'total and deterministic' (their statements: YtdkdidgeaalcgaaDoorTotals.lean).
  GIVEN WITH THE SEED: the statements are not yours to turn. If you find one false, say at which input.
  Laid BY PROGRAM, IN A SANDBOX (cutbox-rows.mjs): the forced cells as the released guide's own fill.sh prints them over the translation 003bdc29c70cfe41… (all of the seat's roots in one cut). By AI agents, Wed Nov 11 2026. No macro, syntax, notation, axiom, sorry.
-/
import Derived.Test.YtdkdidgeaalcgaaDoorChecked
import GoSem.Claim
import GoSem.ClaimJoined
import GoSem.ClaimMapViews
import Derived.JoinedTies
import Derived.KernelRfl
namespace Go.Proofs.YtdkdidgeaalcgaaDoor
/- THE CELL 'sum', in the pinned program and in every row, IS THE sha256 OF THE DUMP (.gsa) THAT YtdkdidgeaalcgaaDoorProg.lean LOADS. Nothing in Lean hashes anything: it is a label: what it is worth is what the hold of that sum in a sandbox is worth. -/
noncomputable def Tryd.pinned : Pinned := { name := "ytdkdidgeaalcgaadoor", sum := "003bdc29c70cfe419f5923a3d842713ca427f7db5326bb43c64dd9f65f79aa7d", checked := Tryd.checked }
namespace Rows
def none {H : Type} : Left H := { results := [], args := [] }

/- WHAT THE LISTED PACKAGE-LEVEL VARIABLES READ AS WHEN THE CALL BEGINS. Each datum BY PROGRAM (the guide's laid-datum.mjs) off the statement by which the dump's own 'gosem.cut.vars' lays the variable. In a bare row this is a premise. The card (YtdkdidgeaalcgaaDoorCards.lean) ties it to the program's text. -/
def laid_lychgate_lex_keys {H : Type} : DataW H := .agg [.lit (.string [116, 121, 112, 101]), .lit (.string [102, 110]), .lit (.string [111, 119, 110]), .lit (.string [99, 101, 108, 108]), .lit (.string [99, 111, 117, 110, 116, 101, 100]), .lit (.string [108, 111, 99, 107]), .lit (.string [103, 117, 97, 114, 100]), .lit (.string [119, 104, 101, 114, 101]), .lit (.string [105, 110, 116]), .lit (.string [109, 117, 116]), .lit (.string [102, 114, 101, 101]), .lit (.string [117, 110, 108, 111, 99, 107]), .lit (.string [105, 102]), .lit (.string [101, 108, 115, 101]), .lit (.string [119, 104, 105, 108, 101]), .lit (.string [114, 101, 116, 117, 114, 110]), .lit (.string [97, 98, 111, 114, 116]), .lit (.string [102, 111, 114, 107]), .lit (.string [110, 101, 119]), .lit (.string [97, 114, 114, 97, 121])]
def laid_lychgate_lex_blanks {H : Type} : DataW H := .agg [.lit (.int .u8 32), .lit (.int .u8 10)]
def laid_lychgate_lex_pairs {H : Type} : DataW H := .agg [.lit (.string [45, 62]), .lit (.string [60, 61]), .lit (.string [61, 61])]

/-- 'lychgatelaw11.ShapeFacts': WHATEVER THE INPUT: true; the input reads as it did. -/
def shapeFactsSpec : ChangeSpec := { name := "shapeFacts", fn := fun _ => fun
  | [d] => { results := [.lit (.bool true)], args := [d] }
  | _ => none }
def shapeFactsRow : OpenClaim := { program := "ytdkdidgeaalcgaadoor", sum := "003bdc29c70cfe419f5923a3d842713ca427f7db5326bb43c64dd9f65f79aa7d", func := "lychgate/lychgatelaw11.ShapeFacts", spec := "shapeFacts", inPlace := ["internal/bytealg.IndexByteString"], unfollowed := true, recurses := true, named := ["lychgate/lex.blanks", "lychgate/lex.keys", "lychgate/lex.pairs"], apart := false, laid := [("lychgate/lex.keys", laid_lychgate_lex_keys), ("lychgate/lex.blanks", laid_lychgate_lex_blanks), ("lychgate/lex.pairs", laid_lychgate_lex_pairs)] }
def ShapeFactsSaid : Prop := shapeFactsRow.holds Tryd.pinned (OpenSpec.ofChange shapeFactsSpec)

/-- ITS FALSE NEIGHBOUR: 'it returns false'. Refute it at one input. -/
def shapeFactsWrong : ChangeSpec := { name := "shapeFacts", fn := fun _ => fun
  | [d] => { results := [.lit (.bool false)], args := [d] }
  | _ => none }
def ShapeFactsWrongFalsely : Prop := shapeFactsRow.holds Tryd.pinned (OpenSpec.ofChange shapeFactsWrong)

/-- 'lychgatelaw11.ShapeMeans': WHATEVER THE INPUT: true; the input reads as it did. -/
def shapeMeansSpec : ChangeSpec := { name := "shapeMeans", fn := fun _ => fun
  | [d1, d2, d3] => { results := [.lit (.bool true)], args := [d1, d2, d3] }
  | _ => none }
def shapeMeansRow : OpenClaim := { program := "ytdkdidgeaalcgaadoor", sum := "003bdc29c70cfe419f5923a3d842713ca427f7db5326bb43c64dd9f65f79aa7d", func := "lychgate/lychgatelaw11.ShapeMeans", spec := "shapeMeans", inPlace := ["internal/bytealg.IndexByteString"], unfollowed := true, recurses := true, named := ["lychgate/lex.blanks", "lychgate/lex.keys", "lychgate/lex.pairs"], apart := false, laid := [("lychgate/lex.keys", laid_lychgate_lex_keys), ("lychgate/lex.blanks", laid_lychgate_lex_blanks), ("lychgate/lex.pairs", laid_lychgate_lex_pairs)] }
def ShapeMeansSaid : Prop := shapeMeansRow.holds Tryd.pinned (OpenSpec.ofChange shapeMeansSpec)

/-- ITS FALSE NEIGHBOUR: 'it returns false'. Refute it at one input. -/
def shapeMeansWrong : ChangeSpec := { name := "shapeMeans", fn := fun _ => fun
  | [d1, d2, d3] => { results := [.lit (.bool false)], args := [d1, d2, d3] }
  | _ => none }
def ShapeMeansWrongFalsely : Prop := shapeMeansRow.holds Tryd.pinned (OpenSpec.ofChange shapeMeansWrong)

/-- 'lychgatelaw11.ShapeSound': WHATEVER THE INPUT: true; the input reads as it did. -/
def shapeSoundSpec : ChangeSpec := { name := "shapeSound", fn := fun _ => fun
  | [d] => { results := [.lit (.bool true)], args := [d] }
  | _ => none }
def shapeSoundRow : OpenClaim := { program := "ytdkdidgeaalcgaadoor", sum := "003bdc29c70cfe419f5923a3d842713ca427f7db5326bb43c64dd9f65f79aa7d", func := "lychgate/lychgatelaw11.ShapeSound", spec := "shapeSound", inPlace := ["internal/bytealg.IndexByteString"], unfollowed := true, recurses := true, named := ["lychgate/lex.blanks", "lychgate/lex.keys", "lychgate/lex.pairs"], apart := false, laid := [("lychgate/lex.keys", laid_lychgate_lex_keys), ("lychgate/lex.blanks", laid_lychgate_lex_blanks), ("lychgate/lex.pairs", laid_lychgate_lex_pairs)] }
def ShapeSoundSaid : Prop := shapeSoundRow.holds Tryd.pinned (OpenSpec.ofChange shapeSoundSpec)

/-- ITS FALSE NEIGHBOUR: 'it returns false'. Refute it at one input. -/
def shapeSoundWrong : ChangeSpec := { name := "shapeSound", fn := fun _ => fun
  | [d] => { results := [.lit (.bool false)], args := [d] }
  | _ => none }
def ShapeSoundWrongFalsely : Prop := shapeSoundRow.holds Tryd.pinned (OpenSpec.ofChange shapeSoundWrong)

/-- 'lychgatelaw11.ShapeFirst': WHATEVER THE INPUT: true; the input reads as it did. -/
def shapeFirstSpec : ChangeSpec := { name := "shapeFirst", fn := fun _ => fun
  | [d1, d2] => { results := [.lit (.bool true)], args := [d1, d2] }
  | _ => none }
def shapeFirstRow : OpenClaim := { program := "ytdkdidgeaalcgaadoor", sum := "003bdc29c70cfe419f5923a3d842713ca427f7db5326bb43c64dd9f65f79aa7d", func := "lychgate/lychgatelaw11.ShapeFirst", spec := "shapeFirst", inPlace := ["internal/bytealg.IndexByteString"], unfollowed := true, recurses := true, named := ["lychgate/lex.blanks", "lychgate/lex.keys", "lychgate/lex.pairs"], apart := false, laid := [("lychgate/lex.keys", laid_lychgate_lex_keys), ("lychgate/lex.blanks", laid_lychgate_lex_blanks), ("lychgate/lex.pairs", laid_lychgate_lex_pairs)] }
def ShapeFirstSaid : Prop := shapeFirstRow.holds Tryd.pinned (OpenSpec.ofChange shapeFirstSpec)

/-- ITS FALSE NEIGHBOUR: 'it returns false'. Refute it at one input. -/
def shapeFirstWrong : ChangeSpec := { name := "shapeFirst", fn := fun _ => fun
  | [d1, d2] => { results := [.lit (.bool false)], args := [d1, d2] }
  | _ => none }
def ShapeFirstWrongFalsely : Prop := shapeFirstRow.holds Tryd.pinned (OpenSpec.ofChange shapeFirstWrong)

/-- 'lychgatelaw11.ShapeOrder': WHATEVER THE INPUT: true; the input reads as it did. -/
def shapeOrderSpec : ChangeSpec := { name := "shapeOrder", fn := fun _ => fun
  | [d] => { results := [.lit (.bool true)], args := [d] }
  | _ => none }
def shapeOrderRow : OpenClaim := { program := "ytdkdidgeaalcgaadoor", sum := "003bdc29c70cfe419f5923a3d842713ca427f7db5326bb43c64dd9f65f79aa7d", func := "lychgate/lychgatelaw11.ShapeOrder", spec := "shapeOrder", inPlace := ["internal/bytealg.IndexByteString"], unfollowed := true, recurses := true, named := ["lychgate/lex.blanks", "lychgate/lex.keys", "lychgate/lex.pairs"], apart := false, laid := [("lychgate/lex.keys", laid_lychgate_lex_keys), ("lychgate/lex.blanks", laid_lychgate_lex_blanks), ("lychgate/lex.pairs", laid_lychgate_lex_pairs)] }
def ShapeOrderSaid : Prop := shapeOrderRow.holds Tryd.pinned (OpenSpec.ofChange shapeOrderSpec)

/-- ITS FALSE NEIGHBOUR: 'it returns false'. Refute it at one input. -/
def shapeOrderWrong : ChangeSpec := { name := "shapeOrder", fn := fun _ => fun
  | [d] => { results := [.lit (.bool false)], args := [d] }
  | _ => none }
def ShapeOrderWrongFalsely : Prop := shapeOrderRow.holds Tryd.pinned (OpenSpec.ofChange shapeOrderWrong)

/- THE SECOND FORM. 'bulk': how many values and letters a reading holds, each counted each time it is reached (what is shared counts as often as it is met; a slice's spare places count too). A statement '..UptoSaid' is the law's where the arguments, and the package variables that the reading takes, are together of bulk at most 1048576: NARROWER than '..Said'. Prove '..Said' where nothing that the law and all that it calls make is longer than what came in: it says more and counts as full. Else prove '..UptoSaid'. A law counts once. -/
mutual
def uptoBulk {H : Type} : DataW H → Nat
  | .lit (.string bytes) => bytes.length + 1
  | .lit _ => 1
  | .nil => 1
  | .ptr d => uptoBulk d + 1
  | .slice elems spare => uptoBulkAll elems + uptoBulkAll spare + 1
  | .agg parts => uptoBulkAll parts + 1
  | .iface _ d => uptoBulk d + 1
  | .map entries => uptoBulkEntries entries + 1
  | .held _ => 1
def uptoBulkAll {H : Type} : List (DataW H) → Nat
  | [] => 0
  | d :: r => uptoBulk d + uptoBulkAll r
def uptoBulkEntries {H : Type} : List (Lit × DataW H) → Nat
  | [] => 0
  | x :: r => uptoBulkEntry x + uptoBulkEntries r
def uptoBulkEntry {H : Type} : Lit × DataW H → Nat
  | (.string bytes, d) => bytes.length + uptoBulk d + 1
  | (_, d) => uptoBulk d + 1
 end
def uptoSmall : (H : Type) → List (DataW H) → Bool := fun _ ds => decide (uptoBulkAll ds ≤ 1048576)
def OpenSpec.upto (s : _root_.Go.ChangeSpec) : _root_.Go.OpenSpec := { _root_.Go.OpenSpec.ofChange s with cond := some uptoSmall }

/-- 'lychgatelaw11.ShapeFacts', WHERE WHAT IT READS IS OF BULK AT MOST 1048576: true; the input reads as it did. -/
def shapeFactsUptoRow : OpenClaim := { program := "ytdkdidgeaalcgaadoor", sum := "003bdc29c70cfe419f5923a3d842713ca427f7db5326bb43c64dd9f65f79aa7d", func := "lychgate/lychgatelaw11.ShapeFacts", spec := "shapeFacts", inPlace := ["internal/bytealg.IndexByteString"], unfollowed := true, recurses := true, named := ["lychgate/lex.blanks", "lychgate/lex.keys", "lychgate/lex.pairs"], apart := false, laid := [("lychgate/lex.keys", laid_lychgate_lex_keys), ("lychgate/lex.blanks", laid_lychgate_lex_blanks), ("lychgate/lex.pairs", laid_lychgate_lex_pairs)], narrowed := true }
def ShapeFactsUptoSaid : Prop := shapeFactsUptoRow.holds Tryd.pinned (OpenSpec.upto shapeFactsSpec)

/-- 'lychgatelaw11.ShapeMeans', WHERE WHAT IT READS IS OF BULK AT MOST 1048576: true; the input reads as it did. -/
def shapeMeansUptoRow : OpenClaim := { program := "ytdkdidgeaalcgaadoor", sum := "003bdc29c70cfe419f5923a3d842713ca427f7db5326bb43c64dd9f65f79aa7d", func := "lychgate/lychgatelaw11.ShapeMeans", spec := "shapeMeans", inPlace := ["internal/bytealg.IndexByteString"], unfollowed := true, recurses := true, named := ["lychgate/lex.blanks", "lychgate/lex.keys", "lychgate/lex.pairs"], apart := false, laid := [("lychgate/lex.keys", laid_lychgate_lex_keys), ("lychgate/lex.blanks", laid_lychgate_lex_blanks), ("lychgate/lex.pairs", laid_lychgate_lex_pairs)], narrowed := true }
def ShapeMeansUptoSaid : Prop := shapeMeansUptoRow.holds Tryd.pinned (OpenSpec.upto shapeMeansSpec)

/-- 'lychgatelaw11.ShapeSound', WHERE WHAT IT READS IS OF BULK AT MOST 1048576: true; the input reads as it did. -/
def shapeSoundUptoRow : OpenClaim := { program := "ytdkdidgeaalcgaadoor", sum := "003bdc29c70cfe419f5923a3d842713ca427f7db5326bb43c64dd9f65f79aa7d", func := "lychgate/lychgatelaw11.ShapeSound", spec := "shapeSound", inPlace := ["internal/bytealg.IndexByteString"], unfollowed := true, recurses := true, named := ["lychgate/lex.blanks", "lychgate/lex.keys", "lychgate/lex.pairs"], apart := false, laid := [("lychgate/lex.keys", laid_lychgate_lex_keys), ("lychgate/lex.blanks", laid_lychgate_lex_blanks), ("lychgate/lex.pairs", laid_lychgate_lex_pairs)], narrowed := true }
def ShapeSoundUptoSaid : Prop := shapeSoundUptoRow.holds Tryd.pinned (OpenSpec.upto shapeSoundSpec)

/-- 'lychgatelaw11.ShapeFirst', WHERE WHAT IT READS IS OF BULK AT MOST 1048576: true; the input reads as it did. -/
def shapeFirstUptoRow : OpenClaim := { program := "ytdkdidgeaalcgaadoor", sum := "003bdc29c70cfe419f5923a3d842713ca427f7db5326bb43c64dd9f65f79aa7d", func := "lychgate/lychgatelaw11.ShapeFirst", spec := "shapeFirst", inPlace := ["internal/bytealg.IndexByteString"], unfollowed := true, recurses := true, named := ["lychgate/lex.blanks", "lychgate/lex.keys", "lychgate/lex.pairs"], apart := false, laid := [("lychgate/lex.keys", laid_lychgate_lex_keys), ("lychgate/lex.blanks", laid_lychgate_lex_blanks), ("lychgate/lex.pairs", laid_lychgate_lex_pairs)], narrowed := true }
def ShapeFirstUptoSaid : Prop := shapeFirstUptoRow.holds Tryd.pinned (OpenSpec.upto shapeFirstSpec)

/-- 'lychgatelaw11.ShapeOrder', WHERE WHAT IT READS IS OF BULK AT MOST 1048576: true; the input reads as it did. -/
def shapeOrderUptoRow : OpenClaim := { program := "ytdkdidgeaalcgaadoor", sum := "003bdc29c70cfe419f5923a3d842713ca427f7db5326bb43c64dd9f65f79aa7d", func := "lychgate/lychgatelaw11.ShapeOrder", spec := "shapeOrder", inPlace := ["internal/bytealg.IndexByteString"], unfollowed := true, recurses := true, named := ["lychgate/lex.blanks", "lychgate/lex.keys", "lychgate/lex.pairs"], apart := false, laid := [("lychgate/lex.keys", laid_lychgate_lex_keys), ("lychgate/lex.blanks", laid_lychgate_lex_blanks), ("lychgate/lex.pairs", laid_lychgate_lex_pairs)], narrowed := true }
def ShapeOrderUptoSaid : Prop := shapeOrderUptoRow.holds Tryd.pinned (OpenSpec.upto shapeOrderSpec)

end Rows
end Go.Proofs.YtdkdidgeaalcgaaDoor
