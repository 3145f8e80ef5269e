/-
  NARROWER THAN 'FOR EVERY INPUT', by the rows' own cells (each row's printed sentence says how): SyntaxParses: laid · SyntaxSizes: laid · SyntaxPlaces: laid · SyntaxBlanks: laid · SyntaxFirst: laid · SyntaxJoined: laid.
  DERIVED. THE GIVEN ROWS OF THIS SEAT. 6 by the template 'for every input the law returns true; each argument reads behind the call as it read before'; 0 by the template 'total and deterministic' (their statements: YtflhniiemmahmaaDoorTotals.lean).
  GIVEN WITH THE SEED: the statements are not yours to turn. If you find one false, say at which input.
  Laid BY PROGRAM, IN A SANDBOX (cutbox-rows.mjs): the forced cells as the released guide's own fill.sh prints them over the translation 2236f9c021769ccb… (all of the seat's roots in one cut). By AI agents, Wed Nov 11 2026. No macro, syntax, notation, axiom, sorry.
-/
import Derived.Test.YtflhniiemmahmaaDoorChecked
import GoSem.Claim
import GoSem.ClaimJoined
import GoSem.ClaimMapViews
import Derived.JoinedTies
import Derived.KernelRfl
namespace Go.Proofs.YtflhniiemmahmaaDoor
/- THE CELL 'sum', in the pinned program and in every row, IS THE sha256 OF THE DUMP (.gsa) THAT YtflhniiemmahmaaDoorProg.lean LOADS. Nothing in Lean hashes anything: it is a label: what it is worth is what the hold of that sum in a sandbox is worth. -/
noncomputable def Tryd.pinned : Pinned := { name := "ytflhniiemmahmaadoor", sum := "2236f9c021769ccba47029c7dc2bd077a7eea2b9197018e84abd513b446b5e4f", checked := Tryd.checked }
namespace Rows
def none {H : Type} : Left H := { results := [], args := [] }

/- WHAT THE LISTED PACKAGE-LEVEL VARIABLES READ AS WHEN THE CALL BEGINS. Each datum BY PROGRAM (the guide's laid-datum.mjs) off the statement by which the dump's own 'gosem.cut.vars' lays the variable. In a bare row this is a premise. The card (YtflhniiemmahmaaDoorCards.lean) ties it to the program's text. -/
def laid_lychgate_lex_keys {H : Type} : DataW H := .agg [.lit (.string [116, 121, 112, 101]), .lit (.string [102, 110]), .lit (.string [111, 119, 110]), .lit (.string [99, 101, 108, 108]), .lit (.string [99, 111, 117, 110, 116, 101, 100]), .lit (.string [108, 111, 99, 107]), .lit (.string [103, 117, 97, 114, 100]), .lit (.string [119, 104, 101, 114, 101]), .lit (.string [105, 110, 116]), .lit (.string [109, 117, 116]), .lit (.string [102, 114, 101, 101]), .lit (.string [117, 110, 108, 111, 99, 107]), .lit (.string [105, 102]), .lit (.string [101, 108, 115, 101]), .lit (.string [119, 104, 105, 108, 101]), .lit (.string [114, 101, 116, 117, 114, 110]), .lit (.string [97, 98, 111, 114, 116]), .lit (.string [102, 111, 114, 107]), .lit (.string [110, 101, 119]), .lit (.string [97, 114, 114, 97, 121])]
def laid_lychgate_lex_blanks {H : Type} : DataW H := .agg [.lit (.int .u8 32), .lit (.int .u8 10)]
def laid_lychgate_lex_pairs {H : Type} : DataW H := .agg [.lit (.string [45, 62]), .lit (.string [60, 61]), .lit (.string [61, 61])]

/-- 'lychgatelaw02.SyntaxParses': WHATEVER THE INPUT: true; the input reads as it did. -/
def syntaxParsesSpec : ChangeSpec := { name := "syntaxParses", fn := fun _ => fun
  | [d] => { results := [.lit (.bool true)], args := [d] }
  | _ => none }
def syntaxParsesRow : OpenClaim := { program := "ytflhniiemmahmaadoor", sum := "2236f9c021769ccba47029c7dc2bd077a7eea2b9197018e84abd513b446b5e4f", func := "lychgate/lychgatelaw02.SyntaxParses", spec := "syntaxParses", inPlace := ["internal/bytealg.IndexByteString"], unfollowed := true, recurses := true, named := ["lychgate/lex.blanks", "lychgate/lex.keys", "lychgate/lex.pairs"], apart := false, laid := [("lychgate/lex.keys", laid_lychgate_lex_keys), ("lychgate/lex.blanks", laid_lychgate_lex_blanks), ("lychgate/lex.pairs", laid_lychgate_lex_pairs)] }
def SyntaxParsesSaid : Prop := syntaxParsesRow.holds Tryd.pinned (OpenSpec.ofChange syntaxParsesSpec)

/-- ITS FALSE NEIGHBOUR: 'it returns false'. Refute it at one input. -/
def syntaxParsesWrong : ChangeSpec := { name := "syntaxParses", fn := fun _ => fun
  | [d] => { results := [.lit (.bool false)], args := [d] }
  | _ => none }
def SyntaxParsesWrongFalsely : Prop := syntaxParsesRow.holds Tryd.pinned (OpenSpec.ofChange syntaxParsesWrong)

/-- 'lychgatelaw02.SyntaxSizes': WHATEVER THE INPUT: true; the input reads as it did. -/
def syntaxSizesSpec : ChangeSpec := { name := "syntaxSizes", fn := fun _ => fun
  | [d1, d2] => { results := [.lit (.bool true)], args := [d1, d2] }
  | _ => none }
def syntaxSizesRow : OpenClaim := { program := "ytflhniiemmahmaadoor", sum := "2236f9c021769ccba47029c7dc2bd077a7eea2b9197018e84abd513b446b5e4f", func := "lychgate/lychgatelaw02.SyntaxSizes", spec := "syntaxSizes", inPlace := ["internal/bytealg.IndexByteString"], unfollowed := true, recurses := true, named := ["lychgate/lex.blanks", "lychgate/lex.keys", "lychgate/lex.pairs"], apart := false, laid := [("lychgate/lex.keys", laid_lychgate_lex_keys), ("lychgate/lex.blanks", laid_lychgate_lex_blanks), ("lychgate/lex.pairs", laid_lychgate_lex_pairs)] }
def SyntaxSizesSaid : Prop := syntaxSizesRow.holds Tryd.pinned (OpenSpec.ofChange syntaxSizesSpec)

/-- ITS FALSE NEIGHBOUR: 'it returns false'. Refute it at one input. -/
def syntaxSizesWrong : ChangeSpec := { name := "syntaxSizes", fn := fun _ => fun
  | [d1, d2] => { results := [.lit (.bool false)], args := [d1, d2] }
  | _ => none }
def SyntaxSizesWrongFalsely : Prop := syntaxSizesRow.holds Tryd.pinned (OpenSpec.ofChange syntaxSizesWrong)

/-- 'lychgatelaw02.SyntaxPlaces': WHATEVER THE INPUT: true; the input reads as it did. -/
def syntaxPlacesSpec : ChangeSpec := { name := "syntaxPlaces", fn := fun _ => fun
  | [d1, d2] => { results := [.lit (.bool true)], args := [d1, d2] }
  | _ => none }
def syntaxPlacesRow : OpenClaim := { program := "ytflhniiemmahmaadoor", sum := "2236f9c021769ccba47029c7dc2bd077a7eea2b9197018e84abd513b446b5e4f", func := "lychgate/lychgatelaw02.SyntaxPlaces", spec := "syntaxPlaces", inPlace := ["internal/bytealg.IndexByteString"], unfollowed := true, recurses := true, named := ["lychgate/lex.blanks", "lychgate/lex.keys", "lychgate/lex.pairs"], apart := false, laid := [("lychgate/lex.keys", laid_lychgate_lex_keys), ("lychgate/lex.blanks", laid_lychgate_lex_blanks), ("lychgate/lex.pairs", laid_lychgate_lex_pairs)] }
def SyntaxPlacesSaid : Prop := syntaxPlacesRow.holds Tryd.pinned (OpenSpec.ofChange syntaxPlacesSpec)

/-- ITS FALSE NEIGHBOUR: 'it returns false'. Refute it at one input. -/
def syntaxPlacesWrong : ChangeSpec := { name := "syntaxPlaces", fn := fun _ => fun
  | [d1, d2] => { results := [.lit (.bool false)], args := [d1, d2] }
  | _ => none }
def SyntaxPlacesWrongFalsely : Prop := syntaxPlacesRow.holds Tryd.pinned (OpenSpec.ofChange syntaxPlacesWrong)

/-- 'lychgatelaw02.SyntaxBlanks': WHATEVER THE INPUT: true; the input reads as it did. -/
def syntaxBlanksSpec : ChangeSpec := { name := "syntaxBlanks", fn := fun _ => fun
  | [d] => { results := [.lit (.bool true)], args := [d] }
  | _ => none }
def syntaxBlanksRow : OpenClaim := { program := "ytflhniiemmahmaadoor", sum := "2236f9c021769ccba47029c7dc2bd077a7eea2b9197018e84abd513b446b5e4f", func := "lychgate/lychgatelaw02.SyntaxBlanks", spec := "syntaxBlanks", inPlace := ["internal/bytealg.IndexByteString"], unfollowed := true, recurses := true, named := ["lychgate/lex.blanks", "lychgate/lex.keys", "lychgate/lex.pairs"], apart := false, laid := [("lychgate/lex.keys", laid_lychgate_lex_keys), ("lychgate/lex.blanks", laid_lychgate_lex_blanks), ("lychgate/lex.pairs", laid_lychgate_lex_pairs)] }
def SyntaxBlanksSaid : Prop := syntaxBlanksRow.holds Tryd.pinned (OpenSpec.ofChange syntaxBlanksSpec)

/-- ITS FALSE NEIGHBOUR: 'it returns false'. Refute it at one input. -/
def syntaxBlanksWrong : ChangeSpec := { name := "syntaxBlanks", fn := fun _ => fun
  | [d] => { results := [.lit (.bool false)], args := [d] }
  | _ => none }
def SyntaxBlanksWrongFalsely : Prop := syntaxBlanksRow.holds Tryd.pinned (OpenSpec.ofChange syntaxBlanksWrong)

/-- 'lychgatelaw02.SyntaxFirst': WHATEVER THE INPUT: true; the input reads as it did. -/
def syntaxFirstSpec : ChangeSpec := { name := "syntaxFirst", fn := fun _ => fun
  | [d1, d2] => { results := [.lit (.bool true)], args := [d1, d2] }
  | _ => none }
def syntaxFirstRow : OpenClaim := { program := "ytflhniiemmahmaadoor", sum := "2236f9c021769ccba47029c7dc2bd077a7eea2b9197018e84abd513b446b5e4f", func := "lychgate/lychgatelaw02.SyntaxFirst", spec := "syntaxFirst", inPlace := ["internal/bytealg.IndexByteString"], unfollowed := true, recurses := true, named := ["lychgate/lex.blanks", "lychgate/lex.keys", "lychgate/lex.pairs"], apart := false, laid := [("lychgate/lex.keys", laid_lychgate_lex_keys), ("lychgate/lex.blanks", laid_lychgate_lex_blanks), ("lychgate/lex.pairs", laid_lychgate_lex_pairs)] }
def SyntaxFirstSaid : Prop := syntaxFirstRow.holds Tryd.pinned (OpenSpec.ofChange syntaxFirstSpec)

/-- ITS FALSE NEIGHBOUR: 'it returns false'. Refute it at one input. -/
def syntaxFirstWrong : ChangeSpec := { name := "syntaxFirst", fn := fun _ => fun
  | [d1, d2] => { results := [.lit (.bool false)], args := [d1, d2] }
  | _ => none }
def SyntaxFirstWrongFalsely : Prop := syntaxFirstRow.holds Tryd.pinned (OpenSpec.ofChange syntaxFirstWrong)

/-- 'lychgatelaw02.SyntaxJoined': WHATEVER THE INPUT: true; the input reads as it did. -/
def syntaxJoinedSpec : ChangeSpec := { name := "syntaxJoined", fn := fun _ => fun
  | [d1, d2] => { results := [.lit (.bool true)], args := [d1, d2] }
  | _ => none }
def syntaxJoinedRow : OpenClaim := { program := "ytflhniiemmahmaadoor", sum := "2236f9c021769ccba47029c7dc2bd077a7eea2b9197018e84abd513b446b5e4f", func := "lychgate/lychgatelaw02.SyntaxJoined", spec := "syntaxJoined", inPlace := ["internal/bytealg.IndexByteString"], unfollowed := true, recurses := true, named := ["lychgate/lex.blanks", "lychgate/lex.keys", "lychgate/lex.pairs"], apart := false, laid := [("lychgate/lex.keys", laid_lychgate_lex_keys), ("lychgate/lex.blanks", laid_lychgate_lex_blanks), ("lychgate/lex.pairs", laid_lychgate_lex_pairs)] }
def SyntaxJoinedSaid : Prop := syntaxJoinedRow.holds Tryd.pinned (OpenSpec.ofChange syntaxJoinedSpec)

/-- ITS FALSE NEIGHBOUR: 'it returns false'. Refute it at one input. -/
def syntaxJoinedWrong : ChangeSpec := { name := "syntaxJoined", fn := fun _ => fun
  | [d1, d2] => { results := [.lit (.bool false)], args := [d1, d2] }
  | _ => none }
def SyntaxJoinedWrongFalsely : Prop := syntaxJoinedRow.holds Tryd.pinned (OpenSpec.ofChange syntaxJoinedWrong)

/- THE SECOND FORM. 'bulk': how many values and letters a reading holds, each counted each time it is reached (what is shared counts as often as it is met; a slice's spare places count too). A statement '..UptoSaid' is the law's where the arguments, and the package variables that the reading takes, are together of bulk at most 1048576: NARROWER than '..Said'. Prove '..Said' where nothing that the law and all that it calls make is longer than what came in: it says more and counts as full. Else prove '..UptoSaid'. A law counts once. -/
mutual
def uptoBulk {H : Type} : DataW H → Nat
  | .lit (.string bytes) => bytes.length + 1
  | .lit _ => 1
  | .nil => 1
  | .ptr d => uptoBulk d + 1
  | .slice elems spare => uptoBulkAll elems + uptoBulkAll spare + 1
  | .agg parts => uptoBulkAll parts + 1
  | .iface _ d => uptoBulk d + 1
  | .map entries => uptoBulkEntries entries + 1
  | .held _ => 1
def uptoBulkAll {H : Type} : List (DataW H) → Nat
  | [] => 0
  | d :: r => uptoBulk d + uptoBulkAll r
def uptoBulkEntries {H : Type} : List (Lit × DataW H) → Nat
  | [] => 0
  | x :: r => uptoBulkEntry x + uptoBulkEntries r
def uptoBulkEntry {H : Type} : Lit × DataW H → Nat
  | (.string bytes, d) => bytes.length + uptoBulk d + 1
  | (_, d) => uptoBulk d + 1
 end
def uptoSmall : (H : Type) → List (DataW H) → Bool := fun _ ds => decide (uptoBulkAll ds ≤ 1048576)
def OpenSpec.upto (s : _root_.Go.ChangeSpec) : _root_.Go.OpenSpec := { _root_.Go.OpenSpec.ofChange s with cond := some uptoSmall }

/-- 'lychgatelaw02.SyntaxParses', WHERE WHAT IT READS IS OF BULK AT MOST 1048576: true; the input reads as it did. -/
def syntaxParsesUptoRow : OpenClaim := { program := "ytflhniiemmahmaadoor", sum := "2236f9c021769ccba47029c7dc2bd077a7eea2b9197018e84abd513b446b5e4f", func := "lychgate/lychgatelaw02.SyntaxParses", spec := "syntaxParses", inPlace := ["internal/bytealg.IndexByteString"], unfollowed := true, recurses := true, named := ["lychgate/lex.blanks", "lychgate/lex.keys", "lychgate/lex.pairs"], apart := false, laid := [("lychgate/lex.keys", laid_lychgate_lex_keys), ("lychgate/lex.blanks", laid_lychgate_lex_blanks), ("lychgate/lex.pairs", laid_lychgate_lex_pairs)], narrowed := true }
def SyntaxParsesUptoSaid : Prop := syntaxParsesUptoRow.holds Tryd.pinned (OpenSpec.upto syntaxParsesSpec)

/-- 'lychgatelaw02.SyntaxSizes', WHERE WHAT IT READS IS OF BULK AT MOST 1048576: true; the input reads as it did. -/
def syntaxSizesUptoRow : OpenClaim := { program := "ytflhniiemmahmaadoor", sum := "2236f9c021769ccba47029c7dc2bd077a7eea2b9197018e84abd513b446b5e4f", func := "lychgate/lychgatelaw02.SyntaxSizes", spec := "syntaxSizes", inPlace := ["internal/bytealg.IndexByteString"], unfollowed := true, recurses := true, named := ["lychgate/lex.blanks", "lychgate/lex.keys", "lychgate/lex.pairs"], apart := false, laid := [("lychgate/lex.keys", laid_lychgate_lex_keys), ("lychgate/lex.blanks", laid_lychgate_lex_blanks), ("lychgate/lex.pairs", laid_lychgate_lex_pairs)], narrowed := true }
def SyntaxSizesUptoSaid : Prop := syntaxSizesUptoRow.holds Tryd.pinned (OpenSpec.upto syntaxSizesSpec)

/-- 'lychgatelaw02.SyntaxPlaces', WHERE WHAT IT READS IS OF BULK AT MOST 1048576: true; the input reads as it did. -/
def syntaxPlacesUptoRow : OpenClaim := { program := "ytflhniiemmahmaadoor", sum := "2236f9c021769ccba47029c7dc2bd077a7eea2b9197018e84abd513b446b5e4f", func := "lychgate/lychgatelaw02.SyntaxPlaces", spec := "syntaxPlaces", inPlace := ["internal/bytealg.IndexByteString"], unfollowed := true, recurses := true, named := ["lychgate/lex.blanks", "lychgate/lex.keys", "lychgate/lex.pairs"], apart := false, laid := [("lychgate/lex.keys", laid_lychgate_lex_keys), ("lychgate/lex.blanks", laid_lychgate_lex_blanks), ("lychgate/lex.pairs", laid_lychgate_lex_pairs)], narrowed := true }
def SyntaxPlacesUptoSaid : Prop := syntaxPlacesUptoRow.holds Tryd.pinned (OpenSpec.upto syntaxPlacesSpec)

/-- 'lychgatelaw02.SyntaxBlanks', WHERE WHAT IT READS IS OF BULK AT MOST 1048576: true; the input reads as it did. -/
def syntaxBlanksUptoRow : OpenClaim := { program := "ytflhniiemmahmaadoor", sum := "2236f9c021769ccba47029c7dc2bd077a7eea2b9197018e84abd513b446b5e4f", func := "lychgate/lychgatelaw02.SyntaxBlanks", spec := "syntaxBlanks", inPlace := ["internal/bytealg.IndexByteString"], unfollowed := true, recurses := true, named := ["lychgate/lex.blanks", "lychgate/lex.keys", "lychgate/lex.pairs"], apart := false, laid := [("lychgate/lex.keys", laid_lychgate_lex_keys), ("lychgate/lex.blanks", laid_lychgate_lex_blanks), ("lychgate/lex.pairs", laid_lychgate_lex_pairs)], narrowed := true }
def SyntaxBlanksUptoSaid : Prop := syntaxBlanksUptoRow.holds Tryd.pinned (OpenSpec.upto syntaxBlanksSpec)

/-- 'lychgatelaw02.SyntaxFirst', WHERE WHAT IT READS IS OF BULK AT MOST 1048576: true; the input reads as it did. -/
def syntaxFirstUptoRow : OpenClaim := { program := "ytflhniiemmahmaadoor", sum := "2236f9c021769ccba47029c7dc2bd077a7eea2b9197018e84abd513b446b5e4f", func := "lychgate/lychgatelaw02.SyntaxFirst", spec := "syntaxFirst", inPlace := ["internal/bytealg.IndexByteString"], unfollowed := true, recurses := true, named := ["lychgate/lex.blanks", "lychgate/lex.keys", "lychgate/lex.pairs"], apart := false, laid := [("lychgate/lex.keys", laid_lychgate_lex_keys), ("lychgate/lex.blanks", laid_lychgate_lex_blanks), ("lychgate/lex.pairs", laid_lychgate_lex_pairs)], narrowed := true }
def SyntaxFirstUptoSaid : Prop := syntaxFirstUptoRow.holds Tryd.pinned (OpenSpec.upto syntaxFirstSpec)

/-- 'lychgatelaw02.SyntaxJoined', WHERE WHAT IT READS IS OF BULK AT MOST 1048576: true; the input reads as it did. -/
def syntaxJoinedUptoRow : OpenClaim := { program := "ytflhniiemmahmaadoor", sum := "2236f9c021769ccba47029c7dc2bd077a7eea2b9197018e84abd513b446b5e4f", func := "lychgate/lychgatelaw02.SyntaxJoined", spec := "syntaxJoined", inPlace := ["internal/bytealg.IndexByteString"], unfollowed := true, recurses := true, named := ["lychgate/lex.blanks", "lychgate/lex.keys", "lychgate/lex.pairs"], apart := false, laid := [("lychgate/lex.keys", laid_lychgate_lex_keys), ("lychgate/lex.blanks", laid_lychgate_lex_blanks), ("lychgate/lex.pairs", laid_lychgate_lex_pairs)], narrowed := true }
def SyntaxJoinedUptoSaid : Prop := syntaxJoinedUptoRow.holds Tryd.pinned (OpenSpec.upto syntaxJoinedSpec)

end Rows
end Go.Proofs.YtflhniiemmahmaaDoor
