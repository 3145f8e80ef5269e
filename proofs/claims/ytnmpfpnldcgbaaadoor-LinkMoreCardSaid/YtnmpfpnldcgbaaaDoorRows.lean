/-
  NARROWER THAN 'FOR EVERY INPUT', by the rows' own cells (each row's printed sentence says how): SyntaxParses: laid · CodeNames: laid · CodeJumps: laid · CodeCounts: laid · CodeRises: laid · LinkFinds: laid · LinkGoes: laid · LinkParts: laid · LinkMore: laid · LinkOrder: laid.
  DERIVED. THE GIVEN ROWS OF THIS SEAT. 10 by the template 'for every input the law returns true; each argument reads behind the call as it read before'; 0 by the template 'total and deterministic' (their statements: YtnmpfpnldcgbaaaDoorTotals.lean).
  GIVEN WITH THE SEED: the statements are not yours to turn. If you find one false, say at which input.
  Laid BY PROGRAM, IN A SANDBOX (cutbox-rows.mjs): the forced cells as the released guide's own fill.sh prints them over the translation 96c988ca479f5c2a… (all of the seat's roots in one cut). By AI agents, Wed Nov 11 2026. No macro, syntax, notation, axiom, sorry.
-/
import Derived.Test.YtnmpfpnldcgbaaaDoorChecked
import GoSem.Claim
import GoSem.ClaimJoined
import GoSem.ClaimMapViews
import Derived.JoinedTies
import Derived.KernelRfl
namespace Go.Proofs.YtnmpfpnldcgbaaaDoor
/- THE CELL 'sum', in the pinned program and in every row, IS THE sha256 OF THE DUMP (.gsa) THAT YtnmpfpnldcgbaaaDoorProg.lean LOADS. Nothing in Lean hashes anything: it is a label: what it is worth is what the hold of that sum in a sandbox is worth. -/
noncomputable def Tryd.pinned : Pinned := { name := "ytnmpfpnldcgbaaadoor", sum := "96c988ca479f5c2a7d51345dc409b98d33db9d8c1c81931d1925322cb515a9d6", checked := Tryd.checked }
namespace Rows
def none {H : Type} : Left H := { results := [], args := [] }

/- WHAT THE LISTED PACKAGE-LEVEL VARIABLES READ AS WHEN THE CALL BEGINS. Each datum BY PROGRAM (the guide's laid-datum.mjs) off the statement by which the dump's own 'gosem.cut.vars' lays the variable. In a bare row this is a premise. The card (YtnmpfpnldcgbaaaDoorCards.lean) ties it to the program's text. -/
def laid_lychgate_lex_keys {H : Type} : DataW H := .agg [.lit (.string [116, 121, 112, 101]), .lit (.string [102, 110]), .lit (.string [111, 119, 110]), .lit (.string [99, 101, 108, 108]), .lit (.string [99, 111, 117, 110, 116, 101, 100]), .lit (.string [108, 111, 99, 107]), .lit (.string [103, 117, 97, 114, 100]), .lit (.string [119, 104, 101, 114, 101]), .lit (.string [105, 110, 116]), .lit (.string [109, 117, 116]), .lit (.string [102, 114, 101, 101]), .lit (.string [117, 110, 108, 111, 99, 107]), .lit (.string [105, 102]), .lit (.string [101, 108, 115, 101]), .lit (.string [119, 104, 105, 108, 101]), .lit (.string [114, 101, 116, 117, 114, 110]), .lit (.string [97, 98, 111, 114, 116]), .lit (.string [102, 111, 114, 107]), .lit (.string [110, 101, 119]), .lit (.string [97, 114, 114, 97, 121])]
def laid_lychgate_lex_blanks {H : Type} : DataW H := .agg [.lit (.int .u8 32), .lit (.int .u8 10)]
def laid_lychgate_lex_pairs {H : Type} : DataW H := .agg [.lit (.string [45, 62]), .lit (.string [60, 61]), .lit (.string [61, 61])]

/-- 'lychgatelaw02.SyntaxParses': WHATEVER THE INPUT: true; the input reads as it did. -/
def syntaxParsesSpec : ChangeSpec := { name := "syntaxParses", fn := fun _ => fun
  | [d] => { results := [.lit (.bool true)], args := [d] }
  | _ => none }
def syntaxParsesRow : OpenClaim := { program := "ytnmpfpnldcgbaaadoor", sum := "96c988ca479f5c2a7d51345dc409b98d33db9d8c1c81931d1925322cb515a9d6", func := "lychgate/lychgatelaw02.SyntaxParses", spec := "syntaxParses", inPlace := ["internal/bytealg.IndexByteString"], unfollowed := true, recurses := true, named := ["lychgate/lex.blanks", "lychgate/lex.keys", "lychgate/lex.pairs"], apart := false, laid := [("lychgate/lex.keys", laid_lychgate_lex_keys), ("lychgate/lex.blanks", laid_lychgate_lex_blanks), ("lychgate/lex.pairs", laid_lychgate_lex_pairs)] }
def SyntaxParsesSaid : Prop := syntaxParsesRow.holds Tryd.pinned (OpenSpec.ofChange syntaxParsesSpec)

/-- ITS FALSE NEIGHBOUR: 'it returns false'. Refute it at one input. -/
def syntaxParsesWrong : ChangeSpec := { name := "syntaxParses", fn := fun _ => fun
  | [d] => { results := [.lit (.bool false)], args := [d] }
  | _ => none }
def SyntaxParsesWrongFalsely : Prop := syntaxParsesRow.holds Tryd.pinned (OpenSpec.ofChange syntaxParsesWrong)

/-- 'lychgatelaw07.CodeNames': WHATEVER THE INPUT: true; the input reads as it did. -/
def codeNamesSpec : ChangeSpec := { name := "codeNames", fn := fun _ => fun
  | [d] => { results := [.lit (.bool true)], args := [d] }
  | _ => none }
def codeNamesRow : OpenClaim := { program := "ytnmpfpnldcgbaaadoor", sum := "96c988ca479f5c2a7d51345dc409b98d33db9d8c1c81931d1925322cb515a9d6", func := "lychgate/lychgatelaw07.CodeNames", spec := "codeNames", inPlace := ["internal/bytealg.IndexByteString"], unfollowed := true, recurses := true, named := ["lychgate/lex.blanks", "lychgate/lex.keys", "lychgate/lex.pairs"], apart := false, laid := [("lychgate/lex.keys", laid_lychgate_lex_keys), ("lychgate/lex.blanks", laid_lychgate_lex_blanks), ("lychgate/lex.pairs", laid_lychgate_lex_pairs)] }
def CodeNamesSaid : Prop := codeNamesRow.holds Tryd.pinned (OpenSpec.ofChange codeNamesSpec)

/-- ITS FALSE NEIGHBOUR: 'it returns false'. Refute it at one input. -/
def codeNamesWrong : ChangeSpec := { name := "codeNames", fn := fun _ => fun
  | [d] => { results := [.lit (.bool false)], args := [d] }
  | _ => none }
def CodeNamesWrongFalsely : Prop := codeNamesRow.holds Tryd.pinned (OpenSpec.ofChange codeNamesWrong)

/-- 'lychgatelaw07.CodeJumps': WHATEVER THE INPUT: true; the input reads as it did. -/
def codeJumpsSpec : ChangeSpec := { name := "codeJumps", fn := fun _ => fun
  | [d] => { results := [.lit (.bool true)], args := [d] }
  | _ => none }
def codeJumpsRow : OpenClaim := { program := "ytnmpfpnldcgbaaadoor", sum := "96c988ca479f5c2a7d51345dc409b98d33db9d8c1c81931d1925322cb515a9d6", func := "lychgate/lychgatelaw07.CodeJumps", spec := "codeJumps", inPlace := ["internal/bytealg.IndexByteString"], unfollowed := true, recurses := true, named := ["lychgate/lex.blanks", "lychgate/lex.keys", "lychgate/lex.pairs"], apart := false, laid := [("lychgate/lex.keys", laid_lychgate_lex_keys), ("lychgate/lex.blanks", laid_lychgate_lex_blanks), ("lychgate/lex.pairs", laid_lychgate_lex_pairs)] }
def CodeJumpsSaid : Prop := codeJumpsRow.holds Tryd.pinned (OpenSpec.ofChange codeJumpsSpec)

/-- ITS FALSE NEIGHBOUR: 'it returns false'. Refute it at one input. -/
def codeJumpsWrong : ChangeSpec := { name := "codeJumps", fn := fun _ => fun
  | [d] => { results := [.lit (.bool false)], args := [d] }
  | _ => none }
def CodeJumpsWrongFalsely : Prop := codeJumpsRow.holds Tryd.pinned (OpenSpec.ofChange codeJumpsWrong)

/-- 'lychgatelaw07.CodeCounts': WHATEVER THE INPUT: true; the input reads as it did. -/
def codeCountsSpec : ChangeSpec := { name := "codeCounts", fn := fun _ => fun
  | [d] => { results := [.lit (.bool true)], args := [d] }
  | _ => none }
def codeCountsRow : OpenClaim := { program := "ytnmpfpnldcgbaaadoor", sum := "96c988ca479f5c2a7d51345dc409b98d33db9d8c1c81931d1925322cb515a9d6", func := "lychgate/lychgatelaw07.CodeCounts", spec := "codeCounts", inPlace := ["internal/bytealg.IndexByteString"], unfollowed := true, recurses := true, named := ["lychgate/lex.blanks", "lychgate/lex.keys", "lychgate/lex.pairs"], apart := false, laid := [("lychgate/lex.keys", laid_lychgate_lex_keys), ("lychgate/lex.blanks", laid_lychgate_lex_blanks), ("lychgate/lex.pairs", laid_lychgate_lex_pairs)] }
def CodeCountsSaid : Prop := codeCountsRow.holds Tryd.pinned (OpenSpec.ofChange codeCountsSpec)

/-- ITS FALSE NEIGHBOUR: 'it returns false'. Refute it at one input. -/
def codeCountsWrong : ChangeSpec := { name := "codeCounts", fn := fun _ => fun
  | [d] => { results := [.lit (.bool false)], args := [d] }
  | _ => none }
def CodeCountsWrongFalsely : Prop := codeCountsRow.holds Tryd.pinned (OpenSpec.ofChange codeCountsWrong)

/-- 'lychgatelaw07.CodeRises': WHATEVER THE INPUT: true; the input reads as it did. -/
def codeRisesSpec : ChangeSpec := { name := "codeRises", fn := fun _ => fun
  | [d] => { results := [.lit (.bool true)], args := [d] }
  | _ => none }
def codeRisesRow : OpenClaim := { program := "ytnmpfpnldcgbaaadoor", sum := "96c988ca479f5c2a7d51345dc409b98d33db9d8c1c81931d1925322cb515a9d6", func := "lychgate/lychgatelaw07.CodeRises", spec := "codeRises", inPlace := ["internal/bytealg.IndexByteString"], unfollowed := true, recurses := true, named := ["lychgate/lex.blanks", "lychgate/lex.keys", "lychgate/lex.pairs"], apart := false, laid := [("lychgate/lex.keys", laid_lychgate_lex_keys), ("lychgate/lex.blanks", laid_lychgate_lex_blanks), ("lychgate/lex.pairs", laid_lychgate_lex_pairs)] }
def CodeRisesSaid : Prop := codeRisesRow.holds Tryd.pinned (OpenSpec.ofChange codeRisesSpec)

/-- ITS FALSE NEIGHBOUR: 'it returns false'. Refute it at one input. -/
def codeRisesWrong : ChangeSpec := { name := "codeRises", fn := fun _ => fun
  | [d] => { results := [.lit (.bool false)], args := [d] }
  | _ => none }
def CodeRisesWrongFalsely : Prop := codeRisesRow.holds Tryd.pinned (OpenSpec.ofChange codeRisesWrong)

/-- 'lychgatelaw08.LinkFinds': WHATEVER THE INPUT: true; the input reads as it did. -/
def linkFindsSpec : ChangeSpec := { name := "linkFinds", fn := fun _ => fun
  | [d1, d2, d3] => { results := [.lit (.bool true)], args := [d1, d2, d3] }
  | _ => none }
def linkFindsRow : OpenClaim := { program := "ytnmpfpnldcgbaaadoor", sum := "96c988ca479f5c2a7d51345dc409b98d33db9d8c1c81931d1925322cb515a9d6", func := "lychgate/lychgatelaw08.LinkFinds", spec := "linkFinds", inPlace := ["internal/bytealg.IndexByteString"], unfollowed := true, recurses := true, named := ["lychgate/lex.blanks", "lychgate/lex.keys", "lychgate/lex.pairs"], apart := false, laid := [("lychgate/lex.keys", laid_lychgate_lex_keys), ("lychgate/lex.blanks", laid_lychgate_lex_blanks), ("lychgate/lex.pairs", laid_lychgate_lex_pairs)] }
def LinkFindsSaid : Prop := linkFindsRow.holds Tryd.pinned (OpenSpec.ofChange linkFindsSpec)

/-- ITS FALSE NEIGHBOUR: 'it returns false'. Refute it at one input. -/
def linkFindsWrong : ChangeSpec := { name := "linkFinds", fn := fun _ => fun
  | [d1, d2, d3] => { results := [.lit (.bool false)], args := [d1, d2, d3] }
  | _ => none }
def LinkFindsWrongFalsely : Prop := linkFindsRow.holds Tryd.pinned (OpenSpec.ofChange linkFindsWrong)

/-- 'lychgatelaw08.LinkGoes': WHATEVER THE INPUT: true; the input reads as it did. -/
def linkGoesSpec : ChangeSpec := { name := "linkGoes", fn := fun _ => fun
  | [d1, d2] => { results := [.lit (.bool true)], args := [d1, d2] }
  | _ => none }
def linkGoesRow : OpenClaim := { program := "ytnmpfpnldcgbaaadoor", sum := "96c988ca479f5c2a7d51345dc409b98d33db9d8c1c81931d1925322cb515a9d6", func := "lychgate/lychgatelaw08.LinkGoes", spec := "linkGoes", inPlace := ["internal/bytealg.IndexByteString"], unfollowed := true, recurses := true, named := ["lychgate/lex.blanks", "lychgate/lex.keys", "lychgate/lex.pairs"], apart := false, laid := [("lychgate/lex.keys", laid_lychgate_lex_keys), ("lychgate/lex.blanks", laid_lychgate_lex_blanks), ("lychgate/lex.pairs", laid_lychgate_lex_pairs)] }
def LinkGoesSaid : Prop := linkGoesRow.holds Tryd.pinned (OpenSpec.ofChange linkGoesSpec)

/-- ITS FALSE NEIGHBOUR: 'it returns false'. Refute it at one input. -/
def linkGoesWrong : ChangeSpec := { name := "linkGoes", fn := fun _ => fun
  | [d1, d2] => { results := [.lit (.bool false)], args := [d1, d2] }
  | _ => none }
def LinkGoesWrongFalsely : Prop := linkGoesRow.holds Tryd.pinned (OpenSpec.ofChange linkGoesWrong)

/-- 'lychgatelaw08.LinkParts': WHATEVER THE INPUT: true; the input reads as it did. -/
def linkPartsSpec : ChangeSpec := { name := "linkParts", fn := fun _ => fun
  | [d1, d2] => { results := [.lit (.bool true)], args := [d1, d2] }
  | _ => none }
def linkPartsRow : OpenClaim := { program := "ytnmpfpnldcgbaaadoor", sum := "96c988ca479f5c2a7d51345dc409b98d33db9d8c1c81931d1925322cb515a9d6", func := "lychgate/lychgatelaw08.LinkParts", spec := "linkParts", inPlace := ["internal/bytealg.IndexByteString"], unfollowed := true, recurses := true, named := ["lychgate/lex.blanks", "lychgate/lex.keys", "lychgate/lex.pairs"], apart := false, laid := [("lychgate/lex.keys", laid_lychgate_lex_keys), ("lychgate/lex.blanks", laid_lychgate_lex_blanks), ("lychgate/lex.pairs", laid_lychgate_lex_pairs)] }
def LinkPartsSaid : Prop := linkPartsRow.holds Tryd.pinned (OpenSpec.ofChange linkPartsSpec)

/-- ITS FALSE NEIGHBOUR: 'it returns false'. Refute it at one input. -/
def linkPartsWrong : ChangeSpec := { name := "linkParts", fn := fun _ => fun
  | [d1, d2] => { results := [.lit (.bool false)], args := [d1, d2] }
  | _ => none }
def LinkPartsWrongFalsely : Prop := linkPartsRow.holds Tryd.pinned (OpenSpec.ofChange linkPartsWrong)

/-- 'lychgatelaw08.LinkMore': WHATEVER THE INPUT: true; the input reads as it did. -/
def linkMoreSpec : ChangeSpec := { name := "linkMore", fn := fun _ => fun
  | [d1, d2, d3] => { results := [.lit (.bool true)], args := [d1, d2, d3] }
  | _ => none }
def linkMoreRow : OpenClaim := { program := "ytnmpfpnldcgbaaadoor", sum := "96c988ca479f5c2a7d51345dc409b98d33db9d8c1c81931d1925322cb515a9d6", func := "lychgate/lychgatelaw08.LinkMore", spec := "linkMore", inPlace := ["internal/bytealg.IndexByteString"], unfollowed := true, recurses := true, named := ["lychgate/lex.keys", "lychgate/lex.blanks", "lychgate/lex.pairs"], apart := false, laid := [("lychgate/lex.keys", laid_lychgate_lex_keys), ("lychgate/lex.blanks", laid_lychgate_lex_blanks), ("lychgate/lex.pairs", laid_lychgate_lex_pairs)] }
def LinkMoreSaid : Prop := linkMoreRow.holds Tryd.pinned (OpenSpec.ofChange linkMoreSpec)

/-- ITS FALSE NEIGHBOUR: 'it returns false'. Refute it at one input. -/
def linkMoreWrong : ChangeSpec := { name := "linkMore", fn := fun _ => fun
  | [d1, d2, d3] => { results := [.lit (.bool false)], args := [d1, d2, d3] }
  | _ => none }
def LinkMoreWrongFalsely : Prop := linkMoreRow.holds Tryd.pinned (OpenSpec.ofChange linkMoreWrong)

/-- 'lychgatelaw08.LinkOrder': WHATEVER THE INPUT: true; the input reads as it did. -/
def linkOrderSpec : ChangeSpec := { name := "linkOrder", fn := fun _ => fun
  | [d1, d2] => { results := [.lit (.bool true)], args := [d1, d2] }
  | _ => none }
def linkOrderRow : OpenClaim := { program := "ytnmpfpnldcgbaaadoor", sum := "96c988ca479f5c2a7d51345dc409b98d33db9d8c1c81931d1925322cb515a9d6", func := "lychgate/lychgatelaw08.LinkOrder", spec := "linkOrder", inPlace := ["internal/bytealg.IndexByteString"], unfollowed := true, recurses := true, named := ["lychgate/lex.blanks", "lychgate/lex.keys", "lychgate/lex.pairs"], apart := false, laid := [("lychgate/lex.keys", laid_lychgate_lex_keys), ("lychgate/lex.blanks", laid_lychgate_lex_blanks), ("lychgate/lex.pairs", laid_lychgate_lex_pairs)] }
def LinkOrderSaid : Prop := linkOrderRow.holds Tryd.pinned (OpenSpec.ofChange linkOrderSpec)

/-- ITS FALSE NEIGHBOUR: 'it returns false'. Refute it at one input. -/
def linkOrderWrong : ChangeSpec := { name := "linkOrder", fn := fun _ => fun
  | [d1, d2] => { results := [.lit (.bool false)], args := [d1, d2] }
  | _ => none }
def LinkOrderWrongFalsely : Prop := linkOrderRow.holds Tryd.pinned (OpenSpec.ofChange linkOrderWrong)

/- THE SECOND FORM. 'bulk': how many values and letters a reading holds, each counted each time it is reached (what is shared counts as often as it is met; a slice's spare places count too). A statement '..UptoSaid' is the law's where the arguments, and the package variables that the reading takes, are together of bulk at most 1048576: NARROWER than '..Said'. Prove '..Said' where nothing that the law and all that it calls make is longer than what came in: it says more and counts as full. Else prove '..UptoSaid'. A law counts once. -/
mutual
def uptoBulk {H : Type} : DataW H → Nat
  | .lit (.string bytes) => bytes.length + 1
  | .lit _ => 1
  | .nil => 1
  | .ptr d => uptoBulk d + 1
  | .slice elems spare => uptoBulkAll elems + uptoBulkAll spare + 1
  | .agg parts => uptoBulkAll parts + 1
  | .iface _ d => uptoBulk d + 1
  | .map entries => uptoBulkEntries entries + 1
  | .held _ => 1
def uptoBulkAll {H : Type} : List (DataW H) → Nat
  | [] => 0
  | d :: r => uptoBulk d + uptoBulkAll r
def uptoBulkEntries {H : Type} : List (Lit × DataW H) → Nat
  | [] => 0
  | x :: r => uptoBulkEntry x + uptoBulkEntries r
def uptoBulkEntry {H : Type} : Lit × DataW H → Nat
  | (.string bytes, d) => bytes.length + uptoBulk d + 1
  | (_, d) => uptoBulk d + 1
 end
def uptoSmall : (H : Type) → List (DataW H) → Bool := fun _ ds => decide (uptoBulkAll ds ≤ 1048576)
def OpenSpec.upto (s : _root_.Go.ChangeSpec) : _root_.Go.OpenSpec := { _root_.Go.OpenSpec.ofChange s with cond := some uptoSmall }

/-- 'lychgatelaw02.SyntaxParses', WHERE WHAT IT READS IS OF BULK AT MOST 1048576: true; the input reads as it did. -/
def syntaxParsesUptoRow : OpenClaim := { program := "ytnmpfpnldcgbaaadoor", sum := "96c988ca479f5c2a7d51345dc409b98d33db9d8c1c81931d1925322cb515a9d6", func := "lychgate/lychgatelaw02.SyntaxParses", spec := "syntaxParses", inPlace := ["internal/bytealg.IndexByteString"], unfollowed := true, recurses := true, named := ["lychgate/lex.blanks", "lychgate/lex.keys", "lychgate/lex.pairs"], apart := false, laid := [("lychgate/lex.keys", laid_lychgate_lex_keys), ("lychgate/lex.blanks", laid_lychgate_lex_blanks), ("lychgate/lex.pairs", laid_lychgate_lex_pairs)], narrowed := true }
def SyntaxParsesUptoSaid : Prop := syntaxParsesUptoRow.holds Tryd.pinned (OpenSpec.upto syntaxParsesSpec)

/-- 'lychgatelaw07.CodeNames', WHERE WHAT IT READS IS OF BULK AT MOST 1048576: true; the input reads as it did. -/
def codeNamesUptoRow : OpenClaim := { program := "ytnmpfpnldcgbaaadoor", sum := "96c988ca479f5c2a7d51345dc409b98d33db9d8c1c81931d1925322cb515a9d6", func := "lychgate/lychgatelaw07.CodeNames", spec := "codeNames", inPlace := ["internal/bytealg.IndexByteString"], unfollowed := true, recurses := true, named := ["lychgate/lex.blanks", "lychgate/lex.keys", "lychgate/lex.pairs"], apart := false, laid := [("lychgate/lex.keys", laid_lychgate_lex_keys), ("lychgate/lex.blanks", laid_lychgate_lex_blanks), ("lychgate/lex.pairs", laid_lychgate_lex_pairs)], narrowed := true }
def CodeNamesUptoSaid : Prop := codeNamesUptoRow.holds Tryd.pinned (OpenSpec.upto codeNamesSpec)

/-- 'lychgatelaw07.CodeJumps', WHERE WHAT IT READS IS OF BULK AT MOST 1048576: true; the input reads as it did. -/
def codeJumpsUptoRow : OpenClaim := { program := "ytnmpfpnldcgbaaadoor", sum := "96c988ca479f5c2a7d51345dc409b98d33db9d8c1c81931d1925322cb515a9d6", func := "lychgate/lychgatelaw07.CodeJumps", spec := "codeJumps", inPlace := ["internal/bytealg.IndexByteString"], unfollowed := true, recurses := true, named := ["lychgate/lex.blanks", "lychgate/lex.keys", "lychgate/lex.pairs"], apart := false, laid := [("lychgate/lex.keys", laid_lychgate_lex_keys), ("lychgate/lex.blanks", laid_lychgate_lex_blanks), ("lychgate/lex.pairs", laid_lychgate_lex_pairs)], narrowed := true }
def CodeJumpsUptoSaid : Prop := codeJumpsUptoRow.holds Tryd.pinned (OpenSpec.upto codeJumpsSpec)

/-- 'lychgatelaw07.CodeCounts', WHERE WHAT IT READS IS OF BULK AT MOST 1048576: true; the input reads as it did. -/
def codeCountsUptoRow : OpenClaim := { program := "ytnmpfpnldcgbaaadoor", sum := "96c988ca479f5c2a7d51345dc409b98d33db9d8c1c81931d1925322cb515a9d6", func := "lychgate/lychgatelaw07.CodeCounts", spec := "codeCounts", inPlace := ["internal/bytealg.IndexByteString"], unfollowed := true, recurses := true, named := ["lychgate/lex.blanks", "lychgate/lex.keys", "lychgate/lex.pairs"], apart := false, laid := [("lychgate/lex.keys", laid_lychgate_lex_keys), ("lychgate/lex.blanks", laid_lychgate_lex_blanks), ("lychgate/lex.pairs", laid_lychgate_lex_pairs)], narrowed := true }
def CodeCountsUptoSaid : Prop := codeCountsUptoRow.holds Tryd.pinned (OpenSpec.upto codeCountsSpec)

/-- 'lychgatelaw07.CodeRises', WHERE WHAT IT READS IS OF BULK AT MOST 1048576: true; the input reads as it did. -/
def codeRisesUptoRow : OpenClaim := { program := "ytnmpfpnldcgbaaadoor", sum := "96c988ca479f5c2a7d51345dc409b98d33db9d8c1c81931d1925322cb515a9d6", func := "lychgate/lychgatelaw07.CodeRises", spec := "codeRises", inPlace := ["internal/bytealg.IndexByteString"], unfollowed := true, recurses := true, named := ["lychgate/lex.blanks", "lychgate/lex.keys", "lychgate/lex.pairs"], apart := false, laid := [("lychgate/lex.keys", laid_lychgate_lex_keys), ("lychgate/lex.blanks", laid_lychgate_lex_blanks), ("lychgate/lex.pairs", laid_lychgate_lex_pairs)], narrowed := true }
def CodeRisesUptoSaid : Prop := codeRisesUptoRow.holds Tryd.pinned (OpenSpec.upto codeRisesSpec)

/-- 'lychgatelaw08.LinkFinds', WHERE WHAT IT READS IS OF BULK AT MOST 1048576: true; the input reads as it did. -/
def linkFindsUptoRow : OpenClaim := { program := "ytnmpfpnldcgbaaadoor", sum := "96c988ca479f5c2a7d51345dc409b98d33db9d8c1c81931d1925322cb515a9d6", func := "lychgate/lychgatelaw08.LinkFinds", spec := "linkFinds", inPlace := ["internal/bytealg.IndexByteString"], unfollowed := true, recurses := true, named := ["lychgate/lex.blanks", "lychgate/lex.keys", "lychgate/lex.pairs"], apart := false, laid := [("lychgate/lex.keys", laid_lychgate_lex_keys), ("lychgate/lex.blanks", laid_lychgate_lex_blanks), ("lychgate/lex.pairs", laid_lychgate_lex_pairs)], narrowed := true }
def LinkFindsUptoSaid : Prop := linkFindsUptoRow.holds Tryd.pinned (OpenSpec.upto linkFindsSpec)

/-- 'lychgatelaw08.LinkGoes', WHERE WHAT IT READS IS OF BULK AT MOST 1048576: true; the input reads as it did. -/
def linkGoesUptoRow : OpenClaim := { program := "ytnmpfpnldcgbaaadoor", sum := "96c988ca479f5c2a7d51345dc409b98d33db9d8c1c81931d1925322cb515a9d6", func := "lychgate/lychgatelaw08.LinkGoes", spec := "linkGoes", inPlace := ["internal/bytealg.IndexByteString"], unfollowed := true, recurses := true, named := ["lychgate/lex.blanks", "lychgate/lex.keys", "lychgate/lex.pairs"], apart := false, laid := [("lychgate/lex.keys", laid_lychgate_lex_keys), ("lychgate/lex.blanks", laid_lychgate_lex_blanks), ("lychgate/lex.pairs", laid_lychgate_lex_pairs)], narrowed := true }
def LinkGoesUptoSaid : Prop := linkGoesUptoRow.holds Tryd.pinned (OpenSpec.upto linkGoesSpec)

/-- 'lychgatelaw08.LinkParts', WHERE WHAT IT READS IS OF BULK AT MOST 1048576: true; the input reads as it did. -/
def linkPartsUptoRow : OpenClaim := { program := "ytnmpfpnldcgbaaadoor", sum := "96c988ca479f5c2a7d51345dc409b98d33db9d8c1c81931d1925322cb515a9d6", func := "lychgate/lychgatelaw08.LinkParts", spec := "linkParts", inPlace := ["internal/bytealg.IndexByteString"], unfollowed := true, recurses := true, named := ["lychgate/lex.blanks", "lychgate/lex.keys", "lychgate/lex.pairs"], apart := false, laid := [("lychgate/lex.keys", laid_lychgate_lex_keys), ("lychgate/lex.blanks", laid_lychgate_lex_blanks), ("lychgate/lex.pairs", laid_lychgate_lex_pairs)], narrowed := true }
def LinkPartsUptoSaid : Prop := linkPartsUptoRow.holds Tryd.pinned (OpenSpec.upto linkPartsSpec)

/-- 'lychgatelaw08.LinkMore', WHERE WHAT IT READS IS OF BULK AT MOST 1048576: true; the input reads as it did. -/
def linkMoreUptoRow : OpenClaim := { program := "ytnmpfpnldcgbaaadoor", sum := "96c988ca479f5c2a7d51345dc409b98d33db9d8c1c81931d1925322cb515a9d6", func := "lychgate/lychgatelaw08.LinkMore", spec := "linkMore", inPlace := ["internal/bytealg.IndexByteString"], unfollowed := true, recurses := true, named := ["lychgate/lex.keys", "lychgate/lex.blanks", "lychgate/lex.pairs"], apart := false, laid := [("lychgate/lex.keys", laid_lychgate_lex_keys), ("lychgate/lex.blanks", laid_lychgate_lex_blanks), ("lychgate/lex.pairs", laid_lychgate_lex_pairs)], narrowed := true }
def LinkMoreUptoSaid : Prop := linkMoreUptoRow.holds Tryd.pinned (OpenSpec.upto linkMoreSpec)

/-- 'lychgatelaw08.LinkOrder', WHERE WHAT IT READS IS OF BULK AT MOST 1048576: true; the input reads as it did. -/
def linkOrderUptoRow : OpenClaim := { program := "ytnmpfpnldcgbaaadoor", sum := "96c988ca479f5c2a7d51345dc409b98d33db9d8c1c81931d1925322cb515a9d6", func := "lychgate/lychgatelaw08.LinkOrder", spec := "linkOrder", inPlace := ["internal/bytealg.IndexByteString"], unfollowed := true, recurses := true, named := ["lychgate/lex.blanks", "lychgate/lex.keys", "lychgate/lex.pairs"], apart := false, laid := [("lychgate/lex.keys", laid_lychgate_lex_keys), ("lychgate/lex.blanks", laid_lychgate_lex_blanks), ("lychgate/lex.pairs", laid_lychgate_lex_pairs)], narrowed := true }
def LinkOrderUptoSaid : Prop := linkOrderUptoRow.holds Tryd.pinned (OpenSpec.upto linkOrderSpec)

end Rows
end Go.Proofs.YtnmpfpnldcgbaaaDoor
