/-
  NARROWER THAN 'FOR EVERY INPUT', by the rows' own cells (each row's printed sentence says how): LexTokens: laid · LexNames: laid · LexCovers: laid · LexAgain: laid · LexFirst: laid · LexValues: laid · LexJoined: laid.
  DERIVED. THE GIVEN ROWS OF THIS SEAT. 7 by the template 'for every input the law returns true; each argument reads behind the call as it read before'; 0 by the template 'total and deterministic' (their statements: YtafhpckhjncecaaDoorTotals.lean).
  GIVEN WITH THE SEED: the statements are not yours to turn. If you find one false, say at which input.
  Laid BY PROGRAM, IN A SANDBOX (cutbox-rows.mjs): the forced cells as the released guide's own fill.sh prints them over the translation 179ef6de0b93e1b5… (all of the seat's roots in one cut). By AI agents, Wed Nov 11 2026. No macro, syntax, notation, axiom, sorry.
-/
import Derived.Test.YtafhpckhjncecaaDoorChecked
import GoSem.Claim
import GoSem.ClaimJoined
import GoSem.ClaimMapViews
import Derived.JoinedTies
import Derived.KernelRfl
namespace Go.Proofs.YtafhpckhjncecaaDoor
/- THE CELL 'sum', in the pinned program and in every row, IS THE sha256 OF THE DUMP (.gsa) THAT YtafhpckhjncecaaDoorProg.lean LOADS. Nothing in Lean hashes anything: it is a label: what it is worth is what the hold of that sum in a sandbox is worth. -/
noncomputable def Tryd.pinned : Pinned := { name := "ytafhpckhjncecaadoor", sum := "179ef6de0b93e1b595b74593c2a707730098ba27670e8fdd3eb76f2139bff073", checked := Tryd.checked }
namespace Rows
def none {H : Type} : Left H := { results := [], args := [] }

/- WHAT THE LISTED PACKAGE-LEVEL VARIABLES READ AS WHEN THE CALL BEGINS. Each datum BY PROGRAM (the guide's laid-datum.mjs) off the statement by which the dump's own 'gosem.cut.vars' lays the variable. In a bare row this is a premise. The card (YtafhpckhjncecaaDoorCards.lean) ties it to the program's text. -/
def laid_lychgate_lex_keys {H : Type} : DataW H := .agg [.lit (.string [116, 121, 112, 101]), .lit (.string [102, 110]), .lit (.string [111, 119, 110]), .lit (.string [99, 101, 108, 108]), .lit (.string [99, 111, 117, 110, 116, 101, 100]), .lit (.string [108, 111, 99, 107]), .lit (.string [103, 117, 97, 114, 100]), .lit (.string [119, 104, 101, 114, 101]), .lit (.string [105, 110, 116]), .lit (.string [109, 117, 116]), .lit (.string [102, 114, 101, 101]), .lit (.string [117, 110, 108, 111, 99, 107]), .lit (.string [105, 102]), .lit (.string [101, 108, 115, 101]), .lit (.string [119, 104, 105, 108, 101]), .lit (.string [114, 101, 116, 117, 114, 110]), .lit (.string [97, 98, 111, 114, 116]), .lit (.string [102, 111, 114, 107]), .lit (.string [110, 101, 119]), .lit (.string [97, 114, 114, 97, 121])]
def laid_lychgate_lex_blanks {H : Type} : DataW H := .agg [.lit (.int .u8 32), .lit (.int .u8 10)]
def laid_lychgate_lex_pairs {H : Type} : DataW H := .agg [.lit (.string [45, 62]), .lit (.string [60, 61]), .lit (.string [61, 61])]

/-- 'lychgatelaw01.LexTokens': WHATEVER THE INPUT: true; the input reads as it did. -/
def lexTokensSpec : ChangeSpec := { name := "lexTokens", fn := fun _ => fun
  | [d] => { results := [.lit (.bool true)], args := [d] }
  | _ => none }
def lexTokensRow : OpenClaim := { program := "ytafhpckhjncecaadoor", sum := "179ef6de0b93e1b595b74593c2a707730098ba27670e8fdd3eb76f2139bff073", func := "lychgate/lychgatelaw01.LexTokens", spec := "lexTokens", inPlace := ["internal/bytealg.IndexByteString"], unfollowed := true, recurses := true, named := ["lychgate/lex.blanks", "lychgate/lex.keys", "lychgate/lex.pairs"], apart := false, laid := [("lychgate/lex.keys", laid_lychgate_lex_keys), ("lychgate/lex.blanks", laid_lychgate_lex_blanks), ("lychgate/lex.pairs", laid_lychgate_lex_pairs)] }
def LexTokensSaid : Prop := lexTokensRow.holds Tryd.pinned (OpenSpec.ofChange lexTokensSpec)

/-- ITS FALSE NEIGHBOUR: 'it returns false'. Refute it at one input. -/
def lexTokensWrong : ChangeSpec := { name := "lexTokens", fn := fun _ => fun
  | [d] => { results := [.lit (.bool false)], args := [d] }
  | _ => none }
def LexTokensWrongFalsely : Prop := lexTokensRow.holds Tryd.pinned (OpenSpec.ofChange lexTokensWrong)

/-- 'lychgatelaw01.LexNames': WHATEVER THE INPUT: true; the input reads as it did. -/
def lexNamesSpec : ChangeSpec := { name := "lexNames", fn := fun _ => fun
  | [d] => { results := [.lit (.bool true)], args := [d] }
  | _ => none }
def lexNamesRow : OpenClaim := { program := "ytafhpckhjncecaadoor", sum := "179ef6de0b93e1b595b74593c2a707730098ba27670e8fdd3eb76f2139bff073", func := "lychgate/lychgatelaw01.LexNames", spec := "lexNames", inPlace := ["internal/bytealg.IndexByteString"], unfollowed := true, recurses := true, named := ["lychgate/lex.blanks", "lychgate/lex.keys", "lychgate/lex.pairs"], apart := false, laid := [("lychgate/lex.keys", laid_lychgate_lex_keys), ("lychgate/lex.blanks", laid_lychgate_lex_blanks), ("lychgate/lex.pairs", laid_lychgate_lex_pairs)] }
def LexNamesSaid : Prop := lexNamesRow.holds Tryd.pinned (OpenSpec.ofChange lexNamesSpec)

/-- ITS FALSE NEIGHBOUR: 'it returns false'. Refute it at one input. -/
def lexNamesWrong : ChangeSpec := { name := "lexNames", fn := fun _ => fun
  | [d] => { results := [.lit (.bool false)], args := [d] }
  | _ => none }
def LexNamesWrongFalsely : Prop := lexNamesRow.holds Tryd.pinned (OpenSpec.ofChange lexNamesWrong)

/-- 'lychgatelaw01.LexCovers': WHATEVER THE INPUT: true; the input reads as it did. -/
def lexCoversSpec : ChangeSpec := { name := "lexCovers", fn := fun _ => fun
  | [d] => { results := [.lit (.bool true)], args := [d] }
  | _ => none }
def lexCoversRow : OpenClaim := { program := "ytafhpckhjncecaadoor", sum := "179ef6de0b93e1b595b74593c2a707730098ba27670e8fdd3eb76f2139bff073", func := "lychgate/lychgatelaw01.LexCovers", spec := "lexCovers", inPlace := ["internal/bytealg.IndexByteString"], unfollowed := true, recurses := true, named := ["lychgate/lex.blanks", "lychgate/lex.keys", "lychgate/lex.pairs"], apart := false, laid := [("lychgate/lex.keys", laid_lychgate_lex_keys), ("lychgate/lex.blanks", laid_lychgate_lex_blanks), ("lychgate/lex.pairs", laid_lychgate_lex_pairs)] }
def LexCoversSaid : Prop := lexCoversRow.holds Tryd.pinned (OpenSpec.ofChange lexCoversSpec)

/-- ITS FALSE NEIGHBOUR: 'it returns false'. Refute it at one input. -/
def lexCoversWrong : ChangeSpec := { name := "lexCovers", fn := fun _ => fun
  | [d] => { results := [.lit (.bool false)], args := [d] }
  | _ => none }
def LexCoversWrongFalsely : Prop := lexCoversRow.holds Tryd.pinned (OpenSpec.ofChange lexCoversWrong)

/-- 'lychgatelaw01.LexAgain': WHATEVER THE INPUT: true; the input reads as it did. -/
def lexAgainSpec : ChangeSpec := { name := "lexAgain", fn := fun _ => fun
  | [d] => { results := [.lit (.bool true)], args := [d] }
  | _ => none }
def lexAgainRow : OpenClaim := { program := "ytafhpckhjncecaadoor", sum := "179ef6de0b93e1b595b74593c2a707730098ba27670e8fdd3eb76f2139bff073", func := "lychgate/lychgatelaw01.LexAgain", spec := "lexAgain", inPlace := ["internal/bytealg.IndexByteString"], unfollowed := true, recurses := true, named := ["lychgate/lex.blanks", "lychgate/lex.keys", "lychgate/lex.pairs"], apart := false, laid := [("lychgate/lex.keys", laid_lychgate_lex_keys), ("lychgate/lex.blanks", laid_lychgate_lex_blanks), ("lychgate/lex.pairs", laid_lychgate_lex_pairs)] }
def LexAgainSaid : Prop := lexAgainRow.holds Tryd.pinned (OpenSpec.ofChange lexAgainSpec)

/-- ITS FALSE NEIGHBOUR: 'it returns false'. Refute it at one input. -/
def lexAgainWrong : ChangeSpec := { name := "lexAgain", fn := fun _ => fun
  | [d] => { results := [.lit (.bool false)], args := [d] }
  | _ => none }
def LexAgainWrongFalsely : Prop := lexAgainRow.holds Tryd.pinned (OpenSpec.ofChange lexAgainWrong)

/-- 'lychgatelaw01.LexFirst': WHATEVER THE INPUT: true; the input reads as it did. -/
def lexFirstSpec : ChangeSpec := { name := "lexFirst", fn := fun _ => fun
  | [d] => { results := [.lit (.bool true)], args := [d] }
  | _ => none }
def lexFirstRow : OpenClaim := { program := "ytafhpckhjncecaadoor", sum := "179ef6de0b93e1b595b74593c2a707730098ba27670e8fdd3eb76f2139bff073", func := "lychgate/lychgatelaw01.LexFirst", spec := "lexFirst", inPlace := ["internal/bytealg.IndexByteString"], unfollowed := true, recurses := true, named := ["lychgate/lex.blanks", "lychgate/lex.keys", "lychgate/lex.pairs"], apart := false, laid := [("lychgate/lex.keys", laid_lychgate_lex_keys), ("lychgate/lex.blanks", laid_lychgate_lex_blanks), ("lychgate/lex.pairs", laid_lychgate_lex_pairs)] }
def LexFirstSaid : Prop := lexFirstRow.holds Tryd.pinned (OpenSpec.ofChange lexFirstSpec)

/-- ITS FALSE NEIGHBOUR: 'it returns false'. Refute it at one input. -/
def lexFirstWrong : ChangeSpec := { name := "lexFirst", fn := fun _ => fun
  | [d] => { results := [.lit (.bool false)], args := [d] }
  | _ => none }
def LexFirstWrongFalsely : Prop := lexFirstRow.holds Tryd.pinned (OpenSpec.ofChange lexFirstWrong)

/-- 'lychgatelaw01.LexValues': WHATEVER THE INPUT: true; the input reads as it did. -/
def lexValuesSpec : ChangeSpec := { name := "lexValues", fn := fun _ => fun
  | [d] => { results := [.lit (.bool true)], args := [d] }
  | _ => none }
def lexValuesRow : OpenClaim := { program := "ytafhpckhjncecaadoor", sum := "179ef6de0b93e1b595b74593c2a707730098ba27670e8fdd3eb76f2139bff073", func := "lychgate/lychgatelaw01.LexValues", spec := "lexValues", inPlace := ["internal/bytealg.IndexByteString"], unfollowed := true, recurses := true, named := ["lychgate/lex.blanks", "lychgate/lex.keys", "lychgate/lex.pairs"], apart := false, laid := [("lychgate/lex.keys", laid_lychgate_lex_keys), ("lychgate/lex.blanks", laid_lychgate_lex_blanks), ("lychgate/lex.pairs", laid_lychgate_lex_pairs)] }
def LexValuesSaid : Prop := lexValuesRow.holds Tryd.pinned (OpenSpec.ofChange lexValuesSpec)

/-- ITS FALSE NEIGHBOUR: 'it returns false'. Refute it at one input. -/
def lexValuesWrong : ChangeSpec := { name := "lexValues", fn := fun _ => fun
  | [d] => { results := [.lit (.bool false)], args := [d] }
  | _ => none }
def LexValuesWrongFalsely : Prop := lexValuesRow.holds Tryd.pinned (OpenSpec.ofChange lexValuesWrong)

/-- 'lychgatelaw01.LexJoined': WHATEVER THE INPUT: true; the input reads as it did. -/
def lexJoinedSpec : ChangeSpec := { name := "lexJoined", fn := fun _ => fun
  | [d1, d2] => { results := [.lit (.bool true)], args := [d1, d2] }
  | _ => none }
def lexJoinedRow : OpenClaim := { program := "ytafhpckhjncecaadoor", sum := "179ef6de0b93e1b595b74593c2a707730098ba27670e8fdd3eb76f2139bff073", func := "lychgate/lychgatelaw01.LexJoined", spec := "lexJoined", inPlace := ["internal/bytealg.IndexByteString"], unfollowed := true, recurses := true, named := ["lychgate/lex.blanks", "lychgate/lex.keys", "lychgate/lex.pairs"], apart := false, laid := [("lychgate/lex.keys", laid_lychgate_lex_keys), ("lychgate/lex.blanks", laid_lychgate_lex_blanks), ("lychgate/lex.pairs", laid_lychgate_lex_pairs)] }
def LexJoinedSaid : Prop := lexJoinedRow.holds Tryd.pinned (OpenSpec.ofChange lexJoinedSpec)

/-- ITS FALSE NEIGHBOUR: 'it returns false'. Refute it at one input. -/
def lexJoinedWrong : ChangeSpec := { name := "lexJoined", fn := fun _ => fun
  | [d1, d2] => { results := [.lit (.bool false)], args := [d1, d2] }
  | _ => none }
def LexJoinedWrongFalsely : Prop := lexJoinedRow.holds Tryd.pinned (OpenSpec.ofChange lexJoinedWrong)

/- THE SECOND FORM. 'bulk': how many values and letters a reading holds, each counted each time it is reached (what is shared counts as often as it is met; a slice's spare places count too). A statement '..UptoSaid' is the law's where the arguments, and the package variables that the reading takes, are together of bulk at most 1048576: NARROWER than '..Said'. Prove '..Said' where nothing that the law and all that it calls make is longer than what came in: it says more and counts as full. Else prove '..UptoSaid'. A law counts once. -/
mutual
def uptoBulk {H : Type} : DataW H → Nat
  | .lit (.string bytes) => bytes.length + 1
  | .lit _ => 1
  | .nil => 1
  | .ptr d => uptoBulk d + 1
  | .slice elems spare => uptoBulkAll elems + uptoBulkAll spare + 1
  | .agg parts => uptoBulkAll parts + 1
  | .iface _ d => uptoBulk d + 1
  | .map entries => uptoBulkEntries entries + 1
  | .held _ => 1
def uptoBulkAll {H : Type} : List (DataW H) → Nat
  | [] => 0
  | d :: r => uptoBulk d + uptoBulkAll r
def uptoBulkEntries {H : Type} : List (Lit × DataW H) → Nat
  | [] => 0
  | x :: r => uptoBulkEntry x + uptoBulkEntries r
def uptoBulkEntry {H : Type} : Lit × DataW H → Nat
  | (.string bytes, d) => bytes.length + uptoBulk d + 1
  | (_, d) => uptoBulk d + 1
 end
def uptoSmall : (H : Type) → List (DataW H) → Bool := fun _ ds => decide (uptoBulkAll ds ≤ 1048576)
def OpenSpec.upto (s : _root_.Go.ChangeSpec) : _root_.Go.OpenSpec := { _root_.Go.OpenSpec.ofChange s with cond := some uptoSmall }

/-- 'lychgatelaw01.LexTokens', WHERE WHAT IT READS IS OF BULK AT MOST 1048576: true; the input reads as it did. -/
def lexTokensUptoRow : OpenClaim := { program := "ytafhpckhjncecaadoor", sum := "179ef6de0b93e1b595b74593c2a707730098ba27670e8fdd3eb76f2139bff073", func := "lychgate/lychgatelaw01.LexTokens", spec := "lexTokens", inPlace := ["internal/bytealg.IndexByteString"], unfollowed := true, recurses := true, named := ["lychgate/lex.blanks", "lychgate/lex.keys", "lychgate/lex.pairs"], apart := false, laid := [("lychgate/lex.keys", laid_lychgate_lex_keys), ("lychgate/lex.blanks", laid_lychgate_lex_blanks), ("lychgate/lex.pairs", laid_lychgate_lex_pairs)], narrowed := true }
def LexTokensUptoSaid : Prop := lexTokensUptoRow.holds Tryd.pinned (OpenSpec.upto lexTokensSpec)

/-- 'lychgatelaw01.LexNames', WHERE WHAT IT READS IS OF BULK AT MOST 1048576: true; the input reads as it did. -/
def lexNamesUptoRow : OpenClaim := { program := "ytafhpckhjncecaadoor", sum := "179ef6de0b93e1b595b74593c2a707730098ba27670e8fdd3eb76f2139bff073", func := "lychgate/lychgatelaw01.LexNames", spec := "lexNames", inPlace := ["internal/bytealg.IndexByteString"], unfollowed := true, recurses := true, named := ["lychgate/lex.blanks", "lychgate/lex.keys", "lychgate/lex.pairs"], apart := false, laid := [("lychgate/lex.keys", laid_lychgate_lex_keys), ("lychgate/lex.blanks", laid_lychgate_lex_blanks), ("lychgate/lex.pairs", laid_lychgate_lex_pairs)], narrowed := true }
def LexNamesUptoSaid : Prop := lexNamesUptoRow.holds Tryd.pinned (OpenSpec.upto lexNamesSpec)

/-- 'lychgatelaw01.LexCovers', WHERE WHAT IT READS IS OF BULK AT MOST 1048576: true; the input reads as it did. -/
def lexCoversUptoRow : OpenClaim := { program := "ytafhpckhjncecaadoor", sum := "179ef6de0b93e1b595b74593c2a707730098ba27670e8fdd3eb76f2139bff073", func := "lychgate/lychgatelaw01.LexCovers", spec := "lexCovers", inPlace := ["internal/bytealg.IndexByteString"], unfollowed := true, recurses := true, named := ["lychgate/lex.blanks", "lychgate/lex.keys", "lychgate/lex.pairs"], apart := false, laid := [("lychgate/lex.keys", laid_lychgate_lex_keys), ("lychgate/lex.blanks", laid_lychgate_lex_blanks), ("lychgate/lex.pairs", laid_lychgate_lex_pairs)], narrowed := true }
def LexCoversUptoSaid : Prop := lexCoversUptoRow.holds Tryd.pinned (OpenSpec.upto lexCoversSpec)

/-- 'lychgatelaw01.LexAgain', WHERE WHAT IT READS IS OF BULK AT MOST 1048576: true; the input reads as it did. -/
def lexAgainUptoRow : OpenClaim := { program := "ytafhpckhjncecaadoor", sum := "179ef6de0b93e1b595b74593c2a707730098ba27670e8fdd3eb76f2139bff073", func := "lychgate/lychgatelaw01.LexAgain", spec := "lexAgain", inPlace := ["internal/bytealg.IndexByteString"], unfollowed := true, recurses := true, named := ["lychgate/lex.blanks", "lychgate/lex.keys", "lychgate/lex.pairs"], apart := false, laid := [("lychgate/lex.keys", laid_lychgate_lex_keys), ("lychgate/lex.blanks", laid_lychgate_lex_blanks), ("lychgate/lex.pairs", laid_lychgate_lex_pairs)], narrowed := true }
def LexAgainUptoSaid : Prop := lexAgainUptoRow.holds Tryd.pinned (OpenSpec.upto lexAgainSpec)

/-- 'lychgatelaw01.LexFirst', WHERE WHAT IT READS IS OF BULK AT MOST 1048576: true; the input reads as it did. -/
def lexFirstUptoRow : OpenClaim := { program := "ytafhpckhjncecaadoor", sum := "179ef6de0b93e1b595b74593c2a707730098ba27670e8fdd3eb76f2139bff073", func := "lychgate/lychgatelaw01.LexFirst", spec := "lexFirst", inPlace := ["internal/bytealg.IndexByteString"], unfollowed := true, recurses := true, named := ["lychgate/lex.blanks", "lychgate/lex.keys", "lychgate/lex.pairs"], apart := false, laid := [("lychgate/lex.keys", laid_lychgate_lex_keys), ("lychgate/lex.blanks", laid_lychgate_lex_blanks), ("lychgate/lex.pairs", laid_lychgate_lex_pairs)], narrowed := true }
def LexFirstUptoSaid : Prop := lexFirstUptoRow.holds Tryd.pinned (OpenSpec.upto lexFirstSpec)

/-- 'lychgatelaw01.LexValues', WHERE WHAT IT READS IS OF BULK AT MOST 1048576: true; the input reads as it did. -/
def lexValuesUptoRow : OpenClaim := { program := "ytafhpckhjncecaadoor", sum := "179ef6de0b93e1b595b74593c2a707730098ba27670e8fdd3eb76f2139bff073", func := "lychgate/lychgatelaw01.LexValues", spec := "lexValues", inPlace := ["internal/bytealg.IndexByteString"], unfollowed := true, recurses := true, named := ["lychgate/lex.blanks", "lychgate/lex.keys", "lychgate/lex.pairs"], apart := false, laid := [("lychgate/lex.keys", laid_lychgate_lex_keys), ("lychgate/lex.blanks", laid_lychgate_lex_blanks), ("lychgate/lex.pairs", laid_lychgate_lex_pairs)], narrowed := true }
def LexValuesUptoSaid : Prop := lexValuesUptoRow.holds Tryd.pinned (OpenSpec.upto lexValuesSpec)

/-- 'lychgatelaw01.LexJoined', WHERE WHAT IT READS IS OF BULK AT MOST 1048576: true; the input reads as it did. -/
def lexJoinedUptoRow : OpenClaim := { program := "ytafhpckhjncecaadoor", sum := "179ef6de0b93e1b595b74593c2a707730098ba27670e8fdd3eb76f2139bff073", func := "lychgate/lychgatelaw01.LexJoined", spec := "lexJoined", inPlace := ["internal/bytealg.IndexByteString"], unfollowed := true, recurses := true, named := ["lychgate/lex.blanks", "lychgate/lex.keys", "lychgate/lex.pairs"], apart := false, laid := [("lychgate/lex.keys", laid_lychgate_lex_keys), ("lychgate/lex.blanks", laid_lychgate_lex_blanks), ("lychgate/lex.pairs", laid_lychgate_lex_pairs)], narrowed := true }
def LexJoinedUptoSaid : Prop := lexJoinedUptoRow.holds Tryd.pinned (OpenSpec.upto lexJoinedSpec)

end Rows
end Go.Proofs.YtafhpckhjncecaaDoor
