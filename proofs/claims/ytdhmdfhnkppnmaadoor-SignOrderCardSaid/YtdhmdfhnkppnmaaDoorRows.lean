/-
  NARROWER THAN 'FOR EVERY INPUT', by the rows' own cells (each row's printed sentence says how): SignAlone: laid · SignOrder: laid.
  DERIVED. THE GIVEN ROWS OF THIS SEAT. 2 by the template 'for every input the law returns true; each argument reads behind the call as it read before'; 0 by the template 'total and deterministic' (their statements: YtdhmdfhnkppnmaaDoorTotals.lean).
  GIVEN WITH THE SEED: the statements are not yours to turn. If you find one false, say at which input.
  Laid BY PROGRAM, IN A SANDBOX (cutbox-rows.mjs): the forced cells as the released guide's own fill.sh prints them over the translation 90e670ed874fe3d0… (all of the seat's roots in one cut). By AI agents, Wed Nov 11 2026. No macro, syntax, notation, axiom, sorry.
-/
import Derived.Test.YtdhmdfhnkppnmaaDoorChecked
import GoSem.Claim
import GoSem.ClaimJoined
import GoSem.ClaimMapViews
import Derived.JoinedTies
import Derived.KernelRfl
namespace Go.Proofs.YtdhmdfhnkppnmaaDoor
/- THE CELL 'sum', in the pinned program and in every row, IS THE sha256 OF THE DUMP (.gsa) THAT YtdhmdfhnkppnmaaDoorProg.lean LOADS. Nothing in Lean hashes anything: it is a label: what it is worth is what the hold of that sum in a sandbox is worth. -/
noncomputable def Tryd.pinned : Pinned := { name := "ytdhmdfhnkppnmaadoor", sum := "90e670ed874fe3d04452c777757cc2bb2ec9ceeb7d1393eca7f259cb75d1b21d", checked := Tryd.checked }
namespace Rows
def none {H : Type} : Left H := { results := [], args := [] }

/- WHAT THE LISTED PACKAGE-LEVEL VARIABLES READ AS WHEN THE CALL BEGINS. Each datum BY PROGRAM (the guide's laid-datum.mjs) off the statement by which the dump's own 'gosem.cut.vars' lays the variable. In a bare row this is a premise. The card (YtdhmdfhnkppnmaaDoorCards.lean) ties it to the program's text. -/
def laid_lychgate_lex_keys {H : Type} : DataW H := .agg [.lit (.string [116, 121, 112, 101]), .lit (.string [102, 110]), .lit (.string [111, 119, 110]), .lit (.string [99, 101, 108, 108]), .lit (.string [99, 111, 117, 110, 116, 101, 100]), .lit (.string [108, 111, 99, 107]), .lit (.string [103, 117, 97, 114, 100]), .lit (.string [119, 104, 101, 114, 101]), .lit (.string [105, 110, 116]), .lit (.string [109, 117, 116]), .lit (.string [102, 114, 101, 101]), .lit (.string [117, 110, 108, 111, 99, 107]), .lit (.string [105, 102]), .lit (.string [101, 108, 115, 101]), .lit (.string [119, 104, 105, 108, 101]), .lit (.string [114, 101, 116, 117, 114, 110]), .lit (.string [97, 98, 111, 114, 116]), .lit (.string [102, 111, 114, 107]), .lit (.string [110, 101, 119]), .lit (.string [97, 114, 114, 97, 121])]
def laid_lychgate_lex_blanks {H : Type} : DataW H := .agg [.lit (.int .u8 32), .lit (.int .u8 10)]
def laid_lychgate_lex_pairs {H : Type} : DataW H := .agg [.lit (.string [45, 62]), .lit (.string [60, 61]), .lit (.string [61, 61])]

/-- 'lychgatelaw12.SignAlone': WHATEVER THE INPUT: true; the input reads as it did. -/
def signAloneSpec : ChangeSpec := { name := "signAlone", fn := fun _ => fun
  | [d] => { results := [.lit (.bool true)], args := [d] }
  | _ => none }
def signAloneRow : OpenClaim := { program := "ytdhmdfhnkppnmaadoor", sum := "90e670ed874fe3d04452c777757cc2bb2ec9ceeb7d1393eca7f259cb75d1b21d", func := "lychgate/lychgatelaw12.SignAlone", spec := "signAlone", inPlace := ["internal/bytealg.IndexByteString"], unfollowed := true, recurses := true, named := ["lychgate/lex.blanks", "lychgate/lex.keys", "lychgate/lex.pairs"], apart := false, laid := [("lychgate/lex.keys", laid_lychgate_lex_keys), ("lychgate/lex.blanks", laid_lychgate_lex_blanks), ("lychgate/lex.pairs", laid_lychgate_lex_pairs)] }
def SignAloneSaid : Prop := signAloneRow.holds Tryd.pinned (OpenSpec.ofChange signAloneSpec)

/-- ITS FALSE NEIGHBOUR: 'it returns false'. Refute it at one input. -/
def signAloneWrong : ChangeSpec := { name := "signAlone", fn := fun _ => fun
  | [d] => { results := [.lit (.bool false)], args := [d] }
  | _ => none }
def SignAloneWrongFalsely : Prop := signAloneRow.holds Tryd.pinned (OpenSpec.ofChange signAloneWrong)

/-- 'lychgatelaw12.SignOrder': WHATEVER THE INPUT: true; the input reads as it did. -/
def signOrderSpec : ChangeSpec := { name := "signOrder", fn := fun _ => fun
  | [d] => { results := [.lit (.bool true)], args := [d] }
  | _ => none }
def signOrderRow : OpenClaim := { program := "ytdhmdfhnkppnmaadoor", sum := "90e670ed874fe3d04452c777757cc2bb2ec9ceeb7d1393eca7f259cb75d1b21d", func := "lychgate/lychgatelaw12.SignOrder", spec := "signOrder", inPlace := ["internal/bytealg.IndexByteString"], unfollowed := true, recurses := true, named := ["lychgate/lex.blanks", "lychgate/lex.keys", "lychgate/lex.pairs"], apart := false, laid := [("lychgate/lex.keys", laid_lychgate_lex_keys), ("lychgate/lex.blanks", laid_lychgate_lex_blanks), ("lychgate/lex.pairs", laid_lychgate_lex_pairs)] }
def SignOrderSaid : Prop := signOrderRow.holds Tryd.pinned (OpenSpec.ofChange signOrderSpec)

/-- ITS FALSE NEIGHBOUR: 'it returns false'. Refute it at one input. -/
def signOrderWrong : ChangeSpec := { name := "signOrder", fn := fun _ => fun
  | [d] => { results := [.lit (.bool false)], args := [d] }
  | _ => none }
def SignOrderWrongFalsely : Prop := signOrderRow.holds Tryd.pinned (OpenSpec.ofChange signOrderWrong)

/- THE SECOND FORM. 'bulk': how many values and letters a reading holds, each counted each time it is reached (what is shared counts as often as it is met; a slice's spare places count too). A statement '..UptoSaid' is the law's where the arguments, and the package variables that the reading takes, are together of bulk at most 1048576: NARROWER than '..Said'. Prove '..Said' where nothing that the law and all that it calls make is longer than what came in: it says more and counts as full. Else prove '..UptoSaid'. A law counts once. -/
mutual
def uptoBulk {H : Type} : DataW H → Nat
  | .lit (.string bytes) => bytes.length + 1
  | .lit _ => 1
  | .nil => 1
  | .ptr d => uptoBulk d + 1
  | .slice elems spare => uptoBulkAll elems + uptoBulkAll spare + 1
  | .agg parts => uptoBulkAll parts + 1
  | .iface _ d => uptoBulk d + 1
  | .map entries => uptoBulkEntries entries + 1
  | .held _ => 1
def uptoBulkAll {H : Type} : List (DataW H) → Nat
  | [] => 0
  | d :: r => uptoBulk d + uptoBulkAll r
def uptoBulkEntries {H : Type} : List (Lit × DataW H) → Nat
  | [] => 0
  | x :: r => uptoBulkEntry x + uptoBulkEntries r
def uptoBulkEntry {H : Type} : Lit × DataW H → Nat
  | (.string bytes, d) => bytes.length + uptoBulk d + 1
  | (_, d) => uptoBulk d + 1
 end
def uptoSmall : (H : Type) → List (DataW H) → Bool := fun _ ds => decide (uptoBulkAll ds ≤ 1048576)
def OpenSpec.upto (s : _root_.Go.ChangeSpec) : _root_.Go.OpenSpec := { _root_.Go.OpenSpec.ofChange s with cond := some uptoSmall }

/-- 'lychgatelaw12.SignAlone', WHERE WHAT IT READS IS OF BULK AT MOST 1048576: true; the input reads as it did. -/
def signAloneUptoRow : OpenClaim := { program := "ytdhmdfhnkppnmaadoor", sum := "90e670ed874fe3d04452c777757cc2bb2ec9ceeb7d1393eca7f259cb75d1b21d", func := "lychgate/lychgatelaw12.SignAlone", spec := "signAlone", inPlace := ["internal/bytealg.IndexByteString"], unfollowed := true, recurses := true, named := ["lychgate/lex.blanks", "lychgate/lex.keys", "lychgate/lex.pairs"], apart := false, laid := [("lychgate/lex.keys", laid_lychgate_lex_keys), ("lychgate/lex.blanks", laid_lychgate_lex_blanks), ("lychgate/lex.pairs", laid_lychgate_lex_pairs)], narrowed := true }
def SignAloneUptoSaid : Prop := signAloneUptoRow.holds Tryd.pinned (OpenSpec.upto signAloneSpec)

/-- 'lychgatelaw12.SignOrder', WHERE WHAT IT READS IS OF BULK AT MOST 1048576: true; the input reads as it did. -/
def signOrderUptoRow : OpenClaim := { program := "ytdhmdfhnkppnmaadoor", sum := "90e670ed874fe3d04452c777757cc2bb2ec9ceeb7d1393eca7f259cb75d1b21d", func := "lychgate/lychgatelaw12.SignOrder", spec := "signOrder", inPlace := ["internal/bytealg.IndexByteString"], unfollowed := true, recurses := true, named := ["lychgate/lex.blanks", "lychgate/lex.keys", "lychgate/lex.pairs"], apart := false, laid := [("lychgate/lex.keys", laid_lychgate_lex_keys), ("lychgate/lex.blanks", laid_lychgate_lex_blanks), ("lychgate/lex.pairs", laid_lychgate_lex_pairs)], narrowed := true }
def SignOrderUptoSaid : Prop := signOrderUptoRow.holds Tryd.pinned (OpenSpec.upto signOrderSpec)

end Rows
end Go.Proofs.YtdhmdfhnkppnmaaDoor
