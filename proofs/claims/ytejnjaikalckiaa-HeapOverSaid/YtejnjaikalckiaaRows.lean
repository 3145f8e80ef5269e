/-
  No cell of these rows narrows 'for every input' (looked for: loops, veiled, ifaces, maps, wideKeys, modest, calm, conditions, laid).
  DERIVED. THE GIVEN ROWS OF THIS SEAT. 5 by the template 'for every input the law returns true; each argument reads behind the call as it read before'; 0 by the template 'total and deterministic' (their statements: YtejnjaikalckiaaTotals.lean).
  GIVEN WITH THE SEED: the statements are not yours to turn. If you find one false, say at which input.
  Laid BY PROGRAM, IN A SANDBOX (cutbox-rows.mjs): the forced cells as the released guide's own fill.sh prints them over the translation f2adadeda88810e6… (all of the seat's roots in one cut). By AI agents, Wed Nov 11 2026. No macro, syntax, notation, axiom, sorry.
-/
import Derived.Test.YtejnjaikalckiaaChecked
import GoSem.Claim
import GoSem.ClaimJoined
import GoSem.ClaimMapViews
import Derived.JoinedTies
import Derived.KernelRfl
namespace Go.Proofs.Ytejnjaikalckiaa
/- THE CELL 'sum', in the pinned program and in every row, IS THE sha256 OF THE DUMP (.gsa) THAT YtejnjaikalckiaaProg.lean LOADS. Nothing in Lean hashes anything: it is a label: what it is worth is what the hold of that sum in a sandbox is worth. -/
noncomputable def Try.pinned : Pinned := { name := "ytejnjaikalckiaa", sum := "f2adadeda88810e69b6befa42bf36b7a1970abafed5a3cbfe72cfcc76e292ff2", checked := Try.checked }
namespace Rows
def none {H : Type} : Left H := { results := [], args := [] }

/-- 'lychgatelaw13.HeapEntails': WHATEVER THE INPUT: true; the input reads as it did. -/
def heapEntailsSpec : ChangeSpec := { name := "heapEntails", fn := fun _ => fun
  | [d1, d2] => { results := [.lit (.bool true)], args := [d1, d2] }
  | _ => none }
def heapEntailsRow : OpenClaim := { program := "ytejnjaikalckiaa", sum := "f2adadeda88810e69b6befa42bf36b7a1970abafed5a3cbfe72cfcc76e292ff2", func := "lychgate/lychgatelaw13.HeapEntails", spec := "heapEntails", unfollowed := true, recurses := true, apart := false }
def HeapEntailsSaid : Prop := heapEntailsRow.holds Try.pinned (OpenSpec.ofChange heapEntailsSpec)

/-- ITS FALSE NEIGHBOUR: 'it returns false'. Refute it at one input. -/
def heapEntailsWrong : ChangeSpec := { name := "heapEntails", fn := fun _ => fun
  | [d1, d2] => { results := [.lit (.bool false)], args := [d1, d2] }
  | _ => none }
def HeapEntailsWrongFalsely : Prop := heapEntailsRow.holds Try.pinned (OpenSpec.ofChange heapEntailsWrong)

/-- 'lychgatelaw13.HeapCopies': WHATEVER THE INPUT: true; the input reads as it did. -/
def heapCopiesSpec : ChangeSpec := { name := "heapCopies", fn := fun _ => fun
  | [d1, d2] => { results := [.lit (.bool true)], args := [d1, d2] }
  | _ => none }
def heapCopiesRow : OpenClaim := { program := "ytejnjaikalckiaa", sum := "f2adadeda88810e69b6befa42bf36b7a1970abafed5a3cbfe72cfcc76e292ff2", func := "lychgate/lychgatelaw13.HeapCopies", spec := "heapCopies", unfollowed := true, recurses := true, apart := false }
def HeapCopiesSaid : Prop := heapCopiesRow.holds Try.pinned (OpenSpec.ofChange heapCopiesSpec)

/-- ITS FALSE NEIGHBOUR: 'it returns false'. Refute it at one input. -/
def heapCopiesWrong : ChangeSpec := { name := "heapCopies", fn := fun _ => fun
  | [d1, d2] => { results := [.lit (.bool false)], args := [d1, d2] }
  | _ => none }
def HeapCopiesWrongFalsely : Prop := heapCopiesRow.holds Try.pinned (OpenSpec.ofChange heapCopiesWrong)

/-- 'lychgatelaw13.HeapOver': WHATEVER THE INPUT: true; the input reads as it did. -/
def heapOverSpec : ChangeSpec := { name := "heapOver", fn := fun _ => fun
  | [d1, d2, d3] => { results := [.lit (.bool true)], args := [d1, d2, d3] }
  | _ => none }
def heapOverRow : OpenClaim := { program := "ytejnjaikalckiaa", sum := "f2adadeda88810e69b6befa42bf36b7a1970abafed5a3cbfe72cfcc76e292ff2", func := "lychgate/lychgatelaw13.HeapOver", spec := "heapOver", unfollowed := true, recurses := true, apart := false }
def HeapOverSaid : Prop := heapOverRow.holds Try.pinned (OpenSpec.ofChange heapOverSpec)

/-- ITS FALSE NEIGHBOUR: 'it returns false'. Refute it at one input. -/
def heapOverWrong : ChangeSpec := { name := "heapOver", fn := fun _ => fun
  | [d1, d2, d3] => { results := [.lit (.bool false)], args := [d1, d2, d3] }
  | _ => none }
def HeapOverWrongFalsely : Prop := heapOverRow.holds Try.pinned (OpenSpec.ofChange heapOverWrong)

/-- 'lychgatelaw13.HeapRights': WHATEVER THE INPUT: true; the input reads as it did. -/
def heapRightsSpec : ChangeSpec := { name := "heapRights", fn := fun _ => fun
  | [d] => { results := [.lit (.bool true)], args := [d] }
  | _ => none }
def heapRightsRow : OpenClaim := { program := "ytejnjaikalckiaa", sum := "f2adadeda88810e69b6befa42bf36b7a1970abafed5a3cbfe72cfcc76e292ff2", func := "lychgate/lychgatelaw13.HeapRights", spec := "heapRights", unfollowed := true, recurses := true, apart := false }
def HeapRightsSaid : Prop := heapRightsRow.holds Try.pinned (OpenSpec.ofChange heapRightsSpec)

/-- ITS FALSE NEIGHBOUR: 'it returns false'. Refute it at one input. -/
def heapRightsWrong : ChangeSpec := { name := "heapRights", fn := fun _ => fun
  | [d] => { results := [.lit (.bool false)], args := [d] }
  | _ => none }
def HeapRightsWrongFalsely : Prop := heapRightsRow.holds Try.pinned (OpenSpec.ofChange heapRightsWrong)

/-- 'lychgatelaw13.HeapFree': WHATEVER THE INPUT: true; the input reads as it did. -/
def heapFreeSpec : ChangeSpec := { name := "heapFree", fn := fun _ => fun
  | [d1, d2] => { results := [.lit (.bool true)], args := [d1, d2] }
  | _ => none }
def heapFreeRow : OpenClaim := { program := "ytejnjaikalckiaa", sum := "f2adadeda88810e69b6befa42bf36b7a1970abafed5a3cbfe72cfcc76e292ff2", func := "lychgate/lychgatelaw13.HeapFree", spec := "heapFree", unfollowed := true, recurses := true, apart := false }
def HeapFreeSaid : Prop := heapFreeRow.holds Try.pinned (OpenSpec.ofChange heapFreeSpec)

/-- ITS FALSE NEIGHBOUR: 'it returns false'. Refute it at one input. -/
def heapFreeWrong : ChangeSpec := { name := "heapFree", fn := fun _ => fun
  | [d1, d2] => { results := [.lit (.bool false)], args := [d1, d2] }
  | _ => none }
def HeapFreeWrongFalsely : Prop := heapFreeRow.holds Try.pinned (OpenSpec.ofChange heapFreeWrong)

/- THE SECOND FORM. 'bulk': how many values and letters a reading holds, each counted each time it is reached (what is shared counts as often as it is met; a slice's spare places count too). A statement '..UptoSaid' is the law's where the arguments, and the package variables that the reading takes, are together of bulk at most 1048576: NARROWER than '..Said'. Prove '..Said' where nothing that the law and all that it calls make is longer than what came in: it says more and counts as full. Else prove '..UptoSaid'. A law counts once. -/
mutual
def uptoBulk {H : Type} : DataW H → Nat
  | .lit (.string bytes) => bytes.length + 1
  | .lit _ => 1
  | .nil => 1
  | .ptr d => uptoBulk d + 1
  | .slice elems spare => uptoBulkAll elems + uptoBulkAll spare + 1
  | .agg parts => uptoBulkAll parts + 1
  | .iface _ d => uptoBulk d + 1
  | .map entries => uptoBulkEntries entries + 1
  | .held _ => 1
def uptoBulkAll {H : Type} : List (DataW H) → Nat
  | [] => 0
  | d :: r => uptoBulk d + uptoBulkAll r
def uptoBulkEntries {H : Type} : List (Lit × DataW H) → Nat
  | [] => 0
  | x :: r => uptoBulkEntry x + uptoBulkEntries r
def uptoBulkEntry {H : Type} : Lit × DataW H → Nat
  | (.string bytes, d) => bytes.length + uptoBulk d + 1
  | (_, d) => uptoBulk d + 1
 end
def uptoSmall : (H : Type) → List (DataW H) → Bool := fun _ ds => decide (uptoBulkAll ds ≤ 1048576)
def OpenSpec.upto (s : _root_.Go.ChangeSpec) : _root_.Go.OpenSpec := { _root_.Go.OpenSpec.ofChange s with cond := some uptoSmall }

/-- 'lychgatelaw13.HeapEntails', WHERE WHAT IT READS IS OF BULK AT MOST 1048576: true; the input reads as it did. -/
def heapEntailsUptoRow : OpenClaim := { program := "ytejnjaikalckiaa", sum := "f2adadeda88810e69b6befa42bf36b7a1970abafed5a3cbfe72cfcc76e292ff2", func := "lychgate/lychgatelaw13.HeapEntails", spec := "heapEntails", unfollowed := true, recurses := true, apart := false, narrowed := true }
def HeapEntailsUptoSaid : Prop := heapEntailsUptoRow.holds Try.pinned (OpenSpec.upto heapEntailsSpec)

/-- 'lychgatelaw13.HeapCopies', WHERE WHAT IT READS IS OF BULK AT MOST 1048576: true; the input reads as it did. -/
def heapCopiesUptoRow : OpenClaim := { program := "ytejnjaikalckiaa", sum := "f2adadeda88810e69b6befa42bf36b7a1970abafed5a3cbfe72cfcc76e292ff2", func := "lychgate/lychgatelaw13.HeapCopies", spec := "heapCopies", unfollowed := true, recurses := true, apart := false, narrowed := true }
def HeapCopiesUptoSaid : Prop := heapCopiesUptoRow.holds Try.pinned (OpenSpec.upto heapCopiesSpec)

/-- 'lychgatelaw13.HeapOver', WHERE WHAT IT READS IS OF BULK AT MOST 1048576: true; the input reads as it did. -/
def heapOverUptoRow : OpenClaim := { program := "ytejnjaikalckiaa", sum := "f2adadeda88810e69b6befa42bf36b7a1970abafed5a3cbfe72cfcc76e292ff2", func := "lychgate/lychgatelaw13.HeapOver", spec := "heapOver", unfollowed := true, recurses := true, apart := false, narrowed := true }
def HeapOverUptoSaid : Prop := heapOverUptoRow.holds Try.pinned (OpenSpec.upto heapOverSpec)

/-- 'lychgatelaw13.HeapRights', WHERE WHAT IT READS IS OF BULK AT MOST 1048576: true; the input reads as it did. -/
def heapRightsUptoRow : OpenClaim := { program := "ytejnjaikalckiaa", sum := "f2adadeda88810e69b6befa42bf36b7a1970abafed5a3cbfe72cfcc76e292ff2", func := "lychgate/lychgatelaw13.HeapRights", spec := "heapRights", unfollowed := true, recurses := true, apart := false, narrowed := true }
def HeapRightsUptoSaid : Prop := heapRightsUptoRow.holds Try.pinned (OpenSpec.upto heapRightsSpec)

/-- 'lychgatelaw13.HeapFree', WHERE WHAT IT READS IS OF BULK AT MOST 1048576: true; the input reads as it did. -/
def heapFreeUptoRow : OpenClaim := { program := "ytejnjaikalckiaa", sum := "f2adadeda88810e69b6befa42bf36b7a1970abafed5a3cbfe72cfcc76e292ff2", func := "lychgate/lychgatelaw13.HeapFree", spec := "heapFree", unfollowed := true, recurses := true, apart := false, narrowed := true }
def HeapFreeUptoSaid : Prop := heapFreeUptoRow.holds Try.pinned (OpenSpec.upto heapFreeSpec)

end Rows
end Go.Proofs.Ytejnjaikalckiaa
