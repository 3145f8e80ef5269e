/-
  No cell of these rows narrows 'for every input' (looked for: loops, veiled, ifaces, maps, wideKeys, modest, calm, conditions, laid).
  DERIVED. THE GIVEN ROWS OF THIS SEAT. 7 by the template 'for every input the law returns true; each argument reads behind the call as it read before'; 0 by the template 'total and deterministic' (their statements: YtpoohappocehdaaTotals.lean).
  GIVEN WITH THE SEED: the statements are not yours to turn. If you find one false, say at which input.
  Laid BY PROGRAM, IN A SANDBOX (cutbox-rows.mjs): the forced cells as the released guide's own fill.sh prints them over the translation d2ac3710b5780bd9… (all of the seat's roots in one cut). By AI agents, Wed Nov 11 2026. No macro, syntax, notation, axiom, sorry.
-/
import Derived.Test.YtpoohappocehdaaChecked
import GoSem.Claim
import GoSem.ClaimJoined
import GoSem.ClaimMapViews
import Derived.JoinedTies
import Derived.KernelRfl
namespace Go.Proofs.Ytpoohappocehdaa
/- THE CELL 'sum', in the pinned program and in every row, IS THE sha256 OF THE DUMP (.gsa) THAT YtpoohappocehdaaProg.lean LOADS. Nothing in Lean hashes anything: it is a label: what it is worth is what the hold of that sum in a sandbox is worth. -/
noncomputable def Try.pinned : Pinned := { name := "ytpoohappocehdaa", sum := "d2ac3710b5780bd9ca6c84be77e6bdc0d7144d1468d0108dc926cd2faaab5308", checked := Try.checked }
namespace Rows
def none {H : Type} : Left H := { results := [], args := [] }

/-- 'lychgatelaw04.DiffSolves': WHATEVER THE INPUT: true; the input reads as it did. -/
def diffSolvesSpec : ChangeSpec := { name := "diffSolves", fn := fun _ => fun
  | [d1, d2] => { results := [.lit (.bool true)], args := [d1, d2] }
  | _ => none }
def diffSolvesRow : OpenClaim := { program := "ytpoohappocehdaa", sum := "d2ac3710b5780bd9ca6c84be77e6bdc0d7144d1468d0108dc926cd2faaab5308", func := "lychgate/lychgatelaw04.DiffSolves", spec := "diffSolves", unfollowed := true, recurses := true, apart := false }
def DiffSolvesSaid : Prop := diffSolvesRow.holds Try.pinned (OpenSpec.ofChange diffSolvesSpec)

/-- ITS FALSE NEIGHBOUR: 'it returns false'. Refute it at one input. -/
def diffSolvesWrong : ChangeSpec := { name := "diffSolves", fn := fun _ => fun
  | [d1, d2] => { results := [.lit (.bool false)], args := [d1, d2] }
  | _ => none }
def DiffSolvesWrongFalsely : Prop := diffSolvesRow.holds Try.pinned (OpenSpec.ofChange diffSolvesWrong)

/-- 'lychgatelaw04.DiffEntails': WHATEVER THE INPUT: true; the input reads as it did. -/
def diffEntailsSpec : ChangeSpec := { name := "diffEntails", fn := fun _ => fun
  | [d1, d2, d3] => { results := [.lit (.bool true)], args := [d1, d2, d3] }
  | _ => none }
def diffEntailsRow : OpenClaim := { program := "ytpoohappocehdaa", sum := "d2ac3710b5780bd9ca6c84be77e6bdc0d7144d1468d0108dc926cd2faaab5308", func := "lychgate/lychgatelaw04.DiffEntails", spec := "diffEntails", unfollowed := true, recurses := true, apart := false }
def DiffEntailsSaid : Prop := diffEntailsRow.holds Try.pinned (OpenSpec.ofChange diffEntailsSpec)

/-- ITS FALSE NEIGHBOUR: 'it returns false'. Refute it at one input. -/
def diffEntailsWrong : ChangeSpec := { name := "diffEntails", fn := fun _ => fun
  | [d1, d2, d3] => { results := [.lit (.bool false)], args := [d1, d2, d3] }
  | _ => none }
def DiffEntailsWrongFalsely : Prop := diffEntailsRow.holds Try.pinned (OpenSpec.ofChange diffEntailsWrong)

/-- 'lychgatelaw04.DiffHolds': WHATEVER THE INPUT: true; the input reads as it did. -/
def diffHoldsSpec : ChangeSpec := { name := "diffHolds", fn := fun _ => fun
  | [d1, d2] => { results := [.lit (.bool true)], args := [d1, d2] }
  | _ => none }
def diffHoldsRow : OpenClaim := { program := "ytpoohappocehdaa", sum := "d2ac3710b5780bd9ca6c84be77e6bdc0d7144d1468d0108dc926cd2faaab5308", func := "lychgate/lychgatelaw04.DiffHolds", spec := "diffHolds", unfollowed := true, recurses := true, apart := false }
def DiffHoldsSaid : Prop := diffHoldsRow.holds Try.pinned (OpenSpec.ofChange diffHoldsSpec)

/-- ITS FALSE NEIGHBOUR: 'it returns false'. Refute it at one input. -/
def diffHoldsWrong : ChangeSpec := { name := "diffHolds", fn := fun _ => fun
  | [d1, d2] => { results := [.lit (.bool false)], args := [d1, d2] }
  | _ => none }
def DiffHoldsWrongFalsely : Prop := diffHoldsRow.holds Try.pinned (OpenSpec.ofChange diffHoldsWrong)

/-- 'lychgatelaw04.DiffSound': WHATEVER THE INPUT: true; the input reads as it did. -/
def diffSoundSpec : ChangeSpec := { name := "diffSound", fn := fun _ => fun
  | [d1, d2, d3] => { results := [.lit (.bool true)], args := [d1, d2, d3] }
  | _ => none }
def diffSoundRow : OpenClaim := { program := "ytpoohappocehdaa", sum := "d2ac3710b5780bd9ca6c84be77e6bdc0d7144d1468d0108dc926cd2faaab5308", func := "lychgate/lychgatelaw04.DiffSound", spec := "diffSound", unfollowed := true, recurses := true, apart := false }
def DiffSoundSaid : Prop := diffSoundRow.holds Try.pinned (OpenSpec.ofChange diffSoundSpec)

/-- ITS FALSE NEIGHBOUR: 'it returns false'. Refute it at one input. -/
def diffSoundWrong : ChangeSpec := { name := "diffSound", fn := fun _ => fun
  | [d1, d2, d3] => { results := [.lit (.bool false)], args := [d1, d2, d3] }
  | _ => none }
def DiffSoundWrongFalsely : Prop := diffSoundRow.holds Try.pinned (OpenSpec.ofChange diffSoundWrong)

/-- 'lychgatelaw04.DiffChain': WHATEVER THE INPUT: true; the input reads as it did. -/
def diffChainSpec : ChangeSpec := { name := "diffChain", fn := fun _ => fun
  | [d] => { results := [.lit (.bool true)], args := [d] }
  | _ => none }
def diffChainRow : OpenClaim := { program := "ytpoohappocehdaa", sum := "d2ac3710b5780bd9ca6c84be77e6bdc0d7144d1468d0108dc926cd2faaab5308", func := "lychgate/lychgatelaw04.DiffChain", spec := "diffChain", unfollowed := true, recurses := true, apart := false }
def DiffChainSaid : Prop := diffChainRow.holds Try.pinned (OpenSpec.ofChange diffChainSpec)

/-- ITS FALSE NEIGHBOUR: 'it returns false'. Refute it at one input. -/
def diffChainWrong : ChangeSpec := { name := "diffChain", fn := fun _ => fun
  | [d] => { results := [.lit (.bool false)], args := [d] }
  | _ => none }
def DiffChainWrongFalsely : Prop := diffChainRow.holds Try.pinned (OpenSpec.ofChange diffChainWrong)

/-- 'lychgatelaw04.DiffMore': WHATEVER THE INPUT: true; the input reads as it did. -/
def diffMoreSpec : ChangeSpec := { name := "diffMore", fn := fun _ => fun
  | [d1, d2, d3] => { results := [.lit (.bool true)], args := [d1, d2, d3] }
  | _ => none }
def diffMoreRow : OpenClaim := { program := "ytpoohappocehdaa", sum := "d2ac3710b5780bd9ca6c84be77e6bdc0d7144d1468d0108dc926cd2faaab5308", func := "lychgate/lychgatelaw04.DiffMore", spec := "diffMore", unfollowed := true, recurses := true, apart := false }
def DiffMoreSaid : Prop := diffMoreRow.holds Try.pinned (OpenSpec.ofChange diffMoreSpec)

/-- ITS FALSE NEIGHBOUR: 'it returns false'. Refute it at one input. -/
def diffMoreWrong : ChangeSpec := { name := "diffMore", fn := fun _ => fun
  | [d1, d2, d3] => { results := [.lit (.bool false)], args := [d1, d2, d3] }
  | _ => none }
def DiffMoreWrongFalsely : Prop := diffMoreRow.holds Try.pinned (OpenSpec.ofChange diffMoreWrong)

/-- 'lychgatelaw04.DiffTurned': WHATEVER THE INPUT: true; the input reads as it did. -/
def diffTurnedSpec : ChangeSpec := { name := "diffTurned", fn := fun _ => fun
  | [d1, d2] => { results := [.lit (.bool true)], args := [d1, d2] }
  | _ => none }
def diffTurnedRow : OpenClaim := { program := "ytpoohappocehdaa", sum := "d2ac3710b5780bd9ca6c84be77e6bdc0d7144d1468d0108dc926cd2faaab5308", func := "lychgate/lychgatelaw04.DiffTurned", spec := "diffTurned", unfollowed := true, recurses := true, apart := false }
def DiffTurnedSaid : Prop := diffTurnedRow.holds Try.pinned (OpenSpec.ofChange diffTurnedSpec)

/-- ITS FALSE NEIGHBOUR: 'it returns false'. Refute it at one input. -/
def diffTurnedWrong : ChangeSpec := { name := "diffTurned", fn := fun _ => fun
  | [d1, d2] => { results := [.lit (.bool false)], args := [d1, d2] }
  | _ => none }
def DiffTurnedWrongFalsely : Prop := diffTurnedRow.holds Try.pinned (OpenSpec.ofChange diffTurnedWrong)

/- THE SECOND FORM. 'bulk': how many values and letters a reading holds, each counted each time it is reached (what is shared counts as often as it is met; a slice's spare places count too). A statement '..UptoSaid' is the law's where the arguments, and the package variables that the reading takes, are together of bulk at most 1048576: NARROWER than '..Said'. Prove '..Said' where nothing that the law and all that it calls make is longer than what came in: it says more and counts as full. Else prove '..UptoSaid'. A law counts once. -/
mutual
def uptoBulk {H : Type} : DataW H → Nat
  | .lit (.string bytes) => bytes.length + 1
  | .lit _ => 1
  | .nil => 1
  | .ptr d => uptoBulk d + 1
  | .slice elems spare => uptoBulkAll elems + uptoBulkAll spare + 1
  | .agg parts => uptoBulkAll parts + 1
  | .iface _ d => uptoBulk d + 1
  | .map entries => uptoBulkEntries entries + 1
  | .held _ => 1
def uptoBulkAll {H : Type} : List (DataW H) → Nat
  | [] => 0
  | d :: r => uptoBulk d + uptoBulkAll r
def uptoBulkEntries {H : Type} : List (Lit × DataW H) → Nat
  | [] => 0
  | x :: r => uptoBulkEntry x + uptoBulkEntries r
def uptoBulkEntry {H : Type} : Lit × DataW H → Nat
  | (.string bytes, d) => bytes.length + uptoBulk d + 1
  | (_, d) => uptoBulk d + 1
 end
def uptoSmall : (H : Type) → List (DataW H) → Bool := fun _ ds => decide (uptoBulkAll ds ≤ 1048576)
def OpenSpec.upto (s : _root_.Go.ChangeSpec) : _root_.Go.OpenSpec := { _root_.Go.OpenSpec.ofChange s with cond := some uptoSmall }

/-- 'lychgatelaw04.DiffSolves', WHERE WHAT IT READS IS OF BULK AT MOST 1048576: true; the input reads as it did. -/
def diffSolvesUptoRow : OpenClaim := { program := "ytpoohappocehdaa", sum := "d2ac3710b5780bd9ca6c84be77e6bdc0d7144d1468d0108dc926cd2faaab5308", func := "lychgate/lychgatelaw04.DiffSolves", spec := "diffSolves", unfollowed := true, recurses := true, apart := false, narrowed := true }
def DiffSolvesUptoSaid : Prop := diffSolvesUptoRow.holds Try.pinned (OpenSpec.upto diffSolvesSpec)

/-- 'lychgatelaw04.DiffEntails', WHERE WHAT IT READS IS OF BULK AT MOST 1048576: true; the input reads as it did. -/
def diffEntailsUptoRow : OpenClaim := { program := "ytpoohappocehdaa", sum := "d2ac3710b5780bd9ca6c84be77e6bdc0d7144d1468d0108dc926cd2faaab5308", func := "lychgate/lychgatelaw04.DiffEntails", spec := "diffEntails", unfollowed := true, recurses := true, apart := false, narrowed := true }
def DiffEntailsUptoSaid : Prop := diffEntailsUptoRow.holds Try.pinned (OpenSpec.upto diffEntailsSpec)

/-- 'lychgatelaw04.DiffHolds', WHERE WHAT IT READS IS OF BULK AT MOST 1048576: true; the input reads as it did. -/
def diffHoldsUptoRow : OpenClaim := { program := "ytpoohappocehdaa", sum := "d2ac3710b5780bd9ca6c84be77e6bdc0d7144d1468d0108dc926cd2faaab5308", func := "lychgate/lychgatelaw04.DiffHolds", spec := "diffHolds", unfollowed := true, recurses := true, apart := false, narrowed := true }
def DiffHoldsUptoSaid : Prop := diffHoldsUptoRow.holds Try.pinned (OpenSpec.upto diffHoldsSpec)

/-- 'lychgatelaw04.DiffSound', WHERE WHAT IT READS IS OF BULK AT MOST 1048576: true; the input reads as it did. -/
def diffSoundUptoRow : OpenClaim := { program := "ytpoohappocehdaa", sum := "d2ac3710b5780bd9ca6c84be77e6bdc0d7144d1468d0108dc926cd2faaab5308", func := "lychgate/lychgatelaw04.DiffSound", spec := "diffSound", unfollowed := true, recurses := true, apart := false, narrowed := true }
def DiffSoundUptoSaid : Prop := diffSoundUptoRow.holds Try.pinned (OpenSpec.upto diffSoundSpec)

/-- 'lychgatelaw04.DiffChain', WHERE WHAT IT READS IS OF BULK AT MOST 1048576: true; the input reads as it did. -/
def diffChainUptoRow : OpenClaim := { program := "ytpoohappocehdaa", sum := "d2ac3710b5780bd9ca6c84be77e6bdc0d7144d1468d0108dc926cd2faaab5308", func := "lychgate/lychgatelaw04.DiffChain", spec := "diffChain", unfollowed := true, recurses := true, apart := false, narrowed := true }
def DiffChainUptoSaid : Prop := diffChainUptoRow.holds Try.pinned (OpenSpec.upto diffChainSpec)

/-- 'lychgatelaw04.DiffMore', WHERE WHAT IT READS IS OF BULK AT MOST 1048576: true; the input reads as it did. -/
def diffMoreUptoRow : OpenClaim := { program := "ytpoohappocehdaa", sum := "d2ac3710b5780bd9ca6c84be77e6bdc0d7144d1468d0108dc926cd2faaab5308", func := "lychgate/lychgatelaw04.DiffMore", spec := "diffMore", unfollowed := true, recurses := true, apart := false, narrowed := true }
def DiffMoreUptoSaid : Prop := diffMoreUptoRow.holds Try.pinned (OpenSpec.upto diffMoreSpec)

/-- 'lychgatelaw04.DiffTurned', WHERE WHAT IT READS IS OF BULK AT MOST 1048576: true; the input reads as it did. -/
def diffTurnedUptoRow : OpenClaim := { program := "ytpoohappocehdaa", sum := "d2ac3710b5780bd9ca6c84be77e6bdc0d7144d1468d0108dc926cd2faaab5308", func := "lychgate/lychgatelaw04.DiffTurned", spec := "diffTurned", unfollowed := true, recurses := true, apart := false, narrowed := true }
def DiffTurnedUptoSaid : Prop := diffTurnedUptoRow.holds Try.pinned (OpenSpec.upto diffTurnedSpec)

end Rows
end Go.Proofs.Ytpoohappocehdaa
