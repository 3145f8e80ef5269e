/-
  No cell of these rows narrows 'for every input' (looked for: loops, veiled, ifaces, maps, wideKeys, modest, calm, conditions, laid).
  DERIVED. THE GIVEN ROWS OF THIS SEAT. 6 by the template 'for every input the law returns true; each argument reads behind the call as it read before'; 0 by the template 'total and deterministic' (their statements: YteepocmdgkngeaaTotals.lean).
  GIVEN WITH THE SEED: the statements are not yours to turn. If you find one false, say at which input.
  Laid BY PROGRAM, IN A SANDBOX (cutbox-rows.mjs): the forced cells as the released guide's own fill.sh prints them over the translation b7651e3afbfb1ada… (all of the seat's roots in one cut). By AI agents, Wed Nov 11 2026. No macro, syntax, notation, axiom, sorry.
-/
import Derived.Test.YteepocmdgkngeaaChecked
import GoSem.Claim
import GoSem.ClaimJoined
import GoSem.ClaimMapViews
import Derived.JoinedTies
import Derived.KernelRfl
namespace Go.Proofs.Yteepocmdgkngeaa
/- THE CELL 'sum', in the pinned program and in every row, IS THE sha256 OF THE DUMP (.gsa) THAT YteepocmdgkngeaaProg.lean LOADS. Nothing in Lean hashes anything: it is a label: what it is worth is what the hold of that sum in a sandbox is worth. -/
noncomputable def Try.pinned : Pinned := { name := "yteepocmdgkngeaa", sum := "b7651e3afbfb1ada505f9abb707df31065b292db70edf5cf7077f502b801e2b4", checked := Try.checked }
namespace Rows
def none {H : Type} : Left H := { results := [], args := [] }

/-- 'lychgatelaw06.MemPlays': WHATEVER THE INPUT: true; the input reads as it did. -/
def memPlaysSpec : ChangeSpec := { name := "memPlays", fn := fun _ => fun
  | [d] => { results := [.lit (.bool true)], args := [d] }
  | _ => none }
def memPlaysRow : OpenClaim := { program := "yteepocmdgkngeaa", sum := "b7651e3afbfb1ada505f9abb707df31065b292db70edf5cf7077f502b801e2b4", func := "lychgate/lychgatelaw06.MemPlays", spec := "memPlays", unfollowed := true, recurses := true, apart := false }
def MemPlaysSaid : Prop := memPlaysRow.holds Try.pinned (OpenSpec.ofChange memPlaysSpec)

/-- ITS FALSE NEIGHBOUR: 'it returns false'. Refute it at one input. -/
def memPlaysWrong : ChangeSpec := { name := "memPlays", fn := fun _ => fun
  | [d] => { results := [.lit (.bool false)], args := [d] }
  | _ => none }
def MemPlaysWrongFalsely : Prop := memPlaysRow.holds Try.pinned (OpenSpec.ofChange memPlaysWrong)

/-- 'lychgatelaw06.MemTwins': WHATEVER THE INPUT: true; the input reads as it did. -/
def memTwinsSpec : ChangeSpec := { name := "memTwins", fn := fun _ => fun
  | [d1, d2] => { results := [.lit (.bool true)], args := [d1, d2] }
  | _ => none }
def memTwinsRow : OpenClaim := { program := "yteepocmdgkngeaa", sum := "b7651e3afbfb1ada505f9abb707df31065b292db70edf5cf7077f502b801e2b4", func := "lychgate/lychgatelaw06.MemTwins", spec := "memTwins", unfollowed := true, recurses := true, apart := false }
def MemTwinsSaid : Prop := memTwinsRow.holds Try.pinned (OpenSpec.ofChange memTwinsSpec)

/-- ITS FALSE NEIGHBOUR: 'it returns false'. Refute it at one input. -/
def memTwinsWrong : ChangeSpec := { name := "memTwins", fn := fun _ => fun
  | [d1, d2] => { results := [.lit (.bool false)], args := [d1, d2] }
  | _ => none }
def MemTwinsWrongFalsely : Prop := memTwinsRow.holds Try.pinned (OpenSpec.ofChange memTwinsWrong)

/-- 'lychgatelaw06.MemFull': WHATEVER THE INPUT: true; the input reads as it did. -/
def memFullSpec : ChangeSpec := { name := "memFull", fn := fun _ => fun
  | [d1, d2] => { results := [.lit (.bool true)], args := [d1, d2] }
  | _ => none }
def memFullRow : OpenClaim := { program := "yteepocmdgkngeaa", sum := "b7651e3afbfb1ada505f9abb707df31065b292db70edf5cf7077f502b801e2b4", func := "lychgate/lychgatelaw06.MemFull", spec := "memFull", unfollowed := true, recurses := true, apart := false }
def MemFullSaid : Prop := memFullRow.holds Try.pinned (OpenSpec.ofChange memFullSpec)

/-- ITS FALSE NEIGHBOUR: 'it returns false'. Refute it at one input. -/
def memFullWrong : ChangeSpec := { name := "memFull", fn := fun _ => fun
  | [d1, d2] => { results := [.lit (.bool false)], args := [d1, d2] }
  | _ => none }
def MemFullWrongFalsely : Prop := memFullRow.holds Try.pinned (OpenSpec.ofChange memFullWrong)

/-- 'lychgatelaw06.MemWrites': WHATEVER THE INPUT: true; the input reads as it did. -/
def memWritesSpec : ChangeSpec := { name := "memWrites", fn := fun _ => fun
  | [d1, d2] => { results := [.lit (.bool true)], args := [d1, d2] }
  | _ => none }
def memWritesRow : OpenClaim := { program := "yteepocmdgkngeaa", sum := "b7651e3afbfb1ada505f9abb707df31065b292db70edf5cf7077f502b801e2b4", func := "lychgate/lychgatelaw06.MemWrites", spec := "memWrites", apart := false }
def MemWritesSaid : Prop := memWritesRow.holds Try.pinned (OpenSpec.ofChange memWritesSpec)

/-- ITS FALSE NEIGHBOUR: 'it returns false'. Refute it at one input. -/
def memWritesWrong : ChangeSpec := { name := "memWrites", fn := fun _ => fun
  | [d1, d2] => { results := [.lit (.bool false)], args := [d1, d2] }
  | _ => none }
def MemWritesWrongFalsely : Prop := memWritesRow.holds Try.pinned (OpenSpec.ofChange memWritesWrong)

/-- 'lychgatelaw06.MemRaces': WHATEVER THE INPUT: true; the input reads as it did. -/
def memRacesSpec : ChangeSpec := { name := "memRaces", fn := fun _ => fun
  | [d1, d2, d3] => { results := [.lit (.bool true)], args := [d1, d2, d3] }
  | _ => none }
def memRacesRow : OpenClaim := { program := "yteepocmdgkngeaa", sum := "b7651e3afbfb1ada505f9abb707df31065b292db70edf5cf7077f502b801e2b4", func := "lychgate/lychgatelaw06.MemRaces", spec := "memRaces", unfollowed := true, recurses := true, apart := false }
def MemRacesSaid : Prop := memRacesRow.holds Try.pinned (OpenSpec.ofChange memRacesSpec)

/-- ITS FALSE NEIGHBOUR: 'it returns false'. Refute it at one input. -/
def memRacesWrong : ChangeSpec := { name := "memRaces", fn := fun _ => fun
  | [d1, d2, d3] => { results := [.lit (.bool false)], args := [d1, d2, d3] }
  | _ => none }
def MemRacesWrongFalsely : Prop := memRacesRow.holds Try.pinned (OpenSpec.ofChange memRacesWrong)

/-- 'lychgatelaw06.MemLocks': WHATEVER THE INPUT: true; the input reads as it did. -/
def memLocksSpec : ChangeSpec := { name := "memLocks", fn := fun _ => fun
  | [d] => { results := [.lit (.bool true)], args := [d] }
  | _ => none }
def memLocksRow : OpenClaim := { program := "yteepocmdgkngeaa", sum := "b7651e3afbfb1ada505f9abb707df31065b292db70edf5cf7077f502b801e2b4", func := "lychgate/lychgatelaw06.MemLocks", spec := "memLocks", apart := false }
def MemLocksSaid : Prop := memLocksRow.holds Try.pinned (OpenSpec.ofChange memLocksSpec)

/-- ITS FALSE NEIGHBOUR: 'it returns false'. Refute it at one input. -/
def memLocksWrong : ChangeSpec := { name := "memLocks", fn := fun _ => fun
  | [d] => { results := [.lit (.bool false)], args := [d] }
  | _ => none }
def MemLocksWrongFalsely : Prop := memLocksRow.holds Try.pinned (OpenSpec.ofChange memLocksWrong)

/- THE SECOND FORM. 'bulk': how many values and letters a reading holds, each counted each time it is reached (what is shared counts as often as it is met; a slice's spare places count too). A statement '..UptoSaid' is the law's where the arguments, and the package variables that the reading takes, are together of bulk at most 1048576: NARROWER than '..Said'. Prove '..Said' where nothing that the law and all that it calls make is longer than what came in: it says more and counts as full. Else prove '..UptoSaid'. A law counts once. -/
mutual
def uptoBulk {H : Type} : DataW H → Nat
  | .lit (.string bytes) => bytes.length + 1
  | .lit _ => 1
  | .nil => 1
  | .ptr d => uptoBulk d + 1
  | .slice elems spare => uptoBulkAll elems + uptoBulkAll spare + 1
  | .agg parts => uptoBulkAll parts + 1
  | .iface _ d => uptoBulk d + 1
  | .map entries => uptoBulkEntries entries + 1
  | .held _ => 1
def uptoBulkAll {H : Type} : List (DataW H) → Nat
  | [] => 0
  | d :: r => uptoBulk d + uptoBulkAll r
def uptoBulkEntries {H : Type} : List (Lit × DataW H) → Nat
  | [] => 0
  | x :: r => uptoBulkEntry x + uptoBulkEntries r
def uptoBulkEntry {H : Type} : Lit × DataW H → Nat
  | (.string bytes, d) => bytes.length + uptoBulk d + 1
  | (_, d) => uptoBulk d + 1
 end
def uptoSmall : (H : Type) → List (DataW H) → Bool := fun _ ds => decide (uptoBulkAll ds ≤ 1048576)
def OpenSpec.upto (s : _root_.Go.ChangeSpec) : _root_.Go.OpenSpec := { _root_.Go.OpenSpec.ofChange s with cond := some uptoSmall }

/-- 'lychgatelaw06.MemPlays', WHERE WHAT IT READS IS OF BULK AT MOST 1048576: true; the input reads as it did. -/
def memPlaysUptoRow : OpenClaim := { program := "yteepocmdgkngeaa", sum := "b7651e3afbfb1ada505f9abb707df31065b292db70edf5cf7077f502b801e2b4", func := "lychgate/lychgatelaw06.MemPlays", spec := "memPlays", unfollowed := true, recurses := true, apart := false, narrowed := true }
def MemPlaysUptoSaid : Prop := memPlaysUptoRow.holds Try.pinned (OpenSpec.upto memPlaysSpec)

/-- 'lychgatelaw06.MemTwins', WHERE WHAT IT READS IS OF BULK AT MOST 1048576: true; the input reads as it did. -/
def memTwinsUptoRow : OpenClaim := { program := "yteepocmdgkngeaa", sum := "b7651e3afbfb1ada505f9abb707df31065b292db70edf5cf7077f502b801e2b4", func := "lychgate/lychgatelaw06.MemTwins", spec := "memTwins", unfollowed := true, recurses := true, apart := false, narrowed := true }
def MemTwinsUptoSaid : Prop := memTwinsUptoRow.holds Try.pinned (OpenSpec.upto memTwinsSpec)

/-- 'lychgatelaw06.MemFull', WHERE WHAT IT READS IS OF BULK AT MOST 1048576: true; the input reads as it did. -/
def memFullUptoRow : OpenClaim := { program := "yteepocmdgkngeaa", sum := "b7651e3afbfb1ada505f9abb707df31065b292db70edf5cf7077f502b801e2b4", func := "lychgate/lychgatelaw06.MemFull", spec := "memFull", unfollowed := true, recurses := true, apart := false, narrowed := true }
def MemFullUptoSaid : Prop := memFullUptoRow.holds Try.pinned (OpenSpec.upto memFullSpec)

/-- 'lychgatelaw06.MemWrites', WHERE WHAT IT READS IS OF BULK AT MOST 1048576: true; the input reads as it did. -/
def memWritesUptoRow : OpenClaim := { program := "yteepocmdgkngeaa", sum := "b7651e3afbfb1ada505f9abb707df31065b292db70edf5cf7077f502b801e2b4", func := "lychgate/lychgatelaw06.MemWrites", spec := "memWrites", apart := false, narrowed := true }
def MemWritesUptoSaid : Prop := memWritesUptoRow.holds Try.pinned (OpenSpec.upto memWritesSpec)

/-- 'lychgatelaw06.MemRaces', WHERE WHAT IT READS IS OF BULK AT MOST 1048576: true; the input reads as it did. -/
def memRacesUptoRow : OpenClaim := { program := "yteepocmdgkngeaa", sum := "b7651e3afbfb1ada505f9abb707df31065b292db70edf5cf7077f502b801e2b4", func := "lychgate/lychgatelaw06.MemRaces", spec := "memRaces", unfollowed := true, recurses := true, apart := false, narrowed := true }
def MemRacesUptoSaid : Prop := memRacesUptoRow.holds Try.pinned (OpenSpec.upto memRacesSpec)

/-- 'lychgatelaw06.MemLocks', WHERE WHAT IT READS IS OF BULK AT MOST 1048576: true; the input reads as it did. -/
def memLocksUptoRow : OpenClaim := { program := "yteepocmdgkngeaa", sum := "b7651e3afbfb1ada505f9abb707df31065b292db70edf5cf7077f502b801e2b4", func := "lychgate/lychgatelaw06.MemLocks", spec := "memLocks", apart := false, narrowed := true }
def MemLocksUptoSaid : Prop := memLocksUptoRow.holds Try.pinned (OpenSpec.upto memLocksSpec)

end Rows
end Go.Proofs.Yteepocmdgkngeaa
