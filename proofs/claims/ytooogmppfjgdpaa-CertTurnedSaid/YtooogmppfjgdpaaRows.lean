/-
  No cell of these rows narrows 'for every input' (looked for: loops, veiled, ifaces, maps, wideKeys, modest, calm, conditions, laid).
  DERIVED. THE GIVEN ROWS OF THIS SEAT. 6 by the template 'for every input the law returns true; each argument reads behind the call as it read before'; 0 by the template 'total and deterministic' (their statements: YtooogmppfjgdpaaTotals.lean).
  GIVEN WITH THE SEED: the statements are not yours to turn. If you find one false, say at which input.
  Laid BY PROGRAM, IN A SANDBOX (cutbox-rows.mjs): the forced cells as the released guide's own fill.sh prints them over the translation 1e92a62ffe553ee0… (all of the seat's roots in one cut). By AI agents, Wed Nov 11 2026. No macro, syntax, notation, axiom, sorry.
-/
import Derived.Test.YtooogmppfjgdpaaChecked
import GoSem.Claim
import GoSem.ClaimJoined
import GoSem.ClaimMapViews
import Derived.JoinedTies
import Derived.KernelRfl
namespace Go.Proofs.Ytooogmppfjgdpaa
/- THE CELL 'sum', in the pinned program and in every row, IS THE sha256 OF THE DUMP (.gsa) THAT YtooogmppfjgdpaaProg.lean LOADS. Nothing in Lean hashes anything: it is a label: what it is worth is what the hold of that sum in a sandbox is worth. -/
noncomputable def Try.pinned : Pinned := { name := "ytooogmppfjgdpaa", sum := "1e92a62ffe553ee00f360d085de73a7e5ddb5e6bd3cac55677a156063486b05a", checked := Try.checked }
namespace Rows
def none {H : Type} : Left H := { results := [], args := [] }

/-- 'lychgatelaw05.CertCircles': WHATEVER THE INPUT: true; the input reads as it did. -/
def certCirclesSpec : ChangeSpec := { name := "certCircles", fn := fun _ => fun
  | [d1, d2] => { results := [.lit (.bool true)], args := [d1, d2] }
  | _ => none }
def certCirclesRow : OpenClaim := { program := "ytooogmppfjgdpaa", sum := "1e92a62ffe553ee00f360d085de73a7e5ddb5e6bd3cac55677a156063486b05a", func := "lychgate/lychgatelaw05.CertCircles", spec := "certCircles", unfollowed := true, recurses := true, apart := false }
def CertCirclesSaid : Prop := certCirclesRow.holds Try.pinned (OpenSpec.ofChange certCirclesSpec)

/-- ITS FALSE NEIGHBOUR: 'it returns false'. Refute it at one input. -/
def certCirclesWrong : ChangeSpec := { name := "certCircles", fn := fun _ => fun
  | [d1, d2] => { results := [.lit (.bool false)], args := [d1, d2] }
  | _ => none }
def CertCirclesWrongFalsely : Prop := certCirclesRow.holds Try.pinned (OpenSpec.ofChange certCirclesWrong)

/-- 'lychgatelaw05.CertHolds': WHATEVER THE INPUT: true; the input reads as it did. -/
def certHoldsSpec : ChangeSpec := { name := "certHolds", fn := fun _ => fun
  | [d1, d2] => { results := [.lit (.bool true)], args := [d1, d2] }
  | _ => none }
def certHoldsRow : OpenClaim := { program := "ytooogmppfjgdpaa", sum := "1e92a62ffe553ee00f360d085de73a7e5ddb5e6bd3cac55677a156063486b05a", func := "lychgate/lychgatelaw05.CertHolds", spec := "certHolds", unfollowed := true, recurses := true, apart := false }
def CertHoldsSaid : Prop := certHoldsRow.holds Try.pinned (OpenSpec.ofChange certHoldsSpec)

/-- ITS FALSE NEIGHBOUR: 'it returns false'. Refute it at one input. -/
def certHoldsWrong : ChangeSpec := { name := "certHolds", fn := fun _ => fun
  | [d1, d2] => { results := [.lit (.bool false)], args := [d1, d2] }
  | _ => none }
def CertHoldsWrongFalsely : Prop := certHoldsRow.holds Try.pinned (OpenSpec.ofChange certHoldsWrong)

/-- 'lychgatelaw05.CertProves': WHATEVER THE INPUT: true; the input reads as it did. -/
def certProvesSpec : ChangeSpec := { name := "certProves", fn := fun _ => fun
  | [d1, d2, d3] => { results := [.lit (.bool true)], args := [d1, d2, d3] }
  | _ => none }
def certProvesRow : OpenClaim := { program := "ytooogmppfjgdpaa", sum := "1e92a62ffe553ee00f360d085de73a7e5ddb5e6bd3cac55677a156063486b05a", func := "lychgate/lychgatelaw05.CertProves", spec := "certProves", unfollowed := true, recurses := true, apart := false }
def CertProvesSaid : Prop := certProvesRow.holds Try.pinned (OpenSpec.ofChange certProvesSpec)

/-- ITS FALSE NEIGHBOUR: 'it returns false'. Refute it at one input. -/
def certProvesWrong : ChangeSpec := { name := "certProves", fn := fun _ => fun
  | [d1, d2, d3] => { results := [.lit (.bool false)], args := [d1, d2, d3] }
  | _ => none }
def CertProvesWrongFalsely : Prop := certProvesRow.holds Try.pinned (OpenSpec.ofChange certProvesWrong)

/-- 'lychgatelaw05.CertSound': WHATEVER THE INPUT: true; the input reads as it did. -/
def certSoundSpec : ChangeSpec := { name := "certSound", fn := fun _ => fun
  | [d1, d2, d3] => { results := [.lit (.bool true)], args := [d1, d2, d3] }
  | _ => none }
def certSoundRow : OpenClaim := { program := "ytooogmppfjgdpaa", sum := "1e92a62ffe553ee00f360d085de73a7e5ddb5e6bd3cac55677a156063486b05a", func := "lychgate/lychgatelaw05.CertSound", spec := "certSound", unfollowed := true, recurses := true, apart := false }
def CertSoundSaid : Prop := certSoundRow.holds Try.pinned (OpenSpec.ofChange certSoundSpec)

/-- ITS FALSE NEIGHBOUR: 'it returns false'. Refute it at one input. -/
def certSoundWrong : ChangeSpec := { name := "certSound", fn := fun _ => fun
  | [d1, d2, d3] => { results := [.lit (.bool false)], args := [d1, d2, d3] }
  | _ => none }
def CertSoundWrongFalsely : Prop := certSoundRow.holds Try.pinned (OpenSpec.ofChange certSoundWrong)

/-- 'lychgatelaw05.CertTurned': WHATEVER THE INPUT: true; the input reads as it did. -/
def certTurnedSpec : ChangeSpec := { name := "certTurned", fn := fun _ => fun
  | [d1, d2] => { results := [.lit (.bool true)], args := [d1, d2] }
  | _ => none }
def certTurnedRow : OpenClaim := { program := "ytooogmppfjgdpaa", sum := "1e92a62ffe553ee00f360d085de73a7e5ddb5e6bd3cac55677a156063486b05a", func := "lychgate/lychgatelaw05.CertTurned", spec := "certTurned", unfollowed := true, recurses := true, apart := false }
def CertTurnedSaid : Prop := certTurnedRow.holds Try.pinned (OpenSpec.ofChange certTurnedSpec)

/-- ITS FALSE NEIGHBOUR: 'it returns false'. Refute it at one input. -/
def certTurnedWrong : ChangeSpec := { name := "certTurned", fn := fun _ => fun
  | [d1, d2] => { results := [.lit (.bool false)], args := [d1, d2] }
  | _ => none }
def CertTurnedWrongFalsely : Prop := certTurnedRow.holds Try.pinned (OpenSpec.ofChange certTurnedWrong)

/-- 'lychgatelaw05.CertOne': WHATEVER THE INPUT: true; the input reads as it did. -/
def certOneSpec : ChangeSpec := { name := "certOne", fn := fun _ => fun
  | [d1, d2, d3] => { results := [.lit (.bool true)], args := [d1, d2, d3] }
  | _ => none }
def certOneRow : OpenClaim := { program := "ytooogmppfjgdpaa", sum := "1e92a62ffe553ee00f360d085de73a7e5ddb5e6bd3cac55677a156063486b05a", func := "lychgate/lychgatelaw05.CertOne", spec := "certOne", unfollowed := true, recurses := true, apart := false }
def CertOneSaid : Prop := certOneRow.holds Try.pinned (OpenSpec.ofChange certOneSpec)

/-- ITS FALSE NEIGHBOUR: 'it returns false'. Refute it at one input. -/
def certOneWrong : ChangeSpec := { name := "certOne", fn := fun _ => fun
  | [d1, d2, d3] => { results := [.lit (.bool false)], args := [d1, d2, d3] }
  | _ => none }
def CertOneWrongFalsely : Prop := certOneRow.holds Try.pinned (OpenSpec.ofChange certOneWrong)

/- THE SECOND FORM. 'bulk': how many values and letters a reading holds, each counted each time it is reached (what is shared counts as often as it is met; a slice's spare places count too). A statement '..UptoSaid' is the law's where the arguments, and the package variables that the reading takes, are together of bulk at most 1048576: NARROWER than '..Said'. Prove '..Said' where nothing that the law and all that it calls make is longer than what came in: it says more and counts as full. Else prove '..UptoSaid'. A law counts once. -/
mutual
def uptoBulk {H : Type} : DataW H → Nat
  | .lit (.string bytes) => bytes.length + 1
  | .lit _ => 1
  | .nil => 1
  | .ptr d => uptoBulk d + 1
  | .slice elems spare => uptoBulkAll elems + uptoBulkAll spare + 1
  | .agg parts => uptoBulkAll parts + 1
  | .iface _ d => uptoBulk d + 1
  | .map entries => uptoBulkEntries entries + 1
  | .held _ => 1
def uptoBulkAll {H : Type} : List (DataW H) → Nat
  | [] => 0
  | d :: r => uptoBulk d + uptoBulkAll r
def uptoBulkEntries {H : Type} : List (Lit × DataW H) → Nat
  | [] => 0
  | x :: r => uptoBulkEntry x + uptoBulkEntries r
def uptoBulkEntry {H : Type} : Lit × DataW H → Nat
  | (.string bytes, d) => bytes.length + uptoBulk d + 1
  | (_, d) => uptoBulk d + 1
 end
def uptoSmall : (H : Type) → List (DataW H) → Bool := fun _ ds => decide (uptoBulkAll ds ≤ 1048576)
def OpenSpec.upto (s : _root_.Go.ChangeSpec) : _root_.Go.OpenSpec := { _root_.Go.OpenSpec.ofChange s with cond := some uptoSmall }

/-- 'lychgatelaw05.CertCircles', WHERE WHAT IT READS IS OF BULK AT MOST 1048576: true; the input reads as it did. -/
def certCirclesUptoRow : OpenClaim := { program := "ytooogmppfjgdpaa", sum := "1e92a62ffe553ee00f360d085de73a7e5ddb5e6bd3cac55677a156063486b05a", func := "lychgate/lychgatelaw05.CertCircles", spec := "certCircles", unfollowed := true, recurses := true, apart := false, narrowed := true }
def CertCirclesUptoSaid : Prop := certCirclesUptoRow.holds Try.pinned (OpenSpec.upto certCirclesSpec)

/-- 'lychgatelaw05.CertHolds', WHERE WHAT IT READS IS OF BULK AT MOST 1048576: true; the input reads as it did. -/
def certHoldsUptoRow : OpenClaim := { program := "ytooogmppfjgdpaa", sum := "1e92a62ffe553ee00f360d085de73a7e5ddb5e6bd3cac55677a156063486b05a", func := "lychgate/lychgatelaw05.CertHolds", spec := "certHolds", unfollowed := true, recurses := true, apart := false, narrowed := true }
def CertHoldsUptoSaid : Prop := certHoldsUptoRow.holds Try.pinned (OpenSpec.upto certHoldsSpec)

/-- 'lychgatelaw05.CertProves', WHERE WHAT IT READS IS OF BULK AT MOST 1048576: true; the input reads as it did. -/
def certProvesUptoRow : OpenClaim := { program := "ytooogmppfjgdpaa", sum := "1e92a62ffe553ee00f360d085de73a7e5ddb5e6bd3cac55677a156063486b05a", func := "lychgate/lychgatelaw05.CertProves", spec := "certProves", unfollowed := true, recurses := true, apart := false, narrowed := true }
def CertProvesUptoSaid : Prop := certProvesUptoRow.holds Try.pinned (OpenSpec.upto certProvesSpec)

/-- 'lychgatelaw05.CertSound', WHERE WHAT IT READS IS OF BULK AT MOST 1048576: true; the input reads as it did. -/
def certSoundUptoRow : OpenClaim := { program := "ytooogmppfjgdpaa", sum := "1e92a62ffe553ee00f360d085de73a7e5ddb5e6bd3cac55677a156063486b05a", func := "lychgate/lychgatelaw05.CertSound", spec := "certSound", unfollowed := true, recurses := true, apart := false, narrowed := true }
def CertSoundUptoSaid : Prop := certSoundUptoRow.holds Try.pinned (OpenSpec.upto certSoundSpec)

/-- 'lychgatelaw05.CertTurned', WHERE WHAT IT READS IS OF BULK AT MOST 1048576: true; the input reads as it did. -/
def certTurnedUptoRow : OpenClaim := { program := "ytooogmppfjgdpaa", sum := "1e92a62ffe553ee00f360d085de73a7e5ddb5e6bd3cac55677a156063486b05a", func := "lychgate/lychgatelaw05.CertTurned", spec := "certTurned", unfollowed := true, recurses := true, apart := false, narrowed := true }
def CertTurnedUptoSaid : Prop := certTurnedUptoRow.holds Try.pinned (OpenSpec.upto certTurnedSpec)

/-- 'lychgatelaw05.CertOne', WHERE WHAT IT READS IS OF BULK AT MOST 1048576: true; the input reads as it did. -/
def certOneUptoRow : OpenClaim := { program := "ytooogmppfjgdpaa", sum := "1e92a62ffe553ee00f360d085de73a7e5ddb5e6bd3cac55677a156063486b05a", func := "lychgate/lychgatelaw05.CertOne", spec := "certOne", unfollowed := true, recurses := true, apart := false, narrowed := true }
def CertOneUptoSaid : Prop := certOneUptoRow.holds Try.pinned (OpenSpec.upto certOneSpec)

end Rows
end Go.Proofs.Ytooogmppfjgdpaa
