/- How lists of numbers and of bools that came in stand in memory. -/
import Derived.Test.YteepocmdgkngeaaMWakes
namespace Go.Proofs.Yteepocmdgkngeaa
open Go.RowKit

def BoolsAt (w : World) (B : Nat) (A : Option Addr) (l : List Bool) : Prop :=
  0 < l.length → ∃ b off, A = some ⟨b, off, none⟩ ∧ b < B ∧ ∀ i, i < l.length → w.cell? ⟨b, off + i, none⟩ = some (.bool (l.getD i false))
theorem BoolsAt.below {w w' : World} {B B' : Nat} {A : Option Addr} {l : List Bool} (h : BoolsAt w B A l) (hb : Below B' w w') (hB : B ≤ B') : BoolsAt w' B A l := fun hn => by
  obtain ⟨b, off, e, hlt, hc⟩ := h hn
  exact ⟨b, off, e, hlt, fun i hi => (hb.cell (p := ⟨b, off + i, none⟩) (by show b < B'; omega)).trans (hc i hi)⟩
theorem BoolsAt.at {w w' : World} {A : Option Addr} {l : List Bool} (h : BoolsAt w w.heap.size A l) (hb : Below w.heap.size w w') {k : Nat} (hk : k < l.length) : ∃ b off, A = some ⟨b, off, none⟩ ∧ w'.cell? ⟨b, off + k, none⟩ = some (.bool (l.getD k false)) := by
  obtain ⟨b, off, e, hlt, hc⟩ := h (by omega)
  exact ⟨b, off, e, (hb.cell (p := ⟨b, off + k, none⟩) hlt).trans (hc k hk)⟩
def NumsAt (w : World) (B : Nat) (A : Option Addr) (l : List Int) : Prop :=
  0 < l.length → ∃ b off, A = some ⟨b, off, none⟩ ∧ b < B ∧ ∀ i, i < l.length → w.cell? ⟨b, off + i, none⟩ = some (.int .i64 (l.getD i 0))
theorem NumsAt.at {w w' : World} {A : Option Addr} {l : List Int} (h : NumsAt w w.heap.size A l) (hb : Below w.heap.size w w') {k : Nat} (hk : k < l.length) : ∃ b off, A = some ⟨b, off, none⟩ ∧ w'.cell? ⟨b, off + k, none⟩ = some (.int .i64 (l.getD k 0)) := by
  obtain ⟨b, off, e, hlt, hc⟩ := h (by omega)
  exact ⟨b, off, e, (hb.cell (p := ⟨b, off + k, none⟩) hlt).trans (hc k hk)⟩

end Go.Proofs.Yteepocmdgkngeaa
