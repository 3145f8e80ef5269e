/- Rows of the document's facts (lychgateref04.Leq). No conditions. -/
import Derived.Test.YtejnjaikalckiaaDApp
import Derived.Test.YtejnjaikalckiaaDFloyd2
namespace Go.Proofs.Ytejnjaikalckiaa
open Go.RowKit

theorem Try.infoRef : (Try.prog.info? 48).map (fun i => (i.zero, i.size, i.bytes)) = some (some (.agg #[.int .i64 0, .int .i64 0, .int .i64 0]), 3, 24) := by kernel_rfl
theorem Try.refInfo : ∃ i, LeqInfo Try.prog 30 48 i := by
  obtain ⟨i0, hi, hz0, hz1, hz2⟩ := info_parts Try.infoRef
  exact ⟨i0, Try.underlying30, hi, hz0, hz1, hz2⟩

def RefsPost (fs : List F) (w : World) (e : Ending) (w' : World) : Prop :=
  ∃ A c, e = .returned (.slice A fs.length c) ∧ w'.ownsRow w.heap.size 48 3 (.slice A fs.length c) fs.length (factCells fs) ∧ Below w.heap.size w w'

theorem take_snoc {fs : List F} {k : Nat} {f : F} (h : fs[k]? = some f) : fs.take (k + 1) = fs.take k ++ [f] := by
  rw [List.take_add_one, h]
  rfl
theorem take_len {fs : List F} {k : Nat} (h : k ≤ fs.length) : (fs.take k).length = k := by rw [List.length_take]; omega

end Go.Proofs.Ytejnjaikalckiaa
