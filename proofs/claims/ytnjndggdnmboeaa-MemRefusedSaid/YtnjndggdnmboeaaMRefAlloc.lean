/- What lychgateref06.Alloc makes of the document's own memory: the plain side. -/
import Derived.Test.YtnjndggdnmboeaaMRefCalls
import Derived.Test.YtnjndggdnmboeaaMAlloc
import Derived.Deep.AppendLies
namespace Go.Proofs.Ytnjndggdnmboeaa
open Go.RowKit

theorem lRow_append (s : MS) (b : MB) : lRow (s ++ [b]) = lRow s ++ [.bool b.live] := by simp [lRow]
theorem zRowS_append (s : MS) (b : MB) : zRowS (s ++ [b]) = zRowS s ++ [.int .i64 (b.cells.length : Int)] := by simp [zRowS]
theorem lRow_len (s : MS) : (lRow s).length = s.length := by simp [lRow]
theorem zRowS_len (s : MS) : (zRowS s).length = s.length := by simp [zRowS]
/- The cells that are laid for a new block of which k are there. -/
def newCells (n k : Nat) : List RC := rowR n 0 (List.replicate k c0)
theorem newCells_len (n k : Nat) : (newCells n k).length = k := by simp [newCells, rowR_length]
theorem rowR_snoc (b : Nat) (l : List MC) (j : Nat) (c : MC) : rowR b j (l ++ [c]) = rowR b j l ++ [⟨b, j + l.length, c⟩] := by
  induction l generalizing j with
  | nil => simp [rowR]
  | cons d l ih =>
    simp only [List.cons_append, rowR, ih, List.length_cons]
    rw [show j + 1 + l.length = j + (l.length + 1) by omega]
theorem newCells_succ (n k : Nat) : newCells n (k + 1) = newCells n k ++ [⟨n, k, c0⟩] := by
  unfold newCells
  rw [List.replicate_succ', rowR_snoc]
  simp
theorem rcs_new (s : MS) (k : Nat) : rcs 0 (s ++ [⟨true, List.replicate k c0⟩]) = rcs 0 s ++ newCells (s.length + 1) k := by
  rw [rcs_append]
  simp [newCells]

/- While Alloc runs: the block is counted and told, k of its n cells are laid. -/
structure RefMid (w : World) (b : Nat) (vl vs vc : Value) (s : MS) (n k : Nat) : Prop where
  blk : Blk w b [vl, vs, vc, .int .i64 ((usedS s : Int) + n + 1)] 30
  live : w.ownsRow 0 4 1 vl (s.length + 1) (lRow s ++ [.bool true])
  sizes : w.ownsRow 0 2 1 vs (s.length + 1) (zRowS s ++ [.int .i64 (n : Int)])
  cells : w.ownsRow 0 72 7 vc ((rcs 0 s).length + k) (rRow (rcs 0 s ++ newCells (s.length + 1) k))
  nl : ∀ g, vl.ownBlock = some g → g ≠ b ∧ vs.ownBlock ≠ some g ∧ vc.ownBlock ≠ some g
  ns : ∀ g, vs.ownBlock = some g → g ≠ b ∧ vl.ownBlock ≠ some g ∧ vc.ownBlock ≠ some g
  nc : ∀ g, vc.ownBlock = some g → g ≠ b ∧ vl.ownBlock ≠ some g ∧ vs.ownBlock ≠ some g
  most : usedS s + n + 1 ≤ 4096
theorem RefMid.done {w : World} {b : Nat} {vl vs vc : Value} {s : MS} {n : Nat} (h : RefMid w b vl vs vc s n n) : RefIs w b vl vs vc (s ++ [⟨true, List.replicate n c0⟩]) := by
  have e1 : usedS (s ++ [⟨true, List.replicate n c0⟩]) = usedS s + n + 1 := by rw [usedS_append]; simp
  refine ⟨?_, ?_, ?_, ?_, h.nl, h.ns, h.nc, by rw [e1]; exact h.most⟩
  · rw [e1]
    exact h.blk
  · rw [lRow_append, List.length_append]
    exact h.live
  · rw [zRowS_append, List.length_append, List.length_replicate]
    exact h.sizes
  · rw [rcs_new, List.length_append, newCells_len]
    exact h.cells

end Go.Proofs.Ytnjndggdnmboeaa
