/- The document's Names (layer 7): what is kept while names are gathered. -/
import Derived.Test.YtnmpfpnldcgbaaaDoorHNm2
namespace Go.Proofs.YtnmpfpnldcgbaaaDoor
open Go.RowKit

structure RnSt (w : World) (ic : List Value) (ss : List ByteArray) (v : Value) (W : World) : Prop where
  s : StrsAt W ss (fun b => w.heap.size < b) v
  n : Blk W w.heap.size ic 48
  b : Below w.heap.size w W
theorem RnSt.alloc {w W : World} {ic : List Value} {ss : List ByteArray} {v : Value} (h : RnSt w ic ss v W) (x : Obj) : RnSt w ic ss v (W.alloc x) := ⟨h.s.alloc x, h.n.alloc x, h.b.alloc h.b.size x⟩
theorem RnSt.put {w W W' : World} {ic : List Value} {ss ss' : List ByteArray} {v v' : Value} (h : RnSt w ic ss v W) (hg : W.grownBy W' v.ownBlock) (hs : StrsAt W' ss' (fun b => w.heap.size < b) v') : RnSt w ic ss' v' W' := by
  have hne : ∀ k, k ≤ w.heap.size → some k ≠ v.ownBlock := fun k hk e => by have := h.s.2 k e.symm; omega
  exact ⟨hs, h.n.grown hg (hne _ (Nat.le_refl _)), ⟨hg.os.trans h.b.os, hg.tape.trans h.b.tape, hg.output.trans h.b.output, Nat.le_trans h.b.size hg.size, fun k hk => (hg.block k (Nat.lt_of_lt_of_le hk h.b.size) (hne k (by omega))).trans (h.b.block k hk)⟩⟩
def RnRel (w : World) (ic : List Value) (pre : List ByteArray) (ts : List Tm) (gh : Nat) (v i : Value) (wr : World) : Prop :=
  ∃ k : Nat, k ≤ ts.length ∧ ts.length ≤ k + gh ∧ i = .int .i64 k ∧ RnSt w ic (pre ++ nmsOf (ts.take k)) v wr
theorem namesI_eq (op : Int) (y : ByteArray) (a b : Tm) (ts : List Tm) : namesI op y (a :: b :: ts) = yOf op y ++ nmOf a ++ nmOf b ++ nmsOf ts := by
  unfold namesI
  rw [nmsOf, nmsOf, List.append_assoc, List.append_assoc]

end Go.Proofs.YtnmpfpnldcgbaaaDoor
