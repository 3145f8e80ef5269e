/- The contract of code.Names on an instruction that came in: the names that it reads, in new memory. -/
import Derived.Test.YtnmpfpnldcgbaaaDoorHNm1
namespace Go.Proofs.YtnmpfpnldcgbaaaDoor
open Go.RowKit

/- Names found so far, apart from the block g of the terms that are gone through. -/
structure NmSt (w : World) (g : Nat) (o : Option Obj) (ss : List ByteArray) (v : Value) (W : World) : Prop where
  s : StrsAt W ss (fun b => w.heap.size ≤ b ∧ b ≠ g) v
  b : Below w.heap.size w W
  row : W.heap[g]? = o
  lt : g < W.heap.size
theorem NmSt.alloc {w W : World} {g : Nat} {o : Option Obj} {ss : List ByteArray} {v : Value} (h : NmSt w g o ss v W) (x : Obj) : NmSt w g o ss v (W.alloc x) :=
  ⟨h.s.alloc x, h.b.alloc h.b.size x, (Below.heap_alloc W x g h.lt).trans h.row, by have := h.lt; simp; omega⟩
theorem NmSt.put {w W W' : World} {g : Nat} {o : Option Obj} {ss ss' : List ByteArray} {v v' : Value} (h : NmSt w g o ss v W) (hg : W.grownBy W' v.ownBlock) (hs : StrsAt W' ss' (fun b => w.heap.size ≤ b ∧ b ≠ g) v') : NmSt w g o ss' v' W' := by
  refine ⟨hs, ⟨hg.os.trans h.b.os, hg.tape.trans h.b.tape, hg.output.trans h.b.output, Nat.le_trans h.b.size hg.size, fun k hk => (hg.block k (Nat.lt_of_lt_of_le hk h.b.size) fun e => ?_).trans (h.b.block k hk)⟩, (hg.block g h.lt fun e => ?_).trans h.row, Nat.lt_of_lt_of_le h.lt hg.size⟩
  · have := (h.s.2 k e.symm).1; omega
  · exact (h.s.2 g e.symm).2 rfl
theorem cell_same {w w' : World} {g k : Nat} (h : w'.heap[g]? = w.heap[g]?) : w'.cell? ⟨g, k, none⟩ = w.cell? ⟨g, k, none⟩ := by
  simp only [World.cell?, h]
theorem own_base {w : World} {base e m n : Nat} {v : Value} {xs : List Value} (h : w.ownsRow 0 e m v n xs) (hb : ∀ g, v.ownBlock = some g → base ≤ g) : w.ownsRow base e m v n xs :=
  ⟨h.1, h.2.imp id fun ⟨g, cap, cur, e, _, rest⟩ => ⟨g, cap, cur, e, hb g (by rw [e]; rfl), rest⟩⟩
theorem own_ge {w : World} {base e m n : Nat} {v : Value} {xs : List Value} (h : w.ownsRow base e m v n xs) : ∀ g, v.ownBlock = some g → base ≤ g := by
  intro g hg
  rcases h.2 with ⟨rfl, _⟩ | ⟨g', cap, cur, rfl, hb, _⟩
  · simp [Value.ownBlock] at hg
  · simp [Value.ownBlock] at hg
    omega
/- Two terms that were just built. -/
theorem two_own (w : World) (a b : Tm) {g : Nat} (hg : g = w.heap.size) : (w.alloc (.cells (tmsCells [a, b]).toArray 40)).ownsRow g 40 2 (.slice (some ⟨g, 0, none⟩) 2 2) 2 (tmsCells [a, b]) :=
  hg ▸ ⟨rfl, .inr ⟨w.heap.size, 2, _, rfl, Nat.le_refl _, Blk.new w _ _, Nat.le_refl _, by unfold maxLen; omega, rfl, rfl⟩⟩
/- Where the terms lie once all are in one row, the names found so far lying elsewhere. -/
theorem nm_start {w W W' : World} {ss : List ByteArray} {v : Value} {a b : Tm} {ts : List Tm} {V : Value} (hs : StrsAt W ss (fun k => w.heap.size ≤ k) v) (hB : Below w.heap.size w W)
    {g0 : Nat} (hg0 : g0 = W.heap.size) (ho : W'.ownsRow g0 40 2 V (2 + ts.length) (tmsCells ([a, b] ++ ts))) (hg : (W.alloc (.cells (tmsCells [a, b]).toArray 40)).grownBy W' (some g0)) :
    ∃ g c, V = .slice (some ⟨g, 0, none⟩) (2 + ts.length) c ∧ 2 + ts.length ≤ c ∧ NmSt w g W'.heap[g]? ss v W' ∧
      ∀ X : World, X.heap[g]? = W'.heap[g]? → ∀ i t, (a :: b :: ts)[i]? = some t → X.cell? ⟨g, i * 2, none⟩ = some (.string t.name) ∧ X.cell? ⟨g, i * 2 + 1, none⟩ = some (.int .i64 t.num) := by
  subst hg0
  have hlen : (a :: b :: ts).length = 2 + ts.length := by simp; omega
  have ho' := ho
  rw [← hlen] at ho'
  obtain ⟨A, c, rfl, hT, hA⟩ := TmsAt.own (ts := a :: b :: ts) ho'
  obtain ⟨g, rfl, hgb⟩ := hA (by simp)
  have hge := own_ge ho g hgb
  have hc : 2 + ts.length ≤ c := by
    rcases ho.2 with ⟨h, _⟩ | ⟨g', cap, cur, h, _, _, hnc, _⟩
    · cases h
    · simp only [Value.slice.injEq] at h; omega
  obtain ⟨b', off, e, hlt, hcell⟩ := hT (by simp)
  cases e
  have hsz : w.heap.size ≤ W.heap.size := hB.size
  refine ⟨g, c, by rw [hlen], hc, ⟨?_, ?_, rfl, hlt⟩, fun X hX i t ht => ?_⟩
  · refine hs.keep fun k hk hl => ⟨⟨hk, by omega⟩, ?_⟩
    exact (hg.block k (by simp; omega) (by simp; omega)).trans (Below.heap_alloc _ _ _ hl)
  · exact ⟨hg.os.trans hB.os, hg.tape.trans hB.tape, hg.output.trans hB.output, Nat.le_trans hsz (Nat.le_trans (by simp) hg.size), fun k hk => ((hg.block k (by simp; omega) (by simp; omega)).trans (Below.heap_alloc _ _ _ (by omega))).trans (hB.block k hk)⟩
  · have := hcell i t ht
    rw [Nat.zero_add] at this
    exact ⟨(cell_same hX).trans this.1, (cell_same hX).trans this.2⟩
def NmRel (w : World) (g : Nat) (o : Option Obj) (pre : List ByteArray) (L : List Tm) (gh : Nat) (v i : Value) (wr : World) : Prop :=
  ∃ k : Nat, k ≤ L.length ∧ L.length ≤ k + gh ∧ i = .int .i64 k ∧ NmSt w g o (pre ++ nmsOf (L.take k)) v wr

end Go.Proofs.YtnmpfpnldcgbaaaDoor
