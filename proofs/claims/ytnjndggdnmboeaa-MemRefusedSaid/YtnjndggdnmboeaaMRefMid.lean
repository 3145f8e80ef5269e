/- While lychgateref06.Alloc runs: the memory's block, its three rows and the block of the answer, all apart; and what an append to one of the rows makes of it. -/
import Derived.Test.YtnjndggdnmboeaaMRefAlloc
namespace Go.Proofs.Ytnjndggdnmboeaa
open Go.RowKit

structure AMid (w0 : World) (O : Nat → Prop) (b r : Nat) (u : Int) (w : World) (vl vs vc : Value) (nl ns nc : Nat) (xl xs xc : List Value) : Prop where
  blk : Blk w b [vl, vs, vc, .int .i64 u] 30
  L : w.ownsRow 0 4 1 vl nl xl
  S : w.ownsRow 0 2 1 vs ns xs
  C : w.ownsRow 0 72 7 vc nc xc
  aL : ∀ g, vl.ownBlock = some g → g ≠ b ∧ g ≠ r ∧ vs.ownBlock ≠ some g ∧ vc.ownBlock ≠ some g ∧ grow O w0 w g
  aS : ∀ g, vs.ownBlock = some g → g ≠ b ∧ g ≠ r ∧ vl.ownBlock ≠ some g ∧ vc.ownBlock ≠ some g ∧ grow O w0 w g
  aC : ∀ g, vc.ownBlock = some g → g ≠ b ∧ g ≠ r ∧ vl.ownBlock ≠ some g ∧ vs.ownBlock ≠ some g ∧ grow O w0 w g
  res : Blk w r [.int .i64 0, .int .i64 0, .int .i64 0] 61
  rb : r ≠ b
  r0 : w0.heap.size ≤ r
  ob : O b
  ch : Ch O w0 w

theorem grow_more {O : Nat → Prop} {w0 w w' : World} (h : w.heap.size ≤ w'.heap.size) {g : Nat} (hg : grow O w0 w g) : grow O w0 w' g := by
  rcases hg with hg | ⟨h1, h2⟩
  · exact .inl hg
  · exact .inr ⟨h1, by omega⟩
theorem grow_both {O : Nat → Prop} {w0 w : World} {g : Nat} (h : grow O w0 w g) (_hlt : g < w0.heap.size) : O g := by
  rcases h with h | ⟨h1, _⟩
  · exact h
  · omega
section
variable {w0 w w' : World} {O : Nat → Prop} {b r : Nat} {u : Int} {vl vs vc : Value} {nl ns nc : Nat} {xl xs xc : List Value}
theorem AMid.below (h : AMid w0 O b r u w vl vs vc nl ns nc xl xs xc) (hb : Below w.heap.size w w') : AMid w0 O b r u w' vl vs vc nl ns nc xl xs xc :=
  ⟨h.blk.same (hb.block _ h.blk.lt), row_same h.L (fun _ hg => hb.block _ (row_lt h.L hg)), row_same h.S (fun _ hg => hb.block _ (row_lt h.S hg)), row_same h.C (fun _ hg => hb.block _ (row_lt h.C hg)),
   fun g hg => by obtain ⟨a1, a2, a3, a4, a5⟩ := h.aL g hg; exact ⟨a1, a2, a3, a4, grow_more hb.size a5⟩,
   fun g hg => by obtain ⟨a1, a2, a3, a4, a5⟩ := h.aS g hg; exact ⟨a1, a2, a3, a4, grow_more hb.size a5⟩,
   fun g hg => by obtain ⟨a1, a2, a3, a4, a5⟩ := h.aC g hg; exact ⟨a1, a2, a3, a4, grow_more hb.size a5⟩,
   h.res.same (hb.block _ h.res.lt), h.rb, h.r0, h.ob, h.ch.trans (O' := O) (Ch.of_below hb) (fun _ _ h => h)⟩
theorem AMid.facts (h : AMid w0 O b r u w vl vs vc nl ns nc xl xs xc) : w.cell? ⟨b, 0, none⟩ = some vl ∧ w.cell? ⟨b, 1, none⟩ = some vs ∧ w.cell? ⟨b, 2, none⟩ = some vc ∧ w.cell? ⟨b, 3, none⟩ = some (.int .i64 u) ∧
    w.frozen? ⟨b, 0, none⟩ = false ∧ w.frozen? ⟨b, 1, none⟩ = false ∧ w.frozen? ⟨b, 2, none⟩ = false ∧ w.frozen? ⟨b, 3, none⟩ = false ∧ b < w.heap.size :=
  ⟨h.blk.cell 0, h.blk.cell 1, h.blk.cell 2, h.blk.cell 3, h.blk.frozen 0, h.blk.frozen 1, h.blk.frozen 2, h.blk.frozen 3, h.blk.lt⟩
theorem AMid.resFacts (h : AMid w0 O b r u w vl vs vc nl ns nc xl xs xc) : w.cell? ⟨r, 0, none⟩ = some (.int .i64 0) ∧ w.cell? ⟨r, 1, none⟩ = some (.int .i64 0) ∧ w.cell? ⟨r, 2, none⟩ = some (.int .i64 0) ∧
    w.frozen? ⟨r, 0, none⟩ = false ∧ w.frozen? ⟨r, 1, none⟩ = false ∧ w.frozen? ⟨r, 2, none⟩ = false ∧ r < w.heap.size :=
  ⟨h.res.cell 0, h.res.cell 1, h.res.cell 2, h.res.frozen 0, h.res.frozen 1, h.res.frozen 2, h.res.lt⟩
theorem AMid.stepL (h : AMid w0 O b r u w vl vs vc nl ns nc xl xs xc) {W : World} (hb : Below w.heap.size w W) {w3 : World} {g cap : Nat} {news : List Value}
    (hown : w3.ownsRow 0 4 1 (.slice (some ⟨g, 0, none⟩) (nl + 1) cap) (nl + 1) (xl ++ news)) (hgrow : W.grownBy w3 vl.ownBlock) (hg : vl.ownBlock = some g ∨ g = W.heap.size) :
    AMid w0 O b r u (w3.setCell ⟨b, 0, none⟩ (.slice (some ⟨g, 0, none⟩) (nl + 1) cap)) (.slice (some ⟨g, 0, none⟩) (nl + 1) cap) vs vc (nl + 1) ns nc (xl ++ news) xs xc := by
  have hW := h.below hb
  have hbw : b < w.heap.size := h.blk.lt
  have hrw : r < w.heap.size := h.res.lt
  have hbW := hb.size
  have hgl : g < w3.heap.size := row_lt hown rfl
  have hw3 : W.heap.size ≤ w3.heap.size := hgrow.size
  have far : ∀ x, x < W.heap.size → vl.ownBlock ≠ some x → w3.heap[x]? = W.heap[x]? := fun x hx hn => hgrow.block x hx (Ne.symm hn)
  have nb : vl.ownBlock ≠ some b := fun e => (h.aL b e).1 rfl
  have nr : vl.ownBlock ≠ some r := fun e => (h.aL r e).2.1 rfl
  have gb : g ≠ b := by
    rcases hg with hg | hg
    · exact (h.aL g hg).1
    · omega
  have gr : g ≠ r := by
    rcases hg with hg | hg
    · exact (h.aL g hg).2.1
    · omega
  have gO : grow O w0 w3 g := by
    rcases hg with hg | hg
    · exact grow_more (by omega) (h.aL g hg).2.2.2.2
    · exact .inr ⟨by have := h.ch.size; omega, hgl⟩
  have nS : ∀ k, vs.ownBlock = some k → k ≠ b ∧ vl.ownBlock ≠ some k ∧ k < w.heap.size ∧ k ≠ g := fun k hk => by
    have hkl := row_lt h.S hk
    refine ⟨(h.aS k hk).1, (h.aS k hk).2.2.1, hkl, ?_⟩
    rintro rfl
    rcases hg with hg | hg
    · exact (h.aS _ hk).2.2.1 hg
    · omega
  have nC : ∀ k, vc.ownBlock = some k → k ≠ b ∧ vl.ownBlock ≠ some k ∧ k < w.heap.size ∧ k ≠ g := fun k hk => by
    have hkl := row_lt h.C hk
    refine ⟨(h.aC k hk).1, (h.aC k hk).2.2.1, hkl, ?_⟩
    rintro rfl
    rcases hg with hg | hg
    · exact (h.aC _ hk).2.2.1 hg
    · omega
  refine ⟨?_, ?_, ?_, ?_, ?_, ?_, ?_, ?_, h.rb, h.r0, h.ob, ?_⟩
  · exact (hW.blk.same (far b (by omega) nb)).put 0 (.slice (some ⟨g, 0, none⟩) (nl + 1) cap)
  · exact row_same hown fun x hx => by
      cases hx
      exact Below.heap_setCell _ _ _ _ (by show g ≠ b; exact gb)
  · refine row_same hW.S fun k hk => ?_
    obtain ⟨a1, a2, a3, _⟩ := nS k hk
    rw [Below.heap_setCell _ _ _ _ (by show k ≠ b; exact a1)]
    exact far k (by omega) a2
  · refine row_same hW.C fun k hk => ?_
    obtain ⟨a1, a2, a3, _⟩ := nC k hk
    rw [Below.heap_setCell _ _ _ _ (by show k ≠ b; exact a1)]
    exact far k (by omega) a2
  · intro k hk
    have hk : g = k := by simpa [Value.ownBlock] using hk
    subst hk
    refine ⟨gb, gr, ?_, ?_, by simpa [grow] using gO⟩
    · exact fun e => (nS g e).2.2.2 rfl
    · exact fun e => (nC g e).2.2.2 rfl
  · intro k hk
    obtain ⟨a1, a2, a3, a4, a5⟩ := h.aS k hk
    refine ⟨a1, a2, ?_, ?_, by simpa [grow] using grow_more (w' := w3) (by omega) a5⟩
    · exact (fun e => (nS k hk).2.2.2 (by have e : g = k := (by simpa [Value.ownBlock] using e); exact e.symm))
    · exact a4
  · intro k hk
    obtain ⟨a1, a2, a3, a4, a5⟩ := h.aC k hk
    refine ⟨a1, a2, ?_, ?_, by simpa [grow] using grow_more (w' := w3) (by omega) a5⟩
    · exact (fun e => (nC k hk).2.2.2 (by have e : g = k := (by simpa [Value.ownBlock] using e); exact e.symm))
    · exact a4
  · exact (hW.res.same (far r (by omega) nr)).far (by show r ≠ b; exact h.rb) _
  · have h1 : Ch O w0 w3 := hW.ch.trans (Ch.of_grown (O := fun x => vl.ownBlock = some x) hgrow (fun k hk => hk)) (fun i hi hv => grow_both (h.aL i hv).2.2.2.2 hi)
    exact h1.set ⟨b, 0, none⟩ (.inl h.ob) _
theorem AMid.stepS (h : AMid w0 O b r u w vl vs vc nl ns nc xl xs xc) {W : World} (hb : Below w.heap.size w W) {w3 : World} {g cap : Nat} {news : List Value}
    (hown : w3.ownsRow 0 2 1 (.slice (some ⟨g, 0, none⟩) (ns + 1) cap) (ns + 1) (xs ++ news)) (hgrow : W.grownBy w3 vs.ownBlock) (hg : vs.ownBlock = some g ∨ g = W.heap.size) :
    AMid w0 O b r u (w3.setCell ⟨b, 1, none⟩ (.slice (some ⟨g, 0, none⟩) (ns + 1) cap)) vl (.slice (some ⟨g, 0, none⟩) (ns + 1) cap) vc nl (ns + 1) nc xl (xs ++ news) xc := by
  have hW := h.below hb
  have hbw : b < w.heap.size := h.blk.lt
  have hrw : r < w.heap.size := h.res.lt
  have hbW := hb.size
  have hgl : g < w3.heap.size := row_lt hown rfl
  have hw3 : W.heap.size ≤ w3.heap.size := hgrow.size
  have far : ∀ x, x < W.heap.size → vs.ownBlock ≠ some x → w3.heap[x]? = W.heap[x]? := fun x hx hn => hgrow.block x hx (Ne.symm hn)
  have nb : vs.ownBlock ≠ some b := fun e => (h.aS b e).1 rfl
  have nr : vs.ownBlock ≠ some r := fun e => (h.aS r e).2.1 rfl
  have gb : g ≠ b := by
    rcases hg with hg | hg
    · exact (h.aS g hg).1
    · omega
  have gr : g ≠ r := by
    rcases hg with hg | hg
    · exact (h.aS g hg).2.1
    · omega
  have gO : grow O w0 w3 g := by
    rcases hg with hg | hg
    · exact grow_more (by omega) (h.aS g hg).2.2.2.2
    · exact .inr ⟨by have := h.ch.size; omega, hgl⟩
  have nL : ∀ k, vl.ownBlock = some k → k ≠ b ∧ vs.ownBlock ≠ some k ∧ k < w.heap.size ∧ k ≠ g := fun k hk => by
    have hkl := row_lt h.L hk
    refine ⟨(h.aL k hk).1, (h.aL k hk).2.2.1, hkl, ?_⟩
    rintro rfl
    rcases hg with hg | hg
    · exact (h.aL _ hk).2.2.1 hg
    · omega
  have nC : ∀ k, vc.ownBlock = some k → k ≠ b ∧ vs.ownBlock ≠ some k ∧ k < w.heap.size ∧ k ≠ g := fun k hk => by
    have hkl := row_lt h.C hk
    refine ⟨(h.aC k hk).1, (h.aC k hk).2.2.2.1, hkl, ?_⟩
    rintro rfl
    rcases hg with hg | hg
    · exact (h.aC _ hk).2.2.2.1 hg
    · omega
  refine ⟨?_, ?_, ?_, ?_, ?_, ?_, ?_, ?_, h.rb, h.r0, h.ob, ?_⟩
  · exact (hW.blk.same (far b (by omega) nb)).put 1 (.slice (some ⟨g, 0, none⟩) (ns + 1) cap)
  · refine row_same hW.L fun k hk => ?_
    obtain ⟨a1, a2, a3, _⟩ := nL k hk
    rw [Below.heap_setCell _ _ _ _ (by show k ≠ b; exact a1)]
    exact far k (by omega) a2
  · exact row_same hown fun x hx => by
      cases hx
      exact Below.heap_setCell _ _ _ _ (by show g ≠ b; exact gb)
  · refine row_same hW.C fun k hk => ?_
    obtain ⟨a1, a2, a3, _⟩ := nC k hk
    rw [Below.heap_setCell _ _ _ _ (by show k ≠ b; exact a1)]
    exact far k (by omega) a2
  · intro k hk
    obtain ⟨a1, a2, a3, a4, a5⟩ := h.aL k hk
    refine ⟨a1, a2, ?_, ?_, by simpa [grow] using grow_more (w' := w3) (by omega) a5⟩
    · exact (fun e => (nL k hk).2.2.2 (by have e : g = k := (by simpa [Value.ownBlock] using e); exact e.symm))
    · exact a4
  · intro k hk
    have hk : g = k := by simpa [Value.ownBlock] using hk
    subst hk
    refine ⟨gb, gr, ?_, ?_, by simpa [grow] using gO⟩
    · exact fun e => (nL g e).2.2.2 rfl
    · exact fun e => (nC g e).2.2.2 rfl
  · intro k hk
    obtain ⟨a1, a2, a3, a4, a5⟩ := h.aC k hk
    refine ⟨a1, a2, ?_, ?_, by simpa [grow] using grow_more (w' := w3) (by omega) a5⟩
    · exact a3
    · exact (fun e => (nC k hk).2.2.2 (by have e : g = k := (by simpa [Value.ownBlock] using e); exact e.symm))
  · exact (hW.res.same (far r (by omega) nr)).far (by show r ≠ b; exact h.rb) _
  · have h1 : Ch O w0 w3 := hW.ch.trans (Ch.of_grown (O := fun x => vs.ownBlock = some x) hgrow (fun k hk => hk)) (fun i hi hv => grow_both (h.aS i hv).2.2.2.2 hi)
    exact h1.set ⟨b, 1, none⟩ (.inl h.ob) _
theorem AMid.stepC (h : AMid w0 O b r u w vl vs vc nl ns nc xl xs xc) {W : World} (hb : Below w.heap.size w W) {w3 : World} {g cap : Nat} {news : List Value}
    (hown : w3.ownsRow 0 72 7 (.slice (some ⟨g, 0, none⟩) (nc + 1) cap) (nc + 1) (xc ++ news)) (hgrow : W.grownBy w3 vc.ownBlock) (hg : vc.ownBlock = some g ∨ g = W.heap.size) :
    AMid w0 O b r u (w3.setCell ⟨b, 2, none⟩ (.slice (some ⟨g, 0, none⟩) (nc + 1) cap)) vl vs (.slice (some ⟨g, 0, none⟩) (nc + 1) cap) nl ns (nc + 1) xl xs (xc ++ news) := by
  have hW := h.below hb
  have hbw : b < w.heap.size := h.blk.lt
  have hrw : r < w.heap.size := h.res.lt
  have hbW := hb.size
  have hgl : g < w3.heap.size := row_lt hown rfl
  have hw3 : W.heap.size ≤ w3.heap.size := hgrow.size
  have far : ∀ x, x < W.heap.size → vc.ownBlock ≠ some x → w3.heap[x]? = W.heap[x]? := fun x hx hn => hgrow.block x hx (Ne.symm hn)
  have nb : vc.ownBlock ≠ some b := fun e => (h.aC b e).1 rfl
  have nr : vc.ownBlock ≠ some r := fun e => (h.aC r e).2.1 rfl
  have gb : g ≠ b := by
    rcases hg with hg | hg
    · exact (h.aC g hg).1
    · omega
  have gr : g ≠ r := by
    rcases hg with hg | hg
    · exact (h.aC g hg).2.1
    · omega
  have gO : grow O w0 w3 g := by
    rcases hg with hg | hg
    · exact grow_more (by omega) (h.aC g hg).2.2.2.2
    · exact .inr ⟨by have := h.ch.size; omega, hgl⟩
  have nL : ∀ k, vl.ownBlock = some k → k ≠ b ∧ vc.ownBlock ≠ some k ∧ k < w.heap.size ∧ k ≠ g := fun k hk => by
    have hkl := row_lt h.L hk
    refine ⟨(h.aL k hk).1, (h.aL k hk).2.2.2.1, hkl, ?_⟩
    rintro rfl
    rcases hg with hg | hg
    · exact (h.aL _ hk).2.2.2.1 hg
    · omega
  have nS : ∀ k, vs.ownBlock = some k → k ≠ b ∧ vc.ownBlock ≠ some k ∧ k < w.heap.size ∧ k ≠ g := fun k hk => by
    have hkl := row_lt h.S hk
    refine ⟨(h.aS k hk).1, (h.aS k hk).2.2.2.1, hkl, ?_⟩
    rintro rfl
    rcases hg with hg | hg
    · exact (h.aS _ hk).2.2.2.1 hg
    · omega
  refine ⟨?_, ?_, ?_, ?_, ?_, ?_, ?_, ?_, h.rb, h.r0, h.ob, ?_⟩
  · exact (hW.blk.same (far b (by omega) nb)).put 2 (.slice (some ⟨g, 0, none⟩) (nc + 1) cap)
  · refine row_same hW.L fun k hk => ?_
    obtain ⟨a1, a2, a3, _⟩ := nL k hk
    rw [Below.heap_setCell _ _ _ _ (by show k ≠ b; exact a1)]
    exact far k (by omega) a2
  · refine row_same hW.S fun k hk => ?_
    obtain ⟨a1, a2, a3, _⟩ := nS k hk
    rw [Below.heap_setCell _ _ _ _ (by show k ≠ b; exact a1)]
    exact far k (by omega) a2
  · exact row_same hown fun x hx => by
      cases hx
      exact Below.heap_setCell _ _ _ _ (by show g ≠ b; exact gb)
  · intro k hk
    obtain ⟨a1, a2, a3, a4, a5⟩ := h.aL k hk
    refine ⟨a1, a2, ?_, ?_, by simpa [grow] using grow_more (w' := w3) (by omega) a5⟩
    · exact a3
    · exact (fun e => (nL k hk).2.2.2 (by have e : g = k := (by simpa [Value.ownBlock] using e); exact e.symm))
  · intro k hk
    obtain ⟨a1, a2, a3, a4, a5⟩ := h.aS k hk
    refine ⟨a1, a2, ?_, ?_, by simpa [grow] using grow_more (w' := w3) (by omega) a5⟩
    · exact a3
    · exact (fun e => (nS k hk).2.2.2 (by have e : g = k := (by simpa [Value.ownBlock] using e); exact e.symm))
  · intro k hk
    have hk : g = k := by simpa [Value.ownBlock] using hk
    subst hk
    refine ⟨gb, gr, ?_, ?_, by simpa [grow] using gO⟩
    · exact fun e => (nL g e).2.2.2 rfl
    · exact fun e => (nS g e).2.2.2 rfl
  · exact (hW.res.same (far r (by omega) nr)).far (by show r ≠ b; exact h.rb) _
  · have h1 : Ch O w0 w3 := hW.ch.trans (Ch.of_grown (O := fun x => vc.ownBlock = some x) hgrow (fun k hk => hk)) (fun i hi hv => grow_both (h.aC i hv).2.2.2.2 hi)
    exact h1.set ⟨b, 2, none⟩ (.inl h.ob) _

theorem AMid.toRef {s : MS} {n : Nat} {u : Int} (h : AMid w0 O b r u w vl vs vc (s.length + 1) (s.length + 1) ((rcs 0 s).length + n) (lRow s ++ [.bool true]) (zRowS s ++ [.int .i64 (n : Int)]) (rRow (rcs 0 s ++ newCells (s.length + 1) n))) (hu : u = (usedS s : Int) + n + 1) (hm : usedS s + n + 1 ≤ 4096) :
    RefIs w b vl vs vc (s ++ [⟨true, List.replicate n c0⟩]) := by
  subst hu
  exact RefMid.done ⟨h.blk, h.L, h.S, h.C, fun g hg => ⟨(h.aL g hg).1, (h.aL g hg).2.2.1, (h.aL g hg).2.2.2.1⟩, fun g hg => ⟨(h.aS g hg).1, (h.aS g hg).2.2.1, (h.aS g hg).2.2.2.1⟩, fun g hg => ⟨(h.aC g hg).1, (h.aC g hg).2.2.1, (h.aC g hg).2.2.2.1⟩, hm⟩
end

end Go.Proofs.Ytnjndggdnmboeaa
