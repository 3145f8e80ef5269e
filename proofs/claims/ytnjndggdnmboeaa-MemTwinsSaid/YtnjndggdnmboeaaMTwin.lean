/- For MemTwins: two memories, each with the document's own, apart; what Blocks told, written over. -/
import Derived.Test.YtnjndggdnmboeaaMSame
import Derived.Test.YtnjndggdnmboeaaMStep3
import Derived.Test.YtnjndggdnmboeaaMBlocks2
import Derived.Test.YtnjndggdnmboeaaMNil
namespace Go.Proofs.Ytnjndggdnmboeaa
open Go.RowKit

theorem Sep.pairG {w W : World} {l : List Thing} {C D : Thing} (h : Sep w W (l ++ [C, D])) : Sep w W (l ++ [pairT C D]) := by
  obtain ⟨F, h⟩ := h
  have hC : (l ++ [C, D])[l.length]? = some C := by simp
  have hD : (l ++ [C, D])[l.length + 1]? = some D := by simp
  have key : ∀ i k, (if i = l.length then F l.length k ∨ F (l.length + 1) k else if i < l.length then F i k else False) → (i = l.length ∧ (F l.length k ∨ F (l.length + 1) k)) ∨ (i < l.length ∧ F i k) := by
    intro i k hi
    by_cases h2 : i = l.length
    · rw [if_pos h2] at hi
      exact .inl ⟨h2, hi⟩
    · rw [if_neg h2] at hi
      split at hi
      · rename_i h3
        exact .inr ⟨h3, hi⟩
      · exact hi.elim
  refine ⟨fun i k => if i = l.length then F l.length k ∨ F (l.length + 1) k else if i < l.length then F i k else False, h.below, ?_, ?_, ?_⟩
  · intro i T hT
    by_cases hi : i < l.length
    · rw [List.getElem?_append_left hi] at hT
      have h1 := h.holds i T (by rw [List.getElem?_append_left hi]; exact hT)
      refine T.more h1 fun k _ hk => ?_
      show if i = l.length then _ else _
      rw [if_neg (by omega), if_pos hi]
      exact hk
    · rw [List.getElem?_append_right (by omega)] at hT
      have hlt := (List.getElem?_eq_some_iff.1 hT).1
      have hi2 : i = l.length := by simp at hlt; omega
      subst hi2
      simp at hT
      subst hT
      refine ⟨F l.length, F (l.length + 1), h.holds _ C hC, h.holds _ D hD, fun k hk => ⟨?_, (h.above _ k hk).2⟩, fun k hk => ⟨?_, (h.above _ k hk).2⟩, fun k h2 h3 => h.apart _ _ k (by omega) h2 h3⟩
      · show if _ = _ then _ else _
        rw [if_pos rfl]
        exact .inl hk
      · show if _ = _ then _ else _
        rw [if_pos rfl]
        exact .inr hk
  · intro i k hk
    rcases key i k hk with ⟨_, hk | hk⟩ | ⟨_, hk⟩
    · exact h.above _ k hk
    · exact h.above _ k hk
    · exact h.above _ k hk
  · intro i j k hij hi hj
    rcases key i k hi with ⟨rfl, h1⟩ | ⟨h0, h1⟩ <;> rcases key j k hj with ⟨rfl, h2⟩ | ⟨h3, h2⟩
    · exact hij rfl
    · rcases h1 with h1 | h1
      · exact h.apart _ j k (by omega) h1 h2
      · exact h.apart _ j k (by omega) h1 h2
    · rcases h2 with h2 | h2
      · exact h.apart i _ k (by omega) h1 h2
      · exact h.apart i _ k (by omega) h1 h2
    · exact h.apart i j k hij h1 h2
theorem Sep.unpairG {w W : World} {l : List Thing} {C D : Thing} (h : Sep w W (l ++ [pairT C D])) : Sep w W (l ++ [C, D]) := by
  obtain ⟨F, h⟩ := h
  obtain ⟨F1, F2, hC, hD, h3, h4, h5⟩ := h.holds l.length (pairT C D) (by simp)
  have key : ∀ i k, (if i = l.length then F1 k else if i = l.length + 1 then F2 k else if i < l.length then F i k else False) → (i = l.length ∧ F1 k) ∨ (i = l.length + 1 ∧ F2 k) ∨ (i < l.length ∧ F i k) := by
    intro i k hi
    by_cases h2 : i = l.length
    · rw [if_pos h2] at hi
      exact .inl ⟨h2, hi⟩
    · rw [if_neg h2] at hi
      by_cases h33 : i = l.length + 1
      · rw [if_pos h33] at hi
        exact .inr (.inl ⟨h33, hi⟩)
      · rw [if_neg h33] at hi
        split at hi
        · rename_i h6
          exact .inr (.inr ⟨h6, hi⟩)
        · exact hi.elim
  refine ⟨fun i k => if i = l.length then F1 k else if i = l.length + 1 then F2 k else if i < l.length then F i k else False, h.below, ?_, ?_, ?_⟩
  · intro i T hT
    by_cases hi : i < l.length
    · rw [List.getElem?_append_left hi] at hT
      have h1 := h.holds i T (by rw [List.getElem?_append_left hi]; exact hT)
      refine T.more h1 fun k _ hk => ?_
      show if i = l.length then _ else _
      rw [if_neg (by omega), if_neg (by omega), if_pos hi]
      exact hk
    · rw [List.getElem?_append_right (by omega)] at hT
      have hlt := (List.getElem?_eq_some_iff.1 hT).1
      have hi2 : i = l.length ∨ i = l.length + 1 := by simp at hlt; omega
      rcases hi2 with rfl | rfl
      · simp at hT
        subst hT
        refine C.more hC fun k _ hk => ?_
        show if _ = _ then _ else _
        rw [if_pos rfl]
        exact hk
      · simp at hT
        subst hT
        refine D.more hD fun k _ hk => ?_
        show if _ = _ then _ else _
        rw [if_neg (by omega), if_pos rfl]
        exact hk
  · intro i k hk
    rcases key i k hk with ⟨_, hk⟩ | ⟨_, hk⟩ | ⟨_, hk⟩
    · exact h.above _ k (h3 k hk).1
    · exact h.above _ k (h4 k hk).1
    · exact h.above _ k hk
  · intro i j k hij hi hj
    rcases key i k hi with ⟨rfl, h1⟩ | ⟨rfl, h1⟩ | ⟨h0, h1⟩ <;> rcases key j k hj with ⟨rfl, h2⟩ | ⟨rfl, h2⟩ | ⟨h6, h2⟩
    · exact hij rfl
    · exact h5 k h1 h2
    · exact h.apart _ j k (by omega) (h3 k h1).1 h2
    · exact h5 k h2 h1
    · exact hij rfl
    · exact h.apart _ j k (by omega) (h4 k h1).1 h2
    · exact h.apart i _ k (by omega) h1 (h3 k h2).1
    · exact h.apart i _ k (by omega) h1 (h4 k h2).1
    · exact h.apart i j k hij h1 h2

/- Both memories, both of the document's own, and the pointer. -/
def twins (a r b q gp : Nat) (s t : MS) : List Thing := [memT a s, refT r s, memT b t, refT q t, boxT gp (vCells ⟨2, 0, 1⟩) 34]
theorem Sep.twinA {w W : World} {a r b q gp : Nat} {s t : MS} (h : Sep w W (twins a r b q gp s t)) : Sep w W [memT a s, refT r s, pairT (memT b t) (pairT (refT q t) (boxT gp (vCells ⟨2, 0, 1⟩) 34))] :=
  Sep.pairG (l := [_, _]) (Sep.pairG (l := [_, _, _]) h)
theorem Sep.twinA' {w W : World} {a r b q gp : Nat} {s t : MS} (h : Sep w W [memT a s, refT r s, pairT (memT b t) (pairT (refT q t) (boxT gp (vCells ⟨2, 0, 1⟩) 34))]) : Sep w W (twins a r b q gp s t) :=
  Sep.unpairG (l := [_, _, _]) (Sep.unpairG (l := [_, _]) h)
theorem Sep.twinT {w W : World} {a r b q gp : Nat} {s t : MS} (h : Sep w W (twins a r b q gp s t)) : Sep w W (twins b q a r gp t s) := h.pick [2, 3, 0, 1, 4] (by decide) _ rfl

/- What Blocks told, of which the cells may have been written over. -/
structure RowsIs (w : World) (B g : Nat) (s : MS) (qs : List G3) : Prop where
  row : Blk w g (tRow s qs) 55
  len : qs.length = s.length
  rows : ∀ (i : Nat) (b : MB) (q : G3), s[i]? = some b → qs[i]? = some q → (∃ xs, Blk w q.c xs 34 ∧ xs.length = b.cells.length * 3) ∧ (∃ xs, Blk w q.r xs 3 ∧ xs.length = b.cells.length) ∧ (∃ xs, Blk w q.w xs 4 ∧ xs.length = b.cells.length) ∧ B ≤ q.c ∧ B ≤ q.r ∧ B ≤ q.w
theorem gRow_len {f : MC → List Value} {z : Nat} (hz : ∀ c, (f c).length = z) (l : List MC) : (gRow f l).length = l.length * z := by
  induction l with
  | nil => simp [gRow]
  | cons c l ih => simp only [gRow, List.length_append, hz, ih, List.length_cons, Nat.succ_mul]; omega
theorem RowsIs.of {w : World} {B g : Nat} {s : MS} {qs : List G3} (h : BlocksIs w B g s qs) : RowsIs w B g s qs :=
  ⟨h.row, h.len, fun i b q h1 h2 => by
    have ht := h.told i b q h1 h2
    exact ⟨⟨_, ht.c, gRow_len fV_len _⟩, ⟨_, ht.r, by rw [gRow_len fR_len]; omega⟩, ⟨_, ht.w, by rw [gRow_len fW_len]; omega⟩, ht.bc, ht.br, ht.bw⟩⟩
theorem RowsIs.below {w w' : World} {B g : Nat} {s : MS} {qs : List G3} (h : RowsIs w B g s qs) (hb : Below w.heap.size w w') : RowsIs w' B g s qs :=
  ⟨h.row.below hb h.row.lt, h.len, fun i b q h1 h2 => by
    obtain ⟨⟨x, hx, hxl⟩, ⟨y, hy, hyl⟩, ⟨z, hz, hzl⟩, h3⟩ := h.rows i b q h1 h2
    exact ⟨⟨x, hx.below hb hx.lt, hxl⟩, ⟨y, hy.below hb hy.lt, hyl⟩, ⟨z, hz.below hb hz.lt, hzl⟩, h3⟩⟩
theorem Blk.putAny {w : World} {g : Nat} {cs : List Value} {t : TypeId} (h : Blk w g cs t) (x i : Nat) (u : Value) : ∃ cs', Blk (w.setCell ⟨x, i, none⟩ u) g cs' t ∧ cs'.length = cs.length := by
  by_cases hx : g = x
  · subst hx
    exact ⟨_, h.put i u, by simp⟩
  · exact ⟨_, h.far (by show g ≠ x; exact hx) u, rfl⟩
theorem Blk.type {w : World} {g : Nat} {cs cs' : List Value} {t t' : TypeId} (h : Blk w g cs t) (h' : Blk w g cs' t') : t = t' := by
  unfold Blk at h h'
  rw [h] at h'
  injection h' with h1
  injection h1
theorem RowsIs.put {w : World} {B g : Nat} {s : MS} {qs : List G3} (h : RowsIs w B g s qs) {x : Nat} (hx : g ≠ x) (i : Nat) (u : Value) : RowsIs (w.setCell ⟨x, i, none⟩ u) B g s qs :=
  ⟨h.row.far (by show g ≠ x; exact hx) u, h.len, fun j b q h1 h2 => by
    obtain ⟨⟨a, ha, hal⟩, ⟨y, hy, hyl⟩, ⟨z, hz, hzl⟩, h3⟩ := h.rows j b q h1 h2
    obtain ⟨a', ha', hal'⟩ := ha.putAny x i u
    obtain ⟨y', hy', hyl'⟩ := hy.putAny x i u
    obtain ⟨z', hz', hzl'⟩ := hz.putAny x i u
    exact ⟨⟨a', ha', hal'.trans hal⟩, ⟨y', hy', hyl'.trans hyl⟩, ⟨z', hz', hzl'.trans hzl⟩, h3⟩⟩
theorem RowsIs.at {w : World} {B g : Nat} {s : MS} {qs : List G3} (h : RowsIs w B g s qs) {k : Nat} {a : MB} (ha : s[k]? = some a) : ∃ q : G3, qs[k]? = some q ∧
    w.cell? ⟨g, k * 4, none⟩ = some (.bool a.live) ∧ w.cell? ⟨g, k * 4 + 1, none⟩ = some (.slice (some ⟨q.c, 0, none⟩) a.cells.length a.cells.length) ∧ w.cell? ⟨g, k * 4 + 2, none⟩ = some (.slice (some ⟨q.r, 0, none⟩) a.cells.length a.cells.length) ∧ w.cell? ⟨g, k * 4 + 3, none⟩ = some (.slice (some ⟨q.w, 0, none⟩) a.cells.length a.cells.length) ∧ g < w.heap.size := by
  have hk := (List.getElem?_eq_some_iff.1 ha).1
  have hq : qs[k]? = some (qs[k]'(by rw [h.len]; exact hk)) := List.getElem?_eq_getElem _
  refine ⟨_, hq, ?_, ?_, ?_, ?_, h.row.lt⟩
  · exact (h.row.cell (k * 4 + 0)).trans (tRow_get ha hq 0 (by omega))
  · exact (h.row.cell (k * 4 + 1)).trans (tRow_get ha hq 1 (by omega))
  · exact (h.row.cell (k * 4 + 2)).trans (tRow_get ha hq 2 (by omega))
  · exact (h.row.cell (k * 4 + 3)).trans (tRow_get ha hq 3 (by omega))
theorem RowsIs.old {w : World} {B g : Nat} {s : MS} {qs : List G3} (h : RowsIs w B g s qs) {k : Nat} {a : MB} {q : G3} (ha : s[k]? = some a) (hq : qs[k]? = some q) {j : Nat} (hj : j < a.cells.length) :
    ∃ x0 x1 x2 y z, w.cell? ⟨q.c, j * 3, none⟩ = some x0 ∧ w.cell? ⟨q.c, j * 3 + 1, none⟩ = some x1 ∧ w.cell? ⟨q.c, j * 3 + 2, none⟩ = some x2 ∧ w.cell? ⟨q.r, j, none⟩ = some y ∧ w.cell? ⟨q.w, j, none⟩ = some z ∧
      (∀ o, w.frozen? ⟨q.c, o, none⟩ = false) ∧ (∀ o, w.frozen? ⟨q.r, o, none⟩ = false) ∧ (∀ o, w.frozen? ⟨q.w, o, none⟩ = false) ∧ q.c < w.heap.size ∧ q.r < w.heap.size ∧ q.w < w.heap.size ∧ g ≠ q.c ∧ g ≠ q.r ∧ g ≠ q.w ∧ q.c ≠ q.r ∧ q.c ≠ q.w ∧ q.r ≠ q.w ∧ B ≤ q.c ∧ B ≤ q.r ∧ B ≤ q.w := by
  obtain ⟨⟨xs, hx, hxl⟩, ⟨ys, hy, hyl⟩, ⟨zs, hz, hzl⟩, b1, b2, b3⟩ := h.rows k a q ha hq
  refine ⟨xs[j * 3]'(by omega), xs[j * 3 + 1]'(by omega), xs[j * 3 + 2]'(by omega), ys[j]'(by omega), zs[j]'(by omega), ?_, ?_, ?_, ?_, ?_, fun o => hx.frozen o, fun o => hy.frozen o, fun o => hz.frozen o, hx.lt, hy.lt, hz.lt, ?_, ?_, ?_, ?_, ?_, ?_, b1, b2, b3⟩
  · rw [hx.cell, List.getElem?_eq_getElem]
  · rw [hx.cell, List.getElem?_eq_getElem]
  · rw [hx.cell, List.getElem?_eq_getElem]
  · rw [hy.cell, List.getElem?_eq_getElem]
  · rw [hz.cell, List.getElem?_eq_getElem]
  · intro e; subst e; exact absurd (h.row.type hx) (by decide)
  · intro e; subst e; exact absurd (h.row.type hy) (by decide)
  · intro e; subst e; exact absurd (h.row.type hz) (by decide)
  · intro e; rw [e] at hx; exact absurd (hx.type hy) (by decide)
  · intro e; rw [e] at hx; exact absurd (hx.type hz) (by decide)
  · intro e; rw [e] at hy; exact absurd (hy.type hz) (by decide)

end Go.Proofs.Ytnjndggdnmboeaa
