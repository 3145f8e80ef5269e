/- A row of tokens in memory, read token by token. -/
import Derived.Test.YtflhniiemmahmaaDoorTabs
import Derived.Deep.AppendLies
namespace Go.Proofs.YtflhniiemmahmaaDoor
open Go.RowKit

theorem cellsOf_get : ∀ (ts : List Tok) (i : Nat) (t : Tok) (q : Nat), ts[i]? = some t → q < 4 → (cellsOf ts)[i * 4 + q]? = (tokCells t)[q]?
  | [], i, t, q, h, _ => by simp at h
  | u :: ts, 0, t, q, h, hq => by
    have e : u = t := by simpa using h
    subst e
    show (tokCells u ++ cellsOf ts)[0 * 4 + q]? = _
    rw [Nat.zero_mul, Nat.zero_add, List.getElem?_append_left (by simpa [tokCells] using hq)]
  | u :: ts, i + 1, t, q, h, hq => by
    show (tokCells u ++ cellsOf ts)[(i + 1) * 4 + q]? = _
    rw [List.getElem?_append_right (by simp [tokCells]; omega)]
    have e : (i + 1) * 4 + q - (tokCells u).length = i * 4 + q := by simp [tokCells]; omega
    rw [e]
    exact cellsOf_get ts i t q (by simpa using h) hq

def RowAt (w : World) (g : Nat) (ts : List Tok) : Prop := ∀ i t, ts[i]? = some t →
  w.cell? ⟨g, i * 4, none⟩ = some (.int .i64 t.kind) ∧ w.cell? ⟨g, i * 4 + 1, none⟩ = some (.string t.text) ∧ w.cell? ⟨g, i * 4 + 2, none⟩ = some (.int .i64 t.num) ∧ w.cell? ⟨g, i * 4 + 3, none⟩ = some (.int .i64 t.place)

theorem RowAt.below {w w' : World} {g B : Nat} {ts : List Tok} (h : RowAt w g ts) (hb : Below B w w') (hg : g < B) : RowAt w' g ts := fun i t ht => by
  obtain ⟨h0, h1, h2, h3⟩ := h i t ht
  exact ⟨(hb.cell (p := ⟨g, i * 4, none⟩) hg).trans h0, (hb.cell (p := ⟨g, i * 4 + 1, none⟩) hg).trans h1, (hb.cell (p := ⟨g, i * 4 + 2, none⟩) hg).trans h2, (hb.cell (p := ⟨g, i * 4 + 3, none⟩) hg).trans h3⟩

theorem row_of_own {w : World} {base : Nat} {v : Value} {ts : List Tok} (h : w.ownsRow base 50 4 v ts.length (cellsOf ts)) (hn : 0 < ts.length) :
    ∃ g cap, v = .slice (some ⟨g, 0, none⟩) ts.length cap ∧ base ≤ g ∧ g < w.heap.size ∧ ts.length ≤ cap ∧ RowAt w g ts := by
  obtain ⟨g, cap, rfl, hg1, hg2⟩ := h.form hn
  have hcap : ts.length ≤ cap := by
    rcases h.2 with ⟨h0, _⟩ | ⟨g', cap', cur, hv, _, _, hle, _⟩
    · cases h0
    · cases hv; exact hle
  refine ⟨g, cap, rfl, hg1, hg2, hcap, fun i t ht => ?_⟩
  have hi : i < ts.length := (List.getElem?_eq_some_iff.1 ht).1
  have c : ∀ q, q < 4 → w.cell? ⟨g, i * 4 + q, none⟩ = (tokCells t)[q]? := fun q hq => by
    rw [h.cellAt (i * 4 + q) (by omega), cellsOf_get ts i t q ht hq]
  exact ⟨c 0 (by omega), c 1 (by omega), c 2 (by omega), c 3 (by omega)⟩

end Go.Proofs.YtflhniiemmahmaaDoor
