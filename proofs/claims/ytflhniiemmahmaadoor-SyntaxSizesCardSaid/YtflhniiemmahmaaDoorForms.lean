/- A row of trees in memory, read tree by tree. Nothing of the program is walked here. -/
import Derived.Test.YtflhniiemmahmaaDoorTree
import Derived.Test.YtflhniiemmahmaaDoorSize
namespace Go.Proofs.YtflhniiemmahmaaDoor
open Go.RowKit

theorem rowCells_get : ∀ (ks : List T) (vs : List Value) (k : Nat) (t : T) (u : Value) (j : Nat), ks[k]? = some t → vs[k]? = some u → j < 5 → (rowCells ks vs)[k * 5 + j]? = (nodeCells t u)[j]?
  | [], _, k, t, u, j, h, _, _ => by simp at h
  | _ :: _, [], k, t, u, j, _, h, _ => by simp at h
  | a :: ks, b :: vs, 0, t, u, j, h, h', hj => by
    obtain rfl : a = t := by simpa using h
    obtain rfl : b = u := by simpa using h'
    rw [rowCells, Nat.zero_mul, Nat.zero_add, List.getElem?_append_left (by simpa [nodeCells] using hj)]
  | a :: ks, b :: vs, k + 1, t, u, j, h, h', hj => by
    rw [rowCells, List.getElem?_append_right (by simp [nodeCells]; omega)]
    have e : (k + 1) * 5 + j - (nodeCells a b).length = k * 5 + j := by simp [nodeCells]; omega
    rw [e]
    exact rowCells_get ks vs k t u j (by simpa using h) (by simpa using h') hj
theorem TsAt.get {e : TypeId} {w : World} : ∀ {ts : List T} {S : Nat → Prop} {vs : List Value}, TsAt e w ts S vs → ∀ {k : Nat} {t : T}, ts[k]? = some t → ∃ u, vs[k]? = some u ∧ TAt e w t S u
  | [], _, _, _, k, t, h => by simp at h
  | a :: ts, S, vs, h, 0, t, hk => by
    unfold TsAt at h
    obtain ⟨v, vs', rfl, ht, _⟩ := h
    obtain rfl : a = t := by simpa using hk
    exact ⟨v, rfl, ht⟩
  | a :: ts, S, vs, h, k + 1, t, hk => by
    unfold TsAt at h
    obtain ⟨v, vs', rfl, _, hts⟩ := h
    obtain ⟨u, hu, ht⟩ := TsAt.get hts (k := k) (t := t) (by simpa using hk)
    exact ⟨u, by simpa using hu, ht⟩

/- A slice of trees is nil and holds none, or lies in a block. -/
theorem KAt.form {e : TypeId} {w : World} {ks : List T} {S : Nat → Prop} {v : Value} (h : KAt e w ks S v) : (v = .slice none 0 0 ∧ ks = []) ∨ ∃ g cap, v = .slice (some ⟨g, 0, none⟩) ks.length cap ∧ g < w.heap.size ∧ ks.length ≤ cap ∧ cap ≤ maxLen ∧
    ∀ k t, ks[k]? = some t → ∃ u, w.rangeAt g (k * 5) (nodeCells t u) ∧ TAt e w t S u := by
  obtain ⟨vs, ho, hS, hts⟩ := h
  have ho' := ho
  rcases ho.2 with ⟨rfl, h0⟩ | ⟨g, cap, cur, rfl, hb, hg, hnc, hcm, hcs, htake⟩
  · exact .inl ⟨rfl, List.eq_nil_of_length_eq_zero h0⟩
  · refine .inr ⟨g, cap, rfl, (Array.getElem?_eq_some_iff.1 hg).1, hnc, hcm, fun k t hk => ?_⟩
    obtain ⟨u, hu, ht⟩ := TsAt.get hts hk
    refine ⟨u, fun j x hj => ?_, ht.mono fun b hb _ => hb.1⟩
    have hj5 : j < 5 := by have := (List.getElem?_eq_some_iff.1 hj).1; simpa [nodeCells] using this
    have hlt : k < ks.length := (List.getElem?_eq_some_iff.1 hk).1
    rw [ho'.cellAt (k * 5 + j) (by omega), rowCells_get ks vs k t u j hk hu hj5]
    exact hj
theorem rangeAt_below {w w' : World} {g o : Nat} {cs : List Value} (h : w.rangeAt g o cs) (hb : Below w.heap.size w w') (hg : g < w.heap.size) : w'.rangeAt g o cs := fun j v hj => (hb.cell (p := ⟨g, o + j, none⟩) hg).trans (h j v hj)

theorem sizes_take (ks : List T) (k : Nat) (t : T) (h : ks[k]? = some t) : sizes (ks.take (k + 1)) = sizes (ks.take k) + t.size := by
  have hlt := (List.getElem?_eq_some_iff.1 h).1
  rw [List.take_succ_eq_append_getElem hlt, sizes_append, sizes_cons, sizes_nil, (List.getElem?_eq_some_iff.1 h).2]
  omega
theorem sizes_mem : ∀ {ks : List T} {k : Nat} {t : T}, ks[k]? = some t → t.size ≤ sizes ks
  | [], k, t, h => by simp at h
  | a :: ks, 0, t, h => by
    obtain rfl : a = t := by simpa using h
    rw [sizes_cons]; omega
  | a :: ks, k + 1, t, h => by rw [sizes_cons]; have := sizes_mem (ks := ks) (k := k) (t := t) (by simpa using h); omega
theorem sizes_take_le (ks : List T) (k : Nat) : sizes (ks.take k) ≤ sizes ks := by
  have h := sizes_append (ks.take k) (ks.drop k)
  rw [List.take_append_drop] at h
  omega

theorem len_sizes : ∀ ks : List T, ks.length ≤ sizes ks
  | [] => by simp
  | a :: ks => by have := len_sizes ks; rw [sizes_cons]; cases a; rw [size_mk]; simp; omega

theorem kids_len (t : T) : t.kids.length ≤ t.size := by
  cases t with
  | mk k s n p ks => rw [size_mk]; have := len_sizes ks; show ks.length ≤ _; omega

end Go.Proofs.YtflhniiemmahmaaDoor
