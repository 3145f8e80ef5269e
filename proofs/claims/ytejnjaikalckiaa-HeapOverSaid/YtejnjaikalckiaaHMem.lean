/- A heap of layer 13 as it lies in memory, in the program's types or in the document's: its parts lie apart. Nothing of the program is walked here. -/
import Derived.Test.YtejnjaikalckiaaHPl
import Derived.Test.YtejnjaikalckiaaHSep
import Derived.Laws.AppendOwn
import Derived.Laws.AppendOwnNone
namespace Go.Proofs.Ytejnjaikalckiaa
open Go.RowKit

structure HTy where
  heap : TypeId
  chunk : TypeId
  sym : TypeId
  leq : TypeId

def syCells (s : Sy) : List Value := [.int .i64 s.kind, .int .i64 s.v, .int .i64 s.k, .int .i64 s.b]
def ckCells (c : Ck) (v : Value) : List Value := [.int .i64 c.o, .int .i64 c.ty, .int .i64 c.at', .bool c.live, .bool c.held, .bool c.arr, .int .i64 c.size.kind, .int .i64 c.size.v, .int .i64 c.size.k, .int .i64 c.size.b, v]

/- Rows of rows, each k long. -/
theorem flatL_len {k : Nat} : ∀ {rows : List (List Value)}, (∀ r ∈ rows, r.length = k) → rows.flatten.length = rows.length * k
  | [], _ => by simp
  | r :: rows, h => by
    rw [List.flatten_cons, List.length_append, flatL_len (fun r hr => h r (by simp [hr])), h r (by simp), List.length_cons, Nat.add_mul]
    omega
theorem flatL_get {k : Nat} : ∀ {rows : List (List Value)}, (∀ r ∈ rows, r.length = k) → ∀ {j : Nat} {r : List Value}, rows[j]? = some r → ∀ (i : Nat), i < k → rows.flatten[j * k + i]? = r[i]?
  | [], _, _, _, h => by simp at h
  | r :: rows, hk, 0, s, h => fun i hi => by
    simp only [List.getElem?_cons_zero, Option.some.injEq] at h
    subst h
    rw [List.flatten_cons, List.getElem?_append_left (by rw [hk r (by simp)]; omega)]
    simp
  | r :: rows, hk, j + 1, s, h => fun i hi => by
    have hr := hk r (by simp)
    have e : (j + 1) * k = j * k + k := by rw [Nat.add_mul, Nat.one_mul]
    rw [List.flatten_cons, List.getElem?_append_right (by omega), show (j + 1) * k + i - r.length = j * k + i by omega]
    exact flatL_get (fun r hr => hk r (by simp [hr])) (by simpa using h) i hi
theorem flatL_set {k : Nat} : ∀ {rows : List (List Value)}, (∀ r ∈ rows, r.length = k) → ∀ {j : Nat} {r : List Value}, rows[j]? = some r → ∀ (i : Nat) (u : Value), i < k → rows.flatten.set (j * k + i) u = (rows.set j (r.set i u)).flatten
  | [], _, _, _, h => by simp at h
  | r :: rows, hk, 0, s, h => fun i u hi => by
    simp only [List.getElem?_cons_zero, Option.some.injEq] at h
    subst h
    have hr := hk r (by simp)
    rw [List.flatten_cons, List.set_append_left _ _ (by omega), List.set_cons_zero, List.flatten_cons]
    simp
  | r :: rows, hk, j + 1, s, h => fun i u hi => by
    have hr := hk r (by simp)
    have e : (j + 1) * k = j * k + k := by rw [Nat.add_mul, Nat.one_mul]
    rw [List.flatten_cons, List.set_append_right _ _ (by omega), List.set_cons_succ, List.flatten_cons, show (j + 1) * k + i - r.length = j * k + i by omega]
    rw [flatL_set (fun r hr => hk r (by simp [hr])) (by simpa using h) i u hi]

def rowT (t : TypeId) (k : Nat) (v : Value) (rows : List (List Value)) : Thing where
  P w F := w.ownsRow 0 t k v rows.length rows.flatten ∧ (∀ g, v.ownBlock = some g → F g) ∧ ∀ r ∈ rows, r.length = k
  stay := fun h _ hb => ⟨row_same h.1 fun g hg => hb g (row_lt h.1 hg) (h.2.1 g hg), h.2⟩
  more := fun h hF => ⟨h.1, fun g hg => hF g (row_lt h.1 hg) (h.2.1 g hg), h.2.2⟩
/- Facts, with what headers that were kept say. -/
def factT (t : TypeId) (v : Value) (fs : List F) (olds : List (Value × Nat)) : Thing where
  P w G := w.ownsRow 0 t 3 v fs.length (factCells fs) ∧ (∀ g, v.ownBlock = some g → G g) ∧ ∀ o ∈ olds, w.ownsRow 0 t 3 o.1 o.2 (factCells (fs.take o.2)) ∧ o.2 ≤ fs.length ∧ ∀ g, o.1.ownBlock = some g → G g
  stay := fun h _ hb => ⟨row_same h.1 fun g hg => hb g (row_lt h.1 hg) (h.2.1 g hg), h.2.1, fun o ho => ⟨row_same (h.2.2 o ho).1 fun g hg => hb g (row_lt (h.2.2 o ho).1 hg) ((h.2.2 o ho).2.2 g hg), (h.2.2 o ho).2⟩⟩
  more := fun h hF => ⟨h.1, fun g hg => hF g (row_lt h.1 hg) (h.2.1 g hg), fun o ho => ⟨(h.2.2 o ho).1, (h.2.2 o ho).2.1, fun g hg => hF g (row_lt (h.2.2 o ho).1 hg) ((h.2.2 o ho).2.2 g hg)⟩⟩

theorem Sep.alter {w W : World} {l : List Thing} (h : Sep w W l) (i : Nat) {T : Thing} (hi : l[i]? = some T) (T' : Thing) (hT : ∀ F, T.P W F → T'.P W F) : Sep w W (l.set i T') := by
  obtain ⟨F, h⟩ := h
  refine ⟨F, h.below, fun j U hU => ?_, h.above, h.apart⟩
  by_cases hj : j = i
  · subst hj
    rw [List.getElem?_set_self (List.getElem?_eq_some_iff.1 hi).1] at hU
    cases hU
    exact hT _ (h.holds j T hi)
  · rw [List.getElem?_set_ne (Ne.symm hj)] at hU
    exact h.holds j U hU
theorem Sep.swap {w W : World} {A B : Thing} (h : Sep w W [A, B]) : Sep w W [B, A] := h.pick [1, 0] (by decide) _ rfl

def ckRows (cs : List Ck) (vs : List Value) : List (List Value) := List.zipWith ckCells cs vs
def cellT (t : TypeId) (c : Ck) (v : Value) : Thing := rowT t 4 v (c.cells.map syCells)
def compsT (T : HTy) (b : Nat) (bc : List Value) (vc vf : Value) (vs : List Value) (H : Hp) (olds : List (Value × Nat)) : List Thing :=
  boxT b bc T.heap :: rowT T.chunk 11 vc (ckRows H.chunks vs) :: factT T.leq vf H.facts olds :: List.zipWith (cellT T.sym) H.chunks vs
/- A heap whose parts lie apart, and R beside it; bc is what its own block holds. -/
structure HSg (T : HTy) (w0 W : World) (R : Thing) (b : Nat) (bc : List Value) (vc vf : Value) (vs : List Value) (H : Hp) (olds : List (Value × Nat)) : Prop where
  sep : Sep w0 W (R :: compsT T b bc vc vf vs H olds)
  len : vs.length = H.chunks.length
def hpCells (vc vf : Value) (H : Hp) : List Value := [vc, .int .i64 H.vars, vf]
def HS (T : HTy) (w0 W : World) (R : Thing) (b : Nat) (vc vf : Value) (vs : List Value) (H : Hp) (olds : List (Value × Nat)) : Prop := HSg T w0 W R b (hpCells vc vf H) vc vf vs H olds
def heapT (T : HTy) (b : Nat) (H : Hp) : Thing where
  P w F := ∃ vc vf vs, vs.length = H.chunks.length ∧ (allT (compsT T b (hpCells vc vf H) vc vf vs H [])).P w F
  stay := fun h hs hb => by
    obtain ⟨vc, vf, vs, h1, h2⟩ := h
    exact ⟨vc, vf, vs, h1, (allT _).stay h2 hs hb⟩
  more := fun h hF => by
    obtain ⟨vc, vf, vs, h1, h2⟩ := h
    exact ⟨vc, vf, vs, h1, (allT _).more h2 hF⟩

theorem factT_less {w : World} {t : TypeId} {v : Value} {fs : List F} {olds : List (Value × Nat)} {G : Nat → Prop} (h : (factT t v fs olds).P w G) : (factT t v fs []).P w G := ⟨h.1, h.2.1, fun o ho => by simp at ho⟩
section
variable {T : HTy} {w0 W W' : World} {R : Thing} {b : Nat} {bc : List Value} {vc vf : Value} {vs : List Value} {H : Hp} {olds : List (Value × Nat)}

theorem HS.open {l : List Thing} (h : Sep w0 W (heapT T b H :: l)) : ∃ vc vf vs, HS T w0 W (allT l) b vc vf vs H [] := by
  have h1 := (show Sep w0 W ([heapT T b H] ++ l) from h).pack
  obtain ⟨F, hF⟩ := h1
  obtain ⟨vc, vf, vs, hl, hc⟩ := hF.holds 1 _ rfl
  refine ⟨vc, vf, vs, ?_, hl⟩
  have h2 : Sep w0 W [allT l, allT (compsT T b (hpCells vc vf H) vc vf vs H [])] := by
    refine ⟨F, hF.below, fun i U hU => ?_, hF.above, hF.apart⟩
    match i, hU with
    | 0, hU => exact hF.holds 0 U hU
    | 1, hU =>
      simp only [List.getElem?_cons_succ, List.getElem?_cons_zero, Option.some.injEq] at hU
      subst hU
      exact hc
    | i + 2, hU => simp at hU
  exact h2.swap.unpack
theorem HS.close {l : List Thing} (h : HS T w0 W (allT l) b vc vf vs H olds) : Sep w0 W (heapT T b H :: l) := by
  have h1 := h.sep.alter 3 rfl (factT T.leq vf H.facts []) fun _ h => factT_less h
  have h2 := (show Sep w0 W ([allT l] ++ compsT T b (hpCells vc vf H) vc vf vs H []) from h1).pack
  have h3 := h2.alter 0 rfl (heapT T b H) fun F hF => ⟨vc, vf, vs, h.len, hF⟩
  exact (show Sep w0 W [heapT T b H, allT l] from h3).swap.unpack
theorem HSg.quiet (h : HSg T w0 W R b bc vc vf vs H olds) (hb : Below W.heap.size W W') : HSg T w0 W' R b bc vc vf vs H olds := ⟨h.sep.quiet hb, h.len⟩
theorem HSg.blk (h : HSg T w0 W R b bc vc vf vs H olds) : Blk W b bc T.heap := h.sep.blk 1 rfl
theorem HSg.put (h : HSg T w0 W R b bc vc vf vs H olds) (i : Nat) (u : Value) : HSg T w0 (W.setCell ⟨b, i, none⟩ u) R b (bc.set i u) vc vf vs H olds := ⟨h.sep.put 1 rfl i u, h.len⟩
/- A box of one's own beside it. -/
theorem HSg.box (h : HSg T w0 W R b bc vc vf vs H olds) (cs : List Value) (t : TypeId) : HSg T w0 (W.alloc (.cells cs.toArray t)) (allT [R, boxT W.heap.size cs t]) b bc vc vf vs H olds := by
  have h1 := (show Sep w0 W ([R] ++ compsT T b bc vc vf vs H olds) from h.sep).pack.box cs t
  have h2 := (show Sep w0 (W.alloc (.cells cs.toArray t)) ([allT (compsT T b bc vc vf vs H olds)] ++ [R, boxT W.heap.size cs t]) from h1).pack
  exact ⟨h2.swap.unpack, h.len⟩
theorem HSg.thing (h : HSg T w0 W R b bc vc vf vs H olds) (hb : Below W.heap.size W W') (U : Thing) (hU : U.P W' (grow (fun _ => False) W W')) : HSg T w0 W' (allT [R, U]) b bc vc vf vs H olds := by
  have h1 := (show Sep w0 W ([R] ++ compsT T b bc vc vf vs H olds) from h.sep).pack.add hb U hU
  have h2 := (show Sep w0 W' ([allT (compsT T b bc vc vf vs H olds)] ++ [R, U]) from h1).pack
  exact ⟨h2.swap.unpack, h.len⟩
theorem HSg.front {R' : Thing} (h : HSg T w0 W (allT [R, R']) b bc vc vf vs H olds) : HSg T w0 W R b bc vc vf vs H olds := by
  have h1 := (show Sep w0 W ([allT [R, R']] ++ compsT T b bc vc vf vs H olds) from h.sep).pack
  have h2 := (show Sep w0 W (allT [R, R'] :: [allT (compsT T b bc vc vf vs H olds)]) from h1.swap).unpack
  exact ⟨(h2.pick [0, 1] (by decide) [allT (compsT T b bc vc vf vs H olds), R] rfl).unpack, h.len⟩
theorem HSg.local {g : Nat} {cs : List Value} {t : TypeId} (h : HSg T w0 W (allT [R, boxT g cs t]) b bc vc vf vs H olds) : Blk W g cs t ∧ g ≠ b := by
  obtain ⟨F, hF⟩ := h.sep
  obtain ⟨G, h1, h2, _⟩ := hF.holds 0 _ rfl
  have h3 := h1 1 _ rfl
  refine ⟨h3.1, fun e => hF.apart 0 1 g (by omega) (h2 1 g h3.2).1 ?_⟩
  rw [e]
  exact (hF.holds 1 _ rfl).2
theorem Sep.part {A B : Thing} {l : List Thing} (h : Sep w0 W (allT [A, B] :: l)) : Sep w0 W (l ++ [A, B]) := h.unpack
theorem HSg.localPut {g : Nat} {cs : List Value} {t : TypeId} (h : HSg T w0 W (allT [R, boxT g cs t]) b bc vc vf vs H olds) (j : Nat) (u : Value) : HSg T w0 (W.setCell ⟨g, j, none⟩ u) (allT [R, boxT g (cs.set j u) t]) b bc vc vf vs H olds := by
  have h1 := (show Sep w0 W ([allT [R, boxT g cs t]] ++ compsT T b bc vc vf vs H olds) from h.sep).pack.swap.unpack
  have h2 := h1.put 2 rfl j u
  have h3 := (show Sep w0 (W.setCell ⟨g, j, none⟩ u) ([allT (compsT T b bc vc vf vs H olds)] ++ [R, boxT g (cs.set j u) t]) from h2).pack
  exact ⟨h3.swap.unpack, h.len⟩
/- Its facts. -/
theorem HSg.facts (h : HSg T w0 W R b bc vc vf vs H olds) : W.ownsRow 0 T.leq 3 vf H.facts.length (factCells H.facts) := by
  obtain ⟨F, hF⟩ := h.sep
  exact (hF.holds 3 _ rfl).1
theorem HSg.factsForm (h : HSg T w0 W R b bc vc vf vs H olds) : ∃ A cap, vf = .slice A H.facts.length cap ∧ FactsAt W W.heap.size A H.facts ∧ H.facts.length ≤ cap ∧ cap ≤ maxLen := by
  have h1 := h.facts
  obtain ⟨A, cap, rfl, h2, h3⟩ := row_form h1
  exact ⟨A, cap, rfl, FactsAt.of_own h1, h2, h3⟩
/- The k-th chunk. -/
theorem ckRows_get {cs : List Ck} {vs : List Value} (hl : vs.length = cs.length) {k : Nat} {c : Ck} (hc : cs[k]? = some c) : ∃ v, vs[k]? = some v ∧ (ckRows cs vs)[k]? = some (ckCells c v) := by
  have hk := (List.getElem?_eq_some_iff.1 hc).1
  refine ⟨vs[k], List.getElem?_eq_getElem (by omega), ?_⟩
  unfold ckRows
  rw [List.getElem?_zipWith, hc, List.getElem?_eq_getElem (by omega)]
theorem ckRows_len {cs : List Ck} {vs : List Value} (hl : vs.length = cs.length) : (ckRows cs vs).length = cs.length := by
  unfold ckRows
  rw [List.length_zipWith]
  omega
theorem ckRows_each {cs : List Ck} {vs : List Value} : ∀ r ∈ ckRows cs vs, r.length = 11 := by
  intro r hr
  unfold ckRows at hr
  obtain ⟨i, hi, e⟩ := List.getElem_of_mem hr
  simp only [List.getElem_zipWith] at e
  rw [← e]
  rfl
theorem HSg.chunks (h : HSg T w0 W R b bc vc vf vs H olds) : W.ownsRow 0 T.chunk 11 vc H.chunks.length (ckRows H.chunks vs).flatten := by
  obtain ⟨F, hF⟩ := h.sep
  have h1 := (hF.holds 2 _ rfl).1
  rwa [ckRows_len h.len] at h1
theorem HSg.chunk (h : HSg T w0 W R b bc vc vf vs H olds) {k : Nat} {c : Ck} (hc : H.chunks[k]? = some c) :
    ∃ g cap v, vc = .slice (some ⟨g, 0, none⟩) H.chunks.length cap ∧ H.chunks.length ≤ cap ∧ cap ≤ maxLen ∧ g < W.heap.size ∧ g ≠ b ∧ vs[k]? = some v ∧ (∀ j, j < 11 → W.cell? ⟨g, k * 11 + j, none⟩ = (ckCells c v)[j]?) ∧ (∀ j, W.frozen? ⟨g, j, none⟩ = false) := by
  have hr := h.chunks
  obtain ⟨v, hv, hrow⟩ := ckRows_get h.len hc
  have hk := (List.getElem?_eq_some_iff.1 hc).1
  obtain ⟨g, cap, rfl, h1, h2⟩ := row_pos hr (by omega)
  obtain ⟨F, hF⟩ := h.sep
  refine ⟨g, cap, v, rfl, h1, h2, row_lt hr rfl, fun e => ?_, hv, fun j hj => ?_, fun j => hr.frozenAt j⟩
  · refine hF.apart 2 1 g (by omega) ((hF.holds 2 _ rfl).2.1 g rfl) ?_
    rw [e]
    exact (hF.holds 1 _ rfl).2
  · rw [hr.cellAt (k * 11 + j) (by omega)]
    exact flatL_get ckRows_each hrow j hj
/- Its cells. -/
theorem compsT_cell {k : Nat} {c : Ck} {v : Value} (hc : H.chunks[k]? = some c) (hv : vs[k]? = some v) : (R :: compsT T b bc vc vf vs H olds)[4 + k]? = some (cellT T.sym c v) := by
  unfold compsT
  rw [show 4 + k = (((k + 1) + 1) + 1) + 1 by omega]
  simp only [List.getElem?_cons_succ]
  rw [List.getElem?_zipWith, hc, hv]
theorem HSg.cells (h : HSg T w0 W R b bc vc vf vs H olds) {k : Nat} {c : Ck} {v : Value} (hc : H.chunks[k]? = some c) (hv : vs[k]? = some v) : W.ownsRow 0 T.sym 4 v c.cells.length (c.cells.map syCells).flatten := by
  obtain ⟨F, hF⟩ := h.sep
  have h1 := (hF.holds (4 + k) _ (compsT_cell hc hv)).1
  simpa using h1
theorem sy_each (l : List Sy) : ∀ r ∈ l.map syCells, r.length = 4 := by
  intro r hr
  obtain ⟨s, _, rfl⟩ := List.mem_map.1 hr
  rfl
theorem HSg.cell (h : HSg T w0 W R b bc vc vf vs H olds) {k : Nat} {c : Ck} {v : Value} (hc : H.chunks[k]? = some c) (hv : vs[k]? = some v) {i : Nat} {s : Sy} (hs : c.cells[i]? = some s) :
    ∃ g cap, v = .slice (some ⟨g, 0, none⟩) c.cells.length cap ∧ c.cells.length ≤ cap ∧ cap ≤ maxLen ∧ g < W.heap.size ∧ g ≠ b ∧ (∀ j, j < 4 → W.cell? ⟨g, i * 4 + j, none⟩ = (syCells s)[j]?) ∧ (∀ j, W.frozen? ⟨g, j, none⟩ = false) := by
  have hr := h.cells hc hv
  have hi := (List.getElem?_eq_some_iff.1 hs).1
  obtain ⟨g, cap, rfl, h1, h2⟩ := row_pos hr (by omega)
  obtain ⟨F, hF⟩ := h.sep
  refine ⟨g, cap, rfl, h1, h2, row_lt hr rfl, fun e => ?_, fun j hj => ?_, fun j => hr.frozenAt j⟩
  · refine hF.apart (4 + k) 1 g (by omega) ((hF.holds _ _ (compsT_cell hc hv)).2.1 g rfl) ?_
    rw [e]
    exact (hF.holds 1 _ rfl).2
  · rw [hr.cellAt (i * 4 + j) (by omega)]
    exact flatL_get (sy_each _) (by rw [List.getElem?_map, hs]; rfl) j hj
theorem HSg.farChunk {g g' : Nat} {cs : List Value} {t : TypeId} (h : HSg T w0 W (allT [R, boxT g cs t]) b bc vc vf vs H olds) (hv : vc.ownBlock = some g') : g ≠ g' := by
  obtain ⟨F, hF⟩ := h.sep
  obtain ⟨G, h1, h2, _⟩ := hF.holds 0 _ rfl
  rintro rfl
  exact hF.apart 0 2 g (by omega) (h2 1 g (h1 1 _ rfl).2).1 ((hF.holds 2 _ rfl).2.1 g hv)
theorem HSg.farCell {g g' : Nat} {cs : List Value} {t : TypeId} (h : HSg T w0 W (allT [R, boxT g cs t]) b bc vc vf vs H olds) {k : Nat} {c : Ck} {v : Value} (hc : H.chunks[k]? = some c) (hvk : vs[k]? = some v) (hv : v.ownBlock = some g') : g ≠ g' := by
  obtain ⟨F, hF⟩ := h.sep
  obtain ⟨G, h1, h2, _⟩ := hF.holds 0 _ rfl
  rintro rfl
  exact hF.apart 0 (4 + k) g (by omega) (h2 1 g (h1 1 _ rfl).2).1 ((hF.holds _ _ (compsT_cell hc hvk)).2.1 g hv)
end

end Go.Proofs.Ytejnjaikalckiaa
