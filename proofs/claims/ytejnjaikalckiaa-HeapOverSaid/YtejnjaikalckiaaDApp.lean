/- append onto a row of the call's own from a slice that came in, be it nil, empty or not. -/
import Derived.Test.YtejnjaikalckiaaDClose
namespace Go.Proofs.Ytejnjaikalckiaa
open Go.RowKit

theorem run_append_nil {P : Program} (w : World) (base : Nat) (t ty e : TypeId) (i : TypeInfo) (size : Nat) (ht : P.underlying t = some (.slice e)) (hi : P.info? e = some i)
    (v : Value) (n : Nat) (xs : List Value) (hown : w.ownsRow base e size v n xs) (c : Nat) : (Builtin.append_ #[t, t] ty #[v, .slice none 0 c]).run P w = .ok v w := by
  rcases hown.2 with ⟨rfl, rfl⟩ | ⟨g, cap, cur, rfl, _, _, hnc, _⟩
  · simp [Builtin.append_, run_underlying ht, sizeOf, typeInfo, hi, Builtin.lenOf, Builtin.firstCells]
  · simp [Builtin.append_, run_underlying ht, sizeOf, typeInfo, hi, Builtin.lenOf, Builtin.firstCells, hnc, storeCells]

/- The facts of this layer, appended. -/
structure LeqInfo (P : Program) (t e : TypeId) (i : TypeInfo) : Prop where
  ht : P.underlying t = some (.slice e)
  hi : P.info? e = some i
  hz : i.zero = some (.agg #[.int .i64 0, .int .i64 0, .int .i64 0])
  hs : i.size = 3
  hb : i.bytes = 24

theorem run_append_facts {P : Program} {t ty e : TypeId} {i : TypeInfo} (I : LeqInfo P t e i) (w : World) {base n : Nat} {v : Value} {fs : List F} (hown : w.ownsRow base e 3 v n (factCells fs)) {A : Option Addr} {m c B : Nat} {gs : List F}
    (hg : FactsAt w B A gs) (hm : m = gs.length) (h63 : n + m ≤ maxLen) (hbytes : (n + m) * 24 ≤ 140737488355328) (hbase : base ≤ w.heap.size) :
    ∃ v' w', (Builtin.append_ #[t, t] ty #[v, .slice A m c]).run P w = .ok v' w' ∧ w'.ownsRow base e 3 v' (n + m) (factCells (fs ++ gs)) ∧ w.grownBy w' v.ownBlock := by
  rw [factCells_append]
  rcases A with _ | ad
  · have hm0 : gs.length = 0 := by
      rcases Nat.eq_zero_or_pos gs.length with h0 | h0
      · exact h0
      · obtain ⟨b, off, e, _⟩ := hg h0
        cases e
    have hgs : gs = [] := List.eq_nil_of_length_eq_zero hm0
    subst hgs
    subst hm
    exact ⟨v, w, run_append_nil w base t ty e i 3 I.ht I.hi v n _ hown c, by simpa [factCells] using hown, World.grownBy.refl w _⟩
  · obtain ⟨v', w', h1, h2, h3, _⟩ := run_append_own (P := P) w base t ty e i _ 3 24 I.ht I.hi I.hz I.hs I.hb rfl (by omega) v n _ hown ad m c (factCells gs) (by rw [factCells_len, hm]) (fun j u hj => hg.cells ad rfl j u hj) (factCells_one gs) h63 hbytes hbase
    exact ⟨v', w', h1, h2, h3⟩

theorem wp_append_facts {P : Program} {o : Oper} {a : Act} {w : World} {K : Act → World → Prop} {Q : Exit → Act → World → Prop} (s x : Operand) {t e : TypeId} (ho : o.op = .call { callee := .builtin .append, args := #[s, x], argTypes := #[t, t] })
    {i : TypeInfo} (I : LeqInfo P t e i) {base n : Nat} {v : Value} {fs : List F} (hs : a.eval s = v) (hown : w.ownsRow base e 3 v n (factCells fs)) {A : Option Addr} {m c B : Nat} {gs : List F} (hx : a.eval x = .slice A m c)
    (hg : FactsAt w B A gs) (hm : m = gs.length) (h63 : n + m ≤ maxLen) (hbytes : (n + m) * 24 ≤ 140737488355328) (hbase : base ≤ w.heap.size)
    (h : ∀ A' c' w', w'.ownsRow base e 3 (.slice A' (n + m) c') (n + m) (factCells (fs ++ gs)) → w.grownBy w' v.ownBlock → K (a.put o.dst (.slice A' (n + m) c')) w') : o.wp P a w K Q := by
  obtain ⟨v', w', hr, h2, h3⟩ := run_append_facts (ty := o.type) I w hown (c := c) hg hm h63 hbytes hbase
  obtain ⟨A', c', rfl, _, _⟩ := own_slice h2
  unfold Oper.wp execOp
  simp only [ho, resolve, invoke, builtin, Sem.run_bind, Sem.run_pure, Result.andThen_ok, List.map_toArray, List.map_cons, List.map_nil, hs, hx, hr]
  exact h A' c' w' h2 h3

theorem wpList_append_facts {P : Program} {ops : Array Oper} {rest : List Oper} {o : Oper} {a : Act} {w : World} {Q : Exit → Act → World → Prop} (hgd : o.guard = none) (s x : Operand) {t e : TypeId} (ho : o.op = .call { callee := .builtin .append, args := #[s, x], argTypes := #[t, t] })
    {i : TypeInfo} (I : LeqInfo P t e i) {base n : Nat} {v : Value} {fs : List F} (hs : a.eval s = v) (hown : w.ownsRow base e 3 v n (factCells fs)) {A : Option Addr} {m c B : Nat} {gs : List F} (hx : a.eval x = .slice A m c)
    (hg : FactsAt w B A gs) (hm : m = gs.length) (h63 : n + m ≤ maxLen) (hbytes : (n + m) * 24 ≤ 140737488355328) (hbase : base ≤ w.heap.size)
    (h : ∀ A' c' w', w'.ownsRow base e 3 (.slice A' (n + m) c') (n + m) (factCells (fs ++ gs)) → w.grownBy w' v.ownBlock → wpList P ops Q rest (a.put o.dst (.slice A' (n + m) c')) w') : wpList P ops Q (o :: rest) a w :=
  wpList_plain hgd fun _ hK => wp_append_facts s x ho I hs hown hx hg hm h63 hbytes hbase fun A' c' w' h2 h3 => hK _ _ (h A' c' w' h2 h3)

theorem step_append_facts {P : Program} {ops : Array Oper} {o : Oper} {a : Act} {w : World} {K : Act → World → Prop} {Q : Exit → Act → World → Prop} {E : Prop} (hgd : o.guard = none) (s x : Operand) {t e : TypeId} (ho : o.op = .call { callee := .builtin .append, args := #[s, x], argTypes := #[t, t] })
    {i : TypeInfo} (I : LeqInfo P t e i) {base n : Nat} {v : Value} {fs : List F} (hs : a.eval s = v) (hown : w.ownsRow base e 3 v n (factCells fs)) {A : Option Addr} {m c B : Nat} {gs : List F} (hx : a.eval x = .slice A m c)
    (hg : FactsAt w B A gs) (hm : m = gs.length) (h63 : n + m ≤ maxLen) (hbytes : (n + m) * 24 ≤ 140737488355328) (hbase : base ≤ w.heap.size)
    (h : ∀ A' c' w', w'.ownsRow base e 3 (.slice A' (n + m) c') (n + m) (factCells (fs ++ gs)) → w.grownBy w' v.ownBlock → K (a.put o.dst (.slice A' (n + m) c')) w') :
    if Region.wanted o (yielded ops a.tmps) = true then Oper.wp P o a w K Q else E := by
  have hw : Region.wanted o (yielded ops a.tmps) = true := by simp [Region.wanted, hgd]
  rw [if_pos hw]
  exact wp_append_facts s x ho I hs hown hx hg hm h63 hbytes hbase h

theorem Try.leqInfo : ∃ i, LeqInfo Try.prog 23 45 i := by
  obtain ⟨i0, hi, hz0, hz1, hz2⟩ := info_parts Try.infoLeq
  exact ⟨i0, Try.underlying23, hi, hz0, hz1, hz2⟩

end Go.Proofs.Ytejnjaikalckiaa
