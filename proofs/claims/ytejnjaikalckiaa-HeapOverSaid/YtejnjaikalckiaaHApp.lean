/- append on rows of one's own, with what older headers of the row say behind it; what a heap is behind an append to its facts or to its chunks. Nothing of the program is walked here. -/
import Derived.Test.YtejnjaikalckiaaHMem
import Derived.Test.YtejnjaikalckiaaDApp
namespace Go.Proofs.Ytejnjaikalckiaa
open Go.RowKit

structure RowI (P : Program) (t e : TypeId) (m bytes : Nat) (i : TypeInfo) (z : Value) : Prop where
  ht : P.underlying t = some (.slice e)
  hi : P.info? e = some i
  hz : i.zero = some z
  size : i.size = m
  bytes : i.bytes = bytes
  zs : z.cells.size = m
  pos : 0 < m

/- What an append comes to: the row, where it lies, and that older headers of it still say what they said. -/
structure AppI (e : TypeId) (k : Nat) (v : Value) (n m : Nat) (xs news : List Value) (w : World) (v' : Value) (w' : World) : Prop where
  own : w'.ownsRow 0 e k v' (n + m) (xs ++ news)
  grown : w.grownBy w' v.ownBlock
  block : v'.ownBlock = v.ownBlock ∨ v'.ownBlock = some w.heap.size
  old : ∀ v0 n0, v0.ownBlock = v.ownBlock → n0 ≤ n → w.ownsRow 0 e k v0 n0 (xs.take (n0 * k)) → w'.ownsRow 0 e k v0 n0 (xs.take (n0 * k))

theorem run_append_hist {P : Program} {t ty e : TypeId} {k bytes : Nat} {i : TypeInfo} {z : Value} (I : RowI P t e k bytes i z) (w : World) {n : Nat} {v : Value} {xs : List Value} (hown : w.ownsRow 0 e k v n xs) {a : Addr} {m c : Nat} {news : List Value}
    (hl : news.length = m * k) (hnews : ∀ j u, news[j]? = some u → w.cell? (a.add j) = some u) (h1 : ∀ u ∈ news, u.oneCell' = true) (h63 : n + m ≤ maxLen) (hbytes : (n + m) * bytes ≤ 140737488355328) :
    ∃ v' w', (Builtin.append_ #[t, t] ty #[v, .slice (some a) m c]).run P w = .ok v' w' ∧ AppI e k v n m xs news w v' w' := by
  obtain ⟨v', w', hr, ho, hg, _⟩ := run_append_own (P := P) w 0 t ty e i z k bytes I.ht I.hi I.hz I.size I.bytes I.zs I.pos v n xs hown a m c news hl hnews h1 h63 hbytes (Nat.zero_le _)
  refine ⟨v', w', hr, ho, hg, ?_, ?_⟩
  all_goals
    obtain ⟨ht, hi, hz, rfl, rfl, hzs, hpos⟩ := I
    have hsmall : n + m ≤ 9223372036854775807 := by simp only [maxLen] at h63; omega
  · rcases hown.2 with ⟨rfl, rfl⟩ | ⟨g, cap, cur, rfl, hbg, hgg, hnc, hcm, hcs, htake⟩
    · by_cases hm : m = 0
      · subst hm
        have hn : news = [] := List.eq_nil_of_length_eq_zero (by simpa using hl)
        subst hn
        rcases ho.2 with ⟨rfl, _⟩ | ⟨g', cap', cur', rfl, _⟩
        · exact .inl rfl
        · exfalso
          have h2 : (Builtin.append_ #[t, t] ty #[.slice none 0 0, .slice (some a) 0 c]).run P w = .ok (.slice none 0 0) w := by simp [Builtin.append_, run_underlying ht, sizeOf, typeInfo, hi, Builtin.lenOf, Builtin.firstCells, loadCells, loadCellsFrom]
          rw [h2] at hr
          cases hr
      · have h := Go.run_append_nil (P := P) w t ty e i z ht hi hz a m c news hl hnews (by omega) (by omega) (by have hb := hbytes; simp only [Nat.zero_add] at hb; omega)
        rw [h] at hr
        cases hr
        exact .inr rfl
    · by_cases hroom : n + m ≤ cap
      · have hfit : n * i.size + news.length ≤ cur.size := by rw [hl, hcs, ← Nat.add_mul]; exact Nat.mul_le_mul_right _ hroom
        have h := run_append_room (P := P) w t ty e i ht hi g n cap cur hgg a m c news hl hnews h1 hroom hfit
        rw [h] at hr
        cases hr
        exact .inl rfl
      · have h := run_append_grow (P := P) w t ty e i z ht hi hz ⟨g, 0, none⟩ n cap xs hown.1 (hown.cells (g := g) rfl) a m c news hl hnews (by omega) (by omega) (growslice_fits (by omega) hbytes)
        rw [h] at hr
        cases hr
        exact .inr rfl
  · intro v0 n0 hv0 hn0 h0
    rcases hown.2 with ⟨rfl, rfl⟩ | ⟨g, cap, cur, rfl, hbg, hgg, hnc, hcm, hcs, htake⟩
    · rcases h0.2 with h2 | ⟨g0, cap0, cur0, rfl, _⟩
      · exact ⟨h0.1, .inl h2⟩
      · simp [Value.ownBlock] at hv0
    · have hxl := hown.1
      rcases h0.2 with h2 | ⟨g0, cap0, cur0, rfl, hb0, hgg0, hnc0, hcm0, hcs0, htake0⟩
      · exact ⟨h0.1, .inl h2⟩
      · simp only [Value.ownBlock, Option.some.injEq] at hv0
        subst hv0
        rw [hgg] at hgg0
        cases hgg0
        by_cases hroom : n + m ≤ cap
        · have hfit : n * i.size + news.length ≤ cur.size := by rw [hl, hcs, ← Nat.add_mul]; exact Nat.mul_le_mul_right _ hroom
          have h := run_append_room (P := P) w t ty e i ht hi g0 n cap cur hgg a m c news hl hnews h1 hroom hfit
          rw [h] at hr
          cases hr
          refine ⟨h0.1, .inr ⟨g0, cap0, _, rfl, hb0, setRow_heap w g0 cur _ e _ hgg, hnc0, hcm0, ?_, ?_⟩⟩
          · simp only [List.size_toArray, List.length_append, List.length_take, List.length_drop, Array.length_toList]
            omega
          · have h3 : n0 * i.size ≤ n * i.size := Nat.mul_le_mul_right _ hn0
            rw [htake, List.append_assoc, List.take_append_of_le_length (by rw [hxl]; exact h3)]
        · have h := run_append_grow (P := P) w t ty e i z ht hi hz ⟨g0, 0, none⟩ n cap xs hown.1 (hown.cells (g := g0) rfl) a m c news hl hnews (by omega) (by omega) (growslice_fits (by omega) hbytes)
          rw [h] at hr
          cases hr
          exact row_same h0 fun g hg => by
            simp only [Value.ownBlock, Option.some.injEq] at hg
            subst hg
            exact heap_alloc_old w.drew _ (Array.getElem?_eq_some_iff.1 hgg).1

/- Facts from a slice that is nil or not. -/
theorem run_append_histF {P : Program} {t ty e : TypeId} {i : TypeInfo} {z : Value} (I : RowI P t e 3 24 i z) (w : World) {n : Nat} {v : Value} {fs : List F} (hown : w.ownsRow 0 e 3 v n (factCells fs)) {A : Option Addr} {m c B : Nat} {gs : List F}
    (hg : FactsAt w B A gs) (hm : m = gs.length) (h63 : n + m ≤ maxLen) (hbytes : (n + m) * 24 ≤ 140737488355328) :
    ∃ v' w', (Builtin.append_ #[t, t] ty #[v, .slice A m c]).run P w = .ok v' w' ∧ AppI e 3 v n m (factCells fs) (factCells gs) w v' w' := by
  rcases A with _ | ad
  · have hm0 : gs.length = 0 := by
      rcases Nat.eq_zero_or_pos gs.length with h0 | h0
      · exact h0
      · obtain ⟨b, off, e, _⟩ := hg h0
        cases e
    have hgs : gs = [] := List.eq_nil_of_length_eq_zero hm0
    subst hgs
    subst hm
    exact ⟨v, w, run_append_nil w 0 t ty e i 3 I.ht I.hi v n _ hown c, by simpa [factCells] using hown, World.grownBy.refl w _, .inl rfl, fun _ _ _ _ h => h⟩
  · exact run_append_hist I w hown (by rw [factCells_len, hm]) (fun j u hj => hg.cells ad rfl j u hj) (factCells_one gs) h63 hbytes

theorem wp_append_hist {P : Program} {o : Oper} {a : Act} {w : World} {K : Act → World → Prop} {Q : Exit → Act → World → Prop} (s x : Operand) {t e : TypeId} (ho : o.op = .call { callee := .builtin .append, args := #[s, x], argTypes := #[t, t] })
    {k bytes : Nat} {i : TypeInfo} {z : Value} (I : RowI P t e k bytes i z) {n : Nat} {v : Value} {xs : List Value} (hs : a.eval s = v) (hown : w.ownsRow 0 e k v n xs) {ad : Addr} {m c : Nat} {news : List Value} (hx : a.eval x = .slice (some ad) m c)
    (hl : news.length = m * k) (hnews : ∀ j u, news[j]? = some u → w.cell? (ad.add j) = some u) (h1 : ∀ u ∈ news, u.oneCell' = true) (h63 : n + m ≤ maxLen) (hbytes : (n + m) * bytes ≤ 140737488355328)
    (h : ∀ A' c' w', AppI e k v n m xs news w (.slice A' (n + m) c') w' → K (a.put o.dst (.slice A' (n + m) c')) w') : o.wp P a w K Q := by
  obtain ⟨v', w', hr, h2⟩ := run_append_hist (ty := o.type) I w hown (c := c) hl hnews h1 h63 hbytes
  obtain ⟨A', c', rfl, _, _⟩ := own_slice h2.own
  unfold Oper.wp execOp
  simp only [ho, resolve, invoke, builtin, Sem.run_bind, Sem.run_pure, Result.andThen_ok, List.map_toArray, List.map_cons, List.map_nil, hs, hx, hr]
  exact h A' c' w' h2
theorem wp_append_histF {P : Program} {o : Oper} {a : Act} {w : World} {K : Act → World → Prop} {Q : Exit → Act → World → Prop} (s x : Operand) {t e : TypeId} (ho : o.op = .call { callee := .builtin .append, args := #[s, x], argTypes := #[t, t] })
    {i : TypeInfo} {z : Value} (I : RowI P t e 3 24 i z) {n : Nat} {v : Value} {fs : List F} (hs : a.eval s = v) (hown : w.ownsRow 0 e 3 v n (factCells fs)) {A : Option Addr} {m c B : Nat} {gs : List F} (hx : a.eval x = .slice A m c)
    (hg : FactsAt w B A gs) (hm : m = gs.length) (h63 : n + m ≤ maxLen) (hbytes : (n + m) * 24 ≤ 140737488355328)
    (h : ∀ A' c' w', AppI e 3 v n m (factCells fs) (factCells gs) w (.slice A' (n + m) c') w' → K (a.put o.dst (.slice A' (n + m) c')) w') : o.wp P a w K Q := by
  obtain ⟨v', w', hr, h2⟩ := run_append_histF (ty := o.type) I w hown (c := c) hg hm h63 hbytes
  obtain ⟨A', c', rfl, _, _⟩ := own_slice h2.own
  unfold Oper.wp execOp
  simp only [ho, resolve, invoke, builtin, Sem.run_bind, Sem.run_pure, Result.andThen_ok, List.map_toArray, List.map_cons, List.map_nil, hs, hx, hr]
  exact h A' c' w' h2
theorem wpList_append_hist {P : Program} {ops : Array Oper} {rest : List Oper} {o : Oper} {a : Act} {w : World} {Q : Exit → Act → World → Prop} (hgd : o.guard = none) (s x : Operand) {t e : TypeId} (ho : o.op = .call { callee := .builtin .append, args := #[s, x], argTypes := #[t, t] })
    {k bytes : Nat} {i : TypeInfo} {z : Value} (I : RowI P t e k bytes i z) {n : Nat} {v : Value} {xs : List Value} (hs : a.eval s = v) (hown : w.ownsRow 0 e k v n xs) {ad : Addr} {m c : Nat} {news : List Value} (hx : a.eval x = .slice (some ad) m c)
    (hl : news.length = m * k) (hnews : ∀ j u, news[j]? = some u → w.cell? (ad.add j) = some u) (h1 : ∀ u ∈ news, u.oneCell' = true) (h63 : n + m ≤ maxLen) (hbytes : (n + m) * bytes ≤ 140737488355328)
    (h : ∀ A' c' w', AppI e k v n m xs news w (.slice A' (n + m) c') w' → wpList P ops Q rest (a.put o.dst (.slice A' (n + m) c')) w') : wpList P ops Q (o :: rest) a w :=
  wpList_plain hgd fun _ hK => wp_append_hist s x ho I hs hown hx hl hnews h1 h63 hbytes fun A' c' w' h2 => hK _ _ (h A' c' w' h2)
theorem wpList_append_histF {P : Program} {ops : Array Oper} {rest : List Oper} {o : Oper} {a : Act} {w : World} {Q : Exit → Act → World → Prop} (hgd : o.guard = none) (s x : Operand) {t e : TypeId} (ho : o.op = .call { callee := .builtin .append, args := #[s, x], argTypes := #[t, t] })
    {i : TypeInfo} {z : Value} (I : RowI P t e 3 24 i z) {n : Nat} {v : Value} {fs : List F} (hs : a.eval s = v) (hown : w.ownsRow 0 e 3 v n (factCells fs)) {A : Option Addr} {m c B : Nat} {gs : List F} (hx : a.eval x = .slice A m c)
    (hg : FactsAt w B A gs) (hm : m = gs.length) (h63 : n + m ≤ maxLen) (hbytes : (n + m) * 24 ≤ 140737488355328)
    (h : ∀ A' c' w', AppI e 3 v n m (factCells fs) (factCells gs) w (.slice A' (n + m) c') w' → wpList P ops Q rest (a.put o.dst (.slice A' (n + m) c')) w') : wpList P ops Q (o :: rest) a w :=
  wpList_plain hgd fun _ hK => wp_append_histF s x ho I hs hown hx hg hm h63 hbytes fun A' c' w' h2 => hK _ _ (h A' c' w' h2)

section
variable {T : HTy} {w0 W W' : World} {R : Thing} {b : Nat} {bc : List Value} {vc vf v' : Value} {vs : List Value} {H : Hp} {olds : List (Value × Nat)}
theorem AppI.ch {e : TypeId} {k : Nat} {v : Value} {n m : Nat} {xs news : List Value} {w : World} (h : AppI e k v n m xs news w v' W') {F : Nat → Prop} (hF : ∀ g, v.ownBlock = some g → F g) : Ch F w W' ∧ (∀ g, v'.ownBlock = some g → grow F w W' g) := by
  refine ⟨Ch.of_grown h.grown hF, fun g hg => ?_⟩
  rcases h.block with e | e
  · exact .inl (hF g (e ▸ hg))
  · rw [e] at hg
    cases hg
    refine .inr ⟨Nat.le_refl _, ?_⟩
    exact row_lt h.own e
/- Its facts, appended to. -/
theorem HSg.appended (h : HSg T w0 W R b bc vc vf vs H olds) {gs : List F} {m : Nat} (hm : m = gs.length) (ha : AppI T.leq 3 vf H.facts.length m (factCells H.facts) (factCells gs) W v' W') : HSg T w0 W' R b bc vc v' vs { H with facts := H.facts ++ gs } olds := by
  obtain ⟨F, hF, hn⟩ := h.sep.call 3 (factT T.leq vf H.facts olds) rfl
  obtain ⟨hc, hb⟩ := ha.ch hF.2.1
  refine ⟨hn W' (factT T.leq v' (H.facts ++ gs) olds) hc ⟨?_, hb, fun o ho => ?_⟩, h.len⟩
  · rw [List.length_append, factCells_append, ← hm]
    exact ha.own
  · obtain ⟨h1, h2, h3⟩ := hF.2.2 o ho
    have e : factCells ((H.facts ++ gs).take o.2) = (factCells H.facts).take (o.2 * 3) := by
      rw [List.take_append_of_le_length h2]
      have h4 := congrArg (List.take (o.2 * 3)) (show factCells (H.facts.take o.2 ++ H.facts.drop o.2) = factCells H.facts by rw [List.take_append_drop])
      rw [← h4, factCells_append, List.take_left' (by rw [factCells_len, List.length_take, Nat.min_eq_left h2])]
    have e0 : factCells (H.facts.take o.2) = (factCells H.facts).take (o.2 * 3) := by
      rw [← e, List.take_append_of_le_length h2]
    refine ⟨?_, by simp; omega, fun g hg => .inl (h3 g hg)⟩
    rw [e]
    rw [e0] at h1
    by_cases hb0 : o.1.ownBlock = vf.ownBlock
    · exact ha.old o.1 o.2 hb0 h2 h1
    · exact row_same h1 fun g hg => ha.grown.block g (row_lt h1 hg) fun e => hb0 (hg.trans e)
theorem HSg.vars (h : HSg T w0 W R b bc vc vf vs H olds) (n : Int) : HSg T w0 W R b bc vc vf vs { H with vars := n } olds := ⟨h.sep, h.len⟩
/- The header that was kept is the facts' again. -/
theorem HSg.back {fs : List F} (h : HSg T w0 W R b bc vc v' vs { H with facts := fs } [(vf, H.facts.length)]) (hfs : fs.take H.facts.length = H.facts) : HSg T w0 W R b bc vc vf vs H [] := by
  refine ⟨h.sep.alter 3 rfl (factT T.leq vf H.facts []) fun F hF => ?_, h.len⟩
  obtain ⟨h1, h2, h3⟩ := hF.2.2 (vf, H.facts.length) (by simp)
  exact ⟨by rw [hfs] at h1; exact h1, h3, fun o ho => by simp at ho⟩
theorem HSg.keepOld (h : HSg T w0 W R b bc vc vf vs H []) : HSg T w0 W R b bc vc vf vs H [(vf, H.facts.length)] := by
  refine ⟨h.sep.alter 3 rfl (factT T.leq vf H.facts [(vf, H.facts.length)]) fun F hF => ⟨hF.1, hF.2.1, fun o ho => ?_⟩, h.len⟩
  simp only [List.mem_singleton] at ho
  subst ho
  exact ⟨by rw [List.take_length]; exact hF.1, Nat.le_refl _, hF.2.1⟩
theorem HSg.noOld (h : HSg T w0 W R b bc vc vf vs H olds) : HSg T w0 W R b bc vc vf vs H [] := ⟨h.sep.alter 3 rfl (factT T.leq vf H.facts []) fun _ hF => factT_less hF, h.len⟩
end

end Go.Proofs.Ytejnjaikalckiaa
