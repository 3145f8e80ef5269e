/- Facts for LinkOrder: where a function of the two trees stands among the codes; append of a slice of trees, or of none. -/
import Derived.Test.YtnmpfpnldcgbaaaDoorLnkP
import Derived.Test.YtnmpfpnldcgbaaaDoorP08
import Derived.Laws.OwnMore
namespace Go.Proofs.YtnmpfpnldcgbaaaDoor
open Go.RowKit

theorem fnsL_append (a b : List T) : fnsL (a ++ b) = fnsL a ++ fnsL b := by unfold fnsL; rw [List.filter_append]
theorem fnsL_cons6 {t : T} (h : t.kind = 6) (ts : List T) : fnsL (t :: ts) = t :: fnsL ts := by unfold fnsL; rw [List.filter_cons_of_pos (by simpa using h)]
theorem fnsL_cons_no {t : T} (h : t.kind ≠ 6) (ts : List T) : fnsL (t :: ts) = fnsL ts := by unfold fnsL; rw [List.filter_cons_of_neg (by simpa using h)]
theorem take_drop_at {xs : List T} {i : Nat} {t : T} (h : xs[i]? = some t) : xs = xs.take i ++ t :: xs.drop (i + 1) := by
  have hlt := (List.getElem?_eq_some_iff.1 h).1
  have he := (List.getElem?_eq_some_iff.1 h).2
  conv => lhs; rw [← List.take_append_drop i xs, List.drop_eq_getElem_cons hlt, he]
theorem fns_at {xs : List T} {i : Nat} {t : T} (h : xs[i]? = some t) (h6 : t.kind = 6) : (fnsL xs)[(fnsL (xs.take i)).length]? = some t := by
  conv => lhs; rw [take_drop_at h, fnsL_append, fnsL_cons6 h6]
  have e : (xs.take i ++ t :: xs.drop (i + 1)).take i = xs.take i := by rw [← take_drop_at h]
  rw [e, List.getElem?_append_right (Nat.le_refl _)]
  simp
theorem fns_step {xs : List T} {i : Nat} {t : T} (h : xs[i]? = some t) : (fnsL (xs.take (i + 1))).length = (fnsL (xs.take i)).length + (if t.kind = 6 then 1 else 0) := by
  have hlt := (List.getElem?_eq_some_iff.1 h).1
  have he := (List.getElem?_eq_some_iff.1 h).2
  rw [List.take_succ_eq_append_getElem hlt, he, fnsL_append, List.length_append]
  congr 1
  by_cases h6 : t.kind = 6
  · rw [fnsL_cons6 h6]; simp [h6, fnsL]
  · rw [fnsL_cons_no h6]; simp [h6, fnsL]
theorem order_at {a b : T} {m : Img} (hm : Linked a b m) {i : Nat} {t : T} (h : (a.kids ++ b.kids)[i]? = some t) (h6 : t.kind = 6) :
    m.codes[(fnsL ((a.kids ++ b.kids).take i)).length]? = some (lowerI t) ∧ decide ((fnsL ((a.kids ++ b.kids).take i)).length < m.libs) = decide (i < a.kids.length) := by
  constructor
  · rw [hm.codes, ← List.map_append, ← fnsL_append, List.getElem?_map, fns_at h h6]
    rfl
  · rw [hm.libs]
    by_cases hi : i < a.kids.length
    · have e : (a.kids ++ b.kids).take i = a.kids.take i := List.take_append_of_le_length (by omega)
      have h1 : a.kids[i]? = some t := by rwa [List.getElem?_append_left hi] at h
      have h2 := congrArg (fun l => (fnsL l).length) (take_drop_at h1)
      simp only [fnsL_append, fnsL_cons6 h6, List.length_append, List.length_cons] at h2
      rw [e]
      have h3 : (fnsL (a.kids.take i)).length < (fnsL a.kids).length := by omega
      simp [hi, h3]
    · have e : (a.kids ++ b.kids).take i = a.kids ++ b.kids.take (i - a.kids.length) := by rw [List.take_append]; rw [List.take_of_length_le (by omega)]
      rw [e, fnsL_append, List.length_append]
      have h3 : ¬ ((fnsL a.kids).length + (fnsL (b.kids.take (i - a.kids.length))).length < (fnsL a.kids).length) := by omega
      simp [hi, h3]
theorem order_end {a b : T} {m : Img} (hm : Linked a b m) : (fnsL (a.kids ++ b.kids)).length = m.codes.length := by
  rw [hm.codes, ← List.map_append, ← fnsL_append, List.length_map]

/- append of nothing. -/
theorem run_append_zero {P : Program} {w : World} (t ty e : TypeId) (i : TypeInfo) (size : Nat) (ht : P.underlying t = some (.slice e)) (hi : P.info? e = some i) (v : Value) (n : Nat) (xs : List Value) (hown : w.ownsRow 0 e size v n xs) (a : Addr) (c : Nat) :
    (Builtin.append_ #[t, t] ty #[v, .slice (some a) 0 c]).run P w = .ok v w := by
  rcases hown.2 with ⟨rfl, rfl⟩ | ⟨g, cap, cur, rfl, _, _, hnc, _⟩
  · simp [Builtin.append_, run_underlying ht, sizeOf, typeInfo, hi, Builtin.lenOf, Builtin.firstCells, loadCells, loadCellsFrom, Result.andThen]
  · simp [Builtin.append_, run_underlying ht, sizeOf, typeInfo, hi, Builtin.lenOf, Builtin.firstCells, hnc, storeCells, loadCells, loadCellsFrom, Result.andThen]
/- append of a slice of trees, whatever it holds. -/
theorem wp_append_kat {P : Program} {w : World} {o : Oper} {a : Act} {K : Act → World → Prop} {Q : Exit → Act → World → Prop} (s x : Operand) {t e : TypeId} (ho : o.op = .call { callee := .builtin .append, args := #[s, x], argTypes := #[t, t] })
    {i : TypeInfo} {z : Value} (I : NodeInfo P t e i z) {ks ts : List T} {S Sx : Nat → Prop} {v xv : Value} (hs : a.eval s = v) (hk : KAt e w ks S v) (hx : a.eval x = xv) (hxk : KAt e w ts Sx xv) (hSx : ∀ b, Sx b → b < w.heap.size → S b ∧ v.ownBlock ≠ some b) (hS : S w.heap.size)
    (hb : ks.length + ts.length ≤ 100000)
    (h : ∀ v' w', KAt e w' (ks ++ ts) S v' → w.grownBy w' v.ownBlock → (v'.ownBlock = v.ownBlock ∨ v'.ownBlock = some w.heap.size) → K (a.put o.dst v') w') : o.wp P a w K Q := by
  obtain ⟨us, hown, hSv, hts⟩ := hxk
  have hlt := hown.lt
  have hown' := hown
  rcases hown.2 with ⟨rfl, h0⟩ | ⟨g, cap, cur, rfl, hbg, hg, hnc, hcm, hcs, htake⟩
  · have hnil : ts = [] := List.eq_nil_of_length_eq_zero h0
    subst hnil
    have hk' := hk
    obtain ⟨vs, hv, _⟩ := hk
    have hr := run_append_owned_none (P := P) w 0 t o.type e i 5 I.ht I.hi v _ _ hv
    unfold Oper.wp execOp
    simp only [ho, resolve, invoke, builtin, Sem.run_bind, Sem.run_pure, Result.andThen_ok, List.map_toArray, List.map_cons, List.map_nil, hs, hx, hr]
    exact h v w (by simpa using hk') (World.grownBy.refl _ _) (.inl rfl)
  · by_cases hz : ts.length = 0
    · have hnil : ts = [] := List.eq_nil_of_length_eq_zero hz
      subst hnil
      have hk' := hk
      obtain ⟨vs, hv, _⟩ := hk
      have hr := run_append_zero (P := P) t o.type e i 5 I.ht I.hi v _ _ hv ⟨g, 0, none⟩ cap
      have hx0 : a.eval x = .slice (some ⟨g, 0, none⟩) 0 cap := hx
      unfold Oper.wp execOp
      simp only [ho, resolve, invoke, builtin, Sem.run_bind, Sem.run_pure, Result.andThen_ok, List.map_toArray, List.map_cons, List.map_nil, hs, hx0, hr]
      exact h v w (by simpa using hk') (World.grownBy.refl _ _) (.inl rfl)
    · refine wp_append_trees s x ho I hs hk (us := us) ?_ hS hx rfl (by omega) (hown'.cells (g := g) rfl) hb h
      exact TsAt.keep ts hts fun b hb hl => ⟨hSx b hb.1 hl, rfl⟩
theorem KAt.len {e : TypeId} {w : World} {ks : List T} {S : Nat → Prop} {v : Value} (h : KAt e w ks S v) : ∃ a c, v = .slice a ks.length c := by
  rcases h.form with ⟨rfl, rfl⟩ | ⟨g, cap, rfl, _⟩
  · exact ⟨_, _, rfl⟩
  · exact ⟨_, _, rfl⟩

end Go.Proofs.YtnmpfpnldcgbaaaDoor
