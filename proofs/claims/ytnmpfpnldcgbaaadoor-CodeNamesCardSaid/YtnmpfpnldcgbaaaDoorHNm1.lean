/- The names that an instruction reads, as a plain account; rows of terms that came in; appends on them; the contract of lychgatelaw07.codeTerm. -/
import Derived.Test.YtnmpfpnldcgbaaaDoorP33
namespace Go.Proofs.YtnmpfpnldcgbaaaDoor
open Go.RowKit

def nmOf (t : Tm) : List ByteArray := bif t.name.toList == [] then [] else [t.name]
def nmsOf : List Tm → List ByteArray
  | [] => []
  | t :: ts => nmOf t ++ nmsOf ts
theorem nmsOf_append : ∀ a b : List Tm, nmsOf (a ++ b) = nmsOf a ++ nmsOf b
  | [], _ => rfl
  | t :: a, b => by rw [List.cons_append, nmsOf, nmsOf, nmsOf_append a b, List.append_assoc]
theorem nmsOf_take (ts : List Tm) (k : Nat) (t : Tm) (h : ts[k]? = some t) : nmsOf (ts.take (k + 1)) = nmsOf (ts.take k) ++ nmOf t := by
  have hlt := (List.getElem?_eq_some_iff.1 h).1
  rw [List.take_succ_eq_append_getElem hlt, nmsOf_append, (List.getElem?_eq_some_iff.1 h).2]
  congr 1
  simp [nmsOf]
theorem nmsOf_len : ∀ ts : List Tm, (nmsOf ts).length ≤ ts.length
  | [] => Nat.le_refl _
  | t :: ts => by
    have := nmsOf_len ts
    have h : (nmOf t).length ≤ 1 := by unfold nmOf; cases t.name.toList == [] <;> simp
    rw [nmsOf, List.length_append, List.length_cons]
    omega
def yOf (op : Int) (y : ByteArray) : List ByteArray := bif decide (5 ≤ op) && decide (op ≤ 9) then [y] else []
/- What an instruction reads. -/
def namesI (op : Int) (y : ByteArray) (ts : List Tm) : List ByteArray := yOf op y ++ nmsOf ts
theorem namesI_len (op : Int) (y : ByteArray) (ts : List Tm) : (namesI op y ts).length ≤ ts.length + 1 := by
  have := nmsOf_len ts
  have h : (yOf op y).length ≤ 1 := by unfold yOf; cases decide (5 ≤ op) && decide (op ≤ 9) <;> simp
  unfold namesI
  rw [List.length_append]
  omega

def instrCells (op pl : Int) (x y : ByteArray) (a b : Tm) (v : Value) (to : Int) (has : Bool) : List Value :=
  [.int .i64 op, .int .i64 pl, .string x, .string y, .string a.name, .int .i64 a.num, .string b.name, .int .i64 b.num, v, .int .i64 to, .bool has]
def InstrV (op pl : Int) (x y : ByteArray) (a b : Tm) (v : Value) (to : Int) (has : Bool) : Value :=
  .agg #[.int .i64 op, .int .i64 pl, .string x, .string y, .string a.name, .int .i64 a.num, .string b.name, .int .i64 b.num, v, .int .i64 to, .bool has]
theorem instrCells_one (op pl : Int) (x y : ByteArray) (a b : Tm) (v : Value) (to : Int) (has : Bool) (hv : v.oneCell' = true) : ∀ u ∈ instrCells op pl x y a b v to has, u.oneCell' = true := by
  intro u hu
  simp only [instrCells, List.mem_cons, List.not_mem_nil, or_false] at hu
  rcases hu with rfl | rfl | rfl | rfl | rfl | rfl | rfl | rfl | rfl | rfl | rfl
  all_goals first | rfl | exact hv

/- Terms in a slice that came in, or in a row: their cells, below the block B. -/
def TmsAt (w : World) (B : Nat) (A : Option Addr) (ts : List Tm) : Prop :=
  0 < ts.length → ∃ b off, A = some ⟨b, off, none⟩ ∧ b < B ∧ ∀ i t, ts[i]? = some t → w.cell? ⟨b, off + i * 2, none⟩ = some (.string t.name) ∧ w.cell? ⟨b, off + i * 2 + 1, none⟩ = some (.int .i64 t.num)
theorem TmsAt.below {w w' : World} {B B' : Nat} {A : Option Addr} {ts : List Tm} (h : TmsAt w B A ts) (hb : Below B' w w') (hB : B ≤ B') : TmsAt w' B A ts := fun hn => by
  obtain ⟨b, off, e, hlt, hc⟩ := h hn
  refine ⟨b, off, e, hlt, fun i t ht => ?_⟩
  obtain ⟨h0, h1⟩ := hc i t ht
  exact ⟨(hb.cell (p := ⟨b, off + i * 2, none⟩) (Nat.lt_of_lt_of_le hlt hB)).trans h0, (hb.cell (p := ⟨b, off + i * 2 + 1, none⟩) (Nat.lt_of_lt_of_le hlt hB)).trans h1⟩
theorem nm_add (b off j : Nat) : (⟨b, off, none⟩ : Addr).add j = ⟨b, off + j, none⟩ := by
  unfold Addr.add
  split
  · subst_vars; rfl
  · rfl
theorem tmsCells_get : ∀ (ts : List Tm) (j : Nat) (u : Value), (tmsCells ts)[j]? = some u → ∃ i t, ts[i]? = some t ∧ ((j = i * 2 ∧ u = .string t.name) ∨ (j = i * 2 + 1 ∧ u = .int .i64 t.num))
  | [], j, u, h => by simp [tmsCells] at h
  | t :: ts, 0, u, h => by
    have : u = .string t.name := by simpa [tmsCells, tmCells] using h.symm
    exact ⟨0, t, rfl, .inl ⟨rfl, this⟩⟩
  | t :: ts, 1, u, h => by
    have : u = .int .i64 t.num := by simpa [tmsCells, tmCells] using h.symm
    exact ⟨0, t, rfl, .inr ⟨rfl, this⟩⟩
  | t :: ts, j + 2, u, h => by
    have h' : (tmsCells ts)[j]? = some u := by simpa [tmsCells, tmCells] using h
    obtain ⟨i, t', h1, h2⟩ := tmsCells_get ts j u h'
    refine ⟨i + 1, t', by simpa using h1, ?_⟩
    rcases h2 with ⟨rfl, e⟩ | ⟨rfl, e⟩
    · exact .inl ⟨by omega, e⟩
    · exact .inr ⟨by omega, e⟩
theorem TmsAt.cells {w : World} {B : Nat} {ts : List Tm} {ad : Addr} (h : TmsAt w B (some ad) ts) (j : Nat) (u : Value) (hj : (tmsCells ts)[j]? = some u) : w.cell? (ad.add j) = some u := by
  obtain ⟨i, t, ht, hc⟩ := tmsCells_get ts j u hj
  obtain ⟨b, off, e, _, hcell⟩ := h (by have := (List.getElem?_eq_some_iff.1 ht).1; omega)
  cases e
  obtain ⟨h0, h1⟩ := hcell i t ht
  rcases hc with ⟨rfl, rfl⟩ | ⟨rfl, rfl⟩
  · rw [nm_add]; exact h0
  · rw [nm_add]; exact h1
/- A row of one's own is such a slice. -/
theorem TmsAt.own {w : World} {e : TypeId} {v : Value} {ts : List Tm} {base : Nat} (h : w.ownsRow base e 2 v ts.length (tmsCells ts)) : ∃ A c, v = .slice A ts.length c ∧ TmsAt w w.heap.size A ts ∧ (0 < ts.length → ∃ g, A = some ⟨g, 0, none⟩ ∧ v.ownBlock = some g) := by
  have hf := h
  rcases h.2 with ⟨rfl, h0⟩ | ⟨g, cap, cur, rfl, hb, hg, hnc, hcm, hcs, htake⟩
  · exact ⟨none, 0, by rw [h0], fun hn => by omega, fun hn => by omega⟩
  · refine ⟨some ⟨g, 0, none⟩, cap, rfl, fun hn => ⟨g, 0, rfl, (Array.getElem?_eq_some_iff.1 hg).1, fun i t ht => ?_⟩, fun _ => ⟨g, rfl, rfl⟩⟩
    have hi := (List.getElem?_eq_some_iff.1 ht).1
    have key : ∀ (l : List Tm) (i : Nat) (t : Tm), l[i]? = some t → (tmsCells l)[i * 2]? = some (.string t.name) ∧ (tmsCells l)[i * 2 + 1]? = some (.int .i64 t.num) := by
      intro l
      induction l with
      | nil => intro i t h; simp at h
      | cons a l ih =>
        intro i t h
        cases i with
        | zero => obtain rfl : a = t := by simpa using h
                  exact ⟨rfl, rfl⟩
        | succ i =>
          have := ih i t (by simpa using h)
          rw [show (i + 1) * 2 = i * 2 + 2 by omega]
          simpa [tmsCells, tmCells] using this
    obtain ⟨k0, k1⟩ := key ts i t ht
    refine ⟨?_, ?_⟩
    · rw [Nat.zero_add, hf.cellAt (i * 2) (by omega)]; exact k0
    · rw [Nat.zero_add, hf.cellAt (i * 2 + 1) (by omega)]; exact k1

/- append of terms from a slice that came in. -/
theorem run_append_none {P : Program} (w : World) (base : Nat) (t ty e : TypeId) (i : TypeInfo) (size : Nat) (ht : P.underlying t = some (.slice e)) (hi : P.info? e = some i)
    (v : Value) (n : Nat) (xs : List Value) (hown : w.ownsRow base e size v n xs) (c : Nat) : (Builtin.append_ #[t, t] ty #[v, .slice none 0 c]).run P w = .ok v w := by
  rcases hown.2 with ⟨rfl, rfl⟩ | ⟨g, cap, cur, rfl, _, _, hnc, _⟩
  · simp [Builtin.append_, run_underlying ht, sizeOf, typeInfo, hi, Builtin.lenOf, Builtin.firstCells]
  · simp [Builtin.append_, run_underlying ht, sizeOf, typeInfo, hi, Builtin.lenOf, Builtin.firstCells, hnc, storeCells]
theorem run_append_tms {P : Program} {t ty e : TypeId} {i : TypeInfo} {z : Value} (I : RowInfo P t e 2 24 i z) (w : World) {base n : Nat} {v : Value} {ts : List Tm} (hown : w.ownsRow base e 2 v n (tmsCells ts)) {A : Option Addr} {c B : Nat} {us : List Tm}
    (hg : TmsAt w B A us) (h63 : n + us.length ≤ maxLen) (hbytes : (n + us.length) * 24 ≤ 140737488355328) (hbase : base ≤ w.heap.size) :
    ∃ v' w', (Builtin.append_ #[t, t] ty #[v, .slice A us.length c]).run P w = .ok v' w' ∧ w'.ownsRow base e 2 v' (n + us.length) (tmsCells (ts ++ us)) ∧ w.grownBy w' v.ownBlock := by
  rw [tmsCells_append]
  rcases A with _ | ad
  · have hm0 : us.length = 0 := by
      rcases Nat.eq_zero_or_pos us.length with h0 | h0
      · exact h0
      · obtain ⟨b, off, e, _⟩ := hg h0
        cases e
    have hus : us = [] := List.eq_nil_of_length_eq_zero hm0
    subst hus
    exact ⟨v, w, run_append_none w base t ty e i 2 I.ht I.hi v n _ hown c, by simpa [tmsCells] using hown, World.grownBy.refl w _⟩
  · obtain ⟨v', w', h1, h2, h3, _⟩ := run_append_own (P := P) w base t ty e i z 2 24 I.ht I.hi I.hz I.size I.bytes I.zs (by omega) v n _ hown ad us.length c (tmsCells us) (tmsCells_length us) (fun j u hj => hg.cells j u hj) (tmsCells_one us) h63 hbytes hbase
    exact ⟨v', w', h1, h2, h3⟩
theorem wpList_append_tms {P : Program} {ops : Array Oper} {rest : List Oper} {o : Oper} {a : Act} {w : World} {Q : Exit → Act → World → Prop} (hgd : o.guard = none) (s x : Operand) {t e : TypeId} (ho : o.op = .call { callee := .builtin .append, args := #[s, x], argTypes := #[t, t] })
    {i : TypeInfo} {z : Value} (I : RowInfo P t e 2 24 i z) {base n : Nat} {v : Value} {ts : List Tm} (hs : a.eval s = v) (hown : w.ownsRow base e 2 v n (tmsCells ts)) {A : Option Addr} {c B : Nat} {us : List Tm} (hx : a.eval x = .slice A us.length c)
    (hg : TmsAt w B A us) (h63 : n + us.length ≤ maxLen) (hbytes : (n + us.length) * 24 ≤ 140737488355328) (hbase : base ≤ w.heap.size)
    (h : ∀ v' w', w'.ownsRow base e 2 v' (n + us.length) (tmsCells (ts ++ us)) → w.grownBy w' v.ownBlock → wpList P ops Q rest (a.put o.dst v') w') : wpList P ops Q (o :: rest) a w := by
  obtain ⟨v', w', hr, h2, h3⟩ := run_append_tms (ty := o.type) I w hown (c := c) hg h63 hbytes hbase
  refine wpList_plain hgd fun _ hK => ?_
  unfold Oper.wp execOp
  simp only [ho, resolve, invoke, builtin, Sem.run_bind, Sem.run_pure, Result.andThen_ok, List.map_toArray, List.map_cons, List.map_nil, hs, hx, hr]
  exact hK _ _ (h v' w' h2 h3)

/- append of one string that lies in a new block, with room told in bytes. -/
theorem wpList_append_str2 {P : Program} {w : World} {ops : Array Oper} {rest : List Oper} {o : Oper} {a : Act} {Q : Exit → Act → World → Prop} (hgd : o.guard = none) (s x : Operand) {t : TypeId} (ho : o.op = .call { callee := .builtin .append, args := #[s, x], argTypes := #[t, t] })
    {i : TypeInfo} {z : Value} (I : RowInfo P t 9 1 16 i z) {ss : List ByteArray} {u : ByteArray} {S : Nat → Prop} {v : Value} (hs : a.eval s = v) (hk : StrsAt w ss S v) (hS : S w.heap.size) {ad : Addr} {c : Nat} (hx : a.eval x = .slice (some ad) 1 c) (hnew : w.cell? (ad.add 0) = some (.string u))
    (hb : (ss.length + 1) * 16 ≤ 140737488355328)
    (h : ∀ v' w', StrsAt w' (ss ++ [u]) S v' → w.grownBy w' v.ownBlock → wpList P ops Q rest (a.put o.dst v') w') : wpList P ops Q (o :: rest) a w := by
  obtain ⟨hown, hSv⟩ := hk
  have hnews : ∀ j y, ([Value.string u] : List Value)[j]? = some y → w.cell? (ad.add j) = some y := fun j y hj => by
    cases j with
    | zero => simp at hj; subst hj; exact hnew
    | succ j => simp at hj
  have h1 : ∀ y ∈ ([Value.string u] : List Value), y.oneCell' = true := fun y hy => by simp at hy; subst hy; rfl
  obtain ⟨v', w', hr, ho', hg', _⟩ := run_append_own (P := P) w 0 t o.type 9 i z 1 16 I.ht I.hi I.hz I.size I.bytes I.zs (by decide) v ss.length (strCells ss) hown ad 1 c [Value.string u] rfl hnews h1 (by unfold maxLen; omega) hb (Nat.zero_le _)
  have hbk := append_blockN (ty := o.type) I.ht I.hi I.hz I.size I.bytes hown (by omega) (by rfl) hnews h1 (by unfold maxLen; omega) hb hr
  refine wpList_plain hgd fun _ hK => ?_
  unfold Oper.wp execOp
  simp only [ho, resolve, invoke, builtin, Sem.run_bind, Sem.run_pure, Result.andThen_ok, List.map_toArray, List.map_cons, List.map_nil, hs, hx]
  rw [hr]
  refine hK _ _ (h v' w' ⟨?_, ?_⟩ hg')
  · rw [List.length_append]
    show w'.ownsRow 0 _ 1 v' (ss.length + 1) (strCells (ss ++ [u]))
    unfold strCells
    rw [List.map_append]
    exact ho'
  · intro g hg
    rcases hbk with h | h
    · exact hSv g (h ▸ hg)
    · rw [h] at hg; cases hg; exact hS

theorem Tryd.termInfo : ∃ i z, RowInfo Tryd.prog 41 40 2 24 i z := by
  have h : (Tryd.prog.info? 40).map (fun i => (i.zero, i.size, i.bytes)) = some (some (.agg #[.string ⟨#[]⟩, .int .i64 0]), 2, 24) := by kernel_rfl
  obtain ⟨i0, hi, hz0, hz1, hz2⟩ := info_parts h
  exact ⟨i0, _, Tryd.underlying41, hi, hz0, hz1, hz2, rfl⟩
theorem Tryd.rtermInfo : ∃ i z, RowInfo Tryd.prog 46 44 2 24 i z := by
  have h : (Tryd.prog.info? 44).map (fun i => (i.zero, i.size, i.bytes)) = some (some (.agg #[.string ⟨#[]⟩, .int .i64 0]), 2, 24) := by kernel_rfl
  obtain ⟨i0, hi, hz0, hz1, hz2⟩ := info_parts h
  exact ⟨i0, _, Tryd.underlying46, hi, hz0, hz1, hz2, rfl⟩
theorem Tryd.sizeRTerm : (Tryd.prog.info? 44).map (·.size) = some 2 := by kernel_rfl

set_option maxRecDepth 100000 in
set_option maxHeartbeats 2000000 in
theorem codeTerm_any (w : World) (t : Tm) : Calls Tryd.prog 18 #[.agg #[.string t.name, .int .i64 t.num]] w fun e w' => e = .returned (.agg #[.string t.name, .int .i64 t.num]) ∧ Below w.heap.size w w' := by
  have HB := Lib.hid (show Below w.heap.size w ((w.alloc (.cells (tmCells t).toArray 40)).alloc (.cells (tmCells t).toArray 44)) from (((Below.refl _ _).alloc (Nat.le_refl _) _).alloc (by simp) _))
  have HRes := Lib.hid (Blk.new2 w (.cells (tmCells t).toArray 40) (tmCells t) 44)
  go_enter Tryd.func18, Tryd.ntmps18
  go_wp2_with fail
  exact bodyPost_ret (results_blk (cs := tmCells t) Tryd.results18 rfl HRes.out Tryd.underlying44 rfl Tryd.sizeRTerm) rfl ⟨rfl, HB.out⟩

end Go.Proofs.YtnmpfpnldcgbaaaDoor
