/- append on a slice of trees: what comes of it holds the trees of both, in the row that was there or in a new one; all else is as it was. Nothing of the program is walked here. The contracts of the parser's methods that look at the next token or take it: peek, take, misplaced, is, accept, expectKind, name, number. The contract of the parser's expect: the next token, which must be one of those texts. -/
import Derived.Test.YtdkdidgeaalcgaaDoorP05
import Derived.Laws.AppendOwn
import Derived.Laws.AppendOwnNone
import Derived.RegionTactic
import Derived.ChangeAlike
import Derived.BigRegion
import Derived.Deep.LoopGhost
namespace Go.Proofs.YtdkdidgeaalcgaaDoor
section
open Go.RowKit

theorem rowCells_append : ∀ (ks ts : List T) (vs us : List Value), vs.length = ks.length → rowCells (ks ++ ts) (vs ++ us) = rowCells ks vs ++ rowCells ts us
  | [], _, [], _, _ => rfl
  | k :: ks, ts, v :: vs, us, h => by
    simp only [List.cons_append, rowCells, List.append_assoc]
    rw [rowCells_append ks ts vs us (by simpa using h)]
theorem TsAt.length {e : TypeId} {w : World} : ∀ {ts : List T} {S : Nat → Prop} {vs : List Value}, TsAt e w ts S vs → vs.length = ts.length
  | [], _, _, h => by unfold TsAt at h; rw [h]; rfl
  | t :: ts, _, _, h => by
    unfold TsAt at h
    obtain ⟨v, vs', rfl, _, h'⟩ := h
    simp [TsAt.length h']
theorem TsAt.append {e : TypeId} {w : World} : ∀ {ks ts : List T} {S : Nat → Prop} {vs us : List Value}, TsAt e w ks S vs → TsAt e w ts S us → TsAt e w (ks ++ ts) S (vs ++ us)
  | [], _, _, _, _, h, h' => by unfold TsAt at h; rw [h]; exact h'
  | k :: ks, ts, _, _, us, h, h' => by
    unfold TsAt at h
    obtain ⟨v, vs', rfl, hk, hks⟩ := h
    show TsAt e w (k :: (ks ++ ts)) _ (v :: (vs' ++ us))
    unfold TsAt
    exact ⟨v, vs' ++ us, rfl, hk, TsAt.append hks h'⟩
theorem TAt.one' {e : TypeId} {w : World} {t : T} {S : Nat → Prop} {v : Value} (h : TAt e w t S v) : v.oneCell' = true := h.kat.one
theorem rowCells_one {e : TypeId} {w : World} : ∀ {ts : List T} {S : Nat → Prop} {vs : List Value}, TsAt e w ts S vs → ∀ u ∈ rowCells ts vs, u.oneCell' = true
  | [], _, _, _ => by intro u hu; simp [rowCells] at hu
  | t :: ts, _, _, h => by
    unfold TsAt at h
    obtain ⟨v, vs', rfl, ht, hts⟩ := h
    intro u hu
    simp only [rowCells, List.mem_append] at hu
    rcases hu with hu | hu
    · exact nodeCells_one t v ht.one' u hu
    · exact rowCells_one hts u hu
theorem rowCells_length {e : TypeId} {w : World} : ∀ {ts : List T} {S : Nat → Prop} {vs : List Value}, TsAt e w ts S vs → (rowCells ts vs).length = ts.length * 5
  | [], _, _, _ => by simp [rowCells]
  | t :: ts, _, _, h => by
    unfold TsAt at h
    obtain ⟨v, vs', rfl, _, hts⟩ := h
    simp only [rowCells, List.length_append, rowCells_length hts, List.length_cons]
    show 5 + _ = _
    omega

/- Where the row lies behind an append of one element or more. -/
theorem append_block {P : Program} {w : World} {t ty e : TypeId} {i : TypeInfo} {z : Value} {bytes : Nat} (ht : P.underlying t = some (.slice e)) (hi : P.info? e = some i) (hz : i.zero = some z) (hsize : i.size = 5) (hby : i.bytes = bytes)
    {v : Value} {n : Nat} {xs : List Value} (hown : w.ownsRow 0 e 5 v n xs) {a : Addr} {m c : Nat} {news : List Value} (hm : 0 < m) (hl : news.length = m * 5) (hnews : ∀ j u, news[j]? = some u → w.cell? (a.add j) = some u) (h1 : ∀ u ∈ news, u.oneCell' = true)
    (h63 : n + m ≤ maxLen) (hbytes : (n + m) * bytes ≤ 140737488355328) {v' : Value} {w' : World} (hr : (Builtin.append_ #[t, t] ty #[v, .slice (some a) m c]).run P w = .ok v' w') : v'.ownBlock = v.ownBlock ∨ v'.ownBlock = some w.heap.size := by
  subst hby
  have hsmall : n + m ≤ 9223372036854775807 := by simp only [maxLen] at h63; omega
  rw [← hsize] at hl
  rcases hown.2 with ⟨rfl, rfl⟩ | ⟨g, cap, cur, rfl, hbg, hg, hnc, hcm, hcs, htake⟩
  · have h := run_append_nil (P := P) w t ty e i z ht hi hz a m c news hl hnews hm (by omega) (by have hb := hbytes; simp only [Nat.zero_add] at hb; omega)
    rw [h] at hr
    cases hr
    exact .inr rfl
  · by_cases hroom : n + m ≤ cap
    · have hfit : n * i.size + news.length ≤ cur.size := by rw [hl, hcs, hsize, ← Nat.add_mul]; exact Nat.mul_le_mul_right _ hroom
      have h := run_append_room (P := P) w t ty e i ht hi g n cap cur hg a m c news hl hnews h1 hroom hfit
      rw [h] at hr
      cases hr
      exact .inl rfl
    · have h := run_append_grow (P := P) w t ty e i z ht hi hz ⟨g, 0, none⟩ n cap xs (by rw [hown.1, hsize]) (hown.cells (g := g) rfl) a m c news hl hnews (by omega) (by omega) (growslice_fits (by omega) hbytes)
      rw [h] at hr
      cases hr
      exact .inr rfl

/- What the law on append asks of the type of nodes. -/
structure NodeInfo (P : Program) (t e : TypeId) (i : TypeInfo) (z : Value) : Prop where
  ht : P.underlying t = some (.slice e)
  hi : P.info? e = some i
  hz : i.zero = some z
  size : i.size = 5
  bytes : i.bytes = 64
  zs : z.cells.size = 5

theorem run_append_trees {P : Program} {w : World} {t ty e : TypeId} {i : TypeInfo} {z : Value} (I : NodeInfo P t e i z) {ks ts : List T} {S : Nat → Prop} {v : Value} (hk : KAt e w ks S v) {us : List Value}
    (hts : TsAt e w ts (fun b => S b ∧ v.ownBlock ≠ some b) us) (hS : S w.heap.size) {a : Addr} {c : Nat} (hm : 0 < ts.length) (hnews : ∀ j u, (rowCells ts us)[j]? = some u → w.cell? (a.add j) = some u) (hb : ks.length + ts.length ≤ 100000) :
    ∃ v' w', (Builtin.append_ #[t, t] ty #[v, .slice (some a) ts.length c]).run P w = .ok v' w' ∧ KAt e w' (ks ++ ts) S v' ∧ w.grownBy w' v.ownBlock ∧ (v'.ownBlock = v.ownBlock ∨ v'.ownBlock = some w.heap.size) := by
  obtain ⟨vs, hown, hSv, hks⟩ := hk
  obtain ⟨v', w', hr, ho', hg', _⟩ := run_append_own (P := P) w 0 t ty e i z 5 64 I.ht I.hi I.hz I.size I.bytes I.zs (by decide) v ks.length (rowCells ks vs) hown a ts.length c (rowCells ts us) (rowCells_length hts) hnews (rowCells_one hts)
    (by unfold maxLen; omega) (by omega) (Nat.zero_le _)
  have hbk := append_block (ty := ty) I.ht I.hi I.hz I.size I.bytes hown hm (rowCells_length hts) hnews (rowCells_one hts) (by unfold maxLen; omega) (by omega) hr
  refine ⟨v', w', hr, ⟨vs ++ us, ?_, ?_, ?_⟩, hg', hbk⟩
  · rw [rowCells_append _ _ _ _ (TsAt.length hks), List.length_append]
    exact ho'
  · intro g hg
    rcases hbk with h | h
    · exact hSv g (h ▸ hg)
    · rw [h] at hg; cases hg; exact hS
  · have keep : ∀ b, (S b ∧ v.ownBlock ≠ some b) → b < w.heap.size → (S b ∧ v'.ownBlock ≠ some b) ∧ w'.heap[b]? = w.heap[b]? := fun b hb hl => by
      refine ⟨⟨hb.1, fun h => ?_⟩, hg'.block b hl (Ne.symm hb.2)⟩
      rcases hbk with h' | h'
      · exact hb.2 (h' ▸ h)
      · rw [h'] at h; cases h; exact absurd hl (Nat.lt_irrefl _)
    exact TsAt.append (TsAt.keep ks hks keep) (TsAt.keep ts hts keep)

/- The operation. -/
theorem wp_append_trees {P : Program} {w : World} {o : Oper} {a : Act} {K : Act → World → Prop} {Q : Exit → Act → World → Prop} (s x : Operand) {t e : TypeId} (ho : o.op = .call { callee := .builtin .append, args := #[s, x], argTypes := #[t, t] })
    {i : TypeInfo} {z : Value} (I : NodeInfo P t e i z) {ks ts : List T} {S : Nat → Prop} {v : Value} (hs : a.eval s = v) (hk : KAt e w ks S v) {us : List Value}
    (hts : TsAt e w ts (fun b => S b ∧ v.ownBlock ≠ some b) us) (hS : S w.heap.size) {ad : Addr} {m c : Nat} (hx : a.eval x = .slice (some ad) m c) (hml : m = ts.length) (hm : 0 < ts.length) (hnews : ∀ j u, (rowCells ts us)[j]? = some u → w.cell? (ad.add j) = some u)
    (hb : ks.length + ts.length ≤ 100000)
    (h : ∀ v' w', KAt e w' (ks ++ ts) S v' → w.grownBy w' v.ownBlock → (v'.ownBlock = v.ownBlock ∨ v'.ownBlock = some w.heap.size) → K (a.put o.dst v') w') : o.wp P a w K Q := by
  subst hml
  obtain ⟨v', w', hr, h2, h3, h4⟩ := run_append_trees (ty := o.type) (c := c) I hk hts hS hm hnews hb
  unfold Oper.wp execOp
  simp only [ho, resolve, invoke, builtin, Sem.run_bind, Sem.run_pure, Result.andThen_ok, List.map_toArray, List.map_cons, List.map_nil, hs, hx, hr]
  exact h v' w' h2 h3 h4
theorem wpList_append_trees {P : Program} {w : World} {ops : Array Oper} {rest : List Oper} {o : Oper} {a : Act} {Q : Exit → Act → World → Prop} (hgd : o.guard = none) (s x : Operand) {t e : TypeId} (ho : o.op = .call { callee := .builtin .append, args := #[s, x], argTypes := #[t, t] })
    {i : TypeInfo} {z : Value} (I : NodeInfo P t e i z) {ks ts : List T} {S : Nat → Prop} {v : Value} (hs : a.eval s = v) (hk : KAt e w ks S v) {us : List Value}
    (hts : TsAt e w ts (fun b => S b ∧ v.ownBlock ≠ some b) us) (hS : S w.heap.size) {ad : Addr} {m c : Nat} (hx : a.eval x = .slice (some ad) m c) (hml : m = ts.length) (hm : 0 < ts.length) (hnews : ∀ j u, (rowCells ts us)[j]? = some u → w.cell? (ad.add j) = some u)
    (hb : ks.length + ts.length ≤ 100000)
    (h : ∀ v' w', KAt e w' (ks ++ ts) S v' → w.grownBy w' v.ownBlock → (v'.ownBlock = v.ownBlock ∨ v'.ownBlock = some w.heap.size) → wpList P ops Q rest (a.put o.dst v') w') : wpList P ops Q (o :: rest) a w :=
  wpList_plain hgd fun _ hK => wp_append_trees s x ho I hs hk hts hS hx hml hm hnews hb fun v' w' h2 h3 h4 => hK _ _ (h v' w' h2 h3 h4)

/- The cells of a literal of one tree, or two, in a new block. -/
theorem lit1_at (w : World) (e : TypeId) (t : T) (v : Value) : ∀ j u, (rowCells [t] [v])[j]? = some u → (w.alloc (.cells (nodeCells t v).toArray e)).cell? ((⟨w.heap.size, 0, none⟩ : Addr).add j) = some u := by
  intro j u hj
  rw [Addr.add_mid, Nat.zero_add, (Blk.new w (nodeCells t v) e).cell j]
  simpa [rowCells] using hj
theorem lit2_at (w : World) (e : TypeId) (t t' : T) (v v' : Value) : ∀ j u, (rowCells [t, t'] [v, v'])[j]? = some u → (w.alloc (.cells (nodeCells t v ++ nodeCells t' v').toArray e)).cell? ((⟨w.heap.size, 0, none⟩ : Addr).add j) = some u := by
  intro j u hj
  rw [Addr.add_mid, Nat.zero_add, (Blk.new w (nodeCells t v ++ nodeCells t' v') e).cell j]
  simpa [rowCells] using hj
theorem TsAt.single {e : TypeId} {w : World} {t : T} {S : Nat → Prop} {v : Value} (h : TAt e w t S v) : TsAt e w [t] S [v] := by
  unfold TsAt
  exact ⟨v, [], rfl, h, by unfold TsAt; rfl⟩
theorem TsAt.pair {e : TypeId} {w : World} {t t' : T} {S : Nat → Prop} {v v' : Value} (h : TAt e w t S v) (h' : TAt e w t' S v') : TsAt e w [t, t'] S [v, v'] := by
  unfold TsAt
  exact ⟨v, [v'], rfl, h, TsAt.single h'⟩

theorem Tryd.nodeInfo : ∃ i z, NodeInfo Tryd.prog 37 39 i z := by
  have h : (Tryd.prog.info? 39).map (fun i => (i.zero, i.size, i.bytes)) = some (some (.agg #[.int .i64 0, .string ⟨#[]⟩, .int .i64 0, .int .i64 0, .slice none 0 0]), 5, 64) := by kernel_rfl
  obtain ⟨i0, hi, hz0, hz1, hz2⟩ := info_parts h
  exact ⟨i0, _, Tryd.underlying37, hi, hz0, hz1, hz2, rfl⟩

/- The parser and what else is no part of the row is as it was behind an append. -/
theorem Run.grown {E : Env} {w W W' : World} {l : List Tok} {d : Nat} (h : Run E w W l d) {row : Option Nat} (hg : W.grownBy W' row) (hr : ∀ k, row = some k → w.heap.size ≤ k) : Run E w W' l d := by
  have hb : ∀ k, k < w.heap.size → W'.heap[k]? = W.heap[k]? := fun k hk => hg.block k (Nat.lt_of_lt_of_le hk h.kp.size) (fun e => by have := hr k e.symm; omega)
  exact ⟨⟨hg.os.trans h.kp.os, hg.tape.trans h.kp.tape, hg.output.trans h.kp.output, Nat.le_trans h.kp.size hg.size, fun k hk hn => (hb k hk).trans (h.kp.block k hk hn)⟩, h.st.same hg.size (hb _ h.lo) (hb _ h.lt), h.lo, h.lt⟩
theorem Blk.grown {w w' : World} {g : Nat} {cs : List Value} {t : TypeId} (h : Blk w g cs t) {row : Option Nat} (hg : w.grownBy w' row) (hn : some g ≠ row) : Blk w' g cs t := (hg.block g h.lt hn).trans h

theorem KAt.slice {e : TypeId} {w : World} {ks : List T} {S : Nat → Prop} {v : Value} (h : KAt e w ks S v) : ∃ a n c, v = .slice a n c := by
  obtain ⟨_, ho, _⟩ := h
  rcases ho.2 with ⟨rfl, _⟩ | ⟨g, cap, _, rfl, _⟩
  · exact ⟨_, _, _, rfl⟩
  · exact ⟨_, _, _, rfl⟩

theorem isT_lit (t : Tok) (l : List UInt8) : isT t (bs l) = (t.text.toList == l) := by
  unfold isT
  rw [ByteArray.toList_eq (bs l)]
  simp [bs]
theorem isT_yes {t : Tok} {l : List UInt8} (h : isT t (bs l) = true) : (t.text.toList == l) = true ∧ t.text.toList = l := by
  rw [isT_lit] at h
  exact ⟨h, beq_iff_eq.1 h⟩
theorem isT_no {t : Tok} {l : List UInt8} (h : isT t (bs l) = false) : (t.text.toList == l) = false ∧ ¬ t.text.toList = l := by
  rw [isT_lit] at h
  exact ⟨h, beq_eq_false_iff_ne.1 h⟩

theorem Blk.lt_kp {w w' : World} {g pb : Nat} {cs : List Value} {t : TypeId} (_ : Kp pb w w') (h : Blk w g cs t) : g < w.heap.size := h.lt
theorem KAt.lit1s {e : TypeId} {w : World} {t : T} {S : Nat → Prop} {v : Value} (h : TAt e w t S v) (a : Addr) (x : Value) (ha : ∀ b, S b → b ≠ a.block) (hS : S w.heap.size) :
    KAt e ((w.setCell a x).alloc (.cells (nodeCells t v).toArray e)) [t] S (.slice (some ⟨w.heap.size, 0, none⟩) 1 1) := by
  have h1 := KAt.lit1 (h.setCell a x ha) (by rw [show (w.setCell a x).heap.size = w.heap.size by simp [World.setCell]]; exact hS)
  rwa [show (w.setCell a x).heap.size = w.heap.size by simp [World.setCell]] at h1

theorem wp_store_blk {P : Program} {o : Oper} {a : Act} {w : World} {K : Act → World → Prop} {Q : Exit → Act → World → Prop} (ty : TypeId) (x y : Operand) (ho : o.op = .store ty x y)
    (g : Nat) (cells : List Value) (hx : a.eval x = .pointer (some ⟨g, 0, none⟩)) (hy : a.eval y = .agg cells.toArray)
    {t : TypeId} {old : List Value} (hg : Blk w g old t) (hi : (P.info? ty).map (·.size) = some cells.length)
    (hold : old.length = cells.length) (h1 : ∀ v ∈ cells, v.oneCell' = true)
    (h : K (a.put o.dst undef) (w.setRow g cells.toArray)) : o.wp P a w K Q :=
  wp_store_row ty x y ho g cells.toArray hx hy t old.toArray hg (by simpa using hi) (by simpa using hold) (all_oneCell_toArray h1) h

theorem ret_blk0 {P : Program} {fn : Func} {s : Tmp} {ty t : TypeId} (h : fn.results = #[.cell s ty]) {a : Act} {W : World} {g : Nat} {old cs : List Value} {d : TypeDesc} {R : Ending → World → Prop} (hs : a.tmps.getD s undef = .pointer (some ⟨g, 0, none⟩))
    (hb : Blk W g old t) (hu : P.underlying ty = some d) (hd : d.isRow = true) (hi : (P.info? ty).map (·.size) = some cs.length) (hdf : a.defers = []) (hR : R (.returned (.agg cs.toArray)) (W.setRow g cs.toArray)) :
    bodyPost P fn R .ret a (W.setRow g cs.toArray) :=
  bodyPost_ret (results_blk h hs (hb.rowSame cs) hu hd hi) hdf hR

theorem Run.nodeAt {E : Env} {w W : World} {l l' : List Tok} {d g : Nat} {r : R T} {t : T} {v : Value} (hg : w.heap.size ≤ g) (h : Run E w W l' d) (ht : TAt 39 W t (fun b => g < b) v) (hr : r = .ok (t, l')) (hl : l'.length < l.length) :
    PPost VNode E w l d r (.returned (NodeV t v)) (W.setRow g (nodeCells t v).toArray) :=
  .mk_ok hr rfl ⟨v, rfl, (ht.setRow _ _ (fun b hb => by omega)).mono (fun b hb _ => by omega)⟩ (h.setRow hg _).st hl (h.setRow hg _).kp

/- The same, of a method that may take no token. -/
def PPostE {α : Type} (V : World → Nat → α → Value → Prop) (E : Env) (w : World) (l : List Tok) (d : Nat) (r : R α) (e : Ending) (w' : World) : Prop :=
  match r with
  | .ok (a, l') => ∃ v, e = .returned v ∧ V w' w.heap.size a v ∧ PSt E w' l' d ∧ l'.length ≤ l.length ∧ Kp E.pb w w'
  | .error (p, c) => e = .panicked [{ v := faultV p c, recovered := false }] ∧ Kp E.pb w w' ∧ (c = 20 ∨ c = 21)
theorem PPostE.toP {α : Type} {V : World → Nat → α → Value → Prop} {E : Env} {w : World} {l l0 : List Tok} {d : Nat} {r : R α} {e : Ending} {w' : World} (h : PPostE V E w l d r e w') (hl : l.length < l0.length) : PPost V E w l0 d r e w' := by
  unfold PPostE at h
  unfold PPost
  cases r with
  | error pc => exact h
  | ok q =>
    obtain ⟨v, h1, h2, h3, h4, h5⟩ := h
    exact ⟨v, h1, h2, h3, by omega, h5⟩
theorem Run.nodeE {E : Env} {w W : World} {l l' : List Tok} {d : Nat} {r : R T} {t : T} {v : Value} (h : Run E w W l' d) (ht : TAt 39 W t (fun b => w.heap.size < b) v) (hr : r = .ok (t, l')) (hl : l'.length ≤ l.length) :
    PPostE VNode E w l d r (.returned (NodeV t v)) (W.setRow w.heap.size (nodeCells t v).toArray) := by
  rw [hr]
  exact ⟨_, rfl, ⟨v, rfl, (ht.setRow _ _ (fun b hb => by omega)).mono (fun b hb _ => by omega)⟩, (h.setRow (Nat.le_refl _) _).st, hl, (h.setRow (Nat.le_refl _) _).kp⟩
theorem Run.errE {α : Type} {V : World → Nat → α → Value → Prop} {E : Env} {w W : World} {l : List Tok} {d : Nat} {r : R α} {p : Nat} {c : Int} (hk : Kp E.pb w W) (hr : r = .error (p, c)) (hc : c = 20 ∨ c = 21) :
    PPostE V E w l d r (.panicked [{ v := faultV p c, recovered := false }]) W := by rw [hr]; exact ⟨rfl, hk, hc⟩
theorem Calls.weak {P : Program} {f : FuncId} {args : Array Value} {α : Type} {V : World → Nat → α → Value → Prop} {E : Env} {w : World} {l l0 : List Tok} {d : Nat} {r : R α} (h : Calls P f args w (PPostE V E w l d r)) (hl : l.length < l0.length) : Calls P f args w (PPost V E w l0 d r) :=
  h.mono fun _ _ hp => hp.toP hl

theorem makeFunc_run (fn : Fn) (first cap : Array Value) (w : World) : (Instr.makeFunc fn first cap).run Tryd.prog w = .ok (.func fn first cap) w := rfl
end

section
open Go.RowKit

set_option maxRecDepth 100000 in
set_option maxHeartbeats 400000 in
theorem peek_any {E : Env} {w : World} {l : List Tok} {d : Nat} (h : PSt E w l d) :
    Calls Tryd.prog 33 #[.pointer (some ⟨E.pb, 0, none⟩)] w fun e w' => e = .returned (tokV (hdT l)) ∧ Below w.heap.size w w' := by
  obtain ⟨c0, c1, _, _⟩ := h.cell
  obtain ⟨t0, t1, t2, t3⟩ := h.tok
  have hk : E.ts.length - l.length < E.ts.length := by have := h.head.1; have := h.le; omega
  have hlen := h.len
  have hp := h.plt
  have ht := h.tlt
  generalize E.ts.length - l.length = k at *
  clear h
  go_enter Tryd.func33, Tryd.ntmps33
  go_wp2
  go_region
  go_wp2
  exact bodyPost_ret (v := tokV (hdT l)) (by simp [results, Tryd.results33, go_sem, tokV]) rfl ⟨rfl, ((Below.refl _ _).alloc (Nat.le_refl _) _).drew⟩

def zeroTokCells : List Value := [.int .i64 0, .string ⟨#[]⟩, .int .i64 0, .int .i64 0]

set_option maxRecDepth 100000 in
set_option maxHeartbeats 400000 in
theorem take_any {E : Env} {w : World} {l : List Tok} {d : Nat} (h : PSt E w l d) (he : Ends l.tail) :
    Calls Tryd.prog 57 #[.pointer (some ⟨E.pb, 0, none⟩)] w fun e w' => e = .returned (tokV (hdT l)) ∧ PSt E w' l.tail d ∧ Kp E.pb w w' := by
  go_enter Tryd.func57, Tryd.ntmps57
  go_wp2_with fail
  refine (peek_any (h.alloc _)).mono ?_
  rintro e w1 ⟨rfl, hb⟩
  have hk1 : Kp E.pb (w.alloc _) w1 := .of_below hb
  have hs := (h.alloc _).below hb
  obtain ⟨c0, c1, c2, cf⟩ := hs.cell
  have hlen := h.len
  have hp := hs.plt
  have hpw := h.plt
  have htw := h.tlt
  have HST := Lib.hid (hs.step he)
  have HK := Lib.hid (((Kp.refl E.pb w).alloc _).trans hk1)
  have HR := Lib.hid ((Blk.new w zeroTokCells 75).kp hk1 (by omega))
  have hsz : w.heap.size < w1.heap.size := by have := hb.size; simp at this; omega
  clear hb hs h hk1
  unfold tokV
  generalize hkk : E.ts.length - l.length = k at *
  have hkb : k ≤ 16385 := by omega
  clear hkk
  go_wp2_with ((with_reducible refine at_st 75 (.tmp 2) ?_); refine wpList_store_blk rfl 75 (.tmp 2) (.tmp 13) rfl w.heap.size (tokCells (hdT l)) rfl rfl ((HR.out.setOther ⟨E.pb, 1, none⟩ _ (by show _ ≠ E.pb; omega)).alloc _) Tryd.sizeTok rfl (tokCells_one _) ?_)
  exact ret_blk (cs := tokCells (hdT l)) Tryd.results57 rfl ((HR.out.setOther ⟨E.pb, 1, none⟩ _ (by show _ ≠ E.pb; omega)).alloc _) Tryd.underlying75 rfl Tryd.sizeTok rfl ⟨rfl, (HST.out.alloc _).setRow (by omega) (by omega) _, ((HK.out.setPb _ _).alloc _).setRow (Nat.le_refl _) _⟩

set_option maxRecDepth 100000 in
set_option maxHeartbeats 400000 in
theorem misplaced_any {E : Env} {w : World} {l : List Tok} {d : Nat} (h : PSt E w l d) :
    Calls Tryd.prog 58 #[.pointer (some ⟨E.pb, 0, none⟩)] w fun e w' => e = .returned (.agg #[.int .i64 (hdT l).place, .int .i64 20]) ∧ Below w.heap.size w w' := by
  go_enter Tryd.func58, Tryd.ntmps58
  go_wp2_with fail
  refine (peek_any (h.alloc _)).mono ?_
  rintro e w1 ⟨rfl, hb⟩
  have HB := Lib.hid (((Below.refl w.heap.size w).alloc (Nat.le_refl _) _).trans (hb.mono (by simp)))
  obtain ⟨hc, hf⟩ := bcell hb
  clear hb h
  unfold tokV
  have fl0 := fldTok0
  have fl1 := fldTok1
  have fl2 := fldTok2
  have fl3 := fldTok3
  go_wp2
  exact bodyPost_ret (v := .agg #[.int .i64 (hdT l).place, .int .i64 20]) (by simp [results, Tryd.results58, go_sem, hc]) rfl ⟨rfl, (HB.out.setCell (Nat.le_refl _) _).setCell (Nat.le_refl _) _⟩

set_option maxRecDepth 100000 in
set_option maxHeartbeats 400000 in
theorem is_any {E : Env} {w : World} {l : List Tok} {d : Nat} (h : PSt E w l d) (s : ByteArray) :
    Calls Tryd.prog 56 #[.pointer (some ⟨E.pb, 0, none⟩), .string s] w fun e w' => e = .returned (.bool (isT (hdT l) s)) ∧ Below w.heap.size w w' := by
  go_enter Tryd.func56, Tryd.ntmps56
  go_wp2_with fail
  refine (peek_any h).mono ?_
  rintro e w1 ⟨rfl, hb⟩
  have HB := Lib.hid hb
  clear hb h
  unfold tokV
  have fl0 := fldTok0
  have fl1 := fldTok1
  have fl2 := fldTok2
  have fl3 := fldTok3
  go_wp2
  go_ret
  exact ⟨rfl, HB.out⟩

set_option maxRecDepth 100000 in
set_option maxHeartbeats 400000 in
theorem accept_no {E : Env} {w : World} {l : List Tok} {d : Nat} (h : PSt E w l d) {s : ByteArray} (hi : isT (hdT l) s = false) :
    Calls Tryd.prog 61 #[.pointer (some ⟨E.pb, 0, none⟩), .string s] w fun e w' => e = .returned (.bool false) ∧ Below w.heap.size w w' := by
  go_enter Tryd.func61, Tryd.ntmps61
  go_wp2_with fail
  refine (is_any h s).mono ?_
  rintro e w1 ⟨rfl, hb⟩
  rw [hi]
  have HB := Lib.hid hb
  clear hb h hi
  go_wp2
  go_ret
  exact ⟨rfl, HB.out⟩

set_option maxRecDepth 100000 in
set_option maxHeartbeats 400000 in
theorem accept_yes {E : Env} {w : World} {l : List Tok} {d : Nat} (h : PSt E w l d) {s : ByteArray} (hi : isT (hdT l) s = true) (hs : 0 < s.size) :
    Calls Tryd.prog 61 #[.pointer (some ⟨E.pb, 0, none⟩), .string s] w fun e w' => e = .returned (.bool true) ∧ PSt E w' l.tail d ∧ Kp E.pb w w' := by
  go_enter Tryd.func61, Tryd.ntmps61
  go_wp2_with fail
  refine (is_any h s).mono ?_
  rintro e w1 ⟨rfl, hb⟩
  rw [hi]
  have h1 := h.below hb
  obtain ⟨c0, c1, c2, cf⟩ := h1.cell
  have hp := h1.plt
  have hlen := h.len
  have HST := Lib.hid (h1.step (h.ends.tail_is hi hs))
  have HK := Lib.hid (Kp.of_below (pb := E.pb) hb)
  clear hb h h1 hi hs
  generalize hkk : E.ts.length - l.length = k at *
  have hkb : k ≤ 16385 := by omega
  clear hkk
  go_wp2
  go_ret
  exact ⟨rfl, HST.out, HK.out.setPb _ _⟩

set_option maxRecDepth 100000 in
set_option maxHeartbeats 400000 in
theorem expectKind_any {E : Env} {w : World} {l : List Tok} {d : Nat} (h : PSt E w l d) (k : Nat) (hk0 : 0 < k) :
    Calls Tryd.prog 73 #[.pointer (some ⟨E.pb, 0, none⟩), .int .i64 k] w (PPost VTok E w l d (kindP k l)) := by
  have hR := (Run.start h).alloc (.cells zeroTokCells.toArray 75)
  go_enter Tryd.func73, Tryd.ntmps73
  go_wp2_with fail
  refine (peek_any (h.alloc _)).mono ?_
  rintro e w1 ⟨rfl, hb⟩
  have hR1 := hR.below hb
  have HB := Lib.hid ((Blk.new w zeroTokCells 75).kp (Kp.of_below (pb := E.pb) hb) (by have := h.plt; omega))
  have HR := Lib.hid hR1
  have HL := Lib.hid (tail_lt h)
  have HO := Lib.hid h.headOK
  have HE := Lib.hid h.ends
  clear hb h hR hR1
  by_cases hk : (hdT l).kind = k
  · have HP := Lib.hid (show kindP k l = .ok (hdT l, l.tail) by unfold kindP; rw [beq_iff_eq.2 hk]; rfl)
    have hb : ((((hdT l).kind : Int)) != (k : Int)) = false := by simp [hk]
    have HT := Lib.hid (HE.out.tail (by omega))
    clear hk
    unfold tokV
    have fl0 := fldTok0
    have fl1 := fldTok1
    have fl2 := fldTok2
    have fl3 := fldTok3
    go_wp2_with fail
    refine (take_any HR.out.st HT.out).mono ?_
    rintro e w2 ⟨rfl, hs2, hk2⟩
    have HR2 := Lib.hid (HR.out.call hk2 hs2)
    have HB2 := Lib.hid (HB.out.kp hk2 (by have := HR.out.lo; omega))
    clear hs2 hk2
    go_wp2_with ((with_reducible refine at_st 75 (.tmp 4) ?_); refine wpList_store_blk rfl 75 (.tmp 4) (.tmp 14) rfl w.heap.size (tokCells (hdT l)) rfl rfl HB2.out Tryd.sizeTok rfl (tokCells_one _) ?_)
    exact ret_blk (cs := tokCells (hdT l)) Tryd.results73 rfl HB2.out Tryd.underlying75 rfl Tryd.sizeTok rfl
      (.mk_ok HP.out rfl ⟨rfl, HO.out⟩ (HR2.out.setRow (Nat.le_refl _) _).st HL.out (HR2.out.setRow (Nat.le_refl _) _).kp)
  · have HP := Lib.hid (show kindP k l = .error ((hdT l).place, 20) by unfold kindP; rw [beq_eq_false_iff_ne.2 hk]; rfl)
    have hb : ((((hdT l).kind : Int)) != (k : Int)) = true := by simp; omega
    clear hk
    unfold tokV
    have fl0 := fldTok0
    have fl1 := fldTok1
    have fl2 := fldTok2
    have fl3 := fldTok3
    go_wp2_with fail
    refine (misplaced_any HR.out.st).mono ?_
    rintro e w2 ⟨rfl, hb2⟩
    have HR2 := Lib.hid (HR.out.below hb2)
    clear hb2
    go_wp2
    exact ⟨rfl, Run.err HR2.out.kp HP.out (.inl rfl)⟩

set_option maxRecDepth 100000 in
set_option maxHeartbeats 400000 in
theorem name_any {E : Env} {w : World} {l : List Tok} {d : Nat} (h : PSt E w l d) :
    Calls Tryd.prog 59 #[.pointer (some ⟨E.pb, 0, none⟩)] w (PPost VStr E w l d (nameP l)) := by
  go_enter Tryd.func59, Tryd.ntmps59
  go_wp2_with fail
  refine (expectKind_any h 1 (by omega)).mono ?_
  intro e w1 hp
  cases hr : kindP 1 l with
  | error pc =>
    obtain ⟨p, c⟩ := pc
    obtain ⟨rfl, hk, hcd⟩ := hp.err hr
    go_wp2
    exact ⟨rfl, Run.err hk (by unfold nameP; exact bd_err hr _) hcd⟩
  | ok q =>
    obtain ⟨t, l1⟩ := q
    obtain ⟨v, rfl, ⟨rfl, ho⟩, hs, hl, hk⟩ := hp.ok hr
    have HP := Lib.hid (show nameP l = .ok (t.text, l1) by unfold nameP; exact bd_ok hr _)
    have HS := Lib.hid hs
    have HK := Lib.hid hk
    have HL := Lib.hid hl
    clear hr hp h hs hk hl
    unfold tokV
    have fl0 := fldTok0
    have fl1 := fldTok1
    have fl2 := fldTok2
    have fl3 := fldTok3
    go_wp2
    go_ret
    exact .mk_ok HP.out rfl rfl HS.out HL.out HK.out

set_option maxRecDepth 100000 in
set_option maxHeartbeats 400000 in
theorem number_any {E : Env} {w : World} {l : List Tok} {d : Nat} (h : PSt E w l d) :
    Calls Tryd.prog 83 #[.pointer (some ⟨E.pb, 0, none⟩)] w (PPost VNum E w l d (numberP l)) := by
  go_enter Tryd.func83, Tryd.ntmps83
  go_wp2_with fail
  refine (expectKind_any h 3 (by omega)).mono ?_
  intro e w1 hp
  cases hr : kindP 3 l with
  | error pc =>
    obtain ⟨p, c⟩ := pc
    obtain ⟨rfl, hk, hcd⟩ := hp.err hr
    go_wp2
    exact ⟨rfl, Run.err hk (by unfold numberP; exact bd_err hr _) hcd⟩
  | ok q =>
    obtain ⟨t, l1⟩ := q
    obtain ⟨v, rfl, ⟨rfl, ho⟩, hs, hl, hk⟩ := hp.ok hr
    have HP := Lib.hid (show numberP l = .ok ((t.num : Int), l1) by unfold numberP; exact bd_ok hr _)
    have HS := Lib.hid hs
    have HK := Lib.hid hk
    have HL := Lib.hid hl
    have HN := Lib.hid ho.num
    clear hr hp h hs hk hl ho
    unfold tokV
    have fl0 := fldTok0
    have fl1 := fldTok1
    have fl2 := fldTok2
    have fl3 := fldTok3
    go_wp2
    go_ret
    exact .mk_ok HP.out rfl ⟨rfl, by omega, by have := HN.out; omega⟩ HS.out HL.out HK.out
end

section
open Go.RowKit

theorem expectP_yes {ss : List ByteArray} {l : List Tok} {k : Nat} {s : ByteArray} (hk : ss[k]? = some s) (h : isT (hdT l) s = true) : expectP ss l = .ok (hdT l, l.tail) := by
  unfold expectP
  rw [List.any_eq_true.2 ⟨s, List.mem_of_getElem? hk, h⟩]
  rfl
theorem expectP_no {ss : List ByteArray} {l : List Tok} (h : ∀ s ∈ ss, isT (hdT l) s = false) : expectP ss l = .error ((hdT l).place, 20) := by
  unfold expectP
  rw [List.any_eq_false.2 (fun s hs => by simp [h s hs])]
  rfl

def ExpRel (ss : List ByteArray) (l : List Tok) (W : World) (g : Nat) (i : Value) (wr : World) : Prop :=
  ∃ k : Nat, k ≤ ss.length ∧ ss.length ≤ k + g ∧ i = .int .i64 k ∧ (∀ s ∈ ss.take k, isT (hdT l) s = false) ∧ Below W.heap.size W wr

set_option maxRecDepth 100000 in
set_option maxHeartbeats 1000000 in
theorem expect_any {E : Env} {w : World} {l : List Tok} {d : Nat} (h : PSt E w l d) (ss : List ByteArray) (hne : ∀ s ∈ ss, 0 < s.size) (hn : ss.length ≤ 8) :
    Calls Tryd.prog 45 #[.pointer (some ⟨E.pb, 0, none⟩), .slice (some ⟨w.heap.size, 0, none⟩) ss.length ss.length] (w.alloc (.cells (ss.map Value.string).toArray 9)) (PPost VTok E w l d (expectP ss l)) := by
  have HR := Lib.hid (((Run.start h).alloc (.cells (ss.map Value.string).toArray 9)).alloc (.cells zeroTokCells.toArray 75))
  have HC := Lib.hid ((Blk.new w (ss.map Value.string) 9).alloc (.cells zeroTokCells.toArray 75))
  have HB := Lib.hid (Blk.new2 w (.cells (ss.map Value.string).toArray 9) zeroTokCells 75)
  have HL := Lib.hid (tail_lt h)
  have HO := Lib.hid h.headOK
  have HE := Lib.hid h.ends
  have HNE := Lib.hid hne
  have hpw := h.plt
  have htw := h.tlt
  clear h hne
  go_enter Tryd.func45, Tryd.ntmps45
  go_wp2_with fail
  go_loopg [9] ss.length (fun g i wr => ExpRel ss l ((w.alloc (.cells (ss.map Value.string).toArray 9)).alloc (.cells zeroTokCells.toArray 75)) g i wr)
  case atStart => exact ⟨0, by omega, by omega, rfl, by simp, Below.refl _ _⟩
  case round =>
    obtain ⟨k, hk, hg, rfl, hno, hbel⟩ := hrel
    have HNO := Lib.hid hno
    have HRW := Lib.hid (HR.out.below hbel)
    have HBW := Lib.hid (HB.out.kp (Kp.of_below (pb := E.pb) hbel) (by omega))
    have HCW := Lib.hid (HC.out.kp (Kp.of_below (pb := E.pb) hbel) (by omega))
    have HBEL := Lib.hid hbel
    clear hno hbel
    by_cases hlt : k < ss.length
    · have hcell : wr.cell? ⟨w.heap.size, k, none⟩ = some (.string ss[k]) := by rw [HCW.out.cell k]; simp [hlt]
      cases hi : isT (hdT l) ss[k]
      · have HI := Lib.hid hi
        go_wp2_with fail
        refine (is_any HRW.out.st ss[k]).mono ?_
        rintro e w1 ⟨rfl, hb⟩
        rw [HI.out]
        have HB1 := Lib.hid (HBEL.out.trans (hb.mono HBEL.out.size))
        clear hb hi hcell
        go_wp2
        go_roundg (gk - 1)
        case measure => omega
        case rel =>
          refine ⟨k + 1, by omega, by omega, by go_num, ?_, HB1.out⟩
          intro s hs
          rw [List.take_succ_eq_append_getElem hlt] at hs
          rcases List.mem_append.1 hs with h1 | h1
          · exact HNO.out s h1
          · rw [List.mem_singleton.1 h1]; exact HI.out
      · have HI := Lib.hid hi
        go_wp2_with fail
        refine (is_any HRW.out.st ss[k]).mono ?_
        rintro e w1 ⟨rfl, hb⟩
        rw [HI.out]
        have HR1 := Lib.hid (HRW.out.below hb)
        have HB1 := Lib.hid (HBW.out.kp (Kp.of_below (pb := E.pb) hb) (by omega))
        have HT := Lib.hid (HE.out.tail_is HI.out (HNE.out _ (List.getElem_mem hlt)))
        have HP := Lib.hid (expectP_yes (List.getElem?_eq_getElem hlt) HI.out)
        clear hb hi hcell
        go_wp2_with fail
        refine (take_any HR1.out.st HT.out).mono ?_
        rintro e w2 ⟨rfl, hs2, hk2⟩
        have HR2 := Lib.hid (HR1.out.call hk2 hs2)
        have HB2 := Lib.hid (HB1.out.kp hk2 (by omega))
        clear hs2 hk2
        unfold tokV
        go_wp2_with ((with_reducible refine at_st 75 (.tmp 4) ?_); refine wpList_store_blk rfl 75 (.tmp 4) (.tmp 17) rfl (w.heap.size + 1) (tokCells (hdT l)) rfl rfl HB2.out Tryd.sizeTok rfl (tokCells_one _) ?_)
        exact ret_blk (cs := tokCells (hdT l)) Tryd.results45 rfl HB2.out Tryd.underlying75 rfl Tryd.sizeTok rfl
          (.mk_ok HP.out rfl ⟨rfl, HO.out⟩ (HR2.out.setRow (by omega) _).st HL.out (HR2.out.setRow (by omega) _).kp)
    · have HP := Lib.hid (expectP_no (ss := ss) (l := l) (by rw [List.take_of_length_le (by omega)] at HNO; exact HNO.out))
      go_wp2_with fail
      refine (misplaced_any HRW.out.st).mono ?_
      rintro e w2 ⟨rfl, hb2⟩
      have HR2 := Lib.hid (HRW.out.below hb2)
      clear hb2
      go_wp2
      exact ⟨rfl, Run.err HR2.out.kp HP.out (.inl rfl)⟩

theorem expect_at {E : Env} {w : World} {l : List Tok} {d g m c : Nat} (h : PSt E w l d) (ss : List ByteArray) (hne : ∀ s ∈ ss, 0 < s.size) (hn : ss.length ≤ 8) (hg : g = w.heap.size) (hm : m = ss.length) (hc : c = ss.length) :
    Calls Tryd.prog 45 #[.pointer (some ⟨E.pb, 0, none⟩), .slice (some ⟨g, 0, none⟩) m c] (w.alloc (.cells (ss.map Value.string).toArray 9)) (PPost VTok E w l d (expectP ss l)) := by
  subst hg hm hc
  exact expect_any h ss hne hn
end

end Go.Proofs.YtdkdidgeaalcgaaDoor
