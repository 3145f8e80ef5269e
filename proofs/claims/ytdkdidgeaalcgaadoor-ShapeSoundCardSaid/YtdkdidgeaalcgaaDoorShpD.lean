/- The contract of shape's partsOf. -/
import Derived.Test.YtdkdidgeaalcgaaDoorShpC
namespace Go.Proofs.YtdkdidgeaalcgaaDoor
open Go.RowKit

/- Nodes that were gathered in a row of their own, whose kids lie in older blocks. -/
def FRow (w : World) (n m : Nat) (ks : List T) (v : Value) : Prop :=
  ∃ vs, w.ownsRow 0 39 5 v ks.length (rowCells ks vs) ∧ (∀ g, v.ownBlock = some g → m ≤ g) ∧ TsAt 39 w ks (fun b => b < n) vs
theorem FRow.keep {w w' : World} {n m : Nat} {ks : List T} {v : Value} (h : FRow w n m ks v) (hk : ∀ b, b < n ∨ v.ownBlock = some b → b < w.heap.size → w'.heap[b]? = w.heap[b]?) : FRow w' n m ks v := by
  obtain ⟨vs, ho, hS, hts⟩ := h
  exact ⟨vs, ownsRow_keep ho fun g hg => hk g (.inr hg) (ho.lt g hg).2, hS, TsAt.keep ks hts fun b hb hl => ⟨hb, hk b (.inl hb) hl⟩⟩
theorem FRow.nil (w : World) (n m : Nat) : FRow w n m [] (.slice none 0 0) := ⟨[], World.ownsRow_nil _ _ _ _, (fun g h => by simp [Value.ownBlock] at h), by unfold TsAt; rfl⟩
theorem FRow.kat {w : World} {n m : Nat} (hnm : n ≤ m) {ks : List T} {v : Value} (h : FRow w n m ks v) : KAt 39 w ks (fun _ => True) v := by
  obtain ⟨vs, ho, hS, hts⟩ := h
  exact ⟨vs, ho, fun _ _ => trivial, TsAt.keep ks hts fun b hb _ => ⟨⟨trivial, fun e => by have := hS b e; omega⟩, rfl⟩⟩
theorem FRow.lt {w : World} {n m : Nat} {ks : List T} {v : Value} (h : FRow w n m ks v) {g : Nat} (hg : v.ownBlock = some g) : m ≤ g ∧ g < w.heap.size := by
  obtain ⟨vs, ho, hS, _⟩ := h
  exact ⟨hS g hg, (ho.lt g hg).2⟩
theorem FRow.one {w : World} {n m : Nat} {ks : List T} {v : Value} (h : FRow w n m ks v) : v.oneCell' = true := by
  obtain ⟨vs, ho, _⟩ := h
  rcases ho.2 with ⟨rfl, _⟩ | ⟨_, _, _, rfl, _⟩ <;> rfl

theorem FRow.slice {w : World} {n m : Nat} {ks : List T} {v : Value} (h : FRow w n m ks v) : ∃ a c, v = .slice a ks.length c := by
  obtain ⟨vs, ho, _⟩ := h
  rcases ho.2 with ⟨rfl, h0⟩ | ⟨_, _, _, rfl, _⟩
  · exact ⟨_, _, by rw [h0]⟩
  · exact ⟨_, _, rfl⟩
/- Some cells of a block are written. -/
def setL : List Value → Nat → List Value → List Value
  | cs, _, [] => cs
  | cs, o, v :: r => setL (cs.set o v) (o + 1) r
theorem setCells_blk {g : Nat} {t : TypeId} : ∀ (vs : List Value) (o : Nat) (w : World) (cs : List Value), Blk w g cs t → w.setCells g o vs = w.setRow g (setL cs o vs).toArray
  | [], o, w, cs, h => (setRow_self w g cs.toArray t (0, 0) h).symm
  | v :: r, o, w, cs, h => by
    rw [World.setCells, setCell_eq_setRow w g o cs.toArray t (0, 0) v h, List.setIfInBounds_toArray, setCells_blk r (o + 1) _ (cs.set o v) (h.rowSame _), setRow_setRow]
    rfl
theorem Blk.there {w : World} {g : Nat} {cs : List Value} {t : TypeId} (h : Blk w g cs t) (o n : Nat) (hn : o + n ≤ cs.length) : w.there g o n := fun j hj => by
  refine ⟨?_, ?_⟩
  · rw [h.cell (o + j)]; simp; omega
  · have h' : w.heap[g]? = some (.cells cs.toArray t (0, 0)) := h
    simp [World.frozen?, h']
theorem wpList_append_frow {P : Program} {w : World} {ops : Array Oper} {rest : List Oper} {o : Oper} {a : Act} {Q : Exit → Act → World → Prop} (hgd : o.guard = none) (s x : Operand) {t : TypeId} (ho : o.op = .call { callee := .builtin .append, args := #[s, x], argTypes := #[t, t] })
    {i : TypeInfo} {z : Value} (I : NodeInfo P t 39 i z) {n m : Nat} {ks : List T} {tk : T} {v u : Value} (hs : a.eval s = v) (hk : FRow w n m ks v) (hu : TAt 39 w tk (fun b => b < n) u) {b c : Nat} (hx : a.eval x = .slice (some ⟨b, 0, none⟩) 1 c)
    (hb : Blk w b (nodeCells tk u) 39) (hl : ks.length ≤ 4096) (hnm : n ≤ m) (hn0 : m ≤ w.heap.size)
    (h : ∀ v' w', FRow w' n m (ks ++ [tk]) v' → w.grownBy w' v.ownBlock → (v'.ownBlock = v.ownBlock ∨ v'.ownBlock = some w.heap.size) → wpList P ops Q rest (a.put o.dst v') w') : wpList P ops Q (o :: rest) a w := by
  refine wpList_plain hgd fun _ hK => ?_
  obtain ⟨vs, hown, hSv, hks⟩ := hk
  have hone : ∀ y ∈ nodeCells tk u, y.oneCell' = true := nodeCells_one tk u hu.one'
  have hnews : ∀ j y, (nodeCells tk u)[j]? = some y → w.cell? ((⟨b, 0, none⟩ : Addr).add j) = some y := fun j y hj => by rw [Addr.add_mid, Nat.zero_add, hb.cell j]; exact hj
  obtain ⟨v', w', hr, ho', hg', _⟩ := run_append_own (P := P) w 0 t o.type 39 i z 5 64 I.ht I.hi I.hz I.size I.bytes I.zs (by decide) v ks.length (rowCells ks vs) hown ⟨b, 0, none⟩ 1 c (nodeCells tk u) rfl hnews hone (by unfold maxLen; omega) (by omega) (Nat.zero_le _)
  have hbk := append_block (ty := o.type) I.ht I.hi I.hz I.size I.bytes hown (by omega) rfl hnews hone (by unfold maxLen; omega) (by omega) hr
  unfold Oper.wp execOp
  simp only [ho, resolve, invoke, builtin, Sem.run_bind, Sem.run_pure, Result.andThen_ok, List.map_toArray, List.map_cons, List.map_nil, hs, hx]
  rw [hr]
  have keep : ∀ g, g < n → g < w.heap.size → g < n ∧ w'.heap[g]? = w.heap[g]? := fun g hg hgl => ⟨hg, hg'.block g hgl fun e => by have := hSv g e.symm; omega⟩
  refine hK _ _ (h v' w' ⟨vs ++ [u], ?_, ?_, ?_⟩ hg' hbk)
  · have := rowCells_append ks [tk] vs [u] (TsAt.length hks)
    rw [this, List.length_append]
    simpa [rowCells] using ho'
  · intro g hg
    rcases hbk with h | h
    · exact hSv g (h ▸ hg)
    · rw [h] at hg; cases hg; exact hn0
  · exact TsAt.append (TsAt.keep ks hks keep) (TsAt.single (TAt.keep tk hu keep))

def zeroPtCells : List Value := [.int .i64 0, .string ⟨#[]⟩, .int .i64 0, .int .i64 0, .slice none 0 0, .slice none 0 0, .slice none 0 0]
def PartsPost (w : World) (p : Pt) (e : Ending) (w' : World) : Prop := ∃ sv fv cv, e = .returned (PtV p sv fv cv) ∧ PtAt w' p sv fv cv ∧ Below w.heap.size w w'

/- While partsOf runs: what is gathered of these kids. -/
structure PaSt (w : World) (n : Nat) (W : World) (p : Pt) (sv fv cv : Value) : Prop where
  b : Below n w W
  z : Blk W (n + 1) zeroPtCells 93
  q : Blk W (n + 1 + 1) (ptCells p sv fv cv) 93
  s : KAt 39 W p.sort.kids (fun b => b < n) sv
  f : FRow W n (n + 3) p.fields fv
  c : FRow W n (n + 3) p.facts cv
  ne : ∀ g, fv.ownBlock = some g → cv.ownBlock ≠ some g
  lt : n + 3 ≤ W.heap.size
section
variable {w W W' : World} {n : Nat} {p : Pt} {sv fv cv : Value}
theorem PaSt.stay (h : PaSt w n W p sv fv cv) (hb : Below W.heap.size W W') : PaSt w n W' p sv fv cv :=
  ⟨h.b.trans (hb.mono (by have := h.lt; omega)), h.z.stays hb, h.q.stays hb, h.s.below hb, h.f.keep fun b _ hl => hb.block b hl, h.c.keep fun b _ hl => hb.block b hl, h.ne, Nat.le_trans h.lt hb.size⟩
theorem PaSt.alloc (h : PaSt w n W p sv fv cv) (o : Obj) : PaSt w n (W.alloc o) p sv fv cv := h.stay ((Below.refl _ _).alloc (Nat.le_refl _) _)
theorem FRow.row {m : Nat} {ks : List T} {v : Value} (h : FRow W n m ks v) (g : Nat) (cs : Array Value) (h1 : n ≤ g) (h2 : g < m) : FRow (W.setRow g cs) n m ks v :=
  h.keep fun b hb _ => setRow_other _ _ _ _ (by
    rcases hb with hb | hb
    · omega
    · have := (h.lt hb).1; omega)
/- The parts are set: the sort, the fields, or the facts. -/
theorem PaSt.set (h : PaSt w n W p sv fv cv) {p' : Pt} {sv' fv' cv' : Value} (hs : KAt 39 W p'.sort.kids (fun b => b < n) sv') (hf : FRow W n (n + 3) p'.fields fv') (hc : FRow W n (n + 3) p'.facts cv') (hne : ∀ g, fv'.ownBlock = some g → cv'.ownBlock ≠ some g) :
    PaSt w n (W.setRow (n + 1 + 1) (ptCells p' sv' fv' cv').toArray) p' sv' fv' cv' :=
  ⟨Below.row h.b (by omega) _, h.z.rowOther (n + 1 + 1) _ (by omega), h.q.rowSame _, hs.setRow _ _ (fun b hb => by omega), hf.row _ _ (by omega) (by omega), hc.row _ _ (by omega) (by omega), hne, by simpa using h.lt⟩
/- A field more, or a fact. -/
theorem PaSt.addF (h : PaSt w n W p sv fv cv) (hg : W.grownBy W' fv.ownBlock) {fs' : List T} {fv' : Value} (hf : FRow W' n (n + 3) fs' fv') (hbk : fv'.ownBlock = fv.ownBlock ∨ fv'.ownBlock = some W.heap.size) :
    PaSt w n (W'.setCell ⟨n + 1 + 1, 5, none⟩ fv') ⟨p.sort, fs', p.facts⟩ sv fv' cv := by
  have hlt := h.lt
  have hr : ∀ k, fv.ownBlock = some k → n + 3 ≤ k := fun k hk => (h.f.lt hk).1
  have hq := h.q.grown hg (fun e => by have := hr _ e.symm; omega)
  rw [setCell_eq_setRow W' (n + 1 + 1) 5 _ _ (0, 0) fv' hq]
  exact ⟨Below.row (h.b.grown hg (by omega) (fun k hk => by have := hr k hk; omega)) (by omega) _, (h.z.grown hg (fun e => by have := hr _ e.symm; omega)).rowOther (n + 1 + 1) _ (by omega), hq.rowSame (ptCells ⟨p.sort, fs', p.facts⟩ sv fv' cv),
    (h.s.keep fun b hb hl => ⟨hb, hg.block b hl fun e => by have := hr _ e.symm; omega⟩ : KAt _ W' _ (fun b => b < n) _).setRow _ _ (fun b hb => by omega), hf.row _ _ (by omega) (by omega),
    (h.c.keep (w' := W') fun b hb hl => hg.block b hl fun e => by
      rcases hb with hb | hb
      · have := hr _ e.symm; omega
      · exact h.ne b e.symm hb).row _ _ (by omega) (by omega),
    fun g hg2 hc => by
      rcases hbk with e | e
      · exact h.ne g (e ▸ hg2) hc
      · rw [e] at hg2; cases hg2; exact absurd (h.c.lt hc).2 (Nat.lt_irrefl _),
    by have := hg.size; simp; omega⟩
theorem PaSt.addC (h : PaSt w n W p sv fv cv) (hg : W.grownBy W' cv.ownBlock) {fs' : List T} {cv' : Value} (hf : FRow W' n (n + 3) fs' cv') (hbk : cv'.ownBlock = cv.ownBlock ∨ cv'.ownBlock = some W.heap.size) :
    PaSt w n (W'.setCell ⟨n + 1 + 1, 6, none⟩ cv') ⟨p.sort, p.fields, fs'⟩ sv fv cv' := by
  have hlt := h.lt
  have hr : ∀ k, cv.ownBlock = some k → n + 3 ≤ k := fun k hk => (h.c.lt hk).1
  have hq := h.q.grown hg (fun e => by have := hr _ e.symm; omega)
  rw [setCell_eq_setRow W' (n + 1 + 1) 6 _ _ (0, 0) cv' hq]
  exact ⟨Below.row (h.b.grown hg (by omega) (fun k hk => by have := hr k hk; omega)) (by omega) _, (h.z.grown hg (fun e => by have := hr _ e.symm; omega)).rowOther (n + 1 + 1) _ (by omega), hq.rowSame (ptCells ⟨p.sort, p.fields, fs'⟩ sv fv cv'),
    (h.s.keep fun b hb hl => ⟨hb, hg.block b hl fun e => by have := hr _ e.symm; omega⟩ : KAt _ W' _ (fun b => b < n) _).setRow _ _ (fun b hb => by omega),
    (h.f.keep (w' := W') fun b hb hl => hg.block b hl fun e => by
      rcases hb with hb | hb
      · have := hr _ e.symm; omega
      · exact h.ne b hb e.symm).row _ _ (by omega) (by omega), hf.row _ _ (by omega) (by omega),
    fun g hg2 hc => by
      rcases hbk with e | e
      · exact h.ne g hg2 (e ▸ hc)
      · rw [e] at hc; cases hc; exact absurd (h.f.lt hg2).2 (Nat.lt_irrefl _),
    by have := hg.size; simp; omega⟩
end

set_option maxRecDepth 100000 in
set_option maxHeartbeats 2000000 in
theorem partsOf_any {w : World} {t : T} {S : Nat → Prop} {kv : Value} (hk : KAt 39 w t.kids S kv) (hl : t.kids.length ≤ 4096) :
    Calls Tryd.prog 36 #[NodeV t kv] w (PartsPost w (ptOf t.kids)) := by
  obtain ⟨i0, z0, I⟩ := Tryd.nodeInfo
  have hk0 : KAt 39 w t.kids (fun b => b < w.heap.size) kv := hk.keep fun b _ hb => ⟨hb, rfl⟩
  obtain ⟨W0, hW0⟩ : ∃ W, ((w.alloc (.cells (nodeCells t kv).toArray 39)).alloc (.cells zeroPtCells.toArray 93)).alloc (.cells zeroPtCells.toArray 93) = W := ⟨_, rfl⟩
  have HB0 := Lib.hid (show Below w.heap.size w W0 from hW0 ▸ ((((Below.refl _ _).alloc (Nat.le_refl _) _).alloc (by simp) _).alloc (by simp; omega) _))
  have b1 := show Blk W0 w.heap.size (nodeCells t kv) 39 from hW0 ▸ (((Blk.new w _ _).alloc _).alloc _)
  have b2 := show Blk W0 (w.heap.size + 1) zeroPtCells 93 from hW0 ▸ ((Blk.new2 w _ _ _).alloc _)
  have b3 := show Blk W0 (w.heap.size + 1 + 1) zeroPtCells 93 from hW0 ▸ (by simpa using Blk.new ((w.alloc (.cells (nodeCells t kv).toArray 39)).alloc (.cells zeroPtCells.toArray 93)) zeroPtCells 93)
  have hsz : w.heap.size + 3 ≤ W0.heap.size := by rw [← hW0]; simp
  have HST := Lib.hid (show PaSt w w.heap.size W0 (ptOf (t.kids.take 0)) (.slice none 0 0) (.slice none 0 0) (.slice none 0 0) from ⟨HB0.out, b2, b3, KAt.nil _ _ _, FRow.nil _ _ _, FRow.nil _ _ _, (fun g h => by simp [Value.ownBlock] at h), hsz⟩)
  have c4 : W0.cell? ⟨w.heap.size, 4, none⟩ = some kv := b1.cell 4
  have HK := Lib.hid hk0
  obtain ⟨ka, kc, rfl⟩ := hk0.len
  unfold zeroPtCells nodeCells at hW0
  clear b1 b2 b3 hk
  unfold NodeV
  go_enter Tryd.func36, Tryd.ntmps36
  go_upto_region 2 with fail
  try rw [hW0]
  clear hW0
  go_wp2_with fail
  go_loopw [9] (fun i wr => ∃ k : Nat, k ≤ t.kids.length ∧ i = .int .i64 k ∧ ∃ sv fv cv, PaSt w w.heap.size wr (ptOf (t.kids.take k)) sv fv cv) (fun i _ => t.kids.length - (intOf i).toNat)
  case atStart => exact ⟨0, by omega, rfl, _, _, _, HST.out⟩
  case round =>
    obtain ⟨k, hkk, rfl, sv, fv, cv, hst⟩ := hrel
    by_cases hlt : k < t.kids.length
    · obtain ⟨tk, htk⟩ : ∃ tk, t.kids[k]? = some tk := ⟨_, List.getElem?_eq_getElem hlt⟩
      obtain ⟨g, cap, hsl, hgl, hcap, hcm, hget⟩ := (HK.out.form).resolve_left fun h => by rw [h.2] at hlt; simp at hlt
      obtain ⟨rfl, rfl⟩ : ka = some ⟨g, 0, none⟩ ∧ kc = cap := by simpa using hsl
      obtain ⟨u, hr, hu⟩ := hget k tk htk
      have HR := Lib.hid (rangeAt_below hr hst.b hgl)
      have HTU := Lib.hid ((hu.below hst.b).alloc (.cells (nodeCells tk u).toArray 39))
      have hu1 := hu.kat.one
      have HSN := Lib.hid (show ptOf (t.kids.take (k + 1)) = ⟨bif tk.kind == 2 then tk else (ptOf (t.kids.take k)).sort, bif tk.kind == 3 then (ptOf (t.kids.take k)).fields ++ [tk] else (ptOf (t.kids.take k)).fields, bif tk.kind == 4 then (ptOf (t.kids.take k)).facts ++ [tk] else (ptOf (t.kids.take k)).facts⟩ by rw [List.take_add_one, htk, Option.toList_some, ptOf_snoc])
      generalize hp : ptOf (t.kids.take k) = p at *
      have HPL := Lib.hid (show p.fields.length ≤ 4096 ∧ p.facts.length ≤ 4096 from by
        subst hp
        unfold ptOf
        have h1 := List.length_filter_le (fun x : T => x.kind == 3) (t.kids.take k)
        have h2 := List.length_filter_le (fun x : T => x.kind == 4) (t.kids.take k)
        simp only [List.length_take] at h1 h2 ⊢
        omega)
      obtain ⟨W1, hW1⟩ : ∃ W, wr.alloc (.cells (nodeCells tk u).toArray 39) = W := ⟨_, rfl⟩
      have HS1 := Lib.hid (show PaSt w w.heap.size W1 p sv fv cv from hW1 ▸ hst.alloc _)
      have HB5 := Lib.hid (show Blk W1 wr.heap.size (nodeCells tk u) 39 from hW1 ▸ Blk.new wr _ _)
      have hc0 : W1.cell? ⟨wr.heap.size, 0, none⟩ = some (.int .i64 tk.kind) := HB5.out.cell 0
      rw [hW1] at HTU
      have hgn : w.heap.size + 3 ≤ wr.heap.size := hst.lt
      have hn5 : (nodeCells tk u).length = 5 := rfl
      have p5 : W1.cell? ⟨w.heap.size + 1 + 1, 5, none⟩ = some fv := HS1.out.q.cell 5
      have p6 : W1.cell? ⟨w.heap.size + 1 + 1, 6, none⟩ = some cv := HS1.out.q.cell 6
      clear hget hr hu hst hsl hp htk
      cases h2 : tk.kind == 2
      · cases h3 : tk.kind == 3
        · cases h4 : tk.kind == 4
          · have HN2 := Lib.hid (HSN.out.trans (show _ = p by rw [h2, h3, h4]; rfl))
            go_wp2_with (first
              | ((with_reducible refine at_ld 39 (.tmp 11) ?_); refine wpList_load_mid rfl 39 (.tmp 11) rfl g (k * 5) rfl (nodeCells tk u) _ HR.out Tryd.underlying39 rfl Tryd.sizeNode ?_)
              | ((with_reducible refine at_st 39 (.tmp 5) ?_); refine wpList_store_new rfl 39 (.tmp 5) (.tmp 12) rfl (nodeCells tk u) (old := zeroNodeCells) rfl rfl Tryd.sizeNode rfl (nodeCells_one _ _ hu1) ?_; rw [hW1]))
            go_roundw
            case rel => exact ⟨k + 1, by omega, by go_num, _, _, _, by rw [HN2.out]; exact HS1.out⟩
            case measure => simp [intOf]; omega
          · have HN2 := Lib.hid (HSN.out.trans (show _ = (⟨p.sort, p.fields, p.facts ++ [tk]⟩ : Pt) by
              rw [h2, h3, h4]; rfl))
            have HSA := Lib.hid (HS1.out.alloc (.cells (nodeCells tk u).toArray 39))
            have HLN := Lib.hid (Blk.new W1 (nodeCells tk u) 39)
            go_wp2_with (first
              | ((with_reducible refine at_ld 39 (.tmp 11) ?_); refine wpList_load_mid rfl 39 (.tmp 11) rfl g (k * 5) rfl (nodeCells tk u) _ HR.out Tryd.underlying39 rfl Tryd.sizeNode ?_)
              | ((with_reducible refine at_st 39 (.tmp 5) ?_); refine wpList_store_new rfl 39 (.tmp 5) (.tmp 12) rfl (nodeCells tk u) (old := zeroNodeCells) rfl rfl Tryd.sizeNode rfl (nodeCells_one _ _ hu1) ?_; rw [hW1])
              | ((with_reducible refine at_ld 39 (.tmp 5) ?_); refine wpList_load_blk rfl 39 (.tmp 5) rfl wr.heap.size (nodeCells tk u) rfl HB5.out Tryd.underlying39 rfl Tryd.sizeNode ?_)
              | (at_builtin; refine wpList_append_frow rfl (.tmp 30) (.tmp 32) rfl I rfl HSA.out.c (HTU.out.alloc _) rfl HLN.out HPL.out.2 (by omega) HSA.out.lt ?_))
            intro v' w' hf hg hbk
            obtain ⟨va, vn, vc, rfl⟩ : ∃ a n c, v' = .slice a n c := hf.slice.elim fun a h => h.elim fun c h => ⟨a, _, c, h⟩
            have HS2 := Lib.hid (HSA.out.addC hg hf (hbk.imp_right fun h => h.trans (by simp)))
            have HQ := Lib.hid (HSA.out.q.grown hg (fun e => by have := (HSA.out.c.lt e.symm).1; omega))
            have p6 : w'.cell? ⟨w.heap.size + 1 + 1, 6, none⟩ = some cv := HQ.out.cell 6
            have hfr : w'.frozen? ⟨w.heap.size + 1 + 1, 6, none⟩ = false := (HQ.out.there 6 1 (by show 6 + 1 ≤ 7; omega) 0 (by omega)).2
            clear hf hg hbk
            go_wp2
            go_roundw
            case rel => exact ⟨k + 1, by omega, by go_num, _, _, _, by rw [HN2.out]; exact HS2.out⟩
            case measure => simp [intOf]; omega
        · have HN2 := Lib.hid (HSN.out.trans (show _ = (⟨p.sort, p.fields ++ [tk], p.facts⟩ : Pt) by
            have h4 : (tk.kind == 4) = false := by rw [beq_iff_eq.1 h3]; rfl
            rw [h2, h3, h4]; rfl))
          have HSA := Lib.hid (HS1.out.alloc (.cells (nodeCells tk u).toArray 39))
          have HLN := Lib.hid (Blk.new W1 (nodeCells tk u) 39)
          go_wp2_with (first
            | ((with_reducible refine at_ld 39 (.tmp 11) ?_); refine wpList_load_mid rfl 39 (.tmp 11) rfl g (k * 5) rfl (nodeCells tk u) _ HR.out Tryd.underlying39 rfl Tryd.sizeNode ?_)
            | ((with_reducible refine at_st 39 (.tmp 5) ?_); refine wpList_store_new rfl 39 (.tmp 5) (.tmp 12) rfl (nodeCells tk u) (old := zeroNodeCells) rfl rfl Tryd.sizeNode rfl (nodeCells_one _ _ hu1) ?_; rw [hW1])
            | ((with_reducible refine at_ld 39 (.tmp 5) ?_); refine wpList_load_blk rfl 39 (.tmp 5) rfl wr.heap.size (nodeCells tk u) rfl HB5.out Tryd.underlying39 rfl Tryd.sizeNode ?_)
            | (at_builtin; refine wpList_append_frow rfl (.tmp 22) (.tmp 24) rfl I rfl HSA.out.f (HTU.out.alloc _) rfl HLN.out HPL.out.1 (by omega) HSA.out.lt ?_))
          intro v' w' hf hg hbk
          obtain ⟨va, vn, vc, rfl⟩ : ∃ a n c, v' = .slice a n c := hf.slice.elim fun a h => h.elim fun c h => ⟨a, _, c, h⟩
          have HS2 := Lib.hid (HSA.out.addF hg hf (hbk.imp_right fun h => h.trans (by simp)))
          have HQ := Lib.hid (HSA.out.q.grown hg (fun e => by have := (HSA.out.f.lt e.symm).1; omega))
          have p5 : w'.cell? ⟨w.heap.size + 1 + 1, 5, none⟩ = some fv := HQ.out.cell 5
          have hfr : w'.frozen? ⟨w.heap.size + 1 + 1, 5, none⟩ = false := (HQ.out.there 5 1 (by show 5 + 1 ≤ 7; omega) 0 (by omega)).2
          clear hf hg hbk
          go_wp2
          go_roundw
          case rel => exact ⟨k + 1, by omega, by go_num, _, _, _, by rw [HN2.out]; exact HS2.out⟩
          case measure => simp [intOf]; omega
      · have HN2 := Lib.hid (HSN.out.trans (show _ = (⟨tk, p.fields, p.facts⟩ : Pt) by
          have h3 : (tk.kind == 3) = false := by rw [beq_iff_eq.1 h2]; rfl
          have h4 : (tk.kind == 4) = false := by rw [beq_iff_eq.1 h2]; rfl
          rw [h2, h3, h4]; rfl))
        have HS2 := Lib.hid (HS1.out.set (p' := ⟨tk, p.fields, p.facts⟩) (sv' := u) (fv' := fv) (cv' := cv) HTU.out.kat HS1.out.f HS1.out.c HS1.out.ne)
        have HEQ := Lib.hid (setCells_blk (nodeCells tk u) 0 W1 (ptCells p sv fv cv) HS1.out.q)
        go_wp2_with (first
          | ((with_reducible refine at_ld 39 (.tmp 11) ?_); refine wpList_load_mid rfl 39 (.tmp 11) rfl g (k * 5) rfl (nodeCells tk u) _ HR.out Tryd.underlying39 rfl Tryd.sizeNode ?_)
          | ((with_reducible refine at_st 39 (.tmp 5) ?_); refine wpList_store_new rfl 39 (.tmp 5) (.tmp 12) rfl (nodeCells tk u) (old := zeroNodeCells) rfl rfl Tryd.sizeNode rfl (nodeCells_one _ _ hu1) ?_; rw [hW1])
          | ((with_reducible refine at_ld 39 (.tmp 5) ?_); refine wpList_load_blk rfl 39 (.tmp 5) rfl wr.heap.size (nodeCells tk u) rfl HB5.out Tryd.underlying39 rfl Tryd.sizeNode ?_)
          | ((with_reducible refine at_st 39 (.tmp 18) ?_); refine wpList_store_mid rfl 39 (.tmp 18) (.tmp 17) rfl (w.heap.size + 1 + 1) 0 (nodeCells tk u).toArray rfl rfl (HS1.out.q.there 0 5 (by show 0 + 5 ≤ 7; omega)) Tryd.sizeNode (all_oneCell_toArray (nodeCells_one _ _ hu1)) ?_; rw [List.toList_toArray, HEQ.out]))
        go_roundw
        case rel => exact ⟨k + 1, by omega, by go_num, _, _, _, by rw [HN2.out]; exact HS2.out⟩
        case measure => simp [intOf]; omega
    · obtain rfl : k = t.kids.length := by omega
      rw [List.take_of_length_le (Nat.le_refl _)] at hst
      have hZ := hst.z
      have hQ := hst.q
      have HST2 := Lib.hid hst
      have hone : ∀ y ∈ ptCells (ptOf t.kids) sv fv cv, y.oneCell' = true := by
        intro y hy
        simp only [ptCells, List.mem_cons, List.not_mem_nil, or_false] at hy
        rcases hy with rfl | rfl | rfl | rfl | rfl | rfl | rfl
        all_goals first | rfl | exact hst.s.one | exact hst.f.one | exact hst.c.one
      have HONE := Lib.hid hone
      clear hst hone
      go_wp2_with (first
        | ((with_reducible refine at_ld 93 (.tmp 3) ?_); refine wpList_load_blk rfl 93 (.tmp 3) rfl (w.heap.size + 1 + 1) (ptCells (ptOf t.kids) sv fv cv) rfl hQ Tryd.underlying93 rfl Tryd.sizeParts ?_)
        | ((with_reducible refine at_st 93 (.tmp 2) ?_); refine wpList_store_blk rfl 93 (.tmp 2) (.tmp 36) rfl (w.heap.size + 1) (ptCells (ptOf t.kids) sv fv cv) rfl rfl hZ Tryd.sizeParts rfl HONE.out ?_))
      have hst := HST2.out
      exact ret_blk (cs := ptCells (ptOf t.kids) sv fv cv) Tryd.results36 rfl hZ Tryd.underlying93 rfl Tryd.sizeParts rfl
        ⟨sv, fv, cv, rfl, ⟨(hst.s.setRow _ _ (fun b hb => by omega)).mono fun _ _ _ => trivial, ((hst.f.row _ _ (by omega) (by omega)).kat (by omega)).nsv, ((hst.c.row _ _ (by omega) (by omega)).kat (by omega)).nsv⟩, Below.row hst.b (by omega) _⟩

end Go.Proofs.YtdkdidgeaalcgaaDoor
