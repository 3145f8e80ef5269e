/- Trees in memory: what value stands for a tree (NodeV, TAt), that it stays where no block of it is changed, and how a method of the parser ends that hands back a node. A row of trees in memory, read tree by tree. Nothing of the program is walked here. A region that draws its order, when all but a chain of its operations yield in every world that meets a condition S: they are taken first, then the chain is walked in its one order. S is shown behind each operation of the chain but the last one (which may overwrite what S speaks of). Nothing of the program is walked here. -/
import Derived.Test.YtdkdidgeaalcgaaDoorP04
import Derived.Test.YtdkdidgeaalcgaaDoorP03
import Derived.OrdersHeld
import Derived.Deep.RegionHeld
namespace Go.Proofs.YtdkdidgeaalcgaaDoor
section
open Go.RowKit

def nodeCells (t : T) (v : Value) : List Value := [.int .i64 t.kind, .string t.text, .int .i64 t.num, .int .i64 t.place, v]
def NodeV (t : T) (v : Value) : Value := .agg #[.int .i64 t.kind, .string t.text, .int .i64 t.num, .int .i64 t.place, v]

def rowCells : List T → List Value → List Value
  | t :: ts, v :: vs => nodeCells t v ++ rowCells ts vs
  | _, _ => []

/- TAt w t S v: the slice v holds the kids of the tree t, in blocks that S allows; the kids' own kids lie in other blocks than theirs. (e: the type of nodes.) -/
mutual
def TAt (e : TypeId) (w : World) : T → (Nat → Prop) → Value → Prop
  | .mk _ _ _ _ ks, S, v => ∃ vs, w.ownsRow 0 e 5 v ks.length (rowCells ks vs) ∧ (∀ g, v.ownBlock = some g → S g) ∧ TsAt e w ks (fun b => S b ∧ v.ownBlock ≠ some b) vs
def TsAt (e : TypeId) (w : World) : List T → (Nat → Prop) → List Value → Prop
  | [], _, vs => vs = []
  | t :: ts, S, vs => ∃ v vs', vs = v :: vs' ∧ TAt e w t S v ∧ TsAt e w ts S vs'
end

/- The list form: a slice that holds these trees. -/
def KAt (e : TypeId) (w : World) (ks : List T) (S : Nat → Prop) (v : Value) : Prop :=
  ∃ vs, w.ownsRow 0 e 5 v ks.length (rowCells ks vs) ∧ (∀ g, v.ownBlock = some g → S g) ∧ TsAt e w ks (fun b => S b ∧ v.ownBlock ≠ some b) vs

theorem TAt.kat {e : TypeId} {w : World} {t : T} {S : Nat → Prop} {v : Value} (h : TAt e w t S v) : KAt e w t.kids S v := by
  cases t with
  | mk k s n p ks => unfold TAt at h; exact h
theorem KAt.tat {e : TypeId} {w : World} {ks : List T} {S : Nat → Prop} {v : Value} (h : KAt e w ks S v) (k : Int) (s : ByteArray) (n : Int) (p : Nat) : TAt e w (.mk k s n p ks) S v := by
  unfold TAt; exact h
theorem TAt.of_kids {e : TypeId} {w : World} {t : T} {S : Nat → Prop} {v : Value} (h : KAt e w t.kids S v) : TAt e w t S v := by
  cases t with
  | mk k s n p ks => unfold TAt; exact h

theorem KAt.nil (e : TypeId) (w : World) (S : Nat → Prop) : KAt e w [] S (.slice none 0 0) :=
  ⟨[], World.ownsRow_nil _ _ _ _, (fun g h => by simp [Value.ownBlock] at h), by unfold TsAt; rfl⟩

mutual
theorem TAt.keep {e : TypeId} {w w' : World} : ∀ (t : T) {S S' : Nat → Prop} {v : Value}, TAt e w t S v → (∀ b, S b → b < w.heap.size → S' b ∧ w'.heap[b]? = w.heap[b]?) → TAt e w' t S' v
  | .mk _ _ _ _ ks, S, S', v, h, hk => by
    unfold TAt at h ⊢
    obtain ⟨vs, ho, hS, hts⟩ := h
    refine ⟨vs, ⟨ho.1, ?_⟩, fun g hg => (hk g (hS g hg) (ho.lt g hg).2).1, TsAt.keep ks hts fun b hb hlt => ⟨⟨(hk b hb.1 hlt).1, hb.2⟩, (hk b hb.1 hlt).2⟩⟩
    rcases ho.2 with hn | ⟨g, cap, cur, rfl, hb, hg, rest⟩
    · exact .inl hn
    · exact .inr ⟨g, cap, cur, rfl, hb, (hk g (hS g rfl) (Array.getElem?_eq_some_iff.1 hg).1).2.trans hg, rest⟩
theorem TsAt.keep {e : TypeId} {w w' : World} : ∀ (ts : List T) {S S' : Nat → Prop} {vs : List Value}, TsAt e w ts S vs → (∀ b, S b → b < w.heap.size → S' b ∧ w'.heap[b]? = w.heap[b]?) → TsAt e w' ts S' vs
  | [], _, _, _, h, _ => by unfold TsAt at h ⊢; exact h
  | t :: ts, S, S', vs, h, hk => by
    unfold TsAt at h ⊢
    obtain ⟨v, vs', e, ht, hts⟩ := h
    exact ⟨v, vs', e, TAt.keep t ht hk, TsAt.keep ts hts hk⟩
end

section
variable {e : TypeId} {w w' : World} {t : T} {ks : List T} {S S' : Nat → Prop} {v : Value} {pb : Nat}

theorem TAt.mono (h : TAt e w t S v) (hS : ∀ b, S b → b < w.heap.size → S' b) : TAt e w t S' v := TAt.keep t h fun b hb hl => ⟨hS b hb hl, rfl⟩
theorem TAt.kp (h : TAt e w t S v) (hk : Kp pb w w') (hS : ∀ b, S b → b ≠ pb) : TAt e w' t S v :=
  TAt.keep t h fun b hb hl => ⟨hb, hk.block b hl (by simpa using hS b hb)⟩
theorem TAt.below (h : TAt e w t S v) (hk : Below w.heap.size w w') : TAt e w' t S v := TAt.keep t h fun b hb hl => ⟨hb, hk.block b hl⟩
theorem TAt.alloc (h : TAt e w t S v) (o : Obj) : TAt e (w.alloc o) t S v := TAt.keep t h fun b hb hl => ⟨hb, Below.heap_alloc w o b hl⟩
theorem TAt.drew (h : TAt e w t S v) : TAt e w.drew t S v := TAt.keep t h fun _ hb _ => ⟨hb, rfl⟩
theorem TAt.setRow (h : TAt e w t S v) (g : Nat) (cs : Array Value) (hS : ∀ b, S b → b ≠ g) : TAt e (w.setRow g cs) t S v :=
  TAt.keep t h fun b hb _ => ⟨hb, setRow_other w g b cs (hS b hb)⟩
theorem TAt.setCell (h : TAt e w t S v) (a : Addr) (x : Value) (hS : ∀ b, S b → b ≠ a.block) : TAt e (w.setCell a x) t S v :=
  TAt.keep t h fun b hb _ => ⟨hb, Below.heap_setCell w a x b (hS b hb)⟩
theorem KAt.keep (h : KAt e w ks S v) (hk : ∀ b, S b → b < w.heap.size → S' b ∧ w'.heap[b]? = w.heap[b]?) : KAt e w' ks S' v :=
  (TAt.keep _ (h.tat 0 e0 0 0) hk).kat
theorem KAt.kp (h : KAt e w ks S v) (hk : Kp pb w w') (hS : ∀ b, S b → b ≠ pb) : KAt e w' ks S v := h.keep fun b hb hl => ⟨hb, hk.block b hl (by simpa using hS b hb)⟩
theorem KAt.drew (h : KAt e w ks S v) : KAt e w.drew ks S v := h.keep fun _ hb _ => ⟨hb, rfl⟩
theorem KAt.below (h : KAt e w ks S v) (hk : Below w.heap.size w w') : KAt e w' ks S v := h.keep fun b hb hl => ⟨hb, hk.block b hl⟩
theorem KAt.alloc (h : KAt e w ks S v) (o : Obj) : KAt e (w.alloc o) ks S v := h.keep fun b hb hl => ⟨hb, Below.heap_alloc w o b hl⟩
theorem KAt.setCell (h : KAt e w ks S v) (a : Addr) (x : Value) (hS : ∀ b, S b → b ≠ a.block) : KAt e (w.setCell a x) ks S v := h.keep fun b hb _ => ⟨hb, Below.heap_setCell w a x b (hS b hb)⟩
theorem KAt.setRow (h : KAt e w ks S v) (g : Nat) (cs : Array Value) (hS : ∀ b, S b → b ≠ g) : KAt e (w.setRow g cs) ks S v := h.keep fun b hb _ => ⟨hb, setRow_other w g b cs (hS b hb)⟩
theorem KAt.mono (h : KAt e w ks S v) (hS : ∀ b, S b → b < w.heap.size → S' b) : KAt e w ks S' v := h.keep fun b hb hl => ⟨hS b hb hl, rfl⟩
end

theorem nodeCells_setNum (t : T) (v : Value) (n : Int) : (nodeCells t v).set 2 (.int .i64 n) = nodeCells (t.setNum n) v := by cases t; rfl
theorem nodeCells_kids (t : T) (v x : Value) (ks : List T) : (nodeCells t v).set 4 x = nodeCells (.mk t.kind t.text t.num t.place ks) x := by cases t; rfl

/- Does the next operation load a value of that type from that place? -/
theorem at_ld (ty : TypeId) (x : Operand) {P : Program} {ops : Array Oper} {rest : List Oper} {dst : Option Tmp} {tt : TypeId} {ps : String} {af : Array Edge} {a : Act} {w : World} {Q : Exit → Act → World → Prop}
    (h : wpList P ops Q (⟨dst, .load ty x, tt, ps, af, none⟩ :: rest) a w) : wpList P ops Q (⟨dst, .load ty x, tt, ps, af, none⟩ :: rest) a w := h
/- A load of a whole block. -/
theorem wpList_load_blk {P : Program} {ops : Array Oper} {rest : List Oper} {o : Oper} {a : Act} {w : World} {Q : Exit → Act → World → Prop} (hgd : o.guard = none) (ty : TypeId) (x : Operand) (ho : o.op = .load ty x)
    (g : Nat) (cells : List Value) (hx : a.eval x = .pointer (some ⟨g, 0, none⟩)) {t : TypeId} (hg : Blk w g cells t) {d : TypeDesc} (hu : P.underlying ty = some d) (hd : d.isRow = true) (hi : (P.info? ty).map (·.size) = some cells.length)
    (h : wpList P ops Q rest (a.put o.dst (.agg cells.toArray)) w) : wpList P ops Q (o :: rest) a w :=
  wpList_load_mid hgd ty x ho g 0 hx cells d (fun j v hj => by rw [Nat.zero_add, hg.cell j]; exact hj) hu hd hi h

theorem nodeCells_one (t : T) (v : Value) (hv : v.oneCell' = true) : ∀ u ∈ nodeCells t v, u.oneCell' = true := by
  intro u hu
  simp only [nodeCells, List.mem_cons, List.not_mem_nil, or_false] at hu
  rcases hu with rfl | rfl | rfl | rfl | rfl
  · rfl
  · rfl
  · rfl
  · rfl
  · exact hv

theorem KAt.one {e : TypeId} {w : World} {ks : List T} {S : Nat → Prop} {v : Value} (h : KAt e w ks S v) : v.oneCell' = true := by
  obtain ⟨_, ho, _⟩ := h
  rcases ho.2 with ⟨rfl, _⟩ | ⟨_, _, _, rfl, _⟩ <;> rfl

/- A new slice literal that holds one tree, or two. -/
theorem KAt.lit1 {e : TypeId} {w : World} {t : T} {S : Nat → Prop} {v : Value} (h : TAt e w t S v) (hS : S w.heap.size) :
    KAt e (w.alloc (.cells (nodeCells t v).toArray e)) [t] S (.slice (some ⟨w.heap.size, 0, none⟩) 1 1) := by
  refine ⟨[v], ⟨rfl, .inr ⟨w.heap.size, 1, _, rfl, Nat.zero_le _, heap_alloc_new w _, Nat.le_refl _, by unfold maxLen; omega, rfl, rfl⟩⟩, fun g hg => ?_, ?_⟩
  · simp only [Value.ownBlock, Option.some.injEq] at hg; subst hg; exact hS
  · unfold TsAt
    refine ⟨v, [], rfl, ?_, by unfold TsAt; rfl⟩
    refine TAt.keep t h fun b hb hl => ⟨⟨hb, ?_⟩, Below.heap_alloc w _ b hl⟩
    simp only [Value.ownBlock, ne_eq, Option.some.injEq]
    omega
theorem KAt.lit2 {e : TypeId} {w : World} {t u : T} {S : Nat → Prop} {v x : Value} (h : TAt e w t S v) (h' : TAt e w u S x) (hS : S w.heap.size) :
    KAt e (w.alloc (.cells (nodeCells t v ++ nodeCells u x).toArray e)) [t, u] S (.slice (some ⟨w.heap.size, 0, none⟩) 2 2) := by
  refine ⟨[v, x], ⟨rfl, .inr ⟨w.heap.size, 2, _, rfl, Nat.zero_le _, heap_alloc_new w _, Nat.le_refl _, by unfold maxLen; omega, rfl, rfl⟩⟩, fun g hg => ?_, ?_⟩
  · simp only [Value.ownBlock, Option.some.injEq] at hg; subst hg; exact hS
  · have keep : ∀ b, S b → b < w.heap.size → (S b ∧ (Value.slice (some ⟨w.heap.size, 0, none⟩) 2 2).ownBlock ≠ some b) ∧ (w.alloc (.cells (nodeCells t v ++ nodeCells u x).toArray e)).heap[b]? = w.heap[b]? := fun b hb hl => by
      refine ⟨⟨hb, ?_⟩, Below.heap_alloc w _ b hl⟩
      simp only [Value.ownBlock, ne_eq, Option.some.injEq]
      omega
    unfold TsAt
    refine ⟨v, [x], rfl, TAt.keep t h keep, ?_⟩
    unfold TsAt
    exact ⟨x, [], rfl, TAt.keep u h' keep, by unfold TsAt; rfl⟩

/- How things stand in the middle of a method: w is the world in which it began, W the world now. -/
structure Run (E : Env) (w W : World) (l : List Tok) (d : Nat) : Prop where
  kp : Kp E.pb w W
  st : PSt E W l d
  lo : E.pb < w.heap.size
  lt : E.tb < w.heap.size

section
variable {E : Env} {w W W' : World} {l l' : List Tok} {d d' : Nat}
theorem Run.start (h : PSt E w l d) : Run E w w l d := ⟨.refl _ _, h, h.plt, h.tlt⟩
theorem Run.alloc (h : Run E w W l d) (o : Obj) : Run E w (W.alloc o) l d := ⟨h.kp.alloc o, h.st.alloc o, h.lo, h.lt⟩
theorem Run.below (h : Run E w W l d) (hb : Below W.heap.size W W') : Run E w W' l d := ⟨h.kp.trans (.of_below hb), h.st.below hb, h.lo, h.lt⟩
theorem Run.call (h : Run E w W l d) (hk : Kp E.pb W W') (hs : PSt E W' l' d') : Run E w W' l' d' := ⟨h.kp.trans hk, hs, h.lo, h.lt⟩
theorem Run.setRow (h : Run E w W l d) {g : Nat} (hg : w.heap.size ≤ g) (cs : Array Value) : Run E w (W.setRow g cs) l d :=
  ⟨h.kp.setRow hg cs, h.st.setRow (by have := h.lo; omega) (by have := h.lt; omega) cs, h.lo, h.lt⟩
theorem Run.setCell (h : Run E w W l d) {a : Addr} (hg : w.heap.size ≤ a.block) (v : Value) : Run E w (W.setCell a v) l d :=
  ⟨h.kp.setNew hg v, h.st.same (by simp [World.setCell]) (Below.heap_setCell _ _ _ _ (by have := h.lo; omega)) (Below.heap_setCell _ _ _ _ (by have := h.lt; omega)), h.lo, h.lt⟩
theorem Run.size (h : Run E w W l d) : w.heap.size ≤ W.heap.size := h.kp.size
end

def zeroNodeCells : List Value := [.int .i64 0, .string ⟨#[]⟩, .int .i64 0, .int .i64 0, .slice none 0 0]

theorem cond_t {α : Type} {b : Bool} (h : b = true) (x y : α) : (bif b then x else y) = x := by rw [h]; rfl
theorem cond_f {α : Type} {b : Bool} (h : b = false) (x y : α) : (bif b then x else y) = y := by rw [h]; rfl

/- What a call has made: newer than x, and there behind the call. -/
theorem TAt.weak {e : TypeId} {w w' : World} {t : T} {v : Value} {x : Nat} (h : TAt e w' t (fun b => w.heap.size ≤ b) v) (hx : x < w.heap.size) : TAt e w' t (fun b => x < b ∧ b < w'.heap.size) v := h.mono fun b hb hl => ⟨by omega, hl⟩
theorem KAt.weak {e : TypeId} {w w' : World} {ks : List T} {v : Value} {x : Nat} (h : KAt e w' ks (fun b => w.heap.size ≤ b) v) (hx : x < w.heap.size) : KAt e w' ks (fun b => x < b ∧ b < w'.heap.size) v := h.mono fun b hb hl => ⟨by omega, hl⟩
theorem TAt.lo {e : TypeId} {w : World} {t : T} {v : Value} {x y : Nat} (h : TAt e w t (fun b => x < b ∧ b < y) v) : TAt e w t (fun b => x < b) v := h.mono fun _ hb _ => hb.1
theorem KAt.lo {e : TypeId} {w : World} {ks : List T} {v : Value} {x y : Nat} (h : KAt e w ks (fun b => x < b ∧ b < y) v) : KAt e w ks (fun b => x < b) v := h.mono fun _ hb _ => hb.1

def VNode (W : World) (lo : Nat) (t : T) (v : Value) : Prop := ∃ kv, v = NodeV t kv ∧ TAt 39 W t (fun b => lo ≤ b) kv
def VKids (W : World) (lo : Nat) (ks : List T) (v : Value) : Prop := KAt 39 W ks (fun b => lo ≤ b) v

theorem Run.err {α : Type} {V : World → Nat → α → Value → Prop} {E : Env} {w W : World} {l : List Tok} {d : Nat} {r : R α} {p : Nat} {c : Int} (hk : Kp E.pb w W) (hr : r = .error (p, c)) (hc : c = 20 ∨ c = 21) :
    PPost V E w l d r (.panicked [{ v := faultV p c, recovered := false }]) W := .mk_err hr rfl hk hc

theorem Run.node {E : Env} {w W : World} {l l' : List Tok} {d : Nat} {r : R T} {t : T} {v : Value} (h : Run E w W l' d) (ht : TAt 39 W t (fun b => w.heap.size < b) v) (hr : r = .ok (t, l')) (hl : l'.length < l.length) :
    PPost VNode E w l d r (.returned (NodeV t v)) (W.setRow w.heap.size (nodeCells t v).toArray) :=
  .mk_ok hr rfl ⟨v, rfl, (ht.setRow _ _ (fun b hb => by omega)).mono (fun b hb _ => by omega)⟩ (h.setRow (Nat.le_refl _) _).st hl (h.setRow (Nat.le_refl _) _).kp

/- What a function hands back whose one result lies in a block. -/
theorem results_blk {P : Program} {fn : Func} {s : Tmp} {ty t : TypeId} (h : fn.results = #[.cell s ty]) {tmps : Array Value} {W : World} {g : Nat} {cs : List Value} {d : TypeDesc} (hs : tmps.getD s undef = .pointer (some ⟨g, 0, none⟩))
    (hb : Blk W g cs t) (hu : P.underlying ty = some d) (hd : d.isRow = true) (hi : (P.info? ty).map (·.size) = some cs.length) : (results fn tmps).run P W = .ok (.agg cs.toArray) W := by
  have hl := run_loadVar_mid (P := P) W g 0 ty cs d (fun j v hj => by rw [Nat.zero_add, hb.cell j]; exact hj) hu hd hi
  have hs' : tmps[s]?.getD undef = .pointer (some ⟨g, 0, none⟩) := by rw [← hs]; simp
  simp [results, h, hs', asAddr, hl]

theorem ret_blk {P : Program} {fn : Func} {s : Tmp} {ty t : TypeId} (h : fn.results = #[.cell s ty]) {a : Act} {W : World} {g : Nat} {old cs : List Value} {d : TypeDesc} {R : Ending → World → Prop} (hs : a.tmps.getD s undef = .pointer (some ⟨g, 0, none⟩))
    (hb : Blk W g old t) (hu : P.underlying ty = some d) (hd : d.isRow = true) (hi : (P.info? ty).map (·.size) = some cs.length) (hdf : a.defers = []) (hR : R (.returned (.agg cs.toArray)) (W.setRow g cs.toArray)) :
    bodyPost P fn R .ret (a.put none undef) (W.setRow g cs.toArray) :=
  bodyPost_ret (results_blk h hs (hb.rowSame cs) hu hd hi) hdf hR

/- A field of a struct that is no struct itself. -/
theorem run_field_agg {P : Program} {t : TypeId} {fs : Array Field} {i : Nat} {f : Field} {cs : Array Value} {v : Value} (ht : P.underlying t = some (.struct fs)) (hf : fs[i]? = some f) (he : ∀ w, (isAgg f.type).run P w = .ok false w)
    (hv : cs[f.offset]? = some v) (w : World) : (Instr.field t (.agg cs) i).run P w = .ok v w := by
  simp [Instr.field, run_underlying ht, hf, part, he, hv, asAgg]
theorem notAgg {P : Program} {t : TypeId} {d : TypeDesc} (h : P.underlying t = some d) (hd : d.isRow = false) (w : World) : (isAgg t).run P w = .ok false w := by
  unfold isAgg
  rw [Sem.run_bind, run_underlying h w]
  cases d <;> simp_all
set_option maxRecDepth 100000 in
theorem fldTok0 (a b c d : Value) (w : World) : (Instr.field 75 (.agg #[a, b, c, d]) 0).run Tryd.prog w = .ok a w := run_field_agg Tryd.underlying75 rfl (notAgg Tryd.underlying73 rfl) rfl w
set_option maxRecDepth 100000 in
theorem fldTok1 (a b c d : Value) (w : World) : (Instr.field 75 (.agg #[a, b, c, d]) 1).run Tryd.prog w = .ok b w := run_field_agg Tryd.underlying75 rfl (notAgg Tryd.underlying9 rfl) rfl w
set_option maxRecDepth 100000 in
theorem fldTok2 (a b c d : Value) (w : World) : (Instr.field 75 (.agg #[a, b, c, d]) 2).run Tryd.prog w = .ok c w := run_field_agg Tryd.underlying75 rfl (notAgg Tryd.underlying2 rfl) rfl w
set_option maxRecDepth 100000 in
theorem fldTok3 (a b c d : Value) (w : World) : (Instr.field 75 (.agg #[a, b, c, d]) 3).run Tryd.prog w = .ok d w := run_field_agg Tryd.underlying75 rfl (notAgg Tryd.underlying3 rfl) rfl w

theorem Tryd.sizeNode : (Tryd.prog.info? 39).map (·.size) = some 5 := by kernel_rfl
theorem Tryd.sizeTok : (Tryd.prog.info? 75).map (·.size) = some 4 := by kernel_rfl
end

section
open Go.RowKit

theorem rowCells_get : ∀ (ks : List T) (vs : List Value) (k : Nat) (t : T) (u : Value) (j : Nat), ks[k]? = some t → vs[k]? = some u → j < 5 → (rowCells ks vs)[k * 5 + j]? = (nodeCells t u)[j]?
  | [], _, k, t, u, j, h, _, _ => by simp at h
  | _ :: _, [], k, t, u, j, _, h, _ => by simp at h
  | a :: ks, b :: vs, 0, t, u, j, h, h', hj => by
    obtain rfl : a = t := by simpa using h
    obtain rfl : b = u := by simpa using h'
    rw [rowCells, Nat.zero_mul, Nat.zero_add, List.getElem?_append_left (by simpa [nodeCells] using hj)]
  | a :: ks, b :: vs, k + 1, t, u, j, h, h', hj => by
    rw [rowCells, List.getElem?_append_right (by simp [nodeCells]; omega)]
    have e : (k + 1) * 5 + j - (nodeCells a b).length = k * 5 + j := by simp [nodeCells]; omega
    rw [e]
    exact rowCells_get ks vs k t u j (by simpa using h) (by simpa using h') hj
theorem TsAt.get {e : TypeId} {w : World} : ∀ {ts : List T} {S : Nat → Prop} {vs : List Value}, TsAt e w ts S vs → ∀ {k : Nat} {t : T}, ts[k]? = some t → ∃ u, vs[k]? = some u ∧ TAt e w t S u
  | [], _, _, _, k, t, h => by simp at h
  | a :: ts, S, vs, h, 0, t, hk => by
    unfold TsAt at h
    obtain ⟨v, vs', rfl, ht, _⟩ := h
    obtain rfl : a = t := by simpa using hk
    exact ⟨v, rfl, ht⟩
  | a :: ts, S, vs, h, k + 1, t, hk => by
    unfold TsAt at h
    obtain ⟨v, vs', rfl, _, hts⟩ := h
    obtain ⟨u, hu, ht⟩ := TsAt.get hts (k := k) (t := t) (by simpa using hk)
    exact ⟨u, by simpa using hu, ht⟩

/- A slice of trees is nil and holds none, or lies in a block. -/
theorem KAt.form {e : TypeId} {w : World} {ks : List T} {S : Nat → Prop} {v : Value} (h : KAt e w ks S v) : (v = .slice none 0 0 ∧ ks = []) ∨ ∃ g cap, v = .slice (some ⟨g, 0, none⟩) ks.length cap ∧ g < w.heap.size ∧ ks.length ≤ cap ∧ cap ≤ maxLen ∧
    ∀ k t, ks[k]? = some t → ∃ u, w.rangeAt g (k * 5) (nodeCells t u) ∧ TAt e w t S u := by
  obtain ⟨vs, ho, hS, hts⟩ := h
  have ho' := ho
  rcases ho.2 with ⟨rfl, h0⟩ | ⟨g, cap, cur, rfl, hb, hg, hnc, hcm, hcs, htake⟩
  · exact .inl ⟨rfl, List.eq_nil_of_length_eq_zero h0⟩
  · refine .inr ⟨g, cap, rfl, (Array.getElem?_eq_some_iff.1 hg).1, hnc, hcm, fun k t hk => ?_⟩
    obtain ⟨u, hu, ht⟩ := TsAt.get hts hk
    refine ⟨u, fun j x hj => ?_, ht.mono fun b hb _ => hb.1⟩
    have hj5 : j < 5 := by have := (List.getElem?_eq_some_iff.1 hj).1; simpa [nodeCells] using this
    have hlt : k < ks.length := (List.getElem?_eq_some_iff.1 hk).1
    rw [ho'.cellAt (k * 5 + j) (by omega), rowCells_get ks vs k t u j hk hu hj5]
    exact hj
theorem rangeAt_below {w w' : World} {g o : Nat} {cs : List Value} (h : w.rangeAt g o cs) (hb : Below w.heap.size w w') (hg : g < w.heap.size) : w'.rangeAt g o cs := fun j v hj => (hb.cell (p := ⟨g, o + j, none⟩) hg).trans (h j v hj)

theorem sizes_take (ks : List T) (k : Nat) (t : T) (h : ks[k]? = some t) : sizes (ks.take (k + 1)) = sizes (ks.take k) + t.size := by
  have hlt := (List.getElem?_eq_some_iff.1 h).1
  rw [List.take_succ_eq_append_getElem hlt, sizes_append, sizes_cons, sizes_nil, (List.getElem?_eq_some_iff.1 h).2]
  omega
theorem sizes_mem : ∀ {ks : List T} {k : Nat} {t : T}, ks[k]? = some t → t.size ≤ sizes ks
  | [], k, t, h => by simp at h
  | a :: ks, 0, t, h => by
    obtain rfl : a = t := by simpa using h
    rw [sizes_cons]; omega
  | a :: ks, k + 1, t, h => by rw [sizes_cons]; have := sizes_mem (ks := ks) (k := k) (t := t) (by simpa using h); omega
theorem sizes_take_le (ks : List T) (k : Nat) : sizes (ks.take k) ≤ sizes ks := by
  have h := sizes_append (ks.take k) (ks.drop k)
  rw [List.take_append_drop] at h
  omega

theorem len_sizes : ∀ ks : List T, ks.length ≤ sizes ks
  | [] => by simp
  | a :: ks => by have := len_sizes ks; rw [sizes_cons]; cases a; rw [size_mk]; simp; omega

theorem kids_len (t : T) : t.kids.length ≤ t.size := by
  cases t with
  | mk k s n p ks => rw [size_mk]; have := len_sizes ks; show ks.length ≤ _; omega
end

section
open Go.RowKit

section
variable {P : Program} {ops : Array Oper} {Q : Exit → Act → World → Prop} {md : Region.Mode} {S : World → Prop}

/- Whatever order is picked from here on; and S holds behind each operation that leaves another one to come. -/
def AnyE (P : Program) (md : Region.Mode) (ops : Array Oper) (Q : Exit → Act → World → Prop) (S : World → Prop) : Nat → Array Bool → Act → World → Prop
  | 0, listed, a, w => Region.ready md ops listed = [] ∧ Q .normal a w
  | fuel + 1, listed, a, w =>
    (Region.ready md ops listed = [] → Q .normal a w) ∧
    ∀ i ∈ Region.ready md ops listed, wpOp P ops Q i (fun a' w' => (i + 1 ≠ ops.size → S w') ∧ AnyE P md ops Q S fuel (listed.setIfInBounds i true) a' w') a w

theorem AnyE.any : ∀ (fuel : Nat) (listed : Array Bool) (a : Act) (w : World), AnyE P md ops Q S fuel listed a w → wpAny P md ops Q fuel listed a w
  | 0, _, _, _, h => h
  | fuel + 1, _, _, _, h => ⟨h.1, fun i hi => wpOp_mono (fun a' w' h' => AnyE.any fuel _ a' w' h'.2) (h.2 i hi)⟩

/- Does the last operation wait for that one? -/
def lastWaits (md : Region.Mode) (ops : Array Oper) (i : Nat) : Bool :=
  match ops[ops.size - 1]? with
  | some o => o.after.any fun e => Region.binds md e && e.on == i
  | none => false

theorem AnyE.first {i : Nat} {oi : Oper} {v : Value} (hi : ops[i]? = some oi) (hlw : lastWaits md ops i = true) (hsel : ∀ (j : Nat) (o : Oper) cs b, ops[j]? = some o → o.op ≠ .select cs b)
    (hQ : ∀ c a w, Q (.panic c) (a.put oi.dst v) w → Q (.panic c) a w) :
    ∀ (fuel : Nat) (listed : Array Bool) (a : Act) (w : World),
      (∀ j oj, ops[j]? = some oj → j ≠ i → listed.getD j true = false → (∀ e ∈ oj.after, Region.binds md e = true → e.on ≠ i) → oi.apart ops oj = true) →
      i ∈ Region.ready md ops listed → YieldsIf P ops S oi v a → S w →
      AnyE P md ops Q S fuel (listed.setIfInBounds i true) (a.put oi.dst v) w → AnyE P md ops Q S (fuel + 1) listed a w := by
  intro fuel
  induction fuel with
  | zero =>
    intro listed a w _ hr hy hS H
    refine ⟨fun h => (by rw [h] at hr; cases hr), fun j hj => ?_⟩
    by_cases hji : j = i
    · subst hji; exact hy.wpOp hi hS ⟨fun _ => hS, H⟩
    · have := ready_mono hj hji
      rw [H.1] at this
      cases this
  | succ fuel ih =>
    intro listed a w hfree hr hy hS H
    refine ⟨fun h => (by rw [h] at hr; cases hr), fun j hj => ?_⟩
    by_cases hji : j = i
    · subst hji; exact hy.wpOp hi hS ⟨fun _ => hS, H⟩
    · have h0 := (mem_ready.1 hr).1
      have hun : (listed.setIfInBounds j true).getD i true = false := by rw [getD_set_ne true hji]; exact h0
      obtain ⟨hjun, oj, hoj, hall⟩ := mem_ready.1 hj
      have hnot : ∀ e ∈ oj.after, Region.binds md e = true → e.on ≠ i := fun e he hb heq => by
        have h1 := hall e he hb
        rw [heq] at h1
        rcases Nat.lt_or_ge i listed.size with h' | h'
        · simp [h'] at h0 h1; rw [h0] at h1; cases h1
        · simp [Array.getElem?_eq_none h'] at h1
      have hfree' : ∀ k ok, ops[k]? = some ok → k ≠ i → (listed.setIfInBounds j true).getD k true = false →
          (∀ e ∈ ok.after, Region.binds md e = true → e.on ≠ i) → oi.apart ops ok = true := fun k ok hk hki hunk hno => by
        refine hfree k ok hk hki ?_ hno
        by_cases hjk : j = k
        · subst hjk; exact hjun
        · rw [getD_set_ne true hjk] at hunk; exact hunk
      have h1 := H.2 j (ready_mono hj hji)
      have h2 := wpOp_putIf hoj (hfree j oj hoj hji hjun hnot) (fun cs b => hsel i oi cs b hi) (fun cs b => hsel j oj cs b hoj) hQ hy h1
      have hlast : j + 1 ≠ ops.size := fun he => by
        have hj' : ops.size - 1 = j := by omega
        unfold lastWaits at hlw
        rw [hj', hoj] at hlw
        obtain ⟨k, hk, hb⟩ := Array.any_eq_true.1 hlw
        simp only [Bool.and_eq_true, beq_iff_eq] at hb
        exact hnot _ (Array.getElem_mem hk) hb.1 hb.2
      refine wpOp_mono (fun a' w' h3 => ?_) h2
      have hS' : S w' := h3.2.1 hlast
      refine ⟨fun _ => hS', ih (listed.setIfInBounds j true) a' w' hfree' (ready_mono hr (Ne.symm hji)) h3.1 hS' ?_⟩
      rw [Array.setIfInBounds_comm _ _ hji]
      exact h3.2.2

/- Take number i first. -/
theorem AnyE.take {i : Nat} {oi : Oper} {v : Value} {fuel : Nat} {listed : Array Bool} {a : Act} {w : World} (hi : ops[i]? = some oi) (hlw : lastWaits md ops i = true)
    (hs : Region.noSelect ops = true) (hf : Region.free md ops listed i = true) (hr : (Region.ready md ops listed).contains i = true)
    (hQ : ∀ c a w, Q (.panic c) (a.put oi.dst v) w → Q (.panic c) a w) (hy : YieldsIf P ops S oi v a) (hS : S w)
    (h : AnyE P md ops Q S fuel (listed.setIfInBounds i true) (a.put oi.dst v) w) : AnyE P md ops Q S (fuel + 1) listed a w :=
  AnyE.first hi hlw (Region.noSelect_spec hs) hQ fuel listed a w (Region.free_spec hi hf) (by simpa using hr) hy hS h

/- The one that may come up. -/
theorem AnyE.one {i : Nat} {o : Oper} {fuel : Nat} {listed : Array Bool} {a : Act} {w : World} (hr : Region.ready md ops listed = [i]) (ho : ops[i]? = some o) (hw : Region.wanted o (yielded ops a.tmps) = true)
    (h : ∀ K : Act → World → Prop, Shut (∀ a w, (i + 1 ≠ ops.size → S w) → AnyE P md ops Q S fuel (listed.setIfInBounds i true) a w → K a w) → o.wp P a w K Q) : AnyE P md ops Q S (fuel + 1) listed a w := by
  refine ⟨(fun h0 => by rw [hr] at h0; cases h0), fun j hj => ?_⟩
  rw [hr] at hj
  obtain rfl : j = i := by simpa using hj
  refine wpOp_step ho fun K' hK => ?_
  rw [if_pos hw]
  exact h K' fun a w hS hA => hK a w ⟨hS, hA⟩

theorem AnyE.done {listed : Array Bool} {a : Act} {w : World} (hr : Region.ready md ops listed = []) (h : Q .normal a w) : ∀ fuel, AnyE P md ops Q S fuel listed a w
  | 0 => ⟨hr, h⟩
  | _ + 1 => ⟨fun _ => h, by rw [hr]; simp⟩

theorem AnyE.begin {id : Nat} {a : Act} {w : World} (hm : P.follows .mixedOrders = true) (h : AnyE P .any ops Q S ops.size (Array.replicate ops.size false) a w.drew) : (Code.region id ops true).wp P Q a w :=
  wp_region_any hm (AnyE.any _ _ _ _ h)

theorem AnyE.begin2 {id : Nat} {a : Act} {w : World} (hm : P.follows .mixedOrders = true) (hS : S w.drew) (h : S w.drew → AnyE P .any ops Q S ops.size (Array.replicate ops.size false) a w.drew) : (Code.region id ops true).wp P Q a w :=
  AnyE.begin hm (h hS)

end
end

end Go.Proofs.YtdkdidgeaalcgaaDoor
