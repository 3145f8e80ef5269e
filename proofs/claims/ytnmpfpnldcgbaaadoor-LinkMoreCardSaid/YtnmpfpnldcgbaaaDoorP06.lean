/- Trees in memory: what value stands for a tree (NodeV, TAt), that it stays where no block of it is changed, and how a method of the parser ends that hands back a node. -/
import Derived.Test.YtnmpfpnldcgbaaaDoorP05
namespace Go.Proofs.YtnmpfpnldcgbaaaDoor
open Go.RowKit

def nodeCells (t : T) (v : Value) : List Value := [.int .i64 t.kind, .string t.text, .int .i64 t.num, .int .i64 t.place, v]
def NodeV (t : T) (v : Value) : Value := .agg #[.int .i64 t.kind, .string t.text, .int .i64 t.num, .int .i64 t.place, v]

def rowCells : List T → List Value → List Value
  | t :: ts, v :: vs => nodeCells t v ++ rowCells ts vs
  | _, _ => []

/- TAt w t S v: the slice v holds the kids of the tree t, in blocks that S allows; the kids' own kids lie in other blocks than theirs. (e: the type of nodes.) -/
mutual
def TAt (e : TypeId) (w : World) : T → (Nat → Prop) → Value → Prop
  | .mk _ _ _ _ ks, S, v => ∃ vs, w.ownsRow 0 e 5 v ks.length (rowCells ks vs) ∧ (∀ g, v.ownBlock = some g → S g) ∧ TsAt e w ks (fun b => S b ∧ v.ownBlock ≠ some b) vs
def TsAt (e : TypeId) (w : World) : List T → (Nat → Prop) → List Value → Prop
  | [], _, vs => vs = []
  | t :: ts, S, vs => ∃ v vs', vs = v :: vs' ∧ TAt e w t S v ∧ TsAt e w ts S vs'
end

/- The list form: a slice that holds these trees. -/
def KAt (e : TypeId) (w : World) (ks : List T) (S : Nat → Prop) (v : Value) : Prop :=
  ∃ vs, w.ownsRow 0 e 5 v ks.length (rowCells ks vs) ∧ (∀ g, v.ownBlock = some g → S g) ∧ TsAt e w ks (fun b => S b ∧ v.ownBlock ≠ some b) vs

theorem TAt.kat {e : TypeId} {w : World} {t : T} {S : Nat → Prop} {v : Value} (h : TAt e w t S v) : KAt e w t.kids S v := by
  cases t with
  | mk k s n p ks => unfold TAt at h; exact h
theorem KAt.tat {e : TypeId} {w : World} {ks : List T} {S : Nat → Prop} {v : Value} (h : KAt e w ks S v) (k : Int) (s : ByteArray) (n : Int) (p : Nat) : TAt e w (.mk k s n p ks) S v := by
  unfold TAt; exact h
theorem TAt.of_kids {e : TypeId} {w : World} {t : T} {S : Nat → Prop} {v : Value} (h : KAt e w t.kids S v) : TAt e w t S v := by
  cases t with
  | mk k s n p ks => unfold TAt; exact h

theorem KAt.nil (e : TypeId) (w : World) (S : Nat → Prop) : KAt e w [] S (.slice none 0 0) :=
  ⟨[], World.ownsRow_nil _ _ _ _, (fun g h => by simp [Value.ownBlock] at h), by unfold TsAt; rfl⟩

mutual
theorem TAt.keep {e : TypeId} {w w' : World} : ∀ (t : T) {S S' : Nat → Prop} {v : Value}, TAt e w t S v → (∀ b, S b → b < w.heap.size → S' b ∧ w'.heap[b]? = w.heap[b]?) → TAt e w' t S' v
  | .mk _ _ _ _ ks, S, S', v, h, hk => by
    unfold TAt at h ⊢
    obtain ⟨vs, ho, hS, hts⟩ := h
    refine ⟨vs, ⟨ho.1, ?_⟩, fun g hg => (hk g (hS g hg) (ho.lt g hg).2).1, TsAt.keep ks hts fun b hb hlt => ⟨⟨(hk b hb.1 hlt).1, hb.2⟩, (hk b hb.1 hlt).2⟩⟩
    rcases ho.2 with hn | ⟨g, cap, cur, rfl, hb, hg, rest⟩
    · exact .inl hn
    · exact .inr ⟨g, cap, cur, rfl, hb, (hk g (hS g rfl) (Array.getElem?_eq_some_iff.1 hg).1).2.trans hg, rest⟩
theorem TsAt.keep {e : TypeId} {w w' : World} : ∀ (ts : List T) {S S' : Nat → Prop} {vs : List Value}, TsAt e w ts S vs → (∀ b, S b → b < w.heap.size → S' b ∧ w'.heap[b]? = w.heap[b]?) → TsAt e w' ts S' vs
  | [], _, _, _, h, _ => by unfold TsAt at h ⊢; exact h
  | t :: ts, S, S', vs, h, hk => by
    unfold TsAt at h ⊢
    obtain ⟨v, vs', e, ht, hts⟩ := h
    exact ⟨v, vs', e, TAt.keep t ht hk, TsAt.keep ts hts hk⟩
end

section
variable {e : TypeId} {w w' : World} {t : T} {ks : List T} {S S' : Nat → Prop} {v : Value} {pb : Nat}

theorem TAt.mono (h : TAt e w t S v) (hS : ∀ b, S b → b < w.heap.size → S' b) : TAt e w t S' v := TAt.keep t h fun b hb hl => ⟨hS b hb hl, rfl⟩
theorem TAt.kp (h : TAt e w t S v) (hk : Kp pb w w') (hS : ∀ b, S b → b ≠ pb) : TAt e w' t S v :=
  TAt.keep t h fun b hb hl => ⟨hb, hk.block b hl (by simpa using hS b hb)⟩
theorem TAt.below (h : TAt e w t S v) (hk : Below w.heap.size w w') : TAt e w' t S v := TAt.keep t h fun b hb hl => ⟨hb, hk.block b hl⟩
theorem TAt.alloc (h : TAt e w t S v) (o : Obj) : TAt e (w.alloc o) t S v := TAt.keep t h fun b hb hl => ⟨hb, Below.heap_alloc w o b hl⟩
theorem TAt.drew (h : TAt e w t S v) : TAt e w.drew t S v := TAt.keep t h fun _ hb _ => ⟨hb, rfl⟩
theorem TAt.setRow (h : TAt e w t S v) (g : Nat) (cs : Array Value) (hS : ∀ b, S b → b ≠ g) : TAt e (w.setRow g cs) t S v :=
  TAt.keep t h fun b hb _ => ⟨hb, setRow_other w g b cs (hS b hb)⟩
theorem TAt.setCell (h : TAt e w t S v) (a : Addr) (x : Value) (hS : ∀ b, S b → b ≠ a.block) : TAt e (w.setCell a x) t S v :=
  TAt.keep t h fun b hb _ => ⟨hb, Below.heap_setCell w a x b (hS b hb)⟩
theorem KAt.keep (h : KAt e w ks S v) (hk : ∀ b, S b → b < w.heap.size → S' b ∧ w'.heap[b]? = w.heap[b]?) : KAt e w' ks S' v :=
  (TAt.keep _ (h.tat 0 e0 0 0) hk).kat
theorem KAt.kp (h : KAt e w ks S v) (hk : Kp pb w w') (hS : ∀ b, S b → b ≠ pb) : KAt e w' ks S v := h.keep fun b hb hl => ⟨hb, hk.block b hl (by simpa using hS b hb)⟩
theorem KAt.drew (h : KAt e w ks S v) : KAt e w.drew ks S v := h.keep fun _ hb _ => ⟨hb, rfl⟩
theorem KAt.below (h : KAt e w ks S v) (hk : Below w.heap.size w w') : KAt e w' ks S v := h.keep fun b hb hl => ⟨hb, hk.block b hl⟩
theorem KAt.alloc (h : KAt e w ks S v) (o : Obj) : KAt e (w.alloc o) ks S v := h.keep fun b hb hl => ⟨hb, Below.heap_alloc w o b hl⟩
theorem KAt.setCell (h : KAt e w ks S v) (a : Addr) (x : Value) (hS : ∀ b, S b → b ≠ a.block) : KAt e (w.setCell a x) ks S v := h.keep fun b hb _ => ⟨hb, Below.heap_setCell w a x b (hS b hb)⟩
theorem KAt.setRow (h : KAt e w ks S v) (g : Nat) (cs : Array Value) (hS : ∀ b, S b → b ≠ g) : KAt e (w.setRow g cs) ks S v := h.keep fun b hb _ => ⟨hb, setRow_other w g b cs (hS b hb)⟩
theorem KAt.mono (h : KAt e w ks S v) (hS : ∀ b, S b → b < w.heap.size → S' b) : KAt e w ks S' v := h.keep fun b hb hl => ⟨hS b hb hl, rfl⟩
end

theorem nodeCells_setNum (t : T) (v : Value) (n : Int) : (nodeCells t v).set 2 (.int .i64 n) = nodeCells (t.setNum n) v := by cases t; rfl
theorem nodeCells_kids (t : T) (v x : Value) (ks : List T) : (nodeCells t v).set 4 x = nodeCells (.mk t.kind t.text t.num t.place ks) x := by cases t; rfl

/- Does the next operation load a value of that type from that place? -/
theorem at_ld (ty : TypeId) (x : Operand) {P : Program} {ops : Array Oper} {rest : List Oper} {dst : Option Tmp} {tt : TypeId} {ps : String} {af : Array Edge} {a : Act} {w : World} {Q : Exit → Act → World → Prop}
    (h : wpList P ops Q (⟨dst, .load ty x, tt, ps, af, none⟩ :: rest) a w) : wpList P ops Q (⟨dst, .load ty x, tt, ps, af, none⟩ :: rest) a w := h
/- A load of a whole block. -/
theorem wpList_load_blk {P : Program} {ops : Array Oper} {rest : List Oper} {o : Oper} {a : Act} {w : World} {Q : Exit → Act → World → Prop} (hgd : o.guard = none) (ty : TypeId) (x : Operand) (ho : o.op = .load ty x)
    (g : Nat) (cells : List Value) (hx : a.eval x = .pointer (some ⟨g, 0, none⟩)) {t : TypeId} (hg : Blk w g cells t) {d : TypeDesc} (hu : P.underlying ty = some d) (hd : d.isRow = true) (hi : (P.info? ty).map (·.size) = some cells.length)
    (h : wpList P ops Q rest (a.put o.dst (.agg cells.toArray)) w) : wpList P ops Q (o :: rest) a w :=
  wpList_load_mid hgd ty x ho g 0 hx cells d (fun j v hj => by rw [Nat.zero_add, hg.cell j]; exact hj) hu hd hi h

theorem nodeCells_one (t : T) (v : Value) (hv : v.oneCell' = true) : ∀ u ∈ nodeCells t v, u.oneCell' = true := by
  intro u hu
  simp only [nodeCells, List.mem_cons, List.not_mem_nil, or_false] at hu
  rcases hu with rfl | rfl | rfl | rfl | rfl
  · rfl
  · rfl
  · rfl
  · rfl
  · exact hv

theorem KAt.one {e : TypeId} {w : World} {ks : List T} {S : Nat → Prop} {v : Value} (h : KAt e w ks S v) : v.oneCell' = true := by
  obtain ⟨_, ho, _⟩ := h
  rcases ho.2 with ⟨rfl, _⟩ | ⟨_, _, _, rfl, _⟩ <;> rfl

/- A new slice literal that holds one tree, or two. -/
theorem KAt.lit1 {e : TypeId} {w : World} {t : T} {S : Nat → Prop} {v : Value} (h : TAt e w t S v) (hS : S w.heap.size) :
    KAt e (w.alloc (.cells (nodeCells t v).toArray e)) [t] S (.slice (some ⟨w.heap.size, 0, none⟩) 1 1) := by
  refine ⟨[v], ⟨rfl, .inr ⟨w.heap.size, 1, _, rfl, Nat.zero_le _, heap_alloc_new w _, Nat.le_refl _, by unfold maxLen; omega, rfl, rfl⟩⟩, fun g hg => ?_, ?_⟩
  · simp only [Value.ownBlock, Option.some.injEq] at hg; subst hg; exact hS
  · unfold TsAt
    refine ⟨v, [], rfl, ?_, by unfold TsAt; rfl⟩
    refine TAt.keep t h fun b hb hl => ⟨⟨hb, ?_⟩, Below.heap_alloc w _ b hl⟩
    simp only [Value.ownBlock, ne_eq, Option.some.injEq]
    omega
theorem KAt.lit2 {e : TypeId} {w : World} {t u : T} {S : Nat → Prop} {v x : Value} (h : TAt e w t S v) (h' : TAt e w u S x) (hS : S w.heap.size) :
    KAt e (w.alloc (.cells (nodeCells t v ++ nodeCells u x).toArray e)) [t, u] S (.slice (some ⟨w.heap.size, 0, none⟩) 2 2) := by
  refine ⟨[v, x], ⟨rfl, .inr ⟨w.heap.size, 2, _, rfl, Nat.zero_le _, heap_alloc_new w _, Nat.le_refl _, by unfold maxLen; omega, rfl, rfl⟩⟩, fun g hg => ?_, ?_⟩
  · simp only [Value.ownBlock, Option.some.injEq] at hg; subst hg; exact hS
  · have keep : ∀ b, S b → b < w.heap.size → (S b ∧ (Value.slice (some ⟨w.heap.size, 0, none⟩) 2 2).ownBlock ≠ some b) ∧ (w.alloc (.cells (nodeCells t v ++ nodeCells u x).toArray e)).heap[b]? = w.heap[b]? := fun b hb hl => by
      refine ⟨⟨hb, ?_⟩, Below.heap_alloc w _ b hl⟩
      simp only [Value.ownBlock, ne_eq, Option.some.injEq]
      omega
    unfold TsAt
    refine ⟨v, [x], rfl, TAt.keep t h keep, ?_⟩
    unfold TsAt
    exact ⟨x, [], rfl, TAt.keep u h' keep, by unfold TsAt; rfl⟩

/- How things stand in the middle of a method: w is the world in which it began, W the world now. -/
structure Run (E : Env) (w W : World) (l : List Tok) (d : Nat) : Prop where
  kp : Kp E.pb w W
  st : PSt E W l d
  lo : E.pb < w.heap.size
  lt : E.tb < w.heap.size

section
variable {E : Env} {w W W' : World} {l l' : List Tok} {d d' : Nat}
theorem Run.start (h : PSt E w l d) : Run E w w l d := ⟨.refl _ _, h, h.plt, h.tlt⟩
theorem Run.alloc (h : Run E w W l d) (o : Obj) : Run E w (W.alloc o) l d := ⟨h.kp.alloc o, h.st.alloc o, h.lo, h.lt⟩
theorem Run.below (h : Run E w W l d) (hb : Below W.heap.size W W') : Run E w W' l d := ⟨h.kp.trans (.of_below hb), h.st.below hb, h.lo, h.lt⟩
theorem Run.call (h : Run E w W l d) (hk : Kp E.pb W W') (hs : PSt E W' l' d') : Run E w W' l' d' := ⟨h.kp.trans hk, hs, h.lo, h.lt⟩
theorem Run.setRow (h : Run E w W l d) {g : Nat} (hg : w.heap.size ≤ g) (cs : Array Value) : Run E w (W.setRow g cs) l d :=
  ⟨h.kp.setRow hg cs, h.st.setRow (by have := h.lo; omega) (by have := h.lt; omega) cs, h.lo, h.lt⟩
theorem Run.setCell (h : Run E w W l d) {a : Addr} (hg : w.heap.size ≤ a.block) (v : Value) : Run E w (W.setCell a v) l d :=
  ⟨h.kp.setNew hg v, h.st.same (by simp [World.setCell]) (Below.heap_setCell _ _ _ _ (by have := h.lo; omega)) (Below.heap_setCell _ _ _ _ (by have := h.lt; omega)), h.lo, h.lt⟩
theorem Run.size (h : Run E w W l d) : w.heap.size ≤ W.heap.size := h.kp.size
end

def zeroNodeCells : List Value := [.int .i64 0, .string ⟨#[]⟩, .int .i64 0, .int .i64 0, .slice none 0 0]

theorem cond_t {α : Type} {b : Bool} (h : b = true) (x y : α) : (bif b then x else y) = x := by rw [h]; rfl
theorem cond_f {α : Type} {b : Bool} (h : b = false) (x y : α) : (bif b then x else y) = y := by rw [h]; rfl

/- What a call has made: newer than x, and there behind the call. -/
theorem TAt.weak {e : TypeId} {w w' : World} {t : T} {v : Value} {x : Nat} (h : TAt e w' t (fun b => w.heap.size ≤ b) v) (hx : x < w.heap.size) : TAt e w' t (fun b => x < b ∧ b < w'.heap.size) v := h.mono fun b hb hl => ⟨by omega, hl⟩
theorem KAt.weak {e : TypeId} {w w' : World} {ks : List T} {v : Value} {x : Nat} (h : KAt e w' ks (fun b => w.heap.size ≤ b) v) (hx : x < w.heap.size) : KAt e w' ks (fun b => x < b ∧ b < w'.heap.size) v := h.mono fun b hb hl => ⟨by omega, hl⟩
theorem TAt.lo {e : TypeId} {w : World} {t : T} {v : Value} {x y : Nat} (h : TAt e w t (fun b => x < b ∧ b < y) v) : TAt e w t (fun b => x < b) v := h.mono fun _ hb _ => hb.1
theorem KAt.lo {e : TypeId} {w : World} {ks : List T} {v : Value} {x y : Nat} (h : KAt e w ks (fun b => x < b ∧ b < y) v) : KAt e w ks (fun b => x < b) v := h.mono fun _ hb _ => hb.1

def VNode (W : World) (lo : Nat) (t : T) (v : Value) : Prop := ∃ kv, v = NodeV t kv ∧ TAt 25 W t (fun b => lo ≤ b) kv
def VKids (W : World) (lo : Nat) (ks : List T) (v : Value) : Prop := KAt 25 W ks (fun b => lo ≤ b) v

theorem Run.err {α : Type} {V : World → Nat → α → Value → Prop} {E : Env} {w W : World} {l : List Tok} {d : Nat} {r : R α} {p : Nat} {c : Int} (hk : Kp E.pb w W) (hr : r = .error (p, c)) (hc : c = 20 ∨ c = 21) :
    PPost V E w l d r (.panicked [{ v := faultV p c, recovered := false }]) W := .mk_err hr rfl hk hc

theorem Run.node {E : Env} {w W : World} {l l' : List Tok} {d : Nat} {r : R T} {t : T} {v : Value} (h : Run E w W l' d) (ht : TAt 25 W t (fun b => w.heap.size < b) v) (hr : r = .ok (t, l')) (hl : l'.length < l.length) :
    PPost VNode E w l d r (.returned (NodeV t v)) (W.setRow w.heap.size (nodeCells t v).toArray) :=
  .mk_ok hr rfl ⟨v, rfl, (ht.setRow _ _ (fun b hb => by omega)).mono (fun b hb _ => by omega)⟩ (h.setRow (Nat.le_refl _) _).st hl (h.setRow (Nat.le_refl _) _).kp

/- What a function hands back whose one result lies in a block. -/
theorem results_blk {P : Program} {fn : Func} {s : Tmp} {ty t : TypeId} (h : fn.results = #[.cell s ty]) {tmps : Array Value} {W : World} {g : Nat} {cs : List Value} {d : TypeDesc} (hs : tmps.getD s undef = .pointer (some ⟨g, 0, none⟩))
    (hb : Blk W g cs t) (hu : P.underlying ty = some d) (hd : d.isRow = true) (hi : (P.info? ty).map (·.size) = some cs.length) : (results fn tmps).run P W = .ok (.agg cs.toArray) W := by
  have hl := run_loadVar_mid (P := P) W g 0 ty cs d (fun j v hj => by rw [Nat.zero_add, hb.cell j]; exact hj) hu hd hi
  have hs' : tmps[s]?.getD undef = .pointer (some ⟨g, 0, none⟩) := by rw [← hs]; simp
  simp [results, h, hs', asAddr, hl]

theorem ret_blk {P : Program} {fn : Func} {s : Tmp} {ty t : TypeId} (h : fn.results = #[.cell s ty]) {a : Act} {W : World} {g : Nat} {old cs : List Value} {d : TypeDesc} {R : Ending → World → Prop} (hs : a.tmps.getD s undef = .pointer (some ⟨g, 0, none⟩))
    (hb : Blk W g old t) (hu : P.underlying ty = some d) (hd : d.isRow = true) (hi : (P.info? ty).map (·.size) = some cs.length) (hdf : a.defers = []) (hR : R (.returned (.agg cs.toArray)) (W.setRow g cs.toArray)) :
    bodyPost P fn R .ret (a.put none undef) (W.setRow g cs.toArray) :=
  bodyPost_ret (results_blk h hs (hb.rowSame cs) hu hd hi) hdf hR

/- A field of a struct that is no struct itself. -/
theorem run_field_agg {P : Program} {t : TypeId} {fs : Array Field} {i : Nat} {f : Field} {cs : Array Value} {v : Value} (ht : P.underlying t = some (.struct fs)) (hf : fs[i]? = some f) (he : ∀ w, (isAgg f.type).run P w = .ok false w)
    (hv : cs[f.offset]? = some v) (w : World) : (Instr.field t (.agg cs) i).run P w = .ok v w := by
  simp [Instr.field, run_underlying ht, hf, part, he, hv, asAgg]
theorem notAgg {P : Program} {t : TypeId} {d : TypeDesc} (h : P.underlying t = some d) (hd : d.isRow = false) (w : World) : (isAgg t).run P w = .ok false w := by
  unfold isAgg
  rw [Sem.run_bind, run_underlying h w]
  cases d <;> simp_all
set_option maxRecDepth 100000 in
theorem fldTok0 (a b c d : Value) (w : World) : (Instr.field 109 (.agg #[a, b, c, d]) 0).run Tryd.prog w = .ok a w := run_field_agg Tryd.underlying109 rfl (notAgg Tryd.underlying107 rfl) rfl w
set_option maxRecDepth 100000 in
theorem fldTok1 (a b c d : Value) (w : World) : (Instr.field 109 (.agg #[a, b, c, d]) 1).run Tryd.prog w = .ok b w := run_field_agg Tryd.underlying109 rfl (notAgg Tryd.underlying9 rfl) rfl w
set_option maxRecDepth 100000 in
theorem fldTok2 (a b c d : Value) (w : World) : (Instr.field 109 (.agg #[a, b, c, d]) 2).run Tryd.prog w = .ok c w := run_field_agg Tryd.underlying109 rfl (notAgg Tryd.underlying2 rfl) rfl w
set_option maxRecDepth 100000 in
theorem fldTok3 (a b c d : Value) (w : World) : (Instr.field 109 (.agg #[a, b, c, d]) 3).run Tryd.prog w = .ok d w := run_field_agg Tryd.underlying109 rfl (notAgg Tryd.underlying3 rfl) rfl w

theorem Tryd.sizeNode : (Tryd.prog.info? 25).map (·.size) = some 5 := by kernel_rfl
theorem Tryd.sizeTok : (Tryd.prog.info? 109).map (·.size) = some 4 := by kernel_rfl

end Go.Proofs.YtnmpfpnldcgbaaaDoor
