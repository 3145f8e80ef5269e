/- A local variable of type Node whose Kids grow: what is known of it (KLoc), and how things stand behind 'n.Kids = append(n.Kids, ..)'. -/
import Derived.Test.YtnmpfpnldcgbaaaDoorP08
namespace Go.Proofs.YtnmpfpnldcgbaaaDoor
open Go.RowKit

def T.addKids (ts : List T) : T → T | .mk k s n p ks => .mk k s n p (ks ++ ts)
theorem T.addKids_kids (ts : List T) (t : T) : (t.addKids ts).kids = t.kids ++ ts := by cases t; rfl
theorem T.snoc_add (b t : T) : t.snoc b = t.addKids [b] := by cases t; rfl
theorem nodeCells_add (t : T) (v x : Value) (ts : List T) : (nodeCells t v).set 4 x = nodeCells (t.addKids ts) x := by cases t; rfl

structure KLoc (w W : World) (g : Nat) (t : T) (v : Value) : Prop where
  blk : Blk W g (nodeCells t v) 25
  kids : KAt 25 W t.kids (fun b => w.heap.size < b ∧ b ≠ g) v
  gt : w.heap.size < g

section
variable {w W W' : World} {g pb : Nat} {t : T} {v : Value}
theorem KLoc.lt (h : KLoc w W g t v) : g < W.heap.size := h.blk.lt
theorem KLoc.kp (h : KLoc w W g t v) (hk : Kp pb W W') (hp : pb < w.heap.size) : KLoc w W' g t v := ⟨h.blk.kp hk (by have := h.gt; omega), h.kids.kp hk (fun b hb => by omega), h.gt⟩
theorem KLoc.alloc (h : KLoc w W g t v) (o : Obj) : KLoc w (W.alloc o) g t v := ⟨h.blk.alloc o, h.kids.alloc o, h.gt⟩
theorem KLoc.drew (h : KLoc w W g t v) : KLoc w W.drew g t v := ⟨h.blk.drew, h.kids.drew, h.gt⟩
theorem KLoc.setOther (h : KLoc w W g t v) (a : Addr) (x : Value) (hn : g ≠ a.block) (hk : ∀ b, w.heap.size < b → b ≠ g → b ≠ a.block) : KLoc w (W.setCell a x) g t v := ⟨h.blk.setOther a x hn, h.kids.setCell a x (fun b hb => hk b hb.1 hb.2), h.gt⟩
theorem KLoc.ltkp (h : KLoc w W g t v) (_ : Kp pb W W') : g < W.heap.size := h.blk.lt
/- A new local. -/
theorem KLoc.new {W0 : World} {t : T} {v : Value} (hk : KAt 25 W0 t.kids (fun b => w.heap.size < b) v) (hg : w.heap.size < W0.heap.size) : KLoc w (W0.alloc (.cells (nodeCells t v).toArray 25)) W0.heap.size t v :=
  ⟨Blk.new W0 _ _, hk.keep fun b hb hl => ⟨⟨hb, by omega⟩, Below.heap_alloc W0 _ b hl⟩, hg⟩
/- What a call has made behind it is no part of it. -/
theorem KLoc.fresh {a : T} {kv : Value} (_ : Kp pb W W') (h : KLoc w W g t v) (ht : TAt 25 W' a (fun b => W.heap.size ≤ b) kv) : TAt 25 W' a (fun b => (w.heap.size < b ∧ b ≠ g) ∧ v.ownBlock ≠ some b) kv :=
  ht.mono fun b hb _ => by
    have h1 := h.lt
    have h2 := h.gt
    refine ⟨⟨by omega, by omega⟩, fun hv => ?_⟩
    obtain ⟨_, ho, _⟩ := h.kids
    have := (ho.lt b hv).2
    omega
theorem KLoc.fresh2 {a : T} {kv : Value} (_ : Kp pb W W') (h : KLoc w W g t v) (ht : TAt 25 W' a (fun b => W.heap.size ≤ b) kv) : TAt 25 W' a (fun b => ((w.heap.size < b ∧ b ≠ g) ∧ v.ownBlock ≠ some b) ∧ W.heap.size ≤ b) kv :=
  ht.mono fun b hb _ => by
    have h1 := h.lt
    have h2 := h.gt
    refine ⟨⟨⟨by omega, by omega⟩, fun hv => ?_⟩, hb⟩
    obtain ⟨_, ho, _⟩ := h.kids
    have := (ho.lt b hv).2
    omega
theorem KLoc.freshKids {ks : List T} {kv : Value} (hk : Kp pb W W') (h : KLoc w W g t v) (ht : KAt 25 W' ks (fun b => W.heap.size ≤ b) kv) : KAt 25 W' ks (fun b => (w.heap.size < b ∧ b ≠ g) ∧ v.ownBlock ≠ some b) kv :=
  (KLoc.fresh hk h (ht.tat 0 e0 0 0)).kat
end

/- A load of a whole node, written out. -/
theorem wpList_load_node {P : Program} {ops : Array Oper} {rest : List Oper} {o : Oper} {a : Act} {w : World} {Q : Exit → Act → World → Prop} (hgd : o.guard = none) (ty : TypeId) (x : Operand) (ho : o.op = .load ty x)
    (g : Nat) (t : T) (v : Value) (hx : a.eval x = .pointer (some ⟨g, 0, none⟩)) {e : TypeId} (hg : Blk w g (nodeCells t v) e) {d : TypeDesc} (hu : P.underlying ty = some d) (hd : d.isRow = true) (hi : (P.info? ty).map (·.size) = some 5)
    (h : wpList P ops Q rest (a.put o.dst (.agg #[.int .i64 t.kind, .string t.text, .int .i64 t.num, .int .i64 t.place, v])) w) : wpList P ops Q (o :: rest) a w :=
  wpList_load_blk hgd ty x ho g (nodeCells t v) hx hg hu hd hi h

theorem afterAppend {E : Env} {w W w' : World} {l : List Tok} {d g : Nat} {t : T} {v v' : Value} {ts : List T} {old : List Value} (hR : Run E w W l d) (hB : Blk W w.heap.size old 25) (hL : KLoc w W g t v)
    (hK : KAt 25 w' (t.kids ++ ts) (fun b => w.heap.size < b ∧ b ≠ g) v') (hg : W.grownBy w' v.ownBlock) :
    Run E w (w'.setCell ⟨g, 4, none⟩ v') l d ∧ Blk (w'.setCell ⟨g, 4, none⟩ v') w.heap.size old 25 ∧ KLoc w (w'.setCell ⟨g, 4, none⟩ v') g (t.addKids ts) v' ∧ w'.cell? ⟨g, 4, none⟩ = some v ∧ w'.frozen? ⟨g, 4, none⟩ = false ∧ Blk w' g (nodeCells t v) 25 := by
  have hrow : ∀ k, v.ownBlock = some k → w.heap.size < k ∧ k ≠ g := fun k hk => by obtain ⟨_, _, hS, _⟩ := hL.kids; exact hS k hk
  have h1 : Blk w' g (nodeCells t v) 25 := hL.blk.grown hg (fun e => (hrow g e.symm).2 rfl)
  have h2 := hL.gt
  refine ⟨(hR.grown hg (fun k hk => by have := (hrow k hk).1; omega)).setCell (by show w.heap.size ≤ g; omega) _, (hB.grown hg (fun e => by have := (hrow _ e.symm).1; omega)).setOther _ _ (by show _ ≠ g; omega), ⟨?_, ?_, h2⟩, ?_, h1.frozen 4, h1⟩
  · have h3 := h1.setSame 4 v'
    rw [nodeCells_add t v v' ts] at h3
    exact h3
  · rw [T.addKids_kids]
    exact hK.setCell _ _ (fun b hb => hb.2)
  · rw [h1.cell 4]
    rfl

/- The same behind an append of nothing. -/
theorem T.addKids_nil (t : T) : t.addKids [] = t := by cases t; simp [T.addKids]

theorem compareP_kids {k : Int} {p : Nat} {l l' : List Tok} {t : T} (h : compareP k p l = .ok (t, l')) : t.kids.length = 2 := by
  unfold compareP at h
  cases h1 : termP l with
  | error e => rw [bd_err h1] at h; cases h
  | ok q =>
    obtain ⟨a, l1⟩ := q
    rw [bd_ok h1] at h
    cases h2 : expectP [bs [60], bs [60, 61], bs [61, 61]] l1 with
    | error e => rw [bd_err h2] at h; cases h
    | ok q =>
      obtain ⟨c, l2⟩ := q
      rw [bd_ok h2] at h
      cases h3 : termP l2 with
      | error e => rw [bd_err h3] at h; cases h
      | ok q =>
        obtain ⟨b, l3⟩ := q
        rw [bd_ok h3] at h
        cases h
        rfl

end Go.Proofs.YtnmpfpnldcgbaaaDoor
