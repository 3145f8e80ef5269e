/- The contract of lychgateref02.name: a NAME as a Term. -/
import Derived.Test.YtnmpfpnldcgbaaaDoorRefLeaf
namespace Go.Proofs.YtnmpfpnldcgbaaaDoor
open Go.RowKit

/- What a function of the document's parser that hands back a node comes to, from a good state: what the plain reader says; with a fault some node is handed back. -/
def RNode (E : Env) (w : World) (d q : Nat) (l : List Tok) (r : R T) (e : Ending) (w' : World) : Prop :=
  match r with
  | .ok (t, l') => ∃ v, e = .returned (NodeV t v) ∧ KAt 31 w' t.kids (fun b => w.heap.size ≤ b) v ∧ RSt E w' l' d 0 q ∧ Kp E.pb w w' ∧ l'.length ≤ l.length
  | .error (p, c) => ∃ t v lf, e = .returned (NodeV t v) ∧ KAt 31 w' t.kids (fun b => w.heap.size ≤ b) v ∧ t.kids.length ≤ 40000 ∧ RSt E w' lf d c p ∧ Kp E.pb w w' ∧ (c == 0) = false
/- From a state that has a fault: some node, and nothing is changed. -/
def RJunk (w : World) (e : Ending) (w' : World) : Prop := ∃ t v, e = .returned (NodeV t v) ∧ KAt 31 w' t.kids (fun b => w.heap.size ≤ b) v ∧ t.kids.length ≤ 4 ∧ Below w.heap.size w w'

set_option maxRecDepth 100000 in
set_option maxHeartbeats 4000000 in
theorem rname_ok {E : Env} {w : World} {l : List Tok} {d : Nat} {q : Nat} (h : RSt E w l d 0 q) (hk1 : ((hdT l).kind == 1) = true) :
    Calls Tryd.prog 55 #[.pointer (some ⟨E.pb, 0, none⟩)] w fun e w' => e = .returned (NodeV (.mk 5 (hdT l).text 0 (hdT l).place []) (.slice none 0 0)) ∧ RSt E w' l.tail d 0 q ∧ Kp E.pb w w' := by
  have hk : (hdT l).kind = 1 := beq_iff_eq.1 hk1
  have HN := Lib.hid (h.setI (h.ends.tail (by omega)))
  have HKN := Lib.hid ((Kp.refl E.pb w).setPb 1 (.int .i64 (((E.ts.length - l.length : Nat) : Int) + 1)))
  have c0 : w.cell? ⟨E.pb, 0, none⟩ = some (.slice (some ⟨E.tb, 0, none⟩) E.ts.length E.cap) := h.blk.cell 0
  have c1 : w.cell? ⟨E.pb, 1, none⟩ = some (.int .i64 ((E.ts.length - l.length : Nat) : Int)) := h.blk.cell 1
  have c3 : w.cell? ⟨E.pb, 3, none⟩ = some (.int .i64 0) := h.blk.cell 3
  have cf := h.blk.frozen 1
  obtain ⟨t0, t1, t2, t3⟩ := h.tok
  have hkl : E.ts.length - l.length < E.ts.length := by have := h.head.1; have := h.le; omega
  have hlen := h.len
  have hcap := h.capb
  have hplt := h.plt
  have htlt := h.tlt
  have ix1 : (0 : Int) ≤ ((E.ts.length - l.length : Nat) : Int) := by omega
  have ix2 : (((E.ts.length - l.length : Nat) : Int)) < (E.ts.length : Int) := by omega
  rw [hk] at t0
  generalize E.ts.length - l.length = k at *
  clear h hk1 hk
  go_enter Tryd.func55, Tryd.ntmps55
  go_wp2
  go_region
  go_wp2_with fail
  exact bodyPost_ret (v := NodeV (.mk 5 (hdT l).text 0 (hdT l).place []) (.slice none 0 0)) (by simp [results, Tryd.results55, go_sem, NodeV, T.kind, T.text, T.num, T.place]) rfl ⟨rfl, ((HN.out.alloc _).alloc _).drew, ((HKN.out.alloc _).alloc _).drew⟩

set_option maxRecDepth 100000 in
set_option maxHeartbeats 4000000 in
theorem rname_no {E : Env} {w : World} {l : List Tok} {d : Nat} {q : Nat} (h : RSt E w l d 0 q) (hk1 : ((hdT l).kind == 1) = false) :
    Calls Tryd.prog 55 #[.pointer (some ⟨E.pb, 0, none⟩)] w fun e w' => e = .returned (NodeV zeroT (.slice none 0 0)) ∧ RSt E w' l d 20 (hdT l).place ∧ Kp E.pb w w' := by
  have hk : (((hdT l).kind : Int) != 1) = true := by simp at hk1 ⊢; omega
  have H := Lib.hid h
  have c0 : w.cell? ⟨E.pb, 0, none⟩ = some (.slice (some ⟨E.tb, 0, none⟩) E.ts.length E.cap) := h.blk.cell 0
  have c1 : w.cell? ⟨E.pb, 1, none⟩ = some (.int .i64 ((E.ts.length - l.length : Nat) : Int)) := h.blk.cell 1
  have c3 : w.cell? ⟨E.pb, 3, none⟩ = some (.int .i64 0) := h.blk.cell 3
  have cf := h.blk.frozen 1
  obtain ⟨t0, t1, t2, t3⟩ := h.tok
  have hkl : E.ts.length - l.length < E.ts.length := by have := h.head.1; have := h.le; omega
  have hlen := h.len
  have hcap := h.capb
  have hplt := h.plt
  have htlt := h.tlt
  have ix1 : (0 : Int) ≤ ((E.ts.length - l.length : Nat) : Int) := by omega
  have ix2 : (((E.ts.length - l.length : Nat) : Int)) < (E.ts.length : Int) := by omega
  generalize E.ts.length - l.length = k at *
  clear h hk1
  go_enter Tryd.func55, Tryd.ntmps55
  go_wp2
  go_region
  go_wp2_with fail
  refine (rfail_ok (((H.out.alloc _).alloc _).drew) 20).mono ?_
  rintro e w2 ⟨rfl, h2, hk2⟩
  have H2 := Lib.hid h2
  have HK2 := Lib.hid (((((Kp.refl E.pb w).alloc _).alloc _).drew).trans hk2)
  have HB2 := Lib.hid ((((Blk.new w zeroNodeCells 31).alloc _).drew).kp hk2 (by omega))
  clear h2 hk2
  go_wp2_with ((with_reducible refine at_st 31 (.tmp 2) ?_); refine wpList_store_blk rfl 31 (.tmp 2) (.tmp 26) rfl w.heap.size zeroNodeCells rfl rfl HB2.out Tryd.sizeRef rfl (nodeCells_one zeroT _ rfl) ?_)
  exact ret_blk (cs := zeroNodeCells) Tryd.results55 rfl HB2.out Tryd.underlying31 rfl Tryd.sizeRef rfl ⟨rfl, H2.out.same (by simp [World.setRow]) (setRow_other _ _ _ _ (by omega)) (setRow_other _ _ _ _ (by omega)), HK2.out.setRow (Nat.le_refl _) _⟩

set_option maxRecDepth 100000 in
set_option maxHeartbeats 4000000 in
theorem rname_bad {E : Env} {w : World} {l : List Tok} {d : Nat} {f : Int} {q : Nat} (h : RSt E w l d f q) (hf : (f == 0) = false) :
    Calls Tryd.prog 55 #[.pointer (some ⟨E.pb, 0, none⟩)] w fun e w' => e = .returned (NodeV zeroT (.slice none 0 0)) ∧ Below w.heap.size w w' := by
  have hn : (f != 0) = true := by simp at hf ⊢; exact hf
  have H := Lib.hid h
  have HF := Lib.hid hf
  have c0 : w.cell? ⟨E.pb, 0, none⟩ = some (.slice (some ⟨E.tb, 0, none⟩) E.ts.length E.cap) := h.blk.cell 0
  have c1 : w.cell? ⟨E.pb, 1, none⟩ = some (.int .i64 ((E.ts.length - l.length : Nat) : Int)) := h.blk.cell 1
  have c3 : w.cell? ⟨E.pb, 3, none⟩ = some (.int .i64 f) := h.blk.cell 3
  have cf := h.blk.frozen 1
  obtain ⟨t0, t1, t2, t3⟩ := h.tok
  have hkl : E.ts.length - l.length < E.ts.length := by have := h.head.1; have := h.le; omega
  have hlen := h.len
  have hcap := h.capb
  have hplt := h.plt
  have htlt := h.tlt
  have ix1 : (0 : Int) ≤ ((E.ts.length - l.length : Nat) : Int) := by omega
  have ix2 : (((E.ts.length - l.length : Nat) : Int)) < (E.ts.length : Int) := by omega
  generalize E.ts.length - l.length = k at *
  clear h
  go_enter Tryd.func55, Tryd.ntmps55
  go_wp2
  go_region
  go_wp2_with fail
  refine (rfail_bad (((H.out.alloc _).alloc _).drew) HF.out 20).mono ?_
  rintro e w2 ⟨rfl, rfl⟩
  go_wp2_with fail
  exact bodyPost_ret (v := NodeV (zeroT) (.slice none 0 0)) (by simp [results, Tryd.results55, go_sem, NodeV, T.kind, T.text, T.num, T.place, zeroT, e0]) rfl ⟨rfl, (((Below.refl _ _).alloc (Nat.le_refl _) _).alloc (by simp) _).drew⟩

end Go.Proofs.YtnmpfpnldcgbaaaDoor
