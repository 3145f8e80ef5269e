/- The contract of lychgateref02.branch, given that of block. -/
import Derived.Test.YtnmpfpnldcgbaaaDoorRefNamed
namespace Go.Proofs.YtnmpfpnldcgbaaaDoor
open Go.RowKit

/- What is asked of block at a depth. -/
def RBlockC (E : Env) (d : Nat) (blk : List Tok → R T) : Prop := ∀ (w : World) (l : List Tok) (f : Int) (q : Nat), RSt E w l d f q → Calls Tryd.prog 58 #[.pointer (some ⟨E.pb, 0, none⟩)] w (RTot E w d l f q (blk l))

theorem Blk.newEq {w : World} {g : Nat} (h : g = w.heap.size) (cs : List Value) (t : TypeId) : Blk (w.alloc (.cells cs.toArray t)) g cs t := by
  subst h
  exact Blk.new w cs t
theorem lit1_eq (W : World) {g : Nat} (h : g = W.heap.size) (e : TypeId) (t : T) (v : Value) : ∀ j u, (rowCells [t] [v])[j]? = some u → (W.alloc (.cells (nodeCells t v).toArray e)).cell? ((⟨g, 0, none⟩ : Addr).add j) = some u := by
  subst h
  exact lit1_at W e t v

def branchP (blk : List Tok → R T) (k : Int) (p : Nat) (l : List Tok) : R T := bd (compareP k p l) fun n l1 => bd (blk l1) fun b l2 => .ok (n.snoc b, l2)
theorem branch_eq (blk : List Tok → R T) (k : Int) (p : Nat) (l : List Tok) : branchP blk k p l = bd (factP l) fun n l1 => bd (blk l1) fun b l2 => .ok (.mk k n.text n.num p (n.kids ++ [b]), l2) := by
  unfold branchP factP compareP
  rw [rbd_bd, rbd_bd]
  congr 1
  funext a l1
  rw [rbd_bd, rbd_bd]
  congr 1
  funext c l2
  rw [rbd_bd, rbd_bd]
  congr 1

/- A call that hands back a node of at most so many kids. -/
def RTotB (B : Nat) (E : Env) (w : World) (d : Nat) (l : List Tok) (f : Int) (q : Nat) (r : R T) (e : Ending) (w' : World) : Prop :=
  ∃ t v lf f' q', e = .returned (NodeV t v) ∧ KAt 31 w' t.kids (fun b => w.heap.size ≤ b) v ∧ t.kids.length ≤ B ∧ RSt E w' lf d f' q' ∧ Kp E.pb w w' ∧ Sees l f q r t lf f' q'
theorem RTotB.tot {B : Nat} {E : Env} {w : World} {d : Nat} {l : List Tok} {f : Int} {q : Nat} {r : R T} {e : Ending} {w' : World} (h : RTotB B E w d l f q r e w') (hB : B ≤ 40000) : RTot E w d l f q r e w' := by
  obtain ⟨t, v, lf, f', q', h1, h2, h3, h4, h5, h6⟩ := h
  exact ⟨t, v, lf, f', q', h1, h2, by omega, h4, h5, h6⟩
theorem RLoc.totB {B : Nat} {E : Env} {w W : World} {d : Nat} {l l' : List Tok} {f f' : Int} {q q' g : Nat} {t : T} {v : Value} (h : RLoc E w W d l' f' q' g t v) (hn : t.kids.length ≤ B) {r : R T} (hs : Sees l f q r t l' f' q') : RTotB B E w d l f q r (.returned (.agg (nodeCells t v).toArray)) (W.setRow w.heap.size (nodeCells t v).toArray) := by
  have h1 := h.gt
  have h2 := h.plt
  have h3 := h.tlt
  exact ⟨t, v, l', f', q', rfl, (h.kids.setRow _ _ (fun b hb => by omega)).mono (fun b hb _ => by omega), hn, h.st.putRow _ _ (by omega) (by omega), h.kp.setRow (Nat.le_refl _) _, hs⟩

set_option maxRecDepth 100000 in
set_option maxHeartbeats 4000000 in
theorem rfact2_tot {E : Env} {w : World} {l : List Tok} {d : Nat} {f : Int} {q : Nat} (h : RSt E w l d f q) :
    Calls Tryd.prog 61 #[.pointer (some ⟨E.pb, 0, none⟩)] w (RTotB 2 E w d l f q (factP l)) := by
  have H := Lib.hid h
  have hplt := h.plt
  have htlt := h.tlt
  have HB0 := Lib.hid (Blk.new w zeroNodeCells 31)
  clear h
  go_enter Tryd.func61, Tryd.ntmps61
  go_wp2_with fail
  refine (rterm_tot (H.out.alloc _)).mono ?_
  rintro e w1 ⟨t1, v1, l1, f1, q1, rfl, hk1, hn1, hs1, hp1, hsee1⟩
  have HB1 := Lib.hid (HB0.out.kp hp1 (by omega))
  have HV1 := Lib.hid (show KAt 31 w1 t1.kids (fun b => w.heap.size < b) v1 from hk1.mono (fun b hb _ => by simp at hb; omega))
  have HK1 := Lib.hid (((Kp.refl E.pb w).alloc _).trans hp1)
  have H1 := Lib.hid hs1
  have HS1 := Lib.hid hsee1
  have hz1 := HB1.out.lt
  clear hk1 hs1 hp1 hsee1
  unfold NodeV
  go_wp2_with ((with_reducible refine at_st 31 (.tmp 3) ?_); refine wpList_store_new rfl 31 (.tmp 3) (.tmp 7) rfl (nodeCells t1 v1) (old := zeroNodeCells) rfl rfl Tryd.sizeRef rfl (nodeCells_one _ _ HV1.out.one) ?_)
  refine (rcmp_tot (H1.out.alloc _)).mono ?_
  rintro e w2 ⟨s, l2, f2, q2, rfl, hs2, hp2, hsee2⟩
  have HB2 := Lib.hid ((HB1.out.alloc _).kp hp2 (by omega))
  have HN2 := Lib.hid ((Blk.new w1 (nodeCells t1 v1) 31).kp hp2 (by omega))
  have HK2 := Lib.hid ((HK1.out.alloc _).trans hp2)
  have HV2 := Lib.hid ((HV1.out.alloc _).kp hp2 (fun b hb => by omega))
  have HS2 := Lib.hid hsee2
  have H2 := Lib.hid hs2
  have hz2 := HN2.out.lt
  clear hs2 hp2 hsee2
  go_wp2_with fail
  refine (rterm_tot H2.out).mono ?_
  rintro e w3 ⟨t2, v2, l3, f3, q3, rfl, hk3, hn3, hs3, hp3, hsee3⟩
  have HB3 := Lib.hid (HB2.out.kp hp3 (by omega))
  have HN3 := Lib.hid (HN2.out.kp hp3 (by omega))
  have HK3 := Lib.hid (HK2.out.trans hp3)
  have HV3 := Lib.hid (HV2.out.kp hp3 (fun b hb => by omega))
  have HW3 := Lib.hid (show KAt 31 w3 t2.kids (fun b => w.heap.size < b) v2 from hk3.mono (fun b hb _ => by omega))
  have HS3 := Lib.hid hsee3
  have H3 := Lib.hid hs3
  have hz3 := HN3.out.lt
  clear hk3 hs3 hp3 hsee3
  unfold NodeV
  have n3 : w3.cell? ⟨w1.heap.size, 3, none⟩ = some (.int .i64 t1.place) := HN3.out.cell 3
  go_wp2_with (first
    | ((with_reducible refine at_st 31 (.tmp 5) ?_); refine wpList_store_new rfl 31 (.tmp 5) (.tmp 11) rfl (nodeCells t2 v2) (old := zeroNodeCells) rfl rfl Tryd.sizeRef rfl (nodeCells_one _ _ HW3.out.one) ?_)
    | ((with_reducible refine at_ld 31 (.tmp 3) ?_); refine wpList_load_node rfl 31 (.tmp 3) rfl w1.heap.size t1 v1 rfl (HN3.out.alloc _) Tryd.underlying31 rfl Tryd.sizeRef ?_)
    | ((with_reducible refine at_ld 31 (.tmp 5) ?_); refine wpList_load_node rfl 31 (.tmp 5) rfl w3.heap.size t2 v2 rfl (Blk.new w3 _ _) Tryd.underlying31 rfl Tryd.sizeRef ?_)
    | ((with_reducible refine at_st 31 (.tmp 2) ?_); refine wpList_store_blk rfl 31 (.tmp 2) (.tmp 18) rfl w.heap.size (nodeCells (T.mk 4 s 0 t1.place [t1, t2]) (.slice (some ⟨w3.heap.size + 1, 0, none⟩) 2 2)) rfl rfl ((HB3.out.alloc _).alloc _) Tryd.sizeRef rfl (nodeCells_one _ _ rfl) ?_))
  have hsz : (w3.alloc (.cells (nodeCells t2 v2).toArray 31)).heap.size = w3.heap.size + 1 := by simp
  have hkk := KAt.lit2 (e := 31) (w := w3.alloc (.cells (nodeCells t2 v2).toArray 31)) (t := t1) (u := t2) (S := fun b => w.heap.size < b) (v := v1) (x := v2) (TAt.of_kids (HV3.out.alloc _)) (TAt.of_kids (HW3.out.alloc _)) (by rw [hsz]; omega)
  rw [hsz] at hkk
  exact ret_blk (cs := nodeCells (T.mk 4 s 0 t1.place [t1, t2]) (.slice (some ⟨w3.heap.size + 1, 0, none⟩) 2 2)) Tryd.results61 rfl ((HB3.out.alloc _).alloc _) Tryd.underlying31 rfl Tryd.sizeRef rfl
    ⟨T.mk 4 s 0 t1.place [t1, t2], _, l3, f3, q3, rfl, (hkk.setRow _ _ (fun b hb => by omega)).mono (fun b hb _ => by omega), by show 2 ≤ 2; decide, ((H3.out.alloc _).alloc _).same (by simp [World.setRow]) (setRow_other _ _ _ _ (by omega)) (setRow_other _ _ _ _ (by omega)), ((HK3.out.alloc _).alloc _).setRow (Nat.le_refl _) _, sees_fact HS1.out HS2.out HS3.out⟩

set_option maxRecDepth 100000 in
set_option maxHeartbeats 4000000 in
theorem rbranch_tot {E : Env} {w : World} {l : List Tok} {d : Nat} {f : Int} {q : Nat} (h : RSt E w l d f q) {blk : List Tok → R T} (hB : RBlockC E d blk) (k : Int) (p : Nat) :
    Calls Tryd.prog 88 #[.pointer (some ⟨E.pb, 0, none⟩), .int .i64 k, .int .i64 p] w (RTotB 3 E w d l f q (branchP blk k p l)) := by
  have H := Lib.hid h
  have hplt := h.plt
  have htlt := h.tlt
  have HBC := Lib.hid hB
  have H0 := Lib.hid (h.alloc (.cells zeroNodeCells.toArray 31))
  have HK0 := Lib.hid ((Kp.refl E.pb w).alloc (.cells zeroNodeCells.toArray 31))
  have HBr0 := Lib.hid (Blk.new w zeroNodeCells 31)
  clear h hB
  obtain ⟨i0, z0, I⟩ := Tryd.refInfo
  go_enter Tryd.func88, Tryd.ntmps88
  go_wp2_with fail
  refine (rfact2_tot H0.out).mono ?_
  rintro e w1 ⟨t1, v1, l1, f1, q1, rfl, hk1, hn1, hs1, hp1, hsee1⟩
  have HB1 := Lib.hid (HBr0.out.kp hp1 (by omega))
  have HK1 := Lib.hid (HK0.out.trans hp1)
  have HV1 := Lib.hid (show KAt 31 w1 t1.kids (fun b => w.heap.size < b) v1 from hk1.mono (fun b hb _ => by simp at hb; omega))
  have H1 := Lib.hid hs1
  have HS1 := Lib.hid hsee1
  have hz1 := HB1.out.lt
  clear hk1 hs1 hp1 hsee1
  have RL1 := Lib.hid (RLoc.new (t := t1) (v := v1) H1.out HK1.out HB1.out rfl HV1.out hplt htlt)
  unfold NodeV
  go_wp2_with (((with_reducible refine at_st 31 (.tmp 7) ?_); refine wpList_store_new rfl 31 (.tmp 7) (.tmp 10) rfl (nodeCells t1 v1) (old := zeroNodeCells) rfl rfl Tryd.sizeRef rfl (nodeCells_one _ _ HV1.out.one) ?_))
  refine (HBC.out _ _ _ _ RL1.out.st).mono ?_
  rintro e w2 ⟨t2, v2, l2, f2, q2, rfl, hk2, hn2, hs2, hp2, hsee2⟩
  have RL2 := Lib.hid (RL1.out.call hp2 hs2)
  have HV2 := Lib.hid (RL1.out.fresh hk2)
  have HS2 := Lib.hid hsee2
  have hz2 : w1.heap.size < w2.heap.size := RL2.out.lt
  have n0 : w2.cell? ⟨w1.heap.size, 0, none⟩ = some (.int .i64 t1.kind) := RL2.out.blk.cell 0
  have nf0 := RL2.out.blk.frozen 0
  have n3 : w2.cell? ⟨w1.heap.size, 3, none⟩ = some (.int .i64 t1.place) := RL2.out.blk.cell 3
  have nf3 := RL2.out.blk.frozen 3
  have n4 : w2.cell? ⟨w1.heap.size, 4, none⟩ = some v1 := RL2.out.blk.cell 4
  have RLs := Lib.hid ((RL2.out.set 0 (.int .i64 k) (T.mk k t1.text t1.num t1.place t1.kids) rfl rfl).set 3 (.int .i64 p) (T.mk k t1.text t1.num p t1.kids) rfl rfl)
  clear hk2 hs2 hp2 hsee2
  unfold NodeV
  go_wp2_with (first | ((with_reducible refine at_st 31 (.tmp 8) ?_); refine wpList_store_new rfl 31 (.tmp 8) (.tmp 12) rfl (nodeCells t2 v2) (old := zeroNodeCells) rfl rfl Tryd.sizeRef rfl (nodeCells_one _ _ HV2.out.one) ?_) | ((with_reducible refine at_ld 31 (.tmp 8) ?_); refine wpList_load_node rfl 31 (.tmp 8) rfl w2.heap.size t2 v2 rfl (Blk.newEq (by simp) _ _) Tryd.underlying31 rfl Tryd.sizeRef ?_) | (at_builtin; refine wpList_append_trees rfl (.tmp 18) (.tmp 20) rfl I (ks := t1.kids) (ts := [t2]) (S := fun b => w.heap.size < b ∧ b ≠ w1.heap.size) rfl ((RLs.out.alloc _).alloc _).kids (us := [v2]) (TsAt.single ?c1) ?c2 rfl rfl (by simp) (lit1_eq _ (by simp) _ t2 v2) ?c3 ?_))
  case c1 => exact TAt.of_kids (((((HV2.out.mono (S' := fun b => (w.heap.size < b ∧ b ≠ w1.heap.size) ∧ v1.ownBlock ≠ some b) (fun _ hb _ => hb)).setCell ⟨w1.heap.size, 0, none⟩ _ (fun b hb => hb.1.2)).setCell ⟨w1.heap.size, 3, none⟩ _ (fun b hb => hb.1.2)).alloc _).alloc _)
  case c2 => simp only [World.size_alloc, World.size_setCell]; omega
  case c3 => simp; omega
  intro v6 w6 hK6 hg6 hb6
  obtain ⟨sa, sn, sc, rfl⟩ := hK6.slice
  obtain ⟨ha1, ha2, ha3, ha4⟩ := ((RLs.out.alloc _).alloc _).after hK6 hg6
  have RL6 := Lib.hid ha1
  clear ha1 hK6 hg6 hb6 n0 nf0 n3 nf3 n4
  obtain ⟨old, hold, hol⟩ := RL6.out.res
  have HOLD := Lib.hid hold
  clear hold
  go_wp2_with (first | ((with_reducible refine at_ld 31 (.tmp 7) ?_); refine wpList_load_node rfl 31 (.tmp 7) rfl w1.heap.size (T.mk k t1.text t1.num p (t1.kids ++ [t2])) (.slice sa sn sc) rfl RL6.out.blk Tryd.underlying31 rfl Tryd.sizeRef ?_) | ((with_reducible refine at_st 31 (.tmp 6) ?_); refine wpList_store_blk rfl 31 (.tmp 6) (.tmp 23) rfl w.heap.size (nodeCells (T.mk k t1.text t1.num p (t1.kids ++ [t2])) (.slice sa sn sc)) rfl rfl HOLD.out Tryd.sizeRef (by rw [hol]; rfl) (nodeCells_one _ _ rfl) ?_))
  exact ret_blk (cs := nodeCells (T.mk k t1.text t1.num p (t1.kids ++ [t2])) (.slice sa sn sc)) Tryd.results88 rfl HOLD.out Tryd.underlying31 rfl Tryd.sizeRef rfl (RL6.out.totB (by rw [setKids_kids, List.length_append]; simp; omega) (by rw [branch_eq]; exact HS1.out.andThen (HS2.out.andThen (Sees.done _ _ _ _))))

end Go.Proofs.YtnmpfpnldcgbaaaDoor
