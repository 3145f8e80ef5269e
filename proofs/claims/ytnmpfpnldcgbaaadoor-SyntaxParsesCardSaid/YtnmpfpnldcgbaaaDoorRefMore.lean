/- The contract of lychgateref02.more: what may follow a NAME in a term. -/
import Derived.Test.YtnmpfpnldcgbaaaDoorRefName
import Derived.Test.YtnmpfpnldcgbaaaDoorLoc
namespace Go.Proofs.YtnmpfpnldcgbaaaDoor
open Go.RowKit

def moreP (t : T) (l : List Tok) : R T := sumK (sumP l) (.ok (t, l)) fun _ f => bd (numberP l.tail) fun v l2 => .ok (t.setNum (f * v), l2)
theorem setNum_kids (t : T) (v : Int) : (t.setNum v).kids = t.kids := by cases t; rfl
theorem key43 : keySign (bs [43]) = true := by kernel_rfl
theorem key45 : keySign (bs [45]) = true := by kernel_rfl
theorem setNum_kept {w w' : World} {pb : Nat} (_ : Kp pb w w') : w.heap.size ≤ w'.heap.size := by have := ‹Kp pb w w'›.size; omega

set_option maxRecDepth 100000 in
set_option maxHeartbeats 4000000 in
theorem rmore_bad {E : Env} {w : World} {l : List Tok} {d : Nat} {f : Int} {q : Nat} (h : RSt E w l d f q) (hf : (f == 0) = false) (t : T) (ht : t.kids = []) :
    Calls Tryd.prog 92 #[.pointer (some ⟨E.pb, 0, none⟩), NodeV t (.slice none 0 0)] w (RJunk w) := by
  have HT := Lib.hid ht
  have HF := Lib.hid hf
  clear ht hf
  have HW0 := Lib.hid (((Below.refl w.heap.size w).alloc (Nat.le_refl _) (.cells (nodeCells t (.slice none 0 0)).toArray 31)).alloc (by simp) (.cells zeroNodeCells.toArray 31))
  have H0 := Lib.hid ((h.alloc (.cells (nodeCells t (.slice none 0 0)).toArray 31)).alloc (.cells zeroNodeCells.toArray 31))
  have HX0 := Lib.hid ((Blk.new w (nodeCells t (.slice none 0 0)) 31).alloc (.cells zeroNodeCells.toArray 31))
  have HB0 := Lib.hid (Blk.new2 w (.cells (nodeCells t (.slice none 0 0)).toArray 31) zeroNodeCells 31)
  have HK0 := Lib.hid (((Kp.refl E.pb w).alloc (.cells (nodeCells t (.slice none 0 0)).toArray 31)).alloc (.cells zeroNodeCells.toArray 31))
  have hplt := h.plt
  have htlt := h.tlt
  clear h
  unfold NodeV
  go_enter Tryd.func92, Tryd.ntmps92
  go_wp2_with fail
  refine (rhas_no H0.out (bs [43]) key43 (bad_is HF.out _)).mono ?_
  rintro e w1 ⟨rfl, hb⟩
  have H1 := Lib.hid (H0.out.below hb)
  have HX1 := Lib.hid (HX0.out.below hb)
  have HB1 := Lib.hid (HB0.out.below hb)
  have HK1 := Lib.hid (HK0.out.trans (Kp.of_below hb))
  have hz1 := HB1.out.lt
  have HW1 := Lib.hid (HW0.out.trans (hb.mono HW0.out.size))
  clear hb
  go_wp2_with fail
  refine (rhas_no H1.out (bs [45]) key45 (bad_is HF.out _)).mono ?_
  rintro e w2 ⟨rfl, hb⟩
  have H2 := Lib.hid (H1.out.below hb)
  have HX2 := Lib.hid (HX1.out.below hb)
  have HB2 := Lib.hid (HB1.out.below hb)
  have HK2 := Lib.hid (HK1.out.trans (Kp.of_below hb))
  have hz2 := HB2.out.lt
  have HW2 := Lib.hid (HW1.out.trans (hb.mono HW1.out.size))
  clear hb
  go_wp2_with (first
    | ((with_reducible refine at_ld 31 (.tmp 3) ?_); refine wpList_load_node rfl 31 (.tmp 3) rfl w.heap.size t (.slice none 0 0) rfl HX2.out Tryd.underlying31 rfl Tryd.sizeRef ?_)
    | ((with_reducible refine at_st 31 (.tmp 4) ?_); refine wpList_store_blk rfl 31 (.tmp 4) (.tmp 23) rfl (w.heap.size + 1) (nodeCells t (.slice none 0 0)) rfl rfl HB2.out Tryd.sizeRef rfl (nodeCells_one _ _ rfl) ?_))
  exact ret_blk (cs := nodeCells t (.slice none 0 0)) Tryd.results92 rfl HB2.out Tryd.underlying31 rfl Tryd.sizeRef rfl (⟨t, (.slice none 0 0), rfl, by rw [HT.out]; exact KAt.nil _ _ _, by rw [HT.out]; simp, rbelow_setRow HW2.out (by omega) _⟩)

set_option maxRecDepth 100000 in
set_option maxHeartbeats 4000000 in
theorem rmore_any {E : Env} {w : World} {l : List Tok} {d : Nat} {q : Nat} (h : RSt E w l d 0 q) (t : T) (ht : t.kids = []) :
    Calls Tryd.prog 92 #[.pointer (some ⟨E.pb, 0, none⟩), NodeV t (.slice none 0 0)] w (RNode E w d q l (moreP t l)) := by
  have HT := Lib.hid ht
  clear ht
  have hnum0 : (hdT l.tail).num ≤ 1099511627776 := by
    rcases Nat.eq_zero_or_pos l.tail.length with h0 | h0
    · rw [List.eq_nil_of_length_eq_zero h0]; simp [hdT, zeroTok]
    · refine (h.ok _ ?_).num
      have e1 : hdT l.tail ∈ l.tail := by cases hl : l.tail with
        | nil => rw [hl] at h0; simp at h0
        | cons a b => simp [hdT]
      exact List.mem_of_mem_drop (i := E.ts.length - l.length) (by rw [← h.suf]; exact List.mem_of_mem_tail e1)
  cases h43 : isT (hdT l) (bs [43]) with
  | false =>
    cases h45 : isT (hdT l) (bs [45]) with
    | false =>
      have HP := Lib.hid (show moreP t l = .ok (t, l) by unfold moreP sumP; rw [h43, h45]; rfl)
      have H43 := Lib.hid h43
      have H45 := Lib.hid h45
      clear h43 h45
      have H0 := Lib.hid ((h.alloc (.cells (nodeCells t (.slice none 0 0)).toArray 31)).alloc (.cells zeroNodeCells.toArray 31))
      have HX0 := Lib.hid ((Blk.new w (nodeCells t (.slice none 0 0)) 31).alloc (.cells zeroNodeCells.toArray 31))
      have HB0 := Lib.hid (Blk.new2 w (.cells (nodeCells t (.slice none 0 0)).toArray 31) zeroNodeCells 31)
      have HK0 := Lib.hid (((Kp.refl E.pb w).alloc (.cells (nodeCells t (.slice none 0 0)).toArray 31)).alloc (.cells zeroNodeCells.toArray 31))
      have hplt := h.plt
      have htlt := h.tlt
      clear h
      unfold NodeV
      go_enter Tryd.func92, Tryd.ntmps92
      go_wp2_with fail
      refine (rhas_no H0.out (bs [43]) key43 (good_is H43.out)).mono ?_
      rintro e w1 ⟨rfl, hb⟩
      have H1 := Lib.hid (H0.out.below hb)
      have HX1 := Lib.hid (HX0.out.below hb)
      have HB1 := Lib.hid (HB0.out.below hb)
      have HK1 := Lib.hid (HK0.out.trans (Kp.of_below hb))
      have hz1 := HB1.out.lt
      clear hb
      go_wp2_with fail
      refine (rhas_no H1.out (bs [45]) key45 (good_is H45.out)).mono ?_
      rintro e w2 ⟨rfl, hb⟩
      have H2 := Lib.hid (H1.out.below hb)
      have HX2 := Lib.hid (HX1.out.below hb)
      have HB2 := Lib.hid (HB1.out.below hb)
      have HK2 := Lib.hid (HK1.out.trans (Kp.of_below hb))
      have hz2 := HB2.out.lt
      clear hb
      go_wp2_with (first
        | ((with_reducible refine at_ld 31 (.tmp 3) ?_); refine wpList_load_node rfl 31 (.tmp 3) rfl w.heap.size t (.slice none 0 0) rfl HX2.out Tryd.underlying31 rfl Tryd.sizeRef ?_)
        | ((with_reducible refine at_st 31 (.tmp 4) ?_); refine wpList_store_blk rfl 31 (.tmp 4) (.tmp 23) rfl (w.heap.size + 1) (nodeCells t (.slice none 0 0)) rfl rfl HB2.out Tryd.sizeRef rfl (nodeCells_one _ _ rfl) ?_))
      exact ret_blk (cs := nodeCells t (.slice none 0 0)) Tryd.results92 rfl HB2.out Tryd.underlying31 rfl Tryd.sizeRef rfl (by rw [HP.out]; exact ⟨_, rfl, by rw [HT.out]; exact KAt.nil _ _ _, H2.out.same (by simp [World.setRow]) (setRow_other _ _ _ _ (by omega)) (setRow_other _ _ _ _ (by omega)), HK2.out.setRow (by omega) _, Nat.le_refl _⟩)
    | true =>
      cases hk3 : ((hdT l.tail).kind == 3) with
      | true =>
        have HP := Lib.hid (show moreP t l = .ok (t.setNum (-((hdT l.tail).num : Int)), l.tail.tail) by unfold moreP sumP; rw [h43, h45]; show bd (numberP l.tail) _ = _; rw [bd_ok (show numberP l.tail = .ok (((hdT l.tail).num : Int), l.tail.tail) by unfold numberP kindP; rw [hk3]; rfl)]; simp)
        have HK3 := Lib.hid hk3
        have H43 := Lib.hid h43
        have H45 := Lib.hid h45
        clear hk3 h43 h45
        have H0 := Lib.hid ((h.alloc (.cells (nodeCells t (.slice none 0 0)).toArray 31)).alloc (.cells zeroNodeCells.toArray 31))
        have HX0 := Lib.hid ((Blk.new w (nodeCells t (.slice none 0 0)) 31).alloc (.cells zeroNodeCells.toArray 31))
        have HB0 := Lib.hid (Blk.new2 w (.cells (nodeCells t (.slice none 0 0)).toArray 31) zeroNodeCells 31)
        have HK0 := Lib.hid (((Kp.refl E.pb w).alloc (.cells (nodeCells t (.slice none 0 0)).toArray 31)).alloc (.cells zeroNodeCells.toArray 31))
        have hplt := h.plt
        have htlt := h.tlt
        have hnum := hnum0
        clear h
        unfold NodeV
        go_enter Tryd.func92, Tryd.ntmps92
        go_wp2_with fail
        refine (rhas_no H0.out (bs [43]) key43 (good_is H43.out)).mono ?_
        rintro e w1 ⟨rfl, hb⟩
        have H1 := Lib.hid (H0.out.below hb)
        have HX1 := Lib.hid (HX0.out.below hb)
        have HB1 := Lib.hid (HB0.out.below hb)
        have HK1 := Lib.hid (HK0.out.trans (Kp.of_below hb))
        have hz1 := HB1.out.lt
        clear hb
        go_wp2_with fail
        refine (rhas_yes H1.out (bs [45]) key45 (by decide) H45.out).mono ?_
        rintro e w2 ⟨rfl, hs, hk⟩
        have H2 := Lib.hid hs
        have HX2 := Lib.hid (HX1.out.kp hk (by omega))
        have HB2 := Lib.hid (HB1.out.kp hk (by omega))
        have HK2 := Lib.hid (HK1.out.trans hk)
        have hz2 := HB2.out.lt
        clear hs hk
        go_wp2_with fail
        refine (rnumber_ok H2.out HK3.out).mono ?_
        rintro e w9 ⟨rfl, hs, hk⟩
        have H9 := Lib.hid hs
        have HX9 := Lib.hid (HX2.out.kp hk (by omega))
        have HB9 := Lib.hid (HB2.out.kp hk (by omega))
        have HK9 := Lib.hid (HK2.out.trans hk)
        have hz9 := HB9.out.lt
        clear hs hk
        have hcell : w9.cell? ⟨w.heap.size, 2, none⟩ = some (.int .i64 t.num) := HX9.out.cell 2
        have hfroz := HX9.out.frozen 2
        have hng := show IntKind.i64.wrap (-((hdT l.tail).num : Int)) = -((hdT l.tail).num : Int) from IntWalk.i64_in _ (by have := hnum; omega)
        go_wp2_with (first
          | ((with_reducible refine at_ld 31 (.tmp 3) ?_); refine wpList_load_node rfl 31 (.tmp 3) rfl w.heap.size (t.setNum (-((hdT l.tail).num : Int))) (.slice none 0 0) rfl (show Blk _ w.heap.size (nodeCells (t.setNum (-((hdT l.tail).num : Int))) (.slice none 0 0)) 31 by rw [← nodeCells_setNum]; exact HX9.out.setSame 2 _) Tryd.underlying31 rfl Tryd.sizeRef ?_)
          | ((with_reducible refine at_st 31 (.tmp 4) ?_); refine wpList_store_blk rfl 31 (.tmp 4) (.tmp 23) rfl (w.heap.size + 1) (nodeCells (t.setNum (-((hdT l.tail).num : Int))) (.slice none 0 0)) rfl rfl (HB9.out.setOther ⟨w.heap.size, 2, none⟩ _ (by show w.heap.size + 1 ≠ w.heap.size; omega)) Tryd.sizeRef rfl (nodeCells_one _ _ rfl) ?_))
        exact ret_blk (cs := nodeCells (t.setNum (-((hdT l.tail).num : Int))) (.slice none 0 0)) Tryd.results92 rfl (HB9.out.setOther ⟨w.heap.size, 2, none⟩ _ (by show w.heap.size + 1 ≠ w.heap.size; omega)) Tryd.underlying31 rfl Tryd.sizeRef rfl (by rw [HP.out]; exact ⟨_, rfl, by rw [setNum_kids, HT.out]; exact KAt.nil _ _ _, H9.out.same (by simp [World.setRow, World.setCell]) ((setRow_other _ _ _ _ (by omega)).trans (Below.heap_setCell _ _ _ _ (by show _ ≠ w.heap.size; omega))) ((setRow_other _ _ _ _ (by omega)).trans (Below.heap_setCell _ _ _ _ (by show _ ≠ w.heap.size; omega))), (HK9.out.setNew (p := ⟨w.heap.size, 2, none⟩) (Nat.le_refl _) _).setRow (by omega) _, by simp only [List.length_tail]; omega⟩)
      | false =>
        have HP := Lib.hid (show moreP t l = .error ((hdT l.tail).place, 20) by unfold moreP sumP; rw [h43, h45]; show bd (numberP l.tail) _ = _; exact bd_err (show numberP l.tail = .error ((hdT l.tail).place, 20) by unfold numberP kindP; rw [hk3]; rfl) _)
        have HK3 := Lib.hid hk3
        have H43 := Lib.hid h43
        have H45 := Lib.hid h45
        clear hk3 h43 h45
        have H0 := Lib.hid ((h.alloc (.cells (nodeCells t (.slice none 0 0)).toArray 31)).alloc (.cells zeroNodeCells.toArray 31))
        have HX0 := Lib.hid ((Blk.new w (nodeCells t (.slice none 0 0)) 31).alloc (.cells zeroNodeCells.toArray 31))
        have HB0 := Lib.hid (Blk.new2 w (.cells (nodeCells t (.slice none 0 0)).toArray 31) zeroNodeCells 31)
        have HK0 := Lib.hid (((Kp.refl E.pb w).alloc (.cells (nodeCells t (.slice none 0 0)).toArray 31)).alloc (.cells zeroNodeCells.toArray 31))
        have hplt := h.plt
        have htlt := h.tlt
        have hnum := hnum0
        clear h
        unfold NodeV
        go_enter Tryd.func92, Tryd.ntmps92
        go_wp2_with fail
        refine (rhas_no H0.out (bs [43]) key43 (good_is H43.out)).mono ?_
        rintro e w1 ⟨rfl, hb⟩
        have H1 := Lib.hid (H0.out.below hb)
        have HX1 := Lib.hid (HX0.out.below hb)
        have HB1 := Lib.hid (HB0.out.below hb)
        have HK1 := Lib.hid (HK0.out.trans (Kp.of_below hb))
        have hz1 := HB1.out.lt
        clear hb
        go_wp2_with fail
        refine (rhas_yes H1.out (bs [45]) key45 (by decide) H45.out).mono ?_
        rintro e w2 ⟨rfl, hs, hk⟩
        have H2 := Lib.hid hs
        have HX2 := Lib.hid (HX1.out.kp hk (by omega))
        have HB2 := Lib.hid (HB1.out.kp hk (by omega))
        have HK2 := Lib.hid (HK1.out.trans hk)
        have hz2 := HB2.out.lt
        clear hs hk
        go_wp2_with fail
        refine (rnumber_no H2.out HK3.out).mono ?_
        rintro e w9 ⟨rfl, hs, hk⟩
        have H9 := Lib.hid hs
        have HX9 := Lib.hid (HX2.out.kp hk (by omega))
        have HB9 := Lib.hid (HB2.out.kp hk (by omega))
        have HK9 := Lib.hid (HK2.out.trans hk)
        have hz9 := HB9.out.lt
        clear hs hk
        have hcell : w9.cell? ⟨w.heap.size, 2, none⟩ = some (.int .i64 t.num) := HX9.out.cell 2
        have hfroz := HX9.out.frozen 2
        have hng := trivial
        go_wp2_with (first
          | ((with_reducible refine at_ld 31 (.tmp 3) ?_); refine wpList_load_node rfl 31 (.tmp 3) rfl w.heap.size (t.setNum (0)) (.slice none 0 0) rfl (show Blk _ w.heap.size (nodeCells (t.setNum (0)) (.slice none 0 0)) 31 by rw [← nodeCells_setNum]; exact HX9.out.setSame 2 _) Tryd.underlying31 rfl Tryd.sizeRef ?_)
          | ((with_reducible refine at_st 31 (.tmp 4) ?_); refine wpList_store_blk rfl 31 (.tmp 4) (.tmp 23) rfl (w.heap.size + 1) (nodeCells (t.setNum (0)) (.slice none 0 0)) rfl rfl (HB9.out.setOther ⟨w.heap.size, 2, none⟩ _ (by show w.heap.size + 1 ≠ w.heap.size; omega)) Tryd.sizeRef rfl (nodeCells_one _ _ rfl) ?_))
        exact ret_blk (cs := nodeCells (t.setNum (0)) (.slice none 0 0)) Tryd.results92 rfl (HB9.out.setOther ⟨w.heap.size, 2, none⟩ _ (by show w.heap.size + 1 ≠ w.heap.size; omega)) Tryd.underlying31 rfl Tryd.sizeRef rfl (by rw [HP.out]; exact ⟨_, _, _, rfl, by rw [setNum_kids, HT.out]; exact KAt.nil _ _ _, by rw [setNum_kids, HT.out]; simp, H9.out.same (by simp [World.setRow, World.setCell]) ((setRow_other _ _ _ _ (by omega)).trans (Below.heap_setCell _ _ _ _ (by show _ ≠ w.heap.size; omega))) ((setRow_other _ _ _ _ (by omega)).trans (Below.heap_setCell _ _ _ _ (by show _ ≠ w.heap.size; omega))), (HK9.out.setNew (p := ⟨w.heap.size, 2, none⟩) (Nat.le_refl _) _).setRow (by omega) _, by decide⟩)
  | true =>
    cases hk3 : ((hdT l.tail).kind == 3) with
    | true =>
      have HP := Lib.hid (show moreP t l = .ok (t.setNum (((hdT l.tail).num : Int)), l.tail.tail) by unfold moreP sumP; rw [h43]; show bd (numberP l.tail) _ = _; rw [bd_ok (show numberP l.tail = .ok (((hdT l.tail).num : Int), l.tail.tail) by unfold numberP kindP; rw [hk3]; rfl)]; simp)
      have HK3 := Lib.hid hk3
      have H43 := Lib.hid h43
      clear hk3 h43
      have H0 := Lib.hid ((h.alloc (.cells (nodeCells t (.slice none 0 0)).toArray 31)).alloc (.cells zeroNodeCells.toArray 31))
      have HX0 := Lib.hid ((Blk.new w (nodeCells t (.slice none 0 0)) 31).alloc (.cells zeroNodeCells.toArray 31))
      have HB0 := Lib.hid (Blk.new2 w (.cells (nodeCells t (.slice none 0 0)).toArray 31) zeroNodeCells 31)
      have HK0 := Lib.hid (((Kp.refl E.pb w).alloc (.cells (nodeCells t (.slice none 0 0)).toArray 31)).alloc (.cells zeroNodeCells.toArray 31))
      have hplt := h.plt
      have htlt := h.tlt
      have hnum := hnum0
      clear h
      unfold NodeV
      go_enter Tryd.func92, Tryd.ntmps92
      go_wp2_with fail
      refine (rhas_yes H0.out (bs [43]) key43 (by decide) H43.out).mono ?_
      rintro e w2 ⟨rfl, hs, hk⟩
      have H2 := Lib.hid hs
      have HX2 := Lib.hid (HX0.out.kp hk (by omega))
      have HB2 := Lib.hid (HB0.out.kp hk (by omega))
      have HK2 := Lib.hid (HK0.out.trans hk)
      have hz2 := HB2.out.lt
      clear hs hk
      go_wp2_with fail
      refine (rnumber_ok H2.out HK3.out).mono ?_
      rintro e w9 ⟨rfl, hs, hk⟩
      have H9 := Lib.hid hs
      have HX9 := Lib.hid (HX2.out.kp hk (by omega))
      have HB9 := Lib.hid (HB2.out.kp hk (by omega))
      have HK9 := Lib.hid (HK2.out.trans hk)
      have hz9 := HB9.out.lt
      clear hs hk
      have hcell : w9.cell? ⟨w.heap.size, 2, none⟩ = some (.int .i64 t.num) := HX9.out.cell 2
      have hfroz := HX9.out.frozen 2
      have hng := trivial
      go_wp2_with (first
        | ((with_reducible refine at_ld 31 (.tmp 3) ?_); refine wpList_load_node rfl 31 (.tmp 3) rfl w.heap.size (t.setNum (((hdT l.tail).num : Int))) (.slice none 0 0) rfl (show Blk _ w.heap.size (nodeCells (t.setNum (((hdT l.tail).num : Int))) (.slice none 0 0)) 31 by rw [← nodeCells_setNum]; exact HX9.out.setSame 2 _) Tryd.underlying31 rfl Tryd.sizeRef ?_)
        | ((with_reducible refine at_st 31 (.tmp 4) ?_); refine wpList_store_blk rfl 31 (.tmp 4) (.tmp 14) rfl (w.heap.size + 1) (nodeCells (t.setNum (((hdT l.tail).num : Int))) (.slice none 0 0)) rfl rfl (HB9.out.setOther ⟨w.heap.size, 2, none⟩ _ (by show w.heap.size + 1 ≠ w.heap.size; omega)) Tryd.sizeRef rfl (nodeCells_one _ _ rfl) ?_))
      exact ret_blk (cs := nodeCells (t.setNum (((hdT l.tail).num : Int))) (.slice none 0 0)) Tryd.results92 rfl (HB9.out.setOther ⟨w.heap.size, 2, none⟩ _ (by show w.heap.size + 1 ≠ w.heap.size; omega)) Tryd.underlying31 rfl Tryd.sizeRef rfl (by rw [HP.out]; exact ⟨_, rfl, by rw [setNum_kids, HT.out]; exact KAt.nil _ _ _, H9.out.same (by simp [World.setRow, World.setCell]) ((setRow_other _ _ _ _ (by omega)).trans (Below.heap_setCell _ _ _ _ (by show _ ≠ w.heap.size; omega))) ((setRow_other _ _ _ _ (by omega)).trans (Below.heap_setCell _ _ _ _ (by show _ ≠ w.heap.size; omega))), (HK9.out.setNew (p := ⟨w.heap.size, 2, none⟩) (Nat.le_refl _) _).setRow (by omega) _, by simp only [List.length_tail]; omega⟩)
    | false =>
      have HP := Lib.hid (show moreP t l = .error ((hdT l.tail).place, 20) by unfold moreP sumP; rw [h43]; show bd (numberP l.tail) _ = _; exact bd_err (show numberP l.tail = .error ((hdT l.tail).place, 20) by unfold numberP kindP; rw [hk3]; rfl) _)
      have HK3 := Lib.hid hk3
      have H43 := Lib.hid h43
      clear hk3 h43
      have H0 := Lib.hid ((h.alloc (.cells (nodeCells t (.slice none 0 0)).toArray 31)).alloc (.cells zeroNodeCells.toArray 31))
      have HX0 := Lib.hid ((Blk.new w (nodeCells t (.slice none 0 0)) 31).alloc (.cells zeroNodeCells.toArray 31))
      have HB0 := Lib.hid (Blk.new2 w (.cells (nodeCells t (.slice none 0 0)).toArray 31) zeroNodeCells 31)
      have HK0 := Lib.hid (((Kp.refl E.pb w).alloc (.cells (nodeCells t (.slice none 0 0)).toArray 31)).alloc (.cells zeroNodeCells.toArray 31))
      have hplt := h.plt
      have htlt := h.tlt
      have hnum := hnum0
      clear h
      unfold NodeV
      go_enter Tryd.func92, Tryd.ntmps92
      go_wp2_with fail
      refine (rhas_yes H0.out (bs [43]) key43 (by decide) H43.out).mono ?_
      rintro e w2 ⟨rfl, hs, hk⟩
      have H2 := Lib.hid hs
      have HX2 := Lib.hid (HX0.out.kp hk (by omega))
      have HB2 := Lib.hid (HB0.out.kp hk (by omega))
      have HK2 := Lib.hid (HK0.out.trans hk)
      have hz2 := HB2.out.lt
      clear hs hk
      go_wp2_with fail
      refine (rnumber_no H2.out HK3.out).mono ?_
      rintro e w9 ⟨rfl, hs, hk⟩
      have H9 := Lib.hid hs
      have HX9 := Lib.hid (HX2.out.kp hk (by omega))
      have HB9 := Lib.hid (HB2.out.kp hk (by omega))
      have HK9 := Lib.hid (HK2.out.trans hk)
      have hz9 := HB9.out.lt
      clear hs hk
      have hcell : w9.cell? ⟨w.heap.size, 2, none⟩ = some (.int .i64 t.num) := HX9.out.cell 2
      have hfroz := HX9.out.frozen 2
      have hng := trivial
      go_wp2_with (first
        | ((with_reducible refine at_ld 31 (.tmp 3) ?_); refine wpList_load_node rfl 31 (.tmp 3) rfl w.heap.size (t.setNum (0)) (.slice none 0 0) rfl (show Blk _ w.heap.size (nodeCells (t.setNum (0)) (.slice none 0 0)) 31 by rw [← nodeCells_setNum]; exact HX9.out.setSame 2 _) Tryd.underlying31 rfl Tryd.sizeRef ?_)
        | ((with_reducible refine at_st 31 (.tmp 4) ?_); refine wpList_store_blk rfl 31 (.tmp 4) (.tmp 14) rfl (w.heap.size + 1) (nodeCells (t.setNum (0)) (.slice none 0 0)) rfl rfl (HB9.out.setOther ⟨w.heap.size, 2, none⟩ _ (by show w.heap.size + 1 ≠ w.heap.size; omega)) Tryd.sizeRef rfl (nodeCells_one _ _ rfl) ?_))
      exact ret_blk (cs := nodeCells (t.setNum (0)) (.slice none 0 0)) Tryd.results92 rfl (HB9.out.setOther ⟨w.heap.size, 2, none⟩ _ (by show w.heap.size + 1 ≠ w.heap.size; omega)) Tryd.underlying31 rfl Tryd.sizeRef rfl (by rw [HP.out]; exact ⟨_, _, _, rfl, by rw [setNum_kids, HT.out]; exact KAt.nil _ _ _, by rw [setNum_kids, HT.out]; simp, H9.out.same (by simp [World.setRow, World.setCell]) ((setRow_other _ _ _ _ (by omega)).trans (Below.heap_setCell _ _ _ _ (by show _ ≠ w.heap.size; omega))) ((setRow_other _ _ _ _ (by omega)).trans (Below.heap_setCell _ _ _ _ (by show _ ≠ w.heap.size; omega))), (HK9.out.setNew (p := ⟨w.heap.size, 2, none⟩) (Nat.le_refl _) _).setRow (by omega) _, by decide⟩)

end Go.Proofs.YtnmpfpnldcgbaaaDoor
