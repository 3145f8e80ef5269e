/- The contract of lychgateref02.term. -/
import Derived.Test.YtnmpfpnldcgbaaaDoorRefMore
namespace Go.Proofs.YtnmpfpnldcgbaaaDoor
open Go.RowKit

theorem RSt.draws {E : Env} {w : World} {l : List Tok} {d : Nat} {f : Int} {q : Nat} (h : RSt E w l d f q) (n : Nat) : RSt E (w.drewN n) l d f q := h.same (Nat.le_refl _) rfl rfl
theorem Blk.draws {w : World} {g : Nat} {cs : List Value} {t : TypeId} (h : Blk w g cs t) (n : Nat) : Blk (w.drewN n) g cs t := h
theorem Kp.draws {pb : Nat} {a w : World} (h : Kp pb a w) (n : Nat) : Kp pb a (w.drewN n) := ⟨h.os, h.tape, h.output, h.size, h.block⟩

set_option maxRecDepth 100000 in
set_option maxHeartbeats 4000000 in
theorem rterm_num {E : Env} {w : World} {l : List Tok} {d : Nat} {q : Nat} (h : RSt E w l d 0 q) (hk3 : ((hdT l).kind == 3) = true) :
    Calls Tryd.prog 77 #[.pointer (some ⟨E.pb, 0, none⟩)] w (RNode E w d q l (termP l)) := by
  have hk : (hdT l).kind = 3 := beq_iff_eq.1 hk3
  have hnm : isT (hdT l) (bs [45]) = false := by
    cases hi : isT (hdT l) (bs [45]) with
    | false => rfl
    | true => rcases keyOK_is h.headKey key45 hi with h' | h' <;> omega
  have HP := Lib.hid (show termP l = .ok (.mk 5 e0 ((hdT l).num : Int) (hdT l).place [], l.tail) by
    unfold termP numberTermP numberP kindP
    rw [hnm, hk]
    rfl)
  have H := Lib.hid h
  have HK3 := Lib.hid hk3
  have c0 : w.cell? ⟨E.pb, 0, none⟩ = some (.slice (some ⟨E.tb, 0, none⟩) E.ts.length E.cap) := h.blk.cell 0
  have c1 : w.cell? ⟨E.pb, 1, none⟩ = some (.int .i64 ((E.ts.length - l.length : Nat) : Int)) := h.blk.cell 1
  obtain ⟨t0, t1, t2, t3⟩ := h.tok
  have hkl : E.ts.length - l.length < E.ts.length := by have := h.head.1; have := h.le; omega
  have hlen := h.len
  have hcap := h.capb
  have hplt := h.plt
  have htlt := h.tlt
  have hnum := h.headOK.num
  have ix1 : (0 : Int) ≤ ((E.ts.length - l.length : Nat) : Int) := by omega
  have ix2 : (((E.ts.length - l.length : Nat) : Int)) < (E.ts.length : Int) := by omega
  have HB0 := Lib.hid (Blk.new w zeroNodeCells 31)
  rw [hk] at t0
  clear hnm hk3 hk
  generalize E.ts.length - l.length = k at *
  clear h
  go_enter Tryd.func77, Tryd.ntmps77
  go_wp2
  go_quiet (fail)
  go_wp2
  go_quiet (fail)
  go_wp2_with fail
  refine (rnumber_ok ((H.out.alloc _).draws _) HK3.out).mono ?_
  rintro e w2 ⟨rfl, hs, hk⟩
  have H2 := Lib.hid hs
  have HB2 := Lib.hid ((HB0.out.draws _).kp hk (by omega))
  have HK2 := Lib.hid ((((Kp.refl E.pb w).alloc _).draws _).trans hk)
  clear hs hk
  go_wp2_with ((with_reducible refine at_st 31 (.tmp 2) ?_); refine wpList_store_blk rfl 31 (.tmp 2) (.tmp 35) rfl w.heap.size (nodeCells (.mk 5 e0 ((hdT l).num : Int) (hdT l).place []) (.slice none 0 0)) rfl rfl HB2.out Tryd.sizeRef rfl (nodeCells_one _ _ rfl) ?_)
  exact ret_blk (cs := nodeCells (.mk 5 e0 ((hdT l).num : Int) (hdT l).place []) (.slice none 0 0)) Tryd.results77 rfl HB2.out Tryd.underlying31 rfl Tryd.sizeRef rfl (by rw [HP.out]; exact ⟨_, rfl, KAt.nil _ _ _, H2.out.same (by simp [World.setRow]) (setRow_other _ _ _ _ (by omega)) (setRow_other _ _ _ _ (by omega)), HK2.out.setRow (Nat.le_refl _) _, by rw [List.length_tail]; omega⟩)

set_option maxRecDepth 100000 in
set_option maxHeartbeats 4000000 in
theorem rterm_neg {E : Env} {w : World} {l : List Tok} {d : Nat} {q : Nat} (h : RSt E w l d 0 q) (h45 : isT (hdT l) (bs [45]) = true) (hk3 : ((hdT l.tail).kind == 3) = true) :
    Calls Tryd.prog 77 #[.pointer (some ⟨E.pb, 0, none⟩)] w (RNode E w d q l (termP l)) := by
  have hkd := keyOK_is h.headKey key45 h45
  have hk1 : ((hdT l).kind == 1) = false := beq_eq_false_iff_ne.2 (by omega)
  have hne3 : (((hdT l).kind : Int) == 3) = false := by simp; omega
  have HP := Lib.hid (show termP l = .ok (.mk 5 e0 (-((hdT l.tail).num : Int)) (hdT l).place [], l.tail.tail) by
    unfold termP numberTermP
    rw [hk1, h45]
    show bd (numberP l.tail) _ = _
    rw [bd_ok (show numberP l.tail = .ok (((hdT l.tail).num : Int), l.tail.tail) by unfold numberP kindP; rw [hk3]; rfl)])
  have hnum0 : (hdT l.tail).num ≤ 1099511627776 := by
    rcases Nat.eq_zero_or_pos l.tail.length with h0 | h0
    · rw [List.eq_nil_of_length_eq_zero h0]; simp [hdT, zeroTok]
    · refine (h.ok _ ?_).num
      have e1 : hdT l.tail ∈ l.tail := by cases hl : l.tail with
        | nil => rw [hl] at h0; simp at h0
        | cons a b => simp [hdT]
      exact List.mem_of_mem_drop (i := E.ts.length - l.length) (by rw [← h.suf]; exact List.mem_of_mem_tail e1)
  have H := Lib.hid h
  have HK3 := Lib.hid hk3
  have H45 := Lib.hid h45
  have c0 : w.cell? ⟨E.pb, 0, none⟩ = some (.slice (some ⟨E.tb, 0, none⟩) E.ts.length E.cap) := h.blk.cell 0
  have c1 : w.cell? ⟨E.pb, 1, none⟩ = some (.int .i64 ((E.ts.length - l.length : Nat) : Int)) := h.blk.cell 1
  obtain ⟨t0, t1, t2, t3⟩ := h.tok
  have hkl : E.ts.length - l.length < E.ts.length := by have := h.head.1; have := h.le; omega
  have hlen := h.len
  have hcap := h.capb
  have hplt := h.plt
  have htlt := h.tlt
  have hnum := h.headOK.num
  have ix1 : (0 : Int) ≤ ((E.ts.length - l.length : Nat) : Int) := by omega
  have ix2 : (((E.ts.length - l.length : Nat) : Int)) < (E.ts.length : Int) := by omega
  have HB0 := Lib.hid (Blk.new w zeroNodeCells 31)
  clear hk3 h45 hk1 hkd
  generalize E.ts.length - l.length = k at *
  clear h
  go_enter Tryd.func77, Tryd.ntmps77
  go_wp2
  go_quiet (fail)
  go_wp2
  go_quiet (fail)
  go_wp2_with fail
  refine (rhas_yes ((H.out.alloc _).draws _) (bs [45]) key45 (by decide) H45.out).mono ?_
  rintro e w1 ⟨rfl, hs, hk⟩
  have H1 := Lib.hid hs
  have HB1 := Lib.hid ((HB0.out.draws _).kp hk (by omega))
  have HK1 := Lib.hid ((((Kp.refl E.pb w).alloc _).draws _).trans hk)
  have hz1 := HB1.out.lt
  clear hs hk
  go_wp2_with fail
  refine (rnumber_ok H1.out HK3.out).mono ?_
  rintro e w2 ⟨rfl, hs, hk⟩
  have H2 := Lib.hid hs
  have HB2 := Lib.hid (HB1.out.kp hk (by omega))
  have HK2 := Lib.hid (HK1.out.trans hk)
  clear hs hk
  have hng : IntKind.i64.wrap (-((hdT l.tail).num : Int)) = -((hdT l.tail).num : Int) := IntWalk.i64_in _ (by omega)
  go_wp2_with ((with_reducible refine at_st 31 (.tmp 2) ?_); refine wpList_store_blk rfl 31 (.tmp 2) (.tmp 44) rfl w.heap.size (nodeCells (.mk 5 e0 (-((hdT l.tail).num : Int)) (hdT l).place []) (.slice none 0 0)) rfl rfl HB2.out Tryd.sizeRef rfl (nodeCells_one _ _ rfl) ?_)
  exact ret_blk (cs := nodeCells (.mk 5 e0 (-((hdT l.tail).num : Int)) (hdT l).place []) (.slice none 0 0)) Tryd.results77 rfl HB2.out Tryd.underlying31 rfl Tryd.sizeRef rfl (by rw [HP.out]; exact ⟨_, rfl, KAt.nil _ _ _, H2.out.same (by simp [World.setRow]) (setRow_other _ _ _ _ (by omega)) (setRow_other _ _ _ _ (by omega)), HK2.out.setRow (Nat.le_refl _) _, by simp only [List.length_tail]; omega⟩)

set_option maxRecDepth 100000 in
set_option maxHeartbeats 4000000 in
theorem rterm_negF {E : Env} {w : World} {l : List Tok} {d : Nat} {q : Nat} (h : RSt E w l d 0 q) (h45 : isT (hdT l) (bs [45]) = true) (hk3 : ((hdT l.tail).kind == 3) = false) :
    Calls Tryd.prog 77 #[.pointer (some ⟨E.pb, 0, none⟩)] w (RNode E w d q l (termP l)) := by
  have hkd := keyOK_is h.headKey key45 h45
  have hk1 : ((hdT l).kind == 1) = false := beq_eq_false_iff_ne.2 (by omega)
  have hne3 : (((hdT l).kind : Int) == 3) = false := by simp; omega
  have HP := Lib.hid (show termP l = .error ((hdT l.tail).place, 20) by
    unfold termP numberTermP
    rw [hk1, h45]
    show bd (numberP l.tail) _ = _
    exact bd_err (show numberP l.tail = .error ((hdT l.tail).place, 20) by unfold numberP kindP; rw [hk3]; rfl) _)
  have hnum0 : (hdT l.tail).num ≤ 1099511627776 := by
    rcases Nat.eq_zero_or_pos l.tail.length with h0 | h0
    · rw [List.eq_nil_of_length_eq_zero h0]; simp [hdT, zeroTok]
    · refine (h.ok _ ?_).num
      have e1 : hdT l.tail ∈ l.tail := by cases hl : l.tail with
        | nil => rw [hl] at h0; simp at h0
        | cons a b => simp [hdT]
      exact List.mem_of_mem_drop (i := E.ts.length - l.length) (by rw [← h.suf]; exact List.mem_of_mem_tail e1)
  have H := Lib.hid h
  have HK3 := Lib.hid hk3
  have H45 := Lib.hid h45
  have c0 : w.cell? ⟨E.pb, 0, none⟩ = some (.slice (some ⟨E.tb, 0, none⟩) E.ts.length E.cap) := h.blk.cell 0
  have c1 : w.cell? ⟨E.pb, 1, none⟩ = some (.int .i64 ((E.ts.length - l.length : Nat) : Int)) := h.blk.cell 1
  obtain ⟨t0, t1, t2, t3⟩ := h.tok
  have hkl : E.ts.length - l.length < E.ts.length := by have := h.head.1; have := h.le; omega
  have hlen := h.len
  have hcap := h.capb
  have hplt := h.plt
  have htlt := h.tlt
  have hnum := h.headOK.num
  have ix1 : (0 : Int) ≤ ((E.ts.length - l.length : Nat) : Int) := by omega
  have ix2 : (((E.ts.length - l.length : Nat) : Int)) < (E.ts.length : Int) := by omega
  have HB0 := Lib.hid (Blk.new w zeroNodeCells 31)
  clear hk3 h45 hk1 hkd
  generalize E.ts.length - l.length = k at *
  clear h
  go_enter Tryd.func77, Tryd.ntmps77
  go_wp2
  go_quiet (fail)
  go_wp2
  go_quiet (fail)
  go_wp2_with fail
  refine (rhas_yes ((H.out.alloc _).draws _) (bs [45]) key45 (by decide) H45.out).mono ?_
  rintro e w1 ⟨rfl, hs, hk⟩
  have H1 := Lib.hid hs
  have HB1 := Lib.hid ((HB0.out.draws _).kp hk (by omega))
  have HK1 := Lib.hid ((((Kp.refl E.pb w).alloc _).draws _).trans hk)
  have hz1 := HB1.out.lt
  clear hs hk
  go_wp2_with fail
  refine (rnumber_no H1.out HK3.out).mono ?_
  rintro e w2 ⟨rfl, hs, hk⟩
  have H2 := Lib.hid hs
  have HB2 := Lib.hid (HB1.out.kp hk (by omega))
  have HK2 := Lib.hid (HK1.out.trans hk)
  clear hs hk
  go_wp2_with ((with_reducible refine at_st 31 (.tmp 2) ?_); refine wpList_store_blk rfl 31 (.tmp 2) (.tmp 44) rfl w.heap.size (nodeCells (.mk 5 e0 0 (hdT l).place []) (.slice none 0 0)) rfl rfl HB2.out Tryd.sizeRef rfl (nodeCells_one _ _ rfl) ?_)
  exact ret_blk (cs := nodeCells (.mk 5 e0 0 (hdT l).place []) (.slice none 0 0)) Tryd.results77 rfl HB2.out Tryd.underlying31 rfl Tryd.sizeRef rfl (by rw [HP.out]; exact ⟨_, _, _, rfl, KAt.nil _ _ _, Nat.zero_le _, H2.out.same (by simp [World.setRow]) (setRow_other _ _ _ _ (by omega)) (setRow_other _ _ _ _ (by omega)), HK2.out.setRow (Nat.le_refl _) _, by decide⟩)

set_option maxRecDepth 100000 in
set_option maxHeartbeats 4000000 in
theorem rterm_name {E : Env} {w : World} {l : List Tok} {d : Nat} {q : Nat} (h : RSt E w l d 0 q) (hk1 : ((hdT l).kind == 1) = true) :
    Calls Tryd.prog 77 #[.pointer (some ⟨E.pb, 0, none⟩)] w (RNode E w d q l (termP l)) := by
  have hkd : (hdT l).kind = 1 := beq_iff_eq.1 hk1
  have hne3 : (((hdT l).kind : Int) == 3) = false := by rw [hkd]; rfl
  have H45 := Lib.hid (show isT (hdT l) (bs [45]) = false by
    cases hi : isT (hdT l) (bs [45]) with
    | false => rfl
    | true => rcases keyOK_is h.headKey key45 hi with h' | h' <;> omega)
  have HP := Lib.hid (show termP l = moreP (.mk 5 (hdT l).text 0 (hdT l).place []) l.tail by
    unfold termP
    rw [hk1]
    show bd (nameTermP l) _ = _
    rw [bd_ok (show nameTermP l = .ok ((.mk 5 (hdT l).text 0 (hdT l).place []), l.tail) by unfold nameTermP nameP kindP; rw [hk1]; rfl)]
    rfl)
  have H := Lib.hid h
  have HK1K := Lib.hid hk1
  have c0 : w.cell? ⟨E.pb, 0, none⟩ = some (.slice (some ⟨E.tb, 0, none⟩) E.ts.length E.cap) := h.blk.cell 0
  have c1 : w.cell? ⟨E.pb, 1, none⟩ = some (.int .i64 ((E.ts.length - l.length : Nat) : Int)) := h.blk.cell 1
  obtain ⟨t0, t1, t2, t3⟩ := h.tok
  have hkl : E.ts.length - l.length < E.ts.length := by have := h.head.1; have := h.le; omega
  have hlen := h.len
  have hcap := h.capb
  have hplt := h.plt
  have htlt := h.tlt
  have hnum := h.headOK.num
  have ix1 : (0 : Int) ≤ ((E.ts.length - l.length : Nat) : Int) := by omega
  have ix2 : (((E.ts.length - l.length : Nat) : Int)) < (E.ts.length : Int) := by omega
  have HB0 := Lib.hid (Blk.new w zeroNodeCells 31)
  clear hk1 hkd
  generalize E.ts.length - l.length = k at *
  clear h
  go_enter Tryd.func77, Tryd.ntmps77
  go_wp2
  go_quiet (fail)
  go_wp2
  go_quiet (fail)
  go_wp2_with fail
  refine (rhas_no ((H.out.alloc _).draws _) (bs [45]) key45 (good_is H45.out)).mono ?_
  rintro e w1 ⟨rfl, hb⟩
  have H1 := Lib.hid (((H.out.alloc _).draws _).below hb)
  have HB1 := Lib.hid ((HB0.out.draws _).below hb)
  have HK1 := Lib.hid ((((Kp.refl E.pb w).alloc _).draws _).trans (Kp.of_below hb))
  have hz1 := HB1.out.lt
  clear hb
  go_wp2_with fail
  refine (rname_ok H1.out HK1K.out).mono ?_
  rintro e w2 ⟨rfl, hs, hk⟩
  have H2 := Lib.hid hs
  have HB2 := Lib.hid (HB1.out.kp hk (by omega))
  have HK2 := Lib.hid (HK1.out.trans hk)
  have hz2 := HB2.out.lt
  clear hs hk
  unfold NodeV
  go_wp2_with (first
    | ((with_reducible refine at_st 31 (.tmp 7) ?_); refine wpList_store_new rfl 31 (.tmp 7) (.tmp 46) rfl (nodeCells ((.mk 5 (hdT l).text 0 (hdT l).place [])) (.slice none 0 0)) (old := zeroNodeCells) rfl rfl Tryd.sizeRef rfl (nodeCells_one _ _ rfl) ?_)
    | ((with_reducible refine at_ld 31 (.tmp 7) ?_); refine wpList_load_node rfl 31 (.tmp 7) rfl w2.heap.size ((.mk 5 (hdT l).text 0 (hdT l).place [])) (.slice none 0 0) rfl (Blk.new w2 _ _) Tryd.underlying31 rfl Tryd.sizeRef ?_))
  refine (rmore_any (H2.out.alloc _) (.mk 5 (hdT l).text 0 (hdT l).place []) rfl).mono ?_
  intro e w4 hp
  cases hm : moreP (.mk 5 (hdT l).text 0 (hdT l).place []) l.tail with
  | ok r =>
    obtain ⟨t4, l4⟩ := r
    rw [hm] at hp
    obtain ⟨v4, rfl, hk4, hs4, hkp, hll⟩ := hp
    have H4 := Lib.hid hs4
    have HV4 := Lib.hid (show KAt 31 w4 t4.kids (fun b => w.heap.size < b) v4 from hk4.mono (fun b hb _ => by simp at hb; omega))
    have HB4 := Lib.hid ((HB2.out.alloc _).kp hkp (by omega))
    have HK4 := Lib.hid ((HK2.out.alloc _).trans hkp)
    have HPM := Lib.hid (HP.out.trans hm)
    have hl4 : l4.length ≤ l.length := by rw [List.length_tail] at hll; omega
    clear hm hk4 hs4 hkp hll
    unfold NodeV
    go_wp2_with ((with_reducible refine at_st 31 (.tmp 2) ?_); refine wpList_store_blk rfl 31 (.tmp 2) (.tmp 49) rfl w.heap.size (nodeCells (t4) v4) rfl rfl HB4.out Tryd.sizeRef rfl (nodeCells_one _ _ HV4.out.one) ?_)
    exact ret_blk (cs := nodeCells (t4) v4) Tryd.results77 rfl HB4.out Tryd.underlying31 rfl Tryd.sizeRef rfl (by rw [HPM.out]; exact ⟨v4, rfl, (HV4.out.setRow _ _ (fun b hb => by omega)).mono (fun b hb _ => by omega), H4.out.same (by simp [World.setRow]) (setRow_other _ _ _ _ (by omega)) (setRow_other _ _ _ _ (by omega)), HK4.out.setRow (Nat.le_refl _) _, hl4⟩)
  | error pc =>
    obtain ⟨p4, c4⟩ := pc
    rw [hm] at hp
    obtain ⟨t4, v4, lf, rfl, hk4, hn4, hs4, hkp, hc4⟩ := hp
    have H4 := Lib.hid hs4
    have HV4 := Lib.hid (show KAt 31 w4 t4.kids (fun b => w.heap.size < b) v4 from hk4.mono (fun b hb _ => by simp at hb; omega))
    have HB4 := Lib.hid ((HB2.out.alloc _).kp hkp (by omega))
    have HK4 := Lib.hid ((HK2.out.alloc _).trans hkp)
    have HPM := Lib.hid (HP.out.trans hm)
    have HC4 := Lib.hid hc4
    have HN4 := Lib.hid hn4
    clear hm hk4 hs4 hkp hc4 hn4
    unfold NodeV
    go_wp2_with ((with_reducible refine at_st 31 (.tmp 2) ?_); refine wpList_store_blk rfl 31 (.tmp 2) (.tmp 49) rfl w.heap.size (nodeCells (t4) v4) rfl rfl HB4.out Tryd.sizeRef rfl (nodeCells_one _ _ HV4.out.one) ?_)
    exact ret_blk (cs := nodeCells (t4) v4) Tryd.results77 rfl HB4.out Tryd.underlying31 rfl Tryd.sizeRef rfl (by rw [HPM.out]; exact ⟨t4, v4, lf, rfl, (HV4.out.setRow _ _ (fun b hb => by omega)).mono (fun b hb _ => by omega), HN4.out, H4.out.same (by simp [World.setRow]) (setRow_other _ _ _ _ (by omega)) (setRow_other _ _ _ _ (by omega)), HK4.out.setRow (Nat.le_refl _) _, HC4.out⟩)

set_option maxRecDepth 100000 in
set_option maxHeartbeats 4000000 in
theorem rterm_no {E : Env} {w : World} {l : List Tok} {d : Nat} {q : Nat} (h : RSt E w l d 0 q) (hk1 : ((hdT l).kind == 1) = false) (hk3 : ((hdT l).kind == 3) = false) (h45 : isT (hdT l) (bs [45]) = false) :
    Calls Tryd.prog 77 #[.pointer (some ⟨E.pb, 0, none⟩)] w (RNode E w d q l (termP l)) := by
  have hne3 : (((hdT l).kind : Int) == 3) = false := by simp at hk3 ⊢; omega
  have HP := Lib.hid (show termP l = .error ((hdT l).place, 20) by
    unfold termP numberTermP
    rw [hk1, h45]
    show bd (numberP l) _ = _
    exact bd_err (show numberP l = .error ((hdT l).place, 20) by unfold numberP kindP; rw [hk3]; rfl) _)
  have H := Lib.hid h
  have H45 := Lib.hid h45
  have HK1K := Lib.hid hk1
  have c0 : w.cell? ⟨E.pb, 0, none⟩ = some (.slice (some ⟨E.tb, 0, none⟩) E.ts.length E.cap) := h.blk.cell 0
  have c1 : w.cell? ⟨E.pb, 1, none⟩ = some (.int .i64 ((E.ts.length - l.length : Nat) : Int)) := h.blk.cell 1
  obtain ⟨t0, t1, t2, t3⟩ := h.tok
  have hkl : E.ts.length - l.length < E.ts.length := by have := h.head.1; have := h.le; omega
  have hlen := h.len
  have hcap := h.capb
  have hplt := h.plt
  have htlt := h.tlt
  have hnum := h.headOK.num
  have ix1 : (0 : Int) ≤ ((E.ts.length - l.length : Nat) : Int) := by omega
  have ix2 : (((E.ts.length - l.length : Nat) : Int)) < (E.ts.length : Int) := by omega
  have HB0 := Lib.hid (Blk.new w zeroNodeCells 31)
  clear hk1 hk3 h45
  generalize E.ts.length - l.length = k at *
  clear h
  go_enter Tryd.func77, Tryd.ntmps77
  go_wp2
  go_quiet (fail)
  go_wp2
  go_quiet (fail)
  go_wp2_with fail
  refine (rhas_no ((H.out.alloc _).draws _) (bs [45]) key45 (good_is H45.out)).mono ?_
  rintro e w1 ⟨rfl, hb⟩
  have H1 := Lib.hid (((H.out.alloc _).draws _).below hb)
  have HB1 := Lib.hid ((HB0.out.draws _).below hb)
  have HK1 := Lib.hid ((((Kp.refl E.pb w).alloc _).draws _).trans (Kp.of_below hb))
  have hz1 := HB1.out.lt
  clear hb
  go_wp2_with fail
  refine (rname_no H1.out HK1K.out).mono ?_
  rintro e w2 ⟨rfl, hs, hk⟩
  have H2 := Lib.hid hs
  have HB2 := Lib.hid (HB1.out.kp hk (by omega))
  have HK2 := Lib.hid (HK1.out.trans hk)
  have hz2 := HB2.out.lt
  clear hs hk
  unfold NodeV
  go_wp2_with (first
    | ((with_reducible refine at_st 31 (.tmp 7) ?_); refine wpList_store_new rfl 31 (.tmp 7) (.tmp 46) rfl (nodeCells (zeroT) (.slice none 0 0)) (old := zeroNodeCells) rfl rfl Tryd.sizeRef rfl (nodeCells_one _ _ rfl) ?_)
    | ((with_reducible refine at_ld 31 (.tmp 7) ?_); refine wpList_load_node rfl 31 (.tmp 7) rfl w2.heap.size (zeroT) (.slice none 0 0) rfl (Blk.new w2 _ _) Tryd.underlying31 rfl Tryd.sizeRef ?_))
  refine (rmore_bad (H2.out.alloc _) (by decide) zeroT rfl).mono ?_
  rintro e w4 ⟨t4, v4, rfl, hk4, hn4, hb4⟩
  have H4 := Lib.hid ((H2.out.alloc _).below hb4)
  have HV4 := Lib.hid (show KAt 31 w4 t4.kids (fun b => w.heap.size < b) v4 from hk4.mono (fun b hb _ => by simp at hb; omega))
  have HB4 := Lib.hid ((HB2.out.alloc _).below hb4)
  have HK4 := Lib.hid ((HK2.out.alloc _).trans (Kp.of_below hb4))
  have HN4 := Lib.hid (show t4.kids.length ≤ 40000 by omega)
  clear hk4 hn4 hb4
  unfold NodeV
  go_wp2_with ((with_reducible refine at_st 31 (.tmp 2) ?_); refine wpList_store_blk rfl 31 (.tmp 2) (.tmp 49) rfl w.heap.size (nodeCells (t4) v4) rfl rfl HB4.out Tryd.sizeRef rfl (nodeCells_one _ _ HV4.out.one) ?_)
  exact ret_blk (cs := nodeCells (t4) v4) Tryd.results77 rfl HB4.out Tryd.underlying31 rfl Tryd.sizeRef rfl (by rw [HP.out]; exact ⟨t4, v4, l, rfl, (HV4.out.setRow _ _ (fun b hb => by omega)).mono (fun b hb _ => by omega), HN4.out, H4.out.same (by simp [World.setRow]) (setRow_other _ _ _ _ (by omega)) (setRow_other _ _ _ _ (by omega)), HK4.out.setRow (Nat.le_refl _) _, by decide⟩)

theorem rterm_any {E : Env} {w : World} {l : List Tok} {d : Nat} {q : Nat} (h : RSt E w l d 0 q) :
    Calls Tryd.prog 77 #[.pointer (some ⟨E.pb, 0, none⟩)] w (RNode E w d q l (termP l)) := by
  cases hk3 : ((hdT l).kind == 3) with
  | true => exact rterm_num h hk3
  | false =>
    cases h45 : isT (hdT l) (bs [45]) with
    | true =>
      cases hk : ((hdT l.tail).kind == 3) with
      | true => exact rterm_neg h h45 hk
      | false => exact rterm_negF h h45 hk
    | false =>
      cases hk1 : ((hdT l).kind == 1) with
      | true => exact rterm_name h hk1
      | false => exact rterm_no h hk1 hk3 h45

set_option maxRecDepth 100000 in
set_option maxHeartbeats 4000000 in
theorem rterm_bad {E : Env} {w : World} {l : List Tok} {d : Nat} {f : Int} {q : Nat} (h : RSt E w l d f q) (hf : (f == 0) = false) :
    Calls Tryd.prog 77 #[.pointer (some ⟨E.pb, 0, none⟩)] w (RJunk w) := by
  have H := Lib.hid h
  have HF := Lib.hid hf
  have HW0 := Lib.hid ((Below.refl w.heap.size w).alloc (Nat.le_refl _) (.cells zeroNodeCells.toArray 31))
  cases hk3 : ((hdT l).kind == 3) with
  | true =>
    have hk : (hdT l).kind = 3 := beq_iff_eq.1 hk3
    have c0 : w.cell? ⟨E.pb, 0, none⟩ = some (.slice (some ⟨E.tb, 0, none⟩) E.ts.length E.cap) := h.blk.cell 0
    have c1 : w.cell? ⟨E.pb, 1, none⟩ = some (.int .i64 ((E.ts.length - l.length : Nat) : Int)) := h.blk.cell 1
    obtain ⟨t0, t1, t2, t3⟩ := h.tok
    have hkl : E.ts.length - l.length < E.ts.length := by have := h.head.1; have := h.le; omega
    have hlen := h.len
    have hcap := h.capb
    have hplt := h.plt
    have htlt := h.tlt
    have hnum := h.headOK.num
    have ix1 : (0 : Int) ≤ ((E.ts.length - l.length : Nat) : Int) := by omega
    have ix2 : (((E.ts.length - l.length : Nat) : Int)) < (E.ts.length : Int) := by omega
    have HB0 := Lib.hid (Blk.new w zeroNodeCells 31)
    rw [hk] at t0
    clear hk3 hk hf
    generalize E.ts.length - l.length = k at *
    clear h
    go_enter Tryd.func77, Tryd.ntmps77
    go_wp2
    go_quiet (fail)
    go_wp2
    go_quiet (fail)
    go_wp2_with fail
    refine (rnumber_bad ((H.out.alloc _).draws _) HF.out).mono ?_
    rintro e w2 ⟨rfl, hb⟩
    have HB2 := Lib.hid ((HB0.out.draws _).below hb)
    have HW2 := Lib.hid ((below_dr HW0.out _).trans (hb.mono (below_dr HW0.out _).size))
    clear hb
    go_wp2_with ((with_reducible refine at_st 31 (.tmp 2) ?_); refine wpList_store_blk rfl 31 (.tmp 2) (.tmp 35) rfl w.heap.size (nodeCells (.mk 5 e0 0 (hdT l).place []) (.slice none 0 0)) rfl rfl HB2.out Tryd.sizeRef rfl (nodeCells_one _ _ rfl) ?_)
    exact ret_blk (cs := nodeCells (.mk 5 e0 0 (hdT l).place []) (.slice none 0 0)) Tryd.results77 rfl HB2.out Tryd.underlying31 rfl Tryd.sizeRef rfl (⟨_, _, rfl, KAt.nil _ _ _, Nat.zero_le _, rbelow_setRow HW2.out (Nat.le_refl _) _⟩)
  | false =>
    have hne3 : (((hdT l).kind : Int) == 3) = false := by simp at hk3 ⊢; omega
    have c0 : w.cell? ⟨E.pb, 0, none⟩ = some (.slice (some ⟨E.tb, 0, none⟩) E.ts.length E.cap) := h.blk.cell 0
    have c1 : w.cell? ⟨E.pb, 1, none⟩ = some (.int .i64 ((E.ts.length - l.length : Nat) : Int)) := h.blk.cell 1
    obtain ⟨t0, t1, t2, t3⟩ := h.tok
    have hkl : E.ts.length - l.length < E.ts.length := by have := h.head.1; have := h.le; omega
    have hlen := h.len
    have hcap := h.capb
    have hplt := h.plt
    have htlt := h.tlt
    have hnum := h.headOK.num
    have ix1 : (0 : Int) ≤ ((E.ts.length - l.length : Nat) : Int) := by omega
    have ix2 : (((E.ts.length - l.length : Nat) : Int)) < (E.ts.length : Int) := by omega
    have HB0 := Lib.hid (Blk.new w zeroNodeCells 31)
    clear hk3 hf
    generalize E.ts.length - l.length = k at *
    clear h
    go_enter Tryd.func77, Tryd.ntmps77
    go_wp2
    go_quiet (fail)
    go_wp2
    go_quiet (fail)
    go_wp2_with fail
    refine (rhas_no ((H.out.alloc _).draws _) (bs [45]) key45 (bad_is HF.out _)).mono ?_
    rintro e w1 ⟨rfl, hb⟩
    have H1 := Lib.hid (((H.out.alloc _).draws _).below hb)
    have HB1 := Lib.hid ((HB0.out.draws _).below hb)
    have HK1 := Lib.hid ((((Kp.refl E.pb w).alloc _).draws _).trans (Kp.of_below hb))
    have hz1 := HB1.out.lt
    have HW1 := Lib.hid ((below_dr HW0.out _).trans (hb.mono (below_dr HW0.out _).size))
    clear hb
    go_wp2_with fail
    refine (rname_bad H1.out HF.out).mono ?_
    rintro e w2 ⟨rfl, hb⟩
    have H2 := Lib.hid (H1.out.below hb)
    have HB2 := Lib.hid (HB1.out.below hb)
    have HW2 := Lib.hid ((HW1.out.trans (hb.mono HW1.out.size)).alloc (Nat.le_trans HW1.out.size hb.size) (.cells (nodeCells zeroT (.slice none 0 0)).toArray 31))
    have hz2 := HB2.out.lt
    clear hb
    unfold NodeV
    go_wp2_with (first
      | ((with_reducible refine at_st 31 (.tmp 7) ?_); refine wpList_store_new rfl 31 (.tmp 7) (.tmp 46) rfl (nodeCells (zeroT) (.slice none 0 0)) (old := zeroNodeCells) rfl rfl Tryd.sizeRef rfl (nodeCells_one _ _ rfl) ?_)
      | ((with_reducible refine at_ld 31 (.tmp 7) ?_); refine wpList_load_node rfl 31 (.tmp 7) rfl w2.heap.size (zeroT) (.slice none 0 0) rfl (Blk.new w2 _ _) Tryd.underlying31 rfl Tryd.sizeRef ?_))
    refine (rmore_bad (H2.out.alloc _) HF.out zeroT rfl).mono ?_
    rintro e w4 ⟨t4, v4, rfl, hk4, hn4, hb4⟩
    have HV4 := Lib.hid (show KAt 31 w4 t4.kids (fun b => w.heap.size < b) v4 from hk4.mono (fun b hb _ => by simp at hb; omega))
    have HB4 := Lib.hid ((HB2.out.alloc _).below hb4)
    have HW4 := Lib.hid (HW2.out.trans (hb4.mono HW2.out.size))
    have HN4 := Lib.hid hn4
    clear hk4 hn4 hb4
    unfold NodeV
    go_wp2_with ((with_reducible refine at_st 31 (.tmp 2) ?_); refine wpList_store_blk rfl 31 (.tmp 2) (.tmp 49) rfl w.heap.size (nodeCells (t4) v4) rfl rfl HB4.out Tryd.sizeRef rfl (nodeCells_one _ _ HV4.out.one) ?_)
    exact ret_blk (cs := nodeCells (t4) v4) Tryd.results77 rfl HB4.out Tryd.underlying31 rfl Tryd.sizeRef rfl (⟨t4, v4, rfl, (HV4.out.setRow _ _ (fun b hb => by omega)).mono (fun b hb _ => by omega), HN4.out, rbelow_setRow HW4.out (Nat.le_refl _) _⟩)

end Go.Proofs.YtnmpfpnldcgbaaaDoor
