/- The contracts of the parser's compare, fact, field, sort, valueMode, mode, param. -/
import Derived.Test.YtdkdidgeaalcgaaDoorP08
namespace Go.Proofs.YtdkdidgeaalcgaaDoor
open Go.RowKit

set_option maxRecDepth 100000 in
set_option maxHeartbeats 1000000 in
theorem compare_any {E : Env} {w : World} {l : List Tok} {d : Nat} (h : PSt E w l d) (k : Int) (pl : Nat) :
    Calls Tryd.prog 75 #[.pointer (some ⟨E.pb, 0, none⟩), .int .i64 k, .int .i64 pl] w (PPost VNode E w l d (compareP k pl l)) := by
  have HR0 := Lib.hid ((Run.start h).alloc (.cells zeroNodeCells.toArray 39))
  have HB0 := Lib.hid (Blk.new w zeroNodeCells 39)
  have hlo := h.plt
  have hlt := h.tlt
  have hln := h.len
  clear h
  go_enter Tryd.func75, Tryd.ntmps75
  go_wp2_with fail
  refine (term_any HR0.out.st).mono ?_
  intro e w1 hp
  cases hr : termP l with
  | error pc =>
    obtain ⟨p, c⟩ := pc
    obtain ⟨rfl, hk, hcd⟩ := hp.err hr
    have HK := Lib.hid (HR0.out.kp.trans hk)
    have HP := Lib.hid (show compareP k pl l = .error (p, c) by unfold compareP; exact (bd_err hr _))
    clear hr hp hk
    go_wp2
    exact ⟨rfl, Run.err HK.out HP.out hcd⟩
  | ok q =>
    obtain ⟨a1, l1⟩ := q
    obtain ⟨v1, rfl, hv, hs, hl, hk⟩ := hp.ok hr
    obtain ⟨kv1, rfl, ht⟩ := hv
    have HT1 := Lib.hid (ht.weak HB0.out.lt)
    have HR1 := Lib.hid (HR0.out.call hk hs)
    have hzR1 := HR1.out.size
    have HB1 := Lib.hid (HB0.out.kp hk (by omega))
    have hzHB1 := HB1.out.lt
    have HL1 := Lib.hid hl
    have H1 := Lib.hid hr
    clear hr hp hs hl hk ht
    unfold NodeV
    go_wp2_with ((with_reducible refine at_st 39 (.tmp 7) ?_); refine wpList_store_new rfl 39 (.tmp 7) (.tmp 10) rfl (nodeCells (a1) (kv1)) (old := zeroNodeCells) rfl rfl Tryd.sizeNode rfl (nodeCells_one _ _ HT1.out.kat.one) ?_)
    go_wp2_with fail
    refine (expect_at (HR1.out.alloc _).st [bs [60], bs [60, 61], bs [61, 61]] (by decide) (by decide) (by simp) rfl rfl).mono ?_
    intro e w2 hp
    cases hr : expectP [bs [60], bs [60, 61], bs [61, 61]] l1 with
    | error pc =>
      obtain ⟨p, c⟩ := pc
      obtain ⟨rfl, hk, hcd⟩ := hp.err hr
      have HK := Lib.hid ((HR1.out.alloc _).kp.trans hk)
      have HP := Lib.hid (show compareP k pl l = .error (p, c) by unfold compareP; exact ((bd_ok H1.out _)).trans ((bd_err hr _)))
      clear hr hp hk
      go_wp2
      exact ⟨rfl, Run.err HK.out HP.out hcd⟩
    | ok q =>
      obtain ⟨a2, l2⟩ := q
      obtain ⟨v2, rfl, hv, hs, hl, hk⟩ := hp.ok hr
      obtain ⟨rfl, hto⟩ := hv
      have HR2 := Lib.hid ((HR1.out.alloc _).call hk hs)
      have hzR2 := HR2.out.size
      have HB2 := Lib.hid ((HB1.out.alloc _).kp hk (by omega))
      have hzHB2 := HB2.out.lt
      have HN2 := Lib.hid ((Blk.new w1 (nodeCells (a1) (kv1)) 39).kp hk (by first | omega | (have := HR0.out.size; simp at *; omega)))
      have hzHN2 := HN2.out.lt
      have HT1_2 := Lib.hid ((HT1.out.alloc _).kp hk (fun b hb => by omega))
      have HL2 := Lib.hid hl
      have H2 := Lib.hid hr
      clear hr hp hs hl hk hto
      unfold tokV
      go_wp2_with fail
      refine AnyE.begin2 (S := fun W => Blk W w2.heap.size (tokCells a2) 75 ∧ Blk W w1.heap.size (nodeCells a1 kv1) 39) (by kernel_rfl) (And.intro (Blk.new w2 (tokCells a2) 75).drew (HN2.out.alloc _).drew) (fun hS => ?_)
      refine AnyE.take (i := 0) (v := .int .i64 k) rfl (by kernel_rfl) (by kernel_rfl) (by kernel_rfl) (by kernel_rfl) (fun _ _ _ h => h) (Or.inl ⟨by rfl, fun W _ => by go_simp⟩) hS ?_
      refine AnyE.take (i := 1) (v := .pointer (some ⟨w2.heap.size, 1, none⟩)) rfl (by kernel_rfl) (by kernel_rfl) (by kernel_rfl) (by kernel_rfl) (fun _ _ _ h => h) (Or.inl ⟨by rfl, fun W _ => by go_simp⟩) hS ?_
      refine AnyE.take (i := 2) (v := .string a2.text) rfl (by kernel_rfl) (by kernel_rfl) (by kernel_rfl) (by kernel_rfl) (fun _ _ _ h => h) (Or.inl ⟨by rfl, fun W hW => by have hcx : W.cell? ⟨w2.heap.size, 1, none⟩ = some (.string a2.text) := hW.1.cell 1; go_simp⟩) hS ?_
      refine AnyE.take (i := 3) (v := .int .i64 pl) rfl (by kernel_rfl) (by kernel_rfl) (by kernel_rfl) (by kernel_rfl) (fun _ _ _ h => h) (Or.inl ⟨by rfl, fun W _ => by go_simp⟩) hS ?_
      refine AnyE.take (i := 4) (v := .agg #[.int .i64 (a1).kind, .string (a1).text, .int .i64 (a1).num, .int .i64 (a1).place, kv1]) rfl (by kernel_rfl) (by kernel_rfl) (by kernel_rfl) (by kernel_rfl) (fun _ _ _ h => h) (yieldsIf_load_mid (cs := nodeCells (a1) (kv1)) (by rfl) 39 (.tmp 7) rfl (w1.heap.size) 0 rfl _ (fun W hW j v hj => by rw [Nat.zero_add, (hW.2).cell j]; exact hj) Tryd.underlying39 rfl Tryd.sizeNode) hS ?_
      refine AnyE.take (i := 5) (v := .pointer (some ⟨E.pb, 0, none⟩)) rfl (by kernel_rfl) (by kernel_rfl) (by kernel_rfl) (by kernel_rfl) (fun _ _ _ h => h) (Or.inl ⟨by rfl, fun W _ => by go_simp⟩) hS ?_
      refine AnyE.one (i := 6) (by kernel_rfl) rfl (by rfl) (fun K hK => ?_)
      go_simp
      refine (term_any ((HR2.out.alloc _).drew).st).mono ?_
      intro e w3 hp
      cases hr : termP l2 with
      | error pc =>
        obtain ⟨p, c⟩ := pc
        obtain ⟨rfl, hk, hcd⟩ := hp.err hr
        have HK := Lib.hid (((HR2.out.alloc _).drew).kp.trans hk)
        have HP := Lib.hid (show compareP k pl l = .error (p, c) by unfold compareP; exact ((bd_ok H1.out _)).trans (((bd_ok H2.out _)).trans ((bd_err hr _))))
        clear hr hp hk
        go_wp2
        exact ⟨rfl, Run.err HK.out HP.out hcd⟩
      | ok q =>
        obtain ⟨a3, l3⟩ := q
        obtain ⟨v3, rfl, hv, hs, hl, hk⟩ := hp.ok hr
        obtain ⟨kv3, rfl, ht⟩ := hv
        have HT3 := Lib.hid (ht.weak ((HB2.out.alloc _).drew).lt)
        have huHN3 := Blk.lt_kp hk ((HN2.out.alloc _).drew)
        have HU3 := Lib.hid (ht.mono (S' := fun b => w.heap.size < b ∧ w1.heap.size < b) (fun b hb _ => by have := Blk.lt_kp hk ((HB2.out.alloc _).drew); omega))
        have HR3 := Lib.hid (((HR2.out.alloc _).drew).call hk hs)
        have hzR3 := HR3.out.size
        have HB3 := Lib.hid (((HB2.out.alloc _).drew).kp hk (by omega))
        have hzHB3 := HB3.out.lt
        have HN3 := Lib.hid (((HN2.out.alloc _).drew).kp hk (by first | omega | (have := HR0.out.size; simp at *; omega)))
        have hzHN3 := HN3.out.lt
        have HK_3 := Lib.hid (((Blk.new w2 (tokCells a2) 75).drew).kp hk (by first | omega | (have := HR0.out.size; simp at *; omega)))
        have hzHK_3 := HK_3.out.lt
        have HT1_3 := Lib.hid (((HT1_2.out.alloc _).drew).kp hk (fun b hb => by omega))
        have HL3 := Lib.hid hl
        have H3 := Lib.hid hr
        clear hr hp hs hl hk ht
        unfold NodeV
        refine hK.out _ _ (fun _ => ⟨HK_3.out, HN3.out⟩) ?_
        clear hK K
        refine AnyE.one (i := 7) (by kernel_rfl) rfl (by rfl) (fun K hK => ?_)
        go_simp
        refine hK.out _ _ (fun _ => ⟨HK_3.out.alloc _, HN3.out.alloc _⟩) ?_
        clear hK K
        refine AnyE.one (i := 8) (by kernel_rfl) rfl (by rfl) (fun K hK => ?_)
        go_simp
        refine hK.out _ _ (fun _ => ⟨HK_3.out.alloc _, HN3.out.alloc _⟩) ?_
        clear hK K
        have HP := Lib.hid (show compareP k pl l = .ok (T.mk k a2.text 0 pl [a1, a3], l3) by unfold compareP; exact ((bd_ok H1.out _)).trans (((bd_ok H2.out _)).trans ((bd_ok H3.out _))))
        refine AnyE.one (i := 9) (by kernel_rfl) rfl (by rfl) (fun K hK => ?_)
        refine wp_store_blk 39 (.tmp 6) (.tmp 22) rfl (w.heap.size) (nodeCells (T.mk k a2.text 0 pl [a1, a3]) (.slice (some ⟨w3.heap.size, 0, none⟩) 2 2)) rfl rfl (HB3.out.alloc _) Tryd.sizeNode rfl (nodeCells_one _ _ rfl) ?_
        refine hK.out _ _ (fun h => absurd rfl h) ?_
        clear hK K
        refine AnyE.done (by kernel_rfl) ?_ _
        go_wp2
        exact ret_blk0 (cs := nodeCells (T.mk k a2.text 0 pl [a1, a3]) (.slice (some ⟨w3.heap.size, 0, none⟩) 2 2)) Tryd.results75 rfl (HB3.out.alloc _) Tryd.underlying39 rfl Tryd.sizeNode rfl (Run.node (HR3.out.alloc _) ((KAt.lit2 HT1_3.out.lo HT3.out.lo hzHB3).tat _ _ _ _) HP.out (by have := HL1.out; have := HL2.out; have := HL3.out; first | omega | (simp only [List.length_tail] at *; omega)))

set_option maxRecDepth 100000 in
set_option maxHeartbeats 1000000 in
theorem fact_any {E : Env} {w : World} {l : List Tok} {d : Nat} (h : PSt E w l d) :
    Calls Tryd.prog 64 #[.pointer (some ⟨E.pb, 0, none⟩)] w (PPost VNode E w l d (factP l)) := by
  have HR0 := Lib.hid ((Run.start h).alloc (.cells zeroNodeCells.toArray 39))
  have HB0 := Lib.hid (Blk.new w zeroNodeCells 39)
  have hlo := h.plt
  have hlt := h.tlt
  have hln := h.len
  clear h
  go_enter Tryd.func64, Tryd.ntmps64
  go_wp2_with fail
  refine (peek_any HR0.out.st).mono ?_
  rintro e w1 ⟨rfl, hb⟩
  have HR1 := Lib.hid (HR0.out.below hb)
  have hzR1 := HR1.out.size
  have HB1 := Lib.hid (HB0.out.kp (Kp.of_below (pb := E.pb) hb) (by omega))
  have hzHB1 := HB1.out.lt
  clear hb
  unfold tokV
  have fl0 := fldTok0
  have fl1 := fldTok1
  have fl3 := fldTok3
  go_wp2_with fail
  refine (compare_any HR1.out.st 4 _).mono ?_
  intro e w2 hp
  cases hr : compareP 4 (hdT l).place l with
  | error pc =>
    obtain ⟨p, c⟩ := pc
    obtain ⟨rfl, hk, hcd⟩ := hp.err hr
    have HK := Lib.hid (HR1.out.kp.trans hk)
    have HP := Lib.hid (show factP l = .error (p, c) by unfold factP; exact hr)
    clear hr hp hk
    go_wp2
    exact ⟨rfl, Run.err HK.out HP.out hcd⟩
  | ok q =>
    obtain ⟨a2, l2⟩ := q
    obtain ⟨v2, rfl, hv, hs, hl, hk⟩ := hp.ok hr
    obtain ⟨kv2, rfl, ht⟩ := hv
    have HT2 := Lib.hid (ht.weak HB1.out.lt)
    have HR2 := Lib.hid (HR1.out.call hk hs)
    have hzR2 := HR2.out.size
    have HB2 := Lib.hid (HB1.out.kp hk (by omega))
    have hzHB2 := HB2.out.lt
    have HL2 := Lib.hid hl
    have H2 := Lib.hid hr
    clear hr hp hs hl hk ht
    unfold NodeV
    have HP := Lib.hid (show factP l = .ok (a2, l2) by unfold factP; exact H2.out)
    go_wp2_with ((with_reducible refine at_st 39 (.tmp 2) ?_); refine wpList_store_blk rfl 39 (.tmp 2) (.tmp 7) rfl w.heap.size (nodeCells (a2) (kv2)) rfl rfl HB2.out Tryd.sizeNode rfl (nodeCells_one _ _ HT2.out.kat.one) ?_)
    exact ret_blk (cs := nodeCells (a2) (kv2)) Tryd.results64 rfl HB2.out Tryd.underlying39 rfl Tryd.sizeNode rfl (Run.node HR2.out HT2.out.lo HP.out (by have := HL2.out; first | omega | (simp only [List.length_tail] at *; omega)))

set_option maxRecDepth 100000 in
set_option maxHeartbeats 1000000 in
theorem field_any {E : Env} {w : World} {l : List Tok} {d : Nat} (h : PSt E w l d) :
    Calls Tryd.prog 63 #[.pointer (some ⟨E.pb, 0, none⟩)] w (PPost VNode E w l d (fieldP l)) := by
  have HR0 := Lib.hid ((Run.start h).alloc (.cells zeroNodeCells.toArray 39))
  have HB0 := Lib.hid (Blk.new w zeroNodeCells 39)
  have hlo := h.plt
  have hlt := h.tlt
  have hln := h.len
  clear h
  go_enter Tryd.func63, Tryd.ntmps63
  go_wp2_with fail
  refine (peek_any HR0.out.st).mono ?_
  rintro e w1 ⟨rfl, hb⟩
  have HR1 := Lib.hid (HR0.out.below hb)
  have hzR1 := HR1.out.size
  have HB1 := Lib.hid (HB0.out.kp (Kp.of_below (pb := E.pb) hb) (by omega))
  have hzHB1 := HB1.out.lt
  clear hb
  unfold tokV
  have fl0 := fldTok0
  have fl1 := fldTok1
  have fl3 := fldTok3
  go_wp2_with fail
  refine (name_any HR1.out.st).mono ?_
  intro e w2 hp
  cases hr : nameP l with
  | error pc =>
    obtain ⟨p, c⟩ := pc
    obtain ⟨rfl, hk, hcd⟩ := hp.err hr
    have HK := Lib.hid (HR1.out.kp.trans hk)
    have HP := Lib.hid (show fieldP l = .error (p, c) by unfold fieldP; exact (bd_err hr _))
    clear hr hp hk
    go_wp2
    exact ⟨rfl, Run.err HK.out HP.out hcd⟩
  | ok q =>
    obtain ⟨a2, l2⟩ := q
    obtain ⟨v2, rfl, hv, hs, hl, hk⟩ := hp.ok hr
    obtain rfl : v2 = .string a2 := hv
    have HR2 := Lib.hid (HR1.out.call hk hs)
    have hzR2 := HR2.out.size
    have HB2 := Lib.hid (HB1.out.kp hk (by omega))
    have hzHB2 := HB2.out.lt
    have HL2 := Lib.hid hl
    have H2 := Lib.hid hr
    clear hr hp hs hl hk 
    cases hi : isT (hdT l2) (bs [91]) with
    | false =>
      have HIi := Lib.hid hi
      clear hi
      go_wp2_with fail
      refine (accept_no (HR2.out.alloc _).st HIi.out).mono ?_
      rintro e w3 ⟨rfl, hb⟩
      have HR3 := Lib.hid ((HR2.out.alloc _).below hb)
      have hzR3 := HR3.out.size
      have HB3 := Lib.hid ((HB2.out.alloc _).kp (Kp.of_below (pb := E.pb) hb) (by omega))
      have hzHB3 := HB3.out.lt
      have HN3 := Lib.hid ((Blk.new w2 (nodeCells (T.mk 3 a2 0 (hdT l).place []) (.slice none 0 0)) 39).kp (Kp.of_below (pb := E.pb) hb) (by first | omega | (have := HR0.out.size; simp at *; omega)))
      have hzHN3 := HN3.out.lt
      clear hb
      have HP := Lib.hid (show fieldP l = .ok (T.mk 3 a2 0 (hdT l).place [], l2) by unfold fieldP; exact ((bd_ok H2.out _)).trans ((cond_f HIi.out _ _)))
      go_wp2_with (first | ((with_reducible refine at_ld 39 (.tmp 4) ?_); refine wpList_load_blk rfl 39 (.tmp 4) rfl w2.heap.size (nodeCells (T.mk 3 a2 0 (hdT l).place []) (.slice none 0 0)) rfl (show Blk _ w2.heap.size (nodeCells (T.mk 3 a2 0 (hdT l).place []) (.slice none 0 0)) 39 from HN3.out) Tryd.underlying39 rfl Tryd.sizeNode ?_) | ((with_reducible refine at_st 39 (.tmp 2) ?_); refine wpList_store_blk rfl 39 (.tmp 2) (.tmp 21) rfl w.heap.size (nodeCells (T.mk 3 a2 0 (hdT l).place []) (.slice none 0 0)) rfl rfl HB3.out Tryd.sizeNode rfl (nodeCells_one _ _ rfl) ?_))
      exact ret_blk (cs := nodeCells (T.mk 3 a2 0 (hdT l).place []) (.slice none 0 0)) Tryd.results63 rfl HB3.out Tryd.underlying39 rfl Tryd.sizeNode rfl (Run.node HR3.out ((KAt.nil _ _ _).tat _ _ _ _) HP.out (by have := HL2.out; first | omega | (simp only [List.length_tail] at *; omega)))
    | true =>
      have HIi := Lib.hid hi
      clear hi
      go_wp2_with fail
      refine (accept_yes (HR2.out.alloc _).st HIi.out (by decide)).mono ?_
      rintro e w3 ⟨rfl, hs, hk⟩
      have HR3 := Lib.hid ((HR2.out.alloc _).call hk hs)
      have hzR3 := HR3.out.size
      have HB3 := Lib.hid ((HB2.out.alloc _).kp hk (by omega))
      have hzHB3 := HB3.out.lt
      have HN3 := Lib.hid ((Blk.new w2 (nodeCells (T.mk 3 a2 0 (hdT l).place []) (.slice none 0 0)) 39).kp hk (by first | omega | (have := HR0.out.size; simp at *; omega)))
      have hzHN3 := HN3.out.lt
      clear hs hk
      go_wp2_with fail
      refine (nameTerm_any HR3.out.st).mono ?_
      intro e w4 hp
      cases hr : nameTermP l2.tail with
      | error pc =>
        obtain ⟨p, c⟩ := pc
        obtain ⟨rfl, hk, hcd⟩ := hp.err hr
        have HK := Lib.hid (HR3.out.kp.trans hk)
        have HP := Lib.hid (show fieldP l = .error (p, c) by unfold fieldP; exact ((bd_ok H2.out _)).trans (((cond_t HIi.out _ _)).trans ((bd_err hr _))))
        clear hr hp hk
        go_wp2
        exact ⟨rfl, Run.err HK.out HP.out hcd⟩
      | ok q =>
        obtain ⟨a4, l4⟩ := q
        obtain ⟨v4, rfl, hv, hs, hl, hk⟩ := hp.ok hr
        obtain ⟨kv4, rfl, ht⟩ := hv
        have HT4 := Lib.hid (ht.weak HB3.out.lt)
        have huHN4 := Blk.lt_kp hk HN3.out
        have HU4 := Lib.hid (ht.mono (S' := fun b => w.heap.size < b ∧ w2.heap.size < b) (fun b hb _ => by have := Blk.lt_kp hk HB3.out; omega))
        have HR4 := Lib.hid (HR3.out.call hk hs)
        have hzR4 := HR4.out.size
        have HB4 := Lib.hid (HB3.out.kp hk (by omega))
        have hzHB4 := HB4.out.lt
        have HN4 := Lib.hid (HN3.out.kp hk (by first | omega | (have := HR0.out.size; simp at *; omega)))
        have hzHN4 := HN4.out.lt
        have HL4 := Lib.hid hl
        have H4 := Lib.hid hr
        clear hr hp hs hl hk ht
        unfold NodeV
        have hcell : _root_.Go.World.cell? _ ⟨w2.heap.size, 4, none⟩ = some (.slice none 0 0) := HN4.out.cell 4
        have hfroz := HN4.out.frozen 4
        have HQ := Lib.hid (KAt.lit1s (e := 39) (w := w4) (t := a4) (v := kv4) HU4.out ⟨w2.heap.size, 4, none⟩ (.slice (some ⟨w4.heap.size, 0, none⟩) 1 1) (fun b hb => by show _ ≠ w2.heap.size; omega) ⟨by omega, by omega⟩)
        go_wp2_with fail
        refine (expect_at ((HR4.out.setCell (a := ⟨w2.heap.size, 4, none⟩) (by show w.heap.size ≤ w2.heap.size; omega) _).alloc _).st [bs [93]] (by decide) (by decide) (by simp) rfl rfl).mono ?_
        intro e w5 hp
        cases hr : expectP [bs [93]] l4 with
        | error pc =>
          obtain ⟨p, c⟩ := pc
          obtain ⟨rfl, hk, hcd⟩ := hp.err hr
          have HK := Lib.hid (((HR4.out.setCell (a := ⟨w2.heap.size, 4, none⟩) (by show w.heap.size ≤ w2.heap.size; omega) _).alloc _).kp.trans hk)
          have HP := Lib.hid (show fieldP l = .error (p, c) by unfold fieldP; exact ((bd_ok H2.out _)).trans (((cond_t HIi.out _ _)).trans (((bd_ok H4.out _)).trans ((bd_err hr _)))))
          clear hr hp hk
          go_wp2
          exact ⟨rfl, Run.err HK.out HP.out hcd⟩
        | ok q =>
          obtain ⟨a5, l5⟩ := q
          obtain ⟨v5, rfl, hv, hs, hl, hk⟩ := hp.ok hr
          obtain ⟨rfl, hto⟩ := hv
          have HR5 := Lib.hid (((HR4.out.setCell (a := ⟨w2.heap.size, 4, none⟩) (by show w.heap.size ≤ w2.heap.size; omega) _).alloc _).call hk hs)
          have hzR5 := HR5.out.size
          have HB5 := Lib.hid (((HB4.out.setOther ⟨w2.heap.size, 4, none⟩ _ (by show _ ≠ w2.heap.size; omega)).alloc _).kp hk (by omega))
          have hzHB5 := HB5.out.lt
          have HN5 := Lib.hid (((HN4.out.setSame 4 (.slice (some ⟨w4.heap.size, 0, none⟩) 1 1)).alloc _).kp hk (by first | omega | (have := HR0.out.size; simp at *; omega)))
          have hzHN5 := HN5.out.lt
          have HQ_5 := Lib.hid (HQ.out.kp hk (fun b hb => by omega))
          have HL5 := Lib.hid hl
          have H5 := Lib.hid hr
          clear hr hp hs hl hk hto
          unfold tokV
          have HP := Lib.hid (show fieldP l = .ok (T.mk 3 a2 0 (hdT l).place [a4], l5) by unfold fieldP; exact ((bd_ok H2.out _)).trans (((cond_t HIi.out _ _)).trans (((bd_ok H4.out _)).trans ((bd_ok H5.out _)))))
          go_wp2_with (first | ((with_reducible refine at_ld 39 (.tmp 4) ?_); refine wpList_load_blk rfl 39 (.tmp 4) rfl w2.heap.size (nodeCells (T.mk 3 a2 0 (hdT l).place [a4]) (.slice (some ⟨w4.heap.size, 0, none⟩) 1 1)) rfl (show Blk _ w2.heap.size (nodeCells (T.mk 3 a2 0 (hdT l).place [a4]) (.slice (some ⟨w4.heap.size, 0, none⟩) 1 1)) 39 from HN5.out) Tryd.underlying39 rfl Tryd.sizeNode ?_) | ((with_reducible refine at_st 39 (.tmp 2) ?_); refine wpList_store_blk rfl 39 (.tmp 2) (.tmp 21) rfl w.heap.size (nodeCells (T.mk 3 a2 0 (hdT l).place [a4]) (.slice (some ⟨w4.heap.size, 0, none⟩) 1 1)) rfl rfl HB5.out Tryd.sizeNode rfl (nodeCells_one _ _ rfl) ?_))
          exact ret_blk (cs := nodeCells (T.mk 3 a2 0 (hdT l).place [a4]) (.slice (some ⟨w4.heap.size, 0, none⟩) 1 1)) Tryd.results63 rfl HB5.out Tryd.underlying39 rfl Tryd.sizeNode rfl (Run.node HR5.out ((HQ_5.out.mono (fun b hb _ => hb.1)).tat _ _ _ _) HP.out (by have := HL2.out; have := HL4.out; have := HL5.out; first | omega | (simp only [List.length_tail] at *; omega)))

set_option maxRecDepth 100000 in
set_option maxHeartbeats 1000000 in
theorem sort_any {E : Env} {w : World} {l : List Tok} {d : Nat} (h : PSt E w l d) :
    Calls Tryd.prog 60 #[.pointer (some ⟨E.pb, 0, none⟩)] w (PPost VNode E w l d (sortP l)) := by
  have HR0 := Lib.hid ((Run.start h).alloc (.cells zeroNodeCells.toArray 39))
  have HB0 := Lib.hid (Blk.new w zeroNodeCells 39)
  have hlo := h.plt
  have hlt := h.tlt
  have hln := h.len
  clear h
  go_enter Tryd.func60, Tryd.ntmps60
  go_wp2_with fail
  refine (expect_at HR0.out.st [bs [111, 119, 110], bs [99, 101, 108, 108], bs [99, 111, 117, 110, 116, 101, 100], bs [108, 111, 99, 107], bs [103, 117, 97, 114, 100]] (by decide) (by decide) (by simp) rfl rfl).mono ?_
  intro e w1 hp
  cases hr : expectP [bs [111, 119, 110], bs [99, 101, 108, 108], bs [99, 111, 117, 110, 116, 101, 100], bs [108, 111, 99, 107], bs [103, 117, 97, 114, 100]] l with
  | error pc =>
    obtain ⟨p, c⟩ := pc
    obtain ⟨rfl, hk, hcd⟩ := hp.err hr
    have HK := Lib.hid (HR0.out.kp.trans hk)
    have HP := Lib.hid (show sortP l = .error (p, c) by unfold sortP; exact (bd_err hr _))
    clear hr hp hk
    go_wp2
    exact ⟨rfl, Run.err HK.out HP.out hcd⟩
  | ok q =>
    obtain ⟨a1, l1⟩ := q
    obtain ⟨v1, rfl, hv, hs, hl, hk⟩ := hp.ok hr
    obtain ⟨rfl, hto⟩ := hv
    have HR1 := Lib.hid (HR0.out.call hk hs)
    have hzR1 := HR1.out.size
    have HB1 := Lib.hid (HB0.out.kp hk (by omega))
    have hzHB1 := HB1.out.lt
    have HL1 := Lib.hid hl
    have H1 := Lib.hid hr
    clear hr hp hs hl hk hto
    unfold tokV
    cases ho : isT a1 (bs [111, 119, 110]) with
    | true =>
      have HOR := Lib.hid (show (isT a1 (bs [111, 119, 110]) || isT a1 (bs [99, 101, 108, 108])) = true by rw [ho]; rfl)
      obtain ⟨ho2, ho3⟩ := isT_yes ho
      clear ho3
      clear ho
      have HP := Lib.hid (show sortP l = .ok (T.mk 2 a1.text 0 a1.place [], l1) by unfold sortP; exact ((bd_ok H1.out _)).trans ((cond_t HOR.out _ _)))
      go_wp2_with (first | ((with_reducible refine at_ld 39 (.tmp 4) ?_); refine wpList_load_blk rfl 39 (.tmp 4) rfl (w1.heap.size + 1) (nodeCells (T.mk 2 a1.text 0 a1.place []) (.slice none 0 0)) rfl (show Blk _ (w1.heap.size + 1) (nodeCells (T.mk 2 a1.text 0 a1.place []) (.slice none 0 0)) 39 from (Blk.new2 w1 (.cells (tokCells a1).toArray 75) (nodeCells (T.mk 2 a1.text 0 a1.place []) (.slice none 0 0)) 39)) Tryd.underlying39 rfl Tryd.sizeNode ?_) | ((with_reducible refine at_st 39 (.tmp 2) ?_); refine wpList_store_blk rfl 39 (.tmp 2) (.tmp 25) rfl w.heap.size (nodeCells (T.mk 2 a1.text 0 a1.place []) (.slice none 0 0)) rfl rfl ((HB1.out.alloc _).alloc _) Tryd.sizeNode rfl (nodeCells_one _ _ rfl) ?_))
      exact ret_blk (cs := nodeCells (T.mk 2 a1.text 0 a1.place []) (.slice none 0 0)) Tryd.results60 rfl ((HB1.out.alloc _).alloc _) Tryd.underlying39 rfl Tryd.sizeNode rfl (Run.node ((HR1.out.alloc _).alloc _) ((KAt.nil _ _ _).tat _ _ _ _) HP.out (by have := HL1.out; first | omega | (simp only [List.length_tail] at *; omega)))
    | false =>
      cases hc : isT a1 (bs [99, 101, 108, 108]) with
      | true =>
        have HOR := Lib.hid (show (isT a1 (bs [111, 119, 110]) || isT a1 (bs [99, 101, 108, 108])) = true by rw [ho, hc]; rfl)
        obtain ⟨ho2, ho3⟩ := isT_no ho
        obtain ⟨hc2, hc3⟩ := isT_yes hc
        clear hc3
        clear ho hc
        have HP := Lib.hid (show sortP l = .ok (T.mk 2 a1.text 0 a1.place [], l1) by unfold sortP; exact ((bd_ok H1.out _)).trans ((cond_t HOR.out _ _)))
        go_wp2_with (first | ((with_reducible refine at_ld 39 (.tmp 4) ?_); refine wpList_load_blk rfl 39 (.tmp 4) rfl (w1.heap.size + 1) (nodeCells (T.mk 2 a1.text 0 a1.place []) (.slice none 0 0)) rfl (show Blk _ (w1.heap.size + 1) (nodeCells (T.mk 2 a1.text 0 a1.place []) (.slice none 0 0)) 39 from (Blk.new2 w1 (.cells (tokCells a1).toArray 75) (nodeCells (T.mk 2 a1.text 0 a1.place []) (.slice none 0 0)) 39)) Tryd.underlying39 rfl Tryd.sizeNode ?_) | ((with_reducible refine at_st 39 (.tmp 2) ?_); refine wpList_store_blk rfl 39 (.tmp 2) (.tmp 25) rfl w.heap.size (nodeCells (T.mk 2 a1.text 0 a1.place []) (.slice none 0 0)) rfl rfl ((HB1.out.alloc _).alloc _) Tryd.sizeNode rfl (nodeCells_one _ _ rfl) ?_))
        exact ret_blk (cs := nodeCells (T.mk 2 a1.text 0 a1.place []) (.slice none 0 0)) Tryd.results60 rfl ((HB1.out.alloc _).alloc _) Tryd.underlying39 rfl Tryd.sizeNode rfl (Run.node ((HR1.out.alloc _).alloc _) ((KAt.nil _ _ _).tat _ _ _ _) HP.out (by have := HL1.out; first | omega | (simp only [List.length_tail] at *; omega)))
      | false =>
        have HOR := Lib.hid (show (isT a1 (bs [111, 119, 110]) || isT a1 (bs [99, 101, 108, 108])) = false by rw [ho, hc]; rfl)
        obtain ⟨ho2, ho3⟩ := isT_no ho
        obtain ⟨hc2, hc3⟩ := isT_no hc
        clear ho hc
        go_wp2_with fail
        refine (nameTerm_any ((HR1.out.alloc _).alloc _).st).mono ?_
        intro e w2 hp
        cases hr : nameTermP l1 with
        | error pc =>
          obtain ⟨p, c⟩ := pc
          obtain ⟨rfl, hk, hcd⟩ := hp.err hr
          have HK := Lib.hid (((HR1.out.alloc _).alloc _).kp.trans hk)
          have HP := Lib.hid (show sortP l = .error (p, c) by unfold sortP; exact ((bd_ok H1.out _)).trans (((cond_f HOR.out _ _)).trans ((bd_err hr _))))
          clear hr hp hk
          go_wp2
          exact ⟨rfl, Run.err HK.out HP.out hcd⟩
        | ok q =>
          obtain ⟨a2, l2⟩ := q
          obtain ⟨v2, rfl, hv, hs, hl, hk⟩ := hp.ok hr
          obtain ⟨kv2, rfl, ht⟩ := hv
          have HT2 := Lib.hid (ht.weak ((HB1.out.alloc _).alloc _).lt)
          have huHN2 := Blk.lt_kp hk (Blk.new2 w1 (.cells (tokCells a1).toArray 75) (nodeCells (T.mk 2 a1.text 0 a1.place []) (.slice none 0 0)) 39)
          have HU2 := Lib.hid (ht.mono (S' := fun b => w.heap.size < b ∧ (w1.heap.size + 1) < b) (fun b hb _ => by have := Blk.lt_kp hk ((HB1.out.alloc _).alloc _); omega))
          have HR2 := Lib.hid (((HR1.out.alloc _).alloc _).call hk hs)
          have hzR2 := HR2.out.size
          have HB2 := Lib.hid (((HB1.out.alloc _).alloc _).kp hk (by omega))
          have hzHB2 := HB2.out.lt
          have HK_2 := Lib.hid (((Blk.new w1 (tokCells a1) 75).alloc _).kp hk (by first | omega | (have := HR0.out.size; simp at *; omega)))
          have hzHK_2 := HK_2.out.lt
          have HN2 := Lib.hid ((Blk.new2 w1 (.cells (tokCells a1).toArray 75) (nodeCells (T.mk 2 a1.text 0 a1.place []) (.slice none 0 0)) 39).kp hk (by first | omega | (have := HR0.out.size; simp at *; omega)))
          have hzHN2 := HN2.out.lt
          have HL2 := Lib.hid hl
          have H2 := Lib.hid hr
          clear hr hp hs hl hk ht
          unfold NodeV
          have hcell : _root_.Go.World.cell? _ ⟨(w1.heap.size + 1), 4, none⟩ = some (.slice none 0 0) := HN2.out.cell 4
          have hfroz := HN2.out.frozen 4
          have HQ := Lib.hid (KAt.lit1s (e := 39) (w := w2) (t := a2) (v := kv2) HU2.out ⟨(w1.heap.size + 1), 4, none⟩ (.slice (some ⟨w2.heap.size, 0, none⟩) 1 1) (fun b hb => by show _ ≠ (w1.heap.size + 1); omega) ⟨by omega, by omega⟩)
          have HP := Lib.hid (show sortP l = .ok (T.mk 2 a1.text 0 a1.place [a2], l2) by unfold sortP; exact ((bd_ok H1.out _)).trans (((cond_f HOR.out _ _)).trans ((bd_ok H2.out _))))
          go_wp2_with (first | ((with_reducible refine at_ld 39 (.tmp 4) ?_); refine wpList_load_blk rfl 39 (.tmp 4) rfl (w1.heap.size + 1) (nodeCells (T.mk 2 a1.text 0 a1.place [a2]) (.slice (some ⟨w2.heap.size, 0, none⟩) 1 1)) rfl (show Blk _ (w1.heap.size + 1) (nodeCells (T.mk 2 a1.text 0 a1.place [a2]) (.slice (some ⟨w2.heap.size, 0, none⟩) 1 1)) 39 from ((HN2.out.setSame 4 (.slice (some ⟨w2.heap.size, 0, none⟩) 1 1)).alloc _)) Tryd.underlying39 rfl Tryd.sizeNode ?_) | ((with_reducible refine at_st 39 (.tmp 2) ?_); refine wpList_store_blk rfl 39 (.tmp 2) (.tmp 25) rfl w.heap.size (nodeCells (T.mk 2 a1.text 0 a1.place [a2]) (.slice (some ⟨w2.heap.size, 0, none⟩) 1 1)) rfl rfl ((HB2.out.setOther ⟨(w1.heap.size + 1), 4, none⟩ _ (by show _ ≠ (w1.heap.size + 1); omega)).alloc _) Tryd.sizeNode rfl (nodeCells_one _ _ rfl) ?_))
          exact ret_blk (cs := nodeCells (T.mk 2 a1.text 0 a1.place [a2]) (.slice (some ⟨w2.heap.size, 0, none⟩) 1 1)) Tryd.results60 rfl ((HB2.out.setOther ⟨(w1.heap.size + 1), 4, none⟩ _ (by show _ ≠ (w1.heap.size + 1); omega)).alloc _) Tryd.underlying39 rfl Tryd.sizeNode rfl (Run.node ((HR2.out.setCell (a := ⟨(w1.heap.size + 1), 4, none⟩) (by show w.heap.size ≤ (w1.heap.size + 1); omega) _).alloc _) ((HQ.out.mono (fun b hb _ => hb.1)).tat _ _ _ _) HP.out (by have := HL1.out; have := HL2.out; first | omega | (simp only [List.length_tail] at *; omega)))

set_option maxRecDepth 100000 in
set_option maxHeartbeats 1000000 in
theorem valueMode_any {E : Env} {w : World} {l : List Tok} {d : Nat} (h : PSt E w l d) :
    Calls Tryd.prog 67 #[.pointer (some ⟨E.pb, 0, none⟩)] w (PPost VNode E w l d (valueModeP l)) := by
  have HR0 := Lib.hid ((Run.start h).alloc (.cells zeroNodeCells.toArray 39))
  have HB0 := Lib.hid (Blk.new w zeroNodeCells 39)
  have hlo := h.plt
  have hlt := h.tlt
  have hln := h.len
  clear h
  go_enter Tryd.func67, Tryd.ntmps67
  go_wp2_with fail
  refine (expect_at HR0.out.st [bs [105, 110, 116], bs [111, 119, 110]] (by decide) (by decide) (by simp) rfl rfl).mono ?_
  intro e w1 hp
  cases hr : expectP [bs [105, 110, 116], bs [111, 119, 110]] l with
  | error pc =>
    obtain ⟨p, c⟩ := pc
    obtain ⟨rfl, hk, hcd⟩ := hp.err hr
    have HK := Lib.hid (HR0.out.kp.trans hk)
    have HP := Lib.hid (show valueModeP l = .error (p, c) by unfold valueModeP; exact (bd_err hr _))
    clear hr hp hk
    go_wp2
    exact ⟨rfl, Run.err HK.out HP.out hcd⟩
  | ok q =>
    obtain ⟨a1, l1⟩ := q
    obtain ⟨v1, rfl, hv, hs, hl, hk⟩ := hp.ok hr
    obtain ⟨rfl, hto⟩ := hv
    have HR1 := Lib.hid (HR0.out.call hk hs)
    have hzR1 := HR1.out.size
    have HB1 := Lib.hid (HB0.out.kp hk (by omega))
    have hzHB1 := HB1.out.lt
    have HL1 := Lib.hid hl
    have H1 := Lib.hid hr
    clear hr hp hs hl hk hto
    unfold tokV
    cases ho : isT a1 (bs [111, 119, 110]) with
    | false =>
      have HO := Lib.hid ho
      obtain ⟨ho2, ho3⟩ := isT_no ho
      clear ho
      have HP := Lib.hid (show valueModeP l = .ok (T.mk 8 a1.text 0 a1.place [], l1) by unfold valueModeP; exact ((bd_ok H1.out _)).trans ((cond_f HO.out _ _)))
      go_wp2_with (first | ((with_reducible refine at_ld 39 (.tmp 4) ?_); refine wpList_load_blk rfl 39 (.tmp 4) rfl (w1.heap.size + 1) (nodeCells (T.mk 8 a1.text 0 a1.place []) (.slice none 0 0)) rfl (show Blk _ (w1.heap.size + 1) (nodeCells (T.mk 8 a1.text 0 a1.place []) (.slice none 0 0)) 39 from (Blk.new2 w1 (.cells (tokCells a1).toArray 75) (nodeCells (T.mk 8 a1.text 0 a1.place []) (.slice none 0 0)) 39)) Tryd.underlying39 rfl Tryd.sizeNode ?_) | ((with_reducible refine at_st 39 (.tmp 2) ?_); refine wpList_store_blk rfl 39 (.tmp 2) (.tmp 20) rfl w.heap.size (nodeCells (T.mk 8 a1.text 0 a1.place []) (.slice none 0 0)) rfl rfl ((HB1.out.alloc _).alloc _) Tryd.sizeNode rfl (nodeCells_one _ _ rfl) ?_))
      exact ret_blk (cs := nodeCells (T.mk 8 a1.text 0 a1.place []) (.slice none 0 0)) Tryd.results67 rfl ((HB1.out.alloc _).alloc _) Tryd.underlying39 rfl Tryd.sizeNode rfl (Run.node ((HR1.out.alloc _).alloc _) ((KAt.nil _ _ _).tat _ _ _ _) HP.out (by have := HL1.out; first | omega | (simp only [List.length_tail] at *; omega)))
    | true =>
      have HO := Lib.hid ho
      obtain ⟨ho2, ho3⟩ := isT_yes ho
      clear ho
      go_wp2_with fail
      refine (nameTerm_any ((HR1.out.alloc _).alloc _).st).mono ?_
      intro e w2 hp
      cases hr : nameTermP l1 with
      | error pc =>
        obtain ⟨p, c⟩ := pc
        obtain ⟨rfl, hk, hcd⟩ := hp.err hr
        have HK := Lib.hid (((HR1.out.alloc _).alloc _).kp.trans hk)
        have HP := Lib.hid (show valueModeP l = .error (p, c) by unfold valueModeP; exact ((bd_ok H1.out _)).trans (((cond_t HO.out _ _)).trans ((bd_err hr _))))
        clear hr hp hk
        go_wp2
        exact ⟨rfl, Run.err HK.out HP.out hcd⟩
      | ok q =>
        obtain ⟨a2, l2⟩ := q
        obtain ⟨v2, rfl, hv, hs, hl, hk⟩ := hp.ok hr
        obtain ⟨kv2, rfl, ht⟩ := hv
        have HT2 := Lib.hid (ht.weak ((HB1.out.alloc _).alloc _).lt)
        have huHN2 := Blk.lt_kp hk (Blk.new2 w1 (.cells (tokCells a1).toArray 75) (nodeCells (T.mk 8 a1.text 0 a1.place []) (.slice none 0 0)) 39)
        have HU2 := Lib.hid (ht.mono (S' := fun b => w.heap.size < b ∧ (w1.heap.size + 1) < b) (fun b hb _ => by have := Blk.lt_kp hk ((HB1.out.alloc _).alloc _); omega))
        have HR2 := Lib.hid (((HR1.out.alloc _).alloc _).call hk hs)
        have hzR2 := HR2.out.size
        have HB2 := Lib.hid (((HB1.out.alloc _).alloc _).kp hk (by omega))
        have hzHB2 := HB2.out.lt
        have HK_2 := Lib.hid (((Blk.new w1 (tokCells a1) 75).alloc _).kp hk (by first | omega | (have := HR0.out.size; simp at *; omega)))
        have hzHK_2 := HK_2.out.lt
        have HN2 := Lib.hid ((Blk.new2 w1 (.cells (tokCells a1).toArray 75) (nodeCells (T.mk 8 a1.text 0 a1.place []) (.slice none 0 0)) 39).kp hk (by first | omega | (have := HR0.out.size; simp at *; omega)))
        have hzHN2 := HN2.out.lt
        have HL2 := Lib.hid hl
        have H2 := Lib.hid hr
        clear hr hp hs hl hk ht
        unfold NodeV
        have hcell : _root_.Go.World.cell? _ ⟨(w1.heap.size + 1), 4, none⟩ = some (.slice none 0 0) := HN2.out.cell 4
        have hfroz := HN2.out.frozen 4
        have HQ := Lib.hid (KAt.lit1s (e := 39) (w := w2) (t := a2) (v := kv2) HU2.out ⟨(w1.heap.size + 1), 4, none⟩ (.slice (some ⟨w2.heap.size, 0, none⟩) 1 1) (fun b hb => by show _ ≠ (w1.heap.size + 1); omega) ⟨by omega, by omega⟩)
        have HP := Lib.hid (show valueModeP l = .ok (T.mk 8 a1.text 0 a1.place [a2], l2) by unfold valueModeP; exact ((bd_ok H1.out _)).trans (((cond_t HO.out _ _)).trans ((bd_ok H2.out _))))
        go_wp2_with (first | ((with_reducible refine at_ld 39 (.tmp 4) ?_); refine wpList_load_blk rfl 39 (.tmp 4) rfl (w1.heap.size + 1) (nodeCells (T.mk 8 a1.text 0 a1.place [a2]) (.slice (some ⟨w2.heap.size, 0, none⟩) 1 1)) rfl (show Blk _ (w1.heap.size + 1) (nodeCells (T.mk 8 a1.text 0 a1.place [a2]) (.slice (some ⟨w2.heap.size, 0, none⟩) 1 1)) 39 from ((HN2.out.setSame 4 (.slice (some ⟨w2.heap.size, 0, none⟩) 1 1)).alloc _)) Tryd.underlying39 rfl Tryd.sizeNode ?_) | ((with_reducible refine at_st 39 (.tmp 2) ?_); refine wpList_store_blk rfl 39 (.tmp 2) (.tmp 20) rfl w.heap.size (nodeCells (T.mk 8 a1.text 0 a1.place [a2]) (.slice (some ⟨w2.heap.size, 0, none⟩) 1 1)) rfl rfl ((HB2.out.setOther ⟨(w1.heap.size + 1), 4, none⟩ _ (by show _ ≠ (w1.heap.size + 1); omega)).alloc _) Tryd.sizeNode rfl (nodeCells_one _ _ rfl) ?_))
        exact ret_blk (cs := nodeCells (T.mk 8 a1.text 0 a1.place [a2]) (.slice (some ⟨w2.heap.size, 0, none⟩) 1 1)) Tryd.results67 rfl ((HB2.out.setOther ⟨(w1.heap.size + 1), 4, none⟩ _ (by show _ ≠ (w1.heap.size + 1); omega)).alloc _) Tryd.underlying39 rfl Tryd.sizeNode rfl (Run.node ((HR2.out.setCell (a := ⟨(w1.heap.size + 1), 4, none⟩) (by show w.heap.size ≤ (w1.heap.size + 1); omega) _).alloc _) ((HQ.out.mono (fun b hb _ => hb.1)).tat _ _ _ _) HP.out (by have := HL1.out; have := HL2.out; first | omega | (simp only [List.length_tail] at *; omega)))

set_option maxRecDepth 100000 in
set_option maxHeartbeats 1000000 in
theorem mode_any {E : Env} {w : World} {l : List Tok} {d : Nat} (h : PSt E w l d) :
    Calls Tryd.prog 76 #[.pointer (some ⟨E.pb, 0, none⟩)] w (PPost VNode E w l d (modeP l)) := by
  have HR0 := Lib.hid ((Run.start h).alloc (.cells zeroNodeCells.toArray 39))
  have HB0 := Lib.hid (Blk.new w zeroNodeCells 39)
  have HL0 := Lib.hid (tail_lt h)
  have hlo := h.plt
  have hlt := h.tlt
  have hln := h.len
  clear h
  go_enter Tryd.func76, Tryd.ntmps76
  go_wp2_with fail
  refine (peek_any HR0.out.st).mono ?_
  rintro e w1 ⟨rfl, hb⟩
  have HR1 := Lib.hid (HR0.out.below hb)
  have hzR1 := HR1.out.size
  have HB1 := Lib.hid (HB0.out.kp (Kp.of_below (pb := E.pb) hb) (by omega))
  have hzHB1 := HB1.out.lt
  clear hb
  unfold tokV
  have fl0 := fldTok0
  have fl1 := fldTok1
  have fl3 := fldTok3
  cases hi : isT (hdT l) (bs [38]) with
  | false =>
    have HIi := Lib.hid hi
    clear hi
    go_wp2_with fail
    refine (accept_no HR1.out.st HIi.out).mono ?_
    rintro e w2 ⟨rfl, hb⟩
    have HR2 := Lib.hid (HR1.out.below hb)
    have hzR2 := HR2.out.size
    have HB2 := Lib.hid (HB1.out.kp (Kp.of_below (pb := E.pb) hb) (by omega))
    have hzHB2 := HB2.out.lt
    clear hb
    go_wp2_with fail
    refine (valueMode_any HR2.out.st).mono ?_
    intro e w3 hp
    cases hr : valueModeP l with
    | error pc =>
      obtain ⟨p, c⟩ := pc
      obtain ⟨rfl, hk, hcd⟩ := hp.err hr
      have HK := Lib.hid (HR2.out.kp.trans hk)
      have HP := Lib.hid (show modeP l = .error (p, c) by unfold modeP; exact ((cond_f HIi.out _ _)).trans (hr))
      clear hr hp hk
      go_wp2
      exact ⟨rfl, Run.err HK.out HP.out hcd⟩
    | ok q =>
      obtain ⟨a3, l3⟩ := q
      obtain ⟨v3, rfl, hv, hs, hl, hk⟩ := hp.ok hr
      obtain ⟨kv3, rfl, ht⟩ := hv
      have HT3 := Lib.hid (ht.weak HB2.out.lt)
      have HR3 := Lib.hid (HR2.out.call hk hs)
      have hzR3 := HR3.out.size
      have HB3 := Lib.hid (HB2.out.kp hk (by omega))
      have hzHB3 := HB3.out.lt
      have HL3 := Lib.hid hl
      have H3 := Lib.hid hr
      clear hr hp hs hl hk ht
      unfold NodeV
      have HP := Lib.hid (show modeP l = .ok (a3, l3) by unfold modeP; exact ((cond_f HIi.out _ _)).trans (H3.out))
      go_wp2_with ((with_reducible refine at_st 39 (.tmp 2) ?_); refine wpList_store_blk rfl 39 (.tmp 2) (.tmp 12) rfl w.heap.size (nodeCells (a3) (kv3)) rfl rfl HB3.out Tryd.sizeNode rfl (nodeCells_one _ _ HT3.out.kat.one) ?_)
      exact ret_blk (cs := nodeCells (a3) (kv3)) Tryd.results76 rfl HB3.out Tryd.underlying39 rfl Tryd.sizeNode rfl (Run.node HR3.out HT3.out.lo HP.out (by have := HL3.out; first | omega | (simp only [List.length_tail] at *; omega)))
  | true =>
    have HIi := Lib.hid hi
    clear hi
    go_wp2_with fail
    refine (accept_yes HR1.out.st HIi.out (by decide)).mono ?_
    rintro e w2 ⟨rfl, hs, hk⟩
    have HR2 := Lib.hid (HR1.out.call hk hs)
    have hzR2 := HR2.out.size
    have HB2 := Lib.hid (HB1.out.kp hk (by omega))
    have hzHB2 := HB2.out.lt
    clear hs hk
    cases hj : isT (hdT l.tail) (bs [109, 117, 116]) with
    | false =>
      have HIj := Lib.hid hj
      clear hj
      go_wp2_with fail
      refine (accept_no HR2.out.st HIj.out).mono ?_
      rintro e w3 ⟨rfl, hb⟩
      have HR3 := Lib.hid (HR2.out.below hb)
      have hzR3 := HR3.out.size
      have HB3 := Lib.hid (HB2.out.kp (Kp.of_below (pb := E.pb) hb) (by omega))
      have hzHB3 := HB3.out.lt
      clear hb
      go_wp2_with fail
      refine (nameTerm_any HR3.out.st).mono ?_
      intro e w4 hp
      cases hr : nameTermP l.tail with
      | error pc =>
        obtain ⟨p, c⟩ := pc
        obtain ⟨rfl, hk, hcd⟩ := hp.err hr
        have HK := Lib.hid (HR3.out.kp.trans hk)
        have HP := Lib.hid (show modeP l = .error (p, c) by unfold modeP; exact ((cond_t HIi.out _ _)).trans (((cond_f HIj.out _ _)).trans ((bd_err hr _))))
        clear hr hp hk
        go_wp2
        exact ⟨rfl, Run.err HK.out HP.out hcd⟩
      | ok q =>
        obtain ⟨a4, l4⟩ := q
        obtain ⟨v4, rfl, hv, hs, hl, hk⟩ := hp.ok hr
        obtain ⟨kv4, rfl, ht⟩ := hv
        have HT4 := Lib.hid (ht.weak HB3.out.lt)
        have HR4 := Lib.hid (HR3.out.call hk hs)
        have hzR4 := HR4.out.size
        have HB4 := Lib.hid (HB3.out.kp hk (by omega))
        have hzHB4 := HB4.out.lt
        have HL4 := Lib.hid hl
        have H4 := Lib.hid hr
        clear hr hp hs hl hk ht
        unfold NodeV
        have HP := Lib.hid (show modeP l = .ok (T.mk 8 (bs [38]) 0 (hdT l).place [a4], l4) by unfold modeP; exact ((cond_t HIi.out _ _)).trans (((cond_f HIj.out _ _)).trans ((bd_ok H4.out _))))
        go_wp2_with ((with_reducible refine at_st 39 (.tmp 2) ?_); refine wpList_store_blk rfl 39 (.tmp 2) (.tmp 20) rfl w.heap.size (nodeCells (T.mk 8 (bs [38]) 0 (hdT l).place [a4]) (.slice (some ⟨w4.heap.size, 0, none⟩) 1 1)) rfl rfl (HB4.out.alloc _) Tryd.sizeNode rfl (nodeCells_one _ _ rfl) ?_)
        exact ret_blk (cs := nodeCells (T.mk 8 (bs [38]) 0 (hdT l).place [a4]) (.slice (some ⟨w4.heap.size, 0, none⟩) 1 1)) Tryd.results76 rfl (HB4.out.alloc _) Tryd.underlying39 rfl Tryd.sizeNode rfl (Run.node (HR4.out.alloc _) ((KAt.lit1 HT4.out.lo hzHB4).tat _ _ _ _) HP.out (by have := HL0.out; have := HL4.out; first | omega | (simp only [List.length_tail] at *; omega)))
    | true =>
      have HIj := Lib.hid hj
      clear hj
      go_wp2_with fail
      refine (accept_yes HR2.out.st HIj.out (by decide)).mono ?_
      rintro e w3 ⟨rfl, hs, hk⟩
      have HR3 := Lib.hid (HR2.out.call hk hs)
      have hzR3 := HR3.out.size
      have HB3 := Lib.hid (HB2.out.kp hk (by omega))
      have hzHB3 := HB3.out.lt
      clear hs hk
      go_wp2_with fail
      refine (nameTerm_any HR3.out.st).mono ?_
      intro e w4 hp
      cases hr : nameTermP l.tail.tail with
      | error pc =>
        obtain ⟨p, c⟩ := pc
        obtain ⟨rfl, hk, hcd⟩ := hp.err hr
        have HK := Lib.hid (HR3.out.kp.trans hk)
        have HP := Lib.hid (show modeP l = .error (p, c) by unfold modeP; exact ((cond_t HIi.out _ _)).trans (((cond_t HIj.out _ _)).trans ((bd_err hr _))))
        clear hr hp hk
        go_wp2
        exact ⟨rfl, Run.err HK.out HP.out hcd⟩
      | ok q =>
        obtain ⟨a4, l4⟩ := q
        obtain ⟨v4, rfl, hv, hs, hl, hk⟩ := hp.ok hr
        obtain ⟨kv4, rfl, ht⟩ := hv
        have HT4 := Lib.hid (ht.weak HB3.out.lt)
        have HR4 := Lib.hid (HR3.out.call hk hs)
        have hzR4 := HR4.out.size
        have HB4 := Lib.hid (HB3.out.kp hk (by omega))
        have hzHB4 := HB4.out.lt
        have HL4 := Lib.hid hl
        have H4 := Lib.hid hr
        clear hr hp hs hl hk ht
        unfold NodeV
        have HP := Lib.hid (show modeP l = .ok (T.mk 8 (bs [38, 109, 117, 116]) 0 (hdT l).place [a4], l4) by unfold modeP; exact ((cond_t HIi.out _ _)).trans (((cond_t HIj.out _ _)).trans ((bd_ok H4.out _))))
        go_wp2_with ((with_reducible refine at_st 39 (.tmp 2) ?_); refine wpList_store_blk rfl 39 (.tmp 2) (.tmp 20) rfl w.heap.size (nodeCells (T.mk 8 (bs [38, 109, 117, 116]) 0 (hdT l).place [a4]) (.slice (some ⟨w4.heap.size, 0, none⟩) 1 1)) rfl rfl (HB4.out.alloc _) Tryd.sizeNode rfl (nodeCells_one _ _ rfl) ?_)
        exact ret_blk (cs := nodeCells (T.mk 8 (bs [38, 109, 117, 116]) 0 (hdT l).place [a4]) (.slice (some ⟨w4.heap.size, 0, none⟩) 1 1)) Tryd.results76 rfl (HB4.out.alloc _) Tryd.underlying39 rfl Tryd.sizeNode rfl (Run.node (HR4.out.alloc _) ((KAt.lit1 HT4.out.lo hzHB4).tat _ _ _ _) HP.out (by have := HL0.out; have := HL4.out; first | omega | (simp only [List.length_tail] at *; omega)))

set_option maxRecDepth 100000 in
set_option maxHeartbeats 1000000 in
theorem param_any {E : Env} {w : World} {l : List Tok} {d : Nat} (h : PSt E w l d) :
    Calls Tryd.prog 66 #[.pointer (some ⟨E.pb, 0, none⟩)] w (PPost VNode E w l d (paramP l)) := by
  have HR0 := Lib.hid ((Run.start h).alloc (.cells zeroNodeCells.toArray 39))
  have HB0 := Lib.hid (Blk.new w zeroNodeCells 39)
  have hlo := h.plt
  have hlt := h.tlt
  have hln := h.len
  clear h
  go_enter Tryd.func66, Tryd.ntmps66
  go_wp2_with fail
  refine (peek_any HR0.out.st).mono ?_
  rintro e w1 ⟨rfl, hb⟩
  have HR1 := Lib.hid (HR0.out.below hb)
  have hzR1 := HR1.out.size
  have HB1 := Lib.hid (HB0.out.kp (Kp.of_below (pb := E.pb) hb) (by omega))
  have hzHB1 := HB1.out.lt
  clear hb
  unfold tokV
  have fl0 := fldTok0
  have fl1 := fldTok1
  have fl3 := fldTok3
  go_wp2_with fail
  refine (name_any HR1.out.st).mono ?_
  intro e w2 hp
  cases hr : nameP l with
  | error pc =>
    obtain ⟨p, c⟩ := pc
    obtain ⟨rfl, hk, hcd⟩ := hp.err hr
    have HK := Lib.hid (HR1.out.kp.trans hk)
    have HP := Lib.hid (show paramP l = .error (p, c) by unfold paramP; exact (bd_err hr _))
    clear hr hp hk
    go_wp2
    exact ⟨rfl, Run.err HK.out HP.out hcd⟩
  | ok q =>
    obtain ⟨a2, l2⟩ := q
    obtain ⟨v2, rfl, hv, hs, hl, hk⟩ := hp.ok hr
    obtain rfl : v2 = .string a2 := hv
    have HR2 := Lib.hid (HR1.out.call hk hs)
    have hzR2 := HR2.out.size
    have HB2 := Lib.hid (HB1.out.kp hk (by omega))
    have hzHB2 := HB2.out.lt
    have HL2 := Lib.hid hl
    have H2 := Lib.hid hr
    clear hr hp hs hl hk 
    go_wp2_with fail
    refine (expect_at (HR2.out.alloc _).st [bs [58]] (by decide) (by decide) (by simp) rfl rfl).mono ?_
    intro e w3 hp
    cases hr : expectP [bs [58]] l2 with
    | error pc =>
      obtain ⟨p, c⟩ := pc
      obtain ⟨rfl, hk, hcd⟩ := hp.err hr
      have HK := Lib.hid ((HR2.out.alloc _).kp.trans hk)
      have HP := Lib.hid (show paramP l = .error (p, c) by unfold paramP; exact ((bd_ok H2.out _)).trans ((bd_err hr _)))
      clear hr hp hk
      go_wp2
      exact ⟨rfl, Run.err HK.out HP.out hcd⟩
    | ok q =>
      obtain ⟨a3, l3⟩ := q
      obtain ⟨v3, rfl, hv, hs, hl, hk⟩ := hp.ok hr
      obtain ⟨rfl, hto⟩ := hv
      have HR3 := Lib.hid ((HR2.out.alloc _).call hk hs)
      have hzR3 := HR3.out.size
      have HB3 := Lib.hid ((HB2.out.alloc _).kp hk (by omega))
      have hzHB3 := HB3.out.lt
      have HN3 := Lib.hid ((Blk.new w2 (nodeCells (T.mk 7 a2 0 (hdT l).place []) (.slice none 0 0)) 39).kp hk (by first | omega | (have := HR0.out.size; simp at *; omega)))
      have hzHN3 := HN3.out.lt
      have HL3 := Lib.hid hl
      have H3 := Lib.hid hr
      clear hr hp hs hl hk hto
      unfold tokV
      go_wp2_with fail
      refine (mode_any HR3.out.st).mono ?_
      intro e w4 hp
      cases hr : modeP l3 with
      | error pc =>
        obtain ⟨p, c⟩ := pc
        obtain ⟨rfl, hk, hcd⟩ := hp.err hr
        have HK := Lib.hid (HR3.out.kp.trans hk)
        have HP := Lib.hid (show paramP l = .error (p, c) by unfold paramP; exact ((bd_ok H2.out _)).trans (((bd_ok H3.out _)).trans ((bd_err hr _))))
        clear hr hp hk
        go_wp2
        exact ⟨rfl, Run.err HK.out HP.out hcd⟩
      | ok q =>
        obtain ⟨a4, l4⟩ := q
        obtain ⟨v4, rfl, hv, hs, hl, hk⟩ := hp.ok hr
        obtain ⟨kv4, rfl, ht⟩ := hv
        have HT4 := Lib.hid (ht.weak HB3.out.lt)
        have huHN4 := Blk.lt_kp hk HN3.out
        have HU4 := Lib.hid (ht.mono (S' := fun b => w.heap.size < b ∧ w2.heap.size < b) (fun b hb _ => by have := Blk.lt_kp hk HB3.out; omega))
        have HR4 := Lib.hid (HR3.out.call hk hs)
        have hzR4 := HR4.out.size
        have HB4 := Lib.hid (HB3.out.kp hk (by omega))
        have hzHB4 := HB4.out.lt
        have HN4 := Lib.hid (HN3.out.kp hk (by first | omega | (have := HR0.out.size; simp at *; omega)))
        have hzHN4 := HN4.out.lt
        have HL4 := Lib.hid hl
        have H4 := Lib.hid hr
        clear hr hp hs hl hk ht
        unfold NodeV
        have hcell : _root_.Go.World.cell? _ ⟨w2.heap.size, 4, none⟩ = some (.slice none 0 0) := HN4.out.cell 4
        have hfroz := HN4.out.frozen 4
        have HQ := Lib.hid (KAt.lit1s (e := 39) (w := w4) (t := a4) (v := kv4) HU4.out ⟨w2.heap.size, 4, none⟩ (.slice (some ⟨w4.heap.size, 0, none⟩) 1 1) (fun b hb => by show _ ≠ w2.heap.size; omega) ⟨by omega, by omega⟩)
        have HP := Lib.hid (show paramP l = .ok (T.mk 7 a2 0 (hdT l).place [a4], l4) by unfold paramP; exact ((bd_ok H2.out _)).trans (((bd_ok H3.out _)).trans ((bd_ok H4.out _))))
        go_wp2_with (first | ((with_reducible refine at_ld 39 (.tmp 4) ?_); refine wpList_load_blk rfl 39 (.tmp 4) rfl w2.heap.size (nodeCells (T.mk 7 a2 0 (hdT l).place [a4]) (.slice (some ⟨w4.heap.size, 0, none⟩) 1 1)) rfl (show Blk _ w2.heap.size (nodeCells (T.mk 7 a2 0 (hdT l).place [a4]) (.slice (some ⟨w4.heap.size, 0, none⟩) 1 1)) 39 from ((HN4.out.setSame 4 (.slice (some ⟨w4.heap.size, 0, none⟩) 1 1)).alloc _)) Tryd.underlying39 rfl Tryd.sizeNode ?_) | ((with_reducible refine at_st 39 (.tmp 2) ?_); refine wpList_store_blk rfl 39 (.tmp 2) (.tmp 19) rfl w.heap.size (nodeCells (T.mk 7 a2 0 (hdT l).place [a4]) (.slice (some ⟨w4.heap.size, 0, none⟩) 1 1)) rfl rfl ((HB4.out.setOther ⟨w2.heap.size, 4, none⟩ _ (by show _ ≠ w2.heap.size; omega)).alloc _) Tryd.sizeNode rfl (nodeCells_one _ _ rfl) ?_))
        exact ret_blk (cs := nodeCells (T.mk 7 a2 0 (hdT l).place [a4]) (.slice (some ⟨w4.heap.size, 0, none⟩) 1 1)) Tryd.results66 rfl ((HB4.out.setOther ⟨w2.heap.size, 4, none⟩ _ (by show _ ≠ w2.heap.size; omega)).alloc _) Tryd.underlying39 rfl Tryd.sizeNode rfl (Run.node ((HR4.out.setCell (a := ⟨w2.heap.size, 4, none⟩) (by show w.heap.size ≤ w2.heap.size; omega) _).alloc _) ((HQ.out.mono (fun b hb _ => hb.1)).tat _ _ _ _) HP.out (by have := HL2.out; have := HL3.out; have := HL4.out; first | omega | (simp only [List.length_tail] at *; omega)))

end Go.Proofs.YtdkdidgeaalcgaaDoor
