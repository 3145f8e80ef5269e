/- The contracts of the parser's nameTerm and numberTerm. -/
import Derived.Test.YtnmpfpnldcgbaaaDoorP10
import Derived.Test.YtnmpfpnldcgbaaaDoorP08
namespace Go.Proofs.YtnmpfpnldcgbaaaDoor
open Go.RowKit

set_option maxRecDepth 100000 in
set_option maxHeartbeats 1000000 in
theorem nameTerm_any {E : Env} {w : World} {l : List Tok} {d : Nat} (h : PSt E w l d) :
    Calls Tryd.prog 115 #[.pointer (some ⟨E.pb, 0, none⟩)] w (PPost VNode E w l d (nameTermP l)) := by
  have HR0 := Lib.hid ((Run.start h).alloc (.cells zeroNodeCells.toArray 25))
  have HB0 := Lib.hid (Blk.new w zeroNodeCells 25)
  have hlo := h.plt
  have hlt := h.tlt
  have hln := h.len
  clear h
  go_enter Tryd.func115, Tryd.ntmps115
  go_wp2_with fail
  refine (peek_any HR0.out.st).mono ?_
  rintro e w1 ⟨rfl, hb⟩
  have HR1 := Lib.hid (HR0.out.below hb)
  have hzR1 := HR1.out.size
  have HB1 := Lib.hid (HB0.out.kp (Kp.of_below (pb := E.pb) hb) (by omega))
  have hzHB1 := HB1.out.lt
  clear hb
  unfold tokV
  have fl0 := fldTok0
  have fl1 := fldTok1
  have fl3 := fldTok3
  go_wp2_with fail
  refine (name_any HR1.out.st).mono ?_
  intro e w2 hp
  cases hr : nameP l with
  | error pc =>
    obtain ⟨p, c⟩ := pc
    obtain ⟨rfl, hk, hcd⟩ := hp.err hr
    have HK := Lib.hid (HR1.out.kp.trans hk)
    have HP := Lib.hid (show nameTermP l = .error (p, c) by unfold nameTermP; exact (bd_err hr _))
    clear hr hp hk
    go_wp2
    exact ⟨rfl, Run.err HK.out HP.out hcd⟩
  | ok q =>
    obtain ⟨a2, l2⟩ := q
    obtain ⟨v2, rfl, hv, hs, hl, hk⟩ := hp.ok hr
    obtain rfl : v2 = .string a2 := hv
    have HR2 := Lib.hid (HR1.out.call hk hs)
    have hzR2 := HR2.out.size
    have HB2 := Lib.hid (HB1.out.kp hk (by omega))
    have hzHB2 := HB2.out.lt
    have HL2 := Lib.hid hl
    have H2 := Lib.hid hr
    clear hr hp hs hl hk 
    have HP := Lib.hid (show nameTermP l = .ok (T.mk 5 a2 0 (hdT l).place [], l2) by unfold nameTermP; exact (bd_ok H2.out _))
    go_wp2_with ((with_reducible refine at_st 25 (.tmp 2) ?_); refine wpList_store_blk rfl 25 (.tmp 2) (.tmp 10) rfl w.heap.size (nodeCells (T.mk 5 a2 0 (hdT l).place []) (.slice none 0 0)) rfl rfl HB2.out Tryd.sizeNode rfl (nodeCells_one _ _ rfl) ?_)
    exact ret_blk (cs := nodeCells (T.mk 5 a2 0 (hdT l).place []) (.slice none 0 0)) Tryd.results115 rfl HB2.out Tryd.underlying25 rfl Tryd.sizeNode rfl (Run.node HR2.out ((KAt.nil _ _ _).tat _ _ _ _) HP.out (by have := HL2.out; first | omega | (simp only [List.length_tail] at *; omega)))

set_option maxRecDepth 100000 in
set_option maxHeartbeats 1000000 in
theorem numberTerm_any {E : Env} {w : World} {l : List Tok} {d : Nat} (h : PSt E w l d) :
    Calls Tryd.prog 122 #[.pointer (some ⟨E.pb, 0, none⟩)] w (PPost VNode E w l d (numberTermP l)) := by
  have HR0 := Lib.hid ((Run.start h).alloc (.cells zeroNodeCells.toArray 25))
  have HB0 := Lib.hid (Blk.new w zeroNodeCells 25)
  have HL0 := Lib.hid (tail_lt h)
  have hlo := h.plt
  have hlt := h.tlt
  have hln := h.len
  clear h
  go_enter Tryd.func122, Tryd.ntmps122
  go_wp2_with fail
  refine (peek_any HR0.out.st).mono ?_
  rintro e w1 ⟨rfl, hb⟩
  have HR1 := Lib.hid (HR0.out.below hb)
  have hzR1 := HR1.out.size
  have HB1 := Lib.hid (HB0.out.kp (Kp.of_below (pb := E.pb) hb) (by omega))
  have hzHB1 := HB1.out.lt
  clear hb
  unfold tokV
  have fl0 := fldTok0
  have fl1 := fldTok1
  have fl3 := fldTok3
  cases hi : isT (hdT l) (bs [45]) with
  | false =>
    have HIi := Lib.hid hi
    clear hi
    go_wp2_with fail
    refine (accept_no (HR1.out.alloc _).st HIi.out).mono ?_
    rintro e w2 ⟨rfl, hb⟩
    have HR2 := Lib.hid ((HR1.out.alloc _).below hb)
    have hzR2 := HR2.out.size
    have HB2 := Lib.hid ((HB1.out.alloc _).kp (Kp.of_below (pb := E.pb) hb) (by omega))
    have hzHB2 := HB2.out.lt
    have HN2 := Lib.hid ((Blk.new w1 (nodeCells (T.mk 5 e0 0 (hdT l).place []) (.slice none 0 0)) 25).kp (Kp.of_below (pb := E.pb) hb) (by first | omega | (have := HR0.out.size; simp at *; omega)))
    have hzHN2 := HN2.out.lt
    clear hb
    go_wp2_with fail
    refine (number_any HR2.out.st).mono ?_
    intro e w3 hp
    cases hr : numberP l with
    | error pc =>
      obtain ⟨p, c⟩ := pc
      obtain ⟨rfl, hk, hcd⟩ := hp.err hr
      have HK := Lib.hid (HR2.out.kp.trans hk)
      have HP := Lib.hid (show numberTermP l = .error (p, c) by unfold numberTermP; exact ((cond_f HIi.out _ _)).trans ((bd_err hr _)))
      clear hr hp hk
      go_wp2
      exact ⟨rfl, Run.err HK.out HP.out hcd⟩
    | ok q =>
      obtain ⟨a3, l3⟩ := q
      obtain ⟨v3, rfl, hv, hs, hl, hk⟩ := hp.ok hr
      obtain ⟨rfl, hn0, hn1⟩ := hv
      have HR3 := Lib.hid (HR2.out.call hk hs)
      have hzR3 := HR3.out.size
      have HB3 := Lib.hid (HB2.out.kp hk (by omega))
      have hzHB3 := HB3.out.lt
      have HN3 := Lib.hid (HN2.out.kp hk (by first | omega | (have := HR0.out.size; simp at *; omega)))
      have hzHN3 := HN3.out.lt
      have HL3 := Lib.hid hl
      have H3 := Lib.hid hr
      clear hr hp hs hl hk 
      have hcell : _root_.Go.World.cell? _ ⟨w1.heap.size, 2, none⟩ = some (.int .i64 0) := HN3.out.cell 2
      have hfroz := HN3.out.frozen 2
      have HP := Lib.hid (show numberTermP l = .ok (T.mk 5 e0 (a3) (hdT l).place [], l3) by unfold numberTermP; exact ((cond_f HIi.out _ _)).trans ((bd_ok H3.out _)))
      go_wp2_with (first | ((with_reducible refine at_ld 25 (.tmp 3) ?_); refine wpList_load_blk rfl 25 (.tmp 3) rfl w1.heap.size (nodeCells (T.mk 5 e0 (a3) (hdT l).place []) (.slice none 0 0)) rfl (show Blk _ w1.heap.size (nodeCells (T.mk 5 e0 (a3) (hdT l).place []) (.slice none 0 0)) 25 from (HN3.out.setSame 2 (.int .i64 (a3)))) Tryd.underlying25 rfl Tryd.sizeNode ?_) | ((with_reducible refine at_st 25 (.tmp 2) ?_); refine wpList_store_blk rfl 25 (.tmp 2) (.tmp 17) rfl w.heap.size (nodeCells (T.mk 5 e0 (a3) (hdT l).place []) (.slice none 0 0)) rfl rfl (HB3.out.setOther ⟨w1.heap.size, 2, none⟩ _ (by show _ ≠ w1.heap.size; omega)) Tryd.sizeNode rfl (nodeCells_one _ _ rfl) ?_))
      exact ret_blk (cs := nodeCells (T.mk 5 e0 (a3) (hdT l).place []) (.slice none 0 0)) Tryd.results122 rfl (HB3.out.setOther ⟨w1.heap.size, 2, none⟩ _ (by show _ ≠ w1.heap.size; omega)) Tryd.underlying25 rfl Tryd.sizeNode rfl (Run.node (HR3.out.setCell (a := ⟨w1.heap.size, 2, none⟩) (by show w.heap.size ≤ w1.heap.size; omega) _) ((KAt.nil _ _ _).tat _ _ _ _) HP.out (by have := HL0.out; have := HL3.out; first | omega | (simp only [List.length_tail] at *; omega)))
  | true =>
    have HIi := Lib.hid hi
    clear hi
    go_wp2_with fail
    refine (accept_yes (HR1.out.alloc _).st HIi.out (by decide)).mono ?_
    rintro e w2 ⟨rfl, hs, hk⟩
    have HR2 := Lib.hid ((HR1.out.alloc _).call hk hs)
    have hzR2 := HR2.out.size
    have HB2 := Lib.hid ((HB1.out.alloc _).kp hk (by omega))
    have hzHB2 := HB2.out.lt
    have HN2 := Lib.hid ((Blk.new w1 (nodeCells (T.mk 5 e0 0 (hdT l).place []) (.slice none 0 0)) 25).kp hk (by first | omega | (have := HR0.out.size; simp at *; omega)))
    have hzHN2 := HN2.out.lt
    clear hs hk
    go_wp2_with fail
    refine (number_any HR2.out.st).mono ?_
    intro e w3 hp
    cases hr : numberP l.tail with
    | error pc =>
      obtain ⟨p, c⟩ := pc
      obtain ⟨rfl, hk, hcd⟩ := hp.err hr
      have HK := Lib.hid (HR2.out.kp.trans hk)
      have HP := Lib.hid (show numberTermP l = .error (p, c) by unfold numberTermP; exact ((cond_t HIi.out _ _)).trans ((bd_err hr _)))
      clear hr hp hk
      go_wp2
      exact ⟨rfl, Run.err HK.out HP.out hcd⟩
    | ok q =>
      obtain ⟨a3, l3⟩ := q
      obtain ⟨v3, rfl, hv, hs, hl, hk⟩ := hp.ok hr
      obtain ⟨rfl, hn0, hn1⟩ := hv
      have HR3 := Lib.hid (HR2.out.call hk hs)
      have hzR3 := HR3.out.size
      have HB3 := Lib.hid (HB2.out.kp hk (by omega))
      have hzHB3 := HB3.out.lt
      have HN3 := Lib.hid (HN2.out.kp hk (by first | omega | (have := HR0.out.size; simp at *; omega)))
      have hzHN3 := HN3.out.lt
      have HL3 := Lib.hid hl
      have H3 := Lib.hid hr
      clear hr hp hs hl hk 
      have hcell : _root_.Go.World.cell? _ ⟨w1.heap.size, 2, none⟩ = some (.int .i64 0) := HN3.out.cell 2
      have hfroz := HN3.out.frozen 2
      have HP := Lib.hid (show numberTermP l = .ok (T.mk 5 e0 (-a3) (hdT l).place [], l3) by unfold numberTermP; exact ((cond_t HIi.out _ _)).trans ((bd_ok H3.out _)))
      go_wp2_with (first | ((with_reducible refine at_ld 25 (.tmp 3) ?_); refine wpList_load_blk rfl 25 (.tmp 3) rfl w1.heap.size (nodeCells (T.mk 5 e0 (-a3) (hdT l).place []) (.slice none 0 0)) rfl (show Blk _ w1.heap.size (nodeCells (T.mk 5 e0 (-a3) (hdT l).place []) (.slice none 0 0)) 25 from (HN3.out.setSame 2 (.int .i64 (-a3)))) Tryd.underlying25 rfl Tryd.sizeNode ?_) | ((with_reducible refine at_st 25 (.tmp 2) ?_); refine wpList_store_blk rfl 25 (.tmp 2) (.tmp 17) rfl w.heap.size (nodeCells (T.mk 5 e0 (-a3) (hdT l).place []) (.slice none 0 0)) rfl rfl (HB3.out.setOther ⟨w1.heap.size, 2, none⟩ _ (by show _ ≠ w1.heap.size; omega)) Tryd.sizeNode rfl (nodeCells_one _ _ rfl) ?_))
      exact ret_blk (cs := nodeCells (T.mk 5 e0 (-a3) (hdT l).place []) (.slice none 0 0)) Tryd.results122 rfl (HB3.out.setOther ⟨w1.heap.size, 2, none⟩ _ (by show _ ≠ w1.heap.size; omega)) Tryd.underlying25 rfl Tryd.sizeNode rfl (Run.node (HR3.out.setCell (a := ⟨w1.heap.size, 2, none⟩) (by show w.heap.size ≤ w1.heap.size; omega) _) ((KAt.nil _ _ _).tat _ _ _ _) HP.out (by have := HL0.out; have := HL3.out; first | omega | (simp only [List.length_tail] at *; omega)))

set_option maxRecDepth 100000 in
set_option maxHeartbeats 1000000 in
theorem term_any {E : Env} {w : World} {l : List Tok} {d : Nat} (h : PSt E w l d) :
    Calls Tryd.prog 119 #[.pointer (some ⟨E.pb, 0, none⟩)] w (PPost VNode E w l d (termP l)) := by
  have HR0 := Lib.hid ((Run.start h).alloc (.cells zeroNodeCells.toArray 25))
  have HB0 := Lib.hid (Blk.new w zeroNodeCells 25)
  have HL0 := Lib.hid (tail_lt h)
  have hlo := h.plt
  have hlt := h.tlt
  have hln := h.len
  clear h
  go_enter Tryd.func119, Tryd.ntmps119
  go_wp2_with fail
  refine (peek_any HR0.out.st).mono ?_
  rintro e w1 ⟨rfl, hb⟩
  have HR1 := Lib.hid (HR0.out.below hb)
  have hzR1 := HR1.out.size
  have HB1 := Lib.hid (HB0.out.kp (Kp.of_below (pb := E.pb) hb) (by omega))
  have hzHB1 := HB1.out.lt
  clear hb
  unfold tokV
  have fl0 := fldTok0
  have fl1 := fldTok1
  have fl3 := fldTok3
  by_cases hkd : (hdT l).kind = 1
  ·
    have HI := Lib.hid (show ((hdT l).kind == 1) = true by rw [hkd]; rfl)
    have hne : (((hdT l).kind : Int) != 1) = false := by rw [hkd]; rfl
    clear hkd
    go_wp2_with fail
    refine (nameTerm_any HR1.out.st).mono ?_
    intro e w2 hp
    cases hr : nameTermP l with
    | error pc =>
      obtain ⟨p, c⟩ := pc
      obtain ⟨rfl, hk, hcd⟩ := hp.err hr
      have HK := Lib.hid (HR1.out.kp.trans hk)
      have HP := Lib.hid (show termP l = .error (p, c) by unfold termP; exact ((cond_t HI.out _ _)).trans ((bd_err hr _)))
      clear hr hp hk
      go_wp2
      exact ⟨rfl, Run.err HK.out HP.out hcd⟩
    | ok q =>
      obtain ⟨a2, l2⟩ := q
      obtain ⟨v2, rfl, hv, hs, hl, hk⟩ := hp.ok hr
      obtain ⟨kv2, rfl, ht⟩ := hv
      have HT2 := Lib.hid (ht.weak HB1.out.lt)
      have HR2 := Lib.hid (HR1.out.call hk hs)
      have hzR2 := HR2.out.size
      have HB2 := Lib.hid (HB1.out.kp hk (by omega))
      have hzHB2 := HB2.out.lt
      have HL2 := Lib.hid hl
      have H2 := Lib.hid hr
      clear hr hp hs hl hk ht
      unfold NodeV
      go_wp2_with ((with_reducible refine at_st 25 (.tmp 3) ?_); refine wpList_store_new rfl 25 (.tmp 3) (.tmp 13) rfl (nodeCells (a2) (kv2)) (old := zeroNodeCells) rfl rfl Tryd.sizeNode rfl (nodeCells_one _ _ HT2.out.kat.one) ?_)
      go_wp2_with fail
      refine (acceptSum_any (HR2.out.alloc _).st).mono ?_
      intro e w3 hp
      rcases hp with ⟨hS0, rfl, hs, hk⟩ | ⟨kk, ff, hS0, hf, rfl, hs, hk⟩
      ·
        have HR3 := Lib.hid ((HR2.out.alloc _).call hk hs)
        have hzR3 := HR3.out.size
        have HB3 := Lib.hid ((HB2.out.alloc _).kp hk (by omega))
        have hzHB3 := HB3.out.lt
        have HN3 := Lib.hid ((Blk.new w2 (nodeCells (a2) (kv2)) 25).kp hk (by first | omega | (have := HR0.out.size; simp at *; omega)))
        have hzHN3 := HN3.out.lt
        have HT2_3 := Lib.hid ((HT2.out.alloc _).kp hk (fun b hb => by omega))
        have HS := Lib.hid hS0
        clear hS0 hs hk
        have HP := Lib.hid (show termP l = .ok (a2, l2) by unfold termP; exact ((cond_t HI.out _ _)).trans (((bd_ok H2.out _)).trans ((sumK_none HS.out _ _))))
        go_wp2_with (first | ((with_reducible refine at_ld 25 (.tmp 3) ?_); refine wpList_load_blk rfl 25 (.tmp 3) rfl w2.heap.size (nodeCells (a2) (kv2)) rfl (show Blk _ w2.heap.size (nodeCells (a2) (kv2)) 25 from (HN3.out.alloc _)) Tryd.underlying25 rfl Tryd.sizeNode ?_) | ((with_reducible refine at_st 25 (.tmp 2) ?_); refine wpList_store_blk rfl 25 (.tmp 2) (.tmp 26) rfl w.heap.size (nodeCells (a2) (kv2)) rfl rfl (HB3.out.alloc _) Tryd.sizeNode rfl (nodeCells_one _ _ HT2.out.kat.one) ?_))
        exact ret_blk (cs := nodeCells (a2) (kv2)) Tryd.results119 rfl (HB3.out.alloc _) Tryd.underlying25 rfl Tryd.sizeNode rfl (Run.node (HR3.out.alloc _) (HT2_3.out.alloc _).lo HP.out (by have := HL2.out; first | omega | (simp only [List.length_tail] at *; omega)))
      ·
        have HR3 := Lib.hid ((HR2.out.alloc _).call hk hs)
        have hzR3 := HR3.out.size
        have HB3 := Lib.hid ((HB2.out.alloc _).kp hk (by omega))
        have hzHB3 := HB3.out.lt
        have HN3 := Lib.hid ((Blk.new w2 (nodeCells (a2) (kv2)) 25).kp hk (by first | omega | (have := HR0.out.size; simp at *; omega)))
        have hzHN3 := HN3.out.lt
        have HT2_3 := Lib.hid ((HT2.out.alloc _).kp hk (fun b hb => by omega))
        have HS := Lib.hid hS0
        clear hS0 hs hk
        have HF := Lib.hid hf
        clear hf
        go_wp2_with fail
        refine AnyE.begin2 (S := fun W => Blk W w3.heap.size [.int .i64 kk, .int .i64 ff] 148) (by kernel_rfl) ((Blk.new w3 [.int .i64 kk, .int .i64 ff] 148).drew) (fun hS => ?_)
        refine AnyE.take (i := 0) (v := .pointer (some ⟨w3.heap.size, 1, none⟩)) rfl (by kernel_rfl) (by kernel_rfl) (by kernel_rfl) (by kernel_rfl) (fun _ _ _ h => h) (Or.inl ⟨by rfl, fun W _ => by go_simp⟩) hS ?_
        refine AnyE.take (i := 1) (v := .int .i64 ff) rfl (by kernel_rfl) (by kernel_rfl) (by kernel_rfl) (by kernel_rfl) (fun _ _ _ h => h) (Or.inl ⟨by rfl, fun W hW => by have hc1 : W.cell? ⟨w3.heap.size, 1, none⟩ = some (.int .i64 ff) := hW.cell 1; go_simp⟩) hS ?_
        refine AnyE.take (i := 2) (v := .pointer (some ⟨E.pb, 0, none⟩)) rfl (by kernel_rfl) (by kernel_rfl) (by kernel_rfl) (by kernel_rfl) (fun _ _ _ h => h) (Or.inl ⟨by rfl, fun W _ => by go_simp⟩) hS ?_
        refine AnyE.one (i := 3) (by kernel_rfl) rfl (by rfl) (fun K hK => ?_)
        go_simp
        refine (number_any ((HR3.out.alloc _).drew).st).mono ?_
        intro e w4 hp
        cases hr : numberP l2.tail with
        | error pc =>
          obtain ⟨p, c⟩ := pc
          obtain ⟨rfl, hk, hcd⟩ := hp.err hr
          have HK := Lib.hid (((HR3.out.alloc _).drew).kp.trans hk)
          have HP := Lib.hid (show termP l = .error (p, c) by unfold termP; exact ((cond_t HI.out _ _)).trans (((bd_ok H2.out _)).trans (((sumK_some HS.out _ _)).trans ((bd_err hr _)))))
          clear hr hp hk
          go_wp2
          exact ⟨rfl, Run.err HK.out HP.out hcd⟩
        | ok q =>
          obtain ⟨a4, l4⟩ := q
          obtain ⟨v4, rfl, hv, hs, hl, hk⟩ := hp.ok hr
          obtain ⟨rfl, hn0, hn1⟩ := hv
          have HR4 := Lib.hid (((HR3.out.alloc _).drew).call hk hs)
          have hzR4 := HR4.out.size
          have HB4 := Lib.hid (((HB3.out.alloc _).drew).kp hk (by omega))
          have hzHB4 := HB4.out.lt
          have HN4 := Lib.hid (((HN3.out.alloc _).drew).kp hk (by first | omega | (have := HR0.out.size; simp at *; omega)))
          have hzHN4 := HN4.out.lt
          have HS_4 := Lib.hid (((Blk.new w3 [.int .i64 kk, .int .i64 ff] 148).drew).kp hk (by first | omega | (have := HR0.out.size; simp at *; omega)))
          have hzHS_4 := HS_4.out.lt
          have HT2_4 := Lib.hid (((HT2_3.out.alloc _).drew).kp hk (fun b hb => by omega))
          have HL4 := Lib.hid hl
          have H4 := Lib.hid hr
          clear hr hp hs hl hk 
          refine hK.out _ _ (fun _ => HS_4.out) ?_
          clear hK K
          have hwr : IntKind.i64.wrap (ff * a4) = ff * a4 := by
            have h1 : ff * a4 = a4 ∨ ff * a4 = -a4 := by rcases HF.out with rfl | rfl; exact .inl (by omega); exact .inr (by omega)
            refine IntWalk.i64_in _ ?_
            rcases h1 with h1 | h1 <;> rw [h1] <;> omega
          refine AnyE.one (i := 4) (by kernel_rfl) rfl (by rfl) (fun K hK => ?_)
          go_simp
          refine hK.out _ _ (fun _ => HS_4.out) ?_
          clear hK K
          refine AnyE.one (i := 5) (by kernel_rfl) rfl (by rfl) (fun K hK => ?_)
          go_simp
          refine hK.out _ _ (fun _ => HS_4.out) ?_
          clear hK K
          refine AnyE.one (i := 6) (by kernel_rfl) rfl (by rfl) (fun K hK => ?_)
          have hcell : _root_.Go.World.cell? _ ⟨w2.heap.size, 2, none⟩ = some (.int .i64 a2.num) := HN4.out.cell 2
          have hfroz := HN4.out.frozen 2
          go_simp
          refine hK.out _ _ (fun h => absurd rfl h) ?_
          clear hK K
          refine AnyE.done (by kernel_rfl) ?_ _
          have HP := Lib.hid (show termP l = .ok (a2.setNum (ff * a4), l4) by unfold termP; exact ((cond_t HI.out _ _)).trans (((bd_ok H2.out _)).trans (((sumK_some HS.out _ _)).trans ((bd_ok H4.out _)))))
          go_wp2_with (first | ((with_reducible refine at_ld 25 (.tmp 3) ?_); refine wpList_load_blk rfl 25 (.tmp 3) rfl w2.heap.size (nodeCells (a2.setNum (ff * a4)) (kv2)) rfl (show Blk _ w2.heap.size (nodeCells (a2.setNum (ff * a4)) (kv2)) 25 from (by rw [← nodeCells_setNum]; exact (HN4.out.setSame 2 (.int .i64 (ff * a4))))) Tryd.underlying25 rfl Tryd.sizeNode ?_) | ((with_reducible refine at_st 25 (.tmp 2) ?_); refine wpList_store_blk rfl 25 (.tmp 2) (.tmp 26) rfl w.heap.size (nodeCells (a2.setNum (ff * a4)) (kv2)) rfl rfl (HB4.out.setOther ⟨w2.heap.size, 2, none⟩ _ (by show _ ≠ w2.heap.size; omega)) Tryd.sizeNode rfl (nodeCells_one _ _ HT2.out.kat.one) ?_))
          exact ret_blk (cs := nodeCells (a2.setNum (ff * a4)) (kv2)) Tryd.results119 rfl (HB4.out.setOther ⟨w2.heap.size, 2, none⟩ _ (by show _ ≠ w2.heap.size; omega)) Tryd.underlying25 rfl Tryd.sizeNode rfl (Run.node (HR4.out.setCell (a := ⟨w2.heap.size, 2, none⟩) (by show w.heap.size ≤ w2.heap.size; omega) _) (TAt.of_kids (by cases a2; exact (HT2_4.out.setCell ⟨w2.heap.size, 2, none⟩ _ (fun b hb => by show _ ≠ w2.heap.size; omega)).lo.kat)) HP.out (by have := HL2.out; have := HL4.out; first | omega | (simp only [List.length_tail] at *; omega)))
  ·
    have HI := Lib.hid (show ((hdT l).kind == 1) = false from beq_eq_false_iff_ne.2 hkd)
    have hne : (((hdT l).kind : Int) != 1) = true := by simp; omega
    clear hkd
    go_wp2_with fail
    refine (numberTerm_any HR1.out.st).mono ?_
    intro e w2 hp
    cases hr : numberTermP l with
    | error pc =>
      obtain ⟨p, c⟩ := pc
      obtain ⟨rfl, hk, hcd⟩ := hp.err hr
      have HK := Lib.hid (HR1.out.kp.trans hk)
      have HP := Lib.hid (show termP l = .error (p, c) by unfold termP; exact ((cond_f HI.out _ _)).trans (hr))
      clear hr hp hk
      go_wp2
      exact ⟨rfl, Run.err HK.out HP.out hcd⟩
    | ok q =>
      obtain ⟨a2, l2⟩ := q
      obtain ⟨v2, rfl, hv, hs, hl, hk⟩ := hp.ok hr
      obtain ⟨kv2, rfl, ht⟩ := hv
      have HT2 := Lib.hid (ht.weak HB1.out.lt)
      have HR2 := Lib.hid (HR1.out.call hk hs)
      have hzR2 := HR2.out.size
      have HB2 := Lib.hid (HB1.out.kp hk (by omega))
      have hzHB2 := HB2.out.lt
      have HL2 := Lib.hid hl
      have H2 := Lib.hid hr
      clear hr hp hs hl hk ht
      unfold NodeV
      have HP := Lib.hid (show termP l = .ok (a2, l2) by unfold termP; exact ((cond_f HI.out _ _)).trans (H2.out))
      go_wp2_with ((with_reducible refine at_st 25 (.tmp 2) ?_); refine wpList_store_blk rfl 25 (.tmp 2) (.tmp 11) rfl w.heap.size (nodeCells (a2) (kv2)) rfl rfl HB2.out Tryd.sizeNode rfl (nodeCells_one _ _ HT2.out.kat.one) ?_)
      exact ret_blk (cs := nodeCells (a2) (kv2)) Tryd.results119 rfl HB2.out Tryd.underlying25 rfl Tryd.sizeNode rfl (Run.node HR2.out HT2.out.lo HP.out (by have := HL2.out; first | omega | (simp only [List.length_tail] at *; omega)))

end Go.Proofs.YtnmpfpnldcgbaaaDoor
