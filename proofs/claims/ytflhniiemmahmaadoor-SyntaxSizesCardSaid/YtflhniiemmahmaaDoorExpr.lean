/- The contracts of the parser's index, callOf, refBehind. -/
import Derived.Test.YtflhniiemmahmaaDoorList
namespace Go.Proofs.YtflhniiemmahmaaDoor
open Go.RowKit

theorem termItem (E : Env) (d : Nat) : ItemC E d 87 termP := ⟨fun args w => run_enter Tryd.func87 (by kernel_rfl) (by kernel_rfl) args w, fun h => term_any h⟩

set_option maxRecDepth 100000 in
set_option maxHeartbeats 1000000 in
theorem index_any {E : Env} {w : World} {l : List Tok} {d : Nat} (h : PSt E w l d) :
    Calls Tryd.prog 98 #[.pointer (some ⟨E.pb, 0, none⟩)] w (PPost VNode E w l d (indexP l)) := by
  have HR0 := Lib.hid ((Run.start h).alloc (.cells zeroNodeCells.toArray 25))
  have HB0 := Lib.hid (Blk.new w zeroNodeCells 25)
  have hlo := h.plt
  have hlt := h.tlt
  have hln := h.len
  clear h
  go_enter Tryd.func98, Tryd.ntmps98
  go_wp2_with fail
  refine (expect_at HR0.out.st [bs [91]] (by decide) (by decide) (by simp) rfl rfl).mono ?_
  intro e w1 hp
  cases hr : expectP [bs [91]] l with
  | error pc =>
    obtain ⟨p, c⟩ := pc
    obtain ⟨rfl, hk, hcd⟩ := hp.err hr
    have HK := Lib.hid (HR0.out.kp.trans hk)
    have HP := Lib.hid (show indexP l = .error (p, c) by unfold indexP; exact (bd_err hr _))
    clear hr hp hk
    go_wp2
    exact ⟨rfl, Run.err HK.out HP.out hcd⟩
  | ok q =>
    obtain ⟨a1, l1⟩ := q
    obtain ⟨v1, rfl, hv, hs, hl, hk⟩ := hp.ok hr
    obtain ⟨rfl, hto⟩ := hv
    have HR1 := Lib.hid (HR0.out.call hk hs)
    have hzR1 := HR1.out.size
    have HB1 := Lib.hid (HB0.out.kp hk (by omega))
    have hzHB1 := HB1.out.lt
    have HL1 := Lib.hid hl
    have H1 := Lib.hid hr
    clear hr hp hs hl hk hto
    unfold tokV
    go_wp2_with fail
    refine (term_any HR1.out.st).mono ?_
    intro e w2 hp
    cases hr : termP l1 with
    | error pc =>
      obtain ⟨p, c⟩ := pc
      obtain ⟨rfl, hk, hcd⟩ := hp.err hr
      have HK := Lib.hid (HR1.out.kp.trans hk)
      have HP := Lib.hid (show indexP l = .error (p, c) by unfold indexP; exact ((bd_ok H1.out _)).trans ((bd_err hr _)))
      clear hr hp hk
      go_wp2
      exact ⟨rfl, Run.err HK.out HP.out hcd⟩
    | ok q =>
      obtain ⟨a2, l2⟩ := q
      obtain ⟨v2, rfl, hv, hs, hl, hk⟩ := hp.ok hr
      obtain ⟨kv2, rfl, ht⟩ := hv
      have HT2 := Lib.hid (ht.weak HB1.out.lt)
      have HR2 := Lib.hid (HR1.out.call hk hs)
      have hzR2 := HR2.out.size
      have HB2 := Lib.hid (HB1.out.kp hk (by omega))
      have hzHB2 := HB2.out.lt
      have HL2 := Lib.hid hl
      have H2 := Lib.hid hr
      clear hr hp hs hl hk ht
      unfold NodeV
      go_wp2_with ((with_reducible refine at_st 25 (.tmp 3) ?_); refine wpList_store_new rfl 25 (.tmp 3) (.tmp 8) rfl (nodeCells (a2) (kv2)) (old := zeroNodeCells) rfl rfl Tryd.sizeNode rfl (nodeCells_one _ _ HT2.out.kat.one) ?_)
      go_wp2_with fail
      refine (expect_at (HR2.out.alloc _).st [bs [93]] (by decide) (by decide) (by simp) rfl rfl).mono ?_
      intro e w3 hp
      cases hr : expectP [bs [93]] l2 with
      | error pc =>
        obtain ⟨p, c⟩ := pc
        obtain ⟨rfl, hk, hcd⟩ := hp.err hr
        have HK := Lib.hid ((HR2.out.alloc _).kp.trans hk)
        have HP := Lib.hid (show indexP l = .error (p, c) by unfold indexP; exact ((bd_ok H1.out _)).trans (((bd_ok H2.out _)).trans ((bd_err hr _))))
        clear hr hp hk
        go_wp2
        exact ⟨rfl, Run.err HK.out HP.out hcd⟩
      | ok q =>
        obtain ⟨a3, l3⟩ := q
        obtain ⟨v3, rfl, hv, hs, hl, hk⟩ := hp.ok hr
        obtain ⟨rfl, hto⟩ := hv
        have HR3 := Lib.hid ((HR2.out.alloc _).call hk hs)
        have hzR3 := HR3.out.size
        have HB3 := Lib.hid ((HB2.out.alloc _).kp hk (by omega))
        have hzHB3 := HB3.out.lt
        have HN3 := Lib.hid ((Blk.new w2 (nodeCells (a2) (kv2)) 25).kp hk (by first | omega | (have := HR0.out.size; simp at *; omega)))
        have hzHN3 := HN3.out.lt
        have HT2_3 := Lib.hid ((HT2.out.alloc _).kp hk (fun b hb => by omega))
        have HL3 := Lib.hid hl
        have H3 := Lib.hid hr
        clear hr hp hs hl hk hto
        unfold tokV
        have HP := Lib.hid (show indexP l = .ok (a2, l3) by unfold indexP; exact ((bd_ok H1.out _)).trans (((bd_ok H2.out _)).trans ((bd_ok H3.out _))))
        go_wp2_with (first | ((with_reducible refine at_ld 25 (.tmp 3) ?_); refine wpList_load_blk rfl 25 (.tmp 3) rfl w2.heap.size (nodeCells (a2) (kv2)) rfl (show Blk _ w2.heap.size (nodeCells (a2) (kv2)) 25 from HN3.out) Tryd.underlying25 rfl Tryd.sizeNode ?_) | ((with_reducible refine at_st 25 (.tmp 2) ?_); refine wpList_store_blk rfl 25 (.tmp 2) (.tmp 12) rfl w.heap.size (nodeCells (a2) (kv2)) rfl rfl HB3.out Tryd.sizeNode rfl (nodeCells_one _ _ HT2.out.kat.one) ?_))
        exact ret_blk (cs := nodeCells (a2) (kv2)) Tryd.results98 rfl HB3.out Tryd.underlying25 rfl Tryd.sizeNode rfl (Run.node HR3.out HT2_3.out.lo HP.out (by have := HL1.out; have := HL2.out; have := HL3.out; first | omega | (simp only [List.length_tail] at *; omega)))

set_option maxRecDepth 100000 in
set_option maxHeartbeats 1000000 in
theorem refBehind_any {E : Env} {w : World} {l : List Tok} {d : Nat} (h : PSt E w l d) (pl : Nat) :
    Calls Tryd.prog 100 #[.pointer (some ⟨E.pb, 0, none⟩), .int .i64 pl] w (PPost VNode E w l d (refP pl l)) := by
  have HR0 := Lib.hid ((Run.start h).alloc (.cells zeroNodeCells.toArray 25))
  have HB0 := Lib.hid (Blk.new w zeroNodeCells 25)
  have HL0 := Lib.hid (tail_lt h)
  have hlo := h.plt
  have hlt := h.tlt
  have hln := h.len
  clear h
  go_enter Tryd.func100, Tryd.ntmps100
  cases hi : isT (hdT l) (bs [109, 117, 116]) with
  | false =>
    have HIi := Lib.hid hi
    clear hi
    go_wp2_with fail
    refine (accept_no HR0.out.st HIi.out).mono ?_
    rintro e w1 ⟨rfl, hb⟩
    have HR1 := Lib.hid (HR0.out.below hb)
    have hzR1 := HR1.out.size
    have HB1 := Lib.hid (HB0.out.kp (Kp.of_below (pb := E.pb) hb) (by omega))
    have hzHB1 := HB1.out.lt
    clear hb
    go_wp2_with fail
    refine (name_any HR1.out.st).mono ?_
    intro e w2 hp
    cases hr : nameP l with
    | error pc =>
      obtain ⟨p, c⟩ := pc
      obtain ⟨rfl, hk, hcd⟩ := hp.err hr
      have HK := Lib.hid (HR1.out.kp.trans hk)
      have HP := Lib.hid (show refP pl l = .error (p, c) by unfold refP; exact ((cond_f HIi.out _ _)).trans ((bd_err hr _)))
      clear hr hp hk
      go_wp2
      exact ⟨rfl, Run.err HK.out HP.out hcd⟩
    | ok q =>
      obtain ⟨a2, l2⟩ := q
      obtain ⟨v2, rfl, hv, hs, hl, hk⟩ := hp.ok hr
      obtain rfl : v2 = .string a2 := hv
      have HR2 := Lib.hid (HR1.out.call hk hs)
      have hzR2 := HR2.out.size
      have HB2 := Lib.hid (HB1.out.kp hk (by omega))
      have hzHB2 := HB2.out.lt
      have HL2 := Lib.hid hl
      have H2 := Lib.hid hr
      clear hr hp hs hl hk 
      have HP := Lib.hid (show refP pl l = .ok (T.mk 26 a2 0 pl [], l2) by unfold refP; exact ((cond_f HIi.out _ _)).trans ((bd_ok H2.out _)))
      go_wp2_with ((with_reducible refine at_st 25 (.tmp 4) ?_); refine wpList_store_blk rfl 25 (.tmp 4) (.tmp 12) rfl w.heap.size (nodeCells (T.mk 26 a2 0 pl []) (.slice none 0 0)) rfl rfl HB2.out Tryd.sizeNode rfl (nodeCells_one _ _ rfl) ?_)
      exact ret_blk (cs := nodeCells (T.mk 26 a2 0 pl []) (.slice none 0 0)) Tryd.results100 rfl HB2.out Tryd.underlying25 rfl Tryd.sizeNode rfl (Run.node HR2.out ((KAt.nil _ _ _).tat _ _ _ _) HP.out (by have := HL0.out; have := HL2.out; first | omega | (simp only [List.length_tail] at *; omega)))
  | true =>
    have HIi := Lib.hid hi
    clear hi
    go_wp2_with fail
    refine (accept_yes HR0.out.st HIi.out (by decide)).mono ?_
    rintro e w1 ⟨rfl, hs, hk⟩
    have HR1 := Lib.hid (HR0.out.call hk hs)
    have hzR1 := HR1.out.size
    have HB1 := Lib.hid (HB0.out.kp hk (by omega))
    have hzHB1 := HB1.out.lt
    clear hs hk
    go_wp2_with fail
    refine (name_any HR1.out.st).mono ?_
    intro e w2 hp
    cases hr : nameP l.tail with
    | error pc =>
      obtain ⟨p, c⟩ := pc
      obtain ⟨rfl, hk, hcd⟩ := hp.err hr
      have HK := Lib.hid (HR1.out.kp.trans hk)
      have HP := Lib.hid (show refP pl l = .error (p, c) by unfold refP; exact ((cond_t HIi.out _ _)).trans ((bd_err hr _)))
      clear hr hp hk
      go_wp2
      exact ⟨rfl, Run.err HK.out HP.out hcd⟩
    | ok q =>
      obtain ⟨a2, l2⟩ := q
      obtain ⟨v2, rfl, hv, hs, hl, hk⟩ := hp.ok hr
      obtain rfl : v2 = .string a2 := hv
      have HR2 := Lib.hid (HR1.out.call hk hs)
      have hzR2 := HR2.out.size
      have HB2 := Lib.hid (HB1.out.kp hk (by omega))
      have hzHB2 := HB2.out.lt
      have HL2 := Lib.hid hl
      have H2 := Lib.hid hr
      clear hr hp hs hl hk 
      have HP := Lib.hid (show refP pl l = .ok (T.mk 27 a2 0 pl [], l2) by unfold refP; exact ((cond_t HIi.out _ _)).trans ((bd_ok H2.out _)))
      go_wp2_with ((with_reducible refine at_st 25 (.tmp 4) ?_); refine wpList_store_blk rfl 25 (.tmp 4) (.tmp 12) rfl w.heap.size (nodeCells (T.mk 27 a2 0 pl []) (.slice none 0 0)) rfl rfl HB2.out Tryd.sizeNode rfl (nodeCells_one _ _ rfl) ?_)
      exact ret_blk (cs := nodeCells (T.mk 27 a2 0 pl []) (.slice none 0 0)) Tryd.results100 rfl HB2.out Tryd.underlying25 rfl Tryd.sizeNode rfl (Run.node HR2.out ((KAt.nil _ _ _).tat _ _ _ _) HP.out (by have := HL0.out; have := HL2.out; first | omega | (simp only [List.length_tail] at *; omega)))

set_option maxRecDepth 100000 in
set_option maxHeartbeats 1000000 in
theorem callOf_any {E : Env} {w : World} {l : List Tok} {d : Nat} (h : PSt E w l d) (n : T) (sa : Option Addr) (sn sc : Nat) :
    Calls Tryd.prog 97 #[.pointer (some ⟨E.pb, 0, none⟩), NodeV n (.slice sa sn sc)] w (PPost VNode E w l d (callP n l)) := by
  have HR0 := Lib.hid (((Run.start h).alloc (.cells (nodeCells n (.slice sa sn sc)).toArray 25)).alloc (.cells zeroNodeCells.toArray 25))
  have HC0 := Lib.hid ((Blk.new w (nodeCells n (.slice sa sn sc)) 25).alloc (.cells zeroNodeCells.toArray 25))
  have HB0 := Lib.hid (Blk.new2 w (.cells (nodeCells n (.slice sa sn sc)).toArray 25) zeroNodeCells 25)
  have hlo := h.plt
  have hlt := h.tlt
  have hln := h.len
  clear h
  unfold NodeV
  have hmf := makeFunc_run
  go_enter Tryd.func97, Tryd.ntmps97
  go_wp2_with fail
  refine AnyE.begin2 (S := fun W => Blk W w.heap.size (nodeCells n (.slice sa sn sc)) 25) (by kernel_rfl) (HC0.out.drew) (fun hS => ?_)
  refine AnyE.take (i := 0) (v := .pointer (some ⟨w.heap.size, 1, none⟩)) rfl (by kernel_rfl) (by kernel_rfl) (by kernel_rfl) (by kernel_rfl) (fun _ _ _ h => h) (Or.inl ⟨by rfl, fun W _ => by go_simp⟩) hS ?_
  refine AnyE.take (i := 1) (v := .string n.text) rfl (by kernel_rfl) (by kernel_rfl) (by kernel_rfl) (by kernel_rfl) (fun _ _ _ h => h) (Or.inl ⟨by rfl, fun W hW => by have hcx : W.cell? ⟨w.heap.size, 1, none⟩ = some (.string n.text) := hW.cell 1; go_simp⟩) hS ?_
  refine AnyE.take (i := 2) (v := .pointer (some ⟨w.heap.size, 3, none⟩)) rfl (by kernel_rfl) (by kernel_rfl) (by kernel_rfl) (by kernel_rfl) (fun _ _ _ h => h) (Or.inl ⟨by rfl, fun W _ => by go_simp⟩) hS ?_
  refine AnyE.take (i := 3) (v := .int .i64 n.place) rfl (by kernel_rfl) (by kernel_rfl) (by kernel_rfl) (by kernel_rfl) (fun _ _ _ h => h) (Or.inl ⟨by rfl, fun W hW => by have hcx : W.cell? ⟨w.heap.size, 3, none⟩ = some (.int .i64 n.place) := hW.cell 3; go_simp⟩) hS ?_
  refine AnyE.take (i := 4) (v := .pointer (some ⟨E.pb, 0, none⟩)) rfl (by kernel_rfl) (by kernel_rfl) (by kernel_rfl) (by kernel_rfl) (fun _ _ _ h => h) (Or.inl ⟨by rfl, fun W _ => by go_simp⟩) hS ?_
  refine AnyE.take (i := 5) (v := .pointer (some ⟨E.pb, 0, none⟩)) rfl (by kernel_rfl) (by kernel_rfl) (by kernel_rfl) (by kernel_rfl) (fun _ _ _ h => h) (Or.inl ⟨by rfl, fun W _ => by go_simp⟩) hS ?_
  refine AnyE.take (i := 6) (v := .func (.func 87) #[.pointer (some ⟨E.pb, 0, none⟩)] #[]) rfl (by kernel_rfl) (by kernel_rfl) (by kernel_rfl) (by kernel_rfl) (fun _ _ _ h => h) (Or.inl ⟨by rfl, fun W _ => by go_simp⟩) hS ?_
  refine AnyE.one (i := 7) (by kernel_rfl) rfl (by rfl) (fun K hK => ?_)
  go_simp
  refine (inParens_any (HR0.out.drew).st (termItem E d)).mono ?_
  intro e w1 hp
  cases hr : parensP termP l with
  | error pc =>
    obtain ⟨p, c⟩ := pc
    obtain ⟨rfl, hk, hcd⟩ := hp.err hr
    have HK := Lib.hid ((HR0.out.drew).kp.trans hk)
    have HP := Lib.hid (show callP n l = .error (p, c) by unfold callP; exact (bd_err hr _))
    clear hr hp hk
    go_wp2
    exact ⟨rfl, Run.err HK.out HP.out hcd⟩
  | ok q =>
    obtain ⟨a1, l1⟩ := q
    obtain ⟨v1, rfl, hv, hs, hl, hk⟩ := hp.ok hr
    have HT1 := Lib.hid (hv.1.weak (HB0.out.drew).lt)
    have HC1 := Lib.hid hv.2
    obtain ⟨sa1, sn1, sc1, rfl⟩ := HT1.out.slice
    have HR1 := Lib.hid ((HR0.out.drew).call hk hs)
    have hzR1 := HR1.out.size
    have HB1 := Lib.hid ((HB0.out.drew).kp hk (by omega))
    have hzHB1 := HB1.out.lt
    have HC_1 := Lib.hid ((HC0.out.drew).kp hk (by first | omega | (have := HR0.out.size; simp at *; omega)))
    have hzHC_1 := HC_1.out.lt
    have HL1 := Lib.hid hl
    have H1 := Lib.hid hr
    clear hr hp hs hl hk hv
    refine hK.out _ _ (fun _ => HC_1.out) ?_
    clear hK K
    refine AnyE.one (i := 8) (by kernel_rfl) rfl (by rfl) (fun K hK => ?_)
    go_simp
    refine hK.out _ _ (fun _ => HC_1.out) ?_
    clear hK K
    have HP := Lib.hid (show callP n l = .ok (T.mk 28 n.text 0 n.place a1, l1) by unfold callP; exact (bd_ok H1.out _))
    refine AnyE.one (i := 9) (by kernel_rfl) rfl (by rfl) (fun K hK => ?_)
    refine wp_store_blk 25 (.tmp 4) (.tmp 13) rfl (w.heap.size + 1) (nodeCells (T.mk 28 n.text 0 n.place a1) (.slice sa1 sn1 sc1)) rfl rfl HB1.out Tryd.sizeNode rfl (nodeCells_one _ _ rfl) ?_
    refine hK.out _ _ (fun h => absurd rfl h) ?_
    clear hK K
    refine AnyE.done (by kernel_rfl) ?_ _
    go_wp2
    exact ret_blk0 (cs := nodeCells (T.mk 28 n.text 0 n.place a1) (.slice sa1 sn1 sc1)) Tryd.results97 rfl HB1.out Tryd.underlying25 rfl Tryd.sizeNode rfl (Run.nodeAt (by omega) HR1.out (HT1.out.lo.tat _ _ _ _) HP.out (by have := HL1.out; first | omega | (simp only [List.length_tail] at *; omega)))

end Go.Proofs.YtflhniiemmahmaaDoor
