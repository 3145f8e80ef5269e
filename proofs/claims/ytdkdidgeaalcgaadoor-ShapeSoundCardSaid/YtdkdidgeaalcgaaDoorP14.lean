/- The contracts of the parser's typeBehind and fnBehind. -/
import Derived.Test.YtdkdidgeaalcgaaDoorP13
namespace Go.Proofs.YtdkdidgeaalcgaaDoor
open Go.RowKit

theorem fieldItem (E : Env) (d : Nat) : ItemC E d 63 fieldP := ⟨fun args w => run_enter Tryd.func63 (by kernel_rfl) (by kernel_rfl) args w, fun h => field_any h⟩
theorem factItem (E : Env) (d : Nat) : ItemC E d 64 factP := ⟨fun args w => run_enter Tryd.func64 (by kernel_rfl) (by kernel_rfl) args w, fun h => fact_any h⟩

set_option maxRecDepth 100000 in
set_option maxHeartbeats 1000000 in
theorem typeBehind_any {E : Env} {w : World} {l : List Tok} {d : Nat} (h : PSt E w l d) (pl : Nat) :
    Calls Tryd.prog 46 #[.pointer (some ⟨E.pb, 0, none⟩), .int .i64 pl] w (PPost VNode E w l d (typeP pl l)) := by
  have HR0 := Lib.hid ((Run.start h).alloc (.cells zeroNodeCells.toArray 39))
  have HB0 := Lib.hid (Blk.new w zeroNodeCells 39)
  obtain ⟨i0, z0, I⟩ := Tryd.nodeInfo
  have hmf := makeFunc_run
  have hlo := h.plt
  have hlt := h.tlt
  have hln := h.len
  clear h
  go_enter Tryd.func46, Tryd.ntmps46
  go_wp2_with fail
  refine (name_any HR0.out.st).mono ?_
  intro e w1 hp
  cases hr : nameP l with
  | error pc =>
    obtain ⟨p, c⟩ := pc
    obtain ⟨rfl, hk, hcd⟩ := hp.err hr
    have HK := Lib.hid (HR0.out.kp.trans hk)
    have HP := Lib.hid (show typeP pl l = .error (p, c) by unfold typeP; exact (bd_err hr _))
    clear hr hp hk
    go_wp2
    exact ⟨rfl, Run.err HK.out HP.out hcd⟩
  | ok q =>
    obtain ⟨a1, l1⟩ := q
    obtain ⟨v1, rfl, hv, hs, hl, hk⟩ := hp.ok hr
    obtain rfl : v1 = .string a1 := hv
    have HR1 := Lib.hid (HR0.out.call hk hs)
    have hzR1 := HR1.out.size
    have HB1 := Lib.hid (HB0.out.kp hk (by omega))
    have hzHB1 := HB1.out.lt
    have HL1 := Lib.hid hl
    have H1 := Lib.hid hr
    clear hr hp hs hl hk 
    go_wp2_with fail
    refine AnyE.begin2 (S := fun W => Blk W (w1.heap.size) (nodeCells (T.mk 1 a1 0 pl []) (.slice none 0 0)) 39) (by kernel_rfl) ((KLoc.new (w := w) (t := T.mk 1 a1 0 pl []) (KAt.nil _ w1 _) hzHB1).blk.drew) (fun hS => ?_)
    refine AnyE.take (i := 0) (v := .pointer (some ⟨w1.heap.size, 4, none⟩)) rfl (by kernel_rfl) (by kernel_rfl) (by kernel_rfl) (by kernel_rfl) (fun _ _ _ h => h) (Or.inl ⟨by rfl, fun W _ => by go_simp⟩) hS ?_
    refine AnyE.take (i := 1) (v := .slice none 0 0) rfl (by kernel_rfl) (by kernel_rfl) (by kernel_rfl) (by kernel_rfl) (fun _ _ _ h => h) (Or.inl ⟨by rfl, fun W hW => by have hcx : W.cell? ⟨w1.heap.size, 4, none⟩ = some (.slice none 0 0) := hW.cell 4; go_simp⟩) hS ?_
    refine AnyE.take (i := 2) (v := .pointer (some ⟨E.pb, 0, none⟩)) rfl (by kernel_rfl) (by kernel_rfl) (by kernel_rfl) (by kernel_rfl) (fun _ _ _ h => h) (Or.inl ⟨by rfl, fun W _ => by go_simp⟩) hS ?_
    refine AnyE.one (i := 3) (by kernel_rfl) rfl (by rfl) (fun K hK => ?_)
    go_simp
    refine (sort_any ((HR1.out.alloc _).drew).st).mono ?_
    intro e w2 hp
    cases hr : sortP l1 with
    | error pc =>
      obtain ⟨p, c⟩ := pc
      obtain ⟨rfl, hk, hcd⟩ := hp.err hr
      have HK := Lib.hid (((HR1.out.alloc _).drew).kp.trans hk)
      have HP := Lib.hid (show typeP pl l = .error (p, c) by unfold typeP; exact ((bd_ok H1.out _)).trans ((bd_err hr _)))
      clear hr hp hk
      go_wp2
      exact ⟨rfl, Run.err HK.out HP.out hcd⟩
    | ok q =>
      obtain ⟨a2, l2⟩ := q
      obtain ⟨v2, rfl, hv, hs, hl, hk⟩ := hp.ok hr
      obtain ⟨kv2, rfl, ht⟩ := hv
      have HT2 := Lib.hid (ht.weak ((HB1.out.alloc _).drew).lt)
      have huHN2 := Blk.lt_kp hk ((KLoc.new (w := w) (t := T.mk 1 a1 0 pl []) (KAt.nil _ w1 _) hzHB1).drew).blk
      have HU2 := Lib.hid (ht.mono (S' := fun b => w.heap.size < b ∧ w1.heap.size < b) (fun b hb _ => by have := Blk.lt_kp hk ((HB1.out.alloc _).drew); omega))
      have HF2 := Lib.hid (KLoc.fresh hk ((KLoc.new (w := w) (t := T.mk 1 a1 0 pl []) (KAt.nil _ w1 _) hzHB1).drew) ht)
      have HG2 := Lib.hid (KLoc.fresh2 hk ((KLoc.new (w := w) (t := T.mk 1 a1 0 pl []) (KAt.nil _ w1 _) hzHB1).drew) ht)
      have HR2 := Lib.hid (((HR1.out.alloc _).drew).call hk hs)
      have hzR2 := HR2.out.size
      have HB2 := Lib.hid (((HB1.out.alloc _).drew).kp hk (by omega))
      have hzHB2 := HB2.out.lt
      have HN2 := Lib.hid (((KLoc.new (w := w) (t := T.mk 1 a1 0 pl []) (KAt.nil _ w1 _) hzHB1).drew).kp hk (by first | omega | (have := HR0.out.size; simp at *; omega)))
      have hzHN2 := HN2.out.lt
      have HL2 := Lib.hid hl
      have H2 := Lib.hid hr
      clear hr hp hs hl hk ht
      unfold NodeV
      refine hK.out _ _ (fun _ => HN2.out.blk) ?_
      clear hK K
      refine AnyE.one (i := 4) (by kernel_rfl) rfl (by rfl) (fun K hK => ?_)
      go_simp
      refine hK.out _ _ (fun _ => (HN2.out.alloc _).blk) ?_
      clear hK K
      refine AnyE.one (i := 5) (by kernel_rfl) rfl (by rfl) (fun K hK => ?_)
      refine wp_append_trees (.tmp 11) (.tmp 14) rfl I (ts := [a2]) rfl (HN2.out.alloc _).kids (us := [kv2]) (TsAt.single (HF2.out.alloc _)) ⟨by simp; omega, by simp; omega⟩ rfl rfl (by simp) (lit1_at w2 _ a2 kv2) (by show 0 + 1 ≤ _; decide) ?_
      intro v2x w2x hKx hgx _
      obtain ⟨sa2x, sn2x, sc2x, rfl⟩ := hKx.slice
      obtain ⟨h1, h2, h3, hcx, hfx, h6⟩ := afterAppend (HR2.out.alloc _) (HB2.out.alloc _) (HN2.out.alloc _) hKx hgx
      have HR2x := Lib.hid h1
      have HB2x := Lib.hid h2
      have HN2x := Lib.hid h3
      have HC2x := Lib.hid h6
      clear h1 h2 h3 h6 hKx hgx
      refine hK.out _ _ (fun _ => HC2x.out) ?_
      clear hK K
      refine AnyE.one (i := 6) (by kernel_rfl) rfl (by rfl) (fun K hK => ?_)
      go_simp
      refine hK.out _ _ (fun _ => HC2x.out) ?_
      clear hK K
      refine AnyE.one (i := 7) (by kernel_rfl) rfl (by rfl) (fun K hK => ?_)
      go_simp
      refine hK.out _ _ (fun h => absurd rfl h) ?_
      clear hK K
      refine AnyE.done (by kernel_rfl) ?_ _
      clear hcx hfx
      generalize w2x.setCell ⟨w1.heap.size, 4, none⟩ (.slice sa2x sn2x sc2x) = w2y at HR2x HB2x HN2x ⊢
      have hzHB2y := HB2x.out.lt
      have hzHN2y := HN2x.out.lt
      cases hi : isT (hdT l2) (bs [123]) with
      | false =>
        have HIi := Lib.hid hi
        clear hi
        have HFI := Lib.hid (show fieldsP l2 = .ok ([], l2) by unfold fieldsP; exact cond_f HIi.out _ _)
        go_wp2_with fail
        refine (accept_no HR2x.out.st HIi.out).mono ?_
        rintro e w3 ⟨rfl, hb⟩
        have HR3 := Lib.hid (HR2x.out.below hb)
        have hzR3 := HR3.out.size
        have HB3 := Lib.hid (HB2x.out.kp (Kp.of_below (pb := E.pb) hb) (by omega))
        have hzHB3 := HB3.out.lt
        have HN3 := Lib.hid (HN2x.out.kp (Kp.of_below (pb := E.pb) hb) (by first | omega | (have := HR0.out.size; simp at *; omega)))
        have hzHN3 := HN3.out.lt
        clear hb
        cases hw : isT (hdT l2) (bs [119, 104, 101, 114, 101]) with
        | false =>
          have HIw := Lib.hid hw
          clear hw
          go_wp2_with fail
          refine (accept_no HR3.out.st HIw.out).mono ?_
          rintro e w4 ⟨rfl, hb⟩
          have HR4 := Lib.hid (HR3.out.below hb)
          have hzR4 := HR4.out.size
          have HB4 := Lib.hid (HB3.out.kp (Kp.of_below (pb := E.pb) hb) (by omega))
          have hzHB4 := HB4.out.lt
          have HN4 := Lib.hid (HN3.out.kp (Kp.of_below (pb := E.pb) hb) (by first | omega | (have := HR0.out.size; simp at *; omega)))
          have hzHN4 := HN4.out.lt
          clear hb
          have HFA := Lib.hid (show factsP l2 = .ok ([], l2) by unfold factsP; exact cond_f HIw.out _ _)
          go_wp2_with fail
          refine (expect_at HR4.out.st [bs [59]] (by decide) (by decide) (by simp) rfl rfl).mono ?_
          intro e w5 hp
          cases hr : expectP [bs [59]] l2 with
          | error pc =>
            obtain ⟨p, c⟩ := pc
            obtain ⟨rfl, hk, hcd⟩ := hp.err hr
            have HK := Lib.hid (HR4.out.kp.trans hk)
            have HP := Lib.hid (show typeP pl l = .error (p, c) by unfold typeP; exact ((bd_ok H1.out _)).trans (((bd_ok H2.out _)).trans (((bd_ok HFI.out _)).trans (((bd_ok HFA.out _)).trans ((bd_err hr _))))))
            clear hr hp hk
            go_wp2
            exact ⟨rfl, Run.err HK.out HP.out hcd⟩
          | ok q =>
            obtain ⟨a5, l5⟩ := q
            obtain ⟨v5, rfl, hv, hs, hl, hk⟩ := hp.ok hr
            obtain ⟨rfl, hto⟩ := hv
            have HR5 := Lib.hid (HR4.out.call hk hs)
            have hzR5 := HR5.out.size
            have HB5 := Lib.hid (HB4.out.kp hk (by omega))
            have hzHB5 := HB5.out.lt
            have HN5 := Lib.hid (HN4.out.kp hk (by first | omega | (have := HR0.out.size; simp at *; omega)))
            have hzHN5 := HN5.out.lt
            have HL5 := Lib.hid hl
            have H5 := Lib.hid hr
            clear hr hp hs hl hk hto
            unfold tokV
            have HP := Lib.hid (show typeP pl l = .ok (T.mk 1 a1 0 pl ([] ++ [a2]), l5) by unfold typeP; rw [show ([] ++ [a2]) = (a2 :: ([] ++ [])) by simp]; exact ((bd_ok H1.out _)).trans (((bd_ok H2.out _)).trans (((bd_ok HFI.out _)).trans (((bd_ok HFA.out _)).trans ((bd_ok H5.out _))))))
            go_wp2_with (first | ((with_reducible refine at_ld 39 (.tmp 5) ?_); refine wpList_load_blk rfl 39 (.tmp 5) rfl (w1.heap.size) (nodeCells (T.mk 1 a1 0 pl ([] ++ [a2])) (.slice sa2x sn2x sc2x)) rfl HN5.out.blk Tryd.underlying39 rfl Tryd.sizeNode ?_) | ((with_reducible refine at_st 39 (.tmp 4) ?_); refine wpList_store_blk rfl 39 (.tmp 4) (.tmp 43) rfl w.heap.size (nodeCells (T.mk 1 a1 0 pl ([] ++ [a2])) (.slice sa2x sn2x sc2x)) rfl rfl HB5.out Tryd.sizeNode rfl (nodeCells_one _ _ HN5.out.kids.one) ?_))
            exact ret_blk (cs := nodeCells (T.mk 1 a1 0 pl ([] ++ [a2])) (.slice sa2x sn2x sc2x)) Tryd.results46 rfl HB5.out Tryd.underlying39 rfl Tryd.sizeNode rfl (Run.node HR5.out (TAt.of_kids (HN5.out.kids.mono (fun _ hb _ => hb.1))) HP.out (by have := HL1.out; have := HL2.out; have := HL5.out; first | omega | (simp only [List.length_tail] at *; omega)))
        | true =>
          have HIw := Lib.hid hw
          clear hw
          go_wp2_with fail
          refine (accept_yes HR3.out.st HIw.out (by decide)).mono ?_
          rintro e w4 ⟨rfl, hs, hk⟩
          have HR4 := Lib.hid (HR3.out.call hk hs)
          have hzR4 := HR4.out.size
          have HB4 := Lib.hid (HB3.out.kp hk (by omega))
          have hzHB4 := HB4.out.lt
          have HN4 := Lib.hid (HN3.out.kp hk (by first | omega | (have := HR0.out.size; simp at *; omega)))
          have hzHN4 := HN4.out.lt
          clear hs hk
          have HFA := Lib.hid (show factsP l2 = _ by unfold factsP; exact cond_t HIw.out _ _)
          go_wp2_with fail
          refine AnyE.begin2 (S := fun W => Blk W (w1.heap.size) (nodeCells (T.mk 1 a1 0 pl ([] ++ [a2])) (.slice sa2x sn2x sc2x)) 39) (by kernel_rfl) (HN4.out.blk.drew) (fun hS => ?_)
          refine AnyE.take (i := 0) (v := .pointer (some ⟨w1.heap.size, 4, none⟩)) rfl (by kernel_rfl) (by kernel_rfl) (by kernel_rfl) (by kernel_rfl) (fun _ _ _ h => h) (Or.inl ⟨by rfl, fun W _ => by go_simp⟩) hS ?_
          refine AnyE.take (i := 1) (v := .slice sa2x sn2x sc2x) rfl (by kernel_rfl) (by kernel_rfl) (by kernel_rfl) (by kernel_rfl) (fun _ _ _ h => h) (Or.inl ⟨by rfl, fun W hW => by have hcx : W.cell? ⟨w1.heap.size, 4, none⟩ = some (.slice sa2x sn2x sc2x) := hW.cell 4; go_simp⟩) hS ?_
          refine AnyE.take (i := 2) (v := .pointer (some ⟨E.pb, 0, none⟩)) rfl (by kernel_rfl) (by kernel_rfl) (by kernel_rfl) (by kernel_rfl) (fun _ _ _ h => h) (Or.inl ⟨by rfl, fun W _ => by go_simp⟩) hS ?_
          refine AnyE.take (i := 3) (v := .pointer (some ⟨E.pb, 0, none⟩)) rfl (by kernel_rfl) (by kernel_rfl) (by kernel_rfl) (by kernel_rfl) (fun _ _ _ h => h) (Or.inl ⟨by rfl, fun W _ => by go_simp⟩) hS ?_
          refine AnyE.take (i := 4) (v := .func (.func 64) #[.pointer (some ⟨E.pb, 0, none⟩)] #[]) rfl (by kernel_rfl) (by kernel_rfl) (by kernel_rfl) (by kernel_rfl) (fun _ _ _ h => h) (Or.inl ⟨by rfl, fun W _ => by go_simp⟩) hS ?_
          refine AnyE.one (i := 5) (by kernel_rfl) rfl (by rfl) (fun K hK => ?_)
          go_simp
          refine (list_any (HR4.out.drew).st (factItem E d)).mono ?_
          intro e w5 hp
          cases hr : listP factP l2.tail with
          | error pc =>
            obtain ⟨p, c⟩ := pc
            obtain ⟨rfl, hk, hcd⟩ := hp.err hr
            have HK := Lib.hid ((HR4.out.drew).kp.trans hk)
            have HP := Lib.hid (show typeP pl l = .error (p, c) by unfold typeP; exact ((bd_ok H1.out _)).trans (((bd_ok H2.out _)).trans (((bd_ok HFI.out _)).trans ((bd_err (HFA.out.trans hr) _)))))
            clear hr hp hk
            go_wp2
            exact ⟨rfl, Run.err HK.out HP.out hcd⟩
          | ok q =>
            obtain ⟨a5, l5⟩ := q
            obtain ⟨v5, rfl, hv, hs, hl, hk⟩ := hp.ok hr
            have HF5 := Lib.hid (KLoc.freshKids hk (HN4.out.drew) hv.1)
            have HC5 := Lib.hid hv.2
            have HR5 := Lib.hid ((HR4.out.drew).call hk hs)
            have hzR5 := HR5.out.size
            have HB5 := Lib.hid ((HB4.out.drew).kp hk (by omega))
            have hzHB5 := HB5.out.lt
            have HN5 := Lib.hid ((HN4.out.drew).kp hk (by first | omega | (have := HR0.out.size; simp at *; omega)))
            have hzHN5 := HN5.out.lt
            have HL5 := Lib.hid hl
            have H5 := Lib.hid hr
            clear hr hp hs hl hk hv
            refine hK.out _ _ (fun _ => HN5.out.blk) ?_
            clear hK K
            refine AnyE.one (i := 6) (by kernel_rfl) rfl (by rfl) (fun K hK => ?_)
            refine wp_append_kids (.tmp 33) (.tmp 37) rfl I rfl HN5.out.kids rfl HF5.out ⟨by omega, by omega⟩ (by show (([] ++ [a2])).length + _ ≤ _; simp; have := HC5.out; omega) ?_
            intro v5x w5x hKx hgx
            obtain ⟨sa5x, sn5x, sc5x, rfl⟩ := hKx.slice
            obtain ⟨h1, h2, h3, hcx, hfx, h6⟩ := afterAppend HR5.out HB5.out HN5.out hKx hgx
            have HR5x := Lib.hid h1
            have HB5x := Lib.hid h2
            have HN5x := Lib.hid h3
            have HC5x := Lib.hid h6
            clear h1 h2 h3 h6 hKx hgx
            refine hK.out _ _ (fun _ => HC5x.out) ?_
            clear hK K
            refine AnyE.one (i := 7) (by kernel_rfl) rfl (by rfl) (fun K hK => ?_)
            go_simp
            refine hK.out _ _ (fun _ => HC5x.out) ?_
            clear hK K
            refine AnyE.one (i := 8) (by kernel_rfl) rfl (by rfl) (fun K hK => ?_)
            go_simp
            refine hK.out _ _ (fun h => absurd rfl h) ?_
            clear hK K
            refine AnyE.done (by kernel_rfl) ?_ _
            clear hcx hfx
            generalize w5x.setCell ⟨w1.heap.size, 4, none⟩ (.slice sa5x sn5x sc5x) = w5y at HR5x HB5x HN5x ⊢
            have hzHB5y := HB5x.out.lt
            have hzHN5y := HN5x.out.lt
            go_wp2_with fail
            refine (expect_at HR5x.out.st [bs [59]] (by decide) (by decide) (by simp) rfl rfl).mono ?_
            intro e w6 hp
            cases hr : expectP [bs [59]] l5 with
            | error pc =>
              obtain ⟨p, c⟩ := pc
              obtain ⟨rfl, hk, hcd⟩ := hp.err hr
              have HK := Lib.hid (HR5x.out.kp.trans hk)
              have HP := Lib.hid (show typeP pl l = .error (p, c) by unfold typeP; exact ((bd_ok H1.out _)).trans (((bd_ok H2.out _)).trans (((bd_ok HFI.out _)).trans (((bd_ok (HFA.out.trans H5.out) _)).trans ((bd_err hr _))))))
              clear hr hp hk
              go_wp2
              exact ⟨rfl, Run.err HK.out HP.out hcd⟩
            | ok q =>
              obtain ⟨a6, l6⟩ := q
              obtain ⟨v6, rfl, hv, hs, hl, hk⟩ := hp.ok hr
              obtain ⟨rfl, hto⟩ := hv
              have HR6 := Lib.hid (HR5x.out.call hk hs)
              have hzR6 := HR6.out.size
              have HB6 := Lib.hid (HB5x.out.kp hk (by omega))
              have hzHB6 := HB6.out.lt
              have HN6 := Lib.hid (HN5x.out.kp hk (by first | omega | (have := HR0.out.size; simp at *; omega)))
              have hzHN6 := HN6.out.lt
              have HL6 := Lib.hid hl
              have H6 := Lib.hid hr
              clear hr hp hs hl hk hto
              unfold tokV
              have HP := Lib.hid (show typeP pl l = .ok (T.mk 1 a1 0 pl (([] ++ [a2]) ++ a5), l6) by unfold typeP; rw [show (([] ++ [a2]) ++ a5) = (a2 :: ([] ++ a5)) by simp]; exact ((bd_ok H1.out _)).trans (((bd_ok H2.out _)).trans (((bd_ok HFI.out _)).trans (((bd_ok (HFA.out.trans H5.out) _)).trans ((bd_ok H6.out _))))))
              go_wp2_with (first | ((with_reducible refine at_ld 39 (.tmp 5) ?_); refine wpList_load_blk rfl 39 (.tmp 5) rfl (w1.heap.size) (nodeCells (T.mk 1 a1 0 pl (([] ++ [a2]) ++ a5)) (.slice sa5x sn5x sc5x)) rfl HN6.out.blk Tryd.underlying39 rfl Tryd.sizeNode ?_) | ((with_reducible refine at_st 39 (.tmp 4) ?_); refine wpList_store_blk rfl 39 (.tmp 4) (.tmp 43) rfl w.heap.size (nodeCells (T.mk 1 a1 0 pl (([] ++ [a2]) ++ a5)) (.slice sa5x sn5x sc5x)) rfl rfl HB6.out Tryd.sizeNode rfl (nodeCells_one _ _ HN6.out.kids.one) ?_))
              exact ret_blk (cs := nodeCells (T.mk 1 a1 0 pl (([] ++ [a2]) ++ a5)) (.slice sa5x sn5x sc5x)) Tryd.results46 rfl HB6.out Tryd.underlying39 rfl Tryd.sizeNode rfl (Run.node HR6.out (TAt.of_kids (HN6.out.kids.mono (fun _ hb _ => hb.1))) HP.out (by have := HL1.out; have := HL2.out; have := HL5.out; have := HL6.out; first | omega | (simp only [List.length_tail] at *; omega)))
      | true =>
        have HIi := Lib.hid hi
        clear hi
        go_wp2_with fail
        refine (accept_yes HR2x.out.st HIi.out (by decide)).mono ?_
        rintro e w3 ⟨rfl, hs, hk⟩
        have HR3 := Lib.hid (HR2x.out.call hk hs)
        have hzR3 := HR3.out.size
        have HB3 := Lib.hid (HB2x.out.kp hk (by omega))
        have hzHB3 := HB3.out.lt
        have HN3 := Lib.hid (HN2x.out.kp hk (by first | omega | (have := HR0.out.size; simp at *; omega)))
        have hzHN3 := HN3.out.lt
        clear hs hk
        have HFI := Lib.hid (show fieldsP l2 = _ by unfold fieldsP; exact cond_t HIi.out _ _)
        go_wp2_with fail
        refine AnyE.begin2 (S := fun W => Blk W (w1.heap.size) (nodeCells (T.mk 1 a1 0 pl ([] ++ [a2])) (.slice sa2x sn2x sc2x)) 39) (by kernel_rfl) (HN3.out.blk.drew) (fun hS => ?_)
        refine AnyE.take (i := 0) (v := .pointer (some ⟨w1.heap.size, 4, none⟩)) rfl (by kernel_rfl) (by kernel_rfl) (by kernel_rfl) (by kernel_rfl) (fun _ _ _ h => h) (Or.inl ⟨by rfl, fun W _ => by go_simp⟩) hS ?_
        refine AnyE.take (i := 1) (v := .slice sa2x sn2x sc2x) rfl (by kernel_rfl) (by kernel_rfl) (by kernel_rfl) (by kernel_rfl) (fun _ _ _ h => h) (Or.inl ⟨by rfl, fun W hW => by have hcx : W.cell? ⟨w1.heap.size, 4, none⟩ = some (.slice sa2x sn2x sc2x) := hW.cell 4; go_simp⟩) hS ?_
        refine AnyE.take (i := 2) (v := .pointer (some ⟨E.pb, 0, none⟩)) rfl (by kernel_rfl) (by kernel_rfl) (by kernel_rfl) (by kernel_rfl) (fun _ _ _ h => h) (Or.inl ⟨by rfl, fun W _ => by go_simp⟩) hS ?_
        refine AnyE.take (i := 3) (v := .pointer (some ⟨E.pb, 0, none⟩)) rfl (by kernel_rfl) (by kernel_rfl) (by kernel_rfl) (by kernel_rfl) (fun _ _ _ h => h) (Or.inl ⟨by rfl, fun W _ => by go_simp⟩) hS ?_
        refine AnyE.take (i := 4) (v := .func (.func 63) #[.pointer (some ⟨E.pb, 0, none⟩)] #[]) rfl (by kernel_rfl) (by kernel_rfl) (by kernel_rfl) (by kernel_rfl) (fun _ _ _ h => h) (Or.inl ⟨by rfl, fun W _ => by go_simp⟩) hS ?_
        refine AnyE.one (i := 5) (by kernel_rfl) rfl (by rfl) (fun K hK => ?_)
        go_simp
        refine (list_any (HR3.out.drew).st (fieldItem E d)).mono ?_
        intro e w4 hp
        cases hr : listP fieldP l2.tail with
        | error pc =>
          obtain ⟨p, c⟩ := pc
          obtain ⟨rfl, hk, hcd⟩ := hp.err hr
          have HK := Lib.hid ((HR3.out.drew).kp.trans hk)
          have HP := Lib.hid (show typeP pl l = .error (p, c) by unfold typeP; exact ((bd_ok H1.out _)).trans (((bd_ok H2.out _)).trans ((bd_err (HFI.out.trans (bd_err hr _)) _))))
          clear hr hp hk
          go_wp2
          exact ⟨rfl, Run.err HK.out HP.out hcd⟩
        | ok q =>
          obtain ⟨a4, l4⟩ := q
          obtain ⟨v4, rfl, hv, hs, hl, hk⟩ := hp.ok hr
          have HF4 := Lib.hid (KLoc.freshKids hk (HN3.out.drew) hv.1)
          have HC4 := Lib.hid hv.2
          have HR4 := Lib.hid ((HR3.out.drew).call hk hs)
          have hzR4 := HR4.out.size
          have HB4 := Lib.hid ((HB3.out.drew).kp hk (by omega))
          have hzHB4 := HB4.out.lt
          have HN4 := Lib.hid ((HN3.out.drew).kp hk (by first | omega | (have := HR0.out.size; simp at *; omega)))
          have hzHN4 := HN4.out.lt
          have HL4 := Lib.hid hl
          have H4 := Lib.hid hr
          clear hr hp hs hl hk hv
          refine hK.out _ _ (fun _ => HN4.out.blk) ?_
          clear hK K
          refine AnyE.one (i := 6) (by kernel_rfl) rfl (by rfl) (fun K hK => ?_)
          refine wp_append_kids (.tmp 20) (.tmp 24) rfl I rfl HN4.out.kids rfl HF4.out ⟨by omega, by omega⟩ (by show ([] ++ [a2]).length + _ ≤ _; simp; have := HC4.out; omega) ?_
          intro v4x w4x hKx hgx
          obtain ⟨sa4x, sn4x, sc4x, rfl⟩ := hKx.slice
          obtain ⟨h1, h2, h3, hcx, hfx, h6⟩ := afterAppend HR4.out HB4.out HN4.out hKx hgx
          have HR4x := Lib.hid h1
          have HB4x := Lib.hid h2
          have HN4x := Lib.hid h3
          have HC4x := Lib.hid h6
          clear h1 h2 h3 h6 hKx hgx
          refine hK.out _ _ (fun _ => HC4x.out) ?_
          clear hK K
          refine AnyE.one (i := 7) (by kernel_rfl) rfl (by rfl) (fun K hK => ?_)
          go_simp
          refine hK.out _ _ (fun _ => HC4x.out) ?_
          clear hK K
          refine AnyE.one (i := 8) (by kernel_rfl) rfl (by rfl) (fun K hK => ?_)
          go_simp
          refine hK.out _ _ (fun h => absurd rfl h) ?_
          clear hK K
          refine AnyE.done (by kernel_rfl) ?_ _
          clear hcx hfx
          generalize w4x.setCell ⟨w1.heap.size, 4, none⟩ (.slice sa4x sn4x sc4x) = w4y at HR4x HB4x HN4x ⊢
          have hzHB4y := HB4x.out.lt
          have hzHN4y := HN4x.out.lt
          go_wp2_with fail
          refine (expect_at HR4x.out.st [bs [125]] (by decide) (by decide) (by simp) rfl rfl).mono ?_
          intro e w5 hp
          cases hr : expectP [bs [125]] l4 with
          | error pc =>
            obtain ⟨p, c⟩ := pc
            obtain ⟨rfl, hk, hcd⟩ := hp.err hr
            have HK := Lib.hid (HR4x.out.kp.trans hk)
            have HP := Lib.hid (show typeP pl l = .error (p, c) by unfold typeP; exact ((bd_ok H1.out _)).trans (((bd_ok H2.out _)).trans ((bd_err (HFI.out.trans ((bd_ok H4.out _).trans (bd_err hr _))) _))))
            clear hr hp hk
            go_wp2
            exact ⟨rfl, Run.err HK.out HP.out hcd⟩
          | ok q =>
            obtain ⟨a5, l5⟩ := q
            obtain ⟨v5, rfl, hv, hs, hl, hk⟩ := hp.ok hr
            obtain ⟨rfl, hto⟩ := hv
            have HR5 := Lib.hid (HR4x.out.call hk hs)
            have hzR5 := HR5.out.size
            have HB5 := Lib.hid (HB4x.out.kp hk (by omega))
            have hzHB5 := HB5.out.lt
            have HN5 := Lib.hid (HN4x.out.kp hk (by first | omega | (have := HR0.out.size; simp at *; omega)))
            have hzHN5 := HN5.out.lt
            have HL5 := Lib.hid hl
            have H5 := Lib.hid hr
            clear hr hp hs hl hk hto
            unfold tokV
            have HFJ := Lib.hid (HFI.out.trans ((bd_ok H4.out _).trans (bd_ok H5.out _)))
            cases hw : isT (hdT l5) (bs [119, 104, 101, 114, 101]) with
            | false =>
              have HIw := Lib.hid hw
              clear hw
              go_wp2_with fail
              refine (accept_no HR5.out.st HIw.out).mono ?_
              rintro e w6 ⟨rfl, hb⟩
              have HR6 := Lib.hid (HR5.out.below hb)
              have hzR6 := HR6.out.size
              have HB6 := Lib.hid (HB5.out.kp (Kp.of_below (pb := E.pb) hb) (by omega))
              have hzHB6 := HB6.out.lt
              have HN6 := Lib.hid (HN5.out.kp (Kp.of_below (pb := E.pb) hb) (by first | omega | (have := HR0.out.size; simp at *; omega)))
              have hzHN6 := HN6.out.lt
              clear hb
              have HFA := Lib.hid (show factsP l5 = .ok ([], l5) by unfold factsP; exact cond_f HIw.out _ _)
              go_wp2_with fail
              refine (expect_at HR6.out.st [bs [59]] (by decide) (by decide) (by simp) rfl rfl).mono ?_
              intro e w7 hp
              cases hr : expectP [bs [59]] l5 with
              | error pc =>
                obtain ⟨p, c⟩ := pc
                obtain ⟨rfl, hk, hcd⟩ := hp.err hr
                have HK := Lib.hid (HR6.out.kp.trans hk)
                have HP := Lib.hid (show typeP pl l = .error (p, c) by unfold typeP; exact ((bd_ok H1.out _)).trans (((bd_ok H2.out _)).trans (((bd_ok HFJ.out _)).trans (((bd_ok HFA.out _)).trans ((bd_err hr _))))))
                clear hr hp hk
                go_wp2
                exact ⟨rfl, Run.err HK.out HP.out hcd⟩
              | ok q =>
                obtain ⟨a7, l7⟩ := q
                obtain ⟨v7, rfl, hv, hs, hl, hk⟩ := hp.ok hr
                obtain ⟨rfl, hto⟩ := hv
                have HR7 := Lib.hid (HR6.out.call hk hs)
                have hzR7 := HR7.out.size
                have HB7 := Lib.hid (HB6.out.kp hk (by omega))
                have hzHB7 := HB7.out.lt
                have HN7 := Lib.hid (HN6.out.kp hk (by first | omega | (have := HR0.out.size; simp at *; omega)))
                have hzHN7 := HN7.out.lt
                have HL7 := Lib.hid hl
                have H7 := Lib.hid hr
                clear hr hp hs hl hk hto
                unfold tokV
                have HP := Lib.hid (show typeP pl l = .ok (T.mk 1 a1 0 pl ([] ++ [a2] ++ a4), l7) by unfold typeP; rw [show ([] ++ [a2] ++ a4) = (a2 :: (a4 ++ [])) by simp]; exact ((bd_ok H1.out _)).trans (((bd_ok H2.out _)).trans (((bd_ok HFJ.out _)).trans (((bd_ok HFA.out _)).trans ((bd_ok H7.out _))))))
                go_wp2_with (first | ((with_reducible refine at_ld 39 (.tmp 5) ?_); refine wpList_load_blk rfl 39 (.tmp 5) rfl (w1.heap.size) (nodeCells (T.mk 1 a1 0 pl ([] ++ [a2] ++ a4)) (.slice sa4x sn4x sc4x)) rfl HN7.out.blk Tryd.underlying39 rfl Tryd.sizeNode ?_) | ((with_reducible refine at_st 39 (.tmp 4) ?_); refine wpList_store_blk rfl 39 (.tmp 4) (.tmp 43) rfl w.heap.size (nodeCells (T.mk 1 a1 0 pl ([] ++ [a2] ++ a4)) (.slice sa4x sn4x sc4x)) rfl rfl HB7.out Tryd.sizeNode rfl (nodeCells_one _ _ HN7.out.kids.one) ?_))
                exact ret_blk (cs := nodeCells (T.mk 1 a1 0 pl ([] ++ [a2] ++ a4)) (.slice sa4x sn4x sc4x)) Tryd.results46 rfl HB7.out Tryd.underlying39 rfl Tryd.sizeNode rfl (Run.node HR7.out (TAt.of_kids (HN7.out.kids.mono (fun _ hb _ => hb.1))) HP.out (by have := HL1.out; have := HL2.out; have := HL4.out; have := HL5.out; have := HL7.out; first | omega | (simp only [List.length_tail] at *; omega)))
            | true =>
              have HIw := Lib.hid hw
              clear hw
              go_wp2_with fail
              refine (accept_yes HR5.out.st HIw.out (by decide)).mono ?_
              rintro e w6 ⟨rfl, hs, hk⟩
              have HR6 := Lib.hid (HR5.out.call hk hs)
              have hzR6 := HR6.out.size
              have HB6 := Lib.hid (HB5.out.kp hk (by omega))
              have hzHB6 := HB6.out.lt
              have HN6 := Lib.hid (HN5.out.kp hk (by first | omega | (have := HR0.out.size; simp at *; omega)))
              have hzHN6 := HN6.out.lt
              clear hs hk
              have HFA := Lib.hid (show factsP l5 = _ by unfold factsP; exact cond_t HIw.out _ _)
              go_wp2_with fail
              refine AnyE.begin2 (S := fun W => Blk W (w1.heap.size) (nodeCells (T.mk 1 a1 0 pl ([] ++ [a2] ++ a4)) (.slice sa4x sn4x sc4x)) 39) (by kernel_rfl) (HN6.out.blk.drew) (fun hS => ?_)
              refine AnyE.take (i := 0) (v := .pointer (some ⟨w1.heap.size, 4, none⟩)) rfl (by kernel_rfl) (by kernel_rfl) (by kernel_rfl) (by kernel_rfl) (fun _ _ _ h => h) (Or.inl ⟨by rfl, fun W _ => by go_simp⟩) hS ?_
              refine AnyE.take (i := 1) (v := .slice sa4x sn4x sc4x) rfl (by kernel_rfl) (by kernel_rfl) (by kernel_rfl) (by kernel_rfl) (fun _ _ _ h => h) (Or.inl ⟨by rfl, fun W hW => by have hcx : W.cell? ⟨w1.heap.size, 4, none⟩ = some (.slice sa4x sn4x sc4x) := hW.cell 4; go_simp⟩) hS ?_
              refine AnyE.take (i := 2) (v := .pointer (some ⟨E.pb, 0, none⟩)) rfl (by kernel_rfl) (by kernel_rfl) (by kernel_rfl) (by kernel_rfl) (fun _ _ _ h => h) (Or.inl ⟨by rfl, fun W _ => by go_simp⟩) hS ?_
              refine AnyE.take (i := 3) (v := .pointer (some ⟨E.pb, 0, none⟩)) rfl (by kernel_rfl) (by kernel_rfl) (by kernel_rfl) (by kernel_rfl) (fun _ _ _ h => h) (Or.inl ⟨by rfl, fun W _ => by go_simp⟩) hS ?_
              refine AnyE.take (i := 4) (v := .func (.func 64) #[.pointer (some ⟨E.pb, 0, none⟩)] #[]) rfl (by kernel_rfl) (by kernel_rfl) (by kernel_rfl) (by kernel_rfl) (fun _ _ _ h => h) (Or.inl ⟨by rfl, fun W _ => by go_simp⟩) hS ?_
              refine AnyE.one (i := 5) (by kernel_rfl) rfl (by rfl) (fun K hK => ?_)
              go_simp
              refine (list_any (HR6.out.drew).st (factItem E d)).mono ?_
              intro e w7 hp
              cases hr : listP factP l5.tail with
              | error pc =>
                obtain ⟨p, c⟩ := pc
                obtain ⟨rfl, hk, hcd⟩ := hp.err hr
                have HK := Lib.hid ((HR6.out.drew).kp.trans hk)
                have HP := Lib.hid (show typeP pl l = .error (p, c) by unfold typeP; exact ((bd_ok H1.out _)).trans (((bd_ok H2.out _)).trans (((bd_ok HFJ.out _)).trans ((bd_err (HFA.out.trans hr) _)))))
                clear hr hp hk
                go_wp2
                exact ⟨rfl, Run.err HK.out HP.out hcd⟩
              | ok q =>
                obtain ⟨a7, l7⟩ := q
                obtain ⟨v7, rfl, hv, hs, hl, hk⟩ := hp.ok hr
                have HF7 := Lib.hid (KLoc.freshKids hk (HN6.out.drew) hv.1)
                have HC7 := Lib.hid hv.2
                have HR7 := Lib.hid ((HR6.out.drew).call hk hs)
                have hzR7 := HR7.out.size
                have HB7 := Lib.hid ((HB6.out.drew).kp hk (by omega))
                have hzHB7 := HB7.out.lt
                have HN7 := Lib.hid ((HN6.out.drew).kp hk (by first | omega | (have := HR0.out.size; simp at *; omega)))
                have hzHN7 := HN7.out.lt
                have HL7 := Lib.hid hl
                have H7 := Lib.hid hr
                clear hr hp hs hl hk hv
                refine hK.out _ _ (fun _ => HN7.out.blk) ?_
                clear hK K
                refine AnyE.one (i := 6) (by kernel_rfl) rfl (by rfl) (fun K hK => ?_)
                refine wp_append_kids (.tmp 33) (.tmp 37) rfl I rfl HN7.out.kids rfl HF7.out ⟨by omega, by omega⟩ (by have := HC4.out; show (([] ++ [a2] ++ a4)).length + _ ≤ _; simp; have := HC7.out; omega) ?_
                intro v7x w7x hKx hgx
                obtain ⟨sa7x, sn7x, sc7x, rfl⟩ := hKx.slice
                obtain ⟨h1, h2, h3, hcx, hfx, h6⟩ := afterAppend HR7.out HB7.out HN7.out hKx hgx
                have HR7x := Lib.hid h1
                have HB7x := Lib.hid h2
                have HN7x := Lib.hid h3
                have HC7x := Lib.hid h6
                clear h1 h2 h3 h6 hKx hgx
                refine hK.out _ _ (fun _ => HC7x.out) ?_
                clear hK K
                refine AnyE.one (i := 7) (by kernel_rfl) rfl (by rfl) (fun K hK => ?_)
                go_simp
                refine hK.out _ _ (fun _ => HC7x.out) ?_
                clear hK K
                refine AnyE.one (i := 8) (by kernel_rfl) rfl (by rfl) (fun K hK => ?_)
                go_simp
                refine hK.out _ _ (fun h => absurd rfl h) ?_
                clear hK K
                refine AnyE.done (by kernel_rfl) ?_ _
                clear hcx hfx
                generalize w7x.setCell ⟨w1.heap.size, 4, none⟩ (.slice sa7x sn7x sc7x) = w7y at HR7x HB7x HN7x ⊢
                have hzHB7y := HB7x.out.lt
                have hzHN7y := HN7x.out.lt
                go_wp2_with fail
                refine (expect_at HR7x.out.st [bs [59]] (by decide) (by decide) (by simp) rfl rfl).mono ?_
                intro e w8 hp
                cases hr : expectP [bs [59]] l7 with
                | error pc =>
                  obtain ⟨p, c⟩ := pc
                  obtain ⟨rfl, hk, hcd⟩ := hp.err hr
                  have HK := Lib.hid (HR7x.out.kp.trans hk)
                  have HP := Lib.hid (show typeP pl l = .error (p, c) by unfold typeP; exact ((bd_ok H1.out _)).trans (((bd_ok H2.out _)).trans (((bd_ok HFJ.out _)).trans (((bd_ok (HFA.out.trans H7.out) _)).trans ((bd_err hr _))))))
                  clear hr hp hk
                  go_wp2
                  exact ⟨rfl, Run.err HK.out HP.out hcd⟩
                | ok q =>
                  obtain ⟨a8, l8⟩ := q
                  obtain ⟨v8, rfl, hv, hs, hl, hk⟩ := hp.ok hr
                  obtain ⟨rfl, hto⟩ := hv
                  have HR8 := Lib.hid (HR7x.out.call hk hs)
                  have hzR8 := HR8.out.size
                  have HB8 := Lib.hid (HB7x.out.kp hk (by omega))
                  have hzHB8 := HB8.out.lt
                  have HN8 := Lib.hid (HN7x.out.kp hk (by first | omega | (have := HR0.out.size; simp at *; omega)))
                  have hzHN8 := HN8.out.lt
                  have HL8 := Lib.hid hl
                  have H8 := Lib.hid hr
                  clear hr hp hs hl hk hto
                  unfold tokV
                  have HP := Lib.hid (show typeP pl l = .ok (T.mk 1 a1 0 pl (([] ++ [a2] ++ a4) ++ a7), l8) by unfold typeP; rw [show (([] ++ [a2] ++ a4) ++ a7) = (a2 :: (a4 ++ a7)) by simp]; exact ((bd_ok H1.out _)).trans (((bd_ok H2.out _)).trans (((bd_ok HFJ.out _)).trans (((bd_ok (HFA.out.trans H7.out) _)).trans ((bd_ok H8.out _))))))
                  go_wp2_with (first | ((with_reducible refine at_ld 39 (.tmp 5) ?_); refine wpList_load_blk rfl 39 (.tmp 5) rfl (w1.heap.size) (nodeCells (T.mk 1 a1 0 pl (([] ++ [a2] ++ a4) ++ a7)) (.slice sa7x sn7x sc7x)) rfl HN8.out.blk Tryd.underlying39 rfl Tryd.sizeNode ?_) | ((with_reducible refine at_st 39 (.tmp 4) ?_); refine wpList_store_blk rfl 39 (.tmp 4) (.tmp 43) rfl w.heap.size (nodeCells (T.mk 1 a1 0 pl (([] ++ [a2] ++ a4) ++ a7)) (.slice sa7x sn7x sc7x)) rfl rfl HB8.out Tryd.sizeNode rfl (nodeCells_one _ _ HN8.out.kids.one) ?_))
                  exact ret_blk (cs := nodeCells (T.mk 1 a1 0 pl (([] ++ [a2] ++ a4) ++ a7)) (.slice sa7x sn7x sc7x)) Tryd.results46 rfl HB8.out Tryd.underlying39 rfl Tryd.sizeNode rfl (Run.node HR8.out (TAt.of_kids (HN8.out.kids.mono (fun _ hb _ => hb.1))) HP.out (by have := HL1.out; have := HL2.out; have := HL4.out; have := HL5.out; have := HL7.out; have := HL8.out; first | omega | (simp only [List.length_tail] at *; omega)))

end Go.Proofs.YtdkdidgeaalcgaaDoor
