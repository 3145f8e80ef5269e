/- The contracts of the parser's declaration and unit. -/
import Derived.Test.YtflhniiemmahmaaDoorTypes
import Derived.Test.YtflhniiemmahmaaDoorFns
namespace Go.Proofs.YtflhniiemmahmaaDoor
open Go.RowKit

theorem unitF_end {n : Nat} {l : List Tok} (hn : 0 < n) (h : ((hdT l).kind == 0) = true) : unitF n l = .ok ([], l) := by
  cases n with
  | zero => omega
  | succ n => rw [unitF, h]; rfl
theorem unitF_more {n : Nat} {l : List Tok} (h : ((hdT l).kind == 0) = false) : unitF (n + 1) l = bd (declP l) fun a l1 => bd (unitF n l1) fun xs l2 => .ok (a :: xs, l2) := by
  rw [unitF, h]; rfl

def UnitRel (E : Env) (w : World) (l : List Tok) (d : Nat) (gk : Nat) (wr : World) : Prop :=
  ∃ (ks : List T) (lr : List Tok) (m : Nat) (v : Value), Run E w wr lr d ∧ Blk wr w.heap.size zeroNodeCells 25 ∧ KLoc w wr (w.heap.size + 1) (T.mk 0 e0 0 0 ks) v ∧
    unitF (l.length + 1) l = bd (unitF m lr) (fun xs l' => .ok (ks ++ xs, l')) ∧ lr.length < m ∧ lr.length ≤ gk ∧ ks.length + lr.length ≤ l.length

set_option maxRecDepth 100000 in
set_option maxHeartbeats 1000000 in
theorem declaration_any {E : Env} {w : World} {l : List Tok} {d : Nat} (h : PSt E w l d) (hd : d = 0) :
    Calls Tryd.prog 45 #[.pointer (some ⟨E.pb, 0, none⟩)] w (PPost VNode E w l d (declP l)) := by
  have HR0 := Lib.hid ((Run.start h).alloc (.cells zeroNodeCells.toArray 25))
  have HB0 := Lib.hid (Blk.new w zeroNodeCells 25)
  have HD := Lib.hid hd
  clear hd
  have hlo := h.plt
  have hlt := h.tlt
  have hln := h.len
  clear h
  go_enter Tryd.func45, Tryd.ntmps45
  go_wp2_with fail
  refine (expect_at HR0.out.st [bs [116, 121, 112, 101], bs [102, 110]] (by decide) (by decide) (by simp) rfl rfl).mono ?_
  intro e w1 hp
  cases hr : expectP [bs [116, 121, 112, 101], bs [102, 110]] l with
  | error pc =>
    obtain ⟨p, c⟩ := pc
    obtain ⟨rfl, hk, hcd⟩ := hp.err hr
    have HK := Lib.hid (HR0.out.kp.trans hk)
    have HP := Lib.hid (show declP l = .error (p, c) by unfold declP; exact (bd_err hr _))
    clear hr hp hk
    go_wp2
    exact ⟨rfl, Run.err HK.out HP.out hcd⟩
  | ok q =>
    obtain ⟨a1, l1⟩ := q
    obtain ⟨v1, rfl, hv, hs, hl, hk⟩ := hp.ok hr
    obtain ⟨rfl, hto⟩ := hv
    have HR1 := Lib.hid (HR0.out.call hk hs)
    have hzR1 := HR1.out.size
    have HB1 := Lib.hid (HB0.out.kp hk (by omega))
    have hzHB1 := HB1.out.lt
    have HL1 := Lib.hid hl
    have H1 := Lib.hid hr
    clear hr hp hs hl hk hto
    unfold tokV
    cases ho : isT a1 (bs [116, 121, 112, 101]) with
    | true =>
      have HO := Lib.hid ho
      obtain ⟨ho2, ho3⟩ := isT_yes ho
      clear ho ho3
      go_wp2_with fail
      refine (typeBehind_any (HR1.out.alloc _).st _).mono ?_
      intro e w2 hp
      cases hr : typeP a1.place l1 with
      | error pc =>
        obtain ⟨p, c⟩ := pc
        obtain ⟨rfl, hk, hcd⟩ := hp.err hr
        have HK := Lib.hid ((HR1.out.alloc _).kp.trans hk)
        have HP := Lib.hid (show declP l = .error (p, c) by unfold declP; exact ((bd_ok H1.out _)).trans (((cond_t HO.out _ _)).trans (hr)))
        clear hr hp hk
        go_wp2
        exact ⟨rfl, Run.err HK.out HP.out hcd⟩
      | ok q =>
        obtain ⟨a2, l2⟩ := q
        obtain ⟨v2, rfl, hv, hs, hl, hk⟩ := hp.ok hr
        obtain ⟨kv2, rfl, ht⟩ := hv
        have HT2 := Lib.hid (ht.weak (HB1.out.alloc _).lt)
        have HR2 := Lib.hid ((HR1.out.alloc _).call hk hs)
        have hzR2 := HR2.out.size
        have HB2 := Lib.hid ((HB1.out.alloc _).kp hk (by omega))
        have hzHB2 := HB2.out.lt
        have HL2 := Lib.hid hl
        have H2 := Lib.hid hr
        clear hr hp hs hl hk ht
        unfold NodeV
        have HP := Lib.hid (show declP l = .ok (a2, l2) by unfold declP; exact ((bd_ok H1.out _)).trans (((cond_t HO.out _ _)).trans (H2.out)))
        go_wp2_with ((with_reducible refine at_st 25 (.tmp 2) ?_); refine wpList_store_blk rfl 25 (.tmp 2) (.tmp 18) rfl w.heap.size (nodeCells (a2) (kv2)) rfl rfl HB2.out Tryd.sizeNode rfl (nodeCells_one _ _ HT2.out.kat.one) ?_)
        exact ret_blk (cs := nodeCells (a2) (kv2)) Tryd.results45 rfl HB2.out Tryd.underlying25 rfl Tryd.sizeNode rfl (Run.node HR2.out HT2.out.lo HP.out (by have := HL1.out; have := HL2.out; first | omega | (simp only [List.length_tail] at *; omega)))
    | false =>
      have HO := Lib.hid ho
      obtain ⟨ho2, ho3⟩ := isT_no ho
      clear ho ho3
      go_wp2_with fail
      refine (fnBehind_any (HR1.out.alloc _).st HD.out _).mono ?_
      intro e w2 hp
      cases hr : fnP a1.place l1 with
      | error pc =>
        obtain ⟨p, c⟩ := pc
        obtain ⟨rfl, hk, hcd⟩ := hp.err hr
        have HK := Lib.hid ((HR1.out.alloc _).kp.trans hk)
        have HP := Lib.hid (show declP l = .error (p, c) by unfold declP; exact ((bd_ok H1.out _)).trans (((cond_f HO.out _ _)).trans (hr)))
        clear hr hp hk
        go_wp2
        exact ⟨rfl, Run.err HK.out HP.out hcd⟩
      | ok q =>
        obtain ⟨a2, l2⟩ := q
        obtain ⟨v2, rfl, hv, hs, hl, hk⟩ := hp.ok hr
        obtain ⟨kv2, rfl, ht⟩ := hv
        have HT2 := Lib.hid (ht.weak (HB1.out.alloc _).lt)
        have HR2 := Lib.hid ((HR1.out.alloc _).call hk hs)
        have hzR2 := HR2.out.size
        have HB2 := Lib.hid ((HB1.out.alloc _).kp hk (by omega))
        have hzHB2 := HB2.out.lt
        have HL2 := Lib.hid hl
        have H2 := Lib.hid hr
        clear hr hp hs hl hk ht
        unfold NodeV
        have HP := Lib.hid (show declP l = .ok (a2, l2) by unfold declP; exact ((bd_ok H1.out _)).trans (((cond_f HO.out _ _)).trans (H2.out)))
        go_wp2_with ((with_reducible refine at_st 25 (.tmp 2) ?_); refine wpList_store_blk rfl 25 (.tmp 2) (.tmp 12) rfl w.heap.size (nodeCells (a2) (kv2)) rfl rfl HB2.out Tryd.sizeNode rfl (nodeCells_one _ _ HT2.out.kat.one) ?_)
        exact ret_blk (cs := nodeCells (a2) (kv2)) Tryd.results45 rfl HB2.out Tryd.underlying25 rfl Tryd.sizeNode rfl (Run.node HR2.out HT2.out.lo HP.out (by have := HL1.out; have := HL2.out; first | omega | (simp only [List.length_tail] at *; omega)))

set_option maxRecDepth 100000 in
set_option maxHeartbeats 1000000 in
theorem unit_any {E : Env} {w : World} {l : List Tok} {d : Nat} (h : PSt E w l d) (hd : d = 0) :
    Calls Tryd.prog 29 #[.pointer (some ⟨E.pb, 0, none⟩)] w (PPostE VNode E w l d (unitP l)) := by
  have HR0 := Lib.hid ((Run.start h).alloc (.cells zeroNodeCells.toArray 25))
  have HB0 := Lib.hid (Blk.new w zeroNodeCells 25)
  have HD := Lib.hid hd
  clear hd
  have hle := h.le
  obtain ⟨i0, z0, I⟩ := Tryd.nodeInfo
  have hlo := h.plt
  have hlt := h.tlt
  have hln := h.len
  clear h
  go_enter Tryd.func29, Tryd.ntmps29
  have HRa := Lib.hid (HR0.out.alloc (.cells (nodeCells (T.mk 0 e0 0 0 []) (.slice none 0 0)).toArray 25))
  have HBa := Lib.hid (HB0.out.alloc (.cells (nodeCells (T.mk 0 e0 0 0 []) (.slice none 0 0)).toArray 25))
  have HNa : Hid (KLoc w ((w.alloc (.cells zeroNodeCells.toArray 25)).alloc (.cells (nodeCells (T.mk 0 e0 0 0 []) (.slice none 0 0)).toArray 25)) (w.heap.size + 1) (T.mk 0 e0 0 0 []) (.slice none 0 0)) := (by
    have h1 := KLoc.new (w := w) (t := T.mk 0 e0 0 0 []) (KAt.nil 25 (w.alloc (.cells zeroNodeCells.toArray 25)) (fun b => w.heap.size < b)) (by simp)
    rw [show (w.alloc (.cells zeroNodeCells.toArray 25)).heap.size = w.heap.size + 1 by simp] at h1
    exact h1)
  have HLL := Lib.hid (show l.length ≤ 16385 by omega)
  clear hle
  go_wp2_with fail
  go_loopg [5] l.length (fun gk _ wr => UnitRel E w l d gk wr)
  case atStart =>
    refine ⟨[], l, l.length + 1, _, HRa.out, HBa.out, HNa.out, ?_, by omega, Nat.le_refl _, by simp⟩
    cases unitF (l.length + 1) l with
    | error e => rfl
    | ok q => obtain ⟨x, y⟩ := q; rfl
  case round =>
    obtain ⟨ks, lr, mm, v, hR, hBl, hN, hE, hm, hg, hcnt⟩ := hrel
    have HR := Lib.hid hR
    have HBr := Lib.hid hBl
    have HNr := Lib.hid hN
    have HE := Lib.hid hE
    have HM := Lib.hid hm
    have HG := Lib.hid hg
    have HC := Lib.hid hcnt
    have HP0 := Lib.hid hR.st.head.1
    have hzB := hBl.lt
    have hzN := hN.lt
    have hzK : ks.length ≤ 16385 := by have := HLL.out; omega
    clear hR hBl hN hE hm hg hcnt HRa HBa HNa HR0 HB0
    go_wp2_with fail
    refine (peek_any HR.out.st).mono ?_
    rintro e w2 ⟨rfl, hb⟩
    have HR2 := Lib.hid (HR.out.below hb)
    have hzR2 := HR2.out.size
    have HB2 := Lib.hid (HBr.out.kp (Kp.of_below (pb := E.pb) hb) (by omega))
    have hzHB2 := HB2.out.lt
    have HN2 := Lib.hid (HNr.out.kp (Kp.of_below (pb := E.pb) hb) (by first | omega | (have := HR0.out.size; simp at *; omega)))
    have hzHN2 := HN2.out.lt
    clear hb
    unfold tokV
    have fl0 := fldTok0
    have fl1 := fldTok1
    have fl3 := fldTok3
    by_cases hkd : (hdT lr).kind = 0
    ·
      have HI := Lib.hid (show ((hdT lr).kind == 0) = true by rw [hkd]; rfl)
      have hne : (((hdT lr).kind : Int) != 0) = false := by rw [hkd]; rfl
      clear hkd
      have HS := Lib.hid (show unitF (l.length + 1) l = .ok (ks, lr) by rw [HE.out, bd_ok (unitF_end (by have := HM.out; omega) HI.out)]; simp)
      have HP := Lib.hid (show unitP l = .ok (T.mk 0 e0 0 0 ks, lr) by unfold unitP; exact (bd_ok HS.out _))
      go_wp2_with (first | ((with_reducible refine at_ld 25 (.tmp 3) ?_); refine wpList_load_blk rfl 25 (.tmp 3) rfl (w.heap.size + 1) (nodeCells (T.mk 0 e0 0 0 ks) (v)) rfl HN2.out.blk Tryd.underlying25 rfl Tryd.sizeNode ?_) | ((with_reducible refine at_st 25 (.tmp 2) ?_); refine wpList_store_blk rfl 25 (.tmp 2) (.tmp 16) rfl w.heap.size (nodeCells (T.mk 0 e0 0 0 ks) (v)) rfl rfl HB2.out Tryd.sizeNode rfl (nodeCells_one _ _ HN2.out.kids.one) ?_))
      exact ret_blk (cs := nodeCells (T.mk 0 e0 0 0 ks) (v)) Tryd.results29 rfl HB2.out Tryd.underlying25 rfl Tryd.sizeNode rfl (Run.nodeE HR2.out (TAt.of_kids (HN2.out.kids.mono (fun _ hb _ => hb.1))) HP.out (by have := HC.out; first | omega | (simp only [List.length_tail] at *; omega)))
    ·
      have HI := Lib.hid (show ((hdT lr).kind == 0) = false from beq_eq_false_iff_ne.2 hkd)
      have hne : (((hdT lr).kind : Int) != 0) = true := by simp; omega
      clear hkd
      obtain ⟨m0, rfl⟩ : ∃ m0, mm = m0 + 1 := ⟨mm - 1, by have := HM.out; have := HP0.out; omega⟩
      go_wp2_with fail
      refine AnyE.begin2 (S := fun W => Blk W (w.heap.size + 1) (nodeCells (T.mk 0 e0 0 0 ks) (v)) 25) (by kernel_rfl) (HN2.out.blk.drew) (fun hS => ?_)
      refine AnyE.take (i := 0) (v := .pointer (some ⟨w.heap.size + 1, 4, none⟩)) rfl (by kernel_rfl) (by kernel_rfl) (by kernel_rfl) (by kernel_rfl) (fun _ _ _ h => h) (Or.inl ⟨by rfl, fun W _ => by go_simp⟩) hS ?_
      refine AnyE.take (i := 1) (v := v) rfl (by kernel_rfl) (by kernel_rfl) (by kernel_rfl) (by kernel_rfl) (fun _ _ _ h => h) (Or.inl ⟨by rfl, fun W hW => by have hcx : W.cell? ⟨w.heap.size + 1, 4, none⟩ = some (v) := hW.cell 4; go_simp⟩) hS ?_
      refine AnyE.take (i := 2) (v := .pointer (some ⟨E.pb, 0, none⟩)) rfl (by kernel_rfl) (by kernel_rfl) (by kernel_rfl) (by kernel_rfl) (fun _ _ _ h => h) (Or.inl ⟨by rfl, fun W _ => by go_simp⟩) hS ?_
      refine AnyE.one (i := 3) (by kernel_rfl) rfl (by rfl) (fun K hK => ?_)
      go_simp
      refine (declaration_any (HR2.out.drew).st HD.out).mono ?_
      intro e w3 hp
      cases hr : declP lr with
      | error pc =>
        obtain ⟨p, c⟩ := pc
        obtain ⟨rfl, hk, hcd⟩ := hp.err hr
        have HK := Lib.hid ((HR2.out.drew).kp.trans hk)
        have HP := Lib.hid (show unitP l = .error (p, c) by unfold unitP; exact bd_err (HE.out.trans (bd_err ((unitF_more HI.out).trans ((bd_err hr _))) _)) _)
        clear hr hp hk
        go_wp2
        exact ⟨rfl, Run.errE HK.out HP.out hcd⟩
      | ok q =>
        obtain ⟨a3, l3⟩ := q
        obtain ⟨v3, rfl, hv, hs, hl, hk⟩ := hp.ok hr
        obtain ⟨kv3, rfl, ht⟩ := hv
        have HT3 := Lib.hid (ht.weak (HB2.out.drew).lt)
        have huHN3 := Blk.lt_kp hk (HN2.out.drew).blk
        have HU3 := Lib.hid (ht.mono (S' := fun b => w.heap.size < b ∧ (w.heap.size + 1) < b) (fun b hb _ => by have := Blk.lt_kp hk (HB2.out.drew); omega))
        have HF3 := Lib.hid (KLoc.fresh hk (HN2.out.drew) ht)
        have HG3 := Lib.hid (KLoc.fresh2 hk (HN2.out.drew) ht)
        have HR3 := Lib.hid ((HR2.out.drew).call hk hs)
        have hzR3 := HR3.out.size
        have HB3 := Lib.hid ((HB2.out.drew).kp hk (by omega))
        have hzHB3 := HB3.out.lt
        have HN3 := Lib.hid ((HN2.out.drew).kp hk (by first | omega | (have := HR0.out.size; simp at *; omega)))
        have hzHN3 := HN3.out.lt
        have HL3 := Lib.hid hl
        have H3 := Lib.hid hr
        clear hr hp hs hl hk ht
        unfold NodeV
        refine hK.out _ _ (fun _ => HN3.out.blk) ?_
        clear hK K
        refine AnyE.one (i := 4) (by kernel_rfl) rfl (by rfl) (fun K hK => ?_)
        go_simp
        refine hK.out _ _ (fun _ => (HN3.out.alloc _).blk) ?_
        clear hK K
        refine AnyE.one (i := 5) (by kernel_rfl) rfl (by rfl) (fun K hK => ?_)
        refine wp_append_trees (.tmp 10) (.tmp 13) rfl I (ts := [a3]) rfl (HN3.out.alloc _).kids (us := [kv3]) (TsAt.single (HF3.out.alloc _)) ⟨by simp; omega, by simp; omega⟩ rfl rfl (by simp) (lit1_at w3 _ a3 kv3) (by show ks.length + _ ≤ _; simp; omega) ?_
        intro v3x w3x hKx hgx _
        obtain ⟨sa3x, sn3x, sc3x, rfl⟩ := hKx.slice
        obtain ⟨h1, h2, h3, hcx, hfx, h6⟩ := afterAppend (HR3.out.alloc _) (HB3.out.alloc _) (HN3.out.alloc _) hKx hgx
        have HR3x := Lib.hid h1
        have HB3x := Lib.hid h2
        have HN3x := Lib.hid h3
        have HC3x := Lib.hid h6
        clear h1 h2 h3 h6 hKx hgx
        refine hK.out _ _ (fun _ => HC3x.out) ?_
        clear hK K
        refine AnyE.one (i := 6) (by kernel_rfl) rfl (by rfl) (fun K hK => ?_)
        go_simp
        refine hK.out _ _ (fun _ => HC3x.out) ?_
        clear hK K
        refine AnyE.one (i := 7) (by kernel_rfl) rfl (by rfl) (fun K hK => ?_)
        go_simp
        refine hK.out _ _ (fun h => absurd rfl h) ?_
        clear hK K
        refine AnyE.done (by kernel_rfl) ?_ _
        clear hcx hfx
        generalize w3x.setCell ⟨w.heap.size + 1, 4, none⟩ (.slice sa3x sn3x sc3x) = w3y at HR3x HB3x HN3x ⊢
        have hzHB3y := HB3x.out.lt
        have hzHN3y := HN3x.out.lt
        go_wp2
        go_roundg (gk - 1)
        case measure => have := HG.out; have := HP0.out; omega
        case rel =>
          have h1 := HL3.out
          have h2 := HM.out
          have h4 := HG.out
          have h5 := HC.out
          have h6 := HP0.out
          refine ⟨ks ++ [a3], l3, m0, _, HR3x.out, HB3x.out, HN3x.out, ?_, by omega, by omega, by simp; omega⟩
          rw [HE.out, unitF_more HI.out, bd_bd, bd_ok H3.out, bd_bd]
          congr 1
          funext xs l'
          simp [bd]

end Go.Proofs.YtflhniiemmahmaaDoor
