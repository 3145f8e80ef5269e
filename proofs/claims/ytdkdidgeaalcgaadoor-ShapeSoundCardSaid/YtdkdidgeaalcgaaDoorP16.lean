/- The contracts of the parser's declaration and unit. The contract of syntax.read: the tree of a whole text's tokens, or the first fault, which its deferred function recovers. The contract of syntax.Size. -/
import Derived.Test.YtdkdidgeaalcgaaDoorP14
import Derived.Test.YtdkdidgeaalcgaaDoorP15
import Derived.Recover
import Derived.Test.YtdkdidgeaalcgaaDoorP05
namespace Go.Proofs.YtdkdidgeaalcgaaDoor
section
open Go.RowKit

theorem unitF_end {n : Nat} {l : List Tok} (hn : 0 < n) (h : ((hdT l).kind == 0) = true) : unitF n l = .ok ([], l) := by
  cases n with
  | zero => omega
  | succ n => rw [unitF, h]; rfl
theorem unitF_more {n : Nat} {l : List Tok} (h : ((hdT l).kind == 0) = false) : unitF (n + 1) l = bd (declP l) fun a l1 => bd (unitF n l1) fun xs l2 => .ok (a :: xs, l2) := by
  rw [unitF, h]; rfl

def UnitRel (E : Env) (w : World) (l : List Tok) (d : Nat) (gk : Nat) (wr : World) : Prop :=
  ∃ (ks : List T) (lr : List Tok) (m : Nat) (v : Value), Run E w wr lr d ∧ Blk wr w.heap.size zeroNodeCells 39 ∧ KLoc w wr (w.heap.size + 1) (T.mk 0 e0 0 0 ks) v ∧
    unitF (l.length + 1) l = bd (unitF m lr) (fun xs l' => .ok (ks ++ xs, l')) ∧ lr.length < m ∧ lr.length ≤ gk ∧ ks.length + lr.length ≤ l.length

set_option maxRecDepth 100000 in
set_option maxHeartbeats 1000000 in
theorem declaration_any {E : Env} {w : World} {l : List Tok} {d : Nat} (h : PSt E w l d) (hd : d = 0) :
    Calls Tryd.prog 34 #[.pointer (some ⟨E.pb, 0, none⟩)] w (PPost VNode E w l d (declP l)) := by
  have HR0 := Lib.hid ((Run.start h).alloc (.cells zeroNodeCells.toArray 39))
  have HB0 := Lib.hid (Blk.new w zeroNodeCells 39)
  have HD := Lib.hid hd
  clear hd
  have hlo := h.plt
  have hlt := h.tlt
  have hln := h.len
  clear h
  go_enter Tryd.func34, Tryd.ntmps34
  go_wp2_with fail
  refine (expect_at HR0.out.st [bs [116, 121, 112, 101], bs [102, 110]] (by decide) (by decide) (by simp) rfl rfl).mono ?_
  intro e w1 hp
  cases hr : expectP [bs [116, 121, 112, 101], bs [102, 110]] l with
  | error pc =>
    obtain ⟨p, c⟩ := pc
    obtain ⟨rfl, hk, hcd⟩ := hp.err hr
    have HK := Lib.hid (HR0.out.kp.trans hk)
    have HP := Lib.hid (show declP l = .error (p, c) by unfold declP; exact (bd_err hr _))
    clear hr hp hk
    go_wp2
    exact ⟨rfl, Run.err HK.out HP.out hcd⟩
  | ok q =>
    obtain ⟨a1, l1⟩ := q
    obtain ⟨v1, rfl, hv, hs, hl, hk⟩ := hp.ok hr
    obtain ⟨rfl, hto⟩ := hv
    have HR1 := Lib.hid (HR0.out.call hk hs)
    have hzR1 := HR1.out.size
    have HB1 := Lib.hid (HB0.out.kp hk (by omega))
    have hzHB1 := HB1.out.lt
    have HL1 := Lib.hid hl
    have H1 := Lib.hid hr
    clear hr hp hs hl hk hto
    unfold tokV
    cases ho : isT a1 (bs [116, 121, 112, 101]) with
    | true =>
      have HO := Lib.hid ho
      obtain ⟨ho2, ho3⟩ := isT_yes ho
      clear ho ho3
      go_wp2_with fail
      refine (typeBehind_any (HR1.out.alloc _).st _).mono ?_
      intro e w2 hp
      cases hr : typeP a1.place l1 with
      | error pc =>
        obtain ⟨p, c⟩ := pc
        obtain ⟨rfl, hk, hcd⟩ := hp.err hr
        have HK := Lib.hid ((HR1.out.alloc _).kp.trans hk)
        have HP := Lib.hid (show declP l = .error (p, c) by unfold declP; exact ((bd_ok H1.out _)).trans (((cond_t HO.out _ _)).trans (hr)))
        clear hr hp hk
        go_wp2
        exact ⟨rfl, Run.err HK.out HP.out hcd⟩
      | ok q =>
        obtain ⟨a2, l2⟩ := q
        obtain ⟨v2, rfl, hv, hs, hl, hk⟩ := hp.ok hr
        obtain ⟨kv2, rfl, ht⟩ := hv
        have HT2 := Lib.hid (ht.weak (HB1.out.alloc _).lt)
        have HR2 := Lib.hid ((HR1.out.alloc _).call hk hs)
        have hzR2 := HR2.out.size
        have HB2 := Lib.hid ((HB1.out.alloc _).kp hk (by omega))
        have hzHB2 := HB2.out.lt
        have HL2 := Lib.hid hl
        have H2 := Lib.hid hr
        clear hr hp hs hl hk ht
        unfold NodeV
        have HP := Lib.hid (show declP l = .ok (a2, l2) by unfold declP; exact ((bd_ok H1.out _)).trans (((cond_t HO.out _ _)).trans (H2.out)))
        go_wp2_with ((with_reducible refine at_st 39 (.tmp 2) ?_); refine wpList_store_blk rfl 39 (.tmp 2) (.tmp 18) rfl w.heap.size (nodeCells (a2) (kv2)) rfl rfl HB2.out Tryd.sizeNode rfl (nodeCells_one _ _ HT2.out.kat.one) ?_)
        exact ret_blk (cs := nodeCells (a2) (kv2)) Tryd.results34 rfl HB2.out Tryd.underlying39 rfl Tryd.sizeNode rfl (Run.node HR2.out HT2.out.lo HP.out (by have := HL1.out; have := HL2.out; first | omega | (simp only [List.length_tail] at *; omega)))
    | false =>
      have HO := Lib.hid ho
      obtain ⟨ho2, ho3⟩ := isT_no ho
      clear ho ho3
      go_wp2_with fail
      refine (fnBehind_any (HR1.out.alloc _).st HD.out _).mono ?_
      intro e w2 hp
      cases hr : fnP a1.place l1 with
      | error pc =>
        obtain ⟨p, c⟩ := pc
        obtain ⟨rfl, hk, hcd⟩ := hp.err hr
        have HK := Lib.hid ((HR1.out.alloc _).kp.trans hk)
        have HP := Lib.hid (show declP l = .error (p, c) by unfold declP; exact ((bd_ok H1.out _)).trans (((cond_f HO.out _ _)).trans (hr)))
        clear hr hp hk
        go_wp2
        exact ⟨rfl, Run.err HK.out HP.out hcd⟩
      | ok q =>
        obtain ⟨a2, l2⟩ := q
        obtain ⟨v2, rfl, hv, hs, hl, hk⟩ := hp.ok hr
        obtain ⟨kv2, rfl, ht⟩ := hv
        have HT2 := Lib.hid (ht.weak (HB1.out.alloc _).lt)
        have HR2 := Lib.hid ((HR1.out.alloc _).call hk hs)
        have hzR2 := HR2.out.size
        have HB2 := Lib.hid ((HB1.out.alloc _).kp hk (by omega))
        have hzHB2 := HB2.out.lt
        have HL2 := Lib.hid hl
        have H2 := Lib.hid hr
        clear hr hp hs hl hk ht
        unfold NodeV
        have HP := Lib.hid (show declP l = .ok (a2, l2) by unfold declP; exact ((bd_ok H1.out _)).trans (((cond_f HO.out _ _)).trans (H2.out)))
        go_wp2_with ((with_reducible refine at_st 39 (.tmp 2) ?_); refine wpList_store_blk rfl 39 (.tmp 2) (.tmp 12) rfl w.heap.size (nodeCells (a2) (kv2)) rfl rfl HB2.out Tryd.sizeNode rfl (nodeCells_one _ _ HT2.out.kat.one) ?_)
        exact ret_blk (cs := nodeCells (a2) (kv2)) Tryd.results34 rfl HB2.out Tryd.underlying39 rfl Tryd.sizeNode rfl (Run.node HR2.out HT2.out.lo HP.out (by have := HL1.out; have := HL2.out; first | omega | (simp only [List.length_tail] at *; omega)))

set_option maxRecDepth 100000 in
set_option maxHeartbeats 1000000 in
theorem unit_any {E : Env} {w : World} {l : List Tok} {d : Nat} (h : PSt E w l d) (hd : d = 0) :
    Calls Tryd.prog 25 #[.pointer (some ⟨E.pb, 0, none⟩)] w (PPostE VNode E w l d (unitP l)) := by
  have HR0 := Lib.hid ((Run.start h).alloc (.cells zeroNodeCells.toArray 39))
  have HB0 := Lib.hid (Blk.new w zeroNodeCells 39)
  have HD := Lib.hid hd
  clear hd
  have hle := h.le
  obtain ⟨i0, z0, I⟩ := Tryd.nodeInfo
  have hlo := h.plt
  have hlt := h.tlt
  have hln := h.len
  clear h
  go_enter Tryd.func25, Tryd.ntmps25
  have HRa := Lib.hid (HR0.out.alloc (.cells (nodeCells (T.mk 0 e0 0 0 []) (.slice none 0 0)).toArray 39))
  have HBa := Lib.hid (HB0.out.alloc (.cells (nodeCells (T.mk 0 e0 0 0 []) (.slice none 0 0)).toArray 39))
  have HNa : Hid (KLoc w ((w.alloc (.cells zeroNodeCells.toArray 39)).alloc (.cells (nodeCells (T.mk 0 e0 0 0 []) (.slice none 0 0)).toArray 39)) (w.heap.size + 1) (T.mk 0 e0 0 0 []) (.slice none 0 0)) := (by
    have h1 := KLoc.new (w := w) (t := T.mk 0 e0 0 0 []) (KAt.nil 39 (w.alloc (.cells zeroNodeCells.toArray 39)) (fun b => w.heap.size < b)) (by simp)
    rw [show (w.alloc (.cells zeroNodeCells.toArray 39)).heap.size = w.heap.size + 1 by simp] at h1
    exact h1)
  have HLL := Lib.hid (show l.length ≤ 16385 by omega)
  clear hle
  go_wp2_with fail
  go_loopg [5] l.length (fun gk _ wr => UnitRel E w l d gk wr)
  case atStart =>
    refine ⟨[], l, l.length + 1, _, HRa.out, HBa.out, HNa.out, ?_, by omega, Nat.le_refl _, by simp⟩
    cases unitF (l.length + 1) l with
    | error e => rfl
    | ok q => obtain ⟨x, y⟩ := q; rfl
  case round =>
    obtain ⟨ks, lr, mm, v, hR, hBl, hN, hE, hm, hg, hcnt⟩ := hrel
    have HR := Lib.hid hR
    have HBr := Lib.hid hBl
    have HNr := Lib.hid hN
    have HE := Lib.hid hE
    have HM := Lib.hid hm
    have HG := Lib.hid hg
    have HC := Lib.hid hcnt
    have HP0 := Lib.hid hR.st.head.1
    have hzB := hBl.lt
    have hzN := hN.lt
    have hzK : ks.length ≤ 16385 := by have := HLL.out; omega
    clear hR hBl hN hE hm hg hcnt HRa HBa HNa HR0 HB0
    go_wp2_with fail
    refine (peek_any HR.out.st).mono ?_
    rintro e w2 ⟨rfl, hb⟩
    have HR2 := Lib.hid (HR.out.below hb)
    have hzR2 := HR2.out.size
    have HB2 := Lib.hid (HBr.out.kp (Kp.of_below (pb := E.pb) hb) (by omega))
    have hzHB2 := HB2.out.lt
    have HN2 := Lib.hid (HNr.out.kp (Kp.of_below (pb := E.pb) hb) (by first | omega | (have := HR0.out.size; simp at *; omega)))
    have hzHN2 := HN2.out.lt
    clear hb
    unfold tokV
    have fl0 := fldTok0
    have fl1 := fldTok1
    have fl3 := fldTok3
    by_cases hkd : (hdT lr).kind = 0
    ·
      have HI := Lib.hid (show ((hdT lr).kind == 0) = true by rw [hkd]; rfl)
      have hne : (((hdT lr).kind : Int) != 0) = false := by rw [hkd]; rfl
      clear hkd
      have HS := Lib.hid (show unitF (l.length + 1) l = .ok (ks, lr) by rw [HE.out, bd_ok (unitF_end (by have := HM.out; omega) HI.out)]; simp)
      have HP := Lib.hid (show unitP l = .ok (T.mk 0 e0 0 0 ks, lr) by unfold unitP; exact (bd_ok HS.out _))
      go_wp2_with (first | ((with_reducible refine at_ld 39 (.tmp 3) ?_); refine wpList_load_blk rfl 39 (.tmp 3) rfl (w.heap.size + 1) (nodeCells (T.mk 0 e0 0 0 ks) (v)) rfl HN2.out.blk Tryd.underlying39 rfl Tryd.sizeNode ?_) | ((with_reducible refine at_st 39 (.tmp 2) ?_); refine wpList_store_blk rfl 39 (.tmp 2) (.tmp 16) rfl w.heap.size (nodeCells (T.mk 0 e0 0 0 ks) (v)) rfl rfl HB2.out Tryd.sizeNode rfl (nodeCells_one _ _ HN2.out.kids.one) ?_))
      exact ret_blk (cs := nodeCells (T.mk 0 e0 0 0 ks) (v)) Tryd.results25 rfl HB2.out Tryd.underlying39 rfl Tryd.sizeNode rfl (Run.nodeE HR2.out (TAt.of_kids (HN2.out.kids.mono (fun _ hb _ => hb.1))) HP.out (by have := HC.out; first | omega | (simp only [List.length_tail] at *; omega)))
    ·
      have HI := Lib.hid (show ((hdT lr).kind == 0) = false from beq_eq_false_iff_ne.2 hkd)
      have hne : (((hdT lr).kind : Int) != 0) = true := by simp; omega
      clear hkd
      obtain ⟨m0, rfl⟩ : ∃ m0, mm = m0 + 1 := ⟨mm - 1, by have := HM.out; have := HP0.out; omega⟩
      go_wp2_with fail
      refine AnyE.begin2 (S := fun W => Blk W (w.heap.size + 1) (nodeCells (T.mk 0 e0 0 0 ks) (v)) 39) (by kernel_rfl) (HN2.out.blk.drew) (fun hS => ?_)
      refine AnyE.take (i := 0) (v := .pointer (some ⟨w.heap.size + 1, 4, none⟩)) rfl (by kernel_rfl) (by kernel_rfl) (by kernel_rfl) (by kernel_rfl) (fun _ _ _ h => h) (Or.inl ⟨by rfl, fun W _ => by go_simp⟩) hS ?_
      refine AnyE.take (i := 1) (v := v) rfl (by kernel_rfl) (by kernel_rfl) (by kernel_rfl) (by kernel_rfl) (fun _ _ _ h => h) (Or.inl ⟨by rfl, fun W hW => by have hcx : W.cell? ⟨w.heap.size + 1, 4, none⟩ = some (v) := hW.cell 4; go_simp⟩) hS ?_
      refine AnyE.take (i := 2) (v := .pointer (some ⟨E.pb, 0, none⟩)) rfl (by kernel_rfl) (by kernel_rfl) (by kernel_rfl) (by kernel_rfl) (fun _ _ _ h => h) (Or.inl ⟨by rfl, fun W _ => by go_simp⟩) hS ?_
      refine AnyE.one (i := 3) (by kernel_rfl) rfl (by rfl) (fun K hK => ?_)
      go_simp
      refine (declaration_any (HR2.out.drew).st HD.out).mono ?_
      intro e w3 hp
      cases hr : declP lr with
      | error pc =>
        obtain ⟨p, c⟩ := pc
        obtain ⟨rfl, hk, hcd⟩ := hp.err hr
        have HK := Lib.hid ((HR2.out.drew).kp.trans hk)
        have HP := Lib.hid (show unitP l = .error (p, c) by unfold unitP; exact bd_err (HE.out.trans (bd_err ((unitF_more HI.out).trans ((bd_err hr _))) _)) _)
        clear hr hp hk
        go_wp2
        exact ⟨rfl, Run.errE HK.out HP.out hcd⟩
      | ok q =>
        obtain ⟨a3, l3⟩ := q
        obtain ⟨v3, rfl, hv, hs, hl, hk⟩ := hp.ok hr
        obtain ⟨kv3, rfl, ht⟩ := hv
        have HT3 := Lib.hid (ht.weak (HB2.out.drew).lt)
        have huHN3 := Blk.lt_kp hk (HN2.out.drew).blk
        have HU3 := Lib.hid (ht.mono (S' := fun b => w.heap.size < b ∧ (w.heap.size + 1) < b) (fun b hb _ => by have := Blk.lt_kp hk (HB2.out.drew); omega))
        have HF3 := Lib.hid (KLoc.fresh hk (HN2.out.drew) ht)
        have HG3 := Lib.hid (KLoc.fresh2 hk (HN2.out.drew) ht)
        have HR3 := Lib.hid ((HR2.out.drew).call hk hs)
        have hzR3 := HR3.out.size
        have HB3 := Lib.hid ((HB2.out.drew).kp hk (by omega))
        have hzHB3 := HB3.out.lt
        have HN3 := Lib.hid ((HN2.out.drew).kp hk (by first | omega | (have := HR0.out.size; simp at *; omega)))
        have hzHN3 := HN3.out.lt
        have HL3 := Lib.hid hl
        have H3 := Lib.hid hr
        clear hr hp hs hl hk ht
        unfold NodeV
        refine hK.out _ _ (fun _ => HN3.out.blk) ?_
        clear hK K
        refine AnyE.one (i := 4) (by kernel_rfl) rfl (by rfl) (fun K hK => ?_)
        go_simp
        refine hK.out _ _ (fun _ => (HN3.out.alloc _).blk) ?_
        clear hK K
        refine AnyE.one (i := 5) (by kernel_rfl) rfl (by rfl) (fun K hK => ?_)
        refine wp_append_trees (.tmp 10) (.tmp 13) rfl I (ts := [a3]) rfl (HN3.out.alloc _).kids (us := [kv3]) (TsAt.single (HF3.out.alloc _)) ⟨by simp; omega, by simp; omega⟩ rfl rfl (by simp) (lit1_at w3 _ a3 kv3) (by show ks.length + _ ≤ _; simp; omega) ?_
        intro v3x w3x hKx hgx _
        obtain ⟨sa3x, sn3x, sc3x, rfl⟩ := hKx.slice
        obtain ⟨h1, h2, h3, hcx, hfx, h6⟩ := afterAppend (HR3.out.alloc _) (HB3.out.alloc _) (HN3.out.alloc _) hKx hgx
        have HR3x := Lib.hid h1
        have HB3x := Lib.hid h2
        have HN3x := Lib.hid h3
        have HC3x := Lib.hid h6
        clear h1 h2 h3 h6 hKx hgx
        refine hK.out _ _ (fun _ => HC3x.out) ?_
        clear hK K
        refine AnyE.one (i := 6) (by kernel_rfl) rfl (by rfl) (fun K hK => ?_)
        go_simp
        refine hK.out _ _ (fun _ => HC3x.out) ?_
        clear hK K
        refine AnyE.one (i := 7) (by kernel_rfl) rfl (by rfl) (fun K hK => ?_)
        go_simp
        refine hK.out _ _ (fun h => absurd rfl h) ?_
        clear hK K
        refine AnyE.done (by kernel_rfl) ?_ _
        clear hcx hfx
        generalize w3x.setCell ⟨w.heap.size + 1, 4, none⟩ (.slice sa3x sn3x sc3x) = w3y at HR3x HB3x HN3x ⊢
        have hzHB3y := HB3x.out.lt
        have hzHN3y := HN3x.out.lt
        go_wp2
        go_roundg (gk - 1)
        case measure => have := HG.out; have := HP0.out; omega
        case rel =>
          have h1 := HL3.out
          have h2 := HM.out
          have h4 := HG.out
          have h5 := HC.out
          have h6 := HP0.out
          refine ⟨ks ++ [a3], l3, m0, _, HR3x.out, HB3x.out, HN3x.out, ?_, by omega, by omega, by simp; omega⟩
          rw [HE.out, unitF_more HI.out, bd_bd, bd_ok H3.out, bd_bd]
          congr 1
          funext xs l'
          simp [bd]
end

section
open Go.RowKit

theorem Tryd.sizeFault : (Tryd.prog.info? 60).map (·.size) = some 2 := by kernel_rfl

theorem assert_fault (v : Value) (w : World) : (Instr.typeAssert (.iface 60 v) 20 60 true).run Tryd.prog w = .ok (.tuple #[v, .bool true]) w := by
  simp [Instr.typeAssert, run_underlying Tryd.underlying60]

set_option maxRecDepth 100000 in
set_option maxHeartbeats 1000000 in
theorem catch_panicking (fb : Nat) (p : Nat) (c : Int) (w : World) (hb : Blk w fb [.int .i64 0, .int .i64 0] 60) :
    CallsD Tryd.prog 24 #[.pointer (some ⟨fb, 0, none⟩)] (.panicking [{ v := faultV p c, recovered := false }]) w fun e u' w' =>
      e = .returned (.tuple #[]) ∧ u' = .panicking [{ v := faultV p c, recovered := true }] ∧ Blk w' fb [.int .i64 p, .int .i64 c] 60 ∧ w.grownBy w' (some fb) := by
  have HB := Lib.hid hb
  have hlt := hb.lt
  have hta := assert_fault
  clear hb
  refine callsD_of_wpS Tryd.func24 rfl fun c₀ cs hu => ?_
  simp only [Tryd.ntmps24, List.size_toArray, List.length_cons, List.length_nil, Nat.reduceAdd, Nat.reduceSub, Array.replicate_succ, Array.replicate_zero, List.push_toArray, List.append_toArray, List.nil_append, List.cons_append]
  apply wpS_seq
  apply wpS_region
  unfold faultV at hu ⊢
  simp [wpOpsS, go_sem, recoverD, hu, Exit.thenS]
  refine wpS_of_wp ?_
  clear hu
  go_wp2_with ((with_reducible refine at_st 60 (.tmp 0) ?_); refine wpList_store_blk rfl 60 (.tmp 0) (.tmp 15) rfl fb [.int .i64 p, .int .i64 c] rfl rfl (HB.out.alloc _) Tryd.sizeFault rfl (by simp [Value.oneCell']) ?_)
  refine ⟨rfl, _, rfl, .tuple #[], by simp [results, Tryd.results24], rfl, rfl, (HB.out.alloc _).rowSame [.int .i64 p, .int .i64 c], ?_⟩
  exact ⟨rfl, rfl, rfl, by simp, fun k hk hn => (setRow_other _ fb k _ (fun e => hn (by rw [e]))).trans (Below.heap_alloc w _ k hk)⟩

set_option maxRecDepth 100000 in
set_option maxHeartbeats 1000000 in
theorem catch_idle (fb : Nat) (w : World) :
    CallsD Tryd.prog 24 #[.pointer (some ⟨fb, 0, none⟩)] .returning w fun e u' w' => e = .returned (.tuple #[]) ∧ u' = .returning ∧ w' = w := by
  refine callsD_of_wpS Tryd.func24 rfl fun c₀ cs hu => ?_
  simp only [Tryd.ntmps24, List.size_toArray, List.length_cons, List.length_nil, Nat.reduceAdd, Nat.reduceSub, Array.replicate_succ, Array.replicate_zero, List.push_toArray, List.append_toArray, List.nil_append, List.cons_append]
  apply wpS_seq
  apply wpS_region
  simp [wpOpsS, go_sem, recoverD, hu, Exit.thenS]
  refine wpS_of_wp ?_
  go_wp2_with fail
  refine ⟨rfl, .returning, ?_, .tuple #[], by simp [results, Tryd.results24], rfl, rfl, rfl⟩
  cases c₀
  simp_all

def ReadPost (r : R T) (w : World) (e : Ending) (w' : World) : Prop :=
  match r with
  | .ok (t, _) => ∃ kv, e = .returned (.tuple #[NodeV t kv, .agg #[.int .i64 0, .int .i64 0]]) ∧ TAt 39 w' t (fun b => w.heap.size ≤ b) kv ∧ Below w.heap.size w w'
  | .error (p, c) => e = .returned (.tuple #[NodeV zeroT (.slice none 0 0), .agg #[.int .i64 p, .int .i64 c]]) ∧ Below w.heap.size w w' ∧ (c = 20 ∨ c = 21)

theorem ReadPost.mk_ok {r : R T} {w w' : World} {e : Ending} {t : T} {l : List Tok} {kv : Value} (hr : r = .ok (t, l)) (he : e = .returned (.tuple #[NodeV t kv, .agg #[.int .i64 0, .int .i64 0]])) (ht : TAt 39 w' t (fun b => w.heap.size ≤ b) kv) (hb : Below w.heap.size w w') : ReadPost r w e w' := by
  rw [hr]; exact ⟨kv, he, ht, hb⟩
theorem ReadPost.mk_err {r : R T} {w w' : World} {e : Ending} {p : Nat} {c : Int} (hr : r = .error (p, c)) (he : e = .returned (.tuple #[NodeV zeroT (.slice none 0 0), .agg #[.int .i64 p, .int .i64 c]])) (hb : Below w.heap.size w w') (hc : c = 20 ∨ c = 21) : ReadPost r w e w' := by
  rw [hr]; exact ⟨he, hb, hc⟩

theorem results_blks {P : Program} {fn : Func} {s u : Tmp} {ty tz t t' : TypeId} (h : fn.results = #[.cell s ty, .cell u tz]) {tmps : Array Value} {W : World} {g g' : Nat} {cs cs' : List Value} {d d' : TypeDesc}
    (hs : tmps.getD s undef = .pointer (some ⟨g, 0, none⟩)) (hu' : tmps.getD u undef = .pointer (some ⟨g', 0, none⟩)) (hb : Blk W g cs t) (hb' : Blk W g' cs' t') (hu : P.underlying ty = some d) (hd : d.isRow = true) (hi : (P.info? ty).map (·.size) = some cs.length)
    (hz : P.underlying tz = some d') (hd' : d'.isRow = true) (hi' : (P.info? tz).map (·.size) = some cs'.length) : (results fn tmps).run P W = .ok (.tuple #[.agg cs.toArray, .agg cs'.toArray]) W := by
  have hl := run_loadVar_mid (P := P) W g 0 ty cs d (fun j v hj => by rw [Nat.zero_add, hb.cell j]; exact hj) hu hd hi
  have hl' := run_loadVar_mid (P := P) W g' 0 tz cs' d' (fun j v hj => by rw [Nat.zero_add, hb'.cell j]; exact hj) hz hd' hi'
  have h1 : tmps[s]?.getD undef = .pointer (some ⟨g, 0, none⟩) := by rw [← hs]; simp
  have h2 : tmps[u]?.getD undef = .pointer (some ⟨g', 0, none⟩) := by rw [← hu']; simp
  simp [results, h, h1, h2, asAddr, hl, hl']

/- The tokens that read is handed. -/
structure Toks (w : World) (tb cap : Nat) (ts : List Tok) : Prop where
  row : RowAt w tb ts
  lt : tb < w.heap.size
  ends : Ends ts
  ok : ∀ t ∈ ts, TokOK t
  len : ts.length ≤ 16385
  capb : ts.length ≤ cap

set_option maxRecDepth 100000 in
set_option maxHeartbeats 1000000 in
theorem read_any {w : World} {tb cap : Nat} {ts : List Tok} (h : Toks w tb cap ts) :
    Calls Tryd.prog 16 #[.slice (some ⟨tb, 0, none⟩) ts.length cap] w (ReadPost (unitP ts) w) := by
  have hmf := makeFunc_run
  have HB0 := Lib.hid (((Blk.new w zeroNodeCells 39).alloc (.cells #[.int .i64 0, .int .i64 0] 60)).alloc (.cells #[.slice (some ⟨tb, 0, none⟩) ts.length cap, .int .i64 0, .int .i64 0] 81))
  have HF0 := Lib.hid ((Blk.new2 w (.cells zeroNodeCells.toArray 39) [.int .i64 0, .int .i64 0] 60).alloc (.cells #[.slice (some ⟨tb, 0, none⟩) ts.length cap, .int .i64 0, .int .i64 0] 81))
  have HST : Hid (PSt ⟨w.heap.size + 2, tb, cap, ts⟩ (((w.alloc (.cells zeroNodeCells.toArray 39)).alloc (.cells #[.int .i64 0, .int .i64 0] 60)).alloc (.cells #[.slice (some ⟨tb, 0, none⟩) ts.length cap, .int .i64 0, .int .i64 0] 81)) ts 0) := (by
    have hlt := h.lt
    refine ⟨Nat.le_refl _, by simp, ?_, ?_, by show tb ≠ w.heap.size + 2; omega, by simp; omega, h.ends, h.ok, h.len, h.capb, by omega⟩
    · have h1 := heap_alloc_new ((w.alloc (.cells zeroNodeCells.toArray 39)).alloc (.cells #[.int .i64 0, .int .i64 0] 60)) (.cells #[.slice (some ⟨tb, 0, none⟩) ts.length cap, .int .i64 0, .int .i64 0] 81)
      rw [show ((w.alloc (.cells zeroNodeCells.toArray 39)).alloc (.cells #[.int .i64 0, .int .i64 0] 60)).heap.size = w.heap.size + 2 by simp] at h1
      simpa using h1
    · exact h.row.same ((Below.heap_alloc _ _ _ (by simp; omega)).trans ((Below.heap_alloc _ _ _ (by simp; omega)).trans (Below.heap_alloc _ _ _ hlt))))
  have HW := Lib.hid ((((Below.refl w.heap.size w).alloc (Nat.le_refl _) (.cells zeroNodeCells.toArray 39)).alloc (by simp) (.cells #[.int .i64 0, .int .i64 0] 60)).alloc (by simp; omega) (.cells #[.slice (some ⟨tb, 0, none⟩) ts.length cap, .int .i64 0, .int .i64 0] 81))
  clear h
  go_enter_defers Tryd.func16, Tryd.ntmps16
  go_wp2_with fail
  refine (unit_any HST.out rfl).mono ?_
  intro e w1 hp
  cases hr : unitP ts with
  | error pc =>
    obtain ⟨p, c⟩ := pc
    rw [hr] at hp
    obtain ⟨rfl, hk, hcd⟩ := hp
    have HB1 := Lib.hid (HB0.out.kp hk (by show _ ≠ w.heap.size + 2; omega))
    have HF1 := Lib.hid (HF0.out.kp hk (by show _ ≠ w.heap.size + 2; omega))
    have HW1 := Lib.hid (HW.out.grown hk (by simp; omega) (fun k hk => by cases hk; show _ ≤ w.heap.size + 2; omega))
    clear hk hr
    go_wp2_with fail
    refine leaves_cons (f := 24) (args := #[.pointer (some ⟨w.heap.size + 1, 0, none⟩)]) (by simp) (by simp [go_sem]) ?_
    refine (catch_panicking (w.heap.size + 1) p c _ HF1.out).mono ?_
    rintro e u' w2 ⟨rfl, rfl, hb2, hg2⟩
    have hb1 := HB1.out.grown hg2 (by simp)
    exact ⟨_, results_blks Tryd.results16 rfl rfl hb1 hb2 Tryd.underlying39 rfl Tryd.sizeNode Tryd.underlying60 rfl Tryd.sizeFault, .mk_err rfl rfl (HW1.out.grown hg2 HW1.out.size (fun k hk => by cases hk; omega)) hcd⟩
  | ok q =>
    obtain ⟨t, l'⟩ := q
    rw [hr] at hp
    obtain ⟨v, rfl, ⟨kv, rfl, ht⟩, hs, hl, hk⟩ := hp
    have HB1 := Lib.hid (HB0.out.kp hk (by show _ ≠ w.heap.size + 2; omega))
    have HF1 := Lib.hid (HF0.out.kp hk (by show _ ≠ w.heap.size + 2; omega))
    have HW1 := Lib.hid (HW.out.grown hk (by simp; omega) (fun k hk => by cases hk; show _ ≤ w.heap.size + 2; omega))
    have HT := Lib.hid (ht.mono (S' := fun b => w.heap.size + 1 < b) (fun b hb _ => by simp at hb; omega))
    have HRR := Lib.hid hr
    clear hk hr hs hl ht
    unfold NodeV
    go_wp2_with (first | ((with_reducible refine at_st 39 (.tmp 2) ?_); refine wpList_store_blk rfl 39 (.tmp 2) (.tmp 10) rfl w.heap.size (nodeCells t kv) rfl rfl HB1.out Tryd.sizeNode rfl (nodeCells_one _ _ HT.out.kat.one) ?_) | ((with_reducible refine at_st 60 (.tmp 3) ?_); refine wpList_store_blk rfl 60 (.tmp 3) (.tmp 11) rfl (w.heap.size + 1) [.int .i64 0, .int .i64 0] rfl rfl (HF1.out.rowOther w.heap.size _ (by omega)) Tryd.sizeFault rfl (by simp [Value.oneCell']) ?_))
    refine leaves_cons (f := 24) (args := #[.pointer (some ⟨w.heap.size + 1, 0, none⟩)]) (by simp) (by simp [go_sem]) ?_
    refine (catch_idle (w.heap.size + 1) _).mono ?_
    rintro e u' w2 ⟨rfl, rfl, rfl⟩
    have hb1 := (HB1.out.rowSame (nodeCells t kv)).rowOther (w.heap.size + 1) [.int .i64 0, .int .i64 0].toArray (by omega)
    have hb2 := (HF1.out.rowOther w.heap.size (nodeCells t kv).toArray (by omega)).rowSame [.int .i64 0, .int .i64 0]
    have hg : ∀ (W : World) (g : Nat) (cs : Array Value), w.heap.size ≤ g → Below w.heap.size w W → Below w.heap.size w (W.setRow g cs) := fun W g cs hg hb =>
      ⟨hb.os, hb.tape, hb.output, by simpa using hb.size, fun k hk => (setRow_other W g k cs (by omega)).trans (hb.block k hk)⟩
    exact ⟨_, results_blks Tryd.results16 rfl rfl hb1 hb2 Tryd.underlying39 rfl Tryd.sizeNode Tryd.underlying60 rfl Tryd.sizeFault, .mk_ok HRR.out rfl
      (((HT.out.setRow w.heap.size _ (fun b hb => by omega)).setRow (w.heap.size + 1) _ (fun b hb => by omega)).mono (fun b hb _ => by omega)) (hg _ _ _ (by omega) (hg _ _ _ (Nat.le_refl _) HW1.out))⟩
end

section
open Go.RowKit

def SizeRel (w : World) (ks : List T) (g : Nat) (s i : Value) (wr : World) : Prop :=
  ∃ k : Nat, k ≤ ks.length ∧ ks.length ≤ k + g ∧ i = .int .i64 k ∧ s = .int .i64 ((1 + sizes (ks.take k) : Nat) : Int) ∧ Below w.heap.size w wr

set_option maxRecDepth 100000 in
set_option maxHeartbeats 1000000 in
theorem size_any : ∀ (n : Nat) (t : T), t.size ≤ n → ∀ {w : World} {S : Nat → Prop} {kv : Value}, KAt 39 w t.kids S kv → t.size ≤ 1000000 →
    Calls Tryd.prog 17 #[NodeV t kv] w fun e w' => e = .returned (.int .i64 t.size) ∧ Below w.heap.size w w' := by
  intro n
  induction n with
  | zero => intro t ht; cases t; rw [size_mk] at ht; omega
  | succ n ih =>
    intro t ht w S kv hk hbig
    have hts : t.size = 1 + sizes t.kids := by cases t; rw [size_mk]; rfl
    have HTS := Lib.hid hts
    have HT := Lib.hid ht
    have HBIG := Lib.hid hbig
    have HIH := Lib.hid (@ih)
    have hkl : t.kids.length ≤ sizes t.kids := by
      have : ∀ ks : List T, ks.length ≤ sizes ks := fun ks => by
        induction ks with
        | nil => simp
        | cons a ks h => rw [sizes_cons]; cases a; rw [size_mk]; simp; omega
      exact this _
    have hkl2 : t.kids.length ≤ 1000000 := by omega
    rcases hk.form with ⟨rfl, hnil⟩ | ⟨g, cap, rfl, hg, hcap, hcm, hget⟩
    · have HN := Lib.hid hnil
      clear hk ih ht hbig hts hnil hkl hkl2
      unfold NodeV
      go_enter Tryd.func17, Tryd.ntmps17
      go_wp2_with fail
      refine wp_loop_rounds 1 ?_
      rw [rounds_succ]
      go_wp2_with fail
      go_ret
      refine ⟨?_, (Below.refl _ _).alloc (Nat.le_refl _) _⟩
      rw [HTS.out, HN.out, sizes_nil]
      rfl
    · have HG := Lib.hid hget
      have HCAP := Lib.hid hcap
      clear hk ih ht hbig hts hget hkl hcap
      unfold maxLen at hcm
      unfold NodeV
      go_enter Tryd.func17, Tryd.ntmps17
      go_wp2_with fail
      go_loopg [3, 9] t.kids.length (fun gk s i wr => SizeRel w t.kids gk s i wr)
      case atStart => exact ⟨0, by omega, by omega, rfl, by rw [List.take_zero, sizes_nil]; rfl, (Below.refl _ _).alloc (Nat.le_refl _) _⟩
      case round =>
        obtain ⟨k, hk, hgk, rfl, rfl, hbel⟩ := hrel
        have HB := Lib.hid hbel
        have hzw := hbel.size
        have hsl : sizes (t.kids.take k) ≤ 1000000 := by have h1 := sizes_take_le t.kids k; have h2 := HTS.out; have h3 := HBIG.out; omega
        clear hbel
        by_cases hlt : k < t.kids.length
        · obtain ⟨u, hr, hT⟩ := HG.out k t.kids[k] (List.getElem?_eq_getElem hlt)
          have hne := List.getElem?_eq_getElem hlt
          generalize t.kids[k] = tk at hr hT hne
          have HR := Lib.hid (rangeAt_below hr ((HB.out.mono (Nat.le_refl _))) hg)
          have HTK := Lib.hid (hT.below (HB.out))
          have HNE := Lib.hid hne
          have hcap := HCAP.out
          have hks := sizes_mem hne
          clear hr hT hne
          go_wp2_with (first
            | ((with_reducible refine at_ld 39 (.tmp 11) ?_); refine wpList_load_mid rfl 39 (.tmp 11) rfl g (k * 5) rfl (nodeCells tk u) _ HR.out Tryd.underlying39 rfl Tryd.sizeNode ?_)
            | ((with_reducible refine at_st 39 (.tmp 5) ?_); refine wpList_store_new rfl 39 (.tmp 5) (.tmp 12) rfl (nodeCells tk u) (old := zeroNodeCells) rfl rfl Tryd.sizeNode rfl (nodeCells_one _ _ HTK.out.kat.one) ?_)
            | ((with_reducible refine at_ld 39 (.tmp 5) ?_); refine wpList_load_blk rfl 39 (.tmp 5) rfl wr.heap.size (nodeCells tk u) rfl (Blk.new wr _ _) Tryd.underlying39 rfl Tryd.sizeNode ?_))
          refine (HIH.out tk (by have h2 := HTS.out; have h3 := HT.out; omega) (HTK.out.alloc _).kat (by have h2 := HTS.out; have h3 := HBIG.out; omega)).mono ?_
          rintro e w2 ⟨rfl, hb2⟩
          have HB2 := Lib.hid ((HB.out.alloc hzw _).trans (hb2.mono (by simp; omega)))
          have hks2 : tk.size ≤ 1000000 := by have h2 := HTS.out; have h3 := HBIG.out; omega
          clear hb2
          go_wp2
          go_roundg (gk - 1)
          case measure => omega
          case rel =>
            refine ⟨k + 1, by omega, by omega, by go_num, ?_, HB2.out⟩
            rw [sizes_take _ _ _ HNE.out]
            go_num
        · have HE := Lib.hid (show t.kids.take k = t.kids from List.take_of_length_le (by omega))
          go_wp2
          go_ret
          exact ⟨by rw [HTS.out, HE.out]; rfl, HB.out⟩
end

end Go.Proofs.YtdkdidgeaalcgaaDoor
