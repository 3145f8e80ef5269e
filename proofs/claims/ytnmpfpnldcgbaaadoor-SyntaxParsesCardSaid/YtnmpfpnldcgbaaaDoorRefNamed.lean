/- The contract of lychgateref02.named. -/
import Derived.Test.YtnmpfpnldcgbaaaDoorRefExpr
namespace Go.Proofs.YtnmpfpnldcgbaaaDoor
open Go.RowKit

theorem key61 : keySign (bs [61]) = true := by kernel_rfl
theorem named_eq (l : List Tok) : namedP l = bd (nameTermP l) fun n l1 =>
    bif isT (hdT l1) (bs [40]) then bd (parensP termP l1) fun xs l2 => .ok (.mk 20 e0 0 n.place [.mk 28 n.text n.num n.place xs], l2)
    else bif isT (hdT l1) (bs [91]) then bd (termP l1.tail) fun a l2 => bd (expectP [bs [93]] l2) fun _ l3 => bd (expectP [bs [61]] l3) fun _ l4 => bd (termP l4) fun b l5 => .ok (.mk 11 n.text n.num n.place [a, b], l5)
    else bd (expectP [bs [61]] l1) fun _ l2 => bd (exprP l2) fun x l3 => .ok (.mk 10 n.text n.num n.place [x], l3) := by
  unfold namedP nameTermP
  cases nameP l with
  | error e => rfl
  | ok x =>
    obtain ⟨s, l1⟩ := x
    show (bif isT (hdT l1) (bs [40]) then _ else _) = (bif isT (hdT l1) (bs [40]) then _ else _)
    cases h0 : isT (hdT l1) (bs [40]) with
    | true =>
      rw [cond_true, cond_true]
      unfold callP
      rw [rbd_bd]
      rfl
    | false =>
      rw [cond_false, cond_false]
      cases h : isT (hdT l1) (bs [91]) with
      | false => rfl
      | true =>
        rw [cond_true, cond_true]
        unfold indexP
        have e1 : expectP [bs [91]] l1 = .ok (hdT l1, l1.tail) := by unfold expectP; simp [h]
        rw [bd_ok e1, rbd_bd]
        congr 1
        funext a l2
        rw [rbd_bd]
        rfl
/- 'n.Kids = []Node{a, b}', b's block being made just before. -/
theorem RLoc.kidTwo {E : Env} {w W : World} {d : Nat} {l : List Tok} {f : Int} {q g : Nat} {t u u2 : T} {v x x2 : Value} (h : RLoc E w W d l f q g t v) (hu : KAt 31 W u.kids (fun b => w.heap.size < b ∧ b ≠ g) x) (hu2 : KAt 31 W u2.kids (fun b => w.heap.size < b ∧ b ≠ g) x2) :
    RLoc E w (((W.setCell ⟨g, 4, none⟩ (.slice (some ⟨W.heap.size + 1, 0, none⟩) 2 2)).alloc (.cells (nodeCells u2 x2).toArray 31)).alloc (.cells (nodeCells u x ++ nodeCells u2 x2).toArray 31)) d l f q g (t.setKids [u, u2]) (.slice (some ⟨W.heap.size + 1, 0, none⟩) 2 2) := by
  have h1 := h.gt
  have h2 := h.plt
  have h3 := h.tlt
  have h4 := h.lt
  obtain ⟨old, ho, hl⟩ := h.res
  have hk := KAt.lit2 (e := 31) (w := (W.setCell ⟨g, 4, none⟩ (.slice (some ⟨W.heap.size + 1, 0, none⟩) 2 2)).alloc (.cells (nodeCells u2 x2).toArray 31)) (t := u) (u := u2) (S := fun b => w.heap.size < b ∧ b ≠ g) (v := x) (x := x2) (TAt.of_kids ((hu.setCell ⟨g, 4, none⟩ (.slice (some ⟨W.heap.size + 1, 0, none⟩) 2 2) (fun b hb => hb.2)).alloc _)) (TAt.of_kids ((hu2.setCell ⟨g, 4, none⟩ (.slice (some ⟨W.heap.size + 1, 0, none⟩) 2 2) (fun b hb => hb.2)).alloc _)) (by simp only [World.size_alloc, World.size_setCell]; omega)
  rw [show ((W.setCell ⟨g, 4, none⟩ (.slice (some ⟨W.heap.size + 1, 0, none⟩) 2 2)).alloc (.cells (nodeCells u2 x2).toArray 31)).heap.size = W.heap.size + 1 by simp] at hk
  exact ⟨((h.st.far _ _ (by show _ ≠ g; omega) (by show _ ≠ g; omega)).alloc _).alloc _, ((h.kp.setNew (p := ⟨g, 4, none⟩) (by show _ ≤ g; omega) _).alloc _).alloc _, ⟨old, ((ho.setOther _ _ (by show _ ≠ g; omega)).alloc _).alloc _, hl⟩, ((h.blk.setSame 4 _).alloc _).alloc _, hk, h.gt, h.plt, h.tlt⟩

/- A cell of a block that is neither the node's nor the result's is written; the kids lie elsewhere. -/
theorem RLoc.other {E : Env} {w W : World} {d : Nat} {l : List Tok} {f : Int} {q g : Nat} {t : T} {v : Value} (h : RLoc E w W d l f q g t v) (a : Addr) (x : Value) (h1 : w.heap.size < a.block) (h2 : a.block ≠ g) (ht : t.kids = []) (hv : v = .slice none 0 0 := by rfl) : RLoc E w (W.setCell a x) d l f q g t v := by
  have h3 := h.plt
  have h4 := h.tlt
  obtain ⟨old, ho, hl⟩ := h.res
  subst hv
  exact ⟨h.st.far _ _ (by omega) (by omega), h.kp.setNew (by omega) _, ⟨old, ho.setOther _ _ (by omega), hl⟩, h.blk.setOther _ _ (Ne.symm h2), by rw [ht]; exact KAt.nil _ _ _, h.gt, h.plt, h.tlt⟩

set_option maxRecDepth 100000 in
set_option maxHeartbeats 4000000 in
theorem rnamed_tot {E : Env} {w : World} {l : List Tok} {d : Nat} {f : Int} {q : Nat} (h : RSt E w l d f q) :
    Calls Tryd.prog 91 #[.pointer (some ⟨E.pb, 0, none⟩)] w (RTot E w d l f q (namedP l)) := by
  have H := Lib.hid h
  have hplt := h.plt
  have htlt := h.tlt
  have H0 := Lib.hid (h.alloc (.cells zeroNodeCells.toArray 31))
  have HK0 := Lib.hid ((Kp.refl E.pb w).alloc (.cells zeroNodeCells.toArray 31))
  have HBr0 := Lib.hid (Blk.new w zeroNodeCells 31)
  clear h
  go_enter Tryd.func91, Tryd.ntmps91
  go_wp2_with fail
  refine (rname2_tot H0.out).mono ?_
  rintro e w1 ⟨ka, sa, na, pa, l1, f1, q1, rfl, hs1, hp1, hsee1⟩
  have HB1 := Lib.hid (HBr0.out.kp hp1 (by omega))
  have HK1 := Lib.hid (HK0.out.trans hp1)
  have H1 := Lib.hid hs1
  have HS1 := Lib.hid hsee1
  clear hs1 hp1 hsee1
  have RL1 := Lib.hid (RLoc.new (t := (T.mk ka sa na pa [])) (v := (.slice none 0 0)) H1.out HK1.out HB1.out rfl (KAt.nil _ _ _) hplt htlt)
  have hz1 := HB1.out.lt
  go_wp2_with (((with_reducible refine at_st 31 (.tmp 3) ?_); refine wpList_store_new rfl 31 (.tmp 3) (.tmp 11) rfl (nodeCells (T.mk ka sa na pa []) (.slice none 0 0)) (old := zeroNodeCells) rfl rfl Tryd.sizeRef rfl (nodeCells_one _ _ rfl) ?_))
  refine (ris_tot RL1.out.st (bs [40]) key40).mono ?_
  rintro e w2 ⟨rfl, hs2, hp2⟩
  have RL2 := Lib.hid (RL1.out.call hp2 hs2)
  have hz2 : w1.heap.size < w2.heap.size := RL2.out.lt
  clear hs2 hp2
  cases hca : (f1 == 0 && isT (hdT l1) (bs [40])) with
  | true =>
    have hca2 : (f1 == 0) = true ∧ isT (hdT l1) (bs [40]) = true := by simpa using hca
    have HBm := Lib.hid (Blk.new w2 (nodeCells (T.mk ka sa na pa []) (.slice none 0 0)) 31)
    have m0 : (w2.alloc (.cells (nodeCells (T.mk ka sa na pa []) (.slice none 0 0)).toArray 31)).cell? ⟨w2.heap.size, 0, none⟩ = some (.int .i64 ka) := HBm.out.cell 0
    have mf0 := HBm.out.frozen 0
    go_wp2_with (first | ((with_reducible refine at_ld 31 (.tmp 3) ?_); refine wpList_load_node rfl 31 (.tmp 3) rfl w1.heap.size (T.mk ka sa na pa []) (.slice none 0 0) rfl RL2.out.blk Tryd.underlying31 rfl Tryd.sizeRef ?_) | ((with_reducible refine at_st 31 (.tmp 5) ?_); refine wpList_store_new rfl 31 (.tmp 5) (.tmp 15) rfl (nodeCells (T.mk ka sa na pa []) (.slice none 0 0)) (old := zeroNodeCells) rfl rfl Tryd.sizeRef rfl (nodeCells_one _ _ rfl) ?_))
    have RL3 := Lib.hid (RL2.out.alloc (.cells (nodeCells (T.mk 28 sa na pa []) (.slice none 0 0)).toArray 31))
    have HBc := Lib.hid (Blk.new w2 (nodeCells (T.mk 28 sa na pa []) (.slice none 0 0)) 31)
    clear HBm m0 mf0
    refine (rargs_tot RL3.out.st).mono ?_
    rintro e w4 ⟨xs, xv, l4, f4, q4, rfl, hk4, hn4, hs4, hp4, hsee4⟩
    have RL4 := Lib.hid (RL3.out.call hp4 hs4)
    have HC4 := Lib.hid (HBc.out.kp hp4 (by omega))
    have HS4 := Lib.hid hsee4
    have hz4 := HC4.out.lt
    obtain ⟨sa1, sn1, sc1, rfl⟩ := hk4.slice
    have HV4 := Lib.hid (show KAt 31 w4 xs (fun b => (w.heap.size < b ∧ b ≠ w1.heap.size) ∧ b ≠ w2.heap.size) (.slice sa1 sn1 sc1) from (hk4.mono (fun b hb _ => by simp at hb; omega)))
    have hn4b := hn4
    clear hk4 hs4 hp4 hsee4
    have d4 : w4.cell? ⟨w2.heap.size, 4, none⟩ = some (.slice none 0 0) := HC4.out.cell 4
    have df4 := HC4.out.frozen 4
    have n3 : w4.cell? ⟨w1.heap.size, 3, none⟩ = some (.int .i64 (pa : Nat)) := RL4.out.blk.cell 3
    have nf3 := RL4.out.blk.frozen 3
    have hk5 := KAt.lit1 (e := 31) (w := w4.setCell ⟨w2.heap.size, 4, none⟩ (.slice sa1 sn1 sc1)) (t := (T.mk 28 sa na pa xs)) (S := fun b => w.heap.size < b ∧ b ≠ w1.heap.size) ((KAt.tat (HV4.out.setCell ⟨w2.heap.size, 4, none⟩ (.slice sa1 sn1 sc1) (fun b hb => hb.2)) 28 sa na pa).mono (fun b hb _ => hb.1)) (by simp only [World.size_setCell]; omega)
    rw [World.size_setCell] at hk5
    have HK5 := Lib.hid hk5
    clear hk5
    have RL5 := Lib.hid ((RL4.out.other ⟨w2.heap.size, 4, none⟩ (.slice sa1 sn1 sc1) (by show w.heap.size < w2.heap.size; omega) (by show w2.heap.size ≠ w1.heap.size; omega) rfl).alloc (.cells (nodeCells (T.mk 28 sa na pa xs) (.slice sa1 sn1 sc1)).toArray 31))
    obtain ⟨old, hold, hol⟩ := RL5.out.res
    have HOLD := Lib.hid hold
    clear hold
    go_wp2_with (first | ((with_reducible refine at_ld 31 (.tmp 5) ?_); refine wpList_load_node rfl 31 (.tmp 5) rfl w2.heap.size (T.mk 28 sa na pa xs) (.slice sa1 sn1 sc1) rfl (HC4.out.setSame 4 _) Tryd.underlying31 rfl Tryd.sizeRef ?_) | ((with_reducible refine at_st 31 (.tmp 2) ?_); refine wpList_store_blk rfl 31 (.tmp 2) (.tmp 24) rfl w.heap.size (nodeCells (T.mk 20 e0 0 pa [(T.mk 28 sa na pa xs)]) (.slice (some ⟨w4.heap.size, 0, none⟩) 1 1)) rfl rfl HOLD.out Tryd.sizeRef (by rw [hol]; rfl) (nodeCells_one _ _ rfl) ?_))
    exact ret_blk (cs := nodeCells (T.mk 20 e0 0 pa [(T.mk 28 sa na pa xs)]) (.slice (some ⟨w4.heap.size, 0, none⟩) 1 1)) Tryd.results91 rfl HOLD.out Tryd.underlying31 rfl Tryd.sizeRef rfl (RL5.out.totOf (u := (T.mk 20 e0 0 pa [(T.mk 28 sa na pa xs)])) HK5.out (by show 1 ≤ 40000; decide) (by rw [named_eq]; exact HS1.out.andThen (Sees.yes0 hca2.2 (HS4.out.andThen (Sees.done _ _ _ _)))))
  | false =>
    go_wp2_with fail
    refine (rhas_tot RL2.out.st (bs [91]) key91 (by decide)).mono ?_
    rintro e w3 ⟨b3, l3, rfl, hs3, hp3, hc3⟩
    have RL3 := Lib.hid (RL2.out.call hp3 hs3)
    have hz3 : w1.heap.size < w3.heap.size := RL3.out.lt
    clear hs3 hp3
    rcases hc3 with ⟨rfl, hf3, hi3, rfl⟩ | ⟨rfl, hx3, rfl⟩
    · skip
      have n0 : w3.cell? ⟨w1.heap.size, 0, none⟩ = some (.int .i64 ka) := RL3.out.blk.cell 0
      have nf0 := RL3.out.blk.frozen 0
      have RLs := Lib.hid (RL3.out.set 0 (.int .i64 11) (T.mk 11 sa na pa []) rfl rfl)
      go_wp2_with fail
      refine (rterm_tot RLs.out.st).mono ?_
      rintro e w4 ⟨t4, v4, l4, f4, q4, rfl, hk4, hn4, hs4, hp4, hsee4⟩
      have RL4 := Lib.hid (RLs.out.call hp4 hs4)
      have HV4 := Lib.hid (RLs.out.fresh1 hk4)
      have HS4 := Lib.hid hsee4
      have HKB := Lib.hid (Blk.new w4 (nodeCells t4 v4) 31)
      have hz4 : w1.heap.size < w4.heap.size := RL4.out.lt
      clear hk4 hs4 hp4 hsee4 n0 nf0
      unfold NodeV
      go_wp2_with (((with_reducible refine at_st 31 (.tmp 7) ?_); refine wpList_store_new rfl 31 (.tmp 7) (.tmp 30) rfl (nodeCells t4 v4) (old := zeroNodeCells) rfl rfl Tryd.sizeRef rfl (nodeCells_one _ _ HV4.out.one) ?_))
      have RLa := Lib.hid (RL4.out.alloc (.cells (nodeCells t4 v4).toArray 31))
      refine (rmust_tot RLa.out.st (bs [93]) key93 (by decide)).mono ?_
      rintro e w5 ⟨l5, f5, q5, rfl, hs5, hp5, tk5, hsee5⟩
      have RL5 := Lib.hid (RLa.out.call hp5 hs5)
      have HV5 := Lib.hid ((HV4.out.alloc _).kp hp5 (fun b hb => by omega))
      have HA5 := Lib.hid (HKB.out.kp hp5 (by omega))
      have HS5 := Lib.hid hsee5
      clear hs5 hp5 hsee5
      go_wp2_with fail
      refine (rmust_tot RL5.out.st (bs [61]) key61 (by decide)).mono ?_
      rintro e w6 ⟨l6, f6, q6, rfl, hs6, hp6, tk6, hsee6⟩
      have RL6 := Lib.hid (RL5.out.call hp6 hs6)
      have HV6 := Lib.hid (HV5.out.kp hp6 (fun b hb => by omega))
      have HA6 := Lib.hid (HA5.out.kp hp6 (by omega))
      have HS6 := Lib.hid hsee6
      clear hs6 hp6 hsee6
      go_wp2_with fail
      refine (rterm_tot RL6.out.st).mono ?_
      rintro e w7 ⟨t7, v7, l7, f7, q7, rfl, hk7, hn7, hs7, hp7, hsee7⟩
      have RL7 := Lib.hid (RL6.out.call hp7 hs7)
      have HW7 := Lib.hid (RL6.out.fresh1 hk7)
      have HV7 := Lib.hid (HV6.out.kp hp7 (fun b hb => by omega))
      have HA7 := Lib.hid (HA6.out.kp hp7 (by omega))
      have HS7 := Lib.hid hsee7
      have hz7 : w1.heap.size < w7.heap.size := RL7.out.lt
      have hza : w4.heap.size < w7.heap.size := HA7.out.lt
      clear hk7 hs7 hp7 hsee7
      unfold NodeV
      have n4 : w7.cell? ⟨w1.heap.size, 4, none⟩ = some (.slice none 0 0) := RL7.out.blk.cell 4
      have nf4 := RL7.out.blk.frozen 4
      have RLe := Lib.hid (RL7.out.kidTwo HV7.out HW7.out)
      obtain ⟨old, hold, hol⟩ := RLe.out.res
      have HOLD := Lib.hid hold
      clear hold
      go_wp2_with (first | ((with_reducible refine at_st 31 (.tmp 8) ?_); refine wpList_store_new rfl 31 (.tmp 8) (.tmp 36) rfl (nodeCells t7 v7) (old := zeroNodeCells) rfl rfl Tryd.sizeRef rfl (nodeCells_one _ _ HW7.out.one) ?_) | ((with_reducible refine at_ld 31 (.tmp 7) ?_); refine wpList_load_node rfl 31 (.tmp 7) rfl w4.heap.size t4 v4 rfl (HA7.out.alloc _) Tryd.underlying31 rfl Tryd.sizeRef ?_) | ((with_reducible refine at_ld 31 (.tmp 8) ?_); refine wpList_load_node rfl 31 (.tmp 8) rfl w7.heap.size t7 v7 rfl (Blk.new w7 _ _) Tryd.underlying31 rfl Tryd.sizeRef ?_) | ((with_reducible refine at_ld 31 (.tmp 3) ?_); refine wpList_load_node rfl 31 (.tmp 3) rfl w1.heap.size (T.mk 11 sa na pa [t4, t7]) (.slice (some ⟨w7.heap.size + 1, 0, none⟩) 2 2) rfl RLe.out.blk Tryd.underlying31 rfl Tryd.sizeRef ?_) | ((with_reducible refine at_st 31 (.tmp 2) ?_); refine wpList_store_blk rfl 31 (.tmp 2) (.tmp 41) rfl w.heap.size (nodeCells (T.mk 11 sa na pa [t4, t7]) (.slice (some ⟨w7.heap.size + 1, 0, none⟩) 2 2)) rfl rfl HOLD.out Tryd.sizeRef (by rw [hol]; rfl) (nodeCells_one _ _ rfl) ?_))
      exact ret_blk (cs := nodeCells (T.mk 11 sa na pa [t4, t7]) (.slice (some ⟨w7.heap.size + 1, 0, none⟩) 2 2)) Tryd.results91 rfl HOLD.out Tryd.underlying31 rfl Tryd.sizeRef rfl (RLe.out.tot (by show 2 ≤ 40000; decide) (by rw [named_eq]; exact HS1.out.andThen (Sees.no hca (Sees.yes hi3 hf3 (HS4.out.andThen (HS5.out.andThen (HS6.out.andThen (HS7.out.andThen (Sees.done _ _ _ _)))))))))
    · skip
      go_wp2_with fail
      refine (rmust_tot RL3.out.st (bs [61]) key61 (by decide)).mono ?_
      rintro e w4 ⟨l4, f4, q4, rfl, hs4, hp4, tk4, hsee4⟩
      have RL4 := Lib.hid (RL3.out.call hp4 hs4)
      have HS4 := Lib.hid hsee4
      clear hs4 hp4 hsee4
      have n0 : w4.cell? ⟨w1.heap.size, 0, none⟩ = some (.int .i64 ka) := RL4.out.blk.cell 0
      have nf0 := RL4.out.blk.frozen 0
      have RLs := Lib.hid (RL4.out.set 0 (.int .i64 10) (T.mk 10 sa na pa []) rfl rfl)
      go_wp2_with fail
      refine (rexpr_tot RLs.out.st).mono ?_
      rintro e w5 ⟨t5, v5, l5, f5, q5, rfl, hk5, hn5, hs5, hp5, hsee5⟩
      have RL5 := Lib.hid (RLs.out.call hp5 hs5)
      have HV5 := Lib.hid (RLs.out.fresh1 hk5)
      have RLe := Lib.hid (RL5.out.kid1 RLs.out hk5)
      have HS5 := Lib.hid hsee5
      have hz5 : w1.heap.size < w5.heap.size := RL5.out.lt
      clear hk5 hs5 hp5 hsee5 n0 nf0
      unfold NodeV
      have n4 : w5.cell? ⟨w1.heap.size, 4, none⟩ = some (.slice none 0 0) := RL5.out.blk.cell 4
      have nf4 := RL5.out.blk.frozen 4
      obtain ⟨old, hold, hol⟩ := RLe.out.res
      have HOLD := Lib.hid hold
      clear hold
      go_wp2_with (first | ((with_reducible refine at_st 31 (.tmp 9) ?_); refine wpList_store_new rfl 31 (.tmp 9) (.tmp 46) rfl (nodeCells t5 v5) (old := zeroNodeCells) rfl rfl Tryd.sizeRef rfl (nodeCells_one _ _ HV5.out.one) ?_) | ((with_reducible refine at_ld 31 (.tmp 9) ?_); refine wpList_load_node rfl 31 (.tmp 9) rfl w5.heap.size t5 v5 rfl (Blk.new w5 _ _) Tryd.underlying31 rfl Tryd.sizeRef ?_) | ((with_reducible refine at_ld 31 (.tmp 3) ?_); refine wpList_load_node rfl 31 (.tmp 3) rfl w1.heap.size (T.mk 10 sa na pa [t5]) (.slice (some ⟨w5.heap.size + 1, 0, none⟩) 1 1) rfl RLe.out.blk Tryd.underlying31 rfl Tryd.sizeRef ?_) | ((with_reducible refine at_st 31 (.tmp 2) ?_); refine wpList_store_blk rfl 31 (.tmp 2) (.tmp 50) rfl w.heap.size (nodeCells (T.mk 10 sa na pa [t5]) (.slice (some ⟨w5.heap.size + 1, 0, none⟩) 1 1)) rfl rfl HOLD.out Tryd.sizeRef (by rw [hol]; rfl) (nodeCells_one _ _ rfl) ?_))
      exact ret_blk (cs := nodeCells (T.mk 10 sa na pa [t5]) (.slice (some ⟨w5.heap.size + 1, 0, none⟩) 1 1)) Tryd.results91 rfl HOLD.out Tryd.underlying31 rfl Tryd.sizeRef rfl (RLe.out.tot (by show 1 ≤ 40000; decide) (by rw [named_eq]; exact HS1.out.andThen (Sees.no hca (Sees.no hx3 (HS4.out.andThen (HS5.out.andThen (Sees.done _ _ _ _)))))))

end Go.Proofs.YtnmpfpnldcgbaaaDoor
