/- The contract of lychgateref02.typ. number, name, more and is of the document's parser, each in ONE contract for every state. -/
import Derived.Test.YtnmpfpnldcgbaaaDoorRefLoc
namespace Go.Proofs.YtnmpfpnldcgbaaaDoor
section
open Go.RowKit

theorem key123 : keySign (bs [123]) = true := by kernel_rfl
theorem key125 : keySign (bs [125]) = true := by kernel_rfl
theorem key59 : keySign (bs [59]) = true := by kernel_rfl
theorem keyWhere : keySign (bs [119, 104, 101, 114, 101]) = true := by kernel_rfl
theorem typ_eq (p : Nat) (l : List Tok) : typeP p l = bd (nameTermP l) fun n l1 => bd (sortP l1) fun a l2 => bd (fieldsP l2) fun ys l3 => bd (factsP l3) fun zs l4 => bd (expectP [bs [59]] l4) fun _ l5 => .ok (.mk 1 n.text n.num p (a :: (ys ++ zs)), l5) := by
  unfold typeP nameTermP
  cases nameP l with
  | error e => rfl
  | ok x => rfl

theorem RLoc.new {E : Env} {w W : World} {d : Nat} {l : List Tok} {f : Int} {q : Nat} {t : T} {v : Value} {old : List Value} (hs : RSt E W l d f q) (hk : Kp E.pb w W) (hr : Blk W w.heap.size old 31) (ho : old.length = 5) (hv : KAt 31 W t.kids (fun b => w.heap.size < b) v) (hp : E.pb < w.heap.size) (ht : E.tb < w.heap.size) :
    RLoc E w (W.alloc (.cells (nodeCells t v).toArray 31)) d l f q W.heap.size t v :=
  ⟨hs.alloc _, hk.alloc _, ⟨old, hr.alloc _, ho⟩, Blk.new W _ _, (hv.mono (fun b hb hl => by omega)).alloc _, hr.lt, hp, ht⟩
/- 'n.Kids = []Node{k}' behind 'k := ..'. -/
theorem RLoc.kid1 {E : Env} {w W0 W : World} {d : Nat} {l l0 : List Tok} {f f0 : Int} {q q0 g : Nat} {t u : T} {v v0 x : Value} (h : RLoc E w W d l f q g t v) (h0 : RLoc E w W0 d l0 f0 q0 g t v0) (hu : KAt 31 W u.kids (fun b => W0.heap.size ≤ b) x) :
    RLoc E w (((W.setCell ⟨g, 4, none⟩ (.slice (some ⟨W.heap.size + 1, 0, none⟩) 1 1)).alloc (.cells (nodeCells u x).toArray 31)).alloc (.cells (nodeCells u x).toArray 31)) d l f q g (t.setKids [u]) (.slice (some ⟨W.heap.size + 1, 0, none⟩) 1 1) := by
  have h1 := h.gt
  have h2 := h.plt
  have h3 := h.tlt
  have h4 := h.lt
  obtain ⟨old, ho, hl⟩ := h.res
  have hx := h0.fresh1 hu
  have hk := KAt.lit1 (e := 31) (w := (W.setCell ⟨g, 4, none⟩ (.slice (some ⟨W.heap.size + 1, 0, none⟩) 1 1)).alloc (.cells (nodeCells u x).toArray 31)) (t := u) (S := fun b => w.heap.size < b ∧ b ≠ g) (TAt.of_kids ((hx.setCell ⟨g, 4, none⟩ (.slice (some ⟨W.heap.size + 1, 0, none⟩) 1 1) (fun b hb => hb.2)).alloc _)) (by simp only [World.size_alloc, World.size_setCell]; omega)
  rw [show ((W.setCell ⟨g, 4, none⟩ (.slice (some ⟨W.heap.size + 1, 0, none⟩) 1 1)).alloc (.cells (nodeCells u x).toArray 31)).heap.size = W.heap.size + 1 by simp] at hk
  exact ⟨((h.st.far _ _ (by show _ ≠ g; omega) (by show _ ≠ g; omega)).alloc _).alloc _, ((h.kp.setNew (p := ⟨g, 4, none⟩) (by show _ ≤ g; omega) _).alloc _).alloc _, ⟨old, ((ho.setOther _ _ (by show _ ≠ g; omega)).alloc _).alloc _, hl⟩, ((h.blk.setSame 4 _).alloc _).alloc _, hk, h.gt, h.plt, h.tlt⟩

/- A loop that reads items with commas between and lays them behind n's kids: the flag tells whether another one is to be read. -/
def LoopRel (E : Env) (w : World) (d : Nat) (l2 : List Tok) (f2 : Int) (q2 : Nat) (gn : Nat) (t0 : T) (item : List Tok → R T) (fin : List T → List Tok → R (List T)) (total : R (List T)) (g : Nat) (op : Value) (wr : World) : Prop :=
  ∃ b ks v lc fc qc, op = .bool b ∧ RLoc E w wr d lc fc qc gn (t0.setKids (t0.kids ++ ks)) v ∧ ks.length + g ≤ 16500 ∧
    (b = true → (fc == 0) = true ∧ lc.length + 1 ≤ g ∧ ∃ N : List Tok → Nat, (∀ l', l'.length ≤ lc.length → l'.length ≤ N l') ∧
      ∀ ys lf f' q', Sees lc fc qc (bd (item lc) fun a l => bd (listF item (N l) l) fun xs l => fin (a :: xs) l) ys lf f' q' → Sees l2 f2 q2 total (ks ++ ys) lf f' q') ∧
    (b = false → Sees l2 f2 q2 total ks lc fc qc)

theorem rbd_bd {α β γ : Type} (r : R α) (k : α → List Tok → R β) (m : β → List Tok → R γ) : bd (bd r k) m = bd r fun a l => bd (k a l) m := by
  cases r with
  | error e => rfl
  | ok x => rfl
theorem item_more {item : List Tok → R T} {fin : List T → List Tok → R (List T)} (hfin : ∀ a xs l, fin (a :: xs) l = bd (fin xs l) fun ys l => .ok (a :: ys, l)) {m : Nat} {l : List Tok} {t : T} (h : isT (hdT l) (bs [44]) = true) :
    (bd (listF item (m + 1) l) fun xs l => fin (t :: xs) l) = bd (bd (item l.tail) fun a l => bd (listF item m l) fun xs l => fin (a :: xs) l) fun ys l => .ok (t :: ys, l) := by
  rw [rlistF_yes h, rbd_bd, rbd_bd]
  congr 1
  funext a l1
  rw [rbd_bd, rbd_bd]
  congr 1
  funext xs l2
  exact hfin t (a :: xs) l2
theorem setKids_kids (t : T) (ks : List T) : (t.setKids ks).kids = ks := rfl
theorem setKids_setKids (t : T) (ks js : List T) : (t.setKids ks).setKids js = t.setKids js := rfl

theorem lit1_two (W : World) (o : Obj) (e : TypeId) (t : T) (v : Value) : ∀ j u, (rowCells [t] [v])[j]? = some u → ((W.alloc o).alloc (.cells (nodeCells t v).toArray e)).cell? ((⟨W.heap.size + 1, 0, none⟩ : Addr).add j) = some u := by
  have h := lit1_at (W.alloc o) e t v
  rw [World.size_alloc] at h
  exact h

def finField (xs : List T) (l : List Tok) : R (List T) := bd (expectP [bs [125]] l) fun _ l => .ok (xs, l)
def finFact (xs : List T) (l : List Tok) : R (List T) := .ok (xs, l)
theorem finField_cons (a : T) (xs : List T) (l : List Tok) : finField (a :: xs) l = bd (finField xs l) fun ys l => .ok (a :: ys, l) := by
  unfold finField
  rw [rbd_bd]
  rfl
theorem finFact_cons (a : T) (xs : List T) (l : List Tok) : finFact (a :: xs) l = bd (finFact xs l) fun ys l => .ok (a :: ys, l) := rfl
theorem fields_yes {l : List Tok} (h : isT (hdT l) (bs [123]) = true) : fieldsP l = bd (fieldP l.tail) fun a l => bd (listF fieldP l.length l) fun xs l => finField (a :: xs) l := by
  unfold fieldsP listP finField
  rw [h, cond_true, rbd_bd]
  congr 1
  funext a l1
  rw [rbd_bd]
  rfl
theorem facts_yes {l : List Tok} (h : isT (hdT l) (bs [119, 104, 101, 114, 101]) = true) : factsP l = bd (factP l.tail) fun a l => bd (listF factP l.length l) fun xs l => finFact (a :: xs) l := by
  unfold factsP listP finFact
  rw [h, cond_true]

set_option maxRecDepth 100000 in
set_option maxHeartbeats 4000000 in
theorem rtyp_tot {E : Env} {w : World} {l : List Tok} {d : Nat} {f : Int} {q : Nat} (h : RSt E w l d f q) (p : Nat) :
    Calls Tryd.prog 37 #[.pointer (some ⟨E.pb, 0, none⟩), .int .i64 p] w (RTot E w d l f q (typeP p l)) := by
  have H := Lib.hid h
  have hplt := h.plt
  have htlt := h.tlt
  have hlen := h.len
  have H0 := Lib.hid (h.alloc (.cells zeroNodeCells.toArray 31))
  have HK0 := Lib.hid ((Kp.refl E.pb w).alloc (.cells zeroNodeCells.toArray 31))
  have HBr0 := Lib.hid (Blk.new w zeroNodeCells 31)
  clear h
  obtain ⟨i0, z0, I⟩ := Tryd.refInfo
  go_enter Tryd.func37, Tryd.ntmps37
  go_wp2_with fail
  refine (rname_tot H0.out).mono ?_
  rintro e w1 ⟨t1, v1, l1, f1, q1, rfl, hk1, hn1, hs1, hp1, hsee1⟩
  have HB1 := Lib.hid (HBr0.out.kp hp1 (by omega))
  have HV1 := Lib.hid (show KAt 31 w1 t1.kids (fun b => w.heap.size < b) v1 from hk1.mono (fun b hb _ => by simp at hb; omega))
  have HK1 := Lib.hid (HK0.out.trans hp1)
  have H1 := Lib.hid hs1
  have HS1 := Lib.hid hsee1
  have hz1 := HB1.out.lt
  have HBm0 := Lib.hid (Blk.new w1 (nodeCells t1 v1) 31)
  have n0 : (w1.alloc (.cells (nodeCells t1 v1).toArray 31)).cell? ⟨w1.heap.size, 0, none⟩ = some (.int .i64 t1.kind) := HBm0.out.cell 0
  have nf0 := HBm0.out.frozen 0
  clear hk1 hs1 hp1 hsee1
  unfold NodeV
  go_wp2_with (((with_reducible refine at_st 31 (.tmp 5) ?_); refine wpList_store_new rfl 31 (.tmp 5) (.tmp 12) rfl (nodeCells t1 v1) (old := zeroNodeCells) rfl rfl Tryd.sizeRef rfl (nodeCells_one _ _ HV1.out.one) ?_))
  clear n0 nf0 HBm0
  have RL1 := Lib.hid (RLoc.new (t := T.mk 1 t1.text t1.num p t1.kids) (v := v1) H1.out HK1.out HB1.out rfl HV1.out hplt htlt)
  refine (rsort_tot RL1.out.st).mono ?_
  rintro e w2 ⟨t2, v2, l2, f2, q2, rfl, hk2, hn2, hs2, hp2, hsee2⟩
  have RL2 := Lib.hid (RL1.out.call hp2 hs2)
  have HV2 := Lib.hid hk2
  have HS2 := Lib.hid hsee2
  have RK2 := Lib.hid (RL2.out.kid1 RL1.out hk2)
  have hl2 := hs2.le
  have n4 : w2.cell? ⟨w1.heap.size, 4, none⟩ = some v1 := RL2.out.blk.cell 4
  have nf4 := RL2.out.blk.frozen 4
  have hz2 : w1.heap.size < w2.heap.size := RL2.out.lt
  clear hk2 hs2 hp2 hsee2
  unfold NodeV
  go_wp2_with (first | ((with_reducible refine at_st 31 (.tmp 6) ?_); refine wpList_store_new rfl 31 (.tmp 6) (.tmp 17) rfl (nodeCells t2 v2) (old := zeroNodeCells) rfl rfl Tryd.sizeRef rfl (nodeCells_one _ _ HV2.out.one) ?_) | ((with_reducible refine at_ld 31 (.tmp 6) ?_); refine wpList_load_node rfl 31 (.tmp 6) rfl w2.heap.size t2 v2 rfl (Blk.new w2 _ _) Tryd.underlying31 rfl Tryd.sizeRef ?_))
  clear n4 nf4
  refine (rhas_tot RK2.out.st (bs [123]) key123 (by decide)).mono ?_
  rintro e w3 ⟨b3, l3, rfl, hs3, hp3, hc3⟩
  have RL3 := Lib.hid (RK2.out.call hp3 hs3)
  have HC3 := Lib.hid hc3
  clear hs3 hp3 hc3
  generalize hTN : (T.mk 1 t1.text t1.num p t1.kids).setKids [t2] = tn at *
  have HTN := Lib.hid hTN
  have HTK : Hid (tn.kids = [t2]) := Lib.hid (by rw [← hTN]; rfl)
  clear hTN
  have HTS : Hid (tn.setKids (tn.kids ++ []) = tn) := Lib.hid (by rw [List.append_nil]; cases tn; rfl)
  go_wp2_with fail
  go_loopg [7] (l2.length + 2) (fun g op wr => LoopRel E w d l2 f2 q2 w1.heap.size tn fieldP finField (fieldsP l2) g op wr)
  case atStart =>
    rcases HC3.out with ⟨rfl, hfy, hiy, rfl⟩ | ⟨rfl, hxy, rfl⟩
    · refine ⟨true, [], _, _, _, _, rfl, by rw [HTS.out]; exact RL3.out, by simp; omega, fun _ => ⟨hfy, by rw [List.length_tail]; omega, fun l => l.length, fun l' _ => Nat.le_refl _, fun ys lf f' q' hy => ?_⟩, fun h => by cases h⟩
      rw [List.nil_append]
      exact Sees.turn (fun _ => fields_yes hiy) (Sees.behind hfy hy)
    · refine ⟨false, [], _, _, _, _, rfl, by rw [HTS.out]; exact RL3.out, by simp; omega, fun h => (by cases h), fun _ => ?_⟩
      exact Sees.no hxy (Sees.done _ _ _ _)
  case round =>
    obtain ⟨b, ks, v, lc, fc, qc, rfl, hrl, hcnt, hyes, hno⟩ := hrel
    have RL := Lib.hid hrl
    have HY := Lib.hid hyes
    have HN := Lib.hid hno
    clear hrl hyes hno
    cases b
    · have HSF := Lib.hid (HN.out rfl)
      clear HY HN
      go_wp2_with fail
      refine (rhas_tot RL.out.st (bs [119, 104, 101, 114, 101]) keyWhere (by decide)).mono ?_
      rintro e w4 ⟨b4, l4, rfl, hs4, hp4, hc4⟩
      have RLW := Lib.hid (RL.out.call hp4 hs4)
      have HC4 := Lib.hid hc4
      have hlcz := RL.out.st.le
      clear hs4 hp4 hc4
      generalize hTM : tn.setKids (tn.kids ++ ks) = tm at *
      have HTM := Lib.hid hTM
      have HTMK : Hid (tm.kids = t2 :: ks) := Lib.hid (by rw [← hTM, setKids_kids, HTK.out]; rfl)
      clear hTM
      have HTMS : Hid (tm.setKids (tm.kids ++ []) = tm) := Lib.hid (by rw [List.append_nil]; cases tm; rfl)
      go_wp2_with fail
      go_loopg [9] (lc.length + 2) (fun g op wr => LoopRel E w d lc fc qc w1.heap.size tm factP finFact (factsP lc) g op wr)
      case atStart =>
        rcases HC4.out with ⟨rfl, hfy, hiy, rfl⟩ | ⟨rfl, hxy, rfl⟩
        · refine ⟨true, [], _, _, _, _, rfl, by rw [HTMS.out]; exact RLW.out, by simp; omega, fun _ => ⟨hfy, by rw [List.length_tail]; omega, fun l => l.length, fun l' _ => Nat.le_refl _, fun ys lf f' q' hy => ?_⟩, fun h => by cases h⟩
          rw [List.nil_append]
          exact Sees.turn (fun _ => facts_yes hiy) (Sees.behind hfy hy)
        · refine ⟨false, [], _, _, _, _, rfl, by rw [HTMS.out]; exact RLW.out, by simp; omega, fun h => (by cases h), fun _ => ?_⟩
          exact Sees.no hxy (Sees.done _ _ _ _)
      case round =>
        rename World => wq
        obtain ⟨b, js, x, ld, fd, qd, rfl, hrl, hcnt2, hyes, hno⟩ := hrel
        have RM := Lib.hid hrl
        have HY := Lib.hid hyes
        have HN := Lib.hid hno
        clear hrl hyes hno
        cases b
        · have HSG := Lib.hid (HN.out rfl)
          clear HY HN
          go_wp2_with fail
          refine (rmust_tot RM.out.st (bs [59]) key59 (by decide)).mono ?_
          rintro e w6 ⟨l6, f6, q6, rfl, hs6, hp6, tk6, hsee6⟩
          have RN6 := Lib.hid (RM.out.call hp6 hs6)
          have HS6 := Lib.hid hsee6
          obtain ⟨old, hold, hol⟩ := RN6.out.res
          have HOLD := Lib.hid hold
          clear hs6 hp6 hsee6 hold
          go_wp2_with (first | ((with_reducible refine at_ld 31 (.tmp 5) ?_); refine wpList_load_node rfl 31 (.tmp 5) rfl w1.heap.size (tm.setKids (tm.kids ++ js)) x rfl RN6.out.blk Tryd.underlying31 rfl Tryd.sizeRef ?_) | ((with_reducible refine at_st 31 (.tmp 4) ?_); refine wpList_store_blk rfl 31 (.tmp 4) (.tmp 53) rfl w.heap.size (nodeCells (tm.setKids (tm.kids ++ js)) x) rfl rfl HOLD.out Tryd.sizeRef (by rw [hol]; rfl) (nodeCells_one _ _ RN6.out.kids.one) ?_))
          exact ret_blk (cs := nodeCells (tm.setKids (tm.kids ++ js)) x) Tryd.results37 rfl HOLD.out Tryd.underlying31 rfl Tryd.sizeRef rfl (RN6.out.tot (by rw [setKids_kids, HTMK.out]; simp; omega) (by
            rw [typ_eq, ← HTM.out, ← HTN.out]
            simp only [setKids_kids, setKids_setKids]
            exact HS1.out.andThen (HS2.out.andThen (HSF.out.andThen (HSG.out.andThen (HS6.out.andThen (Sees.done _ _ _ _)))))))
        · obtain ⟨hf0, hg, N, hN, hcont⟩ := HY.out rfl
          have HNN := Lib.hid hN
          have HCO := Lib.hid hcont
          have hpos := RM.out.st.head.1
          clear hN hcont
          go_wp2_with fail
          refine (rfact_tot RM.out.st).mono ?_
          rintro e w5 ⟨t5, v5, l5, f5, q5, rfl, hk5, hn5, hs5, hp5, hsee5⟩
          have RL5 := Lib.hid (RM.out.call hp5 hs5)
          have HV5 := Lib.hid (RM.out.fresh hk5)
          have HS5 := Lib.hid hsee5
          have hz5 : w1.heap.size < w5.heap.size := RL5.out.lt
          have hz5w : w.heap.size < w1.heap.size := RL5.out.gt
          have n4 : w5.cell? ⟨w1.heap.size, 4, none⟩ = some x := RL5.out.blk.cell 4
          clear hk5 hs5 hp5 hsee5
          unfold NodeV
          go_wp2_with (first | ((with_reducible refine at_st 31 (.tmp 10) ?_); refine wpList_store_new rfl 31 (.tmp 10) (.tmp 42) rfl (nodeCells t5 v5) (old := zeroNodeCells) rfl rfl Tryd.sizeRef rfl (nodeCells_one _ _ HV5.out.one) ?_) | ((with_reducible refine at_ld 31 (.tmp 10) ?_); refine wpList_load_node rfl 31 (.tmp 10) rfl w5.heap.size t5 v5 rfl (Blk.new w5 _ _) Tryd.underlying31 rfl Tryd.sizeRef ?_) | (at_builtin; refine wpList_append_trees rfl (.tmp 44) (.tmp 46) rfl I (ks := tm.kids ++ js) (ts := [t5]) (S := fun b => w.heap.size < b ∧ b ≠ w1.heap.size) rfl ((RL5.out.alloc _).alloc _).kids (us := [v5]) (TsAt.single ?c1) ?c2 rfl rfl (by simp) (lit1_two w5 _ _ t5 v5) ?c3 ?_))
          case c1 => exact TAt.of_kids ((HV5.out.alloc _).alloc _)
          case c2 => simp only [World.size_alloc]; omega
          case c3 => rw [HTMK.out]; simp; omega
          intro v6 w6 hK6 hg6 hb6
          obtain ⟨sa, sn, sc, rfl⟩ := hK6.slice
          obtain ⟨ha1, ha2, ha3, ha4⟩ := ((RL5.out.alloc _).alloc _).after hK6 hg6
          have RL6 := Lib.hid ha1
          clear ha1 hK6 hg6 hb6 n4
          go_wp2_with fail
          refine (rhas_tot RL6.out.st (bs [44]) key44 (by decide)).mono ?_
          rintro e w7 ⟨b7, l7, rfl, hs7, hp7, hc7⟩
          have RL7 := Lib.hid (RL6.out.call hp7 hs7)
          clear hs7 hp7 ha2 ha3
          simp only [setKids_setKids] at RL7
          go_wp2_with fail
          go_roundg (gk - 1)
          case measure => omega
          case rel =>
            rcases hc7 with ⟨rfl, hf7, hi7, rfl⟩ | ⟨rfl, hx7, rfl⟩
            · have hlen5 := HS5.out.len (beq_iff_eq.1 hf7)
              obtain ⟨m, hm⟩ : ∃ m, N l5 = m + 1 := ⟨N l5 - 1, by have := HNN.out l5 hlen5; have := RL5.out.st.head.1; omega⟩
              have hnl := HNN.out l5 hlen5
              refine ⟨true, js ++ [t5], _, _, _, _, rfl, RL7.out, by simp; omega, fun _ => ⟨hf7, by rw [List.length_tail]; have := RL5.out.st.head.1; omega, fun _ => m, fun l' hl' => by rw [List.length_tail] at hl'; show l'.length ≤ m; omega, fun ys lf f' q' hy => ?_⟩, fun h => by cases h⟩
              have := HCO.out (t5 :: ys) lf f' q' (HS5.out.andThen (by rw [hm, item_more finFact_cons hi7]; exact (Sees.behind hf7 hy).andThen (Sees.done _ _ _ _)))
              rw [List.append_assoc]
              exact this
            · refine ⟨false, js ++ [t5], _, _, _, _, rfl, RL7.out, by simp; omega, fun h => (by cases h), fun _ => ?_⟩
              exact HCO.out [t5] _ _ _ (HS5.out.andThen ((Sees.turn (fun hf => rlistF_no (by have := HNN.out _ (HS5.out.len (beq_iff_eq.1 hf)); have := RL5.out.st.head.1; omega) (no_is hx7 hf)) (Sees.done _ _ _ _)).andThen (Sees.done _ _ _ _)))
    · obtain ⟨hf0, hg, N, hN, hcont⟩ := HY.out rfl
      have HNN := Lib.hid hN
      have HCO := Lib.hid hcont
      have hpos := RL.out.st.head.1
      clear hN hcont
      go_wp2_with fail
      refine (rfield_tot RL.out.st).mono ?_
      rintro e w5 ⟨t5, v5, l5, f5, q5, rfl, hk5, hn5, hs5, hp5, hsee5⟩
      have RL5 := Lib.hid (RL.out.call hp5 hs5)
      have HV5 := Lib.hid (RL.out.fresh hk5)
      have HS5 := Lib.hid hsee5
      have hz5 : w1.heap.size < w5.heap.size := RL5.out.lt
      have hz5w : w.heap.size < w1.heap.size := RL5.out.gt
      have n4 : w5.cell? ⟨w1.heap.size, 4, none⟩ = some v := RL5.out.blk.cell 4
      clear hk5 hs5 hp5 hsee5
      unfold NodeV
      go_wp2_with (first | ((with_reducible refine at_st 31 (.tmp 8) ?_); refine wpList_store_new rfl 31 (.tmp 8) (.tmp 25) rfl (nodeCells t5 v5) (old := zeroNodeCells) rfl rfl Tryd.sizeRef rfl (nodeCells_one _ _ HV5.out.one) ?_) | ((with_reducible refine at_ld 31 (.tmp 8) ?_); refine wpList_load_node rfl 31 (.tmp 8) rfl w5.heap.size t5 v5 rfl (Blk.new w5 _ _) Tryd.underlying31 rfl Tryd.sizeRef ?_) | (at_builtin; refine wpList_append_trees rfl (.tmp 27) (.tmp 29) rfl I (ks := tn.kids ++ ks) (ts := [t5]) (S := fun b => w.heap.size < b ∧ b ≠ w1.heap.size) rfl ((RL5.out.alloc _).alloc _).kids (us := [v5]) (TsAt.single ?c1) ?c2 rfl rfl (by simp) (lit1_two w5 _ _ t5 v5) ?c3 ?_))
      case c1 => exact TAt.of_kids ((HV5.out.alloc _).alloc _)
      case c2 => simp only [World.size_alloc]; omega
      case c3 => rw [HTK.out]; simp; omega
      intro v6 w6 hK6 hg6 hb6
      obtain ⟨sa, sn, sc, rfl⟩ := hK6.slice
      obtain ⟨ha1, ha2, ha3, ha4⟩ := ((RL5.out.alloc _).alloc _).after hK6 hg6
      have RL6 := Lib.hid ha1
      clear ha1 hK6 hg6 hb6 n4
      go_wp2_with fail
      refine (rhas_tot RL6.out.st (bs [44]) key44 (by decide)).mono ?_
      rintro e w7 ⟨b7, l7, rfl, hs7, hp7, hc7⟩
      have RL7 := Lib.hid (RL6.out.call hp7 hs7)
      clear hs7 hp7 ha2 ha3
      simp only [setKids_setKids] at RL7
      rcases hc7 with ⟨rfl, hf7, hi7, rfl⟩ | ⟨rfl, hx7, rfl⟩
      · go_wp2_with fail
        go_roundg (gk - 1)
        case measure => omega
        case rel =>
          have hlen5 := HS5.out.len (beq_iff_eq.1 hf7)
          obtain ⟨m, hm⟩ : ∃ m, N l5 = m + 1 := ⟨N l5 - 1, by have := HNN.out l5 hlen5; have := RL5.out.st.head.1; omega⟩
          have hnl := HNN.out l5 hlen5
          refine ⟨true, ks ++ [t5], _, _, _, _, rfl, RL7.out, by simp; omega, fun _ => ⟨hf7, by rw [List.length_tail]; have := RL5.out.st.head.1; omega, fun _ => m, fun l' hl' => by rw [List.length_tail] at hl'; show l'.length ≤ m; omega, fun ys lf f' q' hy => ?_⟩, fun h => by cases h⟩
          have := HCO.out (t5 :: ys) lf f' q' (HS5.out.andThen (by rw [hm, item_more finField_cons hi7]; exact (Sees.behind hf7 hy).andThen (Sees.done _ _ _ _)))
          rw [List.append_assoc]
          exact this
      · go_wp2_with fail
        refine (rmust_tot RL7.out.st (bs [125]) key125 (by decide)).mono ?_
        rintro e w8 ⟨l8, f8, q8, rfl, hs8, hp8, tk8, hsee8⟩
        have RL8 := Lib.hid (RL7.out.call hp8 hs8)
        have HS8 := Lib.hid hsee8
        clear hs8 hp8 hsee8
        go_wp2_with fail
        go_roundg (gk - 1)
        case measure => omega
        case rel =>
          refine ⟨false, ks ++ [t5], _, _, _, _, rfl, RL8.out, by simp; omega, fun h => (by cases h), fun _ => ?_⟩
          exact HCO.out [t5] _ _ _ (HS5.out.andThen ((Sees.turn (fun hf => rlistF_no (by have := HNN.out _ (HS5.out.len (beq_iff_eq.1 hf)); have := RL5.out.st.head.1; omega) (no_is hx7 hf)) (Sees.done _ _ _ _)).andThen (HS8.out.andThen (Sees.done _ _ _ _))))
end

section
open Go.RowKit

def RNum (E : Env) (w : World) (d : Nat) (l : List Tok) (f : Int) (q : Nat) (e : Ending) (w' : World) : Prop :=
  ∃ v lf f' q', e = .returned (.int .i64 v) ∧ RSt E w' lf d f' q' ∧ Kp E.pb w w' ∧ Sees l f q (numberP l) v lf f' q'
theorem rnumber_tot {E : Env} {w : World} {l : List Tok} {d : Nat} {f : Int} {q : Nat} (h : RSt E w l d f q) :
    Calls Tryd.prog 89 #[.pointer (some ⟨E.pb, 0, none⟩)] w (RNum E w d l f q) := by
  cases hf : (f == 0) with
  | false => exact (rnumber_bad h hf).mono fun _ _ ⟨he, hb⟩ => ⟨_, l, f, q, he, h.below hb, Kp.of_below hb, .inr ⟨hf, rfl, rfl, rfl⟩⟩
  | true =>
    have e : f = 0 := beq_iff_eq.1 hf
    subst e
    cases hk : ((hdT l).kind == 3) with
    | true =>
      have e1 : numberP l = .ok (((hdT l).num : Int), l.tail) := by unfold numberP kindP; rw [hk]; rfl
      exact (rnumber_ok h hk).mono fun _ _ ⟨he, h2, h3⟩ => ⟨_, l.tail, 0, q, he, h2, h3, .inl ⟨rfl, .inl ⟨_, e1, rfl, rfl, rfl, by rw [List.length_tail]; omega⟩⟩⟩
    | false =>
      have e1 : numberP l = .error ((hdT l).place, 20) := by unfold numberP kindP; rw [hk]; rfl
      exact (rnumber_no h hk).mono fun _ _ ⟨he, h2, h3⟩ => ⟨_, l, 20, _, he, h2, h3, .inl ⟨rfl, .inr ⟨_, _, e1, rfl, rfl, rfl⟩⟩⟩

/- name, with what it hands back: a node without kids. -/
def RName (E : Env) (w : World) (d : Nat) (l : List Tok) (f : Int) (q : Nat) (e : Ending) (w' : World) : Prop :=
  ∃ k s n p lf f' q', e = .returned (.agg #[.int .i64 k, .string s, .int .i64 n, .int .i64 (p : Nat), .slice none 0 0]) ∧ RSt E w' lf d f' q' ∧ Kp E.pb w w' ∧ Sees l f q (nameTermP l) (T.mk k s n p []) lf f' q'
theorem rname2_tot {E : Env} {w : World} {l : List Tok} {d : Nat} {f : Int} {q : Nat} (h : RSt E w l d f q) :
    Calls Tryd.prog 55 #[.pointer (some ⟨E.pb, 0, none⟩)] w (RName E w d l f q) := by
  cases hf : (f == 0) with
  | false => exact (rname_bad h hf).mono fun _ _ ⟨he, hb⟩ => ⟨0, e0, 0, 0, l, f, q, he, h.below hb, Kp.of_below hb, .inr ⟨hf, rfl, rfl, rfl⟩⟩
  | true =>
    have e : f = 0 := beq_iff_eq.1 hf
    subst e
    cases hk : ((hdT l).kind == 1) with
    | true =>
      have e1 : nameTermP l = .ok (.mk 5 (hdT l).text 0 (hdT l).place [], l.tail) := by unfold nameTermP nameP kindP; rw [hk]; rfl
      exact (rname_ok h hk).mono fun _ _ ⟨he, h2, h3⟩ => ⟨5, _, 0, _, l.tail, 0, q, he, h2, h3, .inl ⟨rfl, .inl ⟨_, e1, rfl, rfl, rfl, by rw [List.length_tail]; omega⟩⟩⟩
    | false =>
      have e1 : nameTermP l = .error ((hdT l).place, 20) := by unfold nameTermP nameP kindP; rw [hk]; rfl
      exact (rname_no h hk).mono fun _ _ ⟨he, h2, h3⟩ => ⟨0, e0, 0, 0, l, 20, _, he, h2, h3, .inl ⟨rfl, .inr ⟨_, _, e1, rfl, rfl, rfl⟩⟩⟩

theorem more_kids {t : T} {l : List Tok} {u : T} {l0 : List Tok} (ht : t.kids = []) (h : moreP t l = .ok (u, l0)) : u.kids.length ≤ 40000 := by
  unfold moreP sumK at h
  split at h
  · cases h
    rw [ht]
    simp
  · unfold bd at h
    split at h
    · cases h
    · cases h
      rw [setNum_kids, ht]
      simp
theorem rmore_tot {E : Env} {w : World} {l : List Tok} {d : Nat} {f : Int} {q : Nat} (h : RSt E w l d f q) (t : T) (ht : t.kids = []) :
    Calls Tryd.prog 92 #[.pointer (some ⟨E.pb, 0, none⟩), NodeV t (.slice none 0 0)] w (RTot E w d l f q (moreP t l)) := by
  cases hf : (f == 0) with
  | true =>
    have e : f = 0 := beq_iff_eq.1 hf
    subst e
    exact (rmore_any h t ht).mono fun _ _ hp => hp.tot fun u l0 hr => more_kids ht hr
  | false => exact (rmore_bad h hf t ht).mono fun _ _ hp => hp.tot h hf

theorem ris_tot {E : Env} {w : World} {l : List Tok} {d : Nat} {f : Int} {q : Nat} (h : RSt E w l d f q) (s : ByteArray) (hs : keySign s = true) :
    Calls Tryd.prog 54 #[.pointer (some ⟨E.pb, 0, none⟩), .string s] w fun e w' => e = .returned (.bool (f == 0 && isT (hdT l) s)) ∧ RSt E w' l d f q ∧ Kp E.pb w w' :=
  (ris_any h s hs).mono fun _ _ ⟨he, hb⟩ => ⟨he, h.below hb, Kp.of_below hb⟩
end

end Go.Proofs.YtnmpfpnldcgbaaaDoor
