/- The ways 'if' and the one that begins with a name, of lychgateref02.stmt. -/
import Derived.Test.YtnmpfpnldcgbaaaDoorRefStmt2
namespace Go.Proofs.YtnmpfpnldcgbaaaDoor
open Go.RowKit

/- A whole row of another block is written: none of the kids lies in it. -/
theorem RLoc.rowFar {E : Env} {w W : World} {d : Nat} {l : List Tok} {f : Int} {q g : Nat} {t : T} {v : Value} (h : RLoc E w W d l f q g t v) (go : Nat) (h1 : w.heap.size < go) (h2 : go ≠ g) (hk : KAt 31 W t.kids (fun b => (w.heap.size < b ∧ b ≠ g) ∧ b < go) v) (cs : Array Value) : RLoc E w (W.setRow go cs) d l f q g t v := by
  have hp := h.plt
  have ht := h.tlt
  obtain ⟨old, ho, hl⟩ := h.res
  exact ⟨h.st.putRow _ _ (by omega) (by omega), h.kp.setRow (by omega) _, ⟨old, ho.rowOther _ _ (by omega), hl⟩, h.blk.rowOther _ _ (by omega), (hk.setRow _ _ (fun b hb => by omega)).mono (fun b hb _ => hb.1), h.gt, h.plt, h.tlt⟩
theorem T.snoc_set (t b : T) : t.snoc b = t.setKids (t.kids ++ [b]) := by cases t; rfl
theorem if_eq (blk : List Tok → R T) (p : Nat) (l : List Tok) : ifP blk p l = bd (branchP blk 15 p l) fun n l1 => bd (elseP blk p l1) fun c l2 => .ok (n.snoc c, l2) := by
  unfold ifP branchP
  rw [rbd_bd]
  congr 1
  funext a l1
  rw [rbd_bd]
  rfl

set_option maxRecDepth 100000 in
set_option maxHeartbeats 4000000 in
theorem rstmt_if {E : Env} {w : World} {l : List Tok} {d : Nat} {q : Nat} (h : RSt E w l d 0 q) (hk2 : (hdT l).kind = 2) (hi : isT (hdT l) (bs [105, 102]) = true) {blk : List Tok → R T} (hB : RBlockC E d blk) :
    Calls Tryd.prog 76 #[.pointer (some ⟨E.pb, 0, none⟩)] w (RTot E w d l 0 q (stmtP blk l)) := by
  have H := Lib.hid h
  have hplt := h.plt
  have htlt := h.tlt
  have HEND := Lib.hid (h.ends.tail_is hi (by decide))
  have c0 : w.cell? ⟨E.pb, 0, none⟩ = some (.slice (some ⟨E.tb, 0, none⟩) E.ts.length E.cap) := h.blk.cell 0
  have c1 : w.cell? ⟨E.pb, 1, none⟩ = some (.int .i64 ((E.ts.length - l.length : Nat) : Int)) := h.blk.cell 1
  have cf1 := h.blk.frozen 1
  obtain ⟨t0, t1, t2, t3⟩ := h.tok
  have hk : E.ts.length - l.length < E.ts.length := by have := h.head.1; have := h.le; omega
  have hlen := h.len
  have hcap := h.capb
  have ix1 : (0 : Int) ≤ ((E.ts.length - l.length : Nat) : Int) := by omega
  have ix2 : (((E.ts.length - l.length : Nat) : Int)) < (E.ts.length : Int) := by omega
  obtain ⟨k, hidx⟩ : ∃ k, E.ts.length - l.length = k := ⟨_, rfl⟩
  have HIDX := Lib.hid hidx
  have HK2 := Lib.hid hk2
  rw [hidx] at c1 t0 t1 t2 t3 hk ix1 ix2
  clear hidx
  generalize hT : hdT l = tk at t0 t1 t2 t3 hi hk2 HK2
  have HT := Lib.hid hT
  have HI := Lib.hid hi
  have hkk : ((tk.kind : Int) == 2) = true := by rw [hk2]; rfl
  obtain ⟨s_if, s_if2⟩ := isT_yes hi
  clear h hT t2 hi hk2
  obtain ⟨i0, z0, I⟩ := Tryd.refInfo
  go_enter Tryd.func76, Tryd.ntmps76
  go_wp2_with fail
  go_quiet (fail)
  go_wp2_with fail
  go_quiet (fail)
  go_wp2_with fail
  go_quiet (fail)
  go_wp2_with fail
  have HBC := Lib.hid hB
  have RL0 := Lib.hid (fun N => RLoc.stmt0 H.out HEND.out N (T.mk 0 e0 0 tk.place []) rfl k HIDX.out)
  refine (rbranch_tot (RL0.out _).st hB 15 tk.place).mono ?_
  rintro e w1 ⟨t1, v1, l1, f1, q1, rfl, hk1, hn1, hs1, hp1, hsee1⟩
  have RL1 := Lib.hid ((RL0.out _).call hp1 hs1)
  have HV1 := Lib.hid ((RL0.out _).fresh1 hk1)
  have HS1 := Lib.hid hsee1
  have RLn := Lib.hid (RL1.out.putAll t1 v1 HV1.out)
  have hz1 : w.heap.size + 1 < w1.heap.size := RL1.out.lt
  clear hk1 hs1 hp1 hsee1 hB
  unfold NodeV
  go_wp2_with ((with_reducible refine at_st 31 (.tmp 5) ?_); refine wpList_store_blk rfl 31 (.tmp 5) (.tmp 64) rfl (w.heap.size + 1) (nodeCells t1 v1) rfl rfl RL1.out.blk Tryd.sizeRef rfl (nodeCells_one _ _ HV1.out.one) ?_)
  have RLh := Lib.hid (RLn.out.alloc (.cells (nodeCells (T.mk 9 e0 0 tk.place []) (.slice none 0 0)).toArray 31))
  have HBo := Lib.hid (show Blk ((w1.setRow (w.heap.size + 1) (nodeCells t1 v1).toArray).alloc (.cells (nodeCells (T.mk 9 e0 0 tk.place []) (.slice none 0 0)).toArray 31)) w1.heap.size _ 31 from Blk.newEq (by rw [size_putRow]) (nodeCells (T.mk 9 e0 0 tk.place []) (.slice none 0 0)) 31)
  have HKo := Lib.hid (show KAt 31 ((w1.setRow (w.heap.size + 1) (nodeCells t1 v1).toArray).alloc (.cells (nodeCells (T.mk 9 e0 0 tk.place []) (.slice none 0 0)).toArray 31)) t1.kids (fun b => (w.heap.size < b ∧ b ≠ w.heap.size + 1) ∧ b < w1.heap.size) v1 from (RLn.out.kids.mono (fun b hb hlt => ⟨hb, by rw [size_putRow] at hlt; exact hlt⟩)).alloc _)
  refine (rhas_tot RLh.out.st (bs [101, 108, 115, 101]) keyElse (by decide)).mono ?_
  rintro e w2 ⟨b2, l2, rfl, hs2, hp2, hc2⟩
  have RL2 := Lib.hid (RLh.out.call hp2 hs2)
  have HB2 := Lib.hid (HBo.out.kp hp2 (by omega))
  have HK2 := Lib.hid (HKo.out.kp hp2 (fun b hb => by omega))
  have hz2 : w1.heap.size < w2.heap.size := HB2.out.lt
  have HC2 := Lib.hid hc2
  have HN1 := Lib.hid hn1
  clear hs2 hp2 hc2 hn1
  rcases HC2.out with ⟨rfl, hf2, hi2, rfl⟩ | ⟨rfl, hx2, rfl⟩
  · go_wp2_with fail
    refine (HBC.out _ _ _ _ RL2.out.st).mono ?_
    rintro e w3 ⟨t3, v3, l3, f3, q3, rfl, hk3, hn3, hs3, hp3, hsee3⟩
    have RL3 := Lib.hid (RL2.out.call hp3 hs3)
    have HB3 := Lib.hid (HB2.out.kp hp3 (by omega))
    have HK3 := Lib.hid (HK2.out.kp hp3 (fun b hb => by omega))
    have HV3 := Lib.hid (show KAt 31 w3 t3.kids (fun b => ((w.heap.size < b ∧ b ≠ w.heap.size + 1) ∧ v1.ownBlock ≠ some b) ∧ b ≠ w1.heap.size) v3 from hk3.mono (fun b hb _ => ⟨⟨⟨by omega, by omega⟩, fun e => by have := (RL2.out.own b e).1; omega⟩, by omega⟩))
    have RLo := Lib.hid (RL3.out.rowFar w1.heap.size (by omega) (by omega) HK3.out (nodeCells t3 v3).toArray)
    have HS3 := Lib.hid hsee3
    have hz3 : w1.heap.size < w3.heap.size := HB3.out.lt
    have n4 : (w3.setRow w1.heap.size (nodeCells t3 v3).toArray).cell? ⟨w.heap.size + 1, 4, none⟩ = some v1 := RLo.out.blk.cell 4
    clear hk3 hn3 hs3 hp3 hsee3
    unfold NodeV
    go_wp2_with (first
      | ((with_reducible refine at_st 31 (.tmp 6) ?_); refine wpList_store_blk rfl 31 (.tmp 6) (.tmp 71) rfl w1.heap.size (nodeCells t3 v3) rfl rfl HB3.out Tryd.sizeRef rfl (nodeCells_one _ _ HV3.out.one) ?_)
      | ((with_reducible refine at_ld 31 (.tmp 6) ?_); refine wpList_load_node rfl 31 (.tmp 6) rfl w1.heap.size t3 v3 rfl (HB3.out.rowSame (nodeCells t3 v3)) Tryd.underlying31 rfl Tryd.sizeRef ?_)
      | (at_builtin; refine wpList_append_trees rfl (.tmp 73) (.tmp 75) rfl I (ks := t1.kids) (ts := [t3]) (S := fun b => w.heap.size < b ∧ b ≠ w.heap.size + 1) rfl (RLo.out.alloc _).kids (us := [v3]) (TsAt.single ?c1) ?c2 rfl rfl (by simp) (lit1_eq _ (by simp [World.setRow]) _ t3 v3) ?c3 ?_))
    case c1 => exact TAt.of_kids (((HV3.out.setRow _ _ (fun b hb => hb.2)).mono (fun b hb _ => hb.1)).alloc _)
    case c2 => simp only [World.size_alloc, size_putRow]; omega
    case c3 => have := HN1.out; simp; omega
    intro v6 w6 hK6 hg6 hb6
    obtain ⟨sa, sn, sc, rfl⟩ := hK6.slice
    obtain ⟨ha1, ha2, ha3, ha4⟩ := (RLo.out.alloc _).after hK6 hg6
    have RL6 := Lib.hid ha1
    clear ha1 hK6 hg6 hb6 n4
    obtain ⟨old, hold, hol⟩ := RL6.out.res
    have HOLD := Lib.hid hold
    clear hold
    go_wp2_with (first | ((with_reducible refine at_ld 31 (.tmp 5) ?_); refine wpList_load_node rfl 31 (.tmp 5) rfl (w.heap.size + 1) (t1.setKids (t1.kids ++ [t3])) (.slice sa sn sc) rfl RL6.out.blk Tryd.underlying31 rfl Tryd.sizeRef ?_) | ((with_reducible refine at_st 31 (.tmp 2) ?_); refine wpList_store_blk rfl 31 (.tmp 2) (.tmp 78) rfl w.heap.size (nodeCells (t1.setKids (t1.kids ++ [t3])) (.slice sa sn sc)) rfl rfl HOLD.out Tryd.sizeRef (by rw [hol]; rfl) (nodeCells_one _ _ RL6.out.kids.one) ?_))
    exact ret_blk (cs := nodeCells (t1.setKids (t1.kids ++ [t3])) (.slice sa sn sc)) Tryd.results76 rfl HOLD.out Tryd.underlying31 rfl Tryd.sizeRef rfl (RL6.out.tot (by rw [setKids_kids, List.length_append]; have := HN1.out; simp; omega) (by
      unfold stmtP
      rw [HT.out, HI.out]
      simp only [cond_true]
      rw [if_eq]
      refine Sees.behind rfl (HS1.out.andThen ?_)
      rw [← T.snoc_set]
      unfold elseP
      exact (Sees.yes hi2 hf2 HS3.out).map (fun c => t1.snoc c)))
  · have n4 : w2.cell? ⟨w.heap.size + 1, 4, none⟩ = some v1 := RL2.out.blk.cell 4
    go_wp2_with (first
      | ((with_reducible refine at_ld 31 (.tmp 6) ?_); refine wpList_load_node rfl 31 (.tmp 6) rfl w1.heap.size (T.mk 9 e0 0 tk.place []) (.slice none 0 0) rfl HB2.out Tryd.underlying31 rfl Tryd.sizeRef ?_)
      | (at_builtin; refine wpList_append_trees rfl (.tmp 73) (.tmp 75) rfl I (ks := t1.kids) (ts := [T.mk 9 e0 0 tk.place []]) (S := fun b => w.heap.size < b ∧ b ≠ w.heap.size + 1) rfl (RL2.out.alloc _).kids (us := [.slice none 0 0]) (TsAt.single ?c1) ?c2 rfl rfl (by simp) (lit1_eq _ (by simp) _ _ _) ?c3 ?_))
    case c1 => exact TAt.of_kids (KAt.nil _ _ _)
    case c2 => simp only [World.size_alloc]; omega
    case c3 => have := HN1.out; simp; omega
    intro v6 w6 hK6 hg6 hb6
    obtain ⟨sa, sn, sc, rfl⟩ := hK6.slice
    obtain ⟨ha1, ha2, ha3, ha4⟩ := (RL2.out.alloc _).after hK6 hg6
    have RL6 := Lib.hid ha1
    clear ha1 hK6 hg6 hb6
    obtain ⟨old, hold, hol⟩ := RL6.out.res
    have HOLD := Lib.hid hold
    clear hold
    go_wp2_with (first | ((with_reducible refine at_ld 31 (.tmp 5) ?_); refine wpList_load_node rfl 31 (.tmp 5) rfl (w.heap.size + 1) (t1.setKids (t1.kids ++ [T.mk 9 e0 0 tk.place []])) (.slice sa sn sc) rfl RL6.out.blk Tryd.underlying31 rfl Tryd.sizeRef ?_) | ((with_reducible refine at_st 31 (.tmp 2) ?_); refine wpList_store_blk rfl 31 (.tmp 2) (.tmp 78) rfl w.heap.size (nodeCells (t1.setKids (t1.kids ++ [T.mk 9 e0 0 tk.place []])) (.slice sa sn sc)) rfl rfl HOLD.out Tryd.sizeRef (by rw [hol]; rfl) (nodeCells_one _ _ RL6.out.kids.one) ?_))
    exact ret_blk (cs := nodeCells (t1.setKids (t1.kids ++ [T.mk 9 e0 0 tk.place []])) (.slice sa sn sc)) Tryd.results76 rfl HOLD.out Tryd.underlying31 rfl Tryd.sizeRef rfl (RL6.out.tot (by rw [setKids_kids, List.length_append]; have := HN1.out; simp; omega) (by
      unfold stmtP
      rw [HT.out, HI.out]
      simp only [cond_true]
      rw [if_eq]
      refine Sees.behind rfl (HS1.out.andThen ?_)
      rw [← T.snoc_set]
      unfold elseP
      exact (Sees.no hx2 (Sees.done _ _ _ _)).map (fun c => t1.snoc c)))

/- Where stmt stands ahead of a statement that begins with no key word. -/
theorem RLoc.stmtN {E : Env} {w : World} {l : List Tok} {d : Nat} {q : Nat} (h : RSt E w l d 0 q) (N : Nat) (t : T) (ht : t.kids = []) :
    RLoc E w (((w.alloc (.cells zeroNodeCells.toArray 31)).drewN N).alloc (.cells (nodeCells t (.slice none 0 0)).toArray 31)) d l 0 q (w.heap.size + 1) t (.slice none 0 0) := by
  have hp := h.plt
  have h1 : RSt E ((w.alloc (.cells zeroNodeCells.toArray 31)).drewN N) l d 0 q := (h.alloc _).same (Nat.le_refl _) rfl rfl
  have hb : Blk ((w.alloc (.cells zeroNodeCells.toArray 31)).drewN N) w.heap.size zeroNodeCells 31 := Blk.new w _ _
  refine ⟨h1.alloc _, ((((Kp.refl E.pb w).alloc _).draws N)).alloc _, ⟨_, hb.alloc _, rfl⟩, Blk.newEq (by simp) _ _, by rw [ht]; exact KAt.nil _ _ _, by omega, h.plt, h.tlt⟩
theorem named_err {l : List Tok} (hk : ((hdT l).kind == 1) = false) : namedP l = .error ((hdT l).place, 20) := by
  unfold namedP nameTermP nameP kindP
  rw [hk]
  rfl
theorem stmt_named {blk : List Tok → R T} {l : List Tok} (h1 : isT (hdT l) (bs [105, 102]) = false) (h2 : isT (hdT l) (bs [119, 104, 105, 108, 101]) = false) (h3 : isT (hdT l) (bs [102, 114, 101, 101]) = false) (h4 : isT (hdT l) (bs [108, 111, 99, 107]) = false) (h5 : isT (hdT l) (bs [117, 110, 108, 111, 99, 107]) = false)
    (h6 : isT (hdT l) (bs [114, 101, 116, 117, 114, 110]) = false) (h7 : isT (hdT l) (bs [97, 98, 111, 114, 116]) = false) (h8 : isT (hdT l) (bs [102, 111, 114, 107]) = false) :
    stmtP blk l = bd (namedP l) fun n l1 => bd (expectP [bs [59]] l1) fun _ l2 => .ok (n, l2) := by
  unfold stmtP simpleP
  rw [h1, h2, h3, h4, h5, h6, h7, h8]
  simp only [cond_false]
  cases hk : ((hdT l).kind == 1) with
  | true => rfl
  | false => rw [named_err hk]; rfl

set_option maxRecDepth 100000 in
set_option maxHeartbeats 4000000 in
theorem rstmt_named2 {E : Env} {w : World} {l : List Tok} {d : Nat} {q : Nat} (h : RSt E w l d 0 q) (hk2 : (hdT l).kind = 2) (h1 : isT (hdT l) (bs [105, 102]) = false) (h2 : isT (hdT l) (bs [119, 104, 105, 108, 101]) = false) (h3 : isT (hdT l) (bs [102, 114, 101, 101]) = false) (h4 : isT (hdT l) (bs [108, 111, 99, 107]) = false) (h5 : isT (hdT l) (bs [117, 110, 108, 111, 99, 107]) = false) (h6 : isT (hdT l) (bs [114, 101, 116, 117, 114, 110]) = false) (h7 : isT (hdT l) (bs [97, 98, 111, 114, 116]) = false) (h8 : isT (hdT l) (bs [102, 111, 114, 107]) = false) (blk : List Tok → R T) :
    Calls Tryd.prog 76 #[.pointer (some ⟨E.pb, 0, none⟩)] w (RTot E w d l 0 q (stmtP blk l)) := by
  have H := Lib.hid h
  have hplt := h.plt
  have htlt := h.tlt
  have c0 : w.cell? ⟨E.pb, 0, none⟩ = some (.slice (some ⟨E.tb, 0, none⟩) E.ts.length E.cap) := h.blk.cell 0
  have c1 : w.cell? ⟨E.pb, 1, none⟩ = some (.int .i64 ((E.ts.length - l.length : Nat) : Int)) := h.blk.cell 1
  have cf1 := h.blk.frozen 1
  obtain ⟨t0, t1, t2, t3⟩ := h.tok
  have hk : E.ts.length - l.length < E.ts.length := by have := h.head.1; have := h.le; omega
  have hlen := h.len
  have hcap := h.capb
  have ix1 : (0 : Int) ≤ ((E.ts.length - l.length : Nat) : Int) := by omega
  have ix2 : (((E.ts.length - l.length : Nat) : Int)) < (E.ts.length : Int) := by omega
  obtain ⟨k, hidx⟩ : ∃ k, E.ts.length - l.length = k := ⟨_, rfl⟩
  have HIDX := Lib.hid hidx
  have HK2 := Lib.hid hk2
  rw [hidx] at c1 t0 t1 t2 t3 hk ix1 ix2
  clear hidx
  have HX1 := Lib.hid h1
  have HX2 := Lib.hid h2
  have HX3 := Lib.hid h3
  have HX4 := Lib.hid h4
  have HX5 := Lib.hid h5
  have HX6 := Lib.hid h6
  have HX7 := Lib.hid h7
  have HX8 := Lib.hid h8
  generalize hT : hdT l = tk at t0 t1 t2 t3 hk2 HK2 h1 h2 h3 h4 h5 h6 h7 h8
  have HT := Lib.hid hT
  have hkk : ((tk.kind : Int) == 2) = true := by rw [hk2]; rfl
  obtain ⟨s_if, s_if2⟩ := isT_no h1
  obtain ⟨s_while, s_while2⟩ := isT_no h2
  obtain ⟨s_free, s_free2⟩ := isT_no h3
  obtain ⟨s_lock, s_lock2⟩ := isT_no h4
  obtain ⟨s_unlock, s_unlock2⟩ := isT_no h5
  obtain ⟨s_return, s_return2⟩ := isT_no h6
  obtain ⟨s_abort, s_abort2⟩ := isT_no h7
  obtain ⟨s_fork, s_fork2⟩ := isT_no h8
  clear h hT t2 hk2 h1 h2 h3 h4 h5 h6 h7 h8
  obtain ⟨i0, z0, I⟩ := Tryd.refInfo
  go_enter Tryd.func76, Tryd.ntmps76
  go_wp2_with fail
  go_quiet (fail)
  go_wp2_with fail
  go_quiet (fail)
  go_wp2_with fail
  go_quiet (fail)
  go_wp2_with fail
  have RL0 := Lib.hid (fun N => RLoc.stmtN H.out N (T.mk 0 e0 0 tk.place []) rfl)
  refine (rnamed_tot (RL0.out _).st).mono ?_
  rintro e w1 ⟨t1, v1, l1, f1, q1, rfl, hk1, hn1, hs1, hp1, hsee1⟩
  have RL1 := Lib.hid ((RL0.out _).call hp1 hs1)
  have HV1 := Lib.hid ((RL0.out _).fresh1 hk1)
  have HS1 := Lib.hid hsee1
  have RLn := Lib.hid (RL1.out.putAll t1 v1 HV1.out)
  have hz1 : w.heap.size + 1 < w1.heap.size := RL1.out.lt
  have HN1 := Lib.hid hn1
  clear hk1 hs1 hp1 hsee1 hn1
  unfold NodeV
  go_wp2_with ((with_reducible refine at_st 31 (.tmp 5) ?_); refine wpList_store_blk rfl 31 (.tmp 5) (.tmp 51) rfl (w.heap.size + 1) (nodeCells t1 v1) rfl rfl RL1.out.blk Tryd.sizeRef rfl (nodeCells_one _ _ HV1.out.one) ?_)
  refine (rmust_tot RLn.out.st (bs [59]) key59 (by decide)).mono ?_
  rintro e w2 ⟨l2, f2, q2, rfl, hs2, hp2, tk2, hsee2⟩
  have RL2 := Lib.hid (RLn.out.call hp2 hs2)
  have HS2 := Lib.hid hsee2
  clear hs2 hp2 hsee2
  obtain ⟨old, hold, hol⟩ := RL2.out.res
  have HOLD := Lib.hid hold
  clear hold
  go_wp2_with (first | ((with_reducible refine at_ld 31 (.tmp 5) ?_); refine wpList_load_node rfl 31 (.tmp 5) rfl (w.heap.size + 1) t1 v1 rfl RL2.out.blk Tryd.underlying31 rfl Tryd.sizeRef ?_) | ((with_reducible refine at_st 31 (.tmp 2) ?_); refine wpList_store_blk rfl 31 (.tmp 2) (.tmp 187) rfl w.heap.size (nodeCells t1 v1) rfl rfl HOLD.out Tryd.sizeRef (by rw [hol]; rfl) (nodeCells_one _ _ RL2.out.kids.one) ?_))
  exact ret_blk (cs := nodeCells t1 v1) Tryd.results76 rfl HOLD.out Tryd.underlying31 rfl Tryd.sizeRef rfl (RL2.out.tot (HN1.out) (by rw [stmt_named HX1.out HX2.out HX3.out HX4.out HX5.out HX6.out HX7.out HX8.out]; exact HS1.out.andThen (HS2.out.andThen (Sees.done _ _ _ _))))

set_option maxRecDepth 100000 in
set_option maxHeartbeats 4000000 in
theorem rstmt_named0 {E : Env} {w : World} {l : List Tok} {d : Nat} {q : Nat} (h : RSt E w l d 0 q) (hk2 : ((hdT l).kind == 2) = false) (h1 : isT (hdT l) (bs [105, 102]) = false) (h2 : isT (hdT l) (bs [119, 104, 105, 108, 101]) = false) (h3 : isT (hdT l) (bs [102, 114, 101, 101]) = false) (h4 : isT (hdT l) (bs [108, 111, 99, 107]) = false) (h5 : isT (hdT l) (bs [117, 110, 108, 111, 99, 107]) = false) (h6 : isT (hdT l) (bs [114, 101, 116, 117, 114, 110]) = false) (h7 : isT (hdT l) (bs [97, 98, 111, 114, 116]) = false) (h8 : isT (hdT l) (bs [102, 111, 114, 107]) = false) (blk : List Tok → R T) :
    Calls Tryd.prog 76 #[.pointer (some ⟨E.pb, 0, none⟩)] w (RTot E w d l 0 q (stmtP blk l)) := by
  have H := Lib.hid h
  have hplt := h.plt
  have htlt := h.tlt
  have c0 : w.cell? ⟨E.pb, 0, none⟩ = some (.slice (some ⟨E.tb, 0, none⟩) E.ts.length E.cap) := h.blk.cell 0
  have c1 : w.cell? ⟨E.pb, 1, none⟩ = some (.int .i64 ((E.ts.length - l.length : Nat) : Int)) := h.blk.cell 1
  have cf1 := h.blk.frozen 1
  obtain ⟨t0, t1, t2, t3⟩ := h.tok
  have hk : E.ts.length - l.length < E.ts.length := by have := h.head.1; have := h.le; omega
  have hlen := h.len
  have hcap := h.capb
  have ix1 : (0 : Int) ≤ ((E.ts.length - l.length : Nat) : Int) := by omega
  have ix2 : (((E.ts.length - l.length : Nat) : Int)) < (E.ts.length : Int) := by omega
  obtain ⟨k, hidx⟩ : ∃ k, E.ts.length - l.length = k := ⟨_, rfl⟩
  have HIDX := Lib.hid hidx
  have HK2 := Lib.hid hk2
  rw [hidx] at c1 t0 t1 t2 t3 hk ix1 ix2
  clear hidx
  have HX1 := Lib.hid h1
  have HX2 := Lib.hid h2
  have HX3 := Lib.hid h3
  have HX4 := Lib.hid h4
  have HX5 := Lib.hid h5
  have HX6 := Lib.hid h6
  have HX7 := Lib.hid h7
  have HX8 := Lib.hid h8
  generalize hT : hdT l = tk at t0 t1 t2 t3 hk2 HK2 h1 h2 h3 h4 h5 h6 h7 h8
  have HT := Lib.hid hT
  have hkk : ((tk.kind : Int) == 2) = false := by
    have h2 : ¬ tk.kind = 2 := by simpa using hk2
    rw [beq_eq_false_iff_ne]
    omega
  clear h hT t2 hk2 h1 h2 h3 h4 h5 h6 h7 h8
  obtain ⟨i0, z0, I⟩ := Tryd.refInfo
  go_enter Tryd.func76, Tryd.ntmps76
  go_wp2_with fail
  go_quiet (fail)
  go_wp2_with fail
  go_quiet (fail)
  go_wp2_with fail
  have RL0 := Lib.hid (fun N => RLoc.stmtN H.out N (T.mk 0 e0 0 tk.place []) rfl)
  refine (rnamed_tot (RL0.out _).st).mono ?_
  rintro e w1 ⟨t1, v1, l1, f1, q1, rfl, hk1, hn1, hs1, hp1, hsee1⟩
  have RL1 := Lib.hid ((RL0.out _).call hp1 hs1)
  have HV1 := Lib.hid ((RL0.out _).fresh1 hk1)
  have HS1 := Lib.hid hsee1
  have RLn := Lib.hid (RL1.out.putAll t1 v1 HV1.out)
  have hz1 : w.heap.size + 1 < w1.heap.size := RL1.out.lt
  have HN1 := Lib.hid hn1
  clear hk1 hs1 hp1 hsee1 hn1
  unfold NodeV
  go_wp2_with ((with_reducible refine at_st 31 (.tmp 5) ?_); refine wpList_store_blk rfl 31 (.tmp 5) (.tmp 51) rfl (w.heap.size + 1) (nodeCells t1 v1) rfl rfl RL1.out.blk Tryd.sizeRef rfl (nodeCells_one _ _ HV1.out.one) ?_)
  refine (rmust_tot RLn.out.st (bs [59]) key59 (by decide)).mono ?_
  rintro e w2 ⟨l2, f2, q2, rfl, hs2, hp2, tk2, hsee2⟩
  have RL2 := Lib.hid (RLn.out.call hp2 hs2)
  have HS2 := Lib.hid hsee2
  clear hs2 hp2 hsee2
  obtain ⟨old, hold, hol⟩ := RL2.out.res
  have HOLD := Lib.hid hold
  clear hold
  go_wp2_with (first | ((with_reducible refine at_ld 31 (.tmp 5) ?_); refine wpList_load_node rfl 31 (.tmp 5) rfl (w.heap.size + 1) t1 v1 rfl RL2.out.blk Tryd.underlying31 rfl Tryd.sizeRef ?_) | ((with_reducible refine at_st 31 (.tmp 2) ?_); refine wpList_store_blk rfl 31 (.tmp 2) (.tmp 187) rfl w.heap.size (nodeCells t1 v1) rfl rfl HOLD.out Tryd.sizeRef (by rw [hol]; rfl) (nodeCells_one _ _ RL2.out.kids.one) ?_))
  exact ret_blk (cs := nodeCells t1 v1) Tryd.results76 rfl HOLD.out Tryd.underlying31 rfl Tryd.sizeRef rfl (RL2.out.tot (HN1.out) (by rw [stmt_named HX1.out HX2.out HX3.out HX4.out HX5.out HX6.out HX7.out HX8.out]; exact HS1.out.andThen (HS2.out.andThen (Sees.done _ _ _ _))))

end Go.Proofs.YtnmpfpnldcgbaaaDoor
