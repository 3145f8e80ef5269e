/- The ways of lychgateref02.stmt, each from a state without a fault. -/
import Derived.Test.YtnmpfpnldcgbaaaDoorRefBranch
namespace Go.Proofs.YtnmpfpnldcgbaaaDoor
open Go.RowKit

/- Where stmt stands behind its first word. -/
theorem RLoc.stmt0 {E : Env} {w : World} {l : List Tok} {d : Nat} {q : Nat} (h : RSt E w l d 0 q) (he : Ends l.tail) (N : Nat) (t : T) (ht : t.kids = []) (k : Nat) (hk : E.ts.length - l.length = k) :
    RLoc E w ((((w.alloc (.cells zeroNodeCells.toArray 31)).drewN N).setCell ⟨E.pb, 1, none⟩ (.int .i64 ((k : Int) + 1))).alloc (.cells (nodeCells t (.slice none 0 0)).toArray 31)) d l.tail 0 q (w.heap.size + 1) t (.slice none 0 0) := by
  subst hk
  have hp := h.plt
  have h1 : RSt E ((w.alloc (.cells zeroNodeCells.toArray 31)).drewN N) l d 0 q := (h.alloc _).same (Nat.le_refl _) rfl rfl
  have h2 := h1.setI he
  have hb : Blk ((w.alloc (.cells zeroNodeCells.toArray 31)).drewN N) w.heap.size zeroNodeCells 31 := Blk.new w _ _
  refine ⟨h2.alloc _, (((((Kp.refl E.pb w).alloc _).draws N).setPb 1 _)).alloc _, ⟨_, (hb.setOther _ _ (by show w.heap.size ≠ E.pb; omega)).alloc _, rfl⟩, Blk.newEq (by simp) _ _, by rw [ht]; exact KAt.nil _ _ _, by omega, h.plt, h.tlt⟩

theorem stmt_word {blk : List Tok → R T} {l : List Tok} (hk : (hdT l).kind = 2) (h1 : isT (hdT l) (bs [105, 102]) = false) (h2 : isT (hdT l) (bs [119, 104, 105, 108, 101]) = false) : stmtP blk l = bd (bif isT (hdT l) (bs [102, 114, 101, 101]) then bd (nameP l.tail) fun s l1 => .ok (.mk 12 s 0 (hdT l).place [], l1)
  else bif isT (hdT l) (bs [108, 111, 99, 107]) then lockP 13 (hdT l).place l.tail
  else bif isT (hdT l) (bs [117, 110, 108, 111, 99, 107]) then lockP 14 (hdT l).place l.tail
  else bif isT (hdT l) (bs [114, 101, 116, 117, 114, 110]) then returnP (hdT l).place l.tail
  else bif isT (hdT l) (bs [97, 98, 111, 114, 116]) then .ok (.mk 18 e0 0 (hdT l).place [], l.tail)
  else bif isT (hdT l) (bs [102, 111, 114, 107]) then bd (nameP l.tail) fun s l1 => bd (parensP termP l1) fun xs l2 => .ok (.mk 19 s 0 (hdT l).place xs, l2)
  else .error ((hdT l).place, 20)) fun n l1 => bd (expectP [bs [59]] l1) fun _ l2 => .ok (n, l2) := by
  unfold stmtP simpleP
  rw [h1, h2, show ((hdT l).kind == 1) = false by rw [hk]; rfl]
  rfl

set_option maxRecDepth 100000 in
set_option maxHeartbeats 4000000 in
theorem rstmt_abort {E : Env} {w : World} {l : List Tok} {d : Nat} {q : Nat} (h : RSt E w l d 0 q) (hk2 : (hdT l).kind = 2) (hi : isT (hdT l) (bs [97, 98, 111, 114, 116]) = true) (blk : List Tok → R T) :
    Calls Tryd.prog 76 #[.pointer (some ⟨E.pb, 0, none⟩)] w (RTot E w d l 0 q (stmtP blk l)) := by
  have H := Lib.hid h
  have hplt := h.plt
  have htlt := h.tlt
  have HEND := Lib.hid (h.ends.tail_is hi (by decide))
  have c0 : w.cell? ⟨E.pb, 0, none⟩ = some (.slice (some ⟨E.tb, 0, none⟩) E.ts.length E.cap) := h.blk.cell 0
  have c1 : w.cell? ⟨E.pb, 1, none⟩ = some (.int .i64 ((E.ts.length - l.length : Nat) : Int)) := h.blk.cell 1
  have cf1 := h.blk.frozen 1
  obtain ⟨t0, t1, t2, t3⟩ := h.tok
  have hk : E.ts.length - l.length < E.ts.length := by have := h.head.1; have := h.le; omega
  have hlen := h.len
  have hcap := h.capb
  have ix1 : (0 : Int) ≤ ((E.ts.length - l.length : Nat) : Int) := by omega
  have ix2 : (((E.ts.length - l.length : Nat) : Int)) < (E.ts.length : Int) := by omega
  obtain ⟨k, hidx⟩ : ∃ k, E.ts.length - l.length = k := ⟨_, rfl⟩
  have HIDX := Lib.hid hidx
  have HK2 := Lib.hid hk2
  rw [hidx] at c1 t0 t1 t2 t3 hk ix1 ix2
  clear hidx
  generalize hT : hdT l = tk at t0 t1 t2 t3 hi hk2 HK2
  have HT := Lib.hid hT
  have HI := Lib.hid hi
  have hkk : ((tk.kind : Int) == 2) = true := by rw [hk2]; rfl
  obtain ⟨s_if, s_if2⟩ := isT_no (isT_not hi (b := bs [105, 102]) (by kernel_rfl))
  obtain ⟨s_while, s_while2⟩ := isT_no (isT_not hi (b := bs [119, 104, 105, 108, 101]) (by kernel_rfl))
  obtain ⟨s_free, s_free2⟩ := isT_no (isT_not hi (b := bs [102, 114, 101, 101]) (by kernel_rfl))
  obtain ⟨s_lock, s_lock2⟩ := isT_no (isT_not hi (b := bs [108, 111, 99, 107]) (by kernel_rfl))
  obtain ⟨s_unlock, s_unlock2⟩ := isT_no (isT_not hi (b := bs [117, 110, 108, 111, 99, 107]) (by kernel_rfl))
  obtain ⟨s_return, s_return2⟩ := isT_no (isT_not hi (b := bs [114, 101, 116, 117, 114, 110]) (by kernel_rfl))
  obtain ⟨s_abort, s_abort2⟩ := isT_yes hi
  clear h hT t2 hi hk2
  obtain ⟨i0, z0, I⟩ := Tryd.refInfo
  go_enter Tryd.func76, Tryd.ntmps76
  go_wp2_with fail
  go_quiet (fail)
  go_wp2_with fail
  go_quiet (fail)
  go_wp2_with fail
  go_quiet (fail)
  go_wp2_with fail
  have RL0 := Lib.hid (fun N => RLoc.stmt0 H.out HEND.out N (T.mk 18 e0 0 tk.place []) rfl k HIDX.out)
  refine (rmust_tot (RL0.out _).st (bs [59]) key59 (by decide)).mono ?_
  rintro e w1 ⟨l1, f1, q1, rfl, hs1, hp1, tk1, hsee1⟩
  have RL1 := Lib.hid ((RL0.out _).call hp1 hs1)
  have HS1 := Lib.hid hsee1
  clear hs1 hp1 hsee1
  obtain ⟨old, hold, hol⟩ := RL1.out.res
  have HOLD := Lib.hid hold
  clear hold
  go_wp2_with (first | ((with_reducible refine at_ld 31 (.tmp 5) ?_); refine wpList_load_node rfl 31 (.tmp 5) rfl (w.heap.size + 1) (T.mk 18 e0 0 tk.place []) (.slice none 0 0) rfl RL1.out.blk Tryd.underlying31 rfl Tryd.sizeRef ?_) | ((with_reducible refine at_st 31 (.tmp 2) ?_); refine wpList_store_blk rfl 31 (.tmp 2) (.tmp 187) rfl w.heap.size (nodeCells (T.mk 18 e0 0 tk.place []) (.slice none 0 0)) rfl rfl HOLD.out Tryd.sizeRef (by rw [hol]; rfl) (nodeCells_one _ _ RL1.out.kids.one) ?_))
  exact ret_blk (cs := nodeCells (T.mk 18 e0 0 tk.place []) (.slice none 0 0)) Tryd.results76 rfl HOLD.out Tryd.underlying31 rfl Tryd.sizeRef rfl (RL1.out.tot (by simp [T.kids]) (by
    rw [stmt_word (by rw [HT.out]; exact HK2.out) (by rw [HT.out]; exact (isT_not HI.out (b := bs [105, 102]) (by kernel_rfl))) (by rw [HT.out]; exact (isT_not HI.out (b := bs [119, 104, 105, 108, 101]) (by kernel_rfl))), HT.out, (isT_not HI.out (b := bs [102, 114, 101, 101]) (by kernel_rfl)), (isT_not HI.out (b := bs [108, 111, 99, 107]) (by kernel_rfl)), (isT_not HI.out (b := bs [117, 110, 108, 111, 99, 107]) (by kernel_rfl)), (isT_not HI.out (b := bs [114, 101, 116, 117, 114, 110]) (by kernel_rfl)), HI.out]
    simp only [cond_true, cond_false]
    exact Sees.behind rfl (HS1.out.andThen (Sees.done _ _ _ _))))
set_option maxRecDepth 100000 in
set_option maxHeartbeats 4000000 in
theorem rstmt_while {E : Env} {w : World} {l : List Tok} {d : Nat} {q : Nat} (h : RSt E w l d 0 q) (hk2 : (hdT l).kind = 2) (hi : isT (hdT l) (bs [119, 104, 105, 108, 101]) = true) {blk : List Tok → R T} (hB : RBlockC E d blk) :
    Calls Tryd.prog 76 #[.pointer (some ⟨E.pb, 0, none⟩)] w (RTot E w d l 0 q (stmtP blk l)) := by
  have H := Lib.hid h
  have hplt := h.plt
  have htlt := h.tlt
  have HEND := Lib.hid (h.ends.tail_is hi (by decide))
  have c0 : w.cell? ⟨E.pb, 0, none⟩ = some (.slice (some ⟨E.tb, 0, none⟩) E.ts.length E.cap) := h.blk.cell 0
  have c1 : w.cell? ⟨E.pb, 1, none⟩ = some (.int .i64 ((E.ts.length - l.length : Nat) : Int)) := h.blk.cell 1
  have cf1 := h.blk.frozen 1
  obtain ⟨t0, t1, t2, t3⟩ := h.tok
  have hk : E.ts.length - l.length < E.ts.length := by have := h.head.1; have := h.le; omega
  have hlen := h.len
  have hcap := h.capb
  have ix1 : (0 : Int) ≤ ((E.ts.length - l.length : Nat) : Int) := by omega
  have ix2 : (((E.ts.length - l.length : Nat) : Int)) < (E.ts.length : Int) := by omega
  obtain ⟨k, hidx⟩ : ∃ k, E.ts.length - l.length = k := ⟨_, rfl⟩
  have HIDX := Lib.hid hidx
  have HK2 := Lib.hid hk2
  rw [hidx] at c1 t0 t1 t2 t3 hk ix1 ix2
  clear hidx
  generalize hT : hdT l = tk at t0 t1 t2 t3 hi hk2 HK2
  have HT := Lib.hid hT
  have HI := Lib.hid hi
  have hkk : ((tk.kind : Int) == 2) = true := by rw [hk2]; rfl
  obtain ⟨s_if, s_if2⟩ := isT_no (isT_not hi (b := bs [105, 102]) (by kernel_rfl))
  obtain ⟨s_while, s_while2⟩ := isT_yes hi
  clear h hT t2 hi hk2
  obtain ⟨i0, z0, I⟩ := Tryd.refInfo
  go_enter Tryd.func76, Tryd.ntmps76
  go_wp2_with fail
  go_quiet (fail)
  go_wp2_with fail
  go_quiet (fail)
  go_wp2_with fail
  go_quiet (fail)
  go_wp2_with fail
  have RL0 := Lib.hid (fun N => RLoc.stmt0 H.out HEND.out N (T.mk 0 e0 0 tk.place []) rfl k HIDX.out)
  refine (rbranch_tot (RL0.out _).st hB 16 tk.place).mono ?_
  rintro e w1 ⟨t1, v1, l1, f1, q1, rfl, hk1, hn1, hs1, hp1, hsee1⟩
  have RL1 := Lib.hid ((RL0.out _).call hp1 hs1)
  have HV1 := Lib.hid ((RL0.out _).fresh1 hk1)
  have HS1 := Lib.hid hsee1
  clear hk1 hs1 hp1 hsee1
  unfold NodeV
  obtain ⟨old, hold, hol⟩ := RL1.out.res
  have HOLD := Lib.hid hold
  clear hold
  go_wp2_with ((with_reducible refine at_st 31 (.tmp 2) ?_); refine wpList_store_blk rfl 31 (.tmp 2) (.tmp 91) rfl w.heap.size (nodeCells t1 v1) rfl rfl HOLD.out Tryd.sizeRef (by rw [hol]; rfl) (nodeCells_one _ _ HV1.out.one) ?_)
  exact ret_blk (cs := nodeCells t1 v1) Tryd.results76 rfl HOLD.out Tryd.underlying31 rfl Tryd.sizeRef rfl (RL1.out.totOf HV1.out (by omega) (by
    unfold stmtP
    rw [HT.out, (isT_not HI.out (b := bs [105, 102]) (by kernel_rfl)), HI.out]
    simp only [cond_true, cond_false]
    exact Sees.behind rfl HS1.out))

set_option maxRecDepth 100000 in
set_option maxHeartbeats 4000000 in
theorem rstmt_free {E : Env} {w : World} {l : List Tok} {d : Nat} {q : Nat} (h : RSt E w l d 0 q) (hk2 : (hdT l).kind = 2) (hi : isT (hdT l) (bs [102, 114, 101, 101]) = true) (blk : List Tok → R T) :
    Calls Tryd.prog 76 #[.pointer (some ⟨E.pb, 0, none⟩)] w (RTot E w d l 0 q (stmtP blk l)) := by
  have H := Lib.hid h
  have hplt := h.plt
  have htlt := h.tlt
  have HEND := Lib.hid (h.ends.tail_is hi (by decide))
  have c0 : w.cell? ⟨E.pb, 0, none⟩ = some (.slice (some ⟨E.tb, 0, none⟩) E.ts.length E.cap) := h.blk.cell 0
  have c1 : w.cell? ⟨E.pb, 1, none⟩ = some (.int .i64 ((E.ts.length - l.length : Nat) : Int)) := h.blk.cell 1
  have cf1 := h.blk.frozen 1
  obtain ⟨t0, t1, t2, t3⟩ := h.tok
  have hk : E.ts.length - l.length < E.ts.length := by have := h.head.1; have := h.le; omega
  have hlen := h.len
  have hcap := h.capb
  have ix1 : (0 : Int) ≤ ((E.ts.length - l.length : Nat) : Int) := by omega
  have ix2 : (((E.ts.length - l.length : Nat) : Int)) < (E.ts.length : Int) := by omega
  obtain ⟨k, hidx⟩ : ∃ k, E.ts.length - l.length = k := ⟨_, rfl⟩
  have HIDX := Lib.hid hidx
  have HK2 := Lib.hid hk2
  rw [hidx] at c1 t0 t1 t2 t3 hk ix1 ix2
  clear hidx
  generalize hT : hdT l = tk at t0 t1 t2 t3 hi hk2 HK2
  have HT := Lib.hid hT
  have HI := Lib.hid hi
  have hkk : ((tk.kind : Int) == 2) = true := by rw [hk2]; rfl
  obtain ⟨s_if, s_if2⟩ := isT_no (isT_not hi (b := bs [105, 102]) (by kernel_rfl))
  obtain ⟨s_while, s_while2⟩ := isT_no (isT_not hi (b := bs [119, 104, 105, 108, 101]) (by kernel_rfl))
  obtain ⟨s_free, s_free2⟩ := isT_yes hi
  clear h hT t2 hi hk2
  obtain ⟨i0, z0, I⟩ := Tryd.refInfo
  go_enter Tryd.func76, Tryd.ntmps76
  go_wp2_with fail
  go_quiet (fail)
  go_wp2_with fail
  go_quiet (fail)
  go_wp2_with fail
  go_quiet (fail)
  go_wp2_with fail
  have RL0 := Lib.hid (fun N => RLoc.stmt0 H.out HEND.out N (T.mk 0 e0 0 tk.place []) rfl k HIDX.out)
  refine (rname2_tot (RL0.out _).st).mono ?_
  rintro e w1 ⟨ka, sa, na, pa, l1, f1, q1, rfl, hs1, hp1, hsee1⟩
  have RLx := Lib.hid ((RL0.out _).call hp1 hs1)
  have HS1 := Lib.hid hsee1
  have hz1 : w.heap.size + 1 < w1.heap.size := RLx.out.lt
  clear hs1 hp1 hsee1
  have n0 : w1.cell? ⟨w.heap.size + 1, 0, none⟩ = some (.int .i64 0) := RLx.out.blk.cell 0
  have nf0 := RLx.out.blk.frozen 0
  have n1 : w1.cell? ⟨w.heap.size + 1, 1, none⟩ = some (.string e0) := RLx.out.blk.cell 1
  have nf1 := RLx.out.blk.frozen 1
  have RLk := Lib.hid (((RLx.out.set 0 (.int .i64 12) (T.mk 12 e0 0 tk.place []) rfl rfl).set 1 (.string sa) (T.mk 12 sa 0 tk.place []) rfl rfl).alloc (.cells (nodeCells (T.mk ka sa na pa []) (.slice none 0 0)).toArray 31))
  go_wp2_with fail
  clear n0 nf0 n1 nf1
  refine (rmust_tot RLk.out.st (bs [59]) key59 (by decide)).mono ?_
  rintro e w2 ⟨l2, f2, q2, rfl, hs2, hp2, tk2, hsee2⟩
  have RL2 := Lib.hid (RLk.out.call hp2 hs2)
  have HS2 := Lib.hid hsee2
  clear hs2 hp2 hsee2
  obtain ⟨old, hold, hol⟩ := RL2.out.res
  have HOLD := Lib.hid hold
  clear hold
  go_wp2_with (first | ((with_reducible refine at_ld 31 (.tmp 5) ?_); refine wpList_load_node rfl 31 (.tmp 5) rfl (w.heap.size + 1) (T.mk 12 sa 0 tk.place []) (.slice none 0 0) rfl RL2.out.blk Tryd.underlying31 rfl Tryd.sizeRef ?_) | ((with_reducible refine at_st 31 (.tmp 2) ?_); refine wpList_store_blk rfl 31 (.tmp 2) (.tmp 187) rfl w.heap.size (nodeCells (T.mk 12 sa 0 tk.place []) (.slice none 0 0)) rfl rfl HOLD.out Tryd.sizeRef (by rw [hol]; rfl) (nodeCells_one _ _ RL2.out.kids.one) ?_))
  exact ret_blk (cs := nodeCells (T.mk 12 sa 0 tk.place []) (.slice none 0 0)) Tryd.results76 rfl HOLD.out Tryd.underlying31 rfl Tryd.sizeRef rfl (RL2.out.tot (by simp [T.kids]) (by
    rw [stmt_word (by rw [HT.out]; exact HK2.out) (by rw [HT.out]; exact (isT_not HI.out (b := bs [105, 102]) (by kernel_rfl))) (by rw [HT.out]; exact (isT_not HI.out (b := bs [119, 104, 105, 108, 101]) (by kernel_rfl))), HT.out, HI.out]
    simp only [cond_true]
    rw [name_text]
    rw [rbd_bd]
    exact Sees.behind rfl (HS1.out.andThen (HS2.out.andThen (Sees.done _ _ _ _)))))
set_option maxRecDepth 100000 in
set_option maxHeartbeats 4000000 in
theorem rstmt_fork {E : Env} {w : World} {l : List Tok} {d : Nat} {q : Nat} (h : RSt E w l d 0 q) (hk2 : (hdT l).kind = 2) (hi : isT (hdT l) (bs [102, 111, 114, 107]) = true) (blk : List Tok → R T) :
    Calls Tryd.prog 76 #[.pointer (some ⟨E.pb, 0, none⟩)] w (RTot E w d l 0 q (stmtP blk l)) := by
  have H := Lib.hid h
  have hplt := h.plt
  have htlt := h.tlt
  have HEND := Lib.hid (h.ends.tail_is hi (by decide))
  have c0 : w.cell? ⟨E.pb, 0, none⟩ = some (.slice (some ⟨E.tb, 0, none⟩) E.ts.length E.cap) := h.blk.cell 0
  have c1 : w.cell? ⟨E.pb, 1, none⟩ = some (.int .i64 ((E.ts.length - l.length : Nat) : Int)) := h.blk.cell 1
  have cf1 := h.blk.frozen 1
  obtain ⟨t0, t1, t2, t3⟩ := h.tok
  have hk : E.ts.length - l.length < E.ts.length := by have := h.head.1; have := h.le; omega
  have hlen := h.len
  have hcap := h.capb
  have ix1 : (0 : Int) ≤ ((E.ts.length - l.length : Nat) : Int) := by omega
  have ix2 : (((E.ts.length - l.length : Nat) : Int)) < (E.ts.length : Int) := by omega
  obtain ⟨k, hidx⟩ : ∃ k, E.ts.length - l.length = k := ⟨_, rfl⟩
  have HIDX := Lib.hid hidx
  have HK2 := Lib.hid hk2
  rw [hidx] at c1 t0 t1 t2 t3 hk ix1 ix2
  clear hidx
  generalize hT : hdT l = tk at t0 t1 t2 t3 hi hk2 HK2
  have HT := Lib.hid hT
  have HI := Lib.hid hi
  have hkk : ((tk.kind : Int) == 2) = true := by rw [hk2]; rfl
  obtain ⟨s_if, s_if2⟩ := isT_no (isT_not hi (b := bs [105, 102]) (by kernel_rfl))
  obtain ⟨s_while, s_while2⟩ := isT_no (isT_not hi (b := bs [119, 104, 105, 108, 101]) (by kernel_rfl))
  obtain ⟨s_free, s_free2⟩ := isT_no (isT_not hi (b := bs [102, 114, 101, 101]) (by kernel_rfl))
  obtain ⟨s_lock, s_lock2⟩ := isT_no (isT_not hi (b := bs [108, 111, 99, 107]) (by kernel_rfl))
  obtain ⟨s_unlock, s_unlock2⟩ := isT_no (isT_not hi (b := bs [117, 110, 108, 111, 99, 107]) (by kernel_rfl))
  obtain ⟨s_return, s_return2⟩ := isT_no (isT_not hi (b := bs [114, 101, 116, 117, 114, 110]) (by kernel_rfl))
  obtain ⟨s_abort, s_abort2⟩ := isT_no (isT_not hi (b := bs [97, 98, 111, 114, 116]) (by kernel_rfl))
  obtain ⟨s_fork, s_fork2⟩ := isT_yes hi
  clear h hT t2 hi hk2
  obtain ⟨i0, z0, I⟩ := Tryd.refInfo
  go_enter Tryd.func76, Tryd.ntmps76
  go_wp2_with fail
  go_quiet (fail)
  go_wp2_with fail
  go_quiet (fail)
  go_wp2_with fail
  go_quiet (fail)
  go_wp2_with fail
  have RL0 := Lib.hid (fun N => RLoc.stmt0 H.out HEND.out N (T.mk 0 e0 0 tk.place []) rfl k HIDX.out)
  refine (rname2_tot (RL0.out _).st).mono ?_
  rintro e w1 ⟨ka, sa, na, pa, l1, f1, q1, rfl, hs1, hp1, hsee1⟩
  have RLx := Lib.hid ((RL0.out _).call hp1 hs1)
  have HS1 := Lib.hid hsee1
  have hz1 : w.heap.size + 1 < w1.heap.size := RLx.out.lt
  clear hs1 hp1 hsee1
  have n0 : w1.cell? ⟨w.heap.size + 1, 0, none⟩ = some (.int .i64 0) := RLx.out.blk.cell 0
  have nf0 := RLx.out.blk.frozen 0
  have n1 : w1.cell? ⟨w.heap.size + 1, 1, none⟩ = some (.string e0) := RLx.out.blk.cell 1
  have nf1 := RLx.out.blk.frozen 1
  have RLk := Lib.hid (((RLx.out.set 0 (.int .i64 19) (T.mk 19 e0 0 tk.place []) rfl rfl).set 1 (.string sa) (T.mk 19 sa 0 tk.place []) rfl rfl).alloc (.cells (nodeCells (T.mk ka sa na pa []) (.slice none 0 0)).toArray 31))
  go_wp2_with fail
  clear n0 nf0 n1 nf1
  refine (rargs_tot RLk.out.st).mono ?_
  rintro e w2 ⟨xs, xv, l2, f2, q2, rfl, hk2, hn2, hs2, hp2, hsee2⟩
  have RL2 := Lib.hid (RLk.out.call hp2 hs2)
  have HV2 := Lib.hid (RLk.out.fresh1 hk2)
  have HS2 := Lib.hid hsee2
  obtain ⟨sa1, sn1, sc1, rfl⟩ := hk2.slice
  clear hk2 hs2 hp2 hsee2
  have n4 : w2.cell? ⟨w.heap.size + 1, 4, none⟩ = some (.slice none 0 0) := RL2.out.blk.cell 4
  have nf4 := RL2.out.blk.frozen 4
  have RL3 := Lib.hid (RL2.out.setKids xs _ HV2.out)
  go_wp2_with fail
  refine (rmust_tot RL3.out.st (bs [59]) key59 (by decide)).mono ?_
  rintro e w4 ⟨l4, f4, q4, rfl, hs4, hp4, tk4, hsee4⟩
  have RL4 := Lib.hid (RL3.out.call hp4 hs4)
  have HS4 := Lib.hid hsee4
  clear hs4 hp4 hsee4
  obtain ⟨old, hold, hol⟩ := RL4.out.res
  have HOLD := Lib.hid hold
  clear hold
  go_wp2_with (first | ((with_reducible refine at_ld 31 (.tmp 5) ?_); refine wpList_load_node rfl 31 (.tmp 5) rfl (w.heap.size + 1) (T.mk 19 sa 0 tk.place xs) (.slice sa1 sn1 sc1) rfl RL4.out.blk Tryd.underlying31 rfl Tryd.sizeRef ?_) | ((with_reducible refine at_st 31 (.tmp 2) ?_); refine wpList_store_blk rfl 31 (.tmp 2) (.tmp 187) rfl w.heap.size (nodeCells (T.mk 19 sa 0 tk.place xs) (.slice sa1 sn1 sc1)) rfl rfl HOLD.out Tryd.sizeRef (by rw [hol]; rfl) (nodeCells_one _ _ RL4.out.kids.one) ?_))
  exact ret_blk (cs := nodeCells (T.mk 19 sa 0 tk.place xs) (.slice sa1 sn1 sc1)) Tryd.results76 rfl HOLD.out Tryd.underlying31 rfl Tryd.sizeRef rfl (RL4.out.tot (hn2) (by
    rw [stmt_word (by rw [HT.out]; exact HK2.out) (by rw [HT.out]; exact (isT_not HI.out (b := bs [105, 102]) (by kernel_rfl))) (by rw [HT.out]; exact (isT_not HI.out (b := bs [119, 104, 105, 108, 101]) (by kernel_rfl))), HT.out, (isT_not HI.out (b := bs [102, 114, 101, 101]) (by kernel_rfl)), (isT_not HI.out (b := bs [108, 111, 99, 107]) (by kernel_rfl)), (isT_not HI.out (b := bs [117, 110, 108, 111, 99, 107]) (by kernel_rfl)), (isT_not HI.out (b := bs [114, 101, 116, 117, 114, 110]) (by kernel_rfl)), (isT_not HI.out (b := bs [97, 98, 111, 114, 116]) (by kernel_rfl)), HI.out]
    simp only [cond_true, cond_false]
    rw [show (bd (nameP l.tail) fun s l1 => bd (parensP termP l1) fun xs l2 => (.ok (T.mk 19 s 0 tk.place xs, l2) : R T)) = bd (nameTermP l.tail) fun a l1 => bd (parensP termP l1) fun xs l2 => .ok (T.mk 19 a.text 0 tk.place xs, l2) by unfold nameTermP; cases nameP l.tail <;> rfl]
    rw [rbd_bd]
    refine Sees.behind rfl (HS1.out.andThen ?_)
    rw [rbd_bd]
    exact HS2.out.andThen (HS4.out.andThen (Sees.done _ _ _ _))))

end Go.Proofs.YtnmpfpnldcgbaaaDoor
