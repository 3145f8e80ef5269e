/- More ways of lychgateref02.stmt. -/
import Derived.Test.YtnmpfpnldcgbaaaDoorRefStmt
namespace Go.Proofs.YtnmpfpnldcgbaaaDoor
open Go.RowKit

theorem lock_text (k : Int) (p : Nat) (l : List Tok) : lockP k p l = bd (nameTermP l) fun a l1 => bd (expectP [bs [91]] l1) fun _ l2 => bd (numberP l2) fun v l3 => bd (expectP [bs [93]] l3) fun _ l4 => .ok (.mk k a.text v p [], l4) := by
  unfold lockP nameTermP
  cases nameP l with
  | error e => rfl
  | ok x => rfl
theorem keyElse : keySign (bs [101, 108, 115, 101]) = true := by kernel_rfl

set_option maxRecDepth 100000 in
set_option maxHeartbeats 4000000 in
theorem rstmt_lock {E : Env} {w : World} {l : List Tok} {d : Nat} {q : Nat} (h : RSt E w l d 0 q) (hk2 : (hdT l).kind = 2) (hi : isT (hdT l) (bs [108, 111, 99, 107]) = true) (blk : List Tok → R T) :
    Calls Tryd.prog 76 #[.pointer (some ⟨E.pb, 0, none⟩)] w (RTot E w d l 0 q (stmtP blk l)) := by
  have H := Lib.hid h
  have hplt := h.plt
  have htlt := h.tlt
  have HEND := Lib.hid (h.ends.tail_is hi (by decide))
  have c0 : w.cell? ⟨E.pb, 0, none⟩ = some (.slice (some ⟨E.tb, 0, none⟩) E.ts.length E.cap) := h.blk.cell 0
  have c1 : w.cell? ⟨E.pb, 1, none⟩ = some (.int .i64 ((E.ts.length - l.length : Nat) : Int)) := h.blk.cell 1
  have cf1 := h.blk.frozen 1
  obtain ⟨t0, t1, t2, t3⟩ := h.tok
  have hk : E.ts.length - l.length < E.ts.length := by have := h.head.1; have := h.le; omega
  have hlen := h.len
  have hcap := h.capb
  have ix1 : (0 : Int) ≤ ((E.ts.length - l.length : Nat) : Int) := by omega
  have ix2 : (((E.ts.length - l.length : Nat) : Int)) < (E.ts.length : Int) := by omega
  obtain ⟨k, hidx⟩ : ∃ k, E.ts.length - l.length = k := ⟨_, rfl⟩
  have HIDX := Lib.hid hidx
  have HK2 := Lib.hid hk2
  rw [hidx] at c1 t0 t1 t2 t3 hk ix1 ix2
  clear hidx
  generalize hT : hdT l = tk at t0 t1 t2 t3 hi hk2 HK2
  have HT := Lib.hid hT
  have HI := Lib.hid hi
  have hkk : ((tk.kind : Int) == 2) = true := by rw [hk2]; rfl
  obtain ⟨s_if, s_if2⟩ := isT_no (isT_not hi (b := bs [105, 102]) (by kernel_rfl))
  obtain ⟨s_while, s_while2⟩ := isT_no (isT_not hi (b := bs [119, 104, 105, 108, 101]) (by kernel_rfl))
  obtain ⟨s_free, s_free2⟩ := isT_no (isT_not hi (b := bs [102, 114, 101, 101]) (by kernel_rfl))
  obtain ⟨s_lock, s_lock2⟩ := isT_yes hi
  obtain ⟨s_unlock, s_unlock2⟩ := isT_no (isT_not hi (b := bs [117, 110, 108, 111, 99, 107]) (by kernel_rfl))
  clear h hT t2 hi hk2
  obtain ⟨i0, z0, I⟩ := Tryd.refInfo
  go_enter Tryd.func76, Tryd.ntmps76
  go_wp2_with fail
  go_quiet (fail)
  go_wp2_with fail
  go_quiet (fail)
  go_wp2_with fail
  go_quiet (fail)
  go_wp2_with fail
  have RL0 := Lib.hid (fun N => RLoc.stmt0 H.out HEND.out N (T.mk 0 e0 0 tk.place []) rfl k HIDX.out)
  refine (rname2_tot (RL0.out _).st).mono ?_
  rintro e w1 ⟨ka, sa, na, pa, l1, f1, q1, rfl, hs1, hp1, hsee1⟩
  have RLx := Lib.hid ((RL0.out _).call hp1 hs1)
  have HS1 := Lib.hid hsee1
  have hz1 : w.heap.size + 1 < w1.heap.size := RLx.out.lt
  clear hs1 hp1 hsee1
  have n0 : w1.cell? ⟨w.heap.size + 1, 0, none⟩ = some (.int .i64 0) := RLx.out.blk.cell 0
  have nf0 := RLx.out.blk.frozen 0
  have n1 : w1.cell? ⟨w.heap.size + 1, 1, none⟩ = some (.string e0) := RLx.out.blk.cell 1
  have nf1 := RLx.out.blk.frozen 1
  have RLk := Lib.hid (((RLx.out.set 0 (.int .i64 13) (T.mk 13 e0 0 tk.place []) rfl rfl).set 1 (.string sa) (T.mk 13 sa 0 tk.place []) rfl rfl).alloc (.cells (nodeCells (T.mk ka sa na pa []) (.slice none 0 0)).toArray 31))
  go_wp2_with fail
  clear n0 nf0 n1 nf1
  refine (rmust_tot RLk.out.st (bs [91]) key91 (by decide)).mono ?_
  rintro e w2 ⟨l2, f2, q2, rfl, hs2, hp2, tk2, hsee2⟩
  have RL2 := Lib.hid (RLk.out.call hp2 hs2)
  have HS2 := Lib.hid hsee2
  clear hs2 hp2 hsee2
  go_wp2_with fail
  refine (rnumber_tot RL2.out.st).mono ?_
  rintro e w3 ⟨v3, l3, f3, q3, rfl, hs3, hp3, hsee3⟩
  have RL3 := Lib.hid (RL2.out.call hp3 hs3)
  have HS3 := Lib.hid hsee3
  clear hs3 hp3 hsee3
  have n2 : w3.cell? ⟨w.heap.size + 1, 2, none⟩ = some (.int .i64 0) := RL3.out.blk.cell 2
  have nf2 := RL3.out.blk.frozen 2
  have RL4 := Lib.hid (RL3.out.set 2 (.int .i64 v3) (T.mk 13 sa v3 tk.place []) rfl rfl)
  go_wp2_with fail
  refine (rmust_tot RL4.out.st (bs [93]) key93 (by decide)).mono ?_
  rintro e w5 ⟨l5, f5, q5, rfl, hs5, hp5, tk5, hsee5⟩
  have RL5 := Lib.hid (RL4.out.call hp5 hs5)
  have HS5 := Lib.hid hsee5
  clear hs5 hp5 hsee5 n2 nf2
  go_wp2_with fail
  refine (rmust_tot RL5.out.st (bs [59]) key59 (by decide)).mono ?_
  rintro e w6 ⟨l6, f6, q6, rfl, hs6, hp6, tk6, hsee6⟩
  have RL6 := Lib.hid (RL5.out.call hp6 hs6)
  have HS6 := Lib.hid hsee6
  clear hs6 hp6 hsee6
  obtain ⟨old, hold, hol⟩ := RL6.out.res
  have HOLD := Lib.hid hold
  clear hold
  go_wp2_with (first | ((with_reducible refine at_ld 31 (.tmp 5) ?_); refine wpList_load_node rfl 31 (.tmp 5) rfl (w.heap.size + 1) (T.mk 13 sa v3 tk.place []) (.slice none 0 0) rfl RL6.out.blk Tryd.underlying31 rfl Tryd.sizeRef ?_) | ((with_reducible refine at_st 31 (.tmp 2) ?_); refine wpList_store_blk rfl 31 (.tmp 2) (.tmp 187) rfl w.heap.size (nodeCells (T.mk 13 sa v3 tk.place []) (.slice none 0 0)) rfl rfl HOLD.out Tryd.sizeRef (by rw [hol]; rfl) (nodeCells_one _ _ RL6.out.kids.one) ?_))
  exact ret_blk (cs := nodeCells (T.mk 13 sa v3 tk.place []) (.slice none 0 0)) Tryd.results76 rfl HOLD.out Tryd.underlying31 rfl Tryd.sizeRef rfl (RL6.out.tot (by simp [T.kids]) (by
    rw [stmt_word (by rw [HT.out]; exact HK2.out) (by rw [HT.out]; exact (isT_not HI.out (b := bs [105, 102]) (by kernel_rfl))) (by rw [HT.out]; exact (isT_not HI.out (b := bs [119, 104, 105, 108, 101]) (by kernel_rfl))), HT.out, (isT_not HI.out (b := bs [102, 114, 101, 101]) (by kernel_rfl)), HI.out]
    simp only [cond_true, cond_false]
    rw [lock_text]
    rw [rbd_bd]
    refine Sees.behind rfl (HS1.out.andThen ?_)
    rw [rbd_bd]
    refine HS2.out.andThen ?_
    rw [rbd_bd]
    refine HS3.out.andThen ?_
    rw [rbd_bd]
    exact HS5.out.andThen (HS6.out.andThen (Sees.done _ _ _ _))))
set_option maxRecDepth 100000 in
set_option maxHeartbeats 4000000 in
theorem rstmt_unlock {E : Env} {w : World} {l : List Tok} {d : Nat} {q : Nat} (h : RSt E w l d 0 q) (hk2 : (hdT l).kind = 2) (hi : isT (hdT l) (bs [117, 110, 108, 111, 99, 107]) = true) (blk : List Tok → R T) :
    Calls Tryd.prog 76 #[.pointer (some ⟨E.pb, 0, none⟩)] w (RTot E w d l 0 q (stmtP blk l)) := by
  have H := Lib.hid h
  have hplt := h.plt
  have htlt := h.tlt
  have HEND := Lib.hid (h.ends.tail_is hi (by decide))
  have c0 : w.cell? ⟨E.pb, 0, none⟩ = some (.slice (some ⟨E.tb, 0, none⟩) E.ts.length E.cap) := h.blk.cell 0
  have c1 : w.cell? ⟨E.pb, 1, none⟩ = some (.int .i64 ((E.ts.length - l.length : Nat) : Int)) := h.blk.cell 1
  have cf1 := h.blk.frozen 1
  obtain ⟨t0, t1, t2, t3⟩ := h.tok
  have hk : E.ts.length - l.length < E.ts.length := by have := h.head.1; have := h.le; omega
  have hlen := h.len
  have hcap := h.capb
  have ix1 : (0 : Int) ≤ ((E.ts.length - l.length : Nat) : Int) := by omega
  have ix2 : (((E.ts.length - l.length : Nat) : Int)) < (E.ts.length : Int) := by omega
  obtain ⟨k, hidx⟩ : ∃ k, E.ts.length - l.length = k := ⟨_, rfl⟩
  have HIDX := Lib.hid hidx
  have HK2 := Lib.hid hk2
  rw [hidx] at c1 t0 t1 t2 t3 hk ix1 ix2
  clear hidx
  generalize hT : hdT l = tk at t0 t1 t2 t3 hi hk2 HK2
  have HT := Lib.hid hT
  have HI := Lib.hid hi
  have hkk : ((tk.kind : Int) == 2) = true := by rw [hk2]; rfl
  obtain ⟨s_if, s_if2⟩ := isT_no (isT_not hi (b := bs [105, 102]) (by kernel_rfl))
  obtain ⟨s_while, s_while2⟩ := isT_no (isT_not hi (b := bs [119, 104, 105, 108, 101]) (by kernel_rfl))
  obtain ⟨s_free, s_free2⟩ := isT_no (isT_not hi (b := bs [102, 114, 101, 101]) (by kernel_rfl))
  obtain ⟨s_lock, s_lock2⟩ := isT_no (isT_not hi (b := bs [108, 111, 99, 107]) (by kernel_rfl))
  obtain ⟨s_unlock, s_unlock2⟩ := isT_yes hi
  clear h hT t2 hi hk2
  obtain ⟨i0, z0, I⟩ := Tryd.refInfo
  go_enter Tryd.func76, Tryd.ntmps76
  go_wp2_with fail
  go_quiet (fail)
  go_wp2_with fail
  go_quiet (fail)
  go_wp2_with fail
  go_quiet (fail)
  go_wp2_with fail
  have RL0 := Lib.hid (fun N => RLoc.stmt0 H.out HEND.out N (T.mk 0 e0 0 tk.place []) rfl k HIDX.out)
  refine (rname2_tot (RL0.out _).st).mono ?_
  rintro e w1 ⟨ka, sa, na, pa, l1, f1, q1, rfl, hs1, hp1, hsee1⟩
  have RLx := Lib.hid ((RL0.out _).call hp1 hs1)
  have HS1 := Lib.hid hsee1
  have hz1 : w.heap.size + 1 < w1.heap.size := RLx.out.lt
  clear hs1 hp1 hsee1
  have n0 : w1.cell? ⟨w.heap.size + 1, 0, none⟩ = some (.int .i64 0) := RLx.out.blk.cell 0
  have nf0 := RLx.out.blk.frozen 0
  have n1 : w1.cell? ⟨w.heap.size + 1, 1, none⟩ = some (.string e0) := RLx.out.blk.cell 1
  have nf1 := RLx.out.blk.frozen 1
  have RLk := Lib.hid ((((RLx.out.set 0 (.int .i64 13) (T.mk 13 e0 0 tk.place []) rfl rfl).set 0 (.int .i64 14) (T.mk 14 e0 0 tk.place []) rfl rfl).set 1 (.string sa) (T.mk 14 sa 0 tk.place []) rfl rfl).alloc (.cells (nodeCells (T.mk ka sa na pa []) (.slice none 0 0)).toArray 31))
  go_wp2_with fail
  clear n0 nf0 n1 nf1
  refine (rmust_tot RLk.out.st (bs [91]) key91 (by decide)).mono ?_
  rintro e w2 ⟨l2, f2, q2, rfl, hs2, hp2, tk2, hsee2⟩
  have RL2 := Lib.hid (RLk.out.call hp2 hs2)
  have HS2 := Lib.hid hsee2
  clear hs2 hp2 hsee2
  go_wp2_with fail
  refine (rnumber_tot RL2.out.st).mono ?_
  rintro e w3 ⟨v3, l3, f3, q3, rfl, hs3, hp3, hsee3⟩
  have RL3 := Lib.hid (RL2.out.call hp3 hs3)
  have HS3 := Lib.hid hsee3
  clear hs3 hp3 hsee3
  have n2 : w3.cell? ⟨w.heap.size + 1, 2, none⟩ = some (.int .i64 0) := RL3.out.blk.cell 2
  have nf2 := RL3.out.blk.frozen 2
  have RL4 := Lib.hid (RL3.out.set 2 (.int .i64 v3) (T.mk 14 sa v3 tk.place []) rfl rfl)
  go_wp2_with fail
  refine (rmust_tot RL4.out.st (bs [93]) key93 (by decide)).mono ?_
  rintro e w5 ⟨l5, f5, q5, rfl, hs5, hp5, tk5, hsee5⟩
  have RL5 := Lib.hid (RL4.out.call hp5 hs5)
  have HS5 := Lib.hid hsee5
  clear hs5 hp5 hsee5 n2 nf2
  go_wp2_with fail
  refine (rmust_tot RL5.out.st (bs [59]) key59 (by decide)).mono ?_
  rintro e w6 ⟨l6, f6, q6, rfl, hs6, hp6, tk6, hsee6⟩
  have RL6 := Lib.hid (RL5.out.call hp6 hs6)
  have HS6 := Lib.hid hsee6
  clear hs6 hp6 hsee6
  obtain ⟨old, hold, hol⟩ := RL6.out.res
  have HOLD := Lib.hid hold
  clear hold
  go_wp2_with (first | ((with_reducible refine at_ld 31 (.tmp 5) ?_); refine wpList_load_node rfl 31 (.tmp 5) rfl (w.heap.size + 1) (T.mk 14 sa v3 tk.place []) (.slice none 0 0) rfl RL6.out.blk Tryd.underlying31 rfl Tryd.sizeRef ?_) | ((with_reducible refine at_st 31 (.tmp 2) ?_); refine wpList_store_blk rfl 31 (.tmp 2) (.tmp 187) rfl w.heap.size (nodeCells (T.mk 14 sa v3 tk.place []) (.slice none 0 0)) rfl rfl HOLD.out Tryd.sizeRef (by rw [hol]; rfl) (nodeCells_one _ _ RL6.out.kids.one) ?_))
  exact ret_blk (cs := nodeCells (T.mk 14 sa v3 tk.place []) (.slice none 0 0)) Tryd.results76 rfl HOLD.out Tryd.underlying31 rfl Tryd.sizeRef rfl (RL6.out.tot (by simp [T.kids]) (by
    rw [stmt_word (by rw [HT.out]; exact HK2.out) (by rw [HT.out]; exact (isT_not HI.out (b := bs [105, 102]) (by kernel_rfl))) (by rw [HT.out]; exact (isT_not HI.out (b := bs [119, 104, 105, 108, 101]) (by kernel_rfl))), HT.out, (isT_not HI.out (b := bs [102, 114, 101, 101]) (by kernel_rfl)), (isT_not HI.out (b := bs [108, 111, 99, 107]) (by kernel_rfl)), HI.out]
    simp only [cond_true, cond_false]
    rw [lock_text]
    rw [rbd_bd]
    refine Sees.behind rfl (HS1.out.andThen ?_)
    rw [rbd_bd]
    refine HS2.out.andThen ?_
    rw [rbd_bd]
    refine HS3.out.andThen ?_
    rw [rbd_bd]
    exact HS5.out.andThen (HS6.out.andThen (Sees.done _ _ _ _))))
set_option maxRecDepth 100000 in
set_option maxHeartbeats 4000000 in
theorem rstmt_return {E : Env} {w : World} {l : List Tok} {d : Nat} {q : Nat} (h : RSt E w l d 0 q) (hk2 : (hdT l).kind = 2) (hi : isT (hdT l) (bs [114, 101, 116, 117, 114, 110]) = true) (blk : List Tok → R T) :
    Calls Tryd.prog 76 #[.pointer (some ⟨E.pb, 0, none⟩)] w (RTot E w d l 0 q (stmtP blk l)) := by
  have H := Lib.hid h
  have hplt := h.plt
  have htlt := h.tlt
  have HEND := Lib.hid (h.ends.tail_is hi (by decide))
  have c0 : w.cell? ⟨E.pb, 0, none⟩ = some (.slice (some ⟨E.tb, 0, none⟩) E.ts.length E.cap) := h.blk.cell 0
  have c1 : w.cell? ⟨E.pb, 1, none⟩ = some (.int .i64 ((E.ts.length - l.length : Nat) : Int)) := h.blk.cell 1
  have cf1 := h.blk.frozen 1
  obtain ⟨t0, t1, t2, t3⟩ := h.tok
  have hk : E.ts.length - l.length < E.ts.length := by have := h.head.1; have := h.le; omega
  have hlen := h.len
  have hcap := h.capb
  have ix1 : (0 : Int) ≤ ((E.ts.length - l.length : Nat) : Int) := by omega
  have ix2 : (((E.ts.length - l.length : Nat) : Int)) < (E.ts.length : Int) := by omega
  obtain ⟨k, hidx⟩ : ∃ k, E.ts.length - l.length = k := ⟨_, rfl⟩
  have HIDX := Lib.hid hidx
  have HK2 := Lib.hid hk2
  rw [hidx] at c1 t0 t1 t2 t3 hk ix1 ix2
  clear hidx
  generalize hT : hdT l = tk at t0 t1 t2 t3 hi hk2 HK2
  have HT := Lib.hid hT
  have HI := Lib.hid hi
  have hkk : ((tk.kind : Int) == 2) = true := by rw [hk2]; rfl
  obtain ⟨s_if, s_if2⟩ := isT_no (isT_not hi (b := bs [105, 102]) (by kernel_rfl))
  obtain ⟨s_while, s_while2⟩ := isT_no (isT_not hi (b := bs [119, 104, 105, 108, 101]) (by kernel_rfl))
  obtain ⟨s_free, s_free2⟩ := isT_no (isT_not hi (b := bs [102, 114, 101, 101]) (by kernel_rfl))
  obtain ⟨s_lock, s_lock2⟩ := isT_no (isT_not hi (b := bs [108, 111, 99, 107]) (by kernel_rfl))
  obtain ⟨s_unlock, s_unlock2⟩ := isT_no (isT_not hi (b := bs [117, 110, 108, 111, 99, 107]) (by kernel_rfl))
  obtain ⟨s_return, s_return2⟩ := isT_yes hi
  clear h hT t2 hi hk2
  obtain ⟨i0, z0, I⟩ := Tryd.refInfo
  go_enter Tryd.func76, Tryd.ntmps76
  go_wp2_with fail
  go_quiet (fail)
  go_wp2_with fail
  go_quiet (fail)
  go_wp2_with fail
  go_quiet (fail)
  go_wp2_with fail
  have RL0 := Lib.hid (fun N => RLoc.stmt0 H.out HEND.out N (T.mk 17 e0 0 tk.place []) rfl k HIDX.out)
  refine (ris_tot (RL0.out _).st (bs [59]) key59).mono ?_
  rintro e w1 ⟨rfl, hs1, hp1⟩
  have RL1 := Lib.hid ((RL0.out _).call hp1 hs1)
  clear hs1 hp1
  cases hsc : ((0 : Int) == 0 && isT (hdT l.tail) (bs [59])) with
  | true =>
    have hsc2 : isT (hdT l.tail) (bs [59]) = true := by simpa using hsc
    go_wp2_with fail
    refine (rmust_tot RL1.out.st (bs [59]) key59 (by decide)).mono ?_
    rintro e w2 ⟨l2, f2, q2, rfl, hs2, hp2, tk2, hsee2⟩
    have RL2 := Lib.hid (RL1.out.call hp2 hs2)
    have HS2 := Lib.hid hsee2
    clear hs2 hp2 hsee2
    obtain ⟨old, hold, hol⟩ := RL2.out.res
    have HOLD := Lib.hid hold
    clear hold
    go_wp2_with (first | ((with_reducible refine at_ld 31 (.tmp 5) ?_); refine wpList_load_node rfl 31 (.tmp 5) rfl (w.heap.size + 1) (T.mk 17 e0 0 tk.place []) (.slice none 0 0) rfl RL2.out.blk Tryd.underlying31 rfl Tryd.sizeRef ?_) | ((with_reducible refine at_st 31 (.tmp 2) ?_); refine wpList_store_blk rfl 31 (.tmp 2) (.tmp 187) rfl w.heap.size (nodeCells (T.mk 17 e0 0 tk.place []) (.slice none 0 0)) rfl rfl HOLD.out Tryd.sizeRef (by rw [hol]; rfl) (nodeCells_one _ _ RL2.out.kids.one) ?_))
    exact ret_blk (cs := nodeCells (T.mk 17 e0 0 tk.place []) (.slice none 0 0)) Tryd.results76 rfl HOLD.out Tryd.underlying31 rfl Tryd.sizeRef rfl (RL2.out.tot (by simp [T.kids]) (by
      rw [stmt_word (by rw [HT.out]; exact HK2.out) (by rw [HT.out]; exact (isT_not HI.out (b := bs [105, 102]) (by kernel_rfl))) (by rw [HT.out]; exact (isT_not HI.out (b := bs [119, 104, 105, 108, 101]) (by kernel_rfl))), HT.out, (isT_not HI.out (b := bs [102, 114, 101, 101]) (by kernel_rfl)), (isT_not HI.out (b := bs [108, 111, 99, 107]) (by kernel_rfl)), (isT_not HI.out (b := bs [117, 110, 108, 111, 99, 107]) (by kernel_rfl)), HI.out]
      simp only [cond_true, cond_false]
      unfold returnP
      rw [hsc2]
      exact Sees.behind rfl (HS2.out.andThen (Sees.done _ _ _ _))))
  | false =>
    have hsc2 : isT (hdT l.tail) (bs [59]) = false := by simpa using hsc
    go_wp2_with fail
    refine (rterm_tot RL1.out.st).mono ?_
    rintro e w2 ⟨t2, v2, l2, f2, q2, rfl, hk2, hn2, hs2, hp2, hsee2⟩
    have RL2 := Lib.hid (RL1.out.call hp2 hs2)
    have HV2 := Lib.hid (RL1.out.fresh1 hk2)
    have RL3 := Lib.hid (RL2.out.kid1 RL1.out hk2)
    have HS2 := Lib.hid hsee2
    have hz2 : w.heap.size + 1 < w2.heap.size := RL2.out.lt
    have hz3 : w.heap.size < w2.heap.size := by omega
    have hz4 : w.heap.size ≠ w2.heap.size := by omega
    have hz5 : w.heap.size + 1 ≠ w2.heap.size := by omega
    have n4 : w2.cell? ⟨w.heap.size + 1, 4, none⟩ = some (.slice none 0 0) := RL2.out.blk.cell 4
    have nf4 : w2.frozen? ⟨w.heap.size + 1, 4, none⟩ = false := RL2.out.blk.frozen 4
    clear hk2 hs2 hp2 hsee2
    unfold NodeV
    go_wp2_with (first | ((with_reducible refine at_st 31 (.tmp 11) ?_); refine wpList_store_new rfl 31 (.tmp 11) (.tmp 151) rfl (nodeCells t2 v2) (old := zeroNodeCells) rfl rfl Tryd.sizeRef rfl (nodeCells_one _ _ HV2.out.one) ?_) | ((with_reducible refine at_ld 31 (.tmp 11) ?_); refine wpList_load_node rfl 31 (.tmp 11) rfl w2.heap.size t2 v2 rfl (Blk.new w2 _ _) Tryd.underlying31 rfl Tryd.sizeRef ?_))
    refine (rmust_tot RL3.out.st (bs [59]) key59 (by decide)).mono ?_
    rintro e w4 ⟨l4, f4, q4, rfl, hs4, hp4, tk4, hsee4⟩
    have RL4 := Lib.hid (RL3.out.call hp4 hs4)
    have HS4 := Lib.hid hsee4
    clear hs4 hp4 hsee4
    obtain ⟨old, hold, hol⟩ := RL4.out.res
    have HOLD := Lib.hid hold
    clear hold
    go_wp2_with (first | ((with_reducible refine at_ld 31 (.tmp 5) ?_); refine wpList_load_node rfl 31 (.tmp 5) rfl (w.heap.size + 1) (T.mk 17 e0 0 tk.place [t2]) (.slice (some ⟨w2.heap.size + 1, 0, none⟩) 1 1) rfl RL4.out.blk Tryd.underlying31 rfl Tryd.sizeRef ?_) | ((with_reducible refine at_st 31 (.tmp 2) ?_); refine wpList_store_blk rfl 31 (.tmp 2) (.tmp 187) rfl w.heap.size (nodeCells (T.mk 17 e0 0 tk.place [t2]) (.slice (some ⟨w2.heap.size + 1, 0, none⟩) 1 1)) rfl rfl HOLD.out Tryd.sizeRef (by rw [hol]; rfl) (nodeCells_one _ _ RL4.out.kids.one) ?_))
    exact ret_blk (cs := nodeCells (T.mk 17 e0 0 tk.place [t2]) (.slice (some ⟨w2.heap.size + 1, 0, none⟩) 1 1)) Tryd.results76 rfl HOLD.out Tryd.underlying31 rfl Tryd.sizeRef rfl (RL4.out.tot (by show 1 ≤ 40000; decide) (by
      rw [stmt_word (by rw [HT.out]; exact HK2.out) (by rw [HT.out]; exact (isT_not HI.out (b := bs [105, 102]) (by kernel_rfl))) (by rw [HT.out]; exact (isT_not HI.out (b := bs [119, 104, 105, 108, 101]) (by kernel_rfl))), HT.out, (isT_not HI.out (b := bs [102, 114, 101, 101]) (by kernel_rfl)), (isT_not HI.out (b := bs [108, 111, 99, 107]) (by kernel_rfl)), (isT_not HI.out (b := bs [117, 110, 108, 111, 99, 107]) (by kernel_rfl)), HI.out]
      simp only [cond_true, cond_false]
      unfold returnP
      rw [hsc2]
      simp only [cond_false]
      rw [rbd_bd]
      exact Sees.behind rfl (HS2.out.andThen (HS4.out.andThen (Sees.done _ _ _ _)))))

end Go.Proofs.YtnmpfpnldcgbaaaDoor
