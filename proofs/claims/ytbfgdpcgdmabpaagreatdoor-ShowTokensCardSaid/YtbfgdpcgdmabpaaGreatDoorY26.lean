/- The contract of the writer's term. -/
import Derived.Test.YtbfgdpcgdmabpaaGreatDoorY25
import Derived.Test.YtbfgdpcgdmabpaaGreatDoorY18
namespace Go.Proofs.YtbfgdpcgdmabpaaGreatDoor
set_option maxRecDepth 100000
set_option maxHeartbeats 2000000
open Go.RowKit
theorem Wm.below {W0:World} {B g c1 c2 q:Nat} {t:T} {kv:Value} {l:List UInt8} {d:Nat} {W W':World} (h:Wm W0 B g c1 c2 q t kv l d W) (hb:Below W.heap.size W W'):Wm W0 B g c1 c2 q t kv l d W' :=
 h.step (h.n.st.below hb) (hb.mono h.n.bz) (Oth.of_below hb)
theorem zRr (l:List UInt8):tb ⟨l.toArray⟩=l:=rfl
theorem zgs (l:List UInt8):tb ((⟨l.toArray⟩:ByteArray).extract 1 l.length)=l.drop 1:=by
 unfold tb
 rw [ByteArray.data_extract]
 simp
 exact List.take_of_length_le (by simp)
theorem zYs {B g c1 c2:Nat} {kk:Int} {s:ByteArray} {nm:Int} {p:Nat} {ks:List T} {kv:Value} {l:List UInt8} {d:Nat} {w:World} (h:Wn B g c1 c2 (T.mk kk s nm p ks) kv l d w) (hk:zWb B g c1 c2 (T.mk kk s nm p ks) kv) (hn:-1099511627776≤nm∧nm≤1099511627776) (hl:l.length+(zTb (tb s) nm).length≤140737488355328) :
  Calls Tryz.prog 89 #[.pointer (some ⟨g,0,none⟩),.agg #[.int .i64 kk,.string s,.int .i64 nm,.int .i64 p,kv]] w (zMa B g (l++(zTb (tb s) nm)) d w):=by
 have HT:=zh (zCk s)
 have hdl:=zto hn
 have hgt:=h.t
 by_cases b1:s.toList=[]
 ·have t1:(s.toList == [])=true:=by rw [b1];rfl
  have hX:zTb (tb s) nm=dec nm:=by unfold zTb;rw [if_pos (by rw [HT.out];exact b1)]
  rw [hX] at hl ⊢
  clear hX
  clear b1
  have HK:=zh hk
  have HL:=zh hl
  obtain ⟨W0,hW0,HM0⟩:∃ W,w.alloc (.cells [.int .i64 kk,.string s,.int .i64 nm,.int .i64 p,kv].toArray 25)=W∧Hid (Wm w B g c1 c2 w.heap.size _ _ l d W):=⟨_,rfl,zh (Wm.start h)⟩
  have e0_1:W0.cell? ⟨w.heap.size,1,none⟩=some (.string s):=HM0.out.q.cell 1
  have e0_2:W0.cell? ⟨w.heap.size,2,none⟩=some (.int .i64 nm):=HM0.out.q.cell 2
  clear h hk hl
  go_enter Tryz.func89,Tryz.ntmps89
  go_wp2_with fail
  refine (zrg HM0.out.n.t nm hn).mono ?_
  rintro e w1 ⟨rfl,hb⟩
  have HM1:=zh (HM0.out.below hb)
  clear hb
  have e1_1:w1.cell? ⟨w.heap.size,1,none⟩=some (.string s):=HM1.out.q.cell 1
  have e1_2:w1.cell? ⟨w.heap.size,2,none⟩=some (.int .i64 nm):=HM1.out.q.cell 2
  go_wp2_with fail
  refine (puts HM1.out.n.st [⟨(dec nm).toArray⟩] 1 _ _ rfl rfl rfl (by omega) (by have hl:=HL.out;simp [cat,tb] at hl ⊢;omega)).mono ?_
  rintro e w2 ⟨rfl,hs,hb,ho⟩
  have HM2:=zh (HM1.out.step hs hb ho)
  clear hs hb ho
  have e2_1:w2.cell? ⟨w.heap.size,1,none⟩=some (.string s):=HM2.out.q.cell 1
  have e2_2:w2.cell? ⟨w.heap.size,2,none⟩=some (.int .i64 nm):=HM2.out.q.cell 2
  go_wp2_with fail
  go_end0
  have h:=HM2.out.post
  simpa [cat,tb,zRr] using h
 ·have t1:(s.toList == [])=false:=beq_eq_false_iff_ne.2 b1
  have b1':¬ tb s=[]:=by rw [HT.out];exact b1
  by_cases b2:0<nm
  ·have t2:decide (0<nm)=true:=decide_eq_true b2
   have hX:zTb (tb s) nm=tb s++([32,43,32]++dec nm):=by unfold zTb;rw [if_neg b1',if_pos b2]
   rw [hX] at hl ⊢
   clear hX
   clear b1 b1'
   have HK:=zh hk
   have HL:=zh hl
   obtain ⟨W0,hW0,HM0⟩:∃ W,w.alloc (.cells [.int .i64 kk,.string s,.int .i64 nm,.int .i64 p,kv].toArray 25)=W∧Hid (Wm w B g c1 c2 w.heap.size _ _ l d W):=⟨_,rfl,zh (Wm.start h)⟩
   have e0_1:W0.cell? ⟨w.heap.size,1,none⟩=some (.string s):=HM0.out.q.cell 1
   have e0_2:W0.cell? ⟨w.heap.size,2,none⟩=some (.int .i64 nm):=HM0.out.q.cell 2
   clear h hk hl
   go_enter Tryz.func89,Tryz.ntmps89
   go_wp2_with fail
   refine (zrg HM0.out.n.t nm hn).mono ?_
   rintro e w1 ⟨rfl,hb⟩
   have HM1:=zh (HM0.out.below hb)
   clear hb
   have e1_1:w1.cell? ⟨w.heap.size,1,none⟩=some (.string s):=HM1.out.q.cell 1
   have e1_2:w1.cell? ⟨w.heap.size,2,none⟩=some (.int .i64 nm):=HM1.out.q.cell 2
   go_wp2_with fail
   refine (puts HM1.out.n.st [s,⟨#[32,43,32]⟩,⟨(dec nm).toArray⟩] 3 _ _ rfl rfl rfl (by omega) (by have hl:=HL.out;simp [cat,tb] at hl ⊢;omega)).mono ?_
   rintro e w2 ⟨rfl,hs,hb,ho⟩
   have HM2:=zh (HM1.out.step hs hb ho)
   clear hs hb ho
   have e2_1:w2.cell? ⟨w.heap.size,1,none⟩=some (.string s):=HM2.out.q.cell 1
   have e2_2:w2.cell? ⟨w.heap.size,2,none⟩=some (.int .i64 nm):=HM2.out.q.cell 2
   go_wp2_with fail
   go_end0
   have h:=HM2.out.post
   simpa [cat,tb,zRr] using h
  ·by_cases b3:nm<0
   ·skip
    have hX:zTb (tb s) nm=tb s++([32,45,32]++(dec nm).drop 1):=by unfold zTb;rw [if_neg b1',if_neg b2,if_pos b3]
    rw [hX] at hl ⊢
    clear hX
    clear b1 b1' b2
    have HK:=zh hk
    have HL:=zh hl
    obtain ⟨W0,hW0,HM0⟩:∃ W,w.alloc (.cells [.int .i64 kk,.string s,.int .i64 nm,.int .i64 p,kv].toArray 25)=W∧Hid (Wm w B g c1 c2 w.heap.size _ _ l d W):=⟨_,rfl,zh (Wm.start h)⟩
    have e0_1:W0.cell? ⟨w.heap.size,1,none⟩=some (.string s):=HM0.out.q.cell 1
    have e0_2:W0.cell? ⟨w.heap.size,2,none⟩=some (.int .i64 nm):=HM0.out.q.cell 2
    clear h hk hl
    go_enter Tryz.func89,Tryz.ntmps89
    go_wp2_with fail
    refine (zrg HM0.out.n.t nm hn).mono ?_
    rintro e w1 ⟨rfl,hb⟩
    have HM1:=zh (HM0.out.below hb)
    clear hb
    have e1_1:w1.cell? ⟨w.heap.size,1,none⟩=some (.string s):=HM1.out.q.cell 1
    have e1_2:w1.cell? ⟨w.heap.size,2,none⟩=some (.int .i64 nm):=HM1.out.q.cell 2
    have HD:=zh (show 1≤(dec nm).length from by have:=(zzg nm).2;cases h:dec nm with|nil=>exact absurd h this|cons a r=>simp)
    have hd1:=HD.out
    go_wp2_with fail
    refine wp_region_held_drew (S:=fun W=>Blk W w.heap.size (zaa (T.mk kk s nm p ks) kv) 25) (by kernel_rfl) HM1.out.q.drew (fun hS=>?_)
    refine wpAnyH_take (i:=0) (oi:=⟨some 35,_,_,_,_,_⟩) (v:=.pointer (some ⟨g,0,none⟩)) rfl (by kernel_rfl) (by kernel_rfl) (by kernel_rfl) (fun _ _ _ h=>h) (Or.inl ⟨by rfl,fun W _=>by go_simp⟩) hS ?_
    try simp only [Act.put,List.setIfInBounds_toArray,List.set_cons_zero,List.set_cons_succ]
    refine wpAnyH_take (i:=1) (oi:=⟨some 36,_,_,_,_,_⟩) (v:=.pointer (some ⟨w.heap.size,1,none⟩)) rfl (by kernel_rfl) (by kernel_rfl) (by kernel_rfl) (fun _ _ _ h=>h) (Or.inl ⟨by rfl,fun W _=>by go_simp⟩) hS ?_
    try simp only [Act.put,List.setIfInBounds_toArray,List.set_cons_zero,List.set_cons_succ]
    refine wpAnyH_take (i:=2) (oi:=⟨some 37,_,_,_,_,_⟩) (v:=.string s) rfl (by kernel_rfl) (by kernel_rfl) (by kernel_rfl) (fun _ _ _ h=>h) (Or.inl ⟨by rfl,fun W hW=>by have hcx:W.cell? ⟨w.heap.size,1,none⟩=some (.string s):=hW.cell 1;go_simp⟩) hS ?_
    try simp only [Act.put,List.setIfInBounds_toArray,List.set_cons_zero,List.set_cons_succ]
    refine wpAnyH_take (i:=3) (oi:=⟨some 38,_,_,_,_,_⟩) (v:=.string ⟨(dec nm).toArray⟩) rfl (by kernel_rfl) (by kernel_rfl) (by kernel_rfl) (fun _ _ _ h=>h) (Or.inl ⟨by rfl,fun W _=>by go_simp⟩) hS ?_
    try simp only [Act.put,List.setIfInBounds_toArray,List.set_cons_zero,List.set_cons_succ]
    refine wpAnyH_take (i:=4) (oi:=⟨some 39,_,_,_,_,_⟩) (v:=.string ((⟨(dec nm).toArray⟩:ByteArray).extract 1 (dec nm).length)) rfl (by kernel_rfl) (by kernel_rfl) (by kernel_rfl) (fun _ _ _ h=>h) (Or.inl ⟨by rfl,fun W _=>by go_simp;intro h;omega⟩) hS ?_
    try simp only [Act.put,List.setIfInBounds_toArray,List.set_cons_zero,List.set_cons_succ]
    refine AnyH.only (i:=5) (o:=⟨some 40,_,_,_,_,_⟩) (by kernel_rfl) rfl (by rfl) (fun K hK=>?_)
    go_simp
    refine hK.out _ _ (HM1.out.q.alloc _) ?_
    clear hK K hS
    have hS:Blk w1.drew w.heap.size (zaa (T.mk kk s nm p ks) kv) 25:=HM1.out.q.drew
    have HM2:=zh (HM1.out.below (show Below w1.heap.size w1 w1.drew from (Below.refl _ _).drew))
    try simp only [Act.put,List.setIfInBounds_toArray,List.set_cons_zero,List.set_cons_succ]
    refine AnyH.only (i:=6) (o:=⟨some 41,_,_,_,_,_⟩) (by kernel_rfl) rfl (by rfl) (fun K hK=>?_)
    go_simp
    refine (puts HM2.out.n.st [s,⟨#[32,45,32]⟩,(⟨(dec nm).toArray⟩:ByteArray).extract 1 (dec nm).length] 3 _ _ rfl rfl rfl (by omega) (by have hl:=HL.out;rw [zrl,zgs];simp [tb] at hl ⊢;omega)).mono ?_
    rintro e w3 ⟨rfl,hs,hb,ho⟩
    have HM3:=zh (HM2.out.step hs hb ho)
    clear hs hb ho
    have e3_1:w3.cell? ⟨w.heap.size,1,none⟩=some (.string s):=HM3.out.q.cell 1
    have e3_2:w3.cell? ⟨w.heap.size,2,none⟩=some (.int .i64 nm):=HM3.out.q.cell 2
    refine hK.out _ _ HM3.out.q ?_
    clear hK K hS
    try simp only [Act.put,List.setIfInBounds_toArray,List.set_cons_zero,List.set_cons_succ]
    refine wpAnyH_done (by kernel_rfl) ?_ _
    go_wp2_with fail
    go_end0
    have h:=HM3.out.post
    rw [zrl,zgs] at h
    simpa [tb] using h
   ·skip
    have hX:zTb (tb s) nm=tb s:=by unfold zTb;rw [if_neg b1',if_neg b2,if_neg b3]
    rw [hX] at hl ⊢
    clear hX
    clear b1 b1'
    have HK:=zh hk
    have HL:=zh hl
    obtain ⟨W0,hW0,HM0⟩:∃ W,w.alloc (.cells [.int .i64 kk,.string s,.int .i64 nm,.int .i64 p,kv].toArray 25)=W∧Hid (Wm w B g c1 c2 w.heap.size _ _ l d W):=⟨_,rfl,zh (Wm.start h)⟩
    have e0_1:W0.cell? ⟨w.heap.size,1,none⟩=some (.string s):=HM0.out.q.cell 1
    have e0_2:W0.cell? ⟨w.heap.size,2,none⟩=some (.int .i64 nm):=HM0.out.q.cell 2
    clear h hk hl
    go_enter Tryz.func89,Tryz.ntmps89
    go_wp2_with fail
    refine (zrg HM0.out.n.t nm hn).mono ?_
    rintro e w1 ⟨rfl,hb⟩
    have HM1:=zh (HM0.out.below hb)
    clear hb
    have e1_1:w1.cell? ⟨w.heap.size,1,none⟩=some (.string s):=HM1.out.q.cell 1
    have e1_2:w1.cell? ⟨w.heap.size,2,none⟩=some (.int .i64 nm):=HM1.out.q.cell 2
    go_wp2_with fail
    refine (puts HM1.out.n.st [s] 1 _ _ rfl rfl rfl (by omega) (by have hl:=HL.out;simp [cat,tb] at hl ⊢;omega)).mono ?_
    rintro e w2 ⟨rfl,hs,hb,ho⟩
    have HM2:=zh (HM1.out.step hs hb ho)
    clear hs hb ho
    have e2_1:w2.cell? ⟨w.heap.size,1,none⟩=some (.string s):=HM2.out.q.cell 1
    have e2_2:w2.cell? ⟨w.heap.size,2,none⟩=some (.int .i64 nm):=HM2.out.q.cell 2
    go_wp2_with fail
    go_end0
    have h:=HM2.out.post
    simpa [cat,tb] using h
end Go.Proofs.YtbfgdpcgdmabpaaGreatDoor
namespace Go.Proofs.YtbfgdpcgdmabpaaGreatDoor
set_option maxRecDepth 100000
set_option maxHeartbeats 2000000
open Go.RowKit
theorem zGt {B g c1 c2:Nat} {s:ByteArray} {nm:Int} {p:Nat} {ks:List T} {kv:Value} {l:List UInt8} {d:Nat} {w:World} {u:T} (h:Wn B g c1 c2 (T.mk 10 s nm p ks) kv l d w) (hk:zWb B g c1 c2 (T.mk 10 s nm p ks) kv) (h0:ks[0]?=some u) (hl:l.length+(tb s++([32,61,32]++shw d u)).length≤140737488355328) :
  Calls Tryz.prog 94 #[.pointer (some ⟨g,0,none⟩),.agg #[.int .i64 10,.string s,.int .i64 nm,.int .i64 p,kv],.func (.func 44) #[] #[.pointer (some ⟨c1,0,none⟩),.pointer (some ⟨c2,0,none⟩)]] w (zMa B g (l++(tb s++([32,61,32]++shw d u))) d w):=by
 have HK:=zh hk
 have HL:=zh hl
 obtain ⟨W0,hW0,HM0⟩:∃ W,w.alloc (.cells [.int .i64 10,.string s,.int .i64 nm,.int .i64 p,kv].toArray 25)=W∧Hid (Wm w B g c1 c2 w.heap.size _ _ l d W):=⟨_,rfl,zh (Wm.start h)⟩
 have e0_0:W0.cell? ⟨w.heap.size,0,none⟩=some (.int .i64 10):=HM0.out.q.cell 0
 have e0_1:W0.cell? ⟨w.heap.size,1,none⟩=some (.string s):=HM0.out.q.cell 1
 have e0_2:W0.cell? ⟨w.heap.size,2,none⟩=some (.int .i64 nm):=HM0.out.q.cell 2
 have e0_3:W0.cell? ⟨w.heap.size,3,none⟩=some (.int .i64 p):=HM0.out.q.cell 3
 have e0_4:W0.cell? ⟨w.heap.size,4,none⟩=some (kv):=HM0.out.q.cell 4
 clear h hk hl
 go_enter Tryz.func94,Tryz.ntmps94
 go_wp2_with fail
 refine (puts HM0.out.n.st [s,⟨#[32,61,32]⟩] 2 _ _ rfl rfl rfl (by omega) (by have hl:=HL.out;simp [cat,tb] at hl ⊢;omega)).mono ?_
 rintro e w1 ⟨rfl,hs,hb,ho⟩
 have HM1:=zh (HM0.out.step hs hb ho)
 clear hs hb ho
 have e1_0:w1.cell? ⟨w.heap.size,0,none⟩=some (.int .i64 10):=HM1.out.q.cell 0
 have e1_1:w1.cell? ⟨w.heap.size,1,none⟩=some (.string s):=HM1.out.q.cell 1
 have e1_2:w1.cell? ⟨w.heap.size,2,none⟩=some (.int .i64 nm):=HM1.out.q.cell 2
 have e1_3:w1.cell? ⟨w.heap.size,3,none⟩=some (.int .i64 p):=HM1.out.q.cell 3
 have e1_4:w1.cell? ⟨w.heap.size,4,none⟩=some (kv):=HM1.out.q.cell 4
 go_wp2_with fail
 refine (HK.out.get _ 0 _ (by omega) HM1.out.n h0 (by have hl:=HL.out;simp [cat,tb] at hl ⊢;omega)).mono ?_
 rintro e w2 ⟨rfl,hs,hb,ho⟩
 have HM2:=zh (HM1.out.step hs hb ho)
 clear hs hb ho
 have e2_0:w2.cell? ⟨w.heap.size,0,none⟩=some (.int .i64 10):=HM2.out.q.cell 0
 have e2_1:w2.cell? ⟨w.heap.size,1,none⟩=some (.string s):=HM2.out.q.cell 1
 have e2_2:w2.cell? ⟨w.heap.size,2,none⟩=some (.int .i64 nm):=HM2.out.q.cell 2
 have e2_3:w2.cell? ⟨w.heap.size,3,none⟩=some (.int .i64 p):=HM2.out.q.cell 3
 have e2_4:w2.cell? ⟨w.heap.size,4,none⟩=some (kv):=HM2.out.q.cell 4
 go_wp2_with fail
 go_end0
 have h:=HM2.out.post
 simpa [cat,tb] using h
theorem znu {B g c1 c2:Nat} {s:ByteArray} {nm:Int} {p:Nat} {ks:List T} {kv:Value} {l:List UInt8} {d:Nat} {w:World} {u v:T} (h:Wn B g c1 c2 (T.mk 11 s nm p ks) kv l d w) (hk:zWb B g c1 c2 (T.mk 11 s nm p ks) kv) (h0:ks[0]?=some u) (h1:ks[1]?=some v) (hl:l.length+(tb s++([91]++(shw d u++([93,32,61,32]++shw d v)))).length≤140737488355328) :
  Calls Tryz.prog 94 #[.pointer (some ⟨g,0,none⟩),.agg #[.int .i64 11,.string s,.int .i64 nm,.int .i64 p,kv],.func (.func 44) #[] #[.pointer (some ⟨c1,0,none⟩),.pointer (some ⟨c2,0,none⟩)]] w (zMa B g (l++(tb s++([91]++(shw d u++([93,32,61,32]++shw d v))))) d w):=by
 have HK:=zh hk
 have HL:=zh hl
 obtain ⟨W0,hW0,HM0⟩:∃ W,w.alloc (.cells [.int .i64 11,.string s,.int .i64 nm,.int .i64 p,kv].toArray 25)=W∧Hid (Wm w B g c1 c2 w.heap.size _ _ l d W):=⟨_,rfl,zh (Wm.start h)⟩
 have e0_0:W0.cell? ⟨w.heap.size,0,none⟩=some (.int .i64 11):=HM0.out.q.cell 0
 have e0_1:W0.cell? ⟨w.heap.size,1,none⟩=some (.string s):=HM0.out.q.cell 1
 have e0_2:W0.cell? ⟨w.heap.size,2,none⟩=some (.int .i64 nm):=HM0.out.q.cell 2
 have e0_3:W0.cell? ⟨w.heap.size,3,none⟩=some (.int .i64 p):=HM0.out.q.cell 3
 have e0_4:W0.cell? ⟨w.heap.size,4,none⟩=some (kv):=HM0.out.q.cell 4
 clear h hk hl
 go_enter Tryz.func94,Tryz.ntmps94
 go_wp2_with fail
 refine (puts HM0.out.n.st [s,⟨#[91]⟩] 2 _ _ rfl rfl rfl (by omega) (by have hl:=HL.out;simp [cat,tb] at hl ⊢;omega)).mono ?_
 rintro e w1 ⟨rfl,hs,hb,ho⟩
 have HM1:=zh (HM0.out.step hs hb ho)
 clear hs hb ho
 have e1_0:w1.cell? ⟨w.heap.size,0,none⟩=some (.int .i64 11):=HM1.out.q.cell 0
 have e1_1:w1.cell? ⟨w.heap.size,1,none⟩=some (.string s):=HM1.out.q.cell 1
 have e1_2:w1.cell? ⟨w.heap.size,2,none⟩=some (.int .i64 nm):=HM1.out.q.cell 2
 have e1_3:w1.cell? ⟨w.heap.size,3,none⟩=some (.int .i64 p):=HM1.out.q.cell 3
 have e1_4:w1.cell? ⟨w.heap.size,4,none⟩=some (kv):=HM1.out.q.cell 4
 go_wp2_with fail
 refine (HK.out.get _ 0 _ (by omega) HM1.out.n h0 (by have hl:=HL.out;simp [cat,tb] at hl ⊢;omega)).mono ?_
 rintro e w2 ⟨rfl,hs,hb,ho⟩
 have HM2:=zh (HM1.out.step hs hb ho)
 clear hs hb ho
 have e2_0:w2.cell? ⟨w.heap.size,0,none⟩=some (.int .i64 11):=HM2.out.q.cell 0
 have e2_1:w2.cell? ⟨w.heap.size,1,none⟩=some (.string s):=HM2.out.q.cell 1
 have e2_2:w2.cell? ⟨w.heap.size,2,none⟩=some (.int .i64 nm):=HM2.out.q.cell 2
 have e2_3:w2.cell? ⟨w.heap.size,3,none⟩=some (.int .i64 p):=HM2.out.q.cell 3
 have e2_4:w2.cell? ⟨w.heap.size,4,none⟩=some (kv):=HM2.out.q.cell 4
 go_wp2_with fail
 refine (puts HM2.out.n.st [⟨#[93,32,61,32]⟩] 1 _ _ rfl rfl rfl (by omega) (by have hl:=HL.out;simp [cat,tb] at hl ⊢;omega)).mono ?_
 rintro e w3 ⟨rfl,hs,hb,ho⟩
 have HM3:=zh (HM2.out.step hs hb ho)
 clear hs hb ho
 have e3_0:w3.cell? ⟨w.heap.size,0,none⟩=some (.int .i64 11):=HM3.out.q.cell 0
 have e3_1:w3.cell? ⟨w.heap.size,1,none⟩=some (.string s):=HM3.out.q.cell 1
 have e3_2:w3.cell? ⟨w.heap.size,2,none⟩=some (.int .i64 nm):=HM3.out.q.cell 2
 have e3_3:w3.cell? ⟨w.heap.size,3,none⟩=some (.int .i64 p):=HM3.out.q.cell 3
 have e3_4:w3.cell? ⟨w.heap.size,4,none⟩=some (kv):=HM3.out.q.cell 4
 go_wp2_with fail
 refine (HK.out.get _ 1 _ (by omega) HM3.out.n h1 (by have hl:=HL.out;simp [cat,tb] at hl ⊢;omega)).mono ?_
 rintro e w4 ⟨rfl,hs,hb,ho⟩
 have HM4:=zh (HM3.out.step hs hb ho)
 clear hs hb ho
 have e4_0:w4.cell? ⟨w.heap.size,0,none⟩=some (.int .i64 11):=HM4.out.q.cell 0
 have e4_1:w4.cell? ⟨w.heap.size,1,none⟩=some (.string s):=HM4.out.q.cell 1
 have e4_2:w4.cell? ⟨w.heap.size,2,none⟩=some (.int .i64 nm):=HM4.out.q.cell 2
 have e4_3:w4.cell? ⟨w.heap.size,3,none⟩=some (.int .i64 p):=HM4.out.q.cell 3
 have e4_4:w4.cell? ⟨w.heap.size,4,none⟩=some (kv):=HM4.out.q.cell 4
 go_wp2_with fail
 go_end0
 have h:=HM4.out.post
 simpa [cat,tb] using h
theorem zPt {B g c1 c2:Nat} {s:ByteArray} {nm:Int} {p:Nat} {ks:List T} {kv:Value} {l:List UInt8} {d:Nat} {w:World} (h:Wn B g c1 c2 (T.mk 12 s nm p ks) kv l d w) (hk:zWb B g c1 c2 (T.mk 12 s nm p ks) kv) (hl:l.length+([102,114,101,101,32]++tb s).length≤140737488355328) :
  Calls Tryz.prog 94 #[.pointer (some ⟨g,0,none⟩),.agg #[.int .i64 12,.string s,.int .i64 nm,.int .i64 p,kv],.func (.func 44) #[] #[.pointer (some ⟨c1,0,none⟩),.pointer (some ⟨c2,0,none⟩)]] w (zMa B g (l++([102,114,101,101,32]++tb s)) d w):=by
 have HK:=zh hk
 have HL:=zh hl
 obtain ⟨W0,hW0,HM0⟩:∃ W,w.alloc (.cells [.int .i64 12,.string s,.int .i64 nm,.int .i64 p,kv].toArray 25)=W∧Hid (Wm w B g c1 c2 w.heap.size _ _ l d W):=⟨_,rfl,zh (Wm.start h)⟩
 have e0_0:W0.cell? ⟨w.heap.size,0,none⟩=some (.int .i64 12):=HM0.out.q.cell 0
 have e0_1:W0.cell? ⟨w.heap.size,1,none⟩=some (.string s):=HM0.out.q.cell 1
 have e0_2:W0.cell? ⟨w.heap.size,2,none⟩=some (.int .i64 nm):=HM0.out.q.cell 2
 have e0_3:W0.cell? ⟨w.heap.size,3,none⟩=some (.int .i64 p):=HM0.out.q.cell 3
 have e0_4:W0.cell? ⟨w.heap.size,4,none⟩=some (kv):=HM0.out.q.cell 4
 clear h hk hl
 go_enter Tryz.func94,Tryz.ntmps94
 go_wp2_with fail
 refine (puts HM0.out.n.st [⟨#[102,114,101,101,32]⟩,s] 2 _ _ rfl rfl rfl (by omega) (by have hl:=HL.out;simp [cat,tb] at hl ⊢;omega)).mono ?_
 rintro e w1 ⟨rfl,hs,hb,ho⟩
 have HM1:=zh (HM0.out.step hs hb ho)
 clear hs hb ho
 have e1_0:w1.cell? ⟨w.heap.size,0,none⟩=some (.int .i64 12):=HM1.out.q.cell 0
 have e1_1:w1.cell? ⟨w.heap.size,1,none⟩=some (.string s):=HM1.out.q.cell 1
 have e1_2:w1.cell? ⟨w.heap.size,2,none⟩=some (.int .i64 nm):=HM1.out.q.cell 2
 have e1_3:w1.cell? ⟨w.heap.size,3,none⟩=some (.int .i64 p):=HM1.out.q.cell 3
 have e1_4:w1.cell? ⟨w.heap.size,4,none⟩=some (kv):=HM1.out.q.cell 4
 go_wp2_with fail
 go_end0
 have h:=HM1.out.post
 simpa [cat,tb] using h
theorem zLs {B g c1 c2:Nat} {s:ByteArray} {nm:Int} {p:Nat} {ks:List T} {kv:Value} {l:List UInt8} {d:Nat} {w:World} (h:Wn B g c1 c2 (T.mk 17 s nm p ks) kv l d w) (hk:zWb B g c1 c2 (T.mk 17 s nm p ks) kv) (hz:ks.length≤1000000) (hl:l.length+([114,101,116,117,114,110]++maybe [32] [] (zpb d ks)).length≤140737488355328) :
  Calls Tryz.prog 94 #[.pointer (some ⟨g,0,none⟩),.agg #[.int .i64 17,.string s,.int .i64 nm,.int .i64 p,kv],.func (.func 44) #[] #[.pointer (some ⟨c1,0,none⟩),.pointer (some ⟨c2,0,none⟩)]] w (zMa B g (l++([114,101,116,117,114,110]++maybe [32] [] (zpb d ks))) d w):=by
 have HZ:=zh hz
 clear hz
 have HK:=zh hk
 have HL:=zh hl
 obtain ⟨W0,hW0,HM0⟩:∃ W,w.alloc (.cells [.int .i64 17,.string s,.int .i64 nm,.int .i64 p,kv].toArray 25)=W∧Hid (Wm w B g c1 c2 w.heap.size _ _ l d W):=⟨_,rfl,zh (Wm.start h)⟩
 have e0_0:W0.cell? ⟨w.heap.size,0,none⟩=some (.int .i64 17):=HM0.out.q.cell 0
 have e0_1:W0.cell? ⟨w.heap.size,1,none⟩=some (.string s):=HM0.out.q.cell 1
 have e0_2:W0.cell? ⟨w.heap.size,2,none⟩=some (.int .i64 nm):=HM0.out.q.cell 2
 have e0_3:W0.cell? ⟨w.heap.size,3,none⟩=some (.int .i64 p):=HM0.out.q.cell 3
 have e0_4:W0.cell? ⟨w.heap.size,4,none⟩=some (kv):=HM0.out.q.cell 4
 clear h hk hl
 go_enter Tryz.func94,Tryz.ntmps94
 go_wp2_with fail
 refine (puts HM0.out.n.st [⟨#[114,101,116,117,114,110]⟩] 1 _ _ rfl rfl rfl (by omega) (by have hl:=HL.out;simp [cat,tb] at hl ⊢;omega)).mono ?_
 rintro e w1 ⟨rfl,hs,hb,ho⟩
 have HM1:=zh (HM0.out.step hs hb ho)
 clear hs hb ho
 have e1_0:w1.cell? ⟨w.heap.size,0,none⟩=some (.int .i64 17):=HM1.out.q.cell 0
 have e1_1:w1.cell? ⟨w.heap.size,1,none⟩=some (.string s):=HM1.out.q.cell 1
 have e1_2:w1.cell? ⟨w.heap.size,2,none⟩=some (.int .i64 nm):=HM1.out.q.cell 2
 have e1_3:w1.cell? ⟨w.heap.size,3,none⟩=some (.int .i64 p):=HM1.out.q.cell 3
 have e1_4:w1.cell? ⟨w.heap.size,4,none⟩=some (kv):=HM1.out.q.cell 4
 go_wp2_with fail
 refine (zUf (a:=⟨#[32]⟩) (b:=⟨#[]⟩) HM1.out.n HK.out HZ.out (by have hl:=HL.out;simp [cat,tb] at hl ⊢;omega)).mono ?_
 rintro e w2 ⟨rfl,hs,hb,ho⟩
 have HM2:=zh (HM1.out.step hs hb ho)
 clear hs hb ho
 have e2_0:w2.cell? ⟨w.heap.size,0,none⟩=some (.int .i64 17):=HM2.out.q.cell 0
 have e2_1:w2.cell? ⟨w.heap.size,1,none⟩=some (.string s):=HM2.out.q.cell 1
 have e2_2:w2.cell? ⟨w.heap.size,2,none⟩=some (.int .i64 nm):=HM2.out.q.cell 2
 have e2_3:w2.cell? ⟨w.heap.size,3,none⟩=some (.int .i64 p):=HM2.out.q.cell 3
 have e2_4:w2.cell? ⟨w.heap.size,4,none⟩=some (kv):=HM2.out.q.cell 4
 go_wp2_with fail
 go_end0
 have h:=HM2.out.post
 simpa [cat,tb] using h
theorem zqu {B g c1 c2:Nat} {s:ByteArray} {nm:Int} {p:Nat} {ks:List T} {kv:Value} {l:List UInt8} {d:Nat} {w:World} (h:Wn B g c1 c2 (T.mk 18 s nm p ks) kv l d w) (hk:zWb B g c1 c2 (T.mk 18 s nm p ks) kv) (hl:l.length+([97,98,111,114,116]).length≤140737488355328) :
  Calls Tryz.prog 94 #[.pointer (some ⟨g,0,none⟩),.agg #[.int .i64 18,.string s,.int .i64 nm,.int .i64 p,kv],.func (.func 44) #[] #[.pointer (some ⟨c1,0,none⟩),.pointer (some ⟨c2,0,none⟩)]] w (zMa B g (l++([97,98,111,114,116])) d w):=by
 have HK:=zh hk
 have HL:=zh hl
 obtain ⟨W0,hW0,HM0⟩:∃ W,w.alloc (.cells [.int .i64 18,.string s,.int .i64 nm,.int .i64 p,kv].toArray 25)=W∧Hid (Wm w B g c1 c2 w.heap.size _ _ l d W):=⟨_,rfl,zh (Wm.start h)⟩
 have e0_0:W0.cell? ⟨w.heap.size,0,none⟩=some (.int .i64 18):=HM0.out.q.cell 0
 have e0_1:W0.cell? ⟨w.heap.size,1,none⟩=some (.string s):=HM0.out.q.cell 1
 have e0_2:W0.cell? ⟨w.heap.size,2,none⟩=some (.int .i64 nm):=HM0.out.q.cell 2
 have e0_3:W0.cell? ⟨w.heap.size,3,none⟩=some (.int .i64 p):=HM0.out.q.cell 3
 have e0_4:W0.cell? ⟨w.heap.size,4,none⟩=some (kv):=HM0.out.q.cell 4
 clear h hk hl
 go_enter Tryz.func94,Tryz.ntmps94
 go_wp2_with fail
 refine (puts HM0.out.n.st [⟨#[97,98,111,114,116]⟩] 1 _ _ rfl rfl rfl (by omega) (by have hl:=HL.out;simp [cat,tb] at hl ⊢;omega)).mono ?_
 rintro e w1 ⟨rfl,hs,hb,ho⟩
 have HM1:=zh (HM0.out.step hs hb ho)
 clear hs hb ho
 have e1_0:w1.cell? ⟨w.heap.size,0,none⟩=some (.int .i64 18):=HM1.out.q.cell 0
 have e1_1:w1.cell? ⟨w.heap.size,1,none⟩=some (.string s):=HM1.out.q.cell 1
 have e1_2:w1.cell? ⟨w.heap.size,2,none⟩=some (.int .i64 nm):=HM1.out.q.cell 2
 have e1_3:w1.cell? ⟨w.heap.size,3,none⟩=some (.int .i64 p):=HM1.out.q.cell 3
 have e1_4:w1.cell? ⟨w.heap.size,4,none⟩=some (kv):=HM1.out.q.cell 4
 go_wp2_with fail
 go_end0
 have h:=HM1.out.post
 simpa [cat,tb] using h
theorem zDt {B g c1 c2:Nat} {s:ByteArray} {nm:Int} {p:Nat} {ks:List T} {kv:Value} {l:List UInt8} {d:Nat} {w:World} (h:Wn B g c1 c2 (T.mk 19 s nm p ks) kv l d w) (hk:zWb B g c1 c2 (T.mk 19 s nm p ks) kv) (hz:ks.length≤1000000) (hl:l.length+([102,111,114,107,32]++zRc (tb s) (zpb d ks)).length≤140737488355328) :
  Calls Tryz.prog 94 #[.pointer (some ⟨g,0,none⟩),.agg #[.int .i64 19,.string s,.int .i64 nm,.int .i64 p,kv],.func (.func 44) #[] #[.pointer (some ⟨c1,0,none⟩),.pointer (some ⟨c2,0,none⟩)]] w (zMa B g (l++([102,111,114,107,32]++zRc (tb s) (zpb d ks))) d w):=by
 have HZ:=zh hz
 clear hz
 have HK:=zh hk
 have HL:=zh hl
 obtain ⟨W0,hW0,HM0⟩:∃ W,w.alloc (.cells [.int .i64 19,.string s,.int .i64 nm,.int .i64 p,kv].toArray 25)=W∧Hid (Wm w B g c1 c2 w.heap.size _ _ l d W):=⟨_,rfl,zh (Wm.start h)⟩
 have e0_0:W0.cell? ⟨w.heap.size,0,none⟩=some (.int .i64 19):=HM0.out.q.cell 0
 have e0_1:W0.cell? ⟨w.heap.size,1,none⟩=some (.string s):=HM0.out.q.cell 1
 have e0_2:W0.cell? ⟨w.heap.size,2,none⟩=some (.int .i64 nm):=HM0.out.q.cell 2
 have e0_3:W0.cell? ⟨w.heap.size,3,none⟩=some (.int .i64 p):=HM0.out.q.cell 3
 have e0_4:W0.cell? ⟨w.heap.size,4,none⟩=some (kv):=HM0.out.q.cell 4
 clear h hk hl
 go_enter Tryz.func94,Tryz.ntmps94
 go_wp2_with fail
 refine (puts HM0.out.n.st [⟨#[102,111,114,107,32]⟩] 1 _ _ rfl rfl rfl (by omega) (by have hl:=HL.out;simp [cat,tb] at hl ⊢;omega)).mono ?_
 rintro e w1 ⟨rfl,hs,hb,ho⟩
 have HM1:=zh (HM0.out.step hs hb ho)
 clear hs hb ho
 have e1_0:w1.cell? ⟨w.heap.size,0,none⟩=some (.int .i64 19):=HM1.out.q.cell 0
 have e1_1:w1.cell? ⟨w.heap.size,1,none⟩=some (.string s):=HM1.out.q.cell 1
 have e1_2:w1.cell? ⟨w.heap.size,2,none⟩=some (.int .i64 nm):=HM1.out.q.cell 2
 have e1_3:w1.cell? ⟨w.heap.size,3,none⟩=some (.int .i64 p):=HM1.out.q.cell 3
 have e1_4:w1.cell? ⟨w.heap.size,4,none⟩=some (kv):=HM1.out.q.cell 4
 go_wp2_with fail
 refine (zho HM1.out.n HK.out HZ.out (by have hl:=HL.out;simp [cat,tb] at hl ⊢;omega)).mono ?_
 rintro e w2 ⟨rfl,hs,hb,ho⟩
 have HM2:=zh (HM1.out.step hs hb ho)
 clear hs hb ho
 have e2_0:w2.cell? ⟨w.heap.size,0,none⟩=some (.int .i64 19):=HM2.out.q.cell 0
 have e2_1:w2.cell? ⟨w.heap.size,1,none⟩=some (.string s):=HM2.out.q.cell 1
 have e2_2:w2.cell? ⟨w.heap.size,2,none⟩=some (.int .i64 nm):=HM2.out.q.cell 2
 have e2_3:w2.cell? ⟨w.heap.size,3,none⟩=some (.int .i64 p):=HM2.out.q.cell 3
 have e2_4:w2.cell? ⟨w.heap.size,4,none⟩=some (kv):=HM2.out.q.cell 4
 go_wp2_with fail
 go_end0
 have h:=HM2.out.post
 simpa [cat,tb] using h
theorem zUs {B g c1 c2:Nat} {s:ByteArray} {nm:Int} {p:Nat} {ks:List T} {kv:Value} {l:List UInt8} {d:Nat} {w:World} {u:T} (h:Wn B g c1 c2 (T.mk 20 s nm p ks) kv l d w) (hk:zWb B g c1 c2 (T.mk 20 s nm p ks) kv) (h0:ks[0]?=some u) (hl:l.length+(shw d u).length≤140737488355328) :
  Calls Tryz.prog 94 #[.pointer (some ⟨g,0,none⟩),.agg #[.int .i64 20,.string s,.int .i64 nm,.int .i64 p,kv],.func (.func 44) #[] #[.pointer (some ⟨c1,0,none⟩),.pointer (some ⟨c2,0,none⟩)]] w (zMa B g (l++(shw d u)) d w):=by
 have HK:=zh hk
 have HL:=zh hl
 obtain ⟨W0,hW0,HM0⟩:∃ W,w.alloc (.cells [.int .i64 20,.string s,.int .i64 nm,.int .i64 p,kv].toArray 25)=W∧Hid (Wm w B g c1 c2 w.heap.size _ _ l d W):=⟨_,rfl,zh (Wm.start h)⟩
 have e0_0:W0.cell? ⟨w.heap.size,0,none⟩=some (.int .i64 20):=HM0.out.q.cell 0
 have e0_1:W0.cell? ⟨w.heap.size,1,none⟩=some (.string s):=HM0.out.q.cell 1
 have e0_2:W0.cell? ⟨w.heap.size,2,none⟩=some (.int .i64 nm):=HM0.out.q.cell 2
 have e0_3:W0.cell? ⟨w.heap.size,3,none⟩=some (.int .i64 p):=HM0.out.q.cell 3
 have e0_4:W0.cell? ⟨w.heap.size,4,none⟩=some (kv):=HM0.out.q.cell 4
 clear h hk hl
 go_enter Tryz.func94,Tryz.ntmps94
 go_wp2_with fail
 refine (HK.out.get _ 0 _ (by omega) HM0.out.n h0 (by have hl:=HL.out;simp at hl ⊢;omega)).mono ?_
 rintro e w1 ⟨rfl,hs,hb,ho⟩
 have HM1:=zh (HM0.out.step hs hb ho)
 clear hs hb ho
 have e1_0:w1.cell? ⟨w.heap.size,0,none⟩=some (.int .i64 20):=HM1.out.q.cell 0
 have e1_1:w1.cell? ⟨w.heap.size,1,none⟩=some (.string s):=HM1.out.q.cell 1
 have e1_2:w1.cell? ⟨w.heap.size,2,none⟩=some (.int .i64 nm):=HM1.out.q.cell 2
 have e1_3:w1.cell? ⟨w.heap.size,3,none⟩=some (.int .i64 p):=HM1.out.q.cell 3
 have e1_4:w1.cell? ⟨w.heap.size,4,none⟩=some (kv):=HM1.out.q.cell 4
 go_wp2_with fail
 go_end0
 have h:=HM1.out.post
 simpa [cat,tb] using h
theorem zXt {B g c1 c2:Nat} {s:ByteArray} {nm:Int} {p:Nat} {ks:List T} {kv:Value} {l:List UInt8} {d:Nat} {w:World} (h:Wn B g c1 c2 (T.mk 13 s nm p ks) kv l d w) (hk:zWb B g c1 c2 (T.mk 13 s nm p ks) kv) (hn:-1099511627776≤nm∧nm≤1099511627776) (hl:l.length+([108,111,99,107,32]++(tb s++([91]++(dec nm++[93])))).length≤140737488355328) :
  Calls Tryz.prog 94 #[.pointer (some ⟨g,0,none⟩),.agg #[.int .i64 13,.string s,.int .i64 nm,.int .i64 p,kv],.func (.func 44) #[] #[.pointer (some ⟨c1,0,none⟩),.pointer (some ⟨c2,0,none⟩)]] w (zMa B g (l++([108,111,99,107,32]++(tb s++([91]++(dec nm++[93]))))) d w):=by
 have HK:=zh hk
 have HL:=zh hl
 obtain ⟨W0,hW0,HM0⟩:∃ W,w.alloc (.cells [.int .i64 13,.string s,.int .i64 nm,.int .i64 p,kv].toArray 25)=W∧Hid (Wm w B g c1 c2 w.heap.size _ _ l d W):=⟨_,rfl,zh (Wm.start h)⟩
 have e0_0:W0.cell? ⟨w.heap.size,0,none⟩=some (.int .i64 13):=HM0.out.q.cell 0
 have e0_1:W0.cell? ⟨w.heap.size,1,none⟩=some (.string s):=HM0.out.q.cell 1
 have e0_2:W0.cell? ⟨w.heap.size,2,none⟩=some (.int .i64 nm):=HM0.out.q.cell 2
 have e0_3:W0.cell? ⟨w.heap.size,3,none⟩=some (.int .i64 p):=HM0.out.q.cell 3
 have e0_4:W0.cell? ⟨w.heap.size,4,none⟩=some (kv):=HM0.out.q.cell 4
 clear h hk hl
 go_enter Tryz.func94,Tryz.ntmps94
 go_wp2_with fail
 refine wp_region_held_drew (S:=fun W=>Blk W w.heap.size (zaa (T.mk 13 s nm p ks) kv) 25) (by kernel_rfl) HM0.out.q.drew (fun hS=>?_)
 refine wpAnyH_take (i:=0) (oi:=⟨some 40,_,_,_,_,_⟩) (v:=.pointer (some ⟨g,0,none⟩)) rfl (by kernel_rfl) (by kernel_rfl) (by kernel_rfl) (fun _ _ _ h=>h) (Or.inl ⟨by rfl,fun W _=>by go_simp⟩) hS ?_
 try simp only [Act.put,List.setIfInBounds_toArray,List.set_cons_zero,List.set_cons_succ]
 refine wpAnyH_take (i:=1) (oi:=⟨some 41,_,_,_,_,_⟩) (v:=.pointer (some ⟨w.heap.size,1,none⟩)) rfl (by kernel_rfl) (by kernel_rfl) (by kernel_rfl) (fun _ _ _ h=>h) (Or.inl ⟨by rfl,fun W _=>by go_simp⟩) hS ?_
 try simp only [Act.put,List.setIfInBounds_toArray,List.set_cons_zero,List.set_cons_succ]
 refine wpAnyH_take (i:=2) (oi:=⟨some 42,_,_,_,_,_⟩) (v:=.string s) rfl (by kernel_rfl) (by kernel_rfl) (by kernel_rfl) (fun _ _ _ h=>h) (Or.inl ⟨by rfl,fun W hW=>by have hcx:W.cell? ⟨w.heap.size,1,none⟩=some (.string s):=hW.cell 1;go_simp⟩) hS ?_
 try simp only [Act.put,List.setIfInBounds_toArray,List.set_cons_zero,List.set_cons_succ]
 refine wpAnyH_take (i:=3) (oi:=⟨some 43,_,_,_,_,_⟩) (v:=.pointer (some ⟨w.heap.size,2,none⟩)) rfl (by kernel_rfl) (by kernel_rfl) (by kernel_rfl) (fun _ _ _ h=>h) (Or.inl ⟨by rfl,fun W _=>by go_simp⟩) hS ?_
 try simp only [Act.put,List.setIfInBounds_toArray,List.set_cons_zero,List.set_cons_succ]
 refine wpAnyH_take (i:=4) (oi:=⟨some 44,_,_,_,_,_⟩) (v:=.int .i64 nm) rfl (by kernel_rfl) (by kernel_rfl) (by kernel_rfl) (fun _ _ _ h=>h) (Or.inl ⟨by rfl,fun W hW=>by have hcx:W.cell? ⟨w.heap.size,2,none⟩=some (.int .i64 nm):=hW.cell 2;go_simp⟩) hS ?_
 try simp only [Act.put,List.setIfInBounds_toArray,List.set_cons_zero,List.set_cons_succ]
 refine AnyH.only (i:=5) (o:=⟨some 45,_,_,_,_,_⟩) (by kernel_rfl) rfl (by rfl) (fun K hK=>?_)
 go_simp
 have HMd:=zh (HM0.out.below (show Below W0.heap.size W0 W0.drew from (Below.refl _ _).drew))
 refine (zrg HMd.out.n.t nm hn).mono ?_
 rintro e w1 ⟨rfl,hb⟩
 have HM1:=zh (HMd.out.below hb)
 clear hb hS
 have hS:Blk w1 w.heap.size (zaa (T.mk 13 s nm p ks) kv) 25:=HM1.out.q
 refine hK.out _ _ hS ?_
 clear hK K
 try simp only [Act.put,List.setIfInBounds_toArray,List.set_cons_zero,List.set_cons_succ]
 refine AnyH.only (i:=6) (o:=⟨some 46,_,_,_,_,_⟩) (by kernel_rfl) rfl (by rfl) (fun K hK=>?_)
 go_simp
 refine hK.out _ _ (HM1.out.q.alloc _) ?_
 clear hK K hS
 try simp only [Act.put,List.setIfInBounds_toArray,List.set_cons_zero,List.set_cons_succ]
 refine AnyH.only (i:=7) (o:=⟨some 47,_,_,_,_,_⟩) (by kernel_rfl) rfl (by rfl) (fun K hK=>?_)
 go_simp
 refine (puts HM1.out.n.st [⟨#[108,111,99,107,32]⟩,s,⟨#[91]⟩,⟨(dec nm).toArray⟩,⟨#[93]⟩] 5 _ _ rfl rfl rfl (by omega) (by have hl:=HL.out;simp [cat,tb] at hl ⊢;omega)).mono ?_
 rintro e w2 ⟨rfl,hs,hb,ho⟩
 have HM2:=zh (HM1.out.step hs hb ho)
 clear hs hb ho
 have e2_0:w2.cell? ⟨w.heap.size,0,none⟩=some (.int .i64 13):=HM2.out.q.cell 0
 have e2_1:w2.cell? ⟨w.heap.size,1,none⟩=some (.string s):=HM2.out.q.cell 1
 have e2_2:w2.cell? ⟨w.heap.size,2,none⟩=some (.int .i64 nm):=HM2.out.q.cell 2
 have e2_3:w2.cell? ⟨w.heap.size,3,none⟩=some (.int .i64 p):=HM2.out.q.cell 3
 have e2_4:w2.cell? ⟨w.heap.size,4,none⟩=some (kv):=HM2.out.q.cell 4
 refine hK.out _ _ HM2.out.q ?_
 clear hK K
 try simp only [Act.put,List.setIfInBounds_toArray,List.set_cons_zero,List.set_cons_succ]
 refine wpAnyH_done (by kernel_rfl) ?_ _
 go_wp2_with fail
 go_end0
 have h:=HM2.out.post
 simpa [cat,tb] using h
theorem zht {B g c1 c2:Nat} {s:ByteArray} {nm:Int} {p:Nat} {ks:List T} {kv:Value} {l:List UInt8} {d:Nat} {w:World} (h:Wn B g c1 c2 (T.mk 14 s nm p ks) kv l d w) (hk:zWb B g c1 c2 (T.mk 14 s nm p ks) kv) (hn:-1099511627776≤nm∧nm≤1099511627776) (hl:l.length+([117,110,108,111,99,107,32]++(tb s++([91]++(dec nm++[93])))).length≤140737488355328) :
  Calls Tryz.prog 94 #[.pointer (some ⟨g,0,none⟩),.agg #[.int .i64 14,.string s,.int .i64 nm,.int .i64 p,kv],.func (.func 44) #[] #[.pointer (some ⟨c1,0,none⟩),.pointer (some ⟨c2,0,none⟩)]] w (zMa B g (l++([117,110,108,111,99,107,32]++(tb s++([91]++(dec nm++[93]))))) d w):=by
 have HK:=zh hk
 have HL:=zh hl
 obtain ⟨W0,hW0,HM0⟩:∃ W,w.alloc (.cells [.int .i64 14,.string s,.int .i64 nm,.int .i64 p,kv].toArray 25)=W∧Hid (Wm w B g c1 c2 w.heap.size _ _ l d W):=⟨_,rfl,zh (Wm.start h)⟩
 have e0_0:W0.cell? ⟨w.heap.size,0,none⟩=some (.int .i64 14):=HM0.out.q.cell 0
 have e0_1:W0.cell? ⟨w.heap.size,1,none⟩=some (.string s):=HM0.out.q.cell 1
 have e0_2:W0.cell? ⟨w.heap.size,2,none⟩=some (.int .i64 nm):=HM0.out.q.cell 2
 have e0_3:W0.cell? ⟨w.heap.size,3,none⟩=some (.int .i64 p):=HM0.out.q.cell 3
 have e0_4:W0.cell? ⟨w.heap.size,4,none⟩=some (kv):=HM0.out.q.cell 4
 clear h hk hl
 go_enter Tryz.func94,Tryz.ntmps94
 go_wp2_with fail
 refine wp_region_held_drew (S:=fun W=>Blk W w.heap.size (zaa (T.mk 14 s nm p ks) kv) 25) (by kernel_rfl) HM0.out.q.drew (fun hS=>?_)
 refine wpAnyH_take (i:=0) (oi:=⟨some 50,_,_,_,_,_⟩) (v:=.pointer (some ⟨g,0,none⟩)) rfl (by kernel_rfl) (by kernel_rfl) (by kernel_rfl) (fun _ _ _ h=>h) (Or.inl ⟨by rfl,fun W _=>by go_simp⟩) hS ?_
 try simp only [Act.put,List.setIfInBounds_toArray,List.set_cons_zero,List.set_cons_succ]
 refine wpAnyH_take (i:=1) (oi:=⟨some 51,_,_,_,_,_⟩) (v:=.pointer (some ⟨w.heap.size,1,none⟩)) rfl (by kernel_rfl) (by kernel_rfl) (by kernel_rfl) (fun _ _ _ h=>h) (Or.inl ⟨by rfl,fun W _=>by go_simp⟩) hS ?_
 try simp only [Act.put,List.setIfInBounds_toArray,List.set_cons_zero,List.set_cons_succ]
 refine wpAnyH_take (i:=2) (oi:=⟨some 52,_,_,_,_,_⟩) (v:=.string s) rfl (by kernel_rfl) (by kernel_rfl) (by kernel_rfl) (fun _ _ _ h=>h) (Or.inl ⟨by rfl,fun W hW=>by have hcx:W.cell? ⟨w.heap.size,1,none⟩=some (.string s):=hW.cell 1;go_simp⟩) hS ?_
 try simp only [Act.put,List.setIfInBounds_toArray,List.set_cons_zero,List.set_cons_succ]
 refine wpAnyH_take (i:=3) (oi:=⟨some 53,_,_,_,_,_⟩) (v:=.pointer (some ⟨w.heap.size,2,none⟩)) rfl (by kernel_rfl) (by kernel_rfl) (by kernel_rfl) (fun _ _ _ h=>h) (Or.inl ⟨by rfl,fun W _=>by go_simp⟩) hS ?_
 try simp only [Act.put,List.setIfInBounds_toArray,List.set_cons_zero,List.set_cons_succ]
 refine wpAnyH_take (i:=4) (oi:=⟨some 54,_,_,_,_,_⟩) (v:=.int .i64 nm) rfl (by kernel_rfl) (by kernel_rfl) (by kernel_rfl) (fun _ _ _ h=>h) (Or.inl ⟨by rfl,fun W hW=>by have hcx:W.cell? ⟨w.heap.size,2,none⟩=some (.int .i64 nm):=hW.cell 2;go_simp⟩) hS ?_
 try simp only [Act.put,List.setIfInBounds_toArray,List.set_cons_zero,List.set_cons_succ]
 refine AnyH.only (i:=5) (o:=⟨some 55,_,_,_,_,_⟩) (by kernel_rfl) rfl (by rfl) (fun K hK=>?_)
 go_simp
 have HMd:=zh (HM0.out.below (show Below W0.heap.size W0 W0.drew from (Below.refl _ _).drew))
 refine (zrg HMd.out.n.t nm hn).mono ?_
 rintro e w1 ⟨rfl,hb⟩
 have HM1:=zh (HMd.out.below hb)
 clear hb hS
 have hS:Blk w1 w.heap.size (zaa (T.mk 14 s nm p ks) kv) 25:=HM1.out.q
 refine hK.out _ _ hS ?_
 clear hK K
 try simp only [Act.put,List.setIfInBounds_toArray,List.set_cons_zero,List.set_cons_succ]
 refine AnyH.only (i:=6) (o:=⟨some 56,_,_,_,_,_⟩) (by kernel_rfl) rfl (by rfl) (fun K hK=>?_)
 go_simp
 refine hK.out _ _ (HM1.out.q.alloc _) ?_
 clear hK K hS
 try simp only [Act.put,List.setIfInBounds_toArray,List.set_cons_zero,List.set_cons_succ]
 refine AnyH.only (i:=7) (o:=⟨some 57,_,_,_,_,_⟩) (by kernel_rfl) rfl (by rfl) (fun K hK=>?_)
 go_simp
 refine (puts HM1.out.n.st [⟨#[117,110,108,111,99,107,32]⟩,s,⟨#[91]⟩,⟨(dec nm).toArray⟩,⟨#[93]⟩] 5 _ _ rfl rfl rfl (by omega) (by have hl:=HL.out;simp [cat,tb] at hl ⊢;omega)).mono ?_
 rintro e w2 ⟨rfl,hs,hb,ho⟩
 have HM2:=zh (HM1.out.step hs hb ho)
 clear hs hb ho
 have e2_0:w2.cell? ⟨w.heap.size,0,none⟩=some (.int .i64 14):=HM2.out.q.cell 0
 have e2_1:w2.cell? ⟨w.heap.size,1,none⟩=some (.string s):=HM2.out.q.cell 1
 have e2_2:w2.cell? ⟨w.heap.size,2,none⟩=some (.int .i64 nm):=HM2.out.q.cell 2
 have e2_3:w2.cell? ⟨w.heap.size,3,none⟩=some (.int .i64 p):=HM2.out.q.cell 3
 have e2_4:w2.cell? ⟨w.heap.size,4,none⟩=some (kv):=HM2.out.q.cell 4
 refine hK.out _ _ HM2.out.q ?_
 clear hK K
 try simp only [Act.put,List.setIfInBounds_toArray,List.set_cons_zero,List.set_cons_succ]
 refine wpAnyH_done (by kernel_rfl) ?_ _
 go_wp2_with fail
 go_end0
 have h:=HM2.out.post
 simpa [cat,tb] using h
end Go.Proofs.YtbfgdpcgdmabpaaGreatDoor
