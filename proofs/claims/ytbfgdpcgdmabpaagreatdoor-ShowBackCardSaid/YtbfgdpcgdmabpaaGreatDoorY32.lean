/- The contracts of the writer's expression, by kind. -/
import Derived.Test.YtbfgdpcgdmabpaaGreatDoorY26
namespace Go.Proofs.YtbfgdpcgdmabpaaGreatDoor
set_option maxRecDepth 100000
set_option maxHeartbeats 2000000
open Go.RowKit
theorem zxu {B g c1 c2:Nat} {s:ByteArray} {nm:Int} {p:Nat} {ks:List T} {kv:Value} {l:List UInt8} {d:Nat} {w:World} {u v:T} (h:Wn B g c1 c2 (T.mk 21 s nm p ks) kv l d w) (hk:zWb B g c1 c2 (T.mk 21 s nm p ks) kv) (h0:ks[0]?=some u) (h1:ks[1]?=some v) (hl:l.length+(shw d u++([32,43,32]++shw d v)).length≤140737488355328) :
  Calls Tryz.prog 49 #[.pointer (some ⟨g,0,none⟩),.agg #[.int .i64 21,.string s,.int .i64 nm,.int .i64 p,kv],.func (.func 44) #[] #[.pointer (some ⟨c1,0,none⟩),.pointer (some ⟨c2,0,none⟩)]] w (zMa B g (l++(shw d u++([32,43,32]++shw d v))) d w):=by
 have HK:=zh hk
 have HL:=zh hl
 obtain ⟨W0,hW0,HM0⟩:∃ W,w.alloc (.cells [.int .i64 21,.string s,.int .i64 nm,.int .i64 p,kv].toArray 25)=W∧Hid (Wm w B g c1 c2 w.heap.size _ _ l d W):=⟨_,rfl,zh (Wm.start h)⟩
 have e0_0:W0.cell? ⟨w.heap.size,0,none⟩=some (.int .i64 21):=HM0.out.q.cell 0
 have e0_1:W0.cell? ⟨w.heap.size,1,none⟩=some (.string s):=HM0.out.q.cell 1
 have e0_2:W0.cell? ⟨w.heap.size,2,none⟩=some (.int .i64 nm):=HM0.out.q.cell 2
 have e0_3:W0.cell? ⟨w.heap.size,3,none⟩=some (.int .i64 p):=HM0.out.q.cell 3
 have e0_4:W0.cell? ⟨w.heap.size,4,none⟩=some (kv):=HM0.out.q.cell 4
 clear h hk hl
 go_enter Tryz.func49,Tryz.ntmps49
 go_wp2_with fail
 refine (HK.out.get _ 0 _ (by omega) HM0.out.n h0 (by have hl:=HL.out;simp at hl ⊢;omega)).mono ?_
 rintro e w1 ⟨rfl,hs,hb,ho⟩
 have HM1:=zh (HM0.out.step hs hb ho)
 clear hs hb ho
 have e1_0:w1.cell? ⟨w.heap.size,0,none⟩=some (.int .i64 21):=HM1.out.q.cell 0
 have e1_1:w1.cell? ⟨w.heap.size,1,none⟩=some (.string s):=HM1.out.q.cell 1
 have e1_2:w1.cell? ⟨w.heap.size,2,none⟩=some (.int .i64 nm):=HM1.out.q.cell 2
 have e1_3:w1.cell? ⟨w.heap.size,3,none⟩=some (.int .i64 p):=HM1.out.q.cell 3
 have e1_4:w1.cell? ⟨w.heap.size,4,none⟩=some (kv):=HM1.out.q.cell 4
 go_wp2_with fail
 refine (puts HM1.out.n.st [⟨#[32,43,32]⟩] 1 _ _ rfl rfl rfl (by omega) (by have hl:=HL.out;simp [cat,tb] at hl ⊢;omega)).mono ?_
 rintro e w2 ⟨rfl,hs,hb,ho⟩
 have HM2:=zh (HM1.out.step hs hb ho)
 clear hs hb ho
 have e2_0:w2.cell? ⟨w.heap.size,0,none⟩=some (.int .i64 21):=HM2.out.q.cell 0
 have e2_1:w2.cell? ⟨w.heap.size,1,none⟩=some (.string s):=HM2.out.q.cell 1
 have e2_2:w2.cell? ⟨w.heap.size,2,none⟩=some (.int .i64 nm):=HM2.out.q.cell 2
 have e2_3:w2.cell? ⟨w.heap.size,3,none⟩=some (.int .i64 p):=HM2.out.q.cell 3
 have e2_4:w2.cell? ⟨w.heap.size,4,none⟩=some (kv):=HM2.out.q.cell 4
 go_wp2_with fail
 refine (HK.out.get _ 1 _ (by omega) HM2.out.n h1 (by have hl:=HL.out;simp [cat,tb] at hl ⊢;omega)).mono ?_
 rintro e w3 ⟨rfl,hs,hb,ho⟩
 have HM3:=zh (HM2.out.step hs hb ho)
 clear hs hb ho
 have e3_0:w3.cell? ⟨w.heap.size,0,none⟩=some (.int .i64 21):=HM3.out.q.cell 0
 have e3_1:w3.cell? ⟨w.heap.size,1,none⟩=some (.string s):=HM3.out.q.cell 1
 have e3_2:w3.cell? ⟨w.heap.size,2,none⟩=some (.int .i64 nm):=HM3.out.q.cell 2
 have e3_3:w3.cell? ⟨w.heap.size,3,none⟩=some (.int .i64 p):=HM3.out.q.cell 3
 have e3_4:w3.cell? ⟨w.heap.size,4,none⟩=some (kv):=HM3.out.q.cell 4
 go_wp2_with fail
 go_end0
 have h:=HM3.out.post
 simpa [cat,tb] using h
theorem zit {B g c1 c2:Nat} {s:ByteArray} {nm:Int} {p:Nat} {ks:List T} {kv:Value} {l:List UInt8} {d:Nat} {w:World} {u v:T} (h:Wn B g c1 c2 (T.mk 22 s nm p ks) kv l d w) (hk:zWb B g c1 c2 (T.mk 22 s nm p ks) kv) (h0:ks[0]?=some u) (h1:ks[1]?=some v) (hl:l.length+(shw d u++([32,45,32]++shw d v)).length≤140737488355328) :
  Calls Tryz.prog 49 #[.pointer (some ⟨g,0,none⟩),.agg #[.int .i64 22,.string s,.int .i64 nm,.int .i64 p,kv],.func (.func 44) #[] #[.pointer (some ⟨c1,0,none⟩),.pointer (some ⟨c2,0,none⟩)]] w (zMa B g (l++(shw d u++([32,45,32]++shw d v))) d w):=by
 have HK:=zh hk
 have HL:=zh hl
 obtain ⟨W0,hW0,HM0⟩:∃ W,w.alloc (.cells [.int .i64 22,.string s,.int .i64 nm,.int .i64 p,kv].toArray 25)=W∧Hid (Wm w B g c1 c2 w.heap.size _ _ l d W):=⟨_,rfl,zh (Wm.start h)⟩
 have e0_0:W0.cell? ⟨w.heap.size,0,none⟩=some (.int .i64 22):=HM0.out.q.cell 0
 have e0_1:W0.cell? ⟨w.heap.size,1,none⟩=some (.string s):=HM0.out.q.cell 1
 have e0_2:W0.cell? ⟨w.heap.size,2,none⟩=some (.int .i64 nm):=HM0.out.q.cell 2
 have e0_3:W0.cell? ⟨w.heap.size,3,none⟩=some (.int .i64 p):=HM0.out.q.cell 3
 have e0_4:W0.cell? ⟨w.heap.size,4,none⟩=some (kv):=HM0.out.q.cell 4
 clear h hk hl
 go_enter Tryz.func49,Tryz.ntmps49
 go_wp2_with fail
 refine (HK.out.get _ 0 _ (by omega) HM0.out.n h0 (by have hl:=HL.out;simp at hl ⊢;omega)).mono ?_
 rintro e w1 ⟨rfl,hs,hb,ho⟩
 have HM1:=zh (HM0.out.step hs hb ho)
 clear hs hb ho
 have e1_0:w1.cell? ⟨w.heap.size,0,none⟩=some (.int .i64 22):=HM1.out.q.cell 0
 have e1_1:w1.cell? ⟨w.heap.size,1,none⟩=some (.string s):=HM1.out.q.cell 1
 have e1_2:w1.cell? ⟨w.heap.size,2,none⟩=some (.int .i64 nm):=HM1.out.q.cell 2
 have e1_3:w1.cell? ⟨w.heap.size,3,none⟩=some (.int .i64 p):=HM1.out.q.cell 3
 have e1_4:w1.cell? ⟨w.heap.size,4,none⟩=some (kv):=HM1.out.q.cell 4
 go_wp2_with fail
 refine (puts HM1.out.n.st [⟨#[32,45,32]⟩] 1 _ _ rfl rfl rfl (by omega) (by have hl:=HL.out;simp [cat,tb] at hl ⊢;omega)).mono ?_
 rintro e w2 ⟨rfl,hs,hb,ho⟩
 have HM2:=zh (HM1.out.step hs hb ho)
 clear hs hb ho
 have e2_0:w2.cell? ⟨w.heap.size,0,none⟩=some (.int .i64 22):=HM2.out.q.cell 0
 have e2_1:w2.cell? ⟨w.heap.size,1,none⟩=some (.string s):=HM2.out.q.cell 1
 have e2_2:w2.cell? ⟨w.heap.size,2,none⟩=some (.int .i64 nm):=HM2.out.q.cell 2
 have e2_3:w2.cell? ⟨w.heap.size,3,none⟩=some (.int .i64 p):=HM2.out.q.cell 3
 have e2_4:w2.cell? ⟨w.heap.size,4,none⟩=some (kv):=HM2.out.q.cell 4
 go_wp2_with fail
 refine (HK.out.get _ 1 _ (by omega) HM2.out.n h1 (by have hl:=HL.out;simp [cat,tb] at hl ⊢;omega)).mono ?_
 rintro e w3 ⟨rfl,hs,hb,ho⟩
 have HM3:=zh (HM2.out.step hs hb ho)
 clear hs hb ho
 have e3_0:w3.cell? ⟨w.heap.size,0,none⟩=some (.int .i64 22):=HM3.out.q.cell 0
 have e3_1:w3.cell? ⟨w.heap.size,1,none⟩=some (.string s):=HM3.out.q.cell 1
 have e3_2:w3.cell? ⟨w.heap.size,2,none⟩=some (.int .i64 nm):=HM3.out.q.cell 2
 have e3_3:w3.cell? ⟨w.heap.size,3,none⟩=some (.int .i64 p):=HM3.out.q.cell 3
 have e3_4:w3.cell? ⟨w.heap.size,4,none⟩=some (kv):=HM3.out.q.cell 4
 go_wp2_with fail
 go_end0
 have h:=HM3.out.post
 simpa [cat,tb] using h
theorem zQs {B g c1 c2:Nat} {s:ByteArray} {nm:Int} {p:Nat} {ks:List T} {kv:Value} {l:List UInt8} {d:Nat} {w:World} (h:Wn B g c1 c2 (T.mk 23 s nm p ks) kv l d w) (hk:zWb B g c1 c2 (T.mk 23 s nm p ks) kv) (hn:-1099511627776≤nm∧nm≤1099511627776) (hl:l.length+([110,101,119,32]++dec nm).length≤140737488355328) :
  Calls Tryz.prog 49 #[.pointer (some ⟨g,0,none⟩),.agg #[.int .i64 23,.string s,.int .i64 nm,.int .i64 p,kv],.func (.func 44) #[] #[.pointer (some ⟨c1,0,none⟩),.pointer (some ⟨c2,0,none⟩)]] w (zMa B g (l++([110,101,119,32]++dec nm)) d w):=by
 have HK:=zh hk
 have HL:=zh hl
 obtain ⟨W0,hW0,HM0⟩:∃ W,w.alloc (.cells [.int .i64 23,.string s,.int .i64 nm,.int .i64 p,kv].toArray 25)=W∧Hid (Wm w B g c1 c2 w.heap.size _ _ l d W):=⟨_,rfl,zh (Wm.start h)⟩
 have e0_0:W0.cell? ⟨w.heap.size,0,none⟩=some (.int .i64 23):=HM0.out.q.cell 0
 have e0_1:W0.cell? ⟨w.heap.size,1,none⟩=some (.string s):=HM0.out.q.cell 1
 have e0_2:W0.cell? ⟨w.heap.size,2,none⟩=some (.int .i64 nm):=HM0.out.q.cell 2
 have e0_3:W0.cell? ⟨w.heap.size,3,none⟩=some (.int .i64 p):=HM0.out.q.cell 3
 have e0_4:W0.cell? ⟨w.heap.size,4,none⟩=some (kv):=HM0.out.q.cell 4
 clear h hk hl
 go_enter Tryz.func49,Tryz.ntmps49
 go_wp2_with fail
 refine (zrg HM0.out.n.t nm hn).mono ?_
 rintro e w1 ⟨rfl,hb⟩
 have HM1:=zh (HM0.out.below hb)
 clear hb
 have e1_0:w1.cell? ⟨w.heap.size,0,none⟩=some (.int .i64 23):=HM1.out.q.cell 0
 have e1_1:w1.cell? ⟨w.heap.size,1,none⟩=some (.string s):=HM1.out.q.cell 1
 have e1_2:w1.cell? ⟨w.heap.size,2,none⟩=some (.int .i64 nm):=HM1.out.q.cell 2
 have e1_3:w1.cell? ⟨w.heap.size,3,none⟩=some (.int .i64 p):=HM1.out.q.cell 3
 have e1_4:w1.cell? ⟨w.heap.size,4,none⟩=some (kv):=HM1.out.q.cell 4
 go_wp2_with fail
 refine (puts HM1.out.n.st [⟨#[110,101,119,32]⟩,⟨(dec nm).toArray⟩] 2 _ _ rfl rfl rfl (by omega) (by have hl:=HL.out;simp [cat,tb] at hl ⊢;omega)).mono ?_
 rintro e w2 ⟨rfl,hs,hb,ho⟩
 have HM2:=zh (HM1.out.step hs hb ho)
 clear hs hb ho
 have e2_0:w2.cell? ⟨w.heap.size,0,none⟩=some (.int .i64 23):=HM2.out.q.cell 0
 have e2_1:w2.cell? ⟨w.heap.size,1,none⟩=some (.string s):=HM2.out.q.cell 1
 have e2_2:w2.cell? ⟨w.heap.size,2,none⟩=some (.int .i64 nm):=HM2.out.q.cell 2
 have e2_3:w2.cell? ⟨w.heap.size,3,none⟩=some (.int .i64 p):=HM2.out.q.cell 3
 have e2_4:w2.cell? ⟨w.heap.size,4,none⟩=some (kv):=HM2.out.q.cell 4
 go_wp2_with fail
 go_end0
 have h:=HM2.out.post
 simpa [cat,tb] using h
theorem zjt {B g c1 c2:Nat} {s:ByteArray} {nm:Int} {p:Nat} {ks:List T} {kv:Value} {l:List UInt8} {d:Nat} {w:World} (h:Wn B g c1 c2 (T.mk 24 s nm p ks) kv l d w) (hk:zWb B g c1 c2 (T.mk 24 s nm p ks) kv) (hl:l.length+([97,114,114,97,121,32]++tb s).length≤140737488355328) :
  Calls Tryz.prog 49 #[.pointer (some ⟨g,0,none⟩),.agg #[.int .i64 24,.string s,.int .i64 nm,.int .i64 p,kv],.func (.func 44) #[] #[.pointer (some ⟨c1,0,none⟩),.pointer (some ⟨c2,0,none⟩)]] w (zMa B g (l++([97,114,114,97,121,32]++tb s)) d w):=by
 have HK:=zh hk
 have HL:=zh hl
 obtain ⟨W0,hW0,HM0⟩:∃ W,w.alloc (.cells [.int .i64 24,.string s,.int .i64 nm,.int .i64 p,kv].toArray 25)=W∧Hid (Wm w B g c1 c2 w.heap.size _ _ l d W):=⟨_,rfl,zh (Wm.start h)⟩
 have e0_0:W0.cell? ⟨w.heap.size,0,none⟩=some (.int .i64 24):=HM0.out.q.cell 0
 have e0_1:W0.cell? ⟨w.heap.size,1,none⟩=some (.string s):=HM0.out.q.cell 1
 have e0_2:W0.cell? ⟨w.heap.size,2,none⟩=some (.int .i64 nm):=HM0.out.q.cell 2
 have e0_3:W0.cell? ⟨w.heap.size,3,none⟩=some (.int .i64 p):=HM0.out.q.cell 3
 have e0_4:W0.cell? ⟨w.heap.size,4,none⟩=some (kv):=HM0.out.q.cell 4
 clear h hk hl
 go_enter Tryz.func49,Tryz.ntmps49
 go_wp2_with fail
 refine (puts HM0.out.n.st [⟨#[97,114,114,97,121,32]⟩,s] 2 _ _ rfl rfl rfl (by omega) (by have hl:=HL.out;simp [cat,tb] at hl ⊢;omega)).mono ?_
 rintro e w1 ⟨rfl,hs,hb,ho⟩
 have HM1:=zh (HM0.out.step hs hb ho)
 clear hs hb ho
 have e1_0:w1.cell? ⟨w.heap.size,0,none⟩=some (.int .i64 24):=HM1.out.q.cell 0
 have e1_1:w1.cell? ⟨w.heap.size,1,none⟩=some (.string s):=HM1.out.q.cell 1
 have e1_2:w1.cell? ⟨w.heap.size,2,none⟩=some (.int .i64 nm):=HM1.out.q.cell 2
 have e1_3:w1.cell? ⟨w.heap.size,3,none⟩=some (.int .i64 p):=HM1.out.q.cell 3
 have e1_4:w1.cell? ⟨w.heap.size,4,none⟩=some (kv):=HM1.out.q.cell 4
 go_wp2_with fail
 go_end0
 have h:=HM1.out.post
 simpa [cat,tb] using h
theorem zEu {B g c1 c2:Nat} {s:ByteArray} {nm:Int} {p:Nat} {ks:List T} {kv:Value} {l:List UInt8} {d:Nat} {w:World} {u:T} (h:Wn B g c1 c2 (T.mk 25 s nm p ks) kv l d w) (hk:zWb B g c1 c2 (T.mk 25 s nm p ks) kv) (h0:ks[0]?=some u) (hl:l.length+(tb s++([91]++(shw d u++[93]))).length≤140737488355328) :
  Calls Tryz.prog 49 #[.pointer (some ⟨g,0,none⟩),.agg #[.int .i64 25,.string s,.int .i64 nm,.int .i64 p,kv],.func (.func 44) #[] #[.pointer (some ⟨c1,0,none⟩),.pointer (some ⟨c2,0,none⟩)]] w (zMa B g (l++(tb s++([91]++(shw d u++[93])))) d w):=by
 have HK:=zh hk
 have HL:=zh hl
 obtain ⟨W0,hW0,HM0⟩:∃ W,w.alloc (.cells [.int .i64 25,.string s,.int .i64 nm,.int .i64 p,kv].toArray 25)=W∧Hid (Wm w B g c1 c2 w.heap.size _ _ l d W):=⟨_,rfl,zh (Wm.start h)⟩
 have e0_0:W0.cell? ⟨w.heap.size,0,none⟩=some (.int .i64 25):=HM0.out.q.cell 0
 have e0_1:W0.cell? ⟨w.heap.size,1,none⟩=some (.string s):=HM0.out.q.cell 1
 have e0_2:W0.cell? ⟨w.heap.size,2,none⟩=some (.int .i64 nm):=HM0.out.q.cell 2
 have e0_3:W0.cell? ⟨w.heap.size,3,none⟩=some (.int .i64 p):=HM0.out.q.cell 3
 have e0_4:W0.cell? ⟨w.heap.size,4,none⟩=some (kv):=HM0.out.q.cell 4
 clear h hk hl
 go_enter Tryz.func49,Tryz.ntmps49
 go_wp2_with fail
 refine (puts HM0.out.n.st [s,⟨#[91]⟩] 2 _ _ rfl rfl rfl (by omega) (by have hl:=HL.out;simp [cat,tb] at hl ⊢;omega)).mono ?_
 rintro e w1 ⟨rfl,hs,hb,ho⟩
 have HM1:=zh (HM0.out.step hs hb ho)
 clear hs hb ho
 have e1_0:w1.cell? ⟨w.heap.size,0,none⟩=some (.int .i64 25):=HM1.out.q.cell 0
 have e1_1:w1.cell? ⟨w.heap.size,1,none⟩=some (.string s):=HM1.out.q.cell 1
 have e1_2:w1.cell? ⟨w.heap.size,2,none⟩=some (.int .i64 nm):=HM1.out.q.cell 2
 have e1_3:w1.cell? ⟨w.heap.size,3,none⟩=some (.int .i64 p):=HM1.out.q.cell 3
 have e1_4:w1.cell? ⟨w.heap.size,4,none⟩=some (kv):=HM1.out.q.cell 4
 go_wp2_with fail
 refine (HK.out.get _ 0 _ (by omega) HM1.out.n h0 (by have hl:=HL.out;simp [cat,tb] at hl ⊢;omega)).mono ?_
 rintro e w2 ⟨rfl,hs,hb,ho⟩
 have HM2:=zh (HM1.out.step hs hb ho)
 clear hs hb ho
 have e2_0:w2.cell? ⟨w.heap.size,0,none⟩=some (.int .i64 25):=HM2.out.q.cell 0
 have e2_1:w2.cell? ⟨w.heap.size,1,none⟩=some (.string s):=HM2.out.q.cell 1
 have e2_2:w2.cell? ⟨w.heap.size,2,none⟩=some (.int .i64 nm):=HM2.out.q.cell 2
 have e2_3:w2.cell? ⟨w.heap.size,3,none⟩=some (.int .i64 p):=HM2.out.q.cell 3
 have e2_4:w2.cell? ⟨w.heap.size,4,none⟩=some (kv):=HM2.out.q.cell 4
 go_wp2_with fail
 refine (puts HM2.out.n.st [⟨#[93]⟩] 1 _ _ rfl rfl rfl (by omega) (by have hl:=HL.out;simp [cat,tb] at hl ⊢;omega)).mono ?_
 rintro e w3 ⟨rfl,hs,hb,ho⟩
 have HM3:=zh (HM2.out.step hs hb ho)
 clear hs hb ho
 have e3_0:w3.cell? ⟨w.heap.size,0,none⟩=some (.int .i64 25):=HM3.out.q.cell 0
 have e3_1:w3.cell? ⟨w.heap.size,1,none⟩=some (.string s):=HM3.out.q.cell 1
 have e3_2:w3.cell? ⟨w.heap.size,2,none⟩=some (.int .i64 nm):=HM3.out.q.cell 2
 have e3_3:w3.cell? ⟨w.heap.size,3,none⟩=some (.int .i64 p):=HM3.out.q.cell 3
 have e3_4:w3.cell? ⟨w.heap.size,4,none⟩=some (kv):=HM3.out.q.cell 4
 go_wp2_with fail
 go_end0
 have h:=HM3.out.post
 simpa [cat,tb] using h
theorem zCt {B g c1 c2:Nat} {s:ByteArray} {nm:Int} {p:Nat} {ks:List T} {kv:Value} {l:List UInt8} {d:Nat} {w:World} (h:Wn B g c1 c2 (T.mk 26 s nm p ks) kv l d w) (hk:zWb B g c1 c2 (T.mk 26 s nm p ks) kv) (hl:l.length+([38]++tb s).length≤140737488355328) :
  Calls Tryz.prog 49 #[.pointer (some ⟨g,0,none⟩),.agg #[.int .i64 26,.string s,.int .i64 nm,.int .i64 p,kv],.func (.func 44) #[] #[.pointer (some ⟨c1,0,none⟩),.pointer (some ⟨c2,0,none⟩)]] w (zMa B g (l++([38]++tb s)) d w):=by
 have HK:=zh hk
 have HL:=zh hl
 obtain ⟨W0,hW0,HM0⟩:∃ W,w.alloc (.cells [.int .i64 26,.string s,.int .i64 nm,.int .i64 p,kv].toArray 25)=W∧Hid (Wm w B g c1 c2 w.heap.size _ _ l d W):=⟨_,rfl,zh (Wm.start h)⟩
 have e0_0:W0.cell? ⟨w.heap.size,0,none⟩=some (.int .i64 26):=HM0.out.q.cell 0
 have e0_1:W0.cell? ⟨w.heap.size,1,none⟩=some (.string s):=HM0.out.q.cell 1
 have e0_2:W0.cell? ⟨w.heap.size,2,none⟩=some (.int .i64 nm):=HM0.out.q.cell 2
 have e0_3:W0.cell? ⟨w.heap.size,3,none⟩=some (.int .i64 p):=HM0.out.q.cell 3
 have e0_4:W0.cell? ⟨w.heap.size,4,none⟩=some (kv):=HM0.out.q.cell 4
 clear h hk hl
 go_enter Tryz.func49,Tryz.ntmps49
 go_wp2_with fail
 refine (puts HM0.out.n.st [⟨#[38]⟩,s] 2 _ _ rfl rfl rfl (by omega) (by have hl:=HL.out;simp [cat,tb] at hl ⊢;omega)).mono ?_
 rintro e w1 ⟨rfl,hs,hb,ho⟩
 have HM1:=zh (HM0.out.step hs hb ho)
 clear hs hb ho
 have e1_0:w1.cell? ⟨w.heap.size,0,none⟩=some (.int .i64 26):=HM1.out.q.cell 0
 have e1_1:w1.cell? ⟨w.heap.size,1,none⟩=some (.string s):=HM1.out.q.cell 1
 have e1_2:w1.cell? ⟨w.heap.size,2,none⟩=some (.int .i64 nm):=HM1.out.q.cell 2
 have e1_3:w1.cell? ⟨w.heap.size,3,none⟩=some (.int .i64 p):=HM1.out.q.cell 3
 have e1_4:w1.cell? ⟨w.heap.size,4,none⟩=some (kv):=HM1.out.q.cell 4
 go_wp2_with fail
 go_end0
 have h:=HM1.out.post
 simpa [cat,tb] using h
theorem zCu {B g c1 c2:Nat} {s:ByteArray} {nm:Int} {p:Nat} {ks:List T} {kv:Value} {l:List UInt8} {d:Nat} {w:World} (h:Wn B g c1 c2 (T.mk 27 s nm p ks) kv l d w) (hk:zWb B g c1 c2 (T.mk 27 s nm p ks) kv) (hl:l.length+([38,109,117,116,32]++tb s).length≤140737488355328) :
  Calls Tryz.prog 49 #[.pointer (some ⟨g,0,none⟩),.agg #[.int .i64 27,.string s,.int .i64 nm,.int .i64 p,kv],.func (.func 44) #[] #[.pointer (some ⟨c1,0,none⟩),.pointer (some ⟨c2,0,none⟩)]] w (zMa B g (l++([38,109,117,116,32]++tb s)) d w):=by
 have HK:=zh hk
 have HL:=zh hl
 obtain ⟨W0,hW0,HM0⟩:∃ W,w.alloc (.cells [.int .i64 27,.string s,.int .i64 nm,.int .i64 p,kv].toArray 25)=W∧Hid (Wm w B g c1 c2 w.heap.size _ _ l d W):=⟨_,rfl,zh (Wm.start h)⟩
 have e0_0:W0.cell? ⟨w.heap.size,0,none⟩=some (.int .i64 27):=HM0.out.q.cell 0
 have e0_1:W0.cell? ⟨w.heap.size,1,none⟩=some (.string s):=HM0.out.q.cell 1
 have e0_2:W0.cell? ⟨w.heap.size,2,none⟩=some (.int .i64 nm):=HM0.out.q.cell 2
 have e0_3:W0.cell? ⟨w.heap.size,3,none⟩=some (.int .i64 p):=HM0.out.q.cell 3
 have e0_4:W0.cell? ⟨w.heap.size,4,none⟩=some (kv):=HM0.out.q.cell 4
 clear h hk hl
 go_enter Tryz.func49,Tryz.ntmps49
 go_wp2_with fail
 refine (puts HM0.out.n.st [⟨#[38,109,117,116,32]⟩,s] 2 _ _ rfl rfl rfl (by omega) (by have hl:=HL.out;simp [cat,tb] at hl ⊢;omega)).mono ?_
 rintro e w1 ⟨rfl,hs,hb,ho⟩
 have HM1:=zh (HM0.out.step hs hb ho)
 clear hs hb ho
 have e1_0:w1.cell? ⟨w.heap.size,0,none⟩=some (.int .i64 27):=HM1.out.q.cell 0
 have e1_1:w1.cell? ⟨w.heap.size,1,none⟩=some (.string s):=HM1.out.q.cell 1
 have e1_2:w1.cell? ⟨w.heap.size,2,none⟩=some (.int .i64 nm):=HM1.out.q.cell 2
 have e1_3:w1.cell? ⟨w.heap.size,3,none⟩=some (.int .i64 p):=HM1.out.q.cell 3
 have e1_4:w1.cell? ⟨w.heap.size,4,none⟩=some (kv):=HM1.out.q.cell 4
 go_wp2_with fail
 go_end0
 have h:=HM1.out.post
 simpa [cat,tb] using h
theorem zPs {B g c1 c2:Nat} {s:ByteArray} {nm:Int} {p:Nat} {ks:List T} {kv:Value} {l:List UInt8} {d:Nat} {w:World} (h:Wn B g c1 c2 (T.mk 28 s nm p ks) kv l d w) (hk:zWb B g c1 c2 (T.mk 28 s nm p ks) kv) (hz:ks.length≤1000000) (hl:l.length+(zRc (tb s) (zpb d ks)).length≤140737488355328) :
  Calls Tryz.prog 49 #[.pointer (some ⟨g,0,none⟩),.agg #[.int .i64 28,.string s,.int .i64 nm,.int .i64 p,kv],.func (.func 44) #[] #[.pointer (some ⟨c1,0,none⟩),.pointer (some ⟨c2,0,none⟩)]] w (zMa B g (l++(zRc (tb s) (zpb d ks))) d w):=by
 have HZ:=zh hz
 clear hz
 have HK:=zh hk
 have HL:=zh hl
 obtain ⟨W0,hW0,HM0⟩:∃ W,w.alloc (.cells [.int .i64 28,.string s,.int .i64 nm,.int .i64 p,kv].toArray 25)=W∧Hid (Wm w B g c1 c2 w.heap.size _ _ l d W):=⟨_,rfl,zh (Wm.start h)⟩
 have e0_0:W0.cell? ⟨w.heap.size,0,none⟩=some (.int .i64 28):=HM0.out.q.cell 0
 have e0_1:W0.cell? ⟨w.heap.size,1,none⟩=some (.string s):=HM0.out.q.cell 1
 have e0_2:W0.cell? ⟨w.heap.size,2,none⟩=some (.int .i64 nm):=HM0.out.q.cell 2
 have e0_3:W0.cell? ⟨w.heap.size,3,none⟩=some (.int .i64 p):=HM0.out.q.cell 3
 have e0_4:W0.cell? ⟨w.heap.size,4,none⟩=some (kv):=HM0.out.q.cell 4
 clear h hk hl
 go_enter Tryz.func49,Tryz.ntmps49
 go_wp2_with fail
 refine (zho HM0.out.n HK.out HZ.out HL.out).mono ?_
 rintro e w1 ⟨rfl,hs,hb,ho⟩
 have HM1:=zh (HM0.out.step hs hb ho)
 clear hs hb ho
 have e1_0:w1.cell? ⟨w.heap.size,0,none⟩=some (.int .i64 28):=HM1.out.q.cell 0
 have e1_1:w1.cell? ⟨w.heap.size,1,none⟩=some (.string s):=HM1.out.q.cell 1
 have e1_2:w1.cell? ⟨w.heap.size,2,none⟩=some (.int .i64 nm):=HM1.out.q.cell 2
 have e1_3:w1.cell? ⟨w.heap.size,3,none⟩=some (.int .i64 p):=HM1.out.q.cell 3
 have e1_4:w1.cell? ⟨w.heap.size,4,none⟩=some (kv):=HM1.out.q.cell 4
 go_wp2_with fail
 go_end0
 have h:=HM1.out.post
 simpa [cat,tb] using h
end Go.Proofs.YtbfgdpcgdmabpaaGreatDoor
