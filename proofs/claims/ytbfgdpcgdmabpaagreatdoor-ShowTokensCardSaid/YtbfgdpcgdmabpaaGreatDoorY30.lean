/- The contracts of the writer's statement, by kind. -/
import Derived.Test.YtbfgdpcgdmabpaaGreatDoorY26
namespace Go.Proofs.YtbfgdpcgdmabpaaGreatDoor
set_option maxRecDepth 100000
set_option maxHeartbeats 2000000
open Go.RowKit
theorem zar {B g c1 c2:Nat} {s:ByteArray} {nm:Int} {p:Nat} {ks:List T} {kv:Value} {l:List UInt8} {d:Nat} {w:World} {u:T} (h:Wn B g c1 c2 (T.mk 10 s nm p ks) kv l d w) (hk:zWb B g c1 c2 (T.mk 10 s nm p ks) kv) (h0:ks[0]?=some u) (hl:l.length+((tb s++([32,61,32]++shw d u))++[59]).length≤140737488355328) :
  Calls Tryz.prog 48 #[.pointer (some ⟨g,0,none⟩),.agg #[.int .i64 10,.string s,.int .i64 nm,.int .i64 p,kv],.func (.func 44) #[] #[.pointer (some ⟨c1,0,none⟩),.pointer (some ⟨c2,0,none⟩)]] w (zMa B g (l++((tb s++([32,61,32]++shw d u))++[59])) d w):=by
 have HK:=zh hk
 have HL:=zh hl
 obtain ⟨W0,hW0,HM0⟩:∃ W,w.alloc (.cells [.int .i64 10,.string s,.int .i64 nm,.int .i64 p,kv].toArray 25)=W∧Hid (Wm w B g c1 c2 w.heap.size _ _ l d W):=⟨_,rfl,zh (Wm.start h)⟩
 have e0_0:W0.cell? ⟨w.heap.size,0,none⟩=some (.int .i64 10):=HM0.out.q.cell 0
 have e0_1:W0.cell? ⟨w.heap.size,1,none⟩=some (.string s):=HM0.out.q.cell 1
 have e0_2:W0.cell? ⟨w.heap.size,2,none⟩=some (.int .i64 nm):=HM0.out.q.cell 2
 have e0_3:W0.cell? ⟨w.heap.size,3,none⟩=some (.int .i64 p):=HM0.out.q.cell 3
 have e0_4:W0.cell? ⟨w.heap.size,4,none⟩=some (kv):=HM0.out.q.cell 4
 clear h hk hl
 go_enter Tryz.func48,Tryz.ntmps48
 go_wp2_with fail
 refine (zGt HM0.out.n HK.out h0 (by have hl:=HL.out;simp at hl ⊢;omega)).mono ?_
 rintro e w1 ⟨rfl,hs,hb,ho⟩
 have HM1:=zh (HM0.out.step hs hb ho)
 clear hs hb ho
 have e1_0:w1.cell? ⟨w.heap.size,0,none⟩=some (.int .i64 10):=HM1.out.q.cell 0
 have e1_1:w1.cell? ⟨w.heap.size,1,none⟩=some (.string s):=HM1.out.q.cell 1
 have e1_2:w1.cell? ⟨w.heap.size,2,none⟩=some (.int .i64 nm):=HM1.out.q.cell 2
 have e1_3:w1.cell? ⟨w.heap.size,3,none⟩=some (.int .i64 p):=HM1.out.q.cell 3
 have e1_4:w1.cell? ⟨w.heap.size,4,none⟩=some (kv):=HM1.out.q.cell 4
 go_wp2_with fail
 refine (puts HM1.out.n.st [⟨#[59]⟩] 1 _ _ rfl rfl rfl (by omega) (by have hl:=HL.out;simp [cat,tb] at hl ⊢;omega)).mono ?_
 rintro e w2 ⟨rfl,hs,hb,ho⟩
 have HM2:=zh (HM1.out.step hs hb ho)
 clear hs hb ho
 have e2_0:w2.cell? ⟨w.heap.size,0,none⟩=some (.int .i64 10):=HM2.out.q.cell 0
 have e2_1:w2.cell? ⟨w.heap.size,1,none⟩=some (.string s):=HM2.out.q.cell 1
 have e2_2:w2.cell? ⟨w.heap.size,2,none⟩=some (.int .i64 nm):=HM2.out.q.cell 2
 have e2_3:w2.cell? ⟨w.heap.size,3,none⟩=some (.int .i64 p):=HM2.out.q.cell 3
 have e2_4:w2.cell? ⟨w.heap.size,4,none⟩=some (kv):=HM2.out.q.cell 4
 go_wp2_with fail
 go_end0
 have h:=HM2.out.post
 simpa [cat,tb] using h
theorem zQq {B g c1 c2:Nat} {s:ByteArray} {nm:Int} {p:Nat} {ks:List T} {kv:Value} {l:List UInt8} {d:Nat} {w:World} {u v:T} (h:Wn B g c1 c2 (T.mk 11 s nm p ks) kv l d w) (hk:zWb B g c1 c2 (T.mk 11 s nm p ks) kv) (h0:ks[0]?=some u) (h1:ks[1]?=some v) (hl:l.length+((tb s++([91]++(shw d u++([93,32,61,32]++shw d v))))++[59]).length≤140737488355328) :
  Calls Tryz.prog 48 #[.pointer (some ⟨g,0,none⟩),.agg #[.int .i64 11,.string s,.int .i64 nm,.int .i64 p,kv],.func (.func 44) #[] #[.pointer (some ⟨c1,0,none⟩),.pointer (some ⟨c2,0,none⟩)]] w (zMa B g (l++((tb s++([91]++(shw d u++([93,32,61,32]++shw d v))))++[59])) d w):=by
 have HK:=zh hk
 have HL:=zh hl
 obtain ⟨W0,hW0,HM0⟩:∃ W,w.alloc (.cells [.int .i64 11,.string s,.int .i64 nm,.int .i64 p,kv].toArray 25)=W∧Hid (Wm w B g c1 c2 w.heap.size _ _ l d W):=⟨_,rfl,zh (Wm.start h)⟩
 have e0_0:W0.cell? ⟨w.heap.size,0,none⟩=some (.int .i64 11):=HM0.out.q.cell 0
 have e0_1:W0.cell? ⟨w.heap.size,1,none⟩=some (.string s):=HM0.out.q.cell 1
 have e0_2:W0.cell? ⟨w.heap.size,2,none⟩=some (.int .i64 nm):=HM0.out.q.cell 2
 have e0_3:W0.cell? ⟨w.heap.size,3,none⟩=some (.int .i64 p):=HM0.out.q.cell 3
 have e0_4:W0.cell? ⟨w.heap.size,4,none⟩=some (kv):=HM0.out.q.cell 4
 clear h hk hl
 go_enter Tryz.func48,Tryz.ntmps48
 go_wp2_with fail
 refine (znu HM0.out.n HK.out h0 h1 (by have hl:=HL.out;simp at hl ⊢;omega)).mono ?_
 rintro e w1 ⟨rfl,hs,hb,ho⟩
 have HM1:=zh (HM0.out.step hs hb ho)
 clear hs hb ho
 have e1_0:w1.cell? ⟨w.heap.size,0,none⟩=some (.int .i64 11):=HM1.out.q.cell 0
 have e1_1:w1.cell? ⟨w.heap.size,1,none⟩=some (.string s):=HM1.out.q.cell 1
 have e1_2:w1.cell? ⟨w.heap.size,2,none⟩=some (.int .i64 nm):=HM1.out.q.cell 2
 have e1_3:w1.cell? ⟨w.heap.size,3,none⟩=some (.int .i64 p):=HM1.out.q.cell 3
 have e1_4:w1.cell? ⟨w.heap.size,4,none⟩=some (kv):=HM1.out.q.cell 4
 go_wp2_with fail
 refine (puts HM1.out.n.st [⟨#[59]⟩] 1 _ _ rfl rfl rfl (by omega) (by have hl:=HL.out;simp [cat,tb] at hl ⊢;omega)).mono ?_
 rintro e w2 ⟨rfl,hs,hb,ho⟩
 have HM2:=zh (HM1.out.step hs hb ho)
 clear hs hb ho
 have e2_0:w2.cell? ⟨w.heap.size,0,none⟩=some (.int .i64 11):=HM2.out.q.cell 0
 have e2_1:w2.cell? ⟨w.heap.size,1,none⟩=some (.string s):=HM2.out.q.cell 1
 have e2_2:w2.cell? ⟨w.heap.size,2,none⟩=some (.int .i64 nm):=HM2.out.q.cell 2
 have e2_3:w2.cell? ⟨w.heap.size,3,none⟩=some (.int .i64 p):=HM2.out.q.cell 3
 have e2_4:w2.cell? ⟨w.heap.size,4,none⟩=some (kv):=HM2.out.q.cell 4
 go_wp2_with fail
 go_end0
 have h:=HM2.out.post
 simpa [cat,tb] using h
theorem zer {B g c1 c2:Nat} {s:ByteArray} {nm:Int} {p:Nat} {ks:List T} {kv:Value} {l:List UInt8} {d:Nat} {w:World} (h:Wn B g c1 c2 (T.mk 12 s nm p ks) kv l d w) (hk:zWb B g c1 c2 (T.mk 12 s nm p ks) kv) (hl:l.length+(([102,114,101,101,32]++tb s)++[59]).length≤140737488355328) :
  Calls Tryz.prog 48 #[.pointer (some ⟨g,0,none⟩),.agg #[.int .i64 12,.string s,.int .i64 nm,.int .i64 p,kv],.func (.func 44) #[] #[.pointer (some ⟨c1,0,none⟩),.pointer (some ⟨c2,0,none⟩)]] w (zMa B g (l++(([102,114,101,101,32]++tb s)++[59])) d w):=by
 have HK:=zh hk
 have HL:=zh hl
 obtain ⟨W0,hW0,HM0⟩:∃ W,w.alloc (.cells [.int .i64 12,.string s,.int .i64 nm,.int .i64 p,kv].toArray 25)=W∧Hid (Wm w B g c1 c2 w.heap.size _ _ l d W):=⟨_,rfl,zh (Wm.start h)⟩
 have e0_0:W0.cell? ⟨w.heap.size,0,none⟩=some (.int .i64 12):=HM0.out.q.cell 0
 have e0_1:W0.cell? ⟨w.heap.size,1,none⟩=some (.string s):=HM0.out.q.cell 1
 have e0_2:W0.cell? ⟨w.heap.size,2,none⟩=some (.int .i64 nm):=HM0.out.q.cell 2
 have e0_3:W0.cell? ⟨w.heap.size,3,none⟩=some (.int .i64 p):=HM0.out.q.cell 3
 have e0_4:W0.cell? ⟨w.heap.size,4,none⟩=some (kv):=HM0.out.q.cell 4
 clear h hk hl
 go_enter Tryz.func48,Tryz.ntmps48
 go_wp2_with fail
 refine (zPt HM0.out.n HK.out  (by have hl:=HL.out;simp at hl ⊢;omega)).mono ?_
 rintro e w1 ⟨rfl,hs,hb,ho⟩
 have HM1:=zh (HM0.out.step hs hb ho)
 clear hs hb ho
 have e1_0:w1.cell? ⟨w.heap.size,0,none⟩=some (.int .i64 12):=HM1.out.q.cell 0
 have e1_1:w1.cell? ⟨w.heap.size,1,none⟩=some (.string s):=HM1.out.q.cell 1
 have e1_2:w1.cell? ⟨w.heap.size,2,none⟩=some (.int .i64 nm):=HM1.out.q.cell 2
 have e1_3:w1.cell? ⟨w.heap.size,3,none⟩=some (.int .i64 p):=HM1.out.q.cell 3
 have e1_4:w1.cell? ⟨w.heap.size,4,none⟩=some (kv):=HM1.out.q.cell 4
 go_wp2_with fail
 refine (puts HM1.out.n.st [⟨#[59]⟩] 1 _ _ rfl rfl rfl (by omega) (by have hl:=HL.out;simp [cat,tb] at hl ⊢;omega)).mono ?_
 rintro e w2 ⟨rfl,hs,hb,ho⟩
 have HM2:=zh (HM1.out.step hs hb ho)
 clear hs hb ho
 have e2_0:w2.cell? ⟨w.heap.size,0,none⟩=some (.int .i64 12):=HM2.out.q.cell 0
 have e2_1:w2.cell? ⟨w.heap.size,1,none⟩=some (.string s):=HM2.out.q.cell 1
 have e2_2:w2.cell? ⟨w.heap.size,2,none⟩=some (.int .i64 nm):=HM2.out.q.cell 2
 have e2_3:w2.cell? ⟨w.heap.size,3,none⟩=some (.int .i64 p):=HM2.out.q.cell 3
 have e2_4:w2.cell? ⟨w.heap.size,4,none⟩=some (kv):=HM2.out.q.cell 4
 go_wp2_with fail
 go_end0
 have h:=HM2.out.post
 simpa [cat,tb] using h
theorem zGr {B g c1 c2:Nat} {s:ByteArray} {nm:Int} {p:Nat} {ks:List T} {kv:Value} {l:List UInt8} {d:Nat} {w:World} (h:Wn B g c1 c2 (T.mk 13 s nm p ks) kv l d w) (hk:zWb B g c1 c2 (T.mk 13 s nm p ks) kv) (hn:-1099511627776≤nm∧nm≤1099511627776) (hl:l.length+(([108,111,99,107,32]++(tb s++([91]++(dec nm++[93]))))++[59]).length≤140737488355328) :
  Calls Tryz.prog 48 #[.pointer (some ⟨g,0,none⟩),.agg #[.int .i64 13,.string s,.int .i64 nm,.int .i64 p,kv],.func (.func 44) #[] #[.pointer (some ⟨c1,0,none⟩),.pointer (some ⟨c2,0,none⟩)]] w (zMa B g (l++(([108,111,99,107,32]++(tb s++([91]++(dec nm++[93]))))++[59])) d w):=by
 have HK:=zh hk
 have HL:=zh hl
 obtain ⟨W0,hW0,HM0⟩:∃ W,w.alloc (.cells [.int .i64 13,.string s,.int .i64 nm,.int .i64 p,kv].toArray 25)=W∧Hid (Wm w B g c1 c2 w.heap.size _ _ l d W):=⟨_,rfl,zh (Wm.start h)⟩
 have e0_0:W0.cell? ⟨w.heap.size,0,none⟩=some (.int .i64 13):=HM0.out.q.cell 0
 have e0_1:W0.cell? ⟨w.heap.size,1,none⟩=some (.string s):=HM0.out.q.cell 1
 have e0_2:W0.cell? ⟨w.heap.size,2,none⟩=some (.int .i64 nm):=HM0.out.q.cell 2
 have e0_3:W0.cell? ⟨w.heap.size,3,none⟩=some (.int .i64 p):=HM0.out.q.cell 3
 have e0_4:W0.cell? ⟨w.heap.size,4,none⟩=some (kv):=HM0.out.q.cell 4
 clear h hk hl
 go_enter Tryz.func48,Tryz.ntmps48
 go_wp2_with fail
 refine (zXt HM0.out.n HK.out hn (by have hl:=HL.out;simp at hl ⊢;omega)).mono ?_
 rintro e w1 ⟨rfl,hs,hb,ho⟩
 have HM1:=zh (HM0.out.step hs hb ho)
 clear hs hb ho
 have e1_0:w1.cell? ⟨w.heap.size,0,none⟩=some (.int .i64 13):=HM1.out.q.cell 0
 have e1_1:w1.cell? ⟨w.heap.size,1,none⟩=some (.string s):=HM1.out.q.cell 1
 have e1_2:w1.cell? ⟨w.heap.size,2,none⟩=some (.int .i64 nm):=HM1.out.q.cell 2
 have e1_3:w1.cell? ⟨w.heap.size,3,none⟩=some (.int .i64 p):=HM1.out.q.cell 3
 have e1_4:w1.cell? ⟨w.heap.size,4,none⟩=some (kv):=HM1.out.q.cell 4
 go_wp2_with fail
 refine (puts HM1.out.n.st [⟨#[59]⟩] 1 _ _ rfl rfl rfl (by omega) (by have hl:=HL.out;simp [cat,tb] at hl ⊢;omega)).mono ?_
 rintro e w2 ⟨rfl,hs,hb,ho⟩
 have HM2:=zh (HM1.out.step hs hb ho)
 clear hs hb ho
 have e2_0:w2.cell? ⟨w.heap.size,0,none⟩=some (.int .i64 13):=HM2.out.q.cell 0
 have e2_1:w2.cell? ⟨w.heap.size,1,none⟩=some (.string s):=HM2.out.q.cell 1
 have e2_2:w2.cell? ⟨w.heap.size,2,none⟩=some (.int .i64 nm):=HM2.out.q.cell 2
 have e2_3:w2.cell? ⟨w.heap.size,3,none⟩=some (.int .i64 p):=HM2.out.q.cell 3
 have e2_4:w2.cell? ⟨w.heap.size,4,none⟩=some (kv):=HM2.out.q.cell 4
 go_wp2_with fail
 go_end0
 have h:=HM2.out.post
 simpa [cat,tb] using h
theorem zlr {B g c1 c2:Nat} {s:ByteArray} {nm:Int} {p:Nat} {ks:List T} {kv:Value} {l:List UInt8} {d:Nat} {w:World} (h:Wn B g c1 c2 (T.mk 14 s nm p ks) kv l d w) (hk:zWb B g c1 c2 (T.mk 14 s nm p ks) kv) (hn:-1099511627776≤nm∧nm≤1099511627776) (hl:l.length+(([117,110,108,111,99,107,32]++(tb s++([91]++(dec nm++[93]))))++[59]).length≤140737488355328) :
  Calls Tryz.prog 48 #[.pointer (some ⟨g,0,none⟩),.agg #[.int .i64 14,.string s,.int .i64 nm,.int .i64 p,kv],.func (.func 44) #[] #[.pointer (some ⟨c1,0,none⟩),.pointer (some ⟨c2,0,none⟩)]] w (zMa B g (l++(([117,110,108,111,99,107,32]++(tb s++([91]++(dec nm++[93]))))++[59])) d w):=by
 have HK:=zh hk
 have HL:=zh hl
 obtain ⟨W0,hW0,HM0⟩:∃ W,w.alloc (.cells [.int .i64 14,.string s,.int .i64 nm,.int .i64 p,kv].toArray 25)=W∧Hid (Wm w B g c1 c2 w.heap.size _ _ l d W):=⟨_,rfl,zh (Wm.start h)⟩
 have e0_0:W0.cell? ⟨w.heap.size,0,none⟩=some (.int .i64 14):=HM0.out.q.cell 0
 have e0_1:W0.cell? ⟨w.heap.size,1,none⟩=some (.string s):=HM0.out.q.cell 1
 have e0_2:W0.cell? ⟨w.heap.size,2,none⟩=some (.int .i64 nm):=HM0.out.q.cell 2
 have e0_3:W0.cell? ⟨w.heap.size,3,none⟩=some (.int .i64 p):=HM0.out.q.cell 3
 have e0_4:W0.cell? ⟨w.heap.size,4,none⟩=some (kv):=HM0.out.q.cell 4
 clear h hk hl
 go_enter Tryz.func48,Tryz.ntmps48
 go_wp2_with fail
 refine (zht HM0.out.n HK.out hn (by have hl:=HL.out;simp at hl ⊢;omega)).mono ?_
 rintro e w1 ⟨rfl,hs,hb,ho⟩
 have HM1:=zh (HM0.out.step hs hb ho)
 clear hs hb ho
 have e1_0:w1.cell? ⟨w.heap.size,0,none⟩=some (.int .i64 14):=HM1.out.q.cell 0
 have e1_1:w1.cell? ⟨w.heap.size,1,none⟩=some (.string s):=HM1.out.q.cell 1
 have e1_2:w1.cell? ⟨w.heap.size,2,none⟩=some (.int .i64 nm):=HM1.out.q.cell 2
 have e1_3:w1.cell? ⟨w.heap.size,3,none⟩=some (.int .i64 p):=HM1.out.q.cell 3
 have e1_4:w1.cell? ⟨w.heap.size,4,none⟩=some (kv):=HM1.out.q.cell 4
 go_wp2_with fail
 refine (puts HM1.out.n.st [⟨#[59]⟩] 1 _ _ rfl rfl rfl (by omega) (by have hl:=HL.out;simp [cat,tb] at hl ⊢;omega)).mono ?_
 rintro e w2 ⟨rfl,hs,hb,ho⟩
 have HM2:=zh (HM1.out.step hs hb ho)
 clear hs hb ho
 have e2_0:w2.cell? ⟨w.heap.size,0,none⟩=some (.int .i64 14):=HM2.out.q.cell 0
 have e2_1:w2.cell? ⟨w.heap.size,1,none⟩=some (.string s):=HM2.out.q.cell 1
 have e2_2:w2.cell? ⟨w.heap.size,2,none⟩=some (.int .i64 nm):=HM2.out.q.cell 2
 have e2_3:w2.cell? ⟨w.heap.size,3,none⟩=some (.int .i64 p):=HM2.out.q.cell 3
 have e2_4:w2.cell? ⟨w.heap.size,4,none⟩=some (kv):=HM2.out.q.cell 4
 go_wp2_with fail
 go_end0
 have h:=HM2.out.post
 simpa [cat,tb] using h
theorem zvq {B g c1 c2:Nat} {s:ByteArray} {nm:Int} {p:Nat} {ks:List T} {kv:Value} {l:List UInt8} {d:Nat} {w:World} (h:Wn B g c1 c2 (T.mk 17 s nm p ks) kv l d w) (hk:zWb B g c1 c2 (T.mk 17 s nm p ks) kv) (hz:ks.length≤1000000) (hl:l.length+(([114,101,116,117,114,110]++maybe [32] [] (zpb d ks))++[59]).length≤140737488355328) :
  Calls Tryz.prog 48 #[.pointer (some ⟨g,0,none⟩),.agg #[.int .i64 17,.string s,.int .i64 nm,.int .i64 p,kv],.func (.func 44) #[] #[.pointer (some ⟨c1,0,none⟩),.pointer (some ⟨c2,0,none⟩)]] w (zMa B g (l++(([114,101,116,117,114,110]++maybe [32] [] (zpb d ks))++[59])) d w):=by
 have HZ:=zh hz
 clear hz
 have HK:=zh hk
 have HL:=zh hl
 obtain ⟨W0,hW0,HM0⟩:∃ W,w.alloc (.cells [.int .i64 17,.string s,.int .i64 nm,.int .i64 p,kv].toArray 25)=W∧Hid (Wm w B g c1 c2 w.heap.size _ _ l d W):=⟨_,rfl,zh (Wm.start h)⟩
 have e0_0:W0.cell? ⟨w.heap.size,0,none⟩=some (.int .i64 17):=HM0.out.q.cell 0
 have e0_1:W0.cell? ⟨w.heap.size,1,none⟩=some (.string s):=HM0.out.q.cell 1
 have e0_2:W0.cell? ⟨w.heap.size,2,none⟩=some (.int .i64 nm):=HM0.out.q.cell 2
 have e0_3:W0.cell? ⟨w.heap.size,3,none⟩=some (.int .i64 p):=HM0.out.q.cell 3
 have e0_4:W0.cell? ⟨w.heap.size,4,none⟩=some (kv):=HM0.out.q.cell 4
 clear h hk hl
 go_enter Tryz.func48,Tryz.ntmps48
 go_wp2_with fail
 refine (zLs HM0.out.n HK.out HZ.out (by have hl:=HL.out;simp at hl ⊢;omega)).mono ?_
 rintro e w1 ⟨rfl,hs,hb,ho⟩
 have HM1:=zh (HM0.out.step hs hb ho)
 clear hs hb ho
 have e1_0:w1.cell? ⟨w.heap.size,0,none⟩=some (.int .i64 17):=HM1.out.q.cell 0
 have e1_1:w1.cell? ⟨w.heap.size,1,none⟩=some (.string s):=HM1.out.q.cell 1
 have e1_2:w1.cell? ⟨w.heap.size,2,none⟩=some (.int .i64 nm):=HM1.out.q.cell 2
 have e1_3:w1.cell? ⟨w.heap.size,3,none⟩=some (.int .i64 p):=HM1.out.q.cell 3
 have e1_4:w1.cell? ⟨w.heap.size,4,none⟩=some (kv):=HM1.out.q.cell 4
 go_wp2_with fail
 refine (puts HM1.out.n.st [⟨#[59]⟩] 1 _ _ rfl rfl rfl (by omega) (by have hl:=HL.out;simp [cat,tb] at hl ⊢;omega)).mono ?_
 rintro e w2 ⟨rfl,hs,hb,ho⟩
 have HM2:=zh (HM1.out.step hs hb ho)
 clear hs hb ho
 have e2_0:w2.cell? ⟨w.heap.size,0,none⟩=some (.int .i64 17):=HM2.out.q.cell 0
 have e2_1:w2.cell? ⟨w.heap.size,1,none⟩=some (.string s):=HM2.out.q.cell 1
 have e2_2:w2.cell? ⟨w.heap.size,2,none⟩=some (.int .i64 nm):=HM2.out.q.cell 2
 have e2_3:w2.cell? ⟨w.heap.size,3,none⟩=some (.int .i64 p):=HM2.out.q.cell 3
 have e2_4:w2.cell? ⟨w.heap.size,4,none⟩=some (kv):=HM2.out.q.cell 4
 go_wp2_with fail
 go_end0
 have h:=HM2.out.post
 simpa [cat,tb] using h
theorem zHr {B g c1 c2:Nat} {s:ByteArray} {nm:Int} {p:Nat} {ks:List T} {kv:Value} {l:List UInt8} {d:Nat} {w:World} (h:Wn B g c1 c2 (T.mk 18 s nm p ks) kv l d w) (hk:zWb B g c1 c2 (T.mk 18 s nm p ks) kv) (hl:l.length+(([97,98,111,114,116])++[59]).length≤140737488355328) :
  Calls Tryz.prog 48 #[.pointer (some ⟨g,0,none⟩),.agg #[.int .i64 18,.string s,.int .i64 nm,.int .i64 p,kv],.func (.func 44) #[] #[.pointer (some ⟨c1,0,none⟩),.pointer (some ⟨c2,0,none⟩)]] w (zMa B g (l++(([97,98,111,114,116])++[59])) d w):=by
 have HK:=zh hk
 have HL:=zh hl
 obtain ⟨W0,hW0,HM0⟩:∃ W,w.alloc (.cells [.int .i64 18,.string s,.int .i64 nm,.int .i64 p,kv].toArray 25)=W∧Hid (Wm w B g c1 c2 w.heap.size _ _ l d W):=⟨_,rfl,zh (Wm.start h)⟩
 have e0_0:W0.cell? ⟨w.heap.size,0,none⟩=some (.int .i64 18):=HM0.out.q.cell 0
 have e0_1:W0.cell? ⟨w.heap.size,1,none⟩=some (.string s):=HM0.out.q.cell 1
 have e0_2:W0.cell? ⟨w.heap.size,2,none⟩=some (.int .i64 nm):=HM0.out.q.cell 2
 have e0_3:W0.cell? ⟨w.heap.size,3,none⟩=some (.int .i64 p):=HM0.out.q.cell 3
 have e0_4:W0.cell? ⟨w.heap.size,4,none⟩=some (kv):=HM0.out.q.cell 4
 clear h hk hl
 go_enter Tryz.func48,Tryz.ntmps48
 go_wp2_with fail
 refine (zqu HM0.out.n HK.out  (by have hl:=HL.out;simp at hl ⊢;omega)).mono ?_
 rintro e w1 ⟨rfl,hs,hb,ho⟩
 have HM1:=zh (HM0.out.step hs hb ho)
 clear hs hb ho
 have e1_0:w1.cell? ⟨w.heap.size,0,none⟩=some (.int .i64 18):=HM1.out.q.cell 0
 have e1_1:w1.cell? ⟨w.heap.size,1,none⟩=some (.string s):=HM1.out.q.cell 1
 have e1_2:w1.cell? ⟨w.heap.size,2,none⟩=some (.int .i64 nm):=HM1.out.q.cell 2
 have e1_3:w1.cell? ⟨w.heap.size,3,none⟩=some (.int .i64 p):=HM1.out.q.cell 3
 have e1_4:w1.cell? ⟨w.heap.size,4,none⟩=some (kv):=HM1.out.q.cell 4
 go_wp2_with fail
 refine (puts HM1.out.n.st [⟨#[59]⟩] 1 _ _ rfl rfl rfl (by omega) (by have hl:=HL.out;simp [cat,tb] at hl ⊢;omega)).mono ?_
 rintro e w2 ⟨rfl,hs,hb,ho⟩
 have HM2:=zh (HM1.out.step hs hb ho)
 clear hs hb ho
 have e2_0:w2.cell? ⟨w.heap.size,0,none⟩=some (.int .i64 18):=HM2.out.q.cell 0
 have e2_1:w2.cell? ⟨w.heap.size,1,none⟩=some (.string s):=HM2.out.q.cell 1
 have e2_2:w2.cell? ⟨w.heap.size,2,none⟩=some (.int .i64 nm):=HM2.out.q.cell 2
 have e2_3:w2.cell? ⟨w.heap.size,3,none⟩=some (.int .i64 p):=HM2.out.q.cell 3
 have e2_4:w2.cell? ⟨w.heap.size,4,none⟩=some (kv):=HM2.out.q.cell 4
 go_wp2_with fail
 go_end0
 have h:=HM2.out.post
 simpa [cat,tb] using h
theorem zgr {B g c1 c2:Nat} {s:ByteArray} {nm:Int} {p:Nat} {ks:List T} {kv:Value} {l:List UInt8} {d:Nat} {w:World} (h:Wn B g c1 c2 (T.mk 19 s nm p ks) kv l d w) (hk:zWb B g c1 c2 (T.mk 19 s nm p ks) kv) (hz:ks.length≤1000000) (hl:l.length+(([102,111,114,107,32]++zRc (tb s) (zpb d ks))++[59]).length≤140737488355328) :
  Calls Tryz.prog 48 #[.pointer (some ⟨g,0,none⟩),.agg #[.int .i64 19,.string s,.int .i64 nm,.int .i64 p,kv],.func (.func 44) #[] #[.pointer (some ⟨c1,0,none⟩),.pointer (some ⟨c2,0,none⟩)]] w (zMa B g (l++(([102,111,114,107,32]++zRc (tb s) (zpb d ks))++[59])) d w):=by
 have HZ:=zh hz
 clear hz
 have HK:=zh hk
 have HL:=zh hl
 obtain ⟨W0,hW0,HM0⟩:∃ W,w.alloc (.cells [.int .i64 19,.string s,.int .i64 nm,.int .i64 p,kv].toArray 25)=W∧Hid (Wm w B g c1 c2 w.heap.size _ _ l d W):=⟨_,rfl,zh (Wm.start h)⟩
 have e0_0:W0.cell? ⟨w.heap.size,0,none⟩=some (.int .i64 19):=HM0.out.q.cell 0
 have e0_1:W0.cell? ⟨w.heap.size,1,none⟩=some (.string s):=HM0.out.q.cell 1
 have e0_2:W0.cell? ⟨w.heap.size,2,none⟩=some (.int .i64 nm):=HM0.out.q.cell 2
 have e0_3:W0.cell? ⟨w.heap.size,3,none⟩=some (.int .i64 p):=HM0.out.q.cell 3
 have e0_4:W0.cell? ⟨w.heap.size,4,none⟩=some (kv):=HM0.out.q.cell 4
 clear h hk hl
 go_enter Tryz.func48,Tryz.ntmps48
 go_wp2_with fail
 refine (zDt HM0.out.n HK.out HZ.out (by have hl:=HL.out;simp at hl ⊢;omega)).mono ?_
 rintro e w1 ⟨rfl,hs,hb,ho⟩
 have HM1:=zh (HM0.out.step hs hb ho)
 clear hs hb ho
 have e1_0:w1.cell? ⟨w.heap.size,0,none⟩=some (.int .i64 19):=HM1.out.q.cell 0
 have e1_1:w1.cell? ⟨w.heap.size,1,none⟩=some (.string s):=HM1.out.q.cell 1
 have e1_2:w1.cell? ⟨w.heap.size,2,none⟩=some (.int .i64 nm):=HM1.out.q.cell 2
 have e1_3:w1.cell? ⟨w.heap.size,3,none⟩=some (.int .i64 p):=HM1.out.q.cell 3
 have e1_4:w1.cell? ⟨w.heap.size,4,none⟩=some (kv):=HM1.out.q.cell 4
 go_wp2_with fail
 refine (puts HM1.out.n.st [⟨#[59]⟩] 1 _ _ rfl rfl rfl (by omega) (by have hl:=HL.out;simp [cat,tb] at hl ⊢;omega)).mono ?_
 rintro e w2 ⟨rfl,hs,hb,ho⟩
 have HM2:=zh (HM1.out.step hs hb ho)
 clear hs hb ho
 have e2_0:w2.cell? ⟨w.heap.size,0,none⟩=some (.int .i64 19):=HM2.out.q.cell 0
 have e2_1:w2.cell? ⟨w.heap.size,1,none⟩=some (.string s):=HM2.out.q.cell 1
 have e2_2:w2.cell? ⟨w.heap.size,2,none⟩=some (.int .i64 nm):=HM2.out.q.cell 2
 have e2_3:w2.cell? ⟨w.heap.size,3,none⟩=some (.int .i64 p):=HM2.out.q.cell 3
 have e2_4:w2.cell? ⟨w.heap.size,4,none⟩=some (kv):=HM2.out.q.cell 4
 go_wp2_with fail
 go_end0
 have h:=HM2.out.post
 simpa [cat,tb] using h
theorem zsq {B g c1 c2:Nat} {s:ByteArray} {nm:Int} {p:Nat} {ks:List T} {kv:Value} {l:List UInt8} {d:Nat} {w:World} {u:T} (h:Wn B g c1 c2 (T.mk 20 s nm p ks) kv l d w) (hk:zWb B g c1 c2 (T.mk 20 s nm p ks) kv) (h0:ks[0]?=some u) (hl:l.length+((shw d u)++[59]).length≤140737488355328) :
  Calls Tryz.prog 48 #[.pointer (some ⟨g,0,none⟩),.agg #[.int .i64 20,.string s,.int .i64 nm,.int .i64 p,kv],.func (.func 44) #[] #[.pointer (some ⟨c1,0,none⟩),.pointer (some ⟨c2,0,none⟩)]] w (zMa B g (l++((shw d u)++[59])) d w):=by
 have HK:=zh hk
 have HL:=zh hl
 obtain ⟨W0,hW0,HM0⟩:∃ W,w.alloc (.cells [.int .i64 20,.string s,.int .i64 nm,.int .i64 p,kv].toArray 25)=W∧Hid (Wm w B g c1 c2 w.heap.size _ _ l d W):=⟨_,rfl,zh (Wm.start h)⟩
 have e0_0:W0.cell? ⟨w.heap.size,0,none⟩=some (.int .i64 20):=HM0.out.q.cell 0
 have e0_1:W0.cell? ⟨w.heap.size,1,none⟩=some (.string s):=HM0.out.q.cell 1
 have e0_2:W0.cell? ⟨w.heap.size,2,none⟩=some (.int .i64 nm):=HM0.out.q.cell 2
 have e0_3:W0.cell? ⟨w.heap.size,3,none⟩=some (.int .i64 p):=HM0.out.q.cell 3
 have e0_4:W0.cell? ⟨w.heap.size,4,none⟩=some (kv):=HM0.out.q.cell 4
 clear h hk hl
 go_enter Tryz.func48,Tryz.ntmps48
 go_wp2_with fail
 refine (zUs HM0.out.n HK.out h0 (by have hl:=HL.out;simp at hl ⊢;omega)).mono ?_
 rintro e w1 ⟨rfl,hs,hb,ho⟩
 have HM1:=zh (HM0.out.step hs hb ho)
 clear hs hb ho
 have e1_0:w1.cell? ⟨w.heap.size,0,none⟩=some (.int .i64 20):=HM1.out.q.cell 0
 have e1_1:w1.cell? ⟨w.heap.size,1,none⟩=some (.string s):=HM1.out.q.cell 1
 have e1_2:w1.cell? ⟨w.heap.size,2,none⟩=some (.int .i64 nm):=HM1.out.q.cell 2
 have e1_3:w1.cell? ⟨w.heap.size,3,none⟩=some (.int .i64 p):=HM1.out.q.cell 3
 have e1_4:w1.cell? ⟨w.heap.size,4,none⟩=some (kv):=HM1.out.q.cell 4
 go_wp2_with fail
 refine (puts HM1.out.n.st [⟨#[59]⟩] 1 _ _ rfl rfl rfl (by omega) (by have hl:=HL.out;simp [cat,tb] at hl ⊢;omega)).mono ?_
 rintro e w2 ⟨rfl,hs,hb,ho⟩
 have HM2:=zh (HM1.out.step hs hb ho)
 clear hs hb ho
 have e2_0:w2.cell? ⟨w.heap.size,0,none⟩=some (.int .i64 20):=HM2.out.q.cell 0
 have e2_1:w2.cell? ⟨w.heap.size,1,none⟩=some (.string s):=HM2.out.q.cell 1
 have e2_2:w2.cell? ⟨w.heap.size,2,none⟩=some (.int .i64 nm):=HM2.out.q.cell 2
 have e2_3:w2.cell? ⟨w.heap.size,3,none⟩=some (.int .i64 p):=HM2.out.q.cell 3
 have e2_4:w2.cell? ⟨w.heap.size,4,none⟩=some (kv):=HM2.out.q.cell 4
 go_wp2_with fail
 go_end0
 have h:=HM2.out.post
 simpa [cat,tb] using h
theorem zpt {B g c1 c2:Nat} {s:ByteArray} {nm:Int} {p:Nat} {ks:List T} {kv:Value} {l:List UInt8} {d:Nat} {w:World} (h:Wn B g c1 c2 (T.mk 9 s nm p ks) kv l d w) (hk:zWb B g c1 c2 (T.mk 9 s nm p ks) kv) (hz:ks.length≤1000000) (hl:l.length+(zid d (zpb (d+1) ks)).length≤140737488355328) :
  Calls Tryz.prog 48 #[.pointer (some ⟨g,0,none⟩),.agg #[.int .i64 9,.string s,.int .i64 nm,.int .i64 p,kv],.func (.func 44) #[] #[.pointer (some ⟨c1,0,none⟩),.pointer (some ⟨c2,0,none⟩)]] w (zMa B g (l++(zid d (zpb (d+1) ks))) d w):=by
 have HZ:=zh hz
 clear hz
 have HK:=zh hk
 have HL:=zh hl
 obtain ⟨W0,hW0,HM0⟩:∃ W,w.alloc (.cells [.int .i64 9,.string s,.int .i64 nm,.int .i64 p,kv].toArray 25)=W∧Hid (Wm w B g c1 c2 w.heap.size _ _ l d W):=⟨_,rfl,zh (Wm.start h)⟩
 have e0_0:W0.cell? ⟨w.heap.size,0,none⟩=some (.int .i64 9):=HM0.out.q.cell 0
 have e0_1:W0.cell? ⟨w.heap.size,1,none⟩=some (.string s):=HM0.out.q.cell 1
 have e0_2:W0.cell? ⟨w.heap.size,2,none⟩=some (.int .i64 nm):=HM0.out.q.cell 2
 have e0_3:W0.cell? ⟨w.heap.size,3,none⟩=some (.int .i64 p):=HM0.out.q.cell 3
 have e0_4:W0.cell? ⟨w.heap.size,4,none⟩=some (kv):=HM0.out.q.cell 4
 clear h hk hl
 go_enter Tryz.func48,Tryz.ntmps48
 go_wp2_with fail
 refine (zzq HM0.out.n HK.out HZ.out HL.out).mono ?_
 rintro e w1 ⟨rfl,hs,hb,ho⟩
 have HM1:=zh (HM0.out.step hs hb ho)
 clear hs hb ho
 have e1_0:w1.cell? ⟨w.heap.size,0,none⟩=some (.int .i64 9):=HM1.out.q.cell 0
 have e1_1:w1.cell? ⟨w.heap.size,1,none⟩=some (.string s):=HM1.out.q.cell 1
 have e1_2:w1.cell? ⟨w.heap.size,2,none⟩=some (.int .i64 nm):=HM1.out.q.cell 2
 have e1_3:w1.cell? ⟨w.heap.size,3,none⟩=some (.int .i64 p):=HM1.out.q.cell 3
 have e1_4:w1.cell? ⟨w.heap.size,4,none⟩=some (kv):=HM1.out.q.cell 4
 go_wp2_with fail
 go_end0
 have h:=HM1.out.post
 simpa [cat,tb] using h
theorem zHq {B g c1 c2:Nat} {s:ByteArray} {nm:Int} {p:Nat} {kv:Value} {l:List UInt8} {d:Nat} {w:World} {a b c e:T} (h:Wn B g c1 c2 (T.mk 15 s nm p [a,b,c,e]) kv l d w) (hk:zWb B g c1 c2 (T.mk 15 s nm p [a,b,c,e]) kv) (hl:l.length+(zUg (tb s) [a,b,c,e] (zpb d [a,b,c,e])).length≤140737488355328) :
  Calls Tryz.prog 48 #[.pointer (some ⟨g,0,none⟩),.agg #[.int .i64 15,.string s,.int .i64 nm,.int .i64 p,kv],.func (.func 44) #[] #[.pointer (some ⟨c1,0,none⟩),.pointer (some ⟨c2,0,none⟩)]] w (zMa B g (l++(zUg (tb s) [a,b,c,e] (zpb d [a,b,c,e]))) d w):=by
 have HK:=zh hk
 have HL:=zh hl
 obtain ⟨W0,hW0,HM0⟩:∃ W,w.alloc (.cells [.int .i64 15,.string s,.int .i64 nm,.int .i64 p,kv].toArray 25)=W∧Hid (Wm w B g c1 c2 w.heap.size _ _ l d W):=⟨_,rfl,zh (Wm.start h)⟩
 have e0_0:W0.cell? ⟨w.heap.size,0,none⟩=some (.int .i64 15):=HM0.out.q.cell 0
 have e0_1:W0.cell? ⟨w.heap.size,1,none⟩=some (.string s):=HM0.out.q.cell 1
 have e0_2:W0.cell? ⟨w.heap.size,2,none⟩=some (.int .i64 nm):=HM0.out.q.cell 2
 have e0_3:W0.cell? ⟨w.heap.size,3,none⟩=some (.int .i64 p):=HM0.out.q.cell 3
 have e0_4:W0.cell? ⟨w.heap.size,4,none⟩=some (kv):=HM0.out.q.cell 4
 clear h hk hl
 go_enter Tryz.func48,Tryz.ntmps48
 go_wp2_with fail
 refine (sh_if HM0.out.n HK.out  HL.out).mono ?_
 rintro e w1 ⟨rfl,hs,hb,ho⟩
 have HM1:=zh (HM0.out.step hs hb ho)
 clear hs hb ho
 have e1_0:w1.cell? ⟨w.heap.size,0,none⟩=some (.int .i64 15):=HM1.out.q.cell 0
 have e1_1:w1.cell? ⟨w.heap.size,1,none⟩=some (.string s):=HM1.out.q.cell 1
 have e1_2:w1.cell? ⟨w.heap.size,2,none⟩=some (.int .i64 nm):=HM1.out.q.cell 2
 have e1_3:w1.cell? ⟨w.heap.size,3,none⟩=some (.int .i64 p):=HM1.out.q.cell 3
 have e1_4:w1.cell? ⟨w.heap.size,4,none⟩=some (kv):=HM1.out.q.cell 4
 go_wp2_with fail
 go_end0
 have h:=HM1.out.post
 simpa [cat,tb] using h
theorem zwq {B g c1 c2:Nat} {s:ByteArray} {nm:Int} {p:Nat} {ks:List T} {kv:Value} {l:List UInt8} {d:Nat} {w:World} {u v x:T} (h:Wn B g c1 c2 (T.mk 16 s nm p ks) kv l d w) (hk:zWb B g c1 c2 (T.mk 16 s nm p ks) kv) (h0:ks[0]?=some u) (h1:ks[1]?=some v) (h2:ks[2]?=some x) (hl:l.length+([119,104,105,108,101,32]++((shw d u++([32]++(tb s++([32]++shw d v))))++([32]++shw d x))).length≤140737488355328) :
  Calls Tryz.prog 48 #[.pointer (some ⟨g,0,none⟩),.agg #[.int .i64 16,.string s,.int .i64 nm,.int .i64 p,kv],.func (.func 44) #[] #[.pointer (some ⟨c1,0,none⟩),.pointer (some ⟨c2,0,none⟩)]] w (zMa B g (l++([119,104,105,108,101,32]++((shw d u++([32]++(tb s++([32]++shw d v))))++([32]++shw d x)))) d w):=by
 have HK:=zh hk
 have HL:=zh hl
 obtain ⟨W0,hW0,HM0⟩:∃ W,w.alloc (.cells [.int .i64 16,.string s,.int .i64 nm,.int .i64 p,kv].toArray 25)=W∧Hid (Wm w B g c1 c2 w.heap.size _ _ l d W):=⟨_,rfl,zh (Wm.start h)⟩
 have e0_0:W0.cell? ⟨w.heap.size,0,none⟩=some (.int .i64 16):=HM0.out.q.cell 0
 have e0_1:W0.cell? ⟨w.heap.size,1,none⟩=some (.string s):=HM0.out.q.cell 1
 have e0_2:W0.cell? ⟨w.heap.size,2,none⟩=some (.int .i64 nm):=HM0.out.q.cell 2
 have e0_3:W0.cell? ⟨w.heap.size,3,none⟩=some (.int .i64 p):=HM0.out.q.cell 3
 have e0_4:W0.cell? ⟨w.heap.size,4,none⟩=some (kv):=HM0.out.q.cell 4
 clear h hk hl
 go_enter Tryz.func48,Tryz.ntmps48
 go_wp2_with fail
 refine (puts HM0.out.n.st [⟨#[119,104,105,108,101,32]⟩] 1 _ _ rfl rfl rfl (by omega) (by have hl:=HL.out;simp [cat,tb] at hl ⊢;omega)).mono ?_
 rintro e w1 ⟨rfl,hs,hb,ho⟩
 have HM1:=zh (HM0.out.step hs hb ho)
 clear hs hb ho
 have e1_0:w1.cell? ⟨w.heap.size,0,none⟩=some (.int .i64 16):=HM1.out.q.cell 0
 have e1_1:w1.cell? ⟨w.heap.size,1,none⟩=some (.string s):=HM1.out.q.cell 1
 have e1_2:w1.cell? ⟨w.heap.size,2,none⟩=some (.int .i64 nm):=HM1.out.q.cell 2
 have e1_3:w1.cell? ⟨w.heap.size,3,none⟩=some (.int .i64 p):=HM1.out.q.cell 3
 have e1_4:w1.cell? ⟨w.heap.size,4,none⟩=some (kv):=HM1.out.q.cell 4
 go_wp2_with fail
 refine (zqh (u:=u) (v:=v) HM1.out.n HK.out h0 h1 (by have hl:=HL.out;simp [cat,tb] at hl ⊢;omega)).mono ?_
 rintro e w2 ⟨rfl,hs,hb,ho⟩
 have HM2:=zh (HM1.out.step hs hb ho)
 clear hs hb ho
 have e2_0:w2.cell? ⟨w.heap.size,0,none⟩=some (.int .i64 16):=HM2.out.q.cell 0
 have e2_1:w2.cell? ⟨w.heap.size,1,none⟩=some (.string s):=HM2.out.q.cell 1
 have e2_2:w2.cell? ⟨w.heap.size,2,none⟩=some (.int .i64 nm):=HM2.out.q.cell 2
 have e2_3:w2.cell? ⟨w.heap.size,3,none⟩=some (.int .i64 p):=HM2.out.q.cell 3
 have e2_4:w2.cell? ⟨w.heap.size,4,none⟩=some (kv):=HM2.out.q.cell 4
 go_wp2_with fail
 refine (puts HM2.out.n.st [⟨#[32]⟩] 1 _ _ rfl rfl rfl (by omega) (by have hl:=HL.out;simp [cat,tb] at hl ⊢;omega)).mono ?_
 rintro e w3 ⟨rfl,hs,hb,ho⟩
 have HM3:=zh (HM2.out.step hs hb ho)
 clear hs hb ho
 have e3_0:w3.cell? ⟨w.heap.size,0,none⟩=some (.int .i64 16):=HM3.out.q.cell 0
 have e3_1:w3.cell? ⟨w.heap.size,1,none⟩=some (.string s):=HM3.out.q.cell 1
 have e3_2:w3.cell? ⟨w.heap.size,2,none⟩=some (.int .i64 nm):=HM3.out.q.cell 2
 have e3_3:w3.cell? ⟨w.heap.size,3,none⟩=some (.int .i64 p):=HM3.out.q.cell 3
 have e3_4:w3.cell? ⟨w.heap.size,4,none⟩=some (kv):=HM3.out.q.cell 4
 go_wp2_with fail
 refine (HK.out.get _ 2 _ (by omega) HM3.out.n h2 (by have hl:=HL.out;simp [cat,tb] at hl ⊢;omega)).mono ?_
 rintro e w4 ⟨rfl,hs,hb,ho⟩
 have HM4:=zh (HM3.out.step hs hb ho)
 clear hs hb ho
 have e4_0:w4.cell? ⟨w.heap.size,0,none⟩=some (.int .i64 16):=HM4.out.q.cell 0
 have e4_1:w4.cell? ⟨w.heap.size,1,none⟩=some (.string s):=HM4.out.q.cell 1
 have e4_2:w4.cell? ⟨w.heap.size,2,none⟩=some (.int .i64 nm):=HM4.out.q.cell 2
 have e4_3:w4.cell? ⟨w.heap.size,3,none⟩=some (.int .i64 p):=HM4.out.q.cell 3
 have e4_4:w4.cell? ⟨w.heap.size,4,none⟩=some (kv):=HM4.out.q.cell 4
 go_wp2_with fail
 go_end0
 have h:=HM4.out.post
 simpa [cat,tb] using h
end Go.Proofs.YtbfgdpcgdmabpaaGreatDoor
