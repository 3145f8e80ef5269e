/- The contracts of the writer's simple, by the kind of statement. -/
import Derived.Test.YthdbmgijpelecaaGreatDoorZ25
namespace Go.Proofs.YthdbmgijpelecaaGreatDoor
set_option maxRecDepth 100000
set_option maxHeartbeats 2000000
open Go.RowKit
theorem zep {B g c1 c2:Nat} {s:ByteArray} {nm:Int} {p:Nat} {ks:List T} {kv:Value} {l:List UInt8} {d:Nat} {w:World} {u:T} (h:Wn B g c1 c2 (T.mk 10 s nm p ks) kv l d w) (hk:zfb B g c1 c2 (T.mk 10 s nm p ks) kv) (h0:ks[0]?=some u) (hl:l.length+(tb s++([32,61,32]++shw d u)).length≤140737488355328) :
  Calls Tryz.prog 110 #[.pointer (some ⟨g,0,none⟩),.agg #[.int .i64 10,.string s,.int .i64 nm,.int .i64 p,kv],.func (.func 57) #[] #[.pointer (some ⟨c1,0,none⟩),.pointer (some ⟨c2,0,none⟩)]] w (zka B g (l++(tb s++([32,61,32]++shw d u))) d w):=by
 have HK:=zh hk
 have HL:=zh hl
 obtain ⟨W0,hW0,HM0⟩:∃ W,w.alloc (.cells [.int .i64 10,.string s,.int .i64 nm,.int .i64 p,kv].toArray 25)=W∧Hid (Wm w B g c1 c2 w.heap.size _ _ l d W):=⟨_,rfl,zh (Wm.start h)⟩
 have e0_0:W0.cell? ⟨w.heap.size,0,none⟩=some (.int .i64 10):=HM0.out.q.cell 0
 have e0_1:W0.cell? ⟨w.heap.size,1,none⟩=some (.string s):=HM0.out.q.cell 1
 have e0_2:W0.cell? ⟨w.heap.size,2,none⟩=some (.int .i64 nm):=HM0.out.q.cell 2
 have e0_3:W0.cell? ⟨w.heap.size,3,none⟩=some (.int .i64 p):=HM0.out.q.cell 3
 have e0_4:W0.cell? ⟨w.heap.size,4,none⟩=some (kv):=HM0.out.q.cell 4
 clear h hk hl
 go_enter Tryz.func110,Tryz.ntmps110
 go_wp2_with fail
 refine (puts HM0.out.n.st [s,⟨#[32,61,32]⟩] 2 _ _ rfl rfl rfl (by omega) (by have hl:=HL.out;simp [cat,tb] at hl ⊢;omega)).mono ?_
 rintro e w1 ⟨rfl,hs,hb,ho⟩
 have HM1:=zh (HM0.out.step hs hb ho)
 clear hs hb ho
 have e1_0:w1.cell? ⟨w.heap.size,0,none⟩=some (.int .i64 10):=HM1.out.q.cell 0
 have e1_1:w1.cell? ⟨w.heap.size,1,none⟩=some (.string s):=HM1.out.q.cell 1
 have e1_2:w1.cell? ⟨w.heap.size,2,none⟩=some (.int .i64 nm):=HM1.out.q.cell 2
 have e1_3:w1.cell? ⟨w.heap.size,3,none⟩=some (.int .i64 p):=HM1.out.q.cell 3
 have e1_4:w1.cell? ⟨w.heap.size,4,none⟩=some (kv):=HM1.out.q.cell 4
 go_wp2_with fail
 refine (HK.out.get _ 0 _ (by omega) HM1.out.n h0 (by have hl:=HL.out;simp [cat,tb] at hl ⊢;omega)).mono ?_
 rintro e w2 ⟨rfl,hs,hb,ho⟩
 have HM2:=zh (HM1.out.step hs hb ho)
 clear hs hb ho
 have e2_0:w2.cell? ⟨w.heap.size,0,none⟩=some (.int .i64 10):=HM2.out.q.cell 0
 have e2_1:w2.cell? ⟨w.heap.size,1,none⟩=some (.string s):=HM2.out.q.cell 1
 have e2_2:w2.cell? ⟨w.heap.size,2,none⟩=some (.int .i64 nm):=HM2.out.q.cell 2
 have e2_3:w2.cell? ⟨w.heap.size,3,none⟩=some (.int .i64 p):=HM2.out.q.cell 3
 have e2_4:w2.cell? ⟨w.heap.size,4,none⟩=some (kv):=HM2.out.q.cell 4
 go_wp2_with fail
 go_end0
 have h:=HM2.out.post
 simpa [cat,tb] using h
theorem zYo {B g c1 c2:Nat} {s:ByteArray} {nm:Int} {p:Nat} {ks:List T} {kv:Value} {l:List UInt8} {d:Nat} {w:World} {u v:T} (h:Wn B g c1 c2 (T.mk 11 s nm p ks) kv l d w) (hk:zfb B g c1 c2 (T.mk 11 s nm p ks) kv) (h0:ks[0]?=some u) (h1:ks[1]?=some v) (hl:l.length+(tb s++([91]++(shw d u++([93,32,61,32]++shw d v)))).length≤140737488355328) :
  Calls Tryz.prog 110 #[.pointer (some ⟨g,0,none⟩),.agg #[.int .i64 11,.string s,.int .i64 nm,.int .i64 p,kv],.func (.func 57) #[] #[.pointer (some ⟨c1,0,none⟩),.pointer (some ⟨c2,0,none⟩)]] w (zka B g (l++(tb s++([91]++(shw d u++([93,32,61,32]++shw d v))))) d w):=by
 have HK:=zh hk
 have HL:=zh hl
 obtain ⟨W0,hW0,HM0⟩:∃ W,w.alloc (.cells [.int .i64 11,.string s,.int .i64 nm,.int .i64 p,kv].toArray 25)=W∧Hid (Wm w B g c1 c2 w.heap.size _ _ l d W):=⟨_,rfl,zh (Wm.start h)⟩
 have e0_0:W0.cell? ⟨w.heap.size,0,none⟩=some (.int .i64 11):=HM0.out.q.cell 0
 have e0_1:W0.cell? ⟨w.heap.size,1,none⟩=some (.string s):=HM0.out.q.cell 1
 have e0_2:W0.cell? ⟨w.heap.size,2,none⟩=some (.int .i64 nm):=HM0.out.q.cell 2
 have e0_3:W0.cell? ⟨w.heap.size,3,none⟩=some (.int .i64 p):=HM0.out.q.cell 3
 have e0_4:W0.cell? ⟨w.heap.size,4,none⟩=some (kv):=HM0.out.q.cell 4
 clear h hk hl
 go_enter Tryz.func110,Tryz.ntmps110
 go_wp2_with fail
 refine (puts HM0.out.n.st [s,⟨#[91]⟩] 2 _ _ rfl rfl rfl (by omega) (by have hl:=HL.out;simp [cat,tb] at hl ⊢;omega)).mono ?_
 rintro e w1 ⟨rfl,hs,hb,ho⟩
 have HM1:=zh (HM0.out.step hs hb ho)
 clear hs hb ho
 have e1_0:w1.cell? ⟨w.heap.size,0,none⟩=some (.int .i64 11):=HM1.out.q.cell 0
 have e1_1:w1.cell? ⟨w.heap.size,1,none⟩=some (.string s):=HM1.out.q.cell 1
 have e1_2:w1.cell? ⟨w.heap.size,2,none⟩=some (.int .i64 nm):=HM1.out.q.cell 2
 have e1_3:w1.cell? ⟨w.heap.size,3,none⟩=some (.int .i64 p):=HM1.out.q.cell 3
 have e1_4:w1.cell? ⟨w.heap.size,4,none⟩=some (kv):=HM1.out.q.cell 4
 go_wp2_with fail
 refine (HK.out.get _ 0 _ (by omega) HM1.out.n h0 (by have hl:=HL.out;simp [cat,tb] at hl ⊢;omega)).mono ?_
 rintro e w2 ⟨rfl,hs,hb,ho⟩
 have HM2:=zh (HM1.out.step hs hb ho)
 clear hs hb ho
 have e2_0:w2.cell? ⟨w.heap.size,0,none⟩=some (.int .i64 11):=HM2.out.q.cell 0
 have e2_1:w2.cell? ⟨w.heap.size,1,none⟩=some (.string s):=HM2.out.q.cell 1
 have e2_2:w2.cell? ⟨w.heap.size,2,none⟩=some (.int .i64 nm):=HM2.out.q.cell 2
 have e2_3:w2.cell? ⟨w.heap.size,3,none⟩=some (.int .i64 p):=HM2.out.q.cell 3
 have e2_4:w2.cell? ⟨w.heap.size,4,none⟩=some (kv):=HM2.out.q.cell 4
 go_wp2_with fail
 refine (puts HM2.out.n.st [⟨#[93,32,61,32]⟩] 1 _ _ rfl rfl rfl (by omega) (by have hl:=HL.out;simp [cat,tb] at hl ⊢;omega)).mono ?_
 rintro e w3 ⟨rfl,hs,hb,ho⟩
 have HM3:=zh (HM2.out.step hs hb ho)
 clear hs hb ho
 have e3_0:w3.cell? ⟨w.heap.size,0,none⟩=some (.int .i64 11):=HM3.out.q.cell 0
 have e3_1:w3.cell? ⟨w.heap.size,1,none⟩=some (.string s):=HM3.out.q.cell 1
 have e3_2:w3.cell? ⟨w.heap.size,2,none⟩=some (.int .i64 nm):=HM3.out.q.cell 2
 have e3_3:w3.cell? ⟨w.heap.size,3,none⟩=some (.int .i64 p):=HM3.out.q.cell 3
 have e3_4:w3.cell? ⟨w.heap.size,4,none⟩=some (kv):=HM3.out.q.cell 4
 go_wp2_with fail
 refine (HK.out.get _ 1 _ (by omega) HM3.out.n h1 (by have hl:=HL.out;simp [cat,tb] at hl ⊢;omega)).mono ?_
 rintro e w4 ⟨rfl,hs,hb,ho⟩
 have HM4:=zh (HM3.out.step hs hb ho)
 clear hs hb ho
 have e4_0:w4.cell? ⟨w.heap.size,0,none⟩=some (.int .i64 11):=HM4.out.q.cell 0
 have e4_1:w4.cell? ⟨w.heap.size,1,none⟩=some (.string s):=HM4.out.q.cell 1
 have e4_2:w4.cell? ⟨w.heap.size,2,none⟩=some (.int .i64 nm):=HM4.out.q.cell 2
 have e4_3:w4.cell? ⟨w.heap.size,3,none⟩=some (.int .i64 p):=HM4.out.q.cell 3
 have e4_4:w4.cell? ⟨w.heap.size,4,none⟩=some (kv):=HM4.out.q.cell 4
 go_wp2_with fail
 go_end0
 have h:=HM4.out.post
 simpa [cat,tb] using h
theorem zsp {B g c1 c2:Nat} {s:ByteArray} {nm:Int} {p:Nat} {ks:List T} {kv:Value} {l:List UInt8} {d:Nat} {w:World} (h:Wn B g c1 c2 (T.mk 12 s nm p ks) kv l d w) (hk:zfb B g c1 c2 (T.mk 12 s nm p ks) kv) (hl:l.length+([102,114,101,101,32]++tb s).length≤140737488355328) :
  Calls Tryz.prog 110 #[.pointer (some ⟨g,0,none⟩),.agg #[.int .i64 12,.string s,.int .i64 nm,.int .i64 p,kv],.func (.func 57) #[] #[.pointer (some ⟨c1,0,none⟩),.pointer (some ⟨c2,0,none⟩)]] w (zka B g (l++([102,114,101,101,32]++tb s)) d w):=by
 have HK:=zh hk
 have HL:=zh hl
 obtain ⟨W0,hW0,HM0⟩:∃ W,w.alloc (.cells [.int .i64 12,.string s,.int .i64 nm,.int .i64 p,kv].toArray 25)=W∧Hid (Wm w B g c1 c2 w.heap.size _ _ l d W):=⟨_,rfl,zh (Wm.start h)⟩
 have e0_0:W0.cell? ⟨w.heap.size,0,none⟩=some (.int .i64 12):=HM0.out.q.cell 0
 have e0_1:W0.cell? ⟨w.heap.size,1,none⟩=some (.string s):=HM0.out.q.cell 1
 have e0_2:W0.cell? ⟨w.heap.size,2,none⟩=some (.int .i64 nm):=HM0.out.q.cell 2
 have e0_3:W0.cell? ⟨w.heap.size,3,none⟩=some (.int .i64 p):=HM0.out.q.cell 3
 have e0_4:W0.cell? ⟨w.heap.size,4,none⟩=some (kv):=HM0.out.q.cell 4
 clear h hk hl
 go_enter Tryz.func110,Tryz.ntmps110
 go_wp2_with fail
 refine (puts HM0.out.n.st [⟨#[102,114,101,101,32]⟩,s] 2 _ _ rfl rfl rfl (by omega) (by have hl:=HL.out;simp [cat,tb] at hl ⊢;omega)).mono ?_
 rintro e w1 ⟨rfl,hs,hb,ho⟩
 have HM1:=zh (HM0.out.step hs hb ho)
 clear hs hb ho
 have e1_0:w1.cell? ⟨w.heap.size,0,none⟩=some (.int .i64 12):=HM1.out.q.cell 0
 have e1_1:w1.cell? ⟨w.heap.size,1,none⟩=some (.string s):=HM1.out.q.cell 1
 have e1_2:w1.cell? ⟨w.heap.size,2,none⟩=some (.int .i64 nm):=HM1.out.q.cell 2
 have e1_3:w1.cell? ⟨w.heap.size,3,none⟩=some (.int .i64 p):=HM1.out.q.cell 3
 have e1_4:w1.cell? ⟨w.heap.size,4,none⟩=some (kv):=HM1.out.q.cell 4
 go_wp2_with fail
 go_end0
 have h:=HM1.out.post
 simpa [cat,tb] using h
theorem zxp {B g c1 c2:Nat} {s:ByteArray} {nm:Int} {p:Nat} {ks:List T} {kv:Value} {l:List UInt8} {d:Nat} {w:World} (h:Wn B g c1 c2 (T.mk 17 s nm p ks) kv l d w) (hk:zfb B g c1 c2 (T.mk 17 s nm p ks) kv) (hz:ks.length≤1000000) (hl:l.length+([114,101,116,117,114,110]++maybe [32] [] (zQa d ks)).length≤140737488355328) :
  Calls Tryz.prog 110 #[.pointer (some ⟨g,0,none⟩),.agg #[.int .i64 17,.string s,.int .i64 nm,.int .i64 p,kv],.func (.func 57) #[] #[.pointer (some ⟨c1,0,none⟩),.pointer (some ⟨c2,0,none⟩)]] w (zka B g (l++([114,101,116,117,114,110]++maybe [32] [] (zQa d ks))) d w):=by
 have HZ:=zh hz
 clear hz
 have HK:=zh hk
 have HL:=zh hl
 obtain ⟨W0,hW0,HM0⟩:∃ W,w.alloc (.cells [.int .i64 17,.string s,.int .i64 nm,.int .i64 p,kv].toArray 25)=W∧Hid (Wm w B g c1 c2 w.heap.size _ _ l d W):=⟨_,rfl,zh (Wm.start h)⟩
 have e0_0:W0.cell? ⟨w.heap.size,0,none⟩=some (.int .i64 17):=HM0.out.q.cell 0
 have e0_1:W0.cell? ⟨w.heap.size,1,none⟩=some (.string s):=HM0.out.q.cell 1
 have e0_2:W0.cell? ⟨w.heap.size,2,none⟩=some (.int .i64 nm):=HM0.out.q.cell 2
 have e0_3:W0.cell? ⟨w.heap.size,3,none⟩=some (.int .i64 p):=HM0.out.q.cell 3
 have e0_4:W0.cell? ⟨w.heap.size,4,none⟩=some (kv):=HM0.out.q.cell 4
 clear h hk hl
 go_enter Tryz.func110,Tryz.ntmps110
 go_wp2_with fail
 refine (puts HM0.out.n.st [⟨#[114,101,116,117,114,110]⟩] 1 _ _ rfl rfl rfl (by omega) (by have hl:=HL.out;simp [cat,tb] at hl ⊢;omega)).mono ?_
 rintro e w1 ⟨rfl,hs,hb,ho⟩
 have HM1:=zh (HM0.out.step hs hb ho)
 clear hs hb ho
 have e1_0:w1.cell? ⟨w.heap.size,0,none⟩=some (.int .i64 17):=HM1.out.q.cell 0
 have e1_1:w1.cell? ⟨w.heap.size,1,none⟩=some (.string s):=HM1.out.q.cell 1
 have e1_2:w1.cell? ⟨w.heap.size,2,none⟩=some (.int .i64 nm):=HM1.out.q.cell 2
 have e1_3:w1.cell? ⟨w.heap.size,3,none⟩=some (.int .i64 p):=HM1.out.q.cell 3
 have e1_4:w1.cell? ⟨w.heap.size,4,none⟩=some (kv):=HM1.out.q.cell 4
 go_wp2_with fail
 refine (zCe (a:=⟨#[32]⟩) (b:=⟨#[]⟩) HM1.out.n HK.out HZ.out (by have hl:=HL.out;simp [cat,tb] at hl ⊢;omega)).mono ?_
 rintro e w2 ⟨rfl,hs,hb,ho⟩
 have HM2:=zh (HM1.out.step hs hb ho)
 clear hs hb ho
 have e2_0:w2.cell? ⟨w.heap.size,0,none⟩=some (.int .i64 17):=HM2.out.q.cell 0
 have e2_1:w2.cell? ⟨w.heap.size,1,none⟩=some (.string s):=HM2.out.q.cell 1
 have e2_2:w2.cell? ⟨w.heap.size,2,none⟩=some (.int .i64 nm):=HM2.out.q.cell 2
 have e2_3:w2.cell? ⟨w.heap.size,3,none⟩=some (.int .i64 p):=HM2.out.q.cell 3
 have e2_4:w2.cell? ⟨w.heap.size,4,none⟩=some (kv):=HM2.out.q.cell 4
 go_wp2_with fail
 go_end0
 have h:=HM2.out.post
 simpa [cat,tb] using h
theorem zEp {B g c1 c2:Nat} {s:ByteArray} {nm:Int} {p:Nat} {ks:List T} {kv:Value} {l:List UInt8} {d:Nat} {w:World} (h:Wn B g c1 c2 (T.mk 18 s nm p ks) kv l d w) (hk:zfb B g c1 c2 (T.mk 18 s nm p ks) kv) (hl:l.length+([97,98,111,114,116]).length≤140737488355328) :
  Calls Tryz.prog 110 #[.pointer (some ⟨g,0,none⟩),.agg #[.int .i64 18,.string s,.int .i64 nm,.int .i64 p,kv],.func (.func 57) #[] #[.pointer (some ⟨c1,0,none⟩),.pointer (some ⟨c2,0,none⟩)]] w (zka B g (l++([97,98,111,114,116])) d w):=by
 have HK:=zh hk
 have HL:=zh hl
 obtain ⟨W0,hW0,HM0⟩:∃ W,w.alloc (.cells [.int .i64 18,.string s,.int .i64 nm,.int .i64 p,kv].toArray 25)=W∧Hid (Wm w B g c1 c2 w.heap.size _ _ l d W):=⟨_,rfl,zh (Wm.start h)⟩
 have e0_0:W0.cell? ⟨w.heap.size,0,none⟩=some (.int .i64 18):=HM0.out.q.cell 0
 have e0_1:W0.cell? ⟨w.heap.size,1,none⟩=some (.string s):=HM0.out.q.cell 1
 have e0_2:W0.cell? ⟨w.heap.size,2,none⟩=some (.int .i64 nm):=HM0.out.q.cell 2
 have e0_3:W0.cell? ⟨w.heap.size,3,none⟩=some (.int .i64 p):=HM0.out.q.cell 3
 have e0_4:W0.cell? ⟨w.heap.size,4,none⟩=some (kv):=HM0.out.q.cell 4
 clear h hk hl
 go_enter Tryz.func110,Tryz.ntmps110
 go_wp2_with fail
 refine (puts HM0.out.n.st [⟨#[97,98,111,114,116]⟩] 1 _ _ rfl rfl rfl (by omega) (by have hl:=HL.out;simp [cat,tb] at hl ⊢;omega)).mono ?_
 rintro e w1 ⟨rfl,hs,hb,ho⟩
 have HM1:=zh (HM0.out.step hs hb ho)
 clear hs hb ho
 have e1_0:w1.cell? ⟨w.heap.size,0,none⟩=some (.int .i64 18):=HM1.out.q.cell 0
 have e1_1:w1.cell? ⟨w.heap.size,1,none⟩=some (.string s):=HM1.out.q.cell 1
 have e1_2:w1.cell? ⟨w.heap.size,2,none⟩=some (.int .i64 nm):=HM1.out.q.cell 2
 have e1_3:w1.cell? ⟨w.heap.size,3,none⟩=some (.int .i64 p):=HM1.out.q.cell 3
 have e1_4:w1.cell? ⟨w.heap.size,4,none⟩=some (kv):=HM1.out.q.cell 4
 go_wp2_with fail
 go_end0
 have h:=HM1.out.post
 simpa [cat,tb] using h
theorem zDp {B g c1 c2:Nat} {s:ByteArray} {nm:Int} {p:Nat} {ks:List T} {kv:Value} {l:List UInt8} {d:Nat} {w:World} (h:Wn B g c1 c2 (T.mk 19 s nm p ks) kv l d w) (hk:zfb B g c1 c2 (T.mk 19 s nm p ks) kv) (hz:ks.length≤1000000) (hl:l.length+([102,111,114,107,32]++zUb (tb s) (zQa d ks)).length≤140737488355328) :
  Calls Tryz.prog 110 #[.pointer (some ⟨g,0,none⟩),.agg #[.int .i64 19,.string s,.int .i64 nm,.int .i64 p,kv],.func (.func 57) #[] #[.pointer (some ⟨c1,0,none⟩),.pointer (some ⟨c2,0,none⟩)]] w (zka B g (l++([102,111,114,107,32]++zUb (tb s) (zQa d ks))) d w):=by
 have HZ:=zh hz
 clear hz
 have HK:=zh hk
 have HL:=zh hl
 obtain ⟨W0,hW0,HM0⟩:∃ W,w.alloc (.cells [.int .i64 19,.string s,.int .i64 nm,.int .i64 p,kv].toArray 25)=W∧Hid (Wm w B g c1 c2 w.heap.size _ _ l d W):=⟨_,rfl,zh (Wm.start h)⟩
 have e0_0:W0.cell? ⟨w.heap.size,0,none⟩=some (.int .i64 19):=HM0.out.q.cell 0
 have e0_1:W0.cell? ⟨w.heap.size,1,none⟩=some (.string s):=HM0.out.q.cell 1
 have e0_2:W0.cell? ⟨w.heap.size,2,none⟩=some (.int .i64 nm):=HM0.out.q.cell 2
 have e0_3:W0.cell? ⟨w.heap.size,3,none⟩=some (.int .i64 p):=HM0.out.q.cell 3
 have e0_4:W0.cell? ⟨w.heap.size,4,none⟩=some (kv):=HM0.out.q.cell 4
 clear h hk hl
 go_enter Tryz.func110,Tryz.ntmps110
 go_wp2_with fail
 refine (puts HM0.out.n.st [⟨#[102,111,114,107,32]⟩] 1 _ _ rfl rfl rfl (by omega) (by have hl:=HL.out;simp [cat,tb] at hl ⊢;omega)).mono ?_
 rintro e w1 ⟨rfl,hs,hb,ho⟩
 have HM1:=zh (HM0.out.step hs hb ho)
 clear hs hb ho
 have e1_0:w1.cell? ⟨w.heap.size,0,none⟩=some (.int .i64 19):=HM1.out.q.cell 0
 have e1_1:w1.cell? ⟨w.heap.size,1,none⟩=some (.string s):=HM1.out.q.cell 1
 have e1_2:w1.cell? ⟨w.heap.size,2,none⟩=some (.int .i64 nm):=HM1.out.q.cell 2
 have e1_3:w1.cell? ⟨w.heap.size,3,none⟩=some (.int .i64 p):=HM1.out.q.cell 3
 have e1_4:w1.cell? ⟨w.heap.size,4,none⟩=some (kv):=HM1.out.q.cell 4
 go_wp2_with fail
 refine (zom HM1.out.n HK.out HZ.out (by have hl:=HL.out;simp [cat,tb] at hl ⊢;omega)).mono ?_
 rintro e w2 ⟨rfl,hs,hb,ho⟩
 have HM2:=zh (HM1.out.step hs hb ho)
 clear hs hb ho
 have e2_0:w2.cell? ⟨w.heap.size,0,none⟩=some (.int .i64 19):=HM2.out.q.cell 0
 have e2_1:w2.cell? ⟨w.heap.size,1,none⟩=some (.string s):=HM2.out.q.cell 1
 have e2_2:w2.cell? ⟨w.heap.size,2,none⟩=some (.int .i64 nm):=HM2.out.q.cell 2
 have e2_3:w2.cell? ⟨w.heap.size,3,none⟩=some (.int .i64 p):=HM2.out.q.cell 3
 have e2_4:w2.cell? ⟨w.heap.size,4,none⟩=some (kv):=HM2.out.q.cell 4
 go_wp2_with fail
 go_end0
 have h:=HM2.out.post
 simpa [cat,tb] using h
theorem zIo {B g c1 c2:Nat} {s:ByteArray} {nm:Int} {p:Nat} {ks:List T} {kv:Value} {l:List UInt8} {d:Nat} {w:World} {u:T} (h:Wn B g c1 c2 (T.mk 20 s nm p ks) kv l d w) (hk:zfb B g c1 c2 (T.mk 20 s nm p ks) kv) (h0:ks[0]?=some u) (hl:l.length+(shw d u).length≤140737488355328) :
  Calls Tryz.prog 110 #[.pointer (some ⟨g,0,none⟩),.agg #[.int .i64 20,.string s,.int .i64 nm,.int .i64 p,kv],.func (.func 57) #[] #[.pointer (some ⟨c1,0,none⟩),.pointer (some ⟨c2,0,none⟩)]] w (zka B g (l++(shw d u)) d w):=by
 have HK:=zh hk
 have HL:=zh hl
 obtain ⟨W0,hW0,HM0⟩:∃ W,w.alloc (.cells [.int .i64 20,.string s,.int .i64 nm,.int .i64 p,kv].toArray 25)=W∧Hid (Wm w B g c1 c2 w.heap.size _ _ l d W):=⟨_,rfl,zh (Wm.start h)⟩
 have e0_0:W0.cell? ⟨w.heap.size,0,none⟩=some (.int .i64 20):=HM0.out.q.cell 0
 have e0_1:W0.cell? ⟨w.heap.size,1,none⟩=some (.string s):=HM0.out.q.cell 1
 have e0_2:W0.cell? ⟨w.heap.size,2,none⟩=some (.int .i64 nm):=HM0.out.q.cell 2
 have e0_3:W0.cell? ⟨w.heap.size,3,none⟩=some (.int .i64 p):=HM0.out.q.cell 3
 have e0_4:W0.cell? ⟨w.heap.size,4,none⟩=some (kv):=HM0.out.q.cell 4
 clear h hk hl
 go_enter Tryz.func110,Tryz.ntmps110
 go_wp2_with fail
 refine (HK.out.get _ 0 _ (by omega) HM0.out.n h0 (by have hl:=HL.out;simp at hl ⊢;omega)).mono ?_
 rintro e w1 ⟨rfl,hs,hb,ho⟩
 have HM1:=zh (HM0.out.step hs hb ho)
 clear hs hb ho
 have e1_0:w1.cell? ⟨w.heap.size,0,none⟩=some (.int .i64 20):=HM1.out.q.cell 0
 have e1_1:w1.cell? ⟨w.heap.size,1,none⟩=some (.string s):=HM1.out.q.cell 1
 have e1_2:w1.cell? ⟨w.heap.size,2,none⟩=some (.int .i64 nm):=HM1.out.q.cell 2
 have e1_3:w1.cell? ⟨w.heap.size,3,none⟩=some (.int .i64 p):=HM1.out.q.cell 3
 have e1_4:w1.cell? ⟨w.heap.size,4,none⟩=some (kv):=HM1.out.q.cell 4
 go_wp2_with fail
 go_end0
 have h:=HM1.out.post
 simpa [cat,tb] using h
theorem zhq {B g c1 c2:Nat} {s:ByteArray} {nm:Int} {p:Nat} {ks:List T} {kv:Value} {l:List UInt8} {d:Nat} {w:World} (h:Wn B g c1 c2 (T.mk 13 s nm p ks) kv l d w) (hk:zfb B g c1 c2 (T.mk 13 s nm p ks) kv) (hn:-1099511627776≤nm∧nm≤1099511627776) (hl:l.length+([108,111,99,107,32]++(tb s++([91]++(dec nm++[93])))).length≤140737488355328) :
  Calls Tryz.prog 110 #[.pointer (some ⟨g,0,none⟩),.agg #[.int .i64 13,.string s,.int .i64 nm,.int .i64 p,kv],.func (.func 57) #[] #[.pointer (some ⟨c1,0,none⟩),.pointer (some ⟨c2,0,none⟩)]] w (zka B g (l++([108,111,99,107,32]++(tb s++([91]++(dec nm++[93]))))) d w):=by
 have HK:=zh hk
 have HL:=zh hl
 obtain ⟨W0,hW0,HM0⟩:∃ W,w.alloc (.cells [.int .i64 13,.string s,.int .i64 nm,.int .i64 p,kv].toArray 25)=W∧Hid (Wm w B g c1 c2 w.heap.size _ _ l d W):=⟨_,rfl,zh (Wm.start h)⟩
 have e0_0:W0.cell? ⟨w.heap.size,0,none⟩=some (.int .i64 13):=HM0.out.q.cell 0
 have e0_1:W0.cell? ⟨w.heap.size,1,none⟩=some (.string s):=HM0.out.q.cell 1
 have e0_2:W0.cell? ⟨w.heap.size,2,none⟩=some (.int .i64 nm):=HM0.out.q.cell 2
 have e0_3:W0.cell? ⟨w.heap.size,3,none⟩=some (.int .i64 p):=HM0.out.q.cell 3
 have e0_4:W0.cell? ⟨w.heap.size,4,none⟩=some (kv):=HM0.out.q.cell 4
 clear h hk hl
 go_enter Tryz.func110,Tryz.ntmps110
 go_wp2_with fail
 refine wp_region_held_drew (S:=fun W=>Blk W w.heap.size (zaa (T.mk 13 s nm p ks) kv) 25) (by kernel_rfl) HM0.out.q.drew (fun hS=>?_)
 refine wpAnyH_take (i:=0) (oi:=⟨some 40,_,_,_,_,_⟩) (v:=.pointer (some ⟨g,0,none⟩)) rfl (by kernel_rfl) (by kernel_rfl) (by kernel_rfl) (fun _ _ _ h=>h) (Or.inl ⟨by rfl,fun W _=>by go_simp⟩) hS ?_
 try simp only [Act.put,List.setIfInBounds_toArray,List.set_cons_zero,List.set_cons_succ]
 refine wpAnyH_take (i:=1) (oi:=⟨some 41,_,_,_,_,_⟩) (v:=.pointer (some ⟨w.heap.size,1,none⟩)) rfl (by kernel_rfl) (by kernel_rfl) (by kernel_rfl) (fun _ _ _ h=>h) (Or.inl ⟨by rfl,fun W _=>by go_simp⟩) hS ?_
 try simp only [Act.put,List.setIfInBounds_toArray,List.set_cons_zero,List.set_cons_succ]
 refine wpAnyH_take (i:=2) (oi:=⟨some 42,_,_,_,_,_⟩) (v:=.string s) rfl (by kernel_rfl) (by kernel_rfl) (by kernel_rfl) (fun _ _ _ h=>h) (Or.inl ⟨by rfl,fun W hW=>by have hcx:W.cell? ⟨w.heap.size,1,none⟩=some (.string s):=hW.cell 1;go_simp⟩) hS ?_
 try simp only [Act.put,List.setIfInBounds_toArray,List.set_cons_zero,List.set_cons_succ]
 refine wpAnyH_take (i:=3) (oi:=⟨some 43,_,_,_,_,_⟩) (v:=.pointer (some ⟨w.heap.size,2,none⟩)) rfl (by kernel_rfl) (by kernel_rfl) (by kernel_rfl) (fun _ _ _ h=>h) (Or.inl ⟨by rfl,fun W _=>by go_simp⟩) hS ?_
 try simp only [Act.put,List.setIfInBounds_toArray,List.set_cons_zero,List.set_cons_succ]
 refine wpAnyH_take (i:=4) (oi:=⟨some 44,_,_,_,_,_⟩) (v:=.int .i64 nm) rfl (by kernel_rfl) (by kernel_rfl) (by kernel_rfl) (fun _ _ _ h=>h) (Or.inl ⟨by rfl,fun W hW=>by have hcx:W.cell? ⟨w.heap.size,2,none⟩=some (.int .i64 nm):=hW.cell 2;go_simp⟩) hS ?_
 try simp only [Act.put,List.setIfInBounds_toArray,List.set_cons_zero,List.set_cons_succ]
 refine AnyH.only (i:=5) (o:=⟨some 45,_,_,_,_,_⟩) (by kernel_rfl) rfl (by rfl) (fun K hK=>?_)
 go_simp
 have HMd:=zh (HM0.out.below (show Below W0.heap.size W0 W0.drew from (Below.refl _ _).drew))
 refine (zaf HMd.out.n.t nm hn).mono ?_
 rintro e w1 ⟨rfl,hb⟩
 have HM1:=zh (HMd.out.below hb)
 clear hb hS
 have hS:Blk w1 w.heap.size (zaa (T.mk 13 s nm p ks) kv) 25:=HM1.out.q
 refine hK.out _ _ hS ?_
 clear hK K
 try simp only [Act.put,List.setIfInBounds_toArray,List.set_cons_zero,List.set_cons_succ]
 refine AnyH.only (i:=6) (o:=⟨some 46,_,_,_,_,_⟩) (by kernel_rfl) rfl (by rfl) (fun K hK=>?_)
 go_simp
 refine hK.out _ _ (HM1.out.q.alloc _) ?_
 clear hK K hS
 try simp only [Act.put,List.setIfInBounds_toArray,List.set_cons_zero,List.set_cons_succ]
 refine AnyH.only (i:=7) (o:=⟨some 47,_,_,_,_,_⟩) (by kernel_rfl) rfl (by rfl) (fun K hK=>?_)
 go_simp
 refine (puts HM1.out.n.st [⟨#[108,111,99,107,32]⟩,s,⟨#[91]⟩,⟨(dec nm).toArray⟩,⟨#[93]⟩] 5 _ _ rfl rfl rfl (by omega) (by have hl:=HL.out;simp [cat,tb] at hl ⊢;omega)).mono ?_
 rintro e w2 ⟨rfl,hs,hb,ho⟩
 have HM2:=zh (HM1.out.step hs hb ho)
 clear hs hb ho
 have e2_0:w2.cell? ⟨w.heap.size,0,none⟩=some (.int .i64 13):=HM2.out.q.cell 0
 have e2_1:w2.cell? ⟨w.heap.size,1,none⟩=some (.string s):=HM2.out.q.cell 1
 have e2_2:w2.cell? ⟨w.heap.size,2,none⟩=some (.int .i64 nm):=HM2.out.q.cell 2
 have e2_3:w2.cell? ⟨w.heap.size,3,none⟩=some (.int .i64 p):=HM2.out.q.cell 3
 have e2_4:w2.cell? ⟨w.heap.size,4,none⟩=some (kv):=HM2.out.q.cell 4
 refine hK.out _ _ HM2.out.q ?_
 clear hK K
 try simp only [Act.put,List.setIfInBounds_toArray,List.set_cons_zero,List.set_cons_succ]
 refine wpAnyH_done (by kernel_rfl) ?_ _
 go_wp2_with fail
 go_end0
 have h:=HM2.out.post
 simpa [cat,tb] using h
theorem zqp {B g c1 c2:Nat} {s:ByteArray} {nm:Int} {p:Nat} {ks:List T} {kv:Value} {l:List UInt8} {d:Nat} {w:World} (h:Wn B g c1 c2 (T.mk 14 s nm p ks) kv l d w) (hk:zfb B g c1 c2 (T.mk 14 s nm p ks) kv) (hn:-1099511627776≤nm∧nm≤1099511627776) (hl:l.length+([117,110,108,111,99,107,32]++(tb s++([91]++(dec nm++[93])))).length≤140737488355328) :
  Calls Tryz.prog 110 #[.pointer (some ⟨g,0,none⟩),.agg #[.int .i64 14,.string s,.int .i64 nm,.int .i64 p,kv],.func (.func 57) #[] #[.pointer (some ⟨c1,0,none⟩),.pointer (some ⟨c2,0,none⟩)]] w (zka B g (l++([117,110,108,111,99,107,32]++(tb s++([91]++(dec nm++[93]))))) d w):=by
 have HK:=zh hk
 have HL:=zh hl
 obtain ⟨W0,hW0,HM0⟩:∃ W,w.alloc (.cells [.int .i64 14,.string s,.int .i64 nm,.int .i64 p,kv].toArray 25)=W∧Hid (Wm w B g c1 c2 w.heap.size _ _ l d W):=⟨_,rfl,zh (Wm.start h)⟩
 have e0_0:W0.cell? ⟨w.heap.size,0,none⟩=some (.int .i64 14):=HM0.out.q.cell 0
 have e0_1:W0.cell? ⟨w.heap.size,1,none⟩=some (.string s):=HM0.out.q.cell 1
 have e0_2:W0.cell? ⟨w.heap.size,2,none⟩=some (.int .i64 nm):=HM0.out.q.cell 2
 have e0_3:W0.cell? ⟨w.heap.size,3,none⟩=some (.int .i64 p):=HM0.out.q.cell 3
 have e0_4:W0.cell? ⟨w.heap.size,4,none⟩=some (kv):=HM0.out.q.cell 4
 clear h hk hl
 go_enter Tryz.func110,Tryz.ntmps110
 go_wp2_with fail
 refine wp_region_held_drew (S:=fun W=>Blk W w.heap.size (zaa (T.mk 14 s nm p ks) kv) 25) (by kernel_rfl) HM0.out.q.drew (fun hS=>?_)
 refine wpAnyH_take (i:=0) (oi:=⟨some 50,_,_,_,_,_⟩) (v:=.pointer (some ⟨g,0,none⟩)) rfl (by kernel_rfl) (by kernel_rfl) (by kernel_rfl) (fun _ _ _ h=>h) (Or.inl ⟨by rfl,fun W _=>by go_simp⟩) hS ?_
 try simp only [Act.put,List.setIfInBounds_toArray,List.set_cons_zero,List.set_cons_succ]
 refine wpAnyH_take (i:=1) (oi:=⟨some 51,_,_,_,_,_⟩) (v:=.pointer (some ⟨w.heap.size,1,none⟩)) rfl (by kernel_rfl) (by kernel_rfl) (by kernel_rfl) (fun _ _ _ h=>h) (Or.inl ⟨by rfl,fun W _=>by go_simp⟩) hS ?_
 try simp only [Act.put,List.setIfInBounds_toArray,List.set_cons_zero,List.set_cons_succ]
 refine wpAnyH_take (i:=2) (oi:=⟨some 52,_,_,_,_,_⟩) (v:=.string s) rfl (by kernel_rfl) (by kernel_rfl) (by kernel_rfl) (fun _ _ _ h=>h) (Or.inl ⟨by rfl,fun W hW=>by have hcx:W.cell? ⟨w.heap.size,1,none⟩=some (.string s):=hW.cell 1;go_simp⟩) hS ?_
 try simp only [Act.put,List.setIfInBounds_toArray,List.set_cons_zero,List.set_cons_succ]
 refine wpAnyH_take (i:=3) (oi:=⟨some 53,_,_,_,_,_⟩) (v:=.pointer (some ⟨w.heap.size,2,none⟩)) rfl (by kernel_rfl) (by kernel_rfl) (by kernel_rfl) (fun _ _ _ h=>h) (Or.inl ⟨by rfl,fun W _=>by go_simp⟩) hS ?_
 try simp only [Act.put,List.setIfInBounds_toArray,List.set_cons_zero,List.set_cons_succ]
 refine wpAnyH_take (i:=4) (oi:=⟨some 54,_,_,_,_,_⟩) (v:=.int .i64 nm) rfl (by kernel_rfl) (by kernel_rfl) (by kernel_rfl) (fun _ _ _ h=>h) (Or.inl ⟨by rfl,fun W hW=>by have hcx:W.cell? ⟨w.heap.size,2,none⟩=some (.int .i64 nm):=hW.cell 2;go_simp⟩) hS ?_
 try simp only [Act.put,List.setIfInBounds_toArray,List.set_cons_zero,List.set_cons_succ]
 refine AnyH.only (i:=5) (o:=⟨some 55,_,_,_,_,_⟩) (by kernel_rfl) rfl (by rfl) (fun K hK=>?_)
 go_simp
 have HMd:=zh (HM0.out.below (show Below W0.heap.size W0 W0.drew from (Below.refl _ _).drew))
 refine (zaf HMd.out.n.t nm hn).mono ?_
 rintro e w1 ⟨rfl,hb⟩
 have HM1:=zh (HMd.out.below hb)
 clear hb hS
 have hS:Blk w1 w.heap.size (zaa (T.mk 14 s nm p ks) kv) 25:=HM1.out.q
 refine hK.out _ _ hS ?_
 clear hK K
 try simp only [Act.put,List.setIfInBounds_toArray,List.set_cons_zero,List.set_cons_succ]
 refine AnyH.only (i:=6) (o:=⟨some 56,_,_,_,_,_⟩) (by kernel_rfl) rfl (by rfl) (fun K hK=>?_)
 go_simp
 refine hK.out _ _ (HM1.out.q.alloc _) ?_
 clear hK K hS
 try simp only [Act.put,List.setIfInBounds_toArray,List.set_cons_zero,List.set_cons_succ]
 refine AnyH.only (i:=7) (o:=⟨some 57,_,_,_,_,_⟩) (by kernel_rfl) rfl (by rfl) (fun K hK=>?_)
 go_simp
 refine (puts HM1.out.n.st [⟨#[117,110,108,111,99,107,32]⟩,s,⟨#[91]⟩,⟨(dec nm).toArray⟩,⟨#[93]⟩] 5 _ _ rfl rfl rfl (by omega) (by have hl:=HL.out;simp [cat,tb] at hl ⊢;omega)).mono ?_
 rintro e w2 ⟨rfl,hs,hb,ho⟩
 have HM2:=zh (HM1.out.step hs hb ho)
 clear hs hb ho
 have e2_0:w2.cell? ⟨w.heap.size,0,none⟩=some (.int .i64 14):=HM2.out.q.cell 0
 have e2_1:w2.cell? ⟨w.heap.size,1,none⟩=some (.string s):=HM2.out.q.cell 1
 have e2_2:w2.cell? ⟨w.heap.size,2,none⟩=some (.int .i64 nm):=HM2.out.q.cell 2
 have e2_3:w2.cell? ⟨w.heap.size,3,none⟩=some (.int .i64 p):=HM2.out.q.cell 3
 have e2_4:w2.cell? ⟨w.heap.size,4,none⟩=some (kv):=HM2.out.q.cell 4
 refine hK.out _ _ HM2.out.q ?_
 clear hK K
 try simp only [Act.put,List.setIfInBounds_toArray,List.set_cons_zero,List.set_cons_succ]
 refine wpAnyH_done (by kernel_rfl) ?_ _
 go_wp2_with fail
 go_end0
 have h:=HM2.out.post
 simpa [cat,tb] using h
end Go.Proofs.YthdbmgijpelecaaGreatDoor
namespace Go.Proofs.YthdbmgijpelecaaGreatDoor
set_option maxRecDepth 100000
set_option maxHeartbeats 2000000
open Go.RowKit
theorem sh_fn {B g c1 c2:Nat} {kk:Int} {s:ByteArray} {nm:Int} {p:Nat} {kv:Value} {l:List UInt8} {d:Nat} {w:World} {xs:List T} {r b:T} (h:Wn B g c1 c2 (T.mk kk s nm p (xs++[r,b])) kv l d w) (hk:zfb B g c1 c2 (T.mk kk s nm p (xs++[r,b])) kv) (hz:xs.length≤1000000) (hl:l.length+([102,110,32]++(tb s++([40]++(commas (zQa d xs)++([41]++(zRb r.text.size ([32,45,62,32]++shw d r)++([32]++shw d b))))))).length≤140737488355328) :
  Calls Tryz.prog 106 #[.pointer (some ⟨g,0,none⟩),.agg #[.int .i64 kk,.string s,.int .i64 nm,.int .i64 p,kv],.func (.func 57) #[] #[.pointer (some ⟨c1,0,none⟩),.pointer (some ⟨c2,0,none⟩)]] w (zka B g (l++([102,110,32]++(tb s++([40]++(commas (zQa d xs)++([41]++(zRb r.text.size ([32,45,62,32]++shw d r)++([32]++shw d b)))))))) d w):=by
 have hlen:(xs++[r,b]).length=xs.length+2:=by simp
 have hur:(xs++[r,b])[xs.length]?=some r:=by rw [List.getElem?_append_right (Nat.le_refl _)];simp
 have hub:(xs++[r,b])[xs.length+1]?=some b:=by rw [List.getElem?_append_right (by omega)];simp
 obtain ⟨gk,cap,hkv,hcap,hcm⟩:=h.zzm (i:=xs.length) (u:=r) hur
 have hkv':kv=.slice (some ⟨gk,0,none⟩) (xs++[r,b]).length cap:=hkv
 rw [hlen] at hkv'
 have hcap':xs.length+2≤cap:=by rw [← hlen];exact hcap
 have HKV:=zh hkv'
 have HZ:=zh hz
 have HUR:=zh hur
 have HUB:=zh hub
 have HLN:=zh hlen
 have HX:=zh (show zQa d xs=((zQa d (T.mk kk s nm p (xs++[r,b])).kids).drop 0).take (xs.length-0) from by
  show zQa d xs=((zQa d (xs++[r,b])).drop 0).take (xs.length-0)
  rw [List.drop_zero,Nat.sub_zero,zvc,zvc,List.map_append,List.take_left' (by simp)])
 have hwm:IntKind.i64.wrap (((xs.length+2:Nat):Int)-2)=(xs.length:Int):=by rw [show ((xs.length+2:Nat):Int)-2=(xs.length:Int) from by omega];exact IntWalk.i64_in _ (by omega)
 have hwm2:IntKind.i64.wrap ((xs.length:Int)+2-2)=(xs.length:Int):=by rw [show (xs.length:Int)+2-2=(xs.length:Int) from by omega];exact IntWalk.i64_in _ (by omega)
 have hwm0:IntKind.i64.wrap (xs.length:Int)=(xs.length:Int):=IntWalk.i64_in _ (by omega)
 have hwm1:IntKind.i64.wrap ((xs.length:Int)+1)=(xs.length:Int)+1:=IntWalk.i64_in _ (by omega)
 unfold maxLen at hcm
 clear hkv hkv' hcap hur hub hlen
 have HK:=zh hk
 have HL:=zh hl
 obtain ⟨W0,hW0,HM0⟩:∃ W,w.alloc (.cells [.int .i64 kk,.string s,.int .i64 nm,.int .i64 p,kv].toArray 25)=W∧Hid (Wm w B g c1 c2 w.heap.size _ _ l d W):=⟨_,rfl,zh (Wm.start h)⟩
 have e0_1:W0.cell? ⟨w.heap.size,1,none⟩=some (.string s):=HM0.out.q.cell 1
 have e0_4:W0.cell? ⟨w.heap.size,4,none⟩=some (.slice (some ⟨gk,0,none⟩) (xs.length+2) cap):=by have h:W0.cell? ⟨w.heap.size,4,none⟩=some kv:=HM0.out.q.cell 4;rw [HKV.out] at h;exact h
 clear h hk hl
 go_enter Tryz.func106,Tryz.ntmps106
 go_wp2_with fail
 refine (puts HM0.out.n.st [⟨#[102,110,32]⟩,s,⟨#[40]⟩] 3 _ _ rfl rfl rfl (by omega) (by have hl:=HL.out;simp [cat,tb] at hl ⊢;omega)).mono ?_
 rintro e w1 ⟨rfl,hs,hb,ho⟩
 have HM1:=zh (HM0.out.step hs hb ho)
 clear hs hb ho
 have e1_1:w1.cell? ⟨w.heap.size,1,none⟩=some (.string s):=HM1.out.q.cell 1
 have e1_4:w1.cell? ⟨w.heap.size,4,none⟩=some (.slice (some ⟨gk,0,none⟩) (xs.length+2) cap):=by have h:w1.cell? ⟨w.heap.size,4,none⟩=some kv:=HM1.out.q.cell 4;rw [HKV.out] at h;exact h
 go_wp2_with fail
 refine (lists HM1.out.n HK.out 0 xs.length _ _ rfl rfl (Nat.zero_le _) (by show xs.length≤(xs++[r,b]).length;rw [HLN.out];omega) HZ.out (zQa d xs) HX.out (by have hl:=HL.out;simp [cat,tb] at hl ⊢;omega)).mono ?_
 rintro e w2 ⟨rfl,hs,hb,ho⟩
 have HM2:=zh (HM1.out.step hs hb ho)
 clear hs hb ho
 have e2_1:w2.cell? ⟨w.heap.size,1,none⟩=some (.string s):=HM2.out.q.cell 1
 have e2_4:w2.cell? ⟨w.heap.size,4,none⟩=some (.slice (some ⟨gk,0,none⟩) (xs.length+2) cap):=by have h:w2.cell? ⟨w.heap.size,4,none⟩=some kv:=HM2.out.q.cell 4;rw [HKV.out] at h;exact h
 go_wp2_with fail
 refine (puts HM2.out.n.st [⟨#[41]⟩] 1 _ _ rfl rfl rfl (by omega) (by have hl:=HL.out;simp [cat,tb] at hl ⊢;omega)).mono ?_
 rintro e w3 ⟨rfl,hs,hb,ho⟩
 have HM3:=zh (HM2.out.step hs hb ho)
 clear hs hb ho
 have e3_1:w3.cell? ⟨w.heap.size,1,none⟩=some (.string s):=HM3.out.q.cell 1
 have e3_4:w3.cell? ⟨w.heap.size,4,none⟩=some (.slice (some ⟨gk,0,none⟩) (xs.length+2) cap):=by have h:w3.cell? ⟨w.heap.size,4,none⟩=some kv:=HM3.out.q.cell 4;rw [HKV.out] at h;exact h
 obtain ⟨xa,xc,hr⟩:=HM3.out.n.zxn HKV.out (i:=xs.length) HUR.out
 have ec:w3.cell? ⟨gk,xs.length * 5+1,none⟩=some (.string r.text):=hr 1 _ rfl
 clear hr
 by_cases he:r.text.size=0
 ·have het:(r.text.toList == [])=true:=by rw [ByteArray.toList_eq];have:r.text.data.toList=[]:=List.eq_nil_of_length_eq_zero (by simpa using he);rw [this];rfl
  have HL2:=zh (show l.length+(tb s).length+(commas (zQa d xs)).length+(shw d b).length+6≤140737488355328 from by have hl:=HL.out;simp at hl;omega)
  have HE:=zh he
  clear he
  go_wp2_with fail
  refine (puts HM3.out.n.st [⟨#[32]⟩] 1 _ _ rfl rfl rfl (by omega) (by have hl:=HL2.out;simp [cat,tb] at hl ⊢;omega)).mono ?_
  rintro e w4 ⟨rfl,hs,hb,ho⟩
  have HM4:=zh (HM3.out.step hs hb ho)
  clear hs hb ho
  have e4_1:w4.cell? ⟨w.heap.size,1,none⟩=some (.string s):=HM4.out.q.cell 1
  have e4_4:w4.cell? ⟨w.heap.size,4,none⟩=some (.slice (some ⟨gk,0,none⟩) (xs.length+2) cap):=by have h:w4.cell? ⟨w.heap.size,4,none⟩=some kv:=HM4.out.q.cell 4;rw [HKV.out] at h;exact h
  go_wp2_with fail
  refine (HK.out.get _ (xs.length+1) _ (by omega) HM4.out.n HUB.out (by have hl:=HL2.out;simp [cat,tb] at hl ⊢;omega)).mono ?_
  rintro e w5 ⟨rfl,hs,hb,ho⟩
  have HM5:=zh (HM4.out.step hs hb ho)
  clear hs hb ho
  have e5_1:w5.cell? ⟨w.heap.size,1,none⟩=some (.string s):=HM5.out.q.cell 1
  have e5_4:w5.cell? ⟨w.heap.size,4,none⟩=some (.slice (some ⟨gk,0,none⟩) (xs.length+2) cap):=by have h:w5.cell? ⟨w.heap.size,4,none⟩=some kv:=HM5.out.q.cell 4;rw [HKV.out] at h;exact h
  go_wp2_with fail
  go_end0
  have h:=HM5.out.post
  rw [HE.out,zBk]
  simpa [cat,tb] using h
 ·have het:(r.text.toList == [])=false:=beq_eq_false_iff_ne.2 fun e=>he (by rw [ByteArray.toList_eq] at e;have:=congrArg List.length e;simpa using this)
  have HL2:=zh (show l.length+(tb s).length+(commas (zQa d xs)).length+(shw d r).length+(shw d b).length+10≤140737488355328 from by have hl:=HL.out;rw [zAb he] at hl;simp at hl;omega)
  have HE:=zh he
  clear he
  go_wp2_with fail
  refine (puts HM3.out.n.st [⟨#[32,45,62,32]⟩] 1 _ _ rfl rfl rfl (by omega) (by have hl:=HL2.out;simp [cat,tb] at hl ⊢;omega)).mono ?_
  rintro e w4 ⟨rfl,hs,hb,ho⟩
  have HM4:=zh (HM3.out.step hs hb ho)
  clear hs hb ho
  have e4_1:w4.cell? ⟨w.heap.size,1,none⟩=some (.string s):=HM4.out.q.cell 1
  have e4_4:w4.cell? ⟨w.heap.size,4,none⟩=some (.slice (some ⟨gk,0,none⟩) (xs.length+2) cap):=by have h:w4.cell? ⟨w.heap.size,4,none⟩=some kv:=HM4.out.q.cell 4;rw [HKV.out] at h;exact h
  go_wp2_with fail
  refine (HK.out.get _ xs.length _ (by omega) HM4.out.n HUR.out (by have hl:=HL2.out;simp [cat,tb] at hl ⊢;omega)).mono ?_
  rintro e w5 ⟨rfl,hs,hb,ho⟩
  have HM5:=zh (HM4.out.step hs hb ho)
  clear hs hb ho
  have e5_1:w5.cell? ⟨w.heap.size,1,none⟩=some (.string s):=HM5.out.q.cell 1
  have e5_4:w5.cell? ⟨w.heap.size,4,none⟩=some (.slice (some ⟨gk,0,none⟩) (xs.length+2) cap):=by have h:w5.cell? ⟨w.heap.size,4,none⟩=some kv:=HM5.out.q.cell 4;rw [HKV.out] at h;exact h
  go_wp2_with fail
  refine (puts HM5.out.n.st [⟨#[32]⟩] 1 _ _ rfl rfl rfl (by omega) (by have hl:=HL2.out;simp [cat,tb] at hl ⊢;omega)).mono ?_
  rintro e w6 ⟨rfl,hs,hb,ho⟩
  have HM6:=zh (HM5.out.step hs hb ho)
  clear hs hb ho
  have e6_1:w6.cell? ⟨w.heap.size,1,none⟩=some (.string s):=HM6.out.q.cell 1
  have e6_4:w6.cell? ⟨w.heap.size,4,none⟩=some (.slice (some ⟨gk,0,none⟩) (xs.length+2) cap):=by have h:w6.cell? ⟨w.heap.size,4,none⟩=some kv:=HM6.out.q.cell 4;rw [HKV.out] at h;exact h
  go_wp2_with fail
  refine (HK.out.get _ (xs.length+1) _ (by omega) HM6.out.n HUB.out (by have hl:=HL2.out;simp [cat,tb] at hl ⊢;omega)).mono ?_
  rintro e w7 ⟨rfl,hs,hb,ho⟩
  have HM7:=zh (HM6.out.step hs hb ho)
  clear hs hb ho
  have e7_1:w7.cell? ⟨w.heap.size,1,none⟩=some (.string s):=HM7.out.q.cell 1
  have e7_4:w7.cell? ⟨w.heap.size,4,none⟩=some (.slice (some ⟨gk,0,none⟩) (xs.length+2) cap):=by have h:w7.cell? ⟨w.heap.size,4,none⟩=some kv:=HM7.out.q.cell 4;rw [HKV.out] at h;exact h
  go_wp2_with fail
  go_end0
  have h:=HM7.out.post
  rw [zAb HE.out]
  simpa [cat,tb] using h
end Go.Proofs.YthdbmgijpelecaaGreatDoor
