/- The contracts of the writer's declaration, by kind. -/
import Derived.Test.YtbfgdpcgdmabpaaGreatDoorY27
import Derived.Test.YtbfgdpcgdmabpaaGreatDoorY26
namespace Go.Proofs.YtbfgdpcgdmabpaaGreatDoor
set_option maxRecDepth 100000
set_option maxHeartbeats 2000000
open Go.RowKit
def ziq (x:List UInt8):List UInt8:=x++[10]
theorem zAw {B g c1 c2:Nat} {s:ByteArray} {nm:Int} {p:Nat} {ks:List T} {kv:Value} {l:List UInt8} {d:Nat} {w:World} (h:Wn B g c1 c2 (T.mk 0 s nm p ks) kv l d w) (hk:zWb B g c1 c2 (T.mk 0 s nm p ks) kv) (hz:ks.length≤1000000) (hl:l.length+(rows ziq (zpb d ks)).length≤140737488355328) :
  Calls Tryz.prog 47 #[.pointer (some ⟨g,0,none⟩),.agg #[.int .i64 0,.string s,.int .i64 nm,.int .i64 p,kv],.func (.func 44) #[] #[.pointer (some ⟨c1,0,none⟩),.pointer (some ⟨c2,0,none⟩)]] w (zMa B g (l++(rows ziq (zpb d ks))) d w):=by
 obtain ⟨ka,kc,hkv⟩:=h.k.len
 have HKV:=zh hkv
 have hz1:ks.length≤1000000:=hz
 clear hkv hz
 have HK:=zh hk
 have HL:=zh hl
 obtain ⟨W0,hW0,HM0⟩:∃ W,w.alloc (.cells [.int .i64 0,.string s,.int .i64 nm,.int .i64 p,kv].toArray 25)=W∧Hid (Wm w B g c1 c2 w.heap.size _ _ l d W):=⟨_,rfl,zh (Wm.start h)⟩
 have e0_0:W0.cell? ⟨w.heap.size,0,none⟩=some (.int .i64 0):=HM0.out.q.cell 0
 have e0_4:W0.cell? ⟨w.heap.size,4,none⟩=some (.slice ka ks.length kc):=by have h:W0.cell? ⟨w.heap.size,4,none⟩=some kv:=HM0.out.q.cell 4;rw [HKV.out] at h;exact h
 clear h hk hl
 go_enter Tryz.func47,Tryz.ntmps47
 go_wp2_with fail
 go_loopg [14] ks.length (fun gk i wr=>zav w B g c1 c2 w.heap.size (T.mk 0 s nm p ks) kv l d ziq (zpb d ks) gk i wr)
 case atStart=>exact ⟨0,by omega,by show ks.length≤_;omega,rfl,by simpa [rows] using HM0.out⟩
 case round =>
  obtain ⟨k,hk,hgk,rfl,hm⟩:=hrel
  have hk':k≤ks.length:=hk
  have hgk':ks.length≤k+gk:=hgk
  have HM:=zh hm
  clear hm hk hgk
  by_cases hlt:k<ks.length
  ·obtain ⟨u,hu⟩:∃ u,ks[k]?=some u:=⟨ks[k],List.getElem?_eq_getElem hlt⟩
   have hR:=zwk ziq (zpb d ks) k _ (zSj d ks k u hu)
   have hle:=zxp ziq (zpb d ks) (k+1)
   rw [hR,List.length_append,show (ziq (shw d u)).length=(shw d u).length+1 from by simp [ziq]] at hle
   have HR:=zh hR
   have HU:=zh hu
   have HLE:=zh hle
   clear hu hR hle
   go_wp2_with fail
   refine (HK.out.get _ k _ (by omega) HM.out.n HU.out (by have hl:=HL.out;have hle:=HLE.out;simp at hl ⊢;omega)).mono ?_
   rintro e wb ⟨rfl,hs,hb,ho⟩
   have HMb:=zh (HM.out.step hs hb ho)
   clear hs hb ho
   go_wp2_with fail
   refine (puts HMb.out.n.st [⟨#[10]⟩] 1 _ _ rfl rfl rfl (by omega) (by have hl:=HL.out;have hle:=HLE.out;simp [cat,tb] at hl ⊢;omega)).mono ?_
   rintro e wc ⟨rfl,hs,hb,ho⟩
   have HMc:=zh (HMb.out.step hs hb ho)
   clear hs hb ho
   go_wp2_with fail
   go_roundg (gk-1)
   case measure=>omega
   case rel=>exact ⟨k+1,by show _≤ks.length;omega,by show ks.length≤_;omega,by go_num,by rw [HR.out,show ziq (shw d u)=shw d u++[10] from rfl];have h:=HMc.out;simpa [cat,tb,List.append_assoc] using h⟩
  ·have hkk:k=ks.length:=by omega
   subst hkk
   go_wp2_with fail
   go_end0
   have h:=HM.out.post
   rw [List.take_of_length_le (by rw [zEc];exact Nat.le_refl _)] at h
   exact h
theorem zfx {B g c1 c2:Nat} {s:ByteArray} {nm:Int} {p:Nat} {ks:List T} {kv:Value} {l:List UInt8} {d:Nat} {w:World} (h:Wn B g c1 c2 (T.mk 2 s nm p ks) kv l d w) (hk:zWb B g c1 c2 (T.mk 2 s nm p ks) kv) (hz:ks.length≤1000000) (hl:l.length+(tb s++maybe [32] [] (zpb d ks)).length≤140737488355328) :
  Calls Tryz.prog 47 #[.pointer (some ⟨g,0,none⟩),.agg #[.int .i64 2,.string s,.int .i64 nm,.int .i64 p,kv],.func (.func 44) #[] #[.pointer (some ⟨c1,0,none⟩),.pointer (some ⟨c2,0,none⟩)]] w (zMa B g (l++(tb s++maybe [32] [] (zpb d ks))) d w):=by
 have HZ:=zh hz
 clear hz
 have HK:=zh hk
 have HL:=zh hl
 obtain ⟨W0,hW0,HM0⟩:∃ W,w.alloc (.cells [.int .i64 2,.string s,.int .i64 nm,.int .i64 p,kv].toArray 25)=W∧Hid (Wm w B g c1 c2 w.heap.size _ _ l d W):=⟨_,rfl,zh (Wm.start h)⟩
 have e0_0:W0.cell? ⟨w.heap.size,0,none⟩=some (.int .i64 2):=HM0.out.q.cell 0
 have e0_1:W0.cell? ⟨w.heap.size,1,none⟩=some (.string s):=HM0.out.q.cell 1
 have e0_2:W0.cell? ⟨w.heap.size,2,none⟩=some (.int .i64 nm):=HM0.out.q.cell 2
 have e0_3:W0.cell? ⟨w.heap.size,3,none⟩=some (.int .i64 p):=HM0.out.q.cell 3
 have e0_4:W0.cell? ⟨w.heap.size,4,none⟩=some (kv):=HM0.out.q.cell 4
 clear h hk hl
 go_enter Tryz.func47,Tryz.ntmps47
 go_wp2_with fail
 refine (puts HM0.out.n.st [s] 1 _ _ rfl rfl rfl (by omega) (by have hl:=HL.out;simp [cat,tb] at hl ⊢;omega)).mono ?_
 rintro e w1 ⟨rfl,hs,hb,ho⟩
 have HM1:=zh (HM0.out.step hs hb ho)
 clear hs hb ho
 have e1_0:w1.cell? ⟨w.heap.size,0,none⟩=some (.int .i64 2):=HM1.out.q.cell 0
 have e1_1:w1.cell? ⟨w.heap.size,1,none⟩=some (.string s):=HM1.out.q.cell 1
 have e1_2:w1.cell? ⟨w.heap.size,2,none⟩=some (.int .i64 nm):=HM1.out.q.cell 2
 have e1_3:w1.cell? ⟨w.heap.size,3,none⟩=some (.int .i64 p):=HM1.out.q.cell 3
 have e1_4:w1.cell? ⟨w.heap.size,4,none⟩=some (kv):=HM1.out.q.cell 4
 go_wp2_with fail
 refine (zUf (a:=⟨#[32]⟩) (b:=⟨#[]⟩) HM1.out.n HK.out HZ.out (by have hl:=HL.out;simp [cat,tb] at hl ⊢;omega)).mono ?_
 rintro e w2 ⟨rfl,hs,hb,ho⟩
 have HM2:=zh (HM1.out.step hs hb ho)
 clear hs hb ho
 have e2_0:w2.cell? ⟨w.heap.size,0,none⟩=some (.int .i64 2):=HM2.out.q.cell 0
 have e2_1:w2.cell? ⟨w.heap.size,1,none⟩=some (.string s):=HM2.out.q.cell 1
 have e2_2:w2.cell? ⟨w.heap.size,2,none⟩=some (.int .i64 nm):=HM2.out.q.cell 2
 have e2_3:w2.cell? ⟨w.heap.size,3,none⟩=some (.int .i64 p):=HM2.out.q.cell 3
 have e2_4:w2.cell? ⟨w.heap.size,4,none⟩=some (kv):=HM2.out.q.cell 4
 go_wp2_with fail
 go_end0
 have h:=HM2.out.post
 simpa [cat,tb] using h
theorem zgw {B g c1 c2:Nat} {s:ByteArray} {nm:Int} {p:Nat} {ks:List T} {kv:Value} {l:List UInt8} {d:Nat} {w:World} (h:Wn B g c1 c2 (T.mk 3 s nm p ks) kv l d w) (hk:zWb B g c1 c2 (T.mk 3 s nm p ks) kv) (hz:ks.length≤1000000) (hl:l.length+(tb s++maybe [91] [93] (zpb d ks)).length≤140737488355328) :
  Calls Tryz.prog 47 #[.pointer (some ⟨g,0,none⟩),.agg #[.int .i64 3,.string s,.int .i64 nm,.int .i64 p,kv],.func (.func 44) #[] #[.pointer (some ⟨c1,0,none⟩),.pointer (some ⟨c2,0,none⟩)]] w (zMa B g (l++(tb s++maybe [91] [93] (zpb d ks))) d w):=by
 have HZ:=zh hz
 clear hz
 have HK:=zh hk
 have HL:=zh hl
 obtain ⟨W0,hW0,HM0⟩:∃ W,w.alloc (.cells [.int .i64 3,.string s,.int .i64 nm,.int .i64 p,kv].toArray 25)=W∧Hid (Wm w B g c1 c2 w.heap.size _ _ l d W):=⟨_,rfl,zh (Wm.start h)⟩
 have e0_0:W0.cell? ⟨w.heap.size,0,none⟩=some (.int .i64 3):=HM0.out.q.cell 0
 have e0_1:W0.cell? ⟨w.heap.size,1,none⟩=some (.string s):=HM0.out.q.cell 1
 have e0_2:W0.cell? ⟨w.heap.size,2,none⟩=some (.int .i64 nm):=HM0.out.q.cell 2
 have e0_3:W0.cell? ⟨w.heap.size,3,none⟩=some (.int .i64 p):=HM0.out.q.cell 3
 have e0_4:W0.cell? ⟨w.heap.size,4,none⟩=some (kv):=HM0.out.q.cell 4
 clear h hk hl
 go_enter Tryz.func47,Tryz.ntmps47
 go_wp2_with fail
 refine (puts HM0.out.n.st [s] 1 _ _ rfl rfl rfl (by omega) (by have hl:=HL.out;simp [cat,tb] at hl ⊢;omega)).mono ?_
 rintro e w1 ⟨rfl,hs,hb,ho⟩
 have HM1:=zh (HM0.out.step hs hb ho)
 clear hs hb ho
 have e1_0:w1.cell? ⟨w.heap.size,0,none⟩=some (.int .i64 3):=HM1.out.q.cell 0
 have e1_1:w1.cell? ⟨w.heap.size,1,none⟩=some (.string s):=HM1.out.q.cell 1
 have e1_2:w1.cell? ⟨w.heap.size,2,none⟩=some (.int .i64 nm):=HM1.out.q.cell 2
 have e1_3:w1.cell? ⟨w.heap.size,3,none⟩=some (.int .i64 p):=HM1.out.q.cell 3
 have e1_4:w1.cell? ⟨w.heap.size,4,none⟩=some (kv):=HM1.out.q.cell 4
 go_wp2_with fail
 refine (zUf (a:=⟨#[91]⟩) (b:=⟨#[93]⟩) HM1.out.n HK.out HZ.out (by have hl:=HL.out;simp [cat,tb] at hl ⊢;omega)).mono ?_
 rintro e w2 ⟨rfl,hs,hb,ho⟩
 have HM2:=zh (HM1.out.step hs hb ho)
 clear hs hb ho
 have e2_0:w2.cell? ⟨w.heap.size,0,none⟩=some (.int .i64 3):=HM2.out.q.cell 0
 have e2_1:w2.cell? ⟨w.heap.size,1,none⟩=some (.string s):=HM2.out.q.cell 1
 have e2_2:w2.cell? ⟨w.heap.size,2,none⟩=some (.int .i64 nm):=HM2.out.q.cell 2
 have e2_3:w2.cell? ⟨w.heap.size,3,none⟩=some (.int .i64 p):=HM2.out.q.cell 3
 have e2_4:w2.cell? ⟨w.heap.size,4,none⟩=some (kv):=HM2.out.q.cell 4
 go_wp2_with fail
 go_end0
 have h:=HM2.out.post
 simpa [cat,tb] using h
theorem zHw {B g c1 c2:Nat} {s:ByteArray} {nm:Int} {p:Nat} {ks:List T} {kv:Value} {l:List UInt8} {d:Nat} {w:World} {u v:T} (h:Wn B g c1 c2 (T.mk 4 s nm p ks) kv l d w) (hk:zWb B g c1 c2 (T.mk 4 s nm p ks) kv) (h0:ks[0]?=some u) (h1:ks[1]?=some v) (hl:l.length+(shw d u++([32]++(tb s++([32]++shw d v)))).length≤140737488355328) :
  Calls Tryz.prog 47 #[.pointer (some ⟨g,0,none⟩),.agg #[.int .i64 4,.string s,.int .i64 nm,.int .i64 p,kv],.func (.func 44) #[] #[.pointer (some ⟨c1,0,none⟩),.pointer (some ⟨c2,0,none⟩)]] w (zMa B g (l++(shw d u++([32]++(tb s++([32]++shw d v))))) d w):=by
 have HK:=zh hk
 have HL:=zh hl
 obtain ⟨W0,hW0,HM0⟩:∃ W,w.alloc (.cells [.int .i64 4,.string s,.int .i64 nm,.int .i64 p,kv].toArray 25)=W∧Hid (Wm w B g c1 c2 w.heap.size _ _ l d W):=⟨_,rfl,zh (Wm.start h)⟩
 have e0_0:W0.cell? ⟨w.heap.size,0,none⟩=some (.int .i64 4):=HM0.out.q.cell 0
 have e0_1:W0.cell? ⟨w.heap.size,1,none⟩=some (.string s):=HM0.out.q.cell 1
 have e0_2:W0.cell? ⟨w.heap.size,2,none⟩=some (.int .i64 nm):=HM0.out.q.cell 2
 have e0_3:W0.cell? ⟨w.heap.size,3,none⟩=some (.int .i64 p):=HM0.out.q.cell 3
 have e0_4:W0.cell? ⟨w.heap.size,4,none⟩=some (kv):=HM0.out.q.cell 4
 clear h hk hl
 go_enter Tryz.func47,Tryz.ntmps47
 go_wp2_with fail
 refine (zqh (u:=u) (v:=v) HM0.out.n HK.out h0 h1 HL.out).mono ?_
 rintro e w1 ⟨rfl,hs,hb,ho⟩
 have HM1:=zh (HM0.out.step hs hb ho)
 clear hs hb ho
 have e1_0:w1.cell? ⟨w.heap.size,0,none⟩=some (.int .i64 4):=HM1.out.q.cell 0
 have e1_1:w1.cell? ⟨w.heap.size,1,none⟩=some (.string s):=HM1.out.q.cell 1
 have e1_2:w1.cell? ⟨w.heap.size,2,none⟩=some (.int .i64 nm):=HM1.out.q.cell 2
 have e1_3:w1.cell? ⟨w.heap.size,3,none⟩=some (.int .i64 p):=HM1.out.q.cell 3
 have e1_4:w1.cell? ⟨w.heap.size,4,none⟩=some (kv):=HM1.out.q.cell 4
 go_wp2_with fail
 go_end0
 have h:=HM1.out.post
 simpa [cat,tb] using h
theorem zXu {B g c1 c2:Nat} {s:ByteArray} {nm:Int} {p:Nat} {ks:List T} {kv:Value} {l:List UInt8} {d:Nat} {w:World} (h:Wn B g c1 c2 (T.mk 5 s nm p ks) kv l d w) (hk:zWb B g c1 c2 (T.mk 5 s nm p ks) kv) (hn:-1099511627776≤nm∧nm≤1099511627776) (hl:l.length+(zTb (tb s) nm).length≤140737488355328) :
  Calls Tryz.prog 47 #[.pointer (some ⟨g,0,none⟩),.agg #[.int .i64 5,.string s,.int .i64 nm,.int .i64 p,kv],.func (.func 44) #[] #[.pointer (some ⟨c1,0,none⟩),.pointer (some ⟨c2,0,none⟩)]] w (zMa B g (l++(zTb (tb s) nm)) d w):=by
 have HK:=zh hk
 have HL:=zh hl
 obtain ⟨W0,hW0,HM0⟩:∃ W,w.alloc (.cells [.int .i64 5,.string s,.int .i64 nm,.int .i64 p,kv].toArray 25)=W∧Hid (Wm w B g c1 c2 w.heap.size _ _ l d W):=⟨_,rfl,zh (Wm.start h)⟩
 have e0_0:W0.cell? ⟨w.heap.size,0,none⟩=some (.int .i64 5):=HM0.out.q.cell 0
 have e0_1:W0.cell? ⟨w.heap.size,1,none⟩=some (.string s):=HM0.out.q.cell 1
 have e0_2:W0.cell? ⟨w.heap.size,2,none⟩=some (.int .i64 nm):=HM0.out.q.cell 2
 have e0_3:W0.cell? ⟨w.heap.size,3,none⟩=some (.int .i64 p):=HM0.out.q.cell 3
 have e0_4:W0.cell? ⟨w.heap.size,4,none⟩=some (kv):=HM0.out.q.cell 4
 clear h hk hl
 go_enter Tryz.func47,Tryz.ntmps47
 go_wp2_with fail
 refine (zYs HM0.out.n HK.out hn HL.out).mono ?_
 rintro e w1 ⟨rfl,hs,hb,ho⟩
 have HM1:=zh (HM0.out.step hs hb ho)
 clear hs hb ho
 have e1_0:w1.cell? ⟨w.heap.size,0,none⟩=some (.int .i64 5):=HM1.out.q.cell 0
 have e1_1:w1.cell? ⟨w.heap.size,1,none⟩=some (.string s):=HM1.out.q.cell 1
 have e1_2:w1.cell? ⟨w.heap.size,2,none⟩=some (.int .i64 nm):=HM1.out.q.cell 2
 have e1_3:w1.cell? ⟨w.heap.size,3,none⟩=some (.int .i64 p):=HM1.out.q.cell 3
 have e1_4:w1.cell? ⟨w.heap.size,4,none⟩=some (kv):=HM1.out.q.cell 4
 go_wp2_with fail
 go_end0
 have h:=HM1.out.post
 simpa [cat,tb] using h
theorem zWu {B g c1 c2:Nat} {s:ByteArray} {nm:Int} {p:Nat} {ks:List T} {kv:Value} {l:List UInt8} {d:Nat} {w:World} (h:Wn B g c1 c2 (T.mk 8 s nm p ks) kv l d w) (hk:zWb B g c1 c2 (T.mk 8 s nm p ks) kv) (hz:ks.length≤1000000) (hl:l.length+(zDc (tb s) (zpb d ks)).length≤140737488355328) :
  Calls Tryz.prog 47 #[.pointer (some ⟨g,0,none⟩),.agg #[.int .i64 8,.string s,.int .i64 nm,.int .i64 p,kv],.func (.func 44) #[] #[.pointer (some ⟨c1,0,none⟩),.pointer (some ⟨c2,0,none⟩)]] w (zMa B g (l++(zDc (tb s) (zpb d ks))) d w):=by
 have HZ:=zh hz
 clear hz
 have HK:=zh hk
 have HL:=zh hl
 obtain ⟨W0,hW0,HM0⟩:∃ W,w.alloc (.cells [.int .i64 8,.string s,.int .i64 nm,.int .i64 p,kv].toArray 25)=W∧Hid (Wm w B g c1 c2 w.heap.size _ _ l d W):=⟨_,rfl,zh (Wm.start h)⟩
 have e0_0:W0.cell? ⟨w.heap.size,0,none⟩=some (.int .i64 8):=HM0.out.q.cell 0
 have e0_1:W0.cell? ⟨w.heap.size,1,none⟩=some (.string s):=HM0.out.q.cell 1
 have e0_2:W0.cell? ⟨w.heap.size,2,none⟩=some (.int .i64 nm):=HM0.out.q.cell 2
 have e0_3:W0.cell? ⟨w.heap.size,3,none⟩=some (.int .i64 p):=HM0.out.q.cell 3
 have e0_4:W0.cell? ⟨w.heap.size,4,none⟩=some (kv):=HM0.out.q.cell 4
 clear h hk hl
 go_enter Tryz.func47,Tryz.ntmps47
 go_wp2_with fail
 refine (zvt HM0.out.n HK.out HZ.out HL.out).mono ?_
 rintro e w1 ⟨rfl,hs,hb,ho⟩
 have HM1:=zh (HM0.out.step hs hb ho)
 clear hs hb ho
 have e1_0:w1.cell? ⟨w.heap.size,0,none⟩=some (.int .i64 8):=HM1.out.q.cell 0
 have e1_1:w1.cell? ⟨w.heap.size,1,none⟩=some (.string s):=HM1.out.q.cell 1
 have e1_2:w1.cell? ⟨w.heap.size,2,none⟩=some (.int .i64 nm):=HM1.out.q.cell 2
 have e1_3:w1.cell? ⟨w.heap.size,3,none⟩=some (.int .i64 p):=HM1.out.q.cell 3
 have e1_4:w1.cell? ⟨w.heap.size,4,none⟩=some (kv):=HM1.out.q.cell 4
 go_wp2_with fail
 go_end0
 have h:=HM1.out.post
 simpa [cat,tb] using h
theorem zfw {B g c1 c2:Nat} {s:ByteArray} {nm:Int} {p:Nat} {ks:List T} {kv:Value} {l:List UInt8} {d:Nat} {w:World} {u:T} (h:Wn B g c1 c2 (T.mk 7 s nm p ks) kv l d w) (hk:zWb B g c1 c2 (T.mk 7 s nm p ks) kv) (h0:ks[0]?=some u) (hl:l.length+(tb s++([58,32]++shw d u)).length≤140737488355328) :
  Calls Tryz.prog 47 #[.pointer (some ⟨g,0,none⟩),.agg #[.int .i64 7,.string s,.int .i64 nm,.int .i64 p,kv],.func (.func 44) #[] #[.pointer (some ⟨c1,0,none⟩),.pointer (some ⟨c2,0,none⟩)]] w (zMa B g (l++(tb s++([58,32]++shw d u))) d w):=by
 have HK:=zh hk
 have HL:=zh hl
 obtain ⟨W0,hW0,HM0⟩:∃ W,w.alloc (.cells [.int .i64 7,.string s,.int .i64 nm,.int .i64 p,kv].toArray 25)=W∧Hid (Wm w B g c1 c2 w.heap.size _ _ l d W):=⟨_,rfl,zh (Wm.start h)⟩
 have e0_0:W0.cell? ⟨w.heap.size,0,none⟩=some (.int .i64 7):=HM0.out.q.cell 0
 have e0_1:W0.cell? ⟨w.heap.size,1,none⟩=some (.string s):=HM0.out.q.cell 1
 have e0_2:W0.cell? ⟨w.heap.size,2,none⟩=some (.int .i64 nm):=HM0.out.q.cell 2
 have e0_3:W0.cell? ⟨w.heap.size,3,none⟩=some (.int .i64 p):=HM0.out.q.cell 3
 have e0_4:W0.cell? ⟨w.heap.size,4,none⟩=some (kv):=HM0.out.q.cell 4
 clear h hk hl
 go_enter Tryz.func47,Tryz.ntmps47
 go_wp2_with fail
 refine (puts HM0.out.n.st [s,⟨#[58,32]⟩] 2 _ _ rfl rfl rfl (by omega) (by have hl:=HL.out;simp [cat,tb] at hl ⊢;omega)).mono ?_
 rintro e w1 ⟨rfl,hs,hb,ho⟩
 have HM1:=zh (HM0.out.step hs hb ho)
 clear hs hb ho
 have e1_0:w1.cell? ⟨w.heap.size,0,none⟩=some (.int .i64 7):=HM1.out.q.cell 0
 have e1_1:w1.cell? ⟨w.heap.size,1,none⟩=some (.string s):=HM1.out.q.cell 1
 have e1_2:w1.cell? ⟨w.heap.size,2,none⟩=some (.int .i64 nm):=HM1.out.q.cell 2
 have e1_3:w1.cell? ⟨w.heap.size,3,none⟩=some (.int .i64 p):=HM1.out.q.cell 3
 have e1_4:w1.cell? ⟨w.heap.size,4,none⟩=some (kv):=HM1.out.q.cell 4
 go_wp2_with fail
 refine (HK.out.get _ 0 _ (by omega) HM1.out.n h0 (by have hl:=HL.out;simp [cat,tb] at hl ⊢;omega)).mono ?_
 rintro e w2 ⟨rfl,hs,hb,ho⟩
 have HM2:=zh (HM1.out.step hs hb ho)
 clear hs hb ho
 have e2_0:w2.cell? ⟨w.heap.size,0,none⟩=some (.int .i64 7):=HM2.out.q.cell 0
 have e2_1:w2.cell? ⟨w.heap.size,1,none⟩=some (.string s):=HM2.out.q.cell 1
 have e2_2:w2.cell? ⟨w.heap.size,2,none⟩=some (.int .i64 nm):=HM2.out.q.cell 2
 have e2_3:w2.cell? ⟨w.heap.size,3,none⟩=some (.int .i64 p):=HM2.out.q.cell 3
 have e2_4:w2.cell? ⟨w.heap.size,4,none⟩=some (kv):=HM2.out.q.cell 4
 go_wp2_with fail
 go_end0
 have h:=HM2.out.post
 simpa [cat,tb] using h
theorem zJu {B g c1 c2:Nat} {s:ByteArray} {nm:Int} {p:Nat} {kv:Value} {l:List UInt8} {d:Nat} {w:World} {a:T} {ts:List T} (h:Wn B g c1 c2 (T.mk 1 s nm p (a :: ts)) kv l d w) (hk:zWb B g c1 c2 (T.mk 1 s nm p (a :: ts)) kv) (hz:ts.length≤100000) (hl:l.length+([116,121,112,101,32]++(tb s++([32]++(shw d a++(zTc (zEa ts) ([32,123,32]++(commas ((zpb d ts).take (zEa ts))++[32,125]))++(zTc (ts.length-zEa ts) ([32,119,104,101,114,101,32]++commas ((zpb d ts).drop (zEa ts)))++[59])))))).length≤140737488355328) :
  Calls Tryz.prog 47 #[.pointer (some ⟨g,0,none⟩),.agg #[.int .i64 1,.string s,.int .i64 nm,.int .i64 p,kv],.func (.func 44) #[] #[.pointer (some ⟨c1,0,none⟩),.pointer (some ⟨c2,0,none⟩)]] w (zMa B g (l++([116,121,112,101,32]++(tb s++([32]++(shw d a++(zTc (zEa ts) ([32,123,32]++(commas ((zpb d ts).take (zEa ts))++[32,125]))++(zTc (ts.length-zEa ts) ([32,119,104,101,114,101,32]++commas ((zpb d ts).drop (zEa ts)))++[59]))))))) d w):=by
 have HK:=zh hk
 have HL:=zh hl
 obtain ⟨W0,hW0,HM0⟩:∃ W,w.alloc (.cells [.int .i64 1,.string s,.int .i64 nm,.int .i64 p,kv].toArray 25)=W∧Hid (Wm w B g c1 c2 w.heap.size _ _ l d W):=⟨_,rfl,zh (Wm.start h)⟩
 have e0_0:W0.cell? ⟨w.heap.size,0,none⟩=some (.int .i64 1):=HM0.out.q.cell 0
 have e0_1:W0.cell? ⟨w.heap.size,1,none⟩=some (.string s):=HM0.out.q.cell 1
 have e0_2:W0.cell? ⟨w.heap.size,2,none⟩=some (.int .i64 nm):=HM0.out.q.cell 2
 have e0_3:W0.cell? ⟨w.heap.size,3,none⟩=some (.int .i64 p):=HM0.out.q.cell 3
 have e0_4:W0.cell? ⟨w.heap.size,4,none⟩=some (kv):=HM0.out.q.cell 4
 clear h hk hl
 go_enter Tryz.func47,Tryz.ntmps47
 go_wp2_with fail
 refine (zgu HM0.out.n HK.out hz HL.out).mono ?_
 rintro e w1 ⟨rfl,hs,hb,ho⟩
 have HM1:=zh (HM0.out.step hs hb ho)
 clear hs hb ho
 have e1_0:w1.cell? ⟨w.heap.size,0,none⟩=some (.int .i64 1):=HM1.out.q.cell 0
 have e1_1:w1.cell? ⟨w.heap.size,1,none⟩=some (.string s):=HM1.out.q.cell 1
 have e1_2:w1.cell? ⟨w.heap.size,2,none⟩=some (.int .i64 nm):=HM1.out.q.cell 2
 have e1_3:w1.cell? ⟨w.heap.size,3,none⟩=some (.int .i64 p):=HM1.out.q.cell 3
 have e1_4:w1.cell? ⟨w.heap.size,4,none⟩=some (kv):=HM1.out.q.cell 4
 go_wp2_with fail
 go_end0
 have h:=HM1.out.post
 simpa [cat,tb] using h
theorem zSu {B g c1 c2:Nat} {s:ByteArray} {nm:Int} {p:Nat} {kv:Value} {l:List UInt8} {d:Nat} {w:World} {xs:List T} {r b:T} (h:Wn B g c1 c2 (T.mk 6 s nm p (xs++[r,b])) kv l d w) (hk:zWb B g c1 c2 (T.mk 6 s nm p (xs++[r,b])) kv) (hz:xs.length≤1000000) (hl:l.length+([102,110,32]++(tb s++([40]++(commas (zpb d xs)++([41]++(zTc r.text.size ([32,45,62,32]++shw d r)++([32]++shw d b))))))).length≤140737488355328) :
  Calls Tryz.prog 47 #[.pointer (some ⟨g,0,none⟩),.agg #[.int .i64 6,.string s,.int .i64 nm,.int .i64 p,kv],.func (.func 44) #[] #[.pointer (some ⟨c1,0,none⟩),.pointer (some ⟨c2,0,none⟩)]] w (zMa B g (l++([102,110,32]++(tb s++([40]++(commas (zpb d xs)++([41]++(zTc r.text.size ([32,45,62,32]++shw d r)++([32]++shw d b)))))))) d w):=by
 have HK:=zh hk
 have HL:=zh hl
 obtain ⟨W0,hW0,HM0⟩:∃ W,w.alloc (.cells [.int .i64 6,.string s,.int .i64 nm,.int .i64 p,kv].toArray 25)=W∧Hid (Wm w B g c1 c2 w.heap.size _ _ l d W):=⟨_,rfl,zh (Wm.start h)⟩
 have e0_0:W0.cell? ⟨w.heap.size,0,none⟩=some (.int .i64 6):=HM0.out.q.cell 0
 have e0_1:W0.cell? ⟨w.heap.size,1,none⟩=some (.string s):=HM0.out.q.cell 1
 have e0_2:W0.cell? ⟨w.heap.size,2,none⟩=some (.int .i64 nm):=HM0.out.q.cell 2
 have e0_3:W0.cell? ⟨w.heap.size,3,none⟩=some (.int .i64 p):=HM0.out.q.cell 3
 have e0_4:W0.cell? ⟨w.heap.size,4,none⟩=some (kv):=HM0.out.q.cell 4
 clear h hk hl
 go_enter Tryz.func47,Tryz.ntmps47
 go_wp2_with fail
 refine (sh_fn HM0.out.n HK.out hz HL.out).mono ?_
 rintro e w1 ⟨rfl,hs,hb,ho⟩
 have HM1:=zh (HM0.out.step hs hb ho)
 clear hs hb ho
 have e1_0:w1.cell? ⟨w.heap.size,0,none⟩=some (.int .i64 6):=HM1.out.q.cell 0
 have e1_1:w1.cell? ⟨w.heap.size,1,none⟩=some (.string s):=HM1.out.q.cell 1
 have e1_2:w1.cell? ⟨w.heap.size,2,none⟩=some (.int .i64 nm):=HM1.out.q.cell 2
 have e1_3:w1.cell? ⟨w.heap.size,3,none⟩=some (.int .i64 p):=HM1.out.q.cell 3
 have e1_4:w1.cell? ⟨w.heap.size,4,none⟩=some (kv):=HM1.out.q.cell 4
 go_wp2_with fail
 go_end0
 have h:=HM1.out.post
 simpa [cat,tb] using h
end Go.Proofs.YtbfgdpcgdmabpaaGreatDoor
