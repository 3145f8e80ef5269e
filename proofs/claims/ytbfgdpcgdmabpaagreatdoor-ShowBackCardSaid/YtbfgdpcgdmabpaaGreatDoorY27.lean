/- The contract of the writer's fn. -/
import Derived.Test.YtbfgdpcgdmabpaaGreatDoorY26
namespace Go.Proofs.YtbfgdpcgdmabpaaGreatDoor
set_option maxRecDepth 100000
set_option maxHeartbeats 2000000
open Go.RowKit
theorem sh_fn {B g c1 c2:Nat} {kk:Int} {s:ByteArray} {nm:Int} {p:Nat} {kv:Value} {l:List UInt8} {d:Nat} {w:World} {xs:List T} {r b:T} (h:Wn B g c1 c2 (T.mk kk s nm p (xs++[r,b])) kv l d w) (hk:zWb B g c1 c2 (T.mk kk s nm p (xs++[r,b])) kv) (hz:xs.length≤1000000) (hl:l.length+([102,110,32]++(tb s++([40]++(commas (zpb d xs)++([41]++(zTc r.text.size ([32,45,62,32]++shw d r)++([32]++shw d b))))))).length≤140737488355328) :
  Calls Tryz.prog 90 #[.pointer (some ⟨g,0,none⟩),.agg #[.int .i64 kk,.string s,.int .i64 nm,.int .i64 p,kv],.func (.func 44) #[] #[.pointer (some ⟨c1,0,none⟩),.pointer (some ⟨c2,0,none⟩)]] w (zMa B g (l++([102,110,32]++(tb s++([40]++(commas (zpb d xs)++([41]++(zTc r.text.size ([32,45,62,32]++shw d r)++([32]++shw d b)))))))) d w):=by
 have hlen:(xs++[r,b]).length=xs.length+2:=by simp
 have hur:(xs++[r,b])[xs.length]?=some r:=by rw [List.getElem?_append_right (Nat.le_refl _)];simp
 have hub:(xs++[r,b])[xs.length+1]?=some b:=by rw [List.getElem?_append_right (by omega)];simp
 obtain ⟨gk,cap,hkv,hcap,hcm⟩:=h.zup (i:=xs.length) (u:=r) hur
 have hkv':kv=.slice (some ⟨gk,0,none⟩) (xs++[r,b]).length cap:=hkv
 rw [hlen] at hkv'
 have hcap':xs.length+2≤cap:=by rw [← hlen];exact hcap
 have HKV:=zh hkv'
 have HZ:=zh hz
 have HUR:=zh hur
 have HUB:=zh hub
 have HLN:=zh hlen
 have HX:=zh (show zpb d xs=((zpb d (T.mk kk s nm p (xs++[r,b])).kids).drop 0).take (xs.length-0) from by
  show zpb d xs=((zpb d (xs++[r,b])).drop 0).take (xs.length-0)
  rw [List.drop_zero,Nat.sub_zero,zhd,zhd,List.map_append,List.take_left' (by simp)])
 have hwm:IntKind.i64.wrap (((xs.length+2:Nat):Int)-2)=(xs.length:Int):=by rw [show ((xs.length+2:Nat):Int)-2=(xs.length:Int) from by omega];exact IntWalk.i64_in _ (by omega)
 have hwm2:IntKind.i64.wrap ((xs.length:Int)+2-2)=(xs.length:Int):=by rw [show (xs.length:Int)+2-2=(xs.length:Int) from by omega];exact IntWalk.i64_in _ (by omega)
 have hwm0:IntKind.i64.wrap (xs.length:Int)=(xs.length:Int):=IntWalk.i64_in _ (by omega)
 have hwm1:IntKind.i64.wrap ((xs.length:Int)+1)=(xs.length:Int)+1:=IntWalk.i64_in _ (by omega)
 unfold maxLen at hcm
 clear hkv hkv' hcap hur hub hlen
 have HK:=zh hk
 have HL:=zh hl
 obtain ⟨W0,hW0,HM0⟩:∃ W,w.alloc (.cells [.int .i64 kk,.string s,.int .i64 nm,.int .i64 p,kv].toArray 25)=W∧Hid (Wm w B g c1 c2 w.heap.size _ _ l d W):=⟨_,rfl,zh (Wm.start h)⟩
 have e0_1:W0.cell? ⟨w.heap.size,1,none⟩=some (.string s):=HM0.out.q.cell 1
 have e0_4:W0.cell? ⟨w.heap.size,4,none⟩=some (.slice (some ⟨gk,0,none⟩) (xs.length+2) cap):=by have h:W0.cell? ⟨w.heap.size,4,none⟩=some kv:=HM0.out.q.cell 4;rw [HKV.out] at h;exact h
 clear h hk hl
 go_enter Tryz.func90,Tryz.ntmps90
 go_wp2_with fail
 refine (puts HM0.out.n.st [⟨#[102,110,32]⟩,s,⟨#[40]⟩] 3 _ _ rfl rfl rfl (by omega) (by have hl:=HL.out;simp [cat,tb] at hl ⊢;omega)).mono ?_
 rintro e w1 ⟨rfl,hs,hb,ho⟩
 have HM1:=zh (HM0.out.step hs hb ho)
 clear hs hb ho
 have e1_1:w1.cell? ⟨w.heap.size,1,none⟩=some (.string s):=HM1.out.q.cell 1
 have e1_4:w1.cell? ⟨w.heap.size,4,none⟩=some (.slice (some ⟨gk,0,none⟩) (xs.length+2) cap):=by have h:w1.cell? ⟨w.heap.size,4,none⟩=some kv:=HM1.out.q.cell 4;rw [HKV.out] at h;exact h
 go_wp2_with fail
 refine (lists HM1.out.n HK.out 0 xs.length _ _ rfl rfl (Nat.zero_le _) (by show xs.length≤(xs++[r,b]).length;rw [HLN.out];omega) HZ.out (zpb d xs) HX.out (by have hl:=HL.out;simp [cat,tb] at hl ⊢;omega)).mono ?_
 rintro e w2 ⟨rfl,hs,hb,ho⟩
 have HM2:=zh (HM1.out.step hs hb ho)
 clear hs hb ho
 have e2_1:w2.cell? ⟨w.heap.size,1,none⟩=some (.string s):=HM2.out.q.cell 1
 have e2_4:w2.cell? ⟨w.heap.size,4,none⟩=some (.slice (some ⟨gk,0,none⟩) (xs.length+2) cap):=by have h:w2.cell? ⟨w.heap.size,4,none⟩=some kv:=HM2.out.q.cell 4;rw [HKV.out] at h;exact h
 go_wp2_with fail
 refine (puts HM2.out.n.st [⟨#[41]⟩] 1 _ _ rfl rfl rfl (by omega) (by have hl:=HL.out;simp [cat,tb] at hl ⊢;omega)).mono ?_
 rintro e w3 ⟨rfl,hs,hb,ho⟩
 have HM3:=zh (HM2.out.step hs hb ho)
 clear hs hb ho
 have e3_1:w3.cell? ⟨w.heap.size,1,none⟩=some (.string s):=HM3.out.q.cell 1
 have e3_4:w3.cell? ⟨w.heap.size,4,none⟩=some (.slice (some ⟨gk,0,none⟩) (xs.length+2) cap):=by have h:w3.cell? ⟨w.heap.size,4,none⟩=some kv:=HM3.out.q.cell 4;rw [HKV.out] at h;exact h
 obtain ⟨xa,xc,hr⟩:=HM3.out.n.zEq HKV.out (i:=xs.length) HUR.out
 have ec:w3.cell? ⟨gk,xs.length * 5+1,none⟩=some (.string r.text):=hr 1 _ rfl
 clear hr
 by_cases he:r.text.size=0
 ·have het:(r.text.toList == [])=true:=by rw [ByteArray.toList_eq];have:r.text.data.toList=[]:=List.eq_nil_of_length_eq_zero (by simpa using he);rw [this];rfl
  have HL2:=zh (show l.length+(tb s).length+(commas (zpb d xs)).length+(shw d b).length+6≤140737488355328 from by have hl:=HL.out;simp at hl;omega)
  have HE:=zh he
  clear he
  go_wp2_with fail
  refine (puts HM3.out.n.st [⟨#[32]⟩] 1 _ _ rfl rfl rfl (by omega) (by have hl:=HL2.out;simp [cat,tb] at hl ⊢;omega)).mono ?_
  rintro e w4 ⟨rfl,hs,hb,ho⟩
  have HM4:=zh (HM3.out.step hs hb ho)
  clear hs hb ho
  have e4_1:w4.cell? ⟨w.heap.size,1,none⟩=some (.string s):=HM4.out.q.cell 1
  have e4_4:w4.cell? ⟨w.heap.size,4,none⟩=some (.slice (some ⟨gk,0,none⟩) (xs.length+2) cap):=by have h:w4.cell? ⟨w.heap.size,4,none⟩=some kv:=HM4.out.q.cell 4;rw [HKV.out] at h;exact h
  go_wp2_with fail
  refine (HK.out.get _ (xs.length+1) _ (by omega) HM4.out.n HUB.out (by have hl:=HL2.out;simp [cat,tb] at hl ⊢;omega)).mono ?_
  rintro e w5 ⟨rfl,hs,hb,ho⟩
  have HM5:=zh (HM4.out.step hs hb ho)
  clear hs hb ho
  have e5_1:w5.cell? ⟨w.heap.size,1,none⟩=some (.string s):=HM5.out.q.cell 1
  have e5_4:w5.cell? ⟨w.heap.size,4,none⟩=some (.slice (some ⟨gk,0,none⟩) (xs.length+2) cap):=by have h:w5.cell? ⟨w.heap.size,4,none⟩=some kv:=HM5.out.q.cell 4;rw [HKV.out] at h;exact h
  go_wp2_with fail
  go_end0
  have h:=HM5.out.post
  rw [HE.out,zDm]
  simpa [cat,tb] using h
 ·have het:(r.text.toList == [])=false:=beq_eq_false_iff_ne.2 fun e=>he (by rw [ByteArray.toList_eq] at e;have:=congrArg List.length e;simpa using this)
  have HL2:=zh (show l.length+(tb s).length+(commas (zpb d xs)).length+(shw d r).length+(shw d b).length+10≤140737488355328 from by have hl:=HL.out;rw [zwc he] at hl;simp at hl;omega)
  have HE:=zh he
  clear he
  go_wp2_with fail
  refine (puts HM3.out.n.st [⟨#[32,45,62,32]⟩] 1 _ _ rfl rfl rfl (by omega) (by have hl:=HL2.out;simp [cat,tb] at hl ⊢;omega)).mono ?_
  rintro e w4 ⟨rfl,hs,hb,ho⟩
  have HM4:=zh (HM3.out.step hs hb ho)
  clear hs hb ho
  have e4_1:w4.cell? ⟨w.heap.size,1,none⟩=some (.string s):=HM4.out.q.cell 1
  have e4_4:w4.cell? ⟨w.heap.size,4,none⟩=some (.slice (some ⟨gk,0,none⟩) (xs.length+2) cap):=by have h:w4.cell? ⟨w.heap.size,4,none⟩=some kv:=HM4.out.q.cell 4;rw [HKV.out] at h;exact h
  go_wp2_with fail
  refine (HK.out.get _ xs.length _ (by omega) HM4.out.n HUR.out (by have hl:=HL2.out;simp [cat,tb] at hl ⊢;omega)).mono ?_
  rintro e w5 ⟨rfl,hs,hb,ho⟩
  have HM5:=zh (HM4.out.step hs hb ho)
  clear hs hb ho
  have e5_1:w5.cell? ⟨w.heap.size,1,none⟩=some (.string s):=HM5.out.q.cell 1
  have e5_4:w5.cell? ⟨w.heap.size,4,none⟩=some (.slice (some ⟨gk,0,none⟩) (xs.length+2) cap):=by have h:w5.cell? ⟨w.heap.size,4,none⟩=some kv:=HM5.out.q.cell 4;rw [HKV.out] at h;exact h
  go_wp2_with fail
  refine (puts HM5.out.n.st [⟨#[32]⟩] 1 _ _ rfl rfl rfl (by omega) (by have hl:=HL2.out;simp [cat,tb] at hl ⊢;omega)).mono ?_
  rintro e w6 ⟨rfl,hs,hb,ho⟩
  have HM6:=zh (HM5.out.step hs hb ho)
  clear hs hb ho
  have e6_1:w6.cell? ⟨w.heap.size,1,none⟩=some (.string s):=HM6.out.q.cell 1
  have e6_4:w6.cell? ⟨w.heap.size,4,none⟩=some (.slice (some ⟨gk,0,none⟩) (xs.length+2) cap):=by have h:w6.cell? ⟨w.heap.size,4,none⟩=some kv:=HM6.out.q.cell 4;rw [HKV.out] at h;exact h
  go_wp2_with fail
  refine (HK.out.get _ (xs.length+1) _ (by omega) HM6.out.n HUB.out (by have hl:=HL2.out;simp [cat,tb] at hl ⊢;omega)).mono ?_
  rintro e w7 ⟨rfl,hs,hb,ho⟩
  have HM7:=zh (HM6.out.step hs hb ho)
  clear hs hb ho
  have e7_1:w7.cell? ⟨w.heap.size,1,none⟩=some (.string s):=HM7.out.q.cell 1
  have e7_4:w7.cell? ⟨w.heap.size,4,none⟩=some (.slice (some ⟨gk,0,none⟩) (xs.length+2) cap):=by have h:w7.cell? ⟨w.heap.size,4,none⟩=some kv:=HM7.out.q.cell 4;rw [HKV.out] at h;exact h
  go_wp2_with fail
  go_end0
  have h:=HM7.out.post
  rw [zwc HE.out]
  simpa [cat,tb] using h
end Go.Proofs.YtbfgdpcgdmabpaaGreatDoor
namespace Go.Proofs.YtbfgdpcgdmabpaaGreatDoor
set_option maxRecDepth 100000
set_option maxHeartbeats 2000000
open Go.RowKit
def FdRel (ts:List T) (w0:World) (gh:Nat) (i:Value) (wr:World):Prop:=∃ j:Nat,j≤zEa ts∧zEa ts≤j+gh∧i=.int .i64 ((1+j:Nat):Int)∧wr=w0
theorem zEj:∀ ts:List T,zEa ts≤ts.length
 | []=>Nat.le_refl _
 | t :: ts=>by
  have:=zEj ts
  unfold zEa
  split
  ·simp only [List.length_cons];omega
  ·omega
theorem zFj:∀ (ts:List T) (j:Nat) (u:T),j<zEa ts→ts[j]?=some u→u.kind=3
 | [],j,u,h,_=>by simp [zEa] at h
 | t :: ts,j,u,h,hu=>by
  unfold zEa at h
  split at h
  ·rename_i hk
   cases j with
   | zero=>simp only [List.getElem?_cons_zero,Option.some.injEq] at hu;rw [← hu];exact hk
   | succ j=>exact zFj ts j u (by omega) (by simpa using hu)
  ·omega
theorem zTi:∀ (ts:List T) (u:T),ts[zEa ts]?=some u→¬ u.kind=3
 | [],u,h=>by simp [zEa] at h
 | t :: ts,u,h=>by
  unfold zEa at h
  split at h
  ·exact zTi ts u (by simpa using h)
  ·rename_i hk
   simp only [List.getElem?_cons_zero,Option.some.injEq] at h
   rw [← h];exact hk
theorem zSe {n:Nat} (h:n=0) (x:List UInt8):zTc n x=[]:=if_pos h
theorem zgu {B g c1 c2:Nat} {kk:Int} {s:ByteArray} {nm:Int} {p:Nat} {kv:Value} {l:List UInt8} {d:Nat} {w:World} {a:T} {ts:List T} (h:Wn B g c1 c2 (T.mk kk s nm p (a :: ts)) kv l d w) (hk:zWb B g c1 c2 (T.mk kk s nm p (a :: ts)) kv) (hz:ts.length≤100000) (hl:l.length+([116,121,112,101,32]++(tb s++([32]++(shw d a++(zTc (zEa ts) ([32,123,32]++(commas ((zpb d ts).take (zEa ts))++[32,125]))++(zTc (ts.length-zEa ts) ([32,119,104,101,114,101,32]++commas ((zpb d ts).drop (zEa ts)))++[59])))))).length≤140737488355328) :
  Calls Tryz.prog 86 #[.pointer (some ⟨g,0,none⟩),.agg #[.int .i64 kk,.string s,.int .i64 nm,.int .i64 p,kv],.func (.func 44) #[] #[.pointer (some ⟨c1,0,none⟩),.pointer (some ⟨c2,0,none⟩)]] w (zMa B g (l++([116,121,112,101,32]++(tb s++([32]++(shw d a++(zTc (zEa ts) ([32,123,32]++(commas ((zpb d ts).take (zEa ts))++[32,125]))++(zTc (ts.length-zEa ts) ([32,119,104,101,114,101,32]++commas ((zpb d ts).drop (zEa ts)))++[59]))))))) d w):=by
 obtain ⟨gb,cap,hkv,hcap,hcm⟩:=h.zup (i:=0) (u:=a) rfl
 have hcap':ts.length+1≤cap:=hcap
 have HKV:=zh (show kv=.slice (some ⟨gb,0,none⟩) (ts.length+1) cap from hkv)
 have HZ:=zh hz
 have HFL:=zh (zEj ts)
 unfold maxLen at hcm
 clear hkv hcap
 have HK:=zh hk
 have HL:=zh hl
 obtain ⟨W0,hW0,HM0⟩:∃ W,w.alloc (.cells [.int .i64 kk,.string s,.int .i64 nm,.int .i64 p,kv].toArray 25)=W∧Hid (Wm w B g c1 c2 w.heap.size _ _ l d W):=⟨_,rfl,zh (Wm.start h)⟩
 have e0_1:W0.cell? ⟨w.heap.size,1,none⟩=some (.string s):=HM0.out.q.cell 1
 have e0_4:W0.cell? ⟨w.heap.size,4,none⟩=some (.slice (some ⟨gb,0,none⟩) (ts.length+1) cap):=by have h:W0.cell? ⟨w.heap.size,4,none⟩=some kv:=HM0.out.q.cell 4;rw [HKV.out] at h;exact h
 clear h hk hl
 go_enter Tryz.func86,Tryz.ntmps86
 go_wp2_with fail
 refine (puts HM0.out.n.st [⟨#[116,121,112,101,32]⟩,s,⟨#[32]⟩] 3 _ _ rfl rfl rfl (by omega) (by have hl:=HL.out;simp [cat,tb] at hl ⊢;omega)).mono ?_
 rintro e w1 ⟨rfl,hs,hb,ho⟩
 have HM1:=zh (HM0.out.step hs hb ho)
 clear hs hb ho
 have e1_1:w1.cell? ⟨w.heap.size,1,none⟩=some (.string s):=HM1.out.q.cell 1
 have e1_4:w1.cell? ⟨w.heap.size,4,none⟩=some (.slice (some ⟨gb,0,none⟩) (ts.length+1) cap):=by have h:w1.cell? ⟨w.heap.size,4,none⟩=some kv:=HM1.out.q.cell 4;rw [HKV.out] at h;exact h
 go_wp2_with fail
 refine (HK.out.get _ 0 _ (by omega) HM1.out.n rfl (by have hl:=HL.out;simp [cat,tb] at hl ⊢;omega)).mono ?_
 rintro e w2 ⟨rfl,hs,hb,ho⟩
 have HM2:=zh (HM1.out.step hs hb ho)
 clear hs hb ho
 have e2_1:w2.cell? ⟨w.heap.size,1,none⟩=some (.string s):=HM2.out.q.cell 1
 have e2_4:w2.cell? ⟨w.heap.size,4,none⟩=some (.slice (some ⟨gb,0,none⟩) (ts.length+1) cap):=by have h:w2.cell? ⟨w.heap.size,4,none⟩=some kv:=HM2.out.q.cell 4;rw [HKV.out] at h;exact h
 go_wp2_with fail
 have HW:=zh HM2
 have hfl:=HFL.out
 go_loopg [6] (zEa ts) (fun gh i wr=>FdRel ts w2 gh i wr)
 case atStart=>exact ⟨0,by omega,by omega,rfl,rfl⟩
 case round =>
  obtain ⟨j,hj,hgj,rfl,rfl⟩:=hrel
  have e4:wr.cell? ⟨w.heap.size,4,none⟩=some (.slice (some ⟨gb,0,none⟩) (ts.length+1) cap):=e2_4
  by_cases hlt:j<zEa ts
  ·obtain ⟨u,hu⟩:∃ u,ts[j]?=some u:=⟨ts[j],List.getElem?_eq_getElem (by omega)⟩
   have huk:=zFj ts j u hlt hu
   obtain ⟨xa,xc,hr⟩:=HW.out.out.n.zEq HKV.out (i:=1+j) (u:=u) (show (a :: ts)[1+j]?=some u from by rw [Nat.add_comm];simpa using hu)
   have ec:=hr 0 _ rfl
   rw [huk] at ec
   have ec2:wr.cell? ⟨gb,(1+j) * 5,none⟩=some (.int .i64 3):=ec
   clear hr ec hu huk
   go_wp2_with fail
   go_roundg (gk-1)
   case measure=>omega
   case rel=>exact ⟨j+1,by omega,by omega,by go_num,rfl⟩
  ·have hjj:j=zEa ts:=by omega
   subst hjj
   have HEC:=zh (show ts.length-zEa ts=0∨(zEa ts<ts.length∧∃ u:T,(u.kind == 3)=false∧wr.cell? ⟨gb,(1+zEa ts) * 5,none⟩=some (.int .i64 u.kind)) from by
    by_cases hr:zEa ts<ts.length
    ·right
     obtain ⟨u,hu⟩:∃ u,ts[zEa ts]?=some u:=⟨ts[zEa ts],List.getElem?_eq_getElem hr⟩
     obtain ⟨xa,xc,hr⟩:=HW.out.out.n.zEq HKV.out (i:=1+zEa ts) (u:=u) (show (a :: ts)[1+zEa ts]?=some u from by rw [Nat.add_comm];simpa using hu)
     exact ⟨by omega,u,beq_eq_false_iff_ne.2 (zTi ts u hu),hr 0 _ rfl⟩
    ·left;omega)
   have HX1:=zh (show (zpb d ts).take (zEa ts)=((zpb d (T.mk kk s nm p (a :: ts)).kids).drop 1).take (1+zEa ts-1) from by
    show (zpb d ts).take (zEa ts)=((zpb d (a :: ts)).drop 1).take (1+zEa ts-1)
    rw [zPa,List.drop_one,List.tail_cons,Nat.add_sub_cancel_left])
   have HX2:=zh (show (zpb d ts).drop (zEa ts)=((zpb d (T.mk kk s nm p (a :: ts)).kids).drop (1+zEa ts)).take (ts.length+1-(1+zEa ts)) from by
    show (zpb d ts).drop (zEa ts)=((zpb d (a :: ts)).drop (1+zEa ts)).take (ts.length+1-(1+zEa ts))
    rw [zPa,Nat.add_comm 1,List.drop_succ_cons,List.take_of_length_le (by rw [List.length_drop,zEc];omega)])
   have HF:=zh (Nat.eq_zero_or_pos (zEa ts))
   have HG:=zh (Nat.eq_zero_or_pos (ts.length-zEa ts))
   clear hj hgj hlt
   rcases HF.out with hf|hf
   ·have HF0:=zh hf
    rcases HEC.out with hend|⟨hlt,u,hku,ecu⟩
    ·have HR0:=zh hend
     have HL2:=zh (show l.length+(tb s).length+(shw d a).length+7≤140737488355328 from by have hl:=HL.out;rw [zSe HF0.out,zSe HR0.out] at hl;simp only [List.length_append,List.length_cons,List.length_nil] at hl;omega)
     have hf1:¬ ((1:Int)<1+(zEa ts:Int)):=by omega
     clear hf
     have hg1:¬ (1+(zEa ts:Int)<(ts.length:Int)+1):=by omega
     go_wp2_with fail
     refine (puts HM2.out.n.st [⟨#[59]⟩] 1 _ _ rfl rfl rfl (by omega) (by have hl:=HL2.out;simp only [zqk,zrl,ztf,List.length_append,List.length_cons,List.length_nil] at hl ⊢;omega)).mono ?_
     rintro e w3 ⟨rfl,hs,hb,ho⟩
     have HM3:=zh (HM2.out.step hs hb ho)
     clear hs hb ho
     have e3_1:w3.cell? ⟨w.heap.size,1,none⟩=some (.string s):=HM3.out.q.cell 1
     have e3_4:w3.cell? ⟨w.heap.size,4,none⟩=some (.slice (some ⟨gb,0,none⟩) (ts.length+1) cap):=by have h:w3.cell? ⟨w.heap.size,4,none⟩=some kv:=HM3.out.q.cell 4;rw [HKV.out] at h;exact h
     go_wp2_with fail
     go_end0
     have h:=HM3.out.post
     rw [zSe HF0.out,zSe HR0.out]
     simpa [cat,tb] using h
    ·have HR1:=zh (show ¬ ts.length-zEa ts=0 from by omega)
     have HL2:=zh (show l.length+(tb s).length+(shw d a).length+7+(commas ((zpb d ts).drop (zEa ts))).length+7≤140737488355328 from by have hl:=HL.out;rw [zSe HF0.out,zwc HR1.out] at hl;simp only [List.length_append,List.length_cons,List.length_nil] at hl;omega)
     have hf1:¬ ((1:Int)<1+(zEa ts:Int)):=by omega
     clear hf
     have hg1:1+(zEa ts:Int)<(ts.length:Int)+1:=by omega
     go_wp2_with fail
     refine (puts HM2.out.n.st [⟨#[32,119,104,101,114,101,32]⟩] 1 _ _ rfl rfl rfl (by omega) (by have hl:=HL2.out;simp only [zqk,zrl,ztf,List.length_append,List.length_cons,List.length_nil] at hl ⊢;omega)).mono ?_
     rintro e w3 ⟨rfl,hs,hb,ho⟩
     have HM3:=zh (HM2.out.step hs hb ho)
     clear hs hb ho
     have e3_1:w3.cell? ⟨w.heap.size,1,none⟩=some (.string s):=HM3.out.q.cell 1
     have e3_4:w3.cell? ⟨w.heap.size,4,none⟩=some (.slice (some ⟨gb,0,none⟩) (ts.length+1) cap):=by have h:w3.cell? ⟨w.heap.size,4,none⟩=some kv:=HM3.out.q.cell 4;rw [HKV.out] at h;exact h
     go_wp2_with fail
     refine (lists HM3.out.n HK.out (1+zEa ts) (ts.length+1) _ _ (by omega) (by omega) (by omega) (Nat.le_refl _) (by have:=HZ.out;omega) _ HX2.out (by have hl:=HL2.out;simp only [zqk,zrl,ztf,List.length_append,List.length_cons,List.length_nil] at hl ⊢;omega)).mono ?_
     rintro e w4 ⟨rfl,hs,hb,ho⟩
     have HM4:=zh (HM3.out.step hs hb ho)
     clear hs hb ho
     have e4_1:w4.cell? ⟨w.heap.size,1,none⟩=some (.string s):=HM4.out.q.cell 1
     have e4_4:w4.cell? ⟨w.heap.size,4,none⟩=some (.slice (some ⟨gb,0,none⟩) (ts.length+1) cap):=by have h:w4.cell? ⟨w.heap.size,4,none⟩=some kv:=HM4.out.q.cell 4;rw [HKV.out] at h;exact h
     go_wp2_with fail
     refine (puts HM4.out.n.st [⟨#[59]⟩] 1 _ _ rfl rfl rfl (by omega) (by have hl:=HL2.out;simp only [zqk,zrl,ztf,List.length_append,List.length_cons,List.length_nil] at hl ⊢;omega)).mono ?_
     rintro e w5 ⟨rfl,hs,hb,ho⟩
     have HM5:=zh (HM4.out.step hs hb ho)
     clear hs hb ho
     have e5_1:w5.cell? ⟨w.heap.size,1,none⟩=some (.string s):=HM5.out.q.cell 1
     have e5_4:w5.cell? ⟨w.heap.size,4,none⟩=some (.slice (some ⟨gb,0,none⟩) (ts.length+1) cap):=by have h:w5.cell? ⟨w.heap.size,4,none⟩=some kv:=HM5.out.q.cell 4;rw [HKV.out] at h;exact h
     go_wp2_with fail
     go_end0
     have h:=HM5.out.post
     rw [zSe HF0.out,zwc HR1.out]
     simpa [cat,tb] using h
   ·have HF1:=zh (show ¬ zEa ts=0 from by omega)
    rcases HEC.out with hend|⟨hlt,u,hku,ecu⟩
    ·have HR0:=zh hend
     have HL2:=zh (show l.length+(tb s).length+(shw d a).length+7+(commas ((zpb d ts).take (zEa ts))).length+5≤140737488355328 from by have hl:=HL.out;rw [zwc HF1.out,zSe HR0.out] at hl;simp only [List.length_append,List.length_cons,List.length_nil] at hl;omega)
     have hf1:(1:Int)<1+(zEa ts:Int):=by omega
     have hg1:¬ (1+(zEa ts:Int)<(ts.length:Int)+1):=by omega
     go_wp2_with fail
     refine (puts HM2.out.n.st [⟨#[32,123,32]⟩] 1 _ _ rfl rfl rfl (by omega) (by have hl:=HL2.out;simp only [zqk,zrl,ztf,List.length_append,List.length_cons,List.length_nil] at hl ⊢;omega)).mono ?_
     rintro e w3 ⟨rfl,hs,hb,ho⟩
     have HM3:=zh (HM2.out.step hs hb ho)
     clear hs hb ho
     have e3_1:w3.cell? ⟨w.heap.size,1,none⟩=some (.string s):=HM3.out.q.cell 1
     have e3_4:w3.cell? ⟨w.heap.size,4,none⟩=some (.slice (some ⟨gb,0,none⟩) (ts.length+1) cap):=by have h:w3.cell? ⟨w.heap.size,4,none⟩=some kv:=HM3.out.q.cell 4;rw [HKV.out] at h;exact h
     go_wp2_with fail
     refine (lists HM3.out.n HK.out 1 (1+zEa ts) _ _ (by omega) (by omega) (by omega) (by show 1+zEa ts≤ts.length+1;omega) (by have:=HZ.out;omega) _ HX1.out (by have hl:=HL2.out;simp only [zqk,zrl,ztf,List.length_append,List.length_cons,List.length_nil] at hl ⊢;omega)).mono ?_
     rintro e w4 ⟨rfl,hs,hb,ho⟩
     have HM4:=zh (HM3.out.step hs hb ho)
     clear hs hb ho
     have e4_1:w4.cell? ⟨w.heap.size,1,none⟩=some (.string s):=HM4.out.q.cell 1
     have e4_4:w4.cell? ⟨w.heap.size,4,none⟩=some (.slice (some ⟨gb,0,none⟩) (ts.length+1) cap):=by have h:w4.cell? ⟨w.heap.size,4,none⟩=some kv:=HM4.out.q.cell 4;rw [HKV.out] at h;exact h
     go_wp2_with fail
     refine (puts HM4.out.n.st [⟨#[32,125]⟩] 1 _ _ rfl rfl rfl (by omega) (by have hl:=HL2.out;simp only [zqk,zrl,ztf,List.length_append,List.length_cons,List.length_nil] at hl ⊢;omega)).mono ?_
     rintro e w5 ⟨rfl,hs,hb,ho⟩
     have HM5:=zh (HM4.out.step hs hb ho)
     clear hs hb ho
     have e5_1:w5.cell? ⟨w.heap.size,1,none⟩=some (.string s):=HM5.out.q.cell 1
     have e5_4:w5.cell? ⟨w.heap.size,4,none⟩=some (.slice (some ⟨gb,0,none⟩) (ts.length+1) cap):=by have h:w5.cell? ⟨w.heap.size,4,none⟩=some kv:=HM5.out.q.cell 4;rw [HKV.out] at h;exact h
     go_wp2_with fail
     refine (puts HM5.out.n.st [⟨#[59]⟩] 1 _ _ rfl rfl rfl (by omega) (by have hl:=HL2.out;simp only [zqk,zrl,ztf,List.length_append,List.length_cons,List.length_nil] at hl ⊢;omega)).mono ?_
     rintro e w6 ⟨rfl,hs,hb,ho⟩
     have HM6:=zh (HM5.out.step hs hb ho)
     clear hs hb ho
     have e6_1:w6.cell? ⟨w.heap.size,1,none⟩=some (.string s):=HM6.out.q.cell 1
     have e6_4:w6.cell? ⟨w.heap.size,4,none⟩=some (.slice (some ⟨gb,0,none⟩) (ts.length+1) cap):=by have h:w6.cell? ⟨w.heap.size,4,none⟩=some kv:=HM6.out.q.cell 4;rw [HKV.out] at h;exact h
     go_wp2_with fail
     go_end0
     have h:=HM6.out.post
     rw [zwc HF1.out,zSe HR0.out]
     simpa [cat,tb] using h
    ·have HR1:=zh (show ¬ ts.length-zEa ts=0 from by omega)
     have HL2:=zh (show l.length+(tb s).length+(shw d a).length+7+(commas ((zpb d ts).take (zEa ts))).length+5+(commas ((zpb d ts).drop (zEa ts))).length+7≤140737488355328 from by have hl:=HL.out;rw [zwc HF1.out,zwc HR1.out] at hl;simp only [List.length_append,List.length_cons,List.length_nil] at hl;omega)
     have hf1:(1:Int)<1+(zEa ts:Int):=by omega
     have hg1:1+(zEa ts:Int)<(ts.length:Int)+1:=by omega
     go_wp2_with fail
     refine (puts HM2.out.n.st [⟨#[32,123,32]⟩] 1 _ _ rfl rfl rfl (by omega) (by have hl:=HL2.out;simp only [zqk,zrl,ztf,List.length_append,List.length_cons,List.length_nil] at hl ⊢;omega)).mono ?_
     rintro e w3 ⟨rfl,hs,hb,ho⟩
     have HM3:=zh (HM2.out.step hs hb ho)
     clear hs hb ho
     have e3_1:w3.cell? ⟨w.heap.size,1,none⟩=some (.string s):=HM3.out.q.cell 1
     have e3_4:w3.cell? ⟨w.heap.size,4,none⟩=some (.slice (some ⟨gb,0,none⟩) (ts.length+1) cap):=by have h:w3.cell? ⟨w.heap.size,4,none⟩=some kv:=HM3.out.q.cell 4;rw [HKV.out] at h;exact h
     go_wp2_with fail
     refine (lists HM3.out.n HK.out 1 (1+zEa ts) _ _ (by omega) (by omega) (by omega) (by show 1+zEa ts≤ts.length+1;omega) (by have:=HZ.out;omega) _ HX1.out (by have hl:=HL2.out;simp only [zqk,zrl,ztf,List.length_append,List.length_cons,List.length_nil] at hl ⊢;omega)).mono ?_
     rintro e w4 ⟨rfl,hs,hb,ho⟩
     have HM4:=zh (HM3.out.step hs hb ho)
     clear hs hb ho
     have e4_1:w4.cell? ⟨w.heap.size,1,none⟩=some (.string s):=HM4.out.q.cell 1
     have e4_4:w4.cell? ⟨w.heap.size,4,none⟩=some (.slice (some ⟨gb,0,none⟩) (ts.length+1) cap):=by have h:w4.cell? ⟨w.heap.size,4,none⟩=some kv:=HM4.out.q.cell 4;rw [HKV.out] at h;exact h
     go_wp2_with fail
     refine (puts HM4.out.n.st [⟨#[32,125]⟩] 1 _ _ rfl rfl rfl (by omega) (by have hl:=HL2.out;simp only [zqk,zrl,ztf,List.length_append,List.length_cons,List.length_nil] at hl ⊢;omega)).mono ?_
     rintro e w5 ⟨rfl,hs,hb,ho⟩
     have HM5:=zh (HM4.out.step hs hb ho)
     clear hs hb ho
     have e5_1:w5.cell? ⟨w.heap.size,1,none⟩=some (.string s):=HM5.out.q.cell 1
     have e5_4:w5.cell? ⟨w.heap.size,4,none⟩=some (.slice (some ⟨gb,0,none⟩) (ts.length+1) cap):=by have h:w5.cell? ⟨w.heap.size,4,none⟩=some kv:=HM5.out.q.cell 4;rw [HKV.out] at h;exact h
     go_wp2_with fail
     refine (puts HM5.out.n.st [⟨#[32,119,104,101,114,101,32]⟩] 1 _ _ rfl rfl rfl (by omega) (by have hl:=HL2.out;simp only [zqk,zrl,ztf,List.length_append,List.length_cons,List.length_nil] at hl ⊢;omega)).mono ?_
     rintro e w6 ⟨rfl,hs,hb,ho⟩
     have HM6:=zh (HM5.out.step hs hb ho)
     clear hs hb ho
     have e6_1:w6.cell? ⟨w.heap.size,1,none⟩=some (.string s):=HM6.out.q.cell 1
     have e6_4:w6.cell? ⟨w.heap.size,4,none⟩=some (.slice (some ⟨gb,0,none⟩) (ts.length+1) cap):=by have h:w6.cell? ⟨w.heap.size,4,none⟩=some kv:=HM6.out.q.cell 4;rw [HKV.out] at h;exact h
     go_wp2_with fail
     refine (lists HM6.out.n HK.out (1+zEa ts) (ts.length+1) _ _ (by omega) (by omega) (by omega) (Nat.le_refl _) (by have:=HZ.out;omega) _ HX2.out (by have hl:=HL2.out;simp only [zqk,zrl,ztf,List.length_append,List.length_cons,List.length_nil] at hl ⊢;omega)).mono ?_
     rintro e w7 ⟨rfl,hs,hb,ho⟩
     have HM7:=zh (HM6.out.step hs hb ho)
     clear hs hb ho
     have e7_1:w7.cell? ⟨w.heap.size,1,none⟩=some (.string s):=HM7.out.q.cell 1
     have e7_4:w7.cell? ⟨w.heap.size,4,none⟩=some (.slice (some ⟨gb,0,none⟩) (ts.length+1) cap):=by have h:w7.cell? ⟨w.heap.size,4,none⟩=some kv:=HM7.out.q.cell 4;rw [HKV.out] at h;exact h
     go_wp2_with fail
     refine (puts HM7.out.n.st [⟨#[59]⟩] 1 _ _ rfl rfl rfl (by omega) (by have hl:=HL2.out;simp only [zqk,zrl,ztf,List.length_append,List.length_cons,List.length_nil] at hl ⊢;omega)).mono ?_
     rintro e w8 ⟨rfl,hs,hb,ho⟩
     have HM8:=zh (HM7.out.step hs hb ho)
     clear hs hb ho
     have e8_1:w8.cell? ⟨w.heap.size,1,none⟩=some (.string s):=HM8.out.q.cell 1
     have e8_4:w8.cell? ⟨w.heap.size,4,none⟩=some (.slice (some ⟨gb,0,none⟩) (ts.length+1) cap):=by have h:w8.cell? ⟨w.heap.size,4,none⟩=some kv:=HM8.out.q.cell 4;rw [HKV.out] at h;exact h
     go_wp2_with fail
     go_end0
     have h:=HM8.out.post
     rw [zwc HF1.out,zwc HR1.out]
     simpa [cat,tb] using h
end Go.Proofs.YtbfgdpcgdmabpaaGreatDoor
