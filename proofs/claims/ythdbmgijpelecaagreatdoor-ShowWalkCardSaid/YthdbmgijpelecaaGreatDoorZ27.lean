/- The contract of the writer's typeNode. -/
import Derived.Test.YthdbmgijpelecaaGreatDoorZ26
import Derived.Test.YthdbmgijpelecaaGreatDoorZ25
namespace Go.Proofs.YthdbmgijpelecaaGreatDoor
set_option maxRecDepth 100000
set_option maxHeartbeats 2000000
open Go.RowKit
def FdRel (ts:List T) (w0:World) (gh:Nat) (i:Value) (wr:World):Prop:=∃ j:Nat,j≤zha ts∧zha ts≤j+gh∧i=.int .i64 ((1+j:Nat):Int)∧wr=w0
theorem zXh:∀ ts:List T,zha ts≤ts.length
 | []=>Nat.le_refl _
 | t :: ts=>by
  have:=zXh ts
  unfold zha
  split
  ·simp only [List.length_cons];omega
  ·omega
theorem zei:∀ (ts:List T) (j:Nat) (u:T),j<zha ts→ts[j]?=some u→u.kind=3
 | [],j,u,h,_=>by simp [zha] at h
 | t :: ts,j,u,h,hu=>by
  unfold zha at h
  split at h
  ·rename_i hk
   cases j with
   | zero=>simp only [List.getElem?_cons_zero,Option.some.injEq] at hu;rw [← hu];exact hk
   | succ j=>exact zei ts j u (by omega) (by simpa using hu)
  ·omega
theorem zyh:∀ (ts:List T) (u:T),ts[zha ts]?=some u→¬ u.kind=3
 | [],u,h=>by simp [zha] at h
 | t :: ts,u,h=>by
  unfold zha at h
  split at h
  ·exact zyh ts u (by simpa using h)
  ·rename_i hk
   simp only [List.getElem?_cons_zero,Option.some.injEq] at h
   rw [← h];exact hk
theorem zKd {n:Nat} (h:n=0) (x:List UInt8):zRb n x=[]:=if_pos h
theorem zTp {B g c1 c2:Nat} {kk:Int} {s:ByteArray} {nm:Int} {p:Nat} {kv:Value} {l:List UInt8} {d:Nat} {w:World} {a:T} {ts:List T} (h:Wn B g c1 c2 (T.mk kk s nm p (a :: ts)) kv l d w) (hk:zfb B g c1 c2 (T.mk kk s nm p (a :: ts)) kv) (hz:ts.length≤100000) (hl:l.length+([116,121,112,101,32]++(tb s++([32]++(shw d a++(zRb (zha ts) ([32,123,32]++(commas ((zQa d ts).take (zha ts))++[32,125]))++(zRb (ts.length-zha ts) ([32,119,104,101,114,101,32]++commas ((zQa d ts).drop (zha ts)))++[59])))))).length≤140737488355328) :
  Calls Tryz.prog 102 #[.pointer (some ⟨g,0,none⟩),.agg #[.int .i64 kk,.string s,.int .i64 nm,.int .i64 p,kv],.func (.func 57) #[] #[.pointer (some ⟨c1,0,none⟩),.pointer (some ⟨c2,0,none⟩)]] w (zka B g (l++([116,121,112,101,32]++(tb s++([32]++(shw d a++(zRb (zha ts) ([32,123,32]++(commas ((zQa d ts).take (zha ts))++[32,125]))++(zRb (ts.length-zha ts) ([32,119,104,101,114,101,32]++commas ((zQa d ts).drop (zha ts)))++[59]))))))) d w):=by
 obtain ⟨gb,cap,hkv,hcap,hcm⟩:=h.zzm (i:=0) (u:=a) rfl
 have hcap':ts.length+1≤cap:=hcap
 have HKV:=zh (show kv=.slice (some ⟨gb,0,none⟩) (ts.length+1) cap from hkv)
 have HZ:=zh hz
 have HFL:=zh (zXh ts)
 unfold maxLen at hcm
 clear hkv hcap
 have HK:=zh hk
 have HL:=zh hl
 obtain ⟨W0,hW0,HM0⟩:∃ W,w.alloc (.cells [.int .i64 kk,.string s,.int .i64 nm,.int .i64 p,kv].toArray 25)=W∧Hid (Wm w B g c1 c2 w.heap.size _ _ l d W):=⟨_,rfl,zh (Wm.start h)⟩
 have e0_1:W0.cell? ⟨w.heap.size,1,none⟩=some (.string s):=HM0.out.q.cell 1
 have e0_4:W0.cell? ⟨w.heap.size,4,none⟩=some (.slice (some ⟨gb,0,none⟩) (ts.length+1) cap):=by have h:W0.cell? ⟨w.heap.size,4,none⟩=some kv:=HM0.out.q.cell 4;rw [HKV.out] at h;exact h
 clear h hk hl
 go_enter Tryz.func102,Tryz.ntmps102
 go_wp2_with fail
 refine (puts HM0.out.n.st [⟨#[116,121,112,101,32]⟩,s,⟨#[32]⟩] 3 _ _ rfl rfl rfl (by omega) (by have hl:=HL.out;simp [cat,tb] at hl ⊢;omega)).mono ?_
 rintro e w1 ⟨rfl,hs,hb,ho⟩
 have HM1:=zh (HM0.out.step hs hb ho)
 clear hs hb ho
 have e1_1:w1.cell? ⟨w.heap.size,1,none⟩=some (.string s):=HM1.out.q.cell 1
 have e1_4:w1.cell? ⟨w.heap.size,4,none⟩=some (.slice (some ⟨gb,0,none⟩) (ts.length+1) cap):=by have h:w1.cell? ⟨w.heap.size,4,none⟩=some kv:=HM1.out.q.cell 4;rw [HKV.out] at h;exact h
 go_wp2_with fail
 refine (HK.out.get _ 0 _ (by omega) HM1.out.n rfl (by have hl:=HL.out;simp [cat,tb] at hl ⊢;omega)).mono ?_
 rintro e w2 ⟨rfl,hs,hb,ho⟩
 have HM2:=zh (HM1.out.step hs hb ho)
 clear hs hb ho
 have e2_1:w2.cell? ⟨w.heap.size,1,none⟩=some (.string s):=HM2.out.q.cell 1
 have e2_4:w2.cell? ⟨w.heap.size,4,none⟩=some (.slice (some ⟨gb,0,none⟩) (ts.length+1) cap):=by have h:w2.cell? ⟨w.heap.size,4,none⟩=some kv:=HM2.out.q.cell 4;rw [HKV.out] at h;exact h
 go_wp2_with fail
 have HW:=zh HM2
 have hfl:=HFL.out
 go_loopg [6] (zha ts) (fun gh i wr=>FdRel ts w2 gh i wr)
 case atStart=>exact ⟨0,by omega,by omega,rfl,rfl⟩
 case round =>
  obtain ⟨j,hj,hgj,rfl,rfl⟩:=hrel
  have e4:wr.cell? ⟨w.heap.size,4,none⟩=some (.slice (some ⟨gb,0,none⟩) (ts.length+1) cap):=e2_4
  by_cases hlt:j<zha ts
  ·obtain ⟨u,hu⟩:∃ u,ts[j]?=some u:=⟨ts[j],List.getElem?_eq_getElem (by omega)⟩
   have huk:=zei ts j u hlt hu
   obtain ⟨xa,xc,hr⟩:=HW.out.out.n.zxn HKV.out (i:=1+j) (u:=u) (show (a :: ts)[1+j]?=some u from by rw [Nat.add_comm];simpa using hu)
   have ec:=hr 0 _ rfl
   rw [huk] at ec
   have ec2:wr.cell? ⟨gb,(1+j) * 5,none⟩=some (.int .i64 3):=ec
   clear hr ec hu huk
   go_wp2_with fail
   go_roundg (gk-1)
   case measure=>omega
   case rel=>exact ⟨j+1,by omega,by omega,by go_num,rfl⟩
  ·have hjj:j=zha ts:=by omega
   subst hjj
   have HEC:=zh (show ts.length-zha ts=0∨(zha ts<ts.length∧∃ u:T,(u.kind == 3)=false∧wr.cell? ⟨gb,(1+zha ts) * 5,none⟩=some (.int .i64 u.kind)) from by
    by_cases hr:zha ts<ts.length
    ·right
     obtain ⟨u,hu⟩:∃ u,ts[zha ts]?=some u:=⟨ts[zha ts],List.getElem?_eq_getElem hr⟩
     obtain ⟨xa,xc,hr⟩:=HW.out.out.n.zxn HKV.out (i:=1+zha ts) (u:=u) (show (a :: ts)[1+zha ts]?=some u from by rw [Nat.add_comm];simpa using hu)
     exact ⟨by omega,u,beq_eq_false_iff_ne.2 (zyh ts u hu),hr 0 _ rfl⟩
    ·left;omega)
   have HX1:=zh (show (zQa d ts).take (zha ts)=((zQa d (T.mk kk s nm p (a :: ts)).kids).drop 1).take (1+zha ts-1) from by
    show (zQa d ts).take (zha ts)=((zQa d (a :: ts)).drop 1).take (1+zha ts-1)
    rw [zya,List.drop_one,List.tail_cons,Nat.add_sub_cancel_left])
   have HX2:=zh (show (zQa d ts).drop (zha ts)=((zQa d (T.mk kk s nm p (a :: ts)).kids).drop (1+zha ts)).take (ts.length+1-(1+zha ts)) from by
    show (zQa d ts).drop (zha ts)=((zQa d (a :: ts)).drop (1+zha ts)).take (ts.length+1-(1+zha ts))
    rw [zya,Nat.add_comm 1,List.drop_succ_cons,List.take_of_length_le (by rw [List.length_drop,zac];omega)])
   have HF:=zh (Nat.eq_zero_or_pos (zha ts))
   have HG:=zh (Nat.eq_zero_or_pos (ts.length-zha ts))
   clear hj hgj hlt
   rcases HF.out with hf|hf
   ·have HF0:=zh hf
    rcases HEC.out with hend|⟨hlt,u,hku,ecu⟩
    ·have HR0:=zh hend
     have HL2:=zh (show l.length+(tb s).length+(shw d a).length+7≤140737488355328 from by have hl:=HL.out;rw [zKd HF0.out,zKd HR0.out] at hl;simp only [List.length_append,List.length_cons,List.length_nil] at hl;omega)
     have hf1:¬ ((1:Int)<1+(zha ts:Int)):=by omega
     clear hf
     have hg1:¬ (1+(zha ts:Int)<(ts.length:Int)+1):=by omega
     go_wp2_with fail
     refine (puts HM2.out.n.st [⟨#[59]⟩] 1 _ _ rfl rfl rfl (by omega) (by have hl:=HL2.out;simp only [zii,zvj,zZd,List.length_append,List.length_cons,List.length_nil] at hl ⊢;omega)).mono ?_
     rintro e w3 ⟨rfl,hs,hb,ho⟩
     have HM3:=zh (HM2.out.step hs hb ho)
     clear hs hb ho
     have e3_1:w3.cell? ⟨w.heap.size,1,none⟩=some (.string s):=HM3.out.q.cell 1
     have e3_4:w3.cell? ⟨w.heap.size,4,none⟩=some (.slice (some ⟨gb,0,none⟩) (ts.length+1) cap):=by have h:w3.cell? ⟨w.heap.size,4,none⟩=some kv:=HM3.out.q.cell 4;rw [HKV.out] at h;exact h
     go_wp2_with fail
     go_end0
     have h:=HM3.out.post
     rw [zKd HF0.out,zKd HR0.out]
     simpa [cat,tb] using h
    ·have HR1:=zh (show ¬ ts.length-zha ts=0 from by omega)
     have HL2:=zh (show l.length+(tb s).length+(shw d a).length+7+(commas ((zQa d ts).drop (zha ts))).length+7≤140737488355328 from by have hl:=HL.out;rw [zKd HF0.out,zAb HR1.out] at hl;simp only [List.length_append,List.length_cons,List.length_nil] at hl;omega)
     have hf1:¬ ((1:Int)<1+(zha ts:Int)):=by omega
     clear hf
     have hg1:1+(zha ts:Int)<(ts.length:Int)+1:=by omega
     go_wp2_with fail
     refine (puts HM2.out.n.st [⟨#[32,119,104,101,114,101,32]⟩] 1 _ _ rfl rfl rfl (by omega) (by have hl:=HL2.out;simp only [zii,zvj,zZd,List.length_append,List.length_cons,List.length_nil] at hl ⊢;omega)).mono ?_
     rintro e w3 ⟨rfl,hs,hb,ho⟩
     have HM3:=zh (HM2.out.step hs hb ho)
     clear hs hb ho
     have e3_1:w3.cell? ⟨w.heap.size,1,none⟩=some (.string s):=HM3.out.q.cell 1
     have e3_4:w3.cell? ⟨w.heap.size,4,none⟩=some (.slice (some ⟨gb,0,none⟩) (ts.length+1) cap):=by have h:w3.cell? ⟨w.heap.size,4,none⟩=some kv:=HM3.out.q.cell 4;rw [HKV.out] at h;exact h
     go_wp2_with fail
     refine (lists HM3.out.n HK.out (1+zha ts) (ts.length+1) _ _ (by omega) (by omega) (by omega) (Nat.le_refl _) (by have:=HZ.out;omega) _ HX2.out (by have hl:=HL2.out;simp only [zii,zvj,zZd,List.length_append,List.length_cons,List.length_nil] at hl ⊢;omega)).mono ?_
     rintro e w4 ⟨rfl,hs,hb,ho⟩
     have HM4:=zh (HM3.out.step hs hb ho)
     clear hs hb ho
     have e4_1:w4.cell? ⟨w.heap.size,1,none⟩=some (.string s):=HM4.out.q.cell 1
     have e4_4:w4.cell? ⟨w.heap.size,4,none⟩=some (.slice (some ⟨gb,0,none⟩) (ts.length+1) cap):=by have h:w4.cell? ⟨w.heap.size,4,none⟩=some kv:=HM4.out.q.cell 4;rw [HKV.out] at h;exact h
     go_wp2_with fail
     refine (puts HM4.out.n.st [⟨#[59]⟩] 1 _ _ rfl rfl rfl (by omega) (by have hl:=HL2.out;simp only [zii,zvj,zZd,List.length_append,List.length_cons,List.length_nil] at hl ⊢;omega)).mono ?_
     rintro e w5 ⟨rfl,hs,hb,ho⟩
     have HM5:=zh (HM4.out.step hs hb ho)
     clear hs hb ho
     have e5_1:w5.cell? ⟨w.heap.size,1,none⟩=some (.string s):=HM5.out.q.cell 1
     have e5_4:w5.cell? ⟨w.heap.size,4,none⟩=some (.slice (some ⟨gb,0,none⟩) (ts.length+1) cap):=by have h:w5.cell? ⟨w.heap.size,4,none⟩=some kv:=HM5.out.q.cell 4;rw [HKV.out] at h;exact h
     go_wp2_with fail
     go_end0
     have h:=HM5.out.post
     rw [zKd HF0.out,zAb HR1.out]
     simpa [cat,tb] using h
   ·have HF1:=zh (show ¬ zha ts=0 from by omega)
    rcases HEC.out with hend|⟨hlt,u,hku,ecu⟩
    ·have HR0:=zh hend
     have HL2:=zh (show l.length+(tb s).length+(shw d a).length+7+(commas ((zQa d ts).take (zha ts))).length+5≤140737488355328 from by have hl:=HL.out;rw [zAb HF1.out,zKd HR0.out] at hl;simp only [List.length_append,List.length_cons,List.length_nil] at hl;omega)
     have hf1:(1:Int)<1+(zha ts:Int):=by omega
     have hg1:¬ (1+(zha ts:Int)<(ts.length:Int)+1):=by omega
     go_wp2_with fail
     refine (puts HM2.out.n.st [⟨#[32,123,32]⟩] 1 _ _ rfl rfl rfl (by omega) (by have hl:=HL2.out;simp only [zii,zvj,zZd,List.length_append,List.length_cons,List.length_nil] at hl ⊢;omega)).mono ?_
     rintro e w3 ⟨rfl,hs,hb,ho⟩
     have HM3:=zh (HM2.out.step hs hb ho)
     clear hs hb ho
     have e3_1:w3.cell? ⟨w.heap.size,1,none⟩=some (.string s):=HM3.out.q.cell 1
     have e3_4:w3.cell? ⟨w.heap.size,4,none⟩=some (.slice (some ⟨gb,0,none⟩) (ts.length+1) cap):=by have h:w3.cell? ⟨w.heap.size,4,none⟩=some kv:=HM3.out.q.cell 4;rw [HKV.out] at h;exact h
     go_wp2_with fail
     refine (lists HM3.out.n HK.out 1 (1+zha ts) _ _ (by omega) (by omega) (by omega) (by show 1+zha ts≤ts.length+1;omega) (by have:=HZ.out;omega) _ HX1.out (by have hl:=HL2.out;simp only [zii,zvj,zZd,List.length_append,List.length_cons,List.length_nil] at hl ⊢;omega)).mono ?_
     rintro e w4 ⟨rfl,hs,hb,ho⟩
     have HM4:=zh (HM3.out.step hs hb ho)
     clear hs hb ho
     have e4_1:w4.cell? ⟨w.heap.size,1,none⟩=some (.string s):=HM4.out.q.cell 1
     have e4_4:w4.cell? ⟨w.heap.size,4,none⟩=some (.slice (some ⟨gb,0,none⟩) (ts.length+1) cap):=by have h:w4.cell? ⟨w.heap.size,4,none⟩=some kv:=HM4.out.q.cell 4;rw [HKV.out] at h;exact h
     go_wp2_with fail
     refine (puts HM4.out.n.st [⟨#[32,125]⟩] 1 _ _ rfl rfl rfl (by omega) (by have hl:=HL2.out;simp only [zii,zvj,zZd,List.length_append,List.length_cons,List.length_nil] at hl ⊢;omega)).mono ?_
     rintro e w5 ⟨rfl,hs,hb,ho⟩
     have HM5:=zh (HM4.out.step hs hb ho)
     clear hs hb ho
     have e5_1:w5.cell? ⟨w.heap.size,1,none⟩=some (.string s):=HM5.out.q.cell 1
     have e5_4:w5.cell? ⟨w.heap.size,4,none⟩=some (.slice (some ⟨gb,0,none⟩) (ts.length+1) cap):=by have h:w5.cell? ⟨w.heap.size,4,none⟩=some kv:=HM5.out.q.cell 4;rw [HKV.out] at h;exact h
     go_wp2_with fail
     refine (puts HM5.out.n.st [⟨#[59]⟩] 1 _ _ rfl rfl rfl (by omega) (by have hl:=HL2.out;simp only [zii,zvj,zZd,List.length_append,List.length_cons,List.length_nil] at hl ⊢;omega)).mono ?_
     rintro e w6 ⟨rfl,hs,hb,ho⟩
     have HM6:=zh (HM5.out.step hs hb ho)
     clear hs hb ho
     have e6_1:w6.cell? ⟨w.heap.size,1,none⟩=some (.string s):=HM6.out.q.cell 1
     have e6_4:w6.cell? ⟨w.heap.size,4,none⟩=some (.slice (some ⟨gb,0,none⟩) (ts.length+1) cap):=by have h:w6.cell? ⟨w.heap.size,4,none⟩=some kv:=HM6.out.q.cell 4;rw [HKV.out] at h;exact h
     go_wp2_with fail
     go_end0
     have h:=HM6.out.post
     rw [zAb HF1.out,zKd HR0.out]
     simpa [cat,tb] using h
    ·have HR1:=zh (show ¬ ts.length-zha ts=0 from by omega)
     have HL2:=zh (show l.length+(tb s).length+(shw d a).length+7+(commas ((zQa d ts).take (zha ts))).length+5+(commas ((zQa d ts).drop (zha ts))).length+7≤140737488355328 from by have hl:=HL.out;rw [zAb HF1.out,zAb HR1.out] at hl;simp only [List.length_append,List.length_cons,List.length_nil] at hl;omega)
     have hf1:(1:Int)<1+(zha ts:Int):=by omega
     have hg1:1+(zha ts:Int)<(ts.length:Int)+1:=by omega
     go_wp2_with fail
     refine (puts HM2.out.n.st [⟨#[32,123,32]⟩] 1 _ _ rfl rfl rfl (by omega) (by have hl:=HL2.out;simp only [zii,zvj,zZd,List.length_append,List.length_cons,List.length_nil] at hl ⊢;omega)).mono ?_
     rintro e w3 ⟨rfl,hs,hb,ho⟩
     have HM3:=zh (HM2.out.step hs hb ho)
     clear hs hb ho
     have e3_1:w3.cell? ⟨w.heap.size,1,none⟩=some (.string s):=HM3.out.q.cell 1
     have e3_4:w3.cell? ⟨w.heap.size,4,none⟩=some (.slice (some ⟨gb,0,none⟩) (ts.length+1) cap):=by have h:w3.cell? ⟨w.heap.size,4,none⟩=some kv:=HM3.out.q.cell 4;rw [HKV.out] at h;exact h
     go_wp2_with fail
     refine (lists HM3.out.n HK.out 1 (1+zha ts) _ _ (by omega) (by omega) (by omega) (by show 1+zha ts≤ts.length+1;omega) (by have:=HZ.out;omega) _ HX1.out (by have hl:=HL2.out;simp only [zii,zvj,zZd,List.length_append,List.length_cons,List.length_nil] at hl ⊢;omega)).mono ?_
     rintro e w4 ⟨rfl,hs,hb,ho⟩
     have HM4:=zh (HM3.out.step hs hb ho)
     clear hs hb ho
     have e4_1:w4.cell? ⟨w.heap.size,1,none⟩=some (.string s):=HM4.out.q.cell 1
     have e4_4:w4.cell? ⟨w.heap.size,4,none⟩=some (.slice (some ⟨gb,0,none⟩) (ts.length+1) cap):=by have h:w4.cell? ⟨w.heap.size,4,none⟩=some kv:=HM4.out.q.cell 4;rw [HKV.out] at h;exact h
     go_wp2_with fail
     refine (puts HM4.out.n.st [⟨#[32,125]⟩] 1 _ _ rfl rfl rfl (by omega) (by have hl:=HL2.out;simp only [zii,zvj,zZd,List.length_append,List.length_cons,List.length_nil] at hl ⊢;omega)).mono ?_
     rintro e w5 ⟨rfl,hs,hb,ho⟩
     have HM5:=zh (HM4.out.step hs hb ho)
     clear hs hb ho
     have e5_1:w5.cell? ⟨w.heap.size,1,none⟩=some (.string s):=HM5.out.q.cell 1
     have e5_4:w5.cell? ⟨w.heap.size,4,none⟩=some (.slice (some ⟨gb,0,none⟩) (ts.length+1) cap):=by have h:w5.cell? ⟨w.heap.size,4,none⟩=some kv:=HM5.out.q.cell 4;rw [HKV.out] at h;exact h
     go_wp2_with fail
     refine (puts HM5.out.n.st [⟨#[32,119,104,101,114,101,32]⟩] 1 _ _ rfl rfl rfl (by omega) (by have hl:=HL2.out;simp only [zii,zvj,zZd,List.length_append,List.length_cons,List.length_nil] at hl ⊢;omega)).mono ?_
     rintro e w6 ⟨rfl,hs,hb,ho⟩
     have HM6:=zh (HM5.out.step hs hb ho)
     clear hs hb ho
     have e6_1:w6.cell? ⟨w.heap.size,1,none⟩=some (.string s):=HM6.out.q.cell 1
     have e6_4:w6.cell? ⟨w.heap.size,4,none⟩=some (.slice (some ⟨gb,0,none⟩) (ts.length+1) cap):=by have h:w6.cell? ⟨w.heap.size,4,none⟩=some kv:=HM6.out.q.cell 4;rw [HKV.out] at h;exact h
     go_wp2_with fail
     refine (lists HM6.out.n HK.out (1+zha ts) (ts.length+1) _ _ (by omega) (by omega) (by omega) (Nat.le_refl _) (by have:=HZ.out;omega) _ HX2.out (by have hl:=HL2.out;simp only [zii,zvj,zZd,List.length_append,List.length_cons,List.length_nil] at hl ⊢;omega)).mono ?_
     rintro e w7 ⟨rfl,hs,hb,ho⟩
     have HM7:=zh (HM6.out.step hs hb ho)
     clear hs hb ho
     have e7_1:w7.cell? ⟨w.heap.size,1,none⟩=some (.string s):=HM7.out.q.cell 1
     have e7_4:w7.cell? ⟨w.heap.size,4,none⟩=some (.slice (some ⟨gb,0,none⟩) (ts.length+1) cap):=by have h:w7.cell? ⟨w.heap.size,4,none⟩=some kv:=HM7.out.q.cell 4;rw [HKV.out] at h;exact h
     go_wp2_with fail
     refine (puts HM7.out.n.st [⟨#[59]⟩] 1 _ _ rfl rfl rfl (by omega) (by have hl:=HL2.out;simp only [zii,zvj,zZd,List.length_append,List.length_cons,List.length_nil] at hl ⊢;omega)).mono ?_
     rintro e w8 ⟨rfl,hs,hb,ho⟩
     have HM8:=zh (HM7.out.step hs hb ho)
     clear hs hb ho
     have e8_1:w8.cell? ⟨w.heap.size,1,none⟩=some (.string s):=HM8.out.q.cell 1
     have e8_4:w8.cell? ⟨w.heap.size,4,none⟩=some (.slice (some ⟨gb,0,none⟩) (ts.length+1) cap):=by have h:w8.cell? ⟨w.heap.size,4,none⟩=some kv:=HM8.out.q.cell 4;rw [HKV.out] at h;exact h
     go_wp2_with fail
     go_end0
     have h:=HM8.out.post
     rw [zAb HF1.out,zAb HR1.out]
     simpa [cat,tb] using h
end Go.Proofs.YthdbmgijpelecaaGreatDoor
namespace Go.Proofs.YthdbmgijpelecaaGreatDoor
set_option maxRecDepth 100000
set_option maxHeartbeats 2000000
open Go.RowKit
def zYm (x:List UInt8):List UInt8:=x++[10]
theorem zEq {B g c1 c2:Nat} {s:ByteArray} {nm:Int} {p:Nat} {ks:List T} {kv:Value} {l:List UInt8} {d:Nat} {w:World} (h:Wn B g c1 c2 (T.mk 0 s nm p ks) kv l d w) (hk:zfb B g c1 c2 (T.mk 0 s nm p ks) kv) (hz:ks.length≤1000000) (hl:l.length+(rows zYm (zQa d ks)).length≤140737488355328) :
  Calls Tryz.prog 60 #[.pointer (some ⟨g,0,none⟩),.agg #[.int .i64 0,.string s,.int .i64 nm,.int .i64 p,kv],.func (.func 57) #[] #[.pointer (some ⟨c1,0,none⟩),.pointer (some ⟨c2,0,none⟩)]] w (zka B g (l++(rows zYm (zQa d ks))) d w):=by
 obtain ⟨ka,kc,hkv⟩:=h.k.len
 have HKV:=zh hkv
 have hz1:ks.length≤1000000:=hz
 clear hkv hz
 have HK:=zh hk
 have HL:=zh hl
 obtain ⟨W0,hW0,HM0⟩:∃ W,w.alloc (.cells [.int .i64 0,.string s,.int .i64 nm,.int .i64 p,kv].toArray 25)=W∧Hid (Wm w B g c1 c2 w.heap.size _ _ l d W):=⟨_,rfl,zh (Wm.start h)⟩
 have e0_0:W0.cell? ⟨w.heap.size,0,none⟩=some (.int .i64 0):=HM0.out.q.cell 0
 have e0_4:W0.cell? ⟨w.heap.size,4,none⟩=some (.slice ka ks.length kc):=by have h:W0.cell? ⟨w.heap.size,4,none⟩=some kv:=HM0.out.q.cell 4;rw [HKV.out] at h;exact h
 clear h hk hl
 go_enter Tryz.func60,Tryz.ntmps60
 go_wp2_with fail
 go_loopg [14] ks.length (fun gk i wr=>zTr w B g c1 c2 w.heap.size (T.mk 0 s nm p ks) kv l d zYm (zQa d ks) gk i wr)
 case atStart=>exact ⟨0,by omega,by show ks.length≤_;omega,rfl,by simpa [rows] using HM0.out⟩
 case round =>
  obtain ⟨k,hk,hgk,rfl,hm⟩:=hrel
  have hk':k≤ks.length:=hk
  have hgk':ks.length≤k+gk:=hgk
  have HM:=zh hm
  clear hm hk hgk
  by_cases hlt:k<ks.length
  ·obtain ⟨u,hu⟩:∃ u,ks[k]?=some u:=⟨ks[k],List.getElem?_eq_getElem hlt⟩
   have hR:=zZi zYm (zQa d ks) k _ (zFi d ks k u hu)
   have hle:=zUm zYm (zQa d ks) (k+1)
   rw [hR,List.length_append,show (zYm (shw d u)).length=(shw d u).length+1 from by simp [zYm]] at hle
   have HR:=zh hR
   have HU:=zh hu
   have HLE:=zh hle
   clear hu hR hle
   go_wp2_with fail
   refine (HK.out.get _ k _ (by omega) HM.out.n HU.out (by have hl:=HL.out;have hle:=HLE.out;simp at hl ⊢;omega)).mono ?_
   rintro e wb ⟨rfl,hs,hb,ho⟩
   have HMb:=zh (HM.out.step hs hb ho)
   clear hs hb ho
   go_wp2_with fail
   refine (puts HMb.out.n.st [⟨#[10]⟩] 1 _ _ rfl rfl rfl (by omega) (by have hl:=HL.out;have hle:=HLE.out;simp [cat,tb] at hl ⊢;omega)).mono ?_
   rintro e wc ⟨rfl,hs,hb,ho⟩
   have HMc:=zh (HMb.out.step hs hb ho)
   clear hs hb ho
   go_wp2_with fail
   go_roundg (gk-1)
   case measure=>omega
   case rel=>exact ⟨k+1,by show _≤ks.length;omega,by show ks.length≤_;omega,by go_num,by rw [HR.out,show zYm (shw d u)=shw d u++[10] from rfl];have h:=HMc.out;simpa [cat,tb,List.append_assoc] using h⟩
  ·have hkk:k=ks.length:=by omega
   subst hkk
   go_wp2_with fail
   go_end0
   have h:=HM.out.post
   rw [List.take_of_length_le (by rw [zac];exact Nat.le_refl _)] at h
   exact h
theorem zyr {B g c1 c2:Nat} {s:ByteArray} {nm:Int} {p:Nat} {ks:List T} {kv:Value} {l:List UInt8} {d:Nat} {w:World} (h:Wn B g c1 c2 (T.mk 2 s nm p ks) kv l d w) (hk:zfb B g c1 c2 (T.mk 2 s nm p ks) kv) (hz:ks.length≤1000000) (hl:l.length+(tb s++maybe [32] [] (zQa d ks)).length≤140737488355328) :
  Calls Tryz.prog 60 #[.pointer (some ⟨g,0,none⟩),.agg #[.int .i64 2,.string s,.int .i64 nm,.int .i64 p,kv],.func (.func 57) #[] #[.pointer (some ⟨c1,0,none⟩),.pointer (some ⟨c2,0,none⟩)]] w (zka B g (l++(tb s++maybe [32] [] (zQa d ks))) d w):=by
 have HZ:=zh hz
 clear hz
 have HK:=zh hk
 have HL:=zh hl
 obtain ⟨W0,hW0,HM0⟩:∃ W,w.alloc (.cells [.int .i64 2,.string s,.int .i64 nm,.int .i64 p,kv].toArray 25)=W∧Hid (Wm w B g c1 c2 w.heap.size _ _ l d W):=⟨_,rfl,zh (Wm.start h)⟩
 have e0_0:W0.cell? ⟨w.heap.size,0,none⟩=some (.int .i64 2):=HM0.out.q.cell 0
 have e0_1:W0.cell? ⟨w.heap.size,1,none⟩=some (.string s):=HM0.out.q.cell 1
 have e0_2:W0.cell? ⟨w.heap.size,2,none⟩=some (.int .i64 nm):=HM0.out.q.cell 2
 have e0_3:W0.cell? ⟨w.heap.size,3,none⟩=some (.int .i64 p):=HM0.out.q.cell 3
 have e0_4:W0.cell? ⟨w.heap.size,4,none⟩=some (kv):=HM0.out.q.cell 4
 clear h hk hl
 go_enter Tryz.func60,Tryz.ntmps60
 go_wp2_with fail
 refine (puts HM0.out.n.st [s] 1 _ _ rfl rfl rfl (by omega) (by have hl:=HL.out;simp [cat,tb] at hl ⊢;omega)).mono ?_
 rintro e w1 ⟨rfl,hs,hb,ho⟩
 have HM1:=zh (HM0.out.step hs hb ho)
 clear hs hb ho
 have e1_0:w1.cell? ⟨w.heap.size,0,none⟩=some (.int .i64 2):=HM1.out.q.cell 0
 have e1_1:w1.cell? ⟨w.heap.size,1,none⟩=some (.string s):=HM1.out.q.cell 1
 have e1_2:w1.cell? ⟨w.heap.size,2,none⟩=some (.int .i64 nm):=HM1.out.q.cell 2
 have e1_3:w1.cell? ⟨w.heap.size,3,none⟩=some (.int .i64 p):=HM1.out.q.cell 3
 have e1_4:w1.cell? ⟨w.heap.size,4,none⟩=some (kv):=HM1.out.q.cell 4
 go_wp2_with fail
 refine (zCe (a:=⟨#[32]⟩) (b:=⟨#[]⟩) HM1.out.n HK.out HZ.out (by have hl:=HL.out;simp [cat,tb] at hl ⊢;omega)).mono ?_
 rintro e w2 ⟨rfl,hs,hb,ho⟩
 have HM2:=zh (HM1.out.step hs hb ho)
 clear hs hb ho
 have e2_0:w2.cell? ⟨w.heap.size,0,none⟩=some (.int .i64 2):=HM2.out.q.cell 0
 have e2_1:w2.cell? ⟨w.heap.size,1,none⟩=some (.string s):=HM2.out.q.cell 1
 have e2_2:w2.cell? ⟨w.heap.size,2,none⟩=some (.int .i64 nm):=HM2.out.q.cell 2
 have e2_3:w2.cell? ⟨w.heap.size,3,none⟩=some (.int .i64 p):=HM2.out.q.cell 3
 have e2_4:w2.cell? ⟨w.heap.size,4,none⟩=some (kv):=HM2.out.q.cell 4
 go_wp2_with fail
 go_end0
 have h:=HM2.out.post
 simpa [cat,tb] using h
theorem zYq {B g c1 c2:Nat} {s:ByteArray} {nm:Int} {p:Nat} {ks:List T} {kv:Value} {l:List UInt8} {d:Nat} {w:World} (h:Wn B g c1 c2 (T.mk 3 s nm p ks) kv l d w) (hk:zfb B g c1 c2 (T.mk 3 s nm p ks) kv) (hz:ks.length≤1000000) (hl:l.length+(tb s++maybe [91] [93] (zQa d ks)).length≤140737488355328) :
  Calls Tryz.prog 60 #[.pointer (some ⟨g,0,none⟩),.agg #[.int .i64 3,.string s,.int .i64 nm,.int .i64 p,kv],.func (.func 57) #[] #[.pointer (some ⟨c1,0,none⟩),.pointer (some ⟨c2,0,none⟩)]] w (zka B g (l++(tb s++maybe [91] [93] (zQa d ks))) d w):=by
 have HZ:=zh hz
 clear hz
 have HK:=zh hk
 have HL:=zh hl
 obtain ⟨W0,hW0,HM0⟩:∃ W,w.alloc (.cells [.int .i64 3,.string s,.int .i64 nm,.int .i64 p,kv].toArray 25)=W∧Hid (Wm w B g c1 c2 w.heap.size _ _ l d W):=⟨_,rfl,zh (Wm.start h)⟩
 have e0_0:W0.cell? ⟨w.heap.size,0,none⟩=some (.int .i64 3):=HM0.out.q.cell 0
 have e0_1:W0.cell? ⟨w.heap.size,1,none⟩=some (.string s):=HM0.out.q.cell 1
 have e0_2:W0.cell? ⟨w.heap.size,2,none⟩=some (.int .i64 nm):=HM0.out.q.cell 2
 have e0_3:W0.cell? ⟨w.heap.size,3,none⟩=some (.int .i64 p):=HM0.out.q.cell 3
 have e0_4:W0.cell? ⟨w.heap.size,4,none⟩=some (kv):=HM0.out.q.cell 4
 clear h hk hl
 go_enter Tryz.func60,Tryz.ntmps60
 go_wp2_with fail
 refine (puts HM0.out.n.st [s] 1 _ _ rfl rfl rfl (by omega) (by have hl:=HL.out;simp [cat,tb] at hl ⊢;omega)).mono ?_
 rintro e w1 ⟨rfl,hs,hb,ho⟩
 have HM1:=zh (HM0.out.step hs hb ho)
 clear hs hb ho
 have e1_0:w1.cell? ⟨w.heap.size,0,none⟩=some (.int .i64 3):=HM1.out.q.cell 0
 have e1_1:w1.cell? ⟨w.heap.size,1,none⟩=some (.string s):=HM1.out.q.cell 1
 have e1_2:w1.cell? ⟨w.heap.size,2,none⟩=some (.int .i64 nm):=HM1.out.q.cell 2
 have e1_3:w1.cell? ⟨w.heap.size,3,none⟩=some (.int .i64 p):=HM1.out.q.cell 3
 have e1_4:w1.cell? ⟨w.heap.size,4,none⟩=some (kv):=HM1.out.q.cell 4
 go_wp2_with fail
 refine (zCe (a:=⟨#[91]⟩) (b:=⟨#[93]⟩) HM1.out.n HK.out HZ.out (by have hl:=HL.out;simp [cat,tb] at hl ⊢;omega)).mono ?_
 rintro e w2 ⟨rfl,hs,hb,ho⟩
 have HM2:=zh (HM1.out.step hs hb ho)
 clear hs hb ho
 have e2_0:w2.cell? ⟨w.heap.size,0,none⟩=some (.int .i64 3):=HM2.out.q.cell 0
 have e2_1:w2.cell? ⟨w.heap.size,1,none⟩=some (.string s):=HM2.out.q.cell 1
 have e2_2:w2.cell? ⟨w.heap.size,2,none⟩=some (.int .i64 nm):=HM2.out.q.cell 2
 have e2_3:w2.cell? ⟨w.heap.size,3,none⟩=some (.int .i64 p):=HM2.out.q.cell 3
 have e2_4:w2.cell? ⟨w.heap.size,4,none⟩=some (kv):=HM2.out.q.cell 4
 go_wp2_with fail
 go_end0
 have h:=HM2.out.post
 simpa [cat,tb] using h
theorem zCr {B g c1 c2:Nat} {s:ByteArray} {nm:Int} {p:Nat} {ks:List T} {kv:Value} {l:List UInt8} {d:Nat} {w:World} {u v:T} (h:Wn B g c1 c2 (T.mk 4 s nm p ks) kv l d w) (hk:zfb B g c1 c2 (T.mk 4 s nm p ks) kv) (h0:ks[0]?=some u) (h1:ks[1]?=some v) (hl:l.length+(shw d u++([32]++(tb s++([32]++shw d v)))).length≤140737488355328) :
  Calls Tryz.prog 60 #[.pointer (some ⟨g,0,none⟩),.agg #[.int .i64 4,.string s,.int .i64 nm,.int .i64 p,kv],.func (.func 57) #[] #[.pointer (some ⟨c1,0,none⟩),.pointer (some ⟨c2,0,none⟩)]] w (zka B g (l++(shw d u++([32]++(tb s++([32]++shw d v))))) d w):=by
 have HK:=zh hk
 have HL:=zh hl
 obtain ⟨W0,hW0,HM0⟩:∃ W,w.alloc (.cells [.int .i64 4,.string s,.int .i64 nm,.int .i64 p,kv].toArray 25)=W∧Hid (Wm w B g c1 c2 w.heap.size _ _ l d W):=⟨_,rfl,zh (Wm.start h)⟩
 have e0_0:W0.cell? ⟨w.heap.size,0,none⟩=some (.int .i64 4):=HM0.out.q.cell 0
 have e0_1:W0.cell? ⟨w.heap.size,1,none⟩=some (.string s):=HM0.out.q.cell 1
 have e0_2:W0.cell? ⟨w.heap.size,2,none⟩=some (.int .i64 nm):=HM0.out.q.cell 2
 have e0_3:W0.cell? ⟨w.heap.size,3,none⟩=some (.int .i64 p):=HM0.out.q.cell 3
 have e0_4:W0.cell? ⟨w.heap.size,4,none⟩=some (kv):=HM0.out.q.cell 4
 clear h hk hl
 go_enter Tryz.func60,Tryz.ntmps60
 go_wp2_with fail
 refine (zMf (u:=u) (v:=v) HM0.out.n HK.out h0 h1 HL.out).mono ?_
 rintro e w1 ⟨rfl,hs,hb,ho⟩
 have HM1:=zh (HM0.out.step hs hb ho)
 clear hs hb ho
 have e1_0:w1.cell? ⟨w.heap.size,0,none⟩=some (.int .i64 4):=HM1.out.q.cell 0
 have e1_1:w1.cell? ⟨w.heap.size,1,none⟩=some (.string s):=HM1.out.q.cell 1
 have e1_2:w1.cell? ⟨w.heap.size,2,none⟩=some (.int .i64 nm):=HM1.out.q.cell 2
 have e1_3:w1.cell? ⟨w.heap.size,3,none⟩=some (.int .i64 p):=HM1.out.q.cell 3
 have e1_4:w1.cell? ⟨w.heap.size,4,none⟩=some (kv):=HM1.out.q.cell 4
 go_wp2_with fail
 go_end0
 have h:=HM1.out.post
 simpa [cat,tb] using h
theorem zHq {B g c1 c2:Nat} {s:ByteArray} {nm:Int} {p:Nat} {ks:List T} {kv:Value} {l:List UInt8} {d:Nat} {w:World} (h:Wn B g c1 c2 (T.mk 5 s nm p ks) kv l d w) (hk:zfb B g c1 c2 (T.mk 5 s nm p ks) kv) (hn:-1099511627776≤nm∧nm≤1099511627776) (hl:l.length+(zJb (tb s) nm).length≤140737488355328) :
  Calls Tryz.prog 60 #[.pointer (some ⟨g,0,none⟩),.agg #[.int .i64 5,.string s,.int .i64 nm,.int .i64 p,kv],.func (.func 57) #[] #[.pointer (some ⟨c1,0,none⟩),.pointer (some ⟨c2,0,none⟩)]] w (zka B g (l++(zJb (tb s) nm)) d w):=by
 have HK:=zh hk
 have HL:=zh hl
 obtain ⟨W0,hW0,HM0⟩:∃ W,w.alloc (.cells [.int .i64 5,.string s,.int .i64 nm,.int .i64 p,kv].toArray 25)=W∧Hid (Wm w B g c1 c2 w.heap.size _ _ l d W):=⟨_,rfl,zh (Wm.start h)⟩
 have e0_0:W0.cell? ⟨w.heap.size,0,none⟩=some (.int .i64 5):=HM0.out.q.cell 0
 have e0_1:W0.cell? ⟨w.heap.size,1,none⟩=some (.string s):=HM0.out.q.cell 1
 have e0_2:W0.cell? ⟨w.heap.size,2,none⟩=some (.int .i64 nm):=HM0.out.q.cell 2
 have e0_3:W0.cell? ⟨w.heap.size,3,none⟩=some (.int .i64 p):=HM0.out.q.cell 3
 have e0_4:W0.cell? ⟨w.heap.size,4,none⟩=some (kv):=HM0.out.q.cell 4
 clear h hk hl
 go_enter Tryz.func60,Tryz.ntmps60
 go_wp2_with fail
 refine (zYp HM0.out.n HK.out hn HL.out).mono ?_
 rintro e w1 ⟨rfl,hs,hb,ho⟩
 have HM1:=zh (HM0.out.step hs hb ho)
 clear hs hb ho
 have e1_0:w1.cell? ⟨w.heap.size,0,none⟩=some (.int .i64 5):=HM1.out.q.cell 0
 have e1_1:w1.cell? ⟨w.heap.size,1,none⟩=some (.string s):=HM1.out.q.cell 1
 have e1_2:w1.cell? ⟨w.heap.size,2,none⟩=some (.int .i64 nm):=HM1.out.q.cell 2
 have e1_3:w1.cell? ⟨w.heap.size,3,none⟩=some (.int .i64 p):=HM1.out.q.cell 3
 have e1_4:w1.cell? ⟨w.heap.size,4,none⟩=some (kv):=HM1.out.q.cell 4
 go_wp2_with fail
 go_end0
 have h:=HM1.out.post
 simpa [cat,tb] using h
theorem zrq {B g c1 c2:Nat} {s:ByteArray} {nm:Int} {p:Nat} {ks:List T} {kv:Value} {l:List UInt8} {d:Nat} {w:World} (h:Wn B g c1 c2 (T.mk 8 s nm p ks) kv l d w) (hk:zfb B g c1 c2 (T.mk 8 s nm p ks) kv) (hz:ks.length≤1000000) (hl:l.length+(zHb (tb s) (zQa d ks)).length≤140737488355328) :
  Calls Tryz.prog 60 #[.pointer (some ⟨g,0,none⟩),.agg #[.int .i64 8,.string s,.int .i64 nm,.int .i64 p,kv],.func (.func 57) #[] #[.pointer (some ⟨c1,0,none⟩),.pointer (some ⟨c2,0,none⟩)]] w (zka B g (l++(zHb (tb s) (zQa d ks))) d w):=by
 have HZ:=zh hz
 clear hz
 have HK:=zh hk
 have HL:=zh hl
 obtain ⟨W0,hW0,HM0⟩:∃ W,w.alloc (.cells [.int .i64 8,.string s,.int .i64 nm,.int .i64 p,kv].toArray 25)=W∧Hid (Wm w B g c1 c2 w.heap.size _ _ l d W):=⟨_,rfl,zh (Wm.start h)⟩
 have e0_0:W0.cell? ⟨w.heap.size,0,none⟩=some (.int .i64 8):=HM0.out.q.cell 0
 have e0_1:W0.cell? ⟨w.heap.size,1,none⟩=some (.string s):=HM0.out.q.cell 1
 have e0_2:W0.cell? ⟨w.heap.size,2,none⟩=some (.int .i64 nm):=HM0.out.q.cell 2
 have e0_3:W0.cell? ⟨w.heap.size,3,none⟩=some (.int .i64 p):=HM0.out.q.cell 3
 have e0_4:W0.cell? ⟨w.heap.size,4,none⟩=some (kv):=HM0.out.q.cell 4
 clear h hk hl
 go_enter Tryz.func60,Tryz.ntmps60
 go_wp2_with fail
 refine (zMp HM0.out.n HK.out HZ.out HL.out).mono ?_
 rintro e w1 ⟨rfl,hs,hb,ho⟩
 have HM1:=zh (HM0.out.step hs hb ho)
 clear hs hb ho
 have e1_0:w1.cell? ⟨w.heap.size,0,none⟩=some (.int .i64 8):=HM1.out.q.cell 0
 have e1_1:w1.cell? ⟨w.heap.size,1,none⟩=some (.string s):=HM1.out.q.cell 1
 have e1_2:w1.cell? ⟨w.heap.size,2,none⟩=some (.int .i64 nm):=HM1.out.q.cell 2
 have e1_3:w1.cell? ⟨w.heap.size,3,none⟩=some (.int .i64 p):=HM1.out.q.cell 3
 have e1_4:w1.cell? ⟨w.heap.size,4,none⟩=some (kv):=HM1.out.q.cell 4
 go_wp2_with fail
 go_end0
 have h:=HM1.out.post
 simpa [cat,tb] using h
theorem zjr {B g c1 c2:Nat} {s:ByteArray} {nm:Int} {p:Nat} {ks:List T} {kv:Value} {l:List UInt8} {d:Nat} {w:World} {u:T} (h:Wn B g c1 c2 (T.mk 7 s nm p ks) kv l d w) (hk:zfb B g c1 c2 (T.mk 7 s nm p ks) kv) (h0:ks[0]?=some u) (hl:l.length+(tb s++([58,32]++shw d u)).length≤140737488355328) :
  Calls Tryz.prog 60 #[.pointer (some ⟨g,0,none⟩),.agg #[.int .i64 7,.string s,.int .i64 nm,.int .i64 p,kv],.func (.func 57) #[] #[.pointer (some ⟨c1,0,none⟩),.pointer (some ⟨c2,0,none⟩)]] w (zka B g (l++(tb s++([58,32]++shw d u))) d w):=by
 have HK:=zh hk
 have HL:=zh hl
 obtain ⟨W0,hW0,HM0⟩:∃ W,w.alloc (.cells [.int .i64 7,.string s,.int .i64 nm,.int .i64 p,kv].toArray 25)=W∧Hid (Wm w B g c1 c2 w.heap.size _ _ l d W):=⟨_,rfl,zh (Wm.start h)⟩
 have e0_0:W0.cell? ⟨w.heap.size,0,none⟩=some (.int .i64 7):=HM0.out.q.cell 0
 have e0_1:W0.cell? ⟨w.heap.size,1,none⟩=some (.string s):=HM0.out.q.cell 1
 have e0_2:W0.cell? ⟨w.heap.size,2,none⟩=some (.int .i64 nm):=HM0.out.q.cell 2
 have e0_3:W0.cell? ⟨w.heap.size,3,none⟩=some (.int .i64 p):=HM0.out.q.cell 3
 have e0_4:W0.cell? ⟨w.heap.size,4,none⟩=some (kv):=HM0.out.q.cell 4
 clear h hk hl
 go_enter Tryz.func60,Tryz.ntmps60
 go_wp2_with fail
 refine (puts HM0.out.n.st [s,⟨#[58,32]⟩] 2 _ _ rfl rfl rfl (by omega) (by have hl:=HL.out;simp [cat,tb] at hl ⊢;omega)).mono ?_
 rintro e w1 ⟨rfl,hs,hb,ho⟩
 have HM1:=zh (HM0.out.step hs hb ho)
 clear hs hb ho
 have e1_0:w1.cell? ⟨w.heap.size,0,none⟩=some (.int .i64 7):=HM1.out.q.cell 0
 have e1_1:w1.cell? ⟨w.heap.size,1,none⟩=some (.string s):=HM1.out.q.cell 1
 have e1_2:w1.cell? ⟨w.heap.size,2,none⟩=some (.int .i64 nm):=HM1.out.q.cell 2
 have e1_3:w1.cell? ⟨w.heap.size,3,none⟩=some (.int .i64 p):=HM1.out.q.cell 3
 have e1_4:w1.cell? ⟨w.heap.size,4,none⟩=some (kv):=HM1.out.q.cell 4
 go_wp2_with fail
 refine (HK.out.get _ 0 _ (by omega) HM1.out.n h0 (by have hl:=HL.out;simp [cat,tb] at hl ⊢;omega)).mono ?_
 rintro e w2 ⟨rfl,hs,hb,ho⟩
 have HM2:=zh (HM1.out.step hs hb ho)
 clear hs hb ho
 have e2_0:w2.cell? ⟨w.heap.size,0,none⟩=some (.int .i64 7):=HM2.out.q.cell 0
 have e2_1:w2.cell? ⟨w.heap.size,1,none⟩=some (.string s):=HM2.out.q.cell 1
 have e2_2:w2.cell? ⟨w.heap.size,2,none⟩=some (.int .i64 nm):=HM2.out.q.cell 2
 have e2_3:w2.cell? ⟨w.heap.size,3,none⟩=some (.int .i64 p):=HM2.out.q.cell 3
 have e2_4:w2.cell? ⟨w.heap.size,4,none⟩=some (kv):=HM2.out.q.cell 4
 go_wp2_with fail
 go_end0
 have h:=HM2.out.post
 simpa [cat,tb] using h
theorem zur {B g c1 c2:Nat} {s:ByteArray} {nm:Int} {p:Nat} {kv:Value} {l:List UInt8} {d:Nat} {w:World} {a:T} {ts:List T} (h:Wn B g c1 c2 (T.mk 1 s nm p (a :: ts)) kv l d w) (hk:zfb B g c1 c2 (T.mk 1 s nm p (a :: ts)) kv) (hz:ts.length≤100000) (hl:l.length+([116,121,112,101,32]++(tb s++([32]++(shw d a++(zRb (zha ts) ([32,123,32]++(commas ((zQa d ts).take (zha ts))++[32,125]))++(zRb (ts.length-zha ts) ([32,119,104,101,114,101,32]++commas ((zQa d ts).drop (zha ts)))++[59])))))).length≤140737488355328) :
  Calls Tryz.prog 60 #[.pointer (some ⟨g,0,none⟩),.agg #[.int .i64 1,.string s,.int .i64 nm,.int .i64 p,kv],.func (.func 57) #[] #[.pointer (some ⟨c1,0,none⟩),.pointer (some ⟨c2,0,none⟩)]] w (zka B g (l++([116,121,112,101,32]++(tb s++([32]++(shw d a++(zRb (zha ts) ([32,123,32]++(commas ((zQa d ts).take (zha ts))++[32,125]))++(zRb (ts.length-zha ts) ([32,119,104,101,114,101,32]++commas ((zQa d ts).drop (zha ts)))++[59]))))))) d w):=by
 have HK:=zh hk
 have HL:=zh hl
 obtain ⟨W0,hW0,HM0⟩:∃ W,w.alloc (.cells [.int .i64 1,.string s,.int .i64 nm,.int .i64 p,kv].toArray 25)=W∧Hid (Wm w B g c1 c2 w.heap.size _ _ l d W):=⟨_,rfl,zh (Wm.start h)⟩
 have e0_0:W0.cell? ⟨w.heap.size,0,none⟩=some (.int .i64 1):=HM0.out.q.cell 0
 have e0_1:W0.cell? ⟨w.heap.size,1,none⟩=some (.string s):=HM0.out.q.cell 1
 have e0_2:W0.cell? ⟨w.heap.size,2,none⟩=some (.int .i64 nm):=HM0.out.q.cell 2
 have e0_3:W0.cell? ⟨w.heap.size,3,none⟩=some (.int .i64 p):=HM0.out.q.cell 3
 have e0_4:W0.cell? ⟨w.heap.size,4,none⟩=some (kv):=HM0.out.q.cell 4
 clear h hk hl
 go_enter Tryz.func60,Tryz.ntmps60
 go_wp2_with fail
 refine (zTp HM0.out.n HK.out hz HL.out).mono ?_
 rintro e w1 ⟨rfl,hs,hb,ho⟩
 have HM1:=zh (HM0.out.step hs hb ho)
 clear hs hb ho
 have e1_0:w1.cell? ⟨w.heap.size,0,none⟩=some (.int .i64 1):=HM1.out.q.cell 0
 have e1_1:w1.cell? ⟨w.heap.size,1,none⟩=some (.string s):=HM1.out.q.cell 1
 have e1_2:w1.cell? ⟨w.heap.size,2,none⟩=some (.int .i64 nm):=HM1.out.q.cell 2
 have e1_3:w1.cell? ⟨w.heap.size,3,none⟩=some (.int .i64 p):=HM1.out.q.cell 3
 have e1_4:w1.cell? ⟨w.heap.size,4,none⟩=some (kv):=HM1.out.q.cell 4
 go_wp2_with fail
 go_end0
 have h:=HM1.out.post
 simpa [cat,tb] using h
theorem zhr {B g c1 c2:Nat} {s:ByteArray} {nm:Int} {p:Nat} {kv:Value} {l:List UInt8} {d:Nat} {w:World} {xs:List T} {r b:T} (h:Wn B g c1 c2 (T.mk 6 s nm p (xs++[r,b])) kv l d w) (hk:zfb B g c1 c2 (T.mk 6 s nm p (xs++[r,b])) kv) (hz:xs.length≤1000000) (hl:l.length+([102,110,32]++(tb s++([40]++(commas (zQa d xs)++([41]++(zRb r.text.size ([32,45,62,32]++shw d r)++([32]++shw d b))))))).length≤140737488355328) :
  Calls Tryz.prog 60 #[.pointer (some ⟨g,0,none⟩),.agg #[.int .i64 6,.string s,.int .i64 nm,.int .i64 p,kv],.func (.func 57) #[] #[.pointer (some ⟨c1,0,none⟩),.pointer (some ⟨c2,0,none⟩)]] w (zka B g (l++([102,110,32]++(tb s++([40]++(commas (zQa d xs)++([41]++(zRb r.text.size ([32,45,62,32]++shw d r)++([32]++shw d b)))))))) d w):=by
 have HK:=zh hk
 have HL:=zh hl
 obtain ⟨W0,hW0,HM0⟩:∃ W,w.alloc (.cells [.int .i64 6,.string s,.int .i64 nm,.int .i64 p,kv].toArray 25)=W∧Hid (Wm w B g c1 c2 w.heap.size _ _ l d W):=⟨_,rfl,zh (Wm.start h)⟩
 have e0_0:W0.cell? ⟨w.heap.size,0,none⟩=some (.int .i64 6):=HM0.out.q.cell 0
 have e0_1:W0.cell? ⟨w.heap.size,1,none⟩=some (.string s):=HM0.out.q.cell 1
 have e0_2:W0.cell? ⟨w.heap.size,2,none⟩=some (.int .i64 nm):=HM0.out.q.cell 2
 have e0_3:W0.cell? ⟨w.heap.size,3,none⟩=some (.int .i64 p):=HM0.out.q.cell 3
 have e0_4:W0.cell? ⟨w.heap.size,4,none⟩=some (kv):=HM0.out.q.cell 4
 clear h hk hl
 go_enter Tryz.func60,Tryz.ntmps60
 go_wp2_with fail
 refine (sh_fn HM0.out.n HK.out hz HL.out).mono ?_
 rintro e w1 ⟨rfl,hs,hb,ho⟩
 have HM1:=zh (HM0.out.step hs hb ho)
 clear hs hb ho
 have e1_0:w1.cell? ⟨w.heap.size,0,none⟩=some (.int .i64 6):=HM1.out.q.cell 0
 have e1_1:w1.cell? ⟨w.heap.size,1,none⟩=some (.string s):=HM1.out.q.cell 1
 have e1_2:w1.cell? ⟨w.heap.size,2,none⟩=some (.int .i64 nm):=HM1.out.q.cell 2
 have e1_3:w1.cell? ⟨w.heap.size,3,none⟩=some (.int .i64 p):=HM1.out.q.cell 3
 have e1_4:w1.cell? ⟨w.heap.size,4,none⟩=some (kv):=HM1.out.q.cell 4
 go_wp2_with fail
 go_end0
 have h:=HM1.out.post
 simpa [cat,tb] using h
end Go.Proofs.YthdbmgijpelecaaGreatDoor
