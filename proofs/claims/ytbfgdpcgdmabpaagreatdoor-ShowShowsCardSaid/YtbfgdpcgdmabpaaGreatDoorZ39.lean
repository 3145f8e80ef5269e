/- The document's own show on a Type and on a Fn. -/
import Derived.Test.YtbfgdpcgdmabpaaGreatDoorZ38
namespace Go.Proofs.YtbfgdpcgdmabpaaGreatDoor
open Go.RowKit
set_option maxRecDepth 100000
set_option maxHeartbeats 1000000
theorem zFg (d:Nat) (xs ys:List T):zBa d (xs++ys)=zBa d xs++zBa d ys:=by simp only [zWb,List.map_append]
theorem zyk (xs ys:List (List UInt8)):zRe (xs++ys)=zRe xs+zRe ys:=by unfold zRe;simp
theorem zjf {d:Nat} {xs ys zs:List T} (hc:RC d (xs++(ys++zs))):(commas (zBa d ys)).length≤1000000000:=by
 have h1:=zyd (zBa d ys)
 have h2:=hc.sum d (by omega)
 rw [zFg,zFg,zyk,zyk,List.length_append,List.length_append] at h2
 rw [zNa] at h1
 omega
theorem zWm (d:Nat) (s:List UInt8) (xs:List T) (r b:T):zri s (xs++[r,b]) (zBa d (xs++[r,b]))=[102,110,32]++(s++([40]++(commas (zBa d xs)++([41]++((if r.text.size=0 then [] else [32,45,62,32]++shw d r)++([32]++shw d b)))))):=by
 rw [zFg,zpa,zpa,zLa]
 unfold zri
 have h1:(xs++[r,b]).length-2=xs.length:=by simp
 have h2:(xs++[r,b]).length-1=xs.length+1:=by simp
 have hl:=zNa d xs
 rw [h1,h2]
 have h3:(zBa d xs++[shw d r,shw d b]).take xs.length=zBa d xs:=by rw [← hl];simp
 have h4:(xs++[r,b]).getD xs.length zRb=r:=by rw [List.getD_eq_getElem?_getD,List.getElem?_append_right (by omega)];simp
 have h5:(zBa d xs++[shw d r,shw d b]).getD xs.length []=shw d r:=by rw [List.getD_eq_getElem?_getD,List.getElem?_append_right (by omega),hl];simp
 have h6:(zBa d xs++[shw d r,shw d b]).getD (xs.length+1) []=shw d b:=by rw [List.getD_eq_getElem?_getD,List.getElem?_append_right (by omega),hl];simp
 rw [h3,h4,h5,h6]
namespace K6
theorem zmg {p:Prop} (h:p:=by
  obtain ⟨q,hq⟩:∃ q,xs.length=q:=⟨_,rfl⟩
  obtain rfl:m=q+2:=by have h:=HM.out;simp only [List.length_cons,List.length_nil,List.length_append] at h;omega
  have hq5:q≤5000:=by have:=HC.out.len;simp only [List.length_append] at this;omega
  have hcz:=zjf (xs:=[]) (ys:=xs) (zs:=[r,b]) HC.out
  have hz1:(st (commas (zBa d xs))).size≤140737488351232:=by rw [zIb];omega
  have hir:(xs++[r,b])[q]?=some r:=by rw [← hq];simp
  have hib:(xs++[r,b])[q+2-1]?=some b:=by rw [show q+2-1=q+1 by omega,← hq];simp
  have hir2:(xs++[r,b])[q+2-1-1]?=some r:=by rw [show q+2-1-1=q by omega,← hq];simp
  have hz2:=zke HC.out (Nat.le_succ d) hir
  have hz3:=zke HC.out (Nat.le_succ d) hib
  have HW:=zh (HR.out.win.part 0 q cap (by omega) (by unfold maxLen;omega) xs hq (fun i t hi=>by rw [Nat.zero_add,List.getElem?_append_left (List.getElem?_eq_some_iff.1 hi).1];exact hi) (by omega))
  rw [Nat.zero_mul,Nat.add_zero] at HW
  have HIR:=zh hir
  have HIR2:=zh hir2
  have HIB:=zh hib
  have HQ:=zh hq
  clear hir hib hir2 hq
  go_wp2_with fail
  refine (zmf HW.out (fun t ht=>HC.out.kid d (by omega) t (by simp [ht])) hcz).mono ?_
  clear HW
  rintro e w5 ⟨rfl,hb⟩
  replace HR:=zh (HR.out.call hb)
  clear hb n0 n1 n2 n3 n4
  obtain ⟨n0,n1,n2,n3,n4⟩:=HR.out.cells
  obtain ⟨u,h4,_⟩:=HR.out.win.get HIR.out
  have m1:w5.cell? ⟨g,o+q * 5+1,none⟩=some (.string r.text):=h4 1 _ rfl
  clear h4
  obtain ⟨rt,hrt⟩:=zNc r.text
  rw [hrt] at m1
  have t0:=zIk rt
  by_cases hrt0:rt=[]
  ·have HX:=zh (show zri l (xs++[r,b]) (zBa d (xs++[r,b]))=[102,110,32]++(l++([40]++(commas (zBa d xs)++([41]++([]++([32]++shw d b)))))) by rw [zWm,if_pos (by rw [hrt,hrt0];rfl)])
   rw [hrt0] at t0 m1
   replace t0:(st []).toList.isEmpty=true:=t0
   clear hrt hrt0
   obtain ⟨u,HU,HK⟩:=zqd HR.out.win HIB.out (HC.out.kid d (by omega) b (by simp))
   go_wp2_with ((with_reducible refine zdb 34 (.tmp 221) ?_);refine wpList_load_mid rfl 34 (.tmp 221) rfl g (o+(q+2-1) * 5) rfl (zaa _ _) _ HU.out Tryz.underlying34 rfl Tryz.zvc ?_)
   refine HK.out.mono ?_
   clear HU HK m1
   rintro e w6 ⟨rfl,hb⟩
   replace HR:=zh (HR.out.call hb)
   clear hb n0 n1 n2 n3 n4
   obtain ⟨n0,n1,n2,n3,n4⟩:=HR.out.cells
   go_wp2_with fail
   go_ret
   exact zDe
  ·have HX:=zh (show zri l (xs++[r,b]) (zBa d (xs++[r,b]))=[102,110,32]++(l++([40]++(commas (zBa d xs)++([41]++(([32,45,62,32]++shw d r)++([32]++shw d b)))))) by rw [zWm,if_neg (by rw [hrt,zIb];simpa using hrt0)])
   replace t0:(st rt).toList.isEmpty=false:=by rw [t0];simpa using hrt0
   clear hrt hrt0
   obtain ⟨u,HU,HK⟩:=zqd HR.out.win HIR2.out (HC.out.kid d (by omega) r (by simp))
   go_wp2_with ((with_reducible refine zdb 34 (.tmp 210) ?_);refine wpList_load_mid rfl 34 (.tmp 210) rfl g (o+(q+2-1-1) * 5) rfl (zaa _ _) _ HU.out Tryz.underlying34 rfl Tryz.zvc ?_)
   refine HK.out.mono ?_
   clear HU HK m1
   rintro e w6 ⟨rfl,hb⟩
   replace HR:=zh (HR.out.call hb)
   clear hb n0 n1 n2 n3 n4
   obtain ⟨n0,n1,n2,n3,n4⟩:=HR.out.cells
   obtain ⟨u,HU,HK⟩:=zqd HR.out.win HIB.out (HC.out.kid d (by omega) b (by simp))
   go_wp2_with ((with_reducible refine zdb 34 (.tmp 221) ?_);refine wpList_load_mid rfl 34 (.tmp 221) rfl g (o+(q+2-1) * 5) rfl (zaa _ _) _ HU.out Tryz.underlying34 rfl Tryz.zvc ?_)
   refine HK.out.mono ?_
   clear HU HK
   rintro e w7 ⟨rfl,hb⟩
   replace HR:=zh (HR.out.call hb)
   clear hb n0 n1 n2 n3 n4
   obtain ⟨n0,n1,n2,n3,n4⟩:=HR.out.cells
   go_wp2_with fail
   go_ret
   exact zDe):p:=h
theorem rs_6 {d:Nat} {s:ByteArray} {nm:Int} {p:Nat} {xs:List T} {r b:T} (hc:RC d (xs++[r,b])) (hf:Fit 6 (xs++[r,b])) (hn:-1099511627776≤nm∧nm≤1099511627776) (hs:s.size≤140737488351232):zYb d (T.mk 6 s nm p (xs++[r,b])):=by
 obtain ⟨l,rfl⟩:=zNc s
 have HF:=zh hf
 exact zXa
end K6
theorem zYm {d:Nat} {s:List UInt8} {a:T} {ys zs:List T} {q1 q2:Nat} (h1:ys.length=q1) (h2:zs.length=q2) (hf:zfa (ys++zs)=q1):zdf s (a :: (ys++zs)) (shw d a :: zBa d (ys++zs))=[116,121,112,101,32]++(s++([32]++(shw d a ++
  ((if 0<q1 then [32,123,32]++(commas (zBa d ys)++[32,125]) else [])++((if 0<q2 then [32,119,104,101,114,101,32]++commas (zBa d zs) else [])++[59]))))):=by
 subst h1 h2
 rw [zFg]
 unfold zdf
 have hl:=zNa d ys
 simp only [List.tail_cons,hf,List.length_append,List.getD_cons_zero]
 rw [List.take_left' hl,List.drop_left' hl]
 have e:(ys.length<ys.length+zs.length)=(0<zs.length):=by simp
 simp only [e]
namespace K1
theorem zbn {p:Prop} (h:p:=by
  have hx:=HX.out
  rw [if_pos h2] at hx
  replace HX:=zh hx
  clear hx
  have hcd:1+(q1:Int)<(q1:Int)+(q2:Int)+1:=by omega
  have HZ:=zh (HR.out.win.part (1+q1) q2 (cap-(1+q1)) (by omega) (by unfold maxLen;omega) zs HQ2.out (fun i t hi=>by rw [show 1+q1+i=(q1+i)+1 by omega,List.getElem?_cons_succ,List.getElem?_append_right (by have:=HQ1.out;omega),show q1+i-ys.length=i by have:=HQ1.out;omega];exact hi) (by omega))
  go_wp2_with fail
  refine (zmf (by first|exact HZ.out|(rw [show q1+q2+1-(1+q1)=q2 by omega];exact HZ.out)) (fun t ht=>HC.out.kid d (by omega) t (by simp [ht])) hcz2).mono ?_
  clear HZ
  rintro e w7 ⟨rfl,hb⟩
  replace HR:=zh (HR.out.call hb)
  clear hb n0 n1 n2 n3 n4
  obtain ⟨n0,n1,n2,n3,n4⟩:=HR.out.cells
  go_wp2_with fail
  go_ret
  exact zDe):p:=h
theorem zVk {p:Prop} (h:p:=by
  by_cases h2:0<q2
  ·first
   | (exfalso;omega)
   | exact zbn
  ·first
   | (exfalso;omega)
   | (
     have hx:=HX.out
     rw [if_neg h2] at hx
     replace HX:=zh hx
     clear hx
     have hcd:¬ (1+(q1:Int)<(q1:Int)+(q2:Int)+1):=by omega
     go_wp2_with fail
     go_ret
     exact zDe)):p:=h
theorem zmg {p:Prop} (h:p:=by
  obtain ⟨q1,hq1⟩:∃ q,ys.length=q:=⟨_,rfl⟩
  obtain ⟨q2,hq2⟩:∃ q,zs.length=q:=⟨_,rfl⟩
  obtain rfl:m=q1+q2+1:=by have h:=HM.out;simp only [List.length_cons,List.length_append] at h;omega
  have hq5:q1+q2≤5000:=by have:=HC.out.len;simp only [List.length_cons,List.length_append] at this;omega
  have hcz1:=zjf (xs:=[a]) (ys:=ys) (zs:=zs) HC.out
  have hcz2:=zjf (xs:=a :: ys) (ys:=zs) (zs:=[]) (by rw [List.append_nil];exact HC.out)
  have hz1:(st (commas (zBa d ys))).size≤140737488351232:=by rw [zIb];omega
  have hz2:(st (commas (zBa d zs))).size≤140737488351232:=by rw [zIb];omega
  have HX:=zh (zYm (d:=d) (s:=l) (a:=a) hq1 hq2 ((zkd ys zs hy hz).trans hq1))
  have HFN:=zh ((zkd ys zs hy hz).trans hq1)
  have HQ1:=zh hq1
  have HQ2:=zh hq2
  clear hq1 hq2 hy hz
  go_wp2_with fail
  refine (zWg HR.out.win).mono ?_
  rw [HFN.out]
  rintro e w5 ⟨rfl,hb⟩
  replace HR:=zh (HR.out.call hb)
  clear hb n0 n1 n2 n3 n4
  obtain ⟨n0,n1,n2,n3,n4⟩:=HR.out.cells
  by_cases h1:0<q1
  ·first
   | (exfalso;omega)
   | (
     have hx:=HX.out
     rw [if_pos h1] at hx
     replace HX:=zh hx
     clear hx
     first
     | obtain ⟨g,o,rfl⟩:=zrk HM.out (by omega) HPA.out hpb
     | skip
     have HY:=zh (HR.out.win.part 1 q1 (cap-1) (by omega) (by unfold maxLen;omega) ys HQ1.out (fun i t hi=>by rw [show 1+i=i+1 by omega,List.getElem?_cons_succ,List.getElem?_append_left (List.getElem?_eq_some_iff.1 hi).1];exact hi) (by omega))
     go_wp2_with fail
     refine (zmf (by first|exact HY.out|(rw [show 1+q1-1=q1 by omega];exact HY.out)) (fun t ht=>HC.out.kid d (by omega) t (by simp [ht])) hcz1).mono ?_
     clear HY
     rintro e w6 ⟨rfl,hb⟩
     replace HR:=zh (HR.out.call hb)
     clear hb n0 n1 n2 n3 n4
     obtain ⟨n0,n1,n2,n3,n4⟩:=HR.out.cells
     exact zVk)
  ·have hx:=HX.out
   rw [if_neg h1] at hx
   replace HX:=zh hx
   clear hx
   exact zVk):p:=h
theorem rs_1 {d:Nat} {s:ByteArray} {nm:Int} {p:Nat} {a:T} {ys zs:List T} (hc:RC d (a :: (ys++zs))) (hy:zPa (fun x=>x=3) ys) (hz:zPa (fun x=>x=4) zs) (hf:Fit 1 (a :: (ys++zs))) (hn:-1099511627776≤nm∧nm≤1099511627776) (hs:s.size≤140737488351232):zYb d (T.mk 1 s nm p (a :: (ys++zs))):=by
 obtain ⟨l,rfl⟩:=zNc s
 have HF:=zh hf
 exact zXa
end K1
end Go.Proofs.YtbfgdpcgdmabpaaGreatDoor
