/- The document's own show, node by node: where it does as it should on the kids, it does so on the node. -/
import Derived.Test.YtbfgdpcgdmabpaaGreatDoorZ36
import Derived.Deep.RegionLawGrows
namespace Go.Proofs.YtbfgdpcgdmabpaaGreatDoor
open Go.RowKit
set_option maxRecDepth 100000
set_option maxHeartbeats 1000000
theorem zDe {p:Prop} (h:p:=by
  refine ⟨?_,by first|exact HR.out.below|exact below_drewN HR.out.below _⟩
  refine congrArg (fun l=>Ending.returned (.string l)) ?_
  have HA:=HA.out
  have HB:=HB.out
  try subst HA
  try subst HB
  try simp only [zwp,List.toList_toArray,zwe]
  refine congrArg st ?_
  rw [zva]
  first|rw [if_neg (by decide)]|rw [if_pos rfl]
  first
  | (simp [zoa,zib,maybe,zLb,zDp,zSr,zpa,zLa,zfs];done)
  | (
    simp [zoa,zEb,zDb,zwg,zXb,zGl,zMj,zib,maybe,zDp,zSr,zpa,zLa,zfs,st_dl,zIb,zmr,HX.out]
    try rfl)):p:=h
theorem zmg {p:Prop} (h:p:=by
  go_wp2_with fail
  all_goals
   try (
      go_quiet (fail)
      go_wp2_with fail)
   go_ret
   exact zDe):p:=h
theorem zGp {p:Prop} (h:p:=by
  refine (zrj nm _ hn).mono ?_
  rintro e w4 ⟨rfl,hb⟩
  replace HR:=zh (HR.out.call hb)
  clear hb n0 n1 n2 n3 n4
  obtain ⟨n0,n1,n2,n3,n4⟩:=HR.out.cells
  have hDz:=zkm nm hn
  exact zmg):p:=h
theorem rs_go {p:Prop} (h:p:=by
  first
  | obtain rfl:m=0:=by have h:=HM.out;clear hm1;simp only [List.length_nil] at h;omega
  | obtain rfl:m=1:=by have h:=HM.out;clear hm1;simp only [List.length_cons,List.length_nil] at h;omega
  | obtain rfl:m=2:=by have h:=HM.out;clear hm1;simp only [List.length_cons,List.length_nil] at h;omega
  | obtain rfl:m=3:=by have h:=HM.out;clear hm1;simp only [List.length_cons,List.length_nil] at h;omega
  | obtain rfl:m=4:=by have h:=HM.out;clear hm1;simp only [List.length_cons,List.length_nil] at h;omega
  | skip
  obtain ⟨n0,n1,n2,n3,n4⟩:=HR.out.cells
  go_enter Tryz.func24,Tryz.ntmps24
  go_wp2_with fail
  refine (zKo HR.out.win HF.out).mono ?_
  clear hW
  rintro e w1 ⟨rfl,hb⟩
  replace HR:=zh (HR.out.call hb)
  clear hb n0 n1 n2 n3 n4
  obtain ⟨n0,n1,n2,n3,n4⟩:=HR.out.cells
  go_wp2_with fail
  refine (zml HR.out.win (HC.out.kid d (by omega))).mono ?_
  rw [HA.out]
  rintro e w2 ⟨rfl,hb⟩
  replace HR:=zh (HR.out.call hb)
  clear hb n0 n1 n2 n3 n4
  obtain ⟨n0,n1,n2,n3,n4⟩:=HR.out.cells
  first
  | (
    have hq:¬ 1<_:=hm1
    clear hq
    obtain rfl:=zxs HM.out hm1 HB.out
    go_wp2_with fail
    exact zGp)
  | (
    obtain ⟨g,o,rfl⟩:=zrk HM.out (by omega) HPA.out hpb
    obtain ⟨t1,ht1⟩:=zLj HM.out hm1
    obtain ⟨u,HU,HK⟩:=zqd HR.out.win ht1 (HC.out.kid d (by omega) t1 (List.mem_of_getElem? ht1))
    go_wp2_with ((with_reducible refine zdb 34 (.tmp 43) ?_);refine wpList_load_mid rfl 34 (.tmp 43) rfl g (o+1 * 5) rfl (zaa _ _) _ HU.out Tryz.underlying34 rfl Tryz.zvc ?_)
    refine HK.out.mono ?_
    rw [zMt ht1 HB.out]
    clear HU HK ht1
    rintro e w3 ⟨rfl,hb⟩
    replace HR:=zh (HR.out.call hb)
    clear hb n0 n1 n2 n3 n4
    obtain ⟨n0,n1,n2,n3,n4⟩:=HR.out.cells
    go_wp2_with fail
    exact zGp)):p:=h
theorem zXa {p:Prop} (h:p:=by
  refine zJn hc ?_
  intro W0 W pa m cap A B HA HB hAz hBz HC HM hmc hcap hpa hpb hW HR
  have HPA:=zh hpa
  clear hpa hc
  by_cases hm1:1<m
  all_goals
   first
   | (exfalso;have h:=HM.out;simp only [List.length_cons,List.length_nil,List.length_append] at h;omega)
   | exact rs_go):p:=h
theorem rs_2 {d:Nat} {s:ByteArray} {nm:Int} {p:Nat} {ks:List T} (hc:RC d ks) (hf:Fit 2 ks) (hn:-1099511627776≤nm∧nm≤1099511627776) (hs:s.size≤140737488351232):zYb d (T.mk 2 s nm p ks):=by
 obtain ⟨l,rfl⟩:=zNc s
 rcases zOo hf (by omega) with rfl|⟨a,rfl⟩
 all_goals
  have HF:=zh hf
  exact zXa
theorem rs_3 {d:Nat} {s:ByteArray} {nm:Int} {p:Nat} {ks:List T} (hc:RC d ks) (hf:Fit 3 ks) (hn:-1099511627776≤nm∧nm≤1099511627776) (hs:s.size≤140737488351232):zYb d (T.mk 3 s nm p ks):=by
 obtain ⟨l,rfl⟩:=zNc s
 rcases zOo hf (by omega) with rfl|⟨a,rfl⟩
 all_goals
  have HF:=zh hf
  exact zXa
theorem rs_4 {d:Nat} {s:ByteArray} {nm:Int} {p:Nat} {a b:T} (hc:RC d [a,b]) (hf:Fit 4 [a,b]) (hn:-1099511627776≤nm∧nm≤1099511627776) (hs:s.size≤140737488351232):zYb d (T.mk 4 s nm p [a,b]):=by
 obtain ⟨l,rfl⟩:=zNc s
 have HF:=zh hf
 exact zXa
theorem rs_5 {d:Nat} {s:ByteArray} {nm:Int} {p:Nat} (hc:RC d []) (hf:Fit 5 []) (hn:-1099511627776≤nm∧nm≤1099511627776) (hs:s.size≤140737488351232):zYb d (T.mk 5 s nm p []):=by
 obtain ⟨l,rfl⟩:=zNc s
 have HF:=zh hf
 rcases zyl l nm with ⟨rfl,t0⟩|⟨h1,hX,t0⟩|⟨h1,hX,t0⟩|⟨h1,hX,t0⟩
 ·have HX:=zh trivial
  exact zXa
 ·have HX:=zh (And.intro hX (And.intro h1 (eq_false (show ¬ nm<0 by omega))))
  exact zXa
 ·have HX:=zh (And.intro hX (And.intro h1 (eq_false (show ¬ 0<nm by omega))))
  have h2:=zIp nm
  exact zXa
 ·have h2:¬ 0<nm:=by omega
  have h3:¬ nm<0:=by omega
  have HX:=zh (And.intro hX h1)
  clear h1
  exact zXa
theorem rs_7 {d:Nat} {s:ByteArray} {nm:Int} {p:Nat} {a:T} (hc:RC d [a]) (hf:Fit 7 [a]) (hn:-1099511627776≤nm∧nm≤1099511627776) (hs:s.size≤140737488351232):zYb d (T.mk 7 s nm p [a]):=by
 obtain ⟨l,rfl⟩:=zNc s
 have HF:=zh hf
 exact zXa
theorem rs_8 {d:Nat} {s:ByteArray} {nm:Int} {p:Nat} {ks:List T} (hc:RC d ks) (hf:Fit 8 ks) (hn:-1099511627776≤nm∧nm≤1099511627776) (hs:s.size≤140737488351232):zYb d (T.mk 8 s nm p ks):=by
 obtain ⟨l,rfl⟩:=zNc s
 have HX:=zh trivial
 rcases zDl l with ⟨rfl,t1⟩|⟨rfl,t1,t2⟩|⟨rfl,t1,t2,t3⟩|⟨hX,t1,t2,t3⟩
 all_goals
  try replace HX:=zh hX
  rcases zOo hf (by omega) with rfl|⟨a,rfl⟩
  all_goals
  have HF:=zh hf
  exact zXa
theorem rs_10 {d:Nat} {s:ByteArray} {nm:Int} {p:Nat} {a:T} (hc:RC d [a]) (hf:Fit 10 [a]) (hn:-1099511627776≤nm∧nm≤1099511627776) (hs:s.size≤140737488351232):zYb d (T.mk 10 s nm p [a]):=by
 obtain ⟨l,rfl⟩:=zNc s
 have HF:=zh hf
 exact zXa
theorem rs_11 {d:Nat} {s:ByteArray} {nm:Int} {p:Nat} {a b:T} (hc:RC d [a,b]) (hf:Fit 11 [a,b]) (hn:-1099511627776≤nm∧nm≤1099511627776) (hs:s.size≤140737488351232):zYb d (T.mk 11 s nm p [a,b]):=by
 obtain ⟨l,rfl⟩:=zNc s
 have HF:=zh hf
 exact zXa
theorem rs_12 {d:Nat} {s:ByteArray} {nm:Int} {p:Nat} (hc:RC d []) (hf:Fit 12 []) (hn:-1099511627776≤nm∧nm≤1099511627776) (hs:s.size≤140737488351232):zYb d (T.mk 12 s nm p []):=by
 obtain ⟨l,rfl⟩:=zNc s
 have HF:=zh hf
 exact zXa
theorem rs_13 {d:Nat} {s:ByteArray} {nm:Int} {p:Nat} (hc:RC d []) (hf:Fit 13 []) (hn:-1099511627776≤nm∧nm≤1099511627776) (hs:s.size≤140737488351232):zYb d (T.mk 13 s nm p []):=by
 obtain ⟨l,rfl⟩:=zNc s
 have HF:=zh hf
 exact zXa
theorem rs_14 {d:Nat} {s:ByteArray} {nm:Int} {p:Nat} (hc:RC d []) (hf:Fit 14 []) (hn:-1099511627776≤nm∧nm≤1099511627776) (hs:s.size≤140737488351232):zYb d (T.mk 14 s nm p []):=by
 obtain ⟨l,rfl⟩:=zNc s
 have HF:=zh hf
 exact zXa
theorem rs_17 {d:Nat} {s:ByteArray} {nm:Int} {p:Nat} {ks:List T} (hc:RC d ks) (hf:Fit 17 ks) (hn:-1099511627776≤nm∧nm≤1099511627776) (hs:s.size≤140737488351232):zYb d (T.mk 17 s nm p ks):=by
 obtain ⟨l,rfl⟩:=zNc s
 rcases zOo hf (by omega) with rfl|⟨a,rfl⟩
 all_goals
  have HF:=zh hf
  exact zXa
theorem rs_18 {d:Nat} {s:ByteArray} {nm:Int} {p:Nat} (hc:RC d []) (hf:Fit 18 []) (hn:-1099511627776≤nm∧nm≤1099511627776) (hs:s.size≤140737488351232):zYb d (T.mk 18 s nm p []):=by
 obtain ⟨l,rfl⟩:=zNc s
 have HF:=zh hf
 exact zXa
theorem rs_20 {d:Nat} {s:ByteArray} {nm:Int} {p:Nat} {a:T} (hc:RC d [a]) (hf:Fit 20 [a]) (hn:-1099511627776≤nm∧nm≤1099511627776) (hs:s.size≤140737488351232):zYb d (T.mk 20 s nm p [a]):=by
 obtain ⟨l,rfl⟩:=zNc s
 have HF:=zh hf
 exact zXa
theorem rs_21 {d:Nat} {s:ByteArray} {nm:Int} {p:Nat} {a b:T} (hc:RC d [a,b]) (hf:Fit 21 [a,b]) (hn:-1099511627776≤nm∧nm≤1099511627776) (hs:s.size≤140737488351232):zYb d (T.mk 21 s nm p [a,b]):=by
 obtain ⟨l,rfl⟩:=zNc s
 have HF:=zh hf
 exact zXa
theorem rs_22 {d:Nat} {s:ByteArray} {nm:Int} {p:Nat} {a b:T} (hc:RC d [a,b]) (hf:Fit 22 [a,b]) (hn:-1099511627776≤nm∧nm≤1099511627776) (hs:s.size≤140737488351232):zYb d (T.mk 22 s nm p [a,b]):=by
 obtain ⟨l,rfl⟩:=zNc s
 have HF:=zh hf
 exact zXa
theorem rs_23 {d:Nat} {s:ByteArray} {nm:Int} {p:Nat} (hc:RC d []) (hf:Fit 23 []) (hn:-1099511627776≤nm∧nm≤1099511627776) (hs:s.size≤140737488351232):zYb d (T.mk 23 s nm p []):=by
 obtain ⟨l,rfl⟩:=zNc s
 have HF:=zh hf
 exact zXa
theorem rs_24 {d:Nat} {s:ByteArray} {nm:Int} {p:Nat} (hc:RC d []) (hf:Fit 24 []) (hn:-1099511627776≤nm∧nm≤1099511627776) (hs:s.size≤140737488351232):zYb d (T.mk 24 s nm p []):=by
 obtain ⟨l,rfl⟩:=zNc s
 have HF:=zh hf
 exact zXa
theorem rs_25 {d:Nat} {s:ByteArray} {nm:Int} {p:Nat} {a:T} (hc:RC d [a]) (hf:Fit 25 [a]) (hn:-1099511627776≤nm∧nm≤1099511627776) (hs:s.size≤140737488351232):zYb d (T.mk 25 s nm p [a]):=by
 obtain ⟨l,rfl⟩:=zNc s
 have HF:=zh hf
 exact zXa
theorem rs_26 {d:Nat} {s:ByteArray} {nm:Int} {p:Nat} (hc:RC d []) (hf:Fit 26 []) (hn:-1099511627776≤nm∧nm≤1099511627776) (hs:s.size≤140737488351232):zYb d (T.mk 26 s nm p []):=by
 obtain ⟨l,rfl⟩:=zNc s
 have HF:=zh hf
 exact zXa
theorem rs_27 {d:Nat} {s:ByteArray} {nm:Int} {p:Nat} (hc:RC d []) (hf:Fit 27 []) (hn:-1099511627776≤nm∧nm≤1099511627776) (hs:s.size≤140737488351232):zYb d (T.mk 27 s nm p []):=by
 obtain ⟨l,rfl⟩:=zNc s
 have HF:=zh hf
 exact zXa
end Go.Proofs.YtbfgdpcgdmabpaaGreatDoor
