/- The document's own show on the kinds that call list or show once more, or have a loop. -/
import Derived.Test.YtbfgdpcgdmabpaaGreatDoorZ37
import Derived.Deep.LoopGhost
namespace Go.Proofs.YtbfgdpcgdmabpaaGreatDoor
open Go.RowKit
set_option maxRecDepth 100000
set_option maxHeartbeats 1000000
theorem zke {d:Nat} {ks:List T} (hc:RC d ks) {d' i:Nat} {t:T} (hd:d'≤d+1) (hi:ks[i]?=some t):(st (shw d' t)).size≤140737488351232:=by
 rw [← zoj d' ks i t hi]
 exact hc.txt i d' hd
theorem zvh {d:Nat} {ks:List T} (hc:RC d ks):(commas (zBa d ks)).length≤1000000000:=by
 have h1:=zyd (zBa d ks)
 have h2:=hc.sum d (by omega)
 rw [zNa] at h1
 omega
namespace K16
theorem zmg {p:Prop} (h:p:=by
  obtain ⟨u,HU,HK⟩:=zqd HR.out.win (i:=2) (t:=c) rfl (HC.out.kid d (by omega) c (by simp))
  have hz2:=zke (t:=c) (i:=2) HC.out (Nat.le_succ d) rfl
  go_wp2_with ((with_reducible refine zdb 34 (.tmp 375) ?_);refine wpList_load_mid rfl 34 (.tmp 375) rfl g (o+2 * 5) rfl (zaa _ _) _ HU.out Tryz.underlying34 rfl Tryz.zvc ?_)
  refine HK.out.mono ?_
  clear HU HK
  rintro e w5 ⟨rfl,hb⟩
  replace HR:=zh (HR.out.call hb)
  clear hb n0 n1 n2 n3 n4
  obtain ⟨n0,n1,n2,n3,n4⟩:=HR.out.cells
  go_wp2_with fail
  go_ret
  exact zDe):p:=h
theorem rs_16 {d:Nat} {s:ByteArray} {nm:Int} {p:Nat} {a b c:T} (hc:RC d [a,b,c]) (hf:Fit 16 [a,b,c]) (hn:-1099511627776≤nm∧nm≤1099511627776) (hs:s.size≤140737488351232):zYb d (T.mk 16 s nm p [a,b,c]):=by
 obtain ⟨l,rfl⟩:=zNc s
 have HF:=zh hf
 exact zXa
end K16
namespace K28
theorem zmg {p:Prop} (h:p:=by
  have hz2:(st (commas (zBa d ks))).size≤140737488351232:=by rw [zIb];have:=zvh HC.out;omega
  go_wp2_with fail
  refine (zmf HR.out.win (HC.out.kid d (by omega)) (zvh HC.out)).mono ?_
  rintro e w5 ⟨rfl,hb⟩
  replace HR:=zh (HR.out.call hb)
  clear hb n0 n1 n2 n3 n4
  obtain ⟨n0,n1,n2,n3,n4⟩:=HR.out.cells
  go_wp2_with fail
  go_ret
  exact zDe):p:=h
theorem rs_28 {d:Nat} {k:Int} {s:ByteArray} {nm:Int} {p:Nat} {ks:List T} (hk:k=19∨k=28) (hc:RC d ks) (hf:Fit k ks) (hn:-1099511627776≤nm∧nm≤1099511627776) (hs:s.size≤140737488351232):zYb d (T.mk k s nm p ks):=by
 obtain ⟨l,rfl⟩:=zNc s
 rcases hk with rfl|rfl
 all_goals
  have HF:=zh hf
  exact zXa
end K28
namespace K15
theorem zMo {W:World} {ks:List T} {S:Nat→Prop} {u:Value} (h:KAt 34 W ks S u):∃ pe ne ce,u=.slice pe ne ce∧Hid (ne=ks.length):=by
 rcases h.form with ⟨rfl,rfl⟩|⟨g,cap,rfl,_⟩
 ·exact ⟨none,0,0,rfl,zh rfl⟩
 ·exact ⟨_,_,cap,rfl,zh rfl⟩
theorem zmg {p:Prop} (h:p:=by
  obtain ⟨u,HU,HK⟩:=zqd HR.out.win (i:=2) (t:=c) rfl (HC.out.kid d (by omega) c (by simp))
  have hz2:=zke (t:=c) (i:=2) HC.out (Nat.le_succ d) rfl
  have hz3:=zke (t:=e) (i:=3) HC.out (Nat.le_succ d) rfl
  go_wp2_with ((with_reducible refine zdb 34 (.tmp 337) ?_);refine wpList_load_mid rfl 34 (.tmp 337) rfl g (o+2 * 5) rfl (zaa _ _) _ HU.out Tryz.underlying34 rfl Tryz.zvc ?_)
  refine HK.out.mono ?_
  clear HU HK
  rintro ee w5 ⟨rfl,hb⟩
  replace HR:=zh (HR.out.call hb)
  clear hb n0 n1 n2 n3 n4
  obtain ⟨n0,n1,n2,n3,n4⟩:=HR.out.cells
  obtain ⟨u,h4,h5⟩:=HR.out.win.get (i:=3) (t:=e) rfl
  obtain ⟨pe,ne,ce,rfl,HE⟩:=zMo h5
  have m4:w5.cell? ⟨g,o+3 * 5+4,none⟩=some (.slice pe ne ce):=h4 4 _ rfl
  clear h4 h5
  by_cases hz:ne=0
  ·subst hz
   have HX:=zh (List.eq_nil_of_length_eq_zero HE.out.symm)
   go_wp2_with fail
   go_ret
   exact zDe
  ·have hz9:0<ne:=by omega
   have HX:=zh (show e.kids≠[] from fun h=>hz (by rw [HE.out,h];rfl))
   clear hz
   obtain ⟨u,HU,HK⟩:=zqd HR.out.win (i:=3) (t:=e) rfl (HC.out.kid d (by omega) e (by simp))
   go_wp2_with ((with_reducible refine zdb 34 (.tmp 362) ?_);refine wpList_load_mid rfl 34 (.tmp 362) rfl g (o+3 * 5) rfl (zaa _ _) _ HU.out Tryz.underlying34 rfl Tryz.zvc ?_)
   refine HK.out.mono ?_
   clear HU HK m4
   rintro ee w6 ⟨rfl,hb⟩
   replace HR:=zh (HR.out.call hb)
   clear hb n0 n1 n2 n3 n4
   obtain ⟨n0,n1,n2,n3,n4⟩:=HR.out.cells
   go_wp2_with fail
   go_ret
   exact zDe):p:=h
theorem rs_15 {d:Nat} {s:ByteArray} {nm:Int} {p:Nat} {a b c e:T} (hc:RC d [a,b,c,e]) (hf:Fit 15 [a,b,c,e]) (hn:-1099511627776≤nm∧nm≤1099511627776) (hs:s.size≤140737488351232):zYb d (T.mk 15 s nm p [a,b,c,e]):=by
 obtain ⟨l,rfl⟩:=zNc s
 have HF:=zh hf
 exact zXa
end K15
theorem zWh:∀ (xs:List (List UInt8)) (j:Nat),zRe (xs.take j)≤zRe xs
 | [],j=>by simp
 | x :: xs,0=>by rw [List.take_zero];unfold zRe;simp
 | x :: xs,j+1=>by rw [List.take_succ_cons,ztc,ztc];have:=zWh xs j;omega
theorem zai {d d':Nat} {ks:List T} (hc:RC d ks) (hd:d'≤d+1) (P:List UInt8) (hP:P.length≤100) (f:List UInt8→List UInt8) (hf:∀ x,(f x).length≤x.length+30000) (j:Nat):(st (P++((zBa d' ks).take j).flatMap f)).size≤140737488351232:=by
 have h1:=zGg f 30000 hf ((zBa d' ks).take j)
 have h2:=zWh (zBa d' ks) j
 have h3:=hc.sum d' hd
 have h4:=hc.len
 have h5:((zBa d' ks).take j).length≤5000:=by rw [List.length_take,zNa];omega
 have h6:30000 * ((zBa d' ks).take j).length≤30000 * 5000:=Nat.mul_le_mul_left _ h5
 rw [zIb,List.length_append]
 omega
theorem zlj {d':Nat} {ks:List T} (f:List UInt8→List UInt8) {j:Nat} {t:T} (h:ks[j]?=some t):((zBa d' ks).take (j+1)).flatMap f=((zBa d' ks).take j).flatMap f++f (shw d' t):=by
 have hl:j<(zBa d' ks).length:=by rw [zNa];exact (List.getElem?_eq_some_iff.1 h).1
 have he:(zBa d' ks)[j]=shw d' t:=by have:=zxf d' ks j t h;rw [List.getElem?_eq_getElem hl] at this;exact Option.some.inj this
 rw [List.take_succ_eq_append_getElem hl,List.flatMap_append,he]
 simp
def FlR (w:World) (g:Nat) (k:Int) (s:ByteArray) (nm p:Int) (ks:List T) (kv:Value) (P:List UInt8) (f:List UInt8→List UInt8) (xs:List (List UInt8)) (m:Nat) (gh:Nat) (sv iv:Value) (wr:World):Prop :=
 ∃ (j:Nat) (Z:List UInt8),j≤m∧m≤j+gh∧iv=.int .i64 j∧sv=.string (st Z)∧(st Z).size≤140737488351232∧Hid (Z=P++(xs.take j).flatMap f)∧Hid (RB w g k s nm p ks kv wr)
theorem zYk {d':Nat} {ks:List T} {m:Nat} (h:ks.length=m):(zBa d' ks).take m=zBa d' ks:=List.take_of_length_le (by rw [zNa];omega)
theorem zhn (d:Nat) (hd:d≤5000) (x:List UInt8):(zMj d x).length≤x.length+30000:=by unfold zMj blanks;simp;omega
theorem zbm {d:Nat} {x:Int} (hx:x=(d:Int)) (w:World) (hd:d≤100000) :
  Calls Tryz.prog 55 #[.int .i64 x] w fun e w'=>e=.returned (.string (st (blanks d)))∧Below w.heap.size w w':=by subst hx;exact zNh d w hd
theorem zxt {W:World} {ts:List T} {g o n cap i d:Nat} {x:Int} {t:T} (hx:x=(d:Int)) (h:Win W ts (.slice (some ⟨g,o,none⟩) n cap)) (hi:ts[i]?=some t) (hs:zYb d t):∃ u,Hid (W.rangeAt g (o+i * 5) (zaa t u))∧Hid (Calls Tryz.prog 24 #[zKa t u,.int .i64 x] W fun e W'=>e=.returned (.string (st (shw d t)))∧Below W.heap.size W W'):=by subst hx;exact zqd h hi hs
theorem zgp {p:Prop} (h:p:=by
  rw [HS.out]
  refine congrArg Value.string ?_
  simp only [zwp,List.toList_toArray,zwe]
  refine congrArg st ?_
  rw [HZ.out]
  try simp [zGl,zMj]):p:=h
namespace K0
theorem zmg {p:Prop} (h:p:=by
  have HFB:=zh (zai HC.out (Nat.le_succ d) [] (by simp) zGl (fun x=>by unfold zGl;simp))
  go_wp2_with fail
  go_loopg [9,10] m (fun gk s i wr=>FlR W0 W0.heap.size 0 (st l) nm p ks (.slice _ m cap) [] zGl (zBa d ks) m gk s i wr)
  case atStart=>exact ⟨0,_,by omega,by omega,rfl,rfl,by have:=HFB.out 0;simpa using this,zh (by simp),HR⟩
  case round =>
   clear n0 n1 n2 n3 n4
   obtain ⟨j,Z,hj,hgj,rfl,rfl,hzj,HZ,HR⟩:=hrel
   obtain ⟨n0,n1,n2,n3,n4⟩:=HR.out.cells
   by_cases hlt:j<m
   ·first
    | obtain ⟨g,o,rfl⟩:=zrk HM.out (by omega) HPA.out hpb
    | skip
    obtain ⟨t,ht⟩:=zLj HM.out hlt
    obtain ⟨u,HU,HK⟩:=zqd HR.out.win ht (HC.out.kid d (by omega) t (List.mem_of_getElem? ht))
    have hz:=zke HC.out (Nat.le_succ d) ht
    have HS:=zh (zlj (d':=d) zGl ht)
    go_wp2_with ((with_reducible refine zdb 34 (.tmp 64) ?_);refine wpList_load_mid rfl 34 (.tmp 64) rfl g (o+j * 5) rfl (zaa _ _) _ HU.out Tryz.underlying34 rfl Tryz.zvc ?_)
    refine HK.out.mono ?_
    clear HU HK
    rintro e w6 ⟨rfl,hb⟩
    replace HR:=zh (HR.out.call hb)
    clear hb n0 n1 n2 n3 n4
    obtain ⟨n0,n1,n2,n3,n4⟩:=HR.out.cells
    go_wp2_with fail
    go_roundg (gk-1)
    case measure=>omega
    case rel=>exact ⟨j+1,_,by omega,by omega,by go_num,by exact zgp,HFB.out (j+1),zh rfl,HR⟩
   ·obtain rfl:j=m:=by omega
    have HX:=zh (HZ.out.trans (by rw [zYk (d':=d) HM.out]))
    go_wp2_with fail
    go_ret
    exact zDe):p:=h
theorem rs_0 {d:Nat} {s:ByteArray} {nm:Int} {p:Nat} {ks:List T} (hc:RC d ks) (hf:Fit 0 ks) (hn:-1099511627776≤nm∧nm≤1099511627776) (hs:s.size≤140737488351232):zYb d (T.mk 0 s nm p ks):=by
 obtain ⟨l,rfl⟩:=zNc s
 have HF:=zh hf
 exact zXa
end K0
namespace K9
theorem zmg {p:Prop} (h:p:=by
  have hd9:d≤5000:=HC.out.hd
  have HFB:=zh (zai HC.out (Nat.le_refl (d+1)) [123,10] (by simp) (zMj d) (zhn d hd9))
  have hzb:(st (blanks (d+1))).size≤140737488351232:=by rw [zIb];unfold blanks;simp;omega
  have hzc:(st (blanks d)).size≤140737488351232:=by rw [zIb];unfold blanks;simp;omega
  go_wp2_with fail
  refine (zbm (d:=d+1) (by omega) _ (by omega)).mono ?_
  rintro e w5 ⟨rfl,hb⟩
  replace HR:=zh (HR.out.call hb)
  clear hb n0 n1 n2 n3 n4
  obtain ⟨n0,n1,n2,n3,n4⟩:=HR.out.cells
  go_wp2_with fail
  go_loopg [20,22] m (fun gk s i wr=>FlR W0 W0.heap.size 9 (st l) nm p ks (.slice _ m cap) [123,10] (zMj d) (zBa (d+1) ks) m gk s i wr)
  case atStart=>exact ⟨0,_,by omega,by omega,rfl,rfl,by have:=HFB.out 0;simpa using this,zh (by simp),HR⟩
  case round =>
   clear n0 n1 n2 n3 n4
   obtain ⟨j,Z,hj,hgj,rfl,rfl,hzj,HZ,HR⟩:=hrel
   obtain ⟨n0,n1,n2,n3,n4⟩:=HR.out.cells
   by_cases hlt:j<m
   ·first
    | obtain ⟨g,o,rfl⟩:=zrk HM.out (by omega) HPA.out hpb
    | skip
    obtain ⟨t,ht⟩:=zLj HM.out hlt
    obtain ⟨u,HU,HK⟩:=zxt (d:=d+1) (x:=(d:Int)+1) (by omega) HR.out.win ht (HC.out.kid (d+1) (by omega) t (List.mem_of_getElem? ht))
    have hz:=zke HC.out (Nat.le_refl (d+1)) ht
    have HS:=zh (zlj (d':=d+1) (zMj d) ht)
    go_wp2_with ((with_reducible refine zdb 34 (.tmp 273) ?_);refine wpList_load_mid rfl 34 (.tmp 273) rfl g (o+j * 5) rfl (zaa _ _) _ HU.out Tryz.underlying34 rfl Tryz.zvc ?_)
    refine HK.out.mono ?_
    clear HU HK
    rintro e w6 ⟨rfl,hb⟩
    replace HR:=zh (HR.out.call hb)
    clear hb n0 n1 n2 n3 n4
    obtain ⟨n0,n1,n2,n3,n4⟩:=HR.out.cells
    go_wp2_with fail
    go_roundg (gk-1)
    case measure=>omega
    case rel=>exact ⟨j+1,_,by omega,by omega,by go_num,by exact zgp,HFB.out (j+1),zh rfl,HR⟩
   ·obtain rfl:j=m:=by omega
    have HX:=zh (HZ.out.trans (by rw [zYk (d':=d+1) HM.out]))
    go_wp2_with fail
    refine (zNh d _ (by omega)).mono ?_
    rintro e w7 ⟨rfl,hb⟩
    replace HR:=zh (HR.out.call hb)
    clear hb n0 n1 n2 n3 n4
    obtain ⟨n0,n1,n2,n3,n4⟩:=HR.out.cells
    go_wp2_with fail
    go_ret
    exact zDe):p:=h
theorem rs_9 {d:Nat} {s:ByteArray} {nm:Int} {p:Nat} {ks:List T} (hc:RC d ks) (hf:Fit 9 ks) (hn:-1099511627776≤nm∧nm≤1099511627776) (hs:s.size≤140737488351232):zYb d (T.mk 9 s nm p ks):=by
 obtain ⟨l,rfl⟩:=zNc s
 have HF:=zh hf
 exact zXa
end K9
end Go.Proofs.YtbfgdpcgdmabpaaGreatDoor
