/- Lines and columns: the plain account, and the contracts of show.Line and lychgateref03.Line. -/
import Derived.Test.YthdbmgijpelecaaGreatDoorZ14
import Derived.Test.YthdbmgijpelecaaGreatDoorZ24
import Derived.Deep.LoopGhost
import Derived.Test.YthdbmgijpelecaaGreatDoorZ32
namespace Go.Proofs.YthdbmgijpelecaaGreatDoor
set_option maxRecDepth 100000
set_option maxHeartbeats 1000000
open Go.RowKit
def zle (p:Nat × Nat) (c:UInt8):Nat × Nat:=if c=10 then (p.1+1,1) else (p.1,p.2+1)
def lc (l:List UInt8):Nat × Nat:=l.foldl zle (1,1)
theorem zEi (l:List UInt8) (c:UInt8):lc (l++[c])=zle (lc l) c:=by unfold lc;rw [List.foldl_append];rfl
theorem zLj {P:List UInt8→Prop} (h0:P []) (hs:∀ l c,P l→P (l++[c])):∀ (n:Nat) (l:List UInt8),l.length=n→P l
 | 0,l,h=>by rw [List.eq_nil_of_length_eq_zero h];exact h0
 | n+1,l,h=>by
  have hne:l≠[]:=by intro e;rw [e] at h;simp at h
  rw [← List.dropLast_concat_getLast hne]
  exact hs _ _ (zLj h0 hs n _ (by rw [List.length_dropLast];omega))
theorem zbn (l:List UInt8):(lc l).1=Lib.countByte l 10+1:=by
 refine zLj (P:=fun l=>(lc l).1=Lib.countByte l 10+1) rfl (fun l c ih=>?_) _ l rfl
 ·show (lc (l++[c])).1=Lib.countByte (l++[c]) 10+1
  rw [zEi]
  unfold zle Lib.countByte at *
  rw [List.count_append]
  split
  ·rename_i h;subst h;simp only [ih];simp
  ·rename_i h
   simp only [ih]
   rw [List.count_cons_of_ne h]
   simp
theorem zVo (l:List UInt8):(lc l).1≤l.length+1∧(lc l).2≤l.length+1:=by
 refine zLj (P:=fun l=>(lc l).1≤l.length+1∧(lc l).2≤l.length+1) ⟨Nat.le_refl _,Nat.le_refl _⟩ (fun l c ih=>?_) _ l rfl
 ·show (lc (l++[c])).1≤(l++[c]).length+1∧(lc (l++[c])).2≤(l++[c]).length+1
  rw [zEi,List.length_append]
  unfold zle
  split<;>simp only [List.length_cons,List.length_nil]<;>omega
theorem zHm (t:ByteArray):∀ k,k≤t.size→((lc (t.data.toList.take k)).2:Int)=k-Lib.lastIdx t 10 k
 | 0,_=>rfl
 | k+1,h=>by
  have hlt:k<t.data.toList.length:=by simp;omega
  have ih:=zHm t k (by omega)
  have hb:t.data[k]! = t.data.toList[k]:=by
   rw [getElem!_pos t.data k (by simpa using hlt)]
   simp
  rw [List.take_succ_eq_append_getElem hlt,zEi]
  unfold zle
  by_cases hc:t.data.toList[k]=10
  ·rw [if_pos hc,Lib.lastIdx_hit t 10 k (by rw [hb,hc];rfl)]
   show ((1:Nat):Int)=_
   omega
  ·rw [if_neg hc,Lib.lastIdx_miss t 10 k (by rw [hb];intro e;exact hc (by
                                        have:(t.data.toList[k]).toNat=10:=by omega
                                        exact UInt8.toNat_inj.1 this))]
   show ((((lc (t.data.toList.take k)).2+1:Nat)):Int)=_
   omega
def zEc (s:ByteArray) (k:Nat):Nat × Nat:=lc (s.data.toList.take k)
theorem zAk (s:ByteArray) (k:Nat) (_:k≤s.size):(s.extract 0 k).data.toList=s.data.toList.take k:=by
 rw [ByteArray.data_extract]
 simp
theorem zal (s:ByteArray) (k:Nat) (h:k≤s.size):((Lib.countByte (s.extract 0 k).data.toList 10:Nat):Int)+1=((zEc s k).1:Int)∧(k:Int)-Lib.lastIndexByte (s.extract 0 k) 10=((zEc s k).2:Int):=by
 have hz:(s.extract 0 k).size=k:=by simp;omega
 refine ⟨by rw [zAk s k h];have:=zbn (s.data.toList.take k);unfold zEc;omega,?_⟩
 have h2:=zHm (s.extract 0 k) k (by omega)
 rw [zAk s k h,List.take_take,Nat.min_self] at h2
 unfold zEc
 rw [h2]
 unfold Lib.lastIndexByte
 rw [hz]
def zPg (s:ByteArray) (at':Int):Int × Int:=if at'<0∨(s.size:Int)<at' then (0,0) else ((((zEc s at'.toNat).1:Nat):Int),(((zEc s at'.toNat).2:Nat):Int))
theorem zEg {s:ByteArray} {a:Int} (h:a<0∨(s.size:Int)<a):zPg s a=(0,0):=if_pos h
theorem zmf {s:ByteArray} {k:Nat} (h:k≤s.size):zPg s (k:Int)=((((zEc s k).1:Nat):Int),(((zEc s k).2:Nat):Int)):=by
 unfold zPg
 rw [if_neg (by omega)]
 rfl
theorem zdf (s:ByteArray) (a:Int) (w:World) (hs:s.size≤140737488351232) :
  Calls Tryz.prog 17 #[.string s,.int .i64 a] w fun e w'=>e=.returned (.tuple #[.int .i64 (zPg s a).1,.int .i64 (zPg s a).2])∧Below w.heap.size w w':=by
 by_cases h1:a<0
 ·have HA:=zh (zEg (s:=s) (.inl h1))
  rw [HA.out]
  go_enter Tryz.func17,Tryz.ntmps17
  go_wp2_with fail
  go_ret2
  exact ⟨rfl,Below.refl _ _⟩
 by_cases h2:(s.size:Int)<a
 ·have HA:=zh (zEg (s:=s) (.inr h2))
  rw [HA.out]
  go_enter Tryz.func17,Tryz.ntmps17
  go_wp2_with fail
  go_ret2
  exact ⟨rfl,Below.refl _ _⟩
 obtain ⟨k,rfl⟩:∃ k:Nat,a=(k:Int):=⟨a.toNat,by omega⟩
 have hk:k≤s.size:=by omega
 obtain ⟨h3,h4⟩:=zal s k hk
 obtain ⟨h5,h6⟩:=zVo (s.data.toList.take k)
 have hl:(s.data.toList.take k).length≤s.size:=by simp;omega
 have HA:=zh (zmf hk)
 rw [HA.out]
 have HZ:=zh (show (s.extract 0 k).size<4611686018427387904 from by simp;omega)
 obtain ⟨c,hc⟩:∃ c:Nat,Lib.countByte (s.extract 0 k).data.toList 10=c:=⟨_,rfl⟩
 obtain ⟨i,hi⟩:∃ i:Int,Lib.lastIndexByte (s.extract 0 k) 10=i:=⟨_,rfl⟩
 rw [hc] at h3
 rw [hi] at h4
 have HC:=zh hc
 have HI:=zh hi
 have H3:=zh h3
 have H4:=zh h4
 have hw3:IntKind.i64.wrap ((c:Int)+1)=(c:Int)+1:=IntWalk.i64_in _ (by unfold zEc at h3;omega)
 have hw4:IntKind.i64.wrap ((k:Int)-i)=(k:Int)-i:=IntWalk.i64_in _ (by unfold zEc at h4;omega)
 clear h3 h4 h5 h6 hl hc hi
 go_enter Tryz.func17,Tryz.ntmps17
 go_wp2_with fail
 refine (Tryz.strings_Count_one _ 10 w).mono ?_
 rintro e w1 ⟨rfl,rfl⟩
 rw [HC.out]
 go_wp2_with fail
 refine (Tryz.strings_LastIndexByte _ 10 HZ.out _).mono ?_
 rintro e w2 ⟨rfl,rfl⟩
 rw [HI.out]
 go_wp2_with fail
 go_ret2
 exact ⟨by rw [← H3.out,← H4.out];rfl,Below.refl _ _⟩
theorem zNm {b:UInt8} (h:¬ b=10):((b.toNat:Int) == 10)=false:=by
 refine beq_eq_false_iff_ne.2 fun e=>h ?_
 have h2:b.toNat=10:=by omega
 exact UInt8.toNat_inj.1 h2
def LnRel (s:ByteArray) (k:Nat) (w:World) (gh:Nat) (a b i:Value) (wr:World):Prop :=
 ∃ j:Nat,j≤k∧k≤j+gh∧i=.int .i64 j∧a=.int .i64 ((zEc s j).1:Nat)∧b=.int .i64 ((zEc s j).2:Nat)∧wr=w
theorem zZf (s:ByteArray) (k:Nat) (h:k<s.size):zEc s (k+1)=zle (zEc s k) s[k]:=by
 have hlt:k<s.data.toList.length:=by simp;exact h
 unfold zEc
 rw [List.take_succ_eq_append_getElem hlt,zEi]
 rfl
theorem zpm (s:ByteArray) (a:Int) (w:World) (hs:s.size≤140737488351232) :
  Calls Tryz.prog 18 #[.string s,.int .i64 a] w fun e w'=>e=.returned (.tuple #[.int .i64 (zPg s a).1,.int .i64 (zPg s a).2])∧Below w.heap.size w w':=by
 by_cases h1:a<0
 ·have HA:=zh (zEg (s:=s) (.inl h1))
  rw [HA.out]
  go_enter Tryz.func18,Tryz.ntmps18
  go_wp2_with fail
  go_ret2
  exact ⟨rfl,Below.refl _ _⟩
 by_cases h2:(s.size:Int)<a
 ·have HA:=zh (zEg (s:=s) (.inr h2))
  rw [HA.out]
  go_enter Tryz.func18,Tryz.ntmps18
  go_wp2_with fail
  go_ret2
  exact ⟨rfl,Below.refl _ _⟩
 obtain ⟨k,rfl⟩:∃ k:Nat,a=(k:Int):=⟨a.toNat,by omega⟩
 have hk:k≤s.size:=by omega
 have HA:=zh (zmf hk)
 rw [HA.out]
 go_enter Tryz.func18,Tryz.ntmps18
 go_wp2_with fail
 go_loopg [6,7,8] k (fun gk a b i wr=>LnRel s k w gk a b i wr)
 case atStart=>exact ⟨0,by omega,by omega,rfl,rfl,rfl,rfl⟩
 case round =>
  obtain ⟨j,hj,hgj,rfl,rfl,rfl,hw⟩:=hrel
  subst hw
  obtain ⟨h5,h6⟩:=zVo (s.data.toList.take j)
  have hl:(s.data.toList.take j).length≤s.size:=by simp;omega
  by_cases hlt:j<k
  ·have hjs:j<s.size:=by omega
   have HS:=zh (zZf s j hjs)
   obtain ⟨x,hx⟩:∃ x,(zEc s j).1=x:=⟨_,rfl⟩
   obtain ⟨y,hy⟩:∃ y,(zEc s j).2=y:=⟨_,rfl⟩
   have hxl:x≤140737488351233:=by rw [← hx];unfold zEc;omega
   have hyl:y≤140737488351233:=by rw [← hy];unfold zEc;omega
   have HX:=zh hx
   have HY:=zh hy
   rw [hx,hy]
   clear h5 h6 hl hx hy
   by_cases hc:s[j]=10
   ·have HC:=zh hc
    have hc1:((s[j].toNat:Int) == 10)=true:=by rw [hc];rfl
    clear hc
    go_wp2_with fail
    go_roundg (gk-1)
    case measure=>omega
    case rel=>exact ⟨j+1,by omega,by omega,by go_num,by rw [HS.out];unfold zle;rw [if_pos HC.out,HX.out];go_num,by rw [HS.out];unfold zle;rw [if_pos HC.out];rfl,rfl⟩
   ·have HC:=zh hc
    have hc1:=zNm hc
    clear hc
    go_wp2_with fail
    go_roundg (gk-1)
    case measure=>omega
    case rel=>exact ⟨j+1,by omega,by omega,by go_num,by rw [HS.out];unfold zle;rw [if_neg HC.out,HX.out],by rw [HS.out];unfold zle;rw [if_neg HC.out,HY.out];go_num,rfl⟩
  ·obtain rfl:j=k:=by omega
   go_wp2_with fail
   go_ret2
   exact ⟨rfl,Below.refl _ _⟩
end Go.Proofs.YthdbmgijpelecaaGreatDoor
namespace Go.Proofs.YthdbmgijpelecaaGreatDoor
set_option maxRecDepth 100000
set_option maxHeartbeats 2000000
open Go.RowKit
def s03:ByteArray:=⟨#[102,110,32,102,40,41,123,120,61,45,49,59,125]⟩
def l03:ByteArray:=⟨#[97,10,98,99]⟩
theorem zZl:(zlb s03).2=(0,0):=by kernel_rfl
theorem zco:(⟨(shw 0 (zlb s03).1).toArray⟩:ByteArray)=⟨#[102,110,32,102,40,41,32,123,10,32,32,32,32,120,32,61,32,45,49,59,10,125,10]⟩:=by kernel_rfl
theorem zjo:(zlb s03).1.size=6:=by kernel_rfl
theorem zcp:zPg l03 3=(2,2):=by kernel_rfl
theorem zCm:∃ t,zlb s03=(t,0,0)∧t.whole∧t.small∧t.size≤5000∧(⟨(shw 0 t).toArray⟩:ByteArray)=⟨#[102,110,32,102,40,41,32,123,10,32,32,32,32,120,32,61,32,45,49,59,10,125,10]⟩ :=
 ⟨(zlb s03).1,Prod.ext rfl zZl,(zHg s03).2,zxh s03,by rw [zjo];decide,zco⟩
theorem zGe (w:World) (ht:Tabs w) (hp:Pow w) :
  Calls Tryz.prog 12 #[] w fun e w'=>e=.returned (.bool true)∧Below w.heap.size w w':=by
 obtain ⟨t,h0,hw,hs,hz,hsh⟩:=zCm
 have HW:=zh hw
 have HS:=zh hs
 have HZ:=zh hz
 have HSH:=zh hsh
 have HP:=zh hp
 have H0:=zh h0
 clear hw hs hz hsh hp h0
 go_enter Tryz.func12,Tryz.ntmps12
 go_wp2_with fail
 refine (parse_any s03 w (by unfold maxLen;decide) ht).mono ?_
 rw [H0.out]
 rintro e w1 ⟨kv,rfl,hk,hb⟩
 obtain ⟨W1,hW1,H1⟩:∃ W,w1.alloc (.cells [.int .i64 t.kind,.string t.text,.int .i64 t.num,.int .i64 t.place,kv].toArray 25)=W∧Hid (W.heap.size=w1.heap.size+1∧Below w.heap.size w W∧Pow W∧KAt 25 W t.kids (fun b=>b<w1.heap.size) kv∧Blk W w1.heap.size (zaa t kv) 25) :=
  ⟨_,rfl,zh ⟨by simp,hb.alloc hb.size _,⟨Nat.lt_of_lt_of_le HP.out.1 (hb.alloc hb.size _).size,(HP.out.step (hb.alloc hb.size _)).2⟩,(hk.keep fun b _ hl=>⟨hl,rfl⟩:KAt 25 w1 t.kids (fun b=>b<w1.heap.size) kv).alloc _,Blk.new w1 _ _⟩⟩
 have HO:=zh hk.one
 clear hk hb ht
 unfold zOa
 go_wp2_with ((with_reducible refine zFa 25 (.tmp 1) ?_);refine zHa rfl 25 (.tmp 1) (.tmp 8) rfl [.int .i64 t.kind,.string t.text,.int .i64 t.num,.int .i64 t.place,kv] (old:=zba) rfl rfl Tryz.zda rfl (zea t _ HO.out) ?_)
 refine (zdf l03 3 _ (by decide)).mono ?_
 rw [zcp]
 rintro e w2 ⟨rfl,hb2⟩
 have H2:=zh (show Below w.heap.size w w2∧Pow w2∧KAt 25 w2 t.kids (fun b=>b<w1.heap.size) kv∧Blk w2 w1.heap.size (zaa t kv) 25 from by
  exact ⟨H1.out.2.1.trans (hb2.mono H1.out.2.1.size),⟨Nat.lt_of_lt_of_le H1.out.2.2.1.1 hb2.size,(H1.out.2.2.1.step hb2).2⟩,H1.out.2.2.2.1.below hb2,H1.out.2.2.2.2.below hb2⟩)
 have n0:w2.cell? ⟨w1.heap.size,0,none⟩=some (.int .i64 t.kind):=H2.out.2.2.2.cell 0
 have n1:w2.cell? ⟨w1.heap.size,1,none⟩=some (.string t.text):=H2.out.2.2.2.cell 1
 have n2:w2.cell? ⟨w1.heap.size,2,none⟩=some (.int .i64 t.num):=H2.out.2.2.2.cell 2
 have n3:w2.cell? ⟨w1.heap.size,3,none⟩=some (.int .i64 t.place):=H2.out.2.2.2.cell 3
 have n4:w2.cell? ⟨w1.heap.size,4,none⟩=some kv:=H2.out.2.2.2.cell 4
 clear hb2
 go_wp2_with fail
 refine (zqk H2.out.2.2.1 H2.out.2.1 HW.out HS.out HZ.out).mono ?_
 rw [HSH.out]
 rintro e w3 ⟨rfl,hb3⟩
 have HB3:=zh (H2.out.1.trans (hb3.mono H2.out.1.size))
 clear hb3
 go_wp2_with fail
 go_ret
 exact ⟨rfl,HB3.out⟩
end Go.Proofs.YthdbmgijpelecaaGreatDoor
