/- The contract of lychgateref01.sign: the length of the sign at a place, 0 if there is none; the world is left as it was. The contract of lychgateref01.IsKey: it returns what the plain function says and leaves the world as it was. The contract of lychgateref01.one: the document's token at a place that is no blank is that of the plain account, or its fault; nothing that was in memory is changed. The contract of lychgateref01.Tokens, in any world: it returns what the plain account says, in new memory, and changes nothing that was there. The contract of lychgateref02.Size on a tree in memory: how many nodes it has; nothing that was there is changed. -/
import Derived.Test.YtpjnpffcnmgdcaaGreatDoorZ12
import Derived.Test.YtpjnpffcnmgdcaaGreatDoorZ01
import Derived.Test.YtpjnpffcnmgdcaaGreatDoorZ02
import Derived.Test.YtpjnpffcnmgdcaaGreatDoorZ13
namespace Go.Proofs.YtpjnpffcnmgdcaaGreatDoor
set_option maxRecDepth 100000
set_option maxHeartbeats 2000000
section
open Go.RowKit
theorem zMg (c:UInt8):∀ l:List UInt8,Lib.indexByte l c<0↔c ∉ l
 | []=>by simp [Lib.indexByte]
 | b :: l=>by
  have ih:=zMg c l
  have hge:=Lib.indexByte_ge l c
  simp only [Lib.indexByte]
  by_cases hb:b=c
  ·subst hb
   simp
  ·have hb':(b == c)=false:=by simpa using hb
   rw [hb']
   simp only [Bool.false_eq_true,if_false]
   cases hx:(Lib.indexByte l c == -1)
   ·have hne:Lib.indexByte l c≠-1:=by simpa using hx
    simp only [Bool.false_eq_true,if_false]
    constructor
    ·intro h;omega
    ·intro h
     have:c ∉ l:=fun hm=>h (List.mem_cons_of_mem _ hm)
     have:=ih.2 this
     omega
   ·have he:Lib.indexByte l c=-1:=by simpa using hx
    simp only [if_true]
    have:c ∉ l:=ih.1 (by omega)
    constructor
    ·intro _ hm
     rcases List.mem_cons.1 hm with h|h
     ·exact hb h.symm
     ·exact this h
    ·intro _;omega
theorem zLo (b:UInt8):zKc b=zLe.contains b:=by
 unfold zKc
 have h:=zMg b zLe
 rw [Bool.eq_iff_iff]
 simp only [Bool.not_eq_true',decide_eq_false_iff_not,List.contains_iff_mem]
 rw [h]
 simp
theorem ztc (b:UInt8) (n:Nat) (hn:n<256):((b.toNat:Int) == (n:Int))=(b == n.toUInt8):=by
 rw [Bool.eq_iff_iff,beq_iff_eq,beq_iff_eq,← UInt8.toNat_inj]
 have:n.toUInt8.toNat=n:=by simp;omega
 omega
theorem zOl (b:UInt8):zKc b=((b.toNat:Int) == 123 || ((b.toNat:Int) == 125 || ((b.toNat:Int) == 40 || ((b.toNat:Int) == 41 || ((b.toNat:Int) == 91 || ((b.toNat:Int) == 93 || ((b.toNat:Int) == 44 || ((b.toNat:Int) == 58 || ((b.toNat:Int) == 59 || ((b.toNat:Int) == 61 || ((b.toNat:Int) == 43 || ((b.toNat:Int) == 45 || ((b.toNat:Int) == 38 || (b.toNat:Int) == 60))))))))))))):=by
 rw [zLo,show ((b.toNat:Int) == 123)=(b == 123) from ztc b 123 (by omega),show ((b.toNat:Int) == 125)=(b == 125) from ztc b 125 (by omega),show ((b.toNat:Int) == 40)=(b == 40) from ztc b 40 (by omega),show ((b.toNat:Int) == 41)=(b == 41) from ztc b 41 (by omega),
  show ((b.toNat:Int) == 91)=(b == 91) from ztc b 91 (by omega),show ((b.toNat:Int) == 93)=(b == 93) from ztc b 93 (by omega),show ((b.toNat:Int) == 44)=(b == 44) from ztc b 44 (by omega),show ((b.toNat:Int) == 58)=(b == 58) from ztc b 58 (by omega),
  show ((b.toNat:Int) == 59)=(b == 59) from ztc b 59 (by omega),show ((b.toNat:Int) == 61)=(b == 61) from ztc b 61 (by omega),show ((b.toNat:Int) == 43)=(b == 43) from ztc b 43 (by omega),show ((b.toNat:Int) == 45)=(b == 45) from ztc b 45 (by omega),
  show ((b.toNat:Int) == 38)=(b == 38) from ztc b 38 (by omega),show ((b.toNat:Int) == 60)=(b == 60) from ztc b 60 (by omega)]
 simp only [zLe,List.contains_cons,List.contains_nil,Bool.or_false]
def zel (s:ByteArray) (k:Nat):Nat :=
 if zBe ((s.data.toList.drop k).take 2)=true then 2 else if zKc (bat s k)=true then 1 else 0
theorem zvo (l:List UInt8):zBe l=(l == [45,62] || (l == [60,61] || l == [61,61])):=by unfold zBe;rw [Bool.or_assoc]
theorem zoi (s:ByteArray) (k:Nat) (w:World) (hs:s.size≤maxLen) (hk:k<s.size) :
  Calls Tryz.prog 69 #[.string s,.int .i64 k] w fun e w'=>e=.returned (.int .i64 (zel s k))∧w=w':=by
 have hs':=hs
 unfold maxLen at hs'
 have HS:=zh (zOl s[k])
 have HD:Hid (zel s k=if zBe ((s.data.toList.drop k).take 2)=true then 2 else if zKc s[k]=true then 1 else 0):=zh (by unfold zel;rw [zUb s k hk])
 by_cases h2:k+1<s.size
 ·have h2':(k:Int)+1<(s.size:Int):=by omega
  have HP:Hid (zBe ((s.data.toList.drop k).take 2)=((s.extract k (k+2)).toList == [45,62] || ((s.extract k (k+2)).toList == [60,61] || (s.extract k (k+2)).toList == [61,61]))) :=
   zh (by rw [ByteArray.toList_eq,zDe,zvo])
  go_enter Tryz.func69,Tryz.ntmps69
  go_wp2
  all_goals go_ret
  all_goals refine ⟨zIj ?_,rfl⟩
  all_goals (rw [HD.out,HP.out,HS.out];clear HD HP HS;first|(exfalso;simp_all;done)|(simp only [*,Bool.true_or,Bool.or_true,Bool.or_false,if_true,if_false,Bool.false_eq_true];done)|(simp only [*,Bool.true_or,Bool.or_true,Bool.or_false,if_true,if_false,Bool.false_eq_true];rfl)|(simp_all;done))
 ·have h2':¬ (k:Int)+1<(s.size:Int):=by omega
  have HP:Hid (zBe ((s.data.toList.drop k).take 2)=false):=zh (by
   have hl:((s.data.toList.drop k).take 2).length=1:=by rw [List.length_take];simp;omega
   cases hp:zBe ((s.data.toList.drop k).take 2)
   ·rfl
   ·unfold zBe at hp
    simp only [Bool.or_eq_true,beq_iff_eq] at hp
    rcases hp with (h|h)|h<;>rw [h] at hl<;>simp at hl)
  go_enter Tryz.func69,Tryz.ntmps69
  go_wp2
  all_goals go_ret
  all_goals refine ⟨zIj ?_,rfl⟩
  all_goals (rw [HD.out,HP.out,HS.out];clear HD HP HS;first|(exfalso;simp_all;done)|(simp only [*,Bool.true_or,Bool.or_true,Bool.or_false,if_true,if_false,Bool.false_eq_true];done)|(simp only [*,Bool.true_or,Bool.or_true,Bool.or_false,if_true,if_false,Bool.false_eq_true];rfl)|(simp_all;done))
end
section
open Go.RowKit
theorem zqh (s:ByteArray) (w:World) :
  Calls Tryz.prog 68 #[.string s] w fun e w'=>e=.returned (.bool (zne s))∧w=w':=by
 have HK:=zh (zPp s)
 go_enter Tryz.func68,Tryz.ntmps68
 go_wp2
 all_goals go_ret
 all_goals refine ⟨zcc ?_,rfl⟩
 all_goals (rw [HK.out];clear HK;first|(exfalso;simp_all;done)|(simp only [*,Bool.false_or,Bool.true_or,Bool.or_true];done)|(simp only [*,Bool.false_or,Bool.true_or,Bool.or_true];rfl))
end
section
open Go.RowKit
theorem zbs (s:ByteArray) (k:Nat) (w:World) (hs:s.size≤maxLen) (hk:k<s.size) (hl:zqf (s[k].toNat:Int)=true) :
  Calls Tryz.prog 35 #[.string s,.int .i64 k] w fun e w'=>e=zhn (zLb s k)∧Below w.heap.size w w':=by
 have hs':=hs
 unfold maxLen at hs'
 have hge:=zee zxe s k
 have hle:=zUc zxe s k (by omega)
 generalize hE:endOf zxe s k=E at *
 have HE:=zh hE
 clear hE
 have HW13:=zh (show 16<E-k→zLb s k=.error 13 from fun h=>by unfold zLb;rw [HE.out,if_pos h])
 have HW1:=zh (show ¬ 16<E-k→zne (s.extract k E)=false→zLb s k=.ok ⟨1,s.extract k E,0,k⟩ from fun h h2=>by unfold zLb;rw [HE.out,if_neg h,if_neg (by simp [h2])])
 have HW2:=zh (show ¬ 16<E-k→zne (s.extract k E)=true→zLb s k=.ok ⟨2,s.extract k E,0,k⟩ from fun h h2=>by unfold zLb;rw [HE.out,if_neg h,if_pos h2])
 go_enter Tryz.func35,Tryz.ntmps35
 go_wp2_with (first
  | (go_at_call 66;refine (zZa _ _).mono ?_;rintro e w' ⟨rfl,rfl⟩)
  | (go_at_call 67;refine (zpb _ _).mono ?_;rintro e w' ⟨rfl,rfl⟩))
 go_loop [7] (fun i=>∃ j:Nat,k≤j∧j≤s.size∧i=.int .i64 j∧endOf zxe s j=E) (fun i=>s.size-(intOf i).toNat)
 case atStart=>exact ⟨k,by omega,by omega,rfl,HE.out⟩
 case round =>
  obtain ⟨j,hkj,hj,rfl,hr⟩:=hrel
  have HR:=zh hr
  clear hr
  by_cases hlt:j<s.size
  ·cases h1:zqf (s[j].toNat:Int)
   ·cases h2:zBd (s[j].toNat:Int)
    ·have hw:zxe (s[j].toNat:Int)=false:=by unfold zxe;rw [h1,h2];rfl
     obtain rfl:E=j:=HR.out.symm.trans (zge hlt hw)
     clear hw
     go_wp2_with (first
      | (go_at_call 66;refine (zZa _ _).mono ?_;rintro e w' ⟨rfl,rfl⟩)
      | (go_at_call 67;refine (zpb _ _).mono ?_;rintro e w' ⟨rfl,rfl⟩))
     all_goals
      first
      | (
        have hgt:16<E-k:=by omega
        rw [HW13.out hgt]
        exact bodyPost_ret (v:=.tuple #[zmb zVa,.int .i64 13]) (by simp [results,Tryz.results35,go_sem,zmb,zVa]) rfl ⟨rfl,by go_grown⟩)
      | (
        refine (zqh _ _).mono ?_
        rintro e w' ⟨rfl,rfl⟩
        cases hkey:zne (s.extract k E)
        ·have HR1:=zh (HW1.out (by omega) hkey)
         go_wp2
         rw [HR1.out]
         exact bodyPost_ret (v:=.tuple #[zmb ⟨1,s.extract k E,0,k⟩,.int .i64 0]) (by simp [results,Tryz.results35,go_sem,zmb]) rfl ⟨rfl,by go_grown⟩
        ·have HR1:=zh (HW2.out (by omega) hkey)
         go_wp2
         rw [HR1.out]
         exact bodyPost_ret (v:=.tuple #[zmb ⟨2,s.extract k E,0,k⟩,.int .i64 0]) (by simp [results,Tryz.results35,go_sem,zmb]) rfl ⟨rfl,by go_grown⟩)
    ·have hw:zxe (s[j].toNat:Int)=true:=by unfold zxe;rw [h1,h2];rfl
     have HN:=zh ((zxc hlt hw).symm.trans HR.out)
     go_wp2_with (first
      | (go_at_call 66;refine (zZa _ _).mono ?_;rintro e w' ⟨rfl,rfl⟩)
      | (go_at_call 67;refine (zpb _ _).mono ?_;rintro e w' ⟨rfl,rfl⟩))
     go_round
     case rel=>exact ⟨j+1,by omega,by omega,by go_num,HN.out⟩
     case measure=>simp [intOf];omega
   ·have hw:zxe (s[j].toNat:Int)=true:=by unfold zxe;rw [h1];rfl
    have HN:=zh ((zxc hlt hw).symm.trans HR.out)
    go_wp2_with (first
     | (go_at_call 66;refine (zZa _ _).mono ?_;rintro e w' ⟨rfl,rfl⟩)
     | (go_at_call 67;refine (zpb _ _).mono ?_;rintro e w' ⟨rfl,rfl⟩))
    go_round
    case rel=>exact ⟨j+1,by omega,by omega,by go_num,HN.out⟩
    case measure=>simp [intOf];omega
  ·obtain rfl:E=j:=HR.out.symm.trans (ztg (by omega))
   go_wp2_with fail
   all_goals
    first
    | (
      have hgt:16<E-k:=by omega
      rw [HW13.out hgt]
      exact bodyPost_ret (v:=.tuple #[zmb zVa,.int .i64 13]) (by simp [results,Tryz.results35,go_sem,zmb,zVa]) rfl ⟨rfl,by go_grown⟩)
    | (
      refine (zqh _ _).mono ?_
      rintro e w' ⟨rfl,rfl⟩
      cases hkey:zne (s.extract k E)
      ·have HR1:=zh (HW1.out (by omega) hkey)
       go_wp2
       rw [HR1.out]
       exact bodyPost_ret (v:=.tuple #[zmb ⟨1,s.extract k E,0,k⟩,.int .i64 0]) (by simp [results,Tryz.results35,go_sem,zmb]) rfl ⟨rfl,by go_grown⟩
      ·have HR1:=zh (HW2.out (by omega) hkey)
       go_wp2
       rw [HR1.out]
       exact bodyPost_ret (v:=.tuple #[zmb ⟨2,s.extract k E,0,k⟩,.int .i64 0]) (by simp [results,Tryz.results35,go_sem,zmb]) rfl ⟨rfl,by go_grown⟩)
def zNj (s:ByteArray) (k d:Nat) (N:Nat) (g:Bool):Prop :=
 (g=false∧N=zzd s k d∧N≤1099511627776)∨(g=true∧1099511627776<zzd s k d∧1099511627776<N∧N≤10995116277769)
theorem zdo {s:ByteArray} {k d N:Nat} {c:Nat} (h:zNj s k d N false) (hc:(bat s (k+d)).toNat=c) (h1:48≤c) (h2:c≤57) :
  (1099511627776<N * 10+(c-48)→zNj s k (d+1) (N * 10+(c-48)) true)∧(¬ 1099511627776<N * 10+(c-48)→zNj s k (d+1) (N * 10+(c-48)) false):=by
 rcases h with ⟨_,h3,h4⟩|⟨h3,_⟩
 ·have e:zzd s k (d+1)=N * 10+(c-48):=by rw [zzd,← h3,hc]
  constructor
  ·intro hg
   exact .inr ⟨rfl,by rw [e];exact hg,hg,by omega⟩
  ·intro hg
   exact .inl ⟨rfl,e.symm,by omega⟩
 ·cases h3
theorem zum {s:ByteArray} {k d N:Nat} (h:zNj s k d N true):zNj s k (d+1) N true:=by
 rcases h with ⟨h3,_⟩|⟨_,h3,h4,h5⟩
 ·cases h3
 ·refine .inr ⟨rfl,?_,h4,h5⟩
  have:=zxj s k d 1
  omega
theorem zal {s:ByteArray} {k d N:Nat} {g:Bool} (h:zNj s k d N g):N≤10995116277769∧(g=false→N≤1099511627776)∧(g=true→1099511627776<N):=by
 rcases h with ⟨rfl,_,h⟩|⟨rfl,_,h,h'⟩
 ·exact ⟨by omega,fun _=>h,(fun h=>by cases h)⟩
 ·exact ⟨h',(fun h=>by cases h),fun _=>h⟩
theorem zQi {s:ByteArray} {k d N E:Nat} {g:Bool} (hE:endOf zBd s k=E) (hd:k+d=E) (h:zNj s k d N g) (hg:g=true∨zle s k=true):zSc s k=.error 12:=by
 unfold zSc
 rw [if_pos]
 rcases hg with hg|hg
 ·right
  rw [hE,show E-k=d by omega]
  rcases h with ⟨h3,_⟩|⟨_,h3,_⟩
  ·rw [hg] at h3;cases h3
  ·exact h3
 ·left;exact hg
theorem zLh {s:ByteArray} {k d N E:Nat} (hE:endOf zBd s k=E) (hd:k+d=E) (h:zNj s k d N false) (hg:zle s k=false):zSc s k=.ok ⟨3,s.extract k E,N,k⟩:=by
 rcases h with ⟨_,h3,h4⟩|⟨h3,_⟩
 ·rw [zql hg hE hd (by rw [← h3];exact h4),← h3]
 ·cases h3
theorem zhr (b:UInt8):((b.toNat:Int) == 48)=(b == 48):=ztc b 48 (by omega)
theorem zQn (s:ByteArray) (k:Nat) (w:World) (hs:s.size≤maxLen) (hk:k<s.size) (hl:zqf (s[k].toNat:Int)=false) (hdg:zBd (s[k].toNat:Int)=true) :
  Calls Tryz.prog 35 #[.string s,.int .i64 k] w fun e w'=>e=zhn (zSc s k)∧Below w.heap.size w w':=by
 have hs':=hs
 unfold maxLen at hs'
 have hge:=zee zBd s k
 have hle:=zUc zBd s k (by omega)
 have HBAD:=zh (show zle s k=(((s[k].toNat:Int) == 48 && decide (k+1<endOf zBd s k)) || (decide (endOf zBd s k<s.size) && zqf ((bat s (endOf zBd s k)).toNat:Int))) by unfold zle;rw [zUb s k hk,zhr])
 generalize hE:endOf zBd s k=E at *
 have HE:=zh hE
 clear hE
 go_enter Tryz.func35,Tryz.ntmps35
 go_wp2_with (first
     | (go_at_call 66;refine (zZa _ _).mono ?_;rintro e w' ⟨rfl,rfl⟩)
     | (go_at_call 67;refine (zpb _ _).mono ?_;rintro e w' ⟨rfl,rfl⟩))
 go_loop [7,13,14] (fun i nv gv=>∃ (d N:Nat) (g:Bool),k+d≤s.size∧i=.int .i64 (k+d:Nat)∧nv=.int .i64 N∧gv=.bool g∧endOf zBd s (k+d)=E∧zNj s k d N g) (fun i _ _=>s.size-(intOf i).toNat)
 case atStart=>exact ⟨0,0,false,by omega,by simp,rfl,rfl,HE.out,.inl ⟨rfl,rfl,by omega⟩⟩
 case round =>
  obtain ⟨d,N,g,hj,rfl,rfl,rfl,hr,hst⟩:=hrel
  have hbd:=zal hst
  have HR:=zh hr
  have HST:=zh hst
  have hN1:(N:Int)≤10995116277769:=by omega
  clear hr hst
  by_cases hlt:k+d<s.size
  ·have hlt2:(k:Int)+(d:Int)<(s.size:Int):=by omega
   cases h2:zBd (s[k+d].toNat:Int)
   ·obtain rfl:E=k+d:=HR.out.symm.trans (zge hlt h2)
    have HBH:=zh (show (decide (k+d<s.size) && zqf ((bat s (k+d)).toNat:Int))=zqf (s[k+d].toNat:Int) by rw [zUb s _ hlt];simp [hlt])
    cases g
    ·cases h3:zqf (s[k+d].toNat:Int)
     ·cases h4:((s[k].toNat:Int) == 48)
      ·have HO:=zh (zLh HE.out rfl HST.out (by rw [HBAD.out,HBH.out,h3,h4];rfl))
       go_wp2_with (first
         | (go_at_call 66;refine (zZa _ _).mono ?_;rintro e w' ⟨rfl,rfl⟩)
         | (go_at_call 67;refine (zpb _ _).mono ?_;rintro e w' ⟨rfl,rfl⟩))
       rw [HO.out]
       exact bodyPost_ret (v:=.tuple #[zmb ⟨3,s.extract k (k+d),N,k⟩,.int .i64 0]) (by simp [results,Tryz.results35,go_sem,zmb]) rfl ⟨rfl,by go_grown⟩
      ·by_cases h5:k+1<k+d
       ·have HO:=zh (zQi HE.out rfl HST.out (Or.inr (by rw [HBAD.out,h4];simp [h5])))
        have h5':(k:Int)+1<(k:Int)+(d:Int):=by omega
        go_wp2_with (first
          | (go_at_call 66;refine (zZa _ _).mono ?_;rintro e w' ⟨rfl,rfl⟩)
          | (go_at_call 67;refine (zpb _ _).mono ?_;rintro e w' ⟨rfl,rfl⟩))
        rw [HO.out]
        exact bodyPost_ret (v:=.tuple #[zmb zVa,.int .i64 12]) (by simp [results,Tryz.results35,go_sem,zmb,zVa]) rfl ⟨rfl,by go_grown⟩
       ·have HO:=zh (zLh HE.out rfl HST.out (by rw [HBAD.out,HBH.out,h3,h4];simp [h5]))
        have h5':¬ (k:Int)+1<(k:Int)+(d:Int):=by omega
        go_wp2_with (first
          | (go_at_call 66;refine (zZa _ _).mono ?_;rintro e w' ⟨rfl,rfl⟩)
          | (go_at_call 67;refine (zpb _ _).mono ?_;rintro e w' ⟨rfl,rfl⟩))
        rw [HO.out]
        exact bodyPost_ret (v:=.tuple #[zmb ⟨3,s.extract k (k+d),N,k⟩,.int .i64 0]) (by simp [results,Tryz.results35,go_sem,zmb]) rfl ⟨rfl,by go_grown⟩
     ·have HO:=zh (zQi HE.out rfl HST.out (Or.inr (by rw [HBAD.out,HBH.out,h3];simp)))
      go_wp2_with (first
        | (go_at_call 66;refine (zZa _ _).mono ?_;rintro e w' ⟨rfl,rfl⟩)
        | (go_at_call 67;refine (zpb _ _).mono ?_;rintro e w' ⟨rfl,rfl⟩))
      rw [HO.out]
      exact bodyPost_ret (v:=.tuple #[zmb zVa,.int .i64 12]) (by simp [results,Tryz.results35,go_sem,zmb,zVa]) rfl ⟨rfl,by go_grown⟩
    ·have HO:=zh (zQi HE.out rfl HST.out (Or.inl rfl))
     go_wp2_with (first
       | (go_at_call 66;refine (zZa _ _).mono ?_;rintro e w' ⟨rfl,rfl⟩)
       | (go_at_call 67;refine (zpb _ _).mono ?_;rintro e w' ⟨rfl,rfl⟩))
     rw [HO.out]
     exact bodyPost_ret (v:=.tuple #[zmb zVa,.int .i64 12]) (by simp [results,Tryz.results35,go_sem,zmb,zVa]) rfl ⟨rfl,by go_grown⟩
   ·have HN:=zh ((zxc hlt h2).symm.trans HR.out)
    have hdr:=zqi h2
    have hbc:(bat s (k+d)).toNat=s[k+d].toNat:=by rw [zUb s _ hlt]
    have HBC:=zh hbc
    clear hbc
    cases g
    ·have hN2:(N:Int)≤1099511627776:=by have:=hbd.2.1 rfl;omega
     have HSS:=zh (zdo HST.out HBC.out (by omega) (by omega))
     by_cases hgr:1099511627776<(N:Int) * 10+((s[k+d].toNat:Int)-48)
     ·have HS2:=zh (HSS.out.1 (by omega))
      have HNV:=zh (show ((N * 10+(s[k+d].toNat-48):Nat):Int)=(N:Int) * 10+((s[k+d].toNat:Int)-48) by omega)
      clear hbd
      go_wp2_with (first
        | (go_at_call 66;refine (zZa _ _).mono ?_;rintro e w' ⟨rfl,rfl⟩)
        | (go_at_call 67;refine (zpb _ _).mono ?_;rintro e w' ⟨rfl,rfl⟩))
      go_round
      case rel=>exact ⟨d+1,N * 10+(s[k+d].toNat-48),true,by omega,by go_num,by rw [HNV.out],rfl,HN.out,HS2.out⟩
      case measure=>simp [intOf];omega
     ·have HS2:=zh (HSS.out.2 (by omega))
      have HNV:=zh (show ((N * 10+(s[k+d].toNat-48):Nat):Int)=(N:Int) * 10+((s[k+d].toNat:Int)-48) by omega)
      clear hbd
      go_wp2_with (first
        | (go_at_call 66;refine (zZa _ _).mono ?_;rintro e w' ⟨rfl,rfl⟩)
        | (go_at_call 67;refine (zpb _ _).mono ?_;rintro e w' ⟨rfl,rfl⟩))
      go_round
      case rel=>exact ⟨d+1,N * 10+(s[k+d].toNat-48),false,by omega,by go_num,by rw [HNV.out],rfl,HN.out,HS2.out⟩
      case measure=>simp [intOf];omega
    ·have hN2:1099511627776<(N:Int):=by have:=hbd.2.2 rfl;omega
     have hN3:¬ (N:Int)≤1099511627776:=by omega
     have HS2:=zh (zum HST.out)
     clear hbd
     go_wp2_with (first
       | (go_at_call 66;refine (zZa _ _).mono ?_;rintro e w' ⟨rfl,rfl⟩)
       | (go_at_call 67;refine (zpb _ _).mono ?_;rintro e w' ⟨rfl,rfl⟩))
     go_round
     case rel=>exact ⟨d+1,N,true,by omega,by go_num,rfl,rfl,HN.out,HS2.out⟩
     case measure=>simp [intOf];omega
  ·obtain rfl:E=k+d:=HR.out.symm.trans (ztg (by omega))
   have hlt2:¬ (k:Int)+(d:Int)<(s.size:Int):=by omega
   have HBH:=zh (show (decide (k+d<s.size) && zqf ((bat s (k+d)).toNat:Int))=false by simp [hlt])
   cases g
   ·cases h4:((s[k].toNat:Int) == 48)
    ·have HO:=zh (zLh HE.out rfl HST.out (by rw [HBAD.out,HBH.out,h4];rfl))
     go_wp2_with (first
       | (go_at_call 66;refine (zZa _ _).mono ?_;rintro e w' ⟨rfl,rfl⟩)
       | (go_at_call 67;refine (zpb _ _).mono ?_;rintro e w' ⟨rfl,rfl⟩))
     rw [HO.out]
     exact bodyPost_ret (v:=.tuple #[zmb ⟨3,s.extract k (k+d),N,k⟩,.int .i64 0]) (by simp [results,Tryz.results35,go_sem,zmb]) rfl ⟨rfl,by go_grown⟩
    ·by_cases h5:k+1<k+d
     ·have HO:=zh (zQi HE.out rfl HST.out (Or.inr (by rw [HBAD.out,h4];simp [h5])))
      have h5':(k:Int)+1<(k:Int)+(d:Int):=by omega
      go_wp2_with (first
        | (go_at_call 66;refine (zZa _ _).mono ?_;rintro e w' ⟨rfl,rfl⟩)
        | (go_at_call 67;refine (zpb _ _).mono ?_;rintro e w' ⟨rfl,rfl⟩))
      rw [HO.out]
      exact bodyPost_ret (v:=.tuple #[zmb zVa,.int .i64 12]) (by simp [results,Tryz.results35,go_sem,zmb,zVa]) rfl ⟨rfl,by go_grown⟩
     ·have HO:=zh (zLh HE.out rfl HST.out (by rw [HBAD.out,HBH.out,h4];simp [h5]))
      have h5':¬ (k:Int)+1<(k:Int)+(d:Int):=by omega
      go_wp2_with (first
        | (go_at_call 66;refine (zZa _ _).mono ?_;rintro e w' ⟨rfl,rfl⟩)
        | (go_at_call 67;refine (zpb _ _).mono ?_;rintro e w' ⟨rfl,rfl⟩))
      rw [HO.out]
      exact bodyPost_ret (v:=.tuple #[zmb ⟨3,s.extract k (k+d),N,k⟩,.int .i64 0]) (by simp [results,Tryz.results35,go_sem,zmb]) rfl ⟨rfl,by go_grown⟩
   ·have HO:=zh (zQi HE.out rfl HST.out (Or.inl rfl))
    go_wp2_with (first
      | (go_at_call 66;refine (zZa _ _).mono ?_;rintro e w' ⟨rfl,rfl⟩)
      | (go_at_call 67;refine (zpb _ _).mono ?_;rintro e w' ⟨rfl,rfl⟩))
    rw [HO.out]
    exact bodyPost_ret (v:=.tuple #[zmb zVa,.int .i64 12]) (by simp [results,Tryz.results35,go_sem,zmb,zVa]) rfl ⟨rfl,by go_grown⟩
theorem zUq {s:ByteArray} {k:Nat} (h:zel s k=0):zFd s k=.error 11:=by
 rw [zXm]
 unfold zel at h
 unfold zms
 rw [← zTi]
 split at h
 ·cases h
 ·split at h
  ·cases h
  ·rename_i h1 h2
   rw [if_neg h1,if_neg h2]
   rfl
theorem zLq {s:ByteArray} {k n:Nat} (hk:k<s.size) (h:zel s k=n) (hn:n≠0):zFd s k=.ok ⟨4,s.extract k (k+n),0,k⟩∧k+n≤s.size:=by
 rw [zXm]
 unfold zel at h
 unfold zms
 rw [← zTi]
 split at h
 ·rename_i h1
  rw [if_pos h1]
  subst h
  refine ⟨rfl,?_⟩
  unfold zBe at h1
  simp only [Bool.or_eq_true,beq_iff_eq] at h1
  have hl:((s.data.toList.drop k).take 2).length=2:=by rcases h1 with (h|h)|h<;>rw [h]<;>rfl
  rw [List.length_take,zss] at hl
  omega
 ·split at h
  ·rename_i h1 h2
   rw [if_neg h1,if_pos h2]
   subst h
   exact ⟨rfl,by omega⟩
  ·exact absurd h.symm hn
theorem zMr (s:ByteArray) (k:Nat) (w:World) (hs:s.size≤maxLen) (hk:k<s.size) (hl:zqf (s[k].toNat:Int)=false) (hdg:zBd (s[k].toNat:Int)=false) :
  Calls Tryz.prog 35 #[.string s,.int .i64 k] w fun e w'=>e=zhn (zFd s k)∧Below w.heap.size w w':=by
 have hs':=hs
 unfold maxLen at hs'
 generalize hn:zel s k=n
 have HN:=zh hn
 clear hn
 by_cases h0:n=0
 ·subst h0
  have HO:=zh (zUq HN.out)
  go_enter Tryz.func35,Tryz.ntmps35
  go_wp2_with (first
  | (go_at_call 66;refine (zZa _ _).mono ?_;rintro e w' ⟨rfl,rfl⟩)
  | (go_at_call 67;refine (zpb _ _).mono ?_;rintro e w' ⟨rfl,rfl⟩)
  | (go_at_call 69;refine (zoi s k _ hs hk).mono ?_;rintro e w' ⟨rfl,rfl⟩;rw [HN.out]))
  rw [HO.out]
  exact bodyPost_ret (v:=.tuple #[zmb zVa,.int .i64 11]) (by simp [results,Tryz.results35,go_sem,zmb,zVa]) rfl ⟨rfl,by go_grown⟩
 ·obtain ⟨ho,hle⟩:=zLq hk HN.out h0
  have HO:=zh ho
  have h0':((n:Int) == 0)=false:=beq_eq_false_iff_ne.2 (by omega)
  clear ho
  go_enter Tryz.func35,Tryz.ntmps35
  go_wp2_with (first
  | (go_at_call 66;refine (zZa _ _).mono ?_;rintro e w' ⟨rfl,rfl⟩)
  | (go_at_call 67;refine (zpb _ _).mono ?_;rintro e w' ⟨rfl,rfl⟩)
  | (go_at_call 69;refine (zoi s k _ hs hk).mono ?_;rintro e w' ⟨rfl,rfl⟩;rw [HN.out]))
  rw [HO.out]
  exact bodyPost_ret (v:=.tuple #[zmb ⟨4,s.extract k (k+n),0,k⟩,.int .i64 0]) (by simp [results,Tryz.results35,go_sem,zmb]) rfl ⟨rfl,by go_grown⟩
theorem one_any (s:ByteArray) (k:Nat) (w:World) (hs:s.size≤maxLen) (hk:k<s.size) :
  Calls Tryz.prog 35 #[.string s,.int .i64 k] w fun e w'=>e=zhn (zpd s k)∧Below w.heap.size w w':=by
 unfold zpd
 rw [zUb s k hk]
 cases hl:zqf (s[k].toNat:Int)
 ·cases hd:zBd (s[k].toNat:Int)
  ·simp only [Bool.false_eq_true,if_false]
   exact zMr s k w hs hk hl hd
  ·simp only [Bool.false_eq_true,if_false,if_true]
   exact zQn s k w hs hk hl hd
 ·simp only [if_true]
  exact zbs s k w hs hk hl
end
section
open Go.RowKit
def zTt (r:zSf) (w:World) (e:Ending) (w':World):Prop :=
 match r with
 | .error (p,c)=>e=.returned (.tuple #[.slice none 0 0,.int .i64 p,.int .i64 c])∧Below w.heap.size w w'
 | .ok ts=>∃ v,e=.returned (.tuple #[v,.int .i64 0,.int .i64 0])∧w'.ownsRow w.heap.size 92 4 v ts.length (cellsOf ts)∧Below w.heap.size w w'
def zuu (s:ByteArray) (w:World) (g:Nat) (v a:Value) (wr:World):Prop :=
 ∃ (k:Nat) (ts:List Tok),k≤s.size∧s.size≤k+g∧a=.int .i64 k∧wr.ownsRow w.heap.size 92 4 v ts.length (cellsOf ts)∧Below w.heap.size w wr∧ts.length≤k∧lexFrom s 0=more ts (lexFrom s k)
theorem Tryz.zJo:(Tryz.prog.info? 92).map (fun i=>(i.zero,i.size,i.bytes))=some (some (.agg #[.int .i64 0,.string ⟨#[]⟩,.int .i64 0,.int .i64 0]),4,40):=by kernel_rfl
theorem zlg (s:ByteArray) (w:World) (hs:s.size≤maxLen) :
  Calls Tryz.prog 17 #[.string s] w fun e w'=>zTt (zZb s) w e w':=by
 by_cases hbig:16384<s.size
 ·have hbig':16384<(s.size:Int):=by omega
  have hr:zZb s=.error (0,10):=by unfold zZb;rw [if_pos hbig]
  rw [hr]
  clear hr
  go_enter Tryz.func17,Tryz.ntmps17
  go_wp2
  go_ret3
  exact ⟨rfl,Below.refl _ _⟩
 have hr:zZb s=lexFrom s 0:=by unfold zZb;rw [if_neg hbig]
 rw [hr]
 clear hr
 have hbig':¬ 16384<(s.size:Int):=by omega
 go_enter Tryz.func17,Tryz.ntmps17
 go_wp2
 go_loopg [5,6] s.size (fun g v a wr=>zuu s w g v a wr)
 case atStart=>exact ⟨0,[],by omega,by omega,rfl,World.ownsRow_nil _ _ _ _,Below.refl _ _,by simp,(zVm _).symm⟩
 case round =>
  obtain ⟨k,ts,hk,hg,rfl,hown,hbel,hlen,hres⟩:=hrel
  have HR:=zh hres
  have HOWN:=zh hown
  have HBEL:=zh hbel
  clear hres hown hbel
  by_cases hlt:k<s.size
  ·cases h32:((s[k].toNat:Int) == 32)
   ·cases h10:((s[k].toNat:Int) == 10)
    ·cases h35:((s[k].toNat:Int) == 35)
     ·have hnb:zHc (bat s k)=false:=by rw [zUb s k hlt];exact zOm h32 h10
      have hnr:¬ bat s k=35:=by rw [zUb s k hlt];exact zwk h35
      cases hta:zpd s k with
      | error e0 =>
       have HE:=zh (zsm hlt hnb hnr hta)
       have hte:=zKi hta
       have HA:=zh hta
       clear hta hnb hnr
       have hne:(e0 != 0)=true:=by rw [bne_iff_ne];omega
       go_wp2_with fail
       refine (one_any s k _ hs hlt).mono ?_
       rintro e w1 ⟨rfl,hb⟩
       rw [HA.out]
       unfold zhn errR zmb
       have HB:=zh (HBEL.out.trans (hb.mono HBEL.out.size))
       obtain ⟨hc,hf⟩:=zWk hb
       clear hb
       go_wp2
       go_ret3
       rw [HR.out,HE.out]
       refine ⟨rfl,?_⟩
       have hz:w.heap.size≤w1.heap.size:=HB.out.size
       exact HB.out.alloc hz _
      | ok t =>
       have hsz:=zfe hlt hta
       have HE:=zh (zmm hlt hnb hnr hta)
       have HA:=zh hta
       clear hta hnb hnr
       go_wp2_with fail
       refine (one_any s k _ hs hlt).mono ?_
       rintro e w1 ⟨rfl,hb⟩
       rw [HA.out]
       unfold zhn okR zmb
       have HB:=zh (HBEL.out.trans (hb.mono HBEL.out.size))
       have HO:=zh (own_below HOWN.out hb)
       obtain ⟨hc,hf⟩:=zWk hb
       have hz:w.heap.size≤w1.heap.size:=HB.out.size
       clear hb
       obtain ⟨i0,hi,hz0,hz1,hz2⟩:=info_parts Tryz.zJo
       go_wp2_with (at_builtin;refine wpList_append_own _ rfl (.tmp 54) (.tmp 56) 85 rfl w.heap.size 92 i0 _ 4 40 Tryz.underlying85 hi hz0 hz1 hz2 rfl (by decide) _ _ _ rfl ((HO.out.alloc _).alloc _) ⟨w1.heap.size+1,0,none⟩ 1 1 (zGa t) rfl rfl ?c1 (zDc t) ?c3 ?c4 ?c5 ?_)
       case c1=>exact zff t _ _ _ (by simp)
       case c3=>unfold maxLen;omega
       case c4=>omega
       case c5=>simp;omega
       intro v' w2 hown2 hgrow2 _
       have HO2:=zh hown2
       have HG2:=zh (((HB.out.alloc hz _).alloc (by simp;omega) _).grown hgrow2 (by simp;omega) (fun j hj=>(HO.out.lt j hj).1))
       have htc:w2.cell? ⟨w1.heap.size,1,none⟩=some (.string t.text) :=
        hgrow2.cell ((World.cell?_alloc_past _ _ _ (by simp)).trans (cell_of_row _ _ _ _ _ _ (heap_alloc_new w1 _))) (fun h=>absurd ((HO.out.lt _ h.symm).2) (Nat.lt_irrefl _))
       clear hown2 hgrow2
       have hsz1:=hsz.1
       have hsz2:=hsz.2
       have hbs:s.size≤16384:=by omega
       clear hsz
       go_wp2
       go_roundg (gk-1)
       case measure=>omega
       case rel=>exact ⟨k+t.text.size,ts++[t],by omega,by omega,by go_num,by rw [zHe];simpa using HO2.out,HG2.out,by simp;omega,HR.out.trans (by rw [HE.out,zTk])⟩
     ·have hnr:bat s k=35:=by rw [zUb s k hlt];exact zMj h35
      have HE:=zh (zSg hlt hnr)
      have hge:=zRe hlt hnr
      have hle:=zUc zdk s k (by omega)
      clear hnr
      go_wp2_with fail
      go_loop [6] (fun i=>∃ j:Nat,k≤j∧j≤s.size∧i=.int .i64 j∧endOf zdk s j=endOf zdk s k) (fun i=>s.size-(intOf i).toNat)
      case atStart=>exact ⟨k,by omega,by omega,rfl,rfl⟩
      case round =>
       obtain ⟨j,hkj,hj,rfl,hrr⟩:=hrel
       have HRR:=zh hrr
       clear hrr
       by_cases hjl:j<s.size
       ·have hjl':(j:Int)<(s.size:Int):=by omega
        cases hp:((s[j].toNat:Int) != 10)
        ·have HJ:=zh ((zge (p:=zdk) hjl hp).symm.trans HRR.out)
         have hjg:k+1≤j:=by have:=HJ.out;omega
         go_wp2_with fail
         go_roundg (gk-1)
         case measure=>omega
         case rel=>exact ⟨j,ts,by omega,by omega,rfl,HOWN.out,HBEL.out,by omega,HR.out.trans (by rw [HE.out,← HJ.out])⟩
        ·have HJ:=zh ((zxc (p:=zdk) hjl hp).symm.trans HRR.out)
         go_wp2_with fail
         go_round
         case rel=>exact ⟨j+1,by omega,by omega,by go_num,HJ.out⟩
         case measure=>simp [intOf];omega
       ·have hjl':¬ (j:Int)<(s.size:Int):=by omega
        have HJ:=zh ((ztg (p:=zdk) (s:=s) (k:=j) (by omega)).symm.trans HRR.out)
        have hjg:k+1≤j:=by omega
        go_wp2_with fail
        go_roundg (gk-1)
        case measure=>omega
        case rel=>exact ⟨j,ts,by omega,by omega,rfl,HOWN.out,HBEL.out,by omega,HR.out.trans (by rw [HE.out,← HJ.out])⟩
    ·have HE:=zh (zDf hlt (by rw [zUb s k hlt];exact zcn h10))
     go_wp2_with fail
     go_roundg (gk-1)
     case measure=>omega
     case rel=>exact ⟨k+1,ts,by omega,by omega,by go_num,HOWN.out,HBEL.out,by omega,HR.out.trans (by rw [HE.out])⟩
   ·have HE:=zh (zDf hlt (by rw [zUb s k hlt];exact zbn h32))
    go_wp2_with fail
    go_roundg (gk-1)
    case measure=>omega
    case rel=>exact ⟨k+1,ts,by omega,by omega,by go_num,HOWN.out,HBEL.out,by omega,HR.out.trans (by rw [HE.out])⟩
  ·have HE:=zh (zMl (s:=s) (k:=k) (by omega))
   have hz:w.heap.size≤wr.heap.size:=HBEL.out.size
   have hbs:s.size≤16384:=by omega
   obtain ⟨i0,hi,hz0,hz1,hz2⟩:=info_parts Tryz.zJo
   go_wp2_with (at_builtin;refine wpList_append_own _ rfl (.tmp 63) (.tmp 67) 85 rfl w.heap.size 92 i0 _ 4 40 Tryz.underlying85 hi hz0 hz1 hz2 rfl (by decide) _ _ _ rfl (HOWN.out.alloc _) ⟨wr.heap.size,0,none⟩ 1 1 (zGa (zQe s)) rfl rfl ?d1 (zDc (zQe s)) ?d3 ?d4 ?d5 ?_)
   case d1=>exact zff (zQe s) _ _ _ rfl
   case d3=>unfold maxLen;omega
   case d4=>omega
   case d5=>simp;omega
   intro v' w2 hown2 hgrow2 _
   have HO2:=zh hown2
   have HG2:=zh ((HBEL.out.alloc hz _).grown hgrow2 (by simp;omega) (fun j hj=>(HOWN.out.lt j hj).1))
   clear hown2 hgrow2
   go_wp2
   go_ret3
   rw [HR.out,HE.out]
   exact ⟨v',rfl,by rw [zHe];simpa using HO2.out,HG2.out⟩
end
section
open Go.RowKit
def RSRel (w:World) (t:T) (kv:Value) (g:Nat) (s i:Value) (wr:World):Prop :=
 ∃ k:Nat,k≤t.kids.length∧t.kids.length≤k+g∧i=.int .i64 k∧s=.int .i64 ((1+sizes (t.kids.take k):Nat):Int)∧Below w.heap.size w wr∧Blk wr w.heap.size (zaa t kv) 36
theorem zXl:∀ (n:Nat) (t:T),t.size≤n→∀ {w:World} {S:Nat→Prop} {kv:Value},KAt 36 w t.kids S kv→t.size≤1000000 →
  Calls Tryz.prog 22 #[zna t kv] w fun e w'=>e=.returned (.int .i64 t.size)∧Below w.heap.size w w':=by
 intro n
 induction n with
 | zero=>intro t ht;cases t;rw [size_mk] at ht;omega
 | succ n ih =>
  intro t ht w S kv hk hbig
  have hts:t.size=1+sizes t.kids:=by cases t;rw [size_mk];rfl
  have HTS:=zh hts
  have HT:=zh ht
  have HBIG:=zh hbig
  have HIH:=zh (@ih)
  have hkl2:t.kids.length≤1000000:=by have:=zXr t;omega
  rcases hk.form with ⟨rfl,hnil⟩|⟨g,cap,rfl,hg,hcap,hcm,hget⟩
  ·have HN:=zh hnil
   clear hk ih ht hbig hts hnil hkl2
   unfold zna
   go_enter Tryz.func22,Tryz.ntmps22
   go_wp2_with fail
   refine wp_loop_rounds 1 ?_
   rw [rounds_succ]
   go_wp2_with fail
   go_ret
   refine ⟨?_,(Below.refl _ _).alloc (Nat.le_refl _) _⟩
   rw [HTS.out,HN.out,zAa]
   rfl
  ·have HG:=zh hget
   have HCAP:=zh hcap
   have HHG:=zh hg
   have HNEW:=zh (Blk.new w (zaa t (.slice (some ⟨g,0,none⟩) t.kids.length cap)) 36)
   clear hk ih ht hbig hts hget hcap hg
   unfold maxLen at hcm
   unfold zna
   go_enter Tryz.func22,Tryz.ntmps22
   go_wp2_with fail
   go_loopg [3,4] t.kids.length (fun gk s i wr=>RSRel w t (.slice (some ⟨g,0,none⟩) t.kids.length cap) gk s i wr)
   case atStart=>exact ⟨0,by omega,by omega,rfl,by rw [List.take_zero,zAa];rfl,(Below.refl _ _).alloc (Nat.le_refl _) _,HNEW.out⟩
   case round =>
    obtain ⟨k,hk,hgk,rfl,rfl,hbel,hblk⟩:=hrel
    have HB:=zh hbel
    have HBL:=zh hblk
    have hzw:=hblk.lt
    have hsl:sizes (t.kids.take k)≤1000000:=by have h1:=zxg t.kids k;have h2:=HTS.out;have h3:=HBIG.out;omega
    have cx:wr.cell? ⟨w.heap.size,4,none⟩=some (.slice (some ⟨g,0,none⟩) t.kids.length cap):=HBL.out.cell 4
    clear hbel hblk
    by_cases hlt:k<t.kids.length
    ·obtain ⟨u,hr,hT⟩:=HG.out k t.kids[k] (List.getElem?_eq_getElem hlt)
     have hne:=List.getElem?_eq_getElem hlt
     generalize t.kids[k]=tk at hr hT hne
     have HR:=zh (zua hr HB.out HHG.out)
     have HTK:=zh (hT.below HB.out)
     have HNE:=zh hne
     have hcap:=HCAP.out
     have hks:=zAi hne
     clear hr hT hne
     go_wp2_with ((with_reducible refine zqa 36 (.tmp 16) ?_);refine wpList_load_mid rfl 36 (.tmp 16) rfl g (k * 5) rfl (zaa tk u) _ HR.out Tryz.underlying36 rfl Tryz.zha ?_)
     refine (HIH.out tk (by have h2:=HTS.out;have h3:=HT.out;omega) HTK.out.kat (by have h2:=HTS.out;have h3:=HBIG.out;omega)).mono ?_
     rintro e w2 ⟨rfl,hb2⟩
     have HB2:=zh (HB.out.trans (hb2.mono HB.out.size))
     have HBL2:=zh (HBL.out.below hb2)
     have hks2:tk.size≤1000000:=by have h2:=HTS.out;have h3:=HBIG.out;omega
     clear hb2 cx
     go_wp2
     go_roundg (gk-1)
     case measure=>omega
     case rel =>
      refine ⟨k+1,by omega,by omega,by go_num,?_,HB2.out,HBL2.out⟩
      rw [znj _ _ _ HNE.out]
      go_num
    ·have HE:=zh (show t.kids.take k=t.kids from List.take_of_length_le (by omega))
     go_wp2
     go_ret
     exact ⟨by rw [HTS.out,HE.out];rfl,HB.out⟩
end
end Go.Proofs.YtpjnpffcnmgdcaaGreatDoor
