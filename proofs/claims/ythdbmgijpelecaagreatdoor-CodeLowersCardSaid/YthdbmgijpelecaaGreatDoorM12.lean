/- The contract of syntax.Size. Plain facts on the account of lex.Tokens: what a token hangs on is the bytes from its place on, of these its own bytes and the one behind them. Nothing of the program is walked here. Plain facts on faults: what stands ahead of the first fault is read without one, and what begins at its place has it at once. Nothing of the program is walked here. Towards the contract of syntax.Parse in a world that holds the tables of lex: it answers what the plain reader does, in new memory, and changes nothing that was there. syntax.Parse where the tokens have a fault. syntax.Parse where the tokens are read. The contract of syntax.Parse in a world that holds the tables of lex: it answers what the plain reader does, in new memory, and changes nothing that was there. The row of a slice of trees. Nothing of the program is walked here. The plain account of layer 7: instructions, and how a function's tree is laid out as a list of them. Nothing of the program is walked here. -/
import Derived.Test.YthdbmgijpelecaaGreatDoorM03
import Derived.Test.YthdbmgijpelecaaGreatDoorM11
import Derived.Test.YthdbmgijpelecaaGreatDoorM01
import Derived.Test.YthdbmgijpelecaaGreatDoorM02
namespace Go.Proofs.YthdbmgijpelecaaGreatDoor
set_option maxRecDepth 100000
set_option maxHeartbeats 2000000
section
open Go.RowKit
def zit (w:World) (ks:List T) (g:Nat) (s i:Value) (wr:World):Prop :=
 ∃ k:Nat,k≤ks.length∧ks.length≤k+g∧i=.int .i64 k∧s=.int .i64 ((1+sizes (ks.take k):Nat):Int)∧Below w.heap.size w wr
theorem size_any:∀ (n:Nat) (t:T),t.size≤n→∀ {w:World} {S:Nat→Prop} {kv:Value},KAt 25 w t.kids S kv→t.size≤1000000 →
  Calls Tryz.prog 30 #[zma t kv] w fun e w'=>e=.returned (.int .i64 t.size)∧Below w.heap.size w w':=by
 intro n
 induction n with
 | zero=>intro t ht;cases t;rw [size_mk] at ht;omega
 | succ n ih =>
  intro t ht w S kv hk hbig
  have hts:t.size=1+sizes t.kids:=by cases t;rw [size_mk];rfl
  have HTS:=zh hts
  have HT:=zh ht
  have HBIG:=zh hbig
  have HIH:=zh (@ih)
  have hkl:t.kids.length≤sizes t.kids:=by
   have:∀ ks:List T,ks.length≤sizes ks:=fun ks=>by
    induction ks with
    | nil=>simp
    | cons a ks h=>rw [zoa];cases a;rw [size_mk];simp;omega
   exact this _
  have hkl2:t.kids.length≤1000000:=by omega
  rcases hk.form with ⟨rfl,hnil⟩|⟨g,cap,rfl,hg,hcap,hcm,hget⟩
  ·have HN:=zh hnil
   clear hk ih ht hbig hts hnil hkl hkl2
   unfold zma
   go_enter Tryz.func30,Tryz.ntmps30
   go_wp2_with fail
   refine wp_loop_rounds 1 ?_
   rw [rounds_succ]
   go_wp2_with fail
   go_ret
   refine ⟨?_,(Below.refl _ _).alloc (Nat.le_refl _) _⟩
   rw [HTS.out,HN.out,zwa]
   rfl
  ·have HG:=zh hget
   have HCAP:=zh hcap
   clear hk ih ht hbig hts hget hkl hcap
   unfold maxLen at hcm
   unfold zma
   go_enter Tryz.func30,Tryz.ntmps30
   go_wp2_with fail
   go_loopg [3,9] t.kids.length (fun gk s i wr=>zit w t.kids gk s i wr)
   case atStart=>exact ⟨0,by omega,by omega,rfl,by rw [List.take_zero,zwa];rfl,(Below.refl _ _).alloc (Nat.le_refl _) _⟩
   case round =>
    obtain ⟨k,hk,hgk,rfl,rfl,hbel⟩:=hrel
    have HB:=zh hbel
    have hzw:=hbel.size
    have hsl:sizes (t.kids.take k)≤1000000:=by have h1:=zsd t.kids k;have h2:=HTS.out;have h3:=HBIG.out;omega
    clear hbel
    by_cases hlt:k<t.kids.length
    ·obtain ⟨u,hr,hT⟩:=HG.out k t.kids[k] (List.getElem?_eq_getElem hlt)
     have hne:=List.getElem?_eq_getElem hlt
     generalize t.kids[k]=tk at hr hT hne
     have HR:=zh (zpa hr ((HB.out.mono (Nat.le_refl _))) hg)
     have HTK:=zh (hT.below (HB.out))
     have HNE:=zh hne
     have hcap:=HCAP.out
     have hks:=zXf hne
     clear hr hT hne
     go_wp2_with (first
      | ((with_reducible refine zra 25 (.tmp 11) ?_);refine wpList_load_mid rfl 25 (.tmp 11) rfl g (k * 5) rfl (zaa tk u) _ HR.out Tryz.underlying25 rfl Tryz.zha ?_)
      | ((with_reducible refine zla 25 (.tmp 5) ?_);refine zga rfl 25 (.tmp 5) (.tmp 12) rfl (zaa tk u) (old:=zba) rfl rfl Tryz.zha rfl (zda _ _ HTK.out.kat.one) ?_)
      | ((with_reducible refine zra 25 (.tmp 5) ?_);refine zja rfl 25 (.tmp 5) rfl wr.heap.size (zaa tk u) rfl (Blk.new wr _ _) Tryz.underlying25 rfl Tryz.zha ?_))
     refine (HIH.out tk (by have h2:=HTS.out;have h3:=HT.out;omega) (HTK.out.alloc _).kat (by have h2:=HTS.out;have h3:=HBIG.out;omega)).mono ?_
     rintro e w2 ⟨rfl,hb2⟩
     have HB2:=zh ((HB.out.alloc hzw _).trans (hb2.mono (by simp;omega)))
     have hks2:tk.size≤1000000:=by have h2:=HTS.out;have h3:=HBIG.out;omega
     clear hb2
     go_wp2
     go_roundg (gk-1)
     case measure=>omega
     case rel =>
      refine ⟨k+1,by omega,by omega,by go_num,?_,HB2.out⟩
      rw [zeg _ _ _ HNE.out]
      go_num
    ·have HE:=zh (show t.kids.take k=t.kids from List.take_of_length_le (by omega))
     go_wp2
     go_ret
     exact ⟨by rw [HTS.out,HE.out];rfl,HB.out⟩
end
section
open Go.RowKit
abbrev Tri:=Except Int (Nat × Nat × Nat)
def zWe (l:List UInt8):Bool:=l == [45,62] || l == [60,61] || l == [61,61]
def zqr (l:List UInt8):Tri :=
 if zWe (l.take 2)=true then .ok (4,2,0) else if zrd (l.getD 0 0)=true then .ok (4,1,0) else .error 11
def zst (s:ByteArray) (k:Nat):Tri→Except Int Tok
 | .error e=>.error e
 | .ok (kd,n,v)=>.ok ⟨kd,s.extract k (k+n),v,k⟩
theorem zfr (s:ByteArray) (k i:Nat):bat s (k+i)=(s.data.toList.drop k).getD i 0:=by
 unfold bat
 simp [List.getD_eq_getElem?_getD,List.getElem?_drop]
theorem zKi (s:ByteArray) (k:Nat):bat s k=(s.data.toList.drop k).getD 0 0:=zfr s k 0
theorem zZe (s:ByteArray) (a n:Nat):(s.extract a (a+n)).data.toList=(s.data.toList.drop a).take n:=by
 rw [ByteArray.data_extract,Array.toList_extract]
 simp [List.extract_eq_take_drop]
theorem zjk (s:ByteArray) (k i:Nat) (hi:i<3):zdf (s.extract k s.size) (zRc i)=((s.data.toList.drop k).take 2 == (zRc i).data.toList):=by
 have hx:(s.extract k s.size).data.toList=s.data.toList.drop k:=by
  rcases Nat.le_total k s.size with h|h
  ·have:=zZe s k (s.size-k)
   rw [show k+(s.size-k)=s.size by omega] at this
   rw [this,List.take_of_length_le (by simp)]
  ·rw [List.drop_of_length_le (by simpa using h)]
   apply List.eq_nil_of_length_eq_zero
   have:(s.extract k s.size).data.toList.length=(s.extract k s.size).size:=Array.length_toList
   rw [this,ByteArray.size_extract]
   omega
 have hsz:(s.extract k s.size).size=(s.data.toList.drop k).length:=by rw [← hx];exact Array.length_toList.symm
 have h2:=zzf i hi
 have hp2:(zRc i).data.toList.length=2:=by rw [Array.length_toList];exact h2
 unfold zdf
 rw [ByteArray.toList_eq,ByteArray.toList_eq,h2]
 have h0:=zZe (s.extract k s.size) 0 2
 rw [Nat.zero_add] at h0
 rw [h0,List.drop_zero,hx,hsz,Bool.eq_iff_iff]
 simp only [Bool.and_eq_true,decide_eq_true_eq,beq_iff_eq]
 constructor
 ·exact fun h=>h.2
 ·intro h
  refine ⟨?_,h⟩
  have:=congrArg List.length h
  rw [hp2,List.length_take] at this
  omega
theorem zFl {a b:ByteArray} (h:a.data.toList=b.data.toList):a=b:=by
 obtain ⟨⟨x⟩⟩:=a
 obtain ⟨⟨y⟩⟩:=b
 simp at h
 rw [h]
theorem zYf (s:ByteArray) (k i:Nat) (h:((s.data.toList.drop k).take 2 == (zRc i).data.toList)=true):zRc i=s.extract k (k+2):=by
 apply zFl
 rw [zZe]
 exact (beq_iff_eq.1 h).symm
theorem zVm (s:ByteArray) (k:Nat):zne s k=zst s k (zqr (s.data.toList.drop k)):=by
 have p0:=zjk s k 0 (by omega)
 have p1:=zjk s k 1 (by omega)
 have p2:=zjk s k 2 (by omega)
 have d0:(zRc 0).data.toList=[45,62]:=rfl
 have d1:(zRc 1).data.toList=[60,61]:=rfl
 have d2:(zRc 2).data.toList=[61,61]:=rfl
 unfold zne zpb zpb zpb zpb zgf zqr zWe
 simp only [show 2-2=0 by rfl,show 2-1=1 by rfl,show 2-0=2 by rfl]
 rw [p0,p1,p2,← zKi,d0,d1,d2]
 cases h0:((s.data.toList.drop k).take 2 == [45,62])
 ·cases h1:((s.data.toList.drop k).take 2 == [60,61])
  ·cases h2:((s.data.toList.drop k).take 2 == [61,61])
   ·simp only [Bool.false_eq_true,if_false,Bool.or_false]
    split<;>rfl
   ·simp only [Bool.false_eq_true,if_false,Bool.false_or,if_true]
    rw [zYf s k 2 (by rw [d2];exact h2)]
    rfl
  ·simp only [Bool.false_eq_true,if_false,Bool.false_or,Bool.true_or,if_true]
   rw [zYf s k 1 (by rw [d1];exact h1)]
   rfl
 ·simp only [Bool.true_or,if_true]
  rw [zYf s k 0 (by rw [d0];exact h0)]
  rfl
def Behind (l l':List UInt8) (n:Nat):Prop:=l'[n]?=none∨l'[n]?=l[n]?∨l'[n]?=some 32∨l'[n]?=some 10
end
section
open Go.RowKit
theorem zsk {s:ByteArray} {P:Nat→zqg→Prop}
  (hend:∀ k,s.size≤k→P k (.ok [zvf s]))
  (hblank:∀ k,k<s.size→zld (bat s k)=true→P (k+1) (lexFrom s (k+1))→P k (lexFrom s (k+1)))
  (hrem:∀ k,k<s.size→bat s k=35→P (endOf zbk s k) (lexFrom s (endOf zbk s k))→P k (lexFrom s (endOf zbk s k)))
  (herr:∀ k e,k<s.size→zld (bat s k)=false→¬ bat s k=35→zTd s k=.error e→P k (.error (k,e)))
  (htok:∀ k t,k<s.size→zld (bat s k)=false→¬ bat s k=35→zTd s k=.ok t→P (k+t.text.size) (lexFrom s (k+t.text.size))→P k (more [t] (lexFrom s (k+t.text.size)))) :
  ∀ k,P k (lexFrom s k):=by
 intro k
 generalize hm:s.size-k=m
 induction m using Nat.strongRecOn generalizing k with
 | ind m ih =>
  rcases Nat.lt_or_ge k s.size with hk|hk
  ·cases hb:zld (bat s k)
   ·by_cases hr:bat s k=35
    ·rw [zjh hk hr]
     have:=zlf hk hr
     exact hrem k hk hr (ih _ (by omega) _ rfl)
    ·cases ht:zTd s k with
     | error e=>rw [zem hk hb hr ht];exact herr k e hk hb hr ht
     | ok t =>
      rw [zlm hk hb hr ht]
      have:=(zKe hk ht).1
      exact htok k t hk hb hr ht (ih _ (by omega) _ rfl)
   ·rw [zRf hk hb]
    exact hblank k hk hb (ih _ (by omega) _ rfl)
  ·rw [zRl hk]
   exact hend k hk
theorem zkn {ts:List Tok} {r:zqg} {x:Nat × Int} (h:more ts r=.error x):r=.error x:=by
 cases r with
 | error e=>exact h
 | ok t=>cases h
theorem zWp {s:ByteArray} {k:Nat} {e:Int}:∀ j,lexFrom s j=.error (k,e)→j≤k∧k<s.size∧zld (bat s k)=false∧¬ bat s k=35∧zTd s k=.error e:=by
 apply zsk (P:=fun j r=>r=.error (k,e)→j≤k∧k<s.size∧zld (bat s k)=false∧¬ bat s k=35∧zTd s k=.error e)
 ·intro j _ h;cases h
 ·intro j _ _ ih h
  have:=ih h
  exact ⟨by omega,this.2⟩
 ·intro j hj hb ih h
  have:=ih h
  have h2:=zlf hj hb
  exact ⟨by omega,this.2⟩
 ·intro j e' hj hb hr ht h
  cases h
  exact ⟨Nat.le_refl _,hj,hb,hr,ht⟩
 ·intro j t hj hb hr ht ih h
  have:=ih (zkn h)
  have h2:=(zKe hj ht).1
  exact ⟨by omega,this.2⟩
theorem zor (s:ByteArray) (k:Nat):(s.data.toList.drop k).length=s.size-k:=by simp
end
section
open Go.RowKit
theorem zrn {s:ByteArray} {k:Nat} {t:Tok} (h:zTd s k=.ok t):t.kind≠0∧t.num≤1099511627776∧t.place=k:=by
 have hs:∀ n,zpb s k n=.ok t→t.kind≠0∧t.num≤1099511627776∧t.place=k:=by
  intro n
  induction n with
  | zero =>
   unfold zpb zgf
   split
   ·intro h;cases h;exact ⟨by simp,by simp,rfl⟩
   ·intro h;cases h
  | succ n ih =>
   unfold zpb
   split
   ·intro h;cases h;exact ⟨by simp,by simp,rfl⟩
   ·exact ih
 unfold zTd at h
 split at h
 ·unfold zZb at h
  split at h
  ·cases h
  ·split at h<;>cases h<;>exact ⟨by simp,by simp,rfl⟩
 ·split at h
  ·unfold zAd at h
   split at h
   ·cases h
   ·rename_i hc
    cases h
    exact ⟨by simp,by simp only;omega,rfl⟩
  ·exact hs 3 h
theorem zHl {s:ByteArray} (hs:s.size≤16384):∀ k,k≤s.size→∀ ts,lexFrom s k=.ok ts→Ends ts∧(∀ t∈ts,zak t)∧ts.length+k≤s.size+1:=by
 apply zsk (P:=fun k r=>k≤s.size→∀ ts,r=.ok ts→Ends ts∧(∀ t∈ts,zak t)∧ts.length+k≤s.size+1)
 ·intro k _ hk ts h
  cases h
  refine ⟨.inl ⟨rfl,rfl,rfl⟩,fun t ht=>?_,by simp;omega⟩
  obtain rfl:t=zvf s:=by simpa using ht
  exact ⟨by simp [zvf],hs,by show (0:Nat)≤_;omega⟩
 ·intro k hk _ ih _ ts h
  obtain ⟨h1,h2,h3⟩:=ih (by omega) ts h
  exact ⟨h1,h2,by omega⟩
 ·intro k hk hb ih _ ts h
  have hg:=zlf hk hb
  obtain ⟨h1,h2,h3⟩:=ih (zEd zbk s k (by omega)) ts h
  exact ⟨h1,h2,by omega⟩
 ·intro k e _ _ _ _ _ ts h;cases h
 ·intro k t hk _ _ ht ih _ ts h
  have hz:=zKe hk ht
  have hg:=zrn ht
  cases hr:lexFrom s (k+t.text.size) with
  | error e=>rw [hr] at h;cases h
  | ok ts' =>
   rw [hr] at h
   cases h
   obtain ⟨h1,h2,h3⟩:=ih hz.2 ts' hr
   refine ⟨.inr ⟨hg.1,h1⟩,fun u hu=>?_,by simp;omega⟩
   rcases List.mem_cons.1 hu with rfl|hu
   ·exact ⟨hg.2.1,by rw [hg.2.2];omega,by omega⟩
   ·exact h2 u hu
theorem zxf {s:ByteArray} {ts:List Tok} (h:zHc s=.ok ts):Ends ts∧(∀ t∈ts,zak t)∧ts.length≤16385:=by
 unfold zHc at h
 split at h
 ·cases h
 ·obtain ⟨h1,h2,h3⟩:=zHl (by omega) 0 (by omega) ts h
  exact ⟨h1,h2,by omega⟩
theorem zqi {s:ByteArray} {p:Nat} {c:Int} (h:zHc s=.error (p,c)):10≤c∧c≤13:=by
 unfold zHc at h
 split at h
 ·cases h;decide
 ·obtain ⟨_,_,_,_,h1⟩:=zWp 0 h
  have:=zNi h1
  omega
def zZg (r:T × Nat × Int) (w:World) (e:Ending) (w':World):Prop :=
 ∃ kv,e=.returned (.tuple #[zma r.1 kv,.int .i64 r.2.1,.int .i64 r.2.2])∧KAt 25 w' r.1.kids (fun b=>w.heap.size≤b) kv∧Below w.heap.size w w'
theorem zff {P:Program} {fn:Func} {s u z:Tmp} {ty t:TypeId} (h:fn.results=#[.cell s ty,.tmp u,.tmp z]) {a:Act} {W:World} {g:Nat} {cs:List Value} {d:TypeDesc} {R:Ending→World→Prop} {x y:Value} (hs:a.tmps.getD s undef=.pointer (some ⟨g,0,none⟩))
  (hb:Blk W g cs t) (hu:P.underlying ty=some d) (hd:d.isRow=true) (hi:(P.info? ty).map (·.size)=some cs.length) (hx:a.tmps.getD u undef=x) (hy:a.tmps.getD z undef=y) (hdf:a.defers=[]) (hR:R (.returned (.tuple #[.agg cs.toArray,x,y])) W) :
  bodyPost P fn R .ret a W:=by
 refine bodyPost_ret ?_ hdf hR
 have hl:=run_loadVar_mid (P:=P) W g 0 ty cs d (fun j v hj=>by rw [Nat.zero_add,hb.cell j];exact hj) hu hd hi
 have hs':a.tmps[s]?.getD undef=.pointer (some ⟨g,0,none⟩):=by rw [← hs];simp
 have hx':a.tmps[u]?.getD undef=x:=by rw [← hx];simp
 have hy':a.tmps[z]?.getD undef=y:=by rw [← hy];simp
 simp [results,h,hs',asAddr,hl,hx',hy']
theorem below_setRow {B:Nat} {w W:World} (hb:Below B w W) {g:Nat} (hg:B≤g) (cs:Array Value):Below B w (W.setRow g cs) :=
 ⟨hb.os,hb.tape,hb.output,by simpa using hb.size,fun k hk=>(setRow_other W g k cs (by omega)).trans (hb.block k hk)⟩
theorem zxo (s:ByteArray) (w:World) (hs:s.size≤maxLen) (ht:Tabs w) {p:Nat} {c:Int} (hr:zHc s=.error (p,c)) :
  Calls Tryz.prog 11 #[.string s] w (zZg (zFb s) w):=by
 have HTA:=zh (ht.alloc (o:=.cells zba.toArray 25))
 have HS:=zh hs
 clear ht hs
 go_enter Tryz.func11,Tryz.ntmps11
 go_wp2_with fail
 refine (zqh s _ HS.out HTA.out).mono ?_
 intro e w1 hp
 rw [hr] at hp
 obtain ⟨rfl,hb⟩:=hp
 have hcd:=zqi hr
 have hne:(c != 0)=true:=by rw [bne_iff_ne];omega
 have HP:=zh (show zFb s=(znb,p,c) by unfold zFb;rw [hr])
 have HB:=zh ((Blk.new w zba 25).kp (Kp.of_below (pb:=w.heap.size+1) hb) (by omega))
 have HW:=zh (((Below.refl w.heap.size w).alloc (Nat.le_refl _) _).trans (hb.mono (by simp)))
 clear hb hr hcd
 go_wp2_with ((with_reducible refine zla 25 (.tmp 2) ?_);refine zca rfl 25 (.tmp 2) (.tmp 18) rfl w.heap.size (zaa znb (.slice none 0 0)) rfl rfl HB.out Tryz.zha rfl (zda _ _ rfl) ?_)
 refine zff (cs:=zaa znb (.slice none 0 0)) Tryz.results11 rfl (HB.out.zvb _) Tryz.underlying25 rfl Tryz.zha rfl rfl rfl ?_
 rw [HP.out]
 exact ⟨.slice none 0 0,rfl,KAt.nil _ _ _,below_setRow HW.out (Nat.le_refl _) _⟩
theorem zpo {P:Program} {ops:Array Oper} {Q:Exit→Act→World→Prop} {l:List Oper} {a:Act} (W:World) (h:wpList P ops Q l a W):wpList P ops Q l a W:=h
theorem zyo (s:ByteArray) (w:World) (hs:s.size≤maxLen) (ht:Tabs w) {ts:List Tok} {p:Nat} {c:Int} (hr:zHc s=.ok ts) (hu:zxe ts=.error (p,c)) :
  Calls Tryz.prog 11 #[.string s] w (zZg (zFb s) w):=by
 have HTA:=zh (ht.alloc (o:=.cells zba.toArray 25))
 have HS:=zh hs
 clear ht hs
 go_enter Tryz.func11,Tryz.ntmps11
 go_wp2_with fail
 refine (zqh s _ HS.out HTA.out).mono ?_
 intro e w1 hp
 rw [hr] at hp
 obtain ⟨v,rfl,hown,hb⟩:=hp
 obtain ⟨hE,hok,hlen⟩:=zxf hr
 have hn:0<ts.length:=by obtain ⟨t,r,rfl⟩:=hE.ne;simp
 obtain ⟨g,cap,rfl,hg1,hg2,hcap,hrow⟩:=zxj hown hn
 have HTK:=zh (show Toks w1 g cap ts from ⟨hrow,hg2,hE,hok,hlen,hcap⟩)
 have HB:=zh ((Blk.new w zba 25).kp (Kp.of_below (pb:=w.heap.size+1) hb) (by omega))
 have HW:=zh (((Below.refl w.heap.size w).alloc (Nat.le_refl _) _).trans (hb.mono (by simp)))
 have HPB:=zh (show zFb s=zTc ts by unfold zFb;rw [hr])
 have HLEN:=zh hlen
 clear hb hr hE hok hlen hn hown hrow hg1 hg2 hcap
 go_wp2_with fail
 refine (zen HTK.out).mono ?_
 intro e w2 hp
 rw [hu] at hp
 obtain ⟨rfl,hb,hcd⟩:=hp
 have hne:(c != 0)=true:=by rw [bne_iff_ne];omega
 have HP:=zh (show zFb s=(znb,p,c) by rw [HPB.out];unfold zTc;rw [hu])
 have HB2:=zh (HB.out.kp (Kp.of_below (pb:=w.heap.size+1) hb) (by omega))
 have HW2:=zh (HW.out.trans (hb.mono HW.out.size))
 have hz2:=HB2.out.lt
 clear hb hu hcd
 have HT:=zh ((KAt.nil 25 w2 (fun b=>w.heap.size<b∧b<w2.heap.size)).tat 0 e0 0 0)
 unfold zma
 go_wp2_with (first
  | ((with_reducible refine zla 25 (.tmp 8) ?_);refine zca rfl 25 (.tmp 8) (.tmp 24) rfl w2.heap.size (zaa (znb) (.slice none 0 0)) rfl rfl ((Blk.new w2 zba 25).alloc _) Tryz.zha rfl (zda _ _ rfl) ?_)
  | (
    (with_reducible refine zla 68 (.tmp 9) ?_);refine zca rfl 68 (.tmp 9) (.tmp 25) rfl (w2.heap.size+1) [.int .i64 p,.int .i64 c] rfl rfl ((Blk.zpc w2 (.cells zba.toArray 25) [.int .i64 0,.int .i64 0] 68).zIb w2.heap.size _ (by omega)) Tryz.zsf rfl (by simp [Value.oneCell']) ?_;
    have HBy:=zh ((((HB2.out.alloc (.cells zba.toArray 25)).alloc (.cells #[.int .i64 0,.int .i64 0] 68)).zIb w2.heap.size (zaa (znb) (.slice none 0 0)).toArray (by omega)).zIb (w2.heap.size+1) ([.int .i64 p,.int .i64 c]).toArray (by omega));
    have HNy:=zh ((((Blk.new w2 zba 25).alloc (.cells #[.int .i64 0,.int .i64 0] 68)).zvb (zaa (znb) (.slice none 0 0))).zIb (w2.heap.size+1) ([.int .i64 p,.int .i64 c]).toArray (by omega));
    have HFy:=zh (((Blk.zpc w2 (.cells zba.toArray 25) [.int .i64 0,.int .i64 0] 68).zIb w2.heap.size (zaa (znb) (.slice none 0 0)).toArray (by omega)).zvb [.int .i64 p,.int .i64 c]);
    have HWy:=zh (below_setRow (g:=w2.heap.size+1) (below_setRow (g:=w2.heap.size) ((HW2.out.alloc HW2.out.size (.cells zba.toArray 25)).alloc (by simp;omega) (.cells #[.int .i64 0,.int .i64 0] 68)) (by omega) (zaa (znb) (.slice none 0 0)).toArray) (by omega) ([.int .i64 p,.int .i64 c]).toArray);
    have HTy:Hid (TAt 25 _ (znb) (fun b=>w.heap.size<b∧b<w2.heap.size) (.slice none 0 0)):=((((HT.out.alloc (.cells zba.toArray 25)).alloc (.cells #[.int .i64 0,.int .i64 0] 68)).setRow w2.heap.size (zaa (znb) (.slice none 0 0)).toArray (fun b hb=>by omega)).setRow (w2.heap.size+1) ([.int .i64 p,.int .i64 c]).toArray (fun b hb=>by omega));
    refine zpo ((((w2.alloc (.cells zba.toArray 25)).alloc (.cells #[.int .i64 0,.int .i64 0] 68)).setRow w2.heap.size (zaa (znb) (.slice none 0 0)).toArray).setRow (w2.heap.size+1) ([.int .i64 p,.int .i64 c]).toArray) ?_;generalize (((w2.alloc (.cells zba.toArray 25)).alloc (.cells #[.int .i64 0,.int .i64 0] 68)).setRow w2.heap.size (zaa (znb) (.slice none 0 0)).toArray).setRow (w2.heap.size+1) ([.int .i64 p,.int .i64 c]).toArray=wy at HBy HNy HFy HWy HTy ⊢;
    have hcF:wy.cell? ⟨w2.heap.size+1,1,none⟩=some (.int .i64 c):=HFy.out.cell 1;have hzy:=HFy.out.lt))
 refine AnyE.zxd (S:=fun W=>Blk W (w2.heap.size+1) [.int .i64 p,.int .i64 c] 68) (by kernel_rfl) HFy.out.drew (fun hS=>?_)
 refine AnyE.take (i:=1) (v:=.pointer (some ⟨w2.heap.size+1,0,none⟩)) rfl (by kernel_rfl) (by kernel_rfl) (by kernel_rfl) (by kernel_rfl) (fun _ _ _ h=>h) (Or.inl ⟨by rfl,fun W _=>by go_simp⟩) hS ?_
 refine AnyE.take (i:=2) (v:=.int .i64 p) rfl (by kernel_rfl) (by kernel_rfl) (by kernel_rfl) (by kernel_rfl) (fun _ _ _ h=>h) (Or.inl ⟨by rfl,fun W hW=>by have hcx:W.cell? ⟨w2.heap.size+1,0,none⟩=some (.int .i64 p):=hW.cell 0;go_simp⟩) hS ?_
 refine AnyE.take (i:=3) (v:=.pointer (some ⟨w2.heap.size+1,1,none⟩)) rfl (by kernel_rfl) (by kernel_rfl) (by kernel_rfl) (by kernel_rfl) (fun _ _ _ h=>h) (Or.inl ⟨by rfl,fun W _=>by go_simp⟩) hS ?_
 refine AnyE.take (i:=4) (v:=.int .i64 c) rfl (by kernel_rfl) (by kernel_rfl) (by kernel_rfl) (by kernel_rfl) (fun _ _ _ h=>h) (Or.inl ⟨by rfl,fun W hW=>by have hcx:W.cell? ⟨w2.heap.size+1,1,none⟩=some (.int .i64 c):=hW.cell 1;go_simp⟩) hS ?_
 refine AnyE.one (i:=0) (by kernel_rfl) rfl (by rfl) (fun K hK=>?_)
 go_simp
 refine hK.out _ _ (fun _=>HFy.out.drew) ?_
 clear hK K
 refine AnyE.one (i:=5) (by kernel_rfl) rfl (by rfl) (fun K hK=>?_)
 refine zxc 25 (.tmp 2) (.tmp 30) rfl w.heap.size (zaa znb (.slice none 0 0)) rfl rfl HBy.out.drew Tryz.zha rfl (zda _ _ rfl) ?_
 refine hK.out _ _ (fun _=>HFy.out.drew.zIb w.heap.size _ (by omega)) ?_
 clear hK K
 refine AnyE.one (i:=6) (by kernel_rfl) rfl (by rfl) (fun K hK=>?_)
 go_simp
 refine hK.out _ _ (fun _=>HFy.out.drew.zIb w.heap.size _ (by omega)) ?_
 clear hK K
 refine AnyE.one (i:=7) (by kernel_rfl) rfl (by rfl) (fun K hK=>?_)
 go_simp
 refine hK.out _ _ (fun h=>absurd rfl h) ?_
 clear hK K
 refine AnyE.done (by kernel_rfl) ?_ _
 go_wp2
 refine zff (cs:=zaa znb (.slice none 0 0)) Tryz.results11 rfl (HBy.out.drew.zvb _) Tryz.underlying25 rfl Tryz.zha rfl rfl rfl ?_
 rw [HP.out]
 exact ⟨.slice none 0 0,rfl,KAt.nil _ _ _,below_setRow HWy.out.drew (Nat.le_refl _) _⟩
theorem zar {P:Program} {ops:Array Oper} {Q:Exit→Act→World→Prop} {l:List Oper} {a:Act} (W:World) (h:wpList P ops Q l a W):wpList P ops Q l a W:=h
theorem zhr (s:ByteArray) (w:World) (hs:s.size≤maxLen) (ht:Tabs w) {ts l':List Tok} {t:T} (hr:zHc s=.ok ts) (hu:zxe ts=.ok (t,l')) :
  Calls Tryz.prog 11 #[.string s] w (zZg (zFb s) w):=by
 have HTA:=zh (ht.alloc (o:=.cells zba.toArray 25))
 have HS:=zh hs
 clear ht hs
 go_enter Tryz.func11,Tryz.ntmps11
 go_wp2_with fail
 refine (zqh s _ HS.out HTA.out).mono ?_
 intro e w1 hp
 rw [hr] at hp
 obtain ⟨v,rfl,hown,hb⟩:=hp
 obtain ⟨hE,hok,hlen⟩:=zxf hr
 have hn:0<ts.length:=by obtain ⟨t,r,rfl⟩:=hE.ne;simp
 obtain ⟨g,cap,rfl,hg1,hg2,hcap,hrow⟩:=zxj hown hn
 have HTK:=zh (show Toks w1 g cap ts from ⟨hrow,hg2,hE,hok,hlen,hcap⟩)
 have HB:=zh ((Blk.new w zba 25).kp (Kp.of_below (pb:=w.heap.size+1) hb) (by omega))
 have HW:=zh (((Below.refl w.heap.size w).alloc (Nat.le_refl _) _).trans (hb.mono (by simp)))
 have HPB:=zh (show zFb s=zTc ts by unfold zFb;rw [hr])
 have HLEN:=zh hlen
 clear hb hr hE hok hlen hn hown hrow hg1 hg2 hcap
 go_wp2_with fail
 refine (zen HTK.out).mono ?_
 intro e w2 hp
 rw [hu] at hp
 obtain ⟨kv,rfl,hT,hb⟩:=hp
 have hsz:=zlq hu
 have hsz2:t.size≤1000000:=by have:=HLEN.out;omega
 have HB2:=zh (HB.out.kp (Kp.of_below (pb:=w.heap.size+1) hb) (by omega))
 have HW2:=zh (HW.out.trans (hb.mono HW.out.size))
 have hz2:=HB2.out.lt
 have hz1:=HB.out.lt
 have HT:=zh (hT.mono (S':=fun b=>w.heap.size<b∧b<w2.heap.size) (fun b hb hl=>⟨by omega,hl⟩))
 have HP0:=zh (show zFb s=if 4096<t.size then (znb,0,22) else (t,0,0) by rw [HPB.out];unfold zTc;rw [hu])
 clear hb hu hT hsz
 unfold zma
 go_wp2_with (first
  | ((with_reducible refine zla 25 (.tmp 8) ?_);refine zca rfl 25 (.tmp 8) (.tmp 24) rfl w2.heap.size (zaa (t) (kv)) rfl rfl ((Blk.new w2 zba 25).alloc _) Tryz.zha rfl (zda _ _ HT.out.kat.one) ?_)
  | (
    (with_reducible refine zla 68 (.tmp 9) ?_);refine zca rfl 68 (.tmp 9) (.tmp 25) rfl (w2.heap.size+1) [.int .i64 0,.int .i64 0] rfl rfl ((Blk.zpc w2 (.cells zba.toArray 25) [.int .i64 0,.int .i64 0] 68).zIb w2.heap.size _ (by omega)) Tryz.zsf rfl (by simp [Value.oneCell']) ?_;
    have HBy:=zh ((((HB2.out.alloc (.cells zba.toArray 25)).alloc (.cells #[.int .i64 0,.int .i64 0] 68)).zIb w2.heap.size (zaa (t) (kv)).toArray (by omega)).zIb (w2.heap.size+1) ([.int .i64 0,.int .i64 0]).toArray (by omega));
    have HNy:=zh ((((Blk.new w2 zba 25).alloc (.cells #[.int .i64 0,.int .i64 0] 68)).zvb (zaa (t) (kv))).zIb (w2.heap.size+1) ([.int .i64 0,.int .i64 0]).toArray (by omega));
    have HFy:=zh (((Blk.zpc w2 (.cells zba.toArray 25) [.int .i64 0,.int .i64 0] 68).zIb w2.heap.size (zaa (t) (kv)).toArray (by omega)).zvb [.int .i64 0,.int .i64 0]);
    have HWy:=zh (below_setRow (g:=w2.heap.size+1) (below_setRow (g:=w2.heap.size) ((HW2.out.alloc HW2.out.size (.cells zba.toArray 25)).alloc (by simp;omega) (.cells #[.int .i64 0,.int .i64 0] 68)) (by omega) (zaa (t) (kv)).toArray) (by omega) ([.int .i64 0,.int .i64 0]).toArray);
    have HTy:Hid (TAt 25 _ (t) (fun b=>w.heap.size<b∧b<w2.heap.size) (kv)):=((((HT.out.alloc (.cells zba.toArray 25)).alloc (.cells #[.int .i64 0,.int .i64 0] 68)).setRow w2.heap.size (zaa (t) (kv)).toArray (fun b hb=>by omega)).setRow (w2.heap.size+1) ([.int .i64 0,.int .i64 0]).toArray (fun b hb=>by omega));
    refine zar ((((w2.alloc (.cells zba.toArray 25)).alloc (.cells #[.int .i64 0,.int .i64 0] 68)).setRow w2.heap.size (zaa (t) (kv)).toArray).setRow (w2.heap.size+1) ([.int .i64 0,.int .i64 0]).toArray) ?_;generalize (((w2.alloc (.cells zba.toArray 25)).alloc (.cells #[.int .i64 0,.int .i64 0] 68)).setRow w2.heap.size (zaa (t) (kv)).toArray).setRow (w2.heap.size+1) ([.int .i64 0,.int .i64 0]).toArray=wy at HBy HNy HFy HWy HTy ⊢;
    have hcF:wy.cell? ⟨w2.heap.size+1,1,none⟩=some (.int .i64 0):=HFy.out.cell 1;have hzy:=HFy.out.lt)
  | ((with_reducible refine zra 25 (.tmp 8) ?_);refine zja rfl 25 (.tmp 8) rfl w2.heap.size (zaa t kv) rfl HNy.out Tryz.underlying25 rfl Tryz.zha ?_))
 refine (size_any t.size t (Nat.le_refl _) HTy.out.kat hsz2).mono ?_
 rintro e w3 ⟨rfl,hb3⟩
 have HB3:=zh (HBy.out.kp (Kp.of_below (pb:=w3.heap.size) hb3) (by have:=HBy.out.lt;have:=hb3.size;omega))
 have HN3:=zh (HNy.out.kp (Kp.of_below (pb:=w3.heap.size) hb3) (by have:=HNy.out.lt;have:=hb3.size;omega))
 have HW3:=zh (HWy.out.trans (hb3.mono HWy.out.size))
 have HT3:=zh (HTy.out.below hb3)
 clear hb3
 by_cases hgt:4096<t.size
 ·have hgt':decide ((t.size:Int) > 4096)=true:=by simp;omega
  have hgt2:(4096:Int)<(t.size:Int):=by omega
  have HP:=zh (show zFb s=(znb,0,22) by rw [HP0.out,if_pos hgt])
  clear hgt
  go_wp2_with ((with_reducible refine zla 25 (.tmp 2) ?_);refine zca rfl 25 (.tmp 2) (.tmp 39) rfl w.heap.size (zaa znb (.slice none 0 0)) rfl rfl HB3.out Tryz.zha rfl (zda _ _ rfl) ?_)
  refine zff (cs:=zaa znb (.slice none 0 0)) Tryz.results11 rfl (HB3.out.zvb _) Tryz.underlying25 rfl Tryz.zha rfl rfl rfl ?_
  rw [HP.out]
  exact ⟨.slice none 0 0,rfl,KAt.nil _ _ _,below_setRow HW3.out (Nat.le_refl _) _⟩
 ·have hgt2:¬ (4096:Int)<(t.size:Int):=by omega
  have HP:=zh (show zFb s=(t,0,0) by rw [HP0.out,if_neg hgt])
  clear hgt
  go_wp2_with (first|((with_reducible refine zra 25 (.tmp 8) ?_);refine zja rfl 25 (.tmp 8) rfl w2.heap.size (zaa t kv) rfl HN3.out Tryz.underlying25 rfl Tryz.zha ?_)|((with_reducible refine zla 25 (.tmp 2) ?_);refine zca rfl 25 (.tmp 2) (.tmp 40) rfl w.heap.size (zaa t kv) rfl rfl HB3.out Tryz.zha rfl (zda _ _ HT3.out.kat.one) ?_))
  refine zff (cs:=zaa t kv) Tryz.results11 rfl (HB3.out.zvb _) Tryz.underlying25 rfl Tryz.zha rfl rfl rfl ?_
  rw [HP.out]
  exact ⟨kv,rfl,(HT3.out.kat.setRow w.heap.size _ (fun b hb=>by omega)).mono (fun b hb _=>by omega),below_setRow HW3.out (Nat.le_refl _) _⟩
theorem parse_any (s:ByteArray) (w:World) (hs:s.size≤maxLen) (ht:Tabs w) :
  Calls Tryz.prog 11 #[.string s] w (zZg (zFb s) w):=by
 cases hr:zHc s with
 | error pc=>obtain ⟨p,c⟩:=pc;exact zxo s w hs ht hr
 | ok ts =>
  cases hu:zxe ts with
  | error pc=>obtain ⟨p,c⟩:=pc;exact zyo s w hs ht hr hu
  | ok q=>obtain ⟨t,l'⟩:=q;exact zhr s w hs ht hr hu
end
section
open Go.RowKit
theorem KAt.some1 {e:TypeId} {w:World} {ks:List T} {S:Nat→Prop} {v:Value} (h:KAt e w ks S v) {k:Nat} {t:T} (hk:ks[k]?=some t):∃ g cap,v=.slice (some ⟨g,0,none⟩) ks.length cap∧g<w.heap.size∧ks.length≤cap∧cap≤maxLen ∧
  ∀ k t,ks[k]?=some t→∃ u,w.rangeAt g (k * 5) (zaa t u)∧TAt e w t S u:=by
 rcases h.form with ⟨_,rfl⟩|h
 ·simp at hk
 ·exact h
end
section
open Go.RowKit
structure Tm where
 name:ByteArray
 num:Int
structure Ins where
 op:Int
 place:Nat
 x:ByteArray
 y:ByteArray
 a:Tm
 b:Tm
 args:List Tm
 to:Nat
 has:Bool
def tm0:Tm:=⟨e0,0⟩
def zDa (t:T):Tm:=⟨t.text,t.num⟩
def zFa (t:T) (i:Nat):T:=t.kids.getD i znb
def zir (op:Int) (p:Nat):Ins:=⟨op,p,e0,e0,tm0,tm0,[],0,false⟩
def zed (t:T):List Tm:=t.kids.map zDa
def zeb (t:T) (to:Nat):Ins:=⟨10,t.place,t.text,e0,zDa (zFa t 0),zDa (zFa t 1),[],to,false⟩
def zkf (t:T) (to:Nat):Ins:=⟨11,t.place,e0,e0,tm0,tm0,[],to,false⟩
def zoo (t:T):Ins:=zir 14 t.place
def zfd (t:T):Ins :=
 bif (zFa t 0).kind == 5 then ⟨0,t.place,t.text,e0,zDa (zFa t 0),tm0,[],0,false⟩
 else bif (zFa t 0).kind == 26 || (zFa t 0).kind == 27 then ⟨0,t.place,t.text,e0,⟨(zFa t 0).text,0⟩,tm0,[],0,false⟩
 else bif (zFa t 0).kind == 21 then ⟨1,t.place,t.text,e0,zDa (zFa (zFa t 0) 0),zDa (zFa (zFa t 0) 1),[],0,false⟩
 else bif (zFa t 0).kind == 22 then ⟨2,t.place,t.text,e0,zDa (zFa (zFa t 0) 0),zDa (zFa (zFa t 0) 1),[],0,false⟩
 else bif (zFa t 0).kind == 23 then ⟨3,t.place,t.text,e0,⟨e0,(zFa t 0).num⟩,tm0,[],0,false⟩
 else bif (zFa t 0).kind == 24 then ⟨4,t.place,t.text,e0,⟨(zFa t 0).text,0⟩,tm0,[],0,false⟩
 else bif (zFa t 0).kind == 25 then ⟨5,t.place,t.text,(zFa t 0).text,zDa (zFa (zFa t 0) 0),tm0,[],0,false⟩
 else bif (zFa t 0).kind == 28 then ⟨12,t.place,t.text,(zFa t 0).text,tm0,tm0,zed (zFa t 0),0,false⟩
 else ⟨0,t.place,t.text,e0,tm0,tm0,[],0,false⟩
def zae (t:T):Option Ins :=
 bif t.kind == 11 then some ⟨6,t.place,e0,t.text,zDa (zFa t 0),zDa (zFa t 1),[],0,false⟩
 else bif t.kind == 12 then some ⟨7,t.place,e0,t.text,tm0,tm0,[],0,false⟩
 else bif t.kind == 13 then some ⟨8,t.place,e0,t.text,⟨e0,t.num⟩,tm0,[],0,false⟩
 else bif t.kind == 14 then some ⟨9,t.place,e0,t.text,⟨e0,t.num⟩,tm0,[],0,false⟩
 else bif t.kind == 20 then some ⟨12,t.place,e0,(zFa t 0).text,tm0,tm0,zed (zFa t 0),0,false⟩
 else bif t.kind == 19 then some ⟨13,t.place,e0,t.text,tm0,tm0,zed t,0,false⟩
 else bif t.kind == 17 then some ⟨14,t.place,e0,e0,zDa (zFa t 0),tm0,[],0,decide (0<t.kids.length)⟩
 else bif t.kind == 18 then some (zir 15 t.place)
 else none
def zfe (blk:Nat→List T→List Ins) (c:Nat) (t:T):List Ins :=
 bif t.kind == 15 then
  zeb t (c+(blk (c+1) (zFa t 2).kids).length+2) :: (blk (c+1) (zFa t 2).kids++zkf t (c+(blk (c+1) (zFa t 2).kids).length+(blk (c+(blk (c+1) (zFa t 2).kids).length+2) (zFa t 3).kids).length+2) :: blk (c+(blk (c+1) (zFa t 2).kids).length+2) (zFa t 3).kids)
 else bif t.kind == 16 then
  zeb t (c+(blk (c+1) (zFa t 2).kids).length+2) :: (blk (c+1) (zFa t 2).kids++[zkf t c])
 else bif t.kind == 10 then [zfd t]
 else (zae t).toList
def zQa (blk:Nat→List T→List Ins):Nat→List T→List Ins
 | _,[]=>[]
 | c,t :: ks=>zfe blk c t++zQa blk (c+(zfe blk c t).length) ks
def zBa:Nat→Nat→List T→List Ins
 | 0=>fun _ _=>[]
 | n+1=>zQa (zBa n)
theorem zQd (blk:Nat→List T→List Ins):∀ (c:Nat) (us vs:List T),zQa blk c (us++vs)=zQa blk c us++zQa blk (c+(zQa blk c us).length) vs
 | c,[],vs=>by simp [zQa]
 | c,u :: us,vs=>by
  rw [List.cons_append,zQa,zQa,zQd blk _ us vs,List.append_assoc,List.length_append,Nat.add_assoc]
structure Cod where
 name:ByteArray
 params:List ByteArray
 list:List Ins
def zFk:Cod:=⟨e0,[],[]⟩
def zTh (t:T):T:=bif t.kids.isEmpty then znb else zFa t (t.kids.length-1)
def zqd (ks:List T):List ByteArray:=(ks.filter fun k=>k.kind == 7).map T.text
def zvd (t:T):Cod :=
 bif t.kind == 6 then ⟨t.text,zqd t.kids,zBa 5000 0 (zTh t).kids++[zoo (zTh t)]⟩ else zFk
end
end Go.Proofs.YthdbmgijpelecaaGreatDoor
