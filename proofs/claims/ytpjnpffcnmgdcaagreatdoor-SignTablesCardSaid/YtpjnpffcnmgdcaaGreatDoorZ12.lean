/- Plain facts on the account of lex.Tokens: what a token hangs on is the bytes from its place on, of these its own bytes and the one behind them. Nothing of the program is walked here. Plain facts on faults: what stands ahead of the first fault is read without one, and what begins at its place has it at once. Nothing of the program is walked here. Towards the contract of Parse in a world that holds the tables of lex: it answers what the plain reader does, in new memory, and changes nothing that was there. Parse where the tokens have a fault. Parse where the tokens are read. The contract of Parse in a world that holds the tables of lex: it answers what the plain reader does, in new memory, and changes nothing that was there. -/
import Derived.Test.YtpjnpffcnmgdcaaGreatDoorZ01
import Derived.Test.YtpjnpffcnmgdcaaGreatDoorZ11
namespace Go.Proofs.YtpjnpffcnmgdcaaGreatDoor
set_option maxRecDepth 100000
set_option maxHeartbeats 2000000
section
open Go.RowKit
abbrev Tri:=Except Int (Nat × Nat × Nat)
def zBe (l:List UInt8):Bool:=l == [45,62] || l == [60,61] || l == [61,61]
def zms (l:List UInt8):Tri :=
 if zBe (l.take 2)=true then .ok (4,2,0) else if zKc (l.getD 0 0)=true then .ok (4,1,0) else .error 11
def zHt (s:ByteArray) (k:Nat):Tri→Except Int Tok
 | .error e=>.error e
 | .ok (kd,n,v)=>.ok ⟨kd,s.extract k (k+n),v,k⟩
theorem zyr (s:ByteArray) (k i:Nat):bat s (k+i)=(s.data.toList.drop k).getD i 0:=by
 unfold bat
 simp [List.getD_eq_getElem?_getD,List.getElem?_drop]
theorem zTi (s:ByteArray) (k:Nat):bat s k=(s.data.toList.drop k).getD 0 0:=zyr s k 0
theorem zDe (s:ByteArray) (a n:Nat):(s.extract a (a+n)).data.toList=(s.data.toList.drop a).take n:=by
 rw [ByteArray.data_extract,Array.toList_extract]
 simp [List.extract_eq_take_drop]
theorem zSj (s:ByteArray) (k i:Nat) (hi:i<3):zJe (s.extract k s.size) (zqc i)=((s.data.toList.drop k).take 2 == (zqc i).data.toList):=by
 have hx:(s.extract k s.size).data.toList=s.data.toList.drop k:=by
  rcases Nat.le_total k s.size with h|h
  ·have:=zDe s k (s.size-k)
   rw [show k+(s.size-k)=s.size by omega] at this
   rw [this,List.take_of_length_le (by simp)]
  ·rw [List.drop_of_length_le (by simpa using h)]
   apply List.eq_nil_of_length_eq_zero
   have:(s.extract k s.size).data.toList.length=(s.extract k s.size).size:=Array.length_toList
   rw [this,ByteArray.size_extract]
   omega
 have hsz:(s.extract k s.size).size=(s.data.toList.drop k).length:=by rw [← hx];exact Array.length_toList.symm
 have h2:=zgf i hi
 have hp2:(zqc i).data.toList.length=2:=by rw [Array.length_toList];exact h2
 unfold zJe
 rw [ByteArray.toList_eq,ByteArray.toList_eq,h2]
 have h0:=zDe (s.extract k s.size) 0 2
 rw [Nat.zero_add] at h0
 rw [h0,List.drop_zero,hx,hsz,Bool.eq_iff_iff]
 simp only [Bool.and_eq_true,decide_eq_true_eq,beq_iff_eq]
 constructor
 ·exact fun h=>h.2
 ·intro h
  refine ⟨?_,h⟩
  have:=congrArg List.length h
  rw [hp2,List.length_take] at this
  omega
theorem zfl {a b:ByteArray} (h:a.data.toList=b.data.toList):a=b:=by
 obtain ⟨⟨x⟩⟩:=a
 obtain ⟨⟨y⟩⟩:=b
 simp at h
 rw [h]
theorem zvf (s:ByteArray) (k i:Nat) (h:((s.data.toList.drop k).take 2 == (zqc i).data.toList)=true):zqc i=s.extract k (k+2):=by
 apply zfl
 rw [zDe]
 exact (beq_iff_eq.1 h).symm
theorem zXm (s:ByteArray) (k:Nat):zFd s k=zHt s k (zms (s.data.toList.drop k)):=by
 have p0:=zSj s k 0 (by omega)
 have p1:=zSj s k 1 (by omega)
 have p2:=zSj s k 2 (by omega)
 have d0:(zqc 0).data.toList=[45,62]:=rfl
 have d1:(zqc 1).data.toList=[60,61]:=rfl
 have d2:(zqc 2).data.toList=[61,61]:=rfl
 unfold zFd zbb zbb zbb zbb zMe zms zBe
 simp only [show 2-2=0 by rfl,show 2-1=1 by rfl,show 2-0=2 by rfl]
 rw [p0,p1,p2,← zTi,d0,d1,d2]
 cases h0:((s.data.toList.drop k).take 2 == [45,62])
 ·cases h1:((s.data.toList.drop k).take 2 == [60,61])
  ·cases h2:((s.data.toList.drop k).take 2 == [61,61])
   ·simp only [Bool.false_eq_true,if_false,Bool.or_false]
    split<;>rfl
   ·simp only [Bool.false_eq_true,if_false,Bool.false_or,if_true]
    rw [zvf s k 2 (by rw [d2];exact h2)]
    rfl
  ·simp only [Bool.false_eq_true,if_false,Bool.false_or,Bool.true_or,if_true]
   rw [zvf s k 1 (by rw [d1];exact h1)]
   rfl
 ·simp only [Bool.true_or,if_true]
  rw [zvf s k 0 (by rw [d0];exact h0)]
  rfl
def Behind (l l':List UInt8) (n:Nat):Prop:=l'[n]?=none∨l'[n]?=l[n]?∨l'[n]?=some 32∨l'[n]?=some 10
end
section
open Go.RowKit
theorem zok {s:ByteArray} {P:Nat→zSf→Prop}
  (hend:∀ k,s.size≤k→P k (.ok [zQe s]))
  (hblank:∀ k,k<s.size→zHc (bat s k)=true→P (k+1) (lexFrom s (k+1))→P k (lexFrom s (k+1)))
  (hrem:∀ k,k<s.size→bat s k=35→P (endOf zdk s k) (lexFrom s (endOf zdk s k))→P k (lexFrom s (endOf zdk s k)))
  (herr:∀ k e,k<s.size→zHc (bat s k)=false→¬ bat s k=35→zpd s k=.error e→P k (.error (k,e)))
  (htok:∀ k t,k<s.size→zHc (bat s k)=false→¬ bat s k=35→zpd s k=.ok t→P (k+t.text.size) (lexFrom s (k+t.text.size))→P k (more [t] (lexFrom s (k+t.text.size)))) :
  ∀ k,P k (lexFrom s k):=by
 intro k
 generalize hm:s.size-k=m
 induction m using Nat.strongRecOn generalizing k with
 | ind m ih =>
  rcases Nat.lt_or_ge k s.size with hk|hk
  ·cases hb:zHc (bat s k)
   ·by_cases hr:bat s k=35
    ·rw [zSg hk hr]
     have:=zRe hk hr
     exact hrem k hk hr (ih _ (by omega) _ rfl)
    ·cases ht:zpd s k with
     | error e=>rw [zsm hk hb hr ht];exact herr k e hk hb hr ht
     | ok t =>
      rw [zmm hk hb hr ht]
      have:=(zfe hk ht).1
      exact htok k t hk hb hr ht (ih _ (by omega) _ rfl)
   ·rw [zDf hk hb]
    exact hblank k hk hb (ih _ (by omega) _ rfl)
  ·rw [zMl hk]
   exact hend k hk
theorem zIn {ts:List Tok} {r:zSf} {x:Nat × Int} (h:more ts r=.error x):r=.error x:=by
 cases r with
 | error e=>exact h
 | ok t=>cases h
theorem zTq {s:ByteArray} {k:Nat} {e:Int}:∀ j,lexFrom s j=.error (k,e)→j≤k∧k<s.size∧zHc (bat s k)=false∧¬ bat s k=35∧zpd s k=.error e:=by
 apply zok (P:=fun j r=>r=.error (k,e)→j≤k∧k<s.size∧zHc (bat s k)=false∧¬ bat s k=35∧zpd s k=.error e)
 ·intro j _ h;cases h
 ·intro j _ _ ih h
  have:=ih h
  exact ⟨by omega,this.2⟩
 ·intro j hj hb ih h
  have:=ih h
  have h2:=zRe hj hb
  exact ⟨by omega,this.2⟩
 ·intro j e' hj hb hr ht h
  cases h
  exact ⟨Nat.le_refl _,hj,hb,hr,ht⟩
 ·intro j t hj hb hr ht ih h
  have:=ih (zIn h)
  have h2:=(zfe hj ht).1
  exact ⟨by omega,this.2⟩
theorem zss (s:ByteArray) (k:Nat):(s.data.toList.drop k).length=s.size-k:=by simp
end
section
open Go.RowKit
theorem zSn {s:ByteArray} {k:Nat} {t:Tok} (h:zpd s k=.ok t):t.kind≠0∧t.num≤1099511627776∧t.place=k:=by
 have hs:∀ n,zbb s k n=.ok t→t.kind≠0∧t.num≤1099511627776∧t.place=k:=by
  intro n
  induction n with
  | zero =>
   unfold zbb zMe
   split
   ·intro h;cases h;exact ⟨by simp,by simp,rfl⟩
   ·intro h;cases h
  | succ n ih =>
   unfold zbb
   split
   ·intro h;cases h;exact ⟨by simp,by simp,rfl⟩
   ·exact ih
 unfold zpd at h
 split at h
 ·unfold zLb at h
  split at h
  ·cases h
  ·split at h<;>cases h<;>exact ⟨by simp,by simp,rfl⟩
 ·split at h
  ·unfold zSc at h
   split at h
   ·cases h
   ·rename_i hc
    cases h
    exact ⟨by simp,by simp only;omega,rfl⟩
  ·exact hs 3 h
theorem zHl {s:ByteArray} (hs:s.size≤16384):∀ k,k≤s.size→∀ ts,lexFrom s k=.ok ts→Ends ts∧(∀ t∈ts,zbk t)∧ts.length+k≤s.size+1:=by
 apply zok (P:=fun k r=>k≤s.size→∀ ts,r=.ok ts→Ends ts∧(∀ t∈ts,zbk t)∧ts.length+k≤s.size+1)
 ·intro k _ hk ts h
  cases h
  refine ⟨.inl ⟨rfl,rfl,rfl⟩,fun t ht=>?_,by simp;omega⟩
  obtain rfl:t=zQe s:=by simpa using ht
  exact ⟨by simp [zQe],hs,by show (0:Nat)≤_;omega⟩
 ·intro k hk _ ih _ ts h
  obtain ⟨h1,h2,h3⟩:=ih (by omega) ts h
  exact ⟨h1,h2,by omega⟩
 ·intro k hk hb ih _ ts h
  have hg:=zRe hk hb
  obtain ⟨h1,h2,h3⟩:=ih (zUc zdk s k (by omega)) ts h
  exact ⟨h1,h2,by omega⟩
 ·intro k e _ _ _ _ _ ts h;cases h
 ·intro k t hk _ _ ht ih _ ts h
  have hz:=zfe hk ht
  have hg:=zSn ht
  cases hr:lexFrom s (k+t.text.size) with
  | error e=>rw [hr] at h;cases h
  | ok ts' =>
   rw [hr] at h
   cases h
   obtain ⟨h1,h2,h3⟩:=ih hz.2 ts' hr
   refine ⟨.inr ⟨hg.1,h1⟩,fun u hu=>?_,by simp;omega⟩
   rcases List.mem_cons.1 hu with rfl|hu
   ·exact ⟨hg.2.1,by rw [hg.2.2];omega,by omega⟩
   ·exact h2 u hu
theorem zpf {s:ByteArray} {ts:List Tok} (h:zZb s=.ok ts):Ends ts∧(∀ t∈ts,zbk t)∧ts.length≤16385:=by
 unfold zZb at h
 split at h
 ·cases h
 ·obtain ⟨h1,h2,h3⟩:=zHl (by omega) 0 (by omega) ts h
  exact ⟨h1,h2,by omega⟩
theorem zVh {s:ByteArray} {p:Nat} {c:Int} (h:zZb s=.error (p,c)):10≤c∧c≤13:=by
 unfold zZb at h
 split at h
 ·cases h;decide
 ·obtain ⟨_,_,_,_,h1⟩:=zTq 0 h
  have:=zKi h1
  omega
def zzg (r:T × Nat × Int) (w:World) (e:Ending) (w':World):Prop :=
 ∃ kv,e=.returned (.tuple #[zna r.1 kv,.int .i64 r.2.1,.int .i64 r.2.2])∧KAt 25 w' r.1.kids (fun b=>w.heap.size≤b) kv∧Below w.heap.size w w'
theorem ztb {P:Program} {fn:Func} {s u z:Tmp} {ty t:TypeId} (h:fn.results=#[.cell s ty,.tmp u,.tmp z]) {a:Act} {W:World} {g:Nat} {cs:List Value} {d:TypeDesc} {R:Ending→World→Prop} {x y:Value} (hs:a.tmps.getD s undef=.pointer (some ⟨g,0,none⟩))
  (hb:Blk W g cs t) (hu:P.underlying ty=some d) (hd:d.isRow=true) (hi:(P.info? ty).map (·.size)=some cs.length) (hx:a.tmps.getD u undef=x) (hy:a.tmps.getD z undef=y) (hdf:a.defers=[]) (hR:R (.returned (.tuple #[.agg cs.toArray,x,y])) W) :
  bodyPost P fn R .ret a W:=by
 refine bodyPost_ret ?_ hdf hR
 have hl:=run_loadVar_mid (P:=P) W g 0 ty cs d (fun j v hj=>by rw [Nat.zero_add,hb.cell j];exact hj) hu hd hi
 have hs':a.tmps[s]?.getD undef=.pointer (some ⟨g,0,none⟩):=by rw [← hs];simp
 have hx':a.tmps[u]?.getD undef=x:=by rw [← hx];simp
 have hy':a.tmps[z]?.getD undef=y:=by rw [← hy];simp
 simp [results,h,hs',asAddr,hl,hx',hy']
theorem below_setRow {B:Nat} {w W:World} (hb:Below B w W) {g:Nat} (hg:B≤g) (cs:Array Value):Below B w (W.setRow g cs) :=
 ⟨hb.os,hb.tape,hb.output,by simpa using hb.size,fun k hk=>(setRow_other W g k cs (by omega)).trans (hb.block k hk)⟩
theorem zFq (s:ByteArray) (w:World) (hs:s.size≤maxLen) (ht:Tabs w) {p:Nat} {c:Int} (hr:zZb s=.error (p,c)) :
  Calls Tryz.prog 5 #[.string s] w (zzg (zhb s) w):=by
 have HTA:=zh (ht.alloc (o:=.cells zba.toArray 25))
 have HS:=zh hs
 clear ht hs
 go_enter Tryz.func5,Tryz.ntmps5
 go_wp2_with fail
 refine (zZg s _ HS.out HTA.out).mono ?_
 intro e w1 hp
 rw [hr] at hp
 obtain ⟨rfl,hb⟩:=hp
 have hcd:=zVh hr
 have hne:(c != 0)=true:=by rw [bne_iff_ne];omega
 have HP:=zh (show zhb s=(zdb,p,c) by unfold zhb;rw [hr])
 have HB:=zh ((Blk.new w zba 25).kp (Kp.of_below (pb:=w.heap.size+1) hb) (by omega))
 have HW:=zh (((Below.refl w.heap.size w).alloc (Nat.le_refl _) _).trans (hb.mono (by simp)))
 clear hb hr hcd
 go_wp2_with ((with_reducible refine zla 25 (.tmp 2) ?_);refine zda rfl 25 (.tmp 2) (.tmp 18) rfl w.heap.size (zaa zdb (.slice none 0 0)) rfl rfl HB.out Tryz.zea rfl (zca _ _ rfl) ?_)
 refine ztb (cs:=zaa zdb (.slice none 0 0)) Tryz.results5 rfl (HB.out.zra _) Tryz.underlying25 rfl Tryz.zea rfl rfl rfl ?_
 rw [HP.out]
 exact ⟨.slice none 0 0,rfl,KAt.nil _ _ _,below_setRow HW.out (Nat.le_refl _) _⟩
theorem zHo {P:Program} {ops:Array Oper} {Q:Exit→Act→World→Prop} {l:List Oper} {a:Act} (W:World) (h:wpList P ops Q l a W):wpList P ops Q l a W:=h
theorem zdp (s:ByteArray) (w:World) (hs:s.size≤maxLen) (ht:Tabs w) {ts:List Tok} {p:Nat} {c:Int} (hr:zZb s=.ok ts) (hu:zyd ts=.error (p,c)) :
  Calls Tryz.prog 5 #[.string s] w (zzg (zhb s) w):=by
 have HTA:=zh (ht.alloc (o:=.cells zba.toArray 25))
 have HS:=zh hs
 clear ht hs
 go_enter Tryz.func5,Tryz.ntmps5
 go_wp2_with fail
 refine (zZg s _ HS.out HTA.out).mono ?_
 intro e w1 hp
 rw [hr] at hp
 obtain ⟨v,rfl,hown,hb⟩:=hp
 obtain ⟨hE,hok,hlen⟩:=zpf hr
 have hn:0<ts.length:=by obtain ⟨t,r,rfl⟩:=hE.ne;simp
 obtain ⟨g,cap,rfl,hg1,hg2,hcap,hrow⟩:=zfj hown hn
 have HTK:=zh (show Toks w1 g cap ts from ⟨hrow,hg2,hE,hok,hlen,hcap⟩)
 have HB:=zh ((Blk.new w zba 25).kp (Kp.of_below (pb:=w.heap.size+1) hb) (by omega))
 have HW:=zh (((Below.refl w.heap.size w).alloc (Nat.le_refl _) _).trans (hb.mono (by simp)))
 have HPB:=zh (show zhb s=zIc ts by unfold zhb;rw [hr])
 have HLEN:=zh hlen
 clear hb hr hE hok hlen hn hown hrow hg1 hg2 hcap
 go_wp2_with fail
 refine (zkn HTK.out).mono ?_
 intro e w2 hp
 rw [hu] at hp
 obtain ⟨rfl,hb,hcd⟩:=hp
 have hne:(c != 0)=true:=by rw [bne_iff_ne];omega
 have HP:=zh (show zhb s=(zdb,p,c) by rw [HPB.out];unfold zIc;rw [hu])
 have HB2:=zh (HB.out.kp (Kp.of_below (pb:=w.heap.size+1) hb) (by omega))
 have HW2:=zh (HW.out.trans (hb.mono HW.out.size))
 have hz2:=HB2.out.lt
 clear hb hu hcd
 have HT:=zh ((KAt.nil 25 w2 (fun b=>w.heap.size<b∧b<w2.heap.size)).tat 0 e0 0 0)
 unfold zna
 go_wp2_with (first
  | ((with_reducible refine zla 25 (.tmp 8) ?_);refine zda rfl 25 (.tmp 8) (.tmp 24) rfl w2.heap.size (zaa (zdb) (.slice none 0 0)) rfl rfl ((Blk.new w2 zba 25).alloc _) Tryz.zea rfl (zca _ _ rfl) ?_)
  | (
    (with_reducible refine zla 77 (.tmp 9) ?_);refine zda rfl 77 (.tmp 9) (.tmp 25) rfl (w2.heap.size+1) [.int .i64 p,.int .i64 c] rfl rfl ((Blk.zTe w2 (.cells zba.toArray 25) [.int .i64 0,.int .i64 0] 77).zta w2.heap.size _ (by omega)) Tryz.zVe rfl (by simp [Value.oneCell']) ?_;
    have HBy:=zh ((((HB2.out.alloc (.cells zba.toArray 25)).alloc (.cells #[.int .i64 0,.int .i64 0] 77)).zta w2.heap.size (zaa (zdb) (.slice none 0 0)).toArray (by omega)).zta (w2.heap.size+1) ([.int .i64 p,.int .i64 c]).toArray (by omega));
    have HNy:=zh ((((Blk.new w2 zba 25).alloc (.cells #[.int .i64 0,.int .i64 0] 77)).zra (zaa (zdb) (.slice none 0 0))).zta (w2.heap.size+1) ([.int .i64 p,.int .i64 c]).toArray (by omega));
    have HFy:=zh (((Blk.zTe w2 (.cells zba.toArray 25) [.int .i64 0,.int .i64 0] 77).zta w2.heap.size (zaa (zdb) (.slice none 0 0)).toArray (by omega)).zra [.int .i64 p,.int .i64 c]);
    have HWy:=zh (below_setRow (g:=w2.heap.size+1) (below_setRow (g:=w2.heap.size) ((HW2.out.alloc HW2.out.size (.cells zba.toArray 25)).alloc (by simp;omega) (.cells #[.int .i64 0,.int .i64 0] 77)) (by omega) (zaa (zdb) (.slice none 0 0)).toArray) (by omega) ([.int .i64 p,.int .i64 c]).toArray);
    have HTy:Hid (TAt 25 _ (zdb) (fun b=>w.heap.size<b∧b<w2.heap.size) (.slice none 0 0)):=((((HT.out.alloc (.cells zba.toArray 25)).alloc (.cells #[.int .i64 0,.int .i64 0] 77)).setRow w2.heap.size (zaa (zdb) (.slice none 0 0)).toArray (fun b hb=>by omega)).setRow (w2.heap.size+1) ([.int .i64 p,.int .i64 c]).toArray (fun b hb=>by omega));
    refine zHo ((((w2.alloc (.cells zba.toArray 25)).alloc (.cells #[.int .i64 0,.int .i64 0] 77)).setRow w2.heap.size (zaa (zdb) (.slice none 0 0)).toArray).setRow (w2.heap.size+1) ([.int .i64 p,.int .i64 c]).toArray) ?_;generalize (((w2.alloc (.cells zba.toArray 25)).alloc (.cells #[.int .i64 0,.int .i64 0] 77)).setRow w2.heap.size (zaa (zdb) (.slice none 0 0)).toArray).setRow (w2.heap.size+1) ([.int .i64 p,.int .i64 c]).toArray=wy at HBy HNy HFy HWy HTy ⊢;
    have hcF:wy.cell? ⟨w2.heap.size+1,1,none⟩=some (.int .i64 c):=HFy.out.cell 1;have hzy:=HFy.out.lt))
 refine AnyE.zCc (S:=fun W=>Blk W (w2.heap.size+1) [.int .i64 p,.int .i64 c] 77) (by kernel_rfl) HFy.out.drew (fun hS=>?_)
 refine AnyE.take (i:=1) (v:=.pointer (some ⟨w2.heap.size+1,0,none⟩)) rfl (by kernel_rfl) (by kernel_rfl) (by kernel_rfl) (by kernel_rfl) (fun _ _ _ h=>h) (Or.inl ⟨by rfl,fun W _=>by go_simp⟩) hS ?_
 refine AnyE.take (i:=2) (v:=.int .i64 p) rfl (by kernel_rfl) (by kernel_rfl) (by kernel_rfl) (by kernel_rfl) (fun _ _ _ h=>h) (Or.inl ⟨by rfl,fun W hW=>by have hcx:W.cell? ⟨w2.heap.size+1,0,none⟩=some (.int .i64 p):=hW.cell 0;go_simp⟩) hS ?_
 refine AnyE.take (i:=3) (v:=.pointer (some ⟨w2.heap.size+1,1,none⟩)) rfl (by kernel_rfl) (by kernel_rfl) (by kernel_rfl) (by kernel_rfl) (fun _ _ _ h=>h) (Or.inl ⟨by rfl,fun W _=>by go_simp⟩) hS ?_
 refine AnyE.take (i:=4) (v:=.int .i64 c) rfl (by kernel_rfl) (by kernel_rfl) (by kernel_rfl) (by kernel_rfl) (fun _ _ _ h=>h) (Or.inl ⟨by rfl,fun W hW=>by have hcx:W.cell? ⟨w2.heap.size+1,1,none⟩=some (.int .i64 c):=hW.cell 1;go_simp⟩) hS ?_
 refine AnyE.one (i:=0) (by kernel_rfl) rfl (by rfl) (fun K hK=>?_)
 go_simp
 refine hK.out _ _ (fun _=>HFy.out.drew) ?_
 clear hK K
 refine AnyE.one (i:=5) (by kernel_rfl) rfl (by rfl) (fun K hK=>?_)
 refine zva 25 (.tmp 2) (.tmp 30) rfl w.heap.size (zaa zdb (.slice none 0 0)) rfl rfl HBy.out.drew Tryz.zea rfl (zca _ _ rfl) ?_
 refine hK.out _ _ (fun _=>HFy.out.drew.zta w.heap.size _ (by omega)) ?_
 clear hK K
 refine AnyE.one (i:=6) (by kernel_rfl) rfl (by rfl) (fun K hK=>?_)
 go_simp
 refine hK.out _ _ (fun _=>HFy.out.drew.zta w.heap.size _ (by omega)) ?_
 clear hK K
 refine AnyE.one (i:=7) (by kernel_rfl) rfl (by rfl) (fun K hK=>?_)
 go_simp
 refine hK.out _ _ (fun h=>absurd rfl h) ?_
 clear hK K
 refine AnyE.done (by kernel_rfl) ?_ _
 go_wp2
 refine ztb (cs:=zaa zdb (.slice none 0 0)) Tryz.results5 rfl (HBy.out.drew.zra _) Tryz.underlying25 rfl Tryz.zea rfl rfl rfl ?_
 rw [HP.out]
 exact ⟨.slice none 0 0,rfl,KAt.nil _ _ _,below_setRow HWy.out.drew (Nat.le_refl _) _⟩
theorem zos {P:Program} {ops:Array Oper} {Q:Exit→Act→World→Prop} {l:List Oper} {a:Act} (W:World) (h:wpList P ops Q l a W):wpList P ops Q l a W:=h
theorem zus (s:ByteArray) (w:World) (hs:s.size≤maxLen) (ht:Tabs w) {ts l':List Tok} {t:T} (hr:zZb s=.ok ts) (hu:zyd ts=.ok (t,l')) :
  Calls Tryz.prog 5 #[.string s] w (zzg (zhb s) w):=by
 have HTA:=zh (ht.alloc (o:=.cells zba.toArray 25))
 have HS:=zh hs
 clear ht hs
 go_enter Tryz.func5,Tryz.ntmps5
 go_wp2_with fail
 refine (zZg s _ HS.out HTA.out).mono ?_
 intro e w1 hp
 rw [hr] at hp
 obtain ⟨v,rfl,hown,hb⟩:=hp
 obtain ⟨hE,hok,hlen⟩:=zpf hr
 have hn:0<ts.length:=by obtain ⟨t,r,rfl⟩:=hE.ne;simp
 obtain ⟨g,cap,rfl,hg1,hg2,hcap,hrow⟩:=zfj hown hn
 have HTK:=zh (show Toks w1 g cap ts from ⟨hrow,hg2,hE,hok,hlen,hcap⟩)
 have HB:=zh ((Blk.new w zba 25).kp (Kp.of_below (pb:=w.heap.size+1) hb) (by omega))
 have HW:=zh (((Below.refl w.heap.size w).alloc (Nat.le_refl _) _).trans (hb.mono (by simp)))
 have HPB:=zh (show zhb s=zIc ts by unfold zhb;rw [hr])
 have HLEN:=zh hlen
 clear hb hr hE hok hlen hn hown hrow hg1 hg2 hcap
 go_wp2_with fail
 refine (zkn HTK.out).mono ?_
 intro e w2 hp
 rw [hu] at hp
 obtain ⟨kv,rfl,hT,hb⟩:=hp
 have hsz:=zZo hu
 have hsz2:t.size≤1000000:=by have:=HLEN.out;omega
 have HB2:=zh (HB.out.kp (Kp.of_below (pb:=w.heap.size+1) hb) (by omega))
 have HW2:=zh (HW.out.trans (hb.mono HW.out.size))
 have hz2:=HB2.out.lt
 have hz1:=HB.out.lt
 have HT:=zh (hT.mono (S':=fun b=>w.heap.size<b∧b<w2.heap.size) (fun b hb hl=>⟨by omega,hl⟩))
 have HP0:=zh (show zhb s=if 4096<t.size then (zdb,0,22) else (t,0,0) by rw [HPB.out];unfold zIc;rw [hu])
 clear hb hu hT hsz
 unfold zna
 go_wp2_with (first
  | ((with_reducible refine zla 25 (.tmp 8) ?_);refine zda rfl 25 (.tmp 8) (.tmp 24) rfl w2.heap.size (zaa (t) (kv)) rfl rfl ((Blk.new w2 zba 25).alloc _) Tryz.zea rfl (zca _ _ HT.out.kat.one) ?_)
  | (
    (with_reducible refine zla 77 (.tmp 9) ?_);refine zda rfl 77 (.tmp 9) (.tmp 25) rfl (w2.heap.size+1) [.int .i64 0,.int .i64 0] rfl rfl ((Blk.zTe w2 (.cells zba.toArray 25) [.int .i64 0,.int .i64 0] 77).zta w2.heap.size _ (by omega)) Tryz.zVe rfl (by simp [Value.oneCell']) ?_;
    have HBy:=zh ((((HB2.out.alloc (.cells zba.toArray 25)).alloc (.cells #[.int .i64 0,.int .i64 0] 77)).zta w2.heap.size (zaa (t) (kv)).toArray (by omega)).zta (w2.heap.size+1) ([.int .i64 0,.int .i64 0]).toArray (by omega));
    have HNy:=zh ((((Blk.new w2 zba 25).alloc (.cells #[.int .i64 0,.int .i64 0] 77)).zra (zaa (t) (kv))).zta (w2.heap.size+1) ([.int .i64 0,.int .i64 0]).toArray (by omega));
    have HFy:=zh (((Blk.zTe w2 (.cells zba.toArray 25) [.int .i64 0,.int .i64 0] 77).zta w2.heap.size (zaa (t) (kv)).toArray (by omega)).zra [.int .i64 0,.int .i64 0]);
    have HWy:=zh (below_setRow (g:=w2.heap.size+1) (below_setRow (g:=w2.heap.size) ((HW2.out.alloc HW2.out.size (.cells zba.toArray 25)).alloc (by simp;omega) (.cells #[.int .i64 0,.int .i64 0] 77)) (by omega) (zaa (t) (kv)).toArray) (by omega) ([.int .i64 0,.int .i64 0]).toArray);
    have HTy:Hid (TAt 25 _ (t) (fun b=>w.heap.size<b∧b<w2.heap.size) (kv)):=((((HT.out.alloc (.cells zba.toArray 25)).alloc (.cells #[.int .i64 0,.int .i64 0] 77)).setRow w2.heap.size (zaa (t) (kv)).toArray (fun b hb=>by omega)).setRow (w2.heap.size+1) ([.int .i64 0,.int .i64 0]).toArray (fun b hb=>by omega));
    refine zos ((((w2.alloc (.cells zba.toArray 25)).alloc (.cells #[.int .i64 0,.int .i64 0] 77)).setRow w2.heap.size (zaa (t) (kv)).toArray).setRow (w2.heap.size+1) ([.int .i64 0,.int .i64 0]).toArray) ?_;generalize (((w2.alloc (.cells zba.toArray 25)).alloc (.cells #[.int .i64 0,.int .i64 0] 77)).setRow w2.heap.size (zaa (t) (kv)).toArray).setRow (w2.heap.size+1) ([.int .i64 0,.int .i64 0]).toArray=wy at HBy HNy HFy HWy HTy ⊢;
    have hcF:wy.cell? ⟨w2.heap.size+1,1,none⟩=some (.int .i64 0):=HFy.out.cell 1;have hzy:=HFy.out.lt)
  | ((with_reducible refine zqa 25 (.tmp 8) ?_);refine zia rfl 25 (.tmp 8) rfl w2.heap.size (zaa t kv) rfl HNy.out Tryz.underlying25 rfl Tryz.zea ?_))
 refine (size_any t.size t (Nat.le_refl _) HTy.out.kat hsz2).mono ?_
 rintro e w3 ⟨rfl,hb3⟩
 have HB3:=zh (HBy.out.kp (Kp.of_below (pb:=w3.heap.size) hb3) (by have:=HBy.out.lt;have:=hb3.size;omega))
 have HN3:=zh (HNy.out.kp (Kp.of_below (pb:=w3.heap.size) hb3) (by have:=HNy.out.lt;have:=hb3.size;omega))
 have HW3:=zh (HWy.out.trans (hb3.mono HWy.out.size))
 have HT3:=zh (HTy.out.below hb3)
 clear hb3
 by_cases hgt:4096<t.size
 ·have hgt':decide ((t.size:Int) > 4096)=true:=by simp;omega
  have hgt2:(4096:Int)<(t.size:Int):=by omega
  have HP:=zh (show zhb s=(zdb,0,22) by rw [HP0.out,if_pos hgt])
  clear hgt
  go_wp2_with ((with_reducible refine zla 25 (.tmp 2) ?_);refine zda rfl 25 (.tmp 2) (.tmp 39) rfl w.heap.size (zaa zdb (.slice none 0 0)) rfl rfl HB3.out Tryz.zea rfl (zca _ _ rfl) ?_)
  refine ztb (cs:=zaa zdb (.slice none 0 0)) Tryz.results5 rfl (HB3.out.zra _) Tryz.underlying25 rfl Tryz.zea rfl rfl rfl ?_
  rw [HP.out]
  exact ⟨.slice none 0 0,rfl,KAt.nil _ _ _,below_setRow HW3.out (Nat.le_refl _) _⟩
 ·have hgt2:¬ (4096:Int)<(t.size:Int):=by omega
  have HP:=zh (show zhb s=(t,0,0) by rw [HP0.out,if_neg hgt])
  clear hgt
  go_wp2_with (first|((with_reducible refine zqa 25 (.tmp 8) ?_);refine zia rfl 25 (.tmp 8) rfl w2.heap.size (zaa t kv) rfl HN3.out Tryz.underlying25 rfl Tryz.zea ?_)|((with_reducible refine zla 25 (.tmp 2) ?_);refine zda rfl 25 (.tmp 2) (.tmp 40) rfl w.heap.size (zaa t kv) rfl rfl HB3.out Tryz.zea rfl (zca _ _ HT3.out.kat.one) ?_))
  refine ztb (cs:=zaa t kv) Tryz.results5 rfl (HB3.out.zra _) Tryz.underlying25 rfl Tryz.zea rfl rfl rfl ?_
  rw [HP.out]
  exact ⟨kv,rfl,(HT3.out.kat.setRow w.heap.size _ (fun b hb=>by omega)).mono (fun b hb _=>by omega),below_setRow HW3.out (Nat.le_refl _) _⟩
theorem parse_any (s:ByteArray) (w:World) (hs:s.size≤maxLen) (ht:Tabs w) :
  Calls Tryz.prog 5 #[.string s] w (zzg (zhb s) w):=by
 cases hr:zZb s with
 | error pc=>obtain ⟨p,c⟩:=pc;exact zFq s w hs ht hr
 | ok ts =>
  cases hu:zyd ts with
  | error pc=>obtain ⟨p,c⟩:=pc;exact zdp s w hs ht hr hu
  | ok q=>obtain ⟨t,l'⟩:=q;exact zus s w hs ht hr hu
end
end Go.Proofs.YtpjnpffcnmgdcaaGreatDoor
