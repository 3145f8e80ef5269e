/- The contracts of shape's find, number, variable, sizeOf, and of Table.Find: what has a name first. The contracts of shape's number, variable and sizeOf. -/
import Derived.Test.YtdhmdfhnkppnmaaDoorY15
import Derived.Test.YtdhmdfhnkppnmaaDoorY16
import Derived.Deep.DeepCutAuto
namespace Go.Proofs.YtdhmdfhnkppnmaaDoor
set_option maxRecDepth 100000
set_option maxHeartbeats 1000000
section
open Go.RowKit
def Ns (w:World) (A:Option Addr) (ks:List T):Prop :=
 0<ks.length→∃ g,A=some ⟨g,0,none⟩∧g<w.heap.size∧∀ k t,ks[k]?=some t→∃ u,w.rangeAt g (k * 5) (zaa t u)∧KAt 25 w t.kids (fun _=>True) u
def NsV (w:World) (ks:List T) (v:Value):Prop:=∃ A c,v=.slice A ks.length c∧ks.length≤c∧c≤9223372036854775807∧Ns w A ks
theorem Ns.below {w w':World} {A:Option Addr} {ks:List T} (h:Ns w A ks) (hb:Below w.heap.size w w'):Ns w' A ks:=fun hn=>by
 obtain ⟨g,e,hg,hf⟩:=h hn
 refine ⟨g,e,Nat.lt_of_lt_of_le hg hb.size,fun k t hk=>?_⟩
 obtain ⟨u,hr,ht⟩:=hf k t hk
 exact ⟨u,zoa hr hb hg,ht.below hb⟩
theorem Ns.take {w:World} {A:Option Addr} {ks:List T} (h:Ns w A ks) (i:Nat):Ns w A (ks.take i):=fun hn=>by
 obtain ⟨g,e,hg,hf⟩:=h (by simp only [List.length_take] at hn;omega)
 refine ⟨g,e,hg,fun k t hk=>hf k t ?_⟩
 rw [List.getElem?_take] at hk
 split at hk
 ·exact hk
 ·cases hk
theorem NsV.below {w w':World} {ks:List T} {v:Value} (h:NsV w ks v) (hb:Below w.heap.size w w'):NsV w' ks v:=by
 obtain ⟨A,c,e,h1,h2,h3⟩:=h
 exact ⟨A,c,e,h1,h2,h3.below hb⟩
theorem KAt.nsv {w:World} {ks:List T} {S:Nat→Prop} {v:Value} (h:KAt 25 w ks S v):NsV w ks v:=by
 rcases h.form with ⟨rfl,rfl⟩|⟨g,cap,rfl,hg,h1,h2,hf⟩
 ·exact ⟨none,0,rfl,Nat.le_refl _,by omega,fun h=>by simp at h⟩
 ·refine ⟨_,cap,rfl,h1,by unfold maxLen at h2;omega,fun _=>⟨g,rfl,hg,fun k t hk=>?_⟩⟩
  obtain ⟨u,hr,ht⟩:=hf k t hk
  exact ⟨u,hr,ht.kat.mono fun _ _ _=>trivial⟩
theorem zfk (t:T) (kv:Value) (g:Nat) (s:ByteArray) (w:World) (hg:w.cell? ⟨g,0,none⟩=some (.string s)) (hlt:g<w.heap.size) :
  Calls Tryd.prog 78 #[zma t kv,.pointer (some ⟨g,0,none⟩)] w fun e w'=>e=.returned (.bool (t.text.toList == s.toList))∧Below w.heap.size w w':=by
 unfold zma
 generalize t.text=x
 go_enter Tryd.func78,Tryd.ntmps78
 go_wp2
 go_ret
 exact ⟨rfl,(Below.refl _ _).alloc (Nat.le_refl _) _⟩
def zVc (w:World) (r:Option Nat) (e:Ending) (w':World):Prop:=e=.returned (.int .i64 (oi r))∧Below w.heap.size w w'
theorem zVc.yes {α:Type} {nm:α→ByteArray} {l:List α} {s:ByteArray} {k:Nat} {t:α} {w w':World} (h:l[k]?=some t) (hn:zkf nm (l.take k) s=none) (hb:((nm t).toList == s.toList)=true) (hB:Below w.heap.size w w'):zVc w (zkf nm l s) (.returned (.int .i64 k)) w':=by
 rw [(zHg h hn).2 (by simpa using hb)]
 exact ⟨rfl,hB⟩
theorem zVc.no {α:Type} {nm:α→ByteArray} {l:List α} {s:ByteArray} {k:Nat} {w w':World} (hk:l.length≤k) (hn:zkf nm (l.take k) s=none) (hB:Below w.heap.size w w'):zVc w (zkf nm l s) (.returned (.int .i64 (-1))) w':=by
 rw [List.take_of_length_le hk] at hn
 rw [hn]
 exact ⟨rfl,hB⟩
theorem zLn {α:Type} {nm:α→ByteArray} {l:List α} {s:ByteArray} {k:Nat} {t:α} (h:l[k]?=some t) (hn:zkf nm (l.take k) s=none) (hb:((nm t).toList == s.toList)=false):zkf nm (l.take (k+1)) s=none:=by
 rw [(zHg h hn).1,hb];rfl
theorem zTh (g:Nat) (s:ByteArray) (A:Option Addr) (cap:Nat) (ks:List T) (w:World) (hg:w.cell? ⟨g,0,none⟩=some (.string s)) (hlt:g<w.heap.size) (hks:Ns w A ks) (hl:ks.length≤9223372036854775807) :
  Calls Tryd.prog 77 #[.slice A ks.length cap,.func (.func 78) #[] #[.pointer (some ⟨g,0,none⟩)]] w (zVc w (zNi ks s)):=by
 have HF:=zh hks
 clear hks
 go_enter Tryd.func77,Tryd.ntmps77
 go_wp2
 go_loopw [8] (fun i wr=>∃ k:Nat,k≤ks.length∧i=.int .i64 k∧Below w.heap.size w wr∧zNi (ks.take k) s=none) (fun i _=>ks.length-(intOf i).toNat)
 case atStart=>exact ⟨0,by omega,rfl,Below.refl _ _,by simp [zkf]⟩
 case round =>
  obtain ⟨k,hk,rfl,hb,hno⟩:=hrel
  have HB:=zh hb
  have HN:=zh hno
  clear hb hno
  by_cases hlt2:k<ks.length
  ·obtain ⟨b,rfl,hbl,hc⟩:=HF.out (by omega)
   obtain ⟨t,ht⟩:∃ t,ks[k]?=some t:=⟨_,List.getElem?_eq_getElem hlt2⟩
   obtain ⟨u,hr,_⟩:=hc k t ht
   have HR:=zh (zoa hr HB.out hbl)
   have HT:=zh ht
   clear hc hr ht
   go_wp2_with ((with_reducible refine zva 25 (.tmp 14) ?_);refine wpList_load_mid rfl 25 (.tmp 14) rfl b (k * 5) rfl (zaa t u) _ HR.out Tryd.underlying25 rfl Tryd.zca ?_)
   refine (zfk t u g s _ ((HB.out.cell (p:=⟨g,0,none⟩) hlt).trans hg) (Nat.lt_of_lt_of_le hlt HB.out.size)).mono ?_
   rintro e w1 ⟨rfl,hb1⟩
   have HB1:=zh (HB.out.trans (hb1.mono HB.out.size))
   clear hb1
   cases ho:t.text.toList == s.toList
   ·go_wp2
    go_roundw
    case rel=>exact ⟨k+1,by omega,by go_num,HB1.out,zLn HT.out HN.out ho⟩
    case measure=>simp [intOf];omega
   ·go_wp2
    go_ret
    exact zVc.yes HT.out HN.out ho HB1.out
  ·go_wp2
   go_ret
   exact zVc.no (by omega) HN.out HB.out
def Tys (w:World) (A:Option Addr) (ts:List Ty):Prop :=
 0<ts.length→∃ g,A=some ⟨g,0,none⟩∧g<w.heap.size∧∀ k t,ts[k]?=some t→∃ p l,w.rangeAt g (k * 5) (zIa t p l)∧zMi w t (fun _=>True) p l
theorem Tys.below {w w':World} {A:Option Addr} {ts:List Ty} (h:Tys w A ts) (hb:Below w.heap.size w w'):Tys w' A ts:=fun hn=>by
 obtain ⟨g,e,hg,hf⟩:=h hn
 refine ⟨g,e,Nat.lt_of_lt_of_le hg hb.size,fun k t hk=>?_⟩
 obtain ⟨p,l,hr,ht⟩:=hf k t hk
 exact ⟨p,l,zoa hr hb hg,ht.keep fun b hb' hl=>⟨trivial,hb.block b hl⟩⟩
theorem zZb.tys {w:World} {ts:List Ty} {S:Nat→Prop} {v:Value} (h:zZb w ts S v):∃ A c,v=.slice A ts.length c∧ts.length≤9223372036854775807∧Tys w A ts:=by
 rcases h.form with ⟨rfl,rfl⟩|⟨g,cap,rfl,hg,h1,h2,hf⟩
 ·exact ⟨none,0,rfl,by simp,fun h=>by simp at h⟩
 ·refine ⟨_,cap,rfl,by unfold maxLen at h2;omega,fun _=>⟨g,rfl,hg.2,fun k t hk=>?_⟩⟩
  obtain ⟨p,l,hr,ht⟩:=hf k t hk
  exact ⟨p,l,hr,ht.keep fun _ _ _=>⟨trivial,rfl⟩⟩
theorem zRj (s:ByteArray) (A:Option Addr) (cap:Nat) (ks:List T) (w:World) (hks:Ns w A ks) (hl:ks.length≤9223372036854775807) :
  Calls Tryd.prog 53 #[.slice A ks.length cap,.string s] w (zVc w (zNi ks s)):=by
 have HF:=zh (hks.below ((Below.refl w.heap.size w).alloc (Nat.le_refl _) (.cells #[.string s] 9)))
 have hmf:=zkb
 clear hks
 go_enter Tryd.func53,Tryd.ntmps53
 go_wp2_with fail
 refine (zTh w.heap.size s A cap ks _ (by simp) (by simp) HF.out hl).mono ?_
 rintro e w1 ⟨rfl,hb⟩
 have HB:=zh (((Below.refl w.heap.size w).alloc (Nat.le_refl _) _).trans (hb.mono (by simp)))
 clear hb
 go_wp2
 go_ret
 exact ⟨rfl,HB.out⟩
end
section
open Go.RowKit
def zwa (p:Pt) (sv fv cv:Value):List Value:=[.int .i64 p.sort.kind,.string p.sort.text,.int .i64 p.sort.num,.int .i64 p.sort.place,sv,fv,cv]
def PtV (p:Pt) (sv fv cv:Value):Value:=.agg #[.int .i64 p.sort.kind,.string p.sort.text,.int .i64 p.sort.num,.int .i64 p.sort.place,sv,fv,cv]
structure zMo (w:World) (p:Pt) (sv fv cv:Value):Prop where
 s:KAt 25 w p.sort.kids (fun _=>True) sv
 f:NsV w p.fields fv
 c:NsV w p.facts cv
theorem zMo.below {w w':World} {p:Pt} {sv fv cv:Value} (h:zMo w p sv fv cv) (hb:Below w.heap.size w w'):zMo w' p sv fv cv:=⟨h.s.below hb,h.f.below hb,h.c.below hb⟩
theorem zTl {fs:List T} {s:ByteArray} (h:zNi fs s=none):zUf fs s=none:=by unfold zUf;rw [h]
theorem zWl {fs:List T} {s:ByteArray} {k:Nat} {t:T} (h:zNi fs s=some k) (ht:fs[k]?=some t):zUf fs s=bif t.kids.isEmpty then some k else none:=by
 unfold zUf
 rw [h]
 simp [List.getD,ht]
theorem zSh {w:World} {p:Pt} {sv fv cv:Value} (h:NsV w p.fields fv) (s:ByteArray) :
  Calls Tryd.prog 57 #[PtV p sv fv cv,.string s] w (zVc w (zUf p.fields s)):=by
 obtain ⟨A,cap,rfl,hcap,hcm,hns⟩:=h
 have HB0:=zh ((Below.refl w.heap.size w).alloc (Nat.le_refl _) (.cells (zwa p sv (.slice A p.fields.length cap) cv).toArray 99))
 have HBk:=zh (Blk.new w (zwa p sv (.slice A p.fields.length cap) cv) 99)
 have HF:=zh (hns.below HB0.out)
 clear hns
 unfold PtV
 unfold zwa at HB0 HF HBk
 obtain ⟨⟨sk,st,sn,sp,sks⟩,fs,cs⟩:=p
 simp only [T.kind,T.text,T.num,T.place] at *
 go_enter Tryd.func57,Tryd.ntmps57
 go_wp2_with fail
 refine (zRj s A cap fs _ HF.out (by omega)).mono ?_
 rintro e w1 ⟨rfl,hb⟩
 have HB1:=zh (HB0.out.trans (hb.mono (by simp)))
 have HBk1:=zh (HBk.out.stays hb)
 have HF1:=zh (HF.out.below hb)
 clear hb
 have c5:w1.cell? ⟨w.heap.size,5,none⟩=some (.slice A fs.length cap):=HBk1.out.cell 5
 cases hf:zNi fs s with
 | none =>
  have HN:=zh (zTl hf)
  simp only [oi]
  go_wp2
  go_ret
  rw [HN.out]
  exact ⟨rfl,HB1.out⟩
 | some k =>
  have hk:=zMg hf
  obtain ⟨b,rfl,hbl,hc⟩:=HF1.out (by omega)
  obtain ⟨t,ht⟩:∃ t,fs[k]?=some t:=⟨_,List.getElem?_eq_getElem hk⟩
  obtain ⟨u,hr,hu⟩:=hc k t ht
  have HN:=zh (zWl hf ht)
  have HU:=zh hu
  have n0:w1.cell? ⟨b,k * 5,none⟩=some (.int .i64 t.kind):=hr 0 _ rfl
  have n1:w1.cell? ⟨b,k * 5+1,none⟩=some (.string t.text):=hr 1 _ rfl
  have n2:w1.cell? ⟨b,k * 5+2,none⟩=some (.int .i64 t.num):=hr 2 _ rfl
  have n3:w1.cell? ⟨b,k * 5+3,none⟩=some (.int .i64 t.place):=hr 3 _ rfl
  have n4:w1.cell? ⟨b,k * 5+4,none⟩=some u:=hr 4 _ rfl
  have hne:((k:Int) == -1)=false:=by simp
  have hk1:(k:Int)<(fs.length:Int):=by omega
  clear hc hr hu ht hf
  simp only [oi]
  go_wp2_with fail
  refine (zcg HU.out).mono ?_
  rintro e w2 ⟨rfl,hb⟩
  have HB2:=zh (HB1.out.trans (hb.mono HB1.out.size))
  clear hb
  cases ho:t.kids.isEmpty
  ·rw [ho] at HN
   go_wp2
   go_ret
   rw [HN.out]
   exact ⟨rfl,HB2.out⟩
  ·rw [ho] at HN
   go_wp2
   go_ret
   rw [HN.out]
   exact ⟨rfl,HB2.out⟩
theorem zPk {fs:List T} {srt of:Int} {t:T} (h:(t.text.toList == [])=true):zGj fs srt of t=some 0:=by unfold zGj;rw [h];rfl
theorem zBl {fs:List T} {srt of:Int} {t:T} (h:(t.text.toList == [])=false) (hn:zUf fs t.text=none):zGj fs srt of t=none:=by unfold zGj;rw [h,hn];rfl
theorem zGm {fs:List T} {srt of:Int} {t:T} {k:Nat} (h:(t.text.toList == [])=false) (hn:zUf fs t.text=some k):zGj fs srt of t=bif zal srt of k then none else some (k+1):=by unfold zGj;rw [h,hn];rfl
theorem zIf {w:World} {p:Pt} {sv fv cv:Value} (h:NsV w p.fields fv) (t:T) (kv:Value) (ty:Ty) (pv lv:Value) :
  Calls Tryd.prog 58 #[PtV p sv fv cv,zma t kv,TyV ty pv lv] w (zVc w (zGj p.fields ty.sort ty.of t)):=by
 have HF:=zh h
 obtain ⟨A,cap,rfl,hcap,hcm,_⟩:=h
 obtain ⟨W0,hW0⟩:∃ W,((w.alloc (.cells (zwa p sv (.slice A p.fields.length cap) cv).toArray 99)).alloc (.cells (zaa t kv).toArray 25)).alloc (.cells (zIa ty pv lv).toArray 49)=W:=⟨_,rfl⟩
 have HB0:=zh (show Below w.heap.size w W0 from hW0▸((((Below.refl _ _).alloc (Nat.le_refl _) _).alloc (by simp) _).alloc (by simp;omega) _))
 have b1:=show Blk W0 w.heap.size (zwa p sv (.slice A p.fields.length cap) cv) 99 from hW0▸(((Blk.new w _ _).alloc _).alloc _)
 have b2:=show Blk W0 (w.heap.size+1) (zaa t kv) 25 from hW0▸((Blk.zIe w _ _ _).alloc _)
 have b3:=show Blk W0 (w.heap.size+1+1) (zIa ty pv lv) 49 from hW0▸(by simpa using Blk.new ((w.alloc (.cells (zwa p sv (.slice A p.fields.length cap) cv).toArray 99)).alloc (.cells (zaa t kv).toArray 25)) (zIa ty pv lv) 49)
 have HB3:=zh b3
 unfold zwa zaa zIa at hW0
 obtain ⟨tk,tt,tn,tp,tks⟩:=t
 obtain ⟨⟨sk,st,sn,sp,sks⟩,fs,cs⟩:=p
 obtain ⟨nm,srt,of,fl,fc⟩:=ty
 simp only [T.kind,T.text,T.num,T.place] at hW0 ⊢
 have c0:W0.cell? ⟨w.heap.size,0,none⟩=some (.int .i64 sk):=b1.cell 0
 have c1:W0.cell? ⟨w.heap.size,1,none⟩=some (.string st):=b1.cell 1
 have c2:W0.cell? ⟨w.heap.size,2,none⟩=some (.int .i64 sn):=b1.cell 2
 have c3:W0.cell? ⟨w.heap.size,3,none⟩=some (.int .i64 sp):=b1.cell 3
 have c4:W0.cell? ⟨w.heap.size,4,none⟩=some sv:=b1.cell 4
 have c5:W0.cell? ⟨w.heap.size,5,none⟩=some (.slice A fs.length cap):=b1.cell 5
 have c6:W0.cell? ⟨w.heap.size,6,none⟩=some cv:=b1.cell 6
 have d1:W0.cell? ⟨w.heap.size+1,1,none⟩=some (.string tt):=b2.cell 1
 clear b1 b2 b3
 unfold PtV zma TyV
 simp only [T.kind,T.text,T.num,T.place] at *
 cases he:tt.toList == []
 ·have he2:tt.toList.isEmpty=false:=by cases hx:tt.toList<;>simp_all
  have HN:=zh (zSh (p:=⟨.mk sk st sn sp sks,fs,cs⟩) (sv:=sv) (cv:=cv) (HF.out.below HB0.out) tt)
  unfold PtV at HN
  simp only [T.kind,T.text,T.num,T.place] at HN
  go_enter Tryd.func58,Tryd.ntmps58
  go_upto_region 1 with fail
  try rw [hW0]
  clear hW0
  go_wp2_with fail
  refine HN.out.mono ?_
  rintro e w1 ⟨rfl,hb⟩
  have HB1:=zh (HB0.out.trans (hb.mono HB0.out.size))
  have b4:=HB3.out.stays hb
  have e0:w1.cell? ⟨w.heap.size+1+1,0,none⟩=some (.string nm):=b4.cell 0
  have e1:w1.cell? ⟨w.heap.size+1+1,1,none⟩=some (.int .i64 srt):=b4.cell 1
  have e2:w1.cell? ⟨w.heap.size+1+1,2,none⟩=some (.int .i64 of):=b4.cell 2
  have e3:w1.cell? ⟨w.heap.size+1+1,3,none⟩=some pv:=b4.cell 3
  have e4:w1.cell? ⟨w.heap.size+1+1,4,none⟩=some lv:=b4.cell 4
  clear hb b4 c0 c1 c2 c3 c4 c5 c6 d1
  cases hn:zUf fs tt with
  | none =>
   have HV:=zh (zBl (t:=.mk tk tt tn tp tks) (srt:=srt) (of:=of) he hn)
   simp only [oi]
   go_wp2
   go_ret
   rw [HV.out]
   exact ⟨rfl,HB1.out⟩
  | some k =>
   have hk:=zUo hn
   have HV:=zh (zGm (t:=.mk tk tt tn tp tks) (srt:=srt) (of:=of) he hn)
   have hne:((k:Int) == -1)=false:=by simp
   have hkk:wrap64 ((k:Int)+1)=((k+1:Nat):Int):=by rw [wrap64_in (by omega) (by omega)];rfl
   have HK:=zh (zgk ⟨nm,srt,of,fl,fc⟩ pv lv k w1)
   unfold TyV at HK
   simp only [oi]
   go_wp2_with fail
   refine HK.out.mono ?_
   rintro e w2 ⟨rfl,hb⟩
   have HB2:=zh (HB1.out.trans (hb.mono HB1.out.size))
   clear hb HK
   simp only
   cases hkb:zal srt of k
   ·rw [hkb] at HV
    go_wp2
    go_ret
    rw [HV.out]
    exact ⟨rfl,HB2.out⟩
   ·rw [hkb] at HV
    go_wp2
    go_ret
    rw [HV.out]
    exact ⟨rfl,HB2.out⟩
 ·have he2:tt.toList.isEmpty=true:=by cases hx:tt.toList<;>simp_all
  have HV:=zh (zPk (fs:=fs) (srt:=srt) (of:=of) (t:=.mk tk tt tn tp tks) he)
  go_enter Tryd.func58,Tryd.ntmps58
  go_upto_region 1 with fail
  try rw [hW0]
  clear hW0
  go_wp2_with fail
  go_ret
  rw [HV.out]
  exact ⟨rfl,HB0.out⟩
def zpc {α:Type} (V:World→Nat→α→Value→Prop) (w:World) (r:E α) (e:Ending) (w':World):Prop :=
 match r with
 | .ok a=>∃ v,e=.returned v∧V w' w.heap.size a v∧Below w.heap.size w w'
 | .error (p,c)=>e=.panicked [{ v:=sfV p c,recovered:=false }]∧Below w.heap.size w w'
def VInt (_:World) (_:Nat) (n:Int) (v:Value):Prop:=v=.int .i64 n
theorem zpc.err {α:Type} {V:World→Nat→α→Value→Prop} {w w':World} {r:E α} {p:Nat} {c:Int} (hr:r=.error (p,c)) (h:Below w.heap.size w w'):zpc V w r (.panicked [{ v:=sfV p c,recovered:=false }]) w':=by
 rw [hr];exact ⟨rfl,h⟩
theorem zpc.ok {α:Type} {V:World→Nat→α→Value→Prop} {w w':World} {r:E α} {a:α} {v:Value} (hr:r=.ok a) (hv:V w' w.heap.size a v) (h:Below w.heap.size w w'):zpc V w r (.returned v) w':=by
 rw [hr];exact ⟨v,rfl,hv,h⟩
theorem zDh (a b c d e:Value) (w:World):(Instr.field 25 (.agg #[a,b,c,d,e]) 1).run Tryd.prog w=.ok b w:=zec Tryd.underlying25 rfl (zzi Tryd.underlying9 rfl) rfl w
theorem zQk {w:World} {p:Pt} {sv fv cv:Value} (h:NsV w p.fields fv) {t:T} {S:Nat→Prop} {kv:Value} (hk:KAt 25 w t.kids S kv) (srt:Int) :
  Calls Tryd.prog 55 #[PtV p sv fv cv,zma t kv,.int .i64 srt] w (zpc VInt w (zZi p.fields srt t)):=by
 have HF:=zh h
 have HK:=zh hk
 obtain ⟨A,cap,rfl,hcap,hcm,_⟩:=h
 obtain ⟨W0,hW0⟩:∃ W,(w.alloc (.cells (zwa p sv (.slice A p.fields.length cap) cv).toArray 99)).alloc (.cells (zaa t kv).toArray 25)=W:=⟨_,rfl⟩
 have HB0:=zh (show Below w.heap.size w W0 from hW0▸(((Below.refl _ _).alloc (Nat.le_refl _) _).alloc (by simp) _))
 have b1:=zh (show Blk W0 w.heap.size (zwa p sv (.slice A p.fields.length cap) cv) 99 from hW0▸((Blk.new w _ _).alloc _))
 have b2:=zh (show Blk W0 (w.heap.size+1) (zaa t kv) 25 from hW0▸(Blk.zIe w _ _ _))
 have HSZ:=zh (show zZi p.fields srt t=bif srt != 0 || (zUf p.fields (zza t 0).text).isNone then .error (t.place,32) else .ok (oi (zUf p.fields (zza t 0).text)) from rfl)
 unfold zwa zaa at hW0
 unfold PtV zma
 go_enter Tryd.func55,Tryd.ntmps55
 go_upto_region 1 with fail
 try rw [hW0]
 clear hW0
 refine wp_region_held_drew (S:=fun W=>Blk W w.heap.size (zwa p sv (.slice A p.fields.length cap) cv) 99∧Blk W (w.heap.size+1) (zaa t kv) 25) (by kernel_rfl) ⟨b1.out,b2.out⟩ (fun hS=>?_)
 refine wpAnyH_take (i:=0) (oi:=⟨some 8,_,_,_,_,_⟩) (v:=.agg (zwa p sv (.slice A p.fields.length cap) cv).toArray) rfl (by kernel_rfl) (by kernel_rfl) (by kernel_rfl) (fun _ _ _ h=>h) (yieldsIf_load_mid (cs:=zwa p sv (.slice A p.fields.length cap) cv) (by rfl) 99 (.tmp 3) rfl w.heap.size 0 (by go_simp) _ (fun W hW j v hj=>by rw [Nat.zero_add,hW.1.cell j];exact hj) Tryd.underlying99 rfl Tryd.zxb) hS ?_
 try simp only [Act.put,List.setIfInBounds_toArray,List.set_cons_zero,List.set_cons_succ]
 refine wpAnyH_take (i:=1) (oi:=⟨some 9,_,_,_,_,_⟩) (v:=.agg (zaa t kv).toArray) rfl (by kernel_rfl) (by kernel_rfl) (by kernel_rfl) (fun _ _ _ h=>h) (yieldsIf_load_mid (cs:=zaa t kv) (by rfl) 25 (.tmp 4) rfl (w.heap.size+1) 0 (by go_simp) _ (fun W hW j v hj=>by rw [Nat.zero_add,hW.2.cell j];exact hj) Tryd.underlying25 rfl Tryd.zca) hS ?_
 try simp only [Act.put,List.setIfInBounds_toArray,List.set_cons_zero,List.set_cons_succ]
 refine AnyH.only (i:=2) (o:=⟨some 10,_,_,_,_,_⟩) (by kernel_rfl) rfl (by rfl) (fun K hK=>?_)
 go_simp
 refine (zSa (t:=t) (kv:=kv) (HK.out.below HB0.out.drew) 0).mono ?_
 rintro e w1 ⟨u,rfl,_,hb⟩
 have HB1:=zh (HB0.out.drew.trans (hb.mono HB0.out.drew.size))
 have hS1:Blk w1 w.heap.size (zwa p sv (.slice A p.fields.length cap) cv) 99∧Blk w1 (w.heap.size+1) (zaa t kv) 25:=⟨b1.out.drew.stays hb,b2.out.drew.stays hb⟩
 clear hb
 unfold zma
 refine hK.out _ _ hS1 ?_
 clear hK K hS
 try simp only [Act.put,List.setIfInBounds_toArray,List.set_cons_zero,List.set_cons_succ]
 refine wpAnyH_take (i:=3) (oi:=⟨some 11,_,_,_,_,_⟩) (v:=.string (zza t 0).text) rfl (by kernel_rfl) (by kernel_rfl) (by kernel_rfl) (fun _ _ _ h=>h) (Or.inl ⟨by rfl,fun W _=>by have hf:=zDh;go_simp⟩) hS1 ?_
 try simp only [Act.put,List.setIfInBounds_toArray,List.set_cons_zero,List.set_cons_succ]
 refine AnyH.only (i:=4) (o:=⟨some 12,_,_,_,_,_⟩) (by kernel_rfl) rfl (by rfl) (fun K hK=>?_)
 go_simp
 refine (zSh (p:=p) (sv:=sv) (cv:=cv) (HF.out.below HB1.out) (zza t 0).text).mono ?_
 rintro e w2 ⟨rfl,hb⟩
 have HB2:=zh (HB1.out.trans (hb.mono HB1.out.size))
 have hS2:Blk w2 w.heap.size (zwa p sv (.slice A p.fields.length cap) cv) 99∧Blk w2 (w.heap.size+1) (zaa t kv) 25:=⟨hS1.1.stays hb,hS1.2.stays hb⟩
 clear hb
 refine hK.out _ _ hS2 ?_
 clear hK K hS1
 try simp only [Act.put,List.setIfInBounds_toArray,List.set_cons_zero,List.set_cons_succ]
 refine wpAnyH_take (i:=5) (oi:=⟨some 7,_,_,_,_,_⟩) (v:=.int .i64 (oi (zUf p.fields (zza t 0).text))) rfl (by kernel_rfl) (by kernel_rfl) (by kernel_rfl) (fun _ _ _ h=>h) (Or.inl ⟨by rfl,fun W _=>by go_simp⟩) hS2 ?_
 try simp only [Act.put,List.setIfInBounds_toArray,List.set_cons_zero,List.set_cons_succ]
 refine wpAnyH_done (by kernel_rfl) ?_ _
 have HB3:=zh hS2.2
 have d0:w2.cell? ⟨w.heap.size+1,0,none⟩=some (.int .i64 t.kind):=hS2.2.cell 0
 have d1:w2.cell? ⟨w.heap.size+1,1,none⟩=some (.string t.text):=hS2.2.cell 1
 have d2:w2.cell? ⟨w.heap.size+1,2,none⟩=some (.int .i64 t.num):=hS2.2.cell 2
 have d3:w2.cell? ⟨w.heap.size+1,3,none⟩=some (.int .i64 t.place):=hS2.2.cell 3
 have d4:w2.cell? ⟨w.heap.size+1,4,none⟩=some kv:=hS2.2.cell 4
 clear hS2
 have HFA:=zh (zyb t kv 32 w2)
 unfold zma at HFA
 cases hs:srt != 0
 ·cases hn:zUf p.fields (zza t 0).text with
  | none =>
   have HR:=zh (HSZ.out.trans (by rw [hs,hn];try rfl))
   simp only [oi]
   go_wp2_with fail
   refine HFA.out.mono ?_
   rintro e w3 ⟨rfl,hb⟩
   go_wp2_with fail
   exact ⟨rfl,zpc.err HR.out (HB2.out.trans (hb.mono HB2.out.size))⟩
  | some k =>
   have HR:=zh (HSZ.out.trans (by rw [hs,hn];try rfl))
   have hne:((k:Int) == -1)=false:=by simp
   simp only [oi]
   go_wp2_with fail
   go_ret
   exact zpc.ok HR.out rfl HB2.out
 ·have HR:=zh (HSZ.out.trans (by rw [hs];try rfl))
  go_wp2_with fail
  refine HFA.out.mono ?_
  rintro e w3 ⟨rfl,hb⟩
  go_wp2_with fail
  exact ⟨rfl,zpc.err HR.out (HB2.out.trans (hb.mono HB2.out.size))⟩
end
end Go.Proofs.YtdhmdfhnkppnmaaDoor
namespace Go.Proofs.YtdhmdfhnkppnmaaDoor
set_option maxRecDepth 100000
set_option maxHeartbeats 2000000
open Go.RowKit
def zZe (w:World) (n m:Nat) (ks:List T) (v:Value):Prop :=
 ∃ vs,w.ownsRow 0 25 5 v ks.length (zDa ks vs)∧(∀ g,v.ownBlock=some g→m≤g)∧zlb 25 w ks (fun b=>b<n) vs
theorem zZe.keep {w w':World} {n m:Nat} {ks:List T} {v:Value} (h:zZe w n m ks v) (hk:∀ b,b<n∨v.ownBlock=some b→b<w.heap.size→w'.heap[b]?=w.heap[b]?):zZe w' n m ks v:=by
 obtain ⟨vs,ho,hS,hts⟩:=h
 exact ⟨vs,zld ho fun g hg=>hk g (.inr hg) (ho.lt g hg).2,hS,zlb.keep ks hts fun b hb hl=>⟨hb,hk b (.inl hb) hl⟩⟩
theorem zZe.nil (w:World) (n m:Nat):zZe w n m [] (.slice none 0 0):=⟨[],World.ownsRow_nil _ _ _ _,(fun g h=>by simp [Value.ownBlock] at h),by unfold zlb;rfl⟩
theorem zZe.kat {w:World} {n m:Nat} (hnm:n≤m) {ks:List T} {v:Value} (h:zZe w n m ks v):KAt 25 w ks (fun _=>True) v:=by
 obtain ⟨vs,ho,hS,hts⟩:=h
 exact ⟨vs,ho,fun _ _=>trivial,zlb.keep ks hts fun b hb _=>⟨⟨trivial,fun e=>by have:=hS b e;omega⟩,rfl⟩⟩
theorem zZe.lt {w:World} {n m:Nat} {ks:List T} {v:Value} (h:zZe w n m ks v) {g:Nat} (hg:v.ownBlock=some g):m≤g∧g<w.heap.size:=by
 obtain ⟨vs,ho,hS,_⟩:=h
 exact ⟨hS g hg,(ho.lt g hg).2⟩
theorem zZe.one {w:World} {n m:Nat} {ks:List T} {v:Value} (h:zZe w n m ks v):v.oneCell'=true:=by
 obtain ⟨vs,ho,_⟩:=h
 rcases ho.2 with ⟨rfl,_⟩|⟨_,_,_,rfl,_⟩<;>rfl
theorem zZe.slice {w:World} {n m:Nat} {ks:List T} {v:Value} (h:zZe w n m ks v):∃ a c,v=.slice a ks.length c:=by
 obtain ⟨vs,ho,_⟩:=h
 rcases ho.2 with ⟨rfl,h0⟩|⟨_,_,_,rfl,_⟩
 ·exact ⟨_,_,by rw [h0]⟩
 ·exact ⟨_,_,rfl⟩
def setL:List Value→Nat→List Value→List Value
 | cs,_,[]=>cs
 | cs,o,v :: r=>setL (cs.set o v) (o+1) r
theorem zCc {g:Nat} {t:TypeId}:∀ (vs:List Value) (o:Nat) (w:World) (cs:List Value),Blk w g cs t→w.setCells g o vs=w.setRow g (setL cs o vs).toArray
 | [],o,w,cs,h=>(setRow_self w g cs.toArray t (0,0) h).symm
 | v :: r,o,w,cs,h=>by
  rw [World.setCells,setCell_eq_setRow w g o cs.toArray t (0,0) v h,List.setIfInBounds_toArray,zCc r (o+1) _ (cs.set o v) (h.zna _),setRow_setRow]
  rfl
theorem Blk.there {w:World} {g:Nat} {cs:List Value} {t:TypeId} (h:Blk w g cs t) (o n:Nat) (hn:o+n≤cs.length):w.there g o n:=fun j hj=>by
 refine ⟨?_,?_⟩
 ·rw [h.cell (o+j)];simp;omega
 ·have h':w.heap[g]?=some (.cells cs.toArray t (0,0)):=h
  simp [World.frozen?,h']
theorem zfc {P:Program} {w:World} {ops:Array Oper} {rest:List Oper} {o:Oper} {a:Act} {Q:Exit→Act→World→Prop} (hgd:o.guard=none) (s x:Operand) {t:TypeId} (ho:o.op=.call { callee:=.builtin .append,args:=#[s,x],argTypes:=#[t,t] })
  {i:TypeInfo} {z:Value} (I:zke P t 25 i z) {n m:Nat} {ks:List T} {tk:T} {v u:Value} (hs:a.eval s=v) (hk:zZe w n m ks v) (hu:TAt 25 w tk (fun b=>b<n) u) {b c:Nat} (hx:a.eval x=.slice (some ⟨b,0,none⟩) 1 c)
  (hb:Blk w b (zaa tk u) 25) (hl:ks.length≤4096) (hnm:n≤m) (hn0:m≤w.heap.size)
  (h:∀ v' w',zZe w' n m (ks++[tk]) v'→w.grownBy w' v.ownBlock→(v'.ownBlock=v.ownBlock∨v'.ownBlock=some w.heap.size)→wpList P ops Q rest (a.put o.dst v') w'):wpList P ops Q (o :: rest) a w:=by
 refine wpList_plain hgd fun _ hK=>?_
 obtain ⟨vs,hown,hSv,hks⟩:=hk
 have hone:∀ y∈zaa tk u,y.oneCell'=true:=zda tk u hu.one'
 have hnews:∀ j y,(zaa tk u)[j]?=some y→w.cell? ((⟨b,0,none⟩:Addr).add j)=some y:=fun j y hj=>by rw [Addr.add_mid,Nat.zero_add,hb.cell j];exact hj
 obtain ⟨v',w',hr,ho',hg',_⟩:=run_append_own (P:=P) w 0 t o.type 25 i z 5 64 I.ht I.hi I.hz I.size I.bytes I.zs (by decide) v ks.length (zDa ks vs) hown ⟨b,0,none⟩ 1 c (zaa tk u) rfl hnews hone (by unfold maxLen;omega) (by omega) (Nat.zero_le _)
 have hbk:=zCf (ty:=o.type) I.ht I.hi I.hz I.size I.bytes hown (by omega) rfl hnews hone (by unfold maxLen;omega) (by omega) hr
 unfold Oper.wp execOp
 simp only [ho,resolve,invoke,builtin,Sem.run_bind,Sem.run_pure,Result.andThen_ok,List.map_toArray,List.map_cons,List.map_nil,hs,hx]
 rw [hr]
 have keep:∀ g,g<n→g<w.heap.size→g<n∧w'.heap[g]?=w.heap[g]?:=fun g hg hgl=>⟨hg,hg'.block g hgl fun e=>by have:=hSv g e.symm;omega⟩
 refine hK _ _ (h v' w' ⟨vs++[u],?_,?_,?_⟩ hg' hbk)
 ·have:=zad ks [tk] vs [u] (zlb.length hks)
  rw [this,List.length_append]
  simpa [zDa] using ho'
 ·intro g hg
  rcases hbk with h|h
  ·exact hSv g (h▸hg)
  ·rw [h] at hg;cases hg;exact hn0
 ·exact zlb.append (zlb.keep ks hks keep) (zlb.single (TAt.keep tk hu keep))
def zob:List Value:=[.int .i64 0,.string ⟨#[]⟩,.int .i64 0,.int .i64 0,.slice none 0 0,.slice none 0 0,.slice none 0 0]
def zIm (w:World) (p:Pt) (e:Ending) (w':World):Prop:=∃ sv fv cv,e=.returned (PtV p sv fv cv)∧zMo w' p sv fv cv∧Below w.heap.size w w'
structure zWh (w:World) (n:Nat) (W:World) (p:Pt) (sv fv cv:Value):Prop where
 b:Below n w W
 z:Blk W (n+1) zob 99
 q:Blk W (n+1+1) (zwa p sv fv cv) 99
 s:KAt 25 W p.sort.kids (fun b=>b<n) sv
 f:zZe W n (n+3) p.fields fv
 c:zZe W n (n+3) p.facts cv
 ne:∀ g,fv.ownBlock=some g→cv.ownBlock≠some g
 lt:n+3≤W.heap.size
section
variable {w W W':World} {n:Nat} {p:Pt} {sv fv cv:Value}
theorem zWh.stay (h:zWh w n W p sv fv cv) (hb:Below W.heap.size W W'):zWh w n W' p sv fv cv :=
 ⟨h.b.trans (hb.mono (by have:=h.lt;omega)),h.z.stays hb,h.q.stays hb,h.s.below hb,h.f.keep fun b _ hl=>hb.block b hl,h.c.keep fun b _ hl=>hb.block b hl,h.ne,Nat.le_trans h.lt hb.size⟩
theorem zWh.alloc (h:zWh w n W p sv fv cv) (o:Obj):zWh w n (W.alloc o) p sv fv cv:=h.stay ((Below.refl _ _).alloc (Nat.le_refl _) _)
theorem zZe.row {m:Nat} {ks:List T} {v:Value} (h:zZe W n m ks v) (g:Nat) (cs:Array Value) (h1:n≤g) (h2:g<m):zZe (W.setRow g cs) n m ks v :=
 h.keep fun b hb _=>setRow_other _ _ _ _ (by
  rcases hb with hb|hb
  ·omega
  ·have:=(h.lt hb).1;omega)
theorem zWh.set (h:zWh w n W p sv fv cv) {p':Pt} {sv' fv' cv':Value} (hs:KAt 25 W p'.sort.kids (fun b=>b<n) sv') (hf:zZe W n (n+3) p'.fields fv') (hc:zZe W n (n+3) p'.facts cv') (hne:∀ g,fv'.ownBlock=some g→cv'.ownBlock≠some g) :
  zWh w n (W.setRow (n+1+1) (zwa p' sv' fv' cv').toArray) p' sv' fv' cv' :=
 ⟨Below.row h.b (by omega) _,h.z.zla (n+1+1) _ (by omega),h.q.zna _,hs.setRow _ _ (fun b hb=>by omega),hf.row _ _ (by omega) (by omega),hc.row _ _ (by omega) (by omega),hne,by simpa using h.lt⟩
theorem zWh.addF (h:zWh w n W p sv fv cv) (hg:W.grownBy W' fv.ownBlock) {fs':List T} {fv':Value} (hf:zZe W' n (n+3) fs' fv') (hbk:fv'.ownBlock=fv.ownBlock∨fv'.ownBlock=some W.heap.size) :
  zWh w n (W'.setCell ⟨n+1+1,5,none⟩ fv') ⟨p.sort,fs',p.facts⟩ sv fv' cv:=by
 have hlt:=h.lt
 have hr:∀ k,fv.ownBlock=some k→n+3≤k:=fun k hk=>(h.f.lt hk).1
 have hq:=h.q.grown hg (fun e=>by have:=hr _ e.symm;omega)
 rw [setCell_eq_setRow W' (n+1+1) 5 _ _ (0,0) fv' hq]
 exact ⟨Below.row (h.b.grown hg (by omega) (fun k hk=>by have:=hr k hk;omega)) (by omega) _,(h.z.grown hg (fun e=>by have:=hr _ e.symm;omega)).zla (n+1+1) _ (by omega),hq.zna (zwa ⟨p.sort,fs',p.facts⟩ sv fv' cv),
  (h.s.keep fun b hb hl=>⟨hb,hg.block b hl fun e=>by have:=hr _ e.symm;omega⟩:KAt _ W' _ (fun b=>b<n) _).setRow _ _ (fun b hb=>by omega),hf.row _ _ (by omega) (by omega),
  (h.c.keep (w':=W') fun b hb hl=>hg.block b hl fun e=>by
   rcases hb with hb|hb
   ·have:=hr _ e.symm;omega
   ·exact h.ne b e.symm hb).row _ _ (by omega) (by omega),
  fun g hg2 hc=>by
   rcases hbk with e|e
   ·exact h.ne g (e▸hg2) hc
   ·rw [e] at hg2;cases hg2;exact absurd (h.c.lt hc).2 (Nat.lt_irrefl _),
  by have:=hg.size;simp;omega⟩
theorem zWh.addC (h:zWh w n W p sv fv cv) (hg:W.grownBy W' cv.ownBlock) {fs':List T} {cv':Value} (hf:zZe W' n (n+3) fs' cv') (hbk:cv'.ownBlock=cv.ownBlock∨cv'.ownBlock=some W.heap.size) :
  zWh w n (W'.setCell ⟨n+1+1,6,none⟩ cv') ⟨p.sort,p.fields,fs'⟩ sv fv cv':=by
 have hlt:=h.lt
 have hr:∀ k,cv.ownBlock=some k→n+3≤k:=fun k hk=>(h.c.lt hk).1
 have hq:=h.q.grown hg (fun e=>by have:=hr _ e.symm;omega)
 rw [setCell_eq_setRow W' (n+1+1) 6 _ _ (0,0) cv' hq]
 exact ⟨Below.row (h.b.grown hg (by omega) (fun k hk=>by have:=hr k hk;omega)) (by omega) _,(h.z.grown hg (fun e=>by have:=hr _ e.symm;omega)).zla (n+1+1) _ (by omega),hq.zna (zwa ⟨p.sort,p.fields,fs'⟩ sv fv cv'),
  (h.s.keep fun b hb hl=>⟨hb,hg.block b hl fun e=>by have:=hr _ e.symm;omega⟩:KAt _ W' _ (fun b=>b<n) _).setRow _ _ (fun b hb=>by omega),
  (h.f.keep (w':=W') fun b hb hl=>hg.block b hl fun e=>by
   rcases hb with hb|hb
   ·have:=hr _ e.symm;omega
   ·exact h.ne b hb e.symm).row _ _ (by omega) (by omega),hf.row _ _ (by omega) (by omega),
  fun g hg2 hc=>by
   rcases hbk with e|e
   ·exact h.ne g hg2 (e▸hc)
   ·rw [e] at hc;cases hc;exact absurd (h.f.lt hg2).2 (Nat.lt_irrefl _),
  by have:=hg.size;simp;omega⟩
end
theorem zgj {w:World} {t:T} {S:Nat→Prop} {kv:Value} (hk:KAt 25 w t.kids S kv) (hl:t.kids.length≤4096) :
  Calls Tryd.prog 34 #[zma t kv] w (zIm w (zAb t.kids)):=by
 obtain ⟨i0,z0,I⟩:=Tryd.zOc
 have hk0:KAt 25 w t.kids (fun b=>b<w.heap.size) kv:=hk.keep fun b _ hb=>⟨hb,rfl⟩
 obtain ⟨W0,hW0⟩:∃ W,((w.alloc (.cells (zaa t kv).toArray 25)).alloc (.cells zob.toArray 99)).alloc (.cells zob.toArray 99)=W:=⟨_,rfl⟩
 have HB0:=zh (show Below w.heap.size w W0 from hW0▸((((Below.refl _ _).alloc (Nat.le_refl _) _).alloc (by simp) _).alloc (by simp;omega) _))
 have b1:=show Blk W0 w.heap.size (zaa t kv) 25 from hW0▸(((Blk.new w _ _).alloc _).alloc _)
 have b2:=show Blk W0 (w.heap.size+1) zob 99 from hW0▸((Blk.zIe w _ _ _).alloc _)
 have b3:=show Blk W0 (w.heap.size+1+1) zob 99 from hW0▸(by simpa using Blk.new ((w.alloc (.cells (zaa t kv).toArray 25)).alloc (.cells zob.toArray 99)) zob 99)
 have hsz:w.heap.size+3≤W0.heap.size:=by rw [← hW0];simp
 have HST:=zh (show zWh w w.heap.size W0 (zAb (t.kids.take 0)) (.slice none 0 0) (.slice none 0 0) (.slice none 0 0) from ⟨HB0.out,b2,b3,KAt.nil _ _ _,zZe.nil _ _ _,zZe.nil _ _ _,(fun g h=>by simp [Value.ownBlock] at h),hsz⟩)
 have c4:W0.cell? ⟨w.heap.size,4,none⟩=some kv:=b1.cell 4
 have HK:=zh hk0
 obtain ⟨ka,kc,rfl⟩:=hk0.len
 unfold zob zaa at hW0
 clear b1 b2 b3 hk
 unfold zma
 go_enter Tryd.func34,Tryd.ntmps34
 go_upto_region 2 with fail
 try rw [hW0]
 clear hW0
 go_wp2_with fail
 go_loopw [9] (fun i wr=>∃ k:Nat,k≤t.kids.length∧i=.int .i64 k∧∃ sv fv cv,zWh w w.heap.size wr (zAb (t.kids.take k)) sv fv cv) (fun i _=>t.kids.length-(intOf i).toNat)
 case atStart=>exact ⟨0,by omega,rfl,_,_,_,HST.out⟩
 case round =>
  obtain ⟨k,hkk,rfl,sv,fv,cv,hst⟩:=hrel
  by_cases hlt:k<t.kids.length
  ·obtain ⟨tk,htk⟩:∃ tk,t.kids[k]?=some tk:=⟨_,List.getElem?_eq_getElem hlt⟩
   obtain ⟨g,cap,hsl,hgl,hcap,hcm,hget⟩:=(HK.out.form).resolve_left fun h=>by rw [h.2] at hlt;simp at hlt
   obtain ⟨rfl,rfl⟩:ka=some ⟨g,0,none⟩∧kc=cap:=by simpa using hsl
   obtain ⟨u,hr,hu⟩:=hget k tk htk
   have HR:=zh (zoa hr hst.b hgl)
   have HTU:=zh ((hu.below hst.b).alloc (.cells (zaa tk u).toArray 25))
   have hu1:=hu.kat.one
   have HSN:=zh (show zAb (t.kids.take (k+1))=⟨bif tk.kind == 2 then tk else (zAb (t.kids.take k)).sort,bif tk.kind == 3 then (zAb (t.kids.take k)).fields++[tk] else (zAb (t.kids.take k)).fields,bif tk.kind == 4 then (zAb (t.kids.take k)).facts++[tk] else (zAb (t.kids.take k)).facts⟩ by rw [List.take_add_one,htk,Option.toList_some,zIl])
   generalize hp:zAb (t.kids.take k)=p at *
   have HPL:=zh (show p.fields.length≤4096∧p.facts.length≤4096 from by
    subst hp
    unfold zAb
    have h1:=List.length_filter_le (fun x:T=>x.kind == 3) (t.kids.take k)
    have h2:=List.length_filter_le (fun x:T=>x.kind == 4) (t.kids.take k)
    simp only [List.length_take] at h1 h2 ⊢
    omega)
   obtain ⟨W1,hW1⟩:∃ W,wr.alloc (.cells (zaa tk u).toArray 25)=W:=⟨_,rfl⟩
   have HS1:=zh (show zWh w w.heap.size W1 p sv fv cv from hW1▸hst.alloc _)
   have HB5:=zh (show Blk W1 wr.heap.size (zaa tk u) 25 from hW1▸Blk.new wr _ _)
   have hc0:W1.cell? ⟨wr.heap.size,0,none⟩=some (.int .i64 tk.kind):=HB5.out.cell 0
   rw [hW1] at HTU
   have hgn:w.heap.size+3≤wr.heap.size:=hst.lt
   have hn5:(zaa tk u).length=5:=rfl
   have p5:W1.cell? ⟨w.heap.size+1+1,5,none⟩=some fv:=HS1.out.q.cell 5
   have p6:W1.cell? ⟨w.heap.size+1+1,6,none⟩=some cv:=HS1.out.q.cell 6
   clear hget hr hu hst hsl hp htk
   cases h2:tk.kind == 2
   ·cases h3:tk.kind == 3
    ·cases h4:tk.kind == 4
     ·have HN2:=zh (HSN.out.trans (show _=p by rw [h2,h3,h4];rfl))
      go_wp2_with (first
       | ((with_reducible refine zva 25 (.tmp 11) ?_);refine wpList_load_mid rfl 25 (.tmp 11) rfl g (k * 5) rfl (zaa tk u) _ HR.out Tryd.underlying25 rfl Tryd.zca ?_)
       | ((with_reducible refine zra 25 (.tmp 5) ?_);refine zga rfl 25 (.tmp 5) (.tmp 12) rfl (zaa tk u) (old:=zba) rfl rfl Tryd.zca rfl (zda _ _ hu1) ?_;rw [hW1]))
      go_roundw
      case rel=>exact ⟨k+1,by omega,by go_num,_,_,_,by rw [HN2.out];exact HS1.out⟩
      case measure=>simp [intOf];omega
     ·have HN2:=zh (HSN.out.trans (show _=(⟨p.sort,p.fields,p.facts++[tk]⟩:Pt) by
       rw [h2,h3,h4];rfl))
      have HSA:=zh (HS1.out.alloc (.cells (zaa tk u).toArray 25))
      have HLN:=zh (Blk.new W1 (zaa tk u) 25)
      go_wp2_with (first
       | ((with_reducible refine zva 25 (.tmp 11) ?_);refine wpList_load_mid rfl 25 (.tmp 11) rfl g (k * 5) rfl (zaa tk u) _ HR.out Tryd.underlying25 rfl Tryd.zca ?_)
       | ((with_reducible refine zra 25 (.tmp 5) ?_);refine zga rfl 25 (.tmp 5) (.tmp 12) rfl (zaa tk u) (old:=zba) rfl rfl Tryd.zca rfl (zda _ _ hu1) ?_;rw [hW1])
       | ((with_reducible refine zva 25 (.tmp 5) ?_);refine zfa rfl 25 (.tmp 5) rfl wr.heap.size (zaa tk u) rfl HB5.out Tryd.underlying25 rfl Tryd.zca ?_)
       | (at_builtin;refine zfc rfl (.tmp 30) (.tmp 32) rfl I rfl HSA.out.c (HTU.out.alloc _) rfl HLN.out HPL.out.2 (by omega) HSA.out.lt ?_))
      intro v' w' hf hg hbk
      obtain ⟨va,vn,vc,rfl⟩:∃ a n c,v'=.slice a n c:=hf.slice.elim fun a h=>h.elim fun c h=>⟨a,_,c,h⟩
      have HS2:=zh (HSA.out.addC hg hf (hbk.imp_right fun h=>h.trans (by simp)))
      have HQ:=zh (HSA.out.q.grown hg (fun e=>by have:=(HSA.out.c.lt e.symm).1;omega))
      have p6:w'.cell? ⟨w.heap.size+1+1,6,none⟩=some cv:=HQ.out.cell 6
      have hfr:w'.frozen? ⟨w.heap.size+1+1,6,none⟩=false:=(HQ.out.there 6 1 (by show 6+1≤7;omega) 0 (by omega)).2
      clear hf hg hbk
      go_wp2
      go_roundw
      case rel=>exact ⟨k+1,by omega,by go_num,_,_,_,by rw [HN2.out];exact HS2.out⟩
      case measure=>simp [intOf];omega
    ·have HN2:=zh (HSN.out.trans (show _=(⟨p.sort,p.fields++[tk],p.facts⟩:Pt) by
      have h4:(tk.kind == 4)=false:=by rw [beq_iff_eq.1 h3];rfl
      rw [h2,h3,h4];rfl))
     have HSA:=zh (HS1.out.alloc (.cells (zaa tk u).toArray 25))
     have HLN:=zh (Blk.new W1 (zaa tk u) 25)
     go_wp2_with (first
      | ((with_reducible refine zva 25 (.tmp 11) ?_);refine wpList_load_mid rfl 25 (.tmp 11) rfl g (k * 5) rfl (zaa tk u) _ HR.out Tryd.underlying25 rfl Tryd.zca ?_)
      | ((with_reducible refine zra 25 (.tmp 5) ?_);refine zga rfl 25 (.tmp 5) (.tmp 12) rfl (zaa tk u) (old:=zba) rfl rfl Tryd.zca rfl (zda _ _ hu1) ?_;rw [hW1])
      | ((with_reducible refine zva 25 (.tmp 5) ?_);refine zfa rfl 25 (.tmp 5) rfl wr.heap.size (zaa tk u) rfl HB5.out Tryd.underlying25 rfl Tryd.zca ?_)
      | (at_builtin;refine zfc rfl (.tmp 22) (.tmp 24) rfl I rfl HSA.out.f (HTU.out.alloc _) rfl HLN.out HPL.out.1 (by omega) HSA.out.lt ?_))
     intro v' w' hf hg hbk
     obtain ⟨va,vn,vc,rfl⟩:∃ a n c,v'=.slice a n c:=hf.slice.elim fun a h=>h.elim fun c h=>⟨a,_,c,h⟩
     have HS2:=zh (HSA.out.addF hg hf (hbk.imp_right fun h=>h.trans (by simp)))
     have HQ:=zh (HSA.out.q.grown hg (fun e=>by have:=(HSA.out.f.lt e.symm).1;omega))
     have p5:w'.cell? ⟨w.heap.size+1+1,5,none⟩=some fv:=HQ.out.cell 5
     have hfr:w'.frozen? ⟨w.heap.size+1+1,5,none⟩=false:=(HQ.out.there 5 1 (by show 5+1≤7;omega) 0 (by omega)).2
     clear hf hg hbk
     go_wp2
     go_roundw
     case rel=>exact ⟨k+1,by omega,by go_num,_,_,_,by rw [HN2.out];exact HS2.out⟩
     case measure=>simp [intOf];omega
   ·have HN2:=zh (HSN.out.trans (show _=(⟨tk,p.fields,p.facts⟩:Pt) by
     have h3:(tk.kind == 3)=false:=by rw [beq_iff_eq.1 h2];rfl
     have h4:(tk.kind == 4)=false:=by rw [beq_iff_eq.1 h2];rfl
     rw [h2,h3,h4];rfl))
    have HS2:=zh (HS1.out.set (p':=⟨tk,p.fields,p.facts⟩) (sv':=u) (fv':=fv) (cv':=cv) HTU.out.kat HS1.out.f HS1.out.c HS1.out.ne)
    have HEQ:=zh (zCc (zaa tk u) 0 W1 (zwa p sv fv cv) HS1.out.q)
    go_wp2_with (first
     | ((with_reducible refine zva 25 (.tmp 11) ?_);refine wpList_load_mid rfl 25 (.tmp 11) rfl g (k * 5) rfl (zaa tk u) _ HR.out Tryd.underlying25 rfl Tryd.zca ?_)
     | ((with_reducible refine zra 25 (.tmp 5) ?_);refine zga rfl 25 (.tmp 5) (.tmp 12) rfl (zaa tk u) (old:=zba) rfl rfl Tryd.zca rfl (zda _ _ hu1) ?_;rw [hW1])
     | ((with_reducible refine zva 25 (.tmp 5) ?_);refine zfa rfl 25 (.tmp 5) rfl wr.heap.size (zaa tk u) rfl HB5.out Tryd.underlying25 rfl Tryd.zca ?_)
     | ((with_reducible refine zra 25 (.tmp 18) ?_);refine wpList_store_mid rfl 25 (.tmp 18) (.tmp 17) rfl (w.heap.size+1+1) 0 (zaa tk u).toArray rfl rfl (HS1.out.q.there 0 5 (by show 0+5≤7;omega)) Tryd.zca (all_oneCell_toArray (zda _ _ hu1)) ?_;rw [List.toList_toArray,HEQ.out]))
    go_roundw
    case rel=>exact ⟨k+1,by omega,by go_num,_,_,_,by rw [HN2.out];exact HS2.out⟩
    case measure=>simp [intOf];omega
  ·obtain rfl:k=t.kids.length:=by omega
   rw [List.take_of_length_le (Nat.le_refl _)] at hst
   have hZ:=hst.z
   have hQ:=hst.q
   have HST2:=zh hst
   have hone:∀ y∈zwa (zAb t.kids) sv fv cv,y.oneCell'=true:=by
    intro y hy
    simp only [zwa,List.mem_cons,List.not_mem_nil,or_false] at hy
    rcases hy with rfl|rfl|rfl|rfl|rfl|rfl|rfl
    all_goals first|rfl|exact hst.s.one|exact hst.f.one|exact hst.c.one
   have HONE:=zh hone
   clear hst hone
   go_wp2_with (first
    | ((with_reducible refine zva 99 (.tmp 3) ?_);refine zfa rfl 99 (.tmp 3) rfl (w.heap.size+1+1) (zwa (zAb t.kids) sv fv cv) rfl hQ Tryd.underlying99 rfl Tryd.zxb ?_)
    | ((with_reducible refine zra 99 (.tmp 2) ?_);refine zea rfl 99 (.tmp 2) (.tmp 36) rfl (w.heap.size+1) (zwa (zAb t.kids) sv fv cv) rfl rfl hZ Tryd.zxb rfl HONE.out ?_))
   have hst:=HST2.out
   exact zua (cs:=zwa (zAb t.kids) sv fv cv) Tryd.results34 rfl hZ Tryd.underlying99 rfl Tryd.zxb rfl
    ⟨sv,fv,cv,rfl,⟨(hst.s.setRow _ _ (fun b hb=>by omega)).mono fun _ _ _=>trivial,((hst.f.row _ _ (by omega) (by omega)).kat (by omega)).nsv,((hst.c.row _ _ (by omega) (by omega)).kat (by omega)).nsv⟩,Below.row hst.b (by omega) _⟩
end Go.Proofs.YtdhmdfhnkppnmaaDoor
