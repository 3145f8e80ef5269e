/- The contracts of the reader's handed, clashes and param. What the functions of a tree that was read are made of: Params, each with a Mode; the result's Mode; a Block. Nothing of the program is walked here. The contract of the reader's param. -/
import Derived.Test.YtpjnpffcnmgdcaaGreatDoorZ29
import Derived.Test.YtpjnpffcnmgdcaaGreatDoorZ23
import Derived.Test.YtpjnpffcnmgdcaaGreatDoorZ28
import Derived.Test.YtpjnpffcnmgdcaaGreatDoorZ04
namespace Go.Proofs.YtpjnpffcnmgdcaaGreatDoor
set_option maxRecDepth 100000
set_option maxHeartbeats 4000000
section
open Go.RowKit Go.Maps
def zBb (A:Option Addr) (n cap M:Nat):List Value:=[.slice A n cap,.map (some M)]
def zFu (r:Option Prm):Int:=match r with|none=>31|some _=>0
def zzr (w:World) (r:Option Prm) (e:Ending) (w':World):Prop:=e=.returned (.tuple #[zzh (r.getD zyb),.int .i64 (zFu r)])∧Below w.heap.size w w'
theorem Tryz.zEi:(Tryz.prog.info? 101).map (·.size)=some 2:=by kernel_rfl
theorem zij {w:World} {A:Option Addr} {n cap M:Nat} {tys:List Ty} (hm:MapAt w M tys) {t:T} {S:Nat→Prop} {kv:Value} (hk:KAt 25 w t.kids S kv) (hz:(zJa t 0).text.size≤maxLen) :
  Calls Tryz.prog 51 #[RV A n cap M,zna t kv] w (zzr w (zgd tys t)):=by
 obtain ⟨W0,hW0⟩:∃ W,((w.alloc (.cells (zBb A n cap M).toArray 101)).alloc (.cells (zaa t kv).toArray 25)).alloc (.cells (zja zyb).toArray 52)=W:=⟨_,rfl⟩
 have HB0:=zh (show Below w.heap.size w W0 from hW0▸((((Below.refl _ _).alloc (Nat.le_refl _) _).alloc (by simp) _).alloc (by simp;omega) _))
 have b1:=zh (show Blk W0 w.heap.size (zBb A n cap M) 101 from hW0▸(((Blk.new w _ _).alloc _).alloc _))
 have b2:=zh (show Blk W0 (w.heap.size+1) (zaa t kv) 25 from hW0▸((Blk.zTe w _ _ _).alloc _))
 have b3:=zh (show Blk W0 (w.heap.size+1+1) (zja zyb) 52 from hW0▸(by simpa using Blk.new ((w.alloc (.cells (zBb A n cap M).toArray 101)).alloc (.cells (zaa t kv).toArray 25)) (zja zyb) 52))
 have HK:=zh (hk.below HB0.out)
 have HM:=zh (hm.below HB0.out)
 have HMO:=zh (zno t.text)
 have HNT:=zh (zof (zjb t.text))
 have HI:=zh (zkg (tys:=tys) (t:=t))
 have HT:=zh (zJh (tys:=tys) (t:=t))
 have d1:W0.cell? ⟨w.heap.size+1,1,none⟩=some (.string t.text):=b2.out.cell 1
 unfold zBb zaa zja zyb at hW0
 unfold RV zna
 clear hm hk
 go_enter Tryz.func51,Tryz.ntmps51
 go_upto_region 1 with fail
 try rw [hW0]
 clear hW0
 go_wp2_with fail
 refine (HMO.out _).mono ?_
 rintro e w1 ⟨rfl,rfl⟩
 go_wp2_with fail
 refine (HNT.out _).mono ?_
 rintro e w2 ⟨rfl,rfl⟩
 cases hn:zVb (zjb t.text)
 ·have HR:=zh (HI.out hn)
  have b3':=b3.out
  go_wp2_with ((with_reducible refine zla 52 (.tmp 4) ?_);refine zda rfl 52 (.tmp 4) (.tmp 16) rfl (w.heap.size+1+1) (zja ⟨⟨#[]⟩,zjb t.text,0⟩) rfl rfl b3' Tryz.zzb rfl (zsb _) ?_)
  refine zGf (cs:=zja ⟨⟨#[]⟩,zjb t.text,0⟩) Tryz.results51 rfl rfl (b3'.zra (zja ⟨⟨#[]⟩,zjb t.text,0⟩)) Tryz.underlying52 rfl Tryz.zzb rfl ?_
  rw [HR.out]
  exact ⟨rfl,Below.row HB0.out (by omega) _⟩
 ·have HR:=zh (HT.out hn)
  obtain ⟨c,hc,hlk⟩:=HM.out.look hz
  have HC:=zh hc
  have HLK:=zh hlk
  clear hc hlk
  go_upto_region 4 with fail
  refine wp_region_held_drew (S:=fun W=>Blk W w.heap.size (zBb A n cap M) 101∧Blk W (w.heap.size+1) (zaa t kv) 25∧W.heap[M]?=w2.heap[M]?) (by kernel_rfl) ⟨b1.out,b2.out,rfl⟩ (fun hS=>?_)
  refine wpAnyH_take (i:=0) (oi:=⟨some 18,_,_,_,_,_⟩) (v:=.pointer (some ⟨w.heap.size,1,none⟩)) rfl (by kernel_rfl) (by kernel_rfl) (by kernel_rfl) (fun _ _ _ h=>h) (Or.inl ⟨by rfl,fun W _=>by go_simp⟩) hS ?_
  try simp only [Act.put,List.setIfInBounds_toArray,List.set_cons_zero,List.set_cons_succ]
  refine wpAnyH_take (i:=1) (oi:=⟨some 19,_,_,_,_,_⟩) (v:=.map (some M)) rfl (by kernel_rfl) (by kernel_rfl) (by kernel_rfl) (fun _ _ _ h=>h) (Or.inl ⟨by rfl,fun W hW=>by have hcx:W.cell? ⟨w.heap.size,1,none⟩=some (.map (some M)):=hW.1.cell 1;go_simp⟩) hS ?_
  try simp only [Act.put,List.setIfInBounds_toArray,List.set_cons_zero,List.set_cons_succ]
  refine wpAnyH_take (i:=2) (oi:=⟨some 20,_,_,_,_,_⟩) (v:=.agg (zaa t kv).toArray) rfl (by kernel_rfl) (by kernel_rfl) (by kernel_rfl) (fun _ _ _ h=>h) (yieldsIf_load_mid (cs:=zaa t kv) (by rfl) 25 (.tmp 3) rfl (w.heap.size+1) 0 (by go_simp) _ (fun W hW j v hj=>by rw [Nat.zero_add,hW.2.1.cell j];exact hj) Tryz.underlying25 rfl Tryz.zea) hS ?_
  try simp only [Act.put,List.setIfInBounds_toArray,List.set_cons_zero,List.set_cons_succ]
  refine AnyH.only (i:=3) (o:=⟨some 21,_,_,_,_,_⟩) (by kernel_rfl) rfl (by rfl) (fun K hK=>?_)
  go_simp
  refine (zdn (t:=t) (kv:=kv) HK.out.drew 0).mono ?_
  rintro e w1 ⟨u,rfl,_,hb⟩
  have HB1:=zh (HB0.out.drew.trans (hb.mono HB0.out.drew.size))
  have hS1:Blk w1 w.heap.size (zBb A n cap M) 101∧Blk w1 (w.heap.size+1) (zaa t kv) 25∧w1.heap[M]?=w2.heap[M]?:=⟨b1.out.drew.stays hb,b2.out.drew.stays hb,hb.block M HM.out.lt⟩
  have HP1:=zh (b3.out.drew.stays hb)
  clear hb
  unfold zna
  refine hK.out _ _ hS1 ?_
  clear hK K hS
  try simp only [Act.put,List.setIfInBounds_toArray,List.set_cons_zero,List.set_cons_succ]
  refine wpAnyH_take (i:=4) (oi:=⟨some 22,_,_,_,_,_⟩) (v:=.string (zJa t 0).text) rfl (by kernel_rfl) (by kernel_rfl) (by kernel_rfl) (fun _ _ _ h=>h) (Or.inl ⟨by rfl,fun W _=>by have hf:=zzk;go_simp⟩) hS1 ?_
  try simp only [Act.put,List.setIfInBounds_toArray,List.set_cons_zero,List.set_cons_succ]
  refine wpAnyH_take (i:=5) (oi:=⟨some 23,_,_,_,_,_⟩) (v:=.tuple #[.int .i64 c,.bool (zze tys (zJa t 0).text).isSome]) rfl (by kernel_rfl) (by kernel_rfl) (by kernel_rfl) (fun _ _ _ h=>h) (Or.inl ⟨by rfl,fun W hW=>by have hl:=HLK.out W hW.2.2;go_simp⟩) hS1 ?_
  try simp only [Act.put,List.setIfInBounds_toArray,List.set_cons_zero,List.set_cons_succ]
  refine wpAnyH_take (i:=6) (oi:=⟨some 17,_,_,_,_,_⟩) (v:=.tuple #[.int .i64 c,.bool (zze tys (zJa t 0).text).isSome]) rfl (by kernel_rfl) (by kernel_rfl) (by kernel_rfl) (fun _ _ _ h=>h) (Or.inl ⟨by rfl,fun W _=>by go_simp⟩) hS1 ?_
  try simp only [Act.put,List.setIfInBounds_toArray,List.set_cons_zero,List.set_cons_succ]
  refine wpAnyH_take (i:=7) (oi:=⟨some 24,_,_,_,_,_⟩) (v:=.int .i64 c) rfl (by kernel_rfl) (by kernel_rfl) (by kernel_rfl) (fun _ _ _ h=>h) (Or.inl ⟨by rfl,fun W _=>by go_simp⟩) hS1 ?_
  try simp only [Act.put,List.setIfInBounds_toArray,List.set_cons_zero,List.set_cons_succ]
  refine wpAnyH_take (i:=8) (oi:=⟨some 25,_,_,_,_,_⟩) (v:=.bool (zze tys (zJa t 0).text).isSome) rfl (by kernel_rfl) (by kernel_rfl) (by kernel_rfl) (fun _ _ _ h=>h) (Or.inl ⟨by rfl,fun W _=>by go_simp⟩) hS1 ?_
  try simp only [Act.put,List.setIfInBounds_toArray,List.set_cons_zero,List.set_cons_succ]
  refine wpAnyH_take (i:=9) (oi:=⟨some 7,_,_,_,_,_⟩) (v:=.int .i64 c) rfl (by kernel_rfl) (by kernel_rfl) (by kernel_rfl) (fun _ _ _ h=>h) (Or.inl ⟨by rfl,fun W _=>by go_simp⟩) hS1 ?_
  try simp only [Act.put,List.setIfInBounds_toArray,List.set_cons_zero,List.set_cons_succ]
  refine wpAnyH_take (i:=10) (oi:=⟨some 8,_,_,_,_,_⟩) (v:=.bool (zze tys (zJa t 0).text).isSome) rfl (by kernel_rfl) (by kernel_rfl) (by kernel_rfl) (fun _ _ _ h=>h) (Or.inl ⟨by rfl,fun W _=>by go_simp⟩) hS1 ?_
  try simp only [Act.put,List.setIfInBounds_toArray,List.set_cons_zero,List.set_cons_succ]
  refine wpAnyH_done (by kernel_rfl) ?_ _
  clear hS1
  have b3':=HP1.out
  cases hf:zze tys (zJa t 0).text with
  | none =>
   have HR2:=zh (HR.out.trans (by rw [hf]))
   go_wp2_with ((with_reducible refine zla 52 (.tmp 4) ?_);refine zda rfl 52 (.tmp 4) (.tmp 28) rfl (w.heap.size+1+1) (zja zyb) rfl rfl b3' Tryz.zzb rfl (zsb _) ?_)
   refine zGf (cs:=zja zyb) Tryz.results51 rfl rfl (b3'.zra (zja zyb)) Tryz.underlying52 rfl Tryz.zzb rfl ?_
   rw [HR2.out]
   exact ⟨rfl,Below.row HB1.out (by omega) _⟩
  | some k =>
   have HR2:=zh (HR.out.trans (by rw [hf]))
   obtain rfl:=HC.out k hf
   go_wp2_with ((with_reducible refine zla 52 (.tmp 4) ?_);refine zda rfl 52 (.tmp 4) (.tmp 31) rfl (w.heap.size+1+1) (zja ⟨⟨#[]⟩,zjb t.text,k⟩) rfl rfl b3' Tryz.zzb rfl (zsb _) ?_)
   refine zGf (cs:=zja ⟨⟨#[]⟩,zjb t.text,k⟩) Tryz.results51 rfl rfl (b3'.zra (zja ⟨⟨#[]⟩,zjb t.text,k⟩)) Tryz.underlying52 rfl Tryz.zzb rfl ?_
   rw [HR2.out]
   exact ⟨rfl,Below.row HB1.out (by omega) _⟩
theorem znp {tys:List Ty} {p:Prm} {l:List Prm} (h:zVb p.mode=false):zXd tys p l=false:=by unfold zXd;rw [h];rfl
theorem zro {tys:List Ty} {p:Prm} {l:List Prm} (h:(zli tys p.ty == 0)=true):zXd tys p l=false:=by unfold zXd;rw [h];simp
theorem zNn {tys:List Ty} {p:Prm} {l:List Prm} (h:zVb p.mode=true) (h0:(zli tys p.ty == 0)=false):zXd tys p l=l.any (zBf p):=by unfold zXd;rw [h,h0];rfl
theorem zom {w:World} {A:Option Addr} {cap M:Nat} {tys:List Ty} (ht:Tys w A tys) (hlen:tys.length≤cap∧cap≤maxLen) {p:Prm} (hp:zcs tys p) {l:List Prm} {S:Nat→Prop} {v:Value} (hl:zQd w l S v) :
  Calls Tryz.prog 77 #[RV A tys.length cap M,zzh p,v] w fun e w'=>e=.returned (.bool (zXd tys p l))∧Below w.heap.size w w':=by
 obtain ⟨W0,hW0⟩:∃ W,(w.alloc (.cells (zBb A tys.length cap M).toArray 101)).alloc (.cells (zja p).toArray 52)=W:=⟨_,rfl⟩
 have HB0:=zh (show Below w.heap.size w W0 from hW0▸(((Below.refl _ _).alloc (Nat.le_refl _) _).alloc (by simp) _))
 have b1:=show Blk W0 w.heap.size (zBb A tys.length cap M) 101 from hW0▸((Blk.new w _ _).alloc _)
 have b2:=show Blk W0 (w.heap.size+1) (zja p) 52 from hW0▸(Blk.zTe w _ _ _)
 have c0:W0.cell? ⟨w.heap.size,0,none⟩=some (.slice A tys.length cap):=b1.cell 0
 have d1:W0.cell? ⟨w.heap.size+1,1,none⟩=some (.int .i64 p.mode):=b2.cell 1
 have d2:W0.cell? ⟨w.heap.size+1,2,none⟩=some (.int .i64 p.ty):=b2.cell 2
 have HT:=zh (ht.below HB0.out)
 have HCF:=zh (znm (w.heap.size+1) p W0 d2 (by have:=b2.lt;omega) (hl.below HB0.out))
 have HNT:=zh (zof p.mode)
 have HP:=zh hp
 have HI:=zh (znp (tys:=tys) (p:=p) (l:=l))
 have HO:=zh (zro (tys:=tys) (p:=p) (l:=l))
 have HA:=zh (zNn (tys:=tys) (p:=p) (l:=l))
 have hmf:=zbc
 obtain ⟨h1,h2⟩:=hlen
 unfold maxLen at h2
 obtain ⟨va,vc,rfl⟩:=hl.slice
 unfold zBb zja at hW0
 unfold RV zzh
 clear ht hl hp b1 b2
 go_enter Tryz.func77,Tryz.ntmps77
 go_upto_region 1 with fail
 try rw [hW0]
 clear hW0
 cases hn:zVb p.mode
 ·have HR:=zh (HI.out hn)
  have HN2:∀ W,Calls Tryz.prog 79 #[.int .i64 p.mode] W fun e w'=>e=.returned (.bool false)∧w'=W:=fun W=>by have:=HNT.out W;rwa [hn] at this
  go_wp2_with fail
  refine (HN2 _).mono ?_
  rintro e w2 ⟨rfl,rfl⟩
  go_wp2_with fail
  go_ret
  exact ⟨zyk (by rw [HR.out]),HB0.out⟩
 ·have HN2:∀ W,Calls Tryz.prog 79 #[.int .i64 p.mode] W fun e w'=>e=.returned (.bool true)∧w'=W:=fun W=>by have:=HNT.out W;rwa [hn] at this
  obtain ⟨k,hk,hkl⟩:=HP.out hn
  obtain ⟨b,rfl,hbl,hget⟩:=HT.out (by omega)
  obtain ⟨t,htk⟩:∃ t,tys[k]?=some t:=⟨_,List.getElem?_eq_getElem hkl⟩
  obtain ⟨pv,lv,hr,_⟩:=hget k t htk
  have e1:W0.cell? ⟨b,k * 5+1,none⟩=some (.int .i64 t.sort):=hr 1 _ rfl
  have hs:zli tys p.ty=t.sort:=by unfold zli;rw [hk];simp [htk]
  rw [hs] at HO HA
  rw [hk] at d2
  have hk1:(k:Int)<(tys.length:Int):=by omega
  clear hget hr htk hs
  go_wp2_with fail
  refine (HN2 _).mono ?_
  rintro e w2 ⟨rfl,rfl⟩
  cases h0:t.sort == 0
  ·have HR:=zh (HA.out hn h0)
   go_wp2_with fail
   refine HCF.out.mono ?_
   rintro e w3 ⟨rfl,hb⟩
   have HB3:=zh (HB0.out.trans (hb.mono HB0.out.size))
   clear hb
   go_wp2_with fail
   go_ret
   exact ⟨zyk (by rw [HR.out]),HB3.out⟩
  ·have HR:=zh (HO.out h0)
   go_wp2_with fail
   go_ret
   exact ⟨zyk (by rw [HR.out]),HB0.out⟩
end
section
open Go.RowKit
def zkh (a:T):Prop:=a.kind=8∧((a.kids=[]∧zVb (zjb a.text)=false)∨∃ n,a.kids=[n]∧zec n.text=true∧zVb (zjb a.text)=true)
def zor (p:T):Prop:=p.kind=7∧∃ m,p.kids=[m]∧zkh m∧1≤zjb m.text
def zau (t:T):Prop:=∃ ps m b,t.kids=ps++[m,b]∧(∀ p∈ps,zor p)∧(zkh m∧zjb m.text≤2)∧b.kind=9
def zVf (t:T):Prop:=t.kind=6→zau t
theorem zQo {t:Tok} (h:isT t (bs [111,119,110])=true):zjb t.text=2:=by
 have h2:=(ztd h).1
 unfold zjb
 rw [beq_iff_eq.1 h2]
 rfl
theorem zSo {t:Tok} (h:([bs [105,110,116],bs [111,119,110]].any (isT t))=true) (h2:isT t (bs [111,119,110])=false):zjb t.text=1:=by
 simp only [List.any_cons,h2,List.any_nil,Bool.or_false] at h
 have h3:=(ztd h).1
 unfold zjb
 rw [beq_iff_eq.1 h3]
 rfl
theorem mut_n:zVb (zjb (bs [38,109,117,116]))=true:=by kernel_rfl
theorem mut_1:1≤zjb (bs [38,109,117,116]):=by decide +kernel
theorem ref_n:zVb (zjb (bs [38]))=true:=by kernel_rfl
theorem ref_1:1≤zjb (bs [38]):=by decide +kernel
theorem non_n:zVb (zjb e0)=false:=by kernel_rfl
theorem non_1:zjb e0≤2:=by decide +kernel
theorem zZh {l:List Tok} (h:TG l):Ok (fun a l'=>(zkh a∧1≤zjb a.text∧zjb a.text≤2)∧TG l') (zQa l):=by
 unfold zQa
 refine (zWa h).bd fun t l1 h1=>Ok.cond (fun hc=>(zdd h1.2).bd fun a l2 h2=>Ok.ok ⟨?_,h2.2⟩) (fun hc=>Ok.ok ⟨?_,h1.2⟩)
 ·have e:=zQo hc
  refine ⟨⟨rfl,.inr ⟨a,rfl,h2.1.1,?_⟩⟩,?_,?_⟩
  all_goals (simp only [T.text];rw [e];decide)
 ·have e:=zSo h1.1 hc
  refine ⟨⟨rfl,.inl ⟨rfl,?_⟩⟩,?_,?_⟩
  all_goals (simp only [T.text];rw [e];decide)
theorem zWu {l:List Tok} (h:TG l):Ok (fun a l'=>(zkh a∧1≤zjb a.text)∧TG l') (zYc l):=by
 unfold zYc
 exact Ok.cond (fun _=>Ok.cond (fun _=>(zdd h.tail.tail).bd fun a l2 h2=>Ok.ok ⟨⟨⟨rfl,.inr ⟨a,rfl,h2.1.1,mut_n⟩⟩,mut_1⟩,h2.2⟩) (fun _=>(zdd h.tail).bd fun a l2 h2=>Ok.ok ⟨⟨⟨rfl,.inr ⟨a,rfl,h2.1.1,ref_n⟩⟩,ref_1⟩,h2.2⟩))
  (fun _=>(zZh h).mono fun a l' h=>⟨⟨h.1.1,h.1.2.1⟩,h.2⟩)
theorem zPt {l:List Tok} (h:TG l):Ok (fun a l'=>zor a∧TG l') (zBc l):=by
 unfold zBc
 exact (zme h).bd fun s l1 h1=>(zWa h1.2).bd fun _ l2 h2=>(zWu h2.2).bd fun a l3 h3=>Ok.ok ⟨⟨rfl,a,rfl,h3.1⟩,h3.2⟩
theorem zjr {item:List Tok→R T} {P:T→Prop} (hi:∀ {l},TG l→Ok (fun a l'=>P a∧TG l') (item l)) {l:List Tok} (h:TG l):Ok (fun xs l'=>(∀ x∈xs,P x)∧TG l') (zfb item l):=by
 unfold zfb
 exact (zWa h).bd fun _ l1 h1=>Ok.cond (fun _=>Ok.ok ⟨fun x hx=>by simp at hx,h1.2.tail⟩) (fun _=>(zfp hi h1.2).bd fun xs l2 h2=>(zWa h2.2).bd fun _ l3 h3=>Ok.ok ⟨h2.1,h3.2⟩)
theorem zjs {l:List Tok} (h:TG l):Ok (fun a l'=>(zkh a∧zjb a.text≤2)∧TG l') (zAc l):=by
 unfold zAc
 exact Ok.cond (fun _=>(zZh h.tail).mono fun a l' h=>⟨⟨h.1.1,h.1.2.2⟩,h.2⟩) (fun _=>Ok.ok ⟨⟨⟨rfl,.inl ⟨rfl,non_n⟩⟩,non_1⟩,h⟩)
theorem zNt:∀ (n:Nat) {l:List Tok},Ok (fun a _=>a.kind=9) (zYa n l)
 | 0,l=>by rw [zYa];exact Ok.bd (G:=fun _ _=>True) (fun _ _ _=>trivial) fun _ _ _=>Ok.err
 | n+1,l=>by
  rw [zYa]
  exact Ok.bd (G:=fun _ _=>True) (fun _ _ _=>trivial) fun t l1 _=>Ok.bd (G:=fun _ _=>True) (fun _ _ _=>trivial) fun xs l2 _=>Ok.ok rfl
theorem fn_f {p:Nat} {l:List Tok} (h:TG l):Ok (fun a l'=>zVf a∧TG l') (fnP p l):=by
 intro a l' e
 refine ⟨fun _=>?_,(fn_g h a l' e).2⟩
 refine (?_:Ok (fun a _=>zau a) (fnP p l)) a l' e
 unfold fnP
 exact (zme h).bd fun s l1 h1=>(zjr zPt h1.2).bd fun xs l2 h2=>(zjs h2.2).bd fun r l3 h3=>(zNt 8).bd fun b l4 h4=>Ok.ok ⟨xs,r,b,rfl,h2.1,h3.1,h4⟩
theorem zgu {p:Nat} {l:List Tok} (h:TG l):Ok (fun a l'=>zVf a∧TG l') (zdc p l):=by
 have h0:Ok (fun a _=>a.kind=1) (zdc p l):=by
  unfold zdc
  exact Ok.bd (G:=fun _ _=>True) (fun _ _ _=>trivial) fun s l1 _=>Ok.bd (G:=fun _ _=>True) (fun _ _ _=>trivial) fun xs l2 _=>Ok.bd (G:=fun _ _=>True) (fun _ _ _=>trivial) fun r l3 _=>Ok.bd (G:=fun _ _=>True) (fun _ _ _=>trivial) fun b l4 _=>Ok.bd (G:=fun _ _=>True) (fun _ _ _=>trivial) fun b l4 _=>Ok.ok rfl
 intro a l' e
 refine ⟨fun h6=>?_,(zMs h a l' e).2⟩
 have:=h0 a l' e
 omega
theorem zQu {l:List Tok} (h:TG l):Ok (fun a l'=>zVf a∧TG l') (zfd l):=by
 unfold zfd
 exact (zWa h).bd fun t l1 h1=>Ok.cond (fun _=>zgu h1.2) (fun _=>fn_f h1.2)
theorem zRo:∀ (n:Nat) {l:List Tok},TG l→Ok (fun xs l'=>(∀ x∈xs,zVf x)∧TG l') (zQc n l)
 | 0,l,_=>Ok.err
 | n+1,l,h=>by
  rw [zQc]
  exact Ok.cond (fun _=>Ok.ok ⟨fun x hx=>by simp at hx,h⟩) (fun _=>(zQu h).bd fun a l1 h1=>(zRo n h1.2).bd fun xs l2 h2=>Ok.ok ⟨fun x hx=>by
   rcases List.mem_cons.1 hx with rfl|hx
   ·exact h1.1
   ·exact h2.1 x hx,h2.2⟩)
theorem zYk (s:ByteArray):∀ t∈(zhb s).1.kids,zVf t:=by
 have hz:∀ t∈zdb.kids,zVf t:=fun t ht=>by simp [zdb,T.kids] at ht
 unfold zhb
 cases hl:zZb s with
 | error e=>exact hz
 | ok ts =>
  simp only
  unfold zIc
  cases hu:zyd ts with
  | error e=>exact hz
  | ok q =>
   obtain ⟨t,l⟩:=q
   simp only
   by_cases hs:4096<t.size
   ·rw [if_pos hs];exact hz
   ·rw [if_neg hs]
    have h1:Ok (fun t l'=>(∀ x∈t.kids,zVf x)∧TG l') (zyd ts):=by
     unfold zyd
     exact (zRo _ (zTh hl)).bd fun xs l1 h=>Ok.ok ⟨h.1,h.2⟩
    exact (h1 t l hu).1
theorem zkt {ps:List T} {m b:T} (hp:∀ p∈ps,p.kind=7) (hm:m.kind=8) (hb:b.kind=9):zFe (ps++[m,b])=⟨ps,m⟩:=by
 unfold zFe
 have p7:=filter_all (P:=fun t=>t.kind == 7) (l:=ps) fun y h=>by simp [hp y h]
 have p8:=zzf (P:=fun t=>t.kind == 8) (l:=ps) fun y h=>by simp [hp y h]
 simp only [List.filter_append,p7,p8,List.filter_cons,List.filter_nil,hm,hb]
 simp
theorem zau.fp {t:T} (h:zau t):∃ ps m b,t.kids=ps++[m,b]∧(∀ p∈ps,zor p)∧(zkh m∧zjb m.text≤2)∧zFe t.kids=⟨ps,m⟩:=by
 obtain ⟨ps,m,b,e,hp,hm,hb⟩:=h
 exact ⟨ps,m,b,e,hp,hm,by rw [e,zkt (fun p h=>(hp p h).1) hm.1.1 hb]⟩
theorem zdj {m:T} (h:zkh m):(zJa m 0).text.size≤16:=by
 rcases h.2 with ⟨e,_⟩|⟨n,e,hn,_⟩
 ·unfold zJa;rw [e];decide
 ·unfold zJa;rw [e];exact zYg hn
theorem zXp {p:T} (h:zor p):(zJa (zJa p 0) 0).text.size≤16:=by
 obtain ⟨_,m,e,hm,_⟩:=h
 have:zJa p 0=m:=by unfold zJa;rw [e];rfl
 rw [this]
 exact zdj hm
end
section
open Go.RowKit Go.Maps
def zcu (w:World) (r:E Prm) (e:Ending) (w':World):Prop :=
 match r with
 | .ok p=>e=.returned (.tuple #[zzh p,.int .i64 0,.int .i64 0])∧Below w.heap.size w w'
 | .error (q,c)=>e=.returned (.tuple #[zzh zyb,.int .i64 q,.int .i64 c])∧Below w.heap.size w w'
theorem zpj {tys:List Ty} {n:T} {l:List Prm} (h:l.any (zcd n.text)=true):zIl tys n l=.error (n.place,30):=by unfold zIl;rw [h];rfl
theorem zQk {tys:List Ty} {n:T} {l:List Prm} (h:l.any (zcd n.text)=false) (h2:zgd tys (zJa n 0)=none):zIl tys n l=.error ((zJa n 0).place,31):=by unfold zIl;rw [h,h2];rfl
theorem zqj {tys:List Ty} {n:T} {l:List Prm} {p:Prm} (h:l.any (zcd n.text)=false) (h2:zgd tys (zJa n 0)=some p) (h3:zXd tys p l=true):zIl tys n l=.error ((zJa n 0).place,34):=by unfold zIl;rw [h,h2];simp only [h3];rfl
theorem zMp {tys:List Ty} {n:T} {l:List Prm} {p:Prm} (h:l.any (zcd n.text)=false) (h2:zgd tys (zJa n 0)=some p) (h3:zXd tys p l=false):zIl tys n l=.ok ⟨n.text,p.mode,p.ty⟩:=by unfold zIl;rw [h,h2];simp only [h3];rfl
theorem zyo {w:World} {A:Option Addr} {cap M:Nat} {tys:List Ty} (ht:Tys w A tys) (hlen:tys.length≤cap∧cap≤maxLen) (hm:MapAt w M tys) {t:T} {S:Nat→Prop} {kv:Value} (hk:KAt 25 w t.kids S kv) (hz:(zJa (zJa t 0) 0).text.size≤maxLen) {l:List Prm} {S':Nat→Prop} {v:Value} (hl:zQd w l S' v) :
  Calls Tryz.prog 50 #[RV A tys.length cap M,zna t kv,v] w (zcu w (zIl tys t l)):=by
 obtain ⟨W0,hW0⟩:∃ W,((w.alloc (.cells (zBb A tys.length cap M).toArray 101)).alloc (.cells (zaa t kv).toArray 25)).alloc (.cells (zja zyb).toArray 52)=W:=⟨_,rfl⟩
 have HB0:=zh (show Below w.heap.size w W0 from hW0▸((((Below.refl _ _).alloc (Nat.le_refl _) _).alloc (by simp) _).alloc (by simp;omega) _))
 have b1:=zh (show Blk W0 w.heap.size (zBb A tys.length cap M) 101 from hW0▸(((Blk.new w _ _).alloc _).alloc _))
 have b2:=zh (show Blk W0 (w.heap.size+1) (zaa t kv) 25 from hW0▸((Blk.zTe w _ _ _).alloc _))
 have b3:=zh (show Blk W0 (w.heap.size+1+1) (zja zyb) 52 from hW0▸(by simpa using Blk.new ((w.alloc (.cells (zBb A tys.length cap M).toArray 101)).alloc (.cells (zaa t kv).toArray 25)) (zja zyb) 52))
 have ZONE:=zsb zyb
 have HT:=zh ht
 have HM:=zh hm
 have HK:=zh hk
 have HL:=zh hl
 have HCN:=zh (zvk (w.heap.size+1) t.text W0 (b2.out.cell 1) b2.out.lt (hl.below HB0.out))
 have hmf:=zbc
 obtain ⟨va,vc,rfl⟩:=hl.slice
 unfold zBb zaa zja zyb at hW0
 unfold RV zna
 clear ht hm hk hl
 go_enter Tryz.func50,Tryz.ntmps50
 go_upto_region 1 with fail
 try rw [hW0]
 clear hW0
 go_wp2_with fail
 refine HCN.out.mono ?_
 rintro e w1 ⟨rfl,hb⟩
 have HB1:=zh (HB0.out.trans (hb.mono HB0.out.size))
 have R1:=zh (b1.out.stays hb)
 have N1:=zh (b2.out.stays hb)
 have P1:=zh (b3.out.stays hb)
 clear hb HCN hmf
 cases ha:l.any (zcd t.text)
 ·have n1:=N1.out
  go_wp2_with ((with_reducible refine zqa 25 (.tmp 4) ?_);refine zia rfl 25 (.tmp 4) rfl (w.heap.size+1) (zaa t kv) rfl n1 Tryz.underlying25 rfl Tryz.zea ?_)
  refine (zdn (t:=t) (kv:=kv) (HK.out.below HB1.out) 0).mono ?_
  rintro e w2 ⟨u,rfl,hku,hb⟩
  generalize hmt:zJa t 0=m at *
  obtain ⟨W2,hW2⟩:∃ W,w2.alloc (.cells (zaa m u).toArray 25)=W:=⟨_,rfl⟩
  have hb2:Below w2.heap.size w2 W2:=hW2▸(Below.refl _ _).alloc (Nat.le_refl _) _
  have hb12:=hb.trans (hb2.mono hb.size)
  have HB2:=zh (HB1.out.trans (hb12.mono HB1.out.size))
  have R2:=zh (R1.out.stays hb12)
  have N2:=zh (N1.out.stays hb12)
  have P2:=zh (P1.out.stays hb12)
  have Q2:=zh (show Blk W2 w2.heap.size (zaa m u) 25 from hW2▸Blk.new w2 _ _)
  have hu1:=hku.one
  have HKU:=zh (hku.below hb2)
  have hg2:w.heap.size+1+1<w2.heap.size:=Nat.lt_of_lt_of_le P1.out.lt hb.size
  have HHD:=zh (zij (A:=A) (n:=tys.length) (cap:=cap) (HM.out.below HB2.out) HKU.out hz)
  clear hku hb hb2 hb12 n1
  unfold zna
  unfold RV zna at HHD
  have q2:=Q2.out
  have r2:=R2.out
  go_wp2_with (first
   | ((with_reducible refine zla 25 (.tmp 9) ?_);refine zga rfl 25 (.tmp 9) (.tmp 19) rfl (zaa m u) (old:=zba) rfl rfl Tryz.zea rfl (zca _ _ hu1) ?_;rw [hW2])
   | ((with_reducible refine zqa 101 (.tmp 3) ?_);refine zia rfl 101 (.tmp 3) rfl w.heap.size (zBb A tys.length cap M) rfl r2 Tryz.underlying101 rfl Tryz.zEi ?_)
   | ((with_reducible refine zqa 25 (.tmp 9) ?_);refine zia rfl 25 (.tmp 9) rfl w2.heap.size (zaa m u) rfl q2 Tryz.underlying25 rfl Tryz.zea ?_))
  refine HHD.out.mono ?_
  clear HHD hW2
  rintro e w3 ⟨rfl,hb⟩
  obtain ⟨W3,hW3⟩:∃ W,w3.alloc (.cells (zja ((zgd tys m).getD zyb)).toArray 52)=W:=⟨_,rfl⟩
  have hb2:Below w3.heap.size w3 W3:=hW3▸(Below.refl _ _).alloc (Nat.le_refl _) _
  have hb12:=hb.trans (hb2.mono hb.size)
  have HB3:=zh (HB2.out.trans (hb12.mono HB2.out.size))
  have R3:=zh (R2.out.stays hb12)
  have N3:=zh (N2.out.stays hb12)
  have P3:=zh (P2.out.stays hb12)
  have Q3:=zh (Q2.out.stays hb12)
  have X3:=zh (show Blk W3 w3.heap.size (zja ((zgd tys m).getD zyb)) 52 from hW3▸Blk.new w3 _ _)
  have hg3:w2.heap.size<w3.heap.size:=Nat.lt_of_lt_of_le Q2.out.lt hb.size
  clear hb hb2 hb12 q2 r2
  cases hh:zgd tys m with
  | none =>
   have HRes:=zh (zQk (tys:=tys) ha (by rw [hmt];exact hh))
   rw [hmt] at HRes
   rw [hh] at hW3 X3
   simp only [zFu,Option.getD_none] at hW3 X3 ⊢
   unfold zzh
   go_wp2_with ((with_reducible refine zla 52 (.tmp 10) ?_);refine zga rfl 52 (.tmp 10) (.tmp 24) rfl (zja zyb) (old:=zja zyb) rfl rfl Tryz.zzb rfl (zsb _) ?_;rw [hW3])
   clear hW3
   go_upto_region 8 with fail
   refine wp_region_held_drew (S:=fun W=>Blk W w2.heap.size (zaa m u) 25∧Blk W (w.heap.size+1+1) (zja zyb) 52) (by kernel_rfl) ⟨Q3.out,P3.out⟩ (fun hS=>?_)
   refine wpAnyH_take (i:=0) (oi:=⟨some 36,_,_,_,_,_⟩) (v:=.agg (zja zyb).toArray) rfl (by kernel_rfl) (by kernel_rfl) (by kernel_rfl) (fun _ _ _ h=>h) (Or.inl ⟨by rfl,fun W _=>by unfold zja zyb;go_simp⟩) hS ?_
   try simp only [Act.put,List.setIfInBounds_toArray,List.set_cons_zero,List.set_cons_succ]
   refine wpAnyH_take (i:=1) (oi:=⟨some 37,_,_,_,_,_⟩) (v:=.pointer (some ⟨w2.heap.size,3,none⟩)) rfl (by kernel_rfl) (by kernel_rfl) (by kernel_rfl) (fun _ _ _ h=>h) (Or.inl ⟨by rfl,fun W _=>by go_simp⟩) hS ?_
   try simp only [Act.put,List.setIfInBounds_toArray,List.set_cons_zero,List.set_cons_succ]
   refine wpAnyH_take (i:=2) (oi:=⟨some 38,_,_,_,_,_⟩) (v:=.int .i64 (m).place) rfl (by kernel_rfl) (by kernel_rfl) (by kernel_rfl) (fun _ _ _ h=>h) (Or.inl ⟨by rfl,fun W hW=>by have hcx:W.cell? ⟨w2.heap.size,3,none⟩=some (.int .i64 (m).place):=hW.1.cell 3;go_simp⟩) hS ?_
   try simp only [Act.put,List.setIfInBounds_toArray,List.set_cons_zero,List.set_cons_succ]
   refine wpAnyH_take (i:=3) (oi:=⟨some 39,_,_,_,_,_⟩) (v:=.int .i64 31) rfl (by kernel_rfl) (by kernel_rfl) (by kernel_rfl) (fun _ _ _ h=>h) (Or.inl ⟨by rfl,fun W _=>by go_simp⟩) hS ?_
   try simp only [Act.put,List.setIfInBounds_toArray,List.set_cons_zero,List.set_cons_succ]
   refine AnyH.only (i:=4) (o:=⟨none,_,_,_,_,_⟩) (by kernel_rfl) rfl (by rfl) (fun K hK=>?_)
   refine zva 52 (.tmp 6) (.tmp 36) rfl ((w.heap.size+1+1)) (zja zyb) rfl rfl hS.2 Tryz.zzb rfl ZONE ?_
   have hS3:Blk (World.setRow _ ((w.heap.size+1+1)) (zja zyb).toArray) w2.heap.size (zaa m u) 25∧Blk (World.setRow _ ((w.heap.size+1+1)) (zja zyb).toArray) (w.heap.size+1+1) (zja zyb) 52:=⟨hS.1.zta _ _ (by omega),hS.2.zra _⟩
   refine hK.out _ _ hS3 ?_
   clear hK K hS
   try simp only [Act.put]
   refine wpAnyH_take (i:=5) (oi:=⟨some 7,_,_,_,_,_⟩) (v:=.int .i64 (m).place) rfl (by kernel_rfl) (by kernel_rfl) (by kernel_rfl) (fun _ _ _ h=>h) (Or.inl ⟨by rfl,fun W _=>by go_simp⟩) hS3 ?_
   try simp only [Act.put,List.setIfInBounds_toArray,List.set_cons_zero,List.set_cons_succ]
   refine wpAnyH_take (i:=6) (oi:=⟨some 8,_,_,_,_,_⟩) (v:=.int .i64 31) rfl (by kernel_rfl) (by kernel_rfl) (by kernel_rfl) (fun _ _ _ h=>h) (Or.inl ⟨by rfl,fun W _=>by go_simp⟩) hS3 ?_
   try simp only [Act.put,List.setIfInBounds_toArray,List.set_cons_zero,List.set_cons_succ]
   refine wpAnyH_done (by kernel_rfl) ?_ _
   go_wp2_with fail
   refine ztb (cs:=zja zyb) Tryz.results50 rfl hS3.2 Tryz.underlying52 rfl Tryz.zzb rfl rfl rfl ?_
   rw [HRes.out]
   exact ⟨rfl,Below.row (HB3.out).drew (by omega) _⟩
  | some p =>
   rw [hh] at hW3 X3
   simp only [zFu,Option.getD_some] at hW3 X3 ⊢
   have x3:=X3.out
   have r30:W3.cell? ⟨w.heap.size,0,none⟩=some (.slice A tys.length cap):=R3.out.cell 0
   have r31:W3.cell? ⟨w.heap.size,1,none⟩=some (.map (some M)):=R3.out.cell 1
   have x30:W3.cell? ⟨w3.heap.size,0,none⟩=some (.string p.name):=X3.out.cell 0
   have x31:W3.cell? ⟨w3.heap.size,1,none⟩=some (.int .i64 p.mode):=X3.out.cell 1
   have x32:W3.cell? ⟨w3.heap.size,2,none⟩=some (.int .i64 p.ty):=X3.out.cell 2
   have HCL:=zh (zom (M:=M) (HT.out.below HB3.out) hlen (zEm hh) (HL.out.below HB3.out))
   unfold RV zzh at HCL
   unfold zzh
   go_wp2_with ((with_reducible refine zla 52 (.tmp 10) ?_);refine zga rfl 52 (.tmp 10) (.tmp 24) rfl (zja p) (old:=zja zyb) rfl rfl Tryz.zzb rfl (zsb _) ?_;rw [hW3])
   clear hW3 r30 r31 x30 x31 x32
   refine HCL.out.mono ?_
   clear HCL
   rintro e w4 ⟨rfl,hb⟩
   have HB4:=zh (HB3.out.trans (hb.mono HB3.out.size))
   have N4:=zh (N3.out.stays hb)
   have P4:=zh (P3.out.stays hb)
   have Q4:=zh (Q3.out.stays hb)
   have X4:=zh (X3.out.stays hb)
   clear hb x3
   cases hc:zXd tys p l
   ·have HRes:=zh (zMp (tys:=tys) ha (by rw [hmt];exact hh) hc)
    have n41:w4.cell? ⟨w.heap.size+1,1,none⟩=some (.string t.text):=N4.out.cell 1
    have x40:w4.cell? ⟨w3.heap.size,0,none⟩=some (.string p.name):=X4.out.cell 0
    have f40:w4.frozen? ⟨w3.heap.size,0,none⟩=false:=(X4.out.there 0 3 (by simp [zja]) 0 (by omega)).2
    obtain ⟨W5,hW5⟩:∃ W,w4.setCell ⟨w3.heap.size,0,none⟩ (.string t.text)=W:=⟨_,rfl⟩
    have hrow:W5=w4.setRow w3.heap.size (zja ⟨t.text,p.mode,p.ty⟩).toArray:=hW5▸setCell_eq_setRow w4 w3.heap.size 0 _ _ (0,0) _ X4.out
    have p5:Blk W5 (w.heap.size+1+1) (zja zyb) 52:=hrow▸P4.out.zta _ _ (by omega)
    have x5:Blk W5 w3.heap.size (zja ⟨t.text,p.mode,p.ty⟩) 52:=hrow▸X4.out.zra _
    have HB5:=zh (show Below w.heap.size w W5 from hrow▸Below.row HB4.out (by omega) _)
    clear hrow
    go_wp2_with (first
     | ((with_reducible refine zqa 52 (.tmp 10) ?_);refine zia rfl 52 (.tmp 10) rfl w3.heap.size (zja ⟨t.text,p.mode,p.ty⟩) rfl x5 Tryz.underlying52 rfl Tryz.zzb ?_)
     | ((with_reducible refine zla 52 (.tmp 6) ?_);refine zda rfl 52 (.tmp 6) (.tmp 43) rfl (w.heap.size+1+1) (zja ⟨t.text,p.mode,p.ty⟩) rfl rfl p5 Tryz.zzb rfl (zsb _) ?_))
    refine ztb (cs:=zja ⟨t.text,p.mode,p.ty⟩) Tryz.results50 rfl (p5.zra (zja ⟨t.text,p.mode,p.ty⟩)) Tryz.underlying52 rfl Tryz.zzb rfl rfl rfl ?_
    rw [HRes.out]
    exact ⟨rfl,Below.row HB5.out (by omega) _⟩
   ·have HRes:=zh (zqj (tys:=tys) ha (by rw [hmt];exact hh) hc)
    rw [hmt] at HRes
    go_upto_region 8 with fail
    refine wp_region_held_drew (S:=fun W=>Blk W w2.heap.size (zaa m u) 25∧Blk W (w.heap.size+1+1) (zja zyb) 52) (by kernel_rfl) ⟨Q4.out,P4.out⟩ (fun hS=>?_)
    refine wpAnyH_take (i:=0) (oi:=⟨some 36,_,_,_,_,_⟩) (v:=.agg (zja zyb).toArray) rfl (by kernel_rfl) (by kernel_rfl) (by kernel_rfl) (fun _ _ _ h=>h) (Or.inl ⟨by rfl,fun W _=>by unfold zja zyb;go_simp⟩) hS ?_
    try simp only [Act.put,List.setIfInBounds_toArray,List.set_cons_zero,List.set_cons_succ]
    refine wpAnyH_take (i:=1) (oi:=⟨some 37,_,_,_,_,_⟩) (v:=.pointer (some ⟨w2.heap.size,3,none⟩)) rfl (by kernel_rfl) (by kernel_rfl) (by kernel_rfl) (fun _ _ _ h=>h) (Or.inl ⟨by rfl,fun W _=>by go_simp⟩) hS ?_
    try simp only [Act.put,List.setIfInBounds_toArray,List.set_cons_zero,List.set_cons_succ]
    refine wpAnyH_take (i:=2) (oi:=⟨some 38,_,_,_,_,_⟩) (v:=.int .i64 (m).place) rfl (by kernel_rfl) (by kernel_rfl) (by kernel_rfl) (fun _ _ _ h=>h) (Or.inl ⟨by rfl,fun W hW=>by have hcx:W.cell? ⟨w2.heap.size,3,none⟩=some (.int .i64 (m).place):=hW.1.cell 3;go_simp⟩) hS ?_
    try simp only [Act.put,List.setIfInBounds_toArray,List.set_cons_zero,List.set_cons_succ]
    refine wpAnyH_take (i:=3) (oi:=⟨some 39,_,_,_,_,_⟩) (v:=.int .i64 34) rfl (by kernel_rfl) (by kernel_rfl) (by kernel_rfl) (fun _ _ _ h=>h) (Or.inl ⟨by rfl,fun W _=>by go_simp⟩) hS ?_
    try simp only [Act.put,List.setIfInBounds_toArray,List.set_cons_zero,List.set_cons_succ]
    refine AnyH.only (i:=4) (o:=⟨none,_,_,_,_,_⟩) (by kernel_rfl) rfl (by rfl) (fun K hK=>?_)
    refine zva 52 (.tmp 6) (.tmp 36) rfl ((w.heap.size+1+1)) (zja zyb) rfl rfl hS.2 Tryz.zzb rfl ZONE ?_
    have hS3:Blk (World.setRow _ ((w.heap.size+1+1)) (zja zyb).toArray) w2.heap.size (zaa m u) 25∧Blk (World.setRow _ ((w.heap.size+1+1)) (zja zyb).toArray) (w.heap.size+1+1) (zja zyb) 52:=⟨hS.1.zta _ _ (by omega),hS.2.zra _⟩
    refine hK.out _ _ hS3 ?_
    clear hK K hS
    try simp only [Act.put]
    refine wpAnyH_take (i:=5) (oi:=⟨some 7,_,_,_,_,_⟩) (v:=.int .i64 (m).place) rfl (by kernel_rfl) (by kernel_rfl) (by kernel_rfl) (fun _ _ _ h=>h) (Or.inl ⟨by rfl,fun W _=>by go_simp⟩) hS3 ?_
    try simp only [Act.put,List.setIfInBounds_toArray,List.set_cons_zero,List.set_cons_succ]
    refine wpAnyH_take (i:=6) (oi:=⟨some 8,_,_,_,_,_⟩) (v:=.int .i64 34) rfl (by kernel_rfl) (by kernel_rfl) (by kernel_rfl) (fun _ _ _ h=>h) (Or.inl ⟨by rfl,fun W _=>by go_simp⟩) hS3 ?_
    try simp only [Act.put,List.setIfInBounds_toArray,List.set_cons_zero,List.set_cons_succ]
    refine wpAnyH_done (by kernel_rfl) ?_ _
    go_wp2_with fail
    refine ztb (cs:=zja zyb) Tryz.results50 rfl hS3.2 Tryz.underlying52 rfl Tryz.zzb rfl rfl rfl ?_
    rw [HRes.out]
    exact ⟨rfl,Below.row (HB4.out).drew (by omega) _⟩
 ·have HRes:=zh (zpj (tys:=tys) (n:=t) ha)
  go_upto_region 2 with fail
  refine wp_region_held_drew (S:=fun W=>Blk W (w.heap.size+1) (zaa t (kv)) 25∧Blk W (w.heap.size+1+1) (zja zyb) 52) (by kernel_rfl) ⟨N1.out,P1.out⟩ (fun hS=>?_)
  refine wpAnyH_take (i:=0) (oi:=⟨some 15,_,_,_,_,_⟩) (v:=.agg (zja zyb).toArray) rfl (by kernel_rfl) (by kernel_rfl) (by kernel_rfl) (fun _ _ _ h=>h) (Or.inl ⟨by rfl,fun W _=>by unfold zja zyb;go_simp⟩) hS ?_
  try simp only [Act.put,List.setIfInBounds_toArray,List.set_cons_zero,List.set_cons_succ]
  refine wpAnyH_take (i:=1) (oi:=⟨some 16,_,_,_,_,_⟩) (v:=.pointer (some ⟨(w.heap.size+1),3,none⟩)) rfl (by kernel_rfl) (by kernel_rfl) (by kernel_rfl) (fun _ _ _ h=>h) (Or.inl ⟨by rfl,fun W _=>by go_simp⟩) hS ?_
  try simp only [Act.put,List.setIfInBounds_toArray,List.set_cons_zero,List.set_cons_succ]
  refine wpAnyH_take (i:=2) (oi:=⟨some 17,_,_,_,_,_⟩) (v:=.int .i64 (t).place) rfl (by kernel_rfl) (by kernel_rfl) (by kernel_rfl) (fun _ _ _ h=>h) (Or.inl ⟨by rfl,fun W hW=>by have hcx:W.cell? ⟨(w.heap.size+1),3,none⟩=some (.int .i64 (t).place):=hW.1.cell 3;go_simp⟩) hS ?_
  try simp only [Act.put,List.setIfInBounds_toArray,List.set_cons_zero,List.set_cons_succ]
  refine AnyH.only (i:=3) (o:=⟨none,_,_,_,_,_⟩) (by kernel_rfl) rfl (by rfl) (fun K hK=>?_)
  refine zva 52 (.tmp 6) (.tmp 15) rfl ((w.heap.size+1+1)) (zja zyb) rfl rfl hS.2 Tryz.zzb rfl ZONE ?_
  have hS3:Blk (World.setRow _ ((w.heap.size+1+1)) (zja zyb).toArray) (w.heap.size+1) (zaa t (kv)) 25∧Blk (World.setRow _ ((w.heap.size+1+1)) (zja zyb).toArray) (w.heap.size+1+1) (zja zyb) 52:=⟨hS.1.zta _ _ (by omega),hS.2.zra _⟩
  refine hK.out _ _ hS3 ?_
  clear hK K hS
  try simp only [Act.put]
  refine wpAnyH_take (i:=4) (oi:=⟨some 7,_,_,_,_,_⟩) (v:=.int .i64 (t).place) rfl (by kernel_rfl) (by kernel_rfl) (by kernel_rfl) (fun _ _ _ h=>h) (Or.inl ⟨by rfl,fun W _=>by go_simp⟩) hS3 ?_
  try simp only [Act.put,List.setIfInBounds_toArray,List.set_cons_zero,List.set_cons_succ]
  refine wpAnyH_take (i:=5) (oi:=⟨some 8,_,_,_,_,_⟩) (v:=.int .i64 30) rfl (by kernel_rfl) (by kernel_rfl) (by kernel_rfl) (fun _ _ _ h=>h) (Or.inl ⟨by rfl,fun W _=>by go_simp⟩) hS3 ?_
  try simp only [Act.put,List.setIfInBounds_toArray,List.set_cons_zero,List.set_cons_succ]
  refine wpAnyH_done (by kernel_rfl) ?_ _
  go_wp2_with fail
  refine ztb (cs:=zja zyb) Tryz.results50 rfl hS3.2 Tryz.underlying52 rfl Tryz.zzb rfl rfl rfl ?_
  rw [HRes.out]
  exact ⟨rfl,Below.row (HB1.out).drew (by omega) _⟩
end
end Go.Proofs.YtpjnpffcnmgdcaaGreatDoor
