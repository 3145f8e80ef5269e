/- The contract of lychgatelaw12.wakes in a world that holds the tables of lex: it returns true, and changes nothing that was in memory. What the types of a tree keep to: they stand in the text's order; their numbers are of fields that are there. Nothing of the program is walked here. What the signatures of a tree keep to: they stand in the text's order; their types are there. Nothing of the program is walked here. The numbers of the faults of types. Nothing of the program is walked here. -/
import Derived.Test.YtpjnpffcnmgdcaaGreatDoorZ34
import Derived.Test.YtpjnpffcnmgdcaaGreatDoorZ31
import Derived.Test.YtpjnpffcnmgdcaaGreatDoorZ23
import Derived.Test.YtpjnpffcnmgdcaaGreatDoorZ30
namespace Go.Proofs.YtpjnpffcnmgdcaaGreatDoor
set_option maxRecDepth 100000
set_option maxHeartbeats 2000000
section
open Go.RowKit
theorem znf:∀ (k:Nat) (ks:List T) (vs:List Value),vs.length=ks.length→zKa (ks.take k) (vs.take k)=(zKa ks vs).take (k * 5)
 | 0,_,_,_=>by simp [zKa]
 | k+1,[],[],_=>by simp [zKa]
 | k+1,t :: ks,v :: vs,h=>by
  simp only [List.take_succ_cons,zKa]
  rw [znf k ks vs (by simpa using h),List.take_append,List.take_of_length_le (l:=zaa t v) (by simp [zaa];omega)]
  congr 2
  simp [zaa]
  omega
theorem zGb.take {e:TypeId} {w:World}:∀ (k:Nat) (ks:List T) {S:Nat→Prop} {vs:List Value},zGb e w ks S vs→zGb e w (ks.take k) S (vs.take k)
 | 0,ks,S,vs,_=>by simp [zGb]
 | k+1,[],S,vs,h=>by simp only [zGb] at h;subst h;simp [zGb]
 | k+1,t :: ks,S,vs,h=>by
  simp only [zGb] at h
  obtain ⟨v,vs',rfl,h1,h2⟩:=h
  simp only [List.take_succ_cons,zGb]
  exact ⟨v,vs'.take k,rfl,h1,zGb.take k ks h2⟩
theorem KAt.take {e:TypeId} {w:World} {ks:List T} {S:Nat→Prop} {a:Option Addr} {c:Nat} (h:KAt e w ks S (.slice a ks.length c)) {k:Nat} (h0:0<k) (hk:k≤ks.length):KAt e w (ks.take k) S (.slice a k c):=by
 obtain ⟨vs,⟨hl,ho⟩,hS,ht⟩:=h
 have hvl:=zGb.length ht
 rcases ho with ⟨e1,e2⟩|⟨g,cap,cur,e1,hb,hg,hnc,hcm,hcs,htake⟩
 ·omega
 ·obtain ⟨rfl,rfl⟩:a=some ⟨g,0,none⟩∧c=cap:=by simpa using e1
  have hlk:(ks.take k).length=k:=by simp;omega
  refine ⟨vs.take k,⟨?_,.inr ⟨g,c,cur,by rw [hlk],hb,hg,by omega,hcm,hcs,?_⟩⟩,hS,?_⟩
  ·rw [znf k ks vs hvl,List.length_take,hl,hlk];omega
  ·rw [znf k ks vs hvl,← htake,List.take_take,hlk]
   congr 1
   omega
  ·exact zGb.take k ks ht
def s12:ByteArray:=⟨#[116,121,112,101,32,118,101,99,32,111,119,110,32,123,32,110,32,125,59,32,116,121,112,101,32,99,32,99,101,108,108,32,123,32,118,32,125,59,32,102,110,32,103,101,116,40,118,58,32,38,118,101,99,44,32,105,58,32,105,110,116,41,32,45,62,32,105,110,116,32,123,32,125,32,102,110,32,116,119,111,40,97,58,32,38,99,44,32,98,58,32,38,109,117,116,32,99,41,32,123,32,125]⟩
def zSs:List Ty:=[⟨bs [118,101,99],0,0,[(bs [110],-1)],[]⟩,⟨bs [99],1,0,[(bs [118],-1)],[]⟩]
def sg12:Sg:=⟨bs [103,101,116],[⟨bs [118],3,0⟩,⟨bs [105],1,0⟩],⟨⟨#[]⟩,1,0⟩⟩
theorem zyj:∀ t∈zSs,t.name.size≤maxLen:=by
 intro t ht
 simp only [zSs,List.mem_cons,List.not_mem_nil,or_false] at ht
 rcases ht with rfl|rfl<;>(unfold maxLen;decide)
theorem zzq:zhb s12=((zhb s12).1,0,0):=by kernel_rfl
theorem zqq:zCd [] (zhb s12).1.kids=.ok zSs:=by kernel_rfl
theorem zAs:zTd zSs [] (zhb s12).1.kids=.error (91,34):=by kernel_rfl
theorem zmp:zTd zSs [] ((zhb s12).1.kids.take 3)=.ok [sg12]:=by kernel_rfl
theorem zvs:(zhb s12).1.kids.length=4:=by kernel_rfl
theorem zSm:∀ (k:Nat) (l:List T),sizes (l.take k)≤sizes l
 | 0,l=>by simp [zAa]
 | k+1,[]=>by simp
 | k+1,t :: l=>by rw [List.take_succ_cons,zBa,zBa];have:=zSm k l;omega
theorem zOc.tysc {w:World} {ts:List Ty} {S:Nat→Prop} {v:Value} (h:zOc w ts S v):∃ a c,v=.slice a ts.length c∧(ts.length≤c∧c≤maxLen)∧Tys w a ts:=by
 rcases h.form with ⟨rfl,rfl⟩|⟨g,cap,rfl,hg,hcap,hcm,hget⟩
 ·exact ⟨none,0,rfl,⟨Nat.le_refl _,by unfold maxLen;omega⟩,fun h=>by simp at h⟩
 ·obtain ⟨A,c,e,_,h⟩:=h.tys
  obtain ⟨rfl,rfl⟩:some ⟨g,0,none⟩=A∧cap=c:=by simpa using e
  exact ⟨_,_,rfl,⟨hcap,hcm⟩,h⟩
theorem zOc.val {w:World} {ts:List Ty} {S:Nat→Prop} {a:Option Addr} {n c:Nat} (h:zOc w ts S (.slice a n c)):(ts.length≤c∧c≤maxLen)∧Tys w a ts:=by
 obtain ⟨a',c',e,h1,h2⟩:=h.tysc
 obtain ⟨rfl,_,rfl⟩:a=a'∧n=ts.length∧c=c':=by simpa using e
 exact ⟨h1,h2⟩
def T.head (t:T) (k:Nat):T:=.mk t.kind t.text t.num t.place (t.kids.take k)
theorem zUl (w:World) (ht:Tabs w) :
  Calls Tryz.prog 7 #[] w fun e w'=>e=.returned (.bool true)∧Below w.heap.size w w':=by
 have HT:=zh ht
 go_enter Tryz.func7,Tryz.ntmps7
 go_wp2_with fail
 refine (parse_any s12 w (by unfold maxLen;decide) ht).mono ?_
 rintro e w1 ⟨kv,rfl,hk,hb⟩
 rw [zzq] at hk ⊢
 simp only at hk ⊢
 obtain ⟨W1,hW1⟩:∃ W,w1.alloc (.cells (zaa (zhb s12).1 kv).toArray 25)=W:=⟨_,rfl⟩
 have hb1:Below w1.heap.size w1 W1:=hW1▸(Below.refl _ _).alloc (Nat.le_refl _) _
 have HB1:=zh (hb.trans (hb1.mono hb.size))
 have HN1:=zh (show Blk W1 w1.heap.size (zaa (zhb s12).1 kv) 25 from hW1▸Blk.new w1 _ _)
 have HTY:=zh (ziq (hk.below hb1) (zFi s12) (zWg s12).2)
 have HTS:=zh zqq
 have HS1:=zh zAs
 have HS2:=zh zmp
 have HKL:=zh zvs
 have HFN:=zh (zYk s12)
 have HSZ:=zh (zWg s12).2
 have HWL:=zh hb.size
 have HO:=zh hk.one
 have hk':KAt 25 w1 (zhb s12).1.kids (fun b=>b<w1.heap.size) kv:=hk.keep fun b _ hl=>⟨hl,rfl⟩
 have HK1:=zh (hk'.below hb1)
 have hwl:w1.heap.size<W1.heap.size:=HN1.out.lt
 clear hk hk' hb hb1 ht
 unfold zna at HTY ⊢
 generalize (zhb s12).1=tr at *
 have hn1:=HN1.out
 go_upto_region 2 with ((with_reducible refine zla 25 (.tmp 1) ?_);refine zga rfl 25 (.tmp 1) (.tmp 15) rfl (zaa tr kv) (old:=zba) rfl rfl Tryz.zea rfl (zca tr _ HO.out) ?_;rw [hW1])
 clear hW1
 go_wp2_with ((with_reducible refine zqa 25 (.tmp 1) ?_);refine zia rfl 25 (.tmp 1) rfl w1.heap.size (zaa tr kv) rfl hn1 Tryz.underlying25 rfl Tryz.zea ?_)
 refine HTY.out.mono ?_
 clear hn1 HTY
 intro e w2 hp
 unfold zAg at hp
 rw [HTS.out] at hp
 obtain ⟨v,rfl,hv,hb2⟩:=hp
 have HB2:=zh (HB1.out.trans (hb2.mono HB1.out.size))
 have HN2:=zh (HN1.out.stays hb2)
 have HK2:=zh (HK1.out.below hb2)
 have HV2:=zh hv
 obtain ⟨va,vc,rfl,hcl,hty⟩:=hv.tysc
 have HSG:=zh (zKh hty hcl zyj HK2.out HSZ.out HFN.out)
 have hn2:=HN2.out
 unfold zna at HSG
 clear hv hb2 hty
 go_wp2_with ((with_reducible refine zqa 25 (.tmp 1) ?_);refine zia rfl 25 (.tmp 1) rfl w1.heap.size (zaa tr kv) rfl hn2 Tryz.underlying25 rfl Tryz.zea ?_)
 refine HSG.out.mono ?_
 clear HSG hn2
 intro e w3 hp
 rw [HS1.out] at hp
 obtain ⟨rfl,hb3⟩:=hp
 have HB3:=zh (HB2.out.trans (hb3.mono HB2.out.size))
 have HN3:=zh (HN2.out.stays hb3)
 have HK3:=zh (HK2.out.below hb3)
 have HV3:=zh (HV2.out.below hb3)
 obtain ⟨g,cap,rfl,hcap,hcm⟩:∃ g cap,kv=.slice (some ⟨g,0,none⟩) 4 cap∧4≤cap∧cap≤9223372036854775807:=by
  rcases HK1.out.form with ⟨rfl,hnil⟩|⟨g,cap,rfl,hg,h1,h2,_⟩
  ·have:=HKL.out;rw [hnil] at this;cases this
  ·rw [HKL.out] at h1 ⊢
   exact ⟨g,cap,rfl,h1,by unfold maxLen at h2;omega⟩
 have hk4:KAt 25 w3 (tr.kids.take 3) (fun b=>b<w1.heap.size) (.slice (some ⟨g,0,none⟩) 3 cap):=by
  have h:=HK3.out
  rw [← HKL.out] at h
  exact h.take (by omega) (by rw [HKL.out];omega)
 have n34:w3.cell? ⟨w1.heap.size,4,none⟩=some (.slice (some ⟨g,0,none⟩) 4 cap):=HN3.out.cell 4
 have f34:w3.frozen? ⟨w1.heap.size,4,none⟩=false:=(HN3.out.there 4 1 (by simp [zaa]) 0 (by omega)).2
 obtain ⟨W4,hW4⟩:∃ W,w3.setCell ⟨w1.heap.size,4,none⟩ (.slice (some ⟨g,0,none⟩) 3 cap)=W:=⟨_,rfl⟩
 have hrow:W4=w3.setRow w1.heap.size (zaa (tr.head 3) (.slice (some ⟨g,0,none⟩) 3 cap)).toArray:=hW4▸setCell_eq_setRow w3 w1.heap.size 4 _ _ (0,0) _ HN3.out
 have hn4:Blk W4 w1.heap.size (zaa (tr.head 3) (.slice (some ⟨g,0,none⟩) 3 cap)) 25:=hrow▸HN3.out.zra _
 have HB4:=zh (show Below w.heap.size w W4 from hrow▸Below.row HB3.out HWL.out _)
 have hk5:KAt 25 W4 (tr.head 3).kids (fun b=>b<w1.heap.size) (.slice (some ⟨g,0,none⟩) 3 cap):=hrow▸hk4.setRow _ _ (fun b hb=>by omega)
 have hv4:zOc W4 zSs (fun b=>W1.heap.size≤b) (.slice va zSs.length vc):=hrow▸HV3.out.keep fun b hb _=>⟨hb,setRow_other _ _ _ _ (by omega)⟩
 have HSG:=zh (zKh hv4.val.2 hv4.val.1 zyj hk5 (by
  have h1:=HSZ.out
  have h2:tr.size=1+sizes tr.kids:=by cases tr;rw [size_mk];rfl
  have h3:=zSm 3 tr.kids
  show (T.mk tr.kind tr.text tr.num tr.place (tr.kids.take 3)).size≤4096
  rw [size_mk]
  omega) (fun x hx=>HFN.out x (List.mem_of_mem_take hx)))
 unfold zna at HSG
 clear hk4 hk5 hv4 hrow
 go_wp2_with ((with_reducible refine zqa 25 (.tmp 1) ?_);refine zia rfl 25 (.tmp 1) rfl w1.heap.size (zaa (tr.head 3) (.slice (some ⟨g,0,none⟩) 3 cap)) rfl hn4 Tryz.underlying25 rfl Tryz.zea ?_)
 refine HSG.out.mono ?_
 clear HSG hn4 hW4 n34 f34
 intro e w5 hp
 rw [show (tr.head 3).kids=tr.kids.take 3 from rfl,HS2.out] at hp
 obtain ⟨v,rfl,hv,hb5⟩:=hp
 have HB5:=zh (HB4.out.trans (hb5.mono HB4.out.size))
 rcases hv.form with ⟨_,hnil⟩|⟨gs,cs,rfl,hgs,hcs,hcms,hget⟩
 ·cases hnil
 obtain ⟨pv,hr,hp⟩:=hget 0 sg12 rfl
 rcases hp.form ztf with ⟨_,hnil⟩|⟨gp,cp,rfl,hgp,hcp,hcmp,hgetp⟩
 ·cases hnil
 have c1:w5.cell? ⟨gs,1,none⟩=some (.slice (some ⟨gp,0,none⟩) 2 cp):=hr 1 _ rfl
 have c3:w5.cell? ⟨gs,3,none⟩=some (.int .i64 1):=hr 3 _ rfl
 have p0:w5.cell? ⟨gp,0,none⟩=some (.string (bs [118])):=hgetp 0 _ rfl 0 _ rfl
 have p1:w5.cell? ⟨gp,1,none⟩=some (.int .i64 3):=hgetp 0 _ rfl 1 _ rfl
 have p2:w5.cell? ⟨gp,2,none⟩=some (.int .i64 0):=hgetp 0 _ rfl 2 _ rfl
 unfold maxLen at hcms hcmp
 rw [show [sg12].length=1 from rfl] at hcs ⊢
 rw [show sg12.params.length=2 from rfl] at hcp
 unfold bs at p0
 clear hget hr hp hgetp hv hb5
 go_wp2_with fail
 go_ret
 exact ⟨rfl,HB5.out⟩
end
section
open Go.RowKit
inductive zrt {α β:Type} (R:α→β→Prop):List α→List β→Prop
 | nil:zrt R [] []
 | cons {a:α} {b:β} {us:List α} {vs:List β}:R a b→zrt R us vs→zrt R (a :: us) (b :: vs)
theorem zrt.len {α β:Type} {R:α→β→Prop} {us:List α} {vs:List β} (h:zrt R us vs):us.length=vs.length:=by
 induction h with
 | nil=>rfl
 | cons _ _ ih=>simp [ih]
theorem zrt.get {α β:Type} {R:α→β→Prop} {us:List α} {vs:List β} (h:zrt R us vs):∀ (k:Nat) (a:α),us[k]?=some a→∃ b,vs[k]?=some b∧R a b:=by
 induction h with
 | nil=>intro k a hk;simp at hk
 | cons h1 _ ih =>
  intro k a hk
  cases k with
  | zero=>obtain rfl:=Option.some.inj (by simpa using hk);exact ⟨_,rfl,h1⟩
  | succ k=>obtain ⟨b,e,r⟩:=ih k a (by simpa using hk);exact ⟨b,by simpa using e,r⟩
end
section
open Go.RowKit
end
section
open Go.RowKit
end
end Go.Proofs.YtpjnpffcnmgdcaaGreatDoor
