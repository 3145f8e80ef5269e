/- The contracts of the layout's ifNode and while, if block does as it is asked. The contracts of the layout's statement and block, at every depth. The contract of the layout's block, at every depth. -/
import Derived.Test.YthdbmgijpelecaaGreatDoorM16
import Derived.Test.YthdbmgijpelecaaGreatDoorM17
namespace Go.Proofs.YthdbmgijpelecaaGreatDoor
set_option maxRecDepth 100000
set_option maxHeartbeats 2000000
section
open Go.RowKit
def zui (pb:Nat) (w:World) (v:Value) (is:List Ins) (e:Ending) (w':World):Prop:=e=.returned (.tuple #[])∧∃ V,Lay pb w v is w' V
def zlh (n:Nat):Prop:=∀ (w:World) (pb:Nat) (v:Value) (is:List Ins) (t:T) (kv:Value),Blk w pb [v] 110→zGb w is (fun b=>pb<b) v→KAt 25 w t.kids (fun b=>b<pb) kv →
 zjb zZa t.kids→zYb t.kids→sizes t.kids≤n→is.length+2 * sizes t.kids≤80000 →
 Calls Tryz.prog 44 #[.pointer (some ⟨pb,0,none⟩),zma t kv] w (zui pb w v (is++zBa n is.length t.kids))
theorem count_le:∀ t:T,t.count≤2 * t.size
 | .mk k s n p ks=>by
  rw [count_eq,size_mk]
  have h:counts ks≤2 * sizes ks:=counts_le ks
  have h2:zre k≤2:=by
   unfold zre
   cases (k == 15 || k == 16) with
   | true=>exact Nat.le_refl _
   | false =>
    cases (decide (10≤k) && decide (k≤20)) with
    | true=>exact Nat.le_succ _
    | false=>exact Nat.zero_le _
  show zre k+counts ks≤_
  omega
where counts_le:∀ ks:List T,counts ks≤2 * sizes ks
 | []=>by rw [zAb];omega
 | t :: ts=>by
  rw [zdb,zoa]
  have:=count_le t
  have:=counts_le ts
  omega
theorem Lay.told {pb:Nat} {w W:World} {v V:Value} {is:List Ins} {k:Nat} {i:Ins} (h:Lay pb w v is W V) (hk:is[k]?=some i) (to:Nat) :
  ∃ g n c,n=is.length∧V=.slice (some ⟨g,0,none⟩) n c∧(W.cell? ⟨g,k * 11+9,none⟩=some (.int .i64 i.to)∧W.frozen? ⟨g,k * 11+9,none⟩=false)∧(pb<g∧g<W.heap.size)∧Lay pb w v (is.set k (i.znf to)) (W.setCell ⟨g,k * 11+9,none⟩ (.int .i64 to)) V:=by
 have h0:=h.ins
 obtain ⟨vs,ho,_⟩:=h0
 rcases ho.2 with ⟨_,h1⟩|⟨g,cap,cur,hv,_⟩
 ·have:k<is.length:=(List.getElem?_eq_some_iff.1 hk).1
  omega
 ·subst hv
  obtain ⟨g',e,h2,h3,h4⟩:=h.znf hk to
  cases e
  exact ⟨g,_,_,rfl,rfl,h2,h3,h4⟩
theorem zBs {α:Type} (A:List α) (j:α) (C:List α) {k:Nat} (hk:k=A.length):(A++[j]++C)[k]?=some j:=by subst hk;simp
theorem zur {α:Type} (A:List α) (j j':α) (C:List α) {k:Nat} (hk:k=A.length):(A++[j]++C).set k j'=A++[j']++C:=by subst hk;simp
theorem zeh {P:Program} {f:FuncId} {args:Array Value} {w:World} {R:Ending→World→Prop} (w0:World) (hw:w=w0) (h:Calls P f args w0 R):Calls P f args w R:=hw▸h
theorem zQm {pb:Nat} {W:World} {V u:Value} {ts:List Tm} {W0:World} (hv:∀ k,V.ownBlock=some k→k<W0.heap.size) (hp:pb<W0.heap.size) (hu:zWa W ts (fun b=>W0.heap.size≤b) u):zWa W ts (fun b=>pb<b∧V.ownBlock≠some b) u :=
 hu.mono fun b hb _=>⟨by omega,fun e=>by have:=hv b e;omega⟩
theorem zop {n:Nat} (ih:zlh n) {w:World} {pb:Nat} {v:Value} {is:List Ins} {tx:ByteArray} {nm:Int} {p:Nat} {ks:List T} {a b c:T} {kv:Value} (hb:Blk w pb [v] 110) (hi:zGb w is (fun b=>pb<b) v) (hk:KAt 25 w ks (fun b=>b<pb) kv)
  (he:ks=[a,b,c]) (hc:zjb zZa c.kids∧zYb c.kids) (hn:sizes c.kids≤n) (hl:is.length+2 * (sizes c.kids)+4≤80000) :
  Calls Tryz.prog 124 #[.pointer (some ⟨pb,0,none⟩),zma (.mk 16 tx nm p ks) kv] w (zui pb w v (is++zfe (zBa n) is.length (.mk 16 tx nm p ks))):=by
 have h2:zFa (.mk 16 tx nm p ks) 2=c:=by unfold zFa;rw [he];rfl
 have hst:=zbi (zBa n) is.length (t:=.mk 16 tx nm p ks) rfl he
 have hlo:=hb.lt
 have hvlt:∀ k,v.ownBlock=some k→k<w.heap.size:=fun k hk=>(hi.zbe hk).2
 have hB:=zmb n c.kids (by omega) hc.1 hc.2
 have hC:=count_le.counts_le c.kids
 obtain ⟨bi,hbi⟩:∃ bi,bi=zeb (.mk 16 tx nm p ks) 0:=⟨_,rfl⟩
 obtain ⟨w0,hw0,HL0,HN0,HK0,HB0,HZ0⟩:∃ w0:World,w.alloc (.cells (zaa (.mk 16 tx nm p ks) kv).toArray 25)=w0∧Hid (Lay pb w0 v is w0 v)∧Hid (Blk w0 w.heap.size (zaa (.mk 16 tx nm p ks) kv) 25)∧Hid (KAt 25 w0 (T.mk 16 tx nm p ks).kids (fun b=>b<pb) kv)∧Hid (Below w.heap.size w w0)∧Hid (w.heap.size<w0.heap.size) :=
  ⟨_,rfl,zh (Lay.start (hb.alloc _) (hi.alloc _)),zh (Blk.new w _ _),zh (hk.alloc _),zh ((Below.refl _ _).alloc (Nat.le_refl _) _),zh (by simp)⟩
 have HV:=zh hvlt
 have HLO:=zh hlo
 have HST:=zh hst
 have H2:=zh h2
 have HBI:=zh hbi
 have HLEN:=zh hB
 have HCNT:=zh hC
 have HC:=zh hc
 have HN:=zh hn
 have HLL:=zh hl
 have HPN:=zh (show w.heap.size≠pb by omega)
 have HVN:=zh (show v.ownBlock≠some w.heap.size from fun e=>by have:=hvlt _ e;omega)
 obtain ⟨ka,kn,kc,rfl⟩:=hk.slice
 clear he hst h2 hB hC hc hn hl hb hi hk hvlt hlo hbi
 unfold zma
 simp only [zRa,zXa,zBb,zJa]
 go_enter Tryz.func124,Tryz.ntmps124
 go_wp2_with fail
 refine zeh w0 hw0 ?_
 clear hw0
 refine (zBj (t:=.mk 16 tx nm p ks) HK0.out).mono ?_
 rintro e w1 ⟨u,rfl,hu,hb1⟩
 rw [← HBI.out] at hu ⊢
 obtain ⟨ua,un,uc,rfl⟩:=hu.slice
 have HL1:=zh (HL0.out.below hb1)
 have HU1:=zh (zQm (W0:=w0) (fun k e=>Nat.lt_trans (HV.out k e) HZ0.out) (Nat.lt_trans HLO.out HZ0.out) hu)
 clear hu hb1
 unfold zmo
 go_wp2_with fail
 refine (put_any HL1.out.blk HL1.out.ins HU1.out (by have:=HLL.out;omega)).mono ?_
 rintro e w2 ⟨rfl,V2,hl2⟩
 have HL2:=zh (HL1.out.trans hl2)
 have HN2:=zh (HL2.out.stays HN0.out HPN.out HVN.out)
 have HK2:=zh (HL2.out.kat HK0.out)
 clear hl2 HU1 HL1
 go_wp2_with (first
  | ((with_reducible refine zra 25 (.tmp 3) ?_);refine zja rfl 25 (.tmp 3) rfl w.heap.size (zaa (.mk 16 tx nm p ks) (.slice ka kn kc)) rfl HN2.out Tryz.underlying25 rfl Tryz.zha ?_))
 refine (zmc (t:=.mk 16 tx nm p ks) HK2.out 2).mono ?_
 rintro e w3 ⟨u3,rfl,hu3,hb3⟩
 rw [H2.out] at hu3 ⊢
 have HL3:=zh (HL2.out.below hb3)
 have HK3:=zh hu3
 clear hu3 hb3 HK2 HL2 HN2
 go_wp2_with fail
 refine (ih _ _ _ _ _ _ HL3.out.blk HL3.out.ins HK3.out HC.out.1 HC.out.2 (by have:=HN.out;omega) (by have:=HLL.out;simp;omega)).mono ?_
 rintro e w4 ⟨rfl,V4,hl4⟩
 have HL4:=zh (HL3.out.trans hl4)
 have HN4:=zh (HL4.out.stays HN0.out HPN.out HVN.out)
 have hn4:=HN4.out.cell 3
 simp only [zaa,List.getElem?_cons_zero,List.getElem?_cons_succ,zJa] at hn4
 have hlt4:=HN4.out.lt
 clear hl4 HK3 HL3
 have hlb:=HLEN.out (is.length+1)
 have hst:=HST.out
 have e1:zBa n (is++[bi]).length c.kids=zBa n (is.length+1) c.kids:=by rw [show (is++[bi]).length=is.length+1 by simp]
 rw [e1] at HL4
 generalize zBa n (is.length+1) c.kids=B at HL4 hlb hst
 have HLB:=zh (show B.length≤2 * sizes c.kids by have:=HCNT.out;omega)
 have HST2:=zh hst
 clear e1 hst hlb HST
 go_wp2_with fail
 refine (put_any (j:=⟨11,p,e0,e0,tm0,tm0,[],is.length,false⟩) HL4.out.blk HL4.out.ins (zWa.nil _ _) (by have:=HLL.out;have:=HLB.out;simp;omega)).mono ?_
 rintro e w5 ⟨rfl,V5,hl5⟩
 have HL5:=zh (HL4.out.trans hl5)
 clear hl5 HL4
 go_wp2_with fail
 obtain ⟨W6,hW6,HL6,HN6,HK6⟩:∃ W:World,w5.drew=W∧Hid (Lay pb w0 v (is++[bi]++B++[⟨11,p,e0,e0,tm0,tm0,[],is.length,false⟩]) W V5)∧Hid (Blk W w.heap.size (zaa (.mk 16 tx nm p ks) (.slice ka kn kc)) 25)∧Hid (KAt 25 W (T.mk 16 tx nm p ks).kids (fun b=>b<pb) (.slice ka kn kc)) :=
  ⟨_,rfl,zh (HL5.out.below (Below.refl _ _).drew),zh (HL5.out.stays HN0.out HPN.out HVN.out).drew,zh (HL5.out.kat HK0.out).drew⟩
 obtain ⟨g,L,c5,hL,rfl,⟨hcx,hfx⟩,⟨hg1,hg2⟩,hl6⟩:=HL6.out.told (k:=is.length) (i:=bi) (by simp) (is.length+B.length+2)
 have hL2:is.length+B.length+2=L:=by rw [hL];simp;omega
 clear hL
 subst hL2
 have HL7:=zh hl6
 have HBk:=zh HL6.out.blk
 clear hl6
 have hat:(is.length:Int)<(is.length:Int)+(B.length:Int)+2:=by omega
 refine AnyE.zyh (S:=fun W=>Blk W pb [.slice (some ⟨g,0,none⟩) (is.length+B.length+2) c5] 110) hW6 (by kernel_rfl) HBk.out (fun hS=>?_)
 clear hW6
 refine AnyE.take (i:=0) (v:=.pointer (some ⟨pb,0,none⟩)) rfl (by kernel_rfl) (by kernel_rfl) (by kernel_rfl) (by kernel_rfl) (fun _ _ _ h=>h) (Or.inl ⟨by rfl,fun W _=>by go_simp⟩) hS ?_
 refine AnyE.take (i:=1) (v:=.pointer (some ⟨pb,0,none⟩)) rfl (by kernel_rfl) (by kernel_rfl) (by kernel_rfl) (by kernel_rfl) (fun _ _ _ h=>h) (Or.inl ⟨by rfl,fun W _=>by go_simp⟩) hS ?_
 refine AnyE.take (i:=2) (v:=.pointer (some ⟨pb,0,none⟩)) rfl (by kernel_rfl) (by kernel_rfl) (by kernel_rfl) (by kernel_rfl) (fun _ _ _ h=>h) (Or.inl ⟨by rfl,fun W _=>by go_simp⟩) hS ?_
 refine AnyE.take (i:=3) (v:=.slice (some ⟨g,0,none⟩) (is.length+B.length+2) c5) rfl (by kernel_rfl) (by kernel_rfl) (by kernel_rfl) (by kernel_rfl) (fun _ _ _ h=>h) (Or.inl ⟨by rfl,fun W hW=>by have hcx:W.cell? ⟨pb,0,none⟩=some (.slice (some ⟨g,0,none⟩) (is.length+B.length+2) c5):=hW.cell 0;go_simp⟩) hS ?_
 refine AnyE.take (i:=4) (v:=.int .i64 (is.length:Nat)) rfl (by kernel_rfl) (by kernel_rfl) (by kernel_rfl) (by kernel_rfl) (fun _ _ _ h=>h) (Or.inl ⟨by rfl,fun W _=>by go_simp⟩) hS ?_
 refine AnyE.take (i:=5) (v:=.pointer (some ⟨pb,0,none⟩)) rfl (by kernel_rfl) (by kernel_rfl) (by kernel_rfl) (by kernel_rfl) (fun _ _ _ h=>h) (Or.inl ⟨by rfl,fun W _=>by go_simp⟩) hS ?_
 refine AnyE.one (i:=6) (by kernel_rfl) rfl (by rfl) (fun K hK=>?_)
 go_simp
 refine (next_any (n:=is.length+B.length+2) (c:=c5) (va:=some ⟨g,0,none⟩) HBk.out).mono ?_
 rintro e w8 ⟨rfl,rfl⟩
 refine hK.out _ _ (fun _=>HBk.out) ?_
 clear hK K
 refine AnyE.one (i:=7) (by kernel_rfl) rfl (by rfl) (fun K hK=>?_)
 go_simp
 refine hK.out _ _ (fun _=>HBk.out) ?_
 clear hK K
 refine AnyE.one (i:=8) (by kernel_rfl) rfl (by rfl) (fun K hK=>?_)
 go_simp
 refine hK.out _ _ (fun _=>HBk.out) ?_
 clear hK K
 refine AnyE.one (i:=9) (by kernel_rfl) rfl (by rfl) (fun K hK=>?_)
 go_simp
 refine hK.out _ _ (fun h=>absurd rfl h) ?_
 clear hK K
 refine AnyE.done (by kernel_rfl) ?_ _
 have HE:=zh (HL7.out.back HB0.out HLO.out HV.out)
 clear hcx hfx HL7
 go_wp2_with fail
 refine bodyPost_ret (v:=.tuple #[]) (by simp [results,Tryz.results124]) rfl ?_
 refine ⟨rfl,.slice (some ⟨g,0,none⟩) (is.length+B.length+2) c5,?_⟩
 have h:=HE.out
 rw [show ((is.length+B.length+2:Nat):Int)=(is.length:Int)+(B.length:Int)+2 by omega] at h
 rw [HST2.out]
 have e:(is++[bi]++B++[(⟨11,p,e0,e0,tm0,tm0,[],is.length,false⟩:Ins)]).set is.length (bi.znf (is.length+B.length+2))=is++zeb (.mk 16 tx nm p ks) (is.length+B.length+2) :: (B++[zkf (.mk 16 tx nm p ks) is.length]):=by
  rw [HBI.out]
  simp
  exact ⟨rfl,rfl⟩
 rw [e] at h
 exact h
theorem zbo {n:Nat} (ih:zlh n) {w:World} {pb:Nat} {v:Value} {is:List Ins} {tx:ByteArray} {nm:Int} {p:Nat} {ks:List T} {a b c d:T} {kv:Value} (hb:Blk w pb [v] 110) (hi:zGb w is (fun b=>pb<b) v) (hk:KAt 25 w ks (fun b=>b<pb) kv)
  (he:ks=[a,b,c,d]) (hc:zjb zZa c.kids∧zYb c.kids) (hd:zjb zZa d.kids∧zYb d.kids) (hn:sizes c.kids+sizes d.kids≤n) (hl:is.length+2 * (sizes c.kids+sizes d.kids)+4≤80000) :
  Calls Tryz.prog 123 #[.pointer (some ⟨pb,0,none⟩),zma (.mk 15 tx nm p ks) kv] w (zui pb w v (is++zfe (zBa n) is.length (.mk 15 tx nm p ks))):=by
 have h2:zFa (.mk 15 tx nm p ks) 2=c:=by unfold zFa;rw [he];rfl
 have h3:zFa (.mk 15 tx nm p ks) 3=d:=by unfold zFa;rw [he];rfl
 have hst:=zUm (zBa n) is.length (t:=.mk 15 tx nm p ks) rfl he
 have hlo:=hb.lt
 have hvlt:∀ k,v.ownBlock=some k→k<w.heap.size:=fun k hk=>(hi.zbe hk).2
 have hB:=zmb n c.kids (by omega) hc.1 hc.2
 have hC:=count_le.counts_le c.kids
 have hB2:=zmb n d.kids (by omega) hd.1 hd.2
 have hC2:=count_le.counts_le d.kids
 obtain ⟨bi,hbi⟩:∃ bi,bi=zeb (.mk 15 tx nm p ks) 0:=⟨_,rfl⟩
 obtain ⟨w0,hw0,HL0,HN0,HK0,HB0,HZ0⟩:∃ w0:World,w.alloc (.cells (zaa (.mk 15 tx nm p ks) kv).toArray 25)=w0∧Hid (Lay pb w0 v is w0 v)∧Hid (Blk w0 w.heap.size (zaa (.mk 15 tx nm p ks) kv) 25)∧Hid (KAt 25 w0 (T.mk 15 tx nm p ks).kids (fun b=>b<pb) kv)∧Hid (Below w.heap.size w w0)∧Hid (w.heap.size<w0.heap.size) :=
  ⟨_,rfl,zh (Lay.start (hb.alloc _) (hi.alloc _)),zh (Blk.new w _ _),zh (hk.alloc _),zh ((Below.refl _ _).alloc (Nat.le_refl _) _),zh (by simp)⟩
 have HV:=zh hvlt
 have HLO:=zh hlo
 have HST:=zh hst
 have H2:=zh h2
 have HBI:=zh hbi
 have HLEN:=zh hB
 have HCNT:=zh hC
 have HC:=zh hc
 have HN:=zh hn
 have HLL:=zh hl
 have H3:=zh h3
 have HLEN2:=zh hB2
 have HCNT2:=zh hC2
 have HD:=zh hd
 have HPN:=zh (show w.heap.size≠pb by omega)
 have HVN:=zh (show v.ownBlock≠some w.heap.size from fun e=>by have:=hvlt _ e;omega)
 obtain ⟨ka,kn,kc,rfl⟩:=hk.slice
 clear he hst h2 hB hC hc hn hl hb hi hk hvlt hlo hbi h3 hB2 hC2 hd
 unfold zma
 simp only [zRa,zXa,zBb,zJa]
 go_enter Tryz.func123,Tryz.ntmps123
 go_wp2_with fail
 refine zeh w0 hw0 ?_
 clear hw0
 refine (zBj (t:=.mk 15 tx nm p ks) HK0.out).mono ?_
 rintro e w1 ⟨u,rfl,hu,hb1⟩
 rw [← HBI.out] at hu ⊢
 obtain ⟨ua,un,uc,rfl⟩:=hu.slice
 have HL1:=zh (HL0.out.below hb1)
 have HU1:=zh (zQm (W0:=w0) (fun k e=>Nat.lt_trans (HV.out k e) HZ0.out) (Nat.lt_trans HLO.out HZ0.out) hu)
 clear hu hb1
 unfold zmo
 go_wp2_with fail
 refine (put_any HL1.out.blk HL1.out.ins HU1.out (by have:=HLL.out;omega)).mono ?_
 rintro e w2 ⟨rfl,V2,hl2⟩
 have HL2:=zh (HL1.out.trans hl2)
 have HN2:=zh (HL2.out.stays HN0.out HPN.out HVN.out)
 have HK2:=zh (HL2.out.kat HK0.out)
 clear hl2 HU1 HL1
 go_wp2_with (first
  | ((with_reducible refine zra 25 (.tmp 3) ?_);refine zja rfl 25 (.tmp 3) rfl w.heap.size (zaa (.mk 15 tx nm p ks) (.slice ka kn kc)) rfl HN2.out Tryz.underlying25 rfl Tryz.zha ?_))
 refine (zmc (t:=.mk 15 tx nm p ks) HK2.out 2).mono ?_
 rintro e w3 ⟨u3,rfl,hu3,hb3⟩
 rw [H2.out] at hu3 ⊢
 have HL3:=zh (HL2.out.below hb3)
 have HK3:=zh hu3
 clear hu3 hb3 HK2 HL2 HN2
 go_wp2_with fail
 refine (ih _ _ _ _ _ _ HL3.out.blk HL3.out.ins HK3.out HC.out.1 HC.out.2 (by have:=HN.out;omega) (by have:=HLL.out;simp;omega)).mono ?_
 rintro e w4 ⟨rfl,V4,hl4⟩
 have HL4:=zh (HL3.out.trans hl4)
 have HN4:=zh (HL4.out.stays HN0.out HPN.out HVN.out)
 have hn4:=HN4.out.cell 3
 simp only [zaa,List.getElem?_cons_zero,List.getElem?_cons_succ,zJa] at hn4
 have hlt4:=HN4.out.lt
 clear hl4 HK3 HL3
 have hlb:=HLEN.out (is.length+1)
 have hst:=HST.out
 have e1:zBa n (is++[bi]).length c.kids=zBa n (is.length+1) c.kids:=by rw [show (is++[bi]).length=is.length+1 by simp]
 rw [e1] at HL4
 generalize zBa n (is.length+1) c.kids=B at HL4 hlb hst
 have HLB:=zh (show B.length≤2 * sizes c.kids by have:=HCNT.out;omega)
 have HST2:=zh hst
 clear e1 hst hlb HST
 go_wp2_with fail
 obtain ⟨J,hJ⟩:∃ J:Nat,J=is.length+B.length+1:=⟨_,rfl⟩
 obtain ⟨L1,hL1⟩:∃ L1:Nat,L1=is.length+B.length+2:=⟨_,rfl⟩
 have HJ:=zh hJ
 have HL1E:=zh hL1
 clear hJ hL1
 refine (put_any (j:=⟨11,p,e0,e0,tm0,tm0,[],0,false⟩) HL4.out.blk HL4.out.ins (zWa.nil _ _) (by have:=HLL.out;have:=HLB.out;simp;omega)).mono ?_
 rintro e w5 ⟨he5,V5,hl5⟩
 rw [show (is++[bi]++B).length=J by have:=HJ.out;simp;omega] at he5
 subst he5
 have HL5:=zh (HL4.out.trans hl5)
 clear hl5 HL4
 go_wp2_with fail
 obtain ⟨W6,hW6,HL6,HN6,HK6⟩:∃ W:World,w5.drew=W∧Hid (Lay pb w0 v (is++[bi]++B++[⟨11,p,e0,e0,tm0,tm0,[],0,false⟩]) W V5)∧Hid (Blk W w.heap.size (zaa (.mk 15 tx nm p ks) (.slice ka kn kc)) 25)∧Hid (KAt 25 W (T.mk 15 tx nm p ks).kids (fun b=>b<pb) (.slice ka kn kc)) :=
  ⟨_,rfl,zh (HL5.out.below (Below.refl _ _).drew),zh (HL5.out.stays HN0.out HPN.out HVN.out).drew,zh (HL5.out.kat HK0.out).drew⟩
 obtain ⟨g,L,c5,hL,rfl,⟨hcx,hfx⟩,⟨hg1,hg2⟩,hl6⟩:=HL6.out.told (k:=is.length) (i:=bi) (by simp) (L1)
 have hL2:L1=L:=by have:=HL1E.out;rw [hL];simp;omega
 clear hL
 subst hL2
 have HL7:=zh hl6
 have HBk:=zh HL6.out.blk
 clear hl6
 have hat:(is.length:Int)<L1:=by have:=HL1E.out;omega
 refine AnyE.zyh (S:=fun W=>Blk W pb [.slice (some ⟨g,0,none⟩) (L1) c5] 110) hW6 (by kernel_rfl) HBk.out (fun hS=>?_)
 clear hW6
 refine AnyE.take (i:=0) (v:=.pointer (some ⟨pb,0,none⟩)) rfl (by kernel_rfl) (by kernel_rfl) (by kernel_rfl) (by kernel_rfl) (fun _ _ _ h=>h) (Or.inl ⟨by rfl,fun W _=>by go_simp⟩) hS ?_
 refine AnyE.take (i:=1) (v:=.pointer (some ⟨pb,0,none⟩)) rfl (by kernel_rfl) (by kernel_rfl) (by kernel_rfl) (by kernel_rfl) (fun _ _ _ h=>h) (Or.inl ⟨by rfl,fun W _=>by go_simp⟩) hS ?_
 refine AnyE.take (i:=2) (v:=.pointer (some ⟨pb,0,none⟩)) rfl (by kernel_rfl) (by kernel_rfl) (by kernel_rfl) (by kernel_rfl) (fun _ _ _ h=>h) (Or.inl ⟨by rfl,fun W _=>by go_simp⟩) hS ?_
 refine AnyE.take (i:=3) (v:=.slice (some ⟨g,0,none⟩) (L1) c5) rfl (by kernel_rfl) (by kernel_rfl) (by kernel_rfl) (by kernel_rfl) (fun _ _ _ h=>h) (Or.inl ⟨by rfl,fun W hW=>by have hcx:W.cell? ⟨pb,0,none⟩=some (.slice (some ⟨g,0,none⟩) (L1) c5):=hW.cell 0;go_simp⟩) hS ?_
 refine AnyE.take (i:=4) (v:=.int .i64 (is.length:Nat)) rfl (by kernel_rfl) (by kernel_rfl) (by kernel_rfl) (by kernel_rfl) (fun _ _ _ h=>h) (Or.inl ⟨by rfl,fun W _=>by go_simp⟩) hS ?_
 refine AnyE.take (i:=5) (v:=.pointer (some ⟨pb,0,none⟩)) rfl (by kernel_rfl) (by kernel_rfl) (by kernel_rfl) (by kernel_rfl) (fun _ _ _ h=>h) (Or.inl ⟨by rfl,fun W _=>by go_simp⟩) hS ?_
 refine AnyE.one (i:=6) (by kernel_rfl) rfl (by rfl) (fun K hK=>?_)
 go_simp
 refine (next_any (n:=L1) (c:=c5) (va:=some ⟨g,0,none⟩) HBk.out).mono ?_
 rintro e w8 ⟨rfl,rfl⟩
 refine hK.out _ _ (fun _=>HBk.out) ?_
 clear hK K
 refine AnyE.one (i:=7) (by kernel_rfl) rfl (by rfl) (fun K hK=>?_)
 go_simp
 refine hK.out _ _ (fun _=>HBk.out) ?_
 clear hK K
 refine AnyE.one (i:=8) (by kernel_rfl) rfl (by rfl) (fun K hK=>?_)
 go_simp
 refine hK.out _ _ (fun _=>HBk.out) ?_
 clear hK K
 refine AnyE.one (i:=9) (by kernel_rfl) rfl (by rfl) (fun K hK=>?_)
 go_simp
 refine hK.out _ _ (fun h=>absurd rfl h) ?_
 clear hK K
 refine AnyE.done (by kernel_rfl) ?_ _
 obtain ⟨W8,hW8,HL8⟩:∃ W:World,w8.setCell ⟨g,is.length * 11+9,none⟩ (.int .i64 L1)=W∧Hid (Lay pb w0 v (is++[zeb (.mk 15 tx nm p ks) L1]++B++[⟨11,p,e0,e0,tm0,tm0,[],0,false⟩]) W (.slice (some ⟨g,0,none⟩) L1 c5)):=by
  refine ⟨_,rfl,zh ?_⟩
  have h:=HL7.out
  have e:(is++[bi]++B++[(⟨11,p,e0,e0,tm0,tm0,[],0,false⟩:Ins)]).set is.length (bi.znf L1)=is++[zeb (.mk 15 tx nm p ks) L1]++B++[⟨11,p,e0,e0,tm0,tm0,[],0,false⟩]:=by
   rw [HBI.out]
   simp
   rfl
  rwa [e] at h
 clear hcx hfx HL7 HL6 HBk HN6 HK6 HL5
 simp only [hW8]
 clear hW8
 have HN8:=zh (HL8.out.stays HN0.out HPN.out HVN.out)
 have HK8:=zh (HL8.out.kat HK0.out)
 go_wp2_with (first
  | ((with_reducible refine zra 25 (.tmp 3) ?_);refine zja rfl 25 (.tmp 3) rfl w.heap.size (zaa (.mk 15 tx nm p ks) (.slice ka kn kc)) rfl HN8.out Tryz.underlying25 rfl Tryz.zha ?_))
 refine (zmc (t:=.mk 15 tx nm p ks) HK8.out 3).mono ?_
 rintro e w9 ⟨u9,rfl,hu9,hb9⟩
 rw [H3.out] at hu9 ⊢
 have HL9:=zh (HL8.out.below hb9)
 have HK9:=zh hu9
 clear hu9 hb9 HK8 HL8 HN8
 go_wp2_with fail
 refine (ih _ _ _ _ _ _ HL9.out.blk HL9.out.ins HK9.out HD.out.1 HD.out.2 (by have:=HN.out;omega) (by have:=HLL.out;have:=HLB.out;simp;omega)).mono ?_
 rintro e w10 ⟨rfl,V10,hl10⟩
 have HL10:=zh (HL9.out.trans hl10)
 clear hl10 HK9 HL9
 have hlb:=HLEN2.out (is.length+B.length+2)
 have hst:=HST2.out
 have e1:zBa n (is++[zeb (.mk 15 tx nm p ks) L1]++B++[(⟨11,p,e0,e0,tm0,tm0,[],0,false⟩:Ins)]).length d.kids=zBa n (is.length+B.length+2) d.kids:=by congr 1;simp;omega
 rw [e1] at HL10
 generalize zBa n (is.length+B.length+2) d.kids=B2 at HL10 hlb hst
 have HLB2:=zh (show B2.length≤2 * sizes d.kids by have:=HCNT2.out;omega)
 have HST3:=zh hst
 clear e1 hst hlb HST2
 obtain ⟨L2,hL2'⟩:∃ L2:Nat,L2=is.length+B.length+B2.length+2:=⟨_,rfl⟩
 have HL2E:=zh hL2'
 clear hL2'
 go_wp2_with fail
 obtain ⟨W11,hW11,HL11,HN11,HK11⟩:∃ W:World,w10.drew=W∧Hid (Lay pb w0 v (is++[zeb (.mk 15 tx nm p ks) L1]++B++[⟨11,p,e0,e0,tm0,tm0,[],0,false⟩]++B2) W V10)∧Hid (Blk W w.heap.size (zaa (.mk 15 tx nm p ks) (.slice ka kn kc)) 25)∧Hid (KAt 25 W (T.mk 15 tx nm p ks).kids (fun b=>b<pb) (.slice ka kn kc)) :=
  ⟨_,rfl,zh (HL10.out.below (Below.refl _ _).drew),zh (HL10.out.stays HN0.out HPN.out HVN.out).drew,zh (HL10.out.kat HK0.out).drew⟩
 obtain ⟨g,L,c5,hL,rfl,⟨hcx,hfx⟩,⟨hg1,hg2⟩,hl6⟩:=HL11.out.told (k:=J) (i:=(⟨11,p,e0,e0,tm0,tm0,[],0,false⟩:Ins)) (zBs _ _ _ (by have:=HJ.out;simp;omega)) (L2)
 have hL2:L2=L:=by have:=HL2E.out;have:=HJ.out;rw [hL];simp;omega
 clear hL
 subst hL2
 have HL12:=zh hl6
 have HBk:=zh HL11.out.blk
 clear hl6
 have hat:J<L2:=by have:=HL2E.out;have:=HJ.out;omega
 refine AnyE.zyh (S:=fun W=>Blk W pb [.slice (some ⟨g,0,none⟩) (L2) c5] 110) hW11 (by kernel_rfl) HBk.out (fun hS=>?_)
 clear hW11
 refine AnyE.take (i:=0) (v:=.pointer (some ⟨pb,0,none⟩)) rfl (by kernel_rfl) (by kernel_rfl) (by kernel_rfl) (by kernel_rfl) (fun _ _ _ h=>h) (Or.inl ⟨by rfl,fun W _=>by go_simp⟩) hS ?_
 refine AnyE.take (i:=1) (v:=.pointer (some ⟨pb,0,none⟩)) rfl (by kernel_rfl) (by kernel_rfl) (by kernel_rfl) (by kernel_rfl) (fun _ _ _ h=>h) (Or.inl ⟨by rfl,fun W _=>by go_simp⟩) hS ?_
 refine AnyE.take (i:=2) (v:=.pointer (some ⟨pb,0,none⟩)) rfl (by kernel_rfl) (by kernel_rfl) (by kernel_rfl) (by kernel_rfl) (fun _ _ _ h=>h) (Or.inl ⟨by rfl,fun W _=>by go_simp⟩) hS ?_
 refine AnyE.take (i:=3) (v:=.slice (some ⟨g,0,none⟩) (L2) c5) rfl (by kernel_rfl) (by kernel_rfl) (by kernel_rfl) (by kernel_rfl) (fun _ _ _ h=>h) (Or.inl ⟨by rfl,fun W hW=>by have hcx:W.cell? ⟨pb,0,none⟩=some (.slice (some ⟨g,0,none⟩) (L2) c5):=hW.cell 0;go_simp⟩) hS ?_
 refine AnyE.take (i:=4) (v:=.int .i64 J) rfl (by kernel_rfl) (by kernel_rfl) (by kernel_rfl) (by kernel_rfl) (fun _ _ _ h=>h) (Or.inl ⟨by rfl,fun W _=>by go_simp⟩) hS ?_
 refine AnyE.take (i:=5) (v:=.pointer (some ⟨pb,0,none⟩)) rfl (by kernel_rfl) (by kernel_rfl) (by kernel_rfl) (by kernel_rfl) (fun _ _ _ h=>h) (Or.inl ⟨by rfl,fun W _=>by go_simp⟩) hS ?_
 refine AnyE.one (i:=6) (by kernel_rfl) rfl (by rfl) (fun K hK=>?_)
 go_simp
 refine (next_any (n:=L2) (c:=c5) (va:=some ⟨g,0,none⟩) HBk.out).mono ?_
 rintro e w8 ⟨rfl,rfl⟩
 refine hK.out _ _ (fun _=>HBk.out) ?_
 clear hK K
 refine AnyE.one (i:=7) (by kernel_rfl) rfl (by rfl) (fun K hK=>?_)
 go_simp
 refine hK.out _ _ (fun _=>HBk.out) ?_
 clear hK K
 refine AnyE.one (i:=8) (by kernel_rfl) rfl (by rfl) (fun K hK=>?_)
 go_simp
 refine hK.out _ _ (fun _=>HBk.out) ?_
 clear hK K
 refine AnyE.one (i:=9) (by kernel_rfl) rfl (by rfl) (fun K hK=>?_)
 go_simp
 refine hK.out _ _ (fun h=>absurd rfl h) ?_
 clear hK K
 refine AnyE.done (by kernel_rfl) ?_ _
 have HE:=zh (HL12.out.back HB0.out HLO.out HV.out)
 clear hcx hfx HL12
 go_wp2_with fail
 refine bodyPost_ret (v:=.tuple #[]) (by simp [results,Tryz.results123]) rfl ?_
 refine ⟨rfl,.slice (some ⟨g,0,none⟩) L2 c5,?_⟩
 have h:=HE.out
 rw [HST3.out]
 have e:(is++[zeb (.mk 15 tx nm p ks) L1]++B++[(⟨11,p,e0,e0,tm0,tm0,[],0,false⟩:Ins)]++B2).set J ((⟨11,p,e0,e0,tm0,tm0,[],0,false⟩:Ins).znf L2)=is++zeb (.mk 15 tx nm p ks) (is.length+B.length+2) :: (B++zkf (.mk 15 tx nm p ks) (is.length+B.length+B2.length+2) :: B2):=by
  rw [zur _ _ _ _ (by have:=HJ.out;simp;omega),HL1E.out,HL2E.out]
  simp [Ins.znf,zkf,T.place]
 rw [e] at h
 exact h
end
section
open Go.RowKit
theorem zgr {n:Nat} {w:World} {pb:Nat} {v:Value} {is:List Ins} {tx:ByteArray} {nm:Int} {p:Nat} {ks:List T} {kv:Value} (hb:Blk w pb [v] 110) (hi:zGb w is (fun b=>pb<b) v) (hk:KAt 25 w ks (fun b=>b<pb) kv)
  (hx:zEc (zFa (.mk 10 tx nm p ks) 0).kind) (hkl:(zFa (.mk 10 tx nm p ks) 0).kids.length≤50000) (hl:is.length≤80000) :
  Calls Tryz.prog 83 #[.pointer (some ⟨pb,0,none⟩),zma (.mk 10 tx nm p ks) kv] w (zui pb w v (is++zfe (zBa n) is.length (.mk 10 tx nm p ks))):=by
 have hst:zfe (zBa n) is.length (.mk 10 tx nm p ks)=[zfd (.mk 10 tx nm p ks)]:=rfl
 obtain ⟨j,hj⟩:∃ j,zfd (.mk 10 tx nm p ks)=j:=⟨_,rfl⟩
 rw [hst,hj]
 have HJ:=zh hj
 clear hst hj
 have hlo:=hb.lt
 have hvlt:∀ k,v.ownBlock=some k→k<w.heap.size:=fun k hk=>(hi.zbe hk).2
 obtain ⟨w0,hw0,HL0,HK0,HB0,HZ0⟩:∃ w0:World,w.alloc (.cells (zaa (.mk 10 tx nm p ks) kv).toArray 25)=w0∧Hid (Lay pb w0 v is w0 v)∧Hid (KAt 25 w0 (T.mk 10 tx nm p ks).kids (fun b=>b<pb) kv)∧Hid (Below w.heap.size w w0)∧Hid (w.heap.size<w0.heap.size) :=
  ⟨_,rfl,zh (Lay.start (hb.alloc _) (hi.alloc _)),zh (hk.alloc _),zh ((Below.refl _ _).alloc (Nat.le_refl _) _),zh (by simp)⟩
 have HV:=zh hvlt
 have HLO:=zh hlo
 have HX:=zh hx
 have HKL:=zh hkl
 clear hb hi hk hlo hvlt hx hkl
 unfold zma
 simp only [zRa,zXa,zBb,zJa]
 go_enter Tryz.func83,Tryz.ntmps83
 go_wp2_with fail
 refine zeh w0 hw0 ?_
 clear hw0
 refine (set_any (t:=.mk 10 tx nm p ks) HK0.out HX.out HKL.out).mono ?_
 rintro e w1 ⟨u,rfl,hu,hb1⟩
 rw [HJ.out] at hu ⊢
 obtain ⟨ua,un,uc,rfl⟩:=hu.slice
 have HL1:=zh (HL0.out.below hb1)
 have HU1:=zh (zQm (W0:=w0) (fun k e=>Nat.lt_trans (HV.out k e) HZ0.out) (Nat.lt_trans HLO.out HZ0.out) hu)
 clear hu hb1
 unfold zmo
 go_wp2_with fail
 refine (put_any HL1.out.blk HL1.out.ins HU1.out (by omega)).mono ?_
 rintro e w2 ⟨rfl,V2,hl2⟩
 have HL2:=zh ((HL1.out.trans hl2).back HB0.out HLO.out HV.out)
 clear hl2
 go_wp2_with fail
 refine bodyPost_ret (v:=.tuple #[]) (by simp [results,Tryz.results83]) rfl ?_
 exact ⟨rfl,_,HL2.out⟩
theorem zpd {n:Nat} {w:World} {pb:Nat} {v:Value} {is:List Ins} {k:Int} {tx:ByteArray} {nm:Int} {p:Nat} {ks:List T} {kv:Value} (hb:Blk w pb [v] 110) (hi:zGb w is (fun b=>pb<b) v) (hk:KAt 25 w ks (fun b=>b<pb) kv)
  (h10:(k == 10)=false) (h15:(k == 15)=false) (h16:(k == 16)=false) {j:Ins} (hj:zae (.mk k tx nm p ks)=some j)
  (hs:∀ {w':World},KAt 25 w' ks (fun b=>b<pb) kv→Calls Tryz.prog 126 #[zma (.mk k tx nm p ks) kv] w' (zVc w' j)) (hl:is.length≤80000) :
  Calls Tryz.prog 83 #[.pointer (some ⟨pb,0,none⟩),zma (.mk k tx nm p ks) kv] w (zui pb w v (is++zfe (zBa n) is.length (.mk k tx nm p ks))):=by
 have hst:zfe (zBa n) is.length (.mk k tx nm p ks)=[j]:=by
  unfold zfe
  rw [zRa,h15,h16,h10,hj]
  rfl
 rw [hst]
 clear hst hj
 have hlo:=hb.lt
 have hvlt:∀ k,v.ownBlock=some k→k<w.heap.size:=fun k hk=>(hi.zbe hk).2
 obtain ⟨w0,hw0,HL0,HS0,HB0,HZ0⟩:∃ w0:World,w.alloc (.cells (zaa (.mk k tx nm p ks) kv).toArray 25)=w0∧Hid (Lay pb w0 v is w0 v)∧Hid (Calls Tryz.prog 126 #[zma (.mk k tx nm p ks) kv] w0 (zVc w0 j))∧Hid (Below w.heap.size w w0)∧Hid (w.heap.size<w0.heap.size) :=
  ⟨_,rfl,zh (Lay.start (hb.alloc _) (hi.alloc _)),zh (hs (hk.alloc _)),zh ((Below.refl _ _).alloc (Nat.le_refl _) _),zh (by simp)⟩
 have HV:=zh hvlt
 have HLO:=zh hlo
 clear hb hi hk hlo hvlt hs
 unfold zma at HS0 ⊢
 simp only [zRa,zXa,zBb,zJa] at HS0 ⊢
 go_enter Tryz.func83,Tryz.ntmps83
 go_wp2_with fail
 refine zeh w0 hw0 ?_
 clear hw0
 refine HS0.out.mono ?_
 rintro e w1 ⟨u,rfl,hu,hb1⟩
 clear HS0
 obtain ⟨ua,un,uc,rfl⟩:=hu.slice
 have HL1:=zh (HL0.out.below (hb1.alloc hb1.size (.cells (zea j (.slice ua un uc)).toArray 101)))
 have HU1:=zh ((zQm (W0:=w0) (fun k e=>Nat.lt_trans (HV.out k e) HZ0.out) (Nat.lt_trans HLO.out HZ0.out) hu).alloc (.cells (zea j (.slice ua un uc)).toArray 101))
 clear hu hb1
 unfold zmo
 go_wp2_with fail
 refine (put_any HL1.out.blk HL1.out.ins HU1.out (by omega)).mono ?_
 rintro e w2 ⟨rfl,V2,hl2⟩
 have HL2:=zh ((HL1.out.trans hl2).back HB0.out HLO.out HV.out)
 clear hl2
 go_wp2_with fail
 refine bodyPost_ret (v:=.tuple #[]) (by simp [results,Tryz.results83]) rfl ?_
 exact ⟨rfl,_,HL2.out⟩
theorem zjs {n:Nat} {w:World} {pb:Nat} {v:Value} {is:List Ins} {tx:ByteArray} {nm:Int} {p:Nat} {ks:List T} {kv:Value} (hb:Blk w pb [v] 110) (hi:zGb w is (fun b=>pb<b) v)
  (hc:∀ {w0:World},w0=w.alloc (.cells (zaa (.mk 15 tx nm p ks) kv).toArray 25)→Calls Tryz.prog 123 #[.pointer (some ⟨pb,0,none⟩),zma (.mk 15 tx nm p ks) kv] w0 (zui pb w0 v (is++zfe (zBa n) is.length (.mk 15 tx nm p ks)))) :
  Calls Tryz.prog 83 #[.pointer (some ⟨pb,0,none⟩),zma (.mk 15 tx nm p ks) kv] w (zui pb w v (is++zfe (zBa n) is.length (.mk 15 tx nm p ks))):=by
 have HV:=zh (show ∀ k,v.ownBlock=some k→k<w.heap.size from fun k hk=>(hi.zbe hk).2)
 have HLO:=zh hb.lt
 have HC:=zh (hc rfl)
 generalize zfe (zBa n) is.length (.mk 15 tx nm p ks)=l at *
 clear hb hi hc
 unfold zma at HC ⊢
 simp only [zRa,zXa,zBb,zJa] at HC ⊢
 go_enter Tryz.func83,Tryz.ntmps83
 go_wp2_with fail
 refine HC.out.mono ?_
 rintro e w2 ⟨rfl,V2,hl2⟩
 have HL2:=zh (hl2.back ((Below.refl _ _).alloc (Nat.le_refl _) _) HLO.out HV.out)
 clear hl2 HC
 go_wp2_with fail
 refine bodyPost_ret (v:=.tuple #[]) (by simp [results,Tryz.results83]) rfl ?_
 exact ⟨rfl,_,HL2.out⟩
theorem zao {n:Nat} {w:World} {pb:Nat} {v:Value} {is:List Ins} {tx:ByteArray} {nm:Int} {p:Nat} {ks:List T} {kv:Value} (hb:Blk w pb [v] 110) (hi:zGb w is (fun b=>pb<b) v)
  (hc:∀ {w0:World},w0=w.alloc (.cells (zaa (.mk 16 tx nm p ks) kv).toArray 25)→Calls Tryz.prog 124 #[.pointer (some ⟨pb,0,none⟩),zma (.mk 16 tx nm p ks) kv] w0 (zui pb w0 v (is++zfe (zBa n) is.length (.mk 16 tx nm p ks)))) :
  Calls Tryz.prog 83 #[.pointer (some ⟨pb,0,none⟩),zma (.mk 16 tx nm p ks) kv] w (zui pb w v (is++zfe (zBa n) is.length (.mk 16 tx nm p ks))):=by
 have HV:=zh (show ∀ k,v.ownBlock=some k→k<w.heap.size from fun k hk=>(hi.zbe hk).2)
 have HLO:=zh hb.lt
 have HC:=zh (hc rfl)
 generalize zfe (zBa n) is.length (.mk 16 tx nm p ks)=l at *
 clear hb hi hc
 unfold zma at HC ⊢
 simp only [zRa,zXa,zBb,zJa] at HC ⊢
 go_enter Tryz.func83,Tryz.ntmps83
 go_wp2_with fail
 refine HC.out.mono ?_
 rintro e w2 ⟨rfl,V2,hl2⟩
 have HL2:=zh (hl2.back ((Below.refl _ _).alloc (Nat.le_refl _) _) HLO.out HV.out)
 clear hl2 HC
 go_wp2_with fail
 refine bodyPost_ret (v:=.tuple #[]) (by simp [results,Tryz.results83]) rfl ?_
 exact ⟨rfl,_,HL2.out⟩
end
section
open Go.RowKit
theorem zls {ks:List T} (h:Fit 10 ks):∃ a,ks=[a]∧zEc a.kind:=by
 cases h with
 | set _ ha=>exact ⟨_,rfl,ha⟩
 | unit e|type e|none e|one e|two e|fn e|param e|block e|cond e|loop e|call1 e|load e|call e|leaf e=>omega
theorem zVt {ks:List T} (h:Fit 20 ks):∃ a,ks=[a]:=by
 cases h with
 | call1 _ _=>exact ⟨_,rfl⟩
 | unit e|type e|none e|one e|two e|fn e|param e|block e|set e|cond e|loop e|load e|call e|leaf e=>omega
theorem KAt.sliceLen {e:TypeId} {w:World} {ks:List T} {S:Nat→Prop} {a:Option Addr} {n c:Nat} (h:KAt e w ks S (.slice a n c)):n=ks.length:=by
 rcases h.form with ⟨h1,h2⟩|⟨g,cap,h1,_⟩
 ·cases h1;rw [h2];rfl
 ·cases h1;rfl
theorem zYq {n:Nat} (ih:zlh n) {w:World} {pb:Nat} {v:Value} {is:List Ins} {t:T} {kv:Value} (hb:Blk w pb [v] 110) (hi:zGb w is (fun b=>pb<b) v) (hk:KAt 25 w t.kids (fun b=>b<pb) kv)
  (hw:t.whole) (hst:zZa t.kind) (hs:t.size≤n+1) (hl:is.length+2 * t.size≤80000) :
  Calls Tryz.prog 83 #[.pointer (some ⟨pb,0,none⟩),zma t kv] w (zui pb w v (is++zfe (zBa n) is.length t)):=by
 have hform:=zHg hw hst
 cases t with
 | mk k tx nm p ks =>
  obtain ⟨hf,hws⟩:=zOd.1 hw
  rw [size_mk] at hs hl
  have hkl:=zMc ks
  have hk':KAt 25 w ks (fun b=>b<pb) kv:=hk
  have h11:k=10∨k=11∨k=12∨k=13∨k=14∨k=15∨k=16∨k=17∨k=18∨k=19∨k=20:=by unfold zZa at hst;rw [zRa] at hst;omega
  rcases h11 with rfl|rfl|rfl|rfl|rfl|rfl|rfl|rfl|rfl|rfl|rfl
  ·obtain ⟨a,rfl,ha⟩:=zls hf
   refine zgr hb hi hk' ha ?_ (by omega)
   have h1:=zEm a
   rw [zoa] at hl
   show a.kids.length≤_
   omega
  ·exact zpd hb hi hk' rfl rfl rfl (zPk hk').1 (fun h=>(zPk h).2) (by omega)
  ·exact zpd hb hi hk' rfl rfl rfl (zrl hk').1 (fun h=>(zrl h).2) (by omega)
  ·exact zpd hb hi hk' rfl rfl rfl (zIk hk').1 (fun h=>(zIk h).2) (by omega)
  ·exact zpd hb hi hk' rfl rfl rfl (zwl hk').1 (fun h=>(zwl h).2) (by omega)
  ·rcases hform with ⟨_,a,b,c,d,he,_,hcd,_,hc,hd⟩|⟨h,_⟩|⟨h,_⟩
   ·have he':ks=[a,b,c,d]:=he
    have hc2:c.size=1+sizes c.kids:=by cases c;rw [size_mk];rfl
    have hd2:d.size=1+sizes d.kids:=by cases d;rw [size_mk];rfl
    have hsz:sizes ks=a.size+(b.size+(c.size+(d.size+0))):=by rw [he',zoa,zoa,zoa,zoa,zwa]
    refine zjs hb hi fun hw0=>?_
    subst hw0
    exact zbo ih (hb.alloc _) (hi.alloc _) (hk'.alloc _) he' (zOb hc hcd.1) (zOb hd hcd.2) (by omega) (by omega)
   ·exact absurd (show (15:Int)=16 from h) (by decide)
   ·exact absurd rfl h
  ·rcases hform with ⟨h,_⟩|⟨_,a,b,c,he,_,hc9,_,hc⟩|⟨_,h,_⟩
   ·exact absurd (show (16:Int)=15 from h) (by decide)
   ·have he':ks=[a,b,c]:=he
    have hc2:c.size=1+sizes c.kids:=by cases c;rw [size_mk];rfl
    have hsz:sizes ks=a.size+(b.size+(c.size+0)):=by rw [he',zoa,zoa,zoa,zwa]
    refine zao hb hi fun hw0=>?_
    subst hw0
    exact zop ih (hb.alloc _) (hi.alloc _) (hk'.alloc _) he' (zOb hc hc9) (by omega) (by omega)
   ·exact absurd rfl h
  ·exact zpd hb hi hk' rfl rfl rfl (zel hk' fun _ _ _ e=>by subst e;exact hk'.sliceLen).1 (fun h=>(zel h fun _ _ _ e=>by subst e;exact hk'.sliceLen).2) (by omega)
  ·exact zpd hb hi hk' rfl rfl rfl (zOk hk').1 (fun h=>(zOk h).2) (by omega)
  ·exact zpd hb hi hk' rfl rfl rfl (zVk hk' (by omega)).1 (fun h=>(zVk h (by omega)).2) (by omega)
  ·obtain ⟨a,rfl⟩:=zVt hf
   cases a with
   | mk ck cx cn cp cks =>
    have h1:=zMc cks
    rw [zoa,size_mk] at hl
    exact zpd hb hi hk' rfl rfl rfl (zZk hk' rfl (by omega)).1 (fun h=>(zZk h rfl (by omega)).2) (by omega)
theorem zBg:∀ {ks:List T} (k:Nat),zYb ks→zYb (ks.take k)
 | [],_,h=>by simpa using h
 | a :: l,0,_=>ztc
 | a :: l,k+1,h=>zHa.2 ⟨(zHa.1 h).1,zBg k (zHa.1 h).2⟩
theorem zCl {w:World} {pb:Nat} {v:Value} {is:List Ins} {kd:Int} {tx:ByteArray} {nm:Int} {p:Nat} {kv:Value} (hb:Blk w pb [v] 110) (hi:zGb w is (fun b=>pb<b) v) (hk:KAt 25 w [] (fun b=>b<pb) kv) :
  Calls Tryz.prog 44 #[.pointer (some ⟨pb,0,none⟩),zma (.mk kd tx nm p []) kv] w (zui pb w v is):=by
 rcases hk.form with ⟨rfl,_⟩|⟨g,cap,rfl,hg,hcap,hcm,_⟩
 ·have HL0:=zh ((Lay.start (hb.alloc (.cells (zaa (.mk kd tx nm p []) (.slice none 0 0)).toArray 25)) (hi.alloc _)).back ((Below.refl _ _).alloc (Nat.le_refl _) _) hb.lt fun k hk=>(hi.zbe hk).2)
  clear hb hi hk
  unfold zma
  simp only [zRa,zXa,zBb,zJa]
  go_enter Tryz.func44,Tryz.ntmps44
  go_wp2_with fail
  refine wp_loop_rounds 1 ?_
  rw [rounds_succ]
  go_wp2_with fail
  refine bodyPost_ret (v:=.tuple #[]) (by simp [results,Tryz.results44]) rfl ?_
  exact ⟨rfl,v,HL0.out⟩
 ·have HL0:=zh ((Lay.start (hb.alloc (.cells (zaa (.mk kd tx nm p []) (.slice (some ⟨g,0,none⟩) 0 cap)).toArray 25)) (hi.alloc _)).back ((Below.refl _ _).alloc (Nat.le_refl _) _) hb.lt fun k hk=>(hi.zbe hk).2)
  have e0:([]:List T).length=0:=rfl
  rw [e0]
  clear hb hi hk e0
  unfold zma
  simp only [zRa,zXa,zBb,zJa]
  go_enter Tryz.func44,Tryz.ntmps44
  go_wp2_with fail
  refine wp_loop_rounds 1 ?_
  rw [rounds_succ]
  go_wp2_with fail
  refine bodyPost_ret (v:=.tuple #[]) (by simp [results,Tryz.results44]) rfl ?_
  exact ⟨rfl,v,HL0.out⟩
def zWs (pb:Nat) (w0:World) (v:Value) (is:List Ins) (n:Nat) (ks:List T) (g:Nat) (i:Value) (wr:World):Prop :=
 ∃ (k:Nat) (V:Value),k≤ks.length∧ks.length≤k+g∧i=.int .i64 k∧Lay pb w0 v (is++zQa (zBa n) is.length (ks.take k)) wr V
theorem zKn {n:Nat} (ih:zlh n):zlh (n+1):=by
 intro w pb v is t kv hb hi hk hks hw hs hl
 have hlo:=hb.lt
 have hvlt:∀ k,v.ownBlock=some k→k<w.heap.size:=fun k hk=>(hi.zbe hk).2
 have hkl:=zMc t.kids
 cases t with
 | mk kd tx nm p ks =>
  have hks':zjb zZa ks:=hks
  have hw':zYb ks:=hw
  have hs':sizes ks≤n+1:=hs
  have hl':is.length+2 * sizes ks≤80000:=hl
  have hkl':ks.length≤sizes ks:=hkl
  obtain ⟨w0,hw0,HL0,HN0,HK0,HB0,HZ0⟩:∃ w0:World,w.alloc (.cells (zaa (.mk kd tx nm p ks) kv).toArray 25)=w0∧Hid (Lay pb w0 v is w0 v)∧Hid (Blk w0 w.heap.size (zaa (.mk kd tx nm p ks) kv) 25)∧Hid (KAt 25 w0 ks (fun b=>b<pb) kv)∧Hid (Below w.heap.size w w0)∧Hid (w.heap.size<w0.heap.size) :=
   ⟨_,rfl,zh (Lay.start (hb.alloc _) (hi.alloc _)),zh (Blk.new w _ _),zh (hk.alloc _),zh ((Below.refl _ _).alloc (Nat.le_refl _) _),zh (by simp)⟩
  have HBB:=zh hb
  have HII:=zh hi
  have HV:=zh hvlt
  have HLO:=zh hlo
  have HKS:=zh hks'
  have HW:=zh hw'
  have HSZ:=zh hs'
  have HLL:=zh hl'
  have HIH:=zh ih
  have HST:Hid (zWs pb w0 v is n ks ks.length (.int .i64 0) w0):=zh ⟨0,v,by omega,by omega,rfl,by simpa [zQa] using HL0.out⟩
  clear hb hi hks hw hs hl hks' hw' hs' hl' hlo hvlt ih
  have hk':KAt 25 w ks (fun b=>b<pb) kv:=hk
  clear hk
  rcases hk'.form with ⟨rfl,hnil⟩|⟨g,cap,rfl,hg,hcap,hcm,_⟩
  ·subst hnil
   refine (zCl (p:=p) (tx:=tx) (nm:=nm) (kd:=kd) HBB.out HII.out hk').mono ?_
   rintro e w' ⟨h1,V,h2⟩
   refine ⟨h1,V,?_⟩
   show Lay pb w v (is++zQa (zBa n) is.length []) w' V
   rw [zQa,List.append_nil]
   exact h2
  ·clear hk'
   have HG:=zh hg
   have HCAP:=zh hcap
   clear hg hcap
   unfold maxLen at hcm
   have HGET:Hid (∀ W:World,KAt 25 W ks (fun b=>b<pb) (.slice (some ⟨g,0,none⟩) ks.length cap)→∀ (k:Nat) (t:T),ks[k]?=some t→∃ u,W.rangeAt g (k * 5) (zaa t u)∧TAt 25 W t (fun b=>b<pb) u):=zh (by
    intro W hK k t hk
    rcases hK.form with ⟨h1,_⟩|⟨g',cap',h1,_,_,_,hget⟩
    ·cases h1
    ·cases h1
     exact hget k t hk)
   unfold zma
   simp only [zRa,zXa,zBb,zJa]
   go_enter Tryz.func44,Tryz.ntmps44
   go_wp2_with fail
   go_loopg [9] ks.length (fun gh i wr=>zWs pb w0 v is n ks gh i wr)
   case atStart =>
    show zWs pb w0 v is n ks ks.length (.int .i64 0) (w.alloc (.cells (zaa (.mk kd tx nm p ks) (.slice (some ⟨g,0,none⟩) ks.length cap)).toArray 25))
    rw [hw0]
    exact HST.out
   case round =>
    obtain ⟨k,V,hk,hgk,rfl,hL⟩:=hrel
    clear HST
    have HLk:=zh hL
    have hzw:=hL.kp.size
    by_cases hlt:k<ks.length
    ·have hne:=List.getElem?_eq_getElem hlt
     obtain ⟨u,hr,hT⟩:=HGET.out _ (hL.kat HK0.out) k ks[k] hne
     have htk:ks.take (k+1)=ks.take k++[ks[k]]:=List.take_succ_eq_append_getElem hlt
     have hkk:=HKS.out ks[k] (List.getElem_mem hlt)
     have hwk:=zMd HW.out (List.getElem_mem hlt)
     have hsk:=zeg ks k ks[k] hne
     have hsle:=zsd ks (k+1)
     generalize ks[k]=tk at hr hT hne htk hkk hwk hsk
     have HR:=zh hr
     have HTK:=zh htk
     have HKK:=zh hkk
     have HWK:=zh hwk
     have HSK:=zh hsk
     have HSLE:=zh hsle
     have HOne:=zh hT.kat.one
     have HKB:=zh (Blk.new wr (zaa tk u) 25)
     have hwk2:zYb (ks.take k)∧zjb zZa (ks.take k):=⟨zBg k HW.out,fun t ht=>HKS.out t (List.mem_of_mem_take ht)⟩
     have HLN:=zh (zmb (n+1) (ks.take k) (by have:=HSZ.out;have:=zsd ks k;omega) hwk2.2 hwk2.1 is.length)
     have HCL:=zh (count_le.counts_le (ks.take k))
     have HL1:=zh (hL.below ((Below.refl _ _).alloc (Nat.le_refl _) (.cells (zaa tk u).toArray 25)))
     have HK1:=zh (hT.alloc (.cells (zaa tk u).toArray 25)).kat
     have hcap:=HCAP.out
     clear hr hT hne htk hkk hwk hsk hsle hL hwk2
     go_wp2_with (first
      | ((with_reducible refine zra 25 (.tmp 11) ?_);refine wpList_load_mid rfl 25 (.tmp 11) rfl g (k * 5) rfl (zaa tk u) _ HR.out Tryz.underlying25 rfl Tryz.zha ?_)
      | ((with_reducible refine zla 25 (.tmp 5) ?_);refine zga rfl 25 (.tmp 5) (.tmp 12) rfl (zaa tk u) (old:=zba) rfl rfl Tryz.zha rfl (zda _ _ HOne.out) ?_)
      | ((with_reducible refine zra 25 (.tmp 5) ?_);refine zja rfl 25 (.tmp 5) rfl (wr.heap.size) (zaa tk u) rfl HKB.out Tryz.underlying25 rfl Tryz.zha ?_))
     refine (zYq HIH.out HL1.out.blk HL1.out.ins HK1.out HWK.out HKK.out (by have:=HSZ.out;have:=HSK.out;have:=HSLE.out;omega) ?_).mono ?_
     ·have h1:=HLN.out
      have h2:=HCL.out
      have h3:=HSK.out
      have h4:=HSLE.out
      have h5:=HLL.out
      have h6:(zQa (zBa n) is.length (ks.take k)).length=counts (ks.take k):=h1
      simp only [List.length_append]
      omega
     rintro e w3 ⟨rfl,V3,hl3⟩
     have HL3:=zh (HL1.out.trans hl3)
     clear hl3 HL1 HK1 HKB
     go_wp2_with fail
     go_roundg (gk-1)
     case measure=>omega
     case rel =>
      refine ⟨k+1,V3,by omega,by omega,by go_num,?_⟩
      have h:=HL3.out
      rw [HTK.out,zQd,← List.append_assoc]
      have e:zQa (zBa n) (is.length+(zQa (zBa n) is.length (ks.take k)).length) [tk]=zfe (zBa n) (is++zQa (zBa n) is.length (ks.take k)).length tk:=by
       rw [zQa,zQa,List.append_nil,List.length_append]
      rw [e]
      exact h
    ·have hE:Lay pb w0 v (is++zQa (zBa n) is.length ks) wr V:=by have:=HLk.out;rwa [List.take_of_length_le (by omega)] at this
     have HE:=zh (hE.back HB0.out HLO.out HV.out)
     clear hE hL
     go_wp2_with fail
     refine bodyPost_ret (v:=.tuple #[]) (by simp [results,Tryz.results44]) rfl ?_
     exact ⟨rfl,V,HE.out⟩
theorem zTk:∀ n:Nat,zlh n
 | 0=>by
  intro w pb v is t kv hb hi hk hks hw hs hl
  cases t with
  | mk kd tx nm p ks =>
   have hs':sizes ks≤0:=hs
   have h:ks=[]:=by
    cases ks with
    | nil=>rfl
    | cons a l=>rw [zoa] at hs';cases a;rw [size_mk] at hs';omega
   subst h
   refine (zCl hb hi hk).mono ?_
   rintro e w' ⟨h1,V,h2⟩
   refine ⟨h1,V,?_⟩
   show Lay pb w v (is++[]) w' V
   rw [List.append_nil]
   exact h2
 | n+1=>zKn (zTk n)
end
end Go.Proofs.YthdbmgijpelecaaGreatDoor
