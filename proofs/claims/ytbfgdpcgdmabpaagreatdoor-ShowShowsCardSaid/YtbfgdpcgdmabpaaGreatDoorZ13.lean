/- The contracts of the parser's declaration and unit. The contract of syntax.read: the tree of a whole text's tokens, or the first fault, which its deferred function recovers. The contract of syntax.Size. -/
import Derived.Test.YtbfgdpcgdmabpaaGreatDoorZ11
import Derived.Test.YtbfgdpcgdmabpaaGreatDoorZ12
import Derived.Recover
import Derived.Test.YtbfgdpcgdmabpaaGreatDoorZ04
import Derived.Test.YtbfgdpcgdmabpaaGreatDoorZ02
namespace Go.Proofs.YtbfgdpcgdmabpaaGreatDoor
set_option maxRecDepth 100000
set_option maxHeartbeats 1000000
section
open Go.RowKit
theorem zTm {n:Nat} {l:List Tok} (hn:0<n) (h:((hdT l).kind == 0)=true):zbe n l=.ok ([],l):=by
 cases n with
 | zero=>omega
 | succ n=>rw [zbe,h];rfl
theorem zTh {n:Nat} {l:List Tok} (h:((hdT l).kind == 0)=false):zbe (n+1) l=bd (zLd l) fun a l1=>bd (zbe n l1) fun xs l2=>.ok (a :: xs,l2):=by
 rw [zbe,h];rfl
def zoq (E:Env) (w:World) (l:List Tok) (d:Nat) (gk:Nat) (wr:World):Prop :=
 ∃ (ks:List T) (lr:List Tok) (m:Nat) (v:Value),Run E w wr lr d∧Blk wr w.heap.size zba 25∧zUb w wr (w.heap.size+1) (T.mk 0 e0 0 0 ks) v ∧
  zbe (l.length+1) l=bd (zbe m lr) (fun xs l'=>.ok (ks++xs,l'))∧lr.length<m∧lr.length≤gk∧ks.length+lr.length≤l.length
theorem zih {E:Env} {w:World} {l:List Tok} {d:Nat} (h:PSt E w l d) (hd:d=0) :
  Calls Tryz.prog 76 #[.pointer (some ⟨E.pb,0,none⟩)] w (znb zsc E w l d (zLd l)):=by
 have HR0:=zh ((Run.start h).alloc (.cells zba.toArray 25))
 have HB0:=zh (Blk.new w zba 25)
 have HD:=zh hd
 clear hd
 have hlo:=h.plt
 have hlt:=h.tlt
 have hln:=h.len
 clear h
 go_enter Tryz.func76,Tryz.ntmps76
 go_wp2_with fail
 refine (zRa HR0.out.st [bs [116,121,112,101],bs [102,110]] (by decide) (by decide) (by simp) rfl rfl).mono ?_
 intro e w1 hp
 cases hr:zqa [bs [116,121,112,101],bs [102,110]] l with
 | error pc =>
  obtain ⟨p,c⟩:=pc
  obtain ⟨rfl,hk,hcd⟩:=hp.err hr
  have HK:=zh (HR0.out.kp.trans hk)
  have HP:=zh (show zLd l=.error (p,c) by unfold zLd;exact (zka hr _))
  clear hr hp hk
  go_wp2
  exact ⟨rfl,Run.err HK.out HP.out hcd⟩
 | ok q =>
  obtain ⟨a1,l1⟩:=q
  obtain ⟨v1,rfl,hv,hs,hl,hk⟩:=hp.ok hr
  obtain ⟨rfl,hto⟩:=hv
  have HR1:=zh (HR0.out.call hk hs)
  have hzR1:=HR1.out.size
  have HB1:=zh (HB0.out.kp hk (by omega))
  have hzHB1:=HB1.out.lt
  have HL1:=zh hl
  have H1:=zh hr
  clear hr hp hs hl hk hto
  unfold zHb
  cases ho:isT a1 (bs [116,121,112,101]) with
  | true =>
   have HO:=zh ho
   obtain ⟨ho2,ho3⟩:=zqi ho
   clear ho ho3
   go_wp2_with fail
   refine (zGh (HR1.out.alloc _).st _).mono ?_
   intro e w2 hp
   cases hr:zMb a1.place l1 with
   | error pc =>
    obtain ⟨p,c⟩:=pc
    obtain ⟨rfl,hk,hcd⟩:=hp.err hr
    have HK:=zh ((HR1.out.alloc _).kp.trans hk)
    have HP:=zh (show zLd l=.error (p,c) by unfold zLd;exact ((zha H1.out _)).trans (((zsa HO.out _ _)).trans (hr)))
    clear hr hp hk
    go_wp2
    exact ⟨rfl,Run.err HK.out HP.out hcd⟩
   | ok q =>
    obtain ⟨a2,l2⟩:=q
    obtain ⟨v2,rfl,hv,hs,hl,hk⟩:=hp.ok hr
    obtain ⟨kv2,rfl,ht⟩:=hv
    have HT2:=zh (ht.weak (HB1.out.alloc _).lt)
    have HR2:=zh ((HR1.out.alloc _).call hk hs)
    have hzR2:=HR2.out.size
    have HB2:=zh ((HB1.out.alloc _).kp hk (by omega))
    have hzHB2:=HB2.out.lt
    have HL2:=zh hl
    have H2:=zh hr
    clear hr hp hs hl hk ht
    unfold zKa
    have HP:=zh (show zLd l=.ok (a2,l2) by unfold zLd;exact ((zha H1.out _)).trans (((zsa HO.out _ _)).trans (H2.out)))
    go_wp2_with ((with_reducible refine zDa 25 (.tmp 2) ?_);refine zca rfl 25 (.tmp 2) (.tmp 18) rfl w.heap.size (zaa (a2) (kv2)) rfl rfl HB2.out Tryz.zda rfl (zea _ _ HT2.out.kat.one) ?_)
    exact zma (cs:=zaa (a2) (kv2)) Tryz.results76 rfl HB2.out Tryz.underlying25 rfl Tryz.zda rfl (Run.node HR2.out HT2.out.lo HP.out (by have:=HL1.out;have:=HL2.out;first|omega|(simp only [List.length_tail] at *;omega)))
  | false =>
   have HO:=zh ho
   obtain ⟨ho2,ho3⟩:=zWi ho
   clear ho ho3
   go_wp2_with fail
   refine (zpj (HR1.out.alloc _).st HD.out _).mono ?_
   intro e w2 hp
   cases hr:fnP a1.place l1 with
   | error pc =>
    obtain ⟨p,c⟩:=pc
    obtain ⟨rfl,hk,hcd⟩:=hp.err hr
    have HK:=zh ((HR1.out.alloc _).kp.trans hk)
    have HP:=zh (show zLd l=.error (p,c) by unfold zLd;exact ((zha H1.out _)).trans (((zia HO.out _ _)).trans (hr)))
    clear hr hp hk
    go_wp2
    exact ⟨rfl,Run.err HK.out HP.out hcd⟩
   | ok q =>
    obtain ⟨a2,l2⟩:=q
    obtain ⟨v2,rfl,hv,hs,hl,hk⟩:=hp.ok hr
    obtain ⟨kv2,rfl,ht⟩:=hv
    have HT2:=zh (ht.weak (HB1.out.alloc _).lt)
    have HR2:=zh ((HR1.out.alloc _).call hk hs)
    have hzR2:=HR2.out.size
    have HB2:=zh ((HB1.out.alloc _).kp hk (by omega))
    have hzHB2:=HB2.out.lt
    have HL2:=zh hl
    have H2:=zh hr
    clear hr hp hs hl hk ht
    unfold zKa
    have HP:=zh (show zLd l=.ok (a2,l2) by unfold zLd;exact ((zha H1.out _)).trans (((zia HO.out _ _)).trans (H2.out)))
    go_wp2_with ((with_reducible refine zDa 25 (.tmp 2) ?_);refine zca rfl 25 (.tmp 2) (.tmp 12) rfl w.heap.size (zaa (a2) (kv2)) rfl rfl HB2.out Tryz.zda rfl (zea _ _ HT2.out.kat.one) ?_)
    exact zma (cs:=zaa (a2) (kv2)) Tryz.results76 rfl HB2.out Tryz.underlying25 rfl Tryz.zda rfl (Run.node HR2.out HT2.out.lo HP.out (by have:=HL1.out;have:=HL2.out;first|omega|(simp only [List.length_tail] at *;omega)))
theorem zQo {E:Env} {w:World} {l:List Tok} {d:Nat} (h:PSt E w l d) (hd:d=0) :
  Calls Tryz.prog 41 #[.pointer (some ⟨E.pb,0,none⟩)] w (zkg zsc E w l d (zwd l)):=by
 have HR0:=zh ((Run.start h).alloc (.cells zba.toArray 25))
 have HB0:=zh (Blk.new w zba 25)
 have HD:=zh hd
 clear hd
 have hle:=h.le
 obtain ⟨i0,z0,I⟩:=Tryz.zje
 have hlo:=h.plt
 have hlt:=h.tlt
 have hln:=h.len
 clear h
 go_enter Tryz.func41,Tryz.ntmps41
 have HRa:=zh (HR0.out.alloc (.cells (zaa (T.mk 0 e0 0 0 []) (.slice none 0 0)).toArray 25))
 have HBa:=zh (HB0.out.alloc (.cells (zaa (T.mk 0 e0 0 0 []) (.slice none 0 0)).toArray 25))
 have HNa:Hid (zUb w ((w.alloc (.cells zba.toArray 25)).alloc (.cells (zaa (T.mk 0 e0 0 0 []) (.slice none 0 0)).toArray 25)) (w.heap.size+1) (T.mk 0 e0 0 0 []) (.slice none 0 0)):=(by
  have h1:=zUb.new (w:=w) (t:=T.mk 0 e0 0 0 []) (KAt.nil 25 (w.alloc (.cells zba.toArray 25)) (fun b=>w.heap.size<b)) (by simp)
  rw [show (w.alloc (.cells zba.toArray 25)).heap.size=w.heap.size+1 by simp] at h1
  exact h1)
 have HLL:=zh (show l.length≤16385 by omega)
 clear hle
 go_wp2_with fail
 go_loopg [5] l.length (fun gk _ wr=>zoq E w l d gk wr)
 case atStart =>
  refine ⟨[],l,l.length+1,_,HRa.out,HBa.out,HNa.out,?_,by omega,Nat.le_refl _,by simp⟩
  cases zbe (l.length+1) l with
  | error e=>rfl
  | ok q=>obtain ⟨x,y⟩:=q;rfl
 case round =>
  obtain ⟨ks,lr,mm,v,hR,hBl,hN,hE,hm,hg,hcnt⟩:=hrel
  have HR:=zh hR
  have HBr:=zh hBl
  have HNr:=zh hN
  have HE:=zh hE
  have HM:=zh hm
  have HG:=zh hg
  have HC:=zh hcnt
  have HP0:=zh hR.st.head.1
  have hzB:=hBl.lt
  have hzN:=hN.lt
  have hzK:ks.length≤16385:=by have:=HLL.out;omega
  clear hR hBl hN hE hm hg hcnt HRa HBa HNa HR0 HB0
  go_wp2_with fail
  refine (zob HR.out.st).mono ?_
  rintro e w2 ⟨rfl,hb⟩
  have HR2:=zh (HR.out.below hb)
  have hzR2:=HR2.out.size
  have HB2:=zh (HBr.out.kp (Kp.of_below (pb:=E.pb) hb) (by omega))
  have hzHB2:=HB2.out.lt
  have HN2:=zh (HNr.out.kp (Kp.of_below (pb:=E.pb) hb) (by first|omega|(have:=HR0.out.size;simp at *;omega)))
  have hzHN2:=HN2.out.lt
  clear hb
  unfold zHb
  have fl0:=zGb
  have fl1:=zCb
  have fl3:=zFb
  by_cases hkd:(hdT lr).kind=0
  ·
   have HI:=zh (show ((hdT lr).kind == 0)=true by rw [hkd];rfl)
   have hne:(((hdT lr).kind:Int) != 0)=false:=by rw [hkd];rfl
   clear hkd
   have HS:=zh (show zbe (l.length+1) l=.ok (ks,lr) by rw [HE.out,zha (zTm (by have:=HM.out;omega) HI.out)];simp)
   have HP:=zh (show zwd l=.ok (T.mk 0 e0 0 0 ks,lr) by unfold zwd;exact (zha HS.out _))
   go_wp2_with (first|((with_reducible refine zdb 25 (.tmp 3) ?_);refine zga rfl 25 (.tmp 3) rfl (w.heap.size+1) (zaa (T.mk 0 e0 0 0 ks) (v)) rfl HN2.out.blk Tryz.underlying25 rfl Tryz.zda ?_)|((with_reducible refine zDa 25 (.tmp 2) ?_);refine zca rfl 25 (.tmp 2) (.tmp 16) rfl w.heap.size (zaa (T.mk 0 e0 0 0 ks) (v)) rfl rfl HB2.out Tryz.zda rfl (zea _ _ HN2.out.kids.one) ?_))
   exact zma (cs:=zaa (T.mk 0 e0 0 0 ks) (v)) Tryz.results41 rfl HB2.out Tryz.underlying25 rfl Tryz.zda rfl (Run.zkr HR2.out (TAt.zLc (HN2.out.kids.mono (fun _ hb _=>hb.1))) HP.out (by have:=HC.out;first|omega|(simp only [List.length_tail] at *;omega)))
  ·
   have HI:=zh (show ((hdT lr).kind == 0)=false from beq_eq_false_iff_ne.2 hkd)
   have hne:(((hdT lr).kind:Int) != 0)=true:=by simp;omega
   clear hkd
   obtain ⟨m0,rfl⟩:∃ m0,mm=m0+1:=⟨mm-1,by have:=HM.out;have:=HP0.out;omega⟩
   go_wp2_with fail
   refine AnyE.zhc (S:=fun W=>Blk W (w.heap.size+1) (zaa (T.mk 0 e0 0 0 ks) (v)) 25) (by kernel_rfl) (HN2.out.blk.drew) (fun hS=>?_)
   refine AnyE.take (i:=0) (v:=.pointer (some ⟨w.heap.size+1,4,none⟩)) rfl (by kernel_rfl) (by kernel_rfl) (by kernel_rfl) (by kernel_rfl) (fun _ _ _ h=>h) (Or.inl ⟨by rfl,fun W _=>by go_simp⟩) hS ?_
   refine AnyE.take (i:=1) (v:=v) rfl (by kernel_rfl) (by kernel_rfl) (by kernel_rfl) (by kernel_rfl) (fun _ _ _ h=>h) (Or.inl ⟨by rfl,fun W hW=>by have hcx:W.cell? ⟨w.heap.size+1,4,none⟩=some (v):=hW.cell 4;go_simp⟩) hS ?_
   refine AnyE.take (i:=2) (v:=.pointer (some ⟨E.pb,0,none⟩)) rfl (by kernel_rfl) (by kernel_rfl) (by kernel_rfl) (by kernel_rfl) (fun _ _ _ h=>h) (Or.inl ⟨by rfl,fun W _=>by go_simp⟩) hS ?_
   refine AnyE.one (i:=3) (by kernel_rfl) rfl (by rfl) (fun K hK=>?_)
   go_simp
   refine (zih (HR2.out.drew).st HD.out).mono ?_
   intro e w3 hp
   cases hr:zLd lr with
   | error pc =>
    obtain ⟨p,c⟩:=pc
    obtain ⟨rfl,hk,hcd⟩:=hp.err hr
    have HK:=zh ((HR2.out.drew).kp.trans hk)
    have HP:=zh (show zwd l=.error (p,c) by unfold zwd;exact zka (HE.out.trans (zka ((zTh HI.out).trans ((zka hr _))) _)) _)
    clear hr hp hk
    go_wp2
    exact ⟨rfl,Run.errE HK.out HP.out hcd⟩
   | ok q =>
    obtain ⟨a3,l3⟩:=q
    obtain ⟨v3,rfl,hv,hs,hl,hk⟩:=hp.ok hr
    obtain ⟨kv3,rfl,ht⟩:=hv
    have HT3:=zh (ht.weak (HB2.out.drew).lt)
    have huHN3:=Blk.zpb hk (HN2.out.drew).blk
    have HU3:=zh (ht.mono (S':=fun b=>w.heap.size<b∧(w.heap.size+1)<b) (fun b hb _=>by have:=Blk.zpb hk (HB2.out.drew);omega))
    have HF3:=zh (zUb.fresh hk (HN2.out.drew) ht)
    have HG3:=zh (zUb.ztf hk (HN2.out.drew) ht)
    have HR3:=zh ((HR2.out.drew).call hk hs)
    have hzR3:=HR3.out.size
    have HB3:=zh ((HB2.out.drew).kp hk (by omega))
    have hzHB3:=HB3.out.lt
    have HN3:=zh ((HN2.out.drew).kp hk (by first|omega|(have:=HR0.out.size;simp at *;omega)))
    have hzHN3:=HN3.out.lt
    have HL3:=zh hl
    have H3:=zh hr
    clear hr hp hs hl hk ht
    unfold zKa
    refine hK.out _ _ (fun _=>HN3.out.blk) ?_
    clear hK K
    refine AnyE.one (i:=4) (by kernel_rfl) rfl (by rfl) (fun K hK=>?_)
    go_simp
    refine hK.out _ _ (fun _=>(HN3.out.alloc _).blk) ?_
    clear hK K
    refine AnyE.one (i:=5) (by kernel_rfl) rfl (by rfl) (fun K hK=>?_)
    refine zUa (.tmp 10) (.tmp 13) rfl I (ts:=[a3]) rfl (HN3.out.alloc _).kids (us:=[kv3]) (zdc.single (HF3.out.alloc _)) ⟨by simp;omega,by simp;omega⟩ rfl rfl (by simp) (zge w3 _ a3 kv3) (by show ks.length+_≤_;simp;omega) ?_
    intro v3x w3x hKx hgx _
    obtain ⟨sa3x,sn3x,sc3x,rfl⟩:=hKx.slice
    obtain ⟨h1,h2,h3,hcx,hfx,h6⟩:=zbb (HR3.out.alloc _) (HB3.out.alloc _) (HN3.out.alloc _) hKx hgx
    have HR3x:=zh h1
    have HB3x:=zh h2
    have HN3x:=zh h3
    have HC3x:=zh h6
    clear h1 h2 h3 h6 hKx hgx
    refine hK.out _ _ (fun _=>HC3x.out) ?_
    clear hK K
    refine AnyE.one (i:=6) (by kernel_rfl) rfl (by rfl) (fun K hK=>?_)
    go_simp
    refine hK.out _ _ (fun _=>HC3x.out) ?_
    clear hK K
    refine AnyE.one (i:=7) (by kernel_rfl) rfl (by rfl) (fun K hK=>?_)
    go_simp
    refine hK.out _ _ (fun h=>absurd rfl h) ?_
    clear hK K
    refine AnyE.done (by kernel_rfl) ?_ _
    clear hcx hfx
    generalize w3x.setCell ⟨w.heap.size+1,4,none⟩ (.slice sa3x sn3x sc3x)=w3y at HR3x HB3x HN3x ⊢
    have hzHB3y:=HB3x.out.lt
    have hzHN3y:=HN3x.out.lt
    go_wp2
    go_roundg (gk-1)
    case measure=>have:=HG.out;have:=HP0.out;omega
    case rel =>
     have h1:=HL3.out
     have h2:=HM.out
     have h4:=HG.out
     have h5:=HC.out
     have h6:=HP0.out
     refine ⟨ks++[a3],l3,m0,_,HR3x.out,HB3x.out,HN3x.out,?_,by omega,by omega,by simp;omega⟩
     rw [HE.out,zTh HI.out,zal,zha H3.out,zal]
     congr 1
     funext xs l'
     simp [bd]
end
section
open Go.RowKit
theorem Tryz.zXd:(Tryz.prog.info? 64).map (·.size)=some 2:=by kernel_rfl
theorem zQi (v:Value) (w:World):(Instr.typeAssert (.iface 64 v) 20 64 true).run Tryz.prog w=.ok (.tuple #[v,.bool true]) w:=by
 simp [Instr.typeAssert,run_underlying Tryz.underlying64]
theorem catch_panicking (fb:Nat) (p:Nat) (c:Int) (w:World) (hb:Blk w fb [.int .i64 0,.int .i64 0] 64) :
  CallsD Tryz.prog 40 #[.pointer (some ⟨fb,0,none⟩)] (.panicking [{ v:=zyf p c,recovered:=false }]) w fun e u' w' =>
   e=.returned (.tuple #[])∧u'=.panicking [{ v:=zyf p c,recovered:=true }]∧Blk w' fb [.int .i64 p,.int .i64 c] 64∧w.grownBy w' (some fb):=by
 have HB:=zh hb
 have hlt:=hb.lt
 have hta:=zQi
 clear hb
 refine callsD_of_wpS Tryz.func40 rfl fun c₀ cs hu=>?_
 simp only [Tryz.ntmps40,List.size_toArray,List.length_cons,List.length_nil,Nat.reduceAdd,Nat.reduceSub,Array.replicate_succ,Array.replicate_zero,List.push_toArray,List.append_toArray,List.nil_append,List.cons_append]
 apply wpS_seq
 apply wpS_region
 unfold zyf at hu ⊢
 simp [wpOpsS,go_sem,recoverD,hu,Exit.thenS]
 refine wpS_of_wp ?_
 clear hu
 go_wp2_with ((with_reducible refine zDa 64 (.tmp 0) ?_);refine zca rfl 64 (.tmp 0) (.tmp 15) rfl fb [.int .i64 p,.int .i64 c] rfl rfl (HB.out.alloc _) Tryz.zXd rfl (by simp [Value.oneCell']) ?_)
 refine ⟨rfl,_,rfl,.tuple #[],by simp [results,Tryz.results40],rfl,rfl,(HB.out.alloc _).zac [.int .i64 p,.int .i64 c],?_⟩
 exact ⟨rfl,rfl,rfl,by simp,fun k hk hn=>(setRow_other _ fb k _ (fun e=>hn (by rw [e]))).trans (Below.heap_alloc w _ k hk)⟩
theorem catch_idle (fb:Nat) (w:World) :
  CallsD Tryz.prog 40 #[.pointer (some ⟨fb,0,none⟩)] .returning w fun e u' w'=>e=.returned (.tuple #[])∧u'=.returning∧w'=w:=by
 refine callsD_of_wpS Tryz.func40 rfl fun c₀ cs hu=>?_
 simp only [Tryz.ntmps40,List.size_toArray,List.length_cons,List.length_nil,Nat.reduceAdd,Nat.reduceSub,Array.replicate_succ,Array.replicate_zero,List.push_toArray,List.append_toArray,List.nil_append,List.cons_append]
 apply wpS_seq
 apply wpS_region
 simp [wpOpsS,go_sem,recoverD,hu,Exit.thenS]
 refine wpS_of_wp ?_
 go_wp2_with fail
 refine ⟨rfl,.returning,?_,.tuple #[],by simp [results,Tryz.results40],rfl,rfl,rfl⟩
 cases c₀
 simp_all
def zBf (r:R T) (w:World) (e:Ending) (w':World):Prop :=
 match r with
 | .ok (t,_)=>∃ kv,e=.returned (.tuple #[zKa t kv,.agg #[.int .i64 0,.int .i64 0]])∧TAt 25 w' t (fun b=>w.heap.size≤b) kv∧Below w.heap.size w w'
 | .error (p,c)=>e=.returned (.tuple #[zKa zRb (.slice none 0 0),.agg #[.int .i64 p,.int .i64 c]])∧Below w.heap.size w w'∧(c=20∨c=21)
theorem zBf.zYg {r:R T} {w w':World} {e:Ending} {t:T} {l:List Tok} {kv:Value} (hr:r=.ok (t,l)) (he:e=.returned (.tuple #[zKa t kv,.agg #[.int .i64 0,.int .i64 0]])) (ht:TAt 25 w' t (fun b=>w.heap.size≤b) kv) (hb:Below w.heap.size w w'):zBf r w e w':=by
 rw [hr];exact ⟨kv,he,ht,hb⟩
theorem zBf.zum {r:R T} {w w':World} {e:Ending} {p:Nat} {c:Int} (hr:r=.error (p,c)) (he:e=.returned (.tuple #[zKa zRb (.slice none 0 0),.agg #[.int .i64 p,.int .i64 c]])) (hb:Below w.heap.size w w') (hc:c=20∨c=21):zBf r w e w':=by
 rw [hr];exact ⟨he,hb,hc⟩
theorem zlg {P:Program} {fn:Func} {s u:Tmp} {ty tz t t':TypeId} (h:fn.results=#[.cell s ty,.cell u tz]) {tmps:Array Value} {W:World} {g g':Nat} {cs cs':List Value} {d d':TypeDesc}
  (hs:tmps.getD s undef=.pointer (some ⟨g,0,none⟩)) (hu':tmps.getD u undef=.pointer (some ⟨g',0,none⟩)) (hb:Blk W g cs t) (hb':Blk W g' cs' t') (hu:P.underlying ty=some d) (hd:d.isRow=true) (hi:(P.info? ty).map (·.size)=some cs.length)
  (hz:P.underlying tz=some d') (hd':d'.isRow=true) (hi':(P.info? tz).map (·.size)=some cs'.length):(results fn tmps).run P W=.ok (.tuple #[.agg cs.toArray,.agg cs'.toArray]) W:=by
 have hl:=run_loadVar_mid (P:=P) W g 0 ty cs d (fun j v hj=>by rw [Nat.zero_add,hb.cell j];exact hj) hu hd hi
 have hl':=run_loadVar_mid (P:=P) W g' 0 tz cs' d' (fun j v hj=>by rw [Nat.zero_add,hb'.cell j];exact hj) hz hd' hi'
 have h1:tmps[s]?.getD undef=.pointer (some ⟨g,0,none⟩):=by rw [← hs];simp
 have h2:tmps[u]?.getD undef=.pointer (some ⟨g',0,none⟩):=by rw [← hu'];simp
 simp [results,h,h1,h2,asAddr,hl,hl']
structure Toks (w:World) (tb cap:Nat) (ts:List Tok):Prop where
 row:zsi w tb ts
 lt:tb<w.heap.size
 ends:Ends ts
 ok:∀ t∈ts,zok t
 len:ts.length≤16385
 capb:ts.length≤cap
theorem zsk {w:World} {tb cap:Nat} {ts:List Tok} (h:Toks w tb cap ts) :
  Calls Tryz.prog 19 #[.slice (some ⟨tb,0,none⟩) ts.length cap] w (zBf (zwd ts) w):=by
 have hmf:=zed
 have HB0:=zh (((Blk.new w zba 25).alloc (.cells #[.int .i64 0,.int .i64 0] 64)).alloc (.cells #[.slice (some ⟨tb,0,none⟩) ts.length cap,.int .i64 0,.int .i64 0] 125))
 have HF0:=zh ((Blk.zDd w (.cells zba.toArray 25) [.int .i64 0,.int .i64 0] 64).alloc (.cells #[.slice (some ⟨tb,0,none⟩) ts.length cap,.int .i64 0,.int .i64 0] 125))
 have HST:Hid (PSt ⟨w.heap.size+2,tb,cap,ts⟩ (((w.alloc (.cells zba.toArray 25)).alloc (.cells #[.int .i64 0,.int .i64 0] 64)).alloc (.cells #[.slice (some ⟨tb,0,none⟩) ts.length cap,.int .i64 0,.int .i64 0] 125)) ts 0):=(by
  have hlt:=h.lt
  refine ⟨Nat.le_refl _,by simp,?_,?_,by show tb≠w.heap.size+2;omega,by simp;omega,h.ends,h.ok,h.len,h.capb,by omega⟩
  ·have h1:=heap_alloc_new ((w.alloc (.cells zba.toArray 25)).alloc (.cells #[.int .i64 0,.int .i64 0] 64)) (.cells #[.slice (some ⟨tb,0,none⟩) ts.length cap,.int .i64 0,.int .i64 0] 125)
   rw [show ((w.alloc (.cells zba.toArray 25)).alloc (.cells #[.int .i64 0,.int .i64 0] 64)).heap.size=w.heap.size+2 by simp] at h1
   simpa using h1
  ·exact h.row.same ((Below.heap_alloc _ _ _ (by simp;omega)).trans ((Below.heap_alloc _ _ _ (by simp;omega)).trans (Below.heap_alloc _ _ _ hlt))))
 have HW:=zh ((((Below.refl w.heap.size w).alloc (Nat.le_refl _) (.cells zba.toArray 25)).alloc (by simp) (.cells #[.int .i64 0,.int .i64 0] 64)).alloc (by simp;omega) (.cells #[.slice (some ⟨tb,0,none⟩) ts.length cap,.int .i64 0,.int .i64 0] 125))
 clear h
 go_enter_defers Tryz.func19,Tryz.ntmps19
 go_wp2_with fail
 refine (zQo HST.out rfl).mono ?_
 intro e w1 hp
 cases hr:zwd ts with
 | error pc =>
  obtain ⟨p,c⟩:=pc
  rw [hr] at hp
  obtain ⟨rfl,hk,hcd⟩:=hp
  have HB1:=zh (HB0.out.kp hk (by show _≠w.heap.size+2;omega))
  have HF1:=zh (HF0.out.kp hk (by show _≠w.heap.size+2;omega))
  have HW1:=zh (HW.out.grown hk (by simp;omega) (fun k hk=>by cases hk;show _≤w.heap.size+2;omega))
  clear hk hr
  go_wp2_with fail
  refine leaves_cons (f:=40) (args:=#[.pointer (some ⟨w.heap.size+1,0,none⟩)]) (by simp) (by simp [go_sem]) ?_
  refine (catch_panicking (w.heap.size+1) p c _ HF1.out).mono ?_
  rintro e u' w2 ⟨rfl,rfl,hb2,hg2⟩
  have hb1:=HB1.out.grown hg2 (by simp)
  exact ⟨_,zlg Tryz.results19 rfl rfl hb1 hb2 Tryz.underlying25 rfl Tryz.zda Tryz.underlying64 rfl Tryz.zXd,.zum rfl rfl (HW1.out.grown hg2 HW1.out.size (fun k hk=>by cases hk;omega)) hcd⟩
 | ok q =>
  obtain ⟨t,l'⟩:=q
  rw [hr] at hp
  obtain ⟨v,rfl,⟨kv,rfl,ht⟩,hs,hl,hk⟩:=hp
  have HB1:=zh (HB0.out.kp hk (by show _≠w.heap.size+2;omega))
  have HF1:=zh (HF0.out.kp hk (by show _≠w.heap.size+2;omega))
  have HW1:=zh (HW.out.grown hk (by simp;omega) (fun k hk=>by cases hk;show _≤w.heap.size+2;omega))
  have HT:=zh (ht.mono (S':=fun b=>w.heap.size+1<b) (fun b hb _=>by simp at hb;omega))
  have HRR:=zh hr
  clear hk hr hs hl ht
  unfold zKa
  go_wp2_with (first|((with_reducible refine zDa 25 (.tmp 2) ?_);refine zca rfl 25 (.tmp 2) (.tmp 10) rfl w.heap.size (zaa t kv) rfl rfl HB1.out Tryz.zda rfl (zea _ _ HT.out.kat.one) ?_)|((with_reducible refine zDa 64 (.tmp 3) ?_);refine zca rfl 64 (.tmp 3) (.tmp 11) rfl (w.heap.size+1) [.int .i64 0,.int .i64 0] rfl rfl (HF1.out.zcb w.heap.size _ (by omega)) Tryz.zXd rfl (by simp [Value.oneCell']) ?_))
  refine leaves_cons (f:=40) (args:=#[.pointer (some ⟨w.heap.size+1,0,none⟩)]) (by simp) (by simp [go_sem]) ?_
  refine (catch_idle (w.heap.size+1) _).mono ?_
  rintro e u' w2 ⟨rfl,rfl,rfl⟩
  have hb1:=(HB1.out.zac (zaa t kv)).zcb (w.heap.size+1) [.int .i64 0,.int .i64 0].toArray (by omega)
  have hb2:=(HF1.out.zcb w.heap.size (zaa t kv).toArray (by omega)).zac [.int .i64 0,.int .i64 0]
  have hg:∀ (W:World) (g:Nat) (cs:Array Value),w.heap.size≤g→Below w.heap.size w W→Below w.heap.size w (W.setRow g cs):=fun W g cs hg hb =>
   ⟨hb.os,hb.tape,hb.output,by simpa using hb.size,fun k hk=>(setRow_other W g k cs (by omega)).trans (hb.block k hk)⟩
  exact ⟨_,zlg Tryz.results19 rfl rfl hb1 hb2 Tryz.underlying25 rfl Tryz.zda Tryz.underlying64 rfl Tryz.zXd,.zYg HRR.out rfl
   (((HT.out.setRow w.heap.size _ (fun b hb=>by omega)).setRow (w.heap.size+1) _ (fun b hb=>by omega)).mono (fun b hb _=>by omega)) (hg _ _ _ (by omega) (hg _ _ _ (Nat.le_refl _) HW1.out))⟩
end
section
open Go.RowKit
def zTq (w:World) (ks:List T) (g:Nat) (s i:Value) (wr:World):Prop :=
 ∃ k:Nat,k≤ks.length∧ks.length≤k+g∧i=.int .i64 k∧s=.int .i64 ((1+sizes (ks.take k):Nat):Int)∧Below w.heap.size w wr
theorem size_any:∀ (n:Nat) (t:T),t.size≤n→∀ {w:World} {S:Nat→Prop} {kv:Value},KAt 25 w t.kids S kv→t.size≤1000000 →
  Calls Tryz.prog 20 #[zKa t kv] w fun e w'=>e=.returned (.int .i64 t.size)∧Below w.heap.size w w':=by
 intro n
 induction n with
 | zero=>intro t ht;cases t;rw [size_mk] at ht;omega
 | succ n ih =>
  intro t ht w S kv hk hbig
  have hts:t.size=1+sizes t.kids:=by cases t;rw [size_mk];rfl
  have HTS:=zh hts
  have HT:=zh ht
  have HBIG:=zh hbig
  have HIH:=zh (@ih)
  have hkl:t.kids.length≤sizes t.kids:=by
   have:∀ ks:List T,ks.length≤sizes ks:=fun ks=>by
    induction ks with
    | nil=>simp
    | cons a ks h=>rw [zna];cases a;rw [size_mk];simp;omega
   exact this _
  have hkl2:t.kids.length≤1000000:=by omega
  rcases hk.form with ⟨rfl,hnil⟩|⟨g,cap,rfl,hg,hcap,hcm,hget⟩
  ·have HN:=zh hnil
   clear hk ih ht hbig hts hnil hkl hkl2
   unfold zKa
   go_enter Tryz.func20,Tryz.ntmps20
   go_wp2_with fail
   refine wp_loop_rounds 1 ?_
   rw [rounds_succ]
   go_wp2_with fail
   go_ret
   refine ⟨?_,(Below.refl _ _).alloc (Nat.le_refl _) _⟩
   rw [HTS.out,HN.out,zla]
   rfl
  ·have HG:=zh hget
   have HCAP:=zh hcap
   clear hk ih ht hbig hts hget hkl hcap
   unfold maxLen at hcm
   unfold zKa
   go_enter Tryz.func20,Tryz.ntmps20
   go_wp2_with fail
   go_loopg [3,9] t.kids.length (fun gk s i wr=>zTq w t.kids gk s i wr)
   case atStart=>exact ⟨0,by omega,by omega,rfl,by rw [List.take_zero,zla];rfl,(Below.refl _ _).alloc (Nat.le_refl _) _⟩
   case round =>
    obtain ⟨k,hk,hgk,rfl,rfl,hbel⟩:=hrel
    have HB:=zh hbel
    have hzw:=hbel.size
    have hsl:sizes (t.kids.take k)≤1000000:=by have h1:=zhi t.kids k;have h2:=HTS.out;have h3:=HBIG.out;omega
    clear hbel
    by_cases hlt:k<t.kids.length
    ·obtain ⟨u,hr,hT⟩:=HG.out k t.kids[k] (List.getElem?_eq_getElem hlt)
     have hne:=List.getElem?_eq_getElem hlt
     generalize t.kids[k]=tk at hr hT hne
     have HR:=zh (zgc hr ((HB.out.mono (Nat.le_refl _))) hg)
     have HTK:=zh (hT.below (HB.out))
     have HNE:=zh hne
     have hcap:=HCAP.out
     have hks:=zFe hne
     clear hr hT hne
     go_wp2_with (first
      | ((with_reducible refine zdb 25 (.tmp 11) ?_);refine wpList_load_mid rfl 25 (.tmp 11) rfl g (k * 5) rfl (zaa tk u) _ HR.out Tryz.underlying25 rfl Tryz.zda ?_)
      | ((with_reducible refine zDa 25 (.tmp 5) ?_);refine zua rfl 25 (.tmp 5) (.tmp 12) rfl (zaa tk u) (old:=zba) rfl rfl Tryz.zda rfl (zea _ _ HTK.out.kat.one) ?_)
      | ((with_reducible refine zdb 25 (.tmp 5) ?_);refine zga rfl 25 (.tmp 5) rfl wr.heap.size (zaa tk u) rfl (Blk.new wr _ _) Tryz.underlying25 rfl Tryz.zda ?_))
     refine (HIH.out tk (by have h2:=HTS.out;have h3:=HT.out;omega) (HTK.out.alloc _).kat (by have h2:=HTS.out;have h3:=HBIG.out;omega)).mono ?_
     rintro e w2 ⟨rfl,hb2⟩
     have HB2:=zh ((HB.out.alloc hzw _).trans (hb2.mono (by simp;omega)))
     have hks2:tk.size≤1000000:=by have h2:=HTS.out;have h3:=HBIG.out;omega
     clear hb2
     go_wp2
     go_roundg (gk-1)
     case measure=>omega
     case rel =>
      refine ⟨k+1,by omega,by omega,by go_num,?_,HB2.out⟩
      rw [zfl _ _ _ HNE.out]
      go_num
    ·have HE:=zh (show t.kids.take k=t.kids from List.take_of_length_le (by omega))
     go_wp2
     go_ret
     exact ⟨by rw [HTS.out,HE.out];rfl,HB.out⟩
end
end Go.Proofs.YtbfgdpcgdmabpaaGreatDoor
namespace Go.Proofs.YtbfgdpcgdmabpaaGreatDoor
section
open Go.RowKit
def Behind (l l':List UInt8) (n:Nat):Prop:=l'[n]?=none∨l'[n]?=l[n]?∨l'[n]?=some 32∨l'[n]?=some 10
end
section
open Go.RowKit
theorem zdk {s:ByteArray} {P:Nat→zEf→Prop}
  (hend:∀ k,s.size≤k→P k (.ok [zrf s]))
  (hblank:∀ k,k<s.size→znc (bat s k)=true→P (k+1) (lexFrom s (k+1))→P k (lexFrom s (k+1)))
  (hrem:∀ k,k<s.size→bat s k=35→P (endOf zil s k) (lexFrom s (endOf zil s k))→P k (lexFrom s (endOf zil s k)))
  (herr:∀ k e,k<s.size→znc (bat s k)=false→¬ bat s k=35→zjd s k=.error e→P k (.error (k,e)))
  (htok:∀ k t,k<s.size→znc (bat s k)=false→¬ bat s k=35→zjd s k=.ok t→P (k+t.text.size) (lexFrom s (k+t.text.size))→P k (more [t] (lexFrom s (k+t.text.size)))) :
  ∀ k,P k (lexFrom s k):=by
 intro k
 generalize hm:s.size-k=m
 induction m using Nat.strongRecOn generalizing k with
 | ind m ih =>
  rcases Nat.lt_or_ge k s.size with hk|hk
  ·cases hb:znc (bat s k)
   ·by_cases hr:bat s k=35
    ·rw [zQh hk hr]
     have:=zse hk hr
     exact hrem k hk hr (ih _ (by omega) _ rfl)
    ·cases ht:zjd s k with
     | error e=>rw [zem hk hb hr ht];exact herr k e hk hb hr ht
     | ok t =>
      rw [zlm hk hb hr ht]
      have:=(zYd hk ht).1
      exact htok k t hk hb hr ht (ih _ (by omega) _ rfl)
   ·rw [zph hk hb]
    exact hblank k hk hb (ih _ (by omega) _ rfl)
  ·rw [zpn hk]
   exact hend k hk
theorem zrl {ts:List Tok} {r:zEf} {x:Nat × Int} (h:more ts r=.error x):r=.error x:=by
 cases r with
 | error e=>exact h
 | ok t=>cases h
theorem zsn {s:ByteArray} {k:Nat} {e:Int}:∀ j,lexFrom s j=.error (k,e)→j≤k∧k<s.size∧znc (bat s k)=false∧¬ bat s k=35∧zjd s k=.error e:=by
 apply zdk (P:=fun j r=>r=.error (k,e)→j≤k∧k<s.size∧znc (bat s k)=false∧¬ bat s k=35∧zjd s k=.error e)
 ·intro j _ h;cases h
 ·intro j _ _ ih h
  have:=ih h
  exact ⟨by omega,this.2⟩
 ·intro j hj hb ih h
  have:=ih h
  have h2:=zse hj hb
  exact ⟨by omega,this.2⟩
 ·intro j e' hj hb hr ht h
  cases h
  exact ⟨Nat.le_refl _,hj,hb,hr,ht⟩
 ·intro j t hj hb hr ht ih h
  have:=ih (zrl h)
  have h2:=(zYd hj ht).1
  exact ⟨by omega,this.2⟩
end
end Go.Proofs.YtbfgdpcgdmabpaaGreatDoor
