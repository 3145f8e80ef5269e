/- The contracts of the parser's declaration and unit. The contract of read: the tree of a whole text's tokens, or the first fault, which its deferred function recovers. The contract of Size. -/
import Derived.Test.YtbfgdpcgdmabpaaGreatDoorY11
import Derived.Test.YtbfgdpcgdmabpaaGreatDoorY12
import Derived.Recover
import Derived.Test.YtbfgdpcgdmabpaaGreatDoorY04
import Derived.Test.YtbfgdpcgdmabpaaGreatDoorY02
namespace Go.Proofs.YtbfgdpcgdmabpaaGreatDoor
set_option maxRecDepth 100000
set_option maxHeartbeats 1000000
section
open Go.RowKit
theorem zdo {n:Nat} {l:List Tok} (hn:0<n) (h:((hdT l).kind == 0)=true):zRd n l=.ok ([],l):=by
 cases n with
 | zero=>omega
 | succ n=>rw [zRd,h];rfl
theorem zqj {n:Nat} {l:List Tok} (h:((hdT l).kind == 0)=false):zRd (n+1) l=bd (zHd l) fun a l1=>bd (zRd n l1) fun xs l2=>.ok (a :: xs,l2):=by
 rw [zRd,h];rfl
def zut (E:Env) (w:World) (l:List Tok) (d:Nat) (gk:Nat) (wr:World):Prop :=
 ∃ (ks:List T) (lr:List Tok) (m:Nat) (v:Value),Run E w wr lr d∧Blk wr w.heap.size zga 25∧zXc w wr (w.heap.size+1) (T.mk 0 e0 0 0 ks) v ∧
  zRd (l.length+1) l=bd (zRd m lr) (fun xs l'=>.ok (ks++xs,l'))∧lr.length<m∧lr.length≤gk∧ks.length+lr.length≤l.length
theorem zwi {E:Env} {w:World} {l:List Tok} {d:Nat} (h:PSt E w l d) (hd:d=0) :
  Calls Tryz.prog 76 #[.pointer (some ⟨E.pb,0,none⟩)] w (zec zvd E w l d (zHd l)):=by
 have HR0:=zh ((Run.start h).alloc (.cells zga.toArray 25))
 have HB0:=zh (Blk.new w zga 25)
 have HD:=zh hd
 clear hd
 have hlo:=h.plt
 have hlt:=h.tlt
 have hln:=h.len
 clear h
 go_enter Tryz.func76,Tryz.ntmps76
 go_wp2_with fail
 refine (zAb HR0.out.st [bs [116,121,112,101],bs [102,110]] (by decide) (by decide) (by simp) rfl rfl).mono ?_
 intro e w1 hp
 cases hr:zSa [bs [116,121,112,101],bs [102,110]] l with
 | error pc =>
  obtain ⟨p,c⟩:=pc
  obtain ⟨rfl,hk,hcd⟩:=hp.err hr
  have HK:=zh (HR0.out.kp.trans hk)
  have HP:=zh (show zHd l=.error (p,c) by unfold zHd;exact (zNa hr _))
  clear hr hp hk
  go_wp2
  exact ⟨rfl,Run.err HK.out HP.out hcd⟩
 | ok q =>
  obtain ⟨a1,l1⟩:=q
  obtain ⟨v1,rfl,hv,hs,hl,hk⟩:=hp.ok hr
  obtain ⟨rfl,hto⟩:=hv
  have HR1:=zh (HR0.out.call hk hs)
  have hzR1:=HR1.out.size
  have HB1:=zh (HB0.out.kp hk (by omega))
  have hzHB1:=HB1.out.lt
  have HL1:=zh hl
  have H1:=zh hr
  clear hr hp hs hl hk hto
  unfold zJc
  cases ho:isT a1 (bs [116,121,112,101]) with
  | true =>
   have HO:=zh ho
   obtain ⟨ho2,ho3⟩:=zdk ho
   clear ho ho3
   go_wp2_with fail
   refine (zmj (HR1.out.alloc _).st _).mono ?_
   intro e w2 hp
   cases hr:zqc a1.place l1 with
   | error pc =>
    obtain ⟨p,c⟩:=pc
    obtain ⟨rfl,hk,hcd⟩:=hp.err hr
    have HK:=zh ((HR1.out.alloc _).kp.trans hk)
    have HP:=zh (show zHd l=.error (p,c) by unfold zHd;exact ((zHa H1.out _)).trans (((zfb HO.out _ _)).trans (hr)))
    clear hr hp hk
    go_wp2
    exact ⟨rfl,Run.err HK.out HP.out hcd⟩
   | ok q =>
    obtain ⟨a2,l2⟩:=q
    obtain ⟨v2,rfl,hv,hs,hl,hk⟩:=hp.ok hr
    obtain ⟨kv2,rfl,ht⟩:=hv
    have HT2:=zh (ht.weak (HB1.out.alloc _).lt)
    have HR2:=zh ((HR1.out.alloc _).call hk hs)
    have hzR2:=HR2.out.size
    have HB2:=zh ((HB1.out.alloc _).kp hk (by omega))
    have hzHB2:=HB2.out.lt
    have HL2:=zh hl
    have H2:=zh hr
    clear hr hp hs hl hk ht
    unfold zmb
    have HP:=zh (show zHd l=.ok (a2,l2) by unfold zHd;exact ((zHa H1.out _)).trans (((zfb HO.out _ _)).trans (H2.out)))
    go_wp2_with ((with_reducible refine zlb 25 (.tmp 2) ?_);refine zma rfl 25 (.tmp 2) (.tmp 18) rfl w.heap.size (zaa (a2) (kv2)) rfl rfl HB2.out Tryz.zla rfl (zoa _ _ HT2.out.kat.one) ?_)
    exact zab (cs:=zaa (a2) (kv2)) Tryz.results76 rfl HB2.out Tryz.underlying25 rfl Tryz.zla rfl (Run.node HR2.out HT2.out.lo HP.out (by have:=HL1.out;have:=HL2.out;first|omega|(simp only [List.length_tail] at *;omega)))
  | false =>
   have HO:=zh ho
   obtain ⟨ho2,ho3⟩:=zJk ho
   clear ho ho3
   go_wp2_with fail
   refine (zil (HR1.out.alloc _).st HD.out _).mono ?_
   intro e w2 hp
   cases hr:fnP a1.place l1 with
   | error pc =>
    obtain ⟨p,c⟩:=pc
    obtain ⟨rfl,hk,hcd⟩:=hp.err hr
    have HK:=zh ((HR1.out.alloc _).kp.trans hk)
    have HP:=zh (show zHd l=.error (p,c) by unfold zHd;exact ((zHa H1.out _)).trans (((zLa HO.out _ _)).trans (hr)))
    clear hr hp hk
    go_wp2
    exact ⟨rfl,Run.err HK.out HP.out hcd⟩
   | ok q =>
    obtain ⟨a2,l2⟩:=q
    obtain ⟨v2,rfl,hv,hs,hl,hk⟩:=hp.ok hr
    obtain ⟨kv2,rfl,ht⟩:=hv
    have HT2:=zh (ht.weak (HB1.out.alloc _).lt)
    have HR2:=zh ((HR1.out.alloc _).call hk hs)
    have hzR2:=HR2.out.size
    have HB2:=zh ((HB1.out.alloc _).kp hk (by omega))
    have hzHB2:=HB2.out.lt
    have HL2:=zh hl
    have H2:=zh hr
    clear hr hp hs hl hk ht
    unfold zmb
    have HP:=zh (show zHd l=.ok (a2,l2) by unfold zHd;exact ((zHa H1.out _)).trans (((zLa HO.out _ _)).trans (H2.out)))
    go_wp2_with ((with_reducible refine zlb 25 (.tmp 2) ?_);refine zma rfl 25 (.tmp 2) (.tmp 12) rfl w.heap.size (zaa (a2) (kv2)) rfl rfl HB2.out Tryz.zla rfl (zoa _ _ HT2.out.kat.one) ?_)
    exact zab (cs:=zaa (a2) (kv2)) Tryz.results76 rfl HB2.out Tryz.underlying25 rfl Tryz.zla rfl (Run.node HR2.out HT2.out.lo HP.out (by have:=HL1.out;have:=HL2.out;first|omega|(simp only [List.length_tail] at *;omega)))
theorem zTq {E:Env} {w:World} {l:List Tok} {d:Nat} (h:PSt E w l d) (hd:d=0) :
  Calls Tryz.prog 41 #[.pointer (some ⟨E.pb,0,none⟩)] w (zLh zvd E w l d (zgd l)):=by
 have HR0:=zh ((Run.start h).alloc (.cells zga.toArray 25))
 have HB0:=zh (Blk.new w zga 25)
 have HD:=zh hd
 clear hd
 have hle:=h.le
 obtain ⟨i0,z0,I⟩:=Tryz.zrf
 have hlo:=h.plt
 have hlt:=h.tlt
 have hln:=h.len
 clear h
 go_enter Tryz.func41,Tryz.ntmps41
 have HRa:=zh (HR0.out.alloc (.cells (zaa (T.mk 0 e0 0 0 []) (.slice none 0 0)).toArray 25))
 have HBa:=zh (HB0.out.alloc (.cells (zaa (T.mk 0 e0 0 0 []) (.slice none 0 0)).toArray 25))
 have HNa:Hid (zXc w ((w.alloc (.cells zga.toArray 25)).alloc (.cells (zaa (T.mk 0 e0 0 0 []) (.slice none 0 0)).toArray 25)) (w.heap.size+1) (T.mk 0 e0 0 0 []) (.slice none 0 0)):=(by
  have h1:=zXc.new (w:=w) (t:=T.mk 0 e0 0 0 []) (KAt.nil 25 (w.alloc (.cells zga.toArray 25)) (fun b=>w.heap.size<b)) (by simp)
  rw [show (w.alloc (.cells zga.toArray 25)).heap.size=w.heap.size+1 by simp] at h1
  exact h1)
 have HLL:=zh (show l.length≤16385 by omega)
 clear hle
 go_wp2_with fail
 go_loopg [5] l.length (fun gk _ wr=>zut E w l d gk wr)
 case atStart =>
  refine ⟨[],l,l.length+1,_,HRa.out,HBa.out,HNa.out,?_,by omega,Nat.le_refl _,by simp⟩
  cases zRd (l.length+1) l with
  | error e=>rfl
  | ok q=>obtain ⟨x,y⟩:=q;rfl
 case round =>
  obtain ⟨ks,lr,mm,v,hR,hBl,hN,hE,hm,hg,hcnt⟩:=hrel
  have HR:=zh hR
  have HBr:=zh hBl
  have HNr:=zh hN
  have HE:=zh hE
  have HM:=zh hm
  have HG:=zh hg
  have HC:=zh hcnt
  have HP0:=zh hR.st.head.1
  have hzB:=hBl.lt
  have hzN:=hN.lt
  have hzK:ks.length≤16385:=by have:=HLL.out;omega
  clear hR hBl hN hE hm hg hcnt HRa HBa HNa HR0 HB0
  go_wp2_with fail
  refine (zfc HR.out.st).mono ?_
  rintro e w2 ⟨rfl,hb⟩
  have HR2:=zh (HR.out.below hb)
  have hzR2:=HR2.out.size
  have HB2:=zh (HBr.out.kp (Kp.of_below (pb:=E.pb) hb) (by omega))
  have hzHB2:=HB2.out.lt
  have HN2:=zh (HNr.out.kp (Kp.of_below (pb:=E.pb) hb) (by first|omega|(have:=HR0.out.size;simp at *;omega)))
  have hzHN2:=HN2.out.lt
  clear hb
  unfold zJc
  have fl0:=zGc
  have fl1:=zFc
  have fl3:=zIc
  by_cases hkd:(hdT lr).kind=0
  ·
   have HI:=zh (show ((hdT lr).kind == 0)=true by rw [hkd];rfl)
   have hne:(((hdT lr).kind:Int) != 0)=false:=by rw [hkd];rfl
   clear hkd
   have HS:=zh (show zRd (l.length+1) l=.ok (ks,lr) by rw [HE.out,zHa (zdo (by have:=HM.out;omega) HI.out)];simp)
   have HP:=zh (show zgd l=.ok (T.mk 0 e0 0 0 ks,lr) by unfold zgd;exact (zHa HS.out _))
   go_wp2_with (first|((with_reducible refine zCc 25 (.tmp 3) ?_);refine zAa rfl 25 (.tmp 3) rfl (w.heap.size+1) (zaa (T.mk 0 e0 0 0 ks) (v)) rfl HN2.out.blk Tryz.underlying25 rfl Tryz.zla ?_)|((with_reducible refine zlb 25 (.tmp 2) ?_);refine zma rfl 25 (.tmp 2) (.tmp 16) rfl w.heap.size (zaa (T.mk 0 e0 0 0 ks) (v)) rfl rfl HB2.out Tryz.zla rfl (zoa _ _ HN2.out.kids.one) ?_))
   exact zab (cs:=zaa (T.mk 0 e0 0 0 ks) (v)) Tryz.results41 rfl HB2.out Tryz.underlying25 rfl Tryz.zla rfl (Run.zdu HR2.out (TAt.zQd (HN2.out.kids.mono (fun _ hb _=>hb.1))) HP.out (by have:=HC.out;first|omega|(simp only [List.length_tail] at *;omega)))
  ·
   have HI:=zh (show ((hdT lr).kind == 0)=false from beq_eq_false_iff_ne.2 hkd)
   have hne:(((hdT lr).kind:Int) != 0)=true:=by simp;omega
   clear hkd
   obtain ⟨m0,rfl⟩:∃ m0,mm=m0+1:=⟨mm-1,by have:=HM.out;have:=HP0.out;omega⟩
   go_wp2_with fail
   refine AnyE.zod (S:=fun W=>Blk W (w.heap.size+1) (zaa (T.mk 0 e0 0 0 ks) (v)) 25) (by kernel_rfl) (HN2.out.blk.drew) (fun hS=>?_)
   refine AnyE.take (i:=0) (v:=.pointer (some ⟨w.heap.size+1,4,none⟩)) rfl (by kernel_rfl) (by kernel_rfl) (by kernel_rfl) (by kernel_rfl) (fun _ _ _ h=>h) (Or.inl ⟨by rfl,fun W _=>by go_simp⟩) hS ?_
   refine AnyE.take (i:=1) (v:=v) rfl (by kernel_rfl) (by kernel_rfl) (by kernel_rfl) (by kernel_rfl) (fun _ _ _ h=>h) (Or.inl ⟨by rfl,fun W hW=>by have hcx:W.cell? ⟨w.heap.size+1,4,none⟩=some (v):=hW.cell 4;go_simp⟩) hS ?_
   refine AnyE.take (i:=2) (v:=.pointer (some ⟨E.pb,0,none⟩)) rfl (by kernel_rfl) (by kernel_rfl) (by kernel_rfl) (by kernel_rfl) (fun _ _ _ h=>h) (Or.inl ⟨by rfl,fun W _=>by go_simp⟩) hS ?_
   refine AnyE.one (i:=3) (by kernel_rfl) rfl (by rfl) (fun K hK=>?_)
   go_simp
   refine (zwi (HR2.out.drew).st HD.out).mono ?_
   intro e w3 hp
   cases hr:zHd lr with
   | error pc =>
    obtain ⟨p,c⟩:=pc
    obtain ⟨rfl,hk,hcd⟩:=hp.err hr
    have HK:=zh ((HR2.out.drew).kp.trans hk)
    have HP:=zh (show zgd l=.error (p,c) by unfold zgd;exact zNa (HE.out.trans (zNa ((zqj HI.out).trans ((zNa hr _))) _)) _)
    clear hr hp hk
    go_wp2
    exact ⟨rfl,Run.errE HK.out HP.out hcd⟩
   | ok q =>
    obtain ⟨a3,l3⟩:=q
    obtain ⟨v3,rfl,hv,hs,hl,hk⟩:=hp.ok hr
    obtain ⟨kv3,rfl,ht⟩:=hv
    have HT3:=zh (ht.weak (HB2.out.drew).lt)
    have huHN3:=Blk.zgc hk (HN2.out.drew).blk
    have HU3:=zh (ht.mono (S':=fun b=>w.heap.size<b∧(w.heap.size+1)<b) (fun b hb _=>by have:=Blk.zgc hk (HB2.out.drew);omega))
    have HF3:=zh (zXc.fresh hk (HN2.out.drew) ht)
    have HG3:=zh (zXc.zWg hk (HN2.out.drew) ht)
    have HR3:=zh ((HR2.out.drew).call hk hs)
    have hzR3:=HR3.out.size
    have HB3:=zh ((HB2.out.drew).kp hk (by omega))
    have hzHB3:=HB3.out.lt
    have HN3:=zh ((HN2.out.drew).kp hk (by first|omega|(have:=HR0.out.size;simp at *;omega)))
    have hzHN3:=HN3.out.lt
    have HL3:=zh hl
    have H3:=zh hr
    clear hr hp hs hl hk ht
    unfold zmb
    refine hK.out _ _ (fun _=>HN3.out.blk) ?_
    clear hK K
    refine AnyE.one (i:=4) (by kernel_rfl) rfl (by rfl) (fun K hK=>?_)
    go_simp
    refine hK.out _ _ (fun _=>(HN3.out.alloc _).blk) ?_
    clear hK K
    refine AnyE.one (i:=5) (by kernel_rfl) rfl (by rfl) (fun K hK=>?_)
    refine zEb (.tmp 10) (.tmp 13) rfl I (ts:=[a3]) rfl (HN3.out.alloc _).kids (us:=[kv3]) (zjd.single (HF3.out.alloc _)) ⟨by simp;omega,by simp;omega⟩ rfl rfl (by simp) (zjf w3 _ a3 kv3) (by show ks.length+_≤_;simp;omega) ?_
    intro v3x w3x hKx hgx _
    obtain ⟨sa3x,sn3x,sc3x,rfl⟩:=hKx.slice
    obtain ⟨h1,h2,h3,hcx,hfx,h6⟩:=zNb (HR3.out.alloc _) (HB3.out.alloc _) (HN3.out.alloc _) hKx hgx
    have HR3x:=zh h1
    have HB3x:=zh h2
    have HN3x:=zh h3
    have HC3x:=zh h6
    clear h1 h2 h3 h6 hKx hgx
    refine hK.out _ _ (fun _=>HC3x.out) ?_
    clear hK K
    refine AnyE.one (i:=6) (by kernel_rfl) rfl (by rfl) (fun K hK=>?_)
    go_simp
    refine hK.out _ _ (fun _=>HC3x.out) ?_
    clear hK K
    refine AnyE.one (i:=7) (by kernel_rfl) rfl (by rfl) (fun K hK=>?_)
    go_simp
    refine hK.out _ _ (fun h=>absurd rfl h) ?_
    clear hK K
    refine AnyE.done (by kernel_rfl) ?_ _
    clear hcx hfx
    generalize w3x.setCell ⟨w.heap.size+1,4,none⟩ (.slice sa3x sn3x sc3x)=w3y at HR3x HB3x HN3x ⊢
    have hzHB3y:=HB3x.out.lt
    have hzHN3y:=HN3x.out.lt
    go_wp2
    go_roundg (gk-1)
    case measure=>have:=HG.out;have:=HP0.out;omega
    case rel =>
     have h1:=HL3.out
     have h2:=HM.out
     have h4:=HG.out
     have h5:=HC.out
     have h6:=HP0.out
     refine ⟨ks++[a3],l3,m0,_,HR3x.out,HB3x.out,HN3x.out,?_,by omega,by omega,by simp;omega⟩
     rw [HE.out,zqj HI.out,zao,zHa H3.out,zao]
     congr 1
     funext xs l'
     simp [bd]
end
section
open Go.RowKit
theorem Tryz.zhf:(Tryz.prog.info? 64).map (·.size)=some 2:=by kernel_rfl
theorem zMk (v:Value) (w:World):(Instr.typeAssert (.iface 64 v) 20 64 true).run Tryz.prog w=.ok (.tuple #[v,.bool true]) w:=by
 simp [Instr.typeAssert,run_underlying Tryz.underlying64]
theorem catch_panicking (fb:Nat) (p:Nat) (c:Int) (w:World) (hb:Blk w fb [.int .i64 0,.int .i64 0] 64) :
  CallsD Tryz.prog 40 #[.pointer (some ⟨fb,0,none⟩)] (.panicking [{ v:=zBg p c,recovered:=false }]) w fun e u' w' =>
   e=.returned (.tuple #[])∧u'=.panicking [{ v:=zBg p c,recovered:=true }]∧Blk w' fb [.int .i64 p,.int .i64 c] 64∧w.grownBy w' (some fb):=by
 have HB:=zh hb
 have hlt:=hb.lt
 have hta:=zMk
 clear hb
 refine callsD_of_wpS Tryz.func40 rfl fun c₀ cs hu=>?_
 simp only [Tryz.ntmps40,List.size_toArray,List.length_cons,List.length_nil,Nat.reduceAdd,Nat.reduceSub,Array.replicate_succ,Array.replicate_zero,List.push_toArray,List.append_toArray,List.nil_append,List.cons_append]
 apply wpS_seq
 apply wpS_region
 unfold zBg at hu ⊢
 simp [wpOpsS,go_sem,recoverD,hu,Exit.thenS]
 refine wpS_of_wp ?_
 clear hu
 go_wp2_with ((with_reducible refine zlb 64 (.tmp 0) ?_);refine zma rfl 64 (.tmp 0) (.tmp 15) rfl fb [.int .i64 p,.int .i64 c] rfl rfl (HB.out.alloc _) Tryz.zhf rfl (by simp [Value.oneCell']) ?_)
 refine ⟨rfl,_,rfl,.tuple #[],by simp [results,Tryz.results40],rfl,rfl,(HB.out.alloc _).zZc [.int .i64 p,.int .i64 c],?_⟩
 exact ⟨rfl,rfl,rfl,by simp,fun k hk hn=>(setRow_other _ fb k _ (fun e=>hn (by rw [e]))).trans (Below.heap_alloc w _ k hk)⟩
theorem catch_idle (fb:Nat) (w:World) :
  CallsD Tryz.prog 40 #[.pointer (some ⟨fb,0,none⟩)] .returning w fun e u' w'=>e=.returned (.tuple #[])∧u'=.returning∧w'=w:=by
 refine callsD_of_wpS Tryz.func40 rfl fun c₀ cs hu=>?_
 simp only [Tryz.ntmps40,List.size_toArray,List.length_cons,List.length_nil,Nat.reduceAdd,Nat.reduceSub,Array.replicate_succ,Array.replicate_zero,List.push_toArray,List.append_toArray,List.nil_append,List.cons_append]
 apply wpS_seq
 apply wpS_region
 simp [wpOpsS,go_sem,recoverD,hu,Exit.thenS]
 refine wpS_of_wp ?_
 go_wp2_with fail
 refine ⟨rfl,.returning,?_,.tuple #[],by simp [results,Tryz.results40],rfl,rfl,rfl⟩
 cases c₀
 simp_all
def zZg (r:R T) (w:World) (e:Ending) (w':World):Prop :=
 match r with
 | .ok (t,_)=>∃ kv,e=.returned (.tuple #[zmb t kv,.agg #[.int .i64 0,.int .i64 0]])∧TAt 25 w' t (fun b=>w.heap.size≤b) kv∧Below w.heap.size w w'
 | .error (p,c)=>e=.returned (.tuple #[zmb zNc (.slice none 0 0),.agg #[.int .i64 p,.int .i64 c]])∧Below w.heap.size w w'∧(c=20∨c=21)
theorem zZg.zli {r:R T} {w w':World} {e:Ending} {t:T} {l:List Tok} {kv:Value} (hr:r=.ok (t,l)) (he:e=.returned (.tuple #[zmb t kv,.agg #[.int .i64 0,.int .i64 0]])) (ht:TAt 25 w' t (fun b=>w.heap.size≤b) kv) (hb:Below w.heap.size w w'):zZg r w e w':=by
 rw [hr];exact ⟨kv,he,ht,hb⟩
theorem zZg.zBo {r:R T} {w w':World} {e:Ending} {p:Nat} {c:Int} (hr:r=.error (p,c)) (he:e=.returned (.tuple #[zmb zNc (.slice none 0 0),.agg #[.int .i64 p,.int .i64 c]])) (hb:Below w.heap.size w w') (hc:c=20∨c=21):zZg r w e w':=by
 rw [hr];exact ⟨he,hb,hc⟩
theorem zBh {P:Program} {fn:Func} {s u:Tmp} {ty tz t t':TypeId} (h:fn.results=#[.cell s ty,.cell u tz]) {tmps:Array Value} {W:World} {g g':Nat} {cs cs':List Value} {d d':TypeDesc}
  (hs:tmps.getD s undef=.pointer (some ⟨g,0,none⟩)) (hu':tmps.getD u undef=.pointer (some ⟨g',0,none⟩)) (hb:Blk W g cs t) (hb':Blk W g' cs' t') (hu:P.underlying ty=some d) (hd:d.isRow=true) (hi:(P.info? ty).map (·.size)=some cs.length)
  (hz:P.underlying tz=some d') (hd':d'.isRow=true) (hi':(P.info? tz).map (·.size)=some cs'.length):(results fn tmps).run P W=.ok (.tuple #[.agg cs.toArray,.agg cs'.toArray]) W:=by
 have hl:=run_loadVar_mid (P:=P) W g 0 ty cs d (fun j v hj=>by rw [Nat.zero_add,hb.cell j];exact hj) hu hd hi
 have hl':=run_loadVar_mid (P:=P) W g' 0 tz cs' d' (fun j v hj=>by rw [Nat.zero_add,hb'.cell j];exact hj) hz hd' hi'
 have h1:tmps[s]?.getD undef=.pointer (some ⟨g,0,none⟩):=by rw [← hs];simp
 have h2:tmps[u]?.getD undef=.pointer (some ⟨g',0,none⟩):=by rw [← hu'];simp
 simp [results,h,h1,h2,asAddr,hl,hl']
structure Toks (w:World) (tb cap:Nat) (ts:List Tok):Prop where
 row:zak w tb ts
 lt:tb<w.heap.size
 ends:Ends ts
 ok:∀ t∈ts,ztl t
 len:ts.length≤16385
 capb:ts.length≤cap
theorem zvm {w:World} {tb cap:Nat} {ts:List Tok} (h:Toks w tb cap ts) :
  Calls Tryz.prog 19 #[.slice (some ⟨tb,0,none⟩) ts.length cap] w (zZg (zgd ts) w):=by
 have hmf:=zke
 have HB0:=zh (((Blk.new w zga 25).alloc (.cells #[.int .i64 0,.int .i64 0] 64)).alloc (.cells #[.slice (some ⟨tb,0,none⟩) ts.length cap,.int .i64 0,.int .i64 0] 125))
 have HF0:=zh ((Blk.zCe w (.cells zga.toArray 25) [.int .i64 0,.int .i64 0] 64).alloc (.cells #[.slice (some ⟨tb,0,none⟩) ts.length cap,.int .i64 0,.int .i64 0] 125))
 have HST:Hid (PSt ⟨w.heap.size+2,tb,cap,ts⟩ (((w.alloc (.cells zga.toArray 25)).alloc (.cells #[.int .i64 0,.int .i64 0] 64)).alloc (.cells #[.slice (some ⟨tb,0,none⟩) ts.length cap,.int .i64 0,.int .i64 0] 125)) ts 0):=(by
  have hlt:=h.lt
  refine ⟨Nat.le_refl _,by simp,?_,?_,by show tb≠w.heap.size+2;omega,by simp;omega,h.ends,h.ok,h.len,h.capb,by omega⟩
  ·have h1:=heap_alloc_new ((w.alloc (.cells zga.toArray 25)).alloc (.cells #[.int .i64 0,.int .i64 0] 64)) (.cells #[.slice (some ⟨tb,0,none⟩) ts.length cap,.int .i64 0,.int .i64 0] 125)
   rw [show ((w.alloc (.cells zga.toArray 25)).alloc (.cells #[.int .i64 0,.int .i64 0] 64)).heap.size=w.heap.size+2 by simp] at h1
   simpa using h1
  ·exact h.row.same ((Below.heap_alloc _ _ _ (by simp;omega)).trans ((Below.heap_alloc _ _ _ (by simp;omega)).trans (Below.heap_alloc _ _ _ hlt))))
 have HW:=zh ((((Below.refl w.heap.size w).alloc (Nat.le_refl _) (.cells zga.toArray 25)).alloc (by simp) (.cells #[.int .i64 0,.int .i64 0] 64)).alloc (by simp;omega) (.cells #[.slice (some ⟨tb,0,none⟩) ts.length cap,.int .i64 0,.int .i64 0] 125))
 clear h
 go_enter_defers Tryz.func19,Tryz.ntmps19
 go_wp2_with fail
 refine (zTq HST.out rfl).mono ?_
 intro e w1 hp
 cases hr:zgd ts with
 | error pc =>
  obtain ⟨p,c⟩:=pc
  rw [hr] at hp
  obtain ⟨rfl,hk,hcd⟩:=hp
  have HB1:=zh (HB0.out.kp hk (by show _≠w.heap.size+2;omega))
  have HF1:=zh (HF0.out.kp hk (by show _≠w.heap.size+2;omega))
  have HW1:=zh (HW.out.grown hk (by simp;omega) (fun k hk=>by cases hk;show _≤w.heap.size+2;omega))
  clear hk hr
  go_wp2_with fail
  refine leaves_cons (f:=40) (args:=#[.pointer (some ⟨w.heap.size+1,0,none⟩)]) (by simp) (by simp [go_sem]) ?_
  refine (catch_panicking (w.heap.size+1) p c _ HF1.out).mono ?_
  rintro e u' w2 ⟨rfl,rfl,hb2,hg2⟩
  have hb1:=HB1.out.grown hg2 (by simp)
  exact ⟨_,zBh Tryz.results19 rfl rfl hb1 hb2 Tryz.underlying25 rfl Tryz.zla Tryz.underlying64 rfl Tryz.zhf,.zBo rfl rfl (HW1.out.grown hg2 HW1.out.size (fun k hk=>by cases hk;omega)) hcd⟩
 | ok q =>
  obtain ⟨t,l'⟩:=q
  rw [hr] at hp
  obtain ⟨v,rfl,⟨kv,rfl,ht⟩,hs,hl,hk⟩:=hp
  have HB1:=zh (HB0.out.kp hk (by show _≠w.heap.size+2;omega))
  have HF1:=zh (HF0.out.kp hk (by show _≠w.heap.size+2;omega))
  have HW1:=zh (HW.out.grown hk (by simp;omega) (fun k hk=>by cases hk;show _≤w.heap.size+2;omega))
  have HT:=zh (ht.mono (S':=fun b=>w.heap.size+1<b) (fun b hb _=>by simp at hb;omega))
  have HRR:=zh hr
  clear hk hr hs hl ht
  unfold zmb
  go_wp2_with (first|((with_reducible refine zlb 25 (.tmp 2) ?_);refine zma rfl 25 (.tmp 2) (.tmp 10) rfl w.heap.size (zaa t kv) rfl rfl HB1.out Tryz.zla rfl (zoa _ _ HT.out.kat.one) ?_)|((with_reducible refine zlb 64 (.tmp 3) ?_);refine zma rfl 64 (.tmp 3) (.tmp 11) rfl (w.heap.size+1) [.int .i64 0,.int .i64 0] rfl rfl (HF1.out.zRb w.heap.size _ (by omega)) Tryz.zhf rfl (by simp [Value.oneCell']) ?_))
  refine leaves_cons (f:=40) (args:=#[.pointer (some ⟨w.heap.size+1,0,none⟩)]) (by simp) (by simp [go_sem]) ?_
  refine (catch_idle (w.heap.size+1) _).mono ?_
  rintro e u' w2 ⟨rfl,rfl,rfl⟩
  have hb1:=(HB1.out.zZc (zaa t kv)).zRb (w.heap.size+1) [.int .i64 0,.int .i64 0].toArray (by omega)
  have hb2:=(HF1.out.zRb w.heap.size (zaa t kv).toArray (by omega)).zZc [.int .i64 0,.int .i64 0]
  have hg:∀ (W:World) (g:Nat) (cs:Array Value),w.heap.size≤g→Below w.heap.size w W→Below w.heap.size w (W.setRow g cs):=fun W g cs hg hb =>
   ⟨hb.os,hb.tape,hb.output,by simpa using hb.size,fun k hk=>(setRow_other W g k cs (by omega)).trans (hb.block k hk)⟩
  exact ⟨_,zBh Tryz.results19 rfl rfl hb1 hb2 Tryz.underlying25 rfl Tryz.zla Tryz.underlying64 rfl Tryz.zhf,.zli HRR.out rfl
   (((HT.out.setRow w.heap.size _ (fun b hb=>by omega)).setRow (w.heap.size+1) _ (fun b hb=>by omega)).mono (fun b hb _=>by omega)) (hg _ _ _ (by omega) (hg _ _ _ (Nat.le_refl _) HW1.out))⟩
end
section
open Go.RowKit
def zBt (w:World) (ks:List T) (g:Nat) (s i:Value) (wr:World):Prop :=
 ∃ k:Nat,k≤ks.length∧ks.length≤k+g∧i=.int .i64 k∧s=.int .i64 ((1+sizes (ks.take k):Nat):Int)∧Below w.heap.size w wr
theorem size_any:∀ (n:Nat) (t:T),t.size≤n→∀ {w:World} {S:Nat→Prop} {kv:Value},KAt 25 w t.kids S kv→t.size≤1000000 →
  Calls Tryz.prog 20 #[zmb t kv] w fun e w'=>e=.returned (.int .i64 t.size)∧Below w.heap.size w w':=by
 intro n
 induction n with
 | zero=>intro t ht;cases t;rw [size_mk] at ht;omega
 | succ n ih =>
  intro t ht w S kv hk hbig
  have hts:t.size=1+sizes t.kids:=by cases t;rw [size_mk];rfl
  have HTS:=zh hts
  have HT:=zh ht
  have HBIG:=zh hbig
  have HIH:=zh (@ih)
  have hkl:t.kids.length≤sizes t.kids:=by
   have:∀ ks:List T,ks.length≤sizes ks:=fun ks=>by
    induction ks with
    | nil=>simp
    | cons a ks h=>rw [zTa];cases a;rw [size_mk];simp;omega
   exact this _
  have hkl2:t.kids.length≤1000000:=by omega
  rcases hk.form with ⟨rfl,hnil⟩|⟨g,cap,rfl,hg,hcap,hcm,hget⟩
  ·have HN:=zh hnil
   clear hk ih ht hbig hts hnil hkl hkl2
   unfold zmb
   go_enter Tryz.func20,Tryz.ntmps20
   go_wp2_with fail
   refine wp_loop_rounds 1 ?_
   rw [rounds_succ]
   go_wp2_with fail
   go_ret
   refine ⟨?_,(Below.refl _ _).alloc (Nat.le_refl _) _⟩
   rw [HTS.out,HN.out,zVa]
   rfl
  ·have HG:=zh hget
   have HCAP:=zh hcap
   clear hk ih ht hbig hts hget hkl hcap
   unfold maxLen at hcm
   unfold zmb
   go_enter Tryz.func20,Tryz.ntmps20
   go_wp2_with fail
   go_loopg [3,9] t.kids.length (fun gk s i wr=>zBt w t.kids gk s i wr)
   case atStart=>exact ⟨0,by omega,by omega,rfl,by rw [List.take_zero,zVa];rfl,(Below.refl _ _).alloc (Nat.le_refl _) _⟩
   case round =>
    obtain ⟨k,hk,hgk,rfl,rfl,hbel⟩:=hrel
    have HB:=zh hbel
    have hzw:=hbel.size
    have hsl:sizes (t.kids.take k)≤1000000:=by have h1:=zNj t.kids k;have h2:=HTS.out;have h3:=HBIG.out;omega
    clear hbel
    by_cases hlt:k<t.kids.length
    ·obtain ⟨u,hr,hT⟩:=HG.out k t.kids[k] (List.getElem?_eq_getElem hlt)
     have hne:=List.getElem?_eq_getElem hlt
     generalize t.kids[k]=tk at hr hT hne
     have HR:=zh (zyb hr ((HB.out.mono (Nat.le_refl _))) hg)
     have HTK:=zh (hT.below (HB.out))
     have HNE:=zh hne
     have hcap:=HCAP.out
     have hks:=zle hne
     clear hr hT hne
     go_wp2_with (first
      | ((with_reducible refine zCc 25 (.tmp 11) ?_);refine wpList_load_mid rfl 25 (.tmp 11) rfl g (k * 5) rfl (zaa tk u) _ HR.out Tryz.underlying25 rfl Tryz.zla ?_)
      | ((with_reducible refine zlb 25 (.tmp 5) ?_);refine zcb rfl 25 (.tmp 5) (.tmp 12) rfl (zaa tk u) (old:=zga) rfl rfl Tryz.zla rfl (zoa _ _ HTK.out.kat.one) ?_)
      | ((with_reducible refine zCc 25 (.tmp 5) ?_);refine zAa rfl 25 (.tmp 5) rfl wr.heap.size (zaa tk u) rfl (Blk.new wr _ _) Tryz.underlying25 rfl Tryz.zla ?_))
     refine (HIH.out tk (by have h2:=HTS.out;have h3:=HT.out;omega) (HTK.out.alloc _).kat (by have h2:=HTS.out;have h3:=HBIG.out;omega)).mono ?_
     rintro e w2 ⟨rfl,hb2⟩
     have HB2:=zh ((HB.out.alloc hzw _).trans (hb2.mono (by simp;omega)))
     have hks2:tk.size≤1000000:=by have h2:=HTS.out;have h3:=HBIG.out;omega
     clear hb2
     go_wp2
     go_roundg (gk-1)
     case measure=>omega
     case rel =>
      refine ⟨k+1,by omega,by omega,by go_num,?_,HB2.out⟩
      rw [zPn _ _ _ HNE.out]
      go_num
    ·have HE:=zh (show t.kids.take k=t.kids from List.take_of_length_le (by omega))
     go_wp2
     go_ret
     exact ⟨by rw [HTS.out,HE.out];rfl,HB.out⟩
end
end Go.Proofs.YtbfgdpcgdmabpaaGreatDoor
namespace Go.Proofs.YtbfgdpcgdmabpaaGreatDoor
section
open Go.RowKit
abbrev Tri:=Except Int (Nat × Nat × Nat)
def zRl (l:List UInt8):Tri :=
 if 16<zqb zLd l then .error 13 else if zKd.contains (l.take (zqb zLd l))=true then .ok (2,zqb zLd l,0) else .ok (1,zqb zLd l,0)
def zTn (l:List UInt8):Nat→Nat
 | 0=>0
 | n+1=>zTn l n * 10+((l.getD n 0).toNat-48)
def zHu:Option UInt8→Bool
 | some b=>zQg (b.toNat:Int)
 | none=>false
def badL (l:List UInt8):Bool:=(l.getD 0 0 == 48 && decide (1<zqb zTd l)) || zHu (l[zqb zTd l]?)
def zDu (l:List UInt8):Tri :=
 if badL l=true∨1099511627776<zTn l (zqb zTd l) then .error 12 else .ok (3,zqb zTd l,zTn l (zqb zTd l))
def zmg (l:List UInt8):Bool:=l == [45,62] || l == [60,61] || l == [61,61]
def zul (l:List UInt8):Tri :=
 if zmg (l.take 2)=true then .ok (4,2,0) else if zqf (l.getD 0 0)=true then .ok (4,1,0) else .error 11
def zYk (l:List UInt8):Tri :=
 if zQg ((l.getD 0 0).toNat:Int)=true then zRl l else if zTd ((l.getD 0 0).toNat:Int)=true then zDu l else zul l
def zOj (s:ByteArray) (k:Nat):Tri→Except Int Tok
 | .error e=>.error e
 | .ok (kd,n,v)=>.ok ⟨kd,s.extract k (k+n),v,k⟩
theorem zJm (s:ByteArray) (k i:Nat):bat s (k+i)=(s.data.toList.drop k).getD i 0:=by
 unfold bat
 simp [List.getD_eq_getElem?_getD,List.getElem?_drop]
theorem zPg (s:ByteArray) (k:Nat):bat s k=(s.data.toList.drop k).getD 0 0:=zJm s k 0
theorem zme (s:ByteArray) (a n:Nat):(s.extract a (a+n)).data.toList=(s.data.toList.drop a).take n:=by
 rw [ByteArray.data_extract,Array.toList_extract]
 simp [List.extract_eq_take_drop]
theorem zxr (s:ByteArray) (k:Nat):zWc s k=zOj s k (zRl (s.data.toList.drop k)):=by
 have e:endOf zLd s k=k+zqb zLd (s.data.toList.drop k):=rfl
 have e2:endOf zLd s k-k=zqb zLd (s.data.toList.drop k):=by rw [e];omega
 unfold zWc zRl
 rw [e2,e]
 have hk:zYg (s.extract k (k+zqb zLd (s.data.toList.drop k)))=zKd.contains ((s.data.toList.drop k).take (zqb zLd (s.data.toList.drop k))):=by
  unfold zYg zVe
  rw [zme,List.drop_zero]
 rw [hk]
 split
 ·rfl
 ·split<;>rfl
theorem zNo (s:ByteArray) (k:Nat):∀ n,zpe s k n=zTn (s.data.toList.drop k) n
 | 0=>rfl
 | n+1=>by rw [zpe,zTn,zNo s k n,zJm]
theorem zlu (s:ByteArray) (j:Nat):zHu (s.data.toList[j]?)=(decide (j<s.size) && zQg ((bat s j).toNat:Int)):=by
 by_cases h:j<s.size
 ·have hl:j<s.data.toList.length:=by simpa using h
  have hb:bat s j=s.data.toList[j]:=by unfold bat;rw [List.getD_eq_getElem?_getD,List.getElem?_eq_getElem hl];rfl
  rw [List.getElem?_eq_getElem hl,hb]
  simp [zHu,h]
 ·rw [List.getElem?_eq_none (by simp;omega)]
  simp [zHu,h]
theorem zkt (s:ByteArray) (k:Nat):zUd s k=zOj s k (zDu (s.data.toList.drop k)):=by
 have e:endOf zTd s k=k+zqb zTd (s.data.toList.drop k):=rfl
 have e2:endOf zTd s k-k=zqb zTd (s.data.toList.drop k):=by rw [e];omega
 have hb:zvf s k=badL (s.data.toList.drop k):=by
  unfold zvf badL
  rw [List.getElem?_drop,← e,zlu,← zPg]
  congr 2
  rw [e,Bool.eq_iff_iff]
  simp
 unfold zUd zDu
 rw [e2,zNo,hb,e]
 split<;>rfl
theorem zgk (s:ByteArray) (k i:Nat) (hi:i<3):zNe (s.extract k s.size) (zcd i)=((s.data.toList.drop k).take 2 == (zcd i).data.toList):=by
 have hx:(s.extract k s.size).data.toList=s.data.toList.drop k:=by
  rcases Nat.le_total k s.size with h|h
  ·have:=zme s k (s.size-k)
   rw [show k+(s.size-k)=s.size by omega] at this
   rw [this,List.take_of_length_le (by simp)]
  ·rw [List.drop_of_length_le (by simpa using h)]
   apply List.eq_nil_of_length_eq_zero
   have:(s.extract k s.size).data.toList.length=(s.extract k s.size).size:=Array.length_toList
   rw [this,ByteArray.size_extract]
   omega
 have hsz:(s.extract k s.size).size=(s.data.toList.drop k).length:=by rw [← hx];exact Array.length_toList.symm
 have h2:=zuf i hi
 have hp2:(zcd i).data.toList.length=2:=by rw [Array.length_toList];exact h2
 unfold zNe
 rw [ByteArray.toList_eq,ByteArray.toList_eq,h2]
 have h0:=zme (s.extract k s.size) 0 2
 rw [Nat.zero_add] at h0
 rw [h0,List.drop_zero,hx,hsz,Bool.eq_iff_iff]
 simp only [Bool.and_eq_true,decide_eq_true_eq,beq_iff_eq]
 constructor
 ·exact fun h=>h.2
 ·intro h
  refine ⟨?_,h⟩
  have:=congrArg List.length h
  rw [hp2,List.length_take] at this
  omega
theorem zMg {a b:ByteArray} (h:a.data.toList=b.data.toList):a=b:=by
 obtain ⟨⟨x⟩⟩:=a
 obtain ⟨⟨y⟩⟩:=b
 simp at h
 rw [h]
theorem zFf (s:ByteArray) (k i:Nat) (h:((s.data.toList.drop k).take 2 == (zcd i).data.toList)=true):zcd i=s.extract k (k+2):=by
 apply zMg
 rw [zme]
 exact (beq_iff_eq.1 h).symm
theorem zMr (s:ByteArray) (k:Nat):zWe s k=zOj s k (zul (s.data.toList.drop k)):=by
 have p0:=zgk s k 0 (by omega)
 have p1:=zgk s k 1 (by omega)
 have p2:=zgk s k 2 (by omega)
 have d0:(zcd 0).data.toList=[45,62]:=rfl
 have d1:(zcd 1).data.toList=[60,61]:=rfl
 have d2:(zcd 2).data.toList=[61,61]:=rfl
 unfold zWe zGb zGb zGb zGb zpf zul zmg
 simp only [show 2-2=0 by rfl,show 2-1=1 by rfl,show 2-0=2 by rfl]
 rw [p0,p1,p2,← zPg,d0,d1,d2]
 cases h0:((s.data.toList.drop k).take 2 == [45,62])
 ·cases h1:((s.data.toList.drop k).take 2 == [60,61])
  ·cases h2:((s.data.toList.drop k).take 2 == [61,61])
   ·simp only [Bool.false_eq_true,if_false,Bool.or_false]
    split<;>rfl
   ·simp only [Bool.false_eq_true,if_false,Bool.false_or,if_true]
    rw [zFf s k 2 (by rw [d2];exact h2)]
    rfl
  ·simp only [Bool.false_eq_true,if_false,Bool.false_or,Bool.true_or,if_true]
   rw [zFf s k 1 (by rw [d1];exact h1)]
   rfl
 ·simp only [Bool.true_or,if_true]
  rw [zFf s k 0 (by rw [d0];exact h0)]
  rfl
theorem zku (s:ByteArray) (k:Nat):zae s k=zOj s k (zYk (s.data.toList.drop k)):=by
 unfold zae zYk
 rw [← zPg,zxr,zkt,zMr]
 split
 ·rfl
 ·split<;>rfl
theorem zOf {p:Int→Bool}:∀ (n:Nat) {l l':List UInt8},zqb p l=n→l'.take n=l.take n→n≤l'.length→(∀ b,l'[n]?=some b→p (b.toNat:Int)=false)→zqb p l'=n
 | 0,_,l',_,_,_,hx=>by
  cases l' with
  | nil=>rfl
  | cons b r=>rw [zqb,hx b rfl];rfl
 | n+1,l,l',h,ht,hn,hx=>by
  cases l' with
  | nil=>simp at hn
  | cons b' r' =>
   cases l with
   | nil=>simp at ht
   | cons b r =>
    simp only [List.take_succ_cons,List.cons.injEq] at ht
    obtain ⟨rfl,ht⟩:=ht
    rw [zqb] at h
    cases hp:p (b'.toNat:Int)
    ·rw [hp] at h;simp at h
    ·rw [hp] at h
     simp only [if_true,Nat.add_right_cancel_iff] at h
     rw [zqb,hp,if_pos rfl,zOf n h ht (by simpa using hn) (fun b hb=>hx b (by simpa using hb))]
theorem zmi {p:Int→Bool}:∀ {l:List UInt8} {b:UInt8},l[zqb p l]?=some b→p (b.toNat:Int)=false
 | [],b,h=>by simp at h
 | c :: r,b,h=>by
  cases hp:p (c.toNat:Int)
  ·rw [zqb,hp] at h
   simp at h
   rw [← h,hp]
  ·rw [zqb,hp,if_pos rfl] at h
   exact zmi (l:=r) (by simpa using h)
theorem zvh {l l':List UInt8}:∀ n,l'.take n=l.take n→zTn l' n=zTn l n
 | 0,_=>rfl
 | n+1,h=>by
  have h1:l'.take n=l.take n:=by
   have:=congrArg (List.take n) h
   simpa [List.take_take] using this
  have h2:l'.getD n 0=l.getD n 0:=by
   have:=congrArg (fun x=>x.getD n 0) h
   simpa [List.getD_eq_getElem?_getD,List.getElem?_take] using this
  rw [zTn,zTn,zvh n h1,h2]
def Behind (l l':List UInt8) (n:Nat):Prop:=l'[n]?=none∨l'[n]?=l[n]?∨l'[n]?=some 32∨l'[n]?=some 10
theorem zXn {l l':List UInt8} {n:Nat} (hn:1≤n) (h:l'.take n=l.take n):l'.getD 0 0=l.getD 0 0:=by
 have:=congrArg (fun x=>x.getD 0 0) h
 simpa [List.getD_eq_getElem?_getD,List.getElem?_take,show 0<n by omega] using this
theorem zvj {p:Int→Bool} {l:List UInt8} (hl:l≠[]) (h:p ((l.getD 0 0).toNat:Int)=true):1≤zqb p l:=by
 cases l with
 | nil=>exact absurd rfl hl
 | cons b r =>
  have h':p (b.toNat:Int)=true:=h
  rw [zqb,h',if_pos rfl]
  omega
theorem zJq {l:List UInt8} {kd n v:Nat} (hl:l≠[]) (h:zYk l=.ok (kd,n,v)):1≤n:=by
 unfold zYk at h
 split at h
 ·rename_i hh
  have:=zvj (p:=zLd) hl (by unfold zLd;rw [hh];rfl)
  unfold zRl at h
  split at h
  ·cases h
  ·split at h<;>(cases h;exact this)
 ·split at h
  ·rename_i hh
   have:=zvj (p:=zTd) hl hh
   unfold zDu at h
   split at h
   ·cases h
   ·cases h;exact this
  ·unfold zul at h
   split at h
   ·cases h;omega
   ·split at h<;>cases h
    omega
theorem zsm (l:List UInt8):l.take 2=(match l[0]?,l[1]? with|some a,some b=>[a,b]|some a,none=>[a]|_,_=>[]):=by
 match l with
 | []=>rfl
 | [a]=>rfl
 | a :: b :: r=>rfl
theorem zsr {l l':List UInt8} (h:l'.take 1=l.take 1):l'[0]?=l[0]?:=by
 have:=congrArg (fun x=>x[0]?) h
 simpa [List.getElem?_take] using this
end
section
open Go.RowKit
theorem znm {s:ByteArray} {P:Nat→zch→Prop}
  (hend:∀ k,s.size≤k→P k (.ok [zkg s]))
  (hblank:∀ k,k<s.size→zSb (bat s k)=true→P (k+1) (lexFrom s (k+1))→P k (lexFrom s (k+1)))
  (hrem:∀ k,k<s.size→bat s k=35→P (endOf ztn s k) (lexFrom s (endOf ztn s k))→P k (lexFrom s (endOf ztn s k)))
  (herr:∀ k e,k<s.size→zSb (bat s k)=false→¬ bat s k=35→zae s k=.error e→P k (.error (k,e)))
  (htok:∀ k t,k<s.size→zSb (bat s k)=false→¬ bat s k=35→zae s k=.ok t→P (k+t.text.size) (lexFrom s (k+t.text.size))→P k (more [t] (lexFrom s (k+t.text.size)))) :
  ∀ k,P k (lexFrom s k):=by
 intro k
 generalize hm:s.size-k=m
 induction m using Nat.strongRecOn generalizing k with
 | ind m ih =>
  rcases Nat.lt_or_ge k s.size with hk|hk
  ·cases hb:zSb (bat s k)
   ·by_cases hr:bat s k=35
    ·rw [zAj hk hr]
     have:=zPf hk hr
     exact hrem k hk hr (ih _ (by omega) _ rfl)
    ·cases ht:zae s k with
     | error e=>rw [zrp hk hb hr ht];exact herr k e hk hb hr ht
     | ok t =>
      rw [zlm hk hb hr ht]
      have:=(zgf hk ht).1
      exact htok k t hk hb hr ht (ih _ (by omega) _ rfl)
   ·rw [zHg hk hb]
    exact hblank k hk hb (ih _ (by omega) _ rfl)
  ·rw [zWl hk]
   exact hend k hk
theorem zjn {ts:List Tok} {r:zch} {x:Nat × Int} (h:more ts r=.error x):r=.error x:=by
 cases r with
 | error e=>exact h
 | ok t=>cases h
theorem zgp {s:ByteArray} {k:Nat} {e:Int}:∀ j,lexFrom s j=.error (k,e)→j≤k∧k<s.size∧zSb (bat s k)=false∧¬ bat s k=35∧zae s k=.error e:=by
 apply znm (P:=fun j r=>r=.error (k,e)→j≤k∧k<s.size∧zSb (bat s k)=false∧¬ bat s k=35∧zae s k=.error e)
 ·intro j _ h;cases h
 ·intro j _ _ ih h
  have:=ih h
  exact ⟨by omega,this.2⟩
 ·intro j hj hb ih h
  have:=ih h
  have h2:=zPf hj hb
  exact ⟨by omega,this.2⟩
 ·intro j e' hj hb hr ht h
  cases h
  exact ⟨Nat.le_refl _,hj,hb,hr,ht⟩
 ·intro j t hj hb hr ht ih h
  have:=ih (zjn h)
  have h2:=(zgf hj ht).1
  exact ⟨by omega,this.2⟩
theorem zMq (s:ByteArray) (k:Nat):(s.data.toList.drop k).length=s.size-k:=by simp
end
end Go.Proofs.YtbfgdpcgdmabpaaGreatDoor
