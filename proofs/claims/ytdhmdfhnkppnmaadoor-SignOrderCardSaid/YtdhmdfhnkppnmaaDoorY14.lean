/- The contracts of the parser's declaration and unit. The contract of read: the tree of a whole text's tokens, or the first fault, which its deferred function recovers. The contract of Size. -/
import Derived.Test.YtdhmdfhnkppnmaaDoorY12
import Derived.Test.YtdhmdfhnkppnmaaDoorY13
import Derived.Recover
import Derived.Test.YtdhmdfhnkppnmaaDoorY04
import Derived.Test.YtdhmdfhnkppnmaaDoorY06
namespace Go.Proofs.YtdhmdfhnkppnmaaDoor
set_option maxRecDepth 100000
set_option maxHeartbeats 1000000
section
open Go.RowKit
theorem zdl {n:Nat} {l:List Tok} (hn:0<n) (h:((hdT l).kind == 0)=true):zJd n l=.ok ([],l):=by
 cases n with
 | zero=>omega
 | succ n=>rw [zJd,h];rfl
theorem zgh {n:Nat} {l:List Tok} (h:((hdT l).kind == 0)=false):zJd (n+1) l=bd (zhd l) fun a l1=>bd (zJd n l1) fun xs l2=>.ok (a :: xs,l2):=by
 rw [zJd,h];rfl
def zjo (E:Env) (w:World) (l:List Tok) (d:Nat) (gk:Nat) (wr:World):Prop :=
 ∃ (ks:List T) (lr:List Tok) (m:Nat) (v:Value),Run E w wr lr d∧Blk wr w.heap.size zba 25∧zDb w wr (w.heap.size+1) (T.mk 0 e0 0 0 ks) v ∧
  zJd (l.length+1) l=bd (zJd m lr) (fun xs l'=>.ok (ks++xs,l'))∧lr.length<m∧lr.length≤gk∧ks.length+lr.length≤l.length
theorem zxg {E:Env} {w:World} {l:List Tok} {d:Nat} (h:PSt E w l d) (hd:d=0) :
  Calls Tryd.prog 32 #[.pointer (some ⟨E.pb,0,none⟩)] w (zbb zNb E w l d (zhd l)):=by
 have HR0:=zh ((Run.start h).alloc (.cells zba.toArray 25))
 have HB0:=zh (Blk.new w zba 25)
 have HD:=zh hd
 clear hd
 have hlo:=h.plt
 have hlt:=h.tlt
 have hln:=h.len
 clear h
 go_enter Tryd.func32,Tryd.ntmps32
 go_wp2_with fail
 refine (zLa HR0.out.st [bs [116,121,112,101],bs [102,110]] (by decide) (by decide) (by simp) rfl rfl).mono ?_
 intro e w1 hp
 cases hr:zxa [bs [116,121,112,101],bs [102,110]] l with
 | error pc =>
  obtain ⟨p,c⟩:=pc
  obtain ⟨rfl,hk,hcd⟩:=hp.err hr
  have HK:=zh (HR0.out.kp.trans hk)
  have HP:=zh (show zhd l=.error (p,c) by unfold zhd;exact (zpa hr _))
  clear hr hp hk
  go_wp2
  exact ⟨rfl,Run.err HK.out HP.out hcd⟩
 | ok q =>
  obtain ⟨a1,l1⟩:=q
  obtain ⟨v1,rfl,hv,hs,hl,hk⟩:=hp.ok hr
  obtain ⟨rfl,hto⟩:=hv
  have HR1:=zh (HR0.out.call hk hs)
  have hzR1:=HR1.out.size
  have HB1:=zh (HB0.out.kp hk (by omega))
  have hzHB1:=HB1.out.lt
  have HL1:=zh hl
  have H1:=zh hr
  clear hr hp hs hl hk hto
  unfold zsb
  cases ho:isT a1 (bs [116,121,112,101]) with
  | true =>
   have HO:=zh ho
   obtain ⟨ho2,ho3⟩:=znf ho
   clear ho ho3
   go_wp2_with fail
   refine (zVg (HR1.out.alloc _).st _).mono ?_
   intro e w2 hp
   cases hr:zzb a1.place l1 with
   | error pc =>
    obtain ⟨p,c⟩:=pc
    obtain ⟨rfl,hk,hcd⟩:=hp.err hr
    have HK:=zh ((HR1.out.alloc _).kp.trans hk)
    have HP:=zh (show zhd l=.error (p,c) by unfold zhd;exact ((zia H1.out _)).trans (((zya HO.out _ _)).trans (hr)))
    clear hr hp hk
    go_wp2
    exact ⟨rfl,Run.err HK.out HP.out hcd⟩
   | ok q =>
    obtain ⟨a2,l2⟩:=q
    obtain ⟨v2,rfl,hv,hs,hl,hk⟩:=hp.ok hr
    obtain ⟨kv2,rfl,ht⟩:=hv
    have HT2:=zh (ht.weak (HB1.out.alloc _).lt)
    have HR2:=zh ((HR1.out.alloc _).call hk hs)
    have hzR2:=HR2.out.size
    have HB2:=zh ((HB1.out.alloc _).kp hk (by omega))
    have hzHB2:=HB2.out.lt
    have HL2:=zh hl
    have H2:=zh hr
    clear hr hp hs hl hk ht
    unfold zma
    have HP:=zh (show zhd l=.ok (a2,l2) by unfold zhd;exact ((zia H1.out _)).trans (((zya HO.out _ _)).trans (H2.out)))
    go_wp2_with ((with_reducible refine zra 25 (.tmp 2) ?_);refine zea rfl 25 (.tmp 2) (.tmp 18) rfl w.heap.size (zaa (a2) (kv2)) rfl rfl HB2.out Tryd.zca rfl (zda _ _ HT2.out.kat.one) ?_)
    exact zua (cs:=zaa (a2) (kv2)) Tryd.results32 rfl HB2.out Tryd.underlying25 rfl Tryd.zca rfl (Run.node HR2.out HT2.out.lo HP.out (by have:=HL1.out;have:=HL2.out;first|omega|(simp only [List.length_tail] at *;omega)))
  | false =>
   have HO:=zh ho
   obtain ⟨ho2,ho3⟩:=zni ho
   clear ho ho3
   go_wp2_with fail
   refine (zEi (HR1.out.alloc _).st HD.out _).mono ?_
   intro e w2 hp
   cases hr:fnP a1.place l1 with
   | error pc =>
    obtain ⟨p,c⟩:=pc
    obtain ⟨rfl,hk,hcd⟩:=hp.err hr
    have HK:=zh ((HR1.out.alloc _).kp.trans hk)
    have HP:=zh (show zhd l=.error (p,c) by unfold zhd;exact ((zia H1.out _)).trans (((zja HO.out _ _)).trans (hr)))
    clear hr hp hk
    go_wp2
    exact ⟨rfl,Run.err HK.out HP.out hcd⟩
   | ok q =>
    obtain ⟨a2,l2⟩:=q
    obtain ⟨v2,rfl,hv,hs,hl,hk⟩:=hp.ok hr
    obtain ⟨kv2,rfl,ht⟩:=hv
    have HT2:=zh (ht.weak (HB1.out.alloc _).lt)
    have HR2:=zh ((HR1.out.alloc _).call hk hs)
    have hzR2:=HR2.out.size
    have HB2:=zh ((HB1.out.alloc _).kp hk (by omega))
    have hzHB2:=HB2.out.lt
    have HL2:=zh hl
    have H2:=zh hr
    clear hr hp hs hl hk ht
    unfold zma
    have HP:=zh (show zhd l=.ok (a2,l2) by unfold zhd;exact ((zia H1.out _)).trans (((zja HO.out _ _)).trans (H2.out)))
    go_wp2_with ((with_reducible refine zra 25 (.tmp 2) ?_);refine zea rfl 25 (.tmp 2) (.tmp 12) rfl w.heap.size (zaa (a2) (kv2)) rfl rfl HB2.out Tryd.zca rfl (zda _ _ HT2.out.kat.one) ?_)
    exact zua (cs:=zaa (a2) (kv2)) Tryd.results32 rfl HB2.out Tryd.underlying25 rfl Tryd.zca rfl (Run.node HR2.out HT2.out.lo HP.out (by have:=HL1.out;have:=HL2.out;first|omega|(simp only [List.length_tail] at *;omega)))
theorem zdn {E:Env} {w:World} {l:List Tok} {d:Nat} (h:PSt E w l d) (hd:d=0) :
  Calls Tryd.prog 19 #[.pointer (some ⟨E.pb,0,none⟩)] w (zJf zNb E w l d (zPc l)):=by
 have HR0:=zh ((Run.start h).alloc (.cells zba.toArray 25))
 have HB0:=zh (Blk.new w zba 25)
 have HD:=zh hd
 clear hd
 have hle:=h.le
 obtain ⟨i0,z0,I⟩:=Tryd.zOc
 have hlo:=h.plt
 have hlt:=h.tlt
 have hln:=h.len
 clear h
 go_enter Tryd.func19,Tryd.ntmps19
 have HRa:=zh (HR0.out.alloc (.cells (zaa (T.mk 0 e0 0 0 []) (.slice none 0 0)).toArray 25))
 have HBa:=zh (HB0.out.alloc (.cells (zaa (T.mk 0 e0 0 0 []) (.slice none 0 0)).toArray 25))
 have HNa:Hid (zDb w ((w.alloc (.cells zba.toArray 25)).alloc (.cells (zaa (T.mk 0 e0 0 0 []) (.slice none 0 0)).toArray 25)) (w.heap.size+1) (T.mk 0 e0 0 0 []) (.slice none 0 0)):=(by
  have h1:=zDb.new (w:=w) (t:=T.mk 0 e0 0 0 []) (KAt.nil 25 (w.alloc (.cells zba.toArray 25)) (fun b=>w.heap.size<b)) (by simp)
  rw [show (w.alloc (.cells zba.toArray 25)).heap.size=w.heap.size+1 by simp] at h1
  exact h1)
 have HLL:=zh (show l.length≤16385 by omega)
 clear hle
 go_wp2_with fail
 go_loopg [5] l.length (fun gk _ wr=>zjo E w l d gk wr)
 case atStart =>
  refine ⟨[],l,l.length+1,_,HRa.out,HBa.out,HNa.out,?_,by omega,Nat.le_refl _,by simp⟩
  cases zJd (l.length+1) l with
  | error e=>rfl
  | ok q=>obtain ⟨x,y⟩:=q;rfl
 case round =>
  obtain ⟨ks,lr,mm,v,hR,hBl,hN,hE,hm,hg,hcnt⟩:=hrel
  have HR:=zh hR
  have HBr:=zh hBl
  have HNr:=zh hN
  have HE:=zh hE
  have HM:=zh hm
  have HG:=zh hg
  have HC:=zh hcnt
  have HP0:=zh hR.st.head.1
  have hzB:=hBl.lt
  have hzN:=hN.lt
  have hzK:ks.length≤16385:=by have:=HLL.out;omega
  clear hR hBl hN hE hm hg hcnt HRa HBa HNa HR0 HB0
  go_wp2_with fail
  refine (zdb HR.out.st).mono ?_
  rintro e w2 ⟨rfl,hb⟩
  have HR2:=zh (HR.out.below hb)
  have hzR2:=HR2.out.size
  have HB2:=zh (HBr.out.kp (Kp.of_below (pb:=E.pb) hb) (by omega))
  have hzHB2:=HB2.out.lt
  have HN2:=zh (HNr.out.kp (Kp.of_below (pb:=E.pb) hb) (by first|omega|(have:=HR0.out.size;simp at *;omega)))
  have hzHN2:=HN2.out.lt
  clear hb
  unfold zsb
  have fl0:=zrb
  have fl1:=zmb
  have fl3:=zpb
  by_cases hkd:(hdT lr).kind=0
  ·
   have HI:=zh (show ((hdT lr).kind == 0)=true by rw [hkd];rfl)
   have hne:(((hdT lr).kind:Int) != 0)=false:=by rw [hkd];rfl
   clear hkd
   have HS:=zh (show zJd (l.length+1) l=.ok (ks,lr) by rw [HE.out,zia (zdl (by have:=HM.out;omega) HI.out)];simp)
   have HP:=zh (show zPc l=.ok (T.mk 0 e0 0 0 ks,lr) by unfold zPc;exact (zia HS.out _))
   go_wp2_with (first|((with_reducible refine zva 25 (.tmp 3) ?_);refine zfa rfl 25 (.tmp 3) rfl (w.heap.size+1) (zaa (T.mk 0 e0 0 0 ks) (v)) rfl HN2.out.blk Tryd.underlying25 rfl Tryd.zca ?_)|((with_reducible refine zra 25 (.tmp 2) ?_);refine zea rfl 25 (.tmp 2) (.tmp 16) rfl w.heap.size (zaa (T.mk 0 e0 0 0 ks) (v)) rfl rfl HB2.out Tryd.zca rfl (zda _ _ HN2.out.kids.one) ?_))
   exact zua (cs:=zaa (T.mk 0 e0 0 0 ks) (v)) Tryd.results19 rfl HB2.out Tryd.underlying25 rfl Tryd.zca rfl (Run.zqo HR2.out (TAt.zoc (HN2.out.kids.mono (fun _ hb _=>hb.1))) HP.out (by have:=HC.out;first|omega|(simp only [List.length_tail] at *;omega)))
  ·
   have HI:=zh (show ((hdT lr).kind == 0)=false from beq_eq_false_iff_ne.2 hkd)
   have hne:(((hdT lr).kind:Int) != 0)=true:=by simp;omega
   clear hkd
   obtain ⟨m0,rfl⟩:∃ m0,mm=m0+1:=⟨mm-1,by have:=HM.out;have:=HP0.out;omega⟩
   go_wp2_with fail
   refine AnyE.zHb (S:=fun W=>Blk W (w.heap.size+1) (zaa (T.mk 0 e0 0 0 ks) (v)) 25) (by kernel_rfl) (HN2.out.blk.drew) (fun hS=>?_)
   refine AnyE.take (i:=0) (v:=.pointer (some ⟨w.heap.size+1,4,none⟩)) rfl (by kernel_rfl) (by kernel_rfl) (by kernel_rfl) (by kernel_rfl) (fun _ _ _ h=>h) (Or.inl ⟨by rfl,fun W _=>by go_simp⟩) hS ?_
   refine AnyE.take (i:=1) (v:=v) rfl (by kernel_rfl) (by kernel_rfl) (by kernel_rfl) (by kernel_rfl) (fun _ _ _ h=>h) (Or.inl ⟨by rfl,fun W hW=>by have hcx:W.cell? ⟨w.heap.size+1,4,none⟩=some (v):=hW.cell 4;go_simp⟩) hS ?_
   refine AnyE.take (i:=2) (v:=.pointer (some ⟨E.pb,0,none⟩)) rfl (by kernel_rfl) (by kernel_rfl) (by kernel_rfl) (by kernel_rfl) (fun _ _ _ h=>h) (Or.inl ⟨by rfl,fun W _=>by go_simp⟩) hS ?_
   refine AnyE.one (i:=3) (by kernel_rfl) rfl (by rfl) (fun K hK=>?_)
   go_simp
   refine (zxg (HR2.out.drew).st HD.out).mono ?_
   intro e w3 hp
   cases hr:zhd lr with
   | error pc =>
    obtain ⟨p,c⟩:=pc
    obtain ⟨rfl,hk,hcd⟩:=hp.err hr
    have HK:=zh ((HR2.out.drew).kp.trans hk)
    have HP:=zh (show zPc l=.error (p,c) by unfold zPc;exact zpa (HE.out.trans (zpa ((zgh HI.out).trans ((zpa hr _))) _)) _)
    clear hr hp hk
    go_wp2
    exact ⟨rfl,Run.errE HK.out HP.out hcd⟩
   | ok q =>
    obtain ⟨a3,l3⟩:=q
    obtain ⟨v3,rfl,hv,hs,hl,hk⟩:=hp.ok hr
    obtain ⟨kv3,rfl,ht⟩:=hv
    have HT3:=zh (ht.weak (HB2.out.drew).lt)
    have huHN3:=Blk.zcb hk (HN2.out.drew).blk
    have HU3:=zh (ht.mono (S':=fun b=>w.heap.size<b∧(w.heap.size+1)<b) (fun b hb _=>by have:=Blk.zcb hk (HB2.out.drew);omega))
    have HF3:=zh (zDb.fresh hk (HN2.out.drew) ht)
    have HG3:=zh (zDb.zef hk (HN2.out.drew) ht)
    have HR3:=zh ((HR2.out.drew).call hk hs)
    have hzR3:=HR3.out.size
    have HB3:=zh ((HB2.out.drew).kp hk (by omega))
    have hzHB3:=HB3.out.lt
    have HN3:=zh ((HN2.out.drew).kp hk (by first|omega|(have:=HR0.out.size;simp at *;omega)))
    have hzHN3:=HN3.out.lt
    have HL3:=zh hl
    have H3:=zh hr
    clear hr hp hs hl hk ht
    unfold zma
    refine hK.out _ _ (fun _=>HN3.out.blk) ?_
    clear hK K
    refine AnyE.one (i:=4) (by kernel_rfl) rfl (by rfl) (fun K hK=>?_)
    go_simp
    refine hK.out _ _ (fun _=>(HN3.out.alloc _).blk) ?_
    clear hK K
    refine AnyE.one (i:=5) (by kernel_rfl) rfl (by rfl) (fun K hK=>?_)
    refine zOa (.tmp 10) (.tmp 13) rfl I (ts:=[a3]) rfl (HN3.out.alloc _).kids (us:=[kv3]) (zlb.single (HF3.out.alloc _)) ⟨by simp;omega,by simp;omega⟩ rfl rfl (by simp) (zde w3 _ a3 kv3) (by show ks.length+_≤_;simp;omega) ?_
    intro v3x w3x hKx hgx _
    obtain ⟨sa3x,sn3x,sc3x,rfl⟩:=hKx.slice
    obtain ⟨h1,h2,h3,hcx,hfx,h6⟩:=zTa (HR3.out.alloc _) (HB3.out.alloc _) (HN3.out.alloc _) hKx hgx
    have HR3x:=zh h1
    have HB3x:=zh h2
    have HN3x:=zh h3
    have HC3x:=zh h6
    clear h1 h2 h3 h6 hKx hgx
    refine hK.out _ _ (fun _=>HC3x.out) ?_
    clear hK K
    refine AnyE.one (i:=6) (by kernel_rfl) rfl (by rfl) (fun K hK=>?_)
    go_simp
    refine hK.out _ _ (fun _=>HC3x.out) ?_
    clear hK K
    refine AnyE.one (i:=7) (by kernel_rfl) rfl (by rfl) (fun K hK=>?_)
    go_simp
    refine hK.out _ _ (fun h=>absurd rfl h) ?_
    clear hK K
    refine AnyE.done (by kernel_rfl) ?_ _
    clear hcx hfx
    generalize w3x.setCell ⟨w.heap.size+1,4,none⟩ (.slice sa3x sn3x sc3x)=w3y at HR3x HB3x HN3x ⊢
    have hzHB3y:=HB3x.out.lt
    have hzHN3y:=HN3x.out.lt
    go_wp2
    go_roundg (gk-1)
    case measure=>have:=HG.out;have:=HP0.out;omega
    case rel =>
     have h1:=HL3.out
     have h2:=HM.out
     have h4:=HG.out
     have h5:=HC.out
     have h6:=HP0.out
     refine ⟨ks++[a3],l3,m0,_,HR3x.out,HB3x.out,HN3x.out,?_,by omega,by omega,by simp;omega⟩
     rw [HE.out,zgh HI.out,zok,zia H3.out,zok]
     congr 1
     funext xs l'
     simp [bd]
end
section
open Go.RowKit
theorem Tryd.zBd:(Tryd.prog.info? 55).map (·.size)=some 2:=by kernel_rfl
theorem zXh (v:Value) (w:World):(Instr.typeAssert (.iface 55 v) 20 55 true).run Tryd.prog w=.ok (.tuple #[v,.bool true]) w:=by
 simp [Instr.typeAssert,run_underlying Tryd.underlying55]
theorem catch_panicking (fb:Nat) (p:Nat) (c:Int) (w:World) (hb:Blk w fb [.int .i64 0,.int .i64 0] 55) :
  CallsD Tryd.prog 18 #[.pointer (some ⟨fb,0,none⟩)] (.panicking [{ v:=zhf p c,recovered:=false }]) w fun e u' w' =>
   e=.returned (.tuple #[])∧u'=.panicking [{ v:=zhf p c,recovered:=true }]∧Blk w' fb [.int .i64 p,.int .i64 c] 55∧w.grownBy w' (some fb):=by
 have HB:=zh hb
 have hlt:=hb.lt
 have hta:=zXh
 clear hb
 refine callsD_of_wpS Tryd.func18 rfl fun c₀ cs hu=>?_
 simp only [Tryd.ntmps18,List.size_toArray,List.length_cons,List.length_nil,Nat.reduceAdd,Nat.reduceSub,Array.replicate_succ,Array.replicate_zero,List.push_toArray,List.append_toArray,List.nil_append,List.cons_append]
 apply wpS_seq
 apply wpS_region
 unfold zhf at hu ⊢
 simp [wpOpsS,go_sem,recoverD,hu,Exit.thenS]
 refine wpS_of_wp ?_
 clear hu
 go_wp2_with ((with_reducible refine zra 55 (.tmp 0) ?_);refine zea rfl 55 (.tmp 0) (.tmp 15) rfl fb [.int .i64 p,.int .i64 c] rfl rfl (HB.out.alloc _) Tryd.zBd rfl (by simp [Value.oneCell']) ?_)
 refine ⟨rfl,_,rfl,.tuple #[],by simp [results,Tryd.results18],rfl,rfl,(HB.out.alloc _).zna [.int .i64 p,.int .i64 c],?_⟩
 exact ⟨rfl,rfl,rfl,by simp,fun k hk hn=>(setRow_other _ fb k _ (fun e=>hn (by rw [e]))).trans (Below.heap_alloc w _ k hk)⟩
theorem catch_idle (fb:Nat) (w:World) :
  CallsD Tryd.prog 18 #[.pointer (some ⟨fb,0,none⟩)] .returning w fun e u' w'=>e=.returned (.tuple #[])∧u'=.returning∧w'=w:=by
 refine callsD_of_wpS Tryd.func18 rfl fun c₀ cs hu=>?_
 simp only [Tryd.ntmps18,List.size_toArray,List.length_cons,List.length_nil,Nat.reduceAdd,Nat.reduceSub,Array.replicate_succ,Array.replicate_zero,List.push_toArray,List.append_toArray,List.nil_append,List.cons_append]
 apply wpS_seq
 apply wpS_region
 simp [wpOpsS,go_sem,recoverD,hu,Exit.thenS]
 refine wpS_of_wp ?_
 go_wp2_with fail
 refine ⟨rfl,.returning,?_,.tuple #[],by simp [results,Tryd.results18],rfl,rfl,rfl⟩
 cases c₀
 simp_all
def zQe (r:R T) (w:World) (e:Ending) (w':World):Prop :=
 match r with
 | .ok (t,_)=>∃ kv,e=.returned (.tuple #[zma t kv,.agg #[.int .i64 0,.int .i64 0]])∧TAt 25 w' t (fun b=>w.heap.size≤b) kv∧Below w.heap.size w w'
 | .error (p,c)=>e=.returned (.tuple #[zma zqb (.slice none 0 0),.agg #[.int .i64 p,.int .i64 c]])∧Below w.heap.size w w'∧(c=20∨c=21)
theorem zQe.zmg {r:R T} {w w':World} {e:Ending} {t:T} {l:List Tok} {kv:Value} (hr:r=.ok (t,l)) (he:e=.returned (.tuple #[zma t kv,.agg #[.int .i64 0,.int .i64 0]])) (ht:TAt 25 w' t (fun b=>w.heap.size≤b) kv) (hb:Below w.heap.size w w'):zQe r w e w':=by
 rw [hr];exact ⟨kv,he,ht,hb⟩
theorem zQe.zNm {r:R T} {w w':World} {e:Ending} {p:Nat} {c:Int} (hr:r=.error (p,c)) (he:e=.returned (.tuple #[zma zqb (.slice none 0 0),.agg #[.int .i64 p,.int .i64 c]])) (hb:Below w.heap.size w w') (hc:c=20∨c=21):zQe r w e w':=by
 rw [hr];exact ⟨he,hb,hc⟩
theorem zDf {P:Program} {fn:Func} {s u:Tmp} {ty tz t t':TypeId} (h:fn.results=#[.cell s ty,.cell u tz]) {tmps:Array Value} {W:World} {g g':Nat} {cs cs':List Value} {d d':TypeDesc}
  (hs:tmps.getD s undef=.pointer (some ⟨g,0,none⟩)) (hu':tmps.getD u undef=.pointer (some ⟨g',0,none⟩)) (hb:Blk W g cs t) (hb':Blk W g' cs' t') (hu:P.underlying ty=some d) (hd:d.isRow=true) (hi:(P.info? ty).map (·.size)=some cs.length)
  (hz:P.underlying tz=some d') (hd':d'.isRow=true) (hi':(P.info? tz).map (·.size)=some cs'.length):(results fn tmps).run P W=.ok (.tuple #[.agg cs.toArray,.agg cs'.toArray]) W:=by
 have hl:=run_loadVar_mid (P:=P) W g 0 ty cs d (fun j v hj=>by rw [Nat.zero_add,hb.cell j];exact hj) hu hd hi
 have hl':=run_loadVar_mid (P:=P) W g' 0 tz cs' d' (fun j v hj=>by rw [Nat.zero_add,hb'.cell j];exact hj) hz hd' hi'
 have h1:tmps[s]?.getD undef=.pointer (some ⟨g,0,none⟩):=by rw [← hs];simp
 have h2:tmps[u]?.getD undef=.pointer (some ⟨g',0,none⟩):=by rw [← hu'];simp
 simp [results,h,h1,h2,asAddr,hl,hl']
structure Toks (w:World) (tb cap:Nat) (ts:List Tok):Prop where
 row:zPh w tb ts
 lt:tb<w.heap.size
 ends:Ends ts
 ok:∀ t∈ts,zbj t
 len:ts.length≤16385
 capb:ts.length≤cap
theorem zDj {w:World} {tb cap:Nat} {ts:List Tok} (h:Toks w tb cap ts) :
  Calls Tryd.prog 10 #[.slice (some ⟨tb,0,none⟩) ts.length cap] w (zQe (zPc ts) w):=by
 have hmf:=zkb
 have HB0:=zh (((Blk.new w zba 25).alloc (.cells #[.int .i64 0,.int .i64 0] 55)).alloc (.cells #[.slice (some ⟨tb,0,none⟩) ts.length cap,.int .i64 0,.int .i64 0] 79))
 have HF0:=zh ((Blk.zIe w (.cells zba.toArray 25) [.int .i64 0,.int .i64 0] 55).alloc (.cells #[.slice (some ⟨tb,0,none⟩) ts.length cap,.int .i64 0,.int .i64 0] 79))
 have HST:Hid (PSt ⟨w.heap.size+2,tb,cap,ts⟩ (((w.alloc (.cells zba.toArray 25)).alloc (.cells #[.int .i64 0,.int .i64 0] 55)).alloc (.cells #[.slice (some ⟨tb,0,none⟩) ts.length cap,.int .i64 0,.int .i64 0] 79)) ts 0):=(by
  have hlt:=h.lt
  refine ⟨Nat.le_refl _,by simp,?_,?_,by show tb≠w.heap.size+2;omega,by simp;omega,h.ends,h.ok,h.len,h.capb,by omega⟩
  ·have h1:=heap_alloc_new ((w.alloc (.cells zba.toArray 25)).alloc (.cells #[.int .i64 0,.int .i64 0] 55)) (.cells #[.slice (some ⟨tb,0,none⟩) ts.length cap,.int .i64 0,.int .i64 0] 79)
   rw [show ((w.alloc (.cells zba.toArray 25)).alloc (.cells #[.int .i64 0,.int .i64 0] 55)).heap.size=w.heap.size+2 by simp] at h1
   simpa using h1
  ·exact h.row.same ((Below.heap_alloc _ _ _ (by simp;omega)).trans ((Below.heap_alloc _ _ _ (by simp;omega)).trans (Below.heap_alloc _ _ _ hlt))))
 have HW:=zh ((((Below.refl w.heap.size w).alloc (Nat.le_refl _) (.cells zba.toArray 25)).alloc (by simp) (.cells #[.int .i64 0,.int .i64 0] 55)).alloc (by simp;omega) (.cells #[.slice (some ⟨tb,0,none⟩) ts.length cap,.int .i64 0,.int .i64 0] 79))
 clear h
 go_enter_defers Tryd.func10,Tryd.ntmps10
 go_wp2_with fail
 refine (zdn HST.out rfl).mono ?_
 intro e w1 hp
 cases hr:zPc ts with
 | error pc =>
  obtain ⟨p,c⟩:=pc
  rw [hr] at hp
  obtain ⟨rfl,hk,hcd⟩:=hp
  have HB1:=zh (HB0.out.kp hk (by show _≠w.heap.size+2;omega))
  have HF1:=zh (HF0.out.kp hk (by show _≠w.heap.size+2;omega))
  have HW1:=zh (HW.out.grown hk (by simp;omega) (fun k hk=>by cases hk;show _≤w.heap.size+2;omega))
  clear hk hr
  go_wp2_with fail
  refine leaves_cons (f:=18) (args:=#[.pointer (some ⟨w.heap.size+1,0,none⟩)]) (by simp) (by simp [go_sem]) ?_
  refine (catch_panicking (w.heap.size+1) p c _ HF1.out).mono ?_
  rintro e u' w2 ⟨rfl,rfl,hb2,hg2⟩
  have hb1:=HB1.out.grown hg2 (by simp)
  exact ⟨_,zDf Tryd.results10 rfl rfl hb1 hb2 Tryd.underlying25 rfl Tryd.zca Tryd.underlying55 rfl Tryd.zBd,.zNm rfl rfl (HW1.out.grown hg2 HW1.out.size (fun k hk=>by cases hk;omega)) hcd⟩
 | ok q =>
  obtain ⟨t,l'⟩:=q
  rw [hr] at hp
  obtain ⟨v,rfl,⟨kv,rfl,ht⟩,hs,hl,hk⟩:=hp
  have HB1:=zh (HB0.out.kp hk (by show _≠w.heap.size+2;omega))
  have HF1:=zh (HF0.out.kp hk (by show _≠w.heap.size+2;omega))
  have HW1:=zh (HW.out.grown hk (by simp;omega) (fun k hk=>by cases hk;show _≤w.heap.size+2;omega))
  have HT:=zh (ht.mono (S':=fun b=>w.heap.size+1<b) (fun b hb _=>by simp at hb;omega))
  have HRR:=zh hr
  clear hk hr hs hl ht
  unfold zma
  go_wp2_with (first|((with_reducible refine zra 25 (.tmp 2) ?_);refine zea rfl 25 (.tmp 2) (.tmp 10) rfl w.heap.size (zaa t kv) rfl rfl HB1.out Tryd.zca rfl (zda _ _ HT.out.kat.one) ?_)|((with_reducible refine zra 55 (.tmp 3) ?_);refine zea rfl 55 (.tmp 3) (.tmp 11) rfl (w.heap.size+1) [.int .i64 0,.int .i64 0] rfl rfl (HF1.out.zla w.heap.size _ (by omega)) Tryd.zBd rfl (by simp [Value.oneCell']) ?_))
  refine leaves_cons (f:=18) (args:=#[.pointer (some ⟨w.heap.size+1,0,none⟩)]) (by simp) (by simp [go_sem]) ?_
  refine (catch_idle (w.heap.size+1) _).mono ?_
  rintro e u' w2 ⟨rfl,rfl,rfl⟩
  have hb1:=(HB1.out.zna (zaa t kv)).zla (w.heap.size+1) [.int .i64 0,.int .i64 0].toArray (by omega)
  have hb2:=(HF1.out.zla w.heap.size (zaa t kv).toArray (by omega)).zna [.int .i64 0,.int .i64 0]
  have hg:∀ (W:World) (g:Nat) (cs:Array Value),w.heap.size≤g→Below w.heap.size w W→Below w.heap.size w (W.setRow g cs):=fun W g cs hg hb =>
   ⟨hb.os,hb.tape,hb.output,by simpa using hb.size,fun k hk=>(setRow_other W g k cs (by omega)).trans (hb.block k hk)⟩
  exact ⟨_,zDf Tryd.results10 rfl rfl hb1 hb2 Tryd.underlying25 rfl Tryd.zca Tryd.underlying55 rfl Tryd.zBd,.zmg HRR.out rfl
   (((HT.out.setRow w.heap.size _ (fun b hb=>by omega)).setRow (w.heap.size+1) _ (fun b hb=>by omega)).mono (fun b hb _=>by omega)) (hg _ _ _ (by omega) (hg _ _ _ (Nat.le_refl _) HW1.out))⟩
end
section
open Go.RowKit
def zNo (w:World) (ks:List T) (g:Nat) (s i:Value) (wr:World):Prop :=
 ∃ k:Nat,k≤ks.length∧ks.length≤k+g∧i=.int .i64 k∧s=.int .i64 ((1+sizes (ks.take k):Nat):Int)∧Below w.heap.size w wr
theorem size_any:∀ (n:Nat) (t:T),t.size≤n→∀ {w:World} {S:Nat→Prop} {kv:Value},KAt 25 w t.kids S kv→t.size≤1000000 →
  Calls Tryd.prog 11 #[zma t kv] w fun e w'=>e=.returned (.int .i64 t.size)∧Below w.heap.size w w':=by
 intro n
 induction n with
 | zero=>intro t ht;cases t;rw [size_mk] at ht;omega
 | succ n ih =>
  intro t ht w S kv hk hbig
  have hts:t.size=1+sizes t.kids:=by cases t;rw [size_mk];rfl
  have HTS:=zh hts
  have HT:=zh ht
  have HBIG:=zh hbig
  have HIH:=zh (@ih)
  have hkl:t.kids.length≤sizes t.kids:=by
   have:∀ ks:List T,ks.length≤sizes ks:=fun ks=>by
    induction ks with
    | nil=>simp
    | cons a ks h=>rw [zta];cases a;rw [size_mk];simp;omega
   exact this _
  have hkl2:t.kids.length≤1000000:=by omega
  rcases hk.form with ⟨rfl,hnil⟩|⟨g,cap,rfl,hg,hcap,hcm,hget⟩
  ·have HN:=zh hnil
   clear hk ih ht hbig hts hnil hkl hkl2
   unfold zma
   go_enter Tryd.func11,Tryd.ntmps11
   go_wp2_with fail
   refine wp_loop_rounds 1 ?_
   rw [rounds_succ]
   go_wp2_with fail
   go_ret
   refine ⟨?_,(Below.refl _ _).alloc (Nat.le_refl _) _⟩
   rw [HTS.out,HN.out,zsa]
   rfl
  ·have HG:=zh hget
   have HCAP:=zh hcap
   clear hk ih ht hbig hts hget hkl hcap
   unfold maxLen at hcm
   unfold zma
   go_enter Tryd.func11,Tryd.ntmps11
   go_wp2_with fail
   go_loopg [3,9] t.kids.length (fun gk s i wr=>zNo w t.kids gk s i wr)
   case atStart=>exact ⟨0,by omega,by omega,rfl,by rw [List.take_zero,zsa];rfl,(Below.refl _ _).alloc (Nat.le_refl _) _⟩
   case round =>
    obtain ⟨k,hk,hgk,rfl,rfl,hbel⟩:=hrel
    have HB:=zh hbel
    have hzw:=hbel.size
    have hsl:sizes (t.kids.take k)≤1000000:=by have h1:=zHh t.kids k;have h2:=HTS.out;have h3:=HBIG.out;omega
    clear hbel
    by_cases hlt:k<t.kids.length
    ·obtain ⟨u,hr,hT⟩:=HG.out k t.kids[k] (List.getElem?_eq_getElem hlt)
     have hne:=List.getElem?_eq_getElem hlt
     generalize t.kids[k]=tk at hr hT hne
     have HR:=zh (zoa hr ((HB.out.mono (Nat.le_refl _))) hg)
     have HTK:=zh (hT.below (HB.out))
     have HNE:=zh hne
     have hcap:=HCAP.out
     have hks:=zki hne
     clear hr hT hne
     go_wp2_with (first
      | ((with_reducible refine zva 25 (.tmp 11) ?_);refine wpList_load_mid rfl 25 (.tmp 11) rfl g (k * 5) rfl (zaa tk u) _ HR.out Tryd.underlying25 rfl Tryd.zca ?_)
      | ((with_reducible refine zra 25 (.tmp 5) ?_);refine zga rfl 25 (.tmp 5) (.tmp 12) rfl (zaa tk u) (old:=zba) rfl rfl Tryd.zca rfl (zda _ _ HTK.out.kat.one) ?_)
      | ((with_reducible refine zva 25 (.tmp 5) ?_);refine zfa rfl 25 (.tmp 5) rfl wr.heap.size (zaa tk u) rfl (Blk.new wr _ _) Tryd.underlying25 rfl Tryd.zca ?_))
     refine (HIH.out tk (by have h2:=HTS.out;have h3:=HT.out;omega) (HTK.out.alloc _).kat (by have h2:=HTS.out;have h3:=HBIG.out;omega)).mono ?_
     rintro e w2 ⟨rfl,hb2⟩
     have HB2:=zh ((HB.out.alloc hzw _).trans (hb2.mono (by simp;omega)))
     have hks2:tk.size≤1000000:=by have h2:=HTS.out;have h3:=HBIG.out;omega
     clear hb2
     go_wp2
     go_roundg (gk-1)
     case measure=>omega
     case rel =>
      refine ⟨k+1,by omega,by omega,by go_num,?_,HB2.out⟩
      rw [ztk _ _ _ HNE.out]
      go_num
    ·have HE:=zh (show t.kids.take k=t.kids from List.take_of_length_le (by omega))
     go_wp2
     go_ret
     exact ⟨by rw [HTS.out,HE.out];rfl,HB.out⟩
end
end Go.Proofs.YtdhmdfhnkppnmaaDoor
namespace Go.Proofs.YtdhmdfhnkppnmaaDoor
set_option maxRecDepth 100000
set_option maxHeartbeats 2000000
open Go.RowKit
theorem zkk {s:ByteArray} {k:Nat} {t:Tok} (h:zLc s k=.ok t):t.kind≠0∧t.num≤1099511627776∧t.place=k:=by
 have hs:∀ n,zXa s k n=.ok t→t.kind≠0∧t.num≤1099511627776∧t.place=k:=by
  intro n
  induction n with
  | zero =>
   unfold zXa zUd
   split
   ·intro h;cases h;exact ⟨by simp,by simp,rfl⟩
   ·intro h;cases h
  | succ n ih =>
   unfold zXa
   split
   ·intro h;cases h;exact ⟨by simp,by simp,rfl⟩
   ·exact ih
 unfold zLc at h
 split at h
 ·unfold zMb at h
  split at h
  ·cases h
  ·split at h<;>cases h<;>exact ⟨by simp,by simp,rfl⟩
 ·split at h
  ·unfold zIc at h
   split at h
   ·cases h
   ·rename_i hc
    cases h
    exact ⟨by simp,by simp only;omega,rfl⟩
  ·exact hs 3 h
theorem zyi {s:ByteArray} (hs:s.size≤16384):∀ k,k≤s.size→∀ ts,lexFrom s k=.ok ts→Ends ts∧(∀ t∈ts,zbj t)∧ts.length+k≤s.size+1:=by
 apply zSi (P:=fun k r=>k≤s.size→∀ ts,r=.ok ts→Ends ts∧(∀ t∈ts,zbj t)∧ts.length+k≤s.size+1)
 ·intro k _ hk ts h
  cases h
  refine ⟨.inl ⟨rfl,rfl,rfl⟩,fun t ht=>?_,by simp;omega⟩
  obtain rfl:t=zcf s:=by simpa using ht
  exact ⟨by simp [zcf],hs,by show (0:Nat)≤_;omega⟩
 ·intro k hk _ ih _ ts h
  obtain ⟨h1,h2,h3⟩:=ih (by omega) ts h
  exact ⟨h1,h2,by omega⟩
 ·intro k hk hb ih _ ts h
  have hg:=zee hk hb
  obtain ⟨h1,h2,h3⟩:=ih (zkd zAk s k (by omega)) ts h
  exact ⟨h1,h2,by omega⟩
 ·intro k e _ _ _ _ _ ts h;cases h
 ·intro k t hk _ _ ht ih _ ts h
  have hz:=zvd hk ht
  have hg:=zkk ht
  cases hr:lexFrom s (k+t.text.size) with
  | error e=>rw [hr] at h;cases h
  | ok ts' =>
   rw [hr] at h
   cases h
   obtain ⟨h1,h2,h3⟩:=ih hz.2 ts' hr
   refine ⟨.inr ⟨hg.1,h1⟩,fun u hu=>?_,by simp;omega⟩
   rcases List.mem_cons.1 hu with rfl|hu
   ·exact ⟨hg.2.1,by rw [hg.2.2];omega,by omega⟩
   ·exact h2 u hu
theorem zAe {s:ByteArray} {ts:List Tok} (h:zjc s=.ok ts):Ends ts∧(∀ t∈ts,zbj t)∧ts.length≤16385:=by
 unfold zjc at h
 split at h
 ·cases h
 ·obtain ⟨h1,h2,h3⟩:=zyi (by omega) 0 (by omega) ts h
  exact ⟨h1,h2,by omega⟩
theorem zRi {s:ByteArray} {p:Nat} {c:Int} (h:zjc s=.error (p,c)):10≤c∧c≤13:=by
 unfold zjc at h
 split at h
 ·cases h;decide
 ·obtain ⟨_,_,_,_,h1⟩:=zkl 0 h
  have:=zji h1
  omega
def zff (r:T × Nat × Int) (w:World) (e:Ending) (w':World):Prop :=
 ∃ kv,e=.returned (.tuple #[zma r.1 kv,.int .i64 r.2.1,.int .i64 r.2.2])∧KAt 25 w' r.1.kids (fun b=>w.heap.size≤b) kv∧Below w.heap.size w w'
theorem zPb {P:Program} {fn:Func} {s u z:Tmp} {ty t:TypeId} (h:fn.results=#[.cell s ty,.tmp u,.tmp z]) {a:Act} {W:World} {g:Nat} {cs:List Value} {d:TypeDesc} {R:Ending→World→Prop} {x y:Value} (hs:a.tmps.getD s undef=.pointer (some ⟨g,0,none⟩))
  (hb:Blk W g cs t) (hu:P.underlying ty=some d) (hd:d.isRow=true) (hi:(P.info? ty).map (·.size)=some cs.length) (hx:a.tmps.getD u undef=x) (hy:a.tmps.getD z undef=y) (hdf:a.defers=[]) (hR:R (.returned (.tuple #[.agg cs.toArray,x,y])) W) :
  bodyPost P fn R .ret a W:=by
 refine bodyPost_ret ?_ hdf hR
 have hl:=run_loadVar_mid (P:=P) W g 0 ty cs d (fun j v hj=>by rw [Nat.zero_add,hb.cell j];exact hj) hu hd hi
 have hs':a.tmps[s]?.getD undef=.pointer (some ⟨g,0,none⟩):=by rw [← hs];simp
 have hx':a.tmps[u]?.getD undef=x:=by rw [← hx];simp
 have hy':a.tmps[z]?.getD undef=y:=by rw [← hy];simp
 simp [results,h,hs',asAddr,hl,hx',hy']
theorem below_setRow {B:Nat} {w W:World} (hb:Below B w W) {g:Nat} (hg:B≤g) (cs:Array Value):Below B w (W.setRow g cs) :=
 ⟨hb.os,hb.tape,hb.output,by simpa using hb.size,fun k hk=>(setRow_other W g k cs (by omega)).trans (hb.block k hk)⟩
theorem zKl (s:ByteArray) (w:World) (hs:s.size≤maxLen) (ht:Tabs w) {p:Nat} {c:Int} (hr:zjc s=.error (p,c)) :
  Calls Tryd.prog 5 #[.string s] w (zff (zab s) w):=by
 have HTA:=zh (ht.alloc (o:=.cells zba.toArray 25))
 have HS:=zh hs
 clear ht hs
 go_enter Tryd.func5,Tryd.ntmps5
 go_wp2_with fail
 refine (zpf s _ HS.out HTA.out).mono ?_
 intro e w1 hp
 rw [hr] at hp
 obtain ⟨rfl,hb⟩:=hp
 have hcd:=zRi hr
 have hne:(c != 0)=true:=by rw [bne_iff_ne];omega
 have HP:=zh (show zab s=(zqb,p,c) by unfold zab;rw [hr])
 have HB:=zh ((Blk.new w zba 25).kp (Kp.of_below (pb:=w.heap.size+1) hb) (by omega))
 have HW:=zh (((Below.refl w.heap.size w).alloc (Nat.le_refl _) _).trans (hb.mono (by simp)))
 clear hb hr hcd
 go_wp2_with ((with_reducible refine zra 25 (.tmp 2) ?_);refine zea rfl 25 (.tmp 2) (.tmp 18) rfl w.heap.size (zaa zqb (.slice none 0 0)) rfl rfl HB.out Tryd.zca rfl (zda _ _ rfl) ?_)
 refine zPb (cs:=zaa zqb (.slice none 0 0)) Tryd.results5 rfl (HB.out.zna _) Tryd.underlying25 rfl Tryd.zca rfl rfl rfl ?_
 rw [HP.out]
 exact ⟨.slice none 0 0,rfl,KAt.nil _ _ _,below_setRow HW.out (Nat.le_refl _) _⟩
theorem zGl {P:Program} {ops:Array Oper} {Q:Exit→Act→World→Prop} {l:List Oper} {a:Act} (W:World) (h:wpList P ops Q l a W):wpList P ops Q l a W:=h
theorem zDl (s:ByteArray) (w:World) (hs:s.size≤maxLen) (ht:Tabs w) {ts:List Tok} {p:Nat} {c:Int} (hr:zjc s=.ok ts) (hu:zPc ts=.error (p,c)) :
  Calls Tryd.prog 5 #[.string s] w (zff (zab s) w):=by
 have HTA:=zh (ht.alloc (o:=.cells zba.toArray 25))
 have HS:=zh hs
 clear ht hs
 go_enter Tryd.func5,Tryd.ntmps5
 go_wp2_with fail
 refine (zpf s _ HS.out HTA.out).mono ?_
 intro e w1 hp
 rw [hr] at hp
 obtain ⟨v,rfl,hown,hb⟩:=hp
 obtain ⟨hE,hok,hlen⟩:=zAe hr
 have hn:0<ts.length:=by obtain ⟨t,r,rfl⟩:=hE.ne;simp
 obtain ⟨g,cap,rfl,hg1,hg2,hcap,hrow⟩:=zqh hown hn
 have HTK:=zh (show Toks w1 g cap ts from ⟨hrow,hg2,hE,hok,hlen,hcap⟩)
 have HB:=zh ((Blk.new w zba 25).kp (Kp.of_below (pb:=w.heap.size+1) hb) (by omega))
 have HW:=zh (((Below.refl w.heap.size w).alloc (Nat.le_refl _) _).trans (hb.mono (by simp)))
 have HPB:=zh (show zab s=zAc ts by unfold zab;rw [hr])
 have HLEN:=zh hlen
 clear hb hr hE hok hlen hn hown hrow hg1 hg2 hcap
 go_wp2_with fail
 refine (zDj HTK.out).mono ?_
 intro e w2 hp
 rw [hu] at hp
 obtain ⟨rfl,hb,hcd⟩:=hp
 have hne:(c != 0)=true:=by rw [bne_iff_ne];omega
 have HP:=zh (show zab s=(zqb,p,c) by rw [HPB.out];unfold zAc;rw [hu])
 have HB2:=zh (HB.out.kp (Kp.of_below (pb:=w.heap.size+1) hb) (by omega))
 have HW2:=zh (HW.out.trans (hb.mono HW.out.size))
 have hz2:=HB2.out.lt
 clear hb hu hcd
 have HT:=zh ((KAt.nil 25 w2 (fun b=>w.heap.size<b∧b<w2.heap.size)).tat 0 e0 0 0)
 unfold zma
 go_wp2_with (first
  | ((with_reducible refine zra 25 (.tmp 8) ?_);refine zea rfl 25 (.tmp 8) (.tmp 24) rfl w2.heap.size (zaa (zqb) (.slice none 0 0)) rfl rfl ((Blk.new w2 zba 25).alloc _) Tryd.zca rfl (zda _ _ rfl) ?_)
  | (
    (with_reducible refine zra 55 (.tmp 9) ?_);refine zea rfl 55 (.tmp 9) (.tmp 25) rfl (w2.heap.size+1) [.int .i64 p,.int .i64 c] rfl rfl ((Blk.zIe w2 (.cells zba.toArray 25) [.int .i64 0,.int .i64 0] 55).zla w2.heap.size _ (by omega)) Tryd.zBd rfl (by simp [Value.oneCell']) ?_;
    have HBy:=zh ((((HB2.out.alloc (.cells zba.toArray 25)).alloc (.cells #[.int .i64 0,.int .i64 0] 55)).zla w2.heap.size (zaa (zqb) (.slice none 0 0)).toArray (by omega)).zla (w2.heap.size+1) ([.int .i64 p,.int .i64 c]).toArray (by omega));
    have HNy:=zh ((((Blk.new w2 zba 25).alloc (.cells #[.int .i64 0,.int .i64 0] 55)).zna (zaa (zqb) (.slice none 0 0))).zla (w2.heap.size+1) ([.int .i64 p,.int .i64 c]).toArray (by omega));
    have HFy:=zh (((Blk.zIe w2 (.cells zba.toArray 25) [.int .i64 0,.int .i64 0] 55).zla w2.heap.size (zaa (zqb) (.slice none 0 0)).toArray (by omega)).zna [.int .i64 p,.int .i64 c]);
    have HWy:=zh (below_setRow (g:=w2.heap.size+1) (below_setRow (g:=w2.heap.size) ((HW2.out.alloc HW2.out.size (.cells zba.toArray 25)).alloc (by simp;omega) (.cells #[.int .i64 0,.int .i64 0] 55)) (by omega) (zaa (zqb) (.slice none 0 0)).toArray) (by omega) ([.int .i64 p,.int .i64 c]).toArray);
    have HTy:Hid (TAt 25 _ (zqb) (fun b=>w.heap.size<b∧b<w2.heap.size) (.slice none 0 0)):=((((HT.out.alloc (.cells zba.toArray 25)).alloc (.cells #[.int .i64 0,.int .i64 0] 55)).setRow w2.heap.size (zaa (zqb) (.slice none 0 0)).toArray (fun b hb=>by omega)).setRow (w2.heap.size+1) ([.int .i64 p,.int .i64 c]).toArray (fun b hb=>by omega));
    refine zGl ((((w2.alloc (.cells zba.toArray 25)).alloc (.cells #[.int .i64 0,.int .i64 0] 55)).setRow w2.heap.size (zaa (zqb) (.slice none 0 0)).toArray).setRow (w2.heap.size+1) ([.int .i64 p,.int .i64 c]).toArray) ?_;generalize (((w2.alloc (.cells zba.toArray 25)).alloc (.cells #[.int .i64 0,.int .i64 0] 55)).setRow w2.heap.size (zaa (zqb) (.slice none 0 0)).toArray).setRow (w2.heap.size+1) ([.int .i64 p,.int .i64 c]).toArray=wy at HBy HNy HFy HWy HTy ⊢;
    have hcF:wy.cell? ⟨w2.heap.size+1,1,none⟩=some (.int .i64 c):=HFy.out.cell 1;have hzy:=HFy.out.lt))
 refine AnyE.zHb (S:=fun W=>Blk W (w2.heap.size+1) [.int .i64 p,.int .i64 c] 55) (by kernel_rfl) HFy.out.drew (fun hS=>?_)
 refine AnyE.take (i:=1) (v:=.pointer (some ⟨w2.heap.size+1,0,none⟩)) rfl (by kernel_rfl) (by kernel_rfl) (by kernel_rfl) (by kernel_rfl) (fun _ _ _ h=>h) (Or.inl ⟨by rfl,fun W _=>by go_simp⟩) hS ?_
 refine AnyE.take (i:=2) (v:=.int .i64 p) rfl (by kernel_rfl) (by kernel_rfl) (by kernel_rfl) (by kernel_rfl) (fun _ _ _ h=>h) (Or.inl ⟨by rfl,fun W hW=>by have hcx:W.cell? ⟨w2.heap.size+1,0,none⟩=some (.int .i64 p):=hW.cell 0;go_simp⟩) hS ?_
 refine AnyE.take (i:=3) (v:=.pointer (some ⟨w2.heap.size+1,1,none⟩)) rfl (by kernel_rfl) (by kernel_rfl) (by kernel_rfl) (by kernel_rfl) (fun _ _ _ h=>h) (Or.inl ⟨by rfl,fun W _=>by go_simp⟩) hS ?_
 refine AnyE.take (i:=4) (v:=.int .i64 c) rfl (by kernel_rfl) (by kernel_rfl) (by kernel_rfl) (by kernel_rfl) (fun _ _ _ h=>h) (Or.inl ⟨by rfl,fun W hW=>by have hcx:W.cell? ⟨w2.heap.size+1,1,none⟩=some (.int .i64 c):=hW.cell 1;go_simp⟩) hS ?_
 refine AnyE.one (i:=0) (by kernel_rfl) rfl (by rfl) (fun K hK=>?_)
 go_simp
 refine hK.out _ _ (fun _=>HFy.out.drew) ?_
 clear hK K
 refine AnyE.one (i:=5) (by kernel_rfl) rfl (by rfl) (fun K hK=>?_)
 refine zka 25 (.tmp 2) (.tmp 30) rfl w.heap.size (zaa zqb (.slice none 0 0)) rfl rfl HBy.out.drew Tryd.zca rfl (zda _ _ rfl) ?_
 refine hK.out _ _ (fun _=>HFy.out.drew.zla w.heap.size _ (by omega)) ?_
 clear hK K
 refine AnyE.one (i:=6) (by kernel_rfl) rfl (by rfl) (fun K hK=>?_)
 go_simp
 refine hK.out _ _ (fun _=>HFy.out.drew.zla w.heap.size _ (by omega)) ?_
 clear hK K
 refine AnyE.one (i:=7) (by kernel_rfl) rfl (by rfl) (fun K hK=>?_)
 go_simp
 refine hK.out _ _ (fun h=>absurd rfl h) ?_
 clear hK K
 refine AnyE.done (by kernel_rfl) ?_ _
 go_wp2
 refine zPb (cs:=zaa zqb (.slice none 0 0)) Tryd.results5 rfl (HBy.out.drew.zna _) Tryd.underlying25 rfl Tryd.zca rfl rfl rfl ?_
 rw [HP.out]
 exact ⟨.slice none 0 0,rfl,KAt.nil _ _ _,below_setRow HWy.out.drew (Nat.le_refl _) _⟩
theorem zwn {P:Program} {ops:Array Oper} {Q:Exit→Act→World→Prop} {l:List Oper} {a:Act} (W:World) (h:wpList P ops Q l a W):wpList P ops Q l a W:=h
theorem zUm (s:ByteArray) (w:World) (hs:s.size≤maxLen) (ht:Tabs w) {ts l':List Tok} {t:T} (hr:zjc s=.ok ts) (hu:zPc ts=.ok (t,l')) :
  Calls Tryd.prog 5 #[.string s] w (zff (zab s) w):=by
 have HTA:=zh (ht.alloc (o:=.cells zba.toArray 25))
 have HS:=zh hs
 clear ht hs
 go_enter Tryd.func5,Tryd.ntmps5
 go_wp2_with fail
 refine (zpf s _ HS.out HTA.out).mono ?_
 intro e w1 hp
 rw [hr] at hp
 obtain ⟨v,rfl,hown,hb⟩:=hp
 obtain ⟨hE,hok,hlen⟩:=zAe hr
 have hn:0<ts.length:=by obtain ⟨t,r,rfl⟩:=hE.ne;simp
 obtain ⟨g,cap,rfl,hg1,hg2,hcap,hrow⟩:=zqh hown hn
 have HTK:=zh (show Toks w1 g cap ts from ⟨hrow,hg2,hE,hok,hlen,hcap⟩)
 have HB:=zh ((Blk.new w zba 25).kp (Kp.of_below (pb:=w.heap.size+1) hb) (by omega))
 have HW:=zh (((Below.refl w.heap.size w).alloc (Nat.le_refl _) _).trans (hb.mono (by simp)))
 have HPB:=zh (show zab s=zAc ts by unfold zab;rw [hr])
 have HLEN:=zh hlen
 clear hb hr hE hok hlen hn hown hrow hg1 hg2 hcap
 go_wp2_with fail
 refine (zDj HTK.out).mono ?_
 intro e w2 hp
 rw [hu] at hp
 obtain ⟨kv,rfl,hT,hb⟩:=hp
 have hsz:=zro hu
 have hsz2:t.size≤1000000:=by have:=HLEN.out;omega
 have HB2:=zh (HB.out.kp (Kp.of_below (pb:=w.heap.size+1) hb) (by omega))
 have HW2:=zh (HW.out.trans (hb.mono HW.out.size))
 have hz2:=HB2.out.lt
 have hz1:=HB.out.lt
 have HT:=zh (hT.mono (S':=fun b=>w.heap.size<b∧b<w2.heap.size) (fun b hb hl=>⟨by omega,hl⟩))
 have HP0:=zh (show zab s=if 4096<t.size then (zqb,0,22) else (t,0,0) by rw [HPB.out];unfold zAc;rw [hu])
 clear hb hu hT hsz
 unfold zma
 go_wp2_with (first
  | ((with_reducible refine zra 25 (.tmp 8) ?_);refine zea rfl 25 (.tmp 8) (.tmp 24) rfl w2.heap.size (zaa (t) (kv)) rfl rfl ((Blk.new w2 zba 25).alloc _) Tryd.zca rfl (zda _ _ HT.out.kat.one) ?_)
  | (
    (with_reducible refine zra 55 (.tmp 9) ?_);refine zea rfl 55 (.tmp 9) (.tmp 25) rfl (w2.heap.size+1) [.int .i64 0,.int .i64 0] rfl rfl ((Blk.zIe w2 (.cells zba.toArray 25) [.int .i64 0,.int .i64 0] 55).zla w2.heap.size _ (by omega)) Tryd.zBd rfl (by simp [Value.oneCell']) ?_;
    have HBy:=zh ((((HB2.out.alloc (.cells zba.toArray 25)).alloc (.cells #[.int .i64 0,.int .i64 0] 55)).zla w2.heap.size (zaa (t) (kv)).toArray (by omega)).zla (w2.heap.size+1) ([.int .i64 0,.int .i64 0]).toArray (by omega));
    have HNy:=zh ((((Blk.new w2 zba 25).alloc (.cells #[.int .i64 0,.int .i64 0] 55)).zna (zaa (t) (kv))).zla (w2.heap.size+1) ([.int .i64 0,.int .i64 0]).toArray (by omega));
    have HFy:=zh (((Blk.zIe w2 (.cells zba.toArray 25) [.int .i64 0,.int .i64 0] 55).zla w2.heap.size (zaa (t) (kv)).toArray (by omega)).zna [.int .i64 0,.int .i64 0]);
    have HWy:=zh (below_setRow (g:=w2.heap.size+1) (below_setRow (g:=w2.heap.size) ((HW2.out.alloc HW2.out.size (.cells zba.toArray 25)).alloc (by simp;omega) (.cells #[.int .i64 0,.int .i64 0] 55)) (by omega) (zaa (t) (kv)).toArray) (by omega) ([.int .i64 0,.int .i64 0]).toArray);
    have HTy:Hid (TAt 25 _ (t) (fun b=>w.heap.size<b∧b<w2.heap.size) (kv)):=((((HT.out.alloc (.cells zba.toArray 25)).alloc (.cells #[.int .i64 0,.int .i64 0] 55)).setRow w2.heap.size (zaa (t) (kv)).toArray (fun b hb=>by omega)).setRow (w2.heap.size+1) ([.int .i64 0,.int .i64 0]).toArray (fun b hb=>by omega));
    refine zwn ((((w2.alloc (.cells zba.toArray 25)).alloc (.cells #[.int .i64 0,.int .i64 0] 55)).setRow w2.heap.size (zaa (t) (kv)).toArray).setRow (w2.heap.size+1) ([.int .i64 0,.int .i64 0]).toArray) ?_;generalize (((w2.alloc (.cells zba.toArray 25)).alloc (.cells #[.int .i64 0,.int .i64 0] 55)).setRow w2.heap.size (zaa (t) (kv)).toArray).setRow (w2.heap.size+1) ([.int .i64 0,.int .i64 0]).toArray=wy at HBy HNy HFy HWy HTy ⊢;
    have hcF:wy.cell? ⟨w2.heap.size+1,1,none⟩=some (.int .i64 0):=HFy.out.cell 1;have hzy:=HFy.out.lt)
  | ((with_reducible refine zva 25 (.tmp 8) ?_);refine zfa rfl 25 (.tmp 8) rfl w2.heap.size (zaa t kv) rfl HNy.out Tryd.underlying25 rfl Tryd.zca ?_))
 refine (size_any t.size t (Nat.le_refl _) HTy.out.kat hsz2).mono ?_
 rintro e w3 ⟨rfl,hb3⟩
 have HB3:=zh (HBy.out.kp (Kp.of_below (pb:=w3.heap.size) hb3) (by have:=HBy.out.lt;have:=hb3.size;omega))
 have HN3:=zh (HNy.out.kp (Kp.of_below (pb:=w3.heap.size) hb3) (by have:=HNy.out.lt;have:=hb3.size;omega))
 have HW3:=zh (HWy.out.trans (hb3.mono HWy.out.size))
 have HT3:=zh (HTy.out.below hb3)
 clear hb3
 by_cases hgt:4096<t.size
 ·have hgt':decide ((t.size:Int) > 4096)=true:=by simp;omega
  have hgt2:(4096:Int)<(t.size:Int):=by omega
  have HP:=zh (show zab s=(zqb,0,22) by rw [HP0.out,if_pos hgt])
  clear hgt
  go_wp2_with ((with_reducible refine zra 25 (.tmp 2) ?_);refine zea rfl 25 (.tmp 2) (.tmp 39) rfl w.heap.size (zaa zqb (.slice none 0 0)) rfl rfl HB3.out Tryd.zca rfl (zda _ _ rfl) ?_)
  refine zPb (cs:=zaa zqb (.slice none 0 0)) Tryd.results5 rfl (HB3.out.zna _) Tryd.underlying25 rfl Tryd.zca rfl rfl rfl ?_
  rw [HP.out]
  exact ⟨.slice none 0 0,rfl,KAt.nil _ _ _,below_setRow HW3.out (Nat.le_refl _) _⟩
 ·have hgt2:¬ (4096:Int)<(t.size:Int):=by omega
  have HP:=zh (show zab s=(t,0,0) by rw [HP0.out,if_neg hgt])
  clear hgt
  go_wp2_with (first|((with_reducible refine zva 25 (.tmp 8) ?_);refine zfa rfl 25 (.tmp 8) rfl w2.heap.size (zaa t kv) rfl HN3.out Tryd.underlying25 rfl Tryd.zca ?_)|((with_reducible refine zra 25 (.tmp 2) ?_);refine zea rfl 25 (.tmp 2) (.tmp 40) rfl w.heap.size (zaa t kv) rfl rfl HB3.out Tryd.zca rfl (zda _ _ HT3.out.kat.one) ?_))
  refine zPb (cs:=zaa t kv) Tryd.results5 rfl (HB3.out.zna _) Tryd.underlying25 rfl Tryd.zca rfl rfl rfl ?_
  rw [HP.out]
  exact ⟨kv,rfl,(HT3.out.kat.setRow w.heap.size _ (fun b hb=>by omega)).mono (fun b hb _=>by omega),below_setRow HW3.out (Nat.le_refl _) _⟩
theorem parse_any (s:ByteArray) (w:World) (hs:s.size≤maxLen) (ht:Tabs w) :
  Calls Tryd.prog 5 #[.string s] w (zff (zab s) w):=by
 cases hr:zjc s with
 | error pc=>obtain ⟨p,c⟩:=pc;exact zKl s w hs ht hr
 | ok ts =>
  cases hu:zPc ts with
  | error pc=>obtain ⟨p,c⟩:=pc;exact zDl s w hs ht hr hu
  | ok q=>obtain ⟨t,l'⟩:=q;exact zUm s w hs ht hr hu
end Go.Proofs.YtdhmdfhnkppnmaaDoor
