/- The contract of lychgateref02.Parse: it answers what the plain reader says, in new memory. The document's instructions in memory: a slice of instructions, each with a slice of terms of its own. Nothing of the program is walked here. The contracts of lychgateref07.of and terms: a term out of a node, the terms of a list of nodes, in new memory. -/
import Derived.Test.YthdbmgijpelecaaGreatDoorM29
import Derived.Test.YthdbmgijpelecaaGreatDoorM30
import Derived.Test.YthdbmgijpelecaaGreatDoorM12
import Derived.Test.YthdbmgijpelecaaGreatDoorM13
import Derived.Test.YthdbmgijpelecaaGreatDoorM14
namespace Go.Proofs.YthdbmgijpelecaaGreatDoor
set_option maxRecDepth 100000
set_option maxHeartbeats 8000000
section
open Go.RowKit
def zxh (r:T × Nat × Int) (w:World) (e:Ending) (w':World):Prop :=
 ∃ kv,e=.returned (.tuple #[zma r.1 kv,.int .i64 r.2.1,.int .i64 r.2.2])∧KAt 34 w' r.1.kids (fun b=>w.heap.size≤b) kv∧Below w.heap.size w w'
theorem zGn (s:ByteArray) (w:World) (hs:s.size≤maxLen) {p:Nat} {c:Int} (hr:zHc s=.error (p,c)) :
  Calls Tryz.prog 19 #[.string s] w (zxh (zFb s) w):=by
 have HS:=zh hs
 clear hs
 go_enter Tryz.func19,Tryz.ntmps19
 go_wp2_with fail
 refine (zRg s _ HS.out).mono ?_
 intro e w1 hp
 rw [hr] at hp
 obtain ⟨rfl,hb⟩:=hp
 have hcd:=zqi hr
 have hne:(c != 0)=true:=by rw [bne_iff_ne];omega
 have HP:=zh (show zFb s=(znb,p,c) by unfold zFb;rw [hr])
 have HB:=zh ((Blk.new w zba 34).kp (Kp.of_below (pb:=w.heap.size+1) hb) (by omega))
 have HW:=zh (((Below.refl w.heap.size w).alloc (Nat.le_refl _) _).trans (hb.mono (by simp)))
 clear hb hr hcd
 go_wp2_with ((with_reducible refine zla 34 (.tmp 2) ?_);refine zca rfl 34 (.tmp 2) (.tmp 23) rfl w.heap.size (zaa znb (.slice none 0 0)) rfl rfl HB.out Tryz.zia rfl (zda _ _ rfl) ?_)
 refine zff (cs:=zaa znb (.slice none 0 0)) Tryz.results19 rfl (HB.out.zvb _) Tryz.underlying34 rfl Tryz.zia rfl rfl rfl ?_
 rw [HP.out]
 exact ⟨.slice none 0 0,rfl,KAt.nil _ _ _,below_setRow HW.out (Nat.le_refl _) _⟩
theorem zkm {w:World} {base:Nat} {v:Value} {ts:List Tok} (h:w.ownsRow base 91 4 v ts.length (cellsOf ts)) (hn:0<ts.length) :
  ∃ g cap,v=.slice (some ⟨g,0,none⟩) ts.length cap∧base≤g∧g<w.heap.size∧ts.length≤cap∧zai w g ts:=by
 obtain ⟨g,cap,rfl,hg1,hg2⟩:=h.form hn
 have hcap:ts.length≤cap:=by
  rcases h.2 with ⟨h0,_⟩|⟨g',cap',cur,hv,_,_,hle,_⟩
  ·cases h0
  ·cases hv;exact hle
 refine ⟨g,cap,rfl,hg1,hg2,hcap,fun i t ht=>?_⟩
 have hi:i<ts.length:=(List.getElem?_eq_some_iff.1 ht).1
 have c:∀ q,q<4→w.cell? ⟨g,i * 4+q,none⟩=(zMa t)[q]?:=fun q hq=>by
  rw [h.cellAt (i * 4+q) (by omega),zEg ts i t q ht hq]
 exact ⟨c 0 (by omega),c 1 (by omega),c 2 (by omega),c 3 (by omega)⟩
theorem zfm {B:Nat} {w W:World} (h:Below B w W) (n:Nat):Below B w (W.drewN n):=⟨h.os,h.tape,h.output,h.size,h.block⟩
theorem ztr {l lx:List Tok} {ks:List T} {fx:Int} {qx:Nat} (h:zIa l 0 0 (zJd (l.length+1) l) ks lx fx qx) (hf:(fx == 0)=false):zxe l=.error (qx,fx):=by
 rcases h with ⟨_,⟨_,r1,rfl,rfl,rfl,n1⟩|⟨p,c,r1,rfl,rfl,hc⟩⟩|⟨e0,_⟩
 ·cases hf
 ·unfold zxe;rw [r1];rfl
 ·cases e0
theorem zYs {l lx:List Tok} {ks:List T} {qx:Nat} (h:zIa l 0 0 (zJd (l.length+1) l) ks lx 0 qx):zxe l=.ok (T.mk 0 e0 0 0 ks,lx):=by
 rcases h with ⟨_,⟨_,r1,rfl,_,rfl,n1⟩|⟨p,c,r1,h1,rfl,hc⟩⟩|⟨e0,_⟩
 ·unfold zxe;rw [r1];rfl
 ·rw [← h1] at hc;cases hc
 ·cases e0
theorem zoq (s:ByteArray) (w:World) (hs:s.size≤maxLen) {ts:List Tok} (hr:zHc s=.ok ts) :
  Calls Tryz.prog 19 #[.string s] w (zxh (zFb s) w):=by
 have HS:=zh hs
 clear hs
 obtain ⟨i0,z0,I⟩:=Tryz.zyd
 go_enter Tryz.func19,Tryz.ntmps19
 go_wp2_with fail
 refine (zRg s _ HS.out).mono ?_
 intro e w1 hp
 rw [hr] at hp
 obtain ⟨v,rfl,hown,hb⟩:=hp
 obtain ⟨hE,hok,hlen⟩:=zxf hr
 have hkd:=zYj hr
 have hn:0<ts.length:=by obtain ⟨t,r,rfl⟩:=hE.ne;simp
 obtain ⟨g,cap,rfl,hg1,hg2,hcap,hrow⟩:=zkm hown hn
 have HB:=zh ((Blk.new w zba 34).kp (Kp.of_below (pb:=w.heap.size+1) hb) (by omega))
 have HW:=zh (((Below.refl w.heap.size w).alloc (Nat.le_refl _) _).trans (hb.mono (by simp)))
 have HPB:=zh (show zFb s=zTc ts by unfold zFb;rw [hr])
 have hz1:=HB.out.lt
 have hg0:w.heap.size<g:=by simp at hg1;omega
 obtain ⟨E,hEE⟩:∃ E:Env,E=⟨w1.heap.size,g,cap,ts⟩:=⟨_,rfl⟩
 have hKW:Hid (KW E):=zh (by rw [hEE];exact fun t ht=>(hkd t ht).1)
 have PL0:Hid (zvj E (w1.alloc (.cells #[.slice (some ⟨g,0,none⟩) ts.length cap,.int .i64 0,.int .i64 0,.int .i64 0,.int .i64 0] 89)) ((w1.alloc (.cells #[.slice (some ⟨g,0,none⟩) ts.length cap,.int .i64 0,.int .i64 0,.int .i64 0,.int .i64 0] 89)).alloc (.cells (zaa (T.mk 0 e0 0 0 []) (.slice none 0 0)).toArray 34)) ts 0 0 (w1.heap.size+1) [] (.slice none 0 0)):=zh (by
  have hbp:Blk (w1.alloc (.cells #[.slice (some ⟨g,0,none⟩) ts.length cap,.int .i64 0,.int .i64 0,.int .i64 0,.int .i64 0] 89)) w1.heap.size [.slice (some ⟨g,0,none⟩) ts.length cap,.int .i64 0,.int .i64 0,.int .i64 0,.int .i64 0] 89:=Blk.new w1 _ _
  have hst:RSt E (w1.alloc (.cells #[.slice (some ⟨g,0,none⟩) ts.length cap,.int .i64 0,.int .i64 0,.int .i64 0,.int .i64 0] 89)) ts 0 0 0:=by
   subst hEE
   refine ⟨Nat.le_refl _,by simp,?_,hrow.same (Below.heap_alloc _ _ _ hg2),by show g≠w1.heap.size;omega,by show g<_;simp;omega,hE,hok,fun t ht=>(hkd t ht).2,hlen,hcap,by decide⟩
   simp only [Nat.sub_self]
   exact hbp
  have e1:E.pb=w1.heap.size:=by rw [hEE]
  have e2:E.tb=g:=by rw [hEE]
  exact ⟨hst.alloc _,(Kp.refl _ _).alloc _,Blk.zZj (by simp) _ _,KAt.nil _ _ _,by simp,by omega,by omega⟩)
 have HBA:=zh (HB.out.alloc (.cells #[.slice (some ⟨g,0,none⟩) ts.length cap,.int .i64 0,.int .i64 0,.int .i64 0,.int .i64 0] 89))
 have HWA:=zh (HW.out.alloc HW.out.size (.cells #[.slice (some ⟨g,0,none⟩) ts.length cap,.int .i64 0,.int .i64 0,.int .i64 0,.int .i64 0] 89))
 have e1:E.pb=w1.heap.size:=by rw [hEE]
 have e2:E.tb=g:=by rw [hEE]
 have e3:E.cap=cap:=by rw [hEE]
 have e4:E.ts=ts:=by rw [hEE]
 clear hb hr hE hok hn hown hrow hkd hEE hg1 hg2 hcap
 go_wp2_with fail
 generalize hpb:w1.heap.size=pb at *
 subst e1
 subst e2
 subst e3
 subst e4
 go_loopg [11] (E.ts.length+2) (fun g op wr=>zKr E (w1.alloc (.cells #[.slice (some ⟨E.tb,0,none⟩) E.ts.length E.cap,.int .i64 0,.int .i64 0,.int .i64 0,.int .i64 0] 89)) (E.pb+1) g wr)
 case atStart=>exact ⟨[],_,E.ts,0,0,PL0.out,by simp;omega,fun _=>⟨by omega,E.ts.length+1,Nat.le_refl _,fun ys lf f' q' h=>by rw [List.nil_append];exact h⟩,fun h=>by cases h⟩
 case round =>
  obtain ⟨ks,v,lx,fx,qx,hpl,hcnt,hyes,hno⟩:=hrel
  have PL:=zh hpl
  have HY:=zh hyes
  have HN:=zh hno
  have g0:wr.cell? ⟨E.pb,0,none⟩=some (.slice (some ⟨E.tb,0,none⟩) E.ts.length E.cap):=hpl.st.blk.cell 0
  have g1:wr.cell? ⟨E.pb,1,none⟩=some (.int .i64 ((E.ts.length-lx.length:Nat):Int)):=hpl.st.blk.cell 1
  have g3:wr.cell? ⟨E.pb,3,none⟩=some (.int .i64 fx):=hpl.st.blk.cell 3
  have g4:wr.cell? ⟨E.pb,4,none⟩=some (.int .i64 qx):=hpl.st.blk.cell 4
  obtain ⟨t0,t1,t2,t3⟩:=hpl.st.tok
  have hkl:E.ts.length-lx.length<E.ts.length:=by have:=hpl.st.head.1;have:=hpl.st.le;omega
  have hcapb:=hpl.st.capb
  have ix1:(0:Int)≤((E.ts.length-lx.length:Nat):Int):=by omega
  have ix2:(((E.ts.length-lx.length:Nat):Int))<(E.ts.length:Int):=by omega
  obtain ⟨k,hidx⟩:∃ k,E.ts.length-lx.length=k:=⟨_,rfl⟩
  rw [hidx] at g1 t0 t3 hkl ix1 ix2
  have hplt:E.pb<wr.heap.size:=hpl.st.plt
  have hpls:=hpl.lt
  have HBr:=zh (HBA.out.kp hpl.kp (by omega))
  have HWr:=zh (HWA.out.trans (hpl.kp.below (B:=w.heap.size) (by omega) (by simp;omega)))
  clear hidx hpl hyes hno t1 t2
  cases hfx:(fx == 0) with
  | false =>
   have HF:=zh (HN.out hfx [])
   have hne:(fx != 0)=true:=by rw [bne_iff_ne];intro e;rw [e] at hfx;cases hfx
   have HP:=zh (show zFb s=(znb,qx,fx) by rw [HPB.out];unfold zTc;rw [ztr HF.out hfx])
   have r0:=HBr.out.cell 0
   have r1:=HBr.out.cell 1
   have r2:=HBr.out.cell 2
   have r3:=HBr.out.cell 3
   have r4:=HBr.out.cell 4
   have y0:=HBr.out.frozen 0
   have y1:=HBr.out.frozen 1
   have y2:=HBr.out.frozen 2
   have y3:=HBr.out.frozen 3
   have y4:=HBr.out.frozen 4
   have yl:=HBr.out.lt
   have yn1:E.pb≠w.heap.size:=by omega
   have yn2:w.heap.size≠E.pb:=by omega
   simp only [zba,List.getElem?_cons_zero,List.getElem?_cons_succ] at r0 r1 r2 r3 r4
   clear HY HN
   go_wp2_with fail
   go_quiet (fail)
   go_wp2_with fail
   go_region_held3 (fun w'=>w'.cell? ⟨E.pb,3,none⟩=some (.int .i64 fx)∧w'.cell? ⟨E.pb,4,none⟩=some (.int .i64 qx)) (first|go_keep) (fail)
   have HBz:=zh (fun N=>Blk.zxa (Blk.zxa (Blk.zxa (Blk.zxa (show Blk (wr.drewN N) w.heap.size zba 34 from HBr.out) 0 (.int .i64 0)) 1 (.string ⟨#[]⟩)) 2 (.int .i64 0)) 3 (.int .i64 0))
   have HWz:=zh (fun N=>((((zfm HWr.out N).setCell (p:=⟨w.heap.size,0,none⟩) (Nat.le_refl _) (.int .i64 0)).setCell (p:=⟨w.heap.size,1,none⟩) (Nat.le_refl _) (.string ⟨#[]⟩)).setCell (p:=⟨w.heap.size,2,none⟩) (Nat.le_refl _) (.int .i64 0)).setCell (p:=⟨w.heap.size,3,none⟩) (Nat.le_refl _) (.int .i64 0))
   go_wp2_with fail
   refine zff (cs:=zaa znb (.slice none 0 0)) Tryz.results19 rfl (Blk.zxa (HBz.out _) 4 (.slice none 0 0)) Tryz.underlying34 rfl Tryz.zia rfl rfl rfl ?_
   rw [HP.out]
   exact ⟨.slice none 0 0,rfl,KAt.nil _ _ _,(HWz.out _).setCell (p:=⟨w.heap.size,4,none⟩) (Nat.le_refl _) (.slice none 0 0)⟩
  | true =>
   obtain rfl:fx=0:=beq_iff_eq.1 hfx
   obtain ⟨hg,N,hN,hsee⟩:=HY.out hfx
   have HSEE:=zh hsee
   have hlx:=PL.out.st.head.1
   clear hsee HY HN
   cases hk0:((hdT lx).kind == 0) with
   | true =>
    have hk1:(((hdT lx).kind:Int) != 0)=false:=by rw [beq_iff_eq.1 hk0];rfl
    have HF:=zh (HSEE.out [] lx 0 qx (by rw [zAn (by omega) hk0];exact zIa.done _ _ _ _))
    have HU:=zh (zYs (by have:=HF.out;rwa [List.append_nil] at this))
    have hszu:=zlq HU.out
    have hz:=PL.out.gt
    have hlenE:=PL.out.st.len
    have HP0:=zh (show zFb s=if 4096<(T.mk 0 e0 0 0 ks).size then (znb,0,22) else (T.mk 0 e0 0 0 ks,0,0) by rw [HPB.out];unfold zTc;rw [HU.out])
    have PLd:=zh (fun N=>PL.out.draws N)
    go_wp2_with fail
    go_quiet (fail)
    go_wp2_with ((with_reducible refine zra 34 (.tmp 9) ?_);refine zfa rfl 34 (.tmp 9) rfl (E.pb+1) (T.mk 0 e0 0 0 ks) v rfl (PLd.out _).blk Tryz.underlying34 rfl Tryz.zia ?_)
    refine (zmm _ (T.mk 0 e0 0 0 ks) (Nat.le_refl _) (PLd.out _).kids (by omega)).mono ?_
    rintro e w4 ⟨rfl,hb4⟩
    have PL4:=zh ((PLd.out _).call (Kp.of_below hb4) ((PLd.out _).st.below hb4))
    have HB4:=zh (HBr.out.kp (((Kp.refl E.pb wr).draws _).trans (Kp.of_below hb4)) (by omega))
    have HW4:=zh (HWr.out.trans ((((Kp.refl E.pb wr).draws _).trans (Kp.of_below hb4)).below (B:=w.heap.size) (by omega) hplt))
    clear hb4 g0 g1 g3 g4 t0 t3
    generalize (T.mk 0 e0 0 0 ks).size=sz at *
    by_cases hgt:4096<sz
    ·have hgt2:(4096:Int)<(sz:Int):=by omega
     have HP:=zh (show zFb s=(znb,0,22) by rw [HP0.out,if_pos hgt])
     clear hgt
     go_wp2_with ((with_reducible refine zla 34 (.tmp 2) ?_);refine zca rfl 34 (.tmp 2) (.tmp 106) rfl w.heap.size (zaa znb (.slice none 0 0)) rfl rfl HB4.out Tryz.zia rfl (zda _ _ rfl) ?_)
     refine zff (cs:=zaa znb (.slice none 0 0)) Tryz.results19 rfl (HB4.out.zvb _) Tryz.underlying34 rfl Tryz.zia rfl rfl rfl ?_
     rw [HP.out]
     exact ⟨.slice none 0 0,rfl,KAt.nil _ _ _,below_setRow HW4.out (Nat.le_refl _) _⟩
    ·have hgt2:¬ (4096:Int)<(sz:Int):=by omega
     have HP:=zh (show zFb s=(T.mk 0 e0 0 0 ks,0,0) by rw [HP0.out,if_neg hgt])
     clear hgt
     go_wp2_with (first|((with_reducible refine zra 34 (.tmp 9) ?_);refine zfa rfl 34 (.tmp 9) rfl (E.pb+1) (T.mk 0 e0 0 0 ks) v rfl PL4.out.blk Tryz.underlying34 rfl Tryz.zia ?_)|((with_reducible refine zla 34 (.tmp 2) ?_);refine zca rfl 34 (.tmp 2) (.tmp 107) rfl w.heap.size (zaa (T.mk 0 e0 0 0 ks) v) rfl rfl HB4.out Tryz.zia rfl (zda _ _ PL4.out.kids.one) ?_))
     refine zff (cs:=zaa (T.mk 0 e0 0 0 ks) v) Tryz.results19 rfl (HB4.out.zvb _) Tryz.underlying34 rfl Tryz.zia rfl rfl rfl ?_
     rw [HP.out]
     exact ⟨v,rfl,(PL4.out.kids.setRow w.heap.size _ (fun b hb=>by omega)).mono (fun b hb _=>by omega),below_setRow HW4.out (Nat.le_refl _) _⟩
   | false =>
    have hk1:(((hdT lx).kind:Int) != 0)=true:=by rw [bne_iff_ne];intro e;rw [beq_eq_false_iff_ne] at hk0;omega
    go_wp2_with fail
    go_quiet (fail)
    go_wp2_with fail
    go_quiet (fail)
    go_wp2_with fail
    refine (zqb (PL.out.draws _).st (bs [102,110]) keyFn (by decide)).mono ?_
    rintro e w4 ⟨b4,l4,rfl,hs4,hp4,hc4⟩
    clear g0 g1 g3 g4 t0 t3
    rcases hc4 with ⟨rfl,hf4,hi4,hl4⟩|⟨rfl,hx4,hl4⟩
    ·rw [hl4] at hs4
     have PL4:=zh ((PL.out.draws _).call hp4 hs4)
     clear hs4 hp4
     go_wp2_with fail
     refine (zRs PL4.out.st hKW.out (hdT lx).place).mono ?_
     rintro e w5 ⟨t5,v5,l5,f5,q5,rfl,hk5,hn5,hs5,hp5,hsee5⟩
     have PL5:=zh (PL4.out.call hp5 hs5)
     have HV5:=zh (PL4.out.fresh hk5)
     have HNX:=zh (zoi hk0 hN (by rw [zXs hi4];exact zIa.behind rfl hsee5) HSEE.out)
     have hz5:E.pb+1<w5.heap.size:=PL5.out.lt
     have n4:w5.cell? ⟨E.pb+1,4,none⟩=some v:=PL5.out.blk.cell 4
     clear hk5 hs5 hp5 hsee5 hn5
     unfold zma
     go_wp2_with (first|((with_reducible refine zla 34 (.tmp 12) ?_);refine zga rfl 34 (.tmp 12) (.tmp 65) rfl (zaa t5 v5) (old:=zba) rfl rfl Tryz.zia rfl (zda _ _ HV5.out.one) ?_)|((with_reducible refine zra 34 (.tmp 12) ?_);refine zfa rfl 34 (.tmp 12) rfl w5.heap.size t5 v5 rfl (Blk.zZj (by simp) _ _) Tryz.underlying34 rfl Tryz.zia ?_)|(at_builtin;refine zya rfl (.tmp 67) (.tmp 69) rfl I (ks:=ks) (ts:=[t5]) (S:=fun b=>E.pb+1<b) rfl ((PL5.out.alloc _).alloc _).kids (us:=[v5]) (zLc.single ?c1) ?c2 rfl rfl (by simp) (zle _ (by simp) _ t5 v5) ?c3 ?_))
     case c1=>exact TAt.zNa ((HV5.out.alloc _).alloc _)
     case c2=>simp only [World.size_alloc];omega
     case c3=>simp;omega
     intro v6 w6 hK6 hg6 hb6
     obtain ⟨sa,sn,sc,rfl⟩:=hK6.slice
     obtain ⟨ha1,ha2,ha3,ha4⟩:=((PL5.out.alloc _).alloc _).after hK6 hg6
     have PL6:=zh ha1
     clear ha1 hK6 hg6 hb6 n4
     go_wp2
     go_roundg (gk-1)
     case measure=>omega
     case rel=>exact ⟨ks++[t5],_,l5,f5,q5,PL6.out,by simp;omega,fun hf=>by
      obtain ⟨h1,M,h2,h3⟩:=HNX.out.1 hf
      exact ⟨by omega,M,h2,h3⟩,HNX.out.2⟩
    ·rw [hl4] at hs4
     have hi4:isT (hdT lx) (bs [102,110])=false:=by simpa using hx4
     have PL3:=zh ((PL.out.draws _).call hp4 hs4)
     clear hs4 hp4 hx4
     go_wp2_with fail
     cases hty:isT (hdT lx) (bs [116,121,112,101]) with
     | true =>
      refine (zRi PL3.out.st (bs [116,121,112,101]) keyType (by decide) hty).mono ?_
      rintro e w6 ⟨rfl,hs6,hp6⟩
      have PL4:=zh (PL3.out.call hp6 hs6)
      have c3:w6.cell? ⟨E.pb,3,none⟩=some (.int .i64 0):=hs6.blk.cell 3
      clear hs6 hp6
      go_wp2_with fail
      refine (zEr PL4.out.st (hdT lx).place).mono ?_
      rintro e w5 ⟨t5,v5,l5,f5,q5,rfl,hk5,hn5,hs5,hp5,hsee5⟩
      have PL5:=zh (PL4.out.call hp5 hs5)
      have HV5:=zh (PL4.out.fresh hk5)
      have HNX:=zh (zoi hk0 hN (by rw [zOo hty];exact zIa.behind rfl hsee5) HSEE.out)
      have hz5:E.pb+1<w5.heap.size:=PL5.out.lt
      have n4:w5.cell? ⟨E.pb+1,4,none⟩=some v:=PL5.out.blk.cell 4
      clear hk5 hs5 hp5 hsee5 hn5
      unfold zma
      go_wp2_with (first|((with_reducible refine zla 34 (.tmp 13) ?_);refine zga rfl 34 (.tmp 13) (.tmp 81) rfl (zaa t5 v5) (old:=zba) rfl rfl Tryz.zia rfl (zda _ _ HV5.out.one) ?_)|((with_reducible refine zra 34 (.tmp 13) ?_);refine zfa rfl 34 (.tmp 13) rfl w5.heap.size t5 v5 rfl (Blk.zZj (by simp) _ _) Tryz.underlying34 rfl Tryz.zia ?_)|(at_builtin;refine zya rfl (.tmp 83) (.tmp 85) rfl I (ks:=ks) (ts:=[t5]) (S:=fun b=>E.pb+1<b) rfl ((PL5.out.alloc _).alloc _).kids (us:=[v5]) (zLc.single ?c1) ?c2 rfl rfl (by simp) (zle _ (by simp) _ t5 v5) ?c3 ?_))
      case c1=>exact TAt.zNa ((HV5.out.alloc _).alloc _)
      case c2=>simp only [World.size_alloc];omega
      case c3=>simp;omega
      intro v6 w6 hK6 hg6 hb6
      obtain ⟨sa,sn,sc,rfl⟩:=hK6.slice
      obtain ⟨ha1,ha2,ha3,ha4⟩:=((PL5.out.alloc _).alloc _).after hK6 hg6
      have PL6:=zh ha1
      clear ha1 hK6 hg6 hb6 n4
      go_wp2
      go_roundg (gk-1)
      case measure=>omega
      case rel=>exact ⟨ks++[t5],_,l5,f5,q5,PL6.out,by simp;omega,fun hf=>by
       obtain ⟨h1,M,h2,h3⟩:=HNX.out.1 hf
       exact ⟨by omega,M,h2,h3⟩,HNX.out.2⟩
     | false =>
      refine (zvm PL3.out.st (bs [116,121,112,101]) keyType hty).mono ?_
      rintro e w6 ⟨rfl,hs6,hp6⟩
      have PL4:=zh (PL3.out.call hp6 hs6)
      have c3:w6.cell? ⟨E.pb,3,none⟩=some (.int .i64 20):=hs6.blk.cell 3
      have HNX:=zh (zoi (t5:=znb) (l5:=lx) (f5:=20) (q5:=(hdT lx).place) hk0 hN (.inl ⟨rfl,.inr ⟨_,_,zxs hi4 hty,rfl,rfl,rfl⟩⟩) HSEE.out)
      clear hs6 hp6
      go_wp2
      go_roundg (gk-1)
      case measure=>omega
      case rel=>exact ⟨ks,_,lx,20,(hdT lx).place,PL4.out,by omega,fun hf=>(by cases hf),HNX.out.2⟩
theorem zsn (s:ByteArray) (w:World) (hs:s.size≤maxLen):Calls Tryz.prog 19 #[.string s] w (zxh (zFb s) w):=by
 cases hr:zHc s with
 | error pc=>obtain ⟨p,c⟩:=pc;exact zGn s w hs hr
 | ok ts=>exact zoq s w hs hr
end
section
open Go.RowKit
def zEa (w:World) (ts:List Tm) (S:Nat→Prop) (v:Value):Prop :=
 w.ownsRow 0 103 2 v ts.length (zgb ts)∧∀ g,v.ownBlock=some g→S g
def zrb (w:World):List Ins→(Nat→Prop)→List Value→Prop
 | [],_,vs=>vs=[]
 | i :: is,S,vs=>∃ v vs',vs=v :: vs'∧zEa w i.args S v∧zrb w is S vs'
def zSa (w:World) (is:List Ins) (S:Nat→Prop) (v:Value):Prop :=
 ∃ vs,w.ownsRow 0 106 11 v is.length (zVb is vs)∧(∀ g,v.ownBlock=some g→S g)∧zrb w is (fun b=>S b∧v.ownBlock≠some b) vs
theorem zEa.nil (w:World) (S:Nat→Prop):zEa w [] S (.slice none 0 0) :=
 ⟨World.ownsRow_nil _ _ _ _,fun g h=>by simp [Value.ownBlock] at h⟩
theorem zEa.one {w:World} {ts:List Tm} {S:Nat→Prop} {v:Value} (h:zEa w ts S v):v.oneCell'=true:=by
 rcases h.1.2 with ⟨rfl,_⟩|⟨_,_,_,rfl,_⟩<;>rfl
theorem zEa.slice {w:World} {ts:List Tm} {S:Nat→Prop} {v:Value} (h:zEa w ts S v):∃ a n c,v=.slice a n c:=by
 rcases h.1.2 with ⟨rfl,_⟩|⟨_,_,_,rfl,_⟩<;>exact ⟨_,_,_,rfl⟩
theorem zEa.keep {w w':World} {ts:List Tm} {S S':Nat→Prop} {v:Value} (h:zEa w ts S v) (hk:∀ b,S b→b<w.heap.size→S' b∧w'.heap[b]?=w.heap[b]?):zEa w' ts S' v :=
 ⟨znd h.1 fun g hg=>(hk g (h.2 g hg) (h.1.lt g hg).2).2,fun g hg=>(hk g (h.2 g hg) (h.1.lt g hg).2).1⟩
theorem zrb.keep {w w':World}:∀ (is:List Ins) {S S':Nat→Prop} {vs:List Value},zrb w is S vs→(∀ b,S b→b<w.heap.size→S' b∧w'.heap[b]?=w.heap[b]?)→zrb w' is S' vs
 | [],_,_,_,h,_=>h
 | i :: is,S,S',vs,h,hk=>by
  obtain ⟨v,vs',e,ha,hs⟩:=h
  exact ⟨v,vs',e,ha.keep hk,zrb.keep is hs hk⟩
theorem zSa.keep {w w':World} {is:List Ins} {S S':Nat→Prop} {v:Value} (h:zSa w is S v) (hk:∀ b,S b→b<w.heap.size→S' b∧w'.heap[b]?=w.heap[b]?):zSa w' is S' v:=by
 obtain ⟨vs,ho,hS,ha⟩:=h
 exact ⟨vs,znd ho fun g hg=>(hk g (hS g hg) (ho.lt g hg).2).2,fun g hg=>(hk g (hS g hg) (ho.lt g hg).2).1,zrb.keep is ha fun b hb hl=>⟨⟨(hk b hb.1 hl).1,hb.2⟩,(hk b hb.1 hl).2⟩⟩
theorem zrb.length {w:World}:∀ {is:List Ins} {S:Nat→Prop} {vs:List Value},zrb w is S vs→vs.length=is.length
 | [],_,_,h=>by rw [show _=[] from h];rfl
 | i :: is,_,_,h=>by obtain ⟨v,vs',rfl,_,h'⟩:=h;simp [zrb.length h']
theorem zrb.append {w:World}:∀ {is js:List Ins} {S:Nat→Prop} {vs us:List Value},zrb w is S vs→zrb w js S us→zrb w (is++js) S (vs++us)
 | [],_,_,vs,_,h,h'=>by rw [show vs=[] from h];exact h'
 | i :: is,js,_,_,us,h,h'=>by
  obtain ⟨v,vs',rfl,ha,hs⟩:=h
  exact ⟨v,vs'++us,rfl,ha,zrb.append hs h'⟩
theorem zjf {w:World}:∀ {is:List Ins} {S:Nat→Prop} {vs:List Value},zrb w is S vs→(zVb is vs).length=is.length * 11
 | [],_,_,_=>by simp [zVb]
 | i :: is,_,_,h=>by
  obtain ⟨v,vs',rfl,_,hs⟩:=h
  simp only [zVb,List.length_append,zjf hs,List.length_cons]
  show 11+_=_
  omega
theorem zSa.nil (w:World) (S:Nat→Prop):zSa w [] S (.slice none 0 0) :=
 ⟨[],World.ownsRow_nil _ _ _ _,(fun g h=>by simp [Value.ownBlock] at h),rfl⟩
section
variable {w w':World} {is:List Ins} {ts:List Tm} {S S':Nat→Prop} {v:Value}
theorem zSa.mono (h:zSa w is S v) (hS:∀ b,S b→b<w.heap.size→S' b):zSa w is S' v:=h.keep fun b hb hl=>⟨hS b hb hl,rfl⟩
theorem zSa.below (h:zSa w is S v) (hk:Below w.heap.size w w'):zSa w' is S v:=h.keep fun b hb hl=>⟨hb,hk.block b hl⟩
theorem zSa.alloc (h:zSa w is S v) (o:Obj):zSa (w.alloc o) is S v:=h.keep fun b hb hl=>⟨hb,Below.heap_alloc w o b hl⟩
theorem zSa.drew (h:zSa w is S v):zSa w.drew is S v:=h.keep fun _ hb _=>⟨hb,rfl⟩
theorem zSa.setRow (h:zSa w is S v) (g:Nat) (cs:Array Value) (hS:∀ b,S b→b≠g):zSa (w.setRow g cs) is S v:=h.keep fun b hb _=>⟨hb,setRow_other w g b cs (hS b hb)⟩
theorem zSa.setCell (h:zSa w is S v) (a:Addr) (x:Value) (hS:∀ b,S b→b≠a.block):zSa (w.setCell a x) is S v:=h.keep fun b hb _=>⟨hb,Below.heap_setCell w a x b (hS b hb)⟩
theorem zEa.mono (h:zEa w ts S v) (hS:∀ b,S b→b<w.heap.size→S' b):zEa w ts S' v:=h.keep fun b hb hl=>⟨hS b hb hl,rfl⟩
theorem zEa.below (h:zEa w ts S v) (hk:Below w.heap.size w w'):zEa w' ts S v:=h.keep fun b hb hl=>⟨hb,hk.block b hl⟩
theorem zEa.alloc (h:zEa w ts S v) (o:Obj):zEa (w.alloc o) ts S v:=h.keep fun b hb hl=>⟨hb,Below.heap_alloc w o b hl⟩
theorem zEa.drew (h:zEa w ts S v):zEa w.drew ts S v:=h.keep fun _ hb _=>⟨hb,rfl⟩
theorem zEa.setRow (h:zEa w ts S v) (g:Nat) (cs:Array Value) (hS:∀ b,S b→b≠g):zEa (w.setRow g cs) ts S v:=h.keep fun b hb _=>⟨hb,setRow_other w g b cs (hS b hb)⟩
theorem zEa.setCell (h:zEa w ts S v) (a:Addr) (x:Value) (hS:∀ b,S b→b≠a.block):zEa (w.setCell a x) ts S v:=h.keep fun b hb _=>⟨hb,Below.heap_setCell w a x b (hS b hb)⟩
end
theorem zSa.slice {w:World} {is:List Ins} {S:Nat→Prop} {v:Value} (h:zSa w is S v):∃ a c,v=.slice a is.length c:=by
 obtain ⟨_,ho,_⟩:=h
 rcases ho.2 with ⟨rfl,h0⟩|⟨g,cap,_,rfl,_⟩
 ·exact ⟨_,_,by rw [h0]⟩
 ·exact ⟨_,_,rfl⟩
theorem zSa.one {w:World} {is:List Ins} {S:Nat→Prop} {v:Value} (h:zSa w is S v):v.oneCell'=true:=by
 obtain ⟨_,_,rfl⟩:=h.slice
 rfl
theorem zmi {P:Program} {w:World} {t ty:TypeId} {i:TypeInfo} {z:Value} {by':Nat} (I:zAe P t 106 11 by' i z) (hby:by'≤1000) {is js:List Ins} {S:Nat→Prop} {v:Value} (hk:zSa w is S v) {us:List Value}
  (hts:zrb w js (fun b=>S b∧v.ownBlock≠some b) us) (hS:S w.heap.size) {a:Addr} {c:Nat} (hm:0<js.length) (hnews:∀ j u,(zVb js us)[j]?=some u→w.cell? (a.add j)=some u) (h1:∀ u∈zVb js us,u.oneCell'=true) (hb:is.length+js.length≤100000) :
  ∃ v' w',(Builtin.append_ #[t,t] ty #[v,.slice (some a) js.length c]).run P w=.ok v' w'∧zSa w' (is++js) S v'∧w.grownBy w' v.ownBlock∧(v'.ownBlock=v.ownBlock∨v'.ownBlock=some w.heap.size):=by
 obtain ⟨vs,hown,hSv,hks⟩:=hk
 have hbb:(is.length+js.length) * by'≤140737488355328:=Nat.le_trans (Nat.mul_le_mul hb hby) (by omega)
 obtain ⟨v',w',hr,ho',hg',_⟩:=run_append_own (P:=P) w 0 t ty 106 i z 11 by' I.ht I.hi I.hz I.size I.bytes I.zs (by decide) v is.length (zVb is vs) hown a js.length c (zVb js us) (zjf hts) hnews h1
  (by unfold maxLen;omega) hbb (Nat.zero_le _)
 have hbk:=zZd (ty:=ty) I.ht I.hi I.hz I.size I.bytes hown hm (zjf hts) hnews h1 (by unfold maxLen;omega) hbb hr
 refine ⟨v',w',hr,⟨vs++us,?_,?_,?_⟩,hg',hbk⟩
 ·rw [zyf _ _ _ _ hks.length,List.length_append]
  exact ho'
 ·intro g hg
  rcases hbk with h|h
  ·exact hSv g (h▸hg)
  ·rw [h] at hg;cases hg;exact hS
 ·have keep:∀ b,(S b∧v.ownBlock≠some b)→b<w.heap.size→(S b∧v'.ownBlock≠some b)∧w'.heap[b]?=w.heap[b]?:=fun b hb hl=>by
   refine ⟨⟨hb.1,fun h=>?_⟩,hg'.block b hl (Ne.symm hb.2)⟩
   rcases hbk with h'|h'
   ·exact hb.2 (h'▸h)
   ·rw [h'] at h;cases h;exact absurd hl (Nat.lt_irrefl _)
  exact zrb.append (zrb.keep _ hks keep) (zrb.keep _ hts keep)
theorem zsg {P:Program} {w:World} {o:Oper} {a:Act} {K:Act→World→Prop} {Q:Exit→Act→World→Prop} (s x:Operand) {t:TypeId} (ho:o.op=.call { callee:=.builtin .append,args:=#[s,x],argTypes:=#[t,t] })
  {i:TypeInfo} {z:Value} {by':Nat} (I:zAe P t 106 11 by' i z) (hby:by'≤1000) {is:List Ins} {j:Ins} {S:Nat→Prop} {v:Value} (hs:a.eval s=v) (hk:zSa w is S v) {u:Value}
  (hu:zEa w j.args (fun b=>S b∧v.ownBlock≠some b) u) (hS:S w.heap.size) {ad:Addr} {c:Nat} (hx:a.eval x=.slice (some ad) 1 c) (hnews:∀ k y,(zea j u)[k]?=some y→w.cell? (ad.add k)=some y)
  (hb:is.length+1≤100000)
  (h:∀ v' w',zSa w' (is++[j]) S v'→w.grownBy w' v.ownBlock→(v'.ownBlock=v.ownBlock∨v'.ownBlock=some w.heap.size)→K (a.put o.dst v') w'):o.wp P a w K Q:=by
 have hr1:zVb [j] [u]=zea j u:=by simp [zVb]
 obtain ⟨v',w',hr,h2,h3,h4⟩:=zmi (ty:=o.type) (c:=c) (a:=ad) (js:=[j]) (us:=[u]) I hby hk ⟨u,[],rfl,hu,rfl⟩ hS (by simp) (by rw [hr1];exact hnews) (by rw [hr1];exact zna j u hu.one) hb
 unfold Oper.wp execOp
 simp only [ho,resolve,invoke,builtin,Sem.run_bind,Sem.run_pure,Result.andThen_ok,List.map_toArray,List.map_cons,List.map_nil,hs,hx]
 rw [show ([j]:List Ins).length=1 from rfl] at hr
 rw [hr]
 exact h v' w' h2 h3 h4
theorem zzb {P:Program} {w:World} {ops:Array Oper} {rest:List Oper} {o:Oper} {a:Act} {Q:Exit→Act→World→Prop} (hgd:o.guard=none) (s x:Operand) {t:TypeId} (ho:o.op=.call { callee:=.builtin .append,args:=#[s,x],argTypes:=#[t,t] })
  {i:TypeInfo} {z:Value} {by':Nat} (I:zAe P t 106 11 by' i z) (hby:by'≤1000) {is:List Ins} {j:Ins} {S:Nat→Prop} {v:Value} (hs:a.eval s=v) (hk:zSa w is S v) {u:Value}
  (hu:zEa w j.args (fun b=>S b∧v.ownBlock≠some b) u) (hS:S w.heap.size) {ad:Addr} {c:Nat} (hx:a.eval x=.slice (some ad) 1 c) (hnews:∀ k y,(zea j u)[k]?=some y→w.cell? (ad.add k)=some y)
  (hb:is.length+1≤100000)
  (h:∀ v' w',zSa w' (is++[j]) S v'→w.grownBy w' v.ownBlock→(v'.ownBlock=v.ownBlock∨v'.ownBlock=some w.heap.size)→wpList P ops Q rest (a.put o.dst v') w'):wpList P ops Q (o :: rest) a w :=
 wpList_plain hgd fun _ hK=>zsg s x ho I hby hs hk hu hS hx hnews hb fun v' w' h2 h3 h4=>hK _ _ (h v' w' h2 h3 h4)
theorem zrb.get {w:World}:∀ {is:List Ins} {S:Nat→Prop} {vs:List Value},zrb w is S vs→∀ {k:Nat} {i:Ins},is[k]?=some i→∃ u,vs[k]?=some u∧zEa w i.args S u
 | [],_,_,_,k,t,h=>by simp at h
 | a :: ts,S,vs,h,0,t,hk=>by
  obtain ⟨v,vs',rfl,ht,_⟩:=h
  obtain rfl:a=t:=by simpa using hk
  exact ⟨v,rfl,ht⟩
 | a :: ts,S,vs,h,k+1,t,hk=>by
  obtain ⟨v,vs',rfl,_,hts⟩:=h
  obtain ⟨u,hu,ht⟩:=zrb.get hts (k:=k) (i:=t) (by simpa using hk)
  exact ⟨u,by simpa using hu,ht⟩
theorem zrb.znf {w:World}:∀ {is:List Ins} {S:Nat→Prop} {vs:List Value} {k:Nat} {i:Ins} {to:Nat},zrb w is S vs→is[k]?=some i→zrb w (is.set k (i.znf to)) S vs
 | [],_,_,k,t,_,_,h=>by simp at h
 | a :: ks,_,_,0,t,_,h,hk=>by
  obtain ⟨v,vs',rfl,ha,hs⟩:=h
  obtain rfl:a=t:=by simpa using hk
  exact ⟨v,vs',rfl,ha,hs⟩
 | a :: ks,_,_,k+1,t,_,h,hk=>by
  obtain ⟨v,vs',rfl,ha,hs⟩:=h
  exact ⟨v,vs',rfl,ha,zrb.znf hs (by simpa using hk)⟩
theorem zSa.form {w:World} {is:List Ins} {S:Nat→Prop} {v:Value} (h:zSa w is S v):(v=.slice none 0 0∧is=[])∨∃ g cap,v=.slice (some ⟨g,0,none⟩) is.length cap∧g<w.heap.size∧is.length≤cap∧cap≤maxLen ∧
  ∀ k i,is[k]?=some i→∃ u,w.rangeAt g (k * 11) (zea i u)∧zEa w i.args S u:=by
 obtain ⟨vs,ho,hS,hts⟩:=h
 have ho':=ho
 rcases ho.2 with ⟨rfl,h0⟩|⟨g,cap,cur,rfl,hb,hg,hnc,hcm,hcs,htake⟩
 ·exact .inl ⟨rfl,List.eq_nil_of_length_eq_zero h0⟩
 ·refine .inr ⟨g,cap,rfl,(Array.getElem?_eq_some_iff.1 hg).1,hnc,hcm,fun k i hk=>?_⟩
  obtain ⟨u,hu,ht⟩:=hts.get hk
  refine ⟨u,fun j x hj=>?_,ht.mono fun b hb _=>hb.1⟩
  have hj5:j<11:=by have:=(List.getElem?_eq_some_iff.1 hj).1;simpa [zea] using this
  have hlt:k<is.length:=(List.getElem?_eq_some_iff.1 hk).1
  rw [ho'.cellAt (k * 11+j) (by omega),zdg is vs k i u j hk hu hj5]
  exact hj
theorem zEa.len {w:World} {ts:List Tm} {S:Nat→Prop} {v:Value} (h:zEa w ts S v):∃ a c,v=.slice a ts.length c:=by
 rcases h.1.2 with ⟨rfl,h0⟩|⟨g,cap,_,rfl,_⟩
 ·exact ⟨_,_,by rw [h0]⟩
 ·exact ⟨_,_,rfl⟩
end
section
open Go.RowKit
theorem Tryz.zlb:(Tryz.prog.info? 103).map (·.size)=some 2:=by kernel_rfl
theorem Tryz.zGa:(Tryz.prog.info? 34).map (·.size)=some 5:=by kernel_rfl
theorem Tryz.zmq:∃ i z,zAe Tryz.prog 104 103 2 24 i z:=by
 have h:(Tryz.prog.info? 103).map (fun i=>(i.zero,i.size,i.bytes))=some (some (.agg #[.string ⟨#[]⟩,.int .i64 0]),2,24):=by kernel_rfl
 obtain ⟨i0,hi,hz0,hz1,hz2⟩:=info_parts h
 exact ⟨i0,_,Tryz.underlying104,hi,hz0,hz1,hz2,rfl⟩
theorem zmh {P:Program} {w:World} {ops:Array Oper} {rest:List Oper} {o:Oper} {a:Act} {Q:Exit→Act→World→Prop} (hgd:o.guard=none) (s x:Operand) {t:TypeId} (ho:o.op=.call { callee:=.builtin .append,args:=#[s,x],argTypes:=#[t,t] })
  {i:TypeInfo} {z:Value} (I:zAe P t 103 2 24 i z) {ts:List Tm} {u:Tm} {S:Nat→Prop} {v:Value} (hs:a.eval s=v) (hk:zEa w ts S v) (hS:S w.heap.size) {b c:Nat} (hx:a.eval x=.slice (some ⟨b,0,none⟩) 1 c) (hg:Blk w b (zab u) 103)
  (hb:ts.length+1≤100000)
  (h:∀ v' w',zEa w' (ts++[u]) S v'→w.grownBy w' v.ownBlock→wpList P ops Q rest (a.put o.dst v') w'):wpList P ops Q (o :: rest) a w:=by
 obtain ⟨hown,hSv⟩:=hk
 have hbb:(ts.length+1) * 24≤140737488355328:=by omega
 have hnews:∀ j y,(zab u)[j]?=some y→w.cell? ((⟨b,0,none⟩:Addr).add j)=some y:=fun j y hj=>by rw [Addr.add_mid,Nat.zero_add,hg.cell j];exact hj
 have h1:∀ y∈zab u,y.oneCell'=true:=fun y hy=>by simp [zab] at hy;rcases hy with rfl|rfl<;>rfl
 obtain ⟨v',w',hr,ho',hg',_⟩:=run_append_own (P:=P) w 0 t o.type 103 i z 2 24 I.ht I.hi I.hz I.size I.bytes I.zs (by decide) v ts.length (zgb ts) hown ⟨b,0,none⟩ 1 c (zab u) rfl hnews h1 (by unfold maxLen;omega) hbb (Nat.zero_le _)
 have hbk:=zZd (ty:=o.type) I.ht I.hi I.hz I.size I.bytes hown (by omega) (by rfl) hnews h1 (by unfold maxLen;omega) hbb hr
 refine wpList_plain hgd fun _ hK=>?_
 unfold Oper.wp execOp
 simp only [ho,resolve,invoke,builtin,Sem.run_bind,Sem.run_pure,Result.andThen_ok,List.map_toArray,List.map_cons,List.map_nil,hs,hx]
 rw [hr]
 refine hK _ _ (h v' w' ⟨?_,?_⟩ hg')
 ·rw [List.length_append,zNf]
  have e:zgb [u]=zab u:=by simp [zgb]
  rw [e]
  exact ho'
 ·intro g hg2
  rcases hbk with h|h
  ·exact hSv g (h▸hg2)
  ·rw [h] at hg2;cases hg2;exact hS
theorem zuf (w:World) (t:T) (kv:Value):Calls Tryz.prog 86 #[zma t kv] w fun e w'=>e=.returned (.agg #[.string t.text,.int .i64 t.num])∧Below w.heap.size w w':=by
 have HB:=zh (show Below w.heap.size w ((w.alloc (.cells (zaa t kv).toArray 34)).alloc (.cells (zab (zDa t)).toArray 103)) from (((Below.refl _ _).alloc (Nat.le_refl _) _).alloc (by simp) _))
 have HRes:=zh (Blk.zpc w (.cells (zaa t kv).toArray 34) (zab (zDa t)) 103)
 unfold zma
 go_enter Tryz.func86,Tryz.ntmps86
 go_wp2_with fail
 exact bodyPost_ret (zFd (cs:=zab (zDa t)) Tryz.results86 rfl HRes.out Tryz.underlying103 rfl Tryz.zlb) rfl ⟨rfl,HB.out⟩
def RTRel (w:World) (ks:List T) (g:Nat) (out i:Value) (wr:World):Prop :=
 ∃ k:Nat,k≤ks.length∧ks.length≤k+g∧i=.int .i64 k∧zEa wr ((ks.take k).map zDa) (fun b=>w.heap.size≤b) out∧Below w.heap.size w wr
theorem zWi {w:World} {ks:List T} {S:Nat→Prop} {kv:Value} (hk:KAt 34 w ks S kv) (hl:ks.length≤5000) :
  Calls Tryz.prog 128 #[kv] w fun e w'=>∃ v,e=.returned v∧zEa w' (ks.map zDa) (fun b=>w.heap.size≤b) v∧Below w.heap.size w w':=by
 obtain ⟨it,zt,IT⟩:=Tryz.zmq
 rcases hk.form with ⟨rfl,hnil⟩|⟨g,cap,rfl,hg,hcap,hcm,hget⟩
 ·subst hnil
  clear hk
  go_enter Tryz.func128,Tryz.ntmps128
  go_wp2_with fail
  refine wp_loop_rounds 1 ?_
  rw [rounds_succ]
  go_wp2_with fail
  go_ret
  exact ⟨_,rfl,zEa.nil _ _,Below.refl _ _⟩
 ·have HG:=zh hget
  have HCAP:=zh hcap
  clear hk hget hcap
  unfold maxLen at hcm
  go_enter Tryz.func128,Tryz.ntmps128
  go_wp2_with fail
  go_loopg [3,4] ks.length (fun gk out i wr=>RTRel w ks gk out i wr)
  case atStart=>exact ⟨0,by omega,by omega,rfl,zEa.nil _ _,Below.refl _ _⟩
  case round =>
   obtain ⟨k,hk,hgk,rfl,hat,hbel⟩:=hrel
   have HAT:=zh hat
   have HB:=zh hbel
   have hzw:=hbel.size
   obtain ⟨va,vn,vc,rfl⟩:=hat.slice
   clear hat hbel
   by_cases hlt:k<ks.length
   ·obtain ⟨u,hr,hT⟩:=HG.out k ks[k] (List.getElem?_eq_getElem hlt)
    have HTK:=zh (show (ks.take (k+1)).map zDa=(ks.take k).map zDa++[zDa ks[k]] by rw [List.take_succ_eq_append_getElem hlt,List.map_append];rfl)
    generalize ks[k]=tk at hr hT HTK
    have HR:=zh (zpa hr HB.out hg)
    have hcap:=HCAP.out
    have hlen:((ks.take k).map zDa).length+1≤100000:=by simp;omega
    clear hr hT
    go_wp2_with (first
     | ((with_reducible refine zra 34 (.tmp 14) ?_);refine wpList_load_mid rfl 34 (.tmp 14) rfl g (k * 5) rfl (zaa tk u) _ HR.out Tryz.underlying34 rfl Tryz.zGa ?_))
    refine (zuf wr tk u).mono ?_
    rintro e w1 ⟨rfl,hb1⟩
    have HAT1:=zh (((HAT.out.below hb1).alloc (.cells (zab (zDa tk)).toArray 103)).alloc (.cells (zab (zDa tk)).toArray 103))
    have HB1:=zh (((HB.out.trans (hb1.mono HB.out.size)).alloc (Nat.le_trans HB.out.size hb1.size) (.cells (zab (zDa tk)).toArray 103)).alloc (by simp;exact Nat.le_succ_of_le (Nat.le_trans HB.out.size hb1.size)) (.cells (zab (zDa tk)).toArray 103))
    have HN1:=zh (Blk.zpc w1 (.cells (zab (zDa tk)).toArray 103) (zab (zDa tk)) 103)
    have HLN:=zh hlen
    clear hb1
    go_wp2_with (first
     | (at_builtin;refine zmh (u:=zDa tk) (b:=w1.heap.size+1) rfl (.tmp 17) (.tmp 19) rfl IT rfl HAT1.out (Nat.le_trans HB1.out.size (Nat.le_refl _)) rfl HN1.out HLN.out ?_))
    intro v' w2 ha2 hg2
    have hS1:∀ b,(Value.slice va vn vc).ownBlock=some b→w.heap.size≤b:=HAT.out.2
    have HB2:=zh (HB1.out.grown hg2 (by have:=HB1.out.size;exact this) hS1)
    have HA2:=zh ha2
    obtain ⟨va2,vn2,vc2,rfl⟩:=ha2.slice
    clear ha2 hg2
    go_wp2_with fail
    go_roundg (gk-1)
    case measure=>omega
    case rel=>exact ⟨k+1,by omega,by omega,by go_num,by rw [HTK.out,List.map_take];exact HA2.out,HB2.out⟩
   ·have hE:(ks.take k).map zDa=ks.map zDa:=by rw [List.take_of_length_le (by omega)]
    go_wp2_with fail
    go_ret
    exact ⟨_,rfl,hE▸HAT.out,HB.out⟩
end
end Go.Proofs.YthdbmgijpelecaaGreatDoor
