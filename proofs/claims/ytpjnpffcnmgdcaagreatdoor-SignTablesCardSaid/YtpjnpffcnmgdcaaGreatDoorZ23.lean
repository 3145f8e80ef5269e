/- The contract of lychgateref02.Parse: it answers what the plain reader says, in new memory. The plain account of layer 11: what the types of a tree are, or the first fault. Nothing of the program is walked here. The plain account of layer 12: what the functions of a tree take and give over a table, or the first fault. Nothing of the program is walked here. Fields, facts and types in memory: rows of cells in a slice; a slice of types, each with rows of its own; append on them; the map of the types' names. Nothing of the program is walked here. -/
import Derived.Test.YtpjnpffcnmgdcaaGreatDoorZ21
import Derived.Test.YtpjnpffcnmgdcaaGreatDoorZ22
import Derived.Test.YtpjnpffcnmgdcaaGreatDoorZ12
import Derived.Test.YtpjnpffcnmgdcaaGreatDoorZ02
import Derived.Test.YtpjnpffcnmgdcaaGreatDoorZ04
import Derived.Test.YtpjnpffcnmgdcaaGreatDoorZ03
import Derived.Maps.OwnSet
import Derived.Maps.OwnOps
namespace Go.Proofs.YtpjnpffcnmgdcaaGreatDoor
set_option maxRecDepth 100000
set_option maxHeartbeats 8000000
section
open Go.RowKit
def zfh (r:T × Nat × Int) (w:World) (e:Ending) (w':World):Prop :=
 ∃ kv,e=.returned (.tuple #[zna r.1 kv,.int .i64 r.2.1,.int .i64 r.2.2])∧KAt 36 w' r.1.kids (fun b=>w.heap.size≤b) kv∧Below w.heap.size w w'
theorem zYn (s:ByteArray) (w:World) (hs:s.size≤maxLen) {p:Nat} {c:Int} (hr:zZb s=.error (p,c)) :
  Calls Tryz.prog 8 #[.string s] w (zfh (zhb s) w):=by
 have HS:=zh hs
 clear hs
 go_enter Tryz.func8,Tryz.ntmps8
 go_wp2_with fail
 refine (zlg s _ HS.out).mono ?_
 intro e w1 hp
 rw [hr] at hp
 obtain ⟨rfl,hb⟩:=hp
 have hcd:=zVh hr
 have hne:(c != 0)=true:=by rw [bne_iff_ne];omega
 have HP:=zh (show zhb s=(zdb,p,c) by unfold zhb;rw [hr])
 have HB:=zh ((Blk.new w zba 36).kp (Kp.of_below (pb:=w.heap.size+1) hb) (by omega))
 have HW:=zh (((Below.refl w.heap.size w).alloc (Nat.le_refl _) _).trans (hb.mono (by simp)))
 clear hb hr hcd
 go_wp2_with ((with_reducible refine zla 36 (.tmp 2) ?_);refine zda rfl 36 (.tmp 2) (.tmp 23) rfl w.heap.size (zaa zdb (.slice none 0 0)) rfl rfl HB.out Tryz.zha rfl (zca _ _ rfl) ?_)
 refine ztb (cs:=zaa zdb (.slice none 0 0)) Tryz.results8 rfl (HB.out.zra _) Tryz.underlying36 rfl Tryz.zha rfl rfl rfl ?_
 rw [HP.out]
 exact ⟨.slice none 0 0,rfl,KAt.nil _ _ _,below_setRow HW.out (Nat.le_refl _) _⟩
theorem zkm {w:World} {base:Nat} {v:Value} {ts:List Tok} (h:w.ownsRow base 92 4 v ts.length (cellsOf ts)) (hn:0<ts.length) :
  ∃ g cap,v=.slice (some ⟨g,0,none⟩) ts.length cap∧base≤g∧g<w.heap.size∧ts.length≤cap∧zGi w g ts:=by
 obtain ⟨g,cap,rfl,hg1,hg2⟩:=h.form hn
 have hcap:ts.length≤cap:=by
  rcases h.2 with ⟨h0,_⟩|⟨g',cap',cur,hv,_,_,hle,_⟩
  ·cases h0
  ·cases hv;exact hle
 refine ⟨g,cap,rfl,hg1,hg2,hcap,fun i t ht=>?_⟩
 have hi:i<ts.length:=(List.getElem?_eq_some_iff.1 ht).1
 have c:∀ q,q<4→w.cell? ⟨g,i * 4+q,none⟩=(zGa t)[q]?:=fun q hq=>by
  rw [h.cellAt (i * 4+q) (by omega),zfg ts i t q ht hq]
 exact ⟨c 0 (by omega),c 1 (by omega),c 2 (by omega),c 3 (by omega)⟩
theorem zem {B:Nat} {w W:World} (h:Below B w W) (n:Nat):Below B w (W.drewN n):=⟨h.os,h.tape,h.output,h.size,h.block⟩
theorem zcr {l lx:List Tok} {ks:List T} {fx:Int} {qx:Nat} (h:zCa l 0 0 (zQc (l.length+1) l) ks lx fx qx) (hf:(fx == 0)=false):zyd l=.error (qx,fx):=by
 rcases h with ⟨_,⟨_,r1,rfl,rfl,rfl,n1⟩|⟨p,c,r1,rfl,rfl,hc⟩⟩|⟨e0,_⟩
 ·cases hf
 ·unfold zyd;rw [r1];rfl
 ·cases e0
theorem zMt {l lx:List Tok} {ks:List T} {qx:Nat} (h:zCa l 0 0 (zQc (l.length+1) l) ks lx 0 qx):zyd l=.ok (T.mk 0 e0 0 0 ks,lx):=by
 rcases h with ⟨_,⟨_,r1,rfl,_,rfl,n1⟩|⟨p,c,r1,h1,rfl,hc⟩⟩|⟨e0,_⟩
 ·unfold zyd;rw [r1];rfl
 ·rw [← h1] at hc;cases hc
 ·cases e0
theorem zAp (s:ByteArray) (w:World) (hs:s.size≤maxLen) {ts:List Tok} (hr:zZb s=.ok ts) :
  Calls Tryz.prog 8 #[.string s] w (zfh (zhb s) w):=by
 have HS:=zh hs
 clear hs
 obtain ⟨i0,z0,I⟩:=Tryz.zPc
 go_enter Tryz.func8,Tryz.ntmps8
 go_wp2_with fail
 refine (zlg s _ HS.out).mono ?_
 intro e w1 hp
 rw [hr] at hp
 obtain ⟨v,rfl,hown,hb⟩:=hp
 obtain ⟨hE,hok,hlen⟩:=zpf hr
 have hkd:=zek hr
 have hn:0<ts.length:=by obtain ⟨t,r,rfl⟩:=hE.ne;simp
 obtain ⟨g,cap,rfl,hg1,hg2,hcap,hrow⟩:=zkm hown hn
 have HB:=zh ((Blk.new w zba 36).kp (Kp.of_below (pb:=w.heap.size+1) hb) (by omega))
 have HW:=zh (((Below.refl w.heap.size w).alloc (Nat.le_refl _) _).trans (hb.mono (by simp)))
 have HPB:=zh (show zhb s=zIc ts by unfold zhb;rw [hr])
 have hz1:=HB.out.lt
 have hg0:w.heap.size<g:=by simp at hg1;omega
 obtain ⟨E,hEE⟩:∃ E:Env,E=⟨w1.heap.size,g,cap,ts⟩:=⟨_,rfl⟩
 have hKW:Hid (KW E):=zh (by rw [hEE];exact fun t ht=>(hkd t ht).1)
 have PL0:Hid (zFj E (w1.alloc (.cells #[.slice (some ⟨g,0,none⟩) ts.length cap,.int .i64 0,.int .i64 0,.int .i64 0,.int .i64 0] 90)) ((w1.alloc (.cells #[.slice (some ⟨g,0,none⟩) ts.length cap,.int .i64 0,.int .i64 0,.int .i64 0,.int .i64 0] 90)).alloc (.cells (zaa (T.mk 0 e0 0 0 []) (.slice none 0 0)).toArray 36)) ts 0 0 (w1.heap.size+1) [] (.slice none 0 0)):=zh (by
  have hbp:Blk (w1.alloc (.cells #[.slice (some ⟨g,0,none⟩) ts.length cap,.int .i64 0,.int .i64 0,.int .i64 0,.int .i64 0] 90)) w1.heap.size [.slice (some ⟨g,0,none⟩) ts.length cap,.int .i64 0,.int .i64 0,.int .i64 0,.int .i64 0] 90:=Blk.new w1 _ _
  have hst:RSt E (w1.alloc (.cells #[.slice (some ⟨g,0,none⟩) ts.length cap,.int .i64 0,.int .i64 0,.int .i64 0,.int .i64 0] 90)) ts 0 0 0:=by
   subst hEE
   refine ⟨Nat.le_refl _,by simp,?_,hrow.same (Below.heap_alloc _ _ _ hg2),by show g≠w1.heap.size;omega,by show g<_;simp;omega,hE,hok,fun t ht=>(hkd t ht).2,hlen,hcap,by decide⟩
   simp only [Nat.sub_self]
   exact hbp
  have e1:E.pb=w1.heap.size:=by rw [hEE]
  have e2:E.tb=g:=by rw [hEE]
  exact ⟨hst.alloc _,(Kp.refl _ _).alloc _,Blk.zuk (by simp) _ _,KAt.nil _ _ _,by simp,by omega,by omega⟩)
 have HBA:=zh (HB.out.alloc (.cells #[.slice (some ⟨g,0,none⟩) ts.length cap,.int .i64 0,.int .i64 0,.int .i64 0,.int .i64 0] 90))
 have HWA:=zh (HW.out.alloc HW.out.size (.cells #[.slice (some ⟨g,0,none⟩) ts.length cap,.int .i64 0,.int .i64 0,.int .i64 0,.int .i64 0] 90))
 have e1:E.pb=w1.heap.size:=by rw [hEE]
 have e2:E.tb=g:=by rw [hEE]
 have e3:E.cap=cap:=by rw [hEE]
 have e4:E.ts=ts:=by rw [hEE]
 clear hb hr hE hok hn hown hrow hkd hEE hg1 hg2 hcap
 go_wp2_with fail
 generalize hpb:w1.heap.size=pb at *
 subst e1
 subst e2
 subst e3
 subst e4
 go_loopg [11] (E.ts.length+2) (fun g op wr=>zqs E (w1.alloc (.cells #[.slice (some ⟨E.tb,0,none⟩) E.ts.length E.cap,.int .i64 0,.int .i64 0,.int .i64 0,.int .i64 0] 90)) (E.pb+1) g wr)
 case atStart=>exact ⟨[],_,E.ts,0,0,PL0.out,by simp;omega,fun _=>⟨by omega,E.ts.length+1,Nat.le_refl _,fun ys lf f' q' h=>by rw [List.nil_append];exact h⟩,fun h=>by cases h⟩
 case round =>
  obtain ⟨ks,v,lx,fx,qx,hpl,hcnt,hyes,hno⟩:=hrel
  have PL:=zh hpl
  have HY:=zh hyes
  have HN:=zh hno
  have g0:wr.cell? ⟨E.pb,0,none⟩=some (.slice (some ⟨E.tb,0,none⟩) E.ts.length E.cap):=hpl.st.blk.cell 0
  have g1:wr.cell? ⟨E.pb,1,none⟩=some (.int .i64 ((E.ts.length-lx.length:Nat):Int)):=hpl.st.blk.cell 1
  have g3:wr.cell? ⟨E.pb,3,none⟩=some (.int .i64 fx):=hpl.st.blk.cell 3
  have g4:wr.cell? ⟨E.pb,4,none⟩=some (.int .i64 qx):=hpl.st.blk.cell 4
  obtain ⟨t0,t1,t2,t3⟩:=hpl.st.tok
  have hkl:E.ts.length-lx.length<E.ts.length:=by have:=hpl.st.head.1;have:=hpl.st.le;omega
  have hcapb:=hpl.st.capb
  have ix1:(0:Int)≤((E.ts.length-lx.length:Nat):Int):=by omega
  have ix2:(((E.ts.length-lx.length:Nat):Int))<(E.ts.length:Int):=by omega
  obtain ⟨k,hidx⟩:∃ k,E.ts.length-lx.length=k:=⟨_,rfl⟩
  rw [hidx] at g1 t0 t3 hkl ix1 ix2
  have hplt:E.pb<wr.heap.size:=hpl.st.plt
  have hpls:=hpl.lt
  have HBr:=zh (HBA.out.kp hpl.kp (by omega))
  have HWr:=zh (HWA.out.trans (hpl.kp.below (B:=w.heap.size) (by omega) (by simp;omega)))
  clear hidx hpl hyes hno t1 t2
  cases hfx:(fx == 0) with
  | false =>
   have HF:=zh (HN.out hfx [])
   have hne:(fx != 0)=true:=by rw [bne_iff_ne];intro e;rw [e] at hfx;cases hfx
   have HP:=zh (show zhb s=(zdb,qx,fx) by rw [HPB.out];unfold zIc;rw [zcr HF.out hfx])
   have r0:=HBr.out.cell 0
   have r1:=HBr.out.cell 1
   have r2:=HBr.out.cell 2
   have r3:=HBr.out.cell 3
   have r4:=HBr.out.cell 4
   have y0:=HBr.out.frozen 0
   have y1:=HBr.out.frozen 1
   have y2:=HBr.out.frozen 2
   have y3:=HBr.out.frozen 3
   have y4:=HBr.out.frozen 4
   have yl:=HBr.out.lt
   have yn1:E.pb≠w.heap.size:=by omega
   have yn2:w.heap.size≠E.pb:=by omega
   simp only [zba,List.getElem?_cons_zero,List.getElem?_cons_succ] at r0 r1 r2 r3 r4
   clear HY HN
   go_wp2_with fail
   go_quiet (fail)
   go_wp2_with fail
   go_region_held3 (fun w'=>w'.cell? ⟨E.pb,3,none⟩=some (.int .i64 fx)∧w'.cell? ⟨E.pb,4,none⟩=some (.int .i64 qx)) (first|go_keep) (fail)
   have HBz:=zh (fun N=>Blk.zNa (Blk.zNa (Blk.zNa (Blk.zNa (show Blk (wr.drewN N) w.heap.size zba 36 from HBr.out) 0 (.int .i64 0)) 1 (.string ⟨#[]⟩)) 2 (.int .i64 0)) 3 (.int .i64 0))
   have HWz:=zh (fun N=>((((zem HWr.out N).setCell (p:=⟨w.heap.size,0,none⟩) (Nat.le_refl _) (.int .i64 0)).setCell (p:=⟨w.heap.size,1,none⟩) (Nat.le_refl _) (.string ⟨#[]⟩)).setCell (p:=⟨w.heap.size,2,none⟩) (Nat.le_refl _) (.int .i64 0)).setCell (p:=⟨w.heap.size,3,none⟩) (Nat.le_refl _) (.int .i64 0))
   go_wp2_with fail
   refine ztb (cs:=zaa zdb (.slice none 0 0)) Tryz.results8 rfl (Blk.zNa (HBz.out _) 4 (.slice none 0 0)) Tryz.underlying36 rfl Tryz.zha rfl rfl rfl ?_
   rw [HP.out]
   exact ⟨.slice none 0 0,rfl,KAt.nil _ _ _,(HWz.out _).setCell (p:=⟨w.heap.size,4,none⟩) (Nat.le_refl _) (.slice none 0 0)⟩
  | true =>
   obtain rfl:fx=0:=beq_iff_eq.1 hfx
   obtain ⟨hg,N,hN,hsee⟩:=HY.out hfx
   have HSEE:=zh hsee
   have hlx:=PL.out.st.head.1
   clear hsee HY HN
   cases hk0:((hdT lx).kind == 0) with
   | true =>
    have hk1:(((hdT lx).kind:Int) != 0)=false:=by rw [beq_iff_eq.1 hk0];rfl
    have HF:=zh (HSEE.out [] lx 0 qx (by rw [zyn (by omega) hk0];exact zCa.done _ _ _ _))
    have HU:=zh (zMt (by have:=HF.out;rwa [List.append_nil] at this))
    have hszu:=zZo HU.out
    have hz:=PL.out.gt
    have hlenE:=PL.out.st.len
    have HP0:=zh (show zhb s=if 4096<(T.mk 0 e0 0 0 ks).size then (zdb,0,22) else (T.mk 0 e0 0 0 ks,0,0) by rw [HPB.out];unfold zIc;rw [HU.out])
    have PLd:=zh (fun N=>PL.out.draws N)
    go_wp2_with fail
    go_quiet (fail)
    go_wp2_with ((with_reducible refine zqa 36 (.tmp 9) ?_);refine zfa rfl 36 (.tmp 9) rfl (E.pb+1) (T.mk 0 e0 0 0 ks) v rfl (PLd.out _).blk Tryz.underlying36 rfl Tryz.zha ?_)
    refine (zXl _ (T.mk 0 e0 0 0 ks) (Nat.le_refl _) (PLd.out _).kids (by omega)).mono ?_
    rintro e w4 ⟨rfl,hb4⟩
    have PL4:=zh ((PLd.out _).call (Kp.of_below hb4) ((PLd.out _).st.below hb4))
    have HB4:=zh (HBr.out.kp (((Kp.refl E.pb wr).draws _).trans (Kp.of_below hb4)) (by omega))
    have HW4:=zh (HWr.out.trans ((((Kp.refl E.pb wr).draws _).trans (Kp.of_below hb4)).below (B:=w.heap.size) (by omega) hplt))
    clear hb4 g0 g1 g3 g4 t0 t3
    generalize (T.mk 0 e0 0 0 ks).size=sz at *
    by_cases hgt:4096<sz
    ·have hgt2:(4096:Int)<(sz:Int):=by omega
     have HP:=zh (show zhb s=(zdb,0,22) by rw [HP0.out,if_pos hgt])
     clear hgt
     go_wp2_with ((with_reducible refine zla 36 (.tmp 2) ?_);refine zda rfl 36 (.tmp 2) (.tmp 106) rfl w.heap.size (zaa zdb (.slice none 0 0)) rfl rfl HB4.out Tryz.zha rfl (zca _ _ rfl) ?_)
     refine ztb (cs:=zaa zdb (.slice none 0 0)) Tryz.results8 rfl (HB4.out.zra _) Tryz.underlying36 rfl Tryz.zha rfl rfl rfl ?_
     rw [HP.out]
     exact ⟨.slice none 0 0,rfl,KAt.nil _ _ _,below_setRow HW4.out (Nat.le_refl _) _⟩
    ·have hgt2:¬ (4096:Int)<(sz:Int):=by omega
     have HP:=zh (show zhb s=(T.mk 0 e0 0 0 ks,0,0) by rw [HP0.out,if_neg hgt])
     clear hgt
     go_wp2_with (first|((with_reducible refine zqa 36 (.tmp 9) ?_);refine zfa rfl 36 (.tmp 9) rfl (E.pb+1) (T.mk 0 e0 0 0 ks) v rfl PL4.out.blk Tryz.underlying36 rfl Tryz.zha ?_)|((with_reducible refine zla 36 (.tmp 2) ?_);refine zda rfl 36 (.tmp 2) (.tmp 107) rfl w.heap.size (zaa (T.mk 0 e0 0 0 ks) v) rfl rfl HB4.out Tryz.zha rfl (zca _ _ PL4.out.kids.one) ?_))
     refine ztb (cs:=zaa (T.mk 0 e0 0 0 ks) v) Tryz.results8 rfl (HB4.out.zra _) Tryz.underlying36 rfl Tryz.zha rfl rfl rfl ?_
     rw [HP.out]
     exact ⟨v,rfl,(PL4.out.kids.setRow w.heap.size _ (fun b hb=>by omega)).mono (fun b hb _=>by omega),below_setRow HW4.out (Nat.le_refl _) _⟩
   | false =>
    have hk1:(((hdT lx).kind:Int) != 0)=true:=by rw [bne_iff_ne];intro e;rw [beq_eq_false_iff_ne] at hk0;omega
    go_wp2_with fail
    go_quiet (fail)
    go_wp2_with fail
    go_quiet (fail)
    go_wp2_with fail
    refine (zab (PL.out.draws _).st (bs [102,110]) keyFn (by decide)).mono ?_
    rintro e w4 ⟨b4,l4,rfl,hs4,hp4,hc4⟩
    clear g0 g1 g3 g4 t0 t3
    rcases hc4 with ⟨rfl,hf4,hi4,hl4⟩|⟨rfl,hx4,hl4⟩
    ·rw [hl4] at hs4
     have PL4:=zh ((PL.out.draws _).call hp4 hs4)
     clear hs4 hp4
     go_wp2_with fail
     refine (zwt PL4.out.st hKW.out (hdT lx).place).mono ?_
     rintro e w5 ⟨t5,v5,l5,f5,q5,rfl,hk5,hn5,hs5,hp5,hsee5⟩
     have PL5:=zh (PL4.out.call hp5 hs5)
     have HV5:=zh (PL4.out.fresh hk5)
     have HNX:=zh (zSi hk0 hN (by rw [zBt hi4];exact zCa.behind rfl hsee5) HSEE.out)
     have hz5:E.pb+1<w5.heap.size:=PL5.out.lt
     have n4:w5.cell? ⟨E.pb+1,4,none⟩=some v:=PL5.out.blk.cell 4
     clear hk5 hs5 hp5 hsee5 hn5
     unfold zna
     go_wp2_with (first|((with_reducible refine zla 36 (.tmp 12) ?_);refine zga rfl 36 (.tmp 12) (.tmp 65) rfl (zaa t5 v5) (old:=zba) rfl rfl Tryz.zha rfl (zca _ _ HV5.out.one) ?_)|((with_reducible refine zqa 36 (.tmp 12) ?_);refine zfa rfl 36 (.tmp 12) rfl w5.heap.size t5 v5 rfl (Blk.zuk (by simp) _ _) Tryz.underlying36 rfl Tryz.zha ?_)|(at_builtin;refine zxa rfl (.tmp 67) (.tmp 69) rfl I (ks:=ks) (ts:=[t5]) (S:=fun b=>E.pb+1<b) rfl ((PL5.out.alloc _).alloc _).kids (us:=[v5]) (zGb.single ?c1) ?c2 rfl rfl (by simp) (zDd _ (by simp) _ t5 v5) ?c3 ?_))
     case c1=>exact TAt.zHa ((HV5.out.alloc _).alloc _)
     case c2=>simp only [World.size_alloc];omega
     case c3=>simp;omega
     intro v6 w6 hK6 hg6 hb6
     obtain ⟨sa,sn,sc,rfl⟩:=hK6.slice
     obtain ⟨ha1,ha2,ha3,ha4⟩:=((PL5.out.alloc _).alloc _).after hK6 hg6
     have PL6:=zh ha1
     clear ha1 hK6 hg6 hb6 n4
     go_wp2
     go_roundg (gk-1)
     case measure=>omega
     case rel=>exact ⟨ks++[t5],_,l5,f5,q5,PL6.out,by simp;omega,fun hf=>by
      obtain ⟨h1,M,h2,h3⟩:=HNX.out.1 hf
      exact ⟨by omega,M,h2,h3⟩,HNX.out.2⟩
    ·rw [hl4] at hs4
     have hi4:isT (hdT lx) (bs [102,110])=false:=by simpa using hx4
     have PL3:=zh ((PL.out.draws _).call hp4 hs4)
     clear hs4 hp4 hx4
     go_wp2_with fail
     cases hty:isT (hdT lx) (bs [116,121,112,101]) with
     | true =>
      refine (zvi PL3.out.st (bs [116,121,112,101]) keyType (by decide) hty).mono ?_
      rintro e w6 ⟨rfl,hs6,hp6⟩
      have PL4:=zh (PL3.out.call hp6 hs6)
      have c3:w6.cell? ⟨E.pb,3,none⟩=some (.int .i64 0):=hs6.blk.cell 3
      clear hs6 hp6
      go_wp2_with fail
      refine (zlr PL4.out.st (hdT lx).place).mono ?_
      rintro e w5 ⟨t5,v5,l5,f5,q5,rfl,hk5,hn5,hs5,hp5,hsee5⟩
      have PL5:=zh (PL4.out.call hp5 hs5)
      have HV5:=zh (PL4.out.fresh hk5)
      have HNX:=zh (zSi hk0 hN (by rw [zpq hty];exact zCa.behind rfl hsee5) HSEE.out)
      have hz5:E.pb+1<w5.heap.size:=PL5.out.lt
      have n4:w5.cell? ⟨E.pb+1,4,none⟩=some v:=PL5.out.blk.cell 4
      clear hk5 hs5 hp5 hsee5 hn5
      unfold zna
      go_wp2_with (first|((with_reducible refine zla 36 (.tmp 13) ?_);refine zga rfl 36 (.tmp 13) (.tmp 81) rfl (zaa t5 v5) (old:=zba) rfl rfl Tryz.zha rfl (zca _ _ HV5.out.one) ?_)|((with_reducible refine zqa 36 (.tmp 13) ?_);refine zfa rfl 36 (.tmp 13) rfl w5.heap.size t5 v5 rfl (Blk.zuk (by simp) _ _) Tryz.underlying36 rfl Tryz.zha ?_)|(at_builtin;refine zxa rfl (.tmp 83) (.tmp 85) rfl I (ks:=ks) (ts:=[t5]) (S:=fun b=>E.pb+1<b) rfl ((PL5.out.alloc _).alloc _).kids (us:=[v5]) (zGb.single ?c1) ?c2 rfl rfl (by simp) (zDd _ (by simp) _ t5 v5) ?c3 ?_))
      case c1=>exact TAt.zHa ((HV5.out.alloc _).alloc _)
      case c2=>simp only [World.size_alloc];omega
      case c3=>simp;omega
      intro v6 w6 hK6 hg6 hb6
      obtain ⟨sa,sn,sc,rfl⟩:=hK6.slice
      obtain ⟨ha1,ha2,ha3,ha4⟩:=((PL5.out.alloc _).alloc _).after hK6 hg6
      have PL6:=zh ha1
      clear ha1 hK6 hg6 hb6 n4
      go_wp2
      go_roundg (gk-1)
      case measure=>omega
      case rel=>exact ⟨ks++[t5],_,l5,f5,q5,PL6.out,by simp;omega,fun hf=>by
       obtain ⟨h1,M,h2,h3⟩:=HNX.out.1 hf
       exact ⟨by omega,M,h2,h3⟩,HNX.out.2⟩
     | false =>
      refine (znn PL3.out.st (bs [116,121,112,101]) keyType hty).mono ?_
      rintro e w6 ⟨rfl,hs6,hp6⟩
      have PL4:=zh (PL3.out.call hp6 hs6)
      have c3:w6.cell? ⟨E.pb,3,none⟩=some (.int .i64 20):=hs6.blk.cell 3
      have HNX:=zh (zSi (t5:=zdb) (l5:=lx) (f5:=20) (q5:=(hdT lx).place) hk0 hN (.inl ⟨rfl,.inr ⟨_,_,zFt hi4 hty,rfl,rfl,rfl⟩⟩) HSEE.out)
      clear hs6 hp6
      go_wp2
      go_roundg (gk-1)
      case measure=>omega
      case rel=>exact ⟨ks,_,lx,20,(hdT lx).place,PL4.out,by omega,fun hf=>(by cases hf),HNX.out.2⟩
theorem zBj (s:ByteArray) (w:World) (hs:s.size≤maxLen):Calls Tryz.prog 8 #[.string s] w (zfh (zhb s) w):=by
 cases hr:zZb s with
 | error pc=>obtain ⟨p,c⟩:=pc;exact zYn s w hs hr
 | ok ts=>exact zAp s w hs hr
end
section
open Go.RowKit
theorem wrap64_in {n:Int} (h0:-9223372036854775808≤n) (h1:n≤9223372036854775807):wrap64 n=n:=by unfold wrap64;omega
structure Fa where
 x:Int
 y:Int
 c:Int
structure Ty where
 name:ByteArray
 sort:Int
 of:Int
 fields:List (ByteArray × Int)
 facts:List Fa
def zNg {α:Type} (nm:α→ByteArray):List α→ByteArray→Option Nat
 | [],_=>none
 | t :: ts,s=>bif (nm t).toList == s.toList then some 0 else (zNg nm ts s).map (·+1)
def oi:Option Nat→Int
 | none=>-1
 | some k=>(k:Int)
abbrev zYm:=zNg T.text
abbrev zze:=zNg Ty.name
theorem zCi {α:Type} {nm:α→ByteArray}:∀ {l:List α} {s:ByteArray} {k:Nat},zNg nm l s=some k→k<l.length
 | [],_,_,h=>by cases h
 | t :: ts,s,k,h=>by
  unfold zNg at h
  cases hb:(nm t).toList == s.toList with
  | true=>rw [hb] at h;simp at h;subst h;simp
  | false =>
   rw [hb] at h
   simp only [cond_false,Option.map_eq_some_iff] at h
   obtain ⟨j,hj,rfl⟩:=h
   have:=zCi hj
   simpa using this
theorem zsg {α:Type} {nm:α→ByteArray} {s:ByteArray}:∀ {l:List α} {k:Nat} {t:α},l[k]?=some t→zNg nm (l.take k) s=none→zNg nm (l.take (k+1)) s=(bif (nm t).toList == s.toList then some k else none)∧((nm t).toList=s.toList→zNg nm l s=some k)
 | [],k,t,h,_=>by simp at h
 | a :: l,0,t,h,_=>by
  obtain rfl:a=t:=by simpa using h
  refine ⟨?_,fun he=>?_⟩
  ·simp only [List.take_succ_cons,List.take_zero,zNg]
   cases (nm a).toList == s.toList<;>rfl
  ·unfold zNg;rw [he];simp
 | a :: l,k+1,t,h,hn=>by
  rw [List.take_succ_cons,zNg] at hn
  cases hb:(nm a).toList == s.toList with
  | true=>rw [hb] at hn;cases hn
  | false =>
   rw [hb] at hn
   simp only [cond_false,Option.map_eq_none_iff] at hn
   obtain ⟨h1,h2⟩:=zsg (nm:=nm) (s:=s) (l:=l) (k:=k) (t:=t) (by simpa using h) hn
   refine ⟨?_,fun he=>?_⟩
   ·rw [List.take_succ_cons,zNg,hb,h1]
    cases (nm t).toList == s.toList<;>rfl
   ·rw [zNg,hb,h2 he];rfl
theorem zMk {α:Type} {nm:α→ByteArray}:∀ (l:List α) (t:α) (s:ByteArray),zNg nm (l++[t]) s=match zNg nm l s with|some k=>some k|none=>bif (nm t).toList == s.toList then some l.length else none
 | [],t,s=>by simp only [List.nil_append,zNg,List.length_nil];cases (nm t).toList == s.toList<;>rfl
 | a :: l,t,s=>by
  simp only [List.cons_append,zNg,zMk l t s]
  cases (nm a).toList == s.toList
  ·cases h:zNg nm l s
   ·simp only [cond_false,Option.map_none,List.length_cons]
    cases (nm t).toList == s.toList<;>rfl
   ·rfl
  ·rfl
theorem zUo (l:List Ty) (t:Ty) (s:ByteArray):zze (l++[t]) s=match zze l s with|some k=>some k|none=>bif t.name.toList == s.toList then some l.length else none:=zMk l t s
def zIe (cmp:ByteArray) (a b k l:Int):List Fa :=
 bif cmp.toList == [60] then [⟨a,b,wrap64 (wrap64 (l-k)-1)⟩]
 else bif cmp.toList == [60,61] then [⟨a,b,wrap64 (l-k)⟩]
 else bif cmp.toList == [61,61] then [⟨a,b,wrap64 (l-k)⟩,⟨b,a,wrap64 (k-l)⟩]
 else []
def zNc (s:ByteArray):Int :=
 bif s.toList == [99,101,108,108] then 1
 else bif s.toList == [99,111,117,110,116,101,100] then 2
 else bif s.toList == [108,111,99,107] then 3
 else bif s.toList == [103,117,97,114,100] then 4
 else 0
def zJa (t:T) (i:Nat):T:=t.kids.getD i zdb
structure Pt where
 sort:T
 fields:List T
 facts:List T
def zUd (ks:List T):Pt:=⟨(ks.filter (fun t=>t.kind == 2)).getLastD zdb,ks.filter (fun t=>t.kind == 3),ks.filter (fun t=>t.kind == 4)⟩
theorem zIo (ks:List T) (t:T):zUd (ks++[t])=⟨bif t.kind == 2 then t else (zUd ks).sort,bif t.kind == 3 then (zUd ks).fields++[t] else (zUd ks).fields,bif t.kind == 4 then (zUd ks).facts++[t] else (zUd ks).facts⟩:=by
 unfold zUd
 simp only [List.filter_append]
 cases h2:t.kind == 2<;>cases h3:t.kind == 3<;>cases h4:t.kind == 4<;>simp [List.filter,h2,h3,h4]
def zsj (fs:List T) (s:ByteArray):Option Nat :=
 match zYm fs s with
 | none=>none
 | some i=>bif (fs.getD i zdb).kids.isEmpty then some i else none
theorem zct {fs:List T} {s:ByteArray} {k:Nat} (h:zsj fs s=some k):k<fs.length:=by
 unfold zsj at h
 cases hf:zYm fs s with
 | none=>rw [hf] at h;cases h
 | some i =>
  rw [hf] at h
  simp only at h
  cases hb:(fs.getD i zdb).kids.isEmpty with
  | false=>rw [hb] at h;cases h
  | true=>rw [hb] at h;simp at h;subst h;exact zCi hf
abbrev E (α:Type):=Except (Nat × Int) α
def pre {α:Type} (l:List α):E (List α)→E (List α)
 | .ok r=>.ok (l++r)
 | .error e=>.error e
theorem pre_nil {α:Type} (r:E (List α)):pre [] r=r:=by cases r<;>rfl
theorem zPl {α:Type} (l m:List α) (r:E (List α)):pre l (pre m r)=pre (l++m) r:=by cases r<;>simp [pre]
def zPq (fs:List T) (srt:Int) (n:T):E Int :=
 bif srt != 0 || (zsj fs (zJa n 0).text).isNone then .error (n.place,32) else .ok (oi (zsj fs (zJa n 0).text))
def zmt (fs:List T) (srt:Int) (n:T):E Int:=bif n.kids.isEmpty then .ok (-1) else zPq fs srt n
def zve (fs:List T) (srt:Int):Nat→List T→E (List (ByteArray × Int))
 | _,[]=>.ok []
 | i,n :: r =>
  bif (zYm (fs.take i) n.text).isSome then .error (n.place,30)
  else match zmt fs srt n with
   | .error e=>.error e
   | .ok z=>pre [(n.text,z)] (zve fs srt (i+1) r)
def zsp (srt of:Int) (i:Int):Bool:=(srt == 2 || srt == 3) && i == of
def zRm (fs:List T) (srt of:Int) (t:T):Option Nat :=
 bif t.text.toList == [] then some 0
 else match zsj fs t.text with
  | none=>none
  | some i=>bif zsp srt of i then none else some (i+1)
def zBk (fs:List T) (srt of:Int) (n:T):E (List Fa) :=
 match zRm fs srt of (zJa n 0),zRm fs srt of (zJa n 1) with
 | some a,some b=>.ok (zIe n.text a b (zJa n 0).num (zJa n 1).num)
 | _,_=>.error (n.place,33)
def zqd (fs:List T) (srt of:Int):List T→E (List Fa)
 | []=>.ok []
 | n :: r =>
  match zBk fs srt of n with
  | .error e=>.error e
  | .ok l=>pre l (zqd fs srt of r)
def ofP (tys:List Ty) (p:Pt) (srt:Int):E Int :=
 bif srt == 2 || srt == 3 then
  match zsj p.fields (zJa p.sort 0).text with
  | none=>.error (p.sort.place,32)
  | some i=>.ok i
 else bif srt == 4 then
  match zze tys (zJa p.sort 0).text with
  | none=>.error (p.sort.place,31)
  | some k =>
   bif (tys[k]?.map (·.sort)).getD 0 != 3 then .error (p.sort.place,31)
   else bif !p.fields.isEmpty || !p.facts.isEmpty then .error (p.sort.place,32)
   else .ok k
 else .ok 0
def zCo (tys:List Ty) (n:T):E Ty :=
 bif (zze tys n.text).isSome then .error (n.place,30)
 else bif decide (8<(zUd n.kids).fields.length) then .error (n.place,22)
 else match zve (zUd n.kids).fields (zNc (zUd n.kids).sort.text) 0 (zUd n.kids).fields with
  | .error e=>.error e
  | .ok fl=>match ofP tys (zUd n.kids) (zNc (zUd n.kids).sort.text) with
   | .error e=>.error e
   | .ok o=>match zqd (zUd n.kids).fields (zNc (zUd n.kids).sort.text) o (zUd n.kids).facts with
    | .error e=>.error e
    | .ok fc=>.ok ⟨n.text,zNc (zUd n.kids).sort.text,o,fl,fc⟩
def zCd:List Ty→List T→E (List Ty)
 | tys,[]=>.ok tys
 | tys,n :: r =>
  bif n.kind == 1 then
   match zCo tys n with
   | .error e=>.error e
   | .ok x=>zCd (tys++[x]) r
  else zCd tys r
end
section
open Go.RowKit
structure Prm where
 name:ByteArray
 mode:Int
 ty:Int
structure Sg where
 name:ByteArray
 params:List Prm
 ret:Prm
def zyb:Prm:=⟨⟨#[]⟩,0,0⟩
def zjb (s:ByteArray):Int :=
 bif s.toList == [105,110,116] then 1
 else bif s.toList == [111,119,110] then 2
 else bif s.toList == [38] then 3
 else bif s.toList == [38,109,117,116] then 4
 else 0
def zVb (m:Int):Bool:=m == 2 || m == 3 || m == 4
def zgd (tys:List Ty) (t:T):Option Prm :=
 bif zVb (zjb t.text) then (zze tys (zJa t 0).text).map (fun k:Nat=>(⟨⟨#[]⟩,zjb t.text,(k:Int)⟩:Prm))
 else some ⟨⟨#[]⟩,zjb t.text,0⟩
theorem zkg {tys:List Ty} {t:T} (h:zVb (zjb t.text)=false):zgd tys t=some ⟨⟨#[]⟩,zjb t.text,0⟩:=by unfold zgd;rw [h];rfl
theorem zJh {tys:List Ty} {t:T} (h:zVb (zjb t.text)=true):zgd tys t=(zze tys (zJa t 0).text).map (fun k:Nat=>(⟨⟨#[]⟩,zjb t.text,(k:Int)⟩:Prm)):=by unfold zgd;rw [h];rfl
def zcs (tys:List Ty) (p:Prm):Prop:=zVb p.mode=true→∃ k:Nat,p.ty=(k:Int)∧k<tys.length
theorem zEm {tys:List Ty} {t:T} {p:Prm} (h:zgd tys t=some p):zcs tys p:=by
 intro hn
 cases hb:zVb (zjb t.text) with
 | false =>
  rw [zkg hb] at h
  cases h
  rw [hb] at hn;cases hn
 | true =>
  rw [zJh hb] at h
  simp only [Option.map_eq_some_iff] at h
  obtain ⟨k,hk,rfl⟩:=h
  exact ⟨k,rfl,zCi hk⟩
def zli (tys:List Ty) (i:Int):Int:=(tys[i.toNat]?.map (·.sort)).getD 0
def zBf (p o:Prm):Bool:=zVb o.mode && o.ty == p.ty
def zXd (tys:List Ty) (p:Prm) (l:List Prm):Bool:=bif !zVb p.mode || zli tys p.ty == 0 then false else l.any (zBf p)
def zcd (s:ByteArray) (o:Prm):Bool:=o.name.toList == s.toList
def zIl (tys:List Ty) (n:T) (l:List Prm):E Prm :=
 bif l.any (zcd n.text) then .error (n.place,30)
 else match zgd tys (zJa n 0) with
  | none=>.error ((zJa n 0).place,31)
  | some p=>bif zXd tys p l then .error ((zJa n 0).place,34) else .ok ⟨n.text,p.mode,p.ty⟩
def zaf (tys:List Ty):List Prm→List T→E (List Prm)
 | l,[]=>.ok l
 | l,n :: r =>
  match zIl tys n l with
  | .error e=>.error e
  | .ok p=>zaf tys (l++[p]) r
structure Fp where
 params:List T
 res:T
def zFe (ks:List T):Fp:=⟨ks.filter (fun t=>t.kind == 7),(ks.filter (fun t=>t.kind == 8)).getLastD zdb⟩
theorem zNq (ks:List T) (t:T):zFe (ks++[t])=⟨bif t.kind == 7 then (zFe ks).params++[t] else (zFe ks).params,bif t.kind == 8 then t else (zFe ks).res⟩:=by
 unfold zFe
 simp only [List.filter_append]
 cases h2:t.kind == 7<;>cases h3:t.kind == 8<;>simp [List.filter,h2,h3]
def zuj (tys:List Ty) (n:T):E Sg :=
 bif decide (8<(zFe n.kids).params.length) then .error (n.place,22)
 else match zaf tys [] (zFe n.kids).params with
  | .error e=>.error e
  | .ok l=>match zgd tys (zFe n.kids).res with
   | none=>.error ((zFe n.kids).res.place,31)
   | some r=>.ok ⟨n.text,l,r⟩
def zTd (tys:List Ty):List Sg→List T→E (List Sg)
 | l,[]=>.ok l
 | l,n :: r =>
  bif n.kind == 6 then
   match zuj tys n with
   | .error e=>.error e
   | .ok s=>zTd tys (l++[s]) r
  else zTd tys l r
end
section
open Go.RowKit Go.Maps
theorem Below.row {B:Nat} {a w:World} (h:Below B a w) {g:Nat} (hg:B≤g) (cs:Array Value):Below B a (w.setRow g cs) :=
 ⟨h.os,h.tape,h.output,by simpa [World.setRow] using h.size,fun k hk=>(setRow_other w g k cs (by omega)).trans (h.block k hk)⟩
theorem Blk.stays {w w':World} {g:Nat} {cs:List Value} {t:TypeId} (h:Blk w g cs t) (hb:Below w.heap.size w w'):Blk w' g cs t:=(hb.block g h.lt).trans h
theorem zed {w w':World} {o:Nat} {e:TypeId} {m n:Nat} {v:Value} {xs:List Value} (h:w.ownsRow o e m v n xs) (hk:∀ g,v.ownBlock=some g→w'.heap[g]?=w.heap[g]?):w'.ownsRow o e m v n xs:=by
 refine ⟨h.1,?_⟩
 rcases h.2 with hn|⟨g,cap,cur,rfl,hb,hg,rest⟩
 ·exact .inl hn
 ·exact .inr ⟨g,cap,cur,rfl,hb,(hk g rfl).trans hg,rest⟩
theorem zbe {P:Program} {w:World} {t ty e:TypeId} {i:TypeInfo} {z:Value} {m0 bytes:Nat} (ht:P.underlying t=some (.slice e)) (hi:P.info? e=some i) (hz:i.zero=some z) (hsize:i.size=m0) (hby:i.bytes=bytes)
  {v:Value} {n:Nat} {xs:List Value} (hown:w.ownsRow 0 e m0 v n xs) {a:Addr} {m c:Nat} {news:List Value} (hm:0<m) (hl:news.length=m * m0) (hnews:∀ j u,news[j]?=some u→w.cell? (a.add j)=some u) (h1:∀ u∈news,u.oneCell'=true)
  (h63:n+m≤maxLen) (hbytes:(n+m) * bytes≤140737488355328) {v':Value} {w':World} (hr:(Builtin.append_ #[t,t] ty #[v,.slice (some a) m c]).run P w=.ok v' w'):v'.ownBlock=v.ownBlock∨v'.ownBlock=some w.heap.size:=by
 subst hby
 have hsmall:n+m≤9223372036854775807:=by simp only [maxLen] at h63;omega
 rw [← hsize] at hl
 rcases hown.2 with ⟨rfl,rfl⟩|⟨g,cap,cur,rfl,hbg,hg,hnc,hcm,hcs,htake⟩
 ·have h:=run_append_nil (P:=P) w t ty e i z ht hi hz a m c news hl hnews hm (by omega) (by have hb:=hbytes;simp only [Nat.zero_add] at hb;omega)
  rw [h] at hr
  cases hr
  exact .inr rfl
 ·by_cases hroom:n+m≤cap
  ·have hfit:n * i.size+news.length≤cur.size:=by rw [hl,hcs,hsize,← Nat.add_mul];exact Nat.mul_le_mul_right _ hroom
   have h:=run_append_room (P:=P) w t ty e i ht hi g n cap cur hg a m c news hl hnews h1 hroom hfit
   rw [h] at hr
   cases hr
   exact .inl rfl
  ·have h:=run_append_grow (P:=P) w t ty e i z ht hi hz ⟨g,0,none⟩ n cap xs (by rw [hown.1,hsize]) (hown.cells (g:=g) rfl) a m c news hl hnews (by omega) (by omega) (growslice_fits (by omega) hbytes)
   rw [h] at hr
   cases hr
   exact .inr rfl
structure zqe (P:Program) (t e:TypeId) (m bytes:Nat) (i:TypeInfo) (z:Value):Prop where
 ht:P.underlying t=some (.slice e)
 hi:P.info? e=some i
 hz:i.zero=some z
 size:i.size=m
 bytes:i.bytes=bytes
 zs:z.cells.size=m
def RAt {α:Type} (e:TypeId) (m:Nat) (c:α→List Value) (w:World) (xs:List α) (S:Nat→Prop) (v:Value):Prop :=
 w.ownsRow 0 e m v xs.length (xs.flatMap c)∧∀ g,v.ownBlock=some g→S g
section
variable {α:Type} {e:TypeId} {m:Nat} {c:α→List Value} {w w':World} {xs:List α} {S S':Nat→Prop} {v:Value}
theorem RAt.keep (h:RAt e m c w xs S v) (hk:∀ b,S b→b<w.heap.size→S' b∧w'.heap[b]?=w.heap[b]?):RAt e m c w' xs S' v :=
 ⟨zed h.1 fun g hg=>(hk g (h.2 g hg) (h.1.lt g hg).2).2,fun g hg=>(hk g (h.2 g hg) (h.1.lt g hg).2).1⟩
theorem RAt.nil (w:World) (S:Nat→Prop):RAt e m c w [] S (.slice none 0 0):=⟨World.ownsRow_nil _ _ _ _,fun g h=>by simp [Value.ownBlock] at h⟩
theorem RAt.mono (h:RAt e m c w xs S v) (hS:∀ b,S b→b<w.heap.size→S' b):RAt e m c w xs S' v:=h.keep fun b hb hl=>⟨hS b hb hl,rfl⟩
theorem RAt.below (h:RAt e m c w xs S v) (hk:Below w.heap.size w w'):RAt e m c w' xs S v:=h.keep fun b hb hl=>⟨hb,hk.block b hl⟩
theorem RAt.alloc (h:RAt e m c w xs S v) (o:Obj):RAt e m c (w.alloc o) xs S v:=h.keep fun b hb hl=>⟨hb,Below.heap_alloc w o b hl⟩
theorem RAt.drew (h:RAt e m c w xs S v):RAt e m c w.drew xs S v:=h.keep fun _ hb _=>⟨hb,rfl⟩
theorem RAt.setRow (h:RAt e m c w xs S v) (g:Nat) (cs:Array Value) (hS:∀ b,S b→b≠g):RAt e m c (w.setRow g cs) xs S v:=h.keep fun b hb _=>⟨hb,setRow_other w g b cs (hS b hb)⟩
theorem RAt.setCell (h:RAt e m c w xs S v) (a:Addr) (x:Value) (hS:∀ b,S b→b≠a.block):RAt e m c (w.setCell a x) xs S v:=h.keep fun b hb _=>⟨hb,Below.heap_setCell w a x b (hS b hb)⟩
theorem RAt.slice (h:RAt e m c w xs S v):∃ a k,v=.slice a xs.length k:=by
 rcases h.1.2 with ⟨rfl,h0⟩|⟨_,_,_,rfl,_⟩
 ·exact ⟨_,_,by rw [h0]⟩
 ·exact ⟨_,_,rfl⟩
theorem RAt.one (h:RAt e m c w xs S v):v.oneCell'=true:=by obtain ⟨_,_,rfl⟩:=h.slice;rfl
theorem flat_get (hc:∀ a,(c a).length=m):∀ (xs:List α) (k:Nat) (x:α) (j:Nat),xs[k]?=some x→j<m→(xs.flatMap c)[k * m+j]?=(c x)[j]?
 | [],k,x,j,h,_=>by simp at h
 | a :: xs,0,x,j,h,hj=>by
  obtain rfl:a=x:=by simpa using h
  rw [List.flatMap_cons,Nat.zero_mul,Nat.zero_add,List.getElem?_append_left (by rw [hc];exact hj)]
 | a :: xs,k+1,x,j,h,hj=>by
  rw [List.flatMap_cons,List.getElem?_append_right (by rw [hc,Nat.succ_mul];omega)]
  have e:(k+1) * m+j-(c a).length=k * m+j:=by rw [hc,Nat.succ_mul];omega
  rw [e]
  exact flat_get hc xs k x j (by simpa using h) hj
theorem zNd (hc:∀ a,(c a).length=m):∀ (xs:List α),(xs.flatMap c).length=xs.length * m
 | []=>by simp
 | a :: xs=>by rw [List.flatMap_cons,List.length_append,zNd hc xs,hc,List.length_cons,Nat.succ_mul];omega
theorem RAt.form (hc:∀ a,(c a).length=m) (h:RAt e m c w xs S v):(v=.slice none 0 0∧xs=[])∨∃ g cap,v=.slice (some ⟨g,0,none⟩) xs.length cap∧(S g∧g<w.heap.size)∧xs.length≤cap∧cap≤maxLen ∧
  ∀ k x,xs[k]?=some x→w.rangeAt g (k * m) (c x):=by
 obtain ⟨ho,hS⟩:=h
 have ho':=ho
 rcases ho.2 with ⟨rfl,h0⟩|⟨g,cap,cur,rfl,hb,hg,hnc,hcm,hcs,htake⟩
 ·exact .inl ⟨rfl,List.eq_nil_of_length_eq_zero h0⟩
 ·refine .inr ⟨g,cap,rfl,⟨hS g rfl,(Array.getElem?_eq_some_iff.1 hg).1⟩,hnc,hcm,fun k x hk j y hj=>?_⟩
  have hj5:j<m:=by have:=(List.getElem?_eq_some_iff.1 hj).1;rw [hc] at this;exact this
  have hlt:k<xs.length:=(List.getElem?_eq_some_iff.1 hk).1
  have hle:k * m+j<xs.length * m:=by
   have:(k+1) * m≤xs.length * m:=Nat.mul_le_mul_right _ hlt
   rw [Nat.succ_mul] at this;omega
  rw [ho'.cellAt (k * m+j) hle,flat_get hc xs k x j hk hj5]
  exact hj
end
def zgb (f:ByteArray × Int):List Value:=[.string f.1,.int .i64 f.2]
def zmk (f:Fa):List Value:=[.int .i64 f.x,.int .i64 f.y,.int .i64 f.c]
abbrev zml:=RAt 173 2 zgb
abbrev zhl:=RAt 190 3 zmk
theorem zYf (a:ByteArray × Int):(zgb a).length=2:=rfl
theorem zxu (a:Fa):(zmk a).length=3:=rfl
def zIa (t:Ty) (p l:Value):List Value:=[.string t.name,.int .i64 t.sort,.int .i64 t.of,p,l]
def TyV (t:Ty) (p l:Value):Value:=.agg #[.string t.name,.int .i64 t.sort,.int .i64 t.of,p,l]
def zPk (w:World) (t:Ty) (S:Nat→Prop) (p l:Value):Prop:=zml w t.fields S p∧zhl w t.facts S l
def zWi:List Ty→List (Value × Value)→List Value
 | c :: cs,u :: us=>zIa c u.1 u.2++zWi cs us
 | _,_=>[]
def zsd (w:World):List Ty→(Nat→Prop)→List (Value × Value)→Prop
 | [],_,us=>us=[]
 | c :: cs,S,us=>∃ u us',us=u :: us'∧zPk w c S u.1 u.2∧zsd w cs S us'
def zOc (w:World) (cs:List Ty) (S:Nat→Prop) (v:Value):Prop :=
 ∃ us,w.ownsRow 0 67 5 v cs.length (zWi cs us)∧(∀ g,v.ownBlock=some g→S g)∧zsd w cs (fun b=>S b∧v.ownBlock≠some b) us
theorem zPk.keep {w w':World} {c:Ty} {S S':Nat→Prop} {p l:Value} (h:zPk w c S p l) (hk:∀ b,S b→b<w.heap.size→S' b∧w'.heap[b]?=w.heap[b]?):zPk w' c S' p l:=⟨h.1.keep hk,h.2.keep hk⟩
theorem zPk.one {w:World} {c:Ty} {S:Nat→Prop} {p l:Value} (h:zPk w c S p l):∀ u∈zIa c p l,u.oneCell'=true:=by
 obtain ⟨_,_,rfl⟩:=h.1.slice
 obtain ⟨_,_,rfl⟩:=h.2.slice
 intro u hu
 simp only [zIa,List.mem_cons,List.not_mem_nil,or_false] at hu
 rcases hu with rfl|rfl|rfl|rfl|rfl<;>rfl
theorem zsd.keep {w w':World}:∀ (cs:List Ty) {S S':Nat→Prop} {us:List (Value × Value)},zsd w cs S us→(∀ b,S b→b<w.heap.size→S' b∧w'.heap[b]?=w.heap[b]?)→zsd w' cs S' us
 | [],_,_,_,h,_=>h
 | c :: cs,S,S',us,h,hk=>by
  obtain ⟨u,us',e,ha,hs⟩:=h
  exact ⟨u,us',e,ha.keep hk,zsd.keep cs hs hk⟩
theorem zOc.keep {w w':World} {cs:List Ty} {S S':Nat→Prop} {v:Value} (h:zOc w cs S v) (hk:∀ b,S b→b<w.heap.size→S' b∧w'.heap[b]?=w.heap[b]?):zOc w' cs S' v:=by
 obtain ⟨us,ho,hS,ha⟩:=h
 exact ⟨us,zed ho fun g hg=>(hk g (hS g hg) (ho.lt g hg).2).2,fun g hg=>(hk g (hS g hg) (ho.lt g hg).2).1,zsd.keep cs ha fun b hb hl=>⟨⟨(hk b hb.1 hl).1,hb.2⟩,(hk b hb.1 hl).2⟩⟩
theorem zOc.below {w w':World} {cs:List Ty} {S:Nat→Prop} {v:Value} (h:zOc w cs S v) (hk:Below w.heap.size w w'):zOc w' cs S v:=h.keep fun b hb hl=>⟨hb,hk.block b hl⟩
theorem zOc.drew {w:World} {cs:List Ty} {S:Nat→Prop} {v:Value} (h:zOc w cs S v):zOc w.drew cs S v:=h.keep fun _ hb _=>⟨hb,rfl⟩
theorem zOc.nil (w:World) (S:Nat→Prop):zOc w [] S (.slice none 0 0):=⟨[],World.ownsRow_nil _ _ _ _,(fun g h=>by simp [Value.ownBlock] at h),rfl⟩
theorem zsd.length {w:World}:∀ {cs:List Ty} {S:Nat→Prop} {us:List (Value × Value)},zsd w cs S us→us.length=cs.length
 | [],_,_,h=>by rw [show _=[] from h];rfl
 | c :: cs,_,_,h=>by obtain ⟨u,us',rfl,_,h'⟩:=h;simp [zsd.length h']
theorem zsd.snoc {w:World}:∀ {cs:List Ty} {c:Ty} {S:Nat→Prop} {us:List (Value × Value)} {u:Value × Value},zsd w cs S us→zPk w c S u.1 u.2→zsd w (cs++[c]) S (us++[u])
 | [],c,_,us,u,h,h'=>by rw [show us=[] from h];exact ⟨u,[],rfl,h',rfl⟩
 | a :: cs,c,_,_,u,h,h'=>by
  obtain ⟨v,us',rfl,ha,hs⟩:=h
  exact ⟨v,us'++[u],rfl,ha,zsd.snoc hs h'⟩
theorem zmj:∀ (cs:List Ty) (c:Ty) (us:List (Value × Value)) (u:Value × Value),us.length=cs.length→zWi (cs++[c]) (us++[u])=zWi cs us++zIa c u.1 u.2
 | [],c,[],u,_=>by simp [zWi]
 | a :: cs,c,v :: us,u,h=>by
  simp only [List.cons_append,zWi,List.append_assoc]
  rw [zmj cs c us u (by simpa using h)]
theorem zVk:∀ (cs:List Ty) (us:List (Value × Value)) (k:Nat) (c:Ty) (u:Value × Value) (j:Nat),cs[k]?=some c→us[k]?=some u→j<5→(zWi cs us)[k * 5+j]?=(zIa c u.1 u.2)[j]?
 | [],_,k,t,u,j,h,_,_=>by simp at h
 | _ :: _,[],k,t,u,j,_,h,_=>by simp at h
 | a :: ks,b :: vs,0,t,u,j,h,h',hj=>by
  obtain rfl:a=t:=by simpa using h
  obtain rfl:b=u:=by simpa using h'
  rw [zWi,Nat.zero_mul,Nat.zero_add,List.getElem?_append_left (by simpa [zIa] using hj)]
 | a :: ks,b :: vs,k+1,t,u,j,h,h',hj=>by
  rw [zWi,List.getElem?_append_right (by simp [zIa];omega)]
  have e:(k+1) * 5+j-(zIa a b.1 b.2).length=k * 5+j:=by simp [zIa];omega
  rw [e]
  exact zVk ks vs k t u j (by simpa using h) (by simpa using h') hj
theorem zsd.get {w:World}:∀ {cs:List Ty} {S:Nat→Prop} {us:List (Value × Value)},zsd w cs S us→∀ {k:Nat} {c:Ty},cs[k]?=some c→∃ u,us[k]?=some u∧zPk w c S u.1 u.2
 | [],_,_,_,k,t,h=>by simp at h
 | a :: ts,S,vs,h,0,t,hk=>by
  obtain ⟨v,vs',rfl,ht,_⟩:=h
  obtain rfl:a=t:=by simpa using hk
  exact ⟨v,rfl,ht⟩
 | a :: ts,S,vs,h,k+1,t,hk=>by
  obtain ⟨v,vs',rfl,_,hts⟩:=h
  obtain ⟨u,hu,ht⟩:=zsd.get hts (k:=k) (c:=t) (by simpa using hk)
  exact ⟨u,by simpa using hu,ht⟩
theorem zOc.slice {w:World} {cs:List Ty} {S:Nat→Prop} {v:Value} (h:zOc w cs S v):∃ a c,v=.slice a cs.length c:=by
 obtain ⟨_,ho,_⟩:=h
 rcases ho.2 with ⟨rfl,h0⟩|⟨g,cap,_,rfl,_⟩
 ·exact ⟨_,_,by rw [h0]⟩
 ·exact ⟨_,_,rfl⟩
theorem zOc.form {w:World} {cs:List Ty} {S:Nat→Prop} {v:Value} (h:zOc w cs S v):(v=.slice none 0 0∧cs=[])∨∃ g cap,v=.slice (some ⟨g,0,none⟩) cs.length cap∧(S g∧g<w.heap.size)∧cs.length≤cap∧cap≤maxLen ∧
  ∀ k c,cs[k]?=some c→∃ p l,w.rangeAt g (k * 5) (zIa c p l)∧zPk w c S p l:=by
 obtain ⟨us,ho,hS,hts⟩:=h
 have ho':=ho
 rcases ho.2 with ⟨rfl,h0⟩|⟨g,cap,cur,rfl,hb,hg,hnc,hcm,hcs,htake⟩
 ·exact .inl ⟨rfl,List.eq_nil_of_length_eq_zero h0⟩
 ·refine .inr ⟨g,cap,rfl,⟨hS g rfl,(Array.getElem?_eq_some_iff.1 hg).1⟩,hnc,hcm,fun k c hk=>?_⟩
  obtain ⟨u,hu,ht⟩:=hts.get hk
  refine ⟨u.1,u.2,fun j x hj=>?_,ht.keep fun b hb hl=>⟨hb.1,rfl⟩⟩
  have hj5:j<5:=by have:=(List.getElem?_eq_some_iff.1 hj).1;simpa [zIa] using this
  have hlt:k<cs.length:=(List.getElem?_eq_some_iff.1 hk).1
  rw [ho'.cellAt (k * 5+j) (by omega),zVk cs us k c u j hk hu hj5]
  exact hj
theorem zSd {P:Program} {o:Oper} {a:Act} {w:World} {K:Act→World→Prop} {Q:Exit→Act→World→Prop} (s x:Operand) {t:TypeId} (ho:o.op=.call { callee:=.builtin .append,args:=#[s,x],argTypes:=#[t,t] })
  {i:TypeInfo} {z:Value} (I:zqe P t 67 5 80 i z) {cs:List Ty} {c:Ty} {S:Nat→Prop} {v p l:Value} (hs:a.eval s=v) (hk:zOc w cs S v) (hS:S w.heap.size) {b cc:Nat} (hx:a.eval x=.slice (some ⟨b,0,none⟩) 1 cc)
  (hg:Blk w b (zIa c p l) 67) (hc:zPk w c (fun b=>S b∧v.ownBlock≠some b) p l) (hb:cs.length+1≤2000000)
  (h:∀ v' w',zOc w' (cs++[c]) S v'→w.grownBy w' v.ownBlock→(v'.ownBlock=v.ownBlock∨v'.ownBlock=some w.heap.size)→K (a.put o.dst v') w'):o.wp P a w K Q:=by
 obtain ⟨us,hown,hSv,hks⟩:=hk
 have hnews:∀ j y,(zIa c p l)[j]?=some y→w.cell? ((⟨b,0,none⟩:Addr).add j)=some y:=fun j y hj=>by rw [Addr.add_mid,Nat.zero_add,hg.cell j];exact hj
 have hbb:(cs.length+1) * 80≤140737488355328:=by omega
 obtain ⟨v',w',hr,ho',hg',_⟩:=run_append_own (P:=P) w 0 t o.type 67 i z 5 80 I.ht I.hi I.hz I.size I.bytes I.zs (by decide) v cs.length (zWi cs us) hown ⟨b,0,none⟩ 1 cc (zIa c p l) rfl hnews hc.one (by unfold maxLen;omega) hbb (Nat.zero_le _)
 have hbk:=zbe (ty:=o.type) I.ht I.hi I.hz I.size I.bytes hown (by omega) rfl hnews hc.one (by unfold maxLen;omega) hbb hr
 unfold Oper.wp execOp
 simp only [ho,resolve,invoke,builtin,Sem.run_bind,Sem.run_pure,Result.andThen_ok,List.map_toArray,List.map_cons,List.map_nil,hs,hx]
 rw [hr]
 have keep:∀ b,(S b∧v.ownBlock≠some b)→b<w.heap.size→(S b∧v'.ownBlock≠some b)∧w'.heap[b]?=w.heap[b]?:=fun b hb hl=>by
  refine ⟨⟨hb.1,fun h=>?_⟩,hg'.block b hl (Ne.symm hb.2)⟩
  rcases hbk with h'|h'
  ·exact hb.2 (h'▸h)
  ·rw [h'] at h;cases h;exact absurd hl (Nat.lt_irrefl _)
 refine h v' w' ⟨us++[(p,l)],?_,?_,?_⟩ hg' hbk
 ·rw [zmj _ _ _ _ hks.length,List.length_append]
  exact ho'
 ·intro g hg2
  rcases hbk with h|h
  ·exact hSv g (h▸hg2)
  ·rw [h] at hg2;cases hg2;exact hS
 ·exact zsd.snoc (zsd.keep _ hks keep) (hc.keep keep)
def zgg (s:ByteArray):Lit:=.string s.data.toList
def MapAt (w:World) (b:Nat) (cs:List Ty):Prop :=
 ∃ (n:Nat) (D:DataW Unit),w.ownsMap Tryz.prog 9 (plainElem Tryz.prog 3) b n D∧n≤cs.length∧IsMap D∧∀ s:ByteArray,Maps.has D (zgg s)=(zze cs s).isSome∧∀ k,zze cs s=some k→D.atKey (zgg s) (.lit (.int .i64 0))=.lit (.int .i64 k)
theorem MapAt.kept {w w':World} {b:Nat} {cs:List Ty} {row:Option Nat} (h:MapAt w b cs) (hg:w.grownBy w' row) (hne:some b≠row):MapAt w' b cs:=by
 obtain ⟨n,D,h1,h2,h3,h4⟩:=h
 exact ⟨n,D,h1.kept hg hne,h2,h3,h4⟩
theorem MapAt.lt {w:World} {b:Nat} {cs:List Ty} (h:MapAt w b cs):b<w.heap.size:=by
 obtain ⟨n,D,h1,_⟩:=h
 exact h1.lt
theorem MapAt.below {w w':World} {b:Nat} {cs:List Ty} (h:MapAt w b cs) (hb:Below w.heap.size w w'):MapAt w' b cs :=
 h.kept (row:=none) ⟨hb.os,hb.tape,hb.output,hb.size,fun k hk _=>hb.block k hk⟩ (by simp)
theorem ztk (s u:ByteArray):zgg s=zgg u↔s.toList=u.toList:=by
 unfold zgg
 rw [ByteArray.toList_eq,ByteArray.toList_eq]
 simp
theorem zDp:Keyed Tryz.prog 9:=string_keyed Tryz.underlying9
theorem zpt (w:World):(zeroValue 3).run Tryz.prog w=.ok (.int .i64 0) w:=by kernel_rfl
theorem MapAt.look {w:World} {M:Nat} {cs:List Ty} (h:MapAt w M cs) {s:ByteArray} (hs:s.size≤maxLen) :
  ∃ c:Int,(∀ k,zze cs s=some k→c=(k:Int))∧∀ W:World,W.heap[M]?=w.heap[M]?→(Instr.lookup 99 (.map (some M)) (.string s) true).run Tryz.prog W=.ok (.tuple #[.int .i64 c,.bool (zze cs s).isSome]) W:=by
 obtain ⟨n,D,ho,hn,hI,hD⟩:=h
 have hkey:keyOf Tryz.prog 9 (.string s)=some (zgg s):=WideMaps.keyOf_string_mk Tryz.underlying9 hs
 have one:∀ W:World,W.heap[M]?=w.heap[M]?→∃ c:Int,D.atKey (zgg s) (.lit (.int .i64 0))=.lit (.int .i64 c)∧(Instr.lookup 99 (.map (some M)) (.string s) true).run Tryz.prog W=.ok (.tuple #[.int .i64 c,.bool (zze cs s).isSome]) W:=fun W hW=>by
  have hoW:W.ownsMap Tryz.prog 9 (plainElem Tryz.prog 3) M n D:=by
   obtain ⟨es,clock,hb,hr⟩:=ho
   exact ⟨es,clock,hW.trans hb,hr⟩
  obtain ⟨v,ps,hrun,hv⟩:=hoW.look_ok zDp Tryz.underlying99 (zpt W) (plainElem_int Tryz.underlying3 (by decide)) hkey
  obtain ⟨c,rfl,hc,_⟩:=plainElem_int_inv Tryz.underlying3 hv
  refine ⟨c,congrArg Prod.fst hc,?_⟩
  rw [hrun,(hD s).1]
 obtain ⟨c,hc,_⟩:=one w rfl
 refine ⟨c,fun k hk=>?_,fun W hW=>?_⟩
 ·have h2:=(hD s).2 k hk
  rw [hc] at h2
  simpa using h2
 ·obtain ⟨c',hc',hr⟩:=one W hW
  rw [hc] at hc'
  have e:c'=c:=by simpa using hc'.symm
  rw [← e]
  exact hr
theorem MapAt.same {w w':World} {M:Nat} {cs:List Ty} (h:MapAt w M cs) (e:w'.heap[M]?=w.heap[M]?):MapAt w' M cs:=by
 obtain ⟨n,D,⟨es,clock,hb,hr⟩,h2⟩:=h
 exact ⟨n,D,⟨es,clock,e.trans hb,hr⟩,h2⟩
theorem MapAt.snoc {w1:World} {M n:Nat} {cs:List Ty} {c:Ty} {D:DataW Unit} (hn:n≤cs.length) (hI:IsMap D) (hD:∀ s:ByteArray,Maps.has D (zgg s)=(zze cs s).isSome∧∀ k,zze cs s=some k→D.atKey (zgg s) (.lit (.int .i64 0))=.lit (.int .i64 k))
  (ho:w1.ownsMap Tryz.prog 9 (plainElem Tryz.prog 3) M (n+1) (D.put (zgg c.name) (.lit (.int .i64 (cs.length:Nat))))) (hf:zze cs c.name=none):MapAt w1 M (cs++[c]):=by
 refine ⟨n+1,_,ho,by simp;omega,hI.put _ _,fun s=>?_⟩
 rw [zUo]
 by_cases he:c.name.toList=s.toList
 ·have hk:zgg s=zgg c.name:=(ztk s c.name).2 he.symm
  have hs:zze cs s=none:=by
   have:∀ l:List Ty,zze l s=zze l c.name:=by
    intro l
    induction l with
    | nil=>rfl
    | cons a l ih=>show (bif a.name.toList == s.toList then some 0 else (zze l s).map (·+1))=(bif a.name.toList == c.name.toList then some 0 else (zze l c.name).map (·+1));rw [ih,he]
   rw [this];exact hf
  have hb:(c.name.toList == s.toList)=true:=by simpa using he
  rw [hs,hk,has_put_same hI (by unfold zgg;trivial)]
  refine ⟨by simp [hb],fun k hk2=>?_⟩
  rw [atKey_put_same hI (by unfold zgg;trivial)]
  simp only [hb,cond_true,Option.some.injEq] at hk2
  rw [← hk2]
 ·have hk:zgg s≠zgg c.name:=fun e=>he ((ztk s c.name).1 e).symm
  have hb:(c.name.toList == s.toList)=false:=by simpa using he
  rw [has_put_other hk,atKey_put_other hk,(hD s).1]
  cases hs:zze cs s with
  | none=>simp [hb]
  | some k =>
   refine ⟨rfl,fun k' hk'=>?_⟩
   have e:k=k':=Option.some.inj hk'
   rw [← e]
   exact (hD s).2 k hs
end
end Go.Proofs.YtpjnpffcnmgdcaaGreatDoor
