/- Proved here: for every text that lychgatelaw12.SignOrder is called with, in every memory in which lex's tables stand as the program's text lays them, the call returns true and the text reads as before. Conditions: the package-level tables lex.keys, lex.blanks and lex.pairs hold what their initialisers lay (the card ties them to the program's text). -/
import Derived.Test.YtdhmdfhnkppnmaaDoorY24
namespace Go.Proofs.YtdhmdfhnkppnmaaDoor
set_option maxRecDepth 100000
set_option maxHeartbeats 4000000
open Go.ChangeShapes Go.WideShapes Go.ChangeAt Go.ChangeMaps Go.RowKit Go.Maps
theorem zbc.some {w:World} {r:E (List Sg)} {e:Ending} {w':World} (h:zbc w r e w'):∃ (a:Option Addr) (n c:Nat) (q g:Int),e=.returned (.tuple #[.slice a n c,.int .i64 q,.int .i64 g])∧Below w.heap.size w w':=by
 unfold zbc at h
 cases r with
 | error pc=>obtain ⟨q,c⟩:=pc;obtain ⟨rfl,hb⟩:=h;exact ⟨_,_,_,_,_,rfl,hb⟩
 | ok l=>obtain ⟨v,rfl,hv,hb⟩:=h;obtain ⟨a,c,rfl⟩:=hv.slice;exact ⟨_,_,_,_,_,rfl,hb⟩
theorem zQg (s:ByteArray) (w:World) (hs:s.size≤maxLen) (ht:Tabs w) :
  Calls Tryd.prog 4 #[.string s] w fun e w'=>e=.returned (.bool true)∧Below w.heap.size w w':=by
 have HT:=zh ht
 cases hq:zab s with
 | mk t1 q1 =>
 obtain ⟨p1,c1⟩:=q1
 have HQ1:=zh hq
 have HD1:=zh (show zVf t1∧t1.size≤4096∧(∀ x∈t1.kids,zje x) from by have h1:=zye s;have h2:=(zwd s).2;have h3:=zzg s;rw [hq] at h1 h2 h3;exact ⟨h1,h2,h3⟩)
 clear hq ht
 go_enter Tryd.func4,Tryd.ntmps4
 go_wp2_with fail
 refine (parse_any s w hs HT.out).mono ?_
 rw [HQ1.out]
 rintro e w1 ⟨k1,rfl,hk,hb⟩
 obtain ⟨W1,hW1⟩:∃ W,w1.alloc (.cells (zaa t1 k1).toArray 25)=W:=⟨_,rfl⟩
 have hb1:Below w1.heap.size w1 W1:=hW1▸(Below.refl _ _).alloc (Nat.le_refl _) _
 have HB1:=zh (hb.trans (hb1.mono hb.size))
 have HN1:=zh (show Blk W1 w1.heap.size (zaa t1 k1) 25 from hW1▸Blk.new w1 _ _)
 have HK1:=zh (show KAt 25 W1 t1.kids (fun b=>w.heap.size≤b) k1 from (show KAt 25 w1 t1.kids _ k1 from hk).below hb1)
 have HO1:=zh HK1.out.one
 have HTY:=zh (zEg HK1.out HD1.out.1 HD1.out.2.1)
 have hn1:=HN1.out
 clear hk hb hb1
 unfold zma at HTY ⊢
 go_upto_region 2 with ((with_reducible refine zra 25 (.tmp 3) ?_);refine zga rfl 25 (.tmp 3) (.tmp 21) rfl (zaa t1 k1) (old:=zba) rfl rfl Tryd.zca rfl (zda _ _ HO1.out) ?_;rw [hW1])
 clear hW1
 go_wp2_with ((with_reducible refine zva 25 (.tmp 3) ?_);refine zfa rfl 25 (.tmp 3) rfl w1.heap.size (zaa t1 k1) rfl hn1 Tryd.underlying25 rfl Tryd.zca ?_)
 refine HTY.out.mono ?_
 clear HTY hn1
 intro e w2 hp
 have HCD:=zh (zne t1.kids [])
 have hwk:Hid (∀ (W:World),Below w.heap.size w W→Calls Tryd.prog 8 #[] W fun e w'=>e=.returned (.bool true)∧Below W.heap.size W w'):=zh fun W h=>zrg W (HT.out.below h HT.out.size)
 cases hr1:zGb [] t1.kids with
 | error pc =>
  obtain ⟨q,c⟩:=pc
  unfold zyc at hp
  rw [hr1] at hp
  obtain ⟨rfl,hb⟩:=hp
  have hcc:=HCD.out q c hr1
  have hne:(c != 0)=true:=by rw [bne_iff_ne];omega
  have HB2:=zh (HB1.out.trans (hb.mono HB1.out.size))
  have hn2:=HN1.out.stays hb
  have HSG:=zh (zqe (A:=none) (cap:=0) (tys:=[]) (fun h=>by simp at h) ⟨Nat.le_refl _,by unfold maxLen;omega⟩ (fun t h=>by simp at h) (HK1.out.below hb) HD1.out.2.1 HD1.out.2.2)
  unfold zma at HSG
  rw [show ([]:List Ty).length=0 from rfl] at HSG
  clear hb hr1 hcc
  go_wp2_with ((with_reducible refine zva 25 (.tmp 3) ?_);refine zfa rfl 25 (.tmp 3) rfl w1.heap.size (zaa t1 k1) rfl hn2 Tryd.underlying25 rfl Tryd.zca ?_)
  refine HSG.out.mono ?_
  clear HSG hn2
  intro e w3 hp
  obtain ⟨va,vn,vc,at3,g3,rfl,hb⟩:=hp.some
  have HB3:=zh (HB2.out.trans (hb.mono HB2.out.size))
  clear hb hp
  go_wp2_with fail
  refine (hwk.out _ HB3.out).mono ?_
  rintro e w4 ⟨rfl,hb⟩
  have HB4:=zh (HB3.out.trans (hb.mono HB3.out.size))
  clear hb
  by_cases hc1:c1=0
  ·obtain rfl:=hc1
   go_wp2_with fail
   refine (hwk.out _ HB4.out).mono ?_
   rintro e w5 ⟨rfl,hb⟩
   have HB5:=zh (HB4.out.trans (hb.mono HB4.out.size))
   go_wp2_with fail
   go_ret
   exact ⟨rfl,HB5.out⟩
  ·have hne1:(c1 != 0)=true:=by simpa using hc1
   go_wp2_with fail
   refine (hwk.out _ HB4.out).mono ?_
   rintro e w5 ⟨rfl,hb⟩
   have HB5:=zh (HB4.out.trans (hb.mono HB4.out.size))
   go_wp2_with fail
   go_ret
   exact ⟨rfl,HB5.out⟩
 | ok tys =>
  unfold zyc at hp
  rw [hr1] at hp
  obtain ⟨v,rfl,hv,hb⟩:=hp
  have HB2:=zh (HB1.out.trans (hb.mono HB1.out.size))
  have HV2:=zh hv
  have hn2:=HN1.out.stays hb
  have HK2:=zh (HK1.out.below hb)
  have HRR:=zh hr1
  have hsm:∀ t∈tys,t.name.size≤maxLen:=fun t ht=>by have:=zid t1.kids HD1.out.1 (fun t h=>by simp at h) hr1 t ht;unfold maxLen;omega
  obtain ⟨va,vc,rfl,hcl,hty⟩:=hv.tysc
  have HSG:=zh (zqe hty hcl hsm HK2.out HD1.out.2.1 HD1.out.2.2)
  unfold zma at HSG
  have HCL:=zh hcl
  clear hb hv HK1 hr1 hty hcl hsm
  go_wp2_with ((with_reducible refine zva 25 (.tmp 3) ?_);refine zfa rfl 25 (.tmp 3) rfl w1.heap.size (zaa t1 k1) rfl hn2 Tryd.underlying25 rfl Tryd.zca ?_)
  have HN2:=zh hn2
  refine HSG.out.mono ?_
  clear HSG hn2
  intro e w3 hp
  cases hr2:zFc tys [] t1.kids with
  | error pc =>
   obtain ⟨q,c⟩:=pc
   unfold zbc at hp
   rw [hr2] at hp
   obtain ⟨rfl,hb⟩:=hp
   have hne:(c != 0)=true:=by simpa using zpe hr2
   have HB3:=zh (HB2.out.trans (hb.mono HB2.out.size))
   clear hb hr2
   go_wp2_with fail
   refine (hwk.out _ HB3.out).mono ?_
   rintro e w4 ⟨rfl,hb⟩
   have HB4:=zh (HB3.out.trans (hb.mono HB3.out.size))
   clear hb
   by_cases hc1:c1=0
   ·obtain rfl:=hc1
    go_wp2_with fail
    refine (hwk.out _ HB4.out).mono ?_
    rintro e w5 ⟨rfl,hb⟩
    have HB5:=zh (HB4.out.trans (hb.mono HB4.out.size))
    go_wp2_with fail
    go_ret
    exact ⟨rfl,HB5.out⟩
   ·have hne1:(c1 != 0)=true:=by simpa using hc1
    go_wp2_with fail
    refine (hwk.out _ HB4.out).mono ?_
    rintro e w5 ⟨rfl,hb⟩
    have HB5:=zh (HB4.out.trans (hb.mono HB4.out.size))
    go_wp2_with fail
    go_ret
    exact ⟨rfl,HB5.out⟩
  | ok sgs =>
   unfold zbc at hp
   rw [hr2] at hp
   obtain ⟨v,rfl,hv,hb⟩:=hp
   have HB3:=zh (HB2.out.trans (hb.mono HB2.out.size))
   have HS3:=zh hv
   have HV3:=zh (HV2.out.below hb)
   have HN3:=zh (HN2.out.stays hb)
   have HK3:=zh (HK2.out.below hb)
   have HR2:=zh hr2
   obtain ⟨la,lc,rfl⟩:=hv.slice
   clear hb hv hr2 HV2 HN2 HK2
   go_wp2_with fail
   refine (hwk.out _ HB3.out).mono ?_
   rintro e w4 ⟨rfl,hb⟩
   have HB4:=zh (HB3.out.trans (hb.mono HB3.out.size))
   have HS4:=zh (HS3.out.below hb)
   have HV4:=zh (HV3.out.below hb)
   have HN4:=zh (HN3.out.stays hb)
   have HK4:=zh (HK3.out.below hb)
   clear hb HS3 HV3 HN3 HK3
   by_cases hc1:c1=0
   ·obtain rfl:=hc1
    obtain ⟨ka,kc,rfl⟩:=HK4.out.len
    have n4:w4.cell? ⟨w1.heap.size,4,none⟩=some (.slice ka t1.kids.length kc):=HN4.out.cell 4
    obtain ⟨zs,hzs,hall⟩:=zVh (R:=SgO tys) (fun n s=>zXn) t1.kids HD1.out.2.2 HR2.out
    obtain rfl:sgs=zs:=by simpa using hzs
    have HAL:=zh hall
    have HAN:=zh hall.len
    clear hzs hall
    have hkl:t1.kids.length≤4096:=by have h1:=zrd t1.kids;have h2:t1.size=1+sizes t1.kids:=(by cases t1;rw [size_mk];rfl);have:=HD1.out.2.1;omega
    have HSZ:Hid (sizes t1.kids≤4096):=by
     have h2:t1.size=1+sizes t1.kids:=by cases t1;rw [size_mk];rfl
     exact zh (by have:=HD1.out.2.1;omega)
    go_wp2_with fail
    clear n4
    go_loopw [12,55] (fun a i wr=>∃ k:Nat,k≤t1.kids.length∧i=.int .i64 k∧a=.int .i64 (((t1.kids.take k).filter (fun t=>t.kind == 6)).length:Nat)∧Below w4.heap.size w4 wr) (fun _ i _=>t1.kids.length-(intOf i).toNat)
    case atStart=>exact ⟨0,by omega,rfl,by simp,Below.refl _ _⟩
    case round =>
     obtain ⟨k,hkk,rfl,rfl,hbw⟩:=hrel
     obtain ⟨wo,rfl⟩:∃ W,W=wr:=⟨_,rfl⟩
     by_cases hlt:k<t1.kids.length
     ·obtain ⟨tk,htk⟩:∃ tk,t1.kids[k]?=some tk:=⟨_,List.getElem?_eq_getElem hlt⟩
      obtain ⟨g,cap,hsl,hgl,hcap,hcm,hget⟩:=(HK4.out.form).resolve_left fun h=>by rw [h.2] at hlt;simp at hlt
      obtain ⟨rfl,rfl⟩:ka=some ⟨g,0,none⟩∧kc=cap:=by simpa using hsl
      obtain ⟨u,hr,hu⟩:=hget k tk htk
      have HR:=zh (zoa hr hbw hgl)
      obtain ⟨W5,hW5⟩:∃ W,wo.alloc (.cells (zaa tk u).toArray 25)=W:=⟨_,rfl⟩
      have hb5:Below wo.heap.size wo W5:=hW5▸(Below.refl _ _).alloc (Nat.le_refl _) _
      have HB5:=zh (hbw.trans (hb5.mono hbw.size))
      have HN5:=zh (show Blk W5 wo.heap.size (zaa tk u) 25 from hW5▸Blk.new wo _ _)
      have HU:=zh (hu.below HB5.out).kat
      have hu1:=hu.one'
      have c0:W5.cell? ⟨wo.heap.size,0,none⟩=some (.int .i64 tk.kind):=HN5.out.cell 0
      have HNX:=zh (ztj (P:=fun t=>t.kind == 6) htk)
      have hkl2:tk.kids.length≤4096:=by have:=zYi (List.mem_of_getElem? htk);have:=HSZ.out;omega
      clear hget hr hu hsl hb5
      cases h1:tk.kind == 6
      ·have h1n:(tk.kind != 6)=true:=by simp only [bne,h1];rfl
       have HNN:=zh (HNX.out.trans (by rw [h1];try rfl))
       go_wp2_with (first
        | ((with_reducible refine zva 25 (.tmp 57) ?_);refine wpList_load_mid rfl 25 (.tmp 57) rfl g (k * 5) rfl (zaa tk u) _ HR.out Tryd.underlying25 rfl Tryd.zca ?_)
        | ((with_reducible refine zra 25 (.tmp 14) ?_);refine zga rfl 25 (.tmp 14) (.tmp 58) rfl (zaa tk u) (old:=zba) rfl rfl Tryd.zca rfl (zda _ _ hu1) ?_;rw [hW5]))
       go_roundw
       case rel=>exact ⟨k+1,by omega,by go_num,by rw [HNN.out];rfl,HB5.out⟩
       case measure=>simp [intOf];omega
      ·have h1n:(tk.kind != 6)=false:=by simp only [bne,h1];rfl
       have HNN:=zh (HNX.out.trans (by rw [h1];try rfl))
       obtain ⟨x,hx,hxn,hx8,ps,m0,b0,hxk,hps⟩:=HAL.out.get _ tk (zsi htk h1)
       generalize ((t1.kids.take k).filter (fun t=>t.kind == 6)).length=at0 at *
       have hat:at0<sgs.length:=(List.getElem?_eq_some_iff.1 hx).1
       obtain ⟨lg,lcap,hlsl,hlg,hlcap,hlcm,hlget⟩:=(HS4.out.form).resolve_left fun h=>by rw [h.2] at hat;simp at hat
       obtain ⟨rfl,rfl⟩:la=some ⟨lg,0,none⟩∧lc=lcap:=by simpa using hlsl
       obtain ⟨pv,hrl,hpv⟩:=hlget at0 x hx
       have HRL:=zh (zoa hrl HB5.out hlg.2)
       have HPV:=zh (hpv.below HB5.out)
       obtain ⟨pa,pc,rfl⟩:=RAt.slice hpv
       obtain ⟨ua,uc,rfl⟩:=HU.out.len
       have d1:W5.cell? ⟨wo.heap.size,1,none⟩=some (.string tk.text):=HN5.out.cell 1
       have d4:W5.cell? ⟨wo.heap.size,4,none⟩=some (.slice ua tk.kids.length uc):=HN5.out.cell 4
       have l0:W5.cell? ⟨lg,at0 * 5,none⟩=some (.string tk.text):=hxn▸HRL.out 0 _ rfl
       have l1:W5.cell? ⟨lg,at0 * 5+1,none⟩=some (.slice pa x.params.length pc):=HRL.out 1 _ rfl
       have HPS:=zh hps
       have HXK:=zh hxk
       have hnk:tk.kids.length=x.params.length+2:=by rw [hxk];simp [hps.len]
       have hwk2:IntKind.i64.wrap ((tk.kids.length:Int)-2)=(x.params.length:Int):=by
        rw [hnk,show (((x.params.length+2:Nat):Int)-2)=(x.params.length:Int) by omega]
        exact IntWalk.i64_in _ (by omega)
       have a1:decide (sgs.length≤at0)=false:=by simpa using hat
       have a2:(at0:Int)<(sgs.length:Int):=by omega
       have hal:at0≤4096:=by have h1:=HAN.out;have h2:=List.length_filter_le (fun t:T=>t.kind == 6) t1.kids;omega
       have HNK:=zh hnk
       clear hlget hrl hpv hlsl hx hps hxk hxn hnk
       unfold maxLen at hlcm
       generalize tk.text=tx at *
       go_upto_region 11 with (first
        | ((with_reducible refine zva 25 (.tmp 57) ?_);refine wpList_load_mid rfl 25 (.tmp 57) rfl g (k * 5) rfl (zaa tk (.slice ua tk.kids.length uc)) _ HR.out Tryd.underlying25 rfl Tryd.zca ?_)
        | ((with_reducible refine zra 25 (.tmp 14) ?_);refine zga rfl 25 (.tmp 14) (.tmp 58) rfl (zaa tk (.slice ua tk.kids.length uc)) (old:=zba) rfl rfl Tryd.zca rfl (zda _ _ hu1) ?_;rw [hW5]))
       clear hW5
       go_quiet (fail)
       go_wp2_with fail
       go_loopw [95] (fun i wr=>∃ j:Nat,j≤x.params.length∧i=.int .i64 j∧Below W5.heap.size W5 wr) (fun i _=>x.params.length-(intOf i).toNat)
       case atStart=>exact ⟨0,by omega,rfl,zWd (Below.refl _ _) _⟩
       case round =>
        obtain ⟨j,hj,rfl,hbi⟩:=hrel
        by_cases hlj:j<x.params.length
        ·obtain ⟨p,hp⟩:∃ p,x.params[j]?=some p:=⟨_,List.getElem?_eq_getElem hlj⟩
         obtain ⟨q,hq⟩:∃ q,ps[j]?=some q:=⟨_,List.getElem?_eq_getElem (by rw [HPS.out.len];exact hlj)⟩
         obtain ⟨p',hp',hpn,m,hqk,hm1,hpm,hmk⟩:=HPS.out.get j q hq
         obtain rfl:p=p':=Option.some.inj (hp.symm.trans hp')
         have hqt:tk.kids[j]?=some q:=by rw [HXK.out,List.getElem?_append_left (by rw [HPS.out.len];exact hlj)];exact hq
         obtain ⟨pg,pcap,hpsl,hpg,hpcap,hpcm,hpget⟩:=(HPV.out.form zvf).resolve_left fun h=>by rw [h.2] at hlj;simp at hlj
         obtain ⟨rfl,rfl⟩:pa=some ⟨pg,0,none⟩∧pc=pcap:=by simpa using hpsl
         have HRP:=zh (zoa (hpget j p hp) hbi hpg.2)
         obtain ⟨g2,cap2,hsl2,hgl2,hcap2,hcm2,hget2⟩:=(HU.out.form).resolve_left fun h=>by rw [h.2] at hqt;simp at hqt
         obtain ⟨rfl,rfl⟩:ua=some ⟨g2,0,none⟩∧uc=cap2:=by simpa using hsl2
         obtain ⟨u2,hr2,hu2⟩:=hget2 j q hqt
         have hr2':=zoa hr2 hbi hgl2
         obtain ⟨g3,cap3,rfl,hgl3,hcap3,hcm3,hget3⟩:=(hu2.kat.form).resolve_left fun h=>by rw [hqk] at h;simp at h
         obtain ⟨u3,hr3,hu3⟩:=hget3 0 m (by rw [hqk];rfl)
         have HR3:=zh (zoa hr3 hbi hgl3)
         rw [hqk] at hr2' hcap3
         have hu31:=hu3.one'
         obtain ⟨u3a,u3c,rfl⟩:=(hu3.kat).len
         obtain ⟨W6,hW6⟩:∃ W,wr.alloc (.cells (zha p).toArray 40)=W:=⟨_,rfl⟩
         have hb6:Below wr.heap.size wr W6:=hW6▸(Below.refl _ _).alloc (Nat.le_refl _) _
         obtain ⟨W7,hW7⟩:∃ W,W6.alloc (.cells (zaa m (.slice u3a m.kids.length u3c)).toArray 25)=W:=⟨_,rfl⟩
         have hb7:Below W6.heap.size W6 W7:=hW7▸(Below.refl _ _).alloc (Nat.le_refl _) _
         have hb67:=hb6.trans (hb7.mono hb6.size)
         have HB7:=zh (hbi.trans (hb67.mono hbi.size))
         have HX6:=zh (show Blk W6 wr.heap.size (zha p) 40 from hW6▸Blk.new wr _ _)
         have HX7:=zh (HX6.out.stays hb7)
         have HM7:=zh (show Blk W7 W6.heap.size (zaa m (.slice u3a m.kids.length u3c)) 25 from hW7▸Blk.new W6 _ _)
         have hb56:Below W5.heap.size W5 W6:=hbi.trans (hb6.mono hbi.size)
         have d46:W6.cell? ⟨wo.heap.size,4,none⟩=some (.slice (some ⟨g2,0,none⟩) tk.kids.length uc):=(HN5.out.stays hb56).cell 4
         have q46:W6.cell? ⟨g2,j * 5+4,none⟩=some (.slice (some ⟨g3,0,none⟩) 1 cap3):=zoa hr2 hb56 hgl2 4 _ (by rw [hqk];rfl)
         have HR6:=zh (zoa hr3 hb56 hgl3)
         have hjk:(j:Int)<(tk.kids.length:Int):=by have:=HNK.out;omega
         have hjx:(j:Int)<(x.params.length:Int):=by omega
         have x0:W7.cell? ⟨wr.heap.size,0,none⟩=some (.string q.text):=hpn▸HX7.out.cell 0
         have x1:W7.cell? ⟨wr.heap.size,1,none⟩=some (.int .i64 p.mode):=HX7.out.cell 1
         have x2:W7.cell? ⟨wr.heap.size,2,none⟩=some (.int .i64 p.ty):=HX7.out.cell 2
         have y1:W7.cell? ⟨W6.heap.size,1,none⟩=some (.string m.text):=HM7.out.cell 1
         have y4:W7.cell? ⟨W6.heap.size,4,none⟩=some (.slice u3a m.kids.length u3c):=HM7.out.cell 4
         have d47:W7.cell? ⟨wo.heap.size,4,none⟩=some (.slice (some ⟨g2,0,none⟩) tk.kids.length uc):=(HN5.out.stays HB7.out).cell 4
         have q17:W7.cell? ⟨g2,j * 5+1,none⟩=some (.string q.text):=zoa hr2 HB7.out hgl2 1 _ rfl
         obtain ⟨b1,hb1⟩:∃ b,(p.mode == 1)=b:=⟨_,rfl⟩
         obtain ⟨b2,hb2⟩:∃ b,(p.mode == 2)=b:=⟨_,rfl⟩
         obtain ⟨b4,hb4⟩:∃ b,(p.mode == 4)=b:=⟨_,rfl⟩
         have ht1:(m.text.toList == [105,110,116])=b1:=by rw [← hb1,hpm];exact (zpo m.text).symm
         have ht2:(m.text.toList == [111,119,110])=b2:=by rw [← hb2,hpm];exact (zBo m.text).symm
         have ht4:(m.text.toList == [38,109,117,116])=b4:=by rw [← hb4,hpm];exact (zno m.text).symm
         have HW7M:=zh hmk
         have HU3:=zh hu3.kat
         unfold maxLen at hpcm hcm2 hcm3
         clear hpget hget2 hget3 hr2 hr2' hr3 hb6 hb7 hb67 hb56 hpsl hsl2 hp hq hp' hpn hqt hpm hu2 hu3 hmk hbi l0 l1 d1 d4 c0 hqk
         have hx6:=HX6.out
         go_upto_region 17 with (first
          | ((with_reducible refine zva 40 (.tmp 98) ?_);refine wpList_load_mid rfl 40 (.tmp 98) rfl pg (j * 3) rfl (zha p) _ HRP.out Tryd.underlying40 rfl Tryd.zNa ?_)
          | ((with_reducible refine zra 40 (.tmp 16) ?_);refine zga rfl 40 (.tmp 16) (.tmp 99) rfl (zha p) (old:=zha zOb) rfl rfl Tryd.zNa rfl (zRb _) ?_;rw [hW6])
          | ((with_reducible refine zva 25 (.tmp 106) ?_);refine wpList_load_mid rfl 25 (.tmp 106) rfl g3 0 rfl (zaa m (.slice u3a m.kids.length u3c)) _ HR6.out Tryd.underlying25 rfl Tryd.zca ?_)
          | ((with_reducible refine zra 25 (.tmp 17) ?_);refine zga rfl 25 (.tmp 17) (.tmp 107) rfl (zaa m (.slice u3a m.kids.length u3c)) (old:=zba) rfl rfl Tryd.zca rfl (zda _ _ rfl) ?_;rw [hW7]))
         clear hW6 hW7 hx6 d46 q46 hm1
         generalize q.text=qx at *
         generalize m.text=mx at *
         rcases HW7M.out with ⟨e,hn⟩|⟨hn,n,kk,ty,e,hty,htk2,htn⟩
         ·have hml:m.kids.length=0:=by rw [e];rfl
          rw [hml] at y4
          clear HW7M HU3 HR6 HR3 HM7 hn
          rw [hml]
          generalize p.mode=md at *
          generalize p.ty=ty at *
          clear hml e
          refine wp_region_held_drew (S:=fun W=>W.cell? ⟨wr.heap.size,0,none⟩=some (.string qx)∧W.cell? ⟨wo.heap.size,4,none⟩=some (.slice (some ⟨g2,0,none⟩) tk.kids.length uc)∧W.cell? ⟨g2,j * 5+1,none⟩=some (.string qx)∧W.cell? ⟨wr.heap.size,1,none⟩=some (.int .i64 md)∧W.cell? ⟨W6.heap.size,1,none⟩=some (.string mx)∧W.cell? ⟨W6.heap.size,4,none⟩=some (.slice u3a 0 u3c)) (by kernel_rfl) ⟨x0,d47,q17,x1,y1,y4⟩ (fun hS=>?_)
          refine wpAnyH_take (i:=0) (oi:=⟨some 108,_,_,_,_,_⟩) (v:=.pointer (some ⟨wr.heap.size,0,none⟩)) rfl (by kernel_rfl) (by kernel_rfl) (by kernel_rfl) (fun _ _ _ h=>h) (Or.inl ⟨by rfl,fun W _=>by go_simp⟩) hS ?_
          try simp only [Act.put,List.setIfInBounds_toArray,List.set_cons_zero,List.set_cons_succ]
          refine wpAnyH_take (i:=1) (oi:=⟨some 109,_,_,_,_,_⟩) (v:=.string qx) rfl (by kernel_rfl) (by kernel_rfl) (by kernel_rfl) (fun _ _ _ h=>h) (Or.inl ⟨by rfl,fun W hW=>by obtain ⟨zx0,zd47,zq17,zx1,zy1,zy4⟩:=hW;go_simp⟩) hS ?_
          try simp only [Act.put,List.setIfInBounds_toArray,List.set_cons_zero,List.set_cons_succ]
          refine wpAnyH_take (i:=2) (oi:=⟨some 110,_,_,_,_,_⟩) (v:=.pointer (some ⟨wo.heap.size,4,none⟩)) rfl (by kernel_rfl) (by kernel_rfl) (by kernel_rfl) (fun _ _ _ h=>h) (Or.inl ⟨by rfl,fun W _=>by go_simp⟩) hS ?_
          try simp only [Act.put,List.setIfInBounds_toArray,List.set_cons_zero,List.set_cons_succ]
          refine wpAnyH_take (i:=3) (oi:=⟨some 111,_,_,_,_,_⟩) (v:=.slice (some ⟨g2,0,none⟩) tk.kids.length uc) rfl (by kernel_rfl) (by kernel_rfl) (by kernel_rfl) (fun _ _ _ h=>h) (Or.inl ⟨by rfl,fun W hW=>by obtain ⟨zx0,zd47,zq17,zx1,zy1,zy4⟩:=hW;go_simp⟩) hS ?_
          try simp only [Act.put,List.setIfInBounds_toArray,List.set_cons_zero,List.set_cons_succ]
          refine wpAnyH_take (i:=4) (oi:=⟨some 112,_,_,_,_,_⟩) (v:=.int .i64 j) rfl (by kernel_rfl) (by kernel_rfl) (by kernel_rfl) (fun _ _ _ h=>h) (Or.inl ⟨by rfl,fun W _=>by go_simp⟩) hS ?_
          try simp only [Act.put,List.setIfInBounds_toArray,List.set_cons_zero,List.set_cons_succ]
          refine wpAnyH_take (i:=5) (oi:=⟨some 113,_,_,_,_,_⟩) (v:=.pointer (some ⟨g2,j * 5,none⟩)) rfl (by kernel_rfl) (by kernel_rfl) (by kernel_rfl) (fun _ _ _ h=>h) (Or.inl ⟨by rfl,fun W _=>by go_simp⟩) hS ?_
          try simp only [Act.put,List.setIfInBounds_toArray,List.set_cons_zero,List.set_cons_succ]
          refine wpAnyH_take (i:=6) (oi:=⟨some 114,_,_,_,_,_⟩) (v:=.pointer (some ⟨g2,j * 5+1,none⟩)) rfl (by kernel_rfl) (by kernel_rfl) (by kernel_rfl) (fun _ _ _ h=>h) (Or.inl ⟨by rfl,fun W _=>by go_simp⟩) hS ?_
          try simp only [Act.put,List.setIfInBounds_toArray,List.set_cons_zero,List.set_cons_succ]
          refine wpAnyH_take (i:=7) (oi:=⟨some 115,_,_,_,_,_⟩) (v:=.string qx) rfl (by kernel_rfl) (by kernel_rfl) (by kernel_rfl) (fun _ _ _ h=>h) (Or.inl ⟨by rfl,fun W hW=>by obtain ⟨zx0,zd47,zq17,zx1,zy1,zy4⟩:=hW;go_simp⟩) hS ?_
          try simp only [Act.put,List.setIfInBounds_toArray,List.set_cons_zero,List.set_cons_succ]
          refine wpAnyH_take (i:=8) (oi:=⟨some 116,_,_,_,_,_⟩) (v:=.bool false) rfl (by kernel_rfl) (by kernel_rfl) (by kernel_rfl) (fun _ _ _ h=>h) (Or.inl ⟨by rfl,fun W _=>by go_simp⟩) hS ?_
          try simp only [Act.put,List.setIfInBounds_toArray,List.set_cons_zero,List.set_cons_succ]
          refine wpAnyH_take (i:=9) (oi:=⟨some 117,_,_,_,_,_⟩) (v:=.bool false) rfl (by kernel_rfl) (by kernel_rfl) (by kernel_rfl) (fun _ _ _ h=>h) (Or.inl ⟨by rfl,fun W _=>by go_simp⟩) hS ?_
          try simp only [Act.put,List.setIfInBounds_toArray,List.set_cons_zero,List.set_cons_succ]
          refine wpAnyH_take (i:=10) (oi:=⟨some 118,_,_,_,_,_⟩) (v:=.pointer (some ⟨wr.heap.size,1,none⟩)) rfl (by kernel_rfl) (by kernel_rfl) (by kernel_rfl) (fun _ _ _ h=>h) (Or.inl ⟨by rfl,fun W _=>by go_simp⟩) hS ?_
          try simp only [Act.put,List.setIfInBounds_toArray,List.set_cons_zero,List.set_cons_succ]
          refine wpAnyH_take (i:=11) (oi:=⟨some 119,_,_,_,_,_⟩) (v:=.int .i64 md) rfl (by kernel_rfl) (by kernel_rfl) (by kernel_rfl) (fun _ _ _ h=>h) (Or.inl ⟨by rfl,fun W hW=>by obtain ⟨zx0,zd47,zq17,zx1,zy1,zy4⟩:=hW;go_simp⟩) hS ?_
          try simp only [Act.put,List.setIfInBounds_toArray,List.set_cons_zero,List.set_cons_succ]
          refine wpAnyH_take (i:=12) (oi:=⟨some 120,_,_,_,_,_⟩) (v:=.bool b1) rfl (by kernel_rfl) (by kernel_rfl) (by kernel_rfl) (fun _ _ _ h=>h) (Or.inl ⟨by rfl,fun W _=>by go_simp⟩) hS ?_
          try simp only [Act.put,List.setIfInBounds_toArray,List.set_cons_zero,List.set_cons_succ]
          refine wpAnyH_take (i:=13) (oi:=⟨some 121,_,_,_,_,_⟩) (v:=.pointer (some ⟨W6.heap.size,1,none⟩)) rfl (by kernel_rfl) (by kernel_rfl) (by kernel_rfl) (fun _ _ _ h=>h) (Or.inl ⟨by rfl,fun W _=>by go_simp⟩) hS ?_
          try simp only [Act.put,List.setIfInBounds_toArray,List.set_cons_zero,List.set_cons_succ]
          refine wpAnyH_take (i:=14) (oi:=⟨some 122,_,_,_,_,_⟩) (v:=.string mx) rfl (by kernel_rfl) (by kernel_rfl) (by kernel_rfl) (fun _ _ _ h=>h) (Or.inl ⟨by rfl,fun W hW=>by obtain ⟨zx0,zd47,zq17,zx1,zy1,zy4⟩:=hW;go_simp⟩) hS ?_
          try simp only [Act.put,List.setIfInBounds_toArray,List.set_cons_zero,List.set_cons_succ]
          refine wpAnyH_take (i:=15) (oi:=⟨some 123,_,_,_,_,_⟩) (v:=.bool b1) rfl (by kernel_rfl) (by kernel_rfl) (by kernel_rfl) (fun _ _ _ h=>h) (Or.inl ⟨by rfl,fun W _=>by go_simp⟩) hS ?_
          try simp only [Act.put,List.setIfInBounds_toArray,List.set_cons_zero,List.set_cons_succ]
          refine wpAnyH_take (i:=16) (oi:=⟨some 124,_,_,_,_,_⟩) (v:=.bool false) rfl (by kernel_rfl) (by kernel_rfl) (by kernel_rfl) (fun _ _ _ h=>h) (Or.inl ⟨by rfl,fun W _=>by go_simp⟩) hS ?_
          try simp only [Act.put,List.setIfInBounds_toArray,List.set_cons_zero,List.set_cons_succ]
          refine wpAnyH_take (i:=17) (oi:=⟨some 125,_,_,_,_,_⟩) (v:=.bool false) rfl (by kernel_rfl) (by kernel_rfl) (by kernel_rfl) (fun _ _ _ h=>h) (Or.inl ⟨by rfl,fun W _=>by go_simp⟩) hS ?_
          try simp only [Act.put,List.setIfInBounds_toArray,List.set_cons_zero,List.set_cons_succ]
          refine wpAnyH_take (i:=18) (oi:=⟨some 126,_,_,_,_,_⟩) (v:=.bool false) rfl (by kernel_rfl) (by kernel_rfl) (by kernel_rfl) (fun _ _ _ h=>h) (Or.inl ⟨by rfl,fun W _=>by go_simp⟩) hS ?_
          try simp only [Act.put,List.setIfInBounds_toArray,List.set_cons_zero,List.set_cons_succ]
          refine wpAnyH_take (i:=19) (oi:=⟨some 127,_,_,_,_,_⟩) (v:=.pointer (some ⟨wr.heap.size,1,none⟩)) rfl (by kernel_rfl) (by kernel_rfl) (by kernel_rfl) (fun _ _ _ h=>h) (Or.inl ⟨by rfl,fun W _=>by go_simp⟩) hS ?_
          try simp only [Act.put,List.setIfInBounds_toArray,List.set_cons_zero,List.set_cons_succ]
          refine wpAnyH_take (i:=20) (oi:=⟨some 128,_,_,_,_,_⟩) (v:=.int .i64 md) rfl (by kernel_rfl) (by kernel_rfl) (by kernel_rfl) (fun _ _ _ h=>h) (Or.inl ⟨by rfl,fun W hW=>by obtain ⟨zx0,zd47,zq17,zx1,zy1,zy4⟩:=hW;go_simp⟩) hS ?_
          try simp only [Act.put,List.setIfInBounds_toArray,List.set_cons_zero,List.set_cons_succ]
          refine wpAnyH_take (i:=21) (oi:=⟨some 129,_,_,_,_,_⟩) (v:=.bool b2) rfl (by kernel_rfl) (by kernel_rfl) (by kernel_rfl) (fun _ _ _ h=>h) (Or.inl ⟨by rfl,fun W _=>by go_simp⟩) hS ?_
          try simp only [Act.put,List.setIfInBounds_toArray,List.set_cons_zero,List.set_cons_succ]
          refine wpAnyH_take (i:=22) (oi:=⟨some 130,_,_,_,_,_⟩) (v:=.pointer (some ⟨W6.heap.size,1,none⟩)) rfl (by kernel_rfl) (by kernel_rfl) (by kernel_rfl) (fun _ _ _ h=>h) (Or.inl ⟨by rfl,fun W _=>by go_simp⟩) hS ?_
          try simp only [Act.put,List.setIfInBounds_toArray,List.set_cons_zero,List.set_cons_succ]
          refine wpAnyH_take (i:=23) (oi:=⟨some 131,_,_,_,_,_⟩) (v:=.string mx) rfl (by kernel_rfl) (by kernel_rfl) (by kernel_rfl) (fun _ _ _ h=>h) (Or.inl ⟨by rfl,fun W hW=>by obtain ⟨zx0,zd47,zq17,zx1,zy1,zy4⟩:=hW;go_simp⟩) hS ?_
          try simp only [Act.put,List.setIfInBounds_toArray,List.set_cons_zero,List.set_cons_succ]
          refine wpAnyH_take (i:=24) (oi:=⟨some 132,_,_,_,_,_⟩) (v:=.bool b2) rfl (by kernel_rfl) (by kernel_rfl) (by kernel_rfl) (fun _ _ _ h=>h) (Or.inl ⟨by rfl,fun W _=>by go_simp⟩) hS ?_
          try simp only [Act.put,List.setIfInBounds_toArray,List.set_cons_zero,List.set_cons_succ]
          refine wpAnyH_take (i:=25) (oi:=⟨some 133,_,_,_,_,_⟩) (v:=.bool false) rfl (by kernel_rfl) (by kernel_rfl) (by kernel_rfl) (fun _ _ _ h=>h) (Or.inl ⟨by rfl,fun W _=>by go_simp⟩) hS ?_
          try simp only [Act.put,List.setIfInBounds_toArray,List.set_cons_zero,List.set_cons_succ]
          refine wpAnyH_take (i:=26) (oi:=⟨some 134,_,_,_,_,_⟩) (v:=.bool false) rfl (by kernel_rfl) (by kernel_rfl) (by kernel_rfl) (fun _ _ _ h=>h) (Or.inl ⟨by rfl,fun W _=>by go_simp⟩) hS ?_
          try simp only [Act.put,List.setIfInBounds_toArray,List.set_cons_zero,List.set_cons_succ]
          refine wpAnyH_take (i:=27) (oi:=⟨some 135,_,_,_,_,_⟩) (v:=.bool false) rfl (by kernel_rfl) (by kernel_rfl) (by kernel_rfl) (fun _ _ _ h=>h) (Or.inl ⟨by rfl,fun W _=>by go_simp⟩) hS ?_
          try simp only [Act.put,List.setIfInBounds_toArray,List.set_cons_zero,List.set_cons_succ]
          refine wpAnyH_take (i:=28) (oi:=⟨some 136,_,_,_,_,_⟩) (v:=.pointer (some ⟨wr.heap.size,1,none⟩)) rfl (by kernel_rfl) (by kernel_rfl) (by kernel_rfl) (fun _ _ _ h=>h) (Or.inl ⟨by rfl,fun W _=>by go_simp⟩) hS ?_
          try simp only [Act.put,List.setIfInBounds_toArray,List.set_cons_zero,List.set_cons_succ]
          refine wpAnyH_take (i:=29) (oi:=⟨some 137,_,_,_,_,_⟩) (v:=.int .i64 md) rfl (by kernel_rfl) (by kernel_rfl) (by kernel_rfl) (fun _ _ _ h=>h) (Or.inl ⟨by rfl,fun W hW=>by obtain ⟨zx0,zd47,zq17,zx1,zy1,zy4⟩:=hW;go_simp⟩) hS ?_
          try simp only [Act.put,List.setIfInBounds_toArray,List.set_cons_zero,List.set_cons_succ]
          refine wpAnyH_take (i:=30) (oi:=⟨some 138,_,_,_,_,_⟩) (v:=.bool b4) rfl (by kernel_rfl) (by kernel_rfl) (by kernel_rfl) (fun _ _ _ h=>h) (Or.inl ⟨by rfl,fun W _=>by go_simp⟩) hS ?_
          try simp only [Act.put,List.setIfInBounds_toArray,List.set_cons_zero,List.set_cons_succ]
          refine wpAnyH_take (i:=31) (oi:=⟨some 139,_,_,_,_,_⟩) (v:=.pointer (some ⟨W6.heap.size,1,none⟩)) rfl (by kernel_rfl) (by kernel_rfl) (by kernel_rfl) (fun _ _ _ h=>h) (Or.inl ⟨by rfl,fun W _=>by go_simp⟩) hS ?_
          try simp only [Act.put,List.setIfInBounds_toArray,List.set_cons_zero,List.set_cons_succ]
          refine wpAnyH_take (i:=32) (oi:=⟨some 140,_,_,_,_,_⟩) (v:=.string mx) rfl (by kernel_rfl) (by kernel_rfl) (by kernel_rfl) (fun _ _ _ h=>h) (Or.inl ⟨by rfl,fun W hW=>by obtain ⟨zx0,zd47,zq17,zx1,zy1,zy4⟩:=hW;go_simp⟩) hS ?_
          try simp only [Act.put,List.setIfInBounds_toArray,List.set_cons_zero,List.set_cons_succ]
          refine wpAnyH_take (i:=33) (oi:=⟨some 141,_,_,_,_,_⟩) (v:=.bool b4) rfl (by kernel_rfl) (by kernel_rfl) (by kernel_rfl) (fun _ _ _ h=>h) (Or.inl ⟨by rfl,fun W _=>by go_simp⟩) hS ?_
          try simp only [Act.put,List.setIfInBounds_toArray,List.set_cons_zero,List.set_cons_succ]
          refine wpAnyH_take (i:=34) (oi:=⟨some 142,_,_,_,_,_⟩) (v:=.bool false) rfl (by kernel_rfl) (by kernel_rfl) (by kernel_rfl) (fun _ _ _ h=>h) (Or.inl ⟨by rfl,fun W _=>by go_simp⟩) hS ?_
          try simp only [Act.put,List.setIfInBounds_toArray,List.set_cons_zero,List.set_cons_succ]
          refine wpAnyH_take (i:=35) (oi:=⟨some 143,_,_,_,_,_⟩) (v:=.bool false) rfl (by kernel_rfl) (by kernel_rfl) (by kernel_rfl) (fun _ _ _ h=>h) (Or.inl ⟨by rfl,fun W _=>by go_simp⟩) hS ?_
          try simp only [Act.put,List.setIfInBounds_toArray,List.set_cons_zero,List.set_cons_succ]
          refine wpAnyH_take (i:=36) (oi:=⟨some 144,_,_,_,_,_⟩) (v:=.bool false) rfl (by kernel_rfl) (by kernel_rfl) (by kernel_rfl) (fun _ _ _ h=>h) (Or.inl ⟨by rfl,fun W _=>by go_simp⟩) hS ?_
          try simp only [Act.put,List.setIfInBounds_toArray,List.set_cons_zero,List.set_cons_succ]
          refine wpAnyH_take (i:=37) (oi:=⟨some 145,_,_,_,_,_⟩) (v:=.pointer (some ⟨W6.heap.size,4,none⟩)) rfl (by kernel_rfl) (by kernel_rfl) (by kernel_rfl) (fun _ _ _ h=>h) (Or.inl ⟨by rfl,fun W _=>by go_simp⟩) hS ?_
          try simp only [Act.put,List.setIfInBounds_toArray,List.set_cons_zero,List.set_cons_succ]
          refine wpAnyH_take (i:=38) (oi:=⟨some 146,_,_,_,_,_⟩) (v:=.slice u3a 0 u3c) rfl (by kernel_rfl) (by kernel_rfl) (by kernel_rfl) (fun _ _ _ h=>h) (Or.inl ⟨by rfl,fun W hW=>by obtain ⟨zx0,zd47,zq17,zx1,zy1,zy4⟩:=hW;go_simp⟩) hS ?_
          try simp only [Act.put,List.setIfInBounds_toArray,List.set_cons_zero,List.set_cons_succ]
          refine wpAnyH_take (i:=39) (oi:=⟨some 147,_,_,_,_,_⟩) (v:=.int .i64 0) rfl (by kernel_rfl) (by kernel_rfl) (by kernel_rfl) (fun _ _ _ h=>h) (Or.inl ⟨by rfl,fun W _=>by go_simp⟩) hS ?_
          try simp only [Act.put,List.setIfInBounds_toArray,List.set_cons_zero,List.set_cons_succ]
          refine wpAnyH_take (i:=40) (oi:=⟨some 148,_,_,_,_,_⟩) (v:=.bool false) rfl (by kernel_rfl) (by kernel_rfl) (by kernel_rfl) (fun _ _ _ h=>h) (Or.inl ⟨by rfl,fun W _=>by go_simp⟩) hS ?_
          try simp only [Act.put,List.setIfInBounds_toArray,List.set_cons_zero,List.set_cons_succ]
          refine wpAnyH_take (i:=41) (oi:=⟨some 149,_,_,_,_,_⟩) (v:=.bool false) rfl (by kernel_rfl) (by kernel_rfl) (by kernel_rfl) (fun _ _ _ h=>h) (Or.inl ⟨by rfl,fun W _=>by go_simp⟩) hS ?_
          try simp only [Act.put,List.setIfInBounds_toArray,List.set_cons_zero,List.set_cons_succ]
          refine wpAnyH_take (i:=42) (oi:=⟨some 150,_,_,_,_,_⟩) (v:=undef) rfl (by kernel_rfl) (by kernel_rfl) (by kernel_rfl) (fun _ _ _ h=>h) (Or.inr ⟨by rfl,rfl⟩) hS ?_
          try simp only [Act.put,List.setIfInBounds_toArray,List.set_cons_zero,List.set_cons_succ]
          refine wpAnyH_take (i:=43) (oi:=⟨some 151,_,_,_,_,_⟩) (v:=undef) rfl (by kernel_rfl) (by kernel_rfl) (by kernel_rfl) (fun _ _ _ h=>h) (Or.inr ⟨by rfl,rfl⟩) hS ?_
          try simp only [Act.put,List.setIfInBounds_toArray,List.set_cons_zero,List.set_cons_succ]
          refine wpAnyH_take (i:=44) (oi:=⟨some 152,_,_,_,_,_⟩) (v:=undef) rfl (by kernel_rfl) (by kernel_rfl) (by kernel_rfl) (fun _ _ _ h=>h) (Or.inr ⟨by rfl,rfl⟩) hS ?_
          try simp only [Act.put,List.setIfInBounds_toArray,List.set_cons_zero,List.set_cons_succ]
          refine wpAnyH_take (i:=45) (oi:=⟨some 153,_,_,_,_,_⟩) (v:=undef) rfl (by kernel_rfl) (by kernel_rfl) (by kernel_rfl) (fun _ _ _ h=>h) (Or.inr ⟨by rfl,rfl⟩) hS ?_
          try simp only [Act.put,List.setIfInBounds_toArray,List.set_cons_zero,List.set_cons_succ]
          refine wpAnyH_take (i:=46) (oi:=⟨some 154,_,_,_,_,_⟩) (v:=undef) rfl (by kernel_rfl) (by kernel_rfl) (by kernel_rfl) (fun _ _ _ h=>h) (Or.inr ⟨by rfl,rfl⟩) hS ?_
          try simp only [Act.put,List.setIfInBounds_toArray,List.set_cons_zero,List.set_cons_succ]
          refine wpAnyH_take (i:=47) (oi:=⟨some 155,_,_,_,_,_⟩) (v:=undef) rfl (by kernel_rfl) (by kernel_rfl) (by kernel_rfl) (fun _ _ _ h=>h) (Or.inr ⟨by rfl,rfl⟩) hS ?_
          try simp only [Act.put,List.setIfInBounds_toArray,List.set_cons_zero,List.set_cons_succ]
          refine wpAnyH_take (i:=48) (oi:=⟨some 156,_,_,_,_,_⟩) (v:=undef) rfl (by kernel_rfl) (by kernel_rfl) (by kernel_rfl) (fun _ _ _ h=>h) (Or.inr ⟨by rfl,rfl⟩) hS ?_
          try simp only [Act.put,List.setIfInBounds_toArray,List.set_cons_zero,List.set_cons_succ]
          refine wpAnyH_take (i:=49) (oi:=⟨some 157,_,_,_,_,_⟩) (v:=undef) rfl (by kernel_rfl) (by kernel_rfl) (by kernel_rfl) (fun _ _ _ h=>h) (Or.inr ⟨by rfl,rfl⟩) hS ?_
          try simp only [Act.put,List.setIfInBounds_toArray,List.set_cons_zero,List.set_cons_succ]
          refine wpAnyH_take (i:=50) (oi:=⟨some 158,_,_,_,_,_⟩) (v:=undef) rfl (by kernel_rfl) (by kernel_rfl) (by kernel_rfl) (fun _ _ _ h=>h) (Or.inr ⟨by rfl,rfl⟩) hS ?_
          try simp only [Act.put,List.setIfInBounds_toArray,List.set_cons_zero,List.set_cons_succ]
          refine wpAnyH_take (i:=51) (oi:=⟨some 159,_,_,_,_,_⟩) (v:=undef) rfl (by kernel_rfl) (by kernel_rfl) (by kernel_rfl) (fun _ _ _ h=>h) (Or.inr ⟨by rfl,rfl⟩) hS ?_
          try simp only [Act.put,List.setIfInBounds_toArray,List.set_cons_zero,List.set_cons_succ]
          refine wpAnyH_take (i:=52) (oi:=⟨some 160,_,_,_,_,_⟩) (v:=undef) rfl (by kernel_rfl) (by kernel_rfl) (by kernel_rfl) (fun _ _ _ h=>h) (Or.inr ⟨by rfl,rfl⟩) hS ?_
          try simp only [Act.put,List.setIfInBounds_toArray,List.set_cons_zero,List.set_cons_succ]
          refine wpAnyH_take (i:=53) (oi:=⟨some 161,_,_,_,_,_⟩) (v:=undef) rfl (by kernel_rfl) (by kernel_rfl) (by kernel_rfl) (fun _ _ _ h=>h) (Or.inr ⟨by rfl,rfl⟩) hS ?_
          try simp only [Act.put,List.setIfInBounds_toArray,List.set_cons_zero,List.set_cons_succ]
          refine wpAnyH_take (i:=54) (oi:=⟨some 162,_,_,_,_,_⟩) (v:=.bool false) rfl (by kernel_rfl) (by kernel_rfl) (by kernel_rfl) (fun _ _ _ h=>h) (Or.inl ⟨by rfl,fun W _=>by go_simp⟩) hS ?_
          try simp only [Act.put,List.setIfInBounds_toArray,List.set_cons_zero,List.set_cons_succ]
          refine wpAnyH_take (i:=55) (oi:=⟨some 163,_,_,_,_,_⟩) (v:=.bool false) rfl (by kernel_rfl) (by kernel_rfl) (by kernel_rfl) (fun _ _ _ h=>h) (Or.inl ⟨by rfl,fun W _=>by go_simp⟩) hS ?_
          try simp only [Act.put,List.setIfInBounds_toArray,List.set_cons_zero,List.set_cons_succ]
          refine wpAnyH_done (by kernel_rfl) ?_ _
          clear hS
          go_wp2_with fail
          go_roundw
          case rel=>exact ⟨j+1,by omega,by go_num,HB7.out.drew⟩
          case measure=>simp [intOf];omega
         ·have hml:m.kids.length=1:=by rw [e];rfl
          rw [hml] at y4
          obtain ⟨g5,cap5,hsl5,hgl5,hcap5,hcm5,hget5⟩:=(HU3.out.form).resolve_left fun h=>by rw [e] at h;simp at h
          obtain ⟨rfl,rfl⟩:u3a=some ⟨g5,0,none⟩∧u3c=cap5:=by simpa using hsl5
          obtain ⟨u5,hr5,_⟩:=hget5 0 n (by rw [e];rfl)
          have n1:W7.cell? ⟨g5,1,none⟩=some (.string n.text):=zoa hr5 HB7.out hgl5 1 _ rfl
          have hkl3:kk<tys.length:=(List.getElem?_eq_some_iff.1 htk2).1
          obtain ⟨tg,tcap,htsl,htg,htcap,htcm,htget⟩:=(HV4.out.form).resolve_left fun h=>by rw [h.2] at hkl3;simp at hkl3
          obtain ⟨rfl,rfl⟩:va=some ⟨tg,0,none⟩∧vc=tcap:=by simpa using htsl
          obtain ⟨tp,tl,hrt,_⟩:=htget kk ty htk2
          have hnm:ty.name=n.text:=ByteArray.ext (Array.toList_inj.1 (by rw [← ByteArray.toList_eq,← ByteArray.toList_eq];exact htn))
          have t0:W7.cell? ⟨tg,kk * 5,none⟩=some (.string n.text):=hnm▸zoa hrt (HB5.out.trans (HB7.out.mono HB5.out.size)) htg.2 0 _ rfl
          rw [hty] at x2
          have hk1:(kk:Int)<(tys.length:Int):=by omega
          rw [hml]
          unfold maxLen at htcm hcm5
          clear HW7M HU3 HR6 HR3 HM7 hn hml hget5 hr5 hsl5 htget hrt htsl hnm htn htk2 hty
          rw [show m.kids.length=1 by rw [e];rfl] at hcap5
          clear e
          generalize p.mode=md at *
          generalize n.text=nx at *
          refine wp_region_held_drew (S:=fun W=>W.cell? ⟨wr.heap.size,0,none⟩=some (.string qx)∧W.cell? ⟨wo.heap.size,4,none⟩=some (.slice (some ⟨g2,0,none⟩) tk.kids.length uc)∧W.cell? ⟨g2,j * 5+1,none⟩=some (.string qx)∧W.cell? ⟨wr.heap.size,1,none⟩=some (.int .i64 md)∧W.cell? ⟨W6.heap.size,1,none⟩=some (.string mx)∧W.cell? ⟨W6.heap.size,4,none⟩=some (.slice (some ⟨g5,0,none⟩) 1 u3c)∧W.cell? ⟨wr.heap.size,2,none⟩=some (.int .i64 kk)∧W.cell? ⟨tg,kk * 5,none⟩=some (.string nx)∧W.cell? ⟨g5,1,none⟩=some (.string nx)) (by kernel_rfl) ⟨x0,d47,q17,x1,y1,y4,x2,t0,n1⟩ (fun hS=>?_)
          refine wpAnyH_take (i:=0) (oi:=⟨some 108,_,_,_,_,_⟩) (v:=.pointer (some ⟨wr.heap.size,0,none⟩)) rfl (by kernel_rfl) (by kernel_rfl) (by kernel_rfl) (fun _ _ _ h=>h) (Or.inl ⟨by rfl,fun W _=>by go_simp⟩) hS ?_
          try simp only [Act.put,List.setIfInBounds_toArray,List.set_cons_zero,List.set_cons_succ]
          refine wpAnyH_take (i:=1) (oi:=⟨some 109,_,_,_,_,_⟩) (v:=.string qx) rfl (by kernel_rfl) (by kernel_rfl) (by kernel_rfl) (fun _ _ _ h=>h) (Or.inl ⟨by rfl,fun W hW=>by obtain ⟨zx0,zd47,zq17,zx1,zy1,zy4,zx2,zt0,zn1⟩:=hW;go_simp⟩) hS ?_
          try simp only [Act.put,List.setIfInBounds_toArray,List.set_cons_zero,List.set_cons_succ]
          refine wpAnyH_take (i:=2) (oi:=⟨some 110,_,_,_,_,_⟩) (v:=.pointer (some ⟨wo.heap.size,4,none⟩)) rfl (by kernel_rfl) (by kernel_rfl) (by kernel_rfl) (fun _ _ _ h=>h) (Or.inl ⟨by rfl,fun W _=>by go_simp⟩) hS ?_
          try simp only [Act.put,List.setIfInBounds_toArray,List.set_cons_zero,List.set_cons_succ]
          refine wpAnyH_take (i:=3) (oi:=⟨some 111,_,_,_,_,_⟩) (v:=.slice (some ⟨g2,0,none⟩) tk.kids.length uc) rfl (by kernel_rfl) (by kernel_rfl) (by kernel_rfl) (fun _ _ _ h=>h) (Or.inl ⟨by rfl,fun W hW=>by obtain ⟨zx0,zd47,zq17,zx1,zy1,zy4,zx2,zt0,zn1⟩:=hW;go_simp⟩) hS ?_
          try simp only [Act.put,List.setIfInBounds_toArray,List.set_cons_zero,List.set_cons_succ]
          refine wpAnyH_take (i:=4) (oi:=⟨some 112,_,_,_,_,_⟩) (v:=.int .i64 j) rfl (by kernel_rfl) (by kernel_rfl) (by kernel_rfl) (fun _ _ _ h=>h) (Or.inl ⟨by rfl,fun W _=>by go_simp⟩) hS ?_
          try simp only [Act.put,List.setIfInBounds_toArray,List.set_cons_zero,List.set_cons_succ]
          refine wpAnyH_take (i:=5) (oi:=⟨some 113,_,_,_,_,_⟩) (v:=.pointer (some ⟨g2,j * 5,none⟩)) rfl (by kernel_rfl) (by kernel_rfl) (by kernel_rfl) (fun _ _ _ h=>h) (Or.inl ⟨by rfl,fun W _=>by go_simp⟩) hS ?_
          try simp only [Act.put,List.setIfInBounds_toArray,List.set_cons_zero,List.set_cons_succ]
          refine wpAnyH_take (i:=6) (oi:=⟨some 114,_,_,_,_,_⟩) (v:=.pointer (some ⟨g2,j * 5+1,none⟩)) rfl (by kernel_rfl) (by kernel_rfl) (by kernel_rfl) (fun _ _ _ h=>h) (Or.inl ⟨by rfl,fun W _=>by go_simp⟩) hS ?_
          try simp only [Act.put,List.setIfInBounds_toArray,List.set_cons_zero,List.set_cons_succ]
          refine wpAnyH_take (i:=7) (oi:=⟨some 115,_,_,_,_,_⟩) (v:=.string qx) rfl (by kernel_rfl) (by kernel_rfl) (by kernel_rfl) (fun _ _ _ h=>h) (Or.inl ⟨by rfl,fun W hW=>by obtain ⟨zx0,zd47,zq17,zx1,zy1,zy4,zx2,zt0,zn1⟩:=hW;go_simp⟩) hS ?_
          try simp only [Act.put,List.setIfInBounds_toArray,List.set_cons_zero,List.set_cons_succ]
          refine wpAnyH_take (i:=8) (oi:=⟨some 116,_,_,_,_,_⟩) (v:=.bool false) rfl (by kernel_rfl) (by kernel_rfl) (by kernel_rfl) (fun _ _ _ h=>h) (Or.inl ⟨by rfl,fun W _=>by go_simp⟩) hS ?_
          try simp only [Act.put,List.setIfInBounds_toArray,List.set_cons_zero,List.set_cons_succ]
          refine wpAnyH_take (i:=9) (oi:=⟨some 117,_,_,_,_,_⟩) (v:=.bool false) rfl (by kernel_rfl) (by kernel_rfl) (by kernel_rfl) (fun _ _ _ h=>h) (Or.inl ⟨by rfl,fun W _=>by go_simp⟩) hS ?_
          try simp only [Act.put,List.setIfInBounds_toArray,List.set_cons_zero,List.set_cons_succ]
          refine wpAnyH_take (i:=10) (oi:=⟨some 118,_,_,_,_,_⟩) (v:=.pointer (some ⟨wr.heap.size,1,none⟩)) rfl (by kernel_rfl) (by kernel_rfl) (by kernel_rfl) (fun _ _ _ h=>h) (Or.inl ⟨by rfl,fun W _=>by go_simp⟩) hS ?_
          try simp only [Act.put,List.setIfInBounds_toArray,List.set_cons_zero,List.set_cons_succ]
          refine wpAnyH_take (i:=11) (oi:=⟨some 119,_,_,_,_,_⟩) (v:=.int .i64 md) rfl (by kernel_rfl) (by kernel_rfl) (by kernel_rfl) (fun _ _ _ h=>h) (Or.inl ⟨by rfl,fun W hW=>by obtain ⟨zx0,zd47,zq17,zx1,zy1,zy4,zx2,zt0,zn1⟩:=hW;go_simp⟩) hS ?_
          try simp only [Act.put,List.setIfInBounds_toArray,List.set_cons_zero,List.set_cons_succ]
          refine wpAnyH_take (i:=12) (oi:=⟨some 120,_,_,_,_,_⟩) (v:=.bool b1) rfl (by kernel_rfl) (by kernel_rfl) (by kernel_rfl) (fun _ _ _ h=>h) (Or.inl ⟨by rfl,fun W _=>by go_simp⟩) hS ?_
          try simp only [Act.put,List.setIfInBounds_toArray,List.set_cons_zero,List.set_cons_succ]
          refine wpAnyH_take (i:=13) (oi:=⟨some 121,_,_,_,_,_⟩) (v:=.pointer (some ⟨W6.heap.size,1,none⟩)) rfl (by kernel_rfl) (by kernel_rfl) (by kernel_rfl) (fun _ _ _ h=>h) (Or.inl ⟨by rfl,fun W _=>by go_simp⟩) hS ?_
          try simp only [Act.put,List.setIfInBounds_toArray,List.set_cons_zero,List.set_cons_succ]
          refine wpAnyH_take (i:=14) (oi:=⟨some 122,_,_,_,_,_⟩) (v:=.string mx) rfl (by kernel_rfl) (by kernel_rfl) (by kernel_rfl) (fun _ _ _ h=>h) (Or.inl ⟨by rfl,fun W hW=>by obtain ⟨zx0,zd47,zq17,zx1,zy1,zy4,zx2,zt0,zn1⟩:=hW;go_simp⟩) hS ?_
          try simp only [Act.put,List.setIfInBounds_toArray,List.set_cons_zero,List.set_cons_succ]
          refine wpAnyH_take (i:=15) (oi:=⟨some 123,_,_,_,_,_⟩) (v:=.bool b1) rfl (by kernel_rfl) (by kernel_rfl) (by kernel_rfl) (fun _ _ _ h=>h) (Or.inl ⟨by rfl,fun W _=>by go_simp⟩) hS ?_
          try simp only [Act.put,List.setIfInBounds_toArray,List.set_cons_zero,List.set_cons_succ]
          refine wpAnyH_take (i:=16) (oi:=⟨some 124,_,_,_,_,_⟩) (v:=.bool false) rfl (by kernel_rfl) (by kernel_rfl) (by kernel_rfl) (fun _ _ _ h=>h) (Or.inl ⟨by rfl,fun W _=>by go_simp⟩) hS ?_
          try simp only [Act.put,List.setIfInBounds_toArray,List.set_cons_zero,List.set_cons_succ]
          refine wpAnyH_take (i:=17) (oi:=⟨some 125,_,_,_,_,_⟩) (v:=.bool false) rfl (by kernel_rfl) (by kernel_rfl) (by kernel_rfl) (fun _ _ _ h=>h) (Or.inl ⟨by rfl,fun W _=>by go_simp⟩) hS ?_
          try simp only [Act.put,List.setIfInBounds_toArray,List.set_cons_zero,List.set_cons_succ]
          refine wpAnyH_take (i:=18) (oi:=⟨some 126,_,_,_,_,_⟩) (v:=.bool false) rfl (by kernel_rfl) (by kernel_rfl) (by kernel_rfl) (fun _ _ _ h=>h) (Or.inl ⟨by rfl,fun W _=>by go_simp⟩) hS ?_
          try simp only [Act.put,List.setIfInBounds_toArray,List.set_cons_zero,List.set_cons_succ]
          refine wpAnyH_take (i:=19) (oi:=⟨some 127,_,_,_,_,_⟩) (v:=.pointer (some ⟨wr.heap.size,1,none⟩)) rfl (by kernel_rfl) (by kernel_rfl) (by kernel_rfl) (fun _ _ _ h=>h) (Or.inl ⟨by rfl,fun W _=>by go_simp⟩) hS ?_
          try simp only [Act.put,List.setIfInBounds_toArray,List.set_cons_zero,List.set_cons_succ]
          refine wpAnyH_take (i:=20) (oi:=⟨some 128,_,_,_,_,_⟩) (v:=.int .i64 md) rfl (by kernel_rfl) (by kernel_rfl) (by kernel_rfl) (fun _ _ _ h=>h) (Or.inl ⟨by rfl,fun W hW=>by obtain ⟨zx0,zd47,zq17,zx1,zy1,zy4,zx2,zt0,zn1⟩:=hW;go_simp⟩) hS ?_
          try simp only [Act.put,List.setIfInBounds_toArray,List.set_cons_zero,List.set_cons_succ]
          refine wpAnyH_take (i:=21) (oi:=⟨some 129,_,_,_,_,_⟩) (v:=.bool b2) rfl (by kernel_rfl) (by kernel_rfl) (by kernel_rfl) (fun _ _ _ h=>h) (Or.inl ⟨by rfl,fun W _=>by go_simp⟩) hS ?_
          try simp only [Act.put,List.setIfInBounds_toArray,List.set_cons_zero,List.set_cons_succ]
          refine wpAnyH_take (i:=22) (oi:=⟨some 130,_,_,_,_,_⟩) (v:=.pointer (some ⟨W6.heap.size,1,none⟩)) rfl (by kernel_rfl) (by kernel_rfl) (by kernel_rfl) (fun _ _ _ h=>h) (Or.inl ⟨by rfl,fun W _=>by go_simp⟩) hS ?_
          try simp only [Act.put,List.setIfInBounds_toArray,List.set_cons_zero,List.set_cons_succ]
          refine wpAnyH_take (i:=23) (oi:=⟨some 131,_,_,_,_,_⟩) (v:=.string mx) rfl (by kernel_rfl) (by kernel_rfl) (by kernel_rfl) (fun _ _ _ h=>h) (Or.inl ⟨by rfl,fun W hW=>by obtain ⟨zx0,zd47,zq17,zx1,zy1,zy4,zx2,zt0,zn1⟩:=hW;go_simp⟩) hS ?_
          try simp only [Act.put,List.setIfInBounds_toArray,List.set_cons_zero,List.set_cons_succ]
          refine wpAnyH_take (i:=24) (oi:=⟨some 132,_,_,_,_,_⟩) (v:=.bool b2) rfl (by kernel_rfl) (by kernel_rfl) (by kernel_rfl) (fun _ _ _ h=>h) (Or.inl ⟨by rfl,fun W _=>by go_simp⟩) hS ?_
          try simp only [Act.put,List.setIfInBounds_toArray,List.set_cons_zero,List.set_cons_succ]
          refine wpAnyH_take (i:=25) (oi:=⟨some 133,_,_,_,_,_⟩) (v:=.bool false) rfl (by kernel_rfl) (by kernel_rfl) (by kernel_rfl) (fun _ _ _ h=>h) (Or.inl ⟨by rfl,fun W _=>by go_simp⟩) hS ?_
          try simp only [Act.put,List.setIfInBounds_toArray,List.set_cons_zero,List.set_cons_succ]
          refine wpAnyH_take (i:=26) (oi:=⟨some 134,_,_,_,_,_⟩) (v:=.bool false) rfl (by kernel_rfl) (by kernel_rfl) (by kernel_rfl) (fun _ _ _ h=>h) (Or.inl ⟨by rfl,fun W _=>by go_simp⟩) hS ?_
          try simp only [Act.put,List.setIfInBounds_toArray,List.set_cons_zero,List.set_cons_succ]
          refine wpAnyH_take (i:=27) (oi:=⟨some 135,_,_,_,_,_⟩) (v:=.bool false) rfl (by kernel_rfl) (by kernel_rfl) (by kernel_rfl) (fun _ _ _ h=>h) (Or.inl ⟨by rfl,fun W _=>by go_simp⟩) hS ?_
          try simp only [Act.put,List.setIfInBounds_toArray,List.set_cons_zero,List.set_cons_succ]
          refine wpAnyH_take (i:=28) (oi:=⟨some 136,_,_,_,_,_⟩) (v:=.pointer (some ⟨wr.heap.size,1,none⟩)) rfl (by kernel_rfl) (by kernel_rfl) (by kernel_rfl) (fun _ _ _ h=>h) (Or.inl ⟨by rfl,fun W _=>by go_simp⟩) hS ?_
          try simp only [Act.put,List.setIfInBounds_toArray,List.set_cons_zero,List.set_cons_succ]
          refine wpAnyH_take (i:=29) (oi:=⟨some 137,_,_,_,_,_⟩) (v:=.int .i64 md) rfl (by kernel_rfl) (by kernel_rfl) (by kernel_rfl) (fun _ _ _ h=>h) (Or.inl ⟨by rfl,fun W hW=>by obtain ⟨zx0,zd47,zq17,zx1,zy1,zy4,zx2,zt0,zn1⟩:=hW;go_simp⟩) hS ?_
          try simp only [Act.put,List.setIfInBounds_toArray,List.set_cons_zero,List.set_cons_succ]
          refine wpAnyH_take (i:=30) (oi:=⟨some 138,_,_,_,_,_⟩) (v:=.bool b4) rfl (by kernel_rfl) (by kernel_rfl) (by kernel_rfl) (fun _ _ _ h=>h) (Or.inl ⟨by rfl,fun W _=>by go_simp⟩) hS ?_
          try simp only [Act.put,List.setIfInBounds_toArray,List.set_cons_zero,List.set_cons_succ]
          refine wpAnyH_take (i:=31) (oi:=⟨some 139,_,_,_,_,_⟩) (v:=.pointer (some ⟨W6.heap.size,1,none⟩)) rfl (by kernel_rfl) (by kernel_rfl) (by kernel_rfl) (fun _ _ _ h=>h) (Or.inl ⟨by rfl,fun W _=>by go_simp⟩) hS ?_
          try simp only [Act.put,List.setIfInBounds_toArray,List.set_cons_zero,List.set_cons_succ]
          refine wpAnyH_take (i:=32) (oi:=⟨some 140,_,_,_,_,_⟩) (v:=.string mx) rfl (by kernel_rfl) (by kernel_rfl) (by kernel_rfl) (fun _ _ _ h=>h) (Or.inl ⟨by rfl,fun W hW=>by obtain ⟨zx0,zd47,zq17,zx1,zy1,zy4,zx2,zt0,zn1⟩:=hW;go_simp⟩) hS ?_
          try simp only [Act.put,List.setIfInBounds_toArray,List.set_cons_zero,List.set_cons_succ]
          refine wpAnyH_take (i:=33) (oi:=⟨some 141,_,_,_,_,_⟩) (v:=.bool b4) rfl (by kernel_rfl) (by kernel_rfl) (by kernel_rfl) (fun _ _ _ h=>h) (Or.inl ⟨by rfl,fun W _=>by go_simp⟩) hS ?_
          try simp only [Act.put,List.setIfInBounds_toArray,List.set_cons_zero,List.set_cons_succ]
          refine wpAnyH_take (i:=34) (oi:=⟨some 142,_,_,_,_,_⟩) (v:=.bool false) rfl (by kernel_rfl) (by kernel_rfl) (by kernel_rfl) (fun _ _ _ h=>h) (Or.inl ⟨by rfl,fun W _=>by go_simp⟩) hS ?_
          try simp only [Act.put,List.setIfInBounds_toArray,List.set_cons_zero,List.set_cons_succ]
          refine wpAnyH_take (i:=35) (oi:=⟨some 143,_,_,_,_,_⟩) (v:=.bool false) rfl (by kernel_rfl) (by kernel_rfl) (by kernel_rfl) (fun _ _ _ h=>h) (Or.inl ⟨by rfl,fun W _=>by go_simp⟩) hS ?_
          try simp only [Act.put,List.setIfInBounds_toArray,List.set_cons_zero,List.set_cons_succ]
          refine wpAnyH_take (i:=36) (oi:=⟨some 144,_,_,_,_,_⟩) (v:=.bool false) rfl (by kernel_rfl) (by kernel_rfl) (by kernel_rfl) (fun _ _ _ h=>h) (Or.inl ⟨by rfl,fun W _=>by go_simp⟩) hS ?_
          try simp only [Act.put,List.setIfInBounds_toArray,List.set_cons_zero,List.set_cons_succ]
          refine wpAnyH_take (i:=37) (oi:=⟨some 145,_,_,_,_,_⟩) (v:=.pointer (some ⟨W6.heap.size,4,none⟩)) rfl (by kernel_rfl) (by kernel_rfl) (by kernel_rfl) (fun _ _ _ h=>h) (Or.inl ⟨by rfl,fun W _=>by go_simp⟩) hS ?_
          try simp only [Act.put,List.setIfInBounds_toArray,List.set_cons_zero,List.set_cons_succ]
          refine wpAnyH_take (i:=38) (oi:=⟨some 146,_,_,_,_,_⟩) (v:=.slice (some ⟨g5,0,none⟩) 1 u3c) rfl (by kernel_rfl) (by kernel_rfl) (by kernel_rfl) (fun _ _ _ h=>h) (Or.inl ⟨by rfl,fun W hW=>by obtain ⟨zx0,zd47,zq17,zx1,zy1,zy4,zx2,zt0,zn1⟩:=hW;go_simp⟩) hS ?_
          try simp only [Act.put,List.setIfInBounds_toArray,List.set_cons_zero,List.set_cons_succ]
          refine wpAnyH_take (i:=39) (oi:=⟨some 147,_,_,_,_,_⟩) (v:=.int .i64 1) rfl (by kernel_rfl) (by kernel_rfl) (by kernel_rfl) (fun _ _ _ h=>h) (Or.inl ⟨by rfl,fun W _=>by go_simp⟩) hS ?_
          try simp only [Act.put,List.setIfInBounds_toArray,List.set_cons_zero,List.set_cons_succ]
          refine wpAnyH_take (i:=40) (oi:=⟨some 148,_,_,_,_,_⟩) (v:=.bool true) rfl (by kernel_rfl) (by kernel_rfl) (by kernel_rfl) (fun _ _ _ h=>h) (Or.inl ⟨by rfl,fun W _=>by go_simp⟩) hS ?_
          try simp only [Act.put,List.setIfInBounds_toArray,List.set_cons_zero,List.set_cons_succ]
          refine wpAnyH_take (i:=41) (oi:=⟨some 149,_,_,_,_,_⟩) (v:=.bool true) rfl (by kernel_rfl) (by kernel_rfl) (by kernel_rfl) (fun _ _ _ h=>h) (Or.inl ⟨by rfl,fun W _=>by go_simp⟩) hS ?_
          try simp only [Act.put,List.setIfInBounds_toArray,List.set_cons_zero,List.set_cons_succ]
          refine wpAnyH_take (i:=42) (oi:=⟨some 150,_,_,_,_,_⟩) (v:=.slice (some ⟨tg,0,none⟩) tys.length vc) rfl (by kernel_rfl) (by kernel_rfl) (by kernel_rfl) (fun _ _ _ h=>h) (Or.inl ⟨by rfl,fun W _=>by go_simp⟩) hS ?_
          try simp only [Act.put,List.setIfInBounds_toArray,List.set_cons_zero,List.set_cons_succ]
          refine wpAnyH_take (i:=43) (oi:=⟨some 151,_,_,_,_,_⟩) (v:=.pointer (some ⟨wr.heap.size,2,none⟩)) rfl (by kernel_rfl) (by kernel_rfl) (by kernel_rfl) (fun _ _ _ h=>h) (Or.inl ⟨by rfl,fun W _=>by go_simp⟩) hS ?_
          try simp only [Act.put,List.setIfInBounds_toArray,List.set_cons_zero,List.set_cons_succ]
          refine wpAnyH_take (i:=44) (oi:=⟨some 152,_,_,_,_,_⟩) (v:=.int .i64 kk) rfl (by kernel_rfl) (by kernel_rfl) (by kernel_rfl) (fun _ _ _ h=>h) (Or.inl ⟨by rfl,fun W hW=>by obtain ⟨zx0,zd47,zq17,zx1,zy1,zy4,zx2,zt0,zn1⟩:=hW;go_simp⟩) hS ?_
          try simp only [Act.put,List.setIfInBounds_toArray,List.set_cons_zero,List.set_cons_succ]
          refine wpAnyH_take (i:=45) (oi:=⟨some 153,_,_,_,_,_⟩) (v:=.pointer (some ⟨tg,kk * 5,none⟩)) rfl (by kernel_rfl) (by kernel_rfl) (by kernel_rfl) (fun _ _ _ h=>h) (Or.inl ⟨by rfl,fun W _=>by go_simp⟩) hS ?_
          try simp only [Act.put,List.setIfInBounds_toArray,List.set_cons_zero,List.set_cons_succ]
          refine wpAnyH_take (i:=46) (oi:=⟨some 154,_,_,_,_,_⟩) (v:=.pointer (some ⟨tg,kk * 5,none⟩)) rfl (by kernel_rfl) (by kernel_rfl) (by kernel_rfl) (fun _ _ _ h=>h) (Or.inl ⟨by rfl,fun W _=>by go_simp⟩) hS ?_
          try simp only [Act.put,List.setIfInBounds_toArray,List.set_cons_zero,List.set_cons_succ]
          refine wpAnyH_take (i:=47) (oi:=⟨some 155,_,_,_,_,_⟩) (v:=.string nx) rfl (by kernel_rfl) (by kernel_rfl) (by kernel_rfl) (fun _ _ _ h=>h) (Or.inl ⟨by rfl,fun W hW=>by obtain ⟨zx0,zd47,zq17,zx1,zy1,zy4,zx2,zt0,zn1⟩:=hW;go_simp⟩) hS ?_
          try simp only [Act.put,List.setIfInBounds_toArray,List.set_cons_zero,List.set_cons_succ]
          refine wpAnyH_take (i:=48) (oi:=⟨some 156,_,_,_,_,_⟩) (v:=.pointer (some ⟨W6.heap.size,4,none⟩)) rfl (by kernel_rfl) (by kernel_rfl) (by kernel_rfl) (fun _ _ _ h=>h) (Or.inl ⟨by rfl,fun W _=>by go_simp⟩) hS ?_
          try simp only [Act.put,List.setIfInBounds_toArray,List.set_cons_zero,List.set_cons_succ]
          refine wpAnyH_take (i:=49) (oi:=⟨some 157,_,_,_,_,_⟩) (v:=.slice (some ⟨g5,0,none⟩) 1 u3c) rfl (by kernel_rfl) (by kernel_rfl) (by kernel_rfl) (fun _ _ _ h=>h) (Or.inl ⟨by rfl,fun W hW=>by obtain ⟨zx0,zd47,zq17,zx1,zy1,zy4,zx2,zt0,zn1⟩:=hW;go_simp⟩) hS ?_
          try simp only [Act.put,List.setIfInBounds_toArray,List.set_cons_zero,List.set_cons_succ]
          refine wpAnyH_take (i:=50) (oi:=⟨some 158,_,_,_,_,_⟩) (v:=.pointer (some ⟨g5,0,none⟩)) rfl (by kernel_rfl) (by kernel_rfl) (by kernel_rfl) (fun _ _ _ h=>h) (Or.inl ⟨by rfl,fun W _=>by go_simp⟩) hS ?_
          try simp only [Act.put,List.setIfInBounds_toArray,List.set_cons_zero,List.set_cons_succ]
          refine wpAnyH_take (i:=51) (oi:=⟨some 159,_,_,_,_,_⟩) (v:=.pointer (some ⟨g5,1,none⟩)) rfl (by kernel_rfl) (by kernel_rfl) (by kernel_rfl) (fun _ _ _ h=>h) (Or.inl ⟨by rfl,fun W _=>by go_simp⟩) hS ?_
          try simp only [Act.put,List.setIfInBounds_toArray,List.set_cons_zero,List.set_cons_succ]
          refine wpAnyH_take (i:=52) (oi:=⟨some 160,_,_,_,_,_⟩) (v:=.string nx) rfl (by kernel_rfl) (by kernel_rfl) (by kernel_rfl) (fun _ _ _ h=>h) (Or.inl ⟨by rfl,fun W hW=>by obtain ⟨zx0,zd47,zq17,zx1,zy1,zy4,zx2,zt0,zn1⟩:=hW;go_simp⟩) hS ?_
          try simp only [Act.put,List.setIfInBounds_toArray,List.set_cons_zero,List.set_cons_succ]
          refine wpAnyH_take (i:=53) (oi:=⟨some 161,_,_,_,_,_⟩) (v:=.bool false) rfl (by kernel_rfl) (by kernel_rfl) (by kernel_rfl) (fun _ _ _ h=>h) (Or.inl ⟨by rfl,fun W _=>by go_simp⟩) hS ?_
          try simp only [Act.put,List.setIfInBounds_toArray,List.set_cons_zero,List.set_cons_succ]
          refine wpAnyH_take (i:=54) (oi:=⟨some 162,_,_,_,_,_⟩) (v:=.bool false) rfl (by kernel_rfl) (by kernel_rfl) (by kernel_rfl) (fun _ _ _ h=>h) (Or.inl ⟨by rfl,fun W _=>by go_simp⟩) hS ?_
          try simp only [Act.put,List.setIfInBounds_toArray,List.set_cons_zero,List.set_cons_succ]
          refine wpAnyH_take (i:=55) (oi:=⟨some 163,_,_,_,_,_⟩) (v:=.bool false) rfl (by kernel_rfl) (by kernel_rfl) (by kernel_rfl) (fun _ _ _ h=>h) (Or.inl ⟨by rfl,fun W _=>by go_simp⟩) hS ?_
          try simp only [Act.put,List.setIfInBounds_toArray,List.set_cons_zero,List.set_cons_succ]
          refine wpAnyH_done (by kernel_rfl) ?_ _
          clear hS
          go_wp2_with fail
          go_roundw
          case rel=>exact ⟨j+1,by omega,by go_num,HB7.out.drew⟩
          case measure=>simp [intOf];omega
        ·obtain rfl:j=x.params.length:=by omega
         have HB6:=zh (HB5.out.trans (hbi.mono HB5.out.size))
         go_wp2_with fail
         go_roundw
         case rel=>exact ⟨k+1,by omega,by go_num,by rw [HNN.out];go_num,HB6.out⟩
         case measure=>simp [intOf];omega
     ·obtain rfl:k=t1.kids.length:=by omega
      rw [List.take_of_length_le (Nat.le_refl _),HAN.out]
      have HB6:=zh (HB4.out.trans (hbw.mono HB4.out.size))
      go_wp2_with fail
      go_ret
      exact ⟨zXg (by simp),HB6.out⟩
   ·have hne1:(c1 != 0)=true:=by simpa using hc1
    go_wp2_with fail
    refine (hwk.out _ HB4.out).mono ?_
    rintro e w5 ⟨rfl,hb⟩
    have HB5:=zh (HB4.out.trans (hb.mono HB4.out.size))
    go_wp2_with fail
    go_ret
    exact ⟨rfl,HB5.out⟩
theorem zqg (os:Os) {H:Type} (enc:TypeId × Value→H):∃ places,DataW.whole enc Tryd.prog ((laidWorld os).forCall (fun _ _=>0) ⟨#[],#[.string ⟨#[]⟩],[]⟩).memory Tryd.f4.params.toList Rows.signOrderSpec.vars false #[Value.string ⟨#[]⟩].toList 8=some ([.lit (.string [])],[],places) :=
 ⟨[],by kernel_rfl⟩
theorem zPf (os:Os) (started:os.Started) (H:Type) (enc:TypeId × Value→H) (F:Stop.Interp) :
  ReturnsInHanded {} Tryd.checked os 4 .any ((OpenSpec.ofChange Rows.signOrderSpec).preRow enc Tryd.prog Tryd.f4 Rows.signOrderRow.domain false Rows.signOrderRow.laid) (((OpenSpec.ofChange Rows.signOrderSpec).at F).post enc Tryd.prog Tryd.f4 false true false false):=by
 obtain ⟨places,hx⟩:=zqg os enc
 refine returnsInHanded_of_row (C:=Tryd.checked) (s:=OpenSpec.ofChange Rows.signOrderSpec) own started (by kernel_rfl) Tryd.func4
  (witness_row_at (enc:=enc) (C:=Tryd.checked) false (laidWorld os) #[.string ⟨#[]⟩] rfl (by kernel_rfl) (by kernel_rfl) (by kernel_rfl)
   (OpenSpec.preRow_of_cond 8 hx (by kernel_rfl) (fun k hk=>by cases hk) (by kernel_rfl) (zWe os))) ?_
 intro W base args ds gs before hval hW _ _ _ hL _ _
 exact zSe Tryd.params4 (by kernel_rfl) rfl (fun _=>rfl) zQg W base args ds gs before hval hW hL
theorem zYg:Rows.SignOrderSaid :=
 OpenClaim.holds_of_cond 4 Tryd.f4 rfl rfl rfl rfl rfl rfl rfl ⟨rfl,rfl,rfl,rfl,rfl⟩ rfl rfl rfl rfl rfl (by kernel_rfl) Tryd.func4 (by kernel_rfl)
  (of_decide_eq_true (by kernel_rfl)) (by unfold Func.isWrapper;first|(rw [if_pos (by decide +kernel)];kernel_rfl)|(rw [if_neg (by decide +kernel)];exact ⟨rfl,rfl⟩))
  (fun os started H enc _ F=>by rw [OpenClaim.pre_eq_preRow];exact zPf os started H enc F)
theorem zwg (f:FuncId) (fn:Func) (hf:Tryd.pinned.checked.prog.funcNamed "lychgate/lychgatelaw12.SignOrder" = some f) (hfn:Tryd.pinned.checked.prog.funcs[f]?=some fn) :
  true=Tryd.pinned.checked.prog.looks []∧∀ (j:Nat) t,fn.params[j]?=some t→Tryd.pinned.checked.prog.wantsStandIn t=false:=by
 obtain rfl:f=4:=Option.some.inj ((show Tryd.prog.funcNamed "lychgate/lychgatelaw12.SignOrder" = some 4 by kernel_rfl).symm.trans hf) |>.symm
 obtain rfl:fn=Tryd.f4:=(Option.some.inj (Tryd.func4.symm.trans hfn)).symm
 refine ⟨by kernel_rfl,fun j t ht=>?_⟩
 rw [Tryd.params4] at ht
 obtain rfl:t=9:=by simpa using Array.mem_of_getElem? ht
 exact (show Tryd.prog.wantsStandIn 9=false by kernel_rfl)
theorem signOrder_card:Rows.SignOrderCardSaid :=
 Claim7.holds_tied_plain_at .later [] _ _ _ _ zYg (fun _ h=>by cases h) (by kernel_rfl) (fun _ h=>by cases h) signOrder_row_tie rfl ⟨rfl,rfl⟩ (by kernel_rfl) rfl zwg (by kernel_rfl)
end Go.Proofs.YtdhmdfhnkppnmaaDoor
