/- Proved here: for every text that lychgatelaw12.SignAlone is called with, in every memory in which lex's tables stand as the program's text lays them, the call returns true and the text reads as before. Conditions: the package-level tables lex.keys, lex.blanks and lex.pairs hold what their initialisers lay (the card ties them to the program's text). -/
import Derived.Test.YtdhmdfhnkppnmaaDoorY24
import Derived.Test.YtdhmdfhnkppnmaaDoorY26
namespace Go.Proofs.YtdhmdfhnkppnmaaDoor
set_option maxRecDepth 100000
set_option maxHeartbeats 4000000
open Go.ChangeShapes Go.WideShapes Go.ChangeAt Go.ChangeMaps Go.RowKit Go.Maps
theorem zbc.some {w:World} {r:E (List Sg)} {e:Ending} {w':World} (h:zbc w r e w'):∃ (a:Option Addr) (n c:Nat) (q g:Int),e=.returned (.tuple #[.slice a n c,.int .i64 q,.int .i64 g])∧Below w.heap.size w w':=by
 unfold zbc at h
 cases r with
 | error pc=>obtain ⟨q,c⟩:=pc;obtain ⟨rfl,hb⟩:=h;exact ⟨_,_,_,_,_,rfl,hb⟩
 | ok l=>obtain ⟨v,rfl,hv,hb⟩:=h;obtain ⟨a,c,rfl⟩:=hv.slice;exact ⟨_,_,_,_,_,rfl,hb⟩
theorem zPg (s:ByteArray) (w:World) (hs:s.size≤maxLen) (ht:Tabs w) :
  Calls Tryd.prog 3 #[.string s] w fun e w'=>e=.returned (.bool true)∧Below w.heap.size w w':=by
 have HT:=zh ht
 cases hq:zab s with
 | mk t1 q1 =>
 obtain ⟨p1,c1⟩:=q1
 have HQ1:=zh hq
 have HD1:=zh (show zVf t1∧t1.size≤4096∧(∀ x∈t1.kids,zje x) from by have h1:=zye s;have h2:=(zwd s).2;have h3:=zzg s;rw [hq] at h1 h2 h3;exact ⟨h1,h2,h3⟩)
 clear hq ht
 go_enter Tryd.func3,Tryd.ntmps3
 go_wp2_with fail
 refine (parse_any s w hs HT.out).mono ?_
 rw [HQ1.out]
 rintro e w1 ⟨k1,rfl,hk,hb⟩
 obtain ⟨W1,hW1⟩:∃ W,w1.alloc (.cells (zaa t1 k1).toArray 25)=W:=⟨_,rfl⟩
 have hb1:Below w1.heap.size w1 W1:=hW1▸(Below.refl _ _).alloc (Nat.le_refl _) _
 have HB1:=zh (hb.trans (hb1.mono hb.size))
 have HN1:=zh (show Blk W1 w1.heap.size (zaa t1 k1) 25 from hW1▸Blk.new w1 _ _)
 have HK1:=zh (show KAt 25 W1 t1.kids (fun b=>w.heap.size≤b) k1 from (show KAt 25 w1 t1.kids _ k1 from hk).below hb1)
 have HO1:=zh HK1.out.one
 have HTY:=zh (zEg HK1.out HD1.out.1 HD1.out.2.1)
 have hn1:=HN1.out
 clear hk hb hb1
 unfold zma at HTY ⊢
 go_upto_region 2 with ((with_reducible refine zra 25 (.tmp 3) ?_);refine zga rfl 25 (.tmp 3) (.tmp 21) rfl (zaa t1 k1) (old:=zba) rfl rfl Tryd.zca rfl (zda _ _ HO1.out) ?_;rw [hW1])
 clear hW1
 go_wp2_with ((with_reducible refine zva 25 (.tmp 3) ?_);refine zfa rfl 25 (.tmp 3) rfl w1.heap.size (zaa t1 k1) rfl hn1 Tryd.underlying25 rfl Tryd.zca ?_)
 refine HTY.out.mono ?_
 clear HTY hn1
 intro e w2 hp
 have HCD:=zh (zne t1.kids [])
 have hwk:Hid (∀ (W:World),Below w.heap.size w W→Calls Tryd.prog 8 #[] W fun e w'=>e=.returned (.bool true)∧Below W.heap.size W w'):=zh fun W h=>zrg W (HT.out.below h HT.out.size)
 cases hr1:zGb [] t1.kids with
 | error pc =>
  obtain ⟨q,c⟩:=pc
  unfold zyc at hp
  rw [hr1] at hp
  obtain ⟨rfl,hb⟩:=hp
  have hcc:=HCD.out q c hr1
  have hne:(c != 0)=true:=by rw [bne_iff_ne];omega
  have HB2:=zh (HB1.out.trans (hb.mono HB1.out.size))
  have hn2:=HN1.out.stays hb
  have HSG:=zh (zqe (A:=none) (cap:=0) (tys:=[]) (fun h=>by simp at h) ⟨Nat.le_refl _,by unfold maxLen;omega⟩ (fun t h=>by simp at h) (HK1.out.below hb) HD1.out.2.1 HD1.out.2.2)
  unfold zma at HSG
  rw [show ([]:List Ty).length=0 from rfl] at HSG
  clear hb hr1 hcc
  go_wp2_with ((with_reducible refine zva 25 (.tmp 3) ?_);refine zfa rfl 25 (.tmp 3) rfl w1.heap.size (zaa t1 k1) rfl hn2 Tryd.underlying25 rfl Tryd.zca ?_)
  refine HSG.out.mono ?_
  clear HSG hn2
  intro e w3 hp
  obtain ⟨va,vn,vc,at3,g3,rfl,hb⟩:=hp.some
  have HB3:=zh (HB2.out.trans (hb.mono HB2.out.size))
  clear hb hp
  go_wp2_with fail
  refine (hwk.out _ HB3.out).mono ?_
  rintro e w4 ⟨rfl,hb⟩
  have HB4:=zh (HB3.out.trans (hb.mono HB3.out.size))
  clear hb
  by_cases hc1:c1=0
  ·obtain rfl:=hc1
   go_wp2_with fail
   refine (hwk.out _ HB4.out).mono ?_
   rintro e w5 ⟨rfl,hb⟩
   have HB5:=zh (HB4.out.trans (hb.mono HB4.out.size))
   go_wp2_with fail
   go_ret
   exact ⟨rfl,HB5.out⟩
  ·have hne1:(c1 != 0)=true:=by simpa using hc1
   go_wp2_with fail
   refine (hwk.out _ HB4.out).mono ?_
   rintro e w5 ⟨rfl,hb⟩
   have HB5:=zh (HB4.out.trans (hb.mono HB4.out.size))
   go_wp2_with fail
   go_ret
   exact ⟨rfl,HB5.out⟩
 | ok tys =>
  unfold zyc at hp
  rw [hr1] at hp
  obtain ⟨v,rfl,hv,hb⟩:=hp
  have HB2:=zh (HB1.out.trans (hb.mono HB1.out.size))
  have HV2:=zh hv
  have hn2:=HN1.out.stays hb
  have HK2:=zh (HK1.out.below hb)
  have HRR:=zh hr1
  have hsm:∀ t∈tys,t.name.size≤maxLen:=fun t ht=>by have:=zid t1.kids HD1.out.1 (fun t h=>by simp at h) hr1 t ht;unfold maxLen;omega
  obtain ⟨va,vc,rfl,hcl,hty⟩:=hv.tysc
  have HSG:=zh (zqe hty hcl hsm HK2.out HD1.out.2.1 HD1.out.2.2)
  unfold zma at HSG
  have HCL:=zh hcl
  clear hb hv HK1 hr1 hty hcl hsm
  go_wp2_with ((with_reducible refine zva 25 (.tmp 3) ?_);refine zfa rfl 25 (.tmp 3) rfl w1.heap.size (zaa t1 k1) rfl hn2 Tryd.underlying25 rfl Tryd.zca ?_)
  have HN2:=zh hn2
  refine HSG.out.mono ?_
  clear HSG hn2
  intro e w3 hp
  cases hr2:zFc tys [] t1.kids with
  | error pc =>
   obtain ⟨q,c⟩:=pc
   unfold zbc at hp
   rw [hr2] at hp
   obtain ⟨rfl,hb⟩:=hp
   have hne:(c != 0)=true:=by simpa using zpe hr2
   have HB3:=zh (HB2.out.trans (hb.mono HB2.out.size))
   clear hb hr2
   go_wp2_with fail
   refine (hwk.out _ HB3.out).mono ?_
   rintro e w4 ⟨rfl,hb⟩
   have HB4:=zh (HB3.out.trans (hb.mono HB3.out.size))
   clear hb
   by_cases hc1:c1=0
   ·obtain rfl:=hc1
    go_wp2_with fail
    refine (hwk.out _ HB4.out).mono ?_
    rintro e w5 ⟨rfl,hb⟩
    have HB5:=zh (HB4.out.trans (hb.mono HB4.out.size))
    go_wp2_with fail
    go_ret
    exact ⟨rfl,HB5.out⟩
   ·have hne1:(c1 != 0)=true:=by simpa using hc1
    go_wp2_with fail
    refine (hwk.out _ HB4.out).mono ?_
    rintro e w5 ⟨rfl,hb⟩
    have HB5:=zh (HB4.out.trans (hb.mono HB4.out.size))
    go_wp2_with fail
    go_ret
    exact ⟨rfl,HB5.out⟩
  | ok sgs =>
   unfold zbc at hp
   rw [hr2] at hp
   obtain ⟨v,rfl,hv,hb⟩:=hp
   have HB3:=zh (HB2.out.trans (hb.mono HB2.out.size))
   have HS3:=zh hv
   have HV3:=zh (HV2.out.below hb)
   have HN3:=zh (HN2.out.stays hb)
   have HK3:=zh (HK2.out.below hb)
   have HR2:=zh hr2
   obtain ⟨la,lc,rfl⟩:=hv.slice
   clear hb hv hr2 HV2 HN2 HK2
   go_wp2_with fail
   refine (hwk.out _ HB3.out).mono ?_
   rintro e w4 ⟨rfl,hb⟩
   have HB4:=zh (HB3.out.trans (hb.mono HB3.out.size))
   have HS4:=zh (HS3.out.below hb)
   have HV4:=zh (HV3.out.below hb)
   have HN4:=zh (HN3.out.stays hb)
   have HK4:=zh (HK3.out.below hb)
   clear hb HS3 HV3 HN3 HK3
   by_cases hc1:c1=0
   ·obtain rfl:=hc1
    obtain ⟨zs,hzs,hall⟩:=zVh (R:=fun n s=>SgU tys s∧((∀ q∈n.kids,q.kind=7→zeb q.text=true)→∀ (k:Nat) (p:Prm),s.params[k]?=some p→p.name.size≤16)) (fun n s hn h=>⟨zNp hn h,zMk hn h⟩) t1.kids HD1.out.2.2 HR2.out
    obtain rfl:sgs=zs:=by simpa using hzs
    have hgood:t1.good=true:=by have h:=(zwd s).1;rw [HQ1.out] at h;exact h
    have HAL:=zh (show ∀ (k:Nat) (x:Sg),sgs[k]?=some x→SgU tys x∧∀ (j:Nat) (p:Prm),x.params[j]?=some p→p.name.size≤16 from fun k x hx=>by
     obtain ⟨a,ha,h1,h2⟩:=hall.get2 k x hx
     exact ⟨h1,h2 fun q hq h7=>zpk hgood ((List.mem_filter.1 (List.mem_of_getElem? ha)).1) hq h7⟩)
    have hsl4:sgs.length≤4096:=by
     have h0:=hall.len
     have h1:=zrd t1.kids
     have h2:t1.size=1+sizes t1.kids:=(by cases t1;rw [size_mk];rfl)
     have h3:=HD1.out.2.1
     have h4:=List.length_filter_le (fun t:T=>t.kind == 6) t1.kids
     omega
    have hmm:=@run_makeMap Tryd.prog
    have HTL:=zh HCL.out
    clear hzs hall
    go_wp2_with fail
    go_loopw [54] (fun i wr=>∃ k:Nat,k≤sgs.length∧i=.int .i64 k∧Below w4.heap.size w4 wr) (fun i _=>sgs.length-(intOf i).toNat)
    case atStart=>exact ⟨0,by omega,rfl,Below.refl _ _⟩
    case round =>
     obtain ⟨k,hkk,rfl,hbw⟩:=hrel
     obtain ⟨wo,rfl⟩:∃ W,W=wr:=⟨_,rfl⟩
     by_cases hlt:k<sgs.length
     ·obtain ⟨x,hx⟩:∃ x,sgs[k]?=some x:=⟨_,List.getElem?_eq_getElem hlt⟩
      have HX:=zh (HAL.out k x hx).1
      have HXS:=zh (HAL.out k x hx).2
      obtain ⟨lg,lcap,hlsl,hlg,hlcap,hlcm,hlget⟩:=(HS4.out.form).resolve_left fun h=>by rw [h.2] at hlt;simp at hlt
      obtain ⟨rfl,rfl⟩:la=some ⟨lg,0,none⟩∧lc=lcap:=by simpa using hlsl
      obtain ⟨pv,hrl,hpv⟩:=hlget k x hx
      have HRL:=zh (zoa hrl hbw hlg.2)
      obtain ⟨pa,pc,rfl⟩:=RAt.slice hpv
      obtain ⟨W5,hW5⟩:∃ W,wo.alloc (.cells (zqa x (.slice pa x.params.length pc)).toArray 42)=W:=⟨_,rfl⟩
      have hb5:Below wo.heap.size wo W5:=hW5▸(Below.refl _ _).alloc (Nat.le_refl _) _
      have HB5:=zh (hbw.trans (hb5.mono hbw.size))
      have HN5:=zh (show Blk W5 wo.heap.size (zqa x (.slice pa x.params.length pc)) 42 from hW5▸Blk.new wo _ _)
      have HPV:=zh (hpv.below HB5.out)
      have HM1:=zh (zKm.made W5)
      have HM1':=zh (show zKm ((W5.alloc (.map #[] 0)).alloc (.map #[] 0)) W5.heap.size [] from HM1.out.same (Below.heap_alloc _ _ _ (by simp)))
      have HM2:=zh (show zlj ((W5.alloc (.map #[] 0)).alloc (.map #[] 0)) (W5.heap.size+1) [] from by have:=zlj.made (W5.alloc (.map #[] 0));rwa [World.size_alloc] at this)
      have HB7:=zh (show Below W5.heap.size W5 ((W5.alloc (.map #[] 0)).alloc (.map #[] 0)) from ((Below.refl _ _).alloc (Nat.le_refl _) _).alloc (by simp) _)
      have n51:((W5.alloc (.map #[] 0)).alloc (.map #[] 0)).cell? ⟨wo.heap.size,1,none⟩=some (.slice pa x.params.length pc):=(HN5.out.stays HB7.out).cell 1
      have h8:=HX.out.len
      have hone:=zAf x (pv:=.slice pa x.params.length pc) rfl
      clear hlget hrl hpv hlsl hb5
      go_upto_region 10 with (first
       | ((with_reducible refine zva 42 (.tmp 56) ?_);refine wpList_load_mid rfl 42 (.tmp 56) rfl lg (k * 5) rfl (zqa x (.slice pa x.params.length pc)) _ HRL.out Tryd.underlying42 rfl Tryd.zZc ?_)
       | ((with_reducible refine zra 42 (.tmp 13) ?_);refine zga rfl 42 (.tmp 13) (.tmp 57) rfl (zqa x (.slice pa x.params.length pc)) (old:=zqa sg0 (.slice none 0 0)) rfl rfl Tryd.zZc rfl hone ?_;rw [hW5]))
      clear hW5
      go_wp2_with fail
      clear n51 hmm
      go_loopw [63] (fun i wr=>∃ j:Nat,j≤x.params.length∧i=.int .i64 j∧Below W5.heap.size W5 wr∧zKm wr W5.heap.size (x.params.take j)∧zlj wr (W5.heap.size+1) (x.params.take j)) (fun i _=>x.params.length-(intOf i).toNat)
      case atStart=>exact ⟨0,by omega,rfl,HB7.out,by simpa using HM1'.out,by simpa using HM2.out⟩
      case round =>
       obtain ⟨j,hj,rfl,hbi,hnm,hit⟩:=hrel
       by_cases hlj:j<x.params.length
       ·obtain ⟨p,hp⟩:∃ p,x.params[j]?=some p:=⟨_,List.getElem?_eq_getElem hlj⟩
        have hu:=HX.out.par j p hp
        have htk:x.params.take (j+1)=x.params.take j++[p]:=by rw [List.take_add_one,hp];rfl
        obtain ⟨pg,pcap,hpsl,hpg,hpcap,hpcm,hpget⟩:=(HPV.out.form zvf).resolve_left fun h=>by rw [h.2] at hlj;simp at hlj
        obtain ⟨rfl,rfl⟩:pa=some ⟨pg,0,none⟩∧pc=pcap:=by simpa using hpsl
        have HRP:=zh (zoa (hpget j p hp) hbi hpg.2)
        obtain ⟨W8,hW8⟩:∃ W,wr.alloc (.cells (zha p).toArray 40)=W:=⟨_,rfl⟩
        have hb8:Below wr.heap.size wr W8:=hW8▸(Below.refl _ _).alloc (Nat.le_refl _) _
        have HB8:=zh (hbi.trans (hb8.mono hbi.size))
        have HLT2:W5.heap.size+1<wr.heap.size:=by obtain ⟨_,_,h,_⟩:=hit;exact h.lt
        have HX8:=zh (show Blk W8 wr.heap.size (zha p) 40 from hW8▸Blk.new wr _ _)
        obtain ⟨mn,D,hmo,hmn,hmI,hmD⟩:=hnm.same (hb8.block _ (by obtain ⟨_,_,h,_⟩:=hnm;exact h.lt))
        obtain ⟨tn,E',hto,htn,htI,htD⟩:=hit.same (hb8.block _ (by obtain ⟨_,_,h,_⟩:=hit;exact h.lt))
        have hps:p.name.size≤maxLen:=by have:=HXS.out j p hp;unfold maxLen;omega
        have h0:=hmD p.name hu.name
        have hlk0:=zSj hmo hps h0
        have hmn2:mn<maxLen:=by unfold maxLen;simp at hmn;omega
        have htn2:tn<maxLen:=by unfold maxLen;simp at htn;omega
        have HTO:=zh (And.intro hto htn2)
        have x0:W8.cell? ⟨wr.heap.size,0,none⟩=some (.string p.name):=HX8.out.cell 0
        clear hpget hpsl hb8 hnm hit
        unfold maxLen at hpcm
        go_upto_region 14 with (first
         | ((with_reducible refine zva 40 (.tmp 65) ?_);refine wpList_load_mid rfl 40 (.tmp 65) rfl pg (j * 3) rfl (zha p) _ HRP.out Tryd.underlying40 rfl Tryd.zNa ?_)
         | ((with_reducible refine zra 40 (.tmp 17) ?_);refine zga rfl 40 (.tmp 17) (.tmp 66) rfl (zha p) (old:=zha zOb) rfl rfl Tryd.zNa rfl (zRb _) ?_;rw [hW8])
         | (at_mapUpdate;refine wpList_mapUpdate_own _ rfl _ _ _ 43 rfl 9 3 zAi Tryd.underlying43 (plainElem Tryd.prog 3) W5.heap.size mn D rfl hmo hmn2 (.string p.name) (.int .i64 1) (zPd p.name) rfl rfl (WideMaps.keyOf_string_mk Tryd.underlying9 hps) (.lit (.int .i64 1)) [] (plainElem_int Tryd.underlying3 (by decide)) ?_))
        intro w9 hown9 hg9
        have hlt8:=HX8.out.lt
        have hM2:W5.heap.size+1<wr.heap.size:=HLT2
        have hlk1:=zSj hown9 hps (by rw [atKey_put_same hmI (by unfold zPd;trivial)])
        have NM9:=zh (zKm.put hmn hmI hmD hown9)
        have hx9:=HX8.out.grown hg9 (fun e=>by have:=Option.some.inj e;omega)
        have x0:w9.cell? ⟨wr.heap.size,0,none⟩=some (.string p.name):=hx9.cell 0
        have x1:w9.cell? ⟨wr.heap.size,1,none⟩=some (.int .i64 p.mode):=hx9.cell 1
        have x2:w9.cell? ⟨wr.heap.size,2,none⟩=some (.int .i64 p.ty):=hx9.cell 2
        have hto9:=HTO.out.1.kept hg9 (fun e=>by have:=Option.some.inj e;omega)
        have HB9:=zh (HB8.out.grown hg9 HB8.out.size (fun k e=>by cases e;exact Nat.le_refl _))
        have hlo:=hu.lo
        have HUT:=zh hu.ty
        have HUO:=zh hu.one
        have HTK:=zh htk
        have HE9:=zh (show zlj w9 (W5.heap.size+1) (x.params.take j) from ⟨tn,E',hto9,htn,htI,htD⟩)
        clear hmo hown9 hg9 hx9 hlk0 hu htk
        by_cases hmd:1<p.mode
        ·obtain ⟨kk,t,hty,htt⟩:=HUT.out hmd
         have hkl3:kk<tys.length:=(List.getElem?_eq_some_iff.1 htt).1
         obtain ⟨tg,tcap,htsl,htg,htcap,htcm,htget⟩:=(HV4.out.form).resolve_left fun h=>by rw [h.2] at hkl3;simp at hkl3
         obtain ⟨rfl,rfl⟩:va=some ⟨tg,0,none⟩∧vc=tcap:=by simpa using htsl
         obtain ⟨tp,tl,hrt,_⟩:=htget kk t htt
         have s1:w9.cell? ⟨tg,kk * 5+1,none⟩=some (.int .i64 t.sort):=zoa hrt (HB5.out.trans (HB9.out.mono HB5.out.size)) htg.2 1 _ rfl
         have hsr:zth tys p.ty=t.sort:=by unfold zth;rw [hty];simp [htt]
         have hk1:(kk:Int)<(tys.length:Int):=by omega
         unfold maxLen at htcm
         have hwf:(Lit.int .i64 p.ty).wf=true:=by rw [hty];exact WalkArith.wf_i64 (by omega)
         rw [hty] at x2
         clear htget hrt htsl htt
         by_cases hs0:t.sort=0
         ·have IT9:=zh (HE9.out.skip p)
          have hsb:(t.sort != 0)=false:=by simp [hs0]
          clear hto9 HE9
          generalize p.mode=md at *
          generalize p.name=nm at *
          go_wp2_with fail
          go_roundw
          case rel=>exact ⟨j+1,hlj,by go_num,HB9.out,by rw [HTK.out];exact NM9.out,by rw [HTK.out];exact IT9.out⟩
          case measure=>simp [intOf];omega
         ·have hsb:(t.sort != 0)=true:=by simpa using hs0
          have h02:=htD p.ty (HUO.out hmd (by rw [hsr];exact hs0))
          have hlk2:=zFj hto9 hwf h02
          have htn2:=HTO.out.2
          rw [hty] at hlk2
          go_wp2_with (at_mapUpdate;refine wpList_mapUpdate_own _ rfl _ _ _ 44 rfl 3 3 zQn Tryd.underlying44 (plainElem Tryd.prog 3) (W5.heap.size+1) tn E' rfl hto9 htn2 (.int .i64 kk) (.int .i64 1) (.int .i64 kk) rfl rfl (keyOf_int_mk Tryd.underlying3 (hty▸hwf)) (.lit (.int .i64 1)) [] (plainElem_int Tryd.underlying3 (by decide)) ?_)
          intro w10 hown10 hg10
          have hlk3:=zFj hown10 (hty▸hwf) (by rw [atKey_put_same htI (by trivial)])
          have IT10:=zh (zlj.put htn htI hmd htD (by rw [hty];exact hown10))
          have hx10:w10.cell? ⟨wr.heap.size,2,none⟩=some (.int .i64 kk):=hg10.cell x2 (fun e=>by have:=Option.some.inj e;simp only at this;omega)
          have NM10:=zh (NM9.out.same (hg10.block _ (by have:=cell_lt x2;omega) (fun e=>by have:=Option.some.inj e;omega)))
          have HB10:=zh (HB9.out.grown hg10 HB9.out.size (fun k e=>by cases e;omega))
          clear hown10 hg10 hlk2 hto9 h02
          go_wp2_with fail
          go_roundw
          case rel=>exact ⟨j+1,hlj,by go_num,HB10.out,by rw [HTK.out];exact NM10.out,by rw [HTK.out];exact IT10.out⟩
          case measure=>simp [intOf];omega
        ·have IT9:=zh (HE9.out.skip p)
         have hm1:p.mode=1:=by omega
         clear hto9 HE9
         generalize p.name=nm at *
         generalize p.ty=ty at *
         rw [hm1] at x1
         go_wp2_with fail
         go_roundw
         case rel=>exact ⟨j+1,hlj,by go_num,HB9.out,by rw [HTK.out];exact NM9.out,by rw [HTK.out];exact IT9.out⟩
         case measure=>simp [intOf];omega
       ·obtain rfl:j=x.params.length:=by omega
        have r3:wr.cell? ⟨wo.heap.size,3,none⟩=some (.int .i64 x.ret.mode):=(HN5.out.stays hbi).cell 3
        have r1:wr.cell? ⟨wo.heap.size,1,none⟩=some (.slice pa x.params.length pc):=(HN5.out.stays hbi).cell 1
        have hr1:=HX.out.ret.1
        have hr2:=HX.out.ret.2
        have HB9:=zh (HB5.out.trans (hbi.mono HB5.out.size))
        clear hbi hnm hit
        generalize x.ret.mode=md at *
        generalize x.params.length=nx at *
        go_wp2_with fail
        go_roundw
        case rel=>exact ⟨k+1,by omega,by go_num,HB9.out⟩
        case measure=>simp [intOf];omega
     ·have HB6:=zh (HB4.out.trans (hbw.mono HB4.out.size))
      go_wp2_with fail
      go_ret
      exact ⟨rfl,HB6.out⟩
   ·have hne1:(c1 != 0)=true:=by simpa using hc1
    go_wp2_with fail
    refine (hwk.out _ HB4.out).mono ?_
    rintro e w5 ⟨rfl,hb⟩
    have HB5:=zh (HB4.out.trans (hb.mono HB4.out.size))
    go_wp2_with fail
    go_ret
    exact ⟨rfl,HB5.out⟩
theorem zAg (os:Os) {H:Type} (enc:TypeId × Value→H):∃ places,DataW.whole enc Tryd.prog ((laidWorld os).forCall (fun _ _=>0) ⟨#[],#[.string ⟨#[]⟩],[]⟩).memory Tryd.f3.params.toList Rows.signAloneSpec.vars false #[Value.string ⟨#[]⟩].toList 8=some ([.lit (.string [])],[],places) :=
 ⟨[],by kernel_rfl⟩
theorem zNf (os:Os) (started:os.Started) (H:Type) (enc:TypeId × Value→H) (F:Stop.Interp) :
  ReturnsInHanded {} Tryd.checked os 3 .any ((OpenSpec.ofChange Rows.signAloneSpec).preRow enc Tryd.prog Tryd.f3 Rows.signAloneRow.domain false Rows.signAloneRow.laid) (((OpenSpec.ofChange Rows.signAloneSpec).at F).post enc Tryd.prog Tryd.f3 false true false false):=by
 obtain ⟨places,hx⟩:=zAg os enc
 refine returnsInHanded_of_row (C:=Tryd.checked) (s:=OpenSpec.ofChange Rows.signAloneSpec) own started (by kernel_rfl) Tryd.func3
  (witness_row_at (enc:=enc) (C:=Tryd.checked) false (laidWorld os) #[.string ⟨#[]⟩] rfl (by kernel_rfl) (by kernel_rfl) (by kernel_rfl)
   (OpenSpec.preRow_of_cond 8 hx (by kernel_rfl) (fun k hk=>by cases hk) (by kernel_rfl) (zWe os))) ?_
 intro W base args ds gs before hval hW _ _ _ hL _ _
 exact zSe Tryd.params3 (by kernel_rfl) rfl (fun _=>rfl) zPg W base args ds gs before hval hW hL
theorem zUg:Rows.SignAloneSaid :=
 OpenClaim.holds_of_cond 3 Tryd.f3 rfl rfl rfl rfl rfl rfl rfl ⟨rfl,rfl,rfl,rfl,rfl⟩ rfl rfl rfl rfl rfl (by kernel_rfl) Tryd.func3 (by kernel_rfl)
  (of_decide_eq_true (by kernel_rfl)) (by unfold Func.isWrapper;first|(rw [if_pos (by decide +kernel)];kernel_rfl)|(rw [if_neg (by decide +kernel)];exact ⟨rfl,rfl⟩))
  (fun os started H enc _ F=>by rw [OpenClaim.pre_eq_preRow];exact zNf os started H enc F)
theorem zJg (f:FuncId) (fn:Func) (hf:Tryd.pinned.checked.prog.funcNamed "lychgate/lychgatelaw12.SignAlone" = some f) (hfn:Tryd.pinned.checked.prog.funcs[f]?=some fn) :
  true=Tryd.pinned.checked.prog.looks []∧∀ (j:Nat) t,fn.params[j]?=some t→Tryd.pinned.checked.prog.wantsStandIn t=false:=by
 obtain rfl:f=3:=Option.some.inj ((show Tryd.prog.funcNamed "lychgate/lychgatelaw12.SignAlone" = some 3 by kernel_rfl).symm.trans hf) |>.symm
 obtain rfl:fn=Tryd.f3:=(Option.some.inj (Tryd.func3.symm.trans hfn)).symm
 refine ⟨by kernel_rfl,fun j t ht=>?_⟩
 rw [Tryd.params3] at ht
 obtain rfl:t=9:=by simpa using Array.mem_of_getElem? ht
 exact (show Tryd.prog.wantsStandIn 9=false by kernel_rfl)
theorem signAlone_card:Rows.SignAloneCardSaid :=
 Claim7.holds_tied_plain_at .later [] _ _ _ _ zUg (fun _ h=>by cases h) (by kernel_rfl) (fun _ h=>by cases h) signAlone_row_tie rfl ⟨rfl,rfl⟩ (by kernel_rfl) rfl zJg (by kernel_rfl)
end Go.Proofs.YtdhmdfhnkppnmaaDoor
