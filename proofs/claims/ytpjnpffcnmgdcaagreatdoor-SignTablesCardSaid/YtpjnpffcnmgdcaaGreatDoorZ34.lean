/- The contract of lychgateref12.Sigs. -/
import Derived.Test.YtpjnpffcnmgdcaaGreatDoorZ33
import Derived.Test.YtpjnpffcnmgdcaaGreatDoorZ31
import Derived.Test.YtpjnpffcnmgdcaaGreatDoorZ02
import Derived.Test.YtpjnpffcnmgdcaaGreatDoorZ03
import Derived.Test.YtpjnpffcnmgdcaaGreatDoorZ12
namespace Go.Proofs.YtpjnpffcnmgdcaaGreatDoor
set_option maxRecDepth 100000
set_option maxHeartbeats 4000000
open Go.RowKit Go.Maps
def zxi (w:World) (r:E (List Sg)) (e:Ending) (w':World):Prop :=
 match r with
 | .ok l=>∃ v,e=.returned (.tuple #[v,.int .i64 0,.int .i64 0])∧zRc w' l (fun b=>w.heap.size≤b) v∧Below w.heap.size w w'
 | .error (q,c)=>e=.returned (.tuple #[.slice none 0 0,.int .i64 q,.int .i64 c])∧Below w.heap.size w w'
theorem ztl {w:World} {A:Option Addr} {cap:Nat} {tys:List Ty} (ht:zph w A tys) (hl:tys.length≤9223372036854775807) {t:T} {S:Nat→Prop} {kv:Value} (hk:KAt 36 w t.kids S kv) (hts:t.size≤4096) (hfn:∀ x∈t.kids,zVf x) :
  Calls Tryz.prog 11 #[zna t kv,.slice A tys.length cap] w (zxi w (zTd tys [] t.kids)):=by
 obtain ⟨i0,z0,I⟩:=Tryz.zWt
 have htz:t.size=1+sizes t.kids:=by cases t;rw [size_mk];rfl
 have hkl:t.kids.length≤4096:=by have:=zbf t.kids;omega
 obtain ⟨W0,hW0⟩:∃ W,w.alloc (.cells (zaa t kv).toArray 36)=W:=⟨_,rfl⟩
 have HB0:=zh (show Below w.heap.size w W0 from hW0▸(Below.refl _ _).alloc (Nat.le_refl _) _)
 have b1:=zh (show Blk W0 w.heap.size (zaa t kv) 36 from hW0▸Blk.new w _ _)
 have HT:=zh ht
 have HFN:=zh hfn
 have HTZ:=zh (show 1+sizes t.kids≤4096 by omega)
 have HK:=zh (show KAt 36 w t.kids (fun b=>b<w.heap.size) kv from hk.keep fun b _ hb=>⟨hb,rfl⟩)
 obtain ⟨ka,kc,rfl⟩:=hk.len
 unfold zaa at hW0
 unfold zna
 clear ht hk hfn hts htz
 go_enter Tryz.func11,Tryz.ntmps11
 go_upto_region 1 with fail
 try rw [hW0]
 have hw0l:w.heap.size<W0.heap.size:=b1.out.lt
 clear hW0
 go_wp2_with fail
 go_loopw [7,8] (fun sv i wr=>∃ k:Nat,k≤t.kids.length∧i=.int .i64 k∧∃ l,zRc wr l (fun b=>w.heap.size<b) sv∧Below (w.heap.size+1) W0 wr∧l.length≤k∧zTd tys [] t.kids=zTd tys l (t.kids.drop k)) (fun _ i _=>t.kids.length-(intOf i).toNat)
 case atStart=>exact ⟨0,by omega,rfl,[],zRc.nil _ _,Below.refl _ _,by simp,by rw [List.drop_zero]⟩
 case round =>
  obtain ⟨k,hkk,rfl,l,hs,hbw,hll,heq⟩:=hrel
  have HLL:=zh hll
  have HBW:=zh hbw
  have HB:=zh (HB0.out.trans (hbw.mono (by omega)))
  have HSG:=zh hs
  have hwr:w.heap.size<wr.heap.size:=Nat.lt_of_lt_of_le hw0l hbw.size
  have N2:=zh (show Blk wr w.heap.size (zaa t (.slice ka t.kids.length kc)) 36 from (hbw.block _ (by omega)).trans b1.out)
  have n4:wr.cell? ⟨w.heap.size,4,none⟩=some (.slice ka t.kids.length kc):=N2.out.cell 4
  obtain ⟨sa,sc,rfl⟩:=hs.slice
  by_cases hlt:k<t.kids.length
  ·obtain ⟨tk,htk⟩:∃ tk,t.kids[k]?=some tk:=⟨_,List.getElem?_eq_getElem hlt⟩
   obtain ⟨g,cp,hsl,hgl,hcap,hcm,hget⟩:=(HK.out.form).resolve_left fun h=>by rw [h.2] at hlt;simp at hlt
   obtain ⟨rfl,rfl⟩:ka=some ⟨g,0,none⟩∧kc=cp:=by simpa using hsl
   obtain ⟨u,hr,hu⟩:=hget k tk htk
   have HR:=zh (zua hr HB.out hgl)
   have g0:wr.cell? ⟨g,k * 5,none⟩=some (.int .i64 tk.kind):=HR.out 0 _ rfl
   have HEQ:=zh (heq.trans (show _=zTd tys l (tk :: t.kids.drop (k+1)) by rw [List.drop_eq_getElem_cons hlt,(List.getElem?_eq_some_iff.1 htk).2]))
   have HU:=zh (hu.kat.below HB.out)
   have HKL:=zh (show tk.kids.length≤4096 from by have:=zzm (List.mem_of_getElem? htk);have:=HTZ.out;omega)
   have HFK:=zh (HFN.out tk (List.mem_of_getElem? htk))
   have hkn:(k:Int)<(t.kids.length:Int):=by omega
   unfold maxLen at hcm
   clear hget hr hu hs hsl htk heq hbw hll
   cases h6:tk.kind == 6
   ·have HN:=zh (HEQ.out.trans (zpn h6))
    have h6':(tk.kind != 6)=true:=by simp [bne,h6]
    go_wp2_with fail
    go_roundw
    case rel=>exact ⟨k+1,hlt,by go_num,l,HSG.out,HBW.out,by have:=HLL.out;omega,HN.out⟩
    case measure=>simp [intOf];omega
   ·have h6':(tk.kind != 6)=false:=by simp [bne,h6]
    have hok:=HFK.out (beq_iff_eq.1 h6)
    have HSI:=zh (zxs (cap:=cap) (HT.out.below HB.out) hl HU.out HKL.out hok)
    unfold zna at HSI
    clear hok
    go_wp2_with ((with_reducible refine zqa 36 (.tmp 30) ?_);refine wpList_load_mid rfl 36 (.tmp 30) rfl g (k * 5) rfl (zaa tk u) _ HR.out Tryz.underlying36 rfl Tryz.zha ?_)
    refine HSI.out.mono ?_
    clear HSI n4 g0
    intro e w5 hp
    cases ho:zuj tys tk with
    | error pc =>
     obtain ⟨q,c⟩:=pc
     rw [ho] at hp
     obtain ⟨rfl,hb⟩:=hp
     have HRes:=zh (show zTd tys [] t.kids=.error (q,c) from by rw [HEQ.out,zBl h6 ho])
     have hc0:=zFk ho
     have hc1:(c != 0)=true:=by simpa using hc0
     obtain ⟨W6,hW6⟩:∃ W,w5.alloc (.cells (zka sg0 (.slice none 0 0)).toArray 59)=W:=⟨_,rfl⟩
     have HB6:=zh (show Below w.heap.size w W6 from hW6▸(HB.out.trans (hb.mono HB.out.size)).alloc (Nat.le_trans HB.out.size hb.size) _)
     have hone:=zWe sg0 (pv:=.slice none 0 0) rfl
     clear hb ho hc0
     unfold SgV
     go_wp2_with ((with_reducible refine zla 59 (.tmp 9) ?_);refine zga rfl 59 (.tmp 9) (.tmp 34) rfl (zka sg0 (.slice none 0 0)) (old:=zka sg0 (.slice none 0 0)) rfl rfl Tryz.zyc rfl hone ?_;rw [hW6])
     refine bodyPost_ret (results_tmp3 Tryz.results11 _ _ _) rfl ?_
     rw [HRes.out]
     exact ⟨rfl,HB6.out⟩
    | ok s =>
     rw [ho] at hp
     obtain ⟨pv,rfl,hpv,hb⟩:=hp
     have HN:=zh (HEQ.out.trans (zan h6 ho))
     obtain ⟨W6,hW6⟩:∃ W,w5.alloc (.cells (zka s pv).toArray 59)=W:=⟨_,rfl⟩
     have hb2:Below w5.heap.size w5 W6:=hW6▸(Below.refl _ _).alloc (Nat.le_refl _) _
     have hb12:=hb.trans (hb2.mono hb.size)
     have hb7:=hb12.trans (((Below.refl W6.heap.size W6).alloc (Nat.le_refl _) (.cells (zka s pv).toArray 59)).mono hb12.size)
     have HSG7:=zh (HSG.out.below hb7)
     have HBW7:=zh (HBW.out.trans (hb7.mono (by omega)))
     have HP7:=zh (((hpv.below hb2).alloc (.cells (zka s pv).toArray 59)))
     have HPC:=zh (show zje _ s.params (fun b=>w.heap.size<b∧(Value.slice sa l.length sc).ownBlock≠some b) pv from HP7.out.mono fun b hb _=>by
      have hb':wr.heap.size≤b:=hb
      exact ⟨by omega,fun e=>by have:=(HSG.out.lt e).2;omega⟩)
     have HX6:=zh (show Blk W6 w5.heap.size (zka s pv) 59 from hW6▸Blk.new w5 _ _)
     have HL7:=zh (Blk.new W6 (zka s pv) 59)
     have x6:=HX6.out
     have hone:=zWe s hpv.one
     have hn5:(zka s pv).length=5:=rfl
     clear hb hb2 hb12 hb7 hpv ho
     unfold SgV
     go_wp2_with (first
      | ((with_reducible refine zla 59 (.tmp 9) ?_);refine zga rfl 59 (.tmp 9) (.tmp 34) rfl (zka s pv) (old:=zka sg0 (.slice none 0 0)) rfl rfl Tryz.zyc rfl hone ?_;rw [hW6])
      | ((with_reducible refine zqa 59 (.tmp 9) ?_);refine zia rfl 59 (.tmp 9) rfl w5.heap.size (zka s pv) rfl x6 Tryz.underlying59 rfl Tryz.zyc ?_)
      | (at_builtin;refine zTg rfl (.tmp 41) (.tmp 43) rfl I rfl HSG7.out ?c3 rfl HL7.out HPC.out ?c4 ?_))
     case c3=>exact Nat.lt_of_lt_of_le hw0l HBW7.out.size
     case c4=>have:=HLL.out;omega
     intro v' w8 hv' hg'
     have HB8:=zh (HBW7.out.grown hg' (by have:=HBW7.out.size;omega) (fun k hk=>by have:=(HSG.out.lt hk).1;omega))
     obtain ⟨va2,vc2,rfl⟩:=hv'.slice
     have HV:=zh hv'
     clear hv' hg' x6 hW6
     go_wp2
     go_roundw
     case rel=>exact ⟨k+1,hlt,by go_num,_,HV.out,HB8.out,by have:=HLL.out;simp;omega,HN.out⟩
     case measure=>simp [intOf];omega
  ·obtain rfl:k=t.kids.length:=by omega
   have HRes:=zh (show zTd tys [] t.kids=.ok l by rw [heq,List.drop_length];rfl)
   clear heq hs hbw
   go_wp2_with fail
   refine bodyPost_ret (results_tmp3 Tryz.results11 _ _ _) rfl ?_
   rw [HRes.out]
   exact ⟨_,rfl,HSG.out.keep fun b hb hl=>⟨by omega,rfl⟩,HB.out⟩
end Go.Proofs.YtpjnpffcnmgdcaaGreatDoor
namespace Go.Proofs.YtpjnpffcnmgdcaaGreatDoor
set_option maxRecDepth 100000
set_option maxHeartbeats 2000000
open Go.RowKit Go.Maps
theorem zti (p:Prm) (w:World) :
  Calls Tryz.prog 27 #[zzh p,zzh p] w fun e w'=>e=.returned (.bool true)∧Below w.heap.size w w':=by
 unfold zzh
 generalize p.name=nm
 generalize p.mode=md
 generalize p.ty=ty
 go_enter Tryz.func27,Tryz.ntmps27
 go_wp2
 go_ret
 exact ⟨rfl,((Below.refl _ _).alloc (Nat.le_refl _) _).alloc (by simp) _⟩
theorem zvj {w:World} (s:Sg) {S S':Nat→Prop} {pv pv':Value} (h:zQd w s.params S pv) (h':zje w s.params S' pv') :
  Calls Tryz.prog 12 #[SgV s pv,SgV s pv'] w fun e w'=>e=.returned (.bool true)∧Below w.heap.size w w':=by
 obtain ⟨W0,hW0⟩:∃ W,(w.alloc (.cells (zka s pv).toArray 54)).alloc (.cells (zka s pv').toArray 59)=W:=⟨_,rfl⟩
 have HB0:=zh (show Below w.heap.size w W0 from hW0▸(((Below.refl _ _).alloc (Nat.le_refl _) _).alloc (by simp) _))
 have b1:=show Blk W0 w.heap.size (zka s pv) 54 from hW0▸((Blk.new w _ _).alloc _)
 have b2:=show Blk W0 (w.heap.size+1) (zka s pv') 59 from hW0▸(Blk.zTe w _ _ _)
 have HA:=zh (h.form ztf)
 have HA':=zh (h'.form ztf)
 have HH:=zh h
 have HH':=zh h'
 obtain ⟨va,ca,rfl⟩:=h.slice
 obtain ⟨vb,cb,rfl⟩:=h'.slice
 have a0:W0.cell? ⟨w.heap.size,0,none⟩=some (.string s.name):=b1.cell 0
 have a1:W0.cell? ⟨w.heap.size,1,none⟩=some (.slice va s.params.length ca):=b1.cell 1
 have a2:W0.cell? ⟨w.heap.size,2,none⟩=some (.string s.ret.name):=b1.cell 2
 have a3:W0.cell? ⟨w.heap.size,3,none⟩=some (.int .i64 s.ret.mode):=b1.cell 3
 have a4:W0.cell? ⟨w.heap.size,4,none⟩=some (.int .i64 s.ret.ty):=b1.cell 4
 have c0:W0.cell? ⟨w.heap.size+1,0,none⟩=some (.string s.name):=b2.cell 0
 have c1:W0.cell? ⟨w.heap.size+1,1,none⟩=some (.slice vb s.params.length cb):=b2.cell 1
 have c2:W0.cell? ⟨w.heap.size+1,2,none⟩=some (.string s.ret.name):=b2.cell 2
 have c3:W0.cell? ⟨w.heap.size+1,3,none⟩=some (.int .i64 s.ret.mode):=b2.cell 3
 have c4:W0.cell? ⟨w.heap.size+1,4,none⟩=some (.int .i64 s.ret.ty):=b2.cell 4
 have B1:=zh b1
 have B2:=zh b2
 have HSP:=zh (zti s.ret W0)
 unfold zka at hW0
 unfold SgV
 unfold zzh at HSP
 clear h h' b1 b2
 go_enter Tryz.func12,Tryz.ntmps12
 go_upto_region 1 with fail
 try rw [hW0]
 clear hW0
 go_wp2_with fail
 refine HSP.out.mono ?_
 clear HSP
 rintro e w1 ⟨rfl,hb⟩
 have HB1:=zh (HB0.out.trans (hb.mono HB0.out.size))
 have D1:=zh (B1.out.stays hb)
 have D2:=zh (B2.out.stays hb)
 have hcap:s.params.length≤9223372036854775807:=by
  rcases HA.out with ⟨_,e⟩|⟨_,_,e,_,h1,h2,_⟩
  ·rw [e];simp
  ·unfold maxLen at h2;omega
 clear hb a0 a1 a2 a3 a4 c0 c1 c2 c3 c4
 have a1:w1.cell? ⟨w.heap.size,1,none⟩=some (.slice va s.params.length ca):=D1.out.cell 1
 have c1:w1.cell? ⟨w.heap.size+1,1,none⟩=some (.slice vb s.params.length cb):=D2.out.cell 1
 have HNN:=zh (show s.params.length=s.params.length from rfl)
 obtain ⟨n,hn⟩:∃ n,s.params.length=n:=⟨_,rfl⟩
 have HN:=zh hn
 rw [hn] at a1 c1 hcap ⊢
 clear hn
 go_wp2_with fail
 go_loopw [31] (fun i wr=>∃ j:Nat,j≤n∧i=.int .i64 j∧Below w1.heap.size w1 wr) (fun i _=>n-(intOf i).toNat)
 case atStart=>exact ⟨0,by omega,rfl,Below.refl _ _⟩
 case round =>
  obtain ⟨j,hj,rfl,hbi⟩:=hrel
  have HBI:=zh hbi
  clear hbi
  by_cases hlj:j<n
  ·obtain ⟨p,hp⟩:∃ p,s.params[j]?=some p:=⟨_,List.getElem?_eq_getElem (by rw [HN.out];exact hlj)⟩
   obtain ⟨ga,ca2,e1,hga,hca,hcam,hgeta⟩:=(HA.out).resolve_left fun h=>by rw [h.2] at hp;simp at hp
   obtain ⟨gb,cb2,e2,hgb,hcb,hcbm,hgetb⟩:=(HA'.out).resolve_left fun h=>by rw [h.2] at hp;simp at hp
   obtain ⟨rfl,rfl⟩:va=some ⟨ga,0,none⟩∧ca=ca2:=by simpa using e1
   obtain ⟨rfl,rfl⟩:vb=some ⟨gb,0,none⟩∧cb=cb2:=by simpa using e2
   have HBW:=zh (HB1.out.trans (HBI.out.mono HB1.out.size))
   have HRA:=zh (zua (hgeta j p hp) HBW.out hga.2)
   have HRB:=zh (zua (hgetb j p hp) HBW.out hgb.2)
   have HGA:=zh (Nat.lt_of_lt_of_le hga.2 HBW.out.size)
   have HGB:=zh (Nat.lt_of_lt_of_le hgb.2 HBW.out.size)
   have r1:wr.cell? ⟨w.heap.size,1,none⟩=some (.slice (some ⟨ga,0,none⟩) n ca):=(HBI.out.cell (p:=⟨w.heap.size,1,none⟩) (cell_lt a1)).trans a1
   have r2:wr.cell? ⟨w.heap.size+1,1,none⟩=some (.slice (some ⟨gb,0,none⟩) n cb):=(HBI.out.cell (p:=⟨w.heap.size+1,1,none⟩) (cell_lt c1)).trans c1
   have hjn:(j:Int)<(n:Int):=by omega
   clear hgeta hgetb hp e1 e2 a1 c1
   go_upto_region 6 with fail
   refine wp_region_held_drew (S:=fun W=>W.cell? ⟨w.heap.size,1,none⟩=some (.slice (some ⟨ga,0,none⟩) n ca)∧W.cell? ⟨w.heap.size+1,1,none⟩=some (.slice (some ⟨gb,0,none⟩) n cb)∧W.rangeAt ga (j * 3) (zja p)∧W.rangeAt gb (j * 3) (zja p)) (by kernel_rfl) ⟨r1,r2,HRA.out,HRB.out⟩ (fun hS=>?_)
   refine wpAnyH_take (i:=0) (oi:=⟨some 34,_,_,_,_,_⟩) (v:=.pointer (some ⟨w.heap.size,1,none⟩)) rfl (by kernel_rfl) (by kernel_rfl) (by kernel_rfl) (fun _ _ _ h=>h) (Or.inl ⟨by rfl,fun W _=>by go_simp⟩) hS ?_
   try simp only [Act.put,List.setIfInBounds_toArray,List.set_cons_zero,List.set_cons_succ]
   refine wpAnyH_take (i:=1) (oi:=⟨some 35,_,_,_,_,_⟩) (v:=.slice (some ⟨ga,0,none⟩) n ca) rfl (by kernel_rfl) (by kernel_rfl) (by kernel_rfl) (fun _ _ _ h=>h) (Or.inl ⟨by rfl,fun W hW=>by obtain ⟨hc,_,_,_⟩:=hW;go_simp⟩) hS ?_
   try simp only [Act.put,List.setIfInBounds_toArray,List.set_cons_zero,List.set_cons_succ]
   refine wpAnyH_take (i:=2) (oi:=⟨some 36,_,_,_,_,_⟩) (v:=.int .i64 j) rfl (by kernel_rfl) (by kernel_rfl) (by kernel_rfl) (fun _ _ _ h=>h) (Or.inl ⟨by rfl,fun W _=>by go_simp⟩) hS ?_
   try simp only [Act.put,List.setIfInBounds_toArray,List.set_cons_zero,List.set_cons_succ]
   refine wpAnyH_take (i:=3) (oi:=⟨some 37,_,_,_,_,_⟩) (v:=.pointer (some ⟨ga,j * 3,none⟩)) rfl (by kernel_rfl) (by kernel_rfl) (by kernel_rfl) (fun _ _ _ h=>h) (Or.inl ⟨by rfl,fun W _=>by go_simp⟩) hS ?_
   try simp only [Act.put,List.setIfInBounds_toArray,List.set_cons_zero,List.set_cons_succ]
   refine wpAnyH_take (i:=4) (oi:=⟨some 38,_,_,_,_,_⟩) (v:=.agg (zja p).toArray) rfl (by kernel_rfl) (by kernel_rfl) (by kernel_rfl) (fun _ _ _ h=>h) (yieldsIf_load_mid (cs:=zja p) (by rfl) 52 (.tmp 37) rfl ga (j * 3) (by go_simp) _ (fun W hW=>hW.2.2.1) Tryz.underlying52 rfl Tryz.zzb) hS ?_
   try simp only [Act.put,List.setIfInBounds_toArray,List.set_cons_zero,List.set_cons_succ]
   refine wpAnyH_take (i:=5) (oi:=⟨some 39,_,_,_,_,_⟩) (v:=.pointer (some ⟨w.heap.size+1,1,none⟩)) rfl (by kernel_rfl) (by kernel_rfl) (by kernel_rfl) (fun _ _ _ h=>h) (Or.inl ⟨by rfl,fun W _=>by go_simp⟩) hS ?_
   try simp only [Act.put,List.setIfInBounds_toArray,List.set_cons_zero,List.set_cons_succ]
   refine wpAnyH_take (i:=6) (oi:=⟨some 40,_,_,_,_,_⟩) (v:=.slice (some ⟨gb,0,none⟩) n cb) rfl (by kernel_rfl) (by kernel_rfl) (by kernel_rfl) (fun _ _ _ h=>h) (Or.inl ⟨by rfl,fun W hW=>by obtain ⟨_,hc,_,_⟩:=hW;go_simp⟩) hS ?_
   try simp only [Act.put,List.setIfInBounds_toArray,List.set_cons_zero,List.set_cons_succ]
   refine wpAnyH_take (i:=7) (oi:=⟨some 41,_,_,_,_,_⟩) (v:=.int .i64 j) rfl (by kernel_rfl) (by kernel_rfl) (by kernel_rfl) (fun _ _ _ h=>h) (Or.inl ⟨by rfl,fun W _=>by go_simp⟩) hS ?_
   try simp only [Act.put,List.setIfInBounds_toArray,List.set_cons_zero,List.set_cons_succ]
   refine wpAnyH_take (i:=8) (oi:=⟨some 42,_,_,_,_,_⟩) (v:=.pointer (some ⟨gb,j * 3,none⟩)) rfl (by kernel_rfl) (by kernel_rfl) (by kernel_rfl) (fun _ _ _ h=>h) (Or.inl ⟨by rfl,fun W _=>by go_simp⟩) hS ?_
   try simp only [Act.put,List.setIfInBounds_toArray,List.set_cons_zero,List.set_cons_succ]
   refine wpAnyH_take (i:=9) (oi:=⟨some 43,_,_,_,_,_⟩) (v:=.agg (zja p).toArray) rfl (by kernel_rfl) (by kernel_rfl) (by kernel_rfl) (fun _ _ _ h=>h) (yieldsIf_load_mid (cs:=zja p) (by rfl) 57 (.tmp 42) rfl gb (j * 3) (by go_simp) _ (fun W hW=>hW.2.2.2) Tryz.underlying57 rfl Tryz.zUa) hS ?_
   try simp only [Act.put,List.setIfInBounds_toArray,List.set_cons_zero,List.set_cons_succ]
   refine AnyH.only (i:=10) (o:=⟨some 44,_,_,_,_,_⟩) (by kernel_rfl) rfl (by rfl) (fun K hK=>?_)
   go_simp
   refine (zti p _).mono ?_
   rintro e w5 ⟨rfl,hb⟩
   have HB5:=zh (HBI.out.drew.trans (hb.mono HBI.out.drew.size))
   have hS2:w5.cell? ⟨w.heap.size,1,none⟩=some (.slice (some ⟨ga,0,none⟩) n ca)∧w5.cell? ⟨w.heap.size+1,1,none⟩=some (.slice (some ⟨gb,0,none⟩) n cb)∧w5.rangeAt ga (j * 3) (zja p)∧w5.rangeAt gb (j * 3) (zja p):=⟨(hb.cell (p:=⟨w.heap.size,1,none⟩) (cell_lt r1)).trans r1,(hb.cell (p:=⟨w.heap.size+1,1,none⟩) (cell_lt r2)).trans r2,zua (w:=wr.drew) HRA.out hb HGA.out,zua (w:=wr.drew) HRB.out hb HGB.out⟩
   clear hb
   refine hK.out _ _ hS2 ?_
   clear hK K hS
   try simp only [Act.put,List.setIfInBounds_toArray,List.set_cons_zero,List.set_cons_succ]
   refine wpAnyH_take (i:=11) (oi:=⟨some 45,_,_,_,_,_⟩) (v:=.bool false) rfl (by kernel_rfl) (by kernel_rfl) (by kernel_rfl) (fun _ _ _ h=>h) (Or.inl ⟨by rfl,fun W _=>by go_simp⟩) hS2 ?_
   try simp only [Act.put,List.setIfInBounds_toArray,List.set_cons_zero,List.set_cons_succ]
   refine wpAnyH_done (by kernel_rfl) ?_ _
   clear hS2
   go_wp2_with fail
   go_roundw
   case rel=>exact ⟨j+1,by omega,by go_num,HB5.out⟩
   case measure=>simp [intOf];omega
  ·obtain rfl:j=n:=by omega
   have HB9:=zh (HB1.out.trans (HBI.out.mono HB1.out.size))
   go_wp2_with fail
   go_ret
   exact ⟨rfl,HB9.out⟩
end Go.Proofs.YtpjnpffcnmgdcaaGreatDoor
namespace Go.Proofs.YtpjnpffcnmgdcaaGreatDoor
open Go.RowKit Go.Maps
def znb (s:ByteArray) (k:Int):Ty:=⟨s,k,0,[],[]⟩
def zDb (ns:List ByteArray) (ks:List Int) (n:Nat):List Ty:=(List.range n).map fun i=>znb (ns[i]?.getD ⟨#[]⟩) (ks[i]?.getD 0)
theorem zmf (ns:List ByteArray) (ks:List Int) (n:Nat):zDb ns ks (n+1)=zDb ns ks n++[znb (ns[n]?.getD ⟨#[]⟩) (ks[n]?.getD 0)]:=by
 simp only [zDb,List.range_succ,List.map_append,List.map_cons,List.map_nil]
theorem zbd (ns:List ByteArray) (ks:List Int) (n:Nat):(zDb ns ks n).length=n:=by simp only [zDb,List.length_map,List.length_range]
theorem znh (ns:List ByteArray) (ks:List Int) (n:Nat) (h:∀ s∈ns,s.size≤maxLen):∀ t∈zDb ns ks n,t.name.size≤maxLen:=by
 intro t ht
 simp only [zDb,List.mem_map] at ht
 obtain ⟨i,_,rfl⟩:=ht
 simp only [znb]
 cases hi:ns[i]? with
 | none=>exact Nat.zero_le _
 | some s=>simpa using h s (List.mem_of_getElem? hi)
def zEb (t:Ty):List Value:=[.string t.name,.int .i64 t.sort,.int .i64 0,.slice none 0 0,.slice none 0 0]
abbrev zde:=RAt 71 5 zEb
theorem zPd (t:Ty):(zEb t).length=5:=rfl
theorem Tryz.zOj:∃ i z,zqe Tryz.prog 39 71 5 80 i z:=by
 have h:(Tryz.prog.info? 71).map (fun i=>(i.zero,i.size,i.bytes))=some (some (.agg #[.string ⟨#[]⟩,.int .i64 0,.int .i64 0,.slice none 0 0,.slice none 0 0]),5,80):=by kernel_rfl
 obtain ⟨i0,hi,hz0,hz1,hz2⟩:=info_parts h
 exact ⟨i0,_,Tryz.underlying39,hi,hz0,hz1,hz2,rfl⟩
theorem zde.tys {w:World} {ts:List Ty} {S:Nat→Prop} {v:Value} (h:zde w ts S v):∃ A c,v=.slice A ts.length c∧ts.length≤9223372036854775807∧zph w A ts:=by
 rcases RAt.form zPd h with ⟨rfl,rfl⟩|⟨g,cap,rfl,⟨_,hg⟩,hn,hm,hf⟩
 ·exact ⟨none,0,rfl,by simp,fun h0=>by simp at h0⟩
 ·exact ⟨_,_,rfl,by unfold maxLen at hm;omega,fun _=>⟨g,rfl,hg,fun k t hk=>⟨_,_,_,hf k t hk⟩⟩⟩
theorem HandAt.new (w:World) (s:ByteArray) (k:Int) (S:Nat→Prop):zPk w (znb s k) S (.slice none 0 0) (.slice none 0 0):=⟨RAt.nil _ _,RAt.nil _ _⟩
end Go.Proofs.YtpjnpffcnmgdcaaGreatDoor
namespace Go.Proofs.YtpjnpffcnmgdcaaGreatDoor
open Go.RowKit
def Con (t:Tok):Prop:=t.kind=1∨t.kind=3∨0<t.text.size
theorem zKu {t:Tok} {s:ByteArray} (h:isT t s=true) (hs:0<s.size):Con t:=by
 refine .inr (.inr ?_)
 have h1:=beq_iff_eq.1 (show (t.text.toList == s.toList)=true from h)
 rw [ByteArray.toList_eq,ByteArray.toList_eq] at h1
 have h2:=congrArg List.length h1
 have e1:t.text.data.toList.length=t.text.size:=Array.length_toList
 have e2:s.data.toList.length=s.size:=Array.length_toList
 omega
def Past {α:Type} (x:List Tok) (r:R α):Prop :=
 match r with
 | .ok q=>∃ d,x=d++q.2∧∀ t∈d,Con t
 | .error e=>(∃ t∈x,e.1=t.place∧e.2≠0)∨∀ t∈x,Con t
section
variable {α β:Type} {x l d:List Tok}
theorem Past.ok (a:α) (l:List Tok):Past l (.ok (a,l):R α):=⟨[],rfl,by simp⟩
theorem Past.trans {r:R α} (hx:x=d++l) (hd:∀ t∈d,Con t) (h:Past l r):Past x r:=by
 subst hx
 cases r with
 | ok q =>
  obtain ⟨d2,h1,h2⟩:=h
  refine ⟨d++d2,by rw [h1,List.append_assoc],fun t ht=>?_⟩
  rcases List.mem_append.1 ht with ht|ht
  ·exact hd t ht
  ·exact h2 t ht
 | error e =>
  rcases h with ⟨t,ht,he⟩|h
  ·exact .inl ⟨t,List.mem_append_right _ ht,he⟩
  ·refine .inr fun t ht=>?_
   rcases List.mem_append.1 ht with ht|ht
   ·exact hd t ht
   ·exact h t ht
theorem Past.bd {r:R α} {f:α→List Tok→R β} (hr:Past x r) (hf:∀ a l,r=.ok (a,l)→l.length≤x.length→Past l (f a l)):Past x (bd r f):=by
 cases hq:r with
 | error e=>rw [hq] at hr;exact hr
 | ok q =>
  obtain ⟨a,l⟩:=q
  rw [hq] at hr
  obtain ⟨d,h1,h2⟩:=hr
  exact Past.trans h1 h2 (hf a l hq (by rw [h1];simp))
theorem Past.cond {b:Bool} {r r':R α} (hx:b=true→Past x r) (hy:b=false→Past x r'):Past x (bif b then r else r'):=by
 cases b
 ·exact hy rfl
 ·exact hx rfl
theorem Past.sum {s:Option (Int × Int)} {a:R T} {f:Int→Int→R T} (ha:s=none→Past x a) (hf:∀ k v,s=some (k,v)→Past x (f k v)):Past x (zKl s a f):=by
 cases s with
 | none=>exact ha rfl
 | some q=>exact hf q.1 q.2 rfl
theorem Past.tail {r:R α} (hc:0<x.length→Con (hdT x)) (hr:Past x.tail r):Past x r:=by
 cases x with
 | nil=>exact hr
 | cons t y=>exact Past.trans (d:=[t]) rfl (fun u hu=>by obtain rfl:u=t:=List.mem_singleton.1 hu;exact hc (by simp)) hr
theorem Past.take {r:R α} {s:ByteArray} (h:isT (hdT x) s=true) (hs:0<s.size) (hr:Past x.tail r):Past x r:=Past.tail (fun _=>zKu h hs) hr
theorem Past.hd (x:List Tok) (e:Int) (he:e≠0):Past x (.error ((hdT x).place,e):R α):=by
 cases x with
 | nil=>exact .inr (by simp)
 | cons t y=>exact .inl ⟨t,by simp,rfl,he⟩
end
structure zPs (ρ:Nat→Nat→Prop) (t t':Tok):Prop where
 kind:t.kind=t'.kind
 text:t.text=t'.text
 num:t.num=t'.num
 place:ρ t.place t'.place
inductive Al (ρ:Nat→Nat→Prop):List Tok→List Tok→Prop where
 | nil:Al ρ [] []
 | cons {t t':Tok} {c c':List Tok}:zPs ρ t t'→Al ρ c c'→Al ρ (t :: c) (t' :: c')
mutual
def TR (ρ:Nat→Nat→Prop):T→T→Prop
 | .mk k s n p ks,u=>k=u.kind∧s=u.text∧n=u.num∧ρ p u.place∧TsR ρ ks u.kids
def TsR (ρ:Nat→Nat→Prop):List T→List T→Prop
 | [],us=>us=[]
 | t :: ts,us=>∃ u us',us=u :: us'∧TR ρ t u∧TsR ρ ts us'
end
section
variable {ρ:Nat→Nat→Prop}
theorem TR.mk {k:Int} {s:ByteArray} {n:Int} {p p':Nat} {ks ks':List T} (hp:ρ p p') (hk:TsR ρ ks ks'):TR ρ (.mk k s n p ks) (.mk k s n p' ks'):=by unfold TR;exact ⟨rfl,rfl,rfl,hp,hk⟩
theorem TsR.nil:TsR ρ [] []:=by unfold TsR;rfl
theorem TsR.cons {t u:T} {ts us:List T} (h:TR ρ t u) (hs:TsR ρ ts us):TsR ρ (t :: ts) (u :: us):=by unfold TsR;exact ⟨u,us,rfl,h,hs⟩
theorem TsR.one {t u:T} (h:TR ρ t u):TsR ρ [t] [u]:=.cons h .nil
theorem TsR.two {t u t' u':T} (h:TR ρ t u) (h':TR ρ t' u'):TsR ρ [t,t'] [u,u']:=.cons h (.cons h' .nil)
theorem TsR.append:∀ {a a' b b':List T},TsR ρ a a'→TsR ρ b b'→TsR ρ (a++b) (a'++b')
 | [],a',b,b',h,hb=>by unfold TsR at h;subst h;exact hb
 | t :: ts,a',b,b',h,hb=>by
  unfold TsR at h
  obtain ⟨u,us,rfl,h1,h2⟩:=h
  exact .cons h1 (TsR.append h2 hb)
theorem TR.text {t u:T} (h:TR ρ t u):t.text=u.text:=by cases t;unfold TR at h;exact h.2.1
theorem TR.kind {t u:T} (h:TR ρ t u):t.kind=u.kind:=by cases t;unfold TR at h;exact h.1
theorem TR.num {t u:T} (h:TR ρ t u):t.num=u.num:=by cases t;unfold TR at h;exact h.2.2.1
theorem TR.place {t u:T} (h:TR ρ t u):ρ t.place u.place:=by cases t;unfold TR at h;exact h.2.2.2.1
theorem TR.kids {t u:T} (h:TR ρ t u):TsR ρ t.kids u.kids:=by cases t;unfold TR at h;exact h.2.2.2.2
theorem TR.of {t u:T} (h1:t.kind=u.kind) (h2:t.text=u.text) (h3:t.num=u.num) (h4:ρ t.place u.place) (h5:TsR ρ t.kids u.kids):TR ρ t u:=by cases t;unfold TR;exact ⟨h1,h2,h3,h4,h5⟩
theorem TR.zkb {t u:T} (h:TR ρ t u) (v:Int):TR ρ (t.zkb v) (u.zkb v):=by
 cases t;cases u
 exact TR.of h.kind h.text rfl h.place h.kids
theorem TR.snoc {t u b b':T} (h:TR ρ t u) (hb:TR ρ b b'):TR ρ (t.snoc b) (u.snoc b'):=by
 cases t;cases u
 exact TR.of h.kind h.text h.num h.place (h.kids.append (.one hb))
def Sim {α β:Type} (ρ:Nat→Nat→Prop) (cl:Bool) (V:α→β→Prop) (c c' x x':List Tok) (r:R α) (r':R β):Prop :=
 (∃ a a' d k d' k',r=.ok (a,k++x)∧r'=.ok (a',k'++x')∧V a a'∧c=d++k∧c'=d'++k'∧Al ρ k k'∧∀ t∈d,Con t) ∨
 (∃ p p' e,r=.error (p,e)∧r'=.error (p',e)∧ρ p p'∧∃ t∈c,p=t.place) ∨
 ((∀ t∈c,Con t)∧Past x r∧Past x' r'∧(cl=true→(∀ t∈x,¬ Con t)→∃ e,r=.error e))
variable {α β γ δ:Type} {V:α→β→Prop} {W:γ→δ→Prop} {c c' x x':List Tok} {r:R α} {r':R β} {cl cl1:Bool}
theorem Sim.bdc {f:α→List Tok→R γ} {f':β→List Tok→R δ} (h:Sim ρ cl1 V c c' x x' r r')
  (hf:∀ a a' k k',r=.ok (a,k++x)→r'=.ok (a',k'++x')→k.length≤c.length→k'.length≤c'.length→V a a'→Al ρ k k'→Sim ρ cl W k k' x x' (f a (k++x)) (f' a' (k'++x')))
  (hp:∀ a l,r=.ok (a,l)→l.length≤x.length→Past l (f a l)) (hp':∀ a l,r'=.ok (a,l)→l.length≤x'.length→Past l (f' a l))
  (hc:cl=true→∀ a l,(∀ t∈l,¬ Con t)→∃ e,f a l=.error e):Sim ρ cl W c c' x x' (bd r f) (bd r' f'):=by
 rcases h with ⟨a,a',d,k,d',k',e1,e2,hv,hd,hd',hal,hcon⟩|⟨p,p',e,e1,e2,hrho,hm⟩|⟨hcon,h1,h2,h3⟩
 ·have h4:=hf a a' k k' e1 e2 (by rw [hd];simp) (by rw [hd'];simp) hv hal
  rw [zpa e1,zpa e2]
  rcases h4 with ⟨b,b',m,q,m',q',g1,g2,hw,hm,hm',hq,hmc⟩|⟨p,p',e,g1,g2,hrho,t,ht,he⟩|⟨g1,g2,g3,g4⟩
  ·refine .inl ⟨b,b',d++m,q,d'++m',q',g1,g2,hw,by rw [hd,hm,List.append_assoc],by rw [hd',hm',List.append_assoc],hq,fun t ht=>?_⟩
   rcases List.mem_append.1 ht with ht|ht
   ·exact hcon t ht
   ·exact hmc t ht
  ·exact .inr (.inl ⟨p,p',e,g1,g2,hrho,t,by rw [hd];exact List.mem_append_right _ ht,he⟩)
  ·refine .inr (.inr ⟨fun t ht=>?_,g2,g3,g4⟩)
   rw [hd] at ht
   rcases List.mem_append.1 ht with ht|ht
   ·exact hcon t ht
   ·exact g1 t ht
 ·exact .inr (.inl ⟨p,p',e,by rw [zya e1],by rw [zya e2],hrho,hm⟩)
 ·refine .inr (.inr ⟨hcon,h1.bd hp,h2.bd hp',fun hcl hx=>?_⟩)
  cases hr:r with
  | error e=>exact ⟨e,rfl⟩
  | ok q =>
   obtain ⟨a,l⟩:=q
   rw [hr] at h1
   obtain ⟨d,hd,_⟩:=h1
   exact hc hcl a l fun t ht=>hx t (by rw [hd];exact List.mem_append_right _ ht)
theorem Sim.bd {f:α→List Tok→R γ} {f':β→List Tok→R δ} (h:Sim ρ cl1 V c c' x x' r r')
  (hf:∀ a a' k k',r=.ok (a,k++x)→r'=.ok (a',k'++x')→k.length≤c.length→k'.length≤c'.length→V a a'→Al ρ k k'→Sim ρ false W k k' x x' (f a (k++x)) (f' a' (k'++x')))
  (hp:∀ a l,r=.ok (a,l)→l.length≤x.length→Past l (f a l)) (hp':∀ a l,r'=.ok (a,l)→l.length≤x'.length→Past l (f' a l)):Sim ρ false W c c' x x' (bd r f) (bd r' f') :=
 Sim.bdc h hf hp hp' fun h=>by cases h
theorem Sim.ok {a:α} {a':β} (h:V a a') (hal:Al ρ c c'):Sim ρ cl V c c' x x' (.ok (a,c++x)) (.ok (a',c'++x')) :=
 .inl ⟨a,a',[],c,[],c',rfl,rfl,h,rfl,rfl,hal,by simp⟩
theorem Sim.take {t t':Tok} (hc:Con t) (h:Sim ρ cl V c c' x x' r r'):Sim ρ cl V (t :: c) (t' :: c') x x' r r':=by
 rcases h with ⟨a,a',d,k,d',k',e1,e2,hv,hd,hd',hal,hcon⟩|⟨p,p',e,e1,e2,hrho,u,hu,hp⟩|⟨hcon,h1,h2,h3⟩
 ·refine .inl ⟨a,a',t :: d,k,t' :: d',k',e1,e2,hv,by rw [hd];rfl,by rw [hd'];rfl,hal,fun u hu=>?_⟩
  rcases List.mem_cons.1 hu with rfl|hu
  ·exact hc
  ·exact hcon u hu
 ·exact .inr (.inl ⟨p,p',e,e1,e2,hrho,u,List.mem_cons_of_mem _ hu,hp⟩)
 ·refine .inr (.inr ⟨fun u hu=>?_,h1,h2,h3⟩)
  rcases List.mem_cons.1 hu with rfl|hu
  ·exact hc
  ·exact hcon u hu
theorem Sim.err {t t':Tok} (ht:zPs ρ t t') (e:Int):Sim ρ cl V (t :: c) (t' :: c') x x' (.error (t.place,e)) (.error (t'.place,e)) :=
 .inr (.inl ⟨t.place,t'.place,e,rfl,rfl,ht.place,t,by simp,rfl⟩)
theorem Sim.nil (h:Past x r) (h':Past x' r'):Sim ρ false V [] [] x x' r r':=.inr (.inr ⟨by simp,h,h',fun h=>by cases h⟩)
theorem Sim.cond {b b':Bool} {r1 r2:R α} {r1' r2':R β} (hb:b=b') (hx:b=true→Sim ρ cl V c c' x x' r1 r1') (hy:b=false→Sim ρ cl V c c' x x' r2 r2'):Sim ρ cl V c c' x x' (bif b then r1 else r2) (bif b' then r1' else r2'):=by
 subst hb
 cases b
 ·exact hy rfl
 ·exact hx rfl
theorem Sim.sum {W:T→T→Prop} {s s':Option (Int × Int)} {a a':R T} {f f':Int→Int→R T} (hs:s=s') (ha:s=none→Sim ρ cl W c c' x x' a a') (hf:∀ k v,s=some (k,v)→Sim ρ cl W c c' x x' (f k v) (f' k v)):Sim ρ cl W c c' x x' (zKl s a f) (zKl s' a' f'):=by
 subst hs
 cases s with
 | none=>exact ha rfl
 | some q=>exact hf q.1 q.2 rfl
theorem Sim.weak (h:Sim ρ cl V c c' x x' r r'):Sim ρ false V c c' x x' r r':=by
 rcases h with h|h|⟨h1,h2,h3,_⟩
 ·exact .inl h
 ·exact .inr (.inl h)
 ·exact .inr (.inr ⟨h1,h2,h3,fun h=>by cases h⟩)
theorem zPs.is {t t':Tok} (h:zPs ρ t t') (s:ByteArray):isT t s=isT t' s:=by unfold isT;rw [h.text]
theorem zPs.kd {t t':Tok} (h:zPs ρ t t') (k:Nat):(t.kind == k)=(t'.kind == k):=by rw [h.kind]
theorem zPs.sum {t t':Tok} (h:zPs ρ t t') (l l':List Tok):sumP (t :: l)=sumP (t' :: l'):=by
 show (bif isT t (bs [43]) then _ else bif isT t (bs [45]) then _ else _)=(bif isT t' (bs [43]) then _ else bif isT t' (bs [45]) then _ else _)
 rw [h.is,h.is]
end
end Go.Proofs.YtpjnpffcnmgdcaaGreatDoor
namespace Go.Proofs.YtpjnpffcnmgdcaaGreatDoor
section
open Go.RowKit
section
variable {P:Program} {ops:Array Oper} {Q:Exit→Act→World→Prop} {md:Region.Mode} {S:World→Prop}
theorem AnyH.one {i:Nat} {o:Oper} {fuel:Nat} {listed:Array Bool} {a:Act} {w:World} (hr:Region.ready md ops listed=[i]) (ho:ops[i]?=some o) (hw:Region.wanted o (yielded ops a.tmps)=true)
  (h:∀ K:Act→World→Prop,Shut (∀ a w,S w→wpAnyH P md ops Q S fuel (listed.setIfInBounds i true) a w→K a w)→o.wp P a w K Q):wpAnyH P md ops Q S (fuel+1) listed a w:=by
 refine ⟨(fun h0=>by rw [hr] at h0;cases h0),fun j hj=>?_⟩
 rw [hr] at hj
 obtain rfl:j=i:=by simpa using hj
 refine wpOp_step ho fun K' hK=>?_
 rw [if_pos hw]
 exact h K' fun a w hS hA=>hK a w ⟨hS,hA⟩
end
mutual
def zCm (b:Bool):T→T→Bool
 | .mk k s n p ks,u=>!(k != u.kind) && (s.toList == u.text.toList && (!(n != u.num) && (!(b && (p != u.place)) && (!(ks.length != u.kids.length) && zwf b ks u.kids))))
def zwf (b:Bool):List T→List T→Bool
 | [],_=>true
 | t :: ts,us=>match us with
  | []=>false
  | u :: us'=>zCm b t u && zwf b ts us'
end
theorem zvm (b:Bool) (t u:T) (ts us:List T):zwf b (t :: ts) (u :: us)=(zCm b t u && zwf b ts us):=by rw [zwf]
mutual
theorem TR.alike {ρ:Nat→Nat→Prop} {b:Bool} (hb:b=true→∀ p q,ρ p q→p=q):∀ {t u:T},TR ρ t u→zCm b t u=true
 | .mk k s n p ks,u,h=>by
  unfold TR at h
  obtain ⟨h1,h2,h3,h4,h5⟩:=h
  have h6:ks.length=u.kids.length:=TsR.len h5
  have h7:zwf b ks u.kids=true:=TsR.alike hb h5
  rw [zCm,h7,← h1,← h2,← h3,← h6]
  cases b
  ·simp
  ·rw [← hb rfl _ _ h4];simp
theorem TsR.alike {ρ:Nat→Nat→Prop} {b:Bool} (hb:b=true→∀ p q,ρ p q→p=q):∀ {ts us:List T},TsR ρ ts us→zwf b ts us=true
 | [],us,h=>by rw [zwf]
 | t :: ts,us,h=>by
  unfold TsR at h
  obtain ⟨u,us',rfl,h1,h2⟩:=h
  rw [zvm,TR.alike hb h1,TsR.alike hb h2]
  rfl
theorem TsR.len {ρ:Nat→Nat→Prop}:∀ {ts us:List T},TsR ρ ts us→ts.length=us.length
 | [],us,h=>by unfold TsR at h;rw [h]
 | t :: ts,us,h=>by
  unfold TsR at h
  obtain ⟨u,us',rfl,_,h2⟩:=h
  simp [TsR.len h2]
end
mutual
theorem TR.size {ρ:Nat→Nat→Prop}:∀ {t u:T},TR ρ t u→t.size=u.size
 | .mk k s n p ks,u,h=>by
  unfold TR at h
  obtain ⟨h1,h2,h3,h4,h5⟩:=h
  cases u
  rw [size_mk,size_mk,TsR.sizes h5]
  rfl
theorem TsR.sizes {ρ:Nat→Nat→Prop}:∀ {ts us:List T},TsR ρ ts us→Go.Proofs.YtpjnpffcnmgdcaaGreatDoor.sizes ts=Go.Proofs.YtpjnpffcnmgdcaaGreatDoor.sizes us
 | [],us,h=>by unfold TsR at h;rw [h]
 | t :: ts,us,h=>by
  unfold TsR at h
  obtain ⟨u,us',rfl,h1,h2⟩:=h
  rw [zBa,zBa,TR.size h1,TsR.sizes h2]
end
end
section
open Go.RowKit
end
section
open Go.RowKit
end
section
open Go.RowKit
theorem Al.append {ρ:Nat→Nat→Prop} {a a' b b':List Tok} (h:Al ρ a a') (h':Al ρ b b'):Al ρ (a++b) (a'++b'):=by
 induction h with
 | nil=>exact h'
 | cons ht _ ih=>exact .cons ht ih
theorem Al.length {ρ:Nat→Nat→Prop} {a a':List Tok} (h:Al ρ a a'):a.length=a'.length:=by
 induction h with
 | nil=>rfl
 | cons _ _ ih=>simp [ih]
end
section
open Go.RowKit
theorem Al.refl:∀ c:List Tok,Al Eq c c
 | []=>.nil
 | _ :: c=>.cons ⟨rfl,rfl,rfl,rfl⟩ (Al.refl c)
end
section
open Go.RowKit
theorem Al.true:∀ c:List Tok,Al (fun _ _=>True) c c
 | []=>.nil
 | _ :: c=>.cons ⟨rfl,rfl,rfl,trivial⟩ (Al.true c)
end
section
open Go.RowKit
end
end Go.Proofs.YtpjnpffcnmgdcaaGreatDoor
