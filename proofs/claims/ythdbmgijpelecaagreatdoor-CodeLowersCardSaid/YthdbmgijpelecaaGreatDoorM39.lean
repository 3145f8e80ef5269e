/- Proved here: for every text that lychgatelaw07.CodeLowers is called with, in every memory in which lex's tables stand as the program's text lays them, the call returns true and the text reads as before. Conditions: the package-level tables lex.keys, lex.blanks and lex.pairs hold what their initialisers lay (the card ties them to the program's text). -/
import Derived.Test.YthdbmgijpelecaaGreatDoorM19
import Derived.Test.YthdbmgijpelecaaGreatDoorM20
import Derived.Test.YthdbmgijpelecaaGreatDoorM02
import Derived.Test.YthdbmgijpelecaaGreatDoorM36
import Derived.Test.YthdbmgijpelecaaGreatDoorM31
import Derived.Test.YthdbmgijpelecaaGreatDoorM37
import Derived.Test.YthdbmgijpelecaaGreatDoorM38
namespace Go.Proofs.YthdbmgijpelecaaGreatDoor
set_option maxRecDepth 100000
set_option maxHeartbeats 4000000
open Go.ChangeShapes Go.WideShapes Go.ChangeAt Go.RowKit
structure zQq (w:World) (r:T) (g1 g2:Nat) (v1 v2:Value) (S1 S2:Nat→Prop) (W:World):Prop where
 below:Below w.heap.size w W
 tabs:Tabs W
 one:Blk W g1 (zaa r v1) 25
 two:Blk W g2 (zaa r v2) 34
 k1:KAt 25 W r.kids S1 v1
 k2:KAt 34 W r.kids S2 v2
theorem zQq.call {w W W':World} {r:T} {g1 g2:Nat} {v1 v2:Value} {S1 S2:Nat→Prop} (h:zQq w r g1 g2 v1 v2 S1 S2 W) (hb:Below W.heap.size W W'):zQq w r g1 g2 v1 v2 S1 S2 W' :=
 ⟨h.below.trans (hb.mono h.below.size),h.tabs.below hb h.tabs.size,h.one.below hb,h.two.below hb,h.k1.below hb,h.k2.below hb⟩
def LpRel (w:World) (n:Nat) (g:Nat) (i:Value) (wr:World):Prop:=∃ k:Nat,k≤n∧n≤k+g∧i=.int .i64 k∧Below w.heap.size w wr
theorem zdj (s:ByteArray) (w:World) (hs:s.size≤maxLen) (ht:Tabs w) :
  Calls Tryz.prog 9 #[.string s] w fun e w'=>e=.returned (.bool true)∧Below w.heap.size w w':=by
 have HT:=zh ht
 have HGD:=zh (zon s)
 have HWH:=zh (zwi s)
 have HHS:=zh hs
 go_enter Tryz.func9,Tryz.ntmps9
 go_wp2_with fail
 refine (parse_any s w hs ht).mono ?_
 rintro e w1 ⟨v1,rfl,hk1,hb1⟩
 have HT1:=zh (ht.below hb1 ht.size)
 have HK1:=zh hk1
 have HB1:=zh hb1
 clear hk1 hb1 ht
 unfold zma
 go_wp2_with ((with_reducible refine zla 25 (.tmp 3) ?_);refine zga rfl 25 (.tmp 3) (.tmp 15) rfl (zaa (zFb s).1 v1) (old:=zba) rfl rfl Tryz.zha rfl (zda _ _ HK1.out.one) ?_)
 refine (zsn s _ HHS.out).mono ?_
 rintro e w2 ⟨v2,rfl,hk2,hb2⟩
 have HO2:=zh hk2.one
 have HP:=zh (show zQq w (zFb s).1 w1.heap.size w2.heap.size v1 v2 _ _ (w2.alloc (.cells (zaa (zFb s).1 v2).toArray 34)) from by
  have hz1:=HB1.out.size
  have hN:Blk (w1.alloc (.cells (zaa (zFb s).1 v1).toArray 25)) w1.heap.size (zaa (zFb s).1 v1) 25:=Blk.new w1 _ _
  have hB2:Below w.heap.size w w2:=(HB1.out.alloc hz1 _).trans (hb2.mono (by simp;omega))
  exact ⟨hB2.alloc hB2.size _,(HT1.out.alloc.below hb2 HT1.out.alloc.size).alloc,(hN.below hb2).alloc _,Blk.new w2 _ _,((HK1.out.alloc _).below hb2).alloc _,hk2.alloc _⟩)
 clear hk2 hb2 HK1 HB1 HT1
 unfold zma
 go_wp2_with ((with_reducible refine zla 34 (.tmp 6) ?_);refine zga rfl 34 (.tmp 6) (.tmp 21) rfl (zaa (zFb s).1 v2) (old:=zba) rfl rfl Tryz.zia rfl (zda _ _ HO2.out) ?_)
 generalize w2.alloc (.cells (zaa (zFb s).1 v2).toArray 34)=W at *
 refine (zIj _ HP.out.tabs).mono ?_
 rintro e w3 ⟨rfl,hb3⟩
 have HP3:=zh (HP.out.call hb3)
 clear hb3 HP HO2
 generalize zFb s=q at HGD HWH HP3
 obtain ⟨t,p,c⟩:=q
 have HG:=zh (show t.size≤4096 from HGD.out.2)
 have HW:=zh (show t.whole from HWH.out.2)
 clear HGD HWH
 have hts:t.size=1+sizes t.kids:=by cases t;rw [size_mk];rfl
 have hkl:t.kids.length≤4096:=by have h1:=zMc t.kids;have h2:=HG.out;omega
 have HTS:=zh hts
 have HG1:=zh (show w1.heap.size<w3.heap.size from HP3.out.one.lt)
 have HG2:=zh (show w2.heap.size<w3.heap.size from HP3.out.two.lt)
 clear hts
 dsimp only at HP3
 by_cases hc:c=0
 ·subst hc
  rcases HP3.out.k1.form with ⟨hv1,hnil⟩|⟨g,cap,hv1,hg,hcap,hcm,hget⟩
  ·have c4:w3.cell? ⟨w1.heap.size,4,none⟩=some (.slice none 0 0):=by have h:w3.cell? ⟨w1.heap.size,4,none⟩=some v1:=HP3.out.one.cell 4;rw [hv1] at h;exact h
   clear hnil hkl hv1
   go_wp2_with fail
   refine wp_loop_rounds 1 ?_
   rw [rounds_succ]
   go_wp2_with fail
   go_ret
   exact ⟨rfl,HP3.out.below⟩
  ·have c4:w3.cell? ⟨w1.heap.size,4,none⟩=some (.slice (some ⟨g,0,none⟩) t.kids.length cap):=by have h:w3.cell? ⟨w1.heap.size,4,none⟩=some v1:=HP3.out.one.cell 4;rw [hv1] at h;exact h
   have HGT:=zh hget
   have HCAP:=zh hcap
   clear hget hcap hv1
   unfold maxLen at hcm
   go_wp2_with fail
   go_loopg [34] t.kids.length (fun gk i wr=>LpRel w3 t.kids.length gk i wr)
   case atStart=>exact ⟨0,by omega,by omega,rfl,Below.refl _ _⟩
   case round =>
    obtain ⟨k,hk,hgk,rfl,hbel⟩:=hrel
    have HBW:=zh hbel
    have hzw:=hbel.size
    clear hbel
    by_cases hlt:k<t.kids.length
    ·have hne:=List.getElem?_eq_getElem hlt
     obtain ⟨u,hr,hT⟩:=HGT.out k t.kids[k] hne
     rcases HP3.out.k2.form with ⟨_,hn2⟩|⟨gR,capR,hv2,hgR,hcapR,hcmR,hgetR⟩
     ·rw [hn2] at hlt;simp at hlt
     obtain ⟨u2,hr2,hT2⟩:=hgetR k t.kids[k] hne
     have hks:=zXf hne
     generalize t.kids[k]=tk at hr hT hne hks hr2 hT2
     have HR:=zh (zpa hr HBW.out hg)
     have HTL:=zh hT
     have HTK:=zh (hT.below HBW.out)
     have HTW:=zh (show tk.whole from zMd (zFe.1 HW.out).2 (List.mem_of_getElem? hne))
     have HTZ:=zh (show tk.size≤4096 from by have:=HTS.out;have:=HG.out;omega)
     have hcap:=HCAP.out
     have HBN:=zh (HBW.out.alloc hzw (.cells (zaa tk u).toArray 25))
     have HTWO:=zh (show ∀ W,Below w3.heap.size w3 W→Blk W w2.heap.size (zaa t v2) 34 from fun W h=>HP3.out.two.stays h)
     have HRR:=zh (show ∀ W,Below w3.heap.size w3 W→W.rangeAt gR (k * 5) (zaa tk u2) from fun W h=>zpa hr2 h hgR)
     have HTR:=zh hT2
     have HV2:=zh hv2
     clear hr hT hne hks hr2 hT2 hgR hgetR hv2
     unfold maxLen at hcmR
     have HKX:=zh (show ∀ W,Below w3.heap.size w3 W→KAt 25 W tk.kids _ u from fun W h=>(HTL.out.below h).kat)
     have HKW:=zh (HTK.out.alloc (.cells (zaa tk u).toArray 25)).kat
     have HBLK:=zh (Blk.new wr (zaa tk u) 25)
     have HZB:=zh (show wr.heap.size<(wr.alloc (.cells (zaa tk u).toArray 25)).heap.size from by simp)
     go_wp2_with (first
      | ((with_reducible refine zra 25 (.tmp 37) ?_);refine wpList_load_mid rfl 25 (.tmp 37) rfl g (k * 5) rfl (zaa tk u) _ HR.out Tryz.underlying25 rfl Tryz.zha ?_)
      | ((with_reducible refine zla 25 (.tmp 10) ?_);refine zga rfl 25 (.tmp 10) (.tmp 38) rfl (zaa tk u) (old:=zba) rfl rfl Tryz.zha rfl (zda _ _ HTK.out.kat.one) ?_))
     generalize wr.alloc (.cells (zaa tk u).toArray 25)=W at *
     obtain ⟨kk,kt,kn,kp,kks⟩:=tk
     refine wp_region_held_drew (S:=fun W=>Blk W wr.heap.size (zaa (T.mk kk kt kn kp kks) u) 25∧Blk W w2.heap.size (zaa t v2) 34∧W.rangeAt gR (k * 5) (zaa (T.mk kk kt kn kp kks) u2)) (by kernel_rfl) ⟨HBLK.out.drew,HTWO.out _ HBN.out.drew,HRR.out _ HBN.out.drew⟩ (fun hS=>?_)
     by_cases h6:kk=6
     ·subst h6
      have HL:=zh (zWl HTW.out rfl HTZ.out)
      refine wpAnyH_take (i:=0) (oi:=⟨some 39,_,_,_,_,_⟩) (v:=.pointer (some ⟨wr.heap.size,0,none⟩)) rfl (by kernel_rfl) (by kernel_rfl) (by kernel_rfl) (fun _ _ _ h=>h) (Or.inl ⟨by rfl,fun W _=>by go_simp⟩) hS ?_
      try simp only [Act.put,List.setIfInBounds_toArray,List.set_cons_zero,List.set_cons_succ]
      refine wpAnyH_take (i:=1) (oi:=⟨some 40,_,_,_,_,_⟩) (v:=.int .i64 6) rfl (by kernel_rfl) (by kernel_rfl) (by kernel_rfl) (fun _ _ _ h=>h) (Or.inl ⟨by rfl,fun W hW=>by have hcx:W.cell? ⟨wr.heap.size,0,none⟩=some (.int .i64 6):=(hW.1).cell 0;go_simp⟩) hS ?_
      try simp only [Act.put,List.setIfInBounds_toArray,List.set_cons_zero,List.set_cons_succ]
      refine wpAnyH_take (i:=2) (oi:=⟨some 41,_,_,_,_,_⟩) (v:=.bool true) rfl (by kernel_rfl) (by kernel_rfl) (by kernel_rfl) (fun _ _ _ h=>h) (Or.inl ⟨by rfl,fun W _=>by go_simp⟩) hS ?_
      try simp only [Act.put,List.setIfInBounds_toArray,List.set_cons_zero,List.set_cons_succ]
      refine wpAnyH_take (i:=3) (oi:=⟨some 42,_,_,_,_,_⟩) (v:=.bool true) rfl (by kernel_rfl) (by kernel_rfl) (by kernel_rfl) (fun _ _ _ h=>h) (Or.inl ⟨by rfl,fun W _=>by go_simp⟩) hS ?_
      try simp only [Act.put,List.setIfInBounds_toArray,List.set_cons_zero,List.set_cons_succ]
      refine wpAnyH_take (i:=4) (oi:=⟨some 43,_,_,_,_,_⟩) (v:=.agg #[.int .i64 6,.string kt,.int .i64 kn,.int .i64 kp,u]) rfl (by kernel_rfl) (by kernel_rfl) (by kernel_rfl) (fun _ _ _ h=>h) (yieldsIf_load_mid (cs:=zaa (T.mk 6 kt kn kp kks) u) (by rfl) 25 (.tmp 10) rfl (wr.heap.size) (0) (by go_simp) _ (fun W hW j v hj=>by rw [Nat.zero_add,(hW.1).cell j];exact hj) Tryz.underlying25 rfl Tryz.zha) hS ?_
      try simp only [Act.put,List.setIfInBounds_toArray,List.set_cons_zero,List.set_cons_succ]
      refine wpAnyH_take (i:=6) (oi:=⟨some 45,_,_,_,_,_⟩) (v:=.pointer (some ⟨w2.heap.size,4,none⟩)) rfl (by kernel_rfl) (by kernel_rfl) (by kernel_rfl) (fun _ _ _ h=>h) (Or.inl ⟨by rfl,fun W _=>by go_simp⟩) hS ?_
      try simp only [Act.put,List.setIfInBounds_toArray,List.set_cons_zero,List.set_cons_succ]
      refine wpAnyH_take (i:=7) (oi:=⟨some 46,_,_,_,_,_⟩) (v:=v2) rfl (by kernel_rfl) (by kernel_rfl) (by kernel_rfl) (fun _ _ _ h=>h) (Or.inl ⟨by rfl,fun W hW=>by have hcx:W.cell? ⟨w2.heap.size,4,none⟩=some (v2):=(hW.2.1).cell 4;go_simp⟩) hS ?_
      try simp only [Act.put,List.setIfInBounds_toArray,List.set_cons_zero,List.set_cons_succ]
      refine wpAnyH_take (i:=8) (oi:=⟨some 47,_,_,_,_,_⟩) (v:=.int .i64 k) rfl (by kernel_rfl) (by kernel_rfl) (by kernel_rfl) (fun _ _ _ h=>h) (Or.inl ⟨by rfl,fun W _=>by go_simp⟩) hS ?_
      try simp only [Act.put,List.setIfInBounds_toArray,List.set_cons_zero,List.set_cons_succ]
      have hv2:=HV2.out
      subst hv2
      refine wpAnyH_take (i:=9) (oi:=⟨some 48,_,_,_,_,_⟩) (v:=.pointer (some ⟨gR,k * 5,none⟩)) rfl (by kernel_rfl) (by kernel_rfl) (by kernel_rfl) (fun _ _ _ h=>h) (Or.inl ⟨by rfl,fun W _=>by go_simp⟩) hS ?_
      try simp only [Act.put,List.setIfInBounds_toArray,List.set_cons_zero,List.set_cons_succ]
      refine wpAnyH_take (i:=10) (oi:=⟨some 49,_,_,_,_,_⟩) (v:=.agg #[.int .i64 6,.string kt,.int .i64 kn,.int .i64 kp,u2]) rfl (by kernel_rfl) (by kernel_rfl) (by kernel_rfl) (fun _ _ _ h=>h) (yieldsIf_load_mid (cs:=zaa (T.mk 6 kt kn kp kks) u2) (by rfl) 34 (.tmp 48) rfl (gR) (k * 5) (by go_simp) _ (fun W hW=>hW.2.2) Tryz.underlying34 rfl Tryz.zia) hS ?_
      try simp only [Act.put,List.setIfInBounds_toArray,List.set_cons_zero,List.set_cons_succ]
      refine AnyH.only (i:=5) (o:=⟨some 44,_,_,_,_,_⟩) (by kernel_rfl) rfl (by rfl) (fun K hK=>?_)
      go_simp
      have hkd:KAt 25 W.drew kks _ u:=HKW.out.drew
      have hz1:(T.mk 6 kt kn kp kks).size≤4990:=by have:=HTZ.out;omega
      ((with_reducible refine (zCp hkd HTW.out hz1).mono ?_))
      rintro e w4 ⟨pv,lv,rfl,hcd,hb4⟩
      have HB4:=zh (HBN.out.drew.trans (hb4.mono HBN.out.drew.size))
      have HBK4:=zh (HBLK.out.drew.stays hb4)
      have HCD:=zh hcd
      clear hcd hS hb4
      have hS:Blk w4 wr.heap.size (zaa (T.mk 6 kt kn kp kks) u) 25∧Blk w4 w2.heap.size (zaa t _) 34∧w4.rangeAt gR (k * 5) (zaa (T.mk 6 kt kn kp kks) u2):=⟨HBK4.out,HTWO.out _ HB4.out,HRR.out _ HB4.out⟩
      refine hK.out _ _ hS ?_
      clear hK K
      try simp only [Act.put,List.setIfInBounds_toArray,List.set_cons_zero,List.set_cons_succ]
      refine AnyH.only (i:=11) (o:=⟨some 50,_,_,_,_,_⟩) (by kernel_rfl) rfl (by rfl) (fun K hK=>?_)
      go_simp
      have hkr:KAt 34 w4 kks _ u2:=(HTR.out.below HB4.out).kat
      have hz2:(T.mk 6 kt kn kp kks).size≤5000:=by have:=HTZ.out;omega
      ((with_reducible refine (zlo hkr HTW.out hz2).mono ?_))
      rintro e w5 ⟨qv,mv,rfl,hcr,hb5⟩
      have HB5:=zh (HB4.out.trans (hb5.mono HB4.out.size))
      have HBK5:=zh (HBK4.out.stays hb5)
      have HCP:=zh (zXb.below HCD.out.1 hb5)
      have HCI:=zh (zGb.below HCD.out.2 hb5)
      have HCR:=zh hcr
      clear hcr hS hb5
      have hS:Blk w5 wr.heap.size (zaa (T.mk 6 kt kn kp kks) u) 25∧Blk w5 w2.heap.size (zaa t _) 34∧w5.rangeAt gR (k * 5) (zaa (T.mk 6 kt kn kp kks) u2):=⟨HBK5.out,HTWO.out _ HB5.out,HRR.out _ HB5.out⟩
      refine hK.out _ _ hS ?_
      clear hK K
      try simp only [Act.put,List.setIfInBounds_toArray,List.set_cons_zero,List.set_cons_succ]
      refine AnyH.only (i:=12) (o:=⟨some 51,_,_,_,_,_⟩) (by kernel_rfl) rfl (by rfl) (fun K hK=>?_)
      go_simp
      ((with_reducible refine (zsj HCP.out HCI.out HCR.out.1 HCR.out.2 HL.out.1 HL.out.2.1 HL.out.2.2).mono ?_))
      rintro e w6 ⟨rfl,hb6⟩
      have HB6:=zh (HB5.out.trans (hb6.mono HB5.out.size))
      have HBK6:=zh (HBK5.out.stays hb6)
      clear hS hb6
      have hS:Blk w6 wr.heap.size (zaa (T.mk 6 kt kn kp kks) u) 25∧Blk w6 w2.heap.size (zaa t _) 34∧w6.rangeAt gR (k * 5) (zaa (T.mk 6 kt kn kp kks) u2):=⟨HBK6.out,HTWO.out _ HB6.out,HRR.out _ HB6.out⟩
      refine hK.out _ _ hS ?_
      clear hK K
      try simp only [Act.put,List.setIfInBounds_toArray,List.set_cons_zero,List.set_cons_succ]
      refine wpAnyH_take (i:=13) (oi:=⟨some 52,_,_,_,_,_⟩) (v:=.bool false) rfl (by kernel_rfl) (by kernel_rfl) (by kernel_rfl) (fun _ _ _ h=>h) (Or.inl ⟨by rfl,fun W _=>by go_simp⟩) hS ?_
      try simp only [Act.put,List.setIfInBounds_toArray,List.set_cons_zero,List.set_cons_succ]
      refine wpAnyH_take (i:=14) (oi:=⟨some 53,_,_,_,_,_⟩) (v:=.bool false) rfl (by kernel_rfl) (by kernel_rfl) (by kernel_rfl) (fun _ _ _ h=>h) (Or.inl ⟨by rfl,fun W _=>by go_simp⟩) hS ?_
      try simp only [Act.put,List.setIfInBounds_toArray,List.set_cons_zero,List.set_cons_succ]
      refine wpAnyH_done (by kernel_rfl) ?_ _
      clear hS
      go_wp2_with ((with_reducible refine zra 25 (.tmp 10) ?_);refine zja rfl 25 (.tmp 10) rfl wr.heap.size (zaa (T.mk 6 kt kn kp kks) u) rfl HBK6.out Tryz.underlying25 rfl Tryz.zha ?_)
      have hk7:KAt 25 w6 kks _ u:=HKX.out _ HB6.out
      ((with_reducible refine (zTq (t:=T.mk 6 kt kn kp kks) hk7 HTW.out hz1).mono ?_))
      rintro e w7 ⟨pv7,lv7,rfl,hcd7,hb7⟩
      have HB7:=zh ((HB6.out.trans (hb7.mono HB6.out.size)).alloc (HB6.out.trans (hb7.mono HB6.out.size)).size (.cells (zhb (zvd (T.mk 6 kt kn kp kks)) pv7 lv7).toArray 47))
      have k7:w7.cell? ⟨wr.heap.size,0,none⟩=some (.int .i64 6):=(HBK6.out.stays hb7).cell 0
      have l7:wr.heap.size<w7.heap.size:=(HBK6.out.stays hb7).lt
      have HCO7:=zh (show ∀ x∈zhb (zvd (T.mk 6 kt kn kp kks)) pv7 lv7,x.oneCell'=true from zUk hcd7)
      clear hb7 hcd7
      unfold zzq
      go_wp2_with ((with_reducible refine zla 47 (.tmp 11) ?_);refine zga rfl 47 (.tmp 11) (.tmp 55) rfl (zhb (zvd (T.mk 6 kt kn kp kks)) pv7 lv7) (old:=zhb zFk (.slice none 0 0) (.slice none 0 0)) rfl rfl Tryz.zCf rfl HCO7.out ?_)
      go_roundg (gk-1)
      case measure=>omega
      case rel=>exact ⟨k+1,by omega,by omega,by go_num,HB7.out⟩
     ·have h6b:(kk == 6)=false:=by simp [h6]
      have h6n:(kk != 6)=true:=by simp [h6]
      refine wpAnyH_take (i:=0) (oi:=⟨some 39,_,_,_,_,_⟩) (v:=.pointer (some ⟨wr.heap.size,0,none⟩)) rfl (by kernel_rfl) (by kernel_rfl) (by kernel_rfl) (fun _ _ _ h=>h) (Or.inl ⟨by rfl,fun W _=>by go_simp⟩) hS ?_
      try simp only [Act.put,List.setIfInBounds_toArray,List.set_cons_zero,List.set_cons_succ]
      refine wpAnyH_take (i:=1) (oi:=⟨some 40,_,_,_,_,_⟩) (v:=.int .i64 kk) rfl (by kernel_rfl) (by kernel_rfl) (by kernel_rfl) (fun _ _ _ h=>h) (Or.inl ⟨by rfl,fun W hW=>by have hcx:W.cell? ⟨wr.heap.size,0,none⟩=some (.int .i64 kk):=(hW.1).cell 0;go_simp⟩) hS ?_
      try simp only [Act.put,List.setIfInBounds_toArray,List.set_cons_zero,List.set_cons_succ]
      refine wpAnyH_take (i:=2) (oi:=⟨some 41,_,_,_,_,_⟩) (v:=.bool false) rfl (by kernel_rfl) (by kernel_rfl) (by kernel_rfl) (fun _ _ _ h=>h) (Or.inl ⟨by rfl,fun W _=>by go_simp⟩) hS ?_
      try simp only [Act.put,List.setIfInBounds_toArray,List.set_cons_zero,List.set_cons_succ]
      refine wpAnyH_take (i:=3) (oi:=⟨some 42,_,_,_,_,_⟩) (v:=.bool false) rfl (by kernel_rfl) (by kernel_rfl) (by kernel_rfl) (fun _ _ _ h=>h) (Or.inl ⟨by rfl,fun W _=>by go_simp⟩) hS ?_
      try simp only [Act.put,List.setIfInBounds_toArray,List.set_cons_zero,List.set_cons_succ]
      refine wpAnyH_take (i:=4) (oi:=⟨some 43,_,_,_,_,_⟩) (v:=undef) rfl (by kernel_rfl) (by kernel_rfl) (by kernel_rfl) (fun _ _ _ h=>h) (Or.inr ⟨by rfl,rfl⟩) hS ?_
      try simp only [Act.put,List.setIfInBounds_toArray,List.set_cons_zero,List.set_cons_succ]
      refine wpAnyH_take (i:=5) (oi:=⟨some 44,_,_,_,_,_⟩) (v:=undef) rfl (by kernel_rfl) (by kernel_rfl) (by kernel_rfl) (fun _ _ _ h=>h) (Or.inr ⟨by rfl,rfl⟩) hS ?_
      try simp only [Act.put,List.setIfInBounds_toArray,List.set_cons_zero,List.set_cons_succ]
      refine wpAnyH_take (i:=6) (oi:=⟨some 45,_,_,_,_,_⟩) (v:=undef) rfl (by kernel_rfl) (by kernel_rfl) (by kernel_rfl) (fun _ _ _ h=>h) (Or.inr ⟨by rfl,rfl⟩) hS ?_
      try simp only [Act.put,List.setIfInBounds_toArray,List.set_cons_zero,List.set_cons_succ]
      refine wpAnyH_take (i:=7) (oi:=⟨some 46,_,_,_,_,_⟩) (v:=undef) rfl (by kernel_rfl) (by kernel_rfl) (by kernel_rfl) (fun _ _ _ h=>h) (Or.inr ⟨by rfl,rfl⟩) hS ?_
      try simp only [Act.put,List.setIfInBounds_toArray,List.set_cons_zero,List.set_cons_succ]
      refine wpAnyH_take (i:=8) (oi:=⟨some 47,_,_,_,_,_⟩) (v:=undef) rfl (by kernel_rfl) (by kernel_rfl) (by kernel_rfl) (fun _ _ _ h=>h) (Or.inr ⟨by rfl,rfl⟩) hS ?_
      try simp only [Act.put,List.setIfInBounds_toArray,List.set_cons_zero,List.set_cons_succ]
      refine wpAnyH_take (i:=9) (oi:=⟨some 48,_,_,_,_,_⟩) (v:=undef) rfl (by kernel_rfl) (by kernel_rfl) (by kernel_rfl) (fun _ _ _ h=>h) (Or.inr ⟨by rfl,rfl⟩) hS ?_
      try simp only [Act.put,List.setIfInBounds_toArray,List.set_cons_zero,List.set_cons_succ]
      refine wpAnyH_take (i:=10) (oi:=⟨some 49,_,_,_,_,_⟩) (v:=undef) rfl (by kernel_rfl) (by kernel_rfl) (by kernel_rfl) (fun _ _ _ h=>h) (Or.inr ⟨by rfl,rfl⟩) hS ?_
      try simp only [Act.put,List.setIfInBounds_toArray,List.set_cons_zero,List.set_cons_succ]
      refine wpAnyH_take (i:=11) (oi:=⟨some 50,_,_,_,_,_⟩) (v:=undef) rfl (by kernel_rfl) (by kernel_rfl) (by kernel_rfl) (fun _ _ _ h=>h) (Or.inr ⟨by rfl,rfl⟩) hS ?_
      try simp only [Act.put,List.setIfInBounds_toArray,List.set_cons_zero,List.set_cons_succ]
      refine wpAnyH_take (i:=12) (oi:=⟨some 51,_,_,_,_,_⟩) (v:=undef) rfl (by kernel_rfl) (by kernel_rfl) (by kernel_rfl) (fun _ _ _ h=>h) (Or.inr ⟨by rfl,rfl⟩) hS ?_
      try simp only [Act.put,List.setIfInBounds_toArray,List.set_cons_zero,List.set_cons_succ]
      refine wpAnyH_take (i:=13) (oi:=⟨some 52,_,_,_,_,_⟩) (v:=undef) rfl (by kernel_rfl) (by kernel_rfl) (by kernel_rfl) (fun _ _ _ h=>h) (Or.inr ⟨by rfl,rfl⟩) hS ?_
      try simp only [Act.put,List.setIfInBounds_toArray,List.set_cons_zero,List.set_cons_succ]
      refine wpAnyH_take (i:=14) (oi:=⟨some 53,_,_,_,_,_⟩) (v:=.bool false) rfl (by kernel_rfl) (by kernel_rfl) (by kernel_rfl) (fun _ _ _ h=>h) (Or.inl ⟨by rfl,fun W _=>by go_simp⟩) hS ?_
      try simp only [Act.put,List.setIfInBounds_toArray,List.set_cons_zero,List.set_cons_succ]
      refine wpAnyH_done (by kernel_rfl) ?_ _
      clear hS
      have h6c:((T.mk kk kt kn kp kks).kind == 6)=false:=h6b
      go_wp2_with ((with_reducible refine zra 25 (.tmp 10) ?_);refine zja rfl 25 (.tmp 10) rfl wr.heap.size (zaa (T.mk kk kt kn kp kks) u) rfl HBLK.out.drew Tryz.underlying25 rfl Tryz.zha ?_)
      ((with_reducible refine (zXo _ (T.mk kk kt kn kp kks) u h6c).mono ?_))
      rintro e w7 ⟨rfl,hb7⟩
      have HB6:=zh HBN.out.drew
      have HB7:=zh ((HB6.out.trans (hb7.mono HB6.out.size)).alloc (HB6.out.trans (hb7.mono HB6.out.size)).size (.cells (zhb zFk (.slice none 0 0) (.slice none 0 0)).toArray 47))
      have k7:w7.cell? ⟨wr.heap.size,0,none⟩=some (.int .i64 kk):=(HBLK.out.drew.stays hb7).cell 0
      have l7:wr.heap.size<w7.heap.size:=(HBLK.out.drew.stays hb7).lt
      clear hb7
      unfold zzq
      go_wp2_with ((with_reducible refine zla 47 (.tmp 11) ?_);refine zga rfl 47 (.tmp 11) (.tmp 55) rfl [.string ⟨#[]⟩,.slice none 0 0,.slice none 0 0] (old:=zhb zFk (.slice none 0 0) (.slice none 0 0)) rfl rfl Tryz.zCf rfl zWj ?_)
      go_roundg (gk-1)
      case measure=>omega
      case rel=>exact ⟨k+1,by omega,by omega,by go_num,HB7.out⟩
    ·go_wp2
     go_ret
     exact ⟨rfl,HP3.out.below.trans (HBW.out.mono HP3.out.below.size)⟩
 ·go_wp2_with fail
  refine (zIj _ HP3.out.tabs).mono ?_
  rintro e w4 ⟨rfl,hb4⟩
  have HB4:=zh (HP3.out.below.trans (hb4.mono HP3.out.below.size))
  clear hb4
  go_wp2_with fail
  go_ret
  exact ⟨rfl,HB4.out⟩
theorem zVh (os:Os) {H:Type} (enc:TypeId × Value→H):∃ places,DataW.whole enc Tryz.prog ((laidWorld os).forCall (fun _ _=>0) ⟨#[],#[.string ⟨#[]⟩],[]⟩).memory Tryz.f9.params.toList Rows.codeLowersSpec.vars false #[Value.string ⟨#[]⟩].toList 8=some ([.lit (.string [])],[],places) :=
 ⟨[],by kernel_rfl⟩
theorem zph (os:Os) (started:os.Started) (H:Type) (enc:TypeId × Value→H) (F:Stop.Interp) :
  ReturnsInHanded {} Tryz.checked os 9 .any ((OpenSpec.ofChange Rows.codeLowersSpec).preRow enc Tryz.prog Tryz.f9 Rows.codeLowersRow.domain false Rows.codeLowersRow.laid) (((OpenSpec.ofChange Rows.codeLowersSpec).at F).post enc Tryz.prog Tryz.f9 false true false false):=by
 obtain ⟨places,hx⟩:=zVh os enc
 refine returnsInHanded_of_row (C:=Tryz.checked) (s:=OpenSpec.ofChange Rows.codeLowersSpec) own started (by kernel_rfl) Tryz.func9
  (witness_row_at (enc:=enc) (C:=Tryz.checked) false (laidWorld os) #[.string ⟨#[]⟩] rfl (by kernel_rfl) (by kernel_rfl) (by kernel_rfl)
   (OpenSpec.preRow_of_cond 8 hx (by kernel_rfl) (fun k hk=>by cases hk) (by kernel_rfl) (zTj os))) ?_
 intro W base args ds gs before hval hW _ _ _ hL _ _
 exact zpk Tryz.params9 (by kernel_rfl) rfl (fun _=>rfl) zdj W base args ds gs before hval hW hL
theorem zpi:Rows.CodeLowersSaid :=
 OpenClaim.holds_of_cond 9 Tryz.f9 rfl rfl rfl rfl rfl rfl rfl ⟨rfl,rfl,rfl,rfl,rfl⟩ rfl rfl rfl rfl rfl (by kernel_rfl) Tryz.func9 (by kernel_rfl)
  (of_decide_eq_true (by kernel_rfl)) (by unfold Func.isWrapper;first|(rw [if_pos (by decide +kernel)];kernel_rfl)|(rw [if_neg (by decide +kernel)];exact ⟨rfl,rfl⟩))
  (fun os started H enc _ F=>by rw [OpenClaim.pre_eq_preRow];exact zph os started H enc F)
theorem zSh (f:FuncId) (fn:Func) (hf:Tryz.pinned.checked.prog.funcNamed "lychgate/lychgatelaw07.CodeLowers" = some f) (hfn:Tryz.pinned.checked.prog.funcs[f]?=some fn) :
  true=Tryz.pinned.checked.prog.looks []∧∀ (j:Nat) t,fn.params[j]?=some t→Tryz.pinned.checked.prog.wantsStandIn t=false:=by
 obtain rfl:f=9:=Option.some.inj ((show Tryz.prog.funcNamed "lychgate/lychgatelaw07.CodeLowers" = some 9 by kernel_rfl).symm.trans hf) |>.symm
 obtain rfl:fn=Tryz.f9:=(Option.some.inj (Tryz.func9.symm.trans hfn)).symm
 refine ⟨by kernel_rfl,fun j t ht=>?_⟩
 rw [Tryz.params9] at ht
 obtain rfl:t=9:=by simpa using Array.mem_of_getElem? ht
 exact (show Tryz.prog.wantsStandIn 9=false by kernel_rfl)
theorem codeLowers_card:Rows.CodeLowersCardSaid :=
 Claim7.holds_tied_plain_at .later [] _ _ _ _ zpi (fun _ h=>by cases h) (by kernel_rfl) (fun _ h=>by cases h) codeLowers_row_tie rfl ⟨rfl,rfl⟩ (by kernel_rfl) rfl zSh (by kernel_rfl)
end Go.Proofs.YthdbmgijpelecaaGreatDoor
