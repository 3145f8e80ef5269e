/- Proved here: for every text that lychgatelaw03.ShowBack is called with, in every memory in which the listed tables stand as the program lays them, the call returns true and nothing that was there has changed. -/
import Derived.Test.YtbfgdpcgdmabpaaGreatDoorY33
import Derived.Test.YtbfgdpcgdmabpaaGreatDoorY34
import Derived.Test.YtbfgdpcgdmabpaaGreatDoorY37
import Derived.Test.YtbfgdpcgdmabpaaGreatDoorY38
import Derived.Test.YtbfgdpcgdmabpaaGreatDoorY14
namespace Go.Proofs.YtbfgdpcgdmabpaaGreatDoor
set_option maxRecDepth 100000
set_option maxHeartbeats 2000000
open Go.ChangeShapes Go.WideShapes Go.ChangeAt Go.RowKit
theorem zUj (s:ByteArray) (w:World) (hs:s.size≤maxLen) (_:s.size≤140737488351232) (ht:Tabs w) (hp:Pow w) :
  Calls Tryz.prog 4 #[.string s] w fun e w'=>e=.returned (.bool true)∧Below w.heap.size w w':=by
 have HT:=zh ht
 have HP:=zh hp
 have HQ:=zh (show (zvb s).1.size≤4096∧(zvb s).1.whole∧(zvb s).1.small∧zqg (zvb s).1 from ⟨(zcg s).2,(zDe s).2,zJe s,zSf s⟩)
 go_enter Tryz.func4,Tryz.ntmps4
 go_wp2_with fail
 refine (parse_any s w hs ht).mono ?_
 clear ht hp
 generalize zvb s=q at HQ
 obtain ⟨⟨kd,nm,num,pl,ks⟩,p,c⟩:=q
 rintro e w1 ⟨kv,rfl,hk,hb⟩
 obtain ⟨W1,hW1,HL⟩:∃ W,w1.alloc (.cells [.int .i64 kd,.string nm,.int .i64 num,.int .i64 pl,kv].toArray 25)=W∧Hid (SsL w w1.heap.size (.mk kd nm num pl ks) kv W) :=
  ⟨_,rfl,zh ⟨hb.alloc hb.size _,HT.out.below (hb.alloc hb.size _) HT.out.size,HP.out.later (hb.alloc hb.size _),Blk.new w1 _ _,(hk.keep fun b _ hl=>⟨hl,rfl⟩:KAt 25 w1 ks (fun b=>b<w1.heap.size) kv).alloc _⟩⟩
 have HO:=zh (show kv.oneCell'=true from hk.one)
 clear hk hb
 unfold zmb
 go_wp2_with ((with_reducible refine zlb 25 (.tmp 3) ?_);refine zcb rfl 25 (.tmp 3) (.tmp 13) rfl [.int .i64 kd,.string nm,.int .i64 num,.int .i64 pl,kv] (old:=zga) rfl rfl Tryz.zla rfl (zoa (.mk kd nm num pl ks) _ HO.out) ?_)
 refine (zef W1 HL.out.tabs HL.out.pow).mono ?_
 rintro e w2 ⟨rfl,hb2⟩
 replace HL:=zh (HL.out.call hb2)
 clear hb2 hW1
 by_cases hc:c=0
 ·subst hc
  go_wp2_with ((with_reducible refine zCc 25 (.tmp 3) ?_);refine zAa rfl 25 (.tmp 3) rfl (w1.heap.size) [.int .i64 kd,.string nm,.int .i64 num,.int .i64 pl,kv] rfl HL.out.blk Tryz.underlying25 rfl Tryz.zla ?_)
  have HBD:=zh (zvi (d:=0) HQ.out.2.2.1 HQ.out.2.1 (by have:=HQ.out.1;omega) (by omega))
  refine (zGg (t:=.mk kd nm num pl ks) HL.out.k HL.out.pow HQ.out.2.1 HQ.out.2.2.1 (by have:=HQ.out.1;omega)).mono ?_
  obtain ⟨b,hbt⟩:∃ b,(⟨(shw 0 (.mk kd nm num pl ks)).toArray⟩:ByteArray)=b:=⟨_,rfl⟩
  have hbz:b.size≤1000000000:=by rw [← hbt];have h9:=HBD.out;show (shw 0 (.mk kd nm num pl ks)).toArray.size≤_;simpa using h9
  have HBT:=zh hbt
  rw [hbt]
  clear hbt HBD
  rintro e w3 ⟨rfl,hb3⟩
  replace HL:=zh (HL.out.call hb3)
  clear hb3
  by_cases hlen:16384<b.size
  ·go_wp2_with fail
   go_ret
   exact ⟨rfl,HL.out.below⟩
  ·obtain ⟨t2,h1,h2,h3⟩:=zUo HQ.out.2.2.2 HQ.out.1 (show (bs (shw 0 (.mk kd nm num pl ks))).size≤16384 by rw [show bs (shw 0 (.mk kd nm num pl ks))=b from HBT.out];omega)
   rw [show bs (shw 0 (.mk kd nm num pl ks))=b from HBT.out] at h1
   have HQ2:=zh (show (zvb b).1.size≤4096∧(zvb b).1.whole∧(zvb b).1.small from ⟨(zcg b).2,(zDe b).2,zJe b⟩)
   rw [h1] at HQ2
   have H1:=zh h1
   have H2:=zh h2
   have H3:=zh (show (⟨(shw 0 t2).toArray⟩:ByteArray)=b by rw [h3];exact HBT.out)
   clear h1 h2 h3
   have hlm:b.size≤maxLen:=by unfold maxLen;omega
   go_wp2_with fail
   refine (parse_any b w3 hlm HL.out.tabs).mono ?_
   rw [H1.out]
   clear hlm
   obtain ⟨kd2,nm2,num2,pl2,ks2⟩:=t2
   rintro e w4 ⟨kv2,rfl,hk,hb⟩
   replace HL:=zh (HL.out.call hb)
   have hz0:=HL.out.blk.lt
   obtain ⟨W5,hW5,HM⟩:∃ W,w4.alloc (.cells [.int .i64 kd2,.string nm2,.int .i64 num2,.int .i64 pl2,kv2].toArray 25)=W∧Hid (SbL w w1.heap.size (.mk kd nm num pl ks) kv w4.heap.size (.mk kd2 nm2 num2 pl2 ks2) kv2 W) :=
    ⟨_,rfl,zh ⟨HL.out.call ((Below.refl _ _).alloc (Nat.le_refl _) _),Blk.new w4 _ _,(hk.keep fun b _ hl=>⟨hl,rfl⟩:KAt 25 w4 ks2 (fun b=>b<w4.heap.size) kv2).alloc _⟩⟩
   replace HO:=zh (show kv2.oneCell'=true from hk.one)
   clear hk hb HL hz0
   unfold zmb
   go_wp2_with ((with_reducible refine zlb 25 (.tmp 7) ?_);refine zcb rfl 25 (.tmp 7) (.tmp 31) rfl [.int .i64 kd2,.string nm2,.int .i64 num2,.int .i64 pl2,kv2] (old:=zga) rfl rfl Tryz.zla rfl (zoa (.mk kd2 nm2 num2 pl2 ks2) _ HO.out) ?_)
   have HM2:=zh HM.out.drew
   refine wp_region_held_drew (S:=fun W=>Blk W w1.heap.size [.int .i64 kd,.string nm,.int .i64 num,.int .i64 pl,kv] 25∧Blk W w4.heap.size [.int .i64 kd2,.string nm2,.int .i64 num2,.int .i64 pl2,kv2] 25) (by kernel_rfl) ⟨HM2.out.blk,HM2.out.blk2⟩ (fun hS=>?_)
   clear HM hW5
   generalize W5.drew=W6 at *
   refine wpAnyH_take (i:=0) (oi:=⟨some 34,_,_,_,_,_⟩) (v:=.int .i64 0) rfl (by kernel_rfl) (by kernel_rfl) (by kernel_rfl) (fun _ _ _ h=>h) (Or.inl ⟨by rfl,fun W _=>by go_simp⟩) hS ?_
   try simp only [Act.put,List.setIfInBounds_toArray,List.set_cons_zero,List.set_cons_succ]
   refine wpAnyH_take (i:=1) (oi:=⟨some 35,_,_,_,_,_⟩) (v:=.bool true) rfl (by kernel_rfl) (by kernel_rfl) (by kernel_rfl) (fun _ _ _ h=>h) (Or.inl ⟨by rfl,fun W _=>by go_simp⟩) hS ?_
   try simp only [Act.put,List.setIfInBounds_toArray,List.set_cons_zero,List.set_cons_succ]
   refine wpAnyH_take (i:=2) (oi:=⟨some 36,_,_,_,_,_⟩) (v:=.bool true) rfl (by kernel_rfl) (by kernel_rfl) (by kernel_rfl) (fun _ _ _ h=>h) (Or.inl ⟨by rfl,fun W _=>by go_simp⟩) hS ?_
   try simp only [Act.put,List.setIfInBounds_toArray,List.set_cons_zero,List.set_cons_succ]
   refine wpAnyH_take (i:=3) (oi:=⟨some 37,_,_,_,_,_⟩) (v:=.agg #[.int .i64 kd,.string nm,.int .i64 num,.int .i64 pl,kv]) rfl (by kernel_rfl) (by kernel_rfl) (by kernel_rfl) (fun _ _ _ h=>h) (yieldsIf_load_mid (cs:=[.int .i64 kd,.string nm,.int .i64 num,.int .i64 pl,kv]) (by rfl) 25 (.tmp 3) rfl (w1.heap.size) 0 rfl _ (fun W hW j v hj=>by rw [Nat.zero_add,hW.1.cell j];exact hj) Tryz.underlying25 rfl Tryz.zla) hS ?_
   try simp only [Act.put,List.setIfInBounds_toArray,List.set_cons_zero,List.set_cons_succ]
   refine wpAnyH_take (i:=5) (oi:=⟨some 39,_,_,_,_,_⟩) (v:=.agg #[.int .i64 kd2,.string nm2,.int .i64 num2,.int .i64 pl2,kv2]) rfl (by kernel_rfl) (by kernel_rfl) (by kernel_rfl) (fun _ _ _ h=>h) (yieldsIf_load_mid (cs:=[.int .i64 kd2,.string nm2,.int .i64 num2,.int .i64 pl2,kv2]) (by rfl) 25 (.tmp 7) rfl (w4.heap.size) 0 rfl _ (fun W hW j v hj=>by rw [Nat.zero_add,hW.2.cell j];exact hj) Tryz.underlying25 rfl Tryz.zla) hS ?_
   try simp only [Act.put,List.setIfInBounds_toArray,List.set_cons_zero,List.set_cons_succ]
   clear hS
   refine AnyH.only (i:=4) (o:=⟨some 38,_,_,_,_,_⟩) (by kernel_rfl) rfl (by rfl) (fun K hK=>?_)
   go_simp
   refine (zkf _ (.mk kd nm num pl ks) (Nat.le_refl _) HM2.out.one.k (by have:=HQ.out.1;omega)).mono ?_
   rintro e W7 ⟨u,rfl,hu,hb⟩
   have HM3:=zh (HM2.out.call hb)
   have HU:=zh hu
   clear hb hu
   refine hK.out _ _ ⟨HM3.out.blk,HM3.out.blk2⟩ ?_
   clear hK K
   try simp only [Act.put,List.setIfInBounds_toArray,List.set_cons_zero,List.set_cons_succ]
   refine AnyH.only (i:=6) (o:=⟨some 40,_,_,_,_,_⟩) (by kernel_rfl) rfl (by rfl) (fun K hK=>?_)
   go_simp
   refine (zkf _ (.mk kd2 nm2 num2 pl2 ks2) (Nat.le_refl _) HM3.out.k2 (by have:=HQ2.out.1;omega)).mono ?_
   rintro e W8 ⟨u2,rfl,hu2,hb⟩
   have HM4:=zh (HM3.out.call hb)
   have HU1:=zh (HU.out.below hb)
   have HU2:=zh hu2
   clear hb hu2
   refine hK.out _ _ ⟨HM4.out.blk,HM4.out.blk2⟩ ?_
   clear hK K
   try simp only [Act.put,List.setIfInBounds_toArray,List.set_cons_zero,List.set_cons_succ]
   refine AnyH.only (i:=7) (o:=⟨some 41,_,_,_,_,_⟩) (by kernel_rfl) rfl (by rfl) (fun K hK=>?_)
   go_simp
   refine (alike_any _ (.mk kd nm num pl ks) (.mk kd2 nm2 num2 pl2 ks2) false (Nat.le_refl _) HU1.out HU2.out (by have:=HQ.out.1;have h9:=zdb ks;rw [size_mk] at this;show ks.length≤_;omega) (by have:=HQ2.out.1;have h9:=zdb ks2;rw [size_mk] at this;show ks2.length≤_;omega) (by have:=HQ.out.1;omega) (by have:=HQ2.out.1;omega)).mono ?_
   rw [H2.out]
   rintro e W9 ⟨rfl,hb⟩
   have HM5:=zh (HM4.out.call hb)
   clear hb
   refine hK.out _ _ ⟨HM5.out.blk,HM5.out.blk2⟩ ?_
   clear hK K
   try simp only [Act.put,List.setIfInBounds_toArray,List.set_cons_zero,List.set_cons_succ]
   have hS:Blk W9 w1.heap.size [.int .i64 kd,.string nm,.int .i64 num,.int .i64 pl,kv] 25∧Blk W9 w4.heap.size [.int .i64 kd2,.string nm2,.int .i64 num2,.int .i64 pl2,kv2] 25:=⟨HM5.out.blk,HM5.out.blk2⟩
   refine wpAnyH_take (i:=8) (oi:=⟨some 42,_,_,_,_,_⟩) (v:=.bool true) rfl (by kernel_rfl) (by kernel_rfl) (by kernel_rfl) (fun _ _ _ h=>h) (Or.inl ⟨by rfl,fun W _=>by go_simp⟩) hS ?_
   try simp only [Act.put,List.setIfInBounds_toArray,List.set_cons_zero,List.set_cons_succ]
   refine wpAnyH_take (i:=9) (oi:=⟨some 43,_,_,_,_,_⟩) (v:=.bool true) rfl (by kernel_rfl) (by kernel_rfl) (by kernel_rfl) (fun _ _ _ h=>h) (Or.inl ⟨by rfl,fun W _=>by go_simp⟩) hS ?_
   try simp only [Act.put,List.setIfInBounds_toArray,List.set_cons_zero,List.set_cons_succ]
   refine wpAnyH_take (i:=10) (oi:=⟨some 44,_,_,_,_,_⟩) (v:=.agg #[.int .i64 kd2,.string nm2,.int .i64 num2,.int .i64 pl2,kv2]) rfl (by kernel_rfl) (by kernel_rfl) (by kernel_rfl) (fun _ _ _ h=>h) (yieldsIf_load_mid (cs:=[.int .i64 kd2,.string nm2,.int .i64 num2,.int .i64 pl2,kv2]) (by rfl) 25 (.tmp 7) rfl (w4.heap.size) 0 rfl _ (fun W hW j v hj=>by rw [Nat.zero_add,hW.2.cell j];exact hj) Tryz.underlying25 rfl Tryz.zla) hS ?_
   try simp only [Act.put,List.setIfInBounds_toArray,List.set_cons_zero,List.set_cons_succ]
   refine wpAnyH_take (i:=12) (oi:=⟨some 46,_,_,_,_,_⟩) (v:=.string b) rfl (by kernel_rfl) (by kernel_rfl) (by kernel_rfl) (fun _ _ _ h=>h) (Or.inl ⟨by rfl,fun W _=>by go_simp⟩) hS ?_
   try simp only [Act.put,List.setIfInBounds_toArray,List.set_cons_zero,List.set_cons_succ]
   clear hS
   refine AnyH.only (i:=11) (o:=⟨some 45,_,_,_,_,_⟩) (by kernel_rfl) rfl (by rfl) (fun K hK=>?_)
   go_simp
   refine (zGg (t:=.mk kd2 nm2 num2 pl2 ks2) HM5.out.k2 HM5.out.one.pow HQ2.out.2.1 HQ2.out.2.2 (by have:=HQ2.out.1;omega)).mono ?_
   rw [H3.out]
   rintro e W10 ⟨rfl,hb⟩
   have HM6:=zh (HM5.out.call hb)
   clear hb
   refine hK.out _ _ ⟨HM6.out.blk,HM6.out.blk2⟩ ?_
   clear hK K
   try simp only [Act.put,List.setIfInBounds_toArray,List.set_cons_zero,List.set_cons_succ]
   refine AnyH.only (i:=13) (o:=⟨some 47,_,_,_,_,_⟩) (by kernel_rfl) rfl (by rfl) (fun K hK=>?_)
   go_simp
   refine hK.out _ _ ⟨HM6.out.blk,HM6.out.blk2⟩ ?_
   clear hK K
   try simp only [Act.put,List.setIfInBounds_toArray,List.set_cons_zero,List.set_cons_succ]
   refine AnyH.only (i:=14) (o:=⟨some 48,_,_,_,_,_⟩) (by kernel_rfl) rfl (by rfl) (fun K hK=>?_)
   go_simp
   refine hK.out _ _ ⟨HM6.out.blk,HM6.out.blk2⟩ ?_
   clear hK K
   try simp only [Act.put,List.setIfInBounds_toArray,List.set_cons_zero,List.set_cons_succ]
   refine AnyH.only (i:=15) (o:=⟨some 2,_,_,_,_,_⟩) (by kernel_rfl) rfl (by rfl) (fun K hK=>?_)
   go_simp
   refine hK.out _ _ ⟨HM6.out.blk,HM6.out.blk2⟩ ?_
   clear hK K
   try simp only [Act.put,List.setIfInBounds_toArray,List.set_cons_zero,List.set_cons_succ]
   refine wpAnyH_done (by kernel_rfl) ?_ _
   go_wp2_with fail
   go_ret
   exact ⟨by simp,HM6.out.one.below⟩
 ·have hc1:(c != 0)=true:=bne_iff_ne.2 hc
  clear hc
  go_wp2_with fail
  refine (zef w2 HL.out.tabs HL.out.pow).mono ?_
  rintro e w3 ⟨rfl,hb3⟩
  have HB3:=zh (HL.out.below.trans (hb3.mono HL.out.below.size))
  clear hb3
  go_wp2_with fail
  go_ret
  exact ⟨rfl,HB3.out⟩
theorem zoj (os:Os) {H:Type} (enc:TypeId × Value→H):∃ places,DataW.whole enc Tryz.prog ((laidWorld6 os).forCall (fun _ _=>0) ⟨#[],#[.string ⟨#[]⟩],[]⟩).memory Tryz.f4.params.toList Rows.showBackSpec.vars false #[Value.string ⟨#[]⟩].toList 8=some ([.lit (.string [])],[],places) :=
 ⟨[],by kernel_rfl⟩
theorem zVi (os:Os) (started:os.Started) (H:Type) (enc:TypeId × Value→H) (F:Stop.Interp) :
  ReturnsInHanded {} Tryz.checked os 4 .any ((OpenSpec.ofChange Rows.showBackSpec).preRow enc Tryz.prog Tryz.f4 Rows.showBackRow.domain false Rows.showBackRow.laid) (((OpenSpec.ofChange Rows.showBackSpec).at F).post enc Tryz.prog Tryz.f4 false true false false):=by
 obtain ⟨places,hx⟩:=zoj os enc
 refine returnsInHanded_of_row (C:=Tryz.checked) (s:=OpenSpec.ofChange Rows.showBackSpec) own started (by kernel_rfl) Tryz.func4
  (witness_row_at (enc:=enc) (C:=Tryz.checked) false (laidWorld6 os) #[.string ⟨#[]⟩] rfl (by kernel_rfl) (by kernel_rfl) (by kernel_rfl)
   (OpenSpec.preRow_of_cond 8 hx (by kernel_rfl) (fun k hk=>by cases hk) (by kernel_rfl) (zfj os))) ?_
 intro W base args ds gs before hval hW _ _ hreach hL _ _
 exact zlj Tryz.params4 (by kernel_rfl) rfl (fun _=>rfl) zUj W base args ds gs before hval hW hreach hL
theorem zuk:Rows.ShowBackSaid :=
 OpenClaim.holds_of_cond 4 Tryz.f4 rfl rfl rfl rfl rfl rfl rfl ⟨rfl,rfl,rfl,rfl,rfl⟩ rfl rfl rfl rfl rfl (by kernel_rfl) Tryz.func4 (by kernel_rfl)
  (of_decide_eq_true (by kernel_rfl)) (by unfold Func.isWrapper;first|(rw [if_pos (by decide +kernel)];kernel_rfl)|(rw [if_neg (by decide +kernel)];exact ⟨rfl,rfl⟩))
  (fun os started H enc _ F=>by rw [OpenClaim.pre_eq_preRow];exact zVi os started H enc F)
theorem zkj (f:FuncId) (fn:Func) (hf:Tryz.pinned.checked.prog.funcNamed "lychgate/lychgatelaw03.ShowBack" = some f) (hfn:Tryz.pinned.checked.prog.funcs[f]?=some fn) :
  true=Tryz.pinned.checked.prog.looks []∧∀ (j:Nat) t,fn.params[j]?=some t→Tryz.pinned.checked.prog.wantsStandIn t=false:=by
 obtain rfl:f=4:=Option.some.inj ((show Tryz.prog.funcNamed "lychgate/lychgatelaw03.ShowBack" = some 4 by kernel_rfl).symm.trans hf) |>.symm
 obtain rfl:fn=Tryz.f4:=(Option.some.inj (Tryz.func4.symm.trans hfn)).symm
 refine ⟨by kernel_rfl,fun j t ht=>?_⟩
 rw [Tryz.params4] at ht
 obtain rfl:t=9:=by simpa using Array.mem_of_getElem? ht
 exact (show Tryz.prog.wantsStandIn 9=false by kernel_rfl)
theorem showBack_card:Rows.ShowBackCardSaid :=
 Claim7.holds_tied_plain_at .later [] _ _ _ _ zuk (fun _ h=>by cases h) (by kernel_rfl) (fun _ h=>by cases h) showBack_row_tie rfl ⟨rfl,rfl⟩ (by kernel_rfl) rfl zkj (by kernel_rfl)
end Go.Proofs.YtbfgdpcgdmabpaaGreatDoor
