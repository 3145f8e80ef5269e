/- Proved here: for every text and every number that lychgatelaw03.ShowTokens is called with, in every memory in which the listed tables stand as the program lays them, the call returns true and nothing that was there has changed. -/
import Derived.Test.YtbfgdpcgdmabpaaGreatDoorY33
import Derived.Test.YtbfgdpcgdmabpaaGreatDoorY34
import Derived.Test.YtbfgdpcgdmabpaaGreatDoorY37
import Derived.Test.YtbfgdpcgdmabpaaGreatDoorY38
import Derived.Test.YtbfgdpcgdmabpaaGreatDoorY17
namespace Go.Proofs.YtbfgdpcgdmabpaaGreatDoor
set_option maxRecDepth 100000
set_option maxHeartbeats 2000000
open Go.ChangeShapes Go.WideShapes Go.ChangeAt Go.RowKit
structure StL (w:World) (g:Nat) (t:T) (kv:Value) (g2:Nat) (t2:T) (kv2:Value) (W:World):Prop where
 one:SsL w g t kv W
 blk2:Blk W g2 (zaa t2 kv2) 25
 k2:KAt 25 W t2.kids (fun _=>True) kv2
theorem StL.call {w:World} {g g2:Nat} {t t2:T} {kv kv2:Value} {W W':World} (h:StL w g t kv g2 t2 kv2 W) (hb:Below W.heap.size W W'):StL w g t kv g2 t2 kv2 W':=⟨h.one.call hb,h.blk2.stays hb,h.k2.below hb⟩
theorem StL.drew {w:World} {g g2:Nat} {t t2:T} {kv kv2:Value} {W:World} (h:StL w g t kv g2 t2 kv2 W):StL w g t kv g2 t2 kv2 W.drew:=h.call (Below.refl _ _).drew
theorem StL.blk {w:World} {g g2:Nat} {t t2:T} {kv kv2:Value} {W:World} (h:StL w g t kv g2 t2 kv2 W):Blk W g (zaa t kv) 25:=h.one.blk
theorem zAm {p:Prop} (h:p:=by
 refine hK.out _ _ HM.out.blk ?_
 clear hK K
 try simp only [Act.put,List.setIfInBounds_toArray,List.set_cons_zero,List.set_cons_succ]
 have hS:Blk W8 w1.heap.size [.int .i64 kd,.string nm,.int .i64 num,.int .i64 pl,kv] 25:=HM.out.blk
 refine wpAnyH_take (i:=15) (oi:=⟨some 11,_,_,_,_,_⟩) (v:=.int .i64 p2) rfl (by kernel_rfl) (by kernel_rfl) (by kernel_rfl) (fun _ _ _ h=>h) (Or.inl ⟨by rfl,fun W _=>by go_simp⟩) hS ?_
 try simp only [Act.put,List.setIfInBounds_toArray,List.set_cons_zero,List.set_cons_succ]
 refine wpAnyH_take (i:=16) (oi:=⟨some 12,_,_,_,_,_⟩) (v:=.int .i64 c2) rfl (by kernel_rfl) (by kernel_rfl) (by kernel_rfl) (fun _ _ _ h=>h) (Or.inl ⟨by rfl,fun W _=>by go_simp⟩) hS ?_
 try simp only [Act.put,List.setIfInBounds_toArray,List.set_cons_zero,List.set_cons_succ]
 clear hS
 refine wpAnyH_done (by kernel_rfl) ?_ _
 by_cases hc2:c2=0
 ·subst hc2
  go_wp2_with fail
  have HM2:=zh HM.out.drew
  refine wp_region_held_drew (S:=fun W=>Blk W w1.heap.size [.int .i64 kd,.string nm,.int .i64 num,.int .i64 pl,kv] 25∧Blk W g2 [.int .i64 kd2,.string nm2,.int .i64 num2,.int .i64 pl2,kv2] 25) (by kernel_rfl) ⟨HM2.out.blk,HM2.out.blk2⟩ (fun hS=>?_)
  clear HM
  generalize W8.drew=W9 at *
  refine wpAnyH_take (i:=0) (oi:=⟨some 54,_,_,_,_,_⟩) (v:=.agg #[.int .i64 kd,.string nm,.int .i64 num,.int .i64 pl,kv]) rfl (by kernel_rfl) (by kernel_rfl) (by kernel_rfl) (fun _ _ _ h=>h) (yieldsIf_load_mid (cs:=[.int .i64 kd,.string nm,.int .i64 num,.int .i64 pl,kv]) (by rfl) 25 (.tmp 5) rfl (w1.heap.size) 0 rfl _ (fun W hW j v hj=>by rw [Nat.zero_add,hW.1.cell j];exact hj) Tryz.underlying25 rfl Tryz.zla) hS ?_
  try simp only [Act.put,List.setIfInBounds_toArray,List.set_cons_zero,List.set_cons_succ]
  refine wpAnyH_take (i:=2) (oi:=⟨some 56,_,_,_,_,_⟩) (v:=.agg #[.int .i64 kd2,.string nm2,.int .i64 num2,.int .i64 pl2,kv2]) rfl (by kernel_rfl) (by kernel_rfl) (by kernel_rfl) (fun _ _ _ h=>h) (yieldsIf_load_mid (cs:=[.int .i64 kd2,.string nm2,.int .i64 num2,.int .i64 pl2,kv2]) (by rfl) 25 (.tmp 10) rfl (g2) 0 rfl _ (fun W hW j v hj=>by rw [Nat.zero_add,hW.2.cell j];exact hj) Tryz.underlying25 rfl Tryz.zla) hS ?_
  try simp only [Act.put,List.setIfInBounds_toArray,List.set_cons_zero,List.set_cons_succ]
  refine wpAnyH_take (i:=5) (oi:=⟨some 59,_,_,_,_,_⟩) (v:=.agg #[.int .i64 kd2,.string nm2,.int .i64 num2,.int .i64 pl2,kv2]) rfl (by kernel_rfl) (by kernel_rfl) (by kernel_rfl) (fun _ _ _ h=>h) (yieldsIf_load_mid (cs:=[.int .i64 kd2,.string nm2,.int .i64 num2,.int .i64 pl2,kv2]) (by rfl) 25 (.tmp 10) rfl (g2) 0 rfl _ (fun W hW j v hj=>by rw [Nat.zero_add,hW.2.cell j];exact hj) Tryz.underlying25 rfl Tryz.zla) hS ?_
  try simp only [Act.put,List.setIfInBounds_toArray,List.set_cons_zero,List.set_cons_succ]
  refine wpAnyH_take (i:=7) (oi:=⟨some 61,_,_,_,_,_⟩) (v:=.string b) rfl (by kernel_rfl) (by kernel_rfl) (by kernel_rfl) (fun _ _ _ h=>h) (Or.inl ⟨by rfl,fun W _=>by go_simp⟩) hS ?_
  try simp only [Act.put,List.setIfInBounds_toArray,List.set_cons_zero,List.set_cons_succ]
  clear hS
  refine AnyH.only (i:=1) (o:=⟨some 55,_,_,_,_,_⟩) (by kernel_rfl) rfl (by rfl) (fun K hK=>?_)
  go_simp
  refine (zkf _ (.mk kd nm num pl ks) (Nat.le_refl _) HM2.out.one.k (by have:=HQ.out.1;omega)).mono ?_
  rintro e W10 ⟨u,rfl,hu,hb⟩
  have HM3:=zh (HM2.out.call hb)
  have HU:=zh hu
  clear hb hu
  refine hK.out _ _ ⟨HM3.out.blk,HM3.out.blk2⟩ ?_
  clear hK K
  try simp only [Act.put,List.setIfInBounds_toArray,List.set_cons_zero,List.set_cons_succ]
  refine AnyH.only (i:=3) (o:=⟨some 57,_,_,_,_,_⟩) (by kernel_rfl) rfl (by rfl) (fun K hK=>?_)
  go_simp
  refine (zkf _ (.mk kd2 nm2 num2 pl2 ks2) (Nat.le_refl _) HM3.out.k2 (by have:=HQ2.out.1;omega)).mono ?_
  rintro e W11 ⟨u2,rfl,hu2,hb⟩
  have HM4:=zh (HM3.out.call hb)
  have HU1:=zh (HU.out.below hb)
  have HU2:=zh hu2
  clear hb hu2
  refine hK.out _ _ ⟨HM4.out.blk,HM4.out.blk2⟩ ?_
  clear hK K
  try simp only [Act.put,List.setIfInBounds_toArray,List.set_cons_zero,List.set_cons_succ]
  refine AnyH.only (i:=4) (o:=⟨some 58,_,_,_,_,_⟩) (by kernel_rfl) rfl (by rfl) (fun K hK=>?_)
  go_simp
  refine (alike_any _ (.mk kd nm num pl ks) (.mk kd2 nm2 num2 pl2 ks2) false (Nat.le_refl _) HU1.out HU2.out (by have:=HQ.out.1;have h9:=zdb ks;rw [size_mk] at this;show ks.length≤_;omega) (by have:=HQ2.out.1;have h9:=zdb ks2;rw [size_mk] at this;show ks2.length≤_;omega) (by have:=HQ.out.1;omega) (by have:=HQ2.out.1;omega)).mono ?_
  obtain ⟨X,hX⟩:∃ X,zQc false (.mk kd nm num pl ks) (.mk kd2 nm2 num2 pl2 ks2)=X:=⟨_,rfl⟩
  have HX:=zh hX
  rw [hX]
  clear hX
  rintro e W12 ⟨rfl,hb⟩
  have HM5:=zh (HM4.out.call hb)
  clear hb
  refine hK.out _ _ ⟨HM5.out.blk,HM5.out.blk2⟩ ?_
  clear hK K
  try simp only [Act.put,List.setIfInBounds_toArray,List.set_cons_zero,List.set_cons_succ]
  refine AnyH.only (i:=6) (o:=⟨some 60,_,_,_,_,_⟩) (by kernel_rfl) rfl (by rfl) (fun K hK=>?_)
  go_simp
  refine (zGg (t:=.mk kd2 nm2 num2 pl2 ks2) HM5.out.k2 HM5.out.one.pow HQ2.out.2.1 HQ2.out.2.2.1 (by have:=HQ2.out.1;omega)).mono ?_
  obtain ⟨b2,hb2⟩:∃ b2,(⟨(shw 0 (.mk kd2 nm2 num2 pl2 ks2)).toArray⟩:ByteArray)=b2:=⟨_,rfl⟩
  have HB2:=zh hb2
  rw [hb2]
  clear hb2
  rintro e W13 ⟨rfl,hb⟩
  have HM6:=zh (HM5.out.call hb)
  clear hb
  have hXX:(b2.toList == b.toList)=X:=by
   rw [← HX.out,zAp HQ.out.2.2.2 HQ2.out.2.2.2,← HB2.out,← HBT.out,show (⟨(shw 0 (.mk kd2 nm2 num2 pl2 ks2)).toArray⟩:ByteArray)=bs (shw 0 (.mk kd2 nm2 num2 pl2 ks2)) from rfl,show (⟨(shw 0 (.mk kd nm num pl ks)).toArray⟩:ByteArray)=bs (shw 0 (.mk kd nm num pl ks)) from rfl,zHe,zHe]
  refine hK.out _ _ ⟨HM6.out.blk,HM6.out.blk2⟩ ?_
  clear hK K
  try simp only [Act.put,List.setIfInBounds_toArray,List.set_cons_zero,List.set_cons_succ]
  refine AnyH.only (i:=8) (o:=⟨some 62,_,_,_,_,_⟩) (by kernel_rfl) rfl (by rfl) (fun K hK=>?_)
  go_simp
  refine hK.out _ _ ⟨HM6.out.blk,HM6.out.blk2⟩ ?_
  clear hK K
  try simp only [Act.put,List.setIfInBounds_toArray,List.set_cons_zero,List.set_cons_succ]
  refine AnyH.only (i:=9) (o:=⟨some 63,_,_,_,_,_⟩) (by kernel_rfl) rfl (by rfl) (fun K hK=>?_)
  go_simp
  refine hK.out _ _ ⟨HM6.out.blk,HM6.out.blk2⟩ ?_
  clear hK K
  try simp only [Act.put,List.setIfInBounds_toArray,List.set_cons_zero,List.set_cons_succ]
  refine AnyH.only (i:=10) (o:=⟨some 4,_,_,_,_,_⟩) (by kernel_rfl) rfl (by rfl) (fun K hK=>?_)
  go_simp
  refine hK.out _ _ ⟨HM6.out.blk,HM6.out.blk2⟩ ?_
  clear hK K
  try simp only [Act.put,List.setIfInBounds_toArray,List.set_cons_zero,List.set_cons_succ]
  refine wpAnyH_done (by kernel_rfl) ?_ _
  go_wp2_with fail
  go_ret
  exact ⟨by simp [hXX],HM6.out.one.below⟩
 ·have hc3:(c2 != 0)=true:=bne_iff_ne.2 hc2
  clear hc2
  go_wp2_with fail
  go_ret
  exact ⟨rfl,HM.out.one.below⟩):p:=h
theorem zLi (s:ByteArray) (n:Int) (w:World) (hs:s.size≤maxLen) (_:s.size≤140737488351232) (hwf:(Lit.int .i64 n).wf=true) (ht:Tabs w) (hp:Pow w) :
  Calls Tryz.prog 5 #[.string s,.int .i64 n] w fun e w'=>e=.returned (.bool true)∧Below w.heap.size w w':=by
 have HT:=zh ht
 have HP:=zh hp
 have HWF:=zh hwf
 have HQ:=zh (show (zvb s).1.size≤4096∧(zvb s).1.whole∧(zvb s).1.small∧zqg (zvb s).1 from ⟨(zcg s).2,(zDe s).2,zJe s,zSf s⟩)
 go_enter Tryz.func5,Tryz.ntmps5
 go_wp2_with fail
 refine (parse_any s w hs ht).mono ?_
 clear ht hp hwf
 generalize zvb s=q at HQ
 obtain ⟨⟨kd,nm,num,pl,ks⟩,p,c⟩:=q
 rintro e w1 ⟨kv,rfl,hk,hb⟩
 obtain ⟨W1,hW1,HL⟩:∃ W,w1.alloc (.cells [.int .i64 kd,.string nm,.int .i64 num,.int .i64 pl,kv].toArray 25)=W∧Hid (SsL w w1.heap.size (.mk kd nm num pl ks) kv W) :=
  ⟨_,rfl,zh ⟨hb.alloc hb.size _,HT.out.below (hb.alloc hb.size _) HT.out.size,HP.out.later (hb.alloc hb.size _),Blk.new w1 _ _,(hk.keep fun b _ hl=>⟨hl,rfl⟩:KAt 25 w1 ks (fun b=>b<w1.heap.size) kv).alloc _⟩⟩
 have HO:=zh (show kv.oneCell'=true from hk.one)
 clear hk hb
 unfold zmb
 go_wp2_with ((with_reducible refine zlb 25 (.tmp 5) ?_);refine zcb rfl 25 (.tmp 5) (.tmp 16) rfl [.int .i64 kd,.string nm,.int .i64 num,.int .i64 pl,kv] (old:=zga) rfl rfl Tryz.zla rfl (zoa (.mk kd nm num pl ks) _ HO.out) ?_)
 refine (zef W1 HL.out.tabs HL.out.pow).mono ?_
 rintro e w2 ⟨rfl,hb2⟩
 replace HL:=zh (HL.out.call hb2)
 clear hb2 hW1
 by_cases hc:c=0
 ·subst hc
  by_cases hlong:16364<s.size
  ·go_wp2_with fail
   refine (zef w2 HL.out.tabs HL.out.pow).mono ?_
   rintro e w3 ⟨rfl,hb3⟩
   have HB3:=zh (HL.out.below.trans (hb3.mono HL.out.below.size))
   clear hb3
   go_wp2_with fail
   go_ret
   exact ⟨rfl,HB3.out⟩
  go_wp2_with ((with_reducible refine zCc 25 (.tmp 5) ?_);refine zAa rfl 25 (.tmp 5) rfl (w1.heap.size) [.int .i64 kd,.string nm,.int .i64 num,.int .i64 pl,kv] rfl HL.out.blk Tryz.underlying25 rfl Tryz.zla ?_)
  have HBD:=zh (zvi (d:=0) HQ.out.2.2.1 HQ.out.2.1 (by have:=HQ.out.1;omega) (by omega))
  refine (zGg (t:=.mk kd nm num pl ks) HL.out.k HL.out.pow HQ.out.2.1 HQ.out.2.2.1 (by have:=HQ.out.1;omega)).mono ?_
  obtain ⟨b,hbt⟩:∃ b,(⟨(shw 0 (.mk kd nm num pl ks)).toArray⟩:ByteArray)=b:=⟨_,rfl⟩
  have HBT:=zh hbt
  rw [hbt]
  clear hbt HBD
  rintro e w3 ⟨rfl,hb3⟩
  replace HL:=zh (HL.out.call hb3)
  clear hb3
  go_wp2_with fail
  have hx:0≤max 0 n % ((s.size:Int)+1)∧max 0 n % ((s.size:Int)+1)≤s.size:=⟨Int.emod_nonneg _ (by omega),by have:=Int.emod_lt_of_pos (max 0 n) (show (0:Int)<(s.size:Int)+1 by omega);omega⟩
  generalize max 0 n % ((s.size:Int)+1)=x at *
  obtain ⟨k,rfl⟩:∃ k:Nat,x=k:=⟨x.toNat,by omega⟩
  have hk:k≤s.size:=by omega
  have hz1:s.size≤16364:=by omega
  clear hx
  have HL2:=zh HL.out.drew
  refine wp_region_held_drew (S:=fun W=>Blk W w1.heap.size [.int .i64 kd,.string nm,.int .i64 num,.int .i64 pl,kv] 25) (by kernel_rfl) HL2.out.blk (fun hS=>?_)
  clear HL
  generalize w3.drew=W6 at *
  refine wpAnyH_take (i:=0) (oi:=⟨some 40,_,_,_,_,_⟩) (v:=.string s) rfl (by kernel_rfl) (by kernel_rfl) (by kernel_rfl) (fun _ _ _ h=>h) (Or.inl ⟨by rfl,fun W _=>by go_simp⟩) hS ?_
  try simp only [Act.put,List.setIfInBounds_toArray,List.set_cons_zero,List.set_cons_succ]
  refine wpAnyH_take (i:=1) (oi:=⟨some 41,_,_,_,_,_⟩) (v:=.int .i64 k) rfl (by kernel_rfl) (by kernel_rfl) (by kernel_rfl) (fun _ _ _ h=>h) (Or.inl ⟨by rfl,fun W _=>by go_simp⟩) hS ?_
  try simp only [Act.put,List.setIfInBounds_toArray,List.set_cons_zero,List.set_cons_succ]
  refine wpAnyH_take (i:=4) (oi:=⟨some 44,_,_,_,_,_⟩) (v:=.string s) rfl (by kernel_rfl) (by kernel_rfl) (by kernel_rfl) (fun _ _ _ h=>h) (Or.inl ⟨by rfl,fun W _=>by go_simp⟩) hS ?_
  try simp only [Act.put,List.setIfInBounds_toArray,List.set_cons_zero,List.set_cons_succ]
  refine wpAnyH_take (i:=5) (oi:=⟨some 45,_,_,_,_,_⟩) (v:=.int .i64 k) rfl (by kernel_rfl) (by kernel_rfl) (by kernel_rfl) (fun _ _ _ h=>h) (Or.inl ⟨by rfl,fun W _=>by go_simp⟩) hS ?_
  try simp only [Act.put,List.setIfInBounds_toArray,List.set_cons_zero,List.set_cons_succ]
  refine wpAnyH_take (i:=2) (oi:=⟨some 42,_,_,_,_,_⟩) (v:=.string (s.extract 0 k)) rfl (by kernel_rfl) (by kernel_rfl) (by kernel_rfl) (fun _ _ _ h=>h) (Or.inl ⟨by rfl,fun W _=>by go_simp⟩) hS ?_
  try simp only [Act.put,List.setIfInBounds_toArray,List.set_cons_zero,List.set_cons_succ]
  refine wpAnyH_take (i:=6) (oi:=⟨some 46,_,_,_,_,_⟩) (v:=.string (s.extract k s.size)) rfl (by kernel_rfl) (by kernel_rfl) (by kernel_rfl) (fun _ _ _ h=>h) (Or.inl ⟨by rfl,fun W _=>by go_simp⟩) hS ?_
  try simp only [Act.put,List.setIfInBounds_toArray,List.set_cons_zero,List.set_cons_succ]
  have hA:(s.extract 0 k).size≤16364:=by rw [ByteArray.size_extract];omega
  have hB:(s.extract k s.size).size≤16364:=by rw [ByteArray.size_extract];omega
  generalize s.extract 0 k=A at *
  generalize s.extract k s.size=B at *
  have hA2:A.size≤140737488351232:=by omega
  have hB2:B.size≤140737488351232:=by omega
  have hA3:A.size≤9223372036854775802:=by omega
  refine wpAnyH_take (i:=3) (oi:=⟨some 43,_,_,_,_,_⟩) (v:=.string (A++⟨#[32,35,120,10,32]⟩)) rfl (by kernel_rfl) (by kernel_rfl) (by kernel_rfl) (fun _ _ _ h=>h) (Or.inl ⟨by rfl,fun W _=>by go_simp⟩) hS ?_
  try simp only [Act.put,List.setIfInBounds_toArray,List.set_cons_zero,List.set_cons_succ]
  have hC:(A++⟨#[32,35,120,10,32]⟩:ByteArray).size≤16369:=by rw [ByteArray.size_append];have:(⟨#[32,35,120,10,32]⟩:ByteArray).size=5:=rfl;omega
  generalize (A++⟨#[32,35,120,10,32]⟩:ByteArray)=C at *
  have hC2:C.size≤140737488351232:=by omega
  have hC3:C.size+B.size≤9223372036854775807:=by omega
  refine wpAnyH_take (i:=7) (oi:=⟨some 47,_,_,_,_,_⟩) (v:=.string (C++B)) rfl (by kernel_rfl) (by kernel_rfl) (by kernel_rfl) (fun _ _ _ h=>h) (Or.inl ⟨by rfl,fun W _=>by go_simp⟩) hS ?_
  try simp only [Act.put,List.setIfInBounds_toArray,List.set_cons_zero,List.set_cons_succ]
  have hD:(C++B).size≤40000:=by rw [ByteArray.size_append];omega
  generalize C++B=D at *
  clear hS hA hB hC hA2 hB2 hC2 hA3 hC3
  have hDm:D.size≤maxLen:=by unfold maxLen;omega
  have HQ2:=zh (show (zvb D).1.size≤4096∧(zvb D).1.whole∧(zvb D).1.small∧zqg (zvb D).1 from ⟨(zcg D).2,(zDe D).2,zJe D,zSf D⟩)
  obtain ⟨⟨⟨kd2,nm2,num2,pl2,ks2⟩,p2,c2⟩,hq2⟩:∃ q,zvb D=q:=⟨_,rfl⟩
  rw [hq2] at HQ2
  have HD:=zh hq2
  clear hq2 hk hz1 hlong
  refine AnyH.pair (i:=8) (k:=13) (o:=⟨some 48,_,_,_,_,_⟩) (u:=⟨some 10,_,_,_,_,_⟩) (by kernel_rfl) rfl rfl (by rfl) (by rfl) (fun K hK=>?_) (fun K hK=>?_)
  ·skip
   go_simp
   refine (parse_any D W6 hDm HL2.out.tabs).mono ?_
   rw [HD.out]
   rintro e W7 ⟨kv2,rfl,hk2,hb⟩
   have HO2:=zh (show kv2.oneCell'=true from hk2.one)
   have HL3:=zh (HL2.out.call hb)
   have HK2:=zh (hk2.mono (S':=fun _=>True) fun _ _ _=>trivial)
   clear hk2 hb
   unfold zmb
   refine hK.out _ _ HL3.out.blk ?_
   clear hK K
   have hS:Blk W7 w1.heap.size [.int .i64 kd,.string nm,.int .i64 num,.int .i64 pl,kv] 25:=HL3.out.blk
   refine wpAnyH_take (i:=9) (oi:=⟨some 39,_,_,_,_,_⟩) (v:=.tuple #[.agg #[.int .i64 kd2,.string nm2,.int .i64 num2,.int .i64 pl2,kv2],.int .i64 p2,.int .i64 c2]) rfl (by kernel_rfl) (by kernel_rfl) (by kernel_rfl) (fun _ _ _ h=>h) (Or.inl ⟨by rfl,fun W _=>by go_simp;try exact ⟨rfl,rfl,rfl,rfl⟩⟩) hS ?_
   try simp only [Act.put,List.setIfInBounds_toArray,List.set_cons_zero,List.set_cons_succ]
   refine wpAnyH_take (i:=10) (oi:=⟨some 49,_,_,_,_,_⟩) (v:=.agg #[.int .i64 kd2,.string nm2,.int .i64 num2,.int .i64 pl2,kv2]) rfl (by kernel_rfl) (by kernel_rfl) (by kernel_rfl) (fun _ _ _ h=>h) (Or.inl ⟨by rfl,fun W _=>by go_simp⟩) hS ?_
   try simp only [Act.put,List.setIfInBounds_toArray,List.set_cons_zero,List.set_cons_succ]
   refine wpAnyH_take (i:=11) (oi:=⟨some 50,_,_,_,_,_⟩) (v:=.int .i64 p2) rfl (by kernel_rfl) (by kernel_rfl) (by kernel_rfl) (fun _ _ _ h=>h) (Or.inl ⟨by rfl,fun W _=>by go_simp⟩) hS ?_
   try simp only [Act.put,List.setIfInBounds_toArray,List.set_cons_zero,List.set_cons_succ]
   refine wpAnyH_take (i:=12) (oi:=⟨some 51,_,_,_,_,_⟩) (v:=.int .i64 c2) rfl (by kernel_rfl) (by kernel_rfl) (by kernel_rfl) (fun _ _ _ h=>h) (Or.inl ⟨by rfl,fun W _=>by go_simp⟩) hS ?_
   try simp only [Act.put,List.setIfInBounds_toArray,List.set_cons_zero,List.set_cons_succ]
   clear hS
   refine AnyH.only (i:=13) (o:=⟨some 10,_,_,_,_,_⟩) (by kernel_rfl) rfl (by rfl) (fun K hK=>?_)
   go_simp
   refine hK.out _ _ (HL3.out.blk.alloc _) ?_
   clear hK K
   try simp only [Act.put,List.setIfInBounds_toArray,List.set_cons_zero,List.set_cons_succ]
   refine AnyH.only (i:=14) (o:=⟨none,_,_,_,_,_⟩) (by kernel_rfl) rfl (by rfl) (fun K hK=>?_)
   refine zic 25 (.tmp 10) (.tmp 49) rfl W7.heap.size [.int .i64 kd2,.string nm2,.int .i64 num2,.int .i64 pl2,kv2] rfl rfl (Blk.new W7 zga 25) Tryz.zla rfl (zoa (.mk kd2 nm2 num2 pl2 ks2) _ HO2.out) ?_
   have HM:=zh (show StL w w1.heap.size (.mk kd nm num pl ks) kv W7.heap.size (.mk kd2 nm2 num2 pl2 ks2) kv2 (W7.alloc (.cells ([.int .i64 kd2,.string nm2,.int .i64 num2,.int .i64 pl2,kv2]:List Value).toArray 25)) from ⟨HL3.out.call ((Below.refl _ _).alloc (Nat.le_refl _) _),Blk.new W7 _ _,HK2.out.alloc _⟩)
   rw [zrj]
   generalize W7.alloc (.cells ([.int .i64 kd2,.string nm2,.int .i64 num2,.int .i64 pl2,kv2]:List Value).toArray 25)=W8 at *
   generalize W7.heap.size=g2 at *
   exact zAm
  ·skip
   go_simp
   refine hK.out _ _ (HL2.out.blk.alloc _) ?_
   clear hK K
   try simp only [Act.put,List.setIfInBounds_toArray,List.set_cons_zero,List.set_cons_succ]
   refine AnyH.only (i:=8) (o:=⟨some 48,_,_,_,_,_⟩) (by kernel_rfl) rfl (by rfl) (fun K hK=>?_)
   go_simp
   refine (parse_any D _ hDm (HL2.out.call ((Below.refl _ _).alloc (Nat.le_refl _) _)).tabs).mono ?_
   rw [HD.out]
   rintro e W7 ⟨kv2,rfl,hk2,hb⟩
   have HO2:=zh (show kv2.oneCell'=true from hk2.one)
   have HK2:=zh hk2
   have hba:Below W6.heap.size W6 (W6.alloc (.cells (zga:List Value).toArray 25)):=(Below.refl _ _).alloc (Nat.le_refl _) _
   have HB6:=zh (hba.trans (hb.mono hba.size))
   have HBK:=zh ((Blk.new W6 zga 25).stays hb)
   clear hk2 hb hba
   unfold zmb
   refine hK.out _ _ (HL2.out.call HB6.out).blk ?_
   clear hK K
   have hS:Blk W7 w1.heap.size [.int .i64 kd,.string nm,.int .i64 num,.int .i64 pl,kv] 25:=(HL2.out.call HB6.out).blk
   refine wpAnyH_take (i:=9) (oi:=⟨some 39,_,_,_,_,_⟩) (v:=.tuple #[.agg #[.int .i64 kd2,.string nm2,.int .i64 num2,.int .i64 pl2,kv2],.int .i64 p2,.int .i64 c2]) rfl (by kernel_rfl) (by kernel_rfl) (by kernel_rfl) (fun _ _ _ h=>h) (Or.inl ⟨by rfl,fun W _=>by go_simp;try exact ⟨rfl,rfl,rfl,rfl⟩⟩) hS ?_
   try simp only [Act.put,List.setIfInBounds_toArray,List.set_cons_zero,List.set_cons_succ]
   refine wpAnyH_take (i:=10) (oi:=⟨some 49,_,_,_,_,_⟩) (v:=.agg #[.int .i64 kd2,.string nm2,.int .i64 num2,.int .i64 pl2,kv2]) rfl (by kernel_rfl) (by kernel_rfl) (by kernel_rfl) (fun _ _ _ h=>h) (Or.inl ⟨by rfl,fun W _=>by go_simp⟩) hS ?_
   try simp only [Act.put,List.setIfInBounds_toArray,List.set_cons_zero,List.set_cons_succ]
   refine wpAnyH_take (i:=11) (oi:=⟨some 50,_,_,_,_,_⟩) (v:=.int .i64 p2) rfl (by kernel_rfl) (by kernel_rfl) (by kernel_rfl) (fun _ _ _ h=>h) (Or.inl ⟨by rfl,fun W _=>by go_simp⟩) hS ?_
   try simp only [Act.put,List.setIfInBounds_toArray,List.set_cons_zero,List.set_cons_succ]
   refine wpAnyH_take (i:=12) (oi:=⟨some 51,_,_,_,_,_⟩) (v:=.int .i64 c2) rfl (by kernel_rfl) (by kernel_rfl) (by kernel_rfl) (fun _ _ _ h=>h) (Or.inl ⟨by rfl,fun W _=>by go_simp⟩) hS ?_
   try simp only [Act.put,List.setIfInBounds_toArray,List.set_cons_zero,List.set_cons_succ]
   clear hS
   refine AnyH.only (i:=14) (o:=⟨none,_,_,_,_,_⟩) (by kernel_rfl) rfl (by rfl) (fun K hK=>?_)
   refine zic 25 (.tmp 10) (.tmp 49) rfl W6.heap.size [.int .i64 kd2,.string nm2,.int .i64 num2,.int .i64 pl2,kv2] rfl rfl HBK.out Tryz.zla rfl (zoa (.mk kd2 nm2 num2 pl2 ks2) _ HO2.out) ?_
   have HM:=zh (show StL w w1.heap.size (.mk kd nm num pl ks) kv W6.heap.size (.mk kd2 nm2 num2 pl2 ks2) kv2 (W7.setRow W6.heap.size ([.int .i64 kd2,.string nm2,.int .i64 num2,.int .i64 pl2,kv2]:List Value).toArray) from ⟨HL2.out.call (Below.row HB6.out (Nat.le_refl _) _),HBK.out.zZc _,(HK2.out.setRow _ _ (fun b hb e=>by rw [e] at hb;simp at hb;omega)).mono fun _ _ _=>trivial⟩)
   generalize W7.setRow W6.heap.size ([.int .i64 kd2,.string nm2,.int .i64 num2,.int .i64 pl2,kv2]:List Value).toArray=W8 at *
   generalize W6.heap.size=g2 at *
   exact zAm
 ·have hc1:(c != 0)=true:=bne_iff_ne.2 hc
  clear hc
  go_wp2_with fail
  refine (zef w2 HL.out.tabs HL.out.pow).mono ?_
  rintro e w3 ⟨rfl,hb3⟩
  have HB3:=zh (HL.out.below.trans (hb3.mono HL.out.below.size))
  clear hb3
  go_wp2_with fail
  go_ret
  exact ⟨rfl,HB3.out⟩
theorem zSh (os:Os) {H:Type} (enc:TypeId × Value→H):∃ places,DataW.whole enc Tryz.prog ((laidWorld6 os).forCall (fun _ _=>0) ⟨#[],#[.string ⟨#[]⟩,.int .i64 0],[]⟩).memory Tryz.f5.params.toList Rows.showTokensSpec.vars false #[Value.string ⟨#[]⟩,Value.int .i64 0].toList 8=some ([.lit (.string []),.lit (.int .i64 0)],[],places) :=
 ⟨[],by kernel_rfl⟩
theorem zlh (os:Os) (started:os.Started) (H:Type) (enc:TypeId × Value→H) (F:Stop.Interp) :
  ReturnsInHanded {} Tryz.checked os 5 .any ((OpenSpec.ofChange Rows.showTokensSpec).preRow enc Tryz.prog Tryz.f5 Rows.showTokensRow.domain false Rows.showTokensRow.laid) (((OpenSpec.ofChange Rows.showTokensSpec).at F).post enc Tryz.prog Tryz.f5 false true false false):=by
 obtain ⟨places,hx⟩:=zSh os enc
 refine returnsInHanded_of_row (C:=Tryz.checked) (s:=OpenSpec.ofChange Rows.showTokensSpec) own started (by kernel_rfl) Tryz.func5
  (witness_row_at (enc:=enc) (C:=Tryz.checked) false (laidWorld6 os) #[.string ⟨#[]⟩,.int .i64 0] rfl (by kernel_rfl) (by kernel_rfl) (by kernel_rfl)
   (OpenSpec.preRow_of_cond 8 hx (by kernel_rfl) (fun k hk=>by cases hk) (by kernel_rfl) (znh os))) ?_
 intro W base args ds gs before hval hW _ _ hreach hL _ _
 exact zrh Tryz.params5 (by kernel_rfl) rfl (fun _ _=>rfl) zLi W base args ds gs before hval hW hreach hL
theorem zAi:Rows.ShowTokensSaid :=
 OpenClaim.holds_of_cond 5 Tryz.f5 rfl rfl rfl rfl rfl rfl rfl ⟨rfl,rfl,rfl,rfl,rfl⟩ rfl rfl rfl rfl rfl (by kernel_rfl) Tryz.func5 (by kernel_rfl)
  (of_decide_eq_true (by kernel_rfl)) (by unfold Func.isWrapper;first|(rw [if_pos (by decide +kernel)];kernel_rfl)|(rw [if_neg (by decide +kernel)];exact ⟨rfl,rfl⟩))
  (fun os started H enc _ F=>by rw [OpenClaim.pre_eq_preRow];exact zlh os started H enc F)
theorem zYh (f:FuncId) (fn:Func) (hf:Tryz.pinned.checked.prog.funcNamed "lychgate/lychgatelaw03.ShowTokens" = some f) (hfn:Tryz.pinned.checked.prog.funcs[f]?=some fn) :
  true=Tryz.pinned.checked.prog.looks []∧∀ (j:Nat) t,fn.params[j]?=some t→Tryz.pinned.checked.prog.wantsStandIn t=false:=by
 obtain rfl:f=5:=Option.some.inj ((show Tryz.prog.funcNamed "lychgate/lychgatelaw03.ShowTokens" = some 5 by kernel_rfl).symm.trans hf) |>.symm
 obtain rfl:fn=Tryz.f5:=(Option.some.inj (Tryz.func5.symm.trans hfn)).symm
 refine ⟨by kernel_rfl,fun j t ht=>?_⟩
 rw [Tryz.params5] at ht
 have hm:t=9∨t=3:=by simpa using Array.mem_of_getElem? ht
 rcases hm with rfl|rfl
 ·exact (show Tryz.prog.wantsStandIn 9=false by kernel_rfl)
 ·exact (show Tryz.prog.wantsStandIn 3=false by kernel_rfl)
theorem showTokens_card:Rows.ShowTokensCardSaid :=
 Claim7.holds_tied_plain_at .later [] _ _ _ _ zAi (fun _ h=>by cases h) (by kernel_rfl) (fun _ h=>by cases h) showTokens_row_tie rfl ⟨rfl,rfl⟩ (by kernel_rfl) rfl zYh (by kernel_rfl)
end Go.Proofs.YtbfgdpcgdmabpaaGreatDoor
