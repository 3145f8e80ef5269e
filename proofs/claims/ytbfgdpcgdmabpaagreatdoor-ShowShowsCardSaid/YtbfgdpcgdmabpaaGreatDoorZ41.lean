/- Proved here: for every text that lychgatelaw03.ShowShows is called with, in every memory in which the listed tables stand as the program lays them, the call returns true and nothing that was there has changed. -/
import Derived.Test.YtbfgdpcgdmabpaaGreatDoorZ33
import Derived.Test.YtbfgdpcgdmabpaaGreatDoorZ34
import Derived.Test.YtbfgdpcgdmabpaaGreatDoorZ40
import Derived.Test.YtbfgdpcgdmabpaaGreatDoorZ14
namespace Go.Proofs.YtbfgdpcgdmabpaaGreatDoor
set_option maxRecDepth 100000
set_option maxHeartbeats 2000000
open Go.ChangeShapes Go.WideShapes Go.ChangeAt Go.RowKit
structure SsL (w:World) (g:Nat) (t:T) (kv:Value) (W:World):Prop where
 below:Below w.heap.size w W
 tabs:Tabs W
 pow:Pow W
 blk:Blk W g (zaa t kv) 25
 k:KAt 25 W t.kids (fun b=>b<g) kv
theorem SsL.call {w:World} {g:Nat} {t:T} {kv:Value} {W W':World} (h:SsL w g t kv W) (hb:Below W.heap.size W W'):SsL w g t kv W' :=
 ⟨h.below.trans (hb.mono h.below.size),h.tabs.below hb h.tabs.size,h.pow.later hb,h.blk.stays hb,h.k.below hb⟩
theorem SsL.drew {w:World} {g:Nat} {t:T} {kv:Value} {W:World} (h:SsL w g t kv W):SsL w g t kv W.drew:=h.call (Below.refl _ _).drew
theorem zIh (s:ByteArray) (w:World) (hs:s.size≤maxLen) (_:s.size≤140737488351232) (ht:Tabs w) (hp:Pow w) :
  Calls Tryz.prog 3 #[.string s] w fun e w'=>e=.returned (.bool true)∧Below w.heap.size w w':=by
 have HT:=zh ht
 have HP:=zh hp
 have HQ:=zh (show (zqb s).1.size≤4096∧(zqb s).1.whole∧(zqb s).1.small from ⟨(zel s).2,(zeh s).2,zuh s⟩)
 go_enter Tryz.func3,Tryz.ntmps3
 go_wp2_with fail
 refine (parse_any s w hs ht).mono ?_
 clear ht hp
 generalize zqb s=q at HQ
 obtain ⟨⟨kd,nm,num,pl,ks⟩,p,c⟩:=q
 rintro e w1 ⟨kv,rfl,hk,hb⟩
 obtain ⟨W1,hW1,HL⟩:∃ W,w1.alloc (.cells [.int .i64 kd,.string nm,.int .i64 num,.int .i64 pl,kv].toArray 25)=W∧Hid (SsL w w1.heap.size (.mk kd nm num pl ks) kv W) :=
  ⟨_,rfl,zh ⟨hb.alloc hb.size _,HT.out.below (hb.alloc hb.size _) HT.out.size,HP.out.later (hb.alloc hb.size _),Blk.new w1 _ _,(hk.keep fun b _ hl=>⟨hl,rfl⟩:KAt 25 w1 ks (fun b=>b<w1.heap.size) kv).alloc _⟩⟩
 have HO:=zh (show kv.oneCell'=true from hk.one)
 clear hk hb
 unfold zKa
 go_wp2_with ((with_reducible refine zDa 25 (.tmp 3) ?_);refine zua rfl 25 (.tmp 3) (.tmp 9) rfl [.int .i64 kd,.string nm,.int .i64 num,.int .i64 pl,kv] (old:=zba) rfl rfl Tryz.zda rfl (zea (.mk kd nm num pl ks) _ HO.out) ?_)
 have HL2:=zh HL.out.drew
 refine wp_region_held_drew (S:=fun W=>Blk W w1.heap.size [.int .i64 kd,.string nm,.int .i64 num,.int .i64 pl,kv] 25) (by kernel_rfl) HL2.out.blk (fun _=>?_)
 clear HL hW1
 generalize W1.drew=W2 at *
 refine AnyH.only (i:=0) (o:=⟨some 12,_,_,_,_,_⟩) (by kernel_rfl) rfl (by rfl) (fun K hK=>?_)
 go_simp
 refine (zjl W2 HL2.out.tabs HL2.out.pow).mono ?_
 rintro e W3 ⟨rfl,hb⟩
 have HL3:=zh (HL2.out.call hb)
 clear hb
 refine hK.out _ _ HL3.out.blk ?_
 clear hK K
 try simp only [Act.put,List.setIfInBounds_toArray,List.set_cons_zero,List.set_cons_succ]
 refine AnyH.only (i:=1) (o:=⟨some 13,_,_,_,_,_⟩) (by kernel_rfl) rfl (by rfl) (fun K hK=>?_)
 go_simp
 refine hK.out _ _ HL3.out.blk ?_
 clear hK K
 try simp only [Act.put,List.setIfInBounds_toArray,List.set_cons_zero,List.set_cons_succ]
 have hS:Blk W3 w1.heap.size [.int .i64 kd,.string nm,.int .i64 num,.int .i64 pl,kv] 25:=HL3.out.blk
 refine wpAnyH_take (i:=2) (oi:=⟨some 14,_,_,_,_,_⟩) (v:=.agg #[.int .i64 kd,.string nm,.int .i64 num,.int .i64 pl,kv]) rfl (by kernel_rfl) (by kernel_rfl) (by kernel_rfl) (fun _ _ _ h=>h) (yieldsIf_load_mid (cs:=[.int .i64 kd,.string nm,.int .i64 num,.int .i64 pl,kv]) (by rfl) 25 (.tmp 3) rfl (w1.heap.size) 0 rfl _ (fun W hW j v hj=>by rw [Nat.zero_add,hW.cell j];exact hj) Tryz.underlying25 rfl Tryz.zda) hS ?_
 try simp only [Act.put,List.setIfInBounds_toArray,List.set_cons_zero,List.set_cons_succ]
 refine wpAnyH_take (i:=4) (oi:=⟨some 16,_,_,_,_,_⟩) (v:=.agg #[.int .i64 kd,.string nm,.int .i64 num,.int .i64 pl,kv]) rfl (by kernel_rfl) (by kernel_rfl) (by kernel_rfl) (fun _ _ _ h=>h) (yieldsIf_load_mid (cs:=[.int .i64 kd,.string nm,.int .i64 num,.int .i64 pl,kv]) (by rfl) 25 (.tmp 3) rfl (w1.heap.size) 0 rfl _ (fun W hW j v hj=>by rw [Nat.zero_add,hW.cell j];exact hj) Tryz.underlying25 rfl Tryz.zda) hS ?_
 try simp only [Act.put,List.setIfInBounds_toArray,List.set_cons_zero,List.set_cons_succ]
 clear hS
 refine AnyH.only (i:=3) (o:=⟨some 15,_,_,_,_,_⟩) (by kernel_rfl) rfl (by rfl) (fun K hK=>?_)
 go_simp
 refine (zKk (t:=.mk kd nm num pl ks) HL3.out.k HL3.out.pow HQ.out.2.1 HQ.out.2.2 (by have:=HQ.out.1;omega)).mono ?_
 rintro e W4 ⟨rfl,hb⟩
 have HL4:=zh (HL3.out.call hb)
 clear hb
 refine hK.out _ _ HL4.out.blk ?_
 clear hK K
 try simp only [Act.put,List.setIfInBounds_toArray,List.set_cons_zero,List.set_cons_succ]
 refine AnyH.only (i:=5) (o:=⟨some 17,_,_,_,_,_⟩) (by kernel_rfl) rfl (by rfl) (fun K hK=>?_)
 go_simp
 refine (zVj _ (.mk kd nm num pl ks) (Nat.le_refl _) HL4.out.k (by have:=HQ.out.1;omega)).mono ?_
 rintro e W5 ⟨u,rfl,hu,hb⟩
 have HL5:=zh (HL4.out.call hb)
 have HU:=zh hu
 clear hb hu
 refine hK.out _ _ HL5.out.blk ?_
 clear hK K
 try simp only [Act.put,List.setIfInBounds_toArray,List.set_cons_zero,List.set_cons_succ]
 refine AnyH.only (i:=6) (o:=⟨some 18,_,_,_,_,_⟩) (by kernel_rfl) rfl (by rfl) (fun K hK=>?_)
 go_simp
 refine (zrn (w:=W5) (t:=.mk kd nm num pl ks) (S:=fun b=>b<W5.heap.size) (HU.out.mono fun b _ hl=>hl) (fun b h=>h) HQ.out.2.1 HQ.out.2.2 HQ.out.1).mono ?_
 rintro e W6 ⟨rfl,hb⟩
 have HL6:=zh (HL5.out.call hb)
 clear hb
 refine hK.out _ _ HL6.out.blk ?_
 clear hK K
 try simp only [Act.put,List.setIfInBounds_toArray,List.set_cons_zero,List.set_cons_succ]
 obtain ⟨z,hz⟩:∃ z,shw 0 (.mk kd nm num pl ks)=z:=⟨_,rfl⟩
 rw [show (⟨(shw 0 (.mk kd nm num pl ks)).toArray⟩:ByteArray)=st (shw 0 (.mk kd nm num pl ks)) from rfl,hz]
 refine AnyH.only (i:=7) (o:=⟨some 19,_,_,_,_,_⟩) (by kernel_rfl) rfl (by rfl) (fun K hK=>?_)
 go_simp
 refine hK.out _ _ HL6.out.blk ?_
 clear hK K
 try simp only [Act.put,List.setIfInBounds_toArray,List.set_cons_zero,List.set_cons_succ]
 refine AnyH.only (i:=8) (o:=⟨some 20,_,_,_,_,_⟩) (by kernel_rfl) rfl (by rfl) (fun K hK=>?_)
 go_simp
 refine hK.out _ _ HL6.out.blk ?_
 clear hK K
 try simp only [Act.put,List.setIfInBounds_toArray,List.set_cons_zero,List.set_cons_succ]
 refine AnyH.only (i:=9) (o:=⟨some 2,_,_,_,_,_⟩) (by kernel_rfl) rfl (by rfl) (fun K hK=>?_)
 go_simp
 refine hK.out _ _ HL6.out.blk ?_
 clear hK K
 try simp only [Act.put,List.setIfInBounds_toArray,List.set_cons_zero,List.set_cons_succ]
 refine wpAnyH_done (by kernel_rfl) ?_ _
 go_wp2_with fail
 go_ret
 exact ⟨by simp,HL6.out.below⟩
theorem zKg (os:Os) {H:Type} (enc:TypeId × Value→H):∃ places,DataW.whole enc Tryz.prog ((laidWorld6 os).forCall (fun _ _=>0) ⟨#[],#[.string ⟨#[]⟩],[]⟩).memory Tryz.f3.params.toList Rows.showShowsSpec.vars false #[Value.string ⟨#[]⟩].toList 8=some ([.lit (.string [])],[],places) :=
 ⟨[],by kernel_rfl⟩
theorem zzg (os:Os) (started:os.Started) (H:Type) (enc:TypeId × Value→H) (F:Stop.Interp) :
  ReturnsInHanded {} Tryz.checked os 3 .any ((OpenSpec.ofChange Rows.showShowsSpec).preRow enc Tryz.prog Tryz.f3 Rows.showShowsRow.domain false Rows.showShowsRow.laid) (((OpenSpec.ofChange Rows.showShowsSpec).at F).post enc Tryz.prog Tryz.f3 false true false false):=by
 obtain ⟨places,hx⟩:=zKg os enc
 refine returnsInHanded_of_row (C:=Tryz.checked) (s:=OpenSpec.ofChange Rows.showShowsSpec) own started (by kernel_rfl) Tryz.func3
  (witness_row_at (enc:=enc) (C:=Tryz.checked) false (laidWorld6 os) #[.string ⟨#[]⟩] rfl (by kernel_rfl) (by kernel_rfl) (by kernel_rfl)
   (OpenSpec.preRow_of_cond 8 hx (by kernel_rfl) (fun k hk=>by cases hk) (by kernel_rfl) (zKh os))) ?_
 intro W base args ds gs before hval hW _ _ hreach hL _ _
 exact zDh Tryz.params3 (by kernel_rfl) rfl (fun _=>rfl) zIh W base args ds gs before hval hW hreach hL
theorem zHh:Rows.ShowShowsSaid :=
 OpenClaim.holds_of_cond 3 Tryz.f3 rfl rfl rfl rfl rfl rfl rfl ⟨rfl,rfl,rfl,rfl,rfl⟩ rfl rfl rfl rfl rfl (by kernel_rfl) Tryz.func3 (by kernel_rfl)
  (of_decide_eq_true (by kernel_rfl)) (by unfold Func.isWrapper;first|(rw [if_pos (by decide +kernel)];kernel_rfl)|(rw [if_neg (by decide +kernel)];exact ⟨rfl,rfl⟩))
  (fun os started H enc _ F=>by rw [OpenClaim.pre_eq_preRow];exact zzg os started H enc F)
theorem zxh (f:FuncId) (fn:Func) (hf:Tryz.pinned.checked.prog.funcNamed "lychgate/lychgatelaw03.ShowShows" = some f) (hfn:Tryz.pinned.checked.prog.funcs[f]?=some fn) :
  true=Tryz.pinned.checked.prog.looks []∧∀ (j:Nat) t,fn.params[j]?=some t→Tryz.pinned.checked.prog.wantsStandIn t=false:=by
 obtain rfl:f=3:=Option.some.inj ((show Tryz.prog.funcNamed "lychgate/lychgatelaw03.ShowShows" = some 3 by kernel_rfl).symm.trans hf) |>.symm
 obtain rfl:fn=Tryz.f3:=(Option.some.inj (Tryz.func3.symm.trans hfn)).symm
 refine ⟨by kernel_rfl,fun j t ht=>?_⟩
 rw [Tryz.params3] at ht
 obtain rfl:t=9:=by simpa using Array.mem_of_getElem? ht
 exact (show Tryz.prog.wantsStandIn 9=false by kernel_rfl)
theorem showShows_card:Rows.ShowShowsCardSaid :=
 Claim7.holds_tied_plain_at .later [] _ _ _ _ zHh (fun _ h=>by cases h) (by kernel_rfl) (fun _ h=>by cases h) showShows_row_tie rfl ⟨rfl,rfl⟩ (by kernel_rfl) rfl zxh (by kernel_rfl)
end Go.Proofs.YtbfgdpcgdmabpaaGreatDoor
