/- Proved here: for every text that lychgatelaw03.ShowWhole is called with, in every memory in which the listed tables stand as the program lays them, the call returns true and nothing that was there has changed. -/
import Derived.Test.YthdbmgijpelecaaGreatDoorZ33
import Derived.Test.YthdbmgijpelecaaGreatDoorZ32
import Derived.Test.YthdbmgijpelecaaGreatDoorZ14
namespace Go.Proofs.YthdbmgijpelecaaGreatDoor
set_option maxRecDepth 100000
set_option maxHeartbeats 2000000
open Go.ChangeShapes Go.WideShapes Go.ChangeAt Go.RowKit
def WhRel (w:World) (n:Nat) (gh:Nat) (i:Value) (wr:World):Prop:=∃ j:Nat,j≤n∧n≤j+gh∧i=.int .i64 j∧w=wr
theorem zNh (s:ByteArray) (w:World) (hs:s.size≤maxLen) (_:s.size≤140737488351232) (ht:Tabs w) (hp:Pow w) :
  Calls Tryz.prog 8 #[.string s] w fun e w'=>e=.returned (.bool true)∧Below w.heap.size w w':=by
 have HT:=zh ht
 have HP:=zh hp
 have HQ:=zh (show (zlb s).1.size≤4096∧(zlb s).1.whole∧(zlb s).1.small∧zbg (zlb s).1 from ⟨(zdl s).2,(zHg s).2,zxh s,zbi s⟩)
 go_enter Tryz.func8,Tryz.ntmps8
 go_wp2_with fail
 refine (parse_any s w hs ht).mono ?_
 clear ht hp
 generalize zlb s=q at HQ
 obtain ⟨t,p,c⟩:=q
 have HU:=zh (show zbg t from HQ.out.2.2.2)
 have HZ:=zh (show t.size≤4096∧t.whole∧t.small from ⟨HQ.out.1,HQ.out.2.1,HQ.out.2.2.1⟩)
 clear HQ
 rintro e w1 ⟨kv,rfl,hk,hb⟩
 have hkv:∃ (pa:Option Addr) (kn cap:Nat),kv=.slice pa kn cap∧Hid (kn=t.kids.length)∧kn≤4096:=by
  have h1:t.kids.length≤4096:=by have h1:=zua t.kids;have h2:=HZ.out.1;have hts:t.size=1+sizes t.kids:=by { cases t;rw [size_mk];rfl };omega
  rcases hk.form with ⟨h2,h3⟩|⟨g,cap,h2,_⟩
  ·exact ⟨none,0,0,h2,zh (by show 0=t.kids.length;have h4:t.kids=[]:=h3;rw [h4];rfl),by omega⟩
  ·exact ⟨_,_,cap,h2,zh rfl,h1⟩
 obtain ⟨pa,kn,cap,rfl,HK,hkn⟩:=hkv
 obtain ⟨W1,hW1,H1⟩:∃ W,w1.alloc (.cells [.int .i64 t.kind,.string t.text,.int .i64 t.num,.int .i64 t.place,.slice pa kn cap].toArray 25)=W∧Hid (W.heap.size=w1.heap.size+1∧Below w.heap.size w W∧KAt 25 W t.kids (fun b=>b<w1.heap.size) (.slice pa kn cap)∧Blk W w1.heap.size (zaa t (.slice pa kn cap)) 25) :=
  ⟨_,rfl,zh ⟨by simp,hb.alloc hb.size _,(hk.keep fun b _ hl=>⟨hl,rfl⟩:KAt 25 w1 t.kids (fun b=>b<w1.heap.size) (.slice pa kn cap)).alloc _,Blk.new w1 _ _⟩⟩
 have HO:=zh (show (Value.slice pa kn cap).oneCell'=true from hk.one)
 clear hk hb
 unfold zOa
 go_wp2_with ((with_reducible refine zFa 25 (.tmp 3) ?_);refine zHa rfl 25 (.tmp 3) (.tmp 11) rfl [.int .i64 t.kind,.string t.text,.int .i64 t.num,.int .i64 t.place,.slice pa kn cap] (old:=zba) rfl rfl Tryz.zda rfl (zea t _ HO.out) ?_)
 refine (zGe W1 (HT.out.below H1.out.2.1 HT.out.size) (HP.out.later H1.out.2.1)).mono ?_
 rintro e w2 ⟨rfl,hb2⟩
 have H2:=zh (show Below w.heap.size w w2∧KAt 25 w2 t.kids (fun b=>b<w1.heap.size) (.slice pa kn cap)∧Blk w2 w1.heap.size (zaa t (.slice pa kn cap)) 25 from
  ⟨H1.out.2.1.trans (hb2.mono H1.out.2.1.size),H1.out.2.2.1.below hb2,H1.out.2.2.2.below hb2⟩)
 clear hb2
 by_cases hc:c=0
 ·subst hc
  have n0:w2.cell? ⟨w1.heap.size,0,none⟩=some (.int .i64 t.kind):=H2.out.2.2.cell 0
  have n1:w2.cell? ⟨w1.heap.size,1,none⟩=some (.string t.text):=H2.out.2.2.cell 1
  have n2:w2.cell? ⟨w1.heap.size,2,none⟩=some (.int .i64 t.num):=H2.out.2.2.cell 2
  have n3:w2.cell? ⟨w1.heap.size,3,none⟩=some (.int .i64 t.place):=H2.out.2.2.cell 3
  have n4:w2.cell? ⟨w1.heap.size,4,none⟩=some (.slice pa kn cap):=H2.out.2.2.cell 4
  go_wp2_with fail
  have HBD:=zh (zRi (d:=0) HZ.out.2.2 HZ.out.2.1 (by have:=HZ.out.1;omega) (by omega))
  refine (zqk H2.out.2.1 (HP.out.later H2.out.1) HZ.out.2.1 HZ.out.2.2 (by have:=HZ.out.1;omega)).mono ?_
  obtain ⟨b,hbt⟩:∃ b,(⟨(shw 0 t).toArray⟩:ByteArray)=b:=⟨_,rfl⟩
  have HBY:=zh (HU.out.bytes hbt)
  have hbz:b.size≤1000000000:=by rw [← hbt,zMg];exact HBD.out
  rw [hbt]
  clear hbt HBD HU
  rintro e w3 ⟨rfl,hb3⟩
  have H3:=zh (show Below w.heap.size w w3∧Blk w3 w1.heap.size (zaa t (.slice pa kn cap)) 25 from
   ⟨H2.out.1.trans (hb3.mono H2.out.1.size),H2.out.2.2.below hb3⟩)
  clear hb3 n0 n1 n2 n3 n4
  have n4:w3.cell? ⟨w1.heap.size,4,none⟩=some (.slice pa kn cap):=H3.out.2.cell 4
  obtain ⟨N,hN⟩:∃ N:Nat,b.size=N:=⟨_,rfl⟩
  go_wp2_with fail
  go_loopg [25] N (fun gk i wr=>WhRel w3 N gk i wr)
  case atStart=>exact ⟨0,by omega,by omega,rfl,rfl⟩
  case round =>
   obtain ⟨j,hj,hgj,rfl,hw⟩:=hrel
   subst hw
   by_cases hlt:j<N
   ·have hjb:j<b.size:=by omega
    have hq:=HBY.out.1 j hjb
    have h63:=hq.1
    have h9:=hq.2
    clear hq
    by_cases h10:b[j]=10
    ·have h10t:((b[j].toNat:Int) == 10)=true:=by rw [h10];rfl
     cases j with
     | zero =>
      clear h10
      go_wp2_with fail
      all_goals
       go_roundg (gk-1)
       case measure=>omega
       case rel=>exact ⟨0+1,by omega,by omega,by go_num,rfl⟩
     | succ i =>
      have hib:i<b.size:=by omega
      have hpr:=HBY.out.2.1 i hjb h10
      clear h10
      go_wp2_with fail
      all_goals
       go_roundg (gk-1)
       case measure=>omega
       case rel=>exact ⟨i+1+1,by omega,by omega,by go_num,rfl⟩
    ·have h10f:=zNm h10
     clear h10
     go_wp2_with fail
     all_goals
      go_roundg (gk-1)
      case measure=>omega
      case rel=>exact ⟨j+1,by omega,by omega,by go_num,rfl⟩
   ·obtain rfl:j=N:=by omega
    by_cases hk0:t.kids=[]
    ·have hb0:=HBY.out.2.2.1 hk0
     have hkn0:kn=0:=by have:=HK.out;rw [hk0] at this;exact this
     subst hb0 hkn0
     obtain rfl:j=0:=hN.symm
     clear hk0
     go_wp2_with fail
     go_ret
     exact ⟨rfl,H3.out.1⟩
    ·obtain ⟨m,hm,hlast⟩:=HBY.out.2.2.2 hk0
     obtain ⟨kn',rfl⟩:∃ k,kn=k+1:=⟨kn-1,by have:=List.length_pos_iff.2 hk0;have:=HK.out;omega⟩
     obtain rfl:j=m+1:=by omega
     have hmb:m<b.size:=by omega
     have hl1:=hlast hmb
     have hbe:b.toList.isEmpty=false:=by
      cases hq:b.toList.isEmpty with
      | false=>rfl
      | true =>
       have h0:b.toList=[]:=by simpa using hq
       rw [Go.Lib.toList_data] at h0
       have h1:b.data.toList.length=0:=by rw [h0];rfl
       have h2:b.size=b.data.toList.length:=by rw [Array.length_toList];rfl
       omega
     have hk3:((kn':Int)+1 == 0)=false:=beq_eq_false_iff_ne.2 (by omega)
     clear hk0 hlast
     go_wp2_with fail
     go_ret
     exact ⟨rfl,H3.out.1⟩
 ·have hc1:(c != 0)=true:=bne_iff_ne.2 hc
  clear hc
  go_wp2_with fail
  refine (zGe w2 (HT.out.below H2.out.1 HT.out.size) (HP.out.later H2.out.1)).mono ?_
  rintro e w3 ⟨rfl,hb3⟩
  have HB3:=zh (H2.out.1.trans (hb3.mono H2.out.1.size))
  clear hb3
  go_wp2_with fail
  go_ret
  exact ⟨rfl,HB3.out⟩
theorem zch (os:Os) {H:Type} (enc:TypeId × Value→H):∃ places,DataW.whole enc Tryz.prog ((laidWorld6 os).forCall (fun _ _=>0) ⟨#[],#[.string ⟨#[]⟩],[]⟩).memory Tryz.f8.params.toList Rows.showWholeSpec.vars false #[Value.string ⟨#[]⟩].toList 8=some ([.lit (.string [])],[],places) :=
 ⟨[],by kernel_rfl⟩
theorem zyg (os:Os) (started:os.Started) (H:Type) (enc:TypeId × Value→H) (F:Stop.Interp) :
  ReturnsInHanded {} Tryz.checked os 8 .any ((OpenSpec.ofChange Rows.showWholeSpec).preRow enc Tryz.prog Tryz.f8 Rows.showWholeRow.domain false Rows.showWholeRow.laid) (((OpenSpec.ofChange Rows.showWholeSpec).at F).post enc Tryz.prog Tryz.f8 false true false false):=by
 obtain ⟨places,hx⟩:=zch os enc
 refine returnsInHanded_of_row (C:=Tryz.checked) (s:=OpenSpec.ofChange Rows.showWholeSpec) own started (by kernel_rfl) Tryz.func8
  (witness_row_at (enc:=enc) (C:=Tryz.checked) false (laidWorld6 os) #[.string ⟨#[]⟩] rfl (by kernel_rfl) (by kernel_rfl) (by kernel_rfl)
   (OpenSpec.preRow_of_cond 8 hx (by kernel_rfl) (fun k hk=>by cases hk) (by kernel_rfl) (zOe os))) ?_
 intro W base args ds gs before hval hW _ _ hreach hL _ _
 exact zUe Tryz.params8 (by kernel_rfl) rfl (fun _=>rfl) zNh W base args ds gs before hval hW hreach hL
theorem zIh:Rows.ShowWholeSaid :=
 OpenClaim.holds_of_cond 8 Tryz.f8 rfl rfl rfl rfl rfl rfl rfl ⟨rfl,rfl,rfl,rfl,rfl⟩ rfl rfl rfl rfl rfl (by kernel_rfl) Tryz.func8 (by kernel_rfl)
  (of_decide_eq_true (by kernel_rfl)) (by unfold Func.isWrapper;first|(rw [if_pos (by decide +kernel)];kernel_rfl)|(rw [if_neg (by decide +kernel)];exact ⟨rfl,rfl⟩))
  (fun os started H enc _ F=>by rw [OpenClaim.pre_eq_preRow];exact zyg os started H enc F)
theorem zgh (f:FuncId) (fn:Func) (hf:Tryz.pinned.checked.prog.funcNamed "lychgate/lychgatelaw03.ShowWhole" = some f) (hfn:Tryz.pinned.checked.prog.funcs[f]?=some fn) :
  true=Tryz.pinned.checked.prog.looks []∧∀ (j:Nat) t,fn.params[j]?=some t→Tryz.pinned.checked.prog.wantsStandIn t=false:=by
 obtain rfl:f=8:=Option.some.inj ((show Tryz.prog.funcNamed "lychgate/lychgatelaw03.ShowWhole" = some 8 by kernel_rfl).symm.trans hf) |>.symm
 obtain rfl:fn=Tryz.f8:=(Option.some.inj (Tryz.func8.symm.trans hfn)).symm
 refine ⟨by kernel_rfl,fun j t ht=>?_⟩
 rw [Tryz.params8] at ht
 obtain rfl:t=9:=by simpa using Array.mem_of_getElem? ht
 exact (show Tryz.prog.wantsStandIn 9=false by kernel_rfl)
theorem showWhole_card:Rows.ShowWholeCardSaid :=
 Claim7.holds_tied_plain_at .later [] _ _ _ _ zIh (fun _ h=>by cases h) (by kernel_rfl) (fun _ h=>by cases h) showWhole_row_tie rfl ⟨rfl,rfl⟩ (by kernel_rfl) rfl zgh (by kernel_rfl)
end Go.Proofs.YthdbmgijpelecaaGreatDoor
