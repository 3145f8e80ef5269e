/- Proved here: for every text and every number that lychgatelaw03.ShowLines is called with, in every memory in which the listed tables stand as the program lays them, the call returns true and nothing that was there has changed. -/
import Derived.Test.YthdbmgijpelecaaGreatDoorZ33
import Derived.Test.YthdbmgijpelecaaGreatDoorZ32
namespace Go.Proofs.YthdbmgijpelecaaGreatDoor
set_option maxRecDepth 100000
set_option maxHeartbeats 1000000
open Go.ChangeShapes Go.WideShapes Go.ChangeAt Go.RowKit
theorem zEh (a:ByteArray) (n:Int) (w:World) (_:a.size≤maxLen) (hl:a.size≤140737488351232) (_:(Lit.int .i64 n).wf=true) (ht:Tabs w) (hp:Pow w) :
  Calls Tryz.prog 5 #[.string a,.int .i64 n] w fun e w'=>e=.returned (.bool true)∧Below w.heap.size w w':=by
 obtain ⟨x,y,hxy⟩:∃ x y,zPg a n=(x,y):=⟨_,_,rfl⟩
 have HXY:=zh hxy
 have HT:=zh ht
 have HP:=zh hp
 clear hxy ht hp
 go_enter Tryz.func5,Tryz.ntmps5
 go_wp2_with fail
 refine (zdf a n w hl).mono ?_
 rw [HXY.out]
 rintro e w1 ⟨rfl,hb1⟩
 have HB1:=zh hb1
 clear hb1
 go_wp2_with fail
 refine (zpm a n w1 hl).mono ?_
 rw [HXY.out]
 rintro e w2 ⟨rfl,hb2⟩
 have HB2:=zh (HB1.out.trans (hb2.mono HB1.out.size))
 clear hb2
 go_wp2_with fail
 refine (zGe w2 (HT.out.below HB2.out HT.out.size) (HP.out.later HB2.out)).mono ?_
 rintro e w3 ⟨rfl,hb3⟩
 have HB3:=zh (HB2.out.trans (hb3.mono HB2.out.size))
 clear hb3
 go_wp2_with fail
 go_ret
 exact ⟨rfl,HB3.out⟩
theorem zWg (os:Os) {H:Type} (enc:TypeId × Value→H):∃ places,DataW.whole enc Tryz.prog ((laidWorld6 os).forCall (fun _ _=>0) ⟨#[],#[.string ⟨#[]⟩,.int .i64 0],[]⟩).memory Tryz.f5.params.toList Rows.showLinesSpec.vars false #[Value.string ⟨#[]⟩,Value.int .i64 0].toList 8=some ([.lit (.string []),.lit (.int .i64 0)],[],places) :=
 ⟨[],by kernel_rfl⟩
theorem zug (os:Os) (started:os.Started) (H:Type) (enc:TypeId × Value→H) (F:Stop.Interp) :
  ReturnsInHanded {} Tryz.checked os 5 .any ((OpenSpec.ofChange Rows.showLinesSpec).preRow enc Tryz.prog Tryz.f5 Rows.showLinesRow.domain false Rows.showLinesRow.laid) (((OpenSpec.ofChange Rows.showLinesSpec).at F).post enc Tryz.prog Tryz.f5 false true false false):=by
 obtain ⟨places,hx⟩:=zWg os enc
 refine returnsInHanded_of_row (C:=Tryz.checked) (s:=OpenSpec.ofChange Rows.showLinesSpec) own started (by kernel_rfl) Tryz.func5
  (witness_row_at (enc:=enc) (C:=Tryz.checked) false (laidWorld6 os) #[.string ⟨#[]⟩,.int .i64 0] rfl (by kernel_rfl) (by kernel_rfl) (by kernel_rfl)
   (OpenSpec.preRow_of_cond 8 hx (by kernel_rfl) (fun k hk=>by cases hk) (by kernel_rfl) (zNf os))) ?_
 intro W base args ds gs before hval hW _ _ hreach hL _ _
 exact zPf Tryz.params5 (by kernel_rfl) rfl (fun _ _=>rfl) zEh W base args ds gs before hval hW hreach hL
theorem zLh:Rows.ShowLinesSaid :=
 OpenClaim.holds_of_cond 5 Tryz.f5 rfl rfl rfl rfl rfl rfl rfl ⟨rfl,rfl,rfl,rfl,rfl⟩ rfl rfl rfl rfl rfl (by kernel_rfl) Tryz.func5 (by kernel_rfl)
  (of_decide_eq_true (by kernel_rfl)) (by unfold Func.isWrapper;first|(rw [if_pos (by decide +kernel)];kernel_rfl)|(rw [if_neg (by decide +kernel)];exact ⟨rfl,rfl⟩))
  (fun os started H enc _ F=>by rw [OpenClaim.pre_eq_preRow];exact zug os started H enc F)
theorem zph (f:FuncId) (fn:Func) (hf:Tryz.pinned.checked.prog.funcNamed "lychgate/lychgatelaw03.ShowLines" = some f) (hfn:Tryz.pinned.checked.prog.funcs[f]?=some fn) :
  true=Tryz.pinned.checked.prog.looks []∧∀ (j:Nat) t,fn.params[j]?=some t→Tryz.pinned.checked.prog.wantsStandIn t=false:=by
 obtain rfl:f=5:=Option.some.inj ((show Tryz.prog.funcNamed "lychgate/lychgatelaw03.ShowLines" = some 5 by kernel_rfl).symm.trans hf) |>.symm
 obtain rfl:fn=Tryz.f5:=(Option.some.inj (Tryz.func5.symm.trans hfn)).symm
 refine ⟨by kernel_rfl,fun j t ht=>?_⟩
 rw [Tryz.params5] at ht
 have hm:t=9∨t=3:=by simpa using Array.mem_of_getElem? ht
 rcases hm with rfl|rfl
 ·exact (show Tryz.prog.wantsStandIn 9=false by kernel_rfl)
 ·exact (show Tryz.prog.wantsStandIn 3=false by kernel_rfl)
theorem showLines_card:Rows.ShowLinesCardSaid :=
 Claim7.holds_tied_plain_at .later [] _ _ _ _ zLh (fun _ h=>by cases h) (by kernel_rfl) (fun _ h=>by cases h) showLines_row_tie rfl ⟨rfl,rfl⟩ (by kernel_rfl) rfl zph (by kernel_rfl)
end Go.Proofs.YthdbmgijpelecaaGreatDoor
