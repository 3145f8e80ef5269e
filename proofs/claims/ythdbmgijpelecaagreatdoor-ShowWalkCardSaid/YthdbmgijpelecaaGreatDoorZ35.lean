/- Proved here: for every text that lychgatelaw03.ShowWalk is called with, in every memory in which the listed tables stand as the program lays them, the call returns true and nothing that was there has changed. -/
import Derived.Test.YthdbmgijpelecaaGreatDoorZ33
import Derived.Test.YthdbmgijpelecaaGreatDoorZ32
namespace Go.Proofs.YthdbmgijpelecaaGreatDoor
set_option maxRecDepth 100000
set_option maxHeartbeats 1000000
open Go.ChangeShapes Go.WideShapes Go.ChangeAt Go.RowKit
def WkRel (s:ByteArray) (n:Nat) (w:World) (gh:Nat) (a b i:Value) (wr:World):Prop :=
 ∃ j:Nat,j≤n∧n≤j+gh∧i=.int .i64 j∧a=.int .i64 ((zEc s j).1:Nat)∧b=.int .i64 ((zEc s j).2:Nat)∧Hid (Below w.heap.size w wr)
theorem znl {s:ByteArray} {j x y:Nat} (h:j<s.size) (hx:(zEc s j).1=x) (hy:(zEc s j).2=y):zPg s ((j:Int)+1)=if s[j]=10 then ((x:Int)+1,1) else ((x:Int),(y:Int)+1):=by
 rw [show ((j:Int)+1)=((j+1:Nat):Int) by omega,zmf (by omega),zZf s j h]
 unfold zle
 rw [hx,hy]
 split<;>simp
theorem zHk {s:ByteArray} {j x y:Nat} (h:j<s.size) (hx:(zEc s j).1=x) (hy:(zEc s j).2=y):zEc s (j+1)=if s[j]=10 then (x+1,1) else (x,y+1):=by
 rw [zZf s j h]
 unfold zle
 rw [hx,hy]
theorem zli (s:ByteArray) (w:World) (_:s.size≤maxLen) (hl:s.size≤140737488351232) (ht:Tabs w) (hp:Pow w) :
  Calls Tryz.prog 6 #[.string s] w fun e w'=>e=.returned (.bool true)∧Below w.heap.size w w':=by
 have HT:=zh ht
 have HP:=zh hp
 have HA0:=zh (show zPg s 0=(1,1) from zmf (s:=s) (k:=0) (by omega))
 obtain ⟨n,hn,hn1,hn2⟩:∃ n:Nat,min (s.size:Int) 500=(n:Int)∧n≤s.size∧n≤500:=⟨min s.size 500,by omega,by omega,by omega⟩
 clear ht hp
 go_enter Tryz.func6,Tryz.ntmps6
 go_wp2_with fail
 refine (zGe w HT.out HP.out).mono ?_
 rintro e w1 ⟨rfl,hb1⟩
 have HB1:=zh hb1
 clear hb1
 go_wp2_with fail
 refine (zdf s 0 w1 hl).mono ?_
 rw [HA0.out]
 rintro e w2 ⟨rfl,hb2⟩
 have HB2:=zh (HB1.out.trans (hb2.mono HB1.out.size))
 clear hb2
 go_wp2_with fail
 go_loopg [3,4,24] n (fun gk a b i wr=>WkRel s n w gk a b i wr)
 case atStart=>exact ⟨0,by omega,by omega,rfl,rfl,rfl,HB2⟩
 case round =>
  obtain ⟨j,hj,hgj,rfl,rfl,rfl,HR⟩:=hrel
  obtain ⟨h5,h6⟩:=zVo (s.data.toList.take j)
  have hlt0:(s.data.toList.take j).length≤s.size:=by simp;omega
  obtain ⟨x,hx⟩:∃ x,(zEc s j).1=x:=⟨_,rfl⟩
  obtain ⟨y,hy⟩:∃ y,(zEc s j).2=y:=⟨_,rfl⟩
  have hxl:x≤140737488351233:=by rw [← hx];unfold zEc;omega
  have hyl:y≤140737488351233:=by rw [← hy];unfold zEc;omega
  by_cases hlt:j<n
  ·have hjs:j<s.size:=by omega
   have HA:=zh (znl hjs hx hy)
   have HN:=zh (zHk hjs hx hy)
   rw [hx,hy]
   clear h5 h6 hlt0 hx hy
   by_cases hc:s[j]=10
   ·have HC:=zh hc
    have hc1:((s[j].toNat:Int) == 10)=true:=by rw [hc];rfl
    have hA1:=HA.out
    rw [if_pos hc] at hA1
    have HA1:=zh hA1
    clear hc hA1
    go_wp2_with fail
    refine (zdf s _ wr hl).mono ?_
    rw [HA1.out]
    rintro e w3 ⟨rfl,hb3⟩
    have HB3:=zh (HR.out.trans (hb3.mono HR.out.size))
    clear hb3
    go_wp2_with fail
    go_roundg (gk-1)
    case measure=>omega
    case rel=>exact ⟨j+1,by omega,by omega,by go_num,by rw [HN.out,if_pos HC.out];go_num,by rw [HN.out,if_pos HC.out];rfl,HB3⟩
   ·have HC:=zh hc
    have hc1:=zNm hc
    have hA1:=HA.out
    rw [if_neg hc] at hA1
    have HA1:=zh hA1
    clear hc hA1
    go_wp2_with fail
    refine (zdf s _ wr hl).mono ?_
    rw [HA1.out]
    rintro e w3 ⟨rfl,hb3⟩
    have HB3:=zh (HR.out.trans (hb3.mono HR.out.size))
    clear hb3
    go_wp2_with fail
    all_goals
     go_roundg (gk-1)
     case measure=>omega
     case rel=>exact ⟨j+1,by omega,by omega,by go_num,by rw [HN.out,if_neg HC.out],by rw [HN.out,if_neg HC.out];go_num,HB3⟩
  ·obtain rfl:j=n:=by omega
   clear h5 h6 hlt0 hx hy
   go_wp2_with fail
   go_ret
   exact ⟨rfl,HR.out⟩
theorem zJh (os:Os) {H:Type} (enc:TypeId × Value→H):∃ places,DataW.whole enc Tryz.prog ((laidWorld6 os).forCall (fun _ _=>0) ⟨#[],#[.string ⟨#[]⟩],[]⟩).memory Tryz.f6.params.toList Rows.showWalkSpec.vars false #[Value.string ⟨#[]⟩].toList 8=some ([.lit (.string [])],[],places) :=
 ⟨[],by kernel_rfl⟩
theorem zIg (os:Os) (started:os.Started) (H:Type) (enc:TypeId × Value→H) (F:Stop.Interp) :
  ReturnsInHanded {} Tryz.checked os 6 .any ((OpenSpec.ofChange Rows.showWalkSpec).preRow enc Tryz.prog Tryz.f6 Rows.showWalkRow.domain false Rows.showWalkRow.laid) (((OpenSpec.ofChange Rows.showWalkSpec).at F).post enc Tryz.prog Tryz.f6 false true false false):=by
 obtain ⟨places,hx⟩:=zJh os enc
 refine returnsInHanded_of_row (C:=Tryz.checked) (s:=OpenSpec.ofChange Rows.showWalkSpec) own started (by kernel_rfl) Tryz.func6
  (witness_row_at (enc:=enc) (C:=Tryz.checked) false (laidWorld6 os) #[.string ⟨#[]⟩] rfl (by kernel_rfl) (by kernel_rfl) (by kernel_rfl)
   (OpenSpec.preRow_of_cond 8 hx (by kernel_rfl) (fun k hk=>by cases hk) (by kernel_rfl) (zOe os))) ?_
 intro W base args ds gs before hval hW _ _ hreach hL _ _
 exact zUe Tryz.params6 (by kernel_rfl) rfl (fun _=>rfl) zli W base args ds gs before hval hW hreach hL
theorem zIi:Rows.ShowWalkSaid :=
 OpenClaim.holds_of_cond 6 Tryz.f6 rfl rfl rfl rfl rfl rfl rfl ⟨rfl,rfl,rfl,rfl,rfl⟩ rfl rfl rfl rfl rfl (by kernel_rfl) Tryz.func6 (by kernel_rfl)
  (of_decide_eq_true (by kernel_rfl)) (by unfold Func.isWrapper;first|(rw [if_pos (by decide +kernel)];kernel_rfl)|(rw [if_neg (by decide +kernel)];exact ⟨rfl,rfl⟩))
  (fun os started H enc _ F=>by rw [OpenClaim.pre_eq_preRow];exact zIg os started H enc F)
theorem zFh (f:FuncId) (fn:Func) (hf:Tryz.pinned.checked.prog.funcNamed "lychgate/lychgatelaw03.ShowWalk" = some f) (hfn:Tryz.pinned.checked.prog.funcs[f]?=some fn) :
  true=Tryz.pinned.checked.prog.looks []∧∀ (j:Nat) t,fn.params[j]?=some t→Tryz.pinned.checked.prog.wantsStandIn t=false:=by
 obtain rfl:f=6:=Option.some.inj ((show Tryz.prog.funcNamed "lychgate/lychgatelaw03.ShowWalk" = some 6 by kernel_rfl).symm.trans hf) |>.symm
 obtain rfl:fn=Tryz.f6:=(Option.some.inj (Tryz.func6.symm.trans hfn)).symm
 refine ⟨by kernel_rfl,fun j t ht=>?_⟩
 rw [Tryz.params6] at ht
 obtain rfl:t=9:=by simpa using Array.mem_of_getElem? ht
 exact (show Tryz.prog.wantsStandIn 9=false by kernel_rfl)
theorem showWalk_card:Rows.ShowWalkCardSaid :=
 Claim7.holds_tied_plain_at .later [] _ _ _ _ zIi (fun _ h=>by cases h) (by kernel_rfl) (fun _ h=>by cases h) showWalk_row_tie rfl ⟨rfl,rfl⟩ (by kernel_rfl) rfl zFh (by kernel_rfl)
end Go.Proofs.YthdbmgijpelecaaGreatDoor
