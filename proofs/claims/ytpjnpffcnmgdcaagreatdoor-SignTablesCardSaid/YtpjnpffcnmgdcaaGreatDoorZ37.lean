/- Proved here: for every text, list of names and list of numbers that lychgatelaw12.SignTables is called with, in every memory in which lex's tables stand as the program's text lays them, the call returns true and the input reads as before. Conditions: that the three tables stand so. -/
import Derived.Test.YtpjnpffcnmgdcaaGreatDoorZ36
import Derived.ProofKit
import Derived.OpenShut
import Derived.SizedLaws
import Derived.SliceStrings
import Derived.Deep.DeepHandedRow
import Derived.Deep.Slices
namespace Go.Proofs.YtpjnpffcnmgdcaaGreatDoor
set_option maxRecDepth 100000
open Go.ChangeShapes Go.WideShapes Go.ChangeAt Go.ChangeMaps Go.RowKit
theorem zts:laidOutB Tryz.prog=true:=by kernel_rfl
theorem zwl {H:Type} {enc:TypeId × Value→H} {P:Program} (hl:laidOutB P=true) {W W':World} (hb:Below W.heap.size W W') :
  ∀ (ts:List TypeId) (vs:List Value) (ds:List (DataW H)) (ps:List MemPlace),(∀ t∈ts,P.readableRec t=true∧t<P.types.size)→DataW.TrodAll enc P W 0 (fun _=>true) true ts vs ds ps→(∀ x∈ps,x.block<W.heap.size) →
   DataW.TrodAll enc P W' 0 (fun b=>decide (b<W.heap.size)) true ts vs ds ps
 | [],vs,ds,ps,_,h,_=>by
  obtain ⟨rfl,rfl,rfl⟩:=trodAll_nil h
  exact trodAll_mk0
 | t :: ts,vs,ds,ps,hr,h,hlt=>by
  obtain ⟨v0,vs0,d0,ds0,p0,q0,rfl,rfl,rfl,h0,r0⟩:=trodAll_cons h
  have h1:=hr t (by simp)
  exact trodAll_cons_mk (Below.trod hl h1.1 h1.2 h0 hb (fun x hx=>hlt x (by simp [hx]))) (zwl hl hb ts vs0 ds0 q0 (fun u hu=>hr u (by simp [hu])) r0 (fun x hx=>hlt x (by simp [hx])))
theorem zeu {H:Type} {enc:TypeId × Value→H} {fn:Func} {sp:ChangeSpec} {W W':World} {args:Array Value} {ds gs:List (DataW H)} {before:List MemPlace}
  (hr:fn.resultTypes=#[4]) (hvars:sp.vars=[]) (hfn:sp.fn H ds={ results:=[.lit (.bool true)],args:=ds }) (hread:∀ t∈fn.params.toList,Tryz.prog.readableRec t=true∧t<Tryz.prog.types.size)
  (hW:DataW.Whole enc Tryz.prog fn.params.toList sp.vars false W args.toList ds gs before) (hb:Below W.heap.size W W') :
  sp.post enc Tryz.prog fn false true false false W args (.bool true) W':=by
 have hW':=hW
 obtain ⟨p,q,hA,hV,rfl,_,_⟩:=hW
 rw [hvars] at hV
 obtain ⟨rfl,rfl⟩:=trodVars_none hV
 have hlt:∀ x∈p,x.block<W.heap.size:=fun x hx=>hW'.lt x (by simpa using hx)
 refine ⟨_,_,_,[],p,[],hW',?_,?_,?_,World.keptBut_mono (fun x hx=>⟨hx,.inr (.inl (by simpa using hx))⟩) (hb.frame (·∈_)),fun h=>by cases h⟩
 ·rw [List.append_nil,hfn,hr]
  exact trodAll_cons_mk (shut_bool Tryz.underlying4 _) trodAll_mk0
 ·rw [List.append_nil,hfn]
  exact zwl zts hb _ _ _ _ hread hA hlt
 ·rw [List.append_nil,hfn,hvars]
  rfl
theorem zzp:Tryz.prog.cellsOf 9=1:=by kernel_rfl
theorem zuq:Tryz.prog.cellsOf 3=1:=by kernel_rfl
theorem zHn {H:Type} {enc:TypeId × Value→H} {W:World} {base:Nat} {v:Value} {d:DataW H} {p:List MemPlace} (hval:Value.okWide Tryz.prog W .any base 61 v)
  (h:DataW.Trod enc Tryz.prog W 0 (fun _=>true) true 61 v d p) :
  ∃ A cap ss,v=.slice A ss.length cap∧zCt W A ss∧(ss.length≤cap∧cap≤maxLen)∧∀ x∈ss,x.size≤maxLen:=by
 obtain ⟨a1,len1,cap1,rfl⟩:=okWide_slice Tryz.underlying61 hval
 obtain ⟨fuel,hf⟩:=h
 rcases open_strings Tryz.underlying61 Tryz.underlying9 zzp hf with ⟨hcs,hx⟩|⟨b,len,cap,ss,hcs,_,hl,hm,hz,hx,hcell,hsz⟩
 ·simp [Value.cells] at hcs
  obtain ⟨rfl,rfl,rfl⟩:=hcs
  exact ⟨none,0,[],rfl,fun h=>absurd h (by simp),⟨Nat.le_refl _,Nat.zero_le _⟩,fun x h=>by simp at h⟩
 ·simp [Value.cells] at hcs
  obtain ⟨rfl,rfl,rfl⟩:=hcs
  simp only [Prod.mk.injEq] at hx
  obtain ⟨rfl,rfl⟩:=hx
  simp only [if_true] at hz
  have hlen:(ss.take len1).length=len1:=by rw [List.length_take];omega
  refine ⟨some b,cap1,ss.take len1,by rw [hlen],fun hn=>?_,⟨by omega,hm⟩,fun x h=>hsz x (List.mem_of_mem_take h)⟩
  rw [hlen] at hn
  have h0:=hcell 0 (by omega)
  obtain ⟨q,o,spot⟩:=b
  have hspot:spot=none:=by simpa [Addr.add] using World.cell?_spot h0
  subst hspot
  refine ⟨q,o,rfl,?_,fun i s hi=>?_⟩
  ·rcases Nat.lt_or_ge q W.heap.size with hlt|hge
   ·exact hlt
   ·simp [World.cell?,Addr.add,Array.getElem?_eq_none hge] at h0
  ·have hi2:=(List.getElem?_eq_some_iff.1 hi).1
   rw [hlen] at hi2
   have hc:=hcell i (by omega)
   rw [List.getElem?_take,if_pos hi2] at hi
   rw [List.getD_eq_getElem?_getD,hi] at hc
   rw [Addr.add_mid] at hc
   exact hc
theorem zZp {H:Type} {enc:TypeId × Value→H} {W:World} {base:Nat} {v:Value} {d:DataW H} {p:List MemPlace} (hval:Value.okWide Tryz.prog W .any base 62 v)
  (h:DataW.Trod enc Tryz.prog W 0 (fun _=>true) true 62 v d p) :
  ∃ A cap ss,v=.slice A ss.length cap∧zzt W A ss∧(ss.length≤cap∧cap≤maxLen):=by
 obtain ⟨a1,len1,cap1,rfl⟩:=okWide_slice Tryz.underlying62 hval
 obtain ⟨fuel,hf⟩:=h
 rcases open_ints Tryz.underlying62 Tryz.underlying3 zuq hf with ⟨hcs,hx⟩|⟨b,len,cap,ss,hcs,_,hl,hm,hz,hx,hcell,hsz⟩
 ·simp [Value.cells] at hcs
  obtain ⟨rfl,rfl,rfl⟩:=hcs
  exact ⟨none,0,[],rfl,fun h=>absurd h (by simp),⟨Nat.le_refl _,Nat.zero_le _⟩⟩
 ·simp [Value.cells] at hcs
  obtain ⟨rfl,rfl,rfl⟩:=hcs
  simp only [Prod.mk.injEq] at hx
  obtain ⟨rfl,rfl⟩:=hx
  simp only [if_true] at hz
  have hlen:(ss.take len1).length=len1:=by rw [List.length_take];omega
  refine ⟨some b,cap1,ss.take len1,by rw [hlen],fun hn=>?_,⟨by omega,hm⟩⟩
  rw [hlen] at hn
  have h0:=hcell 0 (by omega)
  obtain ⟨q,o,spot⟩:=b
  have hspot:spot=none:=by simpa [Addr.add] using World.cell?_spot h0
  subst hspot
  refine ⟨q,o,rfl,?_,fun i s hi=>?_⟩
  ·rcases Nat.lt_or_ge q W.heap.size with hlt|hge
   ·exact hlt
   ·simp [World.cell?,Addr.add,Array.getElem?_eq_none hge] at h0
  ·have hi2:=(List.getElem?_eq_some_iff.1 hi).1
   rw [hlen] at hi2
   have hc:=hcell i (by omega)
   rw [List.getElem?_take,if_pos hi2] at hi
   rw [List.getD_eq_getElem?_getD,hi] at hc
   rw [Addr.add_mid] at hc
   exact hc
theorem zyi (os:Os):laidMet Tryz.prog zht ((laidWorld os).forCall (fun _ _=>0) ⟨#[],#[.string ⟨#[]⟩,.slice none 0 0,.slice none 0 0],[]⟩).memory :=
 laidMet_of_run' 8 (by kernel_rfl) (by kernel_rfl)
theorem zwi {H:Type} {enc:TypeId × Value→H} {f:FuncId} {fn:Func} {sp:ChangeSpec} (hp:fn.params=#[9,61,62]) (hr:fn.resultTypes=#[4]) (hvars:sp.vars=[])
  (hfn:∀ d1 d2 d3:DataW H,sp.fn H [d1,d2,d3]={ results:=[.lit (.bool true)],args:=[d1,d2,d3] })
  (walk:∀ (s:ByteArray) (A:Option Addr) (ca:Nat) (ns:List ByteArray) (B:Option Addr) (cb:Nat) (ks:List Int) (w:World),s.size≤maxLen→zCt w A ns→(ns.length≤ca∧ca≤maxLen)→(∀ x∈ns,x.size≤maxLen)→zzt w B ks→(ks.length≤cb∧cb≤maxLen)→Tabs w →
   Calls Tryz.prog f #[.string s,.slice A ns.length ca,.slice B ks.length cb] w fun e w'=>e=.returned (.bool true)∧Below w.heap.size w w')
  (W:World) (base:Nat) (args:Array Value) (ds gs:List (DataW H)) (before:List MemPlace)
  (hval:∀ (j:Nat) t v,fn.params[j]?=some t→args[j]?=some v→Value.okWide Tryz.prog W .any base t v)
  (hW:DataW.Whole enc Tryz.prog fn.params.toList sp.vars false W args.toList ds gs before) (hL:laidMetH Tryz.prog zht W) :
  Calls Tryz.prog f args W fun e W'=>∃ v,e=.returned v∧sp.post enc Tryz.prog fn false true false false W args v W':=by
 have hW':=hW
 obtain ⟨p,q,hA0,hV,rfl,hfz,hnd⟩:=hW
 rw [hvars] at hV
 have hA:DataW.TrodAll enc Tryz.prog W 0 (fun _=>true) true fn.params.toList args.toList ds p:=hA0
 rw [hp] at hA hval
 obtain ⟨v0,vs0,d0,ds0,p0,q0,hargs0,rfl,rfl,h0,r0⟩:=trodAll_cons hA
 obtain ⟨v1,vs1,d1,ds1,p1,q1,hargs1,rfl,rfl,h1,r1⟩:=trodAll_cons r0
 obtain ⟨v2,vs2,d2,ds2,p2,q2,hargs2,rfl,rfl,h2,r2⟩:=trodAll_cons r1
 obtain ⟨rfl,rfl,rfl⟩:=trodAll_nil r2
 obtain rfl:args=#[v0,v1,v2]:=by cases args;simp_all
 obtain ⟨rfl,rfl⟩:=trodVars_none hV
 obtain ⟨s,rfl,_,_,hs⟩:=open_string Tryz.underlying9 (hval 0 9 v0 rfl rfl) h0
 obtain ⟨A,ca,ns,rfl,hS,hl,hz⟩:=zHn (hval 1 61 v1 rfl rfl) h1
 obtain ⟨B,cb,ks,rfl,hK,hkl⟩:=zZp (hval 2 62 v2 rfl rfl) h2
 clear hA0
 refine (walk s A ca ns B cb ks W hs hS hl hz hK hkl (zUk hL)).mono fun e W' ⟨he,hb⟩=>⟨_,he,?_⟩
 refine zeu hr hvars (hfn _ _ _) ?_ hW' hb
 rw [hp]
 intro t ht
 have hm:t=9∨t=61∨t=62:=by simpa using ht
 rcases hm with rfl|rfl|rfl
 ·exact ⟨by kernel_rfl,of_decide_eq_true (by kernel_rfl)⟩
 ·exact ⟨by kernel_rfl,of_decide_eq_true (by kernel_rfl)⟩
 ·exact ⟨by kernel_rfl,of_decide_eq_true (by kernel_rfl)⟩
theorem zHh (os:Os) {H:Type} (enc:TypeId × Value→H):∃ places,DataW.whole enc Tryz.prog ((laidWorld os).forCall (fun _ _=>0) ⟨#[],#[.string ⟨#[]⟩,.slice none 0 0,.slice none 0 0],[]⟩).memory Tryz.f4.params.toList Rows.signTablesSpec.vars false #[(.string ⟨#[]⟩:Value),.slice none 0 0,.slice none 0 0].toList 8=some ([.lit (.string []),.nil,.nil],[],places) :=
 ⟨[],by kernel_rfl⟩
theorem zch (os:Os) (started:os.Started) (H:Type) (enc:TypeId × Value→H) (F:Stop.Interp) :
  ReturnsInHanded {} Tryz.checked os 4 .any ((OpenSpec.ofChange Rows.signTablesSpec).preRow enc Tryz.prog Tryz.f4 Rows.signTablesRow.domain false Rows.signTablesRow.laid) (((OpenSpec.ofChange Rows.signTablesSpec).at F).post enc Tryz.prog Tryz.f4 false true false false):=by
 obtain ⟨places,hx⟩:=zHh os enc
 refine returnsInHanded_of_row (C:=Tryz.checked) (s:=OpenSpec.ofChange Rows.signTablesSpec) own started (by kernel_rfl) Tryz.func4
  (witness_row_at (enc:=enc) (C:=Tryz.checked) false (laidWorld os) #[.string ⟨#[]⟩,.slice none 0 0,.slice none 0 0] rfl (by kernel_rfl) (by kernel_rfl) (by kernel_rfl)
   (OpenSpec.preRow_of_cond 8 hx (by kernel_rfl) (fun k hk=>by cases hk) (by kernel_rfl) (zyi os))) ?_
 intro W base args ds gs before hval hW _ _ _ hL _ _
 exact zwi Tryz.params4 (by kernel_rfl) rfl (fun _ _ _=>rfl) (fun s A ca ns B cb ks w hs hns hnl hnz hks hkl ht=>zXh s w hs ht hns hnl hnz hks hkl) W base args ds gs before hval hW hL
theorem zRi:Rows.SignTablesSaid :=
 OpenClaim.holds_of_cond 4 Tryz.f4 rfl rfl rfl rfl rfl rfl rfl ⟨rfl,rfl,rfl,rfl,rfl⟩ rfl rfl rfl rfl rfl (by kernel_rfl) Tryz.func4 (by kernel_rfl)
  (of_decide_eq_true (by kernel_rfl)) (by unfold Func.isWrapper;first|(rw [if_pos (by decide +kernel)];kernel_rfl)|(rw [if_neg (by decide +kernel)];exact ⟨rfl,rfl⟩))
  (fun os started H enc _ F=>by rw [OpenClaim.pre_eq_preRow];exact zch os started H enc F)
theorem zCh (f:FuncId) (fn:Func) (hf:Tryz.pinned.checked.prog.funcNamed "lychgate/lychgatelaw12.SignTables" = some f) (hfn:Tryz.pinned.checked.prog.funcs[f]?=some fn) :
  true=Tryz.pinned.checked.prog.looks []∧∀ (j:Nat) t,fn.params[j]?=some t→Tryz.pinned.checked.prog.wantsStandIn t=false:=by
 obtain rfl:f=4:=Option.some.inj ((show Tryz.prog.funcNamed "lychgate/lychgatelaw12.SignTables" = some 4 by kernel_rfl).symm.trans hf) |>.symm
 obtain rfl:fn=Tryz.f4:=(Option.some.inj (Tryz.func4.symm.trans hfn)).symm
 refine ⟨by kernel_rfl,fun j t ht=>?_⟩
 rw [Tryz.params4] at ht
 have hm:t=9∨t=61∨t=62:=by simpa using Array.mem_of_getElem? ht
 rcases hm with rfl|rfl|rfl
 ·exact (show Tryz.prog.wantsStandIn 9=false by kernel_rfl)
 ·exact (show Tryz.prog.wantsStandIn 61=false by kernel_rfl)
 ·exact (show Tryz.prog.wantsStandIn 62=false by kernel_rfl)
theorem signTables_card:Rows.SignTablesCardSaid :=
 Claim7.holds_tied_plain_at .later [] _ _ _ _ zRi (fun _ h=>by cases h) (by kernel_rfl) (fun _ h=>by cases h) signTables_row_tie rfl ⟨rfl,rfl⟩ (by kernel_rfl) rfl zCh (by kernel_rfl)
end Go.Proofs.YtpjnpffcnmgdcaaGreatDoor
