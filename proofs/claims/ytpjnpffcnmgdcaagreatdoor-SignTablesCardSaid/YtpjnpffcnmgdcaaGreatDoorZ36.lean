/- The law SignTables: its walk. -/
import Derived.Test.YtpjnpffcnmgdcaaGreatDoorZ34
import Derived.Test.YtpjnpffcnmgdcaaGreatDoorZ35
import Derived.Test.YtpjnpffcnmgdcaaGreatDoorZ23
namespace Go.Proofs.YtpjnpffcnmgdcaaGreatDoor
set_option maxRecDepth 100000
set_option maxHeartbeats 4000000
open Go.RowKit Go.Maps
def Stop (p:Prop):Prop:=p
theorem zBr {p:Prop} (h:Stop p):p:=h
def Two (w0 wr:World) (l l':List Ty) (tv rv:Value):Prop :=
 zOc wr l (fun b=>w0.heap.size≤b∧rv.ownBlock≠some b) tv∧zde wr l' (fun b=>w0.heap.size≤b∧tv.ownBlock≠some b) rv∧Below w0.heap.size w0 wr
theorem Two.nil (w:World):Two w w [] [] (.slice none 0 0) (.slice none 0 0):=⟨zOc.nil _ _,RAt.nil _ _,Below.refl _ _⟩
theorem Two.drew {w0 wr:World} {l l':List Ty} {tv rv:Value} (h:Two w0 wr l l' tv rv):Two w0 wr.drew l l' tv rv:=⟨h.1.drew,h.2.1.drew,h.2.2.drew⟩
theorem Two.alloc {w0 wr:World} {l l':List Ty} {tv rv:Value} (h:Two w0 wr l l' tv rv) (o:Obj):Two w0 (wr.alloc o) l l' tv rv :=
 ⟨h.1.keep fun b hb hl=>⟨hb,Below.heap_alloc wr o b hl⟩,h.2.1.alloc o,h.2.2.alloc h.2.2.size o⟩
theorem Two.call {w0 wr w':World} {l l':List Ty} {tv rv:Value} (h:Two w0 wr l l' tv rv) (hb:Below wr.heap.size wr w'):Two w0 w' l l' tv rv:=⟨h.1.below hb,h.2.1.below hb,h.2.2.trans (hb.mono h.2.2.size)⟩
theorem Two.lt {w0 wr:World} {l l':List Ty} {tv rv:Value} (h:Two w0 wr l l' tv rv):(∀ g,tv.ownBlock=some g→(w0.heap.size≤g∧rv.ownBlock≠some g)∧g<wr.heap.size)∧(∀ g,rv.ownBlock=some g→(w0.heap.size≤g∧tv.ownBlock≠some g)∧g<wr.heap.size):=by
 obtain ⟨⟨us,ho,hS,_⟩,⟨ho',hS'⟩,_⟩:=h
 exact ⟨fun g hg=>⟨hS g hg,(ho.lt g hg).2⟩,fun g hg=>⟨hS' g hg,(ho'.lt g hg).2⟩⟩
theorem Two.free {w0 wr:World} {l l':List Ty} {tv rv:Value} (h:Two w0 wr l l' tv rv):w0.heap.size≤wr.heap.size∧rv.ownBlock≠some wr.heap.size:=⟨h.2.2.size,fun hh=>by have:=(h.lt.2 _ hh).2;omega⟩
theorem Two.left {w0 wr w':World} {l l' m:List Ty} {tv rv v':Value} (h:Two w0 wr l l' tv rv) (h1:zOc w' m (fun b=>w0.heap.size≤b∧rv.ownBlock≠some b) v') (h2:wr.grownBy w' tv.ownBlock) (h3:v'.ownBlock=tv.ownBlock∨v'.ownBlock=some wr.heap.size):Two w0 w' m l' v' rv:=by
 refine ⟨h1,h.2.1.keep fun b hb hl=>⟨⟨hb.1,fun hh=>?_⟩,h2.block b hl (Ne.symm hb.2)⟩,h.2.2.grown h2 h.2.2.size fun k hk=>(h.lt.1 k hk).1.1⟩
 rcases h3 with h3|h3
 ·exact hb.2 (h3▸hh)
 ·rw [h3] at hh;cases hh;exact Nat.lt_irrefl _ hl
theorem Two.right {w0 wr w':World} {l l' m:List Ty} {tv rv v':Value} (h:Two w0 wr l l' tv rv) (h1:zde w' m (fun b=>rv.ownBlock=some b∨b=wr.heap.size) v') (h2:wr.grownBy w' rv.ownBlock):Two w0 w' l m tv v':=by
 refine ⟨h.1.keep fun b hb hl=>⟨⟨hb.1,fun hh=>?_⟩,h2.block b hl (Ne.symm hb.2)⟩,⟨h1.1,fun g hg=>?_⟩,h.2.2.grown h2 h.2.2.size fun k hk=>(h.lt.2 k hk).1.1⟩
 ·rcases h1.2 b hh with hk|rfl
  ·exact hb.2 hk
  ·exact Nat.lt_irrefl _ hl
 ·rcases h1.2 g hg with hk|rfl
  ·exact (h.lt.2 g hk).1
  ·exact ⟨h.2.2.size,fun hh=>by have:=(h.lt.1 _ hh).2;omega⟩
theorem Two.rv {w0 wr:World} {l l':List Ty} {tv rv:Value} (h:Two w0 wr l l' tv rv):zde wr l' (fun b=>rv.ownBlock=some b∨b=wr.heap.size) rv:=⟨h.2.1.1,fun _ hg=>.inl hg⟩
theorem Two.slices {w0 wr:World} {l l':List Ty} {tv rv:Value} (h:Two w0 wr l l' tv rv):(∃ a c,tv=.slice a l.length c)∧∃ a c,rv=.slice a l'.length c:=⟨h.1.slice,h.2.1.slice⟩
def lOf:E (List Sg)→List Sg
 | .ok l=>l
 | .error _=>[]
def qOf:E (List Sg)→Int
 | .ok _=>0
 | .error pc=>pc.1
def cOf:E (List Sg)→Int
 | .ok _=>0
 | .error pc=>pc.2
theorem zWj.un {w w':World} {r:E (List Sg)} {e:Ending} (h:zWj w r e w'):∃ v,e=.returned (.tuple #[v,.int .i64 (qOf r),.int .i64 (cOf r)])∧zNe w' (lOf r) (fun b=>w.heap.size≤b) v∧Below w.heap.size w w':=by
 cases r with
 | error pc=>obtain ⟨q,c⟩:=pc;obtain ⟨rfl,hb⟩:=h;exact ⟨_,rfl,zNe.nil _ _,hb⟩
 | ok l=>obtain ⟨v,rfl,hv,hb⟩:=h;exact ⟨v,rfl,hv,hb⟩
theorem zxi.un {w w':World} {r:E (List Sg)} {e:Ending} (h:zxi w r e w'):∃ v,e=.returned (.tuple #[v,.int .i64 (qOf r),.int .i64 (cOf r)])∧zRc w' (lOf r) (fun b=>w.heap.size≤b) v∧Below w.heap.size w w':=by
 cases r with
 | error pc=>obtain ⟨q,c⟩:=pc;obtain ⟨rfl,hb⟩:=h;exact ⟨_,rfl,zRc.nil _ _,hb⟩
 | ok l=>obtain ⟨v,rfl,hv,hb⟩:=h;exact ⟨v,rfl,hv,hb⟩
theorem zqk (a:Ty):∀ u∈zEb a,u.oneCell'=true:=by intro u hu;simp only [zEb,List.mem_cons,List.not_mem_nil,or_false] at hu;rcases hu with rfl|rfl|rfl|rfl|rfl<;>rfl
def zCt (w:World) (A:Option Addr) (ns:List ByteArray):Prop :=
 0<ns.length→∃ g o,A=some ⟨g,o,none⟩∧g<w.heap.size∧∀ k s,ns[k]?=some s→w.cell? ⟨g,o+k,none⟩=some (.string s)
def zzt (w:World) (A:Option Addr) (ks:List Int):Prop :=
 0<ks.length→∃ g o,A=some ⟨g,o,none⟩∧g<w.heap.size∧∀ k s,ks[k]?=some s→w.cell? ⟨g,o+k,none⟩=some (.int .i64 s)
theorem zXh (s:ByteArray) {A B:Option Addr} {ca cb:Nat} {ns:List ByteArray} {ks:List Int} (w:World) (hs:s.size≤maxLen) (ht:Tabs w) (hns:zCt w A ns) (hnl:ns.length≤ca∧ca≤maxLen) (hnz:∀ x∈ns,x.size≤maxLen) (hks:zzt w B ks) (hkl:ks.length≤cb∧cb≤maxLen) :
  Calls Tryz.prog 4 #[.string s,.slice A ns.length ca,.slice B ks.length cb] w fun e w'=>e=.returned (.bool true)∧Below w.heap.size w w':=by
 have HT:=zh ht
 have HNS:=zh hns
 have HKS:=zh hks
 have HNZ:=zh hnz
 cases hq:zhb s with
 | mk t1 q1 =>
 obtain ⟨p1,c1⟩:=q1
 have HQ1:=zh hq
 have HD1:=zh (show zZj t1∧t1.size≤4096∧(∀ x∈t1.kids,zVf x) from by have h1:=zFi s;have h2:=(zWg s).2;have h3:=zYk s;rw [hq] at h1 h2 h3;exact ⟨h1,h2,h3⟩)
 clear hq ht hns hks hnz
 go_enter Tryz.func4,Tryz.ntmps4
 go_wp2_with fail
 refine (parse_any s w hs HT.out).mono ?_
 rw [HQ1.out]
 rintro e w1 ⟨k1,rfl,hk,hb⟩
 have hwk:Hid (∀ (W:World),Below w.heap.size w W→Calls Tryz.prog 7 #[] W fun e w'=>e=.returned (.bool true)∧Below W.heap.size W w'):=zh fun W h=>zUl W (HT.out.below h HT.out.size)
 obtain ⟨W1,hW1⟩:∃ W,w1.alloc (.cells (zaa t1 k1).toArray 25)=W:=⟨_,rfl⟩
 have hb1:Below w1.heap.size w1 W1:=hW1▸(Below.refl _ _).alloc (Nat.le_refl _) _
 have HB1:=zh (hb.trans (hb1.mono hb.size))
 have HN1:=zh (show Blk W1 w1.heap.size (zaa t1 k1) 25 from hW1▸Blk.new w1 _ _)
 have HK1:=zh (show KAt 25 W1 t1.kids (fun b=>w.heap.size≤b) k1 from (show KAt 25 w1 t1.kids _ k1 from hk).below hb1)
 have HO1:=zh HK1.out.one
 have hn1:=HN1.out
 clear hk hb hb1
 unfold zna
 go_upto_region 2 with ((with_reducible refine zla 25 (.tmp 7) ?_);refine zga rfl 25 (.tmp 7) (.tmp 28) rfl (zaa t1 k1) (old:=zba) rfl rfl Tryz.zea rfl (zca _ _ HO1.out) ?_;rw [hW1])
 clear hW1
 go_wp2_with fail
 refine (hwk.out _ HB1.out).mono ?_
 rintro e w2 ⟨rfl,hb⟩
 have HB2:=zh (HB1.out.trans (hb.mono HB1.out.size))
 have HN2:=zh (HN1.out.stays hb)
 have HK2:=zh (HK1.out.below hb)
 clear hb hn1
 by_cases hc1:c1=0
 case neg =>
  have hne:(c1 != 0)=true:=by rw [bne_iff_ne];exact hc1
  go_wp2_with fail
  refine (hwk.out _ HB2.out).mono ?_
  rintro e w3 ⟨rfl,hb⟩
  have HB3:=zh (HB2.out.trans (hb.mono HB2.out.size))
  clear hb
  go_wp2_with fail
  go_ret
  exact ⟨rfl,HB3.out⟩
 case pos =>
  obtain rfl:=hc1
  go_wp2_with fail
  case inr =>
   have hn30:ns.length≤30:=by omega
   go_loopw [10,11,44] (fun tv rv i wr=>∃ j:Nat,j≤ns.length∧i=.int .i64 j∧Two w2 wr (zDb ns ks j) (zDb ns ks j) tv rv) (fun _ _ i _=>ns.length-(intOf i).toNat)
   case atStart=>exact ⟨0,by omega,rfl,Two.nil _⟩
   case round =>
    obtain ⟨j,hj,rfl,htw⟩:=hrel
    have HT2:=zh htw
    obtain ⟨⟨ta,tc,rfl⟩,ra,rc,rfl⟩:=htw.slices
    clear htw
    by_cases hlt:j<ns.length
    ·obtain ⟨g,og,hA,hg,hcell⟩:=HNS.out (by omega)
     cases hA
     have hx:ns[j]?=some (ns[j]):=List.getElem?_eq_getElem hlt
     have hcx:=(HB2.out.cell (cell_lt (hcell j _ hx))).trans (hcell j _ hx)
     have hcw:=(HT2.out.2.2.cell (cell_lt hcx)).trans hcx
     clear hcell hcx
     by_cases hk:j<ks.length
     ·obtain ⟨g2,og2,hB,hg2,hcell2⟩:=HKS.out (by omega)
      cases hB
      have hx2:ks[j]?=some (ks[j]):=List.getElem?_eq_getElem hk
      have hcx2:=(HB2.out.cell (cell_lt (hcell2 j _ hx2))).trans (hcell2 j _ hx2)
      have hcw2:=(HT2.out.2.2.cell (cell_lt hcx2)).trans hcx2
      clear hcell2 hcx2
      obtain ⟨W3,hW3⟩:∃ W,wr.alloc (.cells (zIa (znb ns[j] (ks[j])) (.slice none 0 0) (.slice none 0 0)).toArray 67)=W:=⟨_,rfl⟩
      have HX3:=zh (show Blk W3 wr.heap.size (zIa (znb ns[j] (ks[j])) (.slice none 0 0) (.slice none 0 0)) 67 from hW3▸Blk.new wr _ _)
      have HT3:=zh (show Two w2 W3 (zDb ns ks j) (zDb ns ks j) _ _ from hW3▸HT2.out.alloc _)
      unfold zIa znb at hW3
      obtain ⟨ic,zc,IC⟩:=Tryz.zNh
      go_wp2_with (at_builtin;refine zBr ?_)
      unfold Stop
      refine wpList_plain rfl fun _ hK=>?_
      refine zSd (.tmp 57) (.tmp 61) rfl IC rfl HT3.out.1 HT3.out.free rfl HX3.out (HandAt.new _ _ _ _) (by rw [zbd];omega) (fun v4 w4 h1 h2 h3=>hK _ _ ?_)
      have HT4:=zh (HT3.out.left h1 h2 h3)
      clear hK h1 h2 h3 IC
      obtain ⟨⟨ta4,tc4,rfl⟩,_⟩:=HT4.out.slices
      obtain ⟨ic,zc,IC⟩:=Tryz.zOj
      obtain ⟨W5,hW5⟩:∃ W,w4.alloc (.cells (zEb (znb ns[j] (ks[j]))).toArray 71)=W:=⟨_,rfl⟩
      have HL5:=zh (show zde W5 [znb ns[j] (ks[j])] (fun _=>True) _ from hW5▸RAt.lit (e:=71) (m:=5) (c:=zEb) w4 [znb ns[j] (ks[j])] (zEb (znb ns[j] (ks[j]))) 1 rfl (by simp) rfl (by decide) (fun _=>True) trivial)
      have HT5:=zh (show Two w2 W5 _ (zDb ns ks j) _ _ from hW5▸HT4.out.alloc _)
      unfold zEb znb at hW5
      go_wp2_with (at_builtin;refine zxb zPd zqk (by omega) (by omega) rfl (.tmp 63) (.tmp 67) rfl IC rfl HT5.out.rv rfl HL5.out (.inr rfl) (by rw [zbd];simp only [List.length_cons,List.length_nil];omega) ?_)
      rintro v6 w6 h1 h2
      have HT6:=zh (HT5.out.right h1 h2)
      clear h1 h2 IC
      obtain ⟨_,ra6,rc6,rfl⟩:=HT6.out.slices
      have E:zDb ns ks (j+1)=zDb ns ks j++[znb ns[j] (ks[j])]:=by rw [zmf,hx,hx2];rfl
      go_wp2_with fail
      refine ⟨⟨j+1,by omega,by go_num,?_⟩,by simp [intOf];omega⟩
      have h6:=HT6.out
      rw [E]
      simp only [List.length_append,List.length_cons,List.length_nil,Nat.zero_add] at h6 ⊢
      exact h6
     ·have hx2:ks[j]?=none:=List.getElem?_eq_none (by omega)
      obtain ⟨W3,hW3⟩:∃ W,wr.alloc (.cells (zIa (znb ns[j] (0)) (.slice none 0 0) (.slice none 0 0)).toArray 67)=W:=⟨_,rfl⟩
      have HX3:=zh (show Blk W3 wr.heap.size (zIa (znb ns[j] (0)) (.slice none 0 0) (.slice none 0 0)) 67 from hW3▸Blk.new wr _ _)
      have HT3:=zh (show Two w2 W3 (zDb ns ks j) (zDb ns ks j) _ _ from hW3▸HT2.out.alloc _)
      unfold zIa znb at hW3
      obtain ⟨ic,zc,IC⟩:=Tryz.zNh
      go_wp2_with (at_builtin;refine zBr ?_)
      unfold Stop
      refine wpList_plain rfl fun _ hK=>?_
      refine zSd (.tmp 57) (.tmp 61) rfl IC rfl HT3.out.1 HT3.out.free rfl HX3.out (HandAt.new _ _ _ _) (by rw [zbd];omega) (fun v4 w4 h1 h2 h3=>hK _ _ ?_)
      have HT4:=zh (HT3.out.left h1 h2 h3)
      clear hK h1 h2 h3 IC
      obtain ⟨⟨ta4,tc4,rfl⟩,_⟩:=HT4.out.slices
      obtain ⟨ic,zc,IC⟩:=Tryz.zOj
      obtain ⟨W5,hW5⟩:∃ W,w4.alloc (.cells (zEb (znb ns[j] (0))).toArray 71)=W:=⟨_,rfl⟩
      have HL5:=zh (show zde W5 [znb ns[j] (0)] (fun _=>True) _ from hW5▸RAt.lit (e:=71) (m:=5) (c:=zEb) w4 [znb ns[j] (0)] (zEb (znb ns[j] (0))) 1 rfl (by simp) rfl (by decide) (fun _=>True) trivial)
      have HT5:=zh (show Two w2 W5 _ (zDb ns ks j) _ _ from hW5▸HT4.out.alloc _)
      unfold zEb znb at hW5
      go_wp2_with (at_builtin;refine zxb zPd zqk (by omega) (by omega) rfl (.tmp 63) (.tmp 67) rfl IC rfl HT5.out.rv rfl HL5.out (.inr rfl) (by rw [zbd];simp only [List.length_cons,List.length_nil];omega) ?_)
      rintro v6 w6 h1 h2
      have HT6:=zh (HT5.out.right h1 h2)
      clear h1 h2 IC
      obtain ⟨_,ra6,rc6,rfl⟩:=HT6.out.slices
      have E:zDb ns ks (j+1)=zDb ns ks j++[znb ns[j] (0)]:=by rw [zmf,hx,hx2];rfl
      go_wp2_with fail
      refine ⟨⟨j+1,by omega,by go_num,?_⟩,by simp [intOf];omega⟩
      have h6:=HT6.out
      rw [E]
      simp only [List.length_append,List.length_cons,List.length_nil,Nat.zero_add] at h6 ⊢
      exact h6
    ·go_wp2_with fail
     refine (zBj s _ hs).mono ?_
     rw [HQ1.out]
     rintro e w3 ⟨k3,rfl,hk3,hb3⟩
     have HT3:=zh (HT2.out.call hb3)
     obtain ⟨W4,hW4⟩:∃ W,w3.alloc (.cells (zaa t1 k3).toArray 36)=W:=⟨_,rfl⟩
     have HT4:=zh (show Two w2 W4 _ _ _ _ from hW4▸HT3.out.alloc _)
     have HN4:=zh (show Blk W4 w3.heap.size (zaa t1 k3) 36 from hW4▸Blk.new w3 _ _)
     have hk4:KAt 36 w3 t1.kids _ k3:=hk3
     have HK4:=zh (show KAt 36 W4 t1.kids (fun b=>wr.heap.size≤b) k3 from hW4▸hk4.alloc _)
     have HO4:=zh HK4.out.one
     clear hk3 hk4 hb3
     unfold zna
     go_upto_region 16 with ((with_reducible refine zla 36 (.tmp 15) ?_);refine zga rfl 36 (.tmp 15) (.tmp 73) rfl (zaa t1 k3) (old:=zba) rfl rfl Tryz.zha rfl (zca _ _ HO4.out) ?_;rw [hW4])
     clear hW4
     have hns:∀ t∈zDb ns ks j,t.name.size≤maxLen:=znh ns ks j HNZ.out
     obtain ⟨va,vc,ev,hcl,hty⟩:=HT4.out.1.tysc
     cases ev
     have HN5:=zh (HN2.out.stays HT4.out.2.2)
     have HK5:=zh (HK2.out.below HT4.out.2.2)
     have HSG:=zh (zKh hty hcl hns HK5.out HD1.out.2.1 HD1.out.2.2)
     unfold zna at HSG
     obtain ⟨r,hr⟩:∃ r,zTd (zDb ns ks j) [] t1.kids=r:=⟨_,rfl⟩
     have HR:=zh hr
     rw [hr] at HSG
     have hn5:=HN5.out
     clear hcl hty hns hr
     go_wp2_with ((with_reducible refine zqa 25 (.tmp 7) ?_);refine zia rfl 25 (.tmp 7) rfl w1.heap.size (zaa t1 k1) rfl hn5 Tryz.underlying25 rfl Tryz.zea ?_)
     refine HSG.out.mono ?_
     clear HSG hn5
     intro e w6 hp
     obtain ⟨v6,rfl,hv,hb⟩:=hp.un
     have HT6:=zh (HT4.out.call hb)
     have HN6:=zh (HN4.out.stays hb)
     have HK6:=zh (HK4.out.below hb)
     have HV6:=zh hv
     obtain ⟨la,lc,rfl⟩:=hv.slice
     clear hp hv hb
     obtain ⟨rb,rbc,er,hrl,hrt⟩:=HT6.out.2.1.tys
     cases er
     have HSG:=zh (ztl (cap:=rc) hrt hrl HK6.out HD1.out.2.1 HD1.out.2.2)
     unfold zna at HSG
     rw [HR.out] at HSG
     have hn6:=HN6.out
     clear hrl hrt
     go_wp2_with ((with_reducible refine zqa 36 (.tmp 15) ?_);refine zia rfl 36 (.tmp 15) rfl w3.heap.size (zaa t1 k3) rfl hn6 Tryz.underlying36 rfl Tryz.zha ?_)
     refine HSG.out.mono ?_
     clear HSG hn6
     intro e w7 hp
     obtain ⟨v7,rfl,hv,hb⟩:=hp.un
     have HB7:=zh (HB2.out.trans ((HT6.out.call hb).2.2.mono HB2.out.size))
     have HV7:=zh (HV6.out.below hb)
     have HR7:=zh hv
     obtain ⟨lb,lbc,rfl⟩:=hv.slice
     clear hp hv hb
     go_wp2_with fail
     obtain ⟨n,hn⟩:∃ n,(lOf r).length=n:=⟨_,rfl⟩
     have HN:=zh hn
     rw [hn]
     clear hn
     go_loopw [107] (fun i wr=>∃ k:Nat,k≤n∧i=.int .i64 k∧Below w7.heap.size w7 wr) (fun i _=>n-(intOf i).toNat)
     case atStart=>exact ⟨0,by omega,rfl,Below.refl _ _⟩
     case round =>
      obtain ⟨i,hi,rfl,hbi⟩:=hrel
      have HBI:=zh hbi
      clear hbi
      by_cases hli:i<n
      ·obtain ⟨c,hc⟩:∃ c,(lOf r)[i]?=some c:=⟨_,List.getElem?_eq_getElem (by rw [HN.out];exact hli)⟩
       obtain ⟨ga,ca2,e1,hga,hcapa,hcma,hgeta⟩:=(HV7.out.form).resolve_left fun h=>by rw [h.2] at hc;simp at hc
       obtain ⟨gb,cb2,e2,hgb,hcapb,hcmb,hgetb⟩:=(HR7.out.form).resolve_left fun h=>by rw [h.2] at hc;simp at hc
       obtain ⟨rfl,rfl⟩:la=some ⟨ga,0,none⟩∧lc=ca2:=by simpa using e1
       obtain ⟨rfl,rfl⟩:lb=some ⟨gb,0,none⟩∧lbc=cb2:=by simpa using e2
       obtain ⟨pa,hra,hpa⟩:=hgeta i c hc
       obtain ⟨pb,hrb,hpb⟩:=hgetb i c hc
       have HRA:=zh (zua hra HBI.out hga.2)
       have HRB:=zh (zua hrb HBI.out hgb.2)
       have HPA:=zh (hpa.below HBI.out)
       have HPB:=zh (hpb.below HBI.out)
       have HGA:=zh (Nat.lt_of_lt_of_le hga.2 HBI.out.size)
       have HGB:=zh (Nat.lt_of_lt_of_le hgb.2 HBI.out.size)
       have hin:(i:Int)<(n:Int):=by omega
       have hcap:n≤9223372036854775807:=by
                            have h1:=HN.out;have h2:maxLen≤9223372036854775807:=by decide
                            omega
       clear hgeta hgetb hc e1 e2 hra hrb hpa hpb
       go_upto_region 23 with fail
       refine wp_region_held_drew (S:=fun W=>W.rangeAt ga (i * 5) (zka c pa)∧W.rangeAt gb (i * 5) (zka c pb)) (by kernel_rfl) ⟨HRA.out,HRB.out⟩ (fun hS=>?_)
       refine wpAnyH_take (i:=0) (oi:=⟨some 110,_,_,_,_,_⟩) (v:=.slice (some ⟨ga,0,none⟩) n lc) rfl (by kernel_rfl) (by kernel_rfl) (by kernel_rfl) (fun _ _ _ h=>h) (Or.inl ⟨by rfl,fun W _=>by go_simp⟩) hS ?_
       try simp only [Act.put,List.setIfInBounds_toArray,List.set_cons_zero,List.set_cons_succ]
       refine wpAnyH_take (i:=1) (oi:=⟨some 111,_,_,_,_,_⟩) (v:=.int .i64 i) rfl (by kernel_rfl) (by kernel_rfl) (by kernel_rfl) (fun _ _ _ h=>h) (Or.inl ⟨by rfl,fun W _=>by go_simp⟩) hS ?_
       try simp only [Act.put,List.setIfInBounds_toArray,List.set_cons_zero,List.set_cons_succ]
       refine wpAnyH_take (i:=2) (oi:=⟨some 112,_,_,_,_,_⟩) (v:=.pointer (some ⟨ga,i * 5,none⟩)) rfl (by kernel_rfl) (by kernel_rfl) (by kernel_rfl) (fun _ _ _ h=>h) (Or.inl ⟨by rfl,fun W _=>by go_simp⟩) hS ?_
       try simp only [Act.put,List.setIfInBounds_toArray,List.set_cons_zero,List.set_cons_succ]
       refine wpAnyH_take (i:=3) (oi:=⟨some 113,_,_,_,_,_⟩) (v:=.agg (zka c pa).toArray) rfl (by kernel_rfl) (by kernel_rfl) (by kernel_rfl) (fun _ _ _ h=>h) (yieldsIf_load_mid (cs:=zka c pa) (by rfl) 54 (.tmp 112) rfl ga (i * 5) (by go_simp) _ (fun W hW=>hW.1) Tryz.underlying54 rfl Tryz.zre) hS ?_
       try simp only [Act.put,List.setIfInBounds_toArray,List.set_cons_zero,List.set_cons_succ]
       refine wpAnyH_take (i:=4) (oi:=⟨some 114,_,_,_,_,_⟩) (v:=.slice (some ⟨gb,0,none⟩) n lbc) rfl (by kernel_rfl) (by kernel_rfl) (by kernel_rfl) (fun _ _ _ h=>h) (Or.inl ⟨by rfl,fun W _=>by go_simp⟩) hS ?_
       try simp only [Act.put,List.setIfInBounds_toArray,List.set_cons_zero,List.set_cons_succ]
       refine wpAnyH_take (i:=5) (oi:=⟨some 115,_,_,_,_,_⟩) (v:=.int .i64 i) rfl (by kernel_rfl) (by kernel_rfl) (by kernel_rfl) (fun _ _ _ h=>h) (Or.inl ⟨by rfl,fun W _=>by go_simp⟩) hS ?_
       try simp only [Act.put,List.setIfInBounds_toArray,List.set_cons_zero,List.set_cons_succ]
       refine wpAnyH_take (i:=6) (oi:=⟨some 116,_,_,_,_,_⟩) (v:=.pointer (some ⟨gb,i * 5,none⟩)) rfl (by kernel_rfl) (by kernel_rfl) (by kernel_rfl) (fun _ _ _ h=>h) (Or.inl ⟨by rfl,fun W _=>by go_simp⟩) hS ?_
       try simp only [Act.put,List.setIfInBounds_toArray,List.set_cons_zero,List.set_cons_succ]
       refine wpAnyH_take (i:=7) (oi:=⟨some 117,_,_,_,_,_⟩) (v:=.agg (zka c pb).toArray) rfl (by kernel_rfl) (by kernel_rfl) (by kernel_rfl) (fun _ _ _ h=>h) (yieldsIf_load_mid (cs:=zka c pb) (by rfl) 59 (.tmp 116) rfl gb (i * 5) (by go_simp) _ (fun W hW=>hW.2) Tryz.underlying59 rfl Tryz.zyc) hS ?_
       try simp only [Act.put,List.setIfInBounds_toArray,List.set_cons_zero,List.set_cons_succ]
       refine AnyH.only (i:=8) (o:=⟨some 118,_,_,_,_,_⟩) (by kernel_rfl) rfl (by rfl) (fun K hK=>?_)
       go_simp
       refine (zvj c HPA.out.drew HPB.out.drew).mono ?_
       rintro e w8 ⟨rfl,hb⟩
       have HB8:=zh (HBI.out.drew.trans (hb.mono HBI.out.drew.size))
       have hS2:w8.rangeAt ga (i * 5) (zka c pa)∧w8.rangeAt gb (i * 5) (zka c pb):=⟨zua (w:=wr.drew) HRA.out hb HGA.out,zua (w:=wr.drew) HRB.out hb HGB.out⟩
       clear hb
       refine hK.out _ _ hS2 ?_
       clear hK K hS
       try simp only [Act.put,List.setIfInBounds_toArray,List.set_cons_zero,List.set_cons_succ]
       refine wpAnyH_take (i:=9) (oi:=⟨some 119,_,_,_,_,_⟩) (v:=.bool false) rfl (by kernel_rfl) (by kernel_rfl) (by kernel_rfl) (fun _ _ _ h=>h) (Or.inl ⟨by rfl,fun W _=>by go_simp⟩) hS2 ?_
       try simp only [Act.put,List.setIfInBounds_toArray,List.set_cons_zero,List.set_cons_succ]
       refine wpAnyH_done (by kernel_rfl) ?_ _
       clear hS2
       go_wp2_with fail
       go_roundw
       case rel=>exact ⟨i+1,by omega,by go_num,HB8.out⟩
       case measure=>simp [intOf];omega
      ·have HB9:=zh (HB7.out.trans (HBI.out.mono HB7.out.size))
       go_wp2_with fail
       go_ret
       exact ⟨rfl,HB9.out⟩
  case inl =>
   have hn30:30<ns.length:=by omega
   go_loopw [10,11,44] (fun tv rv i wr=>∃ j:Nat,j≤30∧i=.int .i64 j∧Two w2 wr (zDb ns ks j) (zDb ns ks j) tv rv) (fun _ _ i _=>30-(intOf i).toNat)
   case atStart=>exact ⟨0,by omega,rfl,Two.nil _⟩
   case round =>
    obtain ⟨j,hj,rfl,htw⟩:=hrel
    have HT2:=zh htw
    obtain ⟨⟨ta,tc,rfl⟩,ra,rc,rfl⟩:=htw.slices
    clear htw
    by_cases hlt:j<30
    ·have hjn:j<ns.length:=by omega
     have hj30:(j:Int)<30:=by omega
     obtain ⟨g,og,hA,hg,hcell⟩:=HNS.out (by omega)
     cases hA
     have hx:ns[j]?=some (ns[j]):=List.getElem?_eq_getElem hjn
     have hcx:=(HB2.out.cell (cell_lt (hcell j _ hx))).trans (hcell j _ hx)
     have hcw:=(HT2.out.2.2.cell (cell_lt hcx)).trans hcx
     clear hcell hcx
     by_cases hk:j<ks.length
     ·obtain ⟨g2,og2,hB,hg2,hcell2⟩:=HKS.out (by omega)
      cases hB
      have hx2:ks[j]?=some (ks[j]):=List.getElem?_eq_getElem hk
      have hcx2:=(HB2.out.cell (cell_lt (hcell2 j _ hx2))).trans (hcell2 j _ hx2)
      have hcw2:=(HT2.out.2.2.cell (cell_lt hcx2)).trans hcx2
      clear hcell2 hcx2
      obtain ⟨W3,hW3⟩:∃ W,wr.alloc (.cells (zIa (znb ns[j] (ks[j])) (.slice none 0 0) (.slice none 0 0)).toArray 67)=W:=⟨_,rfl⟩
      have HX3:=zh (show Blk W3 wr.heap.size (zIa (znb ns[j] (ks[j])) (.slice none 0 0) (.slice none 0 0)) 67 from hW3▸Blk.new wr _ _)
      have HT3:=zh (show Two w2 W3 (zDb ns ks j) (zDb ns ks j) _ _ from hW3▸HT2.out.alloc _)
      unfold zIa znb at hW3
      obtain ⟨ic,zc,IC⟩:=Tryz.zNh
      go_wp2_with (at_builtin;refine zBr ?_)
      unfold Stop
      refine wpList_plain rfl fun _ hK=>?_
      refine zSd (.tmp 57) (.tmp 61) rfl IC rfl HT3.out.1 HT3.out.free rfl HX3.out (HandAt.new _ _ _ _) (by rw [zbd];omega) (fun v4 w4 h1 h2 h3=>hK _ _ ?_)
      have HT4:=zh (HT3.out.left h1 h2 h3)
      clear hK h1 h2 h3 IC
      obtain ⟨⟨ta4,tc4,rfl⟩,_⟩:=HT4.out.slices
      obtain ⟨ic,zc,IC⟩:=Tryz.zOj
      obtain ⟨W5,hW5⟩:∃ W,w4.alloc (.cells (zEb (znb ns[j] (ks[j]))).toArray 71)=W:=⟨_,rfl⟩
      have HL5:=zh (show zde W5 [znb ns[j] (ks[j])] (fun _=>True) _ from hW5▸RAt.lit (e:=71) (m:=5) (c:=zEb) w4 [znb ns[j] (ks[j])] (zEb (znb ns[j] (ks[j]))) 1 rfl (by simp) rfl (by decide) (fun _=>True) trivial)
      have HT5:=zh (show Two w2 W5 _ (zDb ns ks j) _ _ from hW5▸HT4.out.alloc _)
      unfold zEb znb at hW5
      go_wp2_with (at_builtin;refine zxb zPd zqk (by omega) (by omega) rfl (.tmp 63) (.tmp 67) rfl IC rfl HT5.out.rv rfl HL5.out (.inr rfl) (by rw [zbd];simp only [List.length_cons,List.length_nil];omega) ?_)
      rintro v6 w6 h1 h2
      have HT6:=zh (HT5.out.right h1 h2)
      clear h1 h2 IC
      obtain ⟨_,ra6,rc6,rfl⟩:=HT6.out.slices
      have E:zDb ns ks (j+1)=zDb ns ks j++[znb ns[j] (ks[j])]:=by rw [zmf,hx,hx2];rfl
      go_wp2_with fail
      refine ⟨⟨j+1,by omega,by go_num,?_⟩,by simp [intOf];omega⟩
      have h6:=HT6.out
      rw [E]
      simp only [List.length_append,List.length_cons,List.length_nil,Nat.zero_add] at h6 ⊢
      exact h6
     ·have hx2:ks[j]?=none:=List.getElem?_eq_none (by omega)
      obtain ⟨W3,hW3⟩:∃ W,wr.alloc (.cells (zIa (znb ns[j] (0)) (.slice none 0 0) (.slice none 0 0)).toArray 67)=W:=⟨_,rfl⟩
      have HX3:=zh (show Blk W3 wr.heap.size (zIa (znb ns[j] (0)) (.slice none 0 0) (.slice none 0 0)) 67 from hW3▸Blk.new wr _ _)
      have HT3:=zh (show Two w2 W3 (zDb ns ks j) (zDb ns ks j) _ _ from hW3▸HT2.out.alloc _)
      unfold zIa znb at hW3
      obtain ⟨ic,zc,IC⟩:=Tryz.zNh
      go_wp2_with (at_builtin;refine zBr ?_)
      unfold Stop
      refine wpList_plain rfl fun _ hK=>?_
      refine zSd (.tmp 57) (.tmp 61) rfl IC rfl HT3.out.1 HT3.out.free rfl HX3.out (HandAt.new _ _ _ _) (by rw [zbd];omega) (fun v4 w4 h1 h2 h3=>hK _ _ ?_)
      have HT4:=zh (HT3.out.left h1 h2 h3)
      clear hK h1 h2 h3 IC
      obtain ⟨⟨ta4,tc4,rfl⟩,_⟩:=HT4.out.slices
      obtain ⟨ic,zc,IC⟩:=Tryz.zOj
      obtain ⟨W5,hW5⟩:∃ W,w4.alloc (.cells (zEb (znb ns[j] (0))).toArray 71)=W:=⟨_,rfl⟩
      have HL5:=zh (show zde W5 [znb ns[j] (0)] (fun _=>True) _ from hW5▸RAt.lit (e:=71) (m:=5) (c:=zEb) w4 [znb ns[j] (0)] (zEb (znb ns[j] (0))) 1 rfl (by simp) rfl (by decide) (fun _=>True) trivial)
      have HT5:=zh (show Two w2 W5 _ (zDb ns ks j) _ _ from hW5▸HT4.out.alloc _)
      unfold zEb znb at hW5
      go_wp2_with (at_builtin;refine zxb zPd zqk (by omega) (by omega) rfl (.tmp 63) (.tmp 67) rfl IC rfl HT5.out.rv rfl HL5.out (.inr rfl) (by rw [zbd];simp only [List.length_cons,List.length_nil];omega) ?_)
      rintro v6 w6 h1 h2
      have HT6:=zh (HT5.out.right h1 h2)
      clear h1 h2 IC
      obtain ⟨_,ra6,rc6,rfl⟩:=HT6.out.slices
      have E:zDb ns ks (j+1)=zDb ns ks j++[znb ns[j] (0)]:=by rw [zmf,hx,hx2];rfl
      go_wp2_with fail
      refine ⟨⟨j+1,by omega,by go_num,?_⟩,by simp [intOf];omega⟩
      have h6:=HT6.out
      rw [E]
      simp only [List.length_append,List.length_cons,List.length_nil,Nat.zero_add] at h6 ⊢
      exact h6
    ·have hj30:¬ (j:Int)<30:=by omega
     go_wp2_with fail
     refine (zBj s _ hs).mono ?_
     rw [HQ1.out]
     rintro e w3 ⟨k3,rfl,hk3,hb3⟩
     have HT3:=zh (HT2.out.call hb3)
     obtain ⟨W4,hW4⟩:∃ W,w3.alloc (.cells (zaa t1 k3).toArray 36)=W:=⟨_,rfl⟩
     have HT4:=zh (show Two w2 W4 _ _ _ _ from hW4▸HT3.out.alloc _)
     have HN4:=zh (show Blk W4 w3.heap.size (zaa t1 k3) 36 from hW4▸Blk.new w3 _ _)
     have hk4:KAt 36 w3 t1.kids _ k3:=hk3
     have HK4:=zh (show KAt 36 W4 t1.kids (fun b=>wr.heap.size≤b) k3 from hW4▸hk4.alloc _)
     have HO4:=zh HK4.out.one
     clear hk3 hk4 hb3
     unfold zna
     go_upto_region 16 with ((with_reducible refine zla 36 (.tmp 15) ?_);refine zga rfl 36 (.tmp 15) (.tmp 73) rfl (zaa t1 k3) (old:=zba) rfl rfl Tryz.zha rfl (zca _ _ HO4.out) ?_;rw [hW4])
     clear hW4
     have hns:∀ t∈zDb ns ks j,t.name.size≤maxLen:=znh ns ks j HNZ.out
     obtain ⟨va,vc,ev,hcl,hty⟩:=HT4.out.1.tysc
     cases ev
     have HN5:=zh (HN2.out.stays HT4.out.2.2)
     have HK5:=zh (HK2.out.below HT4.out.2.2)
     have HSG:=zh (zKh hty hcl hns HK5.out HD1.out.2.1 HD1.out.2.2)
     unfold zna at HSG
     obtain ⟨r,hr⟩:∃ r,zTd (zDb ns ks j) [] t1.kids=r:=⟨_,rfl⟩
     have HR:=zh hr
     rw [hr] at HSG
     have hn5:=HN5.out
     clear hcl hty hns hr
     go_wp2_with ((with_reducible refine zqa 25 (.tmp 7) ?_);refine zia rfl 25 (.tmp 7) rfl w1.heap.size (zaa t1 k1) rfl hn5 Tryz.underlying25 rfl Tryz.zea ?_)
     refine HSG.out.mono ?_
     clear HSG hn5
     intro e w6 hp
     obtain ⟨v6,rfl,hv,hb⟩:=hp.un
     have HT6:=zh (HT4.out.call hb)
     have HN6:=zh (HN4.out.stays hb)
     have HK6:=zh (HK4.out.below hb)
     have HV6:=zh hv
     obtain ⟨la,lc,rfl⟩:=hv.slice
     clear hp hv hb
     obtain ⟨rb,rbc,er,hrl,hrt⟩:=HT6.out.2.1.tys
     cases er
     have HSG:=zh (ztl (cap:=rc) hrt hrl HK6.out HD1.out.2.1 HD1.out.2.2)
     unfold zna at HSG
     rw [HR.out] at HSG
     have hn6:=HN6.out
     clear hrl hrt
     go_wp2_with ((with_reducible refine zqa 36 (.tmp 15) ?_);refine zia rfl 36 (.tmp 15) rfl w3.heap.size (zaa t1 k3) rfl hn6 Tryz.underlying36 rfl Tryz.zha ?_)
     refine HSG.out.mono ?_
     clear HSG hn6
     intro e w7 hp
     obtain ⟨v7,rfl,hv,hb⟩:=hp.un
     have HB7:=zh (HB2.out.trans ((HT6.out.call hb).2.2.mono HB2.out.size))
     have HV7:=zh (HV6.out.below hb)
     have HR7:=zh hv
     obtain ⟨lb,lbc,rfl⟩:=hv.slice
     clear hp hv hb
     go_wp2_with fail
     obtain ⟨n,hn⟩:∃ n,(lOf r).length=n:=⟨_,rfl⟩
     have HN:=zh hn
     rw [hn]
     clear hn
     go_loopw [107] (fun i wr=>∃ k:Nat,k≤n∧i=.int .i64 k∧Below w7.heap.size w7 wr) (fun i _=>n-(intOf i).toNat)
     case atStart=>exact ⟨0,by omega,rfl,Below.refl _ _⟩
     case round =>
      obtain ⟨i,hi,rfl,hbi⟩:=hrel
      have HBI:=zh hbi
      clear hbi
      by_cases hli:i<n
      ·obtain ⟨c,hc⟩:∃ c,(lOf r)[i]?=some c:=⟨_,List.getElem?_eq_getElem (by rw [HN.out];exact hli)⟩
       obtain ⟨ga,ca2,e1,hga,hcapa,hcma,hgeta⟩:=(HV7.out.form).resolve_left fun h=>by rw [h.2] at hc;simp at hc
       obtain ⟨gb,cb2,e2,hgb,hcapb,hcmb,hgetb⟩:=(HR7.out.form).resolve_left fun h=>by rw [h.2] at hc;simp at hc
       obtain ⟨rfl,rfl⟩:la=some ⟨ga,0,none⟩∧lc=ca2:=by simpa using e1
       obtain ⟨rfl,rfl⟩:lb=some ⟨gb,0,none⟩∧lbc=cb2:=by simpa using e2
       obtain ⟨pa,hra,hpa⟩:=hgeta i c hc
       obtain ⟨pb,hrb,hpb⟩:=hgetb i c hc
       have HRA:=zh (zua hra HBI.out hga.2)
       have HRB:=zh (zua hrb HBI.out hgb.2)
       have HPA:=zh (hpa.below HBI.out)
       have HPB:=zh (hpb.below HBI.out)
       have HGA:=zh (Nat.lt_of_lt_of_le hga.2 HBI.out.size)
       have HGB:=zh (Nat.lt_of_lt_of_le hgb.2 HBI.out.size)
       have hin:(i:Int)<(n:Int):=by omega
       have hcap:n≤9223372036854775807:=by
                            have h1:=HN.out;have h2:maxLen≤9223372036854775807:=by decide
                            omega
       clear hgeta hgetb hc e1 e2 hra hrb hpa hpb
       go_upto_region 23 with fail
       refine wp_region_held_drew (S:=fun W=>W.rangeAt ga (i * 5) (zka c pa)∧W.rangeAt gb (i * 5) (zka c pb)) (by kernel_rfl) ⟨HRA.out,HRB.out⟩ (fun hS=>?_)
       refine wpAnyH_take (i:=0) (oi:=⟨some 110,_,_,_,_,_⟩) (v:=.slice (some ⟨ga,0,none⟩) n lc) rfl (by kernel_rfl) (by kernel_rfl) (by kernel_rfl) (fun _ _ _ h=>h) (Or.inl ⟨by rfl,fun W _=>by go_simp⟩) hS ?_
       try simp only [Act.put,List.setIfInBounds_toArray,List.set_cons_zero,List.set_cons_succ]
       refine wpAnyH_take (i:=1) (oi:=⟨some 111,_,_,_,_,_⟩) (v:=.int .i64 i) rfl (by kernel_rfl) (by kernel_rfl) (by kernel_rfl) (fun _ _ _ h=>h) (Or.inl ⟨by rfl,fun W _=>by go_simp⟩) hS ?_
       try simp only [Act.put,List.setIfInBounds_toArray,List.set_cons_zero,List.set_cons_succ]
       refine wpAnyH_take (i:=2) (oi:=⟨some 112,_,_,_,_,_⟩) (v:=.pointer (some ⟨ga,i * 5,none⟩)) rfl (by kernel_rfl) (by kernel_rfl) (by kernel_rfl) (fun _ _ _ h=>h) (Or.inl ⟨by rfl,fun W _=>by go_simp⟩) hS ?_
       try simp only [Act.put,List.setIfInBounds_toArray,List.set_cons_zero,List.set_cons_succ]
       refine wpAnyH_take (i:=3) (oi:=⟨some 113,_,_,_,_,_⟩) (v:=.agg (zka c pa).toArray) rfl (by kernel_rfl) (by kernel_rfl) (by kernel_rfl) (fun _ _ _ h=>h) (yieldsIf_load_mid (cs:=zka c pa) (by rfl) 54 (.tmp 112) rfl ga (i * 5) (by go_simp) _ (fun W hW=>hW.1) Tryz.underlying54 rfl Tryz.zre) hS ?_
       try simp only [Act.put,List.setIfInBounds_toArray,List.set_cons_zero,List.set_cons_succ]
       refine wpAnyH_take (i:=4) (oi:=⟨some 114,_,_,_,_,_⟩) (v:=.slice (some ⟨gb,0,none⟩) n lbc) rfl (by kernel_rfl) (by kernel_rfl) (by kernel_rfl) (fun _ _ _ h=>h) (Or.inl ⟨by rfl,fun W _=>by go_simp⟩) hS ?_
       try simp only [Act.put,List.setIfInBounds_toArray,List.set_cons_zero,List.set_cons_succ]
       refine wpAnyH_take (i:=5) (oi:=⟨some 115,_,_,_,_,_⟩) (v:=.int .i64 i) rfl (by kernel_rfl) (by kernel_rfl) (by kernel_rfl) (fun _ _ _ h=>h) (Or.inl ⟨by rfl,fun W _=>by go_simp⟩) hS ?_
       try simp only [Act.put,List.setIfInBounds_toArray,List.set_cons_zero,List.set_cons_succ]
       refine wpAnyH_take (i:=6) (oi:=⟨some 116,_,_,_,_,_⟩) (v:=.pointer (some ⟨gb,i * 5,none⟩)) rfl (by kernel_rfl) (by kernel_rfl) (by kernel_rfl) (fun _ _ _ h=>h) (Or.inl ⟨by rfl,fun W _=>by go_simp⟩) hS ?_
       try simp only [Act.put,List.setIfInBounds_toArray,List.set_cons_zero,List.set_cons_succ]
       refine wpAnyH_take (i:=7) (oi:=⟨some 117,_,_,_,_,_⟩) (v:=.agg (zka c pb).toArray) rfl (by kernel_rfl) (by kernel_rfl) (by kernel_rfl) (fun _ _ _ h=>h) (yieldsIf_load_mid (cs:=zka c pb) (by rfl) 59 (.tmp 116) rfl gb (i * 5) (by go_simp) _ (fun W hW=>hW.2) Tryz.underlying59 rfl Tryz.zyc) hS ?_
       try simp only [Act.put,List.setIfInBounds_toArray,List.set_cons_zero,List.set_cons_succ]
       refine AnyH.only (i:=8) (o:=⟨some 118,_,_,_,_,_⟩) (by kernel_rfl) rfl (by rfl) (fun K hK=>?_)
       go_simp
       refine (zvj c HPA.out.drew HPB.out.drew).mono ?_
       rintro e w8 ⟨rfl,hb⟩
       have HB8:=zh (HBI.out.drew.trans (hb.mono HBI.out.drew.size))
       have hS2:w8.rangeAt ga (i * 5) (zka c pa)∧w8.rangeAt gb (i * 5) (zka c pb):=⟨zua (w:=wr.drew) HRA.out hb HGA.out,zua (w:=wr.drew) HRB.out hb HGB.out⟩
       clear hb
       refine hK.out _ _ hS2 ?_
       clear hK K hS
       try simp only [Act.put,List.setIfInBounds_toArray,List.set_cons_zero,List.set_cons_succ]
       refine wpAnyH_take (i:=9) (oi:=⟨some 119,_,_,_,_,_⟩) (v:=.bool false) rfl (by kernel_rfl) (by kernel_rfl) (by kernel_rfl) (fun _ _ _ h=>h) (Or.inl ⟨by rfl,fun W _=>by go_simp⟩) hS2 ?_
       try simp only [Act.put,List.setIfInBounds_toArray,List.set_cons_zero,List.set_cons_succ]
       refine wpAnyH_done (by kernel_rfl) ?_ _
       clear hS2
       go_wp2_with fail
       go_roundw
       case rel=>exact ⟨i+1,by omega,by go_num,HB8.out⟩
       case measure=>simp [intOf];omega
      ·have HB9:=zh (HB7.out.trans (HBI.out.mono HB7.out.size))
       go_wp2_with fail
       go_ret
       exact ⟨rfl,HB9.out⟩
end Go.Proofs.YtpjnpffcnmgdcaaGreatDoor
