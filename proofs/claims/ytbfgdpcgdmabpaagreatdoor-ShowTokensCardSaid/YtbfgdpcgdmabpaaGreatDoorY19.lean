/- The contracts of slices.Index and slices.Contains on kinds, and of show's fit: whether the kids are some parts in this order. -/
import Derived.Test.YtbfgdpcgdmabpaaGreatDoorY17
import Derived.Test.YtbfgdpcgdmabpaaGreatDoorY14
import Derived.Test.YtbfgdpcgdmabpaaGreatDoorY04
namespace Go.Proofs.YtbfgdpcgdmabpaaGreatDoor
set_option maxRecDepth 100000
set_option maxHeartbeats 2000000
open Go.RowKit
def IxRel (xs:List Int) (x:Int) (w:World) (gh:Nat) (i:Value) (wr:World):Prop :=
 ∃ k:Nat,k≤xs.length∧xs.length≤k+gh∧i=.int .i64 k∧wr=w∧∀ j y,j<k→xs[j]?=some y→y≠x
theorem zxn {w:World} {kb c:Nat} {xs:List Int} (hb:Blk w kb (xs.map (Value.int .i64)) 22) (x:Int) (hz:xs.length≤1000000) :
  Calls Tryz.prog 151 #[.slice (some ⟨kb,0,none⟩) xs.length c,.int .i64 x] w fun e w'=>(∃ r:Int,e=.returned (.int .i64 r)∧(0≤r↔x∈xs))∧w'=w:=by
 have HB:=zh hb
 clear hb
 go_enter Tryz.func151,Tryz.ntmps151
 go_wp2_with fail
 go_loopg [8] xs.length (fun gk i wr=>IxRel xs x w gk i wr)
 case atStart=>exact ⟨0,by omega,by omega,rfl,rfl,fun j y hj _=>by omega⟩
 case round =>
  obtain ⟨k,hk,hgk,rfl,hw,hno⟩:=hrel
  have HW:=zh hw
  have HNO:=zh hno
  clear hw hno
  by_cases hlt:k<xs.length
  ·obtain ⟨y,hy⟩:∃ y,xs[k]?=some y:=⟨xs[k],List.getElem?_eq_getElem hlt⟩
   have hc0:wr.cell? ⟨kb,k,none⟩=some (.int .i64 y):=by rw [HW.out,HB.out.cell k,List.getElem?_map,hy];rfl
   have HY:=zh hy
   clear hy
   by_cases hxy:x=y
   ·subst hxy
    go_wp2_with fail
    go_ret
    exact ⟨⟨(k:Int),rfl,⟨fun _=>List.mem_of_getElem? HY.out,by omega⟩⟩,HW.out⟩
   ·have hb1:(x == y)=false:=beq_eq_false_iff_ne.2 hxy
    have HXY:=zh hxy
    clear hxy
    go_wp2_with fail
    go_roundg (gk-1)
    case measure=>omega
    case rel=>exact ⟨k+1,by omega,by omega,by go_num,HW.out,fun j z hj hz=>by
     rcases Nat.lt_or_ge j k with h|h
     ·exact HNO.out j z h hz
     ·obtain rfl:j=k:=by omega
      rw [HY.out] at hz
      cases hz
      exact fun e=>HXY.out e.symm⟩
  ·go_wp2_with fail
   go_ret
   refine ⟨⟨-1,rfl,⟨by omega,fun hm=>by
    obtain ⟨j,hj,e⟩:=List.mem_iff_getElem.1 hm
    exact absurd e (HNO.out j _ (by omega) (List.getElem?_eq_getElem hj))⟩⟩,HW.out⟩
theorem zlf {w:World} {kb c:Nat} {xs:List Int} (hb:Blk w kb (xs.map (Value.int .i64)) 22) (x:Int) (hz:xs.length≤1000000) :
  Calls Tryz.prog 119 #[.slice (some ⟨kb,0,none⟩) xs.length c,.int .i64 x] w fun e w'=>e=.returned (.bool (decide (x∈xs)))∧w'=w:=by
 have HB:=zh hb
 clear hb
 go_enter Tryz.func119,Tryz.ntmps119
 go_wp2_with fail
 refine (zxn HB.out x hz).mono ?_
 rintro e w1 ⟨⟨r,rfl,hr⟩,hw⟩
 have HR:=zh hr
 have HW:=zh hw
 clear hr hw
 go_wp2_with fail
 go_ret
 exact ⟨by rw [show decide (x∈xs)=decide (0≤r) from decide_eq_decide.2 HR.out.symm];rfl,HW.out⟩
def zFh (most:Int) (kinds:List Int):Nat→List T→Nat
 | c,[]=>c
 | c,t :: ts=>if (c:Int)<most∧t.kind∈kinds then zFh most kinds (c+1) ts else c
theorem zml (most:Int) (kinds:List Int):∀ (ts:List T) (c:Nat),c≤zFh most kinds c ts∧zFh most kinds c ts≤c+ts.length∧(∀ i u,ts[i]?=some u→c+i<zFh most kinds c ts→u.kind∈kinds∧((c+i:Nat):Int)<most) ∧
  (zFh most kinds c ts=c+ts.length∨∃ u,ts[zFh most kinds c ts-c]?=some u∧(¬ ((zFh most kinds c ts:Nat):Int)<most∨u.kind ∉ kinds))
 | [],c=>⟨Nat.le_refl _,by simp [zFh],fun i u h _=>by simp at h,.inl (by simp [zFh])⟩
 | t :: ts,c=>by
  by_cases h:(c:Int)<most∧t.kind∈kinds
  ·have e:zFh most kinds c (t :: ts)=zFh most kinds (c+1) ts:=by rw [zFh,if_pos h]
   rw [e]
   obtain ⟨h1,h2,h3,h4⟩:=zml most kinds ts (c+1)
   refine ⟨by omega,by simp only [List.length_cons];omega,fun i u hu hi=>?_,?_⟩
   ·cases i with
    | zero=>simp only [List.getElem?_cons_zero,Option.some.injEq] at hu;rw [← hu];exact ⟨h.2,by simpa using h.1⟩
    | succ i =>
     have:=h3 i u (by simpa using hu) (by omega)
     exact ⟨this.1,by rw [show c+(i+1)=c+1+i from by omega];exact this.2⟩
   ·rcases h4 with h4|⟨u,hu,h5⟩
    ·exact .inl (by simp only [List.length_cons];omega)
    ·refine .inr ⟨u,?_,h5⟩
     rw [show zFh most kinds (c+1) ts-c=(zFh most kinds (c+1) ts-(c+1))+1 from by omega,List.getElem?_cons_succ]
     exact hu
  ·have e:zFh most kinds c (t :: ts)=c:=by rw [zFh,if_neg h]
   rw [e]
   refine ⟨Nat.le_refl _,by omega,fun i u _ hi=>by omega,.inr ⟨t,by simp,?_⟩⟩
   by_cases h1:(c:Int)<most
   ·exact .inr fun h2=>h ⟨h1,h2⟩
   ·exact .inl h1
structure Pt where
 least:Int
 most:Int
 kinds:List Int
def zyg:List Pt→List T→Bool
 | [],ts=>ts.isEmpty
 | p :: ps,ts=>if ((zFh p.most p.kinds 0 ts:Nat):Int)<p.least then false else zyg ps (ts.drop (zFh p.most p.kinds 0 ts))
def zNf (p:Pt) (kb:Nat):List Value:=[.int .i64 p.least,.int .i64 p.most,.slice (some ⟨kb,0,none⟩) p.kinds.length p.kinds.length]
def zYo (w:World) (pb:Nat) (ps:List Pt):Prop:=∀ i p,ps[i]?=some p→∃ kb,w.rangeAt pb (i * 3) (zNf p kb)∧Blk w kb (p.kinds.map (Value.int .i64)) 22∧p.kinds.length≤1000
def zej (w:World) (rs:List T) (v:Value):Prop:=∃ a c,v=.slice a rs.length c∧rs.length≤c∧c≤maxLen∧(rs=[]∨∃ g o,a=some ⟨g,o,none⟩∧g<w.heap.size∧∀ i u,rs[i]?=some u→w.cell? ⟨g,o+i * 5,none⟩=some (.int .i64 u.kind))
theorem zej.of {w:World} {ks:List T} {S:Nat→Prop} {kv:Value} (h:KAt 25 w ks S kv):zej w ks kv:=by
 rcases h.form with ⟨rfl,rfl⟩|⟨g,cap,rfl,hg,hc,hm,hget⟩
 ·exact ⟨none,0,rfl,Nat.le_refl _,by unfold maxLen;omega,.inl rfl⟩
 ·refine ⟨_,cap,rfl,hc,hm,.inr ⟨g,0,rfl,hg,fun i u hu=>?_⟩⟩
  obtain ⟨x,hr,_⟩:=hget i u hu
  rw [Nat.zero_add]
  exact hr 0 _ rfl
theorem zej.below {w w':World} {rs:List T} {v:Value} (h:zej w rs v) (hb:Below w.heap.size w w'):zej w' rs v:=by
 obtain ⟨a,c,e,hc,hm,h⟩:=h
 refine ⟨a,c,e,hc,hm,h.imp id fun ⟨g,o,ha,hg,hget⟩=>⟨g,o,ha,Nat.lt_of_lt_of_le hg hb.size,fun i u hu=>(hb.cell (p:=⟨g,o+i * 5,none⟩) hg).trans (hget i u hu)⟩⟩
theorem zej.drop {w:World} {rs:List T} {a:Option Addr} {c R g o:Nat} (hc:rs.length≤c) (hm:c≤maxLen) (h:rs=[]∨∃ g o,a=some ⟨g,o,none⟩∧g<w.heap.size∧∀ i u,rs[i]?=some u→w.cell? ⟨g,o+i * 5,none⟩=some (.int .i64 u.kind)) (hR:R<rs.length) (ha:a=some ⟨g,o,none⟩) :
  zej w (rs.drop R) (.slice (some ⟨g,o+R * 5,none⟩) (rs.length-R) (c-R)):=by
 refine ⟨_,c-R,by rw [List.length_drop],by rw [List.length_drop];omega,by omega,.inr ?_⟩
 rcases h with h|⟨g2,o2,ha2,hg,hget⟩
 ·rw [h] at hR;simp at hR
 ·rw [ha] at ha2
  have e:=Option.some.inj ha2
  injection e with e1 e2 _
  subst e1 e2
  refine ⟨g,o+R * 5,rfl,hg,fun i u hu=>?_⟩
  rw [List.getElem?_drop] at hu
  have:=hget (R+i) u hu
  rw [show o+R * 5+i * 5=o+(R+i) * 5 from by omega]
  exact this
theorem zej.none (w:World) (rs:List T) (a:Option Addr) (n c R:Nat) (hR:rs.length≤R) (hn:n=0) (hm:c≤maxLen):zej w (rs.drop R) (.slice a n c):=by
 subst hn
 rw [List.drop_eq_nil_of_le hR]
 exact ⟨a,c,rfl,Nat.zero_le _,hm,.inl rfl⟩
def FoRel (w:World) (ps:List Pt) (ts:List T) (gh:Nat) (v0 i:Value) (wr:World):Prop :=
 ∃ (k:Nat) (rs:List T),k≤ps.length∧ps.length≤k+gh∧i=.int .i64 k∧zej w rs v0∧zyg ps ts=zyg (ps.drop k) rs∧rs.length≤ts.length∧Below w.heap.size w wr
def FiRel (w:World) (R:Nat) (gh:Nat) (i:Value) (wr:World):Prop :=
 ∃ j:Nat,j≤R∧R≤j+gh∧i=.int .i64 j∧Below w.heap.size w wr
theorem znr {ps:List Pt} {k:Nat} {pt:Pt} (h:ps[k]?=some pt) (rs:List T):zyg (ps.drop k) rs=if ((zFh pt.most pt.kinds 0 rs:Nat):Int)<pt.least then false else zyg (ps.drop (k+1)) (rs.drop (zFh pt.most pt.kinds 0 rs)):=by
 have hlt:=(List.getElem?_eq_some_iff.1 h).1
 rw [List.drop_eq_getElem_cons hlt,(List.getElem?_eq_some_iff.1 h).2]
 rfl
theorem zyu {w:World} {ts:List T} {kv:Value} (hk:zej w ts kv) {pb:Nat} {ps:List Pt} (hp:zYo w pb ps) (hz:ps.length≤1000) (ht:ts.length≤1000000) :
  Calls Tryz.prog 82 #[kv,.slice (some ⟨pb,0,none⟩) ps.length ps.length] w fun e w'=>e=.returned (.bool (zyg ps ts))∧Below w.heap.size w w':=by
 have HP:=zh hp
 have HK:=zh hk
 clear hp hk
 go_enter Tryz.func82,Tryz.ntmps82
 go_wp2_with fail
 go_loopg [0,10] ps.length (fun gk v0 i wr=>FoRel w ps ts gk v0 i wr)
 case atStart=>exact ⟨0,ts,by omega,by omega,rfl,HK.out,rfl,Nat.le_refl _,Below.refl _ _⟩
 case round =>
  obtain ⟨k,rs,hkl,hgk,rfl,hkd,hfit,hrl,hb⟩:=hrel
  obtain ⟨a,c,rfl,hc,hm,hkd⟩:=hkd
  have HKD:=zh hkd
  have HFT:=zh hfit
  have HB:=zh hb
  have hzw:=hb.size
  clear hkd hfit hb
  unfold maxLen at hm
  by_cases hlt:k<ps.length
  ·obtain ⟨pt,hpt⟩:∃ pt,ps[k]?=some pt:=⟨ps[k],List.getElem?_eq_getElem hlt⟩
   obtain ⟨kb,hr,hkb,hkl2⟩:=HP.out k pt hpt
   have hpbl:=cell_lt (hr 0 _ rfl)
   have p0:wr.cell? ⟨pb,k * 3,none⟩=some (.int .i64 pt.least):=zyb hr HB.out hpbl 0 _ rfl
   have p1:wr.cell? ⟨pb,k * 3+1,none⟩=some (.int .i64 pt.most):=zyb hr HB.out hpbl 1 _ rfl
   have p2:wr.cell? ⟨pb,k * 3+2,none⟩=some (.slice (some ⟨kb,0,none⟩) pt.kinds.length pt.kinds.length):=zyb hr HB.out hpbl 2 _ rfl
   have HKB:=zh (hkb.stays HB.out)
   have HPT:=zh hpt
   have hkl3:pt.kinds.length≤1000000:=by omega
   obtain ⟨R,hR⟩:∃ R,zFh pt.most pt.kinds 0 rs=R:=⟨_,rfl⟩
   have HSP:=zh (zml pt.most pt.kinds rs 0)
   rw [hR] at HSP
   have HRR:=zh hR
   have hRl:R≤rs.length:=by have:=HSP.out.2.1;omega
   obtain ⟨q,hq⟩:∃ q,wr.heap.size=q:=⟨_,rfl⟩
   obtain ⟨W1,hW1,HW1⟩:∃ W,wr.alloc (.cells [.int .i64 pt.least,.int .i64 pt.most,.slice (some ⟨kb,0,none⟩) pt.kinds.length pt.kinds.length].toArray 151)=W∧Hid (Blk W wr.heap.size [.int .i64 pt.least,.int .i64 pt.most,.slice (some ⟨kb,0,none⟩) pt.kinds.length pt.kinds.length] 151∧Below w.heap.size w W∧Blk W kb (pt.kinds.map (Value.int .i64)) 22∧wr.heap.size<W.heap.size):=⟨_,rfl,zh ⟨Blk.new wr _ _,HB.out.alloc hzw _,HKB.out.alloc _,by simp⟩⟩
   obtain ⟨go,hgo⟩:∃ go:Nat,gk=go+0:=⟨gk,rfl⟩
   clear hr hkb hkl2 hpbl hpt hR
   go_wp2_with fail
   have HW2:=zh (show Blk W1 q [.int .i64 pt.least,.int .i64 pt.most,.slice (some ⟨kb,0,none⟩) pt.kinds.length pt.kinds.length] 151∧q<W1.heap.size from by rw [← hq];exact ⟨HW1.out.1,HW1.out.2.2.2⟩)
   go_loopg [7] R (fun gh i wr=>FiRel W1 R gh i wr)
   case atStart=>exact ⟨0,by omega,by omega,rfl,Below.refl _ _⟩
   case round =>
    rename World=>wq
    obtain ⟨j,hj,hgj,rfl,hbq⟩:=hrel
    have HQ:=zh (HW2.out.1.stays hbq)
    have HKB2:=zh (HW1.out.2.2.1.stays hbq)
    have HBQ:=zh (HW1.out.2.1.trans (hbq.mono HW1.out.2.1.size))
    have HCELL:=zh (show rs=[]∨∃ g o,a=some ⟨g,o,none⟩∧∀ i u,rs[i]?=some u→wq.cell? ⟨g,o+i * 5,none⟩=some (.int .i64 u.kind) from HKD.out.imp id fun ⟨g,o,ha,hg,hget⟩=>⟨g,o,ha,fun i u hu=>(HBQ.out.cell (p:=⟨g,o+i * 5,none⟩) hg).trans (hget i u hu)⟩)
    have HBW:=zh hbq
    have hqz:q<wq.heap.size:=HQ.out.lt
    clear hbq
    by_cases hjR:j<R
    ·obtain ⟨u,hu⟩:∃ u,rs[j]?=some u:=⟨rs[j],List.getElem?_eq_getElem (by omega)⟩
     obtain ⟨hum,hmo⟩:=HSP.out.2.2.1 j u hu (by omega)
     have hmo':decide ((j:Int)<pt.most)=true:=by rw [Nat.zero_add] at hmo;exact decide_eq_true hmo
     have hmo2:(j:Int)<pt.most:=by rw [Nat.zero_add] at hmo;exact hmo
     have hMem:decide (u.kind∈pt.kinds)=true:=decide_eq_true hum
     have hjl:(j:Int)<(rs.length:Int):=by omega
     have hjl2:j<rs.length:=by omega
     rcases HCELL.out with hn|⟨g,o,ha,hget⟩
     ·rw [hn] at hu;simp at hu
     have HCX:=zh (show wq.drew.cell? ⟨g,o+j * 5,none⟩=some (.int .i64 u.kind) from hget j u hu)
     have HA:=zh ha
     clear hget hu hum hmo
     subst ha
     clear HA
     go_wp2_with fail
     refine wp_region_held_drew (S:=fun W=>Blk W q [.int .i64 pt.least,.int .i64 pt.most,.slice (some ⟨kb,0,none⟩) pt.kinds.length pt.kinds.length] 151∧W.cell? ⟨g,o+j * 5,none⟩=some (.int .i64 u.kind)) (by kernel_rfl) ⟨HQ.out.drew,HCX.out⟩ (fun hS=>?_)
     refine wpAnyH_take (i:=0) (oi:=⟨some 14,_,_,_,_,_⟩) (v:=.int .i64 j) rfl (by kernel_rfl) (by kernel_rfl) (by kernel_rfl) (fun _ _ _ h=>h) (Or.inl ⟨by rfl,fun W _=>by go_simp⟩) hS ?_
     try simp only [Act.put,List.setIfInBounds_toArray,List.set_cons_zero,List.set_cons_succ]
     refine wpAnyH_take (i:=1) (oi:=⟨some 15,_,_,_,_,_⟩) (v:=.slice (some ⟨g,o,none⟩) rs.length c) rfl (by kernel_rfl) (by kernel_rfl) (by kernel_rfl) (fun _ _ _ h=>h) (Or.inl ⟨by rfl,fun W _=>by go_simp⟩) hS ?_
     try simp only [Act.put,List.setIfInBounds_toArray,List.set_cons_zero,List.set_cons_succ]
     refine wpAnyH_take (i:=2) (oi:=⟨some 16,_,_,_,_,_⟩) (v:=.int .i64 (rs.length:Nat)) rfl (by kernel_rfl) (by kernel_rfl) (by kernel_rfl) (fun _ _ _ h=>h) (Or.inl ⟨by rfl,fun W _=>by go_simp⟩) hS ?_
     try simp only [Act.put,List.setIfInBounds_toArray,List.set_cons_zero,List.set_cons_succ]
     refine wpAnyH_take (i:=3) (oi:=⟨some 17,_,_,_,_,_⟩) (v:=.bool true) rfl (by kernel_rfl) (by kernel_rfl) (by kernel_rfl) (fun _ _ _ h=>h) (Or.inl ⟨by rfl,fun W _=>by go_simp⟩) hS ?_
     try simp only [Act.put,List.setIfInBounds_toArray,List.set_cons_zero,List.set_cons_succ]
     refine wpAnyH_take (i:=4) (oi:=⟨some 18,_,_,_,_,_⟩) (v:=.bool true) rfl (by kernel_rfl) (by kernel_rfl) (by kernel_rfl) (fun _ _ _ h=>h) (Or.inl ⟨by rfl,fun W _=>by go_simp⟩) hS ?_
     try simp only [Act.put,List.setIfInBounds_toArray,List.set_cons_zero,List.set_cons_succ]
     refine wpAnyH_take (i:=5) (oi:=⟨some 19,_,_,_,_,_⟩) (v:=.int .i64 j) rfl (by kernel_rfl) (by kernel_rfl) (by kernel_rfl) (fun _ _ _ h=>h) (Or.inl ⟨by rfl,fun W _=>by go_simp⟩) hS ?_
     try simp only [Act.put,List.setIfInBounds_toArray,List.set_cons_zero,List.set_cons_succ]
     refine wpAnyH_take (i:=6) (oi:=⟨some 20,_,_,_,_,_⟩) (v:=.pointer (some ⟨q,1,none⟩)) rfl (by kernel_rfl) (by kernel_rfl) (by kernel_rfl) (fun _ _ _ h=>h) (Or.inl ⟨by rfl,fun W _=>by go_simp⟩) hS ?_
     try simp only [Act.put,List.setIfInBounds_toArray,List.set_cons_zero,List.set_cons_succ]
     refine wpAnyH_take (i:=7) (oi:=⟨some 21,_,_,_,_,_⟩) (v:=.int .i64 pt.most) rfl (by kernel_rfl) (by kernel_rfl) (by kernel_rfl) (fun _ _ _ h=>h) (Or.inl ⟨by rfl,fun W hW=>by have hcx:W.cell? ⟨q,1,none⟩=some (.int .i64 pt.most):=hW.1.cell 1;go_simp⟩) hS ?_
     try simp only [Act.put,List.setIfInBounds_toArray,List.set_cons_zero,List.set_cons_succ]
     refine wpAnyH_take (i:=8) (oi:=⟨some 22,_,_,_,_,_⟩) (v:=.bool true) rfl (by kernel_rfl) (by kernel_rfl) (by kernel_rfl) (fun _ _ _ h=>h) (Or.inl ⟨by rfl,fun W _=>by go_simp⟩) hS ?_
     try simp only [Act.put,List.setIfInBounds_toArray,List.set_cons_zero,List.set_cons_succ]
     refine wpAnyH_take (i:=9) (oi:=⟨some 23,_,_,_,_,_⟩) (v:=.bool true) rfl (by kernel_rfl) (by kernel_rfl) (by kernel_rfl) (fun _ _ _ h=>h) (Or.inl ⟨by rfl,fun W _=>by go_simp⟩) hS ?_
     try simp only [Act.put,List.setIfInBounds_toArray,List.set_cons_zero,List.set_cons_succ]
     refine wpAnyH_take (i:=10) (oi:=⟨some 24,_,_,_,_,_⟩) (v:=.bool true) rfl (by kernel_rfl) (by kernel_rfl) (by kernel_rfl) (fun _ _ _ h=>h) (Or.inl ⟨by rfl,fun W _=>by go_simp⟩) hS ?_
     try simp only [Act.put,List.setIfInBounds_toArray,List.set_cons_zero,List.set_cons_succ]
     refine wpAnyH_take (i:=11) (oi:=⟨some 25,_,_,_,_,_⟩) (v:=.pointer (some ⟨q,2,none⟩)) rfl (by kernel_rfl) (by kernel_rfl) (by kernel_rfl) (fun _ _ _ h=>h) (Or.inl ⟨by rfl,fun W _=>by go_simp⟩) hS ?_
     try simp only [Act.put,List.setIfInBounds_toArray,List.set_cons_zero,List.set_cons_succ]
     refine wpAnyH_take (i:=12) (oi:=⟨some 26,_,_,_,_,_⟩) (v:=.slice (some ⟨kb,0,none⟩) pt.kinds.length pt.kinds.length) rfl (by kernel_rfl) (by kernel_rfl) (by kernel_rfl) (fun _ _ _ h=>h) (Or.inl ⟨by rfl,fun W hW=>by have hcx:W.cell? ⟨q,2,none⟩=some (.slice (some ⟨kb,0,none⟩) pt.kinds.length pt.kinds.length):=hW.1.cell 2;go_simp⟩) hS ?_
     try simp only [Act.put,List.setIfInBounds_toArray,List.set_cons_zero,List.set_cons_succ]
     refine wpAnyH_take (i:=13) (oi:=⟨some 27,_,_,_,_,_⟩) (v:=.slice (some ⟨g,o,none⟩) rs.length c) rfl (by kernel_rfl) (by kernel_rfl) (by kernel_rfl) (fun _ _ _ h=>h) (Or.inl ⟨by rfl,fun W _=>by go_simp⟩) hS ?_
     try simp only [Act.put,List.setIfInBounds_toArray,List.set_cons_zero,List.set_cons_succ]
     refine wpAnyH_take (i:=14) (oi:=⟨some 28,_,_,_,_,_⟩) (v:=.int .i64 j) rfl (by kernel_rfl) (by kernel_rfl) (by kernel_rfl) (fun _ _ _ h=>h) (Or.inl ⟨by rfl,fun W _=>by go_simp⟩) hS ?_
     try simp only [Act.put,List.setIfInBounds_toArray,List.set_cons_zero,List.set_cons_succ]
     refine wpAnyH_take (i:=15) (oi:=⟨some 29,_,_,_,_,_⟩) (v:=.pointer (some ⟨g,o+j * 5,none⟩)) rfl (by kernel_rfl) (by kernel_rfl) (by kernel_rfl) (fun _ _ _ h=>h) (Or.inl ⟨by rfl,fun W _=>by go_simp⟩) hS ?_
     try simp only [Act.put,List.setIfInBounds_toArray,List.set_cons_zero,List.set_cons_succ]
     refine wpAnyH_take (i:=16) (oi:=⟨some 30,_,_,_,_,_⟩) (v:=.pointer (some ⟨g,o+j * 5,none⟩)) rfl (by kernel_rfl) (by kernel_rfl) (by kernel_rfl) (fun _ _ _ h=>h) (Or.inl ⟨by rfl,fun W _=>by go_simp⟩) hS ?_
     try simp only [Act.put,List.setIfInBounds_toArray,List.set_cons_zero,List.set_cons_succ]
     refine wpAnyH_take (i:=17) (oi:=⟨some 31,_,_,_,_,_⟩) (v:=.int .i64 u.kind) rfl (by kernel_rfl) (by kernel_rfl) (by kernel_rfl) (fun _ _ _ h=>h) (Or.inl ⟨by rfl,fun W hW=>by have hcx:=hW.2;go_simp⟩) hS ?_
     try simp only [Act.put,List.setIfInBounds_toArray,List.set_cons_zero,List.set_cons_succ]
     refine AnyH.only (i:=18) (o:=⟨some 32,_,_,_,_,_⟩) (by kernel_rfl) rfl (by rfl) (fun K hK=>?_)
     go_simp
     refine (zlf HKB2.out.drew u.kind hkl3).mono ?_
     rintro e w5 ⟨rfl,hw5⟩
     rw [hMem]
     subst hw5
     refine hK.out _ _ hS ?_
     clear hK K
     try simp only [Act.put,List.setIfInBounds_toArray,List.set_cons_zero,List.set_cons_succ]
     refine wpAnyH_take (i:=19) (oi:=⟨some 33,_,_,_,_,_⟩) (v:=.bool true) rfl (by kernel_rfl) (by kernel_rfl) (by kernel_rfl) (fun _ _ _ h=>h) (Or.inl ⟨by rfl,fun W _=>by go_simp⟩) hS ?_
     try simp only [Act.put,List.setIfInBounds_toArray,List.set_cons_zero,List.set_cons_succ]
     refine wpAnyH_done (by kernel_rfl) ?_ _
     clear hS
     go_wp2_with fail
     go_roundg (gk-1)
     case measure=>omega
     case rel=>exact ⟨j+1,by omega,by omega,by go_num,HBW.out.drew⟩
    ·have hjj:R=j:=by omega
     subst hjj
     have q0:wq.cell? ⟨q,0,none⟩=some (.int .i64 pt.least):=HQ.out.cell 0
     have HFS:=zh (znr HPT.out rs)
     rw [HRR.out] at HFS
     rcases HSP.out.2.2.2 with hlen|⟨u,hu,hu2⟩
     ·have HRL:=zh (show rs.length=R from by omega)
      have hjl:¬ ((R:Int)<(rs.length:Int)):=by omega
      have hjl3:rs.length≤R:=by omega
      have hc2:R≤c:=by omega
      clear hlen
      by_cases hls:(R:Int)<pt.least
      ·have HLS:=zh hls
       go_wp2_with fail
       refine wp_region_held_drew (S:=fun W=>Blk W q [.int .i64 pt.least,.int .i64 pt.most,.slice (some ⟨kb,0,none⟩) pt.kinds.length pt.kinds.length] 151∧True) (by kernel_rfl) ⟨HQ.out.drew,trivial⟩ (fun hS=>?_)
       refine wpAnyH_take (i:=0) (oi:=⟨some 14,_,_,_,_,_⟩) (v:=.int .i64 R) rfl (by kernel_rfl) (by kernel_rfl) (by kernel_rfl) (fun _ _ _ h=>h) (Or.inl ⟨by rfl,fun W _=>by go_simp⟩) hS ?_
       try simp only [Act.put,List.setIfInBounds_toArray,List.set_cons_zero,List.set_cons_succ]
       refine wpAnyH_take (i:=1) (oi:=⟨some 15,_,_,_,_,_⟩) (v:=.slice a rs.length c) rfl (by kernel_rfl) (by kernel_rfl) (by kernel_rfl) (fun _ _ _ h=>h) (Or.inl ⟨by rfl,fun W _=>by go_simp⟩) hS ?_
       try simp only [Act.put,List.setIfInBounds_toArray,List.set_cons_zero,List.set_cons_succ]
       refine wpAnyH_take (i:=2) (oi:=⟨some 16,_,_,_,_,_⟩) (v:=.int .i64 (rs.length:Nat)) rfl (by kernel_rfl) (by kernel_rfl) (by kernel_rfl) (fun _ _ _ h=>h) (Or.inl ⟨by rfl,fun W _=>by go_simp⟩) hS ?_
       try simp only [Act.put,List.setIfInBounds_toArray,List.set_cons_zero,List.set_cons_succ]
       refine wpAnyH_take (i:=3) (oi:=⟨some 17,_,_,_,_,_⟩) (v:=.bool false) rfl (by kernel_rfl) (by kernel_rfl) (by kernel_rfl) (fun _ _ _ h=>h) (Or.inl ⟨by rfl,fun W _=>by go_simp⟩) hS ?_
       try simp only [Act.put,List.setIfInBounds_toArray,List.set_cons_zero,List.set_cons_succ]
       refine wpAnyH_take (i:=4) (oi:=⟨some 18,_,_,_,_,_⟩) (v:=.bool false) rfl (by kernel_rfl) (by kernel_rfl) (by kernel_rfl) (fun _ _ _ h=>h) (Or.inl ⟨by rfl,fun W _=>by go_simp⟩) hS ?_
       try simp only [Act.put,List.setIfInBounds_toArray,List.set_cons_zero,List.set_cons_succ]
       refine wpAnyH_take (i:=5) (oi:=⟨some 19,_,_,_,_,_⟩) (v:=undef) rfl (by kernel_rfl) (by kernel_rfl) (by kernel_rfl) (fun _ _ _ h=>h) (Or.inr ⟨by rfl,rfl⟩) hS ?_
       try simp only [Act.put,List.setIfInBounds_toArray,List.set_cons_zero,List.set_cons_succ]
       refine wpAnyH_take (i:=6) (oi:=⟨some 20,_,_,_,_,_⟩) (v:=undef) rfl (by kernel_rfl) (by kernel_rfl) (by kernel_rfl) (fun _ _ _ h=>h) (Or.inr ⟨by rfl,rfl⟩) hS ?_
       try simp only [Act.put,List.setIfInBounds_toArray,List.set_cons_zero,List.set_cons_succ]
       refine wpAnyH_take (i:=7) (oi:=⟨some 21,_,_,_,_,_⟩) (v:=undef) rfl (by kernel_rfl) (by kernel_rfl) (by kernel_rfl) (fun _ _ _ h=>h) (Or.inr ⟨by rfl,rfl⟩) hS ?_
       try simp only [Act.put,List.setIfInBounds_toArray,List.set_cons_zero,List.set_cons_succ]
       refine wpAnyH_take (i:=8) (oi:=⟨some 22,_,_,_,_,_⟩) (v:=undef) rfl (by kernel_rfl) (by kernel_rfl) (by kernel_rfl) (fun _ _ _ h=>h) (Or.inr ⟨by rfl,rfl⟩) hS ?_
       try simp only [Act.put,List.setIfInBounds_toArray,List.set_cons_zero,List.set_cons_succ]
       refine wpAnyH_take (i:=9) (oi:=⟨some 23,_,_,_,_,_⟩) (v:=.bool false) rfl (by kernel_rfl) (by kernel_rfl) (by kernel_rfl) (fun _ _ _ h=>h) (Or.inl ⟨by rfl,fun W _=>by go_simp⟩) hS ?_
       try simp only [Act.put,List.setIfInBounds_toArray,List.set_cons_zero,List.set_cons_succ]
       refine wpAnyH_take (i:=10) (oi:=⟨some 24,_,_,_,_,_⟩) (v:=.bool false) rfl (by kernel_rfl) (by kernel_rfl) (by kernel_rfl) (fun _ _ _ h=>h) (Or.inl ⟨by rfl,fun W _=>by go_simp⟩) hS ?_
       try simp only [Act.put,List.setIfInBounds_toArray,List.set_cons_zero,List.set_cons_succ]
       refine wpAnyH_take (i:=11) (oi:=⟨some 25,_,_,_,_,_⟩) (v:=undef) rfl (by kernel_rfl) (by kernel_rfl) (by kernel_rfl) (fun _ _ _ h=>h) (Or.inr ⟨by rfl,rfl⟩) hS ?_
       try simp only [Act.put,List.setIfInBounds_toArray,List.set_cons_zero,List.set_cons_succ]
       refine wpAnyH_take (i:=12) (oi:=⟨some 26,_,_,_,_,_⟩) (v:=undef) rfl (by kernel_rfl) (by kernel_rfl) (by kernel_rfl) (fun _ _ _ h=>h) (Or.inr ⟨by rfl,rfl⟩) hS ?_
       try simp only [Act.put,List.setIfInBounds_toArray,List.set_cons_zero,List.set_cons_succ]
       refine wpAnyH_take (i:=13) (oi:=⟨some 27,_,_,_,_,_⟩) (v:=undef) rfl (by kernel_rfl) (by kernel_rfl) (by kernel_rfl) (fun _ _ _ h=>h) (Or.inr ⟨by rfl,rfl⟩) hS ?_
       try simp only [Act.put,List.setIfInBounds_toArray,List.set_cons_zero,List.set_cons_succ]
       refine wpAnyH_take (i:=14) (oi:=⟨some 28,_,_,_,_,_⟩) (v:=undef) rfl (by kernel_rfl) (by kernel_rfl) (by kernel_rfl) (fun _ _ _ h=>h) (Or.inr ⟨by rfl,rfl⟩) hS ?_
       try simp only [Act.put,List.setIfInBounds_toArray,List.set_cons_zero,List.set_cons_succ]
       refine wpAnyH_take (i:=15) (oi:=⟨some 29,_,_,_,_,_⟩) (v:=undef) rfl (by kernel_rfl) (by kernel_rfl) (by kernel_rfl) (fun _ _ _ h=>h) (Or.inr ⟨by rfl,rfl⟩) hS ?_
       try simp only [Act.put,List.setIfInBounds_toArray,List.set_cons_zero,List.set_cons_succ]
       refine wpAnyH_take (i:=16) (oi:=⟨some 30,_,_,_,_,_⟩) (v:=undef) rfl (by kernel_rfl) (by kernel_rfl) (by kernel_rfl) (fun _ _ _ h=>h) (Or.inr ⟨by rfl,rfl⟩) hS ?_
       try simp only [Act.put,List.setIfInBounds_toArray,List.set_cons_zero,List.set_cons_succ]
       refine wpAnyH_take (i:=17) (oi:=⟨some 31,_,_,_,_,_⟩) (v:=undef) rfl (by kernel_rfl) (by kernel_rfl) (by kernel_rfl) (fun _ _ _ h=>h) (Or.inr ⟨by rfl,rfl⟩) hS ?_
       try simp only [Act.put,List.setIfInBounds_toArray,List.set_cons_zero,List.set_cons_succ]
       refine wpAnyH_take (i:=18) (oi:=⟨some 32,_,_,_,_,_⟩) (v:=undef) rfl (by kernel_rfl) (by kernel_rfl) (by kernel_rfl) (fun _ _ _ h=>h) (Or.inr ⟨by rfl,rfl⟩) hS ?_
       try simp only [Act.put,List.setIfInBounds_toArray,List.set_cons_zero,List.set_cons_succ]
       refine wpAnyH_take (i:=19) (oi:=⟨some 33,_,_,_,_,_⟩) (v:=.bool false) rfl (by kernel_rfl) (by kernel_rfl) (by kernel_rfl) (fun _ _ _ h=>h) (Or.inl ⟨by rfl,fun W _=>by go_simp⟩) hS ?_
       try simp only [Act.put,List.setIfInBounds_toArray,List.set_cons_zero,List.set_cons_succ]
       refine wpAnyH_done (by kernel_rfl) ?_ _
       clear hS
       go_wp2_with fail
       go_ret
       exact ⟨by rw [HFT.out,HFS.out,if_pos HLS.out];rfl,HBQ.out.drew⟩
      ·have HLS:=zh hls
       by_cases hcr:c=R
       ·skip
        go_wp2_with fail
        refine wp_region_held_drew (S:=fun W=>Blk W q [.int .i64 pt.least,.int .i64 pt.most,.slice (some ⟨kb,0,none⟩) pt.kinds.length pt.kinds.length] 151∧True) (by kernel_rfl) ⟨HQ.out.drew,trivial⟩ (fun hS=>?_)
        refine wpAnyH_take (i:=0) (oi:=⟨some 14,_,_,_,_,_⟩) (v:=.int .i64 R) rfl (by kernel_rfl) (by kernel_rfl) (by kernel_rfl) (fun _ _ _ h=>h) (Or.inl ⟨by rfl,fun W _=>by go_simp⟩) hS ?_
        try simp only [Act.put,List.setIfInBounds_toArray,List.set_cons_zero,List.set_cons_succ]
        refine wpAnyH_take (i:=1) (oi:=⟨some 15,_,_,_,_,_⟩) (v:=.slice a rs.length c) rfl (by kernel_rfl) (by kernel_rfl) (by kernel_rfl) (fun _ _ _ h=>h) (Or.inl ⟨by rfl,fun W _=>by go_simp⟩) hS ?_
        try simp only [Act.put,List.setIfInBounds_toArray,List.set_cons_zero,List.set_cons_succ]
        refine wpAnyH_take (i:=2) (oi:=⟨some 16,_,_,_,_,_⟩) (v:=.int .i64 (rs.length:Nat)) rfl (by kernel_rfl) (by kernel_rfl) (by kernel_rfl) (fun _ _ _ h=>h) (Or.inl ⟨by rfl,fun W _=>by go_simp⟩) hS ?_
        try simp only [Act.put,List.setIfInBounds_toArray,List.set_cons_zero,List.set_cons_succ]
        refine wpAnyH_take (i:=3) (oi:=⟨some 17,_,_,_,_,_⟩) (v:=.bool false) rfl (by kernel_rfl) (by kernel_rfl) (by kernel_rfl) (fun _ _ _ h=>h) (Or.inl ⟨by rfl,fun W _=>by go_simp⟩) hS ?_
        try simp only [Act.put,List.setIfInBounds_toArray,List.set_cons_zero,List.set_cons_succ]
        refine wpAnyH_take (i:=4) (oi:=⟨some 18,_,_,_,_,_⟩) (v:=.bool false) rfl (by kernel_rfl) (by kernel_rfl) (by kernel_rfl) (fun _ _ _ h=>h) (Or.inl ⟨by rfl,fun W _=>by go_simp⟩) hS ?_
        try simp only [Act.put,List.setIfInBounds_toArray,List.set_cons_zero,List.set_cons_succ]
        refine wpAnyH_take (i:=5) (oi:=⟨some 19,_,_,_,_,_⟩) (v:=undef) rfl (by kernel_rfl) (by kernel_rfl) (by kernel_rfl) (fun _ _ _ h=>h) (Or.inr ⟨by rfl,rfl⟩) hS ?_
        try simp only [Act.put,List.setIfInBounds_toArray,List.set_cons_zero,List.set_cons_succ]
        refine wpAnyH_take (i:=6) (oi:=⟨some 20,_,_,_,_,_⟩) (v:=undef) rfl (by kernel_rfl) (by kernel_rfl) (by kernel_rfl) (fun _ _ _ h=>h) (Or.inr ⟨by rfl,rfl⟩) hS ?_
        try simp only [Act.put,List.setIfInBounds_toArray,List.set_cons_zero,List.set_cons_succ]
        refine wpAnyH_take (i:=7) (oi:=⟨some 21,_,_,_,_,_⟩) (v:=undef) rfl (by kernel_rfl) (by kernel_rfl) (by kernel_rfl) (fun _ _ _ h=>h) (Or.inr ⟨by rfl,rfl⟩) hS ?_
        try simp only [Act.put,List.setIfInBounds_toArray,List.set_cons_zero,List.set_cons_succ]
        refine wpAnyH_take (i:=8) (oi:=⟨some 22,_,_,_,_,_⟩) (v:=undef) rfl (by kernel_rfl) (by kernel_rfl) (by kernel_rfl) (fun _ _ _ h=>h) (Or.inr ⟨by rfl,rfl⟩) hS ?_
        try simp only [Act.put,List.setIfInBounds_toArray,List.set_cons_zero,List.set_cons_succ]
        refine wpAnyH_take (i:=9) (oi:=⟨some 23,_,_,_,_,_⟩) (v:=.bool false) rfl (by kernel_rfl) (by kernel_rfl) (by kernel_rfl) (fun _ _ _ h=>h) (Or.inl ⟨by rfl,fun W _=>by go_simp⟩) hS ?_
        try simp only [Act.put,List.setIfInBounds_toArray,List.set_cons_zero,List.set_cons_succ]
        refine wpAnyH_take (i:=10) (oi:=⟨some 24,_,_,_,_,_⟩) (v:=.bool false) rfl (by kernel_rfl) (by kernel_rfl) (by kernel_rfl) (fun _ _ _ h=>h) (Or.inl ⟨by rfl,fun W _=>by go_simp⟩) hS ?_
        try simp only [Act.put,List.setIfInBounds_toArray,List.set_cons_zero,List.set_cons_succ]
        refine wpAnyH_take (i:=11) (oi:=⟨some 25,_,_,_,_,_⟩) (v:=undef) rfl (by kernel_rfl) (by kernel_rfl) (by kernel_rfl) (fun _ _ _ h=>h) (Or.inr ⟨by rfl,rfl⟩) hS ?_
        try simp only [Act.put,List.setIfInBounds_toArray,List.set_cons_zero,List.set_cons_succ]
        refine wpAnyH_take (i:=12) (oi:=⟨some 26,_,_,_,_,_⟩) (v:=undef) rfl (by kernel_rfl) (by kernel_rfl) (by kernel_rfl) (fun _ _ _ h=>h) (Or.inr ⟨by rfl,rfl⟩) hS ?_
        try simp only [Act.put,List.setIfInBounds_toArray,List.set_cons_zero,List.set_cons_succ]
        refine wpAnyH_take (i:=13) (oi:=⟨some 27,_,_,_,_,_⟩) (v:=undef) rfl (by kernel_rfl) (by kernel_rfl) (by kernel_rfl) (fun _ _ _ h=>h) (Or.inr ⟨by rfl,rfl⟩) hS ?_
        try simp only [Act.put,List.setIfInBounds_toArray,List.set_cons_zero,List.set_cons_succ]
        refine wpAnyH_take (i:=14) (oi:=⟨some 28,_,_,_,_,_⟩) (v:=undef) rfl (by kernel_rfl) (by kernel_rfl) (by kernel_rfl) (fun _ _ _ h=>h) (Or.inr ⟨by rfl,rfl⟩) hS ?_
        try simp only [Act.put,List.setIfInBounds_toArray,List.set_cons_zero,List.set_cons_succ]
        refine wpAnyH_take (i:=15) (oi:=⟨some 29,_,_,_,_,_⟩) (v:=undef) rfl (by kernel_rfl) (by kernel_rfl) (by kernel_rfl) (fun _ _ _ h=>h) (Or.inr ⟨by rfl,rfl⟩) hS ?_
        try simp only [Act.put,List.setIfInBounds_toArray,List.set_cons_zero,List.set_cons_succ]
        refine wpAnyH_take (i:=16) (oi:=⟨some 30,_,_,_,_,_⟩) (v:=undef) rfl (by kernel_rfl) (by kernel_rfl) (by kernel_rfl) (fun _ _ _ h=>h) (Or.inr ⟨by rfl,rfl⟩) hS ?_
        try simp only [Act.put,List.setIfInBounds_toArray,List.set_cons_zero,List.set_cons_succ]
        refine wpAnyH_take (i:=17) (oi:=⟨some 31,_,_,_,_,_⟩) (v:=undef) rfl (by kernel_rfl) (by kernel_rfl) (by kernel_rfl) (fun _ _ _ h=>h) (Or.inr ⟨by rfl,rfl⟩) hS ?_
        try simp only [Act.put,List.setIfInBounds_toArray,List.set_cons_zero,List.set_cons_succ]
        refine wpAnyH_take (i:=18) (oi:=⟨some 32,_,_,_,_,_⟩) (v:=undef) rfl (by kernel_rfl) (by kernel_rfl) (by kernel_rfl) (fun _ _ _ h=>h) (Or.inr ⟨by rfl,rfl⟩) hS ?_
        try simp only [Act.put,List.setIfInBounds_toArray,List.set_cons_zero,List.set_cons_succ]
        refine wpAnyH_take (i:=19) (oi:=⟨some 33,_,_,_,_,_⟩) (v:=.bool false) rfl (by kernel_rfl) (by kernel_rfl) (by kernel_rfl) (fun _ _ _ h=>h) (Or.inl ⟨by rfl,fun W _=>by go_simp⟩) hS ?_
        try simp only [Act.put,List.setIfInBounds_toArray,List.set_cons_zero,List.set_cons_succ]
        refine wpAnyH_done (by kernel_rfl) ?_ _
        clear hS
        go_wp2_with fail
        go_roundg (go-1)
        case measure=>omega
        case rel=>exact ⟨k+1,rs.drop R,by omega,by omega,by go_num,zej.none w rs _ _ _ R (by have:=HRL.out;omega) (by have:=HRL.out;omega) (by unfold maxLen;omega),by rw [HFT.out,HFS.out,if_neg (show ¬ ((R:Int)<pt.least) from by have:=HLS.out;omega)],by rw [List.length_drop];omega,HBQ.out.drew⟩
       ·skip
        go_wp2_with fail
        refine wp_region_held_drew (S:=fun W=>Blk W q [.int .i64 pt.least,.int .i64 pt.most,.slice (some ⟨kb,0,none⟩) pt.kinds.length pt.kinds.length] 151∧True) (by kernel_rfl) ⟨HQ.out.drew,trivial⟩ (fun hS=>?_)
        refine wpAnyH_take (i:=0) (oi:=⟨some 14,_,_,_,_,_⟩) (v:=.int .i64 R) rfl (by kernel_rfl) (by kernel_rfl) (by kernel_rfl) (fun _ _ _ h=>h) (Or.inl ⟨by rfl,fun W _=>by go_simp⟩) hS ?_
        try simp only [Act.put,List.setIfInBounds_toArray,List.set_cons_zero,List.set_cons_succ]
        refine wpAnyH_take (i:=1) (oi:=⟨some 15,_,_,_,_,_⟩) (v:=.slice a rs.length c) rfl (by kernel_rfl) (by kernel_rfl) (by kernel_rfl) (fun _ _ _ h=>h) (Or.inl ⟨by rfl,fun W _=>by go_simp⟩) hS ?_
        try simp only [Act.put,List.setIfInBounds_toArray,List.set_cons_zero,List.set_cons_succ]
        refine wpAnyH_take (i:=2) (oi:=⟨some 16,_,_,_,_,_⟩) (v:=.int .i64 (rs.length:Nat)) rfl (by kernel_rfl) (by kernel_rfl) (by kernel_rfl) (fun _ _ _ h=>h) (Or.inl ⟨by rfl,fun W _=>by go_simp⟩) hS ?_
        try simp only [Act.put,List.setIfInBounds_toArray,List.set_cons_zero,List.set_cons_succ]
        refine wpAnyH_take (i:=3) (oi:=⟨some 17,_,_,_,_,_⟩) (v:=.bool false) rfl (by kernel_rfl) (by kernel_rfl) (by kernel_rfl) (fun _ _ _ h=>h) (Or.inl ⟨by rfl,fun W _=>by go_simp⟩) hS ?_
        try simp only [Act.put,List.setIfInBounds_toArray,List.set_cons_zero,List.set_cons_succ]
        refine wpAnyH_take (i:=4) (oi:=⟨some 18,_,_,_,_,_⟩) (v:=.bool false) rfl (by kernel_rfl) (by kernel_rfl) (by kernel_rfl) (fun _ _ _ h=>h) (Or.inl ⟨by rfl,fun W _=>by go_simp⟩) hS ?_
        try simp only [Act.put,List.setIfInBounds_toArray,List.set_cons_zero,List.set_cons_succ]
        refine wpAnyH_take (i:=5) (oi:=⟨some 19,_,_,_,_,_⟩) (v:=undef) rfl (by kernel_rfl) (by kernel_rfl) (by kernel_rfl) (fun _ _ _ h=>h) (Or.inr ⟨by rfl,rfl⟩) hS ?_
        try simp only [Act.put,List.setIfInBounds_toArray,List.set_cons_zero,List.set_cons_succ]
        refine wpAnyH_take (i:=6) (oi:=⟨some 20,_,_,_,_,_⟩) (v:=undef) rfl (by kernel_rfl) (by kernel_rfl) (by kernel_rfl) (fun _ _ _ h=>h) (Or.inr ⟨by rfl,rfl⟩) hS ?_
        try simp only [Act.put,List.setIfInBounds_toArray,List.set_cons_zero,List.set_cons_succ]
        refine wpAnyH_take (i:=7) (oi:=⟨some 21,_,_,_,_,_⟩) (v:=undef) rfl (by kernel_rfl) (by kernel_rfl) (by kernel_rfl) (fun _ _ _ h=>h) (Or.inr ⟨by rfl,rfl⟩) hS ?_
        try simp only [Act.put,List.setIfInBounds_toArray,List.set_cons_zero,List.set_cons_succ]
        refine wpAnyH_take (i:=8) (oi:=⟨some 22,_,_,_,_,_⟩) (v:=undef) rfl (by kernel_rfl) (by kernel_rfl) (by kernel_rfl) (fun _ _ _ h=>h) (Or.inr ⟨by rfl,rfl⟩) hS ?_
        try simp only [Act.put,List.setIfInBounds_toArray,List.set_cons_zero,List.set_cons_succ]
        refine wpAnyH_take (i:=9) (oi:=⟨some 23,_,_,_,_,_⟩) (v:=.bool false) rfl (by kernel_rfl) (by kernel_rfl) (by kernel_rfl) (fun _ _ _ h=>h) (Or.inl ⟨by rfl,fun W _=>by go_simp⟩) hS ?_
        try simp only [Act.put,List.setIfInBounds_toArray,List.set_cons_zero,List.set_cons_succ]
        refine wpAnyH_take (i:=10) (oi:=⟨some 24,_,_,_,_,_⟩) (v:=.bool false) rfl (by kernel_rfl) (by kernel_rfl) (by kernel_rfl) (fun _ _ _ h=>h) (Or.inl ⟨by rfl,fun W _=>by go_simp⟩) hS ?_
        try simp only [Act.put,List.setIfInBounds_toArray,List.set_cons_zero,List.set_cons_succ]
        refine wpAnyH_take (i:=11) (oi:=⟨some 25,_,_,_,_,_⟩) (v:=undef) rfl (by kernel_rfl) (by kernel_rfl) (by kernel_rfl) (fun _ _ _ h=>h) (Or.inr ⟨by rfl,rfl⟩) hS ?_
        try simp only [Act.put,List.setIfInBounds_toArray,List.set_cons_zero,List.set_cons_succ]
        refine wpAnyH_take (i:=12) (oi:=⟨some 26,_,_,_,_,_⟩) (v:=undef) rfl (by kernel_rfl) (by kernel_rfl) (by kernel_rfl) (fun _ _ _ h=>h) (Or.inr ⟨by rfl,rfl⟩) hS ?_
        try simp only [Act.put,List.setIfInBounds_toArray,List.set_cons_zero,List.set_cons_succ]
        refine wpAnyH_take (i:=13) (oi:=⟨some 27,_,_,_,_,_⟩) (v:=undef) rfl (by kernel_rfl) (by kernel_rfl) (by kernel_rfl) (fun _ _ _ h=>h) (Or.inr ⟨by rfl,rfl⟩) hS ?_
        try simp only [Act.put,List.setIfInBounds_toArray,List.set_cons_zero,List.set_cons_succ]
        refine wpAnyH_take (i:=14) (oi:=⟨some 28,_,_,_,_,_⟩) (v:=undef) rfl (by kernel_rfl) (by kernel_rfl) (by kernel_rfl) (fun _ _ _ h=>h) (Or.inr ⟨by rfl,rfl⟩) hS ?_
        try simp only [Act.put,List.setIfInBounds_toArray,List.set_cons_zero,List.set_cons_succ]
        refine wpAnyH_take (i:=15) (oi:=⟨some 29,_,_,_,_,_⟩) (v:=undef) rfl (by kernel_rfl) (by kernel_rfl) (by kernel_rfl) (fun _ _ _ h=>h) (Or.inr ⟨by rfl,rfl⟩) hS ?_
        try simp only [Act.put,List.setIfInBounds_toArray,List.set_cons_zero,List.set_cons_succ]
        refine wpAnyH_take (i:=16) (oi:=⟨some 30,_,_,_,_,_⟩) (v:=undef) rfl (by kernel_rfl) (by kernel_rfl) (by kernel_rfl) (fun _ _ _ h=>h) (Or.inr ⟨by rfl,rfl⟩) hS ?_
        try simp only [Act.put,List.setIfInBounds_toArray,List.set_cons_zero,List.set_cons_succ]
        refine wpAnyH_take (i:=17) (oi:=⟨some 31,_,_,_,_,_⟩) (v:=undef) rfl (by kernel_rfl) (by kernel_rfl) (by kernel_rfl) (fun _ _ _ h=>h) (Or.inr ⟨by rfl,rfl⟩) hS ?_
        try simp only [Act.put,List.setIfInBounds_toArray,List.set_cons_zero,List.set_cons_succ]
        refine wpAnyH_take (i:=18) (oi:=⟨some 32,_,_,_,_,_⟩) (v:=undef) rfl (by kernel_rfl) (by kernel_rfl) (by kernel_rfl) (fun _ _ _ h=>h) (Or.inr ⟨by rfl,rfl⟩) hS ?_
        try simp only [Act.put,List.setIfInBounds_toArray,List.set_cons_zero,List.set_cons_succ]
        refine wpAnyH_take (i:=19) (oi:=⟨some 33,_,_,_,_,_⟩) (v:=.bool false) rfl (by kernel_rfl) (by kernel_rfl) (by kernel_rfl) (fun _ _ _ h=>h) (Or.inl ⟨by rfl,fun W _=>by go_simp⟩) hS ?_
        try simp only [Act.put,List.setIfInBounds_toArray,List.set_cons_zero,List.set_cons_succ]
        refine wpAnyH_done (by kernel_rfl) ?_ _
        clear hS
        go_wp2_with fail
        go_roundg (go-1)
        case measure=>omega
        case rel=>exact ⟨k+1,rs.drop R,by omega,by omega,by go_num,zej.none w rs _ _ _ R (by have:=HRL.out;omega) (by have:=HRL.out;omega) (by unfold maxLen;omega),by rw [HFT.out,HFS.out,if_neg (show ¬ ((R:Int)<pt.least) from by have:=HLS.out;omega)],by rw [List.length_drop];omega,HBQ.out.drew⟩
     ·have hu':rs[R]?=some u:=by rw [Nat.sub_zero] at hu;exact hu
      have hjl2:R<rs.length:=(List.getElem?_eq_some_iff.1 hu').1
      have hjl:(R:Int)<(rs.length:Int):=by omega
      rcases HCELL.out with hn|⟨g,o,ha,hget⟩
      ·rw [hn] at hu';simp at hu'
      have HCX:=zh (show wq.drew.cell? ⟨g,o+R * 5,none⟩=some (.int .i64 u.kind) from hget R u hu')
      have HU2:=zh hu2
      have HA:=zh ha
      clear hget hu hu' hu2
      subst ha
      clear HA
      by_cases hmo2:(R:Int)<pt.most
      ·have hMem:decide (u.kind∈pt.kinds)=false:=decide_eq_false (HU2.out.resolve_left (by omega))
       have hmo':decide ((R:Int)<pt.most)=true:=decide_eq_true hmo2
       by_cases hls:(R:Int)<pt.least
       ·have HLS:=zh hls
        go_wp2_with fail
        refine wp_region_held_drew (S:=fun W=>Blk W q [.int .i64 pt.least,.int .i64 pt.most,.slice (some ⟨kb,0,none⟩) pt.kinds.length pt.kinds.length] 151∧W.cell? ⟨g,o+R * 5,none⟩=some (.int .i64 u.kind)) (by kernel_rfl) ⟨HQ.out.drew,HCX.out⟩ (fun hS=>?_)
        refine wpAnyH_take (i:=0) (oi:=⟨some 14,_,_,_,_,_⟩) (v:=.int .i64 R) rfl (by kernel_rfl) (by kernel_rfl) (by kernel_rfl) (fun _ _ _ h=>h) (Or.inl ⟨by rfl,fun W _=>by go_simp⟩) hS ?_
        try simp only [Act.put,List.setIfInBounds_toArray,List.set_cons_zero,List.set_cons_succ]
        refine wpAnyH_take (i:=1) (oi:=⟨some 15,_,_,_,_,_⟩) (v:=.slice (some ⟨g,o,none⟩) rs.length c) rfl (by kernel_rfl) (by kernel_rfl) (by kernel_rfl) (fun _ _ _ h=>h) (Or.inl ⟨by rfl,fun W _=>by go_simp⟩) hS ?_
        try simp only [Act.put,List.setIfInBounds_toArray,List.set_cons_zero,List.set_cons_succ]
        refine wpAnyH_take (i:=2) (oi:=⟨some 16,_,_,_,_,_⟩) (v:=.int .i64 (rs.length:Nat)) rfl (by kernel_rfl) (by kernel_rfl) (by kernel_rfl) (fun _ _ _ h=>h) (Or.inl ⟨by rfl,fun W _=>by go_simp⟩) hS ?_
        try simp only [Act.put,List.setIfInBounds_toArray,List.set_cons_zero,List.set_cons_succ]
        refine wpAnyH_take (i:=3) (oi:=⟨some 17,_,_,_,_,_⟩) (v:=.bool true) rfl (by kernel_rfl) (by kernel_rfl) (by kernel_rfl) (fun _ _ _ h=>h) (Or.inl ⟨by rfl,fun W _=>by go_simp⟩) hS ?_
        try simp only [Act.put,List.setIfInBounds_toArray,List.set_cons_zero,List.set_cons_succ]
        refine wpAnyH_take (i:=4) (oi:=⟨some 18,_,_,_,_,_⟩) (v:=.bool true) rfl (by kernel_rfl) (by kernel_rfl) (by kernel_rfl) (fun _ _ _ h=>h) (Or.inl ⟨by rfl,fun W _=>by go_simp⟩) hS ?_
        try simp only [Act.put,List.setIfInBounds_toArray,List.set_cons_zero,List.set_cons_succ]
        refine wpAnyH_take (i:=5) (oi:=⟨some 19,_,_,_,_,_⟩) (v:=.int .i64 R) rfl (by kernel_rfl) (by kernel_rfl) (by kernel_rfl) (fun _ _ _ h=>h) (Or.inl ⟨by rfl,fun W _=>by go_simp⟩) hS ?_
        try simp only [Act.put,List.setIfInBounds_toArray,List.set_cons_zero,List.set_cons_succ]
        refine wpAnyH_take (i:=6) (oi:=⟨some 20,_,_,_,_,_⟩) (v:=.pointer (some ⟨q,1,none⟩)) rfl (by kernel_rfl) (by kernel_rfl) (by kernel_rfl) (fun _ _ _ h=>h) (Or.inl ⟨by rfl,fun W _=>by go_simp⟩) hS ?_
        try simp only [Act.put,List.setIfInBounds_toArray,List.set_cons_zero,List.set_cons_succ]
        refine wpAnyH_take (i:=7) (oi:=⟨some 21,_,_,_,_,_⟩) (v:=.int .i64 pt.most) rfl (by kernel_rfl) (by kernel_rfl) (by kernel_rfl) (fun _ _ _ h=>h) (Or.inl ⟨by rfl,fun W hW=>by have hcx:W.cell? ⟨q,1,none⟩=some (.int .i64 pt.most):=hW.1.cell 1;go_simp⟩) hS ?_
        try simp only [Act.put,List.setIfInBounds_toArray,List.set_cons_zero,List.set_cons_succ]
        refine wpAnyH_take (i:=8) (oi:=⟨some 22,_,_,_,_,_⟩) (v:=.bool true) rfl (by kernel_rfl) (by kernel_rfl) (by kernel_rfl) (fun _ _ _ h=>h) (Or.inl ⟨by rfl,fun W _=>by go_simp⟩) hS ?_
        try simp only [Act.put,List.setIfInBounds_toArray,List.set_cons_zero,List.set_cons_succ]
        refine wpAnyH_take (i:=9) (oi:=⟨some 23,_,_,_,_,_⟩) (v:=.bool true) rfl (by kernel_rfl) (by kernel_rfl) (by kernel_rfl) (fun _ _ _ h=>h) (Or.inl ⟨by rfl,fun W _=>by go_simp⟩) hS ?_
        try simp only [Act.put,List.setIfInBounds_toArray,List.set_cons_zero,List.set_cons_succ]
        refine wpAnyH_take (i:=10) (oi:=⟨some 24,_,_,_,_,_⟩) (v:=.bool true) rfl (by kernel_rfl) (by kernel_rfl) (by kernel_rfl) (fun _ _ _ h=>h) (Or.inl ⟨by rfl,fun W _=>by go_simp⟩) hS ?_
        try simp only [Act.put,List.setIfInBounds_toArray,List.set_cons_zero,List.set_cons_succ]
        refine wpAnyH_take (i:=11) (oi:=⟨some 25,_,_,_,_,_⟩) (v:=.pointer (some ⟨q,2,none⟩)) rfl (by kernel_rfl) (by kernel_rfl) (by kernel_rfl) (fun _ _ _ h=>h) (Or.inl ⟨by rfl,fun W _=>by go_simp⟩) hS ?_
        try simp only [Act.put,List.setIfInBounds_toArray,List.set_cons_zero,List.set_cons_succ]
        refine wpAnyH_take (i:=12) (oi:=⟨some 26,_,_,_,_,_⟩) (v:=.slice (some ⟨kb,0,none⟩) pt.kinds.length pt.kinds.length) rfl (by kernel_rfl) (by kernel_rfl) (by kernel_rfl) (fun _ _ _ h=>h) (Or.inl ⟨by rfl,fun W hW=>by have hcx:W.cell? ⟨q,2,none⟩=some (.slice (some ⟨kb,0,none⟩) pt.kinds.length pt.kinds.length):=hW.1.cell 2;go_simp⟩) hS ?_
        try simp only [Act.put,List.setIfInBounds_toArray,List.set_cons_zero,List.set_cons_succ]
        refine wpAnyH_take (i:=13) (oi:=⟨some 27,_,_,_,_,_⟩) (v:=.slice (some ⟨g,o,none⟩) rs.length c) rfl (by kernel_rfl) (by kernel_rfl) (by kernel_rfl) (fun _ _ _ h=>h) (Or.inl ⟨by rfl,fun W _=>by go_simp⟩) hS ?_
        try simp only [Act.put,List.setIfInBounds_toArray,List.set_cons_zero,List.set_cons_succ]
        refine wpAnyH_take (i:=14) (oi:=⟨some 28,_,_,_,_,_⟩) (v:=.int .i64 R) rfl (by kernel_rfl) (by kernel_rfl) (by kernel_rfl) (fun _ _ _ h=>h) (Or.inl ⟨by rfl,fun W _=>by go_simp⟩) hS ?_
        try simp only [Act.put,List.setIfInBounds_toArray,List.set_cons_zero,List.set_cons_succ]
        refine wpAnyH_take (i:=15) (oi:=⟨some 29,_,_,_,_,_⟩) (v:=.pointer (some ⟨g,o+R * 5,none⟩)) rfl (by kernel_rfl) (by kernel_rfl) (by kernel_rfl) (fun _ _ _ h=>h) (Or.inl ⟨by rfl,fun W _=>by go_simp⟩) hS ?_
        try simp only [Act.put,List.setIfInBounds_toArray,List.set_cons_zero,List.set_cons_succ]
        refine wpAnyH_take (i:=16) (oi:=⟨some 30,_,_,_,_,_⟩) (v:=.pointer (some ⟨g,o+R * 5,none⟩)) rfl (by kernel_rfl) (by kernel_rfl) (by kernel_rfl) (fun _ _ _ h=>h) (Or.inl ⟨by rfl,fun W _=>by go_simp⟩) hS ?_
        try simp only [Act.put,List.setIfInBounds_toArray,List.set_cons_zero,List.set_cons_succ]
        refine wpAnyH_take (i:=17) (oi:=⟨some 31,_,_,_,_,_⟩) (v:=.int .i64 u.kind) rfl (by kernel_rfl) (by kernel_rfl) (by kernel_rfl) (fun _ _ _ h=>h) (Or.inl ⟨by rfl,fun W hW=>by have hcx:=hW.2;go_simp⟩) hS ?_
        try simp only [Act.put,List.setIfInBounds_toArray,List.set_cons_zero,List.set_cons_succ]
        refine AnyH.only (i:=18) (o:=⟨some 32,_,_,_,_,_⟩) (by kernel_rfl) rfl (by rfl) (fun K hK=>?_)
        go_simp
        refine (zlf HKB2.out.drew u.kind hkl3).mono ?_
        rintro e w5 ⟨rfl,hw5⟩
        rw [hMem]
        subst hw5
        refine hK.out _ _ hS ?_
        clear hK K
        try simp only [Act.put,List.setIfInBounds_toArray,List.set_cons_zero,List.set_cons_succ]
        refine wpAnyH_take (i:=19) (oi:=⟨some 33,_,_,_,_,_⟩) (v:=.bool false) rfl (by kernel_rfl) (by kernel_rfl) (by kernel_rfl) (fun _ _ _ h=>h) (Or.inl ⟨by rfl,fun W _=>by go_simp⟩) hS ?_
        try simp only [Act.put,List.setIfInBounds_toArray,List.set_cons_zero,List.set_cons_succ]
        refine wpAnyH_done (by kernel_rfl) ?_ _
        clear hS
        go_wp2_with fail
        go_ret
        exact ⟨by rw [HFT.out,HFS.out,if_pos HLS.out];rfl,HBQ.out.drew⟩
       ·have HLS:=zh hls
        go_wp2_with fail
        refine wp_region_held_drew (S:=fun W=>Blk W q [.int .i64 pt.least,.int .i64 pt.most,.slice (some ⟨kb,0,none⟩) pt.kinds.length pt.kinds.length] 151∧W.cell? ⟨g,o+R * 5,none⟩=some (.int .i64 u.kind)) (by kernel_rfl) ⟨HQ.out.drew,HCX.out⟩ (fun hS=>?_)
        refine wpAnyH_take (i:=0) (oi:=⟨some 14,_,_,_,_,_⟩) (v:=.int .i64 R) rfl (by kernel_rfl) (by kernel_rfl) (by kernel_rfl) (fun _ _ _ h=>h) (Or.inl ⟨by rfl,fun W _=>by go_simp⟩) hS ?_
        try simp only [Act.put,List.setIfInBounds_toArray,List.set_cons_zero,List.set_cons_succ]
        refine wpAnyH_take (i:=1) (oi:=⟨some 15,_,_,_,_,_⟩) (v:=.slice (some ⟨g,o,none⟩) rs.length c) rfl (by kernel_rfl) (by kernel_rfl) (by kernel_rfl) (fun _ _ _ h=>h) (Or.inl ⟨by rfl,fun W _=>by go_simp⟩) hS ?_
        try simp only [Act.put,List.setIfInBounds_toArray,List.set_cons_zero,List.set_cons_succ]
        refine wpAnyH_take (i:=2) (oi:=⟨some 16,_,_,_,_,_⟩) (v:=.int .i64 (rs.length:Nat)) rfl (by kernel_rfl) (by kernel_rfl) (by kernel_rfl) (fun _ _ _ h=>h) (Or.inl ⟨by rfl,fun W _=>by go_simp⟩) hS ?_
        try simp only [Act.put,List.setIfInBounds_toArray,List.set_cons_zero,List.set_cons_succ]
        refine wpAnyH_take (i:=3) (oi:=⟨some 17,_,_,_,_,_⟩) (v:=.bool true) rfl (by kernel_rfl) (by kernel_rfl) (by kernel_rfl) (fun _ _ _ h=>h) (Or.inl ⟨by rfl,fun W _=>by go_simp⟩) hS ?_
        try simp only [Act.put,List.setIfInBounds_toArray,List.set_cons_zero,List.set_cons_succ]
        refine wpAnyH_take (i:=4) (oi:=⟨some 18,_,_,_,_,_⟩) (v:=.bool true) rfl (by kernel_rfl) (by kernel_rfl) (by kernel_rfl) (fun _ _ _ h=>h) (Or.inl ⟨by rfl,fun W _=>by go_simp⟩) hS ?_
        try simp only [Act.put,List.setIfInBounds_toArray,List.set_cons_zero,List.set_cons_succ]
        refine wpAnyH_take (i:=5) (oi:=⟨some 19,_,_,_,_,_⟩) (v:=.int .i64 R) rfl (by kernel_rfl) (by kernel_rfl) (by kernel_rfl) (fun _ _ _ h=>h) (Or.inl ⟨by rfl,fun W _=>by go_simp⟩) hS ?_
        try simp only [Act.put,List.setIfInBounds_toArray,List.set_cons_zero,List.set_cons_succ]
        refine wpAnyH_take (i:=6) (oi:=⟨some 20,_,_,_,_,_⟩) (v:=.pointer (some ⟨q,1,none⟩)) rfl (by kernel_rfl) (by kernel_rfl) (by kernel_rfl) (fun _ _ _ h=>h) (Or.inl ⟨by rfl,fun W _=>by go_simp⟩) hS ?_
        try simp only [Act.put,List.setIfInBounds_toArray,List.set_cons_zero,List.set_cons_succ]
        refine wpAnyH_take (i:=7) (oi:=⟨some 21,_,_,_,_,_⟩) (v:=.int .i64 pt.most) rfl (by kernel_rfl) (by kernel_rfl) (by kernel_rfl) (fun _ _ _ h=>h) (Or.inl ⟨by rfl,fun W hW=>by have hcx:W.cell? ⟨q,1,none⟩=some (.int .i64 pt.most):=hW.1.cell 1;go_simp⟩) hS ?_
        try simp only [Act.put,List.setIfInBounds_toArray,List.set_cons_zero,List.set_cons_succ]
        refine wpAnyH_take (i:=8) (oi:=⟨some 22,_,_,_,_,_⟩) (v:=.bool true) rfl (by kernel_rfl) (by kernel_rfl) (by kernel_rfl) (fun _ _ _ h=>h) (Or.inl ⟨by rfl,fun W _=>by go_simp⟩) hS ?_
        try simp only [Act.put,List.setIfInBounds_toArray,List.set_cons_zero,List.set_cons_succ]
        refine wpAnyH_take (i:=9) (oi:=⟨some 23,_,_,_,_,_⟩) (v:=.bool true) rfl (by kernel_rfl) (by kernel_rfl) (by kernel_rfl) (fun _ _ _ h=>h) (Or.inl ⟨by rfl,fun W _=>by go_simp⟩) hS ?_
        try simp only [Act.put,List.setIfInBounds_toArray,List.set_cons_zero,List.set_cons_succ]
        refine wpAnyH_take (i:=10) (oi:=⟨some 24,_,_,_,_,_⟩) (v:=.bool true) rfl (by kernel_rfl) (by kernel_rfl) (by kernel_rfl) (fun _ _ _ h=>h) (Or.inl ⟨by rfl,fun W _=>by go_simp⟩) hS ?_
        try simp only [Act.put,List.setIfInBounds_toArray,List.set_cons_zero,List.set_cons_succ]
        refine wpAnyH_take (i:=11) (oi:=⟨some 25,_,_,_,_,_⟩) (v:=.pointer (some ⟨q,2,none⟩)) rfl (by kernel_rfl) (by kernel_rfl) (by kernel_rfl) (fun _ _ _ h=>h) (Or.inl ⟨by rfl,fun W _=>by go_simp⟩) hS ?_
        try simp only [Act.put,List.setIfInBounds_toArray,List.set_cons_zero,List.set_cons_succ]
        refine wpAnyH_take (i:=12) (oi:=⟨some 26,_,_,_,_,_⟩) (v:=.slice (some ⟨kb,0,none⟩) pt.kinds.length pt.kinds.length) rfl (by kernel_rfl) (by kernel_rfl) (by kernel_rfl) (fun _ _ _ h=>h) (Or.inl ⟨by rfl,fun W hW=>by have hcx:W.cell? ⟨q,2,none⟩=some (.slice (some ⟨kb,0,none⟩) pt.kinds.length pt.kinds.length):=hW.1.cell 2;go_simp⟩) hS ?_
        try simp only [Act.put,List.setIfInBounds_toArray,List.set_cons_zero,List.set_cons_succ]
        refine wpAnyH_take (i:=13) (oi:=⟨some 27,_,_,_,_,_⟩) (v:=.slice (some ⟨g,o,none⟩) rs.length c) rfl (by kernel_rfl) (by kernel_rfl) (by kernel_rfl) (fun _ _ _ h=>h) (Or.inl ⟨by rfl,fun W _=>by go_simp⟩) hS ?_
        try simp only [Act.put,List.setIfInBounds_toArray,List.set_cons_zero,List.set_cons_succ]
        refine wpAnyH_take (i:=14) (oi:=⟨some 28,_,_,_,_,_⟩) (v:=.int .i64 R) rfl (by kernel_rfl) (by kernel_rfl) (by kernel_rfl) (fun _ _ _ h=>h) (Or.inl ⟨by rfl,fun W _=>by go_simp⟩) hS ?_
        try simp only [Act.put,List.setIfInBounds_toArray,List.set_cons_zero,List.set_cons_succ]
        refine wpAnyH_take (i:=15) (oi:=⟨some 29,_,_,_,_,_⟩) (v:=.pointer (some ⟨g,o+R * 5,none⟩)) rfl (by kernel_rfl) (by kernel_rfl) (by kernel_rfl) (fun _ _ _ h=>h) (Or.inl ⟨by rfl,fun W _=>by go_simp⟩) hS ?_
        try simp only [Act.put,List.setIfInBounds_toArray,List.set_cons_zero,List.set_cons_succ]
        refine wpAnyH_take (i:=16) (oi:=⟨some 30,_,_,_,_,_⟩) (v:=.pointer (some ⟨g,o+R * 5,none⟩)) rfl (by kernel_rfl) (by kernel_rfl) (by kernel_rfl) (fun _ _ _ h=>h) (Or.inl ⟨by rfl,fun W _=>by go_simp⟩) hS ?_
        try simp only [Act.put,List.setIfInBounds_toArray,List.set_cons_zero,List.set_cons_succ]
        refine wpAnyH_take (i:=17) (oi:=⟨some 31,_,_,_,_,_⟩) (v:=.int .i64 u.kind) rfl (by kernel_rfl) (by kernel_rfl) (by kernel_rfl) (fun _ _ _ h=>h) (Or.inl ⟨by rfl,fun W hW=>by have hcx:=hW.2;go_simp⟩) hS ?_
        try simp only [Act.put,List.setIfInBounds_toArray,List.set_cons_zero,List.set_cons_succ]
        refine AnyH.only (i:=18) (o:=⟨some 32,_,_,_,_,_⟩) (by kernel_rfl) rfl (by rfl) (fun K hK=>?_)
        go_simp
        refine (zlf HKB2.out.drew u.kind hkl3).mono ?_
        rintro e w5 ⟨rfl,hw5⟩
        rw [hMem]
        subst hw5
        refine hK.out _ _ hS ?_
        clear hK K
        try simp only [Act.put,List.setIfInBounds_toArray,List.set_cons_zero,List.set_cons_succ]
        refine wpAnyH_take (i:=19) (oi:=⟨some 33,_,_,_,_,_⟩) (v:=.bool false) rfl (by kernel_rfl) (by kernel_rfl) (by kernel_rfl) (fun _ _ _ h=>h) (Or.inl ⟨by rfl,fun W _=>by go_simp⟩) hS ?_
        try simp only [Act.put,List.setIfInBounds_toArray,List.set_cons_zero,List.set_cons_succ]
        refine wpAnyH_done (by kernel_rfl) ?_ _
        clear hS
        go_wp2_with fail
        go_roundg (go-1)
        case measure=>omega
        case rel=>exact ⟨k+1,rs.drop R,by omega,by omega,by go_num,zej.drop hc (by unfold maxLen;omega) HKD.out hjl2 rfl,by rw [HFT.out,HFS.out,if_neg (show ¬ ((R:Int)<pt.least) from by have:=HLS.out;omega)],by rw [List.length_drop];omega,HBQ.out.drew⟩
      ·have hmo':decide ((R:Int)<pt.most)=false:=decide_eq_false hmo2
       by_cases hls:(R:Int)<pt.least
       ·have HLS:=zh hls
        go_wp2_with fail
        refine wp_region_held_drew (S:=fun W=>Blk W q [.int .i64 pt.least,.int .i64 pt.most,.slice (some ⟨kb,0,none⟩) pt.kinds.length pt.kinds.length] 151∧W.cell? ⟨g,o+R * 5,none⟩=some (.int .i64 u.kind)) (by kernel_rfl) ⟨HQ.out.drew,HCX.out⟩ (fun hS=>?_)
        refine wpAnyH_take (i:=0) (oi:=⟨some 14,_,_,_,_,_⟩) (v:=.int .i64 R) rfl (by kernel_rfl) (by kernel_rfl) (by kernel_rfl) (fun _ _ _ h=>h) (Or.inl ⟨by rfl,fun W _=>by go_simp⟩) hS ?_
        try simp only [Act.put,List.setIfInBounds_toArray,List.set_cons_zero,List.set_cons_succ]
        refine wpAnyH_take (i:=1) (oi:=⟨some 15,_,_,_,_,_⟩) (v:=.slice (some ⟨g,o,none⟩) rs.length c) rfl (by kernel_rfl) (by kernel_rfl) (by kernel_rfl) (fun _ _ _ h=>h) (Or.inl ⟨by rfl,fun W _=>by go_simp⟩) hS ?_
        try simp only [Act.put,List.setIfInBounds_toArray,List.set_cons_zero,List.set_cons_succ]
        refine wpAnyH_take (i:=2) (oi:=⟨some 16,_,_,_,_,_⟩) (v:=.int .i64 (rs.length:Nat)) rfl (by kernel_rfl) (by kernel_rfl) (by kernel_rfl) (fun _ _ _ h=>h) (Or.inl ⟨by rfl,fun W _=>by go_simp⟩) hS ?_
        try simp only [Act.put,List.setIfInBounds_toArray,List.set_cons_zero,List.set_cons_succ]
        refine wpAnyH_take (i:=3) (oi:=⟨some 17,_,_,_,_,_⟩) (v:=.bool true) rfl (by kernel_rfl) (by kernel_rfl) (by kernel_rfl) (fun _ _ _ h=>h) (Or.inl ⟨by rfl,fun W _=>by go_simp⟩) hS ?_
        try simp only [Act.put,List.setIfInBounds_toArray,List.set_cons_zero,List.set_cons_succ]
        refine wpAnyH_take (i:=4) (oi:=⟨some 18,_,_,_,_,_⟩) (v:=.bool true) rfl (by kernel_rfl) (by kernel_rfl) (by kernel_rfl) (fun _ _ _ h=>h) (Or.inl ⟨by rfl,fun W _=>by go_simp⟩) hS ?_
        try simp only [Act.put,List.setIfInBounds_toArray,List.set_cons_zero,List.set_cons_succ]
        refine wpAnyH_take (i:=5) (oi:=⟨some 19,_,_,_,_,_⟩) (v:=.int .i64 R) rfl (by kernel_rfl) (by kernel_rfl) (by kernel_rfl) (fun _ _ _ h=>h) (Or.inl ⟨by rfl,fun W _=>by go_simp⟩) hS ?_
        try simp only [Act.put,List.setIfInBounds_toArray,List.set_cons_zero,List.set_cons_succ]
        refine wpAnyH_take (i:=6) (oi:=⟨some 20,_,_,_,_,_⟩) (v:=.pointer (some ⟨q,1,none⟩)) rfl (by kernel_rfl) (by kernel_rfl) (by kernel_rfl) (fun _ _ _ h=>h) (Or.inl ⟨by rfl,fun W _=>by go_simp⟩) hS ?_
        try simp only [Act.put,List.setIfInBounds_toArray,List.set_cons_zero,List.set_cons_succ]
        refine wpAnyH_take (i:=7) (oi:=⟨some 21,_,_,_,_,_⟩) (v:=.int .i64 pt.most) rfl (by kernel_rfl) (by kernel_rfl) (by kernel_rfl) (fun _ _ _ h=>h) (Or.inl ⟨by rfl,fun W hW=>by have hcx:W.cell? ⟨q,1,none⟩=some (.int .i64 pt.most):=hW.1.cell 1;go_simp⟩) hS ?_
        try simp only [Act.put,List.setIfInBounds_toArray,List.set_cons_zero,List.set_cons_succ]
        refine wpAnyH_take (i:=8) (oi:=⟨some 22,_,_,_,_,_⟩) (v:=.bool false) rfl (by kernel_rfl) (by kernel_rfl) (by kernel_rfl) (fun _ _ _ h=>h) (Or.inl ⟨by rfl,fun W _=>by go_simp⟩) hS ?_
        try simp only [Act.put,List.setIfInBounds_toArray,List.set_cons_zero,List.set_cons_succ]
        refine wpAnyH_take (i:=9) (oi:=⟨some 23,_,_,_,_,_⟩) (v:=.bool false) rfl (by kernel_rfl) (by kernel_rfl) (by kernel_rfl) (fun _ _ _ h=>h) (Or.inl ⟨by rfl,fun W _=>by go_simp⟩) hS ?_
        try simp only [Act.put,List.setIfInBounds_toArray,List.set_cons_zero,List.set_cons_succ]
        refine wpAnyH_take (i:=10) (oi:=⟨some 24,_,_,_,_,_⟩) (v:=.bool false) rfl (by kernel_rfl) (by kernel_rfl) (by kernel_rfl) (fun _ _ _ h=>h) (Or.inl ⟨by rfl,fun W _=>by go_simp⟩) hS ?_
        try simp only [Act.put,List.setIfInBounds_toArray,List.set_cons_zero,List.set_cons_succ]
        refine wpAnyH_take (i:=11) (oi:=⟨some 25,_,_,_,_,_⟩) (v:=undef) rfl (by kernel_rfl) (by kernel_rfl) (by kernel_rfl) (fun _ _ _ h=>h) (Or.inr ⟨by rfl,rfl⟩) hS ?_
        try simp only [Act.put,List.setIfInBounds_toArray,List.set_cons_zero,List.set_cons_succ]
        refine wpAnyH_take (i:=12) (oi:=⟨some 26,_,_,_,_,_⟩) (v:=undef) rfl (by kernel_rfl) (by kernel_rfl) (by kernel_rfl) (fun _ _ _ h=>h) (Or.inr ⟨by rfl,rfl⟩) hS ?_
        try simp only [Act.put,List.setIfInBounds_toArray,List.set_cons_zero,List.set_cons_succ]
        refine wpAnyH_take (i:=13) (oi:=⟨some 27,_,_,_,_,_⟩) (v:=undef) rfl (by kernel_rfl) (by kernel_rfl) (by kernel_rfl) (fun _ _ _ h=>h) (Or.inr ⟨by rfl,rfl⟩) hS ?_
        try simp only [Act.put,List.setIfInBounds_toArray,List.set_cons_zero,List.set_cons_succ]
        refine wpAnyH_take (i:=14) (oi:=⟨some 28,_,_,_,_,_⟩) (v:=undef) rfl (by kernel_rfl) (by kernel_rfl) (by kernel_rfl) (fun _ _ _ h=>h) (Or.inr ⟨by rfl,rfl⟩) hS ?_
        try simp only [Act.put,List.setIfInBounds_toArray,List.set_cons_zero,List.set_cons_succ]
        refine wpAnyH_take (i:=15) (oi:=⟨some 29,_,_,_,_,_⟩) (v:=undef) rfl (by kernel_rfl) (by kernel_rfl) (by kernel_rfl) (fun _ _ _ h=>h) (Or.inr ⟨by rfl,rfl⟩) hS ?_
        try simp only [Act.put,List.setIfInBounds_toArray,List.set_cons_zero,List.set_cons_succ]
        refine wpAnyH_take (i:=16) (oi:=⟨some 30,_,_,_,_,_⟩) (v:=undef) rfl (by kernel_rfl) (by kernel_rfl) (by kernel_rfl) (fun _ _ _ h=>h) (Or.inr ⟨by rfl,rfl⟩) hS ?_
        try simp only [Act.put,List.setIfInBounds_toArray,List.set_cons_zero,List.set_cons_succ]
        refine wpAnyH_take (i:=17) (oi:=⟨some 31,_,_,_,_,_⟩) (v:=undef) rfl (by kernel_rfl) (by kernel_rfl) (by kernel_rfl) (fun _ _ _ h=>h) (Or.inr ⟨by rfl,rfl⟩) hS ?_
        try simp only [Act.put,List.setIfInBounds_toArray,List.set_cons_zero,List.set_cons_succ]
        refine wpAnyH_take (i:=18) (oi:=⟨some 32,_,_,_,_,_⟩) (v:=undef) rfl (by kernel_rfl) (by kernel_rfl) (by kernel_rfl) (fun _ _ _ h=>h) (Or.inr ⟨by rfl,rfl⟩) hS ?_
        try simp only [Act.put,List.setIfInBounds_toArray,List.set_cons_zero,List.set_cons_succ]
        refine wpAnyH_take (i:=19) (oi:=⟨some 33,_,_,_,_,_⟩) (v:=.bool false) rfl (by kernel_rfl) (by kernel_rfl) (by kernel_rfl) (fun _ _ _ h=>h) (Or.inl ⟨by rfl,fun W _=>by go_simp⟩) hS ?_
        try simp only [Act.put,List.setIfInBounds_toArray,List.set_cons_zero,List.set_cons_succ]
        refine wpAnyH_done (by kernel_rfl) ?_ _
        clear hS
        go_wp2_with fail
        go_ret
        exact ⟨by rw [HFT.out,HFS.out,if_pos HLS.out];rfl,HBQ.out.drew⟩
       ·have HLS:=zh hls
        go_wp2_with fail
        refine wp_region_held_drew (S:=fun W=>Blk W q [.int .i64 pt.least,.int .i64 pt.most,.slice (some ⟨kb,0,none⟩) pt.kinds.length pt.kinds.length] 151∧W.cell? ⟨g,o+R * 5,none⟩=some (.int .i64 u.kind)) (by kernel_rfl) ⟨HQ.out.drew,HCX.out⟩ (fun hS=>?_)
        refine wpAnyH_take (i:=0) (oi:=⟨some 14,_,_,_,_,_⟩) (v:=.int .i64 R) rfl (by kernel_rfl) (by kernel_rfl) (by kernel_rfl) (fun _ _ _ h=>h) (Or.inl ⟨by rfl,fun W _=>by go_simp⟩) hS ?_
        try simp only [Act.put,List.setIfInBounds_toArray,List.set_cons_zero,List.set_cons_succ]
        refine wpAnyH_take (i:=1) (oi:=⟨some 15,_,_,_,_,_⟩) (v:=.slice (some ⟨g,o,none⟩) rs.length c) rfl (by kernel_rfl) (by kernel_rfl) (by kernel_rfl) (fun _ _ _ h=>h) (Or.inl ⟨by rfl,fun W _=>by go_simp⟩) hS ?_
        try simp only [Act.put,List.setIfInBounds_toArray,List.set_cons_zero,List.set_cons_succ]
        refine wpAnyH_take (i:=2) (oi:=⟨some 16,_,_,_,_,_⟩) (v:=.int .i64 (rs.length:Nat)) rfl (by kernel_rfl) (by kernel_rfl) (by kernel_rfl) (fun _ _ _ h=>h) (Or.inl ⟨by rfl,fun W _=>by go_simp⟩) hS ?_
        try simp only [Act.put,List.setIfInBounds_toArray,List.set_cons_zero,List.set_cons_succ]
        refine wpAnyH_take (i:=3) (oi:=⟨some 17,_,_,_,_,_⟩) (v:=.bool true) rfl (by kernel_rfl) (by kernel_rfl) (by kernel_rfl) (fun _ _ _ h=>h) (Or.inl ⟨by rfl,fun W _=>by go_simp⟩) hS ?_
        try simp only [Act.put,List.setIfInBounds_toArray,List.set_cons_zero,List.set_cons_succ]
        refine wpAnyH_take (i:=4) (oi:=⟨some 18,_,_,_,_,_⟩) (v:=.bool true) rfl (by kernel_rfl) (by kernel_rfl) (by kernel_rfl) (fun _ _ _ h=>h) (Or.inl ⟨by rfl,fun W _=>by go_simp⟩) hS ?_
        try simp only [Act.put,List.setIfInBounds_toArray,List.set_cons_zero,List.set_cons_succ]
        refine wpAnyH_take (i:=5) (oi:=⟨some 19,_,_,_,_,_⟩) (v:=.int .i64 R) rfl (by kernel_rfl) (by kernel_rfl) (by kernel_rfl) (fun _ _ _ h=>h) (Or.inl ⟨by rfl,fun W _=>by go_simp⟩) hS ?_
        try simp only [Act.put,List.setIfInBounds_toArray,List.set_cons_zero,List.set_cons_succ]
        refine wpAnyH_take (i:=6) (oi:=⟨some 20,_,_,_,_,_⟩) (v:=.pointer (some ⟨q,1,none⟩)) rfl (by kernel_rfl) (by kernel_rfl) (by kernel_rfl) (fun _ _ _ h=>h) (Or.inl ⟨by rfl,fun W _=>by go_simp⟩) hS ?_
        try simp only [Act.put,List.setIfInBounds_toArray,List.set_cons_zero,List.set_cons_succ]
        refine wpAnyH_take (i:=7) (oi:=⟨some 21,_,_,_,_,_⟩) (v:=.int .i64 pt.most) rfl (by kernel_rfl) (by kernel_rfl) (by kernel_rfl) (fun _ _ _ h=>h) (Or.inl ⟨by rfl,fun W hW=>by have hcx:W.cell? ⟨q,1,none⟩=some (.int .i64 pt.most):=hW.1.cell 1;go_simp⟩) hS ?_
        try simp only [Act.put,List.setIfInBounds_toArray,List.set_cons_zero,List.set_cons_succ]
        refine wpAnyH_take (i:=8) (oi:=⟨some 22,_,_,_,_,_⟩) (v:=.bool false) rfl (by kernel_rfl) (by kernel_rfl) (by kernel_rfl) (fun _ _ _ h=>h) (Or.inl ⟨by rfl,fun W _=>by go_simp⟩) hS ?_
        try simp only [Act.put,List.setIfInBounds_toArray,List.set_cons_zero,List.set_cons_succ]
        refine wpAnyH_take (i:=9) (oi:=⟨some 23,_,_,_,_,_⟩) (v:=.bool false) rfl (by kernel_rfl) (by kernel_rfl) (by kernel_rfl) (fun _ _ _ h=>h) (Or.inl ⟨by rfl,fun W _=>by go_simp⟩) hS ?_
        try simp only [Act.put,List.setIfInBounds_toArray,List.set_cons_zero,List.set_cons_succ]
        refine wpAnyH_take (i:=10) (oi:=⟨some 24,_,_,_,_,_⟩) (v:=.bool false) rfl (by kernel_rfl) (by kernel_rfl) (by kernel_rfl) (fun _ _ _ h=>h) (Or.inl ⟨by rfl,fun W _=>by go_simp⟩) hS ?_
        try simp only [Act.put,List.setIfInBounds_toArray,List.set_cons_zero,List.set_cons_succ]
        refine wpAnyH_take (i:=11) (oi:=⟨some 25,_,_,_,_,_⟩) (v:=undef) rfl (by kernel_rfl) (by kernel_rfl) (by kernel_rfl) (fun _ _ _ h=>h) (Or.inr ⟨by rfl,rfl⟩) hS ?_
        try simp only [Act.put,List.setIfInBounds_toArray,List.set_cons_zero,List.set_cons_succ]
        refine wpAnyH_take (i:=12) (oi:=⟨some 26,_,_,_,_,_⟩) (v:=undef) rfl (by kernel_rfl) (by kernel_rfl) (by kernel_rfl) (fun _ _ _ h=>h) (Or.inr ⟨by rfl,rfl⟩) hS ?_
        try simp only [Act.put,List.setIfInBounds_toArray,List.set_cons_zero,List.set_cons_succ]
        refine wpAnyH_take (i:=13) (oi:=⟨some 27,_,_,_,_,_⟩) (v:=undef) rfl (by kernel_rfl) (by kernel_rfl) (by kernel_rfl) (fun _ _ _ h=>h) (Or.inr ⟨by rfl,rfl⟩) hS ?_
        try simp only [Act.put,List.setIfInBounds_toArray,List.set_cons_zero,List.set_cons_succ]
        refine wpAnyH_take (i:=14) (oi:=⟨some 28,_,_,_,_,_⟩) (v:=undef) rfl (by kernel_rfl) (by kernel_rfl) (by kernel_rfl) (fun _ _ _ h=>h) (Or.inr ⟨by rfl,rfl⟩) hS ?_
        try simp only [Act.put,List.setIfInBounds_toArray,List.set_cons_zero,List.set_cons_succ]
        refine wpAnyH_take (i:=15) (oi:=⟨some 29,_,_,_,_,_⟩) (v:=undef) rfl (by kernel_rfl) (by kernel_rfl) (by kernel_rfl) (fun _ _ _ h=>h) (Or.inr ⟨by rfl,rfl⟩) hS ?_
        try simp only [Act.put,List.setIfInBounds_toArray,List.set_cons_zero,List.set_cons_succ]
        refine wpAnyH_take (i:=16) (oi:=⟨some 30,_,_,_,_,_⟩) (v:=undef) rfl (by kernel_rfl) (by kernel_rfl) (by kernel_rfl) (fun _ _ _ h=>h) (Or.inr ⟨by rfl,rfl⟩) hS ?_
        try simp only [Act.put,List.setIfInBounds_toArray,List.set_cons_zero,List.set_cons_succ]
        refine wpAnyH_take (i:=17) (oi:=⟨some 31,_,_,_,_,_⟩) (v:=undef) rfl (by kernel_rfl) (by kernel_rfl) (by kernel_rfl) (fun _ _ _ h=>h) (Or.inr ⟨by rfl,rfl⟩) hS ?_
        try simp only [Act.put,List.setIfInBounds_toArray,List.set_cons_zero,List.set_cons_succ]
        refine wpAnyH_take (i:=18) (oi:=⟨some 32,_,_,_,_,_⟩) (v:=undef) rfl (by kernel_rfl) (by kernel_rfl) (by kernel_rfl) (fun _ _ _ h=>h) (Or.inr ⟨by rfl,rfl⟩) hS ?_
        try simp only [Act.put,List.setIfInBounds_toArray,List.set_cons_zero,List.set_cons_succ]
        refine wpAnyH_take (i:=19) (oi:=⟨some 33,_,_,_,_,_⟩) (v:=.bool false) rfl (by kernel_rfl) (by kernel_rfl) (by kernel_rfl) (fun _ _ _ h=>h) (Or.inl ⟨by rfl,fun W _=>by go_simp⟩) hS ?_
        try simp only [Act.put,List.setIfInBounds_toArray,List.set_cons_zero,List.set_cons_succ]
        refine wpAnyH_done (by kernel_rfl) ?_ _
        clear hS
        go_wp2_with fail
        go_roundg (go-1)
        case measure=>omega
        case rel=>exact ⟨k+1,rs.drop R,by omega,by omega,by go_num,zej.drop hc (by unfold maxLen;omega) HKD.out hjl2 rfl,by rw [HFT.out,HFS.out,if_neg (show ¬ ((R:Int)<pt.least) from by have:=HLS.out;omega)],by rw [List.length_drop];omega,HBQ.out.drew⟩
  ·have hkk:k=ps.length:=by omega
   subst hkk
   have HFE:=zh (show zyg ps ts=rs.isEmpty from by rw [HFT.out,List.drop_length];rfl)
   cases rs with
   | nil =>
    go_wp2_with fail
    go_ret
    exact ⟨by rw [HFE.out];rfl,HB.out⟩
   | cons u r =>
    have hne:¬ (((r.length:Nat):Int)+1=0):=by omega
    have hne2:(((r.length:Nat):Int)+1 == 0)=false:=beq_eq_false_iff_ne.2 hne
    go_wp2_with fail
    go_ret
    exact ⟨by rw [HFE.out];rfl,HB.out⟩
end Go.Proofs.YtbfgdpcgdmabpaaGreatDoor
