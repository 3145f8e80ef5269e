/- The contract of lychgateref07.block: the document's instructions of a block. -/
import Derived.Test.YthdbmgijpelecaaGreatDoorM34
import Derived.Test.YthdbmgijpelecaaGreatDoorM18
namespace Go.Proofs.YthdbmgijpelecaaGreatDoor
set_option maxRecDepth 100000
set_option maxHeartbeats 2000000
open Go.RowKit
theorem Tryz.zGm:∃ i z,zAe Tryz.prog 49 106 11 136 i z:=by
 have h:(Tryz.prog.info? 106).map (fun i=>(i.zero,i.size,i.bytes))=some (some (.agg #[.int .i64 0,.int .i64 0,.string ⟨#[]⟩,.string ⟨#[]⟩,.string ⟨#[]⟩,.int .i64 0,.string ⟨#[]⟩,.int .i64 0,.slice none 0 0,.int .i64 0,.bool false]),11,136):=by kernel_rfl
 obtain ⟨i0,hi,hz0,hz1,hz2⟩:=info_parts h
 exact ⟨i0,_,Tryz.underlying49,hi,hz0,hz1,hz2,rfl⟩
theorem zSa.zbe {w:World} {is:List Ins} {S:Nat→Prop} {v:Value} (h:zSa w is S v) {k:Nat} (hk:v.ownBlock=some k):S k∧k<w.heap.size:=by
 obtain ⟨vs,ho,hS,_⟩:=h
 exact ⟨hS k hk,(ho.lt k hk).2⟩
theorem zSa.slice3 {w:World} {is:List Ins} {S:Nat→Prop} {v:Value} (h:zSa w is S v):∃ a n c,v=.slice a n c:=by
 obtain ⟨a,c,e⟩:=h.slice
 exact ⟨a,_,c,e⟩
structure zKl (w:World) (hd:List Value) (is:List Ins) (o:Value) (W:World):Prop where
 n:Blk W w.heap.size hd 34
 o:zSa W is (fun b=>w.heap.size<b) o
 b:Below w.heap.size w W
section
variable {w W W':World} {hd:List Value} {is js:List Ins} {o o':Value}
theorem zKl.call (h:zKl w hd is o W) (hb:Below W.heap.size W W'):zKl w hd is o W':=⟨h.n.stays hb,h.o.below hb,h.b.trans (hb.mono h.b.size)⟩
theorem zKl.alloc (h:zKl w hd is o W) (x:Obj):zKl w hd is o (W.alloc x):=⟨h.n.alloc x,h.o.alloc x,h.b.alloc h.b.size x⟩
theorem zKl.app (h:zKl w hd is o W) (hI:zSa W' js (fun b=>w.heap.size<b) o') (hg:W.grownBy W' o.ownBlock):zKl w hd js o' W' :=
 ⟨h.n.grown hg (fun e=>Nat.lt_irrefl _ (h.o.zbe e.symm).1),hI,h.b.grown hg h.b.size (fun _ hb=>Nat.le_of_lt (h.o.zbe hb).1)⟩
theorem zKl.lt (h:zKl w hd is o W):w.heap.size<W.heap.size:=h.n.lt
theorem zKl.args {W0:World} (h:zKl w hd is o W0) {ts:List Tm} {u:Value} (ha:zEa W ts (fun b=>W0.heap.size≤b) u):zEa W ts (fun b=>w.heap.size<b∧o.ownBlock≠some b) u :=
 ha.mono fun _ hb _=>⟨Nat.lt_of_lt_of_le h.lt hb,fun e=>Nat.not_le_of_lt (h.o.zbe e).2 hb⟩
end
def zkk (n:Nat):Prop:=∀ (w:World) (t:T) (S:Nat→Prop) (kv:Value) (c:Nat),KAt 34 w t.kids S kv→zjb zZa t.kids→zYb t.kids→sizes t.kids≤n→sizes t.kids≤5000→c+2 * sizes t.kids≤80000 →
 Calls Tryz.prog 46 #[zma t kv,.int .i64 c] w fun e w'=>∃ v,e=.returned v∧zSa w' (zBa n c t.kids) (fun b=>w.heap.size≤b) v∧Below w.heap.size w w'
structure RBs (w:World) (hd:List Value) (is:List Ins) (o:Value) (z:Nat) (sc:List Value) (W:World):Prop where
 st:zKl w hd is o W
 s:Blk W z sc 34
 ne:o.ownBlock≠some z
section
variable {w W W':World} {hd sc:List Value} {is js:List Ins} {o o':Value} {z:Nat}
theorem RBs.call (h:RBs w hd is o z sc W) (hb:Below W.heap.size W W'):RBs w hd is o z sc W':=⟨h.st.call hb,h.s.stays hb,h.ne⟩
theorem RBs.alloc (h:RBs w hd is o z sc W) (x:Obj):RBs w hd is o z sc (W.alloc x):=⟨h.st.alloc x,h.s.alloc x,h.ne⟩
theorem RBs.app (h:RBs w hd is o z sc W) (hI:zSa W' js (fun b=>w.heap.size<b) o') (hg:W.grownBy W' o.ownBlock) (hbk:o'.ownBlock=o.ownBlock∨o'.ownBlock=some W.heap.size):RBs w hd js o' z sc W' :=
 ⟨h.st.app hI hg,h.s.grown hg (Ne.symm h.ne),fun e=>by
  rcases hbk with h1|h1
  ·exact h.ne (h1▸e)
  ·rw [h1] at e;cases e;exact Nat.lt_irrefl _ h.s.lt⟩
end
theorem zSa.grow {W W':World} {ths:List Ins} {z1 z2:Nat} {tv:Value} {row:Option Nat} (h:zSa W ths (fun b=>z1≤b∧b<z2) tv) (hg:W.grownBy W' row) (ho:∀ b,row=some b→b<z1∨z2≤b):zSa W' ths (fun b=>z1≤b∧b<z2) tv :=
 h.keep fun b hb hl=>⟨hb,hg.block b hl fun e=>by have:=ho b e.symm;omega⟩
structure RCp (w:World) (hd:List Value) (is ths:List Ins) (o tv:Value) (z:Nat) (sc:List Value) (z1 z2:Nat) (W:World):Prop where
 b:RBs w hd is o z sc W
 t:zSa W ths (fun b=>z1≤b∧b<z2) tv
 o:∀ b,o.ownBlock=some b→b<z1∨z2≤b
 l:z2≤W.heap.size
 z:w.heap.size<z1
section
variable {w W W':World} {hd sc:List Value} {is js ths:List Ins} {o o' tv u:Value} {z z1 z2:Nat} {i:Ins}
theorem RCp.alloc (h:RCp w hd is ths o tv z sc z1 z2 W) (x:Obj):RCp w hd is ths o tv z sc z1 z2 (W.alloc x):=⟨h.b.alloc x,h.t.alloc x,h.o,by simp;have:=h.l;omega,h.z⟩
theorem RCp.app (h:RCp w hd is ths o tv z sc z1 z2 W) (hI:zSa W' js (fun b=>w.heap.size<b) o') (hg:W.grownBy W' o.ownBlock) (hbk:o'.ownBlock=o.ownBlock∨o'.ownBlock=some W.heap.size):RCp w hd js ths o' tv z sc z1 z2 W' :=
 ⟨h.b.app hI hg hbk,h.t.grow hg h.o,fun b e=>by
  rcases hbk with h1|h1
  ·exact h.o b (h1▸e)
  ·rw [h1] at e;cases e;exact .inr h.l,Nat.le_trans h.l hg.size,h.z⟩
theorem RCp.args (h:RCp w hd is ths o tv z sc z1 z2 W) {ts:List Tm} (ha:zEa W ts (fun b=>z1≤b∧b<z2) u):zEa W ts (fun b=>w.heap.size<b∧o.ownBlock≠some b) u :=
 ha.mono fun b hb _=>⟨by have:=h.z;omega,fun e=>by have:=h.o b e;omega⟩
theorem RCp.start {w6 w7:World} (hs:RBs w hd is o z sc W) (ht:zSa w6 ths (fun b=>W.heap.size≤b) tv) (h7:RBs w hd is o z sc w7) (hb:Below w6.heap.size w6 w7):RCp w hd is ths o tv z sc W.heap.size w6.heap.size w7 :=
 ⟨h7,(ht.keep fun b hb' hl=>⟨⟨hb',hl⟩,hb.block b hl⟩),fun _ e=>.inl (hs.st.o.zbe e).2,hb.size,hs.st.lt⟩
end
def zep (w:World) (hd:List Value) (is ths:List Ins) (tv:Value) (z:Nat) (sc:List Value) (z1 z2:Nat) (g:Nat) (o i:Value) (wr:World):Prop :=
 ∃ j:Nat,j≤ths.length∧ths.length≤j+g∧i=.int .i64 j∧RCp w hd (is++ths.take j) ths o tv z sc z1 z2 wr
def zzt (w:World) (hd:List Value) (n c:Nat) (ks:List T) (g:Nat) (o i:Value) (wr:World):Prop :=
 ∃ k:Nat,k≤ks.length∧ks.length≤k+g∧i=.int .i64 k∧zKl w hd (zQa (zBa n) c (ks.take k)) o wr
theorem zqm {n:Nat} (ih:zkk n):zkk (n+1):=by
 intro w t S kv c hk hks hw hs hs5 hc
 cases t with
 | mk kd tx nm p ks =>
  have hks':zjb zZa ks:=hks
  have hw':zYb ks:=hw
  have hs':sizes ks≤n+1:=hs
  have hs5':sizes ks≤5000:=hs5
  have hc':c+2 * sizes ks≤80000:=hc
  have hkl:ks.length≤sizes ks:=zMc ks
  have hk':KAt 34 w ks S kv:=hk
  have HIH:=zh ih
  have HKS:=zh hks'
  have HW:=zh hw'
  have HSZ:=zh hs'
  have HS5:=zh hs5'
  have HC:=zh hc'
  have HKL:=zh hkl
  have hone:=hk'.one
  obtain ⟨w0,hw0,HST,HB0⟩:∃ w0,w.alloc (.cells (zaa (.mk kd tx nm p ks) kv).toArray 34)=w0∧Hid (zKl w (zaa (.mk kd tx nm p ks) kv) [] (.slice none 0 0) w0)∧Hid (Below w.heap.size w w0) :=
   ⟨_,rfl,zh ⟨Blk.new w _ _,zSa.nil _ _,(Below.refl _ _).alloc (Nat.le_refl _) _⟩,zh ((Below.refl _ _).alloc (Nat.le_refl _) _)⟩
  have HKB:Hid (∀ W:World,Below w.heap.size w W→KAt 34 W ks S kv):=zh fun W hb=>hk'.below hb
  clear ih hk hks hw hs hs5 hc hks' hw' hs' hs5' hc' hkl
  obtain ⟨it,zt,IT⟩:=Tryz.zGm
  have HBY:=zh (show 136≤1000 by omega)
  rcases hk'.form with ⟨rfl,hnil⟩|⟨g,cap,rfl,hg,hcap,hcm,hget⟩
  ·subst hnil
   have hB:=HB0
   unfold zma
   simp only [zRa,zXa,zBb,zJa]
   go_enter Tryz.func46,Tryz.ntmps46
   go_wp2_with fail
   refine wp_loop_rounds 1 ?_
   rw [rounds_succ]
   go_wp2_with fail
   go_ret
   exact ⟨_,rfl,zSa.nil _ _,by have h:=hB.out;rw [← hw0] at h;exact h⟩
  ·have HCAP:=zh hcap
   have HG:=zh hg
   have HGET:=zh hget
   obtain ⟨HD,hHD⟩:∃ HD,HD=zaa (.mk kd tx nm p ks) (.slice (some ⟨g,0,none⟩) ks.length cap):=⟨_,rfl⟩
   rw [← hHD] at HST
   have HHD:=zh hHD
   clear hcap hk' hHD hget
   unfold maxLen at hcm
   unfold zma
   simp only [zRa,zXa,zBb,zJa]
   go_enter Tryz.func46,Tryz.ntmps46
   go_wp2_with fail
   go_loopg [5,6] ks.length (fun gk o i wr=>zzt w HD n c ks gk o i wr)
   case atStart=>exact ⟨0,by omega,by omega,rfl,by rw [List.take_zero];have h:=HST.out;rw [← hw0] at h;exact h⟩
   case round =>
     obtain ⟨k,hk,hgk,rfl,hst⟩:=hrel
     have HB:=zh hst
     obtain ⟨oa,oc,rfl⟩:=hst.o.slice
     have hzw:=hst.lt
     have hbel:=hst.b
     have n4:wr.cell? ⟨w.heap.size,4,none⟩=some (.slice (some ⟨g,0,none⟩) ks.length cap):=by have h:=hst.n.cell 4;rw [HHD.out] at h;exact h
     obtain ⟨L,hL⟩:∃ L,L=(zQa (zBa n) c (ks.take k)).length:=⟨_,rfl⟩
     rw [← hL] at HB ⊢
     have HL:=zh hL
     clear hst hL
     by_cases hlt:k<ks.length
     ·obtain ⟨u,hr,hT⟩:=HGET.out k ks[k] (List.getElem?_eq_getElem hlt)
      have hne:=List.getElem?_eq_getElem hlt
      have htk:ks.take (k+1)=ks.take k++[ks[k]]:=List.take_succ_eq_append_getElem hlt
      have hkk:=HKS.out ks[k] (List.getElem_mem hlt)
      have hwk:=zMd HW.out (List.getElem_mem hlt)
      have hsk:=zeg ks k ks[k] hne
      have hsle:=zsd ks (k+1)
      generalize ks[k]=tk at hr hT hne htk hkk hwk hsk
      have HR:=zh (zpa hr hbel HG.out)
      have HTK:=zh htk
      have HKK:=zh hkk
      have HWK:=zh hwk
      have hLC:L+2 * tk.size≤2 * sizes ks:=by
       have h1:=zmb (n+1) (ks.take k) (by have:=HSZ.out;have:=zsd ks k;omega) (fun t ht=>HKS.out t (List.mem_of_mem_take ht)) (zBg k HW.out) c
       have h2:=count_le.counts_le (ks.take k)
       have h3:L=(zBa (n+1) c (ks.take k)).length:=HL.out
       omega
      have HLC:=zh hLC
      have HSK:=zh (show tk.size≤sizes ks by omega)
      have hone:=hT.kat.one
      have HT:=zh hT
      have hcap:=HCAP.out
      clear hr hT hne htk hkk hwk hsk hsle hLC
      obtain ⟨kk,kt,kn,kp,kks⟩:=tk
      obtain ⟨ua,un,uc,rfl⟩:=HT.out.kat.slice
      have HU0:=zh (show KAt 34 w kks S (.slice ua un uc) from HT.out.kat)
      have HR':=zh (show wr.rangeAt g (k * 5) [.int .i64 kk,.string kt,.int .i64 kn,.int .i64 kp,.slice ua un uc] from HR.out)
      obtain ⟨W1,hW1,HS1,hz1⟩:∃ W,wr.alloc (.cells [.int .i64 kk,.string kt,.int .i64 kn,.int .i64 kp,.slice ua un uc].toArray 34)=W∧Hid (RBs w HD (zQa (zBa n) c (ks.take k)) (.slice oa L oc) wr.heap.size [.int .i64 kk,.string kt,.int .i64 kn,.int .i64 kp,.slice ua un uc] W)∧W.heap.size=wr.heap.size+1 :=
       ⟨_,rfl,zh ⟨HB.out.alloc _,Blk.new wr _ _,fun e=>Nat.lt_irrefl _ (HB.out.o.zbe e).2⟩,by simp⟩
      have HU1:=zh (HU0.out.below HS1.out.st.b)
      have s0:W1.cell? ⟨wr.heap.size,0,none⟩=some (.int .i64 kk):=HS1.out.s.cell 0
      have s4:W1.cell? ⟨wr.heap.size,4,none⟩=some (.slice ua un uc):=HS1.out.s.cell 4
      have hat:∃ at':Nat,at'=c+L∧IntKind.i64.wrap ((c:Int)+(L:Int))=(at':Int):=⟨c+L,rfl,by rw [IntWalk.i64_in _ (by have:=HC.out;have:=HLC.out;omega)];omega⟩
      obtain ⟨at',hat1,hat2⟩:=hat
      have HAT:=zh hat1
      have HC0:=zh HC.out
      have HGO0:=zh (show gk-1<gk∧k+1≤ks.length∧ks.length≤k+1+(gk-1) by omega)
      have HATW:=zh hat2
      clear hat1 hat2
      have hat2:IntKind.i64.wrap ((c:Int)+(L:Int))=(at':Int):=HATW.out
      clear HR
      by_cases hpl:kk≠15∧kk≠16
      ·obtain ⟨h15,h16⟩:=hpl
       obtain ⟨i,hi,hcall⟩:=zdo (w:=W1) (t:=.mk kk kt kn kp kks) HU1.out HWK.out HKK.out h15 h16 (by have:=HSK.out;have:=HS5.out;omega)
       have HI:=zh hi
       have HCALL:=zh hcall
       have f15:(kk != 15)=true:=by simp [h15]
       have f16:(kk != 16)=true:=by simp [h16]
       clear hi hcall
       go_wp2_with (first
        | ((with_reducible refine zra 34 (.tmp 27) ?_);refine wpList_load_mid rfl 34 (.tmp 27) rfl g (k * 5) rfl ([.int .i64 kk,.string kt,.int .i64 kn,.int .i64 kp,.slice ua un uc]) _ HR'.out Tryz.underlying34 rfl Tryz.zGa ?_)
        | ((with_reducible refine zla 34 (.tmp 7) ?_);refine zga rfl 34 (.tmp 7) (.tmp 28) rfl ([.int .i64 kk,.string kt,.int .i64 kn,.int .i64 kp,.slice ua un uc]) (old:=zba) rfl rfl Tryz.zGa rfl (zda (.mk kk kt kn kp kks) _ rfl) ?_)
        | ((with_reducible refine zra 34 (.tmp 7) ?_);refine zja rfl 34 (.tmp 7) rfl wr.heap.size ([.int .i64 kk,.string kt,.int .i64 kn,.int .i64 kp,.slice ua un uc]) rfl HS1.out.s Tryz.underlying34 rfl Tryz.zGa ?_))
       refine HCALL.out.mono ?_
       rintro e w2 ⟨x,rfl,ha,hb2⟩
       obtain ⟨xa,xn,xc,rfl⟩:=ha.slice
       have HS2:=zh (HS1.out.call hb2)
       have HA2:=zh (HS1.out.st.args ha)
       have HS3:=zh (HS2.out.alloc (.cells (zea i (.slice xa xn xc)).toArray 106))
       have HN3:=zh (show Blk _ w2.heap.size (zea i (.slice xa xn xc)) 106 from Blk.new w2 _ _)
       have HS4:=zh (HS3.out.alloc (.cells (zea i (.slice xa xn xc)).toArray 106))
       have HN4:=zh (Blk.zpc w2 (.cells (zea i (.slice xa xn xc)).toArray 106) (zea i (.slice xa xn xc)) 106)
       have HA4:=zh ((HA2.out.alloc (.cells (zea i (.slice xa xn xc)).toArray 106)).alloc (.cells (zea i (.slice xa xn xc)).toArray 106))
       have HLN:Hid ((zQa (zBa n) c (ks.take k)).length+1≤100000):=zh (by have:=HL.out;have:=HLC.out;have:=HS5.out;omega)
       clear ha hb2
       unfold zmo
       go_wp2_with (first
        | (at_builtin;refine zzb (j:=i) (u:=.slice xa xn xc) rfl (.tmp 43) (.tmp 45) rfl IT HBY.out rfl HS4.out.st.o HA4.out HS4.out.st.lt rfl (fun k y hk=>by rw [Addr.add_mid,Nat.zero_add];exact (HN4.out.cell k).trans hk) HLN.out ?_))
       intro v' w' hI hg hbk
       have HE:=zh (HS4.out.app hI hg (hbk.imp id fun h=>h.trans (by simp)))
       obtain ⟨va,vn,vc,rfl⟩:=hI.slice3
       clear hI hg hbk
       go_wp2_with fail
       go_roundg (gk-1)
       case measure=>omega
       case rel =>
        refine ⟨k+1,by omega,by omega,by go_num,?_⟩
        rw [HTK.out,zQd]
        have e:zQa (zBa n) (c+(zQa (zBa n) c (ks.take k)).length) [(.mk kk kt kn kp kks)]=[i]:=by
         rw [zQa,zQa,List.append_nil]
         exact HI.out _ _
        rw [e]
        exact HE.out.st
      ·have hcs:kk=15∨kk=16:=by omega
       clear hpl
       rcases hcs with h15|h16
       ·subst h15
        obtain ⟨a,b,cb,d,rfl,hcd,hcw⟩:∃ a b cb d,kks=[a,b,cb,d]∧(cb.kind=9∧d.kind=9)∧(cb.whole∧d.whole):=by
         rcases zHg HWK.out HKK.out with ⟨_,a,b,cb,d,he,_,hcd,_,hc,hd⟩|⟨h,_⟩|⟨h,_⟩
         ·exact ⟨a,b,cb,d,he,hcd,hc,hd⟩
         ·exact absurd (show (15:Int)=16 from h) (by decide)
         ·exact absurd rfl h
        have hsz:(T.mk 15 kt kn kp [a,b,cb,d]).size=1+(a.size+(b.size+(cb.size+(d.size+0)))):=by rw [size_mk,zoa,zoa,zoa,zoa,zwa]
        have hcz:cb.size=1+sizes cb.kids:=by cases cb;rw [size_mk];rfl
        have hdz:d.size=1+sizes d.kids:=by cases d;rw [size_mk];rfl
        have HBC:=zh (zOb hcw.1 hcd.1)
        have HBD:=zh (zOb hcw.2 hcd.2)
        have HSC:=zh (show sizes cb.kids+sizes d.kids+3≤(T.mk 15 kt kn kp [a,b,cb,d]).size by omega)
        clear hcd hcw hsz hcz hdz
        obtain ⟨g2,cap2,he2,hg2,hcap2,hcm2,hget2⟩:∃ g2 cap2,Value.slice ua un uc=.slice (some ⟨g2,0,none⟩) 4 cap2∧g2<w.heap.size∧4≤cap2∧cap2≤maxLen∧∀ k t,[a,b,cb,d][k]?=some t→∃ u,w.rangeAt g2 (k * 5) (zaa t u)∧TAt 34 w t S u:=by
         rcases HU0.out.form with ⟨_,h⟩|h
         ·cases h
         ·exact h
        cases he2
        unfold maxLen at hcm2
        obtain ⟨xa,hra,hta⟩:=hget2 0 a rfl
        have HRa:=zh (show w.rangeAt g2 0 (zaa a xa) from hra)
        have HTa:=zh hta
        have hxa:=hta.kat.one
        clear hra hta
        obtain ⟨xb,hrb,htb⟩:=hget2 1 b rfl
        have HRb:=zh (show w.rangeAt g2 5 (zaa b xb) from hrb)
        have HTb:=zh htb
        have hxb:=htb.kat.one
        clear hrb htb
        obtain ⟨xcb,hrcb,htcb⟩:=hget2 2 cb rfl
        have HRcb:=zh (show w.rangeAt g2 10 (zaa cb xcb) from hrcb)
        have HTcb:=zh htcb
        have hxcb:=htcb.kat.one
        clear hrcb htcb
        obtain ⟨xd,hrd,htd⟩:=hget2 3 d rfl
        have HRd:=zh (show w.rangeAt g2 15 (zaa d xd) from hrd)
        have HTd:=zh htd
        have hxd:=htd.kat.one
        clear hrd htd
        clear hget2
        obtain ⟨a1,ha1,ha1w⟩:∃ a1:Nat,a1=at'+1∧IntKind.i64.wrap ((at':Int)+1)=(a1:Int):=⟨at'+1,rfl,by rw [IntWalk.i64_in _ (by have:=HAT.out;have:=HC.out;have:=HLC.out;have:=HSK.out;have:=HS5.out;omega)];omega⟩
        have HA1:=zh ha1
        clear ha1
        have HRa1:=zh (zpa HRa.out HS1.out.st.b hg2)
        go_wp2_with (first
         | ((with_reducible refine zra 34 (.tmp 27) ?_);refine wpList_load_mid rfl 34 (.tmp 27) rfl g (k * 5) rfl ([.int .i64 15,.string kt,.int .i64 kn,.int .i64 kp,.slice (some ⟨g2,0,none⟩) 4 uc]) _ HR'.out Tryz.underlying34 rfl Tryz.zGa ?_)
         | ((with_reducible refine zla 34 (.tmp 7) ?_);refine zga rfl 34 (.tmp 7) (.tmp 28) rfl ([.int .i64 15,.string kt,.int .i64 kn,.int .i64 kp,.slice (some ⟨g2,0,none⟩) 4 uc]) (old:=zba) rfl rfl Tryz.zGa rfl (zda (T.mk 15 kt kn kp [a,b,cb,d]) _ rfl) ?_)
         | ((with_reducible refine zra 34 (.tmp 49) ?_);refine wpList_load_mid rfl 34 (.tmp 49) rfl g2 (0) rfl (zaa a xa) _ HRa1.out Tryz.underlying34 rfl Tryz.zGa ?_))
        refine (zuf _ a xa).mono ?_
        rintro e w2 ⟨rfl,hb2⟩
        obtain ⟨W3,hW3,HS3,HTA3⟩:∃ W,w2.alloc (.cells [.string a.text,.int .i64 a.num].toArray 103)=W∧Hid (RBs w HD (zQa (zBa n) c (ks.take k)) (.slice oa L oc) wr.heap.size [.int .i64 15,.string kt,.int .i64 kn,.int .i64 kp,.slice (some ⟨g2,0,none⟩) 4 uc] W)∧Hid (Blk W w2.heap.size [.string a.text,.int .i64 a.num] 103) :=
         ⟨_,rfl,zh ((HS1.out.call hb2).alloc _),zh (Blk.new w2 _ _)⟩
        have HRb3:=zh (zpa HRb.out HS3.out.st.b hg2)
        have s43:W3.cell? ⟨wr.heap.size,4,none⟩=some (.slice (some ⟨g2,0,none⟩) 4 uc):=HS3.out.s.cell 4
        clear hb2
        go_wp2_with (first
         | ((with_reducible refine zra 34 (.tmp 54) ?_);refine wpList_load_mid rfl 34 (.tmp 54) rfl g2 (5) rfl (zaa b xb) _ HRb3.out Tryz.underlying34 rfl Tryz.zGa ?_))
        refine (zuf _ b xb).mono ?_
        rintro e w4 ⟨rfl,hb4⟩
        obtain ⟨W5,hW5,HS5',HTA5,HTB5⟩:∃ W,w4.alloc (.cells [.string b.text,.int .i64 b.num].toArray 103)=W∧Hid (RBs w HD (zQa (zBa n) c (ks.take k)) (.slice oa L oc) wr.heap.size [.int .i64 15,.string kt,.int .i64 kn,.int .i64 kp,.slice (some ⟨g2,0,none⟩) 4 uc] W)∧Hid (Blk W w2.heap.size [.string a.text,.int .i64 a.num] 103)∧Hid (Blk W w4.heap.size [.string b.text,.int .i64 b.num] 103) :=
         ⟨_,rfl,zh ((HS3.out.call hb4).alloc _),zh ((HTA3.out.stays hb4).alloc _),zh (Blk.new w4 _ _)⟩
        have HRc5:=zh (zpa HRcb.out HS5'.out.st.b hg2)
        have HTc5:=zh (HTcb.out.below HS5'.out.st.b)
        have s45:W5.cell? ⟨wr.heap.size,4,none⟩=some (.slice (some ⟨g2,0,none⟩) 4 uc):=HS5'.out.s.cell 4
        clear hb4
        go_wp2_with (first
         | ((with_reducible refine zra 34 (.tmp 59) ?_);refine wpList_load_mid rfl 34 (.tmp 59) rfl g2 (10) rfl (zaa cb xcb) _ HRc5.out Tryz.underlying34 rfl Tryz.zGa ?_))
        refine (HIH.out W5 cb S xcb a1 HTc5.out.kat HBC.out.1 HBC.out.2 (by have:=HSC.out;have:=HSK.out;have:=HSZ.out;omega) (by have:=HSC.out;have:=HSK.out;have:=HS5.out;omega) (by have:=HSC.out;have:=HLC.out;have:=HC.out;have:=HAT.out;have:=HA1.out;omega)).mono ?_
        rintro e w6 ⟨tv,rfl,hth,hb6⟩
        obtain ⟨ta,tc,rfl⟩:=hth.slice
        obtain ⟨ths,hths⟩:∃ ths,ths=zBa n a1 cb.kids:=⟨_,rfl⟩
        rw [← hths] at hth ⊢
        obtain ⟨Tn,hTn⟩:∃ Tn,Tn=ths.length:=⟨_,rfl⟩
        rw [← hTn] at hth ⊢
        have HTHS:=zh hths
        have hTc:Tn≤2 * sizes cb.kids:=by
         have h1:=zmb n cb.kids (by have:=HSC.out;have:=HSK.out;have:=HSZ.out;omega) HBC.out.1 HBC.out.2 a1
         have h2:=count_le.counts_le cb.kids
         rw [hTn,hths]
         omega
        have HTC:=zh hTc
        have HTN14:=zh hTn
        have hlen:c+L+1+Tn+2≤80000:=by have:=HSC.out;have:=HLC.out;have:=HC.out;omega
        obtain ⟨jp,hjp,hjpw⟩:∃ jp:Nat,jp=a1+Tn∧IntKind.i64.wrap ((a1:Int)+(Tn:Int))=(jp:Int):=⟨a1+Tn,rfl,by rw [IntWalk.i64_in _ (by have:=HAT.out;have:=HA1.out;omega)];omega⟩
        obtain ⟨j1,hj1,hj1w⟩:∃ j1:Nat,j1=jp+1∧IntKind.i64.wrap ((jp:Int)+1)=(j1:Int):=⟨jp+1,rfl,by rw [IntWalk.i64_in _ (by have:=HAT.out;have:=HA1.out;omega)];omega⟩
        have HJP:=zh hjp
        have HJ1:=zh hj1
        have HS6:=zh (HS5'.out.call hb6)
        have HTA6:=zh (HTA5.out.stays hb6)
        have HTB6:=zh (HTB5.out.stays hb6)
        have s36:w6.cell? ⟨wr.heap.size,3,none⟩=some (.int .i64 kp):=HS6.out.s.cell 3
        have s16:w6.cell? ⟨wr.heap.size,1,none⟩=some (.string kt):=HS6.out.s.cell 1
        have HTH6:=zh hth
        have hz6:=hb6.size
        clear hth hb6 hths hTn hTc hjp hj1
        have HS7:=zh (HS6.out.alloc (.cells (zea (zeb (T.mk 15 kt kn kp [a,b,cb,d]) j1) (.slice none 0 0)).toArray 106))
        have HN7:=zh (show Blk _ w6.heap.size (zea (zeb (T.mk 15 kt kn kp [a,b,cb,d]) j1) (.slice none 0 0)) 106 from Blk.new w6 _ _)
        have HCP7:=zh (RCp.start HS5'.out HTH6.out HS7.out ((Below.refl _ _).alloc (Nat.le_refl _) _))
        have HLN7:Hid ((zQa (zBa n) c (ks.take k)).length+1≤100000):=zh (by have:=HL.out;have:=hlen;omega)
        have HLN14:Hid ((zQa (zBa n) c (ks.take k)++[zeb (T.mk 15 kt kn kp [a,b,cb,d]) j1]).length+ths.length+1≤100000):=zh (by have:=HL.out;have:=HTN14.out;have:=hlen;simp;omega)
        have HHL:=zh hlen
        clear hlen
        go_wp2_with (first
         | ((with_reducible refine zra 103 (.tmp 10) ?_);refine zja rfl 103 (.tmp 10) rfl w2.heap.size ([.string a.text,.int .i64 a.num]) rfl HTA6.out Tryz.underlying103 rfl Tryz.zlb ?_)
         | ((with_reducible refine zra 103 (.tmp 11) ?_);refine zja rfl 103 (.tmp 11) rfl w4.heap.size ([.string b.text,.int .i64 b.num]) rfl HTB6.out Tryz.underlying103 rfl Tryz.zlb ?_)
         | (at_builtin;refine zzb (j:=zeb (T.mk 15 kt kn kp [a,b,cb,d]) j1) (u:=.slice none 0 0) rfl (.tmp 69) (.tmp 79) rfl IT HBY.out rfl HCP7.out.b.st.o (zEa.nil _ _) HCP7.out.b.st.lt rfl (fun k y hk=>by rw [Addr.add_mid,Nat.zero_add];exact (HN7.out.cell k).trans hk) HLN7.out ?_))
        intro v8 w8 hI hg hbk
        have HCP14:=zh (HCP7.out.app hI hg (hbk.imp id fun h=>h.trans (by simp)))
        obtain ⟨o8a,o8n,o8c,rfl⟩:=hI.slice3
        clear hI hg hbk HCP7 HN7
        go_wp2_with fail
        obtain ⟨go1,hgo1⟩:∃ go:Nat,gk=go+0:=⟨gk,rfl⟩
        have HGO:=zh (show go1-1<go1∧k+1≤ks.length∧ks.length≤k+1+(go1-1) by have:=HGO0.out;omega)
        go_loopg [5,14] Tn (fun gk o i wj=>zep w HD (zQa (zBa n) c (ks.take k)++[zeb (T.mk 15 kt kn kp [a,b,cb,d]) j1]) (ths) (.slice ta Tn tc) wr.heap.size [.int .i64 15,.string kt,.int .i64 kn,.int .i64 kp,.slice (some ⟨g2,0,none⟩) 4 uc] W5.heap.size w6.heap.size gk o i wj)
        case atStart=>exact ⟨0,by omega,by have:=HTN14.out;omega,rfl,by rw [List.take_zero,List.append_nil];exact HCP14.out⟩
        case round =>
         rename World=>wj14
         obtain ⟨j,hj,hgj,rfl,hcp⟩:=hrel
         have HC1:=zh hcp
         obtain ⟨pa,pn,pc,rfl⟩:=hcp.b.st.o.slice3
         have hzj:=hcp.l
         have hTN:=HTN14.out
         clear hcp
         by_cases hlj:j<Tn
         ·rcases HC1.out.t.form with ⟨_,hnil⟩|⟨gT,capT,heT,hgT,hcapT,hcmT,hgetT⟩
          ·exfalso;rw [hnil] at hTN;simp at hTN;omega
          ·obtain ⟨i,hi⟩:∃ i,(ths)[j]?=some i:=⟨(ths)[j]'(by omega),List.getElem?_eq_getElem _⟩
           obtain ⟨x,hrx,hax⟩:=hgetT j i hi
           have htk:(ths).take (j+1)=(ths).take j++[i]:=by rw [List.take_add_one,hi];rfl
           rw [← hTN] at heT hcapT
           cases heT
           obtain ⟨xa,xn,xc,rfl⟩:=hax.slice
           have HRX:=zh hrx
           have HTK2:=zh htk
           have HA4:=zh ((HC1.out.args hax).alloc (.cells (zea i (.slice xa xn xc)).toArray 106))
           have HC2:=zh (HC1.out.alloc (.cells (zea i (.slice xa xn xc)).toArray 106))
           have HN4:=zh (show Blk _ wj14.heap.size (zea i (.slice xa xn xc)) 106 from Blk.new wj14 _ _)
           have HLN2:Hid ((zQa (zBa n) c (ks.take k)++[zeb (T.mk 15 kt kn kp [a,b,cb,d]) j1]++(ths).take j).length+1≤100000):=zh (by have:=HLN14.out;rw [List.length_append,List.length_take];omega)
           have HJL:=zh (show j+1≤(ths).length∧(ths).length≤j+1+(gk-1)∧gk-1<gk by omega)
           unfold maxLen at hcmT
           clear hi hrx hax htk hgetT hTN
           go_wp2_with (first
            | ((with_reducible refine zra 106 (.tmp 90) ?_);refine wpList_load_mid rfl 106 (.tmp 90) rfl gT (j * 11) rfl ([.int .i64 i.op,.int .i64 i.place,.string i.x,.string i.y,.string i.a.name,.int .i64 i.a.num,.string i.b.name,.int .i64 i.b.num,.slice xa xn xc,.int .i64 i.to,.bool i.has]) _ HRX.out Tryz.underlying106 rfl Tryz.zua ?_)
            | (at_builtin;refine zzb (j:=i) (u:=.slice xa xn xc) rfl (.tmp 87) (.tmp 92) rfl IT HBY.out rfl HC2.out.b.st.o HA4.out HC2.out.b.st.lt rfl (fun k y hk=>by rw [Addr.add_mid,Nat.zero_add];exact (HN4.out.cell k).trans hk) HLN2.out ?_))
           intro v' w' hI hg hbk
           have HC3:=zh (HC2.out.app hI hg (hbk.imp id fun h=>h.trans (by simp)))
           obtain ⟨va,vn,vc,rfl⟩:=hI.slice3
           clear hI hg hbk
           go_wp2_with fail
           go_roundg (gk-1)
           case measure=>exact HJL.out.2.2
           case rel =>
            refine ⟨j+1,HJL.out.1,HJL.out.2.1,by go_num,?_⟩
            rw [HTK2.out]
            simpa only [List.append_assoc,List.cons_append,List.nil_append] using HC3.out
         ·have hE:(ths).take j=ths:=List.take_of_length_le (by omega)
          rw [hE] at HC1
          have HC:=zh HC1.out.b
          clear HC1 hE hTN
          have s0w:wj14.cell? ⟨wr.heap.size,0,none⟩=some (.int .i64 15):=HC.out.s.cell 0
          have s3w:wj14.cell? ⟨wr.heap.size,3,none⟩=some (.int .i64 kp):=HC.out.s.cell 3
          have s4w:wj14.cell? ⟨wr.heap.size,4,none⟩=some (.slice (some ⟨g2,0,none⟩) 4 uc):=HC.out.s.cell 4
          have HRd9:=zh (zpa HRd.out HC.out.st.b hg2)
          have HTd9:=zh (HTd.out.below HC.out.st.b)
          go_wp2_with (first
           | ((with_reducible refine zra 34 (.tmp 106) ?_);refine wpList_load_mid rfl 34 (.tmp 106) rfl g2 (15) rfl (zaa d xd) _ HRd9.out Tryz.underlying34 rfl Tryz.zGa ?_))
          refine (HIH.out wj14 d S xd j1 HTd9.out.kat HBD.out.1 HBD.out.2 (by have:=HSC.out;have:=HSK.out;have:=HSZ.out;omega) (by have:=HSC.out;have:=HSK.out;have:=HS5.out;omega) (by have:=HSC.out;have:=HLC.out;have:=HC0.out;have:=HAT.out;have:=HA1.out;have:=HJ1.out;have:=HJP.out;have:=HTC.out;omega)).mono ?_
          rintro e w9 ⟨tv2,rfl,hth2,hb9⟩
          obtain ⟨ta2,tc2,rfl⟩:=hth2.slice
          obtain ⟨th2,hths2⟩:∃ ths,ths=zBa n j1 d.kids:=⟨_,rfl⟩
          rw [← hths2] at hth2 ⊢
          obtain ⟨On,hOn⟩:∃ Tn,Tn=th2.length:=⟨_,rfl⟩
          rw [← hOn] at hth2 ⊢
          have HTHS2:=zh hths2
          have hOc:On≤2 * sizes d.kids:=by
           have h1:=zmb n d.kids (by have:=HSC.out;have:=HSK.out;have:=HSZ.out;omega) HBD.out.1 HBD.out.2 j1
           have h2:=count_le.counts_le d.kids
           rw [hOn,hths2]
           omega
          have HTN16:=zh hOn
          have hlen2:c+L+Tn+On+4≤80000:=by have:=HSC.out;have:=HLC.out;have:=HC0.out;have:=HTC.out;omega
          obtain ⟨j2,hj2,hj2w⟩:∃ j2:Nat,j2=j1+On∧IntKind.i64.wrap ((j1:Int)+(On:Int))=(j2:Int):=⟨j1+On,rfl,by rw [IntWalk.i64_in _ (by have:=HAT.out;have:=HA1.out;have:=HJ1.out;have:=HJP.out;omega)];omega⟩
          have HJ2:=zh hj2
          have HC9:=zh (HC.out.call hb9)
          have s39:w9.cell? ⟨wr.heap.size,3,none⟩=some (.int .i64 kp):=HC9.out.s.cell 3
          have HTH9:=zh hth2
          clear hth2 hb9 hths2 hOn hOc hj2
          have HS10:=zh (HC9.out.alloc (.cells (zea (zkf (T.mk 15 kt kn kp [a,b,cb,d]) j2) (.slice none 0 0)).toArray 106))
          have HN10:=zh (show Blk _ w9.heap.size (zea (zkf (T.mk 15 kt kn kp [a,b,cb,d]) j2) (.slice none 0 0)) 106 from Blk.new w9 _ _)
          have HCP10:=zh (RCp.start HC.out HTH9.out HS10.out ((Below.refl _ _).alloc (Nat.le_refl _) _))
          have HLN10:Hid ((zQa (zBa n) c (ks.take k)++[zeb (T.mk 15 kt kn kp [a,b,cb,d]) j1]++ths).length+1≤100000):=zh (by have:=HLN14.out;rw [List.length_append];omega)
          have HLN16:Hid ((zQa (zBa n) c (ks.take k)++[zeb (T.mk 15 kt kn kp [a,b,cb,d]) j1]++ths++[zkf (T.mk 15 kt kn kp [a,b,cb,d]) j2]).length+th2.length+1≤100000):=zh (by have:=HL.out;have:=HTN14.out;have:=HTN16.out;have:=hlen2;simp;omega)
          clear hlen2
          go_wp2_with (first
           | (at_builtin;refine zzb (j:=zkf (T.mk 15 kt kn kp [a,b,cb,d]) j2) (u:=.slice none 0 0) rfl (.tmp 111) (.tmp 120) rfl IT HBY.out rfl HCP10.out.b.st.o (zEa.nil _ _) HCP10.out.b.st.lt rfl (fun k y hk=>by rw [Addr.add_mid,Nat.zero_add];exact (HN10.out.cell k).trans hk) HLN10.out ?_))
          intro v11 w11 hI hg hbk
          have HCP16:=zh (HCP10.out.app (js:=zQa (zBa n) c (ks.take k)++[zeb (T.mk 15 kt kn kp [a,b,cb,d]) j1]++ths++[zkf (T.mk 15 kt kn kp [a,b,cb,d]) j2]) (by simpa only [List.append_assoc,List.cons_append,List.nil_append] using hI) hg (hbk.imp id fun h=>h.trans (by simp)))
          obtain ⟨o11a,o11n,o11c,rfl⟩:=hI.slice3
          clear hI hg hbk HCP10 HN10
          go_wp2_with fail
          obtain ⟨go2,hgo2⟩:∃ go:Nat,gk=go+0:=⟨gk,rfl⟩
          go_loopg [5,16] On (fun gk o i wj=>zep w HD (zQa (zBa n) c (ks.take k)++[zeb (T.mk 15 kt kn kp [a,b,cb,d]) j1]++ths++[zkf (T.mk 15 kt kn kp [a,b,cb,d]) j2]) (th2) (.slice ta2 On tc2) wr.heap.size [.int .i64 15,.string kt,.int .i64 kn,.int .i64 kp,.slice (some ⟨g2,0,none⟩) 4 uc] wj14.heap.size w9.heap.size gk o i wj)
          case atStart=>exact ⟨0,by omega,by have:=HTN16.out;omega,rfl,by rw [List.take_zero,List.append_nil];exact HCP16.out⟩
          case round =>
           rename World=>wj16
           obtain ⟨j,hj,hgj,rfl,hcp⟩:=hrel
           have HC1:=zh hcp
           obtain ⟨pa,pn,pc,rfl⟩:=hcp.b.st.o.slice3
           have hzj:=hcp.l
           have hTN:=HTN16.out
           clear hcp
           by_cases hlj:j<On
           ·rcases HC1.out.t.form with ⟨_,hnil⟩|⟨gT,capT,heT,hgT,hcapT,hcmT,hgetT⟩
            ·exfalso;rw [hnil] at hTN;simp at hTN;omega
            ·obtain ⟨i,hi⟩:∃ i,(th2)[j]?=some i:=⟨(th2)[j]'(by omega),List.getElem?_eq_getElem _⟩
             obtain ⟨x,hrx,hax⟩:=hgetT j i hi
             have htk:(th2).take (j+1)=(th2).take j++[i]:=by rw [List.take_add_one,hi];rfl
             rw [← hTN] at heT hcapT
             cases heT
             obtain ⟨xa,xn,xc,rfl⟩:=hax.slice
             have HRX:=zh hrx
             have HTK2:=zh htk
             have HA4:=zh ((HC1.out.args hax).alloc (.cells (zea i (.slice xa xn xc)).toArray 106))
             have HC2:=zh (HC1.out.alloc (.cells (zea i (.slice xa xn xc)).toArray 106))
             have HN4:=zh (show Blk _ wj16.heap.size (zea i (.slice xa xn xc)) 106 from Blk.new wj16 _ _)
             have HLN2:Hid ((zQa (zBa n) c (ks.take k)++[zeb (T.mk 15 kt kn kp [a,b,cb,d]) j1]++ths++[zkf (T.mk 15 kt kn kp [a,b,cb,d]) j2]++(th2).take j).length+1≤100000):=zh (by have:=HLN16.out;rw [List.length_append,List.length_take];omega)
             have HJL:=zh (show j+1≤(th2).length∧(th2).length≤j+1+(gk-1)∧gk-1<gk by omega)
             unfold maxLen at hcmT
             clear hi hrx hax htk hgetT hTN
             go_wp2_with (first
              | ((with_reducible refine zra 106 (.tmp 131) ?_);refine wpList_load_mid rfl 106 (.tmp 131) rfl gT (j * 11) rfl ([.int .i64 i.op,.int .i64 i.place,.string i.x,.string i.y,.string i.a.name,.int .i64 i.a.num,.string i.b.name,.int .i64 i.b.num,.slice xa xn xc,.int .i64 i.to,.bool i.has]) _ HRX.out Tryz.underlying106 rfl Tryz.zua ?_)
              | (at_builtin;refine zzb (j:=i) (u:=.slice xa xn xc) rfl (.tmp 128) (.tmp 133) rfl IT HBY.out rfl HC2.out.b.st.o HA4.out HC2.out.b.st.lt rfl (fun k y hk=>by rw [Addr.add_mid,Nat.zero_add];exact (HN4.out.cell k).trans hk) HLN2.out ?_))
             intro v' w' hI hg hbk
             have HC3:=zh (HC2.out.app hI hg (hbk.imp id fun h=>h.trans (by simp)))
             obtain ⟨va,vn,vc,rfl⟩:=hI.slice3
             clear hI hg hbk
             go_wp2_with fail
             go_roundg (gk-1)
             case measure=>exact HJL.out.2.2
             case rel =>
              refine ⟨j+1,HJL.out.1,HJL.out.2.1,by go_num,?_⟩
              rw [HTK2.out]
              simpa only [List.append_assoc,List.cons_append,List.nil_append] using HC3.out
           ·have hE:(th2).take j=th2:=List.take_of_length_le (by omega)
            rw [hE] at HC1
            have HC:=zh HC1.out.b
            clear HC1 hE hTN
            go_wp2_with fail
            go_roundg (go1-1)
            case measure=>rw [hgo1];exact HGO.out.1
            case rel =>
             refine ⟨k+1,HGO.out.2.1,HGO.out.2.2,by go_num,?_⟩
             rw [HTK.out,zQd]
             have e:zQa (zBa n) c (ks.take k)++zQa (zBa n) (c+(zQa (zBa n) c (ks.take k)).length) [(T.mk 15 kt kn kp [a,b,cb,d])]=zQa (zBa n) c (ks.take k)++[zeb (T.mk 15 kt kn kp [a,b,cb,d]) j1]++ths++[zkf (T.mk 15 kt kn kp [a,b,cb,d]) j2]++th2:=by
              have e1:c+(zQa (zBa n) c (ks.take k)).length=at':=by have:=HL.out;have:=HAT.out;omega
              rw [e1,zQa,zQa,List.append_nil]
              have e2:zfe (zBa n) at' (T.mk 15 kt kn kp [a,b,cb,d])=zeb (T.mk 15 kt kn kp [a,b,cb,d]) (at'+(zBa n (at'+1) cb.kids).length+2) :: (zBa n (at'+1) cb.kids++zkf (T.mk 15 kt kn kp [a,b,cb,d]) (at'+(zBa n (at'+1) cb.kids).length+(zBa n (at'+(zBa n (at'+1) cb.kids).length+2) d.kids).length+2) :: zBa n (at'+(zBa n (at'+1) cb.kids).length+2) d.kids):=rfl
              rw [e2]
              have e3:zBa n (at'+1) cb.kids=ths:=by have:=HA1.out;have:=HTHS.out;subst_vars;rfl
              have e4:at'+ths.length+2=j1:=by have:=HTN14.out;have:=HJ1.out;have:=HJP.out;have:=HA1.out;omega
              rw [e3,e4]
              have e5:zBa n j1 d.kids=th2:=HTHS2.out.symm
              rw [e5]
              have e6:at'+ths.length+th2.length+2=j2:=by have:=HJ2.out;have:=HTN16.out;omega
              rw [e6]
              simp
             rw [e]
             simpa only [List.append_assoc,List.cons_append,List.nil_append] using HC.out.st
       ·subst h16
        obtain ⟨a,b,cb,rfl,hcd,hcw⟩:∃ a b cb,kks=[a,b,cb]∧cb.kind=9∧cb.whole:=by
         rcases zHg HWK.out HKK.out with ⟨h,_⟩|⟨_,a,b,cb,he,_,hc9,_,hc⟩|⟨_,h,_⟩
         ·exact absurd (show (16:Int)=15 from h) (by decide)
         ·exact ⟨a,b,cb,he,hc9,hc⟩
         ·exact absurd rfl h
        have hsz:(T.mk 16 kt kn kp [a,b,cb]).size=1+(a.size+(b.size+(cb.size+0))):=by rw [size_mk,zoa,zoa,zoa,zwa]
        have hcz:cb.size=1+sizes cb.kids:=by cases cb;rw [size_mk];rfl
        have HBC:=zh (zOb hcw hcd)
        have HSC:=zh (show sizes cb.kids+2≤(T.mk 16 kt kn kp [a,b,cb]).size by omega)
        clear hcd hcw hsz hcz
        obtain ⟨g2,cap2,he2,hg2,hcap2,hcm2,hget2⟩:∃ g2 cap2,Value.slice ua un uc=.slice (some ⟨g2,0,none⟩) 3 cap2∧g2<w.heap.size∧3≤cap2∧cap2≤maxLen∧∀ k t,[a,b,cb][k]?=some t→∃ u,w.rangeAt g2 (k * 5) (zaa t u)∧TAt 34 w t S u:=by
         rcases HU0.out.form with ⟨_,h⟩|h
         ·cases h
         ·exact h
        cases he2
        unfold maxLen at hcm2
        obtain ⟨xa,hra,hta⟩:=hget2 0 a rfl
        have HRa:=zh (show w.rangeAt g2 0 (zaa a xa) from hra)
        have HTa:=zh hta
        have hxa:=hta.kat.one
        clear hra hta
        obtain ⟨xb,hrb,htb⟩:=hget2 1 b rfl
        have HRb:=zh (show w.rangeAt g2 5 (zaa b xb) from hrb)
        have HTb:=zh htb
        have hxb:=htb.kat.one
        clear hrb htb
        obtain ⟨xcb,hrcb,htcb⟩:=hget2 2 cb rfl
        have HRcb:=zh (show w.rangeAt g2 10 (zaa cb xcb) from hrcb)
        have HTcb:=zh htcb
        have hxcb:=htcb.kat.one
        clear hrcb htcb
        clear hget2
        obtain ⟨a1,ha1,ha1w⟩:∃ a1:Nat,a1=at'+1∧IntKind.i64.wrap ((at':Int)+1)=(a1:Int):=⟨at'+1,rfl,by rw [IntWalk.i64_in _ (by have:=HAT.out;have:=HC.out;have:=HLC.out;have:=HSK.out;have:=HS5.out;omega)];omega⟩
        have HA1:=zh ha1
        clear ha1
        have HRa1:=zh (zpa HRa.out HS1.out.st.b hg2)
        go_wp2_with (first
         | ((with_reducible refine zra 34 (.tmp 27) ?_);refine wpList_load_mid rfl 34 (.tmp 27) rfl g (k * 5) rfl ([.int .i64 16,.string kt,.int .i64 kn,.int .i64 kp,.slice (some ⟨g2,0,none⟩) 3 uc]) _ HR'.out Tryz.underlying34 rfl Tryz.zGa ?_)
         | ((with_reducible refine zla 34 (.tmp 7) ?_);refine zga rfl 34 (.tmp 7) (.tmp 28) rfl ([.int .i64 16,.string kt,.int .i64 kn,.int .i64 kp,.slice (some ⟨g2,0,none⟩) 3 uc]) (old:=zba) rfl rfl Tryz.zGa rfl (zda (T.mk 16 kt kn kp [a,b,cb]) _ rfl) ?_)
         | ((with_reducible refine zra 34 (.tmp 49) ?_);refine wpList_load_mid rfl 34 (.tmp 49) rfl g2 (0) rfl (zaa a xa) _ HRa1.out Tryz.underlying34 rfl Tryz.zGa ?_))
        refine (zuf _ a xa).mono ?_
        rintro e w2 ⟨rfl,hb2⟩
        obtain ⟨W3,hW3,HS3,HTA3⟩:∃ W,w2.alloc (.cells [.string a.text,.int .i64 a.num].toArray 103)=W∧Hid (RBs w HD (zQa (zBa n) c (ks.take k)) (.slice oa L oc) wr.heap.size [.int .i64 16,.string kt,.int .i64 kn,.int .i64 kp,.slice (some ⟨g2,0,none⟩) 3 uc] W)∧Hid (Blk W w2.heap.size [.string a.text,.int .i64 a.num] 103) :=
         ⟨_,rfl,zh ((HS1.out.call hb2).alloc _),zh (Blk.new w2 _ _)⟩
        have HRb3:=zh (zpa HRb.out HS3.out.st.b hg2)
        have s43:W3.cell? ⟨wr.heap.size,4,none⟩=some (.slice (some ⟨g2,0,none⟩) 3 uc):=HS3.out.s.cell 4
        clear hb2
        go_wp2_with (first
         | ((with_reducible refine zra 34 (.tmp 54) ?_);refine wpList_load_mid rfl 34 (.tmp 54) rfl g2 (5) rfl (zaa b xb) _ HRb3.out Tryz.underlying34 rfl Tryz.zGa ?_))
        refine (zuf _ b xb).mono ?_
        rintro e w4 ⟨rfl,hb4⟩
        obtain ⟨W5,hW5,HS5',HTA5,HTB5⟩:∃ W,w4.alloc (.cells [.string b.text,.int .i64 b.num].toArray 103)=W∧Hid (RBs w HD (zQa (zBa n) c (ks.take k)) (.slice oa L oc) wr.heap.size [.int .i64 16,.string kt,.int .i64 kn,.int .i64 kp,.slice (some ⟨g2,0,none⟩) 3 uc] W)∧Hid (Blk W w2.heap.size [.string a.text,.int .i64 a.num] 103)∧Hid (Blk W w4.heap.size [.string b.text,.int .i64 b.num] 103) :=
         ⟨_,rfl,zh ((HS3.out.call hb4).alloc _),zh ((HTA3.out.stays hb4).alloc _),zh (Blk.new w4 _ _)⟩
        have HRc5:=zh (zpa HRcb.out HS5'.out.st.b hg2)
        have HTc5:=zh (HTcb.out.below HS5'.out.st.b)
        have s45:W5.cell? ⟨wr.heap.size,4,none⟩=some (.slice (some ⟨g2,0,none⟩) 3 uc):=HS5'.out.s.cell 4
        clear hb4
        go_wp2_with (first
         | ((with_reducible refine zra 34 (.tmp 59) ?_);refine wpList_load_mid rfl 34 (.tmp 59) rfl g2 (10) rfl (zaa cb xcb) _ HRc5.out Tryz.underlying34 rfl Tryz.zGa ?_))
        refine (HIH.out W5 cb S xcb a1 HTc5.out.kat HBC.out.1 HBC.out.2 (by have:=HSC.out;have:=HSK.out;have:=HSZ.out;omega) (by have:=HSC.out;have:=HSK.out;have:=HS5.out;omega) (by have:=HSC.out;have:=HLC.out;have:=HC.out;have:=HAT.out;have:=HA1.out;omega)).mono ?_
        rintro e w6 ⟨tv,rfl,hth,hb6⟩
        obtain ⟨ta,tc,rfl⟩:=hth.slice
        obtain ⟨ths,hths⟩:∃ ths,ths=zBa n a1 cb.kids:=⟨_,rfl⟩
        rw [← hths] at hth ⊢
        obtain ⟨Tn,hTn⟩:∃ Tn,Tn=ths.length:=⟨_,rfl⟩
        rw [← hTn] at hth ⊢
        have HTHS:=zh hths
        have hTc:Tn≤2 * sizes cb.kids:=by
         have h1:=zmb n cb.kids (by have:=HSC.out;have:=HSK.out;have:=HSZ.out;omega) HBC.out.1 HBC.out.2 a1
         have h2:=count_le.counts_le cb.kids
         rw [hTn,hths]
         omega
        have HTC:=zh hTc
        have HTN14:=zh hTn
        have hlen:c+L+1+Tn+2≤80000:=by have:=HSC.out;have:=HLC.out;have:=HC.out;omega
        obtain ⟨jp,hjp,hjpw⟩:∃ jp:Nat,jp=a1+Tn∧IntKind.i64.wrap ((a1:Int)+(Tn:Int))=(jp:Int):=⟨a1+Tn,rfl,by rw [IntWalk.i64_in _ (by have:=HAT.out;have:=HA1.out;omega)];omega⟩
        obtain ⟨j1,hj1,hj1w⟩:∃ j1:Nat,j1=jp+1∧IntKind.i64.wrap ((jp:Int)+1)=(j1:Int):=⟨jp+1,rfl,by rw [IntWalk.i64_in _ (by have:=HAT.out;have:=HA1.out;omega)];omega⟩
        have HJP:=zh hjp
        have HJ1:=zh hj1
        have HS6:=zh (HS5'.out.call hb6)
        have HTA6:=zh (HTA5.out.stays hb6)
        have HTB6:=zh (HTB5.out.stays hb6)
        have s36:w6.cell? ⟨wr.heap.size,3,none⟩=some (.int .i64 kp):=HS6.out.s.cell 3
        have s16:w6.cell? ⟨wr.heap.size,1,none⟩=some (.string kt):=HS6.out.s.cell 1
        have HTH6:=zh hth
        have hz6:=hb6.size
        clear hth hb6 hths hTn hTc hjp hj1
        have HS7:=zh (HS6.out.alloc (.cells (zea (zeb (T.mk 16 kt kn kp [a,b,cb]) j1) (.slice none 0 0)).toArray 106))
        have HN7:=zh (show Blk _ w6.heap.size (zea (zeb (T.mk 16 kt kn kp [a,b,cb]) j1) (.slice none 0 0)) 106 from Blk.new w6 _ _)
        have HCP7:=zh (RCp.start HS5'.out HTH6.out HS7.out ((Below.refl _ _).alloc (Nat.le_refl _) _))
        have HLN7:Hid ((zQa (zBa n) c (ks.take k)).length+1≤100000):=zh (by have:=HL.out;have:=hlen;omega)
        have HLN14:Hid ((zQa (zBa n) c (ks.take k)++[zeb (T.mk 16 kt kn kp [a,b,cb]) j1]).length+ths.length+1≤100000):=zh (by have:=HL.out;have:=HTN14.out;have:=hlen;simp;omega)
        have HHL:=zh hlen
        clear hlen
        go_wp2_with (first
         | ((with_reducible refine zra 103 (.tmp 10) ?_);refine zja rfl 103 (.tmp 10) rfl w2.heap.size ([.string a.text,.int .i64 a.num]) rfl HTA6.out Tryz.underlying103 rfl Tryz.zlb ?_)
         | ((with_reducible refine zra 103 (.tmp 11) ?_);refine zja rfl 103 (.tmp 11) rfl w4.heap.size ([.string b.text,.int .i64 b.num]) rfl HTB6.out Tryz.underlying103 rfl Tryz.zlb ?_)
         | (at_builtin;refine zzb (j:=zeb (T.mk 16 kt kn kp [a,b,cb]) j1) (u:=.slice none 0 0) rfl (.tmp 69) (.tmp 79) rfl IT HBY.out rfl HCP7.out.b.st.o (zEa.nil _ _) HCP7.out.b.st.lt rfl (fun k y hk=>by rw [Addr.add_mid,Nat.zero_add];exact (HN7.out.cell k).trans hk) HLN7.out ?_))
        intro v8 w8 hI hg hbk
        have HCP14:=zh (HCP7.out.app hI hg (hbk.imp id fun h=>h.trans (by simp)))
        obtain ⟨o8a,o8n,o8c,rfl⟩:=hI.slice3
        clear hI hg hbk HCP7 HN7
        go_wp2_with fail
        obtain ⟨go1,hgo1⟩:∃ go:Nat,gk=go+0:=⟨gk,rfl⟩
        have HGO:=zh (show go1-1<go1∧k+1≤ks.length∧ks.length≤k+1+(go1-1) by have:=HGO0.out;omega)
        go_loopg [5,14] Tn (fun gk o i wj=>zep w HD (zQa (zBa n) c (ks.take k)++[zeb (T.mk 16 kt kn kp [a,b,cb]) j1]) (ths) (.slice ta Tn tc) wr.heap.size [.int .i64 16,.string kt,.int .i64 kn,.int .i64 kp,.slice (some ⟨g2,0,none⟩) 3 uc] W5.heap.size w6.heap.size gk o i wj)
        case atStart=>exact ⟨0,by omega,by have:=HTN14.out;omega,rfl,by rw [List.take_zero,List.append_nil];exact HCP14.out⟩
        case round =>
         rename World=>wj14
         obtain ⟨j,hj,hgj,rfl,hcp⟩:=hrel
         have HC1:=zh hcp
         obtain ⟨pa,pn,pc,rfl⟩:=hcp.b.st.o.slice3
         have hzj:=hcp.l
         have hTN:=HTN14.out
         clear hcp
         by_cases hlj:j<Tn
         ·rcases HC1.out.t.form with ⟨_,hnil⟩|⟨gT,capT,heT,hgT,hcapT,hcmT,hgetT⟩
          ·exfalso;rw [hnil] at hTN;simp at hTN;omega
          ·obtain ⟨i,hi⟩:∃ i,(ths)[j]?=some i:=⟨(ths)[j]'(by omega),List.getElem?_eq_getElem _⟩
           obtain ⟨x,hrx,hax⟩:=hgetT j i hi
           have htk:(ths).take (j+1)=(ths).take j++[i]:=by rw [List.take_add_one,hi];rfl
           rw [← hTN] at heT hcapT
           cases heT
           obtain ⟨xa,xn,xc,rfl⟩:=hax.slice
           have HRX:=zh hrx
           have HTK2:=zh htk
           have HA4:=zh ((HC1.out.args hax).alloc (.cells (zea i (.slice xa xn xc)).toArray 106))
           have HC2:=zh (HC1.out.alloc (.cells (zea i (.slice xa xn xc)).toArray 106))
           have HN4:=zh (show Blk _ wj14.heap.size (zea i (.slice xa xn xc)) 106 from Blk.new wj14 _ _)
           have HLN2:Hid ((zQa (zBa n) c (ks.take k)++[zeb (T.mk 16 kt kn kp [a,b,cb]) j1]++(ths).take j).length+1≤100000):=zh (by have:=HLN14.out;rw [List.length_append,List.length_take];omega)
           have HJL:=zh (show j+1≤(ths).length∧(ths).length≤j+1+(gk-1)∧gk-1<gk by omega)
           unfold maxLen at hcmT
           clear hi hrx hax htk hgetT hTN
           go_wp2_with (first
            | ((with_reducible refine zra 106 (.tmp 90) ?_);refine wpList_load_mid rfl 106 (.tmp 90) rfl gT (j * 11) rfl ([.int .i64 i.op,.int .i64 i.place,.string i.x,.string i.y,.string i.a.name,.int .i64 i.a.num,.string i.b.name,.int .i64 i.b.num,.slice xa xn xc,.int .i64 i.to,.bool i.has]) _ HRX.out Tryz.underlying106 rfl Tryz.zua ?_)
            | (at_builtin;refine zzb (j:=i) (u:=.slice xa xn xc) rfl (.tmp 87) (.tmp 92) rfl IT HBY.out rfl HC2.out.b.st.o HA4.out HC2.out.b.st.lt rfl (fun k y hk=>by rw [Addr.add_mid,Nat.zero_add];exact (HN4.out.cell k).trans hk) HLN2.out ?_))
           intro v' w' hI hg hbk
           have HC3:=zh (HC2.out.app hI hg (hbk.imp id fun h=>h.trans (by simp)))
           obtain ⟨va,vn,vc,rfl⟩:=hI.slice3
           clear hI hg hbk
           go_wp2_with fail
           go_roundg (gk-1)
           case measure=>exact HJL.out.2.2
           case rel =>
            refine ⟨j+1,HJL.out.1,HJL.out.2.1,by go_num,?_⟩
            rw [HTK2.out]
            simpa only [List.append_assoc,List.cons_append,List.nil_append] using HC3.out
         ·have hE:(ths).take j=ths:=List.take_of_length_le (by omega)
          rw [hE] at HC1
          have HC:=zh HC1.out.b
          clear HC1 hE hTN
          have s0w:wj14.cell? ⟨wr.heap.size,0,none⟩=some (.int .i64 16):=HC.out.s.cell 0
          have s3w:wj14.cell? ⟨wr.heap.size,3,none⟩=some (.int .i64 kp):=HC.out.s.cell 3
          have s4w:wj14.cell? ⟨wr.heap.size,4,none⟩=some (.slice (some ⟨g2,0,none⟩) 3 uc):=HC.out.s.cell 4
          have HC9:=zh (HC.out.alloc (.cells (zea (zkf (T.mk 16 kt kn kp [a,b,cb]) at') (.slice none 0 0)).toArray 106))
          have HN9:=zh (show Blk _ wj14.heap.size (zea (zkf (T.mk 16 kt kn kp [a,b,cb]) at') (.slice none 0 0)) 106 from Blk.new wj14 _ _)
          have HLN9:Hid ((zQa (zBa n) c (ks.take k)++[zeb (T.mk 16 kt kn kp [a,b,cb]) j1]++ths).length+1≤100000):=zh (by have:=HLN14.out;rw [List.length_append];omega)
          go_wp2_with (first
           | (at_builtin;refine zzb (j:=zkf (T.mk 16 kt kn kp [a,b,cb]) at') (u:=.slice none 0 0) rfl (.tmp 97) (.tmp 102) rfl IT HBY.out rfl HC9.out.st.o (zEa.nil _ _) HC9.out.st.lt rfl (fun k y hk=>by rw [Addr.add_mid,Nat.zero_add];exact (HN9.out.cell k).trans hk) HLN9.out ?_))
          intro v9 w9 hI hg hbk
          have HC10:=zh (HC9.out.app hI hg (hbk.imp id fun h=>h.trans (by simp)))
          obtain ⟨o9a,o9n,o9c,rfl⟩:=hI.slice3
          clear hI hg hbk
          go_wp2_with fail
          go_roundg (go1-1)
          case measure=>rw [hgo1];exact HGO.out.1
          case rel =>
           refine ⟨k+1,HGO.out.2.1,HGO.out.2.2,by go_num,?_⟩
           rw [HTK.out,zQd]
           have e:zQa (zBa n) c (ks.take k)++zQa (zBa n) (c+(zQa (zBa n) c (ks.take k)).length) [(T.mk 16 kt kn kp [a,b,cb])]=zQa (zBa n) c (ks.take k)++[zeb (T.mk 16 kt kn kp [a,b,cb]) j1]++ths++[zkf (T.mk 16 kt kn kp [a,b,cb]) at']:=by
            have e1:c+(zQa (zBa n) c (ks.take k)).length=at':=by have:=HL.out;have:=HAT.out;omega
            rw [e1,zQa,zQa,List.append_nil]
            have e2:zfe (zBa n) at' (T.mk 16 kt kn kp [a,b,cb])=zeb (T.mk 16 kt kn kp [a,b,cb]) (at'+(zBa n (at'+1) cb.kids).length+2) :: (zBa n (at'+1) cb.kids++[zkf (T.mk 16 kt kn kp [a,b,cb]) at']):=rfl
            rw [e2]
            have e3:zBa n (at'+1) cb.kids=ths:=by have:=HA1.out;have:=HTHS.out;subst_vars;rfl
            have e4:at'+ths.length+2=j1:=by have:=HTN14.out;have:=HJ1.out;have:=HJP.out;have:=HA1.out;omega
            rw [e3,e4]
            simp
           rw [e]
           simpa only [List.append_assoc,List.cons_append,List.nil_append] using HC10.out.st
     ·have hE:ks.take k=ks:=List.take_of_length_le (by omega)
      rw [hE] at HB
      go_wp2_with fail
      go_ret
      exact ⟨_,rfl,HB.out.o.mono (fun b hb _=>Nat.le_of_lt hb),HB.out.b⟩
theorem zXn {w:World} {kd:Int} {tx:ByteArray} {nm:Int} {p:Nat} {S:Nat→Prop} {kv:Value} (c:Nat) (hk:KAt 34 w [] S kv) :
  Calls Tryz.prog 46 #[zma (.mk kd tx nm p []) kv,.int .i64 c] w fun e w'=>∃ v,e=.returned v∧zSa w' [] (fun b=>w.heap.size≤b) v∧Below w.heap.size w w':=by
 rcases hk.form with ⟨rfl,_⟩|⟨g,cap,rfl,hg,hcap,hcm,_⟩
 ·have e0:([]:List T).length=0:=rfl
  skip
  clear hk e0
  unfold zma
  simp only [zRa,zXa,zBb,zJa]
  go_enter Tryz.func46,Tryz.ntmps46
  go_wp2_with fail
  refine wp_loop_rounds 1 ?_
  rw [rounds_succ]
  go_wp2_with fail
  go_ret
  exact ⟨_,rfl,zSa.nil _ _,(Below.refl _ _).alloc (Nat.le_refl _) _⟩
 ·have e0:([]:List T).length=0:=rfl
  rw [e0]
  clear hk e0
  unfold zma
  simp only [zRa,zXa,zBb,zJa]
  go_enter Tryz.func46,Tryz.ntmps46
  go_wp2_with fail
  refine wp_loop_rounds 1 ?_
  rw [rounds_succ]
  go_wp2_with fail
  go_ret
  exact ⟨_,rfl,zSa.nil _ _,(Below.refl _ _).alloc (Nat.le_refl _) _⟩
theorem zFj:∀ n:Nat,zkk n
 | 0=>by
  intro w t S kv c hk _ _ hs _ _
  cases t with
  | mk kd tx nm p ks =>
   have hs':sizes ks≤0:=hs
   have h:ks=[]:=by
    cases ks with
    | nil=>rfl
    | cons a l=>rw [zoa] at hs';cases a;rw [size_mk] at hs';omega
   subst h
   exact zXn c hk
 | n+1=>zqm (zFj n)
end Go.Proofs.YthdbmgijpelecaaGreatDoor
