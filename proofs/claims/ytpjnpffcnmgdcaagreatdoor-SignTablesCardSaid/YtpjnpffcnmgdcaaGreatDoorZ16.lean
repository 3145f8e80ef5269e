/- The contract of lychgateref02.args. The document's parser with a local node whose kids grow: what is known while such a function runs (RLoc). The contract of lychgateref02.typ. number, name, more and is of the document's parser, each in ONE contract for every state. -/
import Derived.Test.YtpjnpffcnmgdcaaGreatDoorZ15
namespace Go.Proofs.YtpjnpffcnmgdcaaGreatDoor
set_option maxRecDepth 100000
set_option maxHeartbeats 4000000
section
open Go.RowKit
theorem zWr:zOa (bs [40])=true:=by kernel_rfl
theorem znr:zOa (bs [41])=true:=by kernel_rfl
theorem zUr:zOa (bs [44])=true:=by kernel_rfl
theorem RSt.grown {E:Env} {w w':World} {l:List Tok} {d:Nat} {f:Int} {q:Nat} {row:Option Nat} (h:RSt E w l d f q) (hg:w.grownBy w' row) (hr:∀ k,row=some k→E.pb≠k∧E.tb≠k):RSt E w' l d f q :=
 h.same hg.size (hg.block _ h.plt (fun e=>(hr _ e.symm).1 rfl)) (hg.block _ h.tlt (fun e=>(hr _ e.symm).2 rfl))
theorem Kp.grow {pb:Nat} {a w w':World} {row:Option Nat} (h:Kp pb a w) (hg:w.grownBy w' row) (hr:∀ k,row=some k→a.heap.size≤k):Kp pb a w' :=
 ⟨hg.os.trans h.os,hg.tape.trans h.tape,hg.output.trans h.output,Nat.le_trans h.size hg.size,fun k hk hn=>(hg.block k (Nat.lt_of_lt_of_le hk h.size) (fun e=>by have:=hr k e.symm;omega)).trans (h.block k hk hn)⟩
theorem RSt.putRow {E:Env} {w:World} {l:List Tok} {d:Nat} {f:Int} {q:Nat} (h:RSt E w l d f q) (g:Nat) (cs:Array Value) (h1:E.pb≠g) (h2:E.tb≠g):RSt E (w.setRow g cs) l d f q :=
 h.same (by simp [World.setRow]) (setRow_other _ _ _ _ h1) (setRow_other _ _ _ _ h2)
theorem size_putRow (w:World) (g:Nat) (cs:Array Value):(w.setRow g cs).heap.size=w.heap.size:=by simp [World.setRow]
theorem zir (w:World) (g:Nat) (cs:Array Value) (e:TypeId) (t:T) (v:Value):∀ j u,(zKa [t] [v])[j]?=some u→((w.setRow g cs).alloc (.cells (zaa t v).toArray e)).cell? ((⟨w.heap.size,0,none⟩:Addr).add j)=some u:=by
 have h:=zke (w.setRow g cs) e t v
 rw [size_putRow] at h
 exact h
theorem zhg {item:List Tok→R T} {n:Nat} {l:List Tok} (hn:0<n) (h:isT (hdT l) (bs [44])=false):zEd item n l=.ok ([],l):=by
 obtain ⟨m,rfl⟩:∃ m,n=m+1:=⟨n-1,by omega⟩
 unfold zEd
 rw [h]
 rfl
theorem zoj {item:List Tok→R T} {n:Nat} {l:List Tok} (h:isT (hdT l) (bs [44])=true):zEd item (n+1) l=bd (item l.tail) fun a l=>bd (zEd item n l) fun xs l=>.ok (a :: xs,l):=by
 rw [zEd,h]
 rfl
def RList (E:Env) (w:World) (d:Nat) (l:List Tok) (f:Int) (q:Nat) (r:R (List T)) (e:Ending) (w':World):Prop :=
 ∃ xs v lf f' q',e=.returned v∧KAt 36 w' xs (fun b=>w.heap.size≤b) v∧xs.length≤40000∧RSt E w' lf d f' q'∧Kp E.pb w w'∧zCa l f q r xs lf f' q'
structure ArgSt (E:Env) (w:World) (d:Nat) (l2:List Tok) (f2:Int) (q2:Nat) (item:List Tok→R T) (ga g:Nat) (v:Value) (wr:World) (xs:List T) (lc:List Tok) (fc:Int) (qc n:Nat):Prop where
 st:RSt E wr lc d fc qc
 kp:Kp E.pb w wr
 kids:KAt 36 wr xs (fun b=>w.heap.size≤b∧b≠ga) v
 blk:∃ old,Blk wr ga old 36∧old.length=5
 cnt:xs.length+g≤16400
 good:(fc == 0)=true→lc.length+1≤g∧lc.length≤n
 cont:∀ ys lf f' q',zCa lc fc qc (zEd item n lc) ys lf f' q'→zCa l2 f2 q2 (zRd item l2) (xs++ys) lf f' q'
def ArgRel (E:Env) (w:World) (d:Nat) (l2:List Tok) (f2:Int) (q2:Nat) (item:List Tok→R T) (ga:Nat) (g:Nat) (v:Value) (wr:World):Prop:=∃ xs lc fc qc n,ArgSt E w d l2 f2 q2 item ga g v wr xs lc fc qc n
theorem zri {E:Env} {w:World} {l:List Tok} {d:Nat} {f:Int} {q:Nat} (h:RSt E w l d f q) :
  Calls Tryz.prog 96 #[.pointer (some ⟨E.pb,0,none⟩)] w (RList E w d l f q (zfb zXa l)):=by
 have H:=zh h
 have hplt:=h.plt
 have htlt:=h.tlt
 have hlen:=h.len
 have hgap:=h.ne
 clear h
 obtain ⟨i0,z0,I⟩:=Tryz.zPc
 have HPE:Hid (zfb zXa l=bd (zsa [bs [40]] l) fun _ l=>bif isT (hdT l) (bs [41]) then .ok ([],l.tail) else bd (zRd zXa l) fun xs l=>bd (zsa [bs [41]] l) fun _ l=>.ok (xs,l)):=zh rfl
 go_enter Tryz.func96,Tryz.ntmps96
 go_wp2_with fail
 refine (zRa H.out (bs [40]) zWr (by decide)).mono ?_
 rintro e w1 ⟨l1,f1,q1,rfl,hs1,hp1,tk1,hsee1⟩
 have HK1:=zh ((Kp.refl E.pb w).trans hp1)
 have H1:=zh hs1
 have HS1:=zh hsee1
 clear hs1 hp1 hsee1
 go_wp2_with fail
 refine (zab H1.out (bs [41]) znr (by decide)).mono ?_
 rintro e w2 ⟨b2,l2,rfl,hs2,hp2,hc2⟩
 have HK2:=zh (HK1.out.trans hp2)
 have H2:=zh hs2
 have HC2:=zh hc2
 clear hs2 hp2 hc2
 rcases HC2.out with ⟨rfl,hf2,hi2,rfl⟩|⟨rfl,hx2,rfl⟩
 ·go_wp2
  go_ret
  exact ⟨[],_,_,_,_,rfl,KAt.nil _ _ _,by simp,H2.out,HK2.out,by rw [HPE.out];exact HS1.out.andThen (zCa.yes hi2 hf2 (zCa.done _ _ _ _))⟩
 ·have c3:w2.cell? ⟨E.pb,3,none⟩=some (.int .i64 f1):=H2.out.blk.cell 3
  have hw2:w.heap.size≤w2.heap.size:=HK2.out.size
  cases hf1:(f1 == 0) with
  | false =>
   have hf1n:(f1 != 0)=true:=by simp only [bne,hf1];rfl
   go_wp2
   go_ret
   exact ⟨[],_,_,_,_,rfl,KAt.nil _ _ _,by simp,H2.out,HK2.out,by rw [HPE.out];exact HS1.out.andThen (.inr ⟨hf1,rfl,rfl,rfl⟩)⟩
  | true =>
   have hf1n:(f1 != 0)=false:=by simp only [bne,hf1];rfl
   go_wp2_with fail
   refine (zGc H2.out).mono ?_
   rintro e w3 ⟨t3,v3,l3,f3,q3,rfl,hk3,hn3,hs3,hp3,hsee3⟩
   have HV3:=zh hk3
   have H3:=zh hs3
   have HK3:=zh (HK2.out.trans hp3)
   have HS3:=zh hsee3
   have hw3:w2.heap.size≤w3.heap.size:=hp3.size
   have hl3:=hs3.le
   clear hk3 hs3 hp3 hsee3 c3
   unfold zna
   go_wp2_with (first|((with_reducible refine zla 36 (.tmp 4) ?_);refine zga rfl 36 (.tmp 4) (.tmp 20) rfl (zaa t3 v3) (old:=zba) rfl rfl Tryz.zha rfl (zca _ _ HV3.out.one) ?_)|((with_reducible refine zqa 36 (.tmp 4) ?_);refine zfa rfl 36 (.tmp 4) rfl w3.heap.size t3 v3 rfl (Blk.new w3 _ _) Tryz.underlying36 rfl Tryz.zha ?_))
   have hk1:=KAt.zrk (e:=36) (w:=w3.alloc (.cells (zaa t3 v3).toArray 36)) (t:=t3) (S:=fun b=>w.heap.size≤b∧b≠w3.heap.size) (TAt.zHa ((HV3.out.mono (fun b hb hl=>by omega)).alloc _)) (by simp only [World.size_alloc];omega)
   rw [show (w3.alloc (.cells (zaa t3 v3).toArray 36)).heap.size=w3.heap.size+1 by simp] at hk1
   have HX0:=zh hk1
   clear hk1
   go_loopg [5] (l3.length+1) (fun g v wr=>ArgRel E w d l2 f1 q1 zXa w3.heap.size g v wr)
   case atStart =>
    exact ⟨[t3],l3,f3,q3,l3.length,(H3.out.alloc _).alloc _,(HK3.out.alloc _).alloc _,HX0.out,⟨zaa t3 v3,(Blk.new w3 _ _).alloc _,rfl⟩,by simp;omega,fun _=>⟨Nat.le_refl _,Nat.le_refl _⟩,fun ys lf f' q' hy=>HS3.out.andThen (hy.andThen (zCa.done _ _ _ _))⟩
   case round =>
    obtain ⟨xs,lc,fc,qc,n,hst⟩:=hrel
    have HA:=zh hst
    obtain ⟨old,hblk,hol⟩:=hst.blk
    have HBA:=zh hblk
    have hz:=hblk.lt
    have hwz:=hst.kp.size
    clear hst hblk HX0
    go_wp2_with fail
    refine (zab HA.out.st (bs [44]) zUr (by decide)).mono ?_
    rintro e w5 ⟨b5,l5,rfl,hs5,hp5,hc5⟩
    have H5:=zh hs5
    have HP5:=zh hp5
    have HB5:=zh (HBA.out.kp hp5 (by omega))
    have HX5:=zh (HA.out.kids.kp hp5 (fun b hb=>by omega))
    have HK5:=zh (HA.out.kp.trans hp5)
    have hz5:=HB5.out.lt
    have hp5z:=hp5.size
    rcases hc5 with ⟨rfl,hf5,hi5,rfl⟩|⟨rfl,hx5,rfl⟩
    ·obtain ⟨hg1,hg2⟩:=HA.out.good hf5
     have hpos:=HA.out.st.head.1
     obtain ⟨m,rfl⟩:∃ m,n=m+1:=⟨n-1,by omega⟩
     have hcnt:=HA.out.cnt
     have hbound:lc.tail.length+1≤lc.length:=by rw [List.length_tail];omega
     clear hs5 hp5
     go_wp2_with fail
     refine (zGc H5.out).mono ?_
     rintro e w6 ⟨t6,v6,l6,f6,q6,rfl,hk6,hn6,hs6,hp6,hsee6⟩
     have HV6:=zh hk6
     have H6:=zh hs6
     have HK6:=zh (HK5.out.trans hp6)
     have HB6:=zh (HB5.out.kp hp6 (by omega))
     have HX6:=zh (HX5.out.kp hp6 (fun b hb=>by omega))
     have HS6:=zh hsee6
     have hz6:=HB6.out.lt
     have hp6z:=hp6.size
     have hob:∀ g,u5.ownBlock=some g→g<w5.heap.size∧w.heap.size≤g∧g≠w3.heap.size:=fun g hg=>by
      obtain ⟨_,ho,hS,_⟩:=HX5.out
      have h2:=hS g hg
      exact ⟨(ho.lt g hg).2,h2.1,h2.2⟩
     have HOB:=zh hob
     clear hk6 hs6 hp6 hsee6 hob
     unfold zna
     go_wp2_with (first
      | ((with_reducible refine zla 36 (.tmp 4) ?_);refine zda rfl 36 (.tmp 4) (.tmp 28) rfl w3.heap.size (zaa t6 v6) rfl rfl HB6.out Tryz.zha (by rw [hol];rfl) (zca _ _ HV6.out.one) ?_)
      | ((with_reducible refine zqa 36 (.tmp 4) ?_);refine zfa rfl 36 (.tmp 4) rfl w3.heap.size t6 v6 rfl (HB6.out.zra _) Tryz.underlying36 rfl Tryz.zha ?_)
      | (at_builtin;refine zxa rfl (.tmp 29) (.tmp 31) rfl I (ks:=xs) (ts:=[t6]) (S:=fun b=>w.heap.size≤b∧b≠w3.heap.size) rfl ((HX6.out.setRow _ _ (fun b hb=>by omega)).alloc _) (us:=[v6]) (zGb.single ?c1) ?c2 rfl rfl (by simp) (zir _ _ _ _ t6 v6) ?c3 ?_))
     case c1 =>
      refine TAt.zHa (((HV6.out.mono (S':=fun b=>(w.heap.size≤b∧b≠w3.heap.size)∧u5.ownBlock≠some b) (fun b hb hl=>⟨⟨by omega,by omega⟩,fun hbk=>?_⟩)).setRow _ _ (fun b hb=>hb.1.2)).alloc _)
      have:=(HOB.out b hbk).1
      omega
     case c2=>simp only [World.size_alloc,size_putRow];omega
     case c3=>simp;omega
     intro v7 w7 hK7 hg7 hb7
     obtain ⟨sa,sn,sc,rfl⟩:=hK7.slice
     have H7:=zh (((H6.out.putRow w3.heap.size (zaa t6 v6).toArray (by omega) (by omega)).alloc _).grown hg7 (fun k hk=>by have:=HOB.out k hk;omega))
     have HK7:=zh (((HK6.out.setRow (g:=w3.heap.size) (by omega) (zaa t6 v6).toArray).alloc _).grow hg7 (fun k hk=>(HOB.out k hk).2.1))
     have HB7:=zh (((HB6.out.zra (zaa t6 v6)).alloc _).grown hg7 (fun e=>(HOB.out _ e.symm).2.2 rfl))
     have HX7:=zh hK7
     clear hK7 hg7 hb7
     go_wp2
     go_roundg (gk-1)
     case measure=>omega
     case rel =>
      refine ⟨xs++[t6],l6,f6,q6,m,H7.out,HK7.out,HX7.out,⟨_,HB7.out,rfl⟩,by simp;omega,fun hf6=>?_,fun ys lf f' q' hy=>?_⟩
      ·have:=HS6.out.len (beq_iff_eq.1 hf6)
       omega
      ·have:=HA.out.cont (t6 :: ys) lf f' q' (zCa.turn (fun _=>zoj hi5) (zCa.behind hf5 (HS6.out.andThen (hy.andThen (zCa.done _ _ _ _)))))
       rw [List.append_assoc]
       exact this
    ·have HEND:Hid (zCa l2 f1 q1 (zRd zXa l2) xs l5 fc qc):=zh (by
      have:=HA.out.cont [] l5 fc qc (zCa.turn (fun hf=>zhg (by have:=(HA.out.good hf).2;have:=HA.out.st.head.1;omega) (zxd hx5 hf)) (zCa.done _ _ _ _))
      rwa [List.append_nil] at this)
     have hcnt:=HA.out.cnt
     clear hs5 hp5
     go_wp2_with fail
     refine (zRa H5.out (bs [41]) znr (by decide)).mono ?_
     rintro e w6 ⟨l6,f6,q6,rfl,hs6,hp6,tk6,hsee6⟩
     have H6:=zh hs6
     have HK6:=zh (HK5.out.trans hp6)
     have HX6:=zh (HX5.out.kp hp6 (fun b hb=>by omega))
     have HS6:=zh hsee6
     clear hs6 hp6 hsee6
     go_wp2
     go_ret
     exact ⟨xs,_,_,_,_,rfl,HX6.out.mono (fun b hb _=>hb.1),by omega,H6.out,HK6.out,by rw [HPE.out];exact HS1.out.andThen (zCa.no hx2 (HEND.out.andThen (HS6.out.andThen (zCa.done _ _ _ _))))⟩
end
section
open Go.RowKit
structure zFb (E:Env) (w W:World) (d:Nat) (l:List Tok) (f:Int) (q:Nat) (g:Nat) (t:T) (v:Value):Prop where
 st:RSt E W l d f q
 kp:Kp E.pb w W
 res:∃ old,Blk W w.heap.size old 36∧old.length=5
 blk:Blk W g (zaa t v) 36
 kids:KAt 36 W t.kids (fun b=>w.heap.size<b∧b≠g) v
 gt:w.heap.size<g
 plt:E.pb<w.heap.size
 tlt:E.tb<w.heap.size
section
variable {E:Env} {w W W':World} {d:Nat} {l l':List Tok} {f f':Int} {q q' g:Nat} {t:T} {v:Value}
theorem zFb.lt (h:zFb E w W d l f q g t v):g<W.heap.size:=h.blk.lt
theorem zFb.call (h:zFb E w W d l f q g t v) (hp:Kp E.pb W W') (hs:RSt E W' l' d f' q'):zFb E w W' d l' f' q' g t v:=by
 have h1:=h.gt
 have h2:=h.plt
 obtain ⟨old,ho,hl⟩:=h.res
 exact ⟨hs,h.kp.trans hp,⟨old,ho.kp hp (by omega),hl⟩,h.blk.kp hp (by omega),h.kids.kp hp (fun b hb=>by omega),h.gt,h.plt,h.tlt⟩
theorem zFb.alloc (h:zFb E w W d l f q g t v) (o:Obj):zFb E w (W.alloc o) d l f q g t v:=by
 obtain ⟨old,ho,hl⟩:=h.res
 exact ⟨h.st.alloc o,h.kp.alloc o,⟨old,ho.alloc o,hl⟩,h.blk.alloc o,h.kids.alloc o,h.gt,h.plt,h.tlt⟩
theorem zFb.set (h:zFb E w W d l f q g t v) (i:Nat) (x:Value) (t':T) (ht:(zaa t v).set i x=zaa t' v) (hk:t'.kids=t.kids):zFb E w (W.setCell ⟨g,i,none⟩ x) d l f q g t' v:=by
 have h1:=h.gt
 have h2:=h.plt
 have h3:=h.tlt
 obtain ⟨old,ho,hl⟩:=h.res
 refine ⟨h.st.far _ _ (by show _≠g;omega) (by show _≠g;omega),h.kp.zLc (p:=⟨g,i,none⟩) (by show _≤g;omega) _,⟨old,ho.setOther _ _ (by show _≠g;omega),hl⟩,?_,?_,h.gt,h.plt,h.tlt⟩
 ·rw [← ht]
  exact h.blk.zNa i x
 ·rw [hk]
  exact h.kids.setCell _ _ (fun b hb=>hb.2)
theorem zFb.zeb (h:zFb E w W d l f q g t v) (ks:List T) (x:Value) (hk:KAt 36 W ks (fun b=>w.heap.size<b∧b≠g) x):zFb E w (W.setCell ⟨g,4,none⟩ x) d l f q g (t.zeb ks) x:=by
 have h1:=h.gt
 have h2:=h.plt
 have h3:=h.tlt
 obtain ⟨old,ho,hl⟩:=h.res
 exact ⟨h.st.far _ _ (by show _≠g;omega) (by show _≠g;omega),h.kp.zLc (p:=⟨g,4,none⟩) (by show _≤g;omega) _,⟨old,ho.setOther _ _ (by show _≠g;omega),hl⟩,h.blk.zNa 4 x,hk.setCell _ _ (fun b hb=>hb.2),h.gt,h.plt,h.tlt⟩
theorem zFb.own (h:zFb E w W d l f q g t v) (k:Nat) (hk:v.ownBlock=some k):k<W.heap.size∧w.heap.size<k∧k≠g:=by
 obtain ⟨_,ho,hS,_⟩:=h.kids
 have h2:=hS k hk
 exact ⟨(ho.lt k hk).2,h2.1,h2.2⟩
theorem zFb.fresh (h:zFb E w W d l f q g t v) {ks:List T} {x:Value} (hk:KAt 36 W' ks (fun b=>W.heap.size≤b) x):KAt 36 W' ks (fun b=>(w.heap.size<b∧b≠g)∧v.ownBlock≠some b) x :=
 hk.mono fun b hb _=>by
  have h1:=h.lt
  have h2:=h.gt
  refine ⟨⟨by omega,by omega⟩,fun hv=>?_⟩
  have:=(h.own b hv).1
  omega
theorem zFb.zYd (h:zFb E w W d l f q g t v) {ks:List T} {x:Value} (hk:KAt 36 W' ks (fun b=>W.heap.size≤b) x):KAt 36 W' ks (fun b=>w.heap.size<b∧b≠g) x :=
 (h.fresh hk).mono fun _ hb _=>hb.1
theorem zFb.after (h:zFb E w W d l f q g t v) {ks:List T} {v':Value} (hK:KAt 36 W' ks (fun b=>w.heap.size<b∧b≠g) v') (hg:W.grownBy W' v.ownBlock) :
  zFb E w (W'.setCell ⟨g,4,none⟩ v') d l f q g (t.zeb ks) v'∧W'.cell? ⟨g,4,none⟩=some v∧W'.frozen? ⟨g,4,none⟩=false∧g<W'.heap.size:=by
 have h1:=h.gt
 have h2:=h.plt
 have h3:=h.tlt
 obtain ⟨old,ho,hl⟩:=h.res
 have hb:Blk W' g (zaa t v) 36:=h.blk.grown hg (fun e=>(h.own g e.symm).2.2 rfl)
 exact ⟨⟨(h.st.grown hg (fun k hk=>by have:=(h.own k hk).2.1;omega)).far _ _ (by show _≠g;omega) (by show _≠g;omega),(h.kp.grow hg (fun k hk=>by have:=(h.own k hk).2.1;omega)).zLc (p:=⟨g,4,none⟩) (by show _≤g;omega) _,⟨old,(ho.grown hg (fun e=>by have:=(h.own _ e.symm).2.1;omega)).setOther _ _ (by show _≠g;omega),hl⟩,hb.zNa 4 v',hK.setCell _ _ (fun b hb=>hb.2),h.gt,h.plt,h.tlt⟩,hb.cell 4,hb.frozen 4,hb.lt⟩
theorem zFb.tot (h:zFb E w W d l' f' q' g t v) (hn:t.kids.length≤40000) {r:R T} (hs:zCa l f q r t l' f' q'):zqg E w d l f q r (.returned (.agg (zaa t v).toArray)) (W.setRow w.heap.size (zaa t v).toArray):=by
 have h1:=h.gt
 have h2:=h.plt
 have h3:=h.tlt
 exact ⟨t,v,l',f',q',rfl,(h.kids.setRow _ _ (fun b hb=>by omega)).mono (fun b hb _=>by omega),hn,h.st.putRow _ _ (by omega) (by omega),h.kp.setRow (Nat.le_refl _) _,hs⟩
end
end
section
open Go.RowKit
theorem zxl:zOa (bs [123])=true:=by kernel_rfl
theorem zIs:zOa (bs [125])=true:=by kernel_rfl
theorem zgi:zOa (bs [59])=true:=by kernel_rfl
theorem zls:zOa (bs [119,104,101,114,101])=true:=by kernel_rfl
theorem zqu (p:Nat) (l:List Tok):zdc p l=bd (zoa l) fun n l1=>bd (zKd l1) fun a l2=>bd (zXc l2) fun ys l3=>bd (zld l3) fun zs l4=>bd (zsa [bs [59]] l4) fun _ l5=>.ok (.mk 1 n.text n.num p (a :: (ys++zs)),l5):=by
 unfold zdc zoa
 cases zKb l with
 | error e=>rfl
 | ok x=>rfl
theorem zFb.new {E:Env} {w W:World} {d:Nat} {l:List Tok} {f:Int} {q:Nat} {t:T} {v:Value} {old:List Value} (hs:RSt E W l d f q) (hk:Kp E.pb w W) (hr:Blk W w.heap.size old 36) (ho:old.length=5) (hv:KAt 36 W t.kids (fun b=>w.heap.size<b) v) (hp:E.pb<w.heap.size) (ht:E.tb<w.heap.size) :
  zFb E w (W.alloc (.cells (zaa t v).toArray 36)) d l f q W.heap.size t v :=
 ⟨hs.alloc _,hk.alloc _,⟨old,hr.alloc _,ho⟩,Blk.new W _ _,(hv.mono (fun b hb hl=>by omega)).alloc _,hr.lt,hp,ht⟩
theorem zFb.kid1 {E:Env} {w W0 W:World} {d:Nat} {l l0:List Tok} {f f0:Int} {q q0 g:Nat} {t u:T} {v v0 x:Value} (h:zFb E w W d l f q g t v) (h0:zFb E w W0 d l0 f0 q0 g t v0) (hu:KAt 36 W u.kids (fun b=>W0.heap.size≤b) x) :
  zFb E w (((W.setCell ⟨g,4,none⟩ (.slice (some ⟨W.heap.size+1,0,none⟩) 1 1)).alloc (.cells (zaa u x).toArray 36)).alloc (.cells (zaa u x).toArray 36)) d l f q g (t.zeb [u]) (.slice (some ⟨W.heap.size+1,0,none⟩) 1 1):=by
 have h1:=h.gt
 have h2:=h.plt
 have h3:=h.tlt
 have h4:=h.lt
 obtain ⟨old,ho,hl⟩:=h.res
 have hx:=h0.zYd hu
 have hk:=KAt.zrk (e:=36) (w:=(W.setCell ⟨g,4,none⟩ (.slice (some ⟨W.heap.size+1,0,none⟩) 1 1)).alloc (.cells (zaa u x).toArray 36)) (t:=u) (S:=fun b=>w.heap.size<b∧b≠g) (TAt.zHa ((hx.setCell ⟨g,4,none⟩ (.slice (some ⟨W.heap.size+1,0,none⟩) 1 1) (fun b hb=>hb.2)).alloc _)) (by simp only [World.size_alloc,World.size_setCell];omega)
 rw [show ((W.setCell ⟨g,4,none⟩ (.slice (some ⟨W.heap.size+1,0,none⟩) 1 1)).alloc (.cells (zaa u x).toArray 36)).heap.size=W.heap.size+1 by simp] at hk
 exact ⟨((h.st.far _ _ (by show _≠g;omega) (by show _≠g;omega)).alloc _).alloc _,((h.kp.zLc (p:=⟨g,4,none⟩) (by show _≤g;omega) _).alloc _).alloc _,⟨old,((ho.setOther _ _ (by show _≠g;omega)).alloc _).alloc _,hl⟩,((h.blk.zNa 4 _).alloc _).alloc _,hk,h.gt,h.plt,h.tlt⟩
def zRp (E:Env) (w:World) (d:Nat) (l2:List Tok) (f2:Int) (q2:Nat) (gn:Nat) (t0:T) (item:List Tok→R T) (fin:List T→List Tok→R (List T)) (total:R (List T)) (g:Nat) (op:Value) (wr:World):Prop :=
 ∃ b ks v lc fc qc,op=.bool b∧zFb E w wr d lc fc qc gn (t0.zeb (t0.kids++ks)) v∧ks.length+g≤16500 ∧
  (b=true→(fc == 0)=true∧lc.length+1≤g∧∃ N:List Tok→Nat,(∀ l',l'.length≤lc.length→l'.length≤N l') ∧
   ∀ ys lf f' q',zCa lc fc qc (bd (item lc) fun a l=>bd (zEd item (N l) l) fun xs l=>fin (a :: xs) l) ys lf f' q'→zCa l2 f2 q2 total (ks++ys) lf f' q') ∧
  (b=false→zCa l2 f2 q2 total ks lc fc qc)
theorem zAb {α β γ:Type} (r:R α) (k:α→List Tok→R β) (m:β→List Tok→R γ):bd (bd r k) m=bd r fun a l=>bd (k a l) m:=by
 cases r with
 | error e=>rfl
 | ok x=>rfl
theorem zhi {item:List Tok→R T} {fin:List T→List Tok→R (List T)} (hfin:∀ a xs l,fin (a :: xs) l=bd (fin xs l) fun ys l=>.ok (a :: ys,l)) {m:Nat} {l:List Tok} {t:T} (h:isT (hdT l) (bs [44])=true) :
  (bd (zEd item (m+1) l) fun xs l=>fin (t :: xs) l)=bd (bd (item l.tail) fun a l=>bd (zEd item m l) fun xs l=>fin (a :: xs) l) fun ys l=>.ok (t :: ys,l):=by
 rw [zoj h,zAb,zAb]
 congr 1
 funext a l1
 rw [zAb,zAb]
 congr 1
 funext xs l2
 exact hfin t (a :: xs) l2
theorem zXb (t:T) (ks:List T):(t.zeb ks).kids=ks:=rfl
theorem zid (t:T) (ks js:List T):(t.zeb ks).zeb js=t.zeb js:=rfl
theorem zen (W:World) (o:Obj) (e:TypeId) (t:T) (v:Value):∀ j u,(zKa [t] [v])[j]?=some u→((W.alloc o).alloc (.cells (zaa t v).toArray e)).cell? ((⟨W.heap.size+1,0,none⟩:Addr).add j)=some u:=by
 have h:=zke (W.alloc o) e t v
 rw [World.size_alloc] at h
 exact h
def zHf (xs:List T) (l:List Tok):R (List T):=bd (zsa [bs [125]] l) fun _ l=>.ok (xs,l)
def zDi (xs:List T) (l:List Tok):R (List T):=.ok (xs,l)
theorem zlk (a:T) (xs:List T) (l:List Tok):zHf (a :: xs) l=bd (zHf xs l) fun ys l=>.ok (a :: ys,l):=by
 unfold zHf
 rw [zAb]
 rfl
theorem zLk (a:T) (xs:List T) (l:List Tok):zDi (a :: xs) l=bd (zDi xs l) fun ys l=>.ok (a :: ys,l):=rfl
theorem zzo {l:List Tok} (h:isT (hdT l) (bs [123])=true):zXc l=bd (zsc l.tail) fun a l=>bd (zEd zsc l.length l) fun xs l=>zHf (a :: xs) l:=by
 unfold zXc zRd zHf
 rw [h,cond_true,zAb]
 congr 1
 funext a l1
 rw [zAb]
 rfl
theorem zrp {l:List Tok} (h:isT (hdT l) (bs [119,104,101,114,101])=true):zld l=bd (zWd l.tail) fun a l=>bd (zEd zWd l.length l) fun xs l=>zDi (a :: xs) l:=by
 unfold zld zRd zDi
 rw [h,cond_true]
theorem zlr {E:Env} {w:World} {l:List Tok} {d:Nat} {f:Int} {q:Nat} (h:RSt E w l d f q) (p:Nat) :
  Calls Tryz.prog 21 #[.pointer (some ⟨E.pb,0,none⟩),.int .i64 p] w (zqg E w d l f q (zdc p l)):=by
 have H:=zh h
 have hplt:=h.plt
 have htlt:=h.tlt
 have hlen:=h.len
 have H0:=zh (h.alloc (.cells zba.toArray 36))
 have HK0:=zh ((Kp.refl E.pb w).alloc (.cells zba.toArray 36))
 have HBr0:=zh (Blk.new w zba 36)
 clear h
 obtain ⟨i0,z0,I⟩:=Tryz.zPc
 go_enter Tryz.func21,Tryz.ntmps21
 go_wp2_with fail
 refine (zjd H0.out).mono ?_
 rintro e w1 ⟨t1,v1,l1,f1,q1,rfl,hk1,hn1,hs1,hp1,hsee1⟩
 have HB1:=zh (HBr0.out.kp hp1 (by omega))
 have HV1:=zh (show KAt 36 w1 t1.kids (fun b=>w.heap.size<b) v1 from hk1.mono (fun b hb _=>by simp at hb;omega))
 have HK1:=zh (HK0.out.trans hp1)
 have H1:=zh hs1
 have HS1:=zh hsee1
 have hz1:=HB1.out.lt
 have HBm0:=zh (Blk.new w1 (zaa t1 v1) 36)
 have n0:(w1.alloc (.cells (zaa t1 v1).toArray 36)).cell? ⟨w1.heap.size,0,none⟩=some (.int .i64 t1.kind):=HBm0.out.cell 0
 have nf0:=HBm0.out.frozen 0
 clear hk1 hs1 hp1 hsee1
 unfold zna
 go_wp2_with (((with_reducible refine zla 36 (.tmp 5) ?_);refine zga rfl 36 (.tmp 5) (.tmp 12) rfl (zaa t1 v1) (old:=zba) rfl rfl Tryz.zha rfl (zca _ _ HV1.out.one) ?_))
 clear n0 nf0 HBm0
 have RL1:=zh (zFb.new (t:=T.mk 1 t1.text t1.num p t1.kids) (v:=v1) H1.out HK1.out HB1.out rfl HV1.out hplt htlt)
 refine (zCp RL1.out.st).mono ?_
 rintro e w2 ⟨t2,v2,l2,f2,q2,rfl,hk2,hn2,hs2,hp2,hsee2⟩
 have RL2:=zh (RL1.out.call hp2 hs2)
 have HV2:=zh hk2
 have HS2:=zh hsee2
 have RK2:=zh (RL2.out.kid1 RL1.out hk2)
 have hl2:=hs2.le
 have n4:w2.cell? ⟨w1.heap.size,4,none⟩=some v1:=RL2.out.blk.cell 4
 have nf4:=RL2.out.blk.frozen 4
 have hz2:w1.heap.size<w2.heap.size:=RL2.out.lt
 clear hk2 hs2 hp2 hsee2
 unfold zna
 go_wp2_with (first|((with_reducible refine zla 36 (.tmp 6) ?_);refine zga rfl 36 (.tmp 6) (.tmp 17) rfl (zaa t2 v2) (old:=zba) rfl rfl Tryz.zha rfl (zca _ _ HV2.out.one) ?_)|((with_reducible refine zqa 36 (.tmp 6) ?_);refine zfa rfl 36 (.tmp 6) rfl w2.heap.size t2 v2 rfl (Blk.new w2 _ _) Tryz.underlying36 rfl Tryz.zha ?_))
 clear n4 nf4
 refine (zab RK2.out.st (bs [123]) zxl (by decide)).mono ?_
 rintro e w3 ⟨b3,l3,rfl,hs3,hp3,hc3⟩
 have RL3:=zh (RK2.out.call hp3 hs3)
 have HC3:=zh hc3
 clear hs3 hp3 hc3
 generalize hTN:(T.mk 1 t1.text t1.num p t1.kids).zeb [t2]=tn at *
 have HTN:=zh hTN
 have HTK:Hid (tn.kids=[t2]):=zh (by rw [← hTN];rfl)
 clear hTN
 have HTS:Hid (tn.zeb (tn.kids++[])=tn):=zh (by rw [List.append_nil];cases tn;rfl)
 go_wp2_with fail
 go_loopg [7] (l2.length+2) (fun g op wr=>zRp E w d l2 f2 q2 w1.heap.size tn zsc zHf (zXc l2) g op wr)
 case atStart =>
  rcases HC3.out with ⟨rfl,hfy,hiy,rfl⟩|⟨rfl,hxy,rfl⟩
  ·refine ⟨true,[],_,_,_,_,rfl,by rw [HTS.out];exact RL3.out,by simp;omega,fun _=>⟨hfy,by rw [List.length_tail];omega,fun l=>l.length,fun l' _=>Nat.le_refl _,fun ys lf f' q' hy=>?_⟩,fun h=>by cases h⟩
   rw [List.nil_append]
   exact zCa.turn (fun _=>zzo hiy) (zCa.behind hfy hy)
  ·refine ⟨false,[],_,_,_,_,rfl,by rw [HTS.out];exact RL3.out,by simp;omega,fun h=>(by cases h),fun _=>?_⟩
   exact zCa.no hxy (zCa.done _ _ _ _)
 case round =>
  obtain ⟨b,ks,v,lc,fc,qc,rfl,hrl,hcnt,hyes,hno⟩:=hrel
  have RL:=zh hrl
  have HY:=zh hyes
  have HN:=zh hno
  clear hrl hyes hno
  cases b
  ·have HSF:=zh (HN.out rfl)
   clear HY HN
   go_wp2_with fail
   refine (zab RL.out.st (bs [119,104,101,114,101]) zls (by decide)).mono ?_
   rintro e w4 ⟨b4,l4,rfl,hs4,hp4,hc4⟩
   have RLW:=zh (RL.out.call hp4 hs4)
   have HC4:=zh hc4
   have hlcz:=RL.out.st.le
   clear hs4 hp4 hc4
   generalize hTM:tn.zeb (tn.kids++ks)=tm at *
   have HTM:=zh hTM
   have HTMK:Hid (tm.kids=t2 :: ks):=zh (by rw [← hTM,zXb,HTK.out];rfl)
   clear hTM
   have HTMS:Hid (tm.zeb (tm.kids++[])=tm):=zh (by rw [List.append_nil];cases tm;rfl)
   go_wp2_with fail
   go_loopg [9] (lc.length+2) (fun g op wr=>zRp E w d lc fc qc w1.heap.size tm zWd zDi (zld lc) g op wr)
   case atStart =>
    rcases HC4.out with ⟨rfl,hfy,hiy,rfl⟩|⟨rfl,hxy,rfl⟩
    ·refine ⟨true,[],_,_,_,_,rfl,by rw [HTMS.out];exact RLW.out,by simp;omega,fun _=>⟨hfy,by rw [List.length_tail];omega,fun l=>l.length,fun l' _=>Nat.le_refl _,fun ys lf f' q' hy=>?_⟩,fun h=>by cases h⟩
     rw [List.nil_append]
     exact zCa.turn (fun _=>zrp hiy) (zCa.behind hfy hy)
    ·refine ⟨false,[],_,_,_,_,rfl,by rw [HTMS.out];exact RLW.out,by simp;omega,fun h=>(by cases h),fun _=>?_⟩
     exact zCa.no hxy (zCa.done _ _ _ _)
   case round =>
    rename World=>wq
    obtain ⟨b,js,x,ld,fd,qd,rfl,hrl,hcnt2,hyes,hno⟩:=hrel
    have RM:=zh hrl
    have HY:=zh hyes
    have HN:=zh hno
    clear hrl hyes hno
    cases b
    ·have HSG:=zh (HN.out rfl)
     clear HY HN
     go_wp2_with fail
     refine (zRa RM.out.st (bs [59]) zgi (by decide)).mono ?_
     rintro e w6 ⟨l6,f6,q6,rfl,hs6,hp6,tk6,hsee6⟩
     have RN6:=zh (RM.out.call hp6 hs6)
     have HS6:=zh hsee6
     obtain ⟨old,hold,hol⟩:=RN6.out.res
     have HOLD:=zh hold
     clear hs6 hp6 hsee6 hold
     go_wp2_with (first|((with_reducible refine zqa 36 (.tmp 5) ?_);refine zfa rfl 36 (.tmp 5) rfl w1.heap.size (tm.zeb (tm.kids++js)) x rfl RN6.out.blk Tryz.underlying36 rfl Tryz.zha ?_)|((with_reducible refine zla 36 (.tmp 4) ?_);refine zda rfl 36 (.tmp 4) (.tmp 53) rfl w.heap.size (zaa (tm.zeb (tm.kids++js)) x) rfl rfl HOLD.out Tryz.zha (by rw [hol];rfl) (zca _ _ RN6.out.kids.one) ?_))
     exact zma (cs:=zaa (tm.zeb (tm.kids++js)) x) Tryz.results21 rfl HOLD.out Tryz.underlying36 rfl Tryz.zha rfl (RN6.out.tot (by rw [zXb,HTMK.out];simp;omega) (by
      rw [zqu,← HTM.out,← HTN.out]
      simp only [zXb,zid]
      exact HS1.out.andThen (HS2.out.andThen (HSF.out.andThen (HSG.out.andThen (HS6.out.andThen (zCa.done _ _ _ _)))))))
    ·obtain ⟨hf0,hg,N,hN,hcont⟩:=HY.out rfl
     have HNN:=zh hN
     have HCO:=zh hcont
     have hpos:=RM.out.st.head.1
     clear hN hcont
     go_wp2_with fail
     refine (zWo RM.out.st).mono ?_
     rintro e w5 ⟨t5,v5,l5,f5,q5,rfl,hk5,hn5,hs5,hp5,hsee5⟩
     have RL5:=zh (RM.out.call hp5 hs5)
     have HV5:=zh (RM.out.fresh hk5)
     have HS5:=zh hsee5
     have hz5:w1.heap.size<w5.heap.size:=RL5.out.lt
     have hz5w:w.heap.size<w1.heap.size:=RL5.out.gt
     have n4:w5.cell? ⟨w1.heap.size,4,none⟩=some x:=RL5.out.blk.cell 4
     clear hk5 hs5 hp5 hsee5
     unfold zna
     go_wp2_with (first|((with_reducible refine zla 36 (.tmp 10) ?_);refine zga rfl 36 (.tmp 10) (.tmp 42) rfl (zaa t5 v5) (old:=zba) rfl rfl Tryz.zha rfl (zca _ _ HV5.out.one) ?_)|((with_reducible refine zqa 36 (.tmp 10) ?_);refine zfa rfl 36 (.tmp 10) rfl w5.heap.size t5 v5 rfl (Blk.new w5 _ _) Tryz.underlying36 rfl Tryz.zha ?_)|(at_builtin;refine zxa rfl (.tmp 44) (.tmp 46) rfl I (ks:=tm.kids++js) (ts:=[t5]) (S:=fun b=>w.heap.size<b∧b≠w1.heap.size) rfl ((RL5.out.alloc _).alloc _).kids (us:=[v5]) (zGb.single ?c1) ?c2 rfl rfl (by simp) (zen w5 _ _ t5 v5) ?c3 ?_))
     case c1=>exact TAt.zHa ((HV5.out.alloc _).alloc _)
     case c2=>simp only [World.size_alloc];omega
     case c3=>rw [HTMK.out];simp;omega
     intro v6 w6 hK6 hg6 hb6
     obtain ⟨sa,sn,sc,rfl⟩:=hK6.slice
     obtain ⟨ha1,ha2,ha3,ha4⟩:=((RL5.out.alloc _).alloc _).after hK6 hg6
     have RL6:=zh ha1
     clear ha1 hK6 hg6 hb6 n4
     go_wp2_with fail
     refine (zab RL6.out.st (bs [44]) zUr (by decide)).mono ?_
     rintro e w7 ⟨b7,l7,rfl,hs7,hp7,hc7⟩
     have RL7:=zh (RL6.out.call hp7 hs7)
     clear hs7 hp7 ha2 ha3
     simp only [zid] at RL7
     go_wp2_with fail
     go_roundg (gk-1)
     case measure=>omega
     case rel =>
      rcases hc7 with ⟨rfl,hf7,hi7,rfl⟩|⟨rfl,hx7,rfl⟩
      ·have hlen5:=HS5.out.len (beq_iff_eq.1 hf7)
       obtain ⟨m,hm⟩:∃ m,N l5=m+1:=⟨N l5-1,by have:=HNN.out l5 hlen5;have:=RL5.out.st.head.1;omega⟩
       have hnl:=HNN.out l5 hlen5
       refine ⟨true,js++[t5],_,_,_,_,rfl,RL7.out,by simp;omega,fun _=>⟨hf7,by rw [List.length_tail];have:=RL5.out.st.head.1;omega,fun _=>m,fun l' hl'=>by rw [List.length_tail] at hl';show l'.length≤m;omega,fun ys lf f' q' hy=>?_⟩,fun h=>by cases h⟩
       have:=HCO.out (t5 :: ys) lf f' q' (HS5.out.andThen (by rw [hm,zhi zLk hi7];exact (zCa.behind hf7 hy).andThen (zCa.done _ _ _ _)))
       rw [List.append_assoc]
       exact this
      ·refine ⟨false,js++[t5],_,_,_,_,rfl,RL7.out,by simp;omega,fun h=>(by cases h),fun _=>?_⟩
       exact HCO.out [t5] _ _ _ (HS5.out.andThen ((zCa.turn (fun hf=>zhg (by have:=HNN.out _ (HS5.out.len (beq_iff_eq.1 hf));have:=RL5.out.st.head.1;omega) (zxd hx7 hf)) (zCa.done _ _ _ _)).andThen (zCa.done _ _ _ _)))
  ·obtain ⟨hf0,hg,N,hN,hcont⟩:=HY.out rfl
   have HNN:=zh hN
   have HCO:=zh hcont
   have hpos:=RL.out.st.head.1
   clear hN hcont
   go_wp2_with fail
   refine (zgo RL.out.st).mono ?_
   rintro e w5 ⟨t5,v5,l5,f5,q5,rfl,hk5,hn5,hs5,hp5,hsee5⟩
   have RL5:=zh (RL.out.call hp5 hs5)
   have HV5:=zh (RL.out.fresh hk5)
   have HS5:=zh hsee5
   have hz5:w1.heap.size<w5.heap.size:=RL5.out.lt
   have hz5w:w.heap.size<w1.heap.size:=RL5.out.gt
   have n4:w5.cell? ⟨w1.heap.size,4,none⟩=some v:=RL5.out.blk.cell 4
   clear hk5 hs5 hp5 hsee5
   unfold zna
   go_wp2_with (first|((with_reducible refine zla 36 (.tmp 8) ?_);refine zga rfl 36 (.tmp 8) (.tmp 25) rfl (zaa t5 v5) (old:=zba) rfl rfl Tryz.zha rfl (zca _ _ HV5.out.one) ?_)|((with_reducible refine zqa 36 (.tmp 8) ?_);refine zfa rfl 36 (.tmp 8) rfl w5.heap.size t5 v5 rfl (Blk.new w5 _ _) Tryz.underlying36 rfl Tryz.zha ?_)|(at_builtin;refine zxa rfl (.tmp 27) (.tmp 29) rfl I (ks:=tn.kids++ks) (ts:=[t5]) (S:=fun b=>w.heap.size<b∧b≠w1.heap.size) rfl ((RL5.out.alloc _).alloc _).kids (us:=[v5]) (zGb.single ?c1) ?c2 rfl rfl (by simp) (zen w5 _ _ t5 v5) ?c3 ?_))
   case c1=>exact TAt.zHa ((HV5.out.alloc _).alloc _)
   case c2=>simp only [World.size_alloc];omega
   case c3=>rw [HTK.out];simp;omega
   intro v6 w6 hK6 hg6 hb6
   obtain ⟨sa,sn,sc,rfl⟩:=hK6.slice
   obtain ⟨ha1,ha2,ha3,ha4⟩:=((RL5.out.alloc _).alloc _).after hK6 hg6
   have RL6:=zh ha1
   clear ha1 hK6 hg6 hb6 n4
   go_wp2_with fail
   refine (zab RL6.out.st (bs [44]) zUr (by decide)).mono ?_
   rintro e w7 ⟨b7,l7,rfl,hs7,hp7,hc7⟩
   have RL7:=zh (RL6.out.call hp7 hs7)
   clear hs7 hp7 ha2 ha3
   simp only [zid] at RL7
   rcases hc7 with ⟨rfl,hf7,hi7,rfl⟩|⟨rfl,hx7,rfl⟩
   ·go_wp2_with fail
    go_roundg (gk-1)
    case measure=>omega
    case rel =>
     have hlen5:=HS5.out.len (beq_iff_eq.1 hf7)
     obtain ⟨m,hm⟩:∃ m,N l5=m+1:=⟨N l5-1,by have:=HNN.out l5 hlen5;have:=RL5.out.st.head.1;omega⟩
     have hnl:=HNN.out l5 hlen5
     refine ⟨true,ks++[t5],_,_,_,_,rfl,RL7.out,by simp;omega,fun _=>⟨hf7,by rw [List.length_tail];have:=RL5.out.st.head.1;omega,fun _=>m,fun l' hl'=>by rw [List.length_tail] at hl';show l'.length≤m;omega,fun ys lf f' q' hy=>?_⟩,fun h=>by cases h⟩
     have:=HCO.out (t5 :: ys) lf f' q' (HS5.out.andThen (by rw [hm,zhi zlk hi7];exact (zCa.behind hf7 hy).andThen (zCa.done _ _ _ _)))
     rw [List.append_assoc]
     exact this
   ·go_wp2_with fail
    refine (zRa RL7.out.st (bs [125]) zIs (by decide)).mono ?_
    rintro e w8 ⟨l8,f8,q8,rfl,hs8,hp8,tk8,hsee8⟩
    have RL8:=zh (RL7.out.call hp8 hs8)
    have HS8:=zh hsee8
    clear hs8 hp8 hsee8
    go_wp2_with fail
    go_roundg (gk-1)
    case measure=>omega
    case rel =>
     refine ⟨false,ks++[t5],_,_,_,_,rfl,RL8.out,by simp;omega,fun h=>(by cases h),fun _=>?_⟩
     exact HCO.out [t5] _ _ _ (HS5.out.andThen ((zCa.turn (fun hf=>zhg (by have:=HNN.out _ (HS5.out.len (beq_iff_eq.1 hf));have:=RL5.out.st.head.1;omega) (zxd hx7 hf)) (zCa.done _ _ _ _)).andThen (HS8.out.andThen (zCa.done _ _ _ _))))
end
section
open Go.RowKit
def RNum (E:Env) (w:World) (d:Nat) (l:List Tok) (f:Int) (q:Nat) (e:Ending) (w':World):Prop :=
 ∃ v lf f' q',e=.returned (.int .i64 v)∧RSt E w' lf d f' q'∧Kp E.pb w w'∧zCa l f q (zEa l) v lf f' q'
theorem zcg {E:Env} {w:World} {l:List Tok} {d:Nat} {f:Int} {q:Nat} (h:RSt E w l d f q) :
  Calls Tryz.prog 95 #[.pointer (some ⟨E.pb,0,none⟩)] w (RNum E w d l f q):=by
 cases hf:(f == 0) with
 | false=>exact (zWh h hf).mono fun _ _ ⟨he,hb⟩=>⟨_,l,f,q,he,h.below hb,Kp.of_below hb,.inr ⟨hf,rfl,rfl,rfl⟩⟩
 | true =>
  have e:f=0:=beq_iff_eq.1 hf
  subst e
  cases hk:((hdT l).kind == 3) with
  | true =>
   have e1:zEa l=.ok (((hdT l).num:Int),l.tail):=by unfold zEa zkd;rw [hk];rfl
   exact (zPe h hk).mono fun _ _ ⟨he,h2,h3⟩=>⟨_,l.tail,0,q,he,h2,h3,.inl ⟨rfl,.inl ⟨_,e1,rfl,rfl,rfl,by rw [List.length_tail];omega⟩⟩⟩
  | false =>
   have e1:zEa l=.error ((hdT l).place,20):=by unfold zEa zkd;rw [hk];rfl
   exact (zLf h hk).mono fun _ _ ⟨he,h2,h3⟩=>⟨_,l,20,_,he,h2,h3,.inl ⟨rfl,.inr ⟨_,_,e1,rfl,rfl,rfl⟩⟩⟩
def RName (E:Env) (w:World) (d:Nat) (l:List Tok) (f:Int) (q:Nat) (e:Ending) (w':World):Prop :=
 ∃ k s n p lf f' q',e=.returned (.agg #[.int .i64 k,.string s,.int .i64 n,.int .i64 (p:Nat),.slice none 0 0])∧RSt E w' lf d f' q'∧Kp E.pb w w'∧zCa l f q (zoa l) (T.mk k s n p []) lf f' q'
theorem zQb {E:Env} {w:World} {l:List Tok} {d:Nat} {f:Int} {q:Nat} (h:RSt E w l d f q) :
  Calls Tryz.prog 37 #[.pointer (some ⟨E.pb,0,none⟩)] w (RName E w d l f q):=by
 cases hf:(f == 0) with
 | false=>exact (zii h hf).mono fun _ _ ⟨he,hb⟩=>⟨0,e0,0,0,l,f,q,he,h.below hb,Kp.of_below hb,.inr ⟨hf,rfl,rfl,rfl⟩⟩
 | true =>
  have e:f=0:=beq_iff_eq.1 hf
  subst e
  cases hk:((hdT l).kind == 1) with
  | true =>
   have e1:zoa l=.ok (.mk 5 (hdT l).text 0 (hdT l).place [],l.tail):=by unfold zoa zKb zkd;rw [hk];rfl
   exact (zhk h hk).mono fun _ _ ⟨he,h2,h3⟩=>⟨5,_,0,_,l.tail,0,q,he,h2,h3,.inl ⟨rfl,.inl ⟨_,e1,rfl,rfl,rfl,by rw [List.length_tail];omega⟩⟩⟩
  | false =>
   have e1:zoa l=.error ((hdT l).place,20):=by unfold zoa zKb zkd;rw [hk];rfl
   exact (znk h hk).mono fun _ _ ⟨he,h2,h3⟩=>⟨0,e0,0,0,l,20,_,he,h2,h3,.inl ⟨rfl,.inr ⟨_,_,e1,rfl,rfl,rfl⟩⟩⟩
theorem zhq {t:T} {l:List Tok} {u:T} {l0:List Tok} (ht:t.kids=[]) (h:zif t l=.ok (u,l0)):u.kids.length≤40000:=by
 unfold zif zKl at h
 split at h
 ·cases h
  rw [ht]
  simp
 ·unfold bd at h
  split at h
  ·cases h
  ·cases h
   rw [zVc,ht]
   simp
theorem zBi {E:Env} {w:World} {l:List Tok} {d:Nat} {f:Int} {q:Nat} (h:RSt E w l d f q) (t:T) (ht:t.kids=[]) :
  Calls Tryz.prog 98 #[.pointer (some ⟨E.pb,0,none⟩),zna t (.slice none 0 0)] w (zqg E w d l f q (zif t l)):=by
 cases hf:(f == 0) with
 | true =>
  have e:f=0:=beq_iff_eq.1 hf
  subst e
  exact (zKk h t ht).mono fun _ _ hp=>hp.tot fun u l0 hr=>zhq ht hr
 | false=>exact (zsi h hf t ht).mono fun _ _ hp=>hp.tot h hf
theorem zZf {E:Env} {w:World} {l:List Tok} {d:Nat} {f:Int} {q:Nat} (h:RSt E w l d f q) (s:ByteArray) (hs:zOa s=true) :
  Calls Tryz.prog 36 #[.pointer (some ⟨E.pb,0,none⟩),.string s] w fun e w'=>e=.returned (.bool (f == 0 && isT (hdT l) s))∧RSt E w' l d f q∧Kp E.pb w w' :=
 (zTl h s hs).mono fun _ _ ⟨he,hb⟩=>⟨he,h.below hb,Kp.of_below hb⟩
end
end Go.Proofs.YtpjnpffcnmgdcaaGreatDoor
