/- The contract of shape's partsOf. The contract of shape's readFields. The reader of types in memory; the contract of shape's of. -/
import Derived.Test.YtpjnpffcnmgdcaaGreatDoorZ25
import Derived.Laws.MakeOwn
namespace Go.Proofs.YtpjnpffcnmgdcaaGreatDoor
set_option maxRecDepth 100000
set_option maxHeartbeats 2000000
section
open Go.RowKit
def zvg (w:World) (n m:Nat) (ks:List T) (v:Value):Prop :=
 ∃ vs,w.ownsRow 0 25 5 v ks.length (zKa ks vs)∧(∀ g,v.ownBlock=some g→m≤g)∧zGb 25 w ks (fun b=>b<n) vs
theorem zvg.keep {w w':World} {n m:Nat} {ks:List T} {v:Value} (h:zvg w n m ks v) (hk:∀ b,b<n∨v.ownBlock=some b→b<w.heap.size→w'.heap[b]?=w.heap[b]?):zvg w' n m ks v:=by
 obtain ⟨vs,ho,hS,hts⟩:=h
 exact ⟨vs,zed ho fun g hg=>hk g (.inr hg) (ho.lt g hg).2,hS,zGb.keep ks hts fun b hb hl=>⟨hb,hk b (.inl hb) hl⟩⟩
theorem zvg.nil (w:World) (n m:Nat):zvg w n m [] (.slice none 0 0):=⟨[],World.ownsRow_nil _ _ _ _,(fun g h=>by simp [Value.ownBlock] at h),by unfold zGb;rfl⟩
theorem zvg.kat {w:World} {n m:Nat} (hnm:n≤m) {ks:List T} {v:Value} (h:zvg w n m ks v):KAt 25 w ks (fun _=>True) v:=by
 obtain ⟨vs,ho,hS,hts⟩:=h
 exact ⟨vs,ho,fun _ _=>trivial,zGb.keep ks hts fun b hb _=>⟨⟨trivial,fun e=>by have:=hS b e;omega⟩,rfl⟩⟩
theorem zvg.lt {w:World} {n m:Nat} {ks:List T} {v:Value} (h:zvg w n m ks v) {g:Nat} (hg:v.ownBlock=some g):m≤g∧g<w.heap.size:=by
 obtain ⟨vs,ho,hS,_⟩:=h
 exact ⟨hS g hg,(ho.lt g hg).2⟩
theorem zvg.one {w:World} {n m:Nat} {ks:List T} {v:Value} (h:zvg w n m ks v):v.oneCell'=true:=by
 obtain ⟨vs,ho,_⟩:=h
 rcases ho.2 with ⟨rfl,_⟩|⟨_,_,_,rfl,_⟩<;>rfl
theorem zvg.slice {w:World} {n m:Nat} {ks:List T} {v:Value} (h:zvg w n m ks v):∃ a c,v=.slice a ks.length c:=by
 obtain ⟨vs,ho,_⟩:=h
 rcases ho.2 with ⟨rfl,h0⟩|⟨_,_,_,rfl,_⟩
 ·exact ⟨_,_,by rw [h0]⟩
 ·exact ⟨_,_,rfl⟩
def setL:List Value→Nat→List Value→List Value
 | cs,_,[]=>cs
 | cs,o,v :: r=>setL (cs.set o v) (o+1) r
theorem zad {g:Nat} {t:TypeId}:∀ (vs:List Value) (o:Nat) (w:World) (cs:List Value),Blk w g cs t→w.setCells g o vs=w.setRow g (setL cs o vs).toArray
 | [],o,w,cs,h=>(setRow_self w g cs.toArray t (0,0) h).symm
 | v :: r,o,w,cs,h=>by
  rw [World.setCells,setCell_eq_setRow w g o cs.toArray t (0,0) v h,List.setIfInBounds_toArray,zad r (o+1) _ (cs.set o v) (h.zra _),setRow_setRow]
  rfl
theorem Blk.there {w:World} {g:Nat} {cs:List Value} {t:TypeId} (h:Blk w g cs t) (o n:Nat) (hn:o+n≤cs.length):w.there g o n:=fun j hj=>by
 refine ⟨?_,?_⟩
 ·rw [h.cell (o+j)];simp;omega
 ·have h':w.heap[g]?=some (.cells cs.toArray t (0,0)):=h
  simp [World.frozen?,h']
theorem zmd {P:Program} {w:World} {ops:Array Oper} {rest:List Oper} {o:Oper} {a:Act} {Q:Exit→Act→World→Prop} (hgd:o.guard=none) (s x:Operand) {t:TypeId} (ho:o.op=.call { callee:=.builtin .append,args:=#[s,x],argTypes:=#[t,t] })
  {i:TypeInfo} {z:Value} (I:zjf P t 25 i z) {n m:Nat} {ks:List T} {tk:T} {v u:Value} (hs:a.eval s=v) (hk:zvg w n m ks v) (hu:TAt 25 w tk (fun b=>b<n) u) {b c:Nat} (hx:a.eval x=.slice (some ⟨b,0,none⟩) 1 c)
  (hb:Blk w b (zaa tk u) 25) (hl:ks.length≤4096) (hnm:n≤m) (hn0:m≤w.heap.size)
  (h:∀ v' w',zvg w' n m (ks++[tk]) v'→w.grownBy w' v.ownBlock→(v'.ownBlock=v.ownBlock∨v'.ownBlock=some w.heap.size)→wpList P ops Q rest (a.put o.dst v') w'):wpList P ops Q (o :: rest) a w:=by
 refine wpList_plain hgd fun _ hK=>?_
 obtain ⟨vs,hown,hSv,hks⟩:=hk
 have hone:∀ y∈zaa tk u,y.oneCell'=true:=zca tk u hu.one'
 have hnews:∀ j y,(zaa tk u)[j]?=some y→w.cell? ((⟨b,0,none⟩:Addr).add j)=some y:=fun j y hj=>by rw [Addr.add_mid,Nat.zero_add,hb.cell j];exact hj
 obtain ⟨v',w',hr,ho',hg',_⟩:=run_append_own (P:=P) w 0 t o.type 25 i z 5 64 I.ht I.hi I.hz I.size I.bytes I.zs (by decide) v ks.length (zKa ks vs) hown ⟨b,0,none⟩ 1 c (zaa tk u) rfl hnews hone (by unfold maxLen;omega) (by omega) (Nat.zero_le _)
 have hbk:=zwh (ty:=o.type) I.ht I.hi I.hz I.size I.bytes hown (by omega) rfl hnews hone (by unfold maxLen;omega) (by omega) hr
 unfold Oper.wp execOp
 simp only [ho,resolve,invoke,builtin,Sem.run_bind,Sem.run_pure,Result.andThen_ok,List.map_toArray,List.map_cons,List.map_nil,hs,hx]
 rw [hr]
 have keep:∀ g,g<n→g<w.heap.size→g<n∧w'.heap[g]?=w.heap[g]?:=fun g hg hgl=>⟨hg,hg'.block g hgl fun e=>by have:=hSv g e.symm;omega⟩
 refine hK _ _ (h v' w' ⟨vs++[u],?_,?_,?_⟩ hg' hbk)
 ·have:=zwe ks [tk] vs [u] (zGb.length hks)
  rw [this,List.length_append]
  simpa [zKa] using ho'
 ·intro g hg
  rcases hbk with h|h
  ·exact hSv g (h▸hg)
  ·rw [h] at hg;cases hg;exact hn0
 ·exact zGb.append (zGb.keep ks hks keep) (zGb.single (TAt.keep tk hu keep))
def zhc:List Value:=[.int .i64 0,.string ⟨#[]⟩,.int .i64 0,.int .i64 0,.slice none 0 0,.slice none 0 0,.slice none 0 0]
def zcp (w:World) (p:Pt) (e:Ending) (w':World):Prop:=∃ sv fv cv,e=.returned (PtV p sv fv cv)∧zRt w' p sv fv cv∧Below w.heap.size w w'
structure zDk (w:World) (n:Nat) (W:World) (p:Pt) (sv fv cv:Value):Prop where
 b:Below n w W
 z:Blk W (n+1) zhc 153
 q:Blk W (n+1+1) (zDa p sv fv cv) 153
 s:KAt 25 W p.sort.kids (fun b=>b<n) sv
 f:zvg W n (n+3) p.fields fv
 c:zvg W n (n+3) p.facts cv
 ne:∀ g,fv.ownBlock=some g→cv.ownBlock≠some g
 lt:n+3≤W.heap.size
section
variable {w W W':World} {n:Nat} {p:Pt} {sv fv cv:Value}
theorem zDk.stay (h:zDk w n W p sv fv cv) (hb:Below W.heap.size W W'):zDk w n W' p sv fv cv :=
 ⟨h.b.trans (hb.mono (by have:=h.lt;omega)),h.z.stays hb,h.q.stays hb,h.s.below hb,h.f.keep fun b _ hl=>hb.block b hl,h.c.keep fun b _ hl=>hb.block b hl,h.ne,Nat.le_trans h.lt hb.size⟩
theorem zDk.alloc (h:zDk w n W p sv fv cv) (o:Obj):zDk w n (W.alloc o) p sv fv cv:=h.stay ((Below.refl _ _).alloc (Nat.le_refl _) _)
theorem zvg.row {m:Nat} {ks:List T} {v:Value} (h:zvg W n m ks v) (g:Nat) (cs:Array Value) (h1:n≤g) (h2:g<m):zvg (W.setRow g cs) n m ks v :=
 h.keep fun b hb _=>setRow_other _ _ _ _ (by
  rcases hb with hb|hb
  ·omega
  ·have:=(h.lt hb).1;omega)
theorem zDk.set (h:zDk w n W p sv fv cv) {p':Pt} {sv' fv' cv':Value} (hs:KAt 25 W p'.sort.kids (fun b=>b<n) sv') (hf:zvg W n (n+3) p'.fields fv') (hc:zvg W n (n+3) p'.facts cv') (hne:∀ g,fv'.ownBlock=some g→cv'.ownBlock≠some g) :
  zDk w n (W.setRow (n+1+1) (zDa p' sv' fv' cv').toArray) p' sv' fv' cv' :=
 ⟨Below.row h.b (by omega) _,h.z.zta (n+1+1) _ (by omega),h.q.zra _,hs.setRow _ _ (fun b hb=>by omega),hf.row _ _ (by omega) (by omega),hc.row _ _ (by omega) (by omega),hne,by simpa using h.lt⟩
theorem zDk.addF (h:zDk w n W p sv fv cv) (hg:W.grownBy W' fv.ownBlock) {fs':List T} {fv':Value} (hf:zvg W' n (n+3) fs' fv') (hbk:fv'.ownBlock=fv.ownBlock∨fv'.ownBlock=some W.heap.size) :
  zDk w n (W'.setCell ⟨n+1+1,5,none⟩ fv') ⟨p.sort,fs',p.facts⟩ sv fv' cv:=by
 have hlt:=h.lt
 have hr:∀ k,fv.ownBlock=some k→n+3≤k:=fun k hk=>(h.f.lt hk).1
 have hq:=h.q.grown hg (fun e=>by have:=hr _ e.symm;omega)
 rw [setCell_eq_setRow W' (n+1+1) 5 _ _ (0,0) fv' hq]
 exact ⟨Below.row (h.b.grown hg (by omega) (fun k hk=>by have:=hr k hk;omega)) (by omega) _,(h.z.grown hg (fun e=>by have:=hr _ e.symm;omega)).zta (n+1+1) _ (by omega),hq.zra (zDa ⟨p.sort,fs',p.facts⟩ sv fv' cv),
  (h.s.keep fun b hb hl=>⟨hb,hg.block b hl fun e=>by have:=hr _ e.symm;omega⟩:KAt _ W' _ (fun b=>b<n) _).setRow _ _ (fun b hb=>by omega),hf.row _ _ (by omega) (by omega),
  (h.c.keep (w':=W') fun b hb hl=>hg.block b hl fun e=>by
   rcases hb with hb|hb
   ·have:=hr _ e.symm;omega
   ·exact h.ne b e.symm hb).row _ _ (by omega) (by omega),
  fun g hg2 hc=>by
   rcases hbk with e|e
   ·exact h.ne g (e▸hg2) hc
   ·rw [e] at hg2;cases hg2;exact absurd (h.c.lt hc).2 (Nat.lt_irrefl _),
  by have:=hg.size;simp;omega⟩
theorem zDk.addC (h:zDk w n W p sv fv cv) (hg:W.grownBy W' cv.ownBlock) {fs':List T} {cv':Value} (hf:zvg W' n (n+3) fs' cv') (hbk:cv'.ownBlock=cv.ownBlock∨cv'.ownBlock=some W.heap.size) :
  zDk w n (W'.setCell ⟨n+1+1,6,none⟩ cv') ⟨p.sort,p.fields,fs'⟩ sv fv cv':=by
 have hlt:=h.lt
 have hr:∀ k,cv.ownBlock=some k→n+3≤k:=fun k hk=>(h.c.lt hk).1
 have hq:=h.q.grown hg (fun e=>by have:=hr _ e.symm;omega)
 rw [setCell_eq_setRow W' (n+1+1) 6 _ _ (0,0) cv' hq]
 exact ⟨Below.row (h.b.grown hg (by omega) (fun k hk=>by have:=hr k hk;omega)) (by omega) _,(h.z.grown hg (fun e=>by have:=hr _ e.symm;omega)).zta (n+1+1) _ (by omega),hq.zra (zDa ⟨p.sort,p.fields,fs'⟩ sv fv cv'),
  (h.s.keep fun b hb hl=>⟨hb,hg.block b hl fun e=>by have:=hr _ e.symm;omega⟩:KAt _ W' _ (fun b=>b<n) _).setRow _ _ (fun b hb=>by omega),
  (h.f.keep (w':=W') fun b hb hl=>hg.block b hl fun e=>by
   rcases hb with hb|hb
   ·have:=hr _ e.symm;omega
   ·exact h.ne b hb e.symm).row _ _ (by omega) (by omega),hf.row _ _ (by omega) (by omega),
  fun g hg2 hc=>by
   rcases hbk with e|e
   ·exact h.ne g hg2 (e▸hc)
   ·rw [e] at hc;cases hc;exact absurd (h.f.lt hg2).2 (Nat.lt_irrefl _),
  by have:=hg.size;simp;omega⟩
end
theorem zWl {w:World} {t:T} {S:Nat→Prop} {kv:Value} (hk:KAt 25 w t.kids S kv) (hl:t.kids.length≤4096) :
  Calls Tryz.prog 61 #[zna t kv] w (zcp w (zUd t.kids)):=by
 obtain ⟨i0,z0,I⟩:=Tryz.zce
 have hk0:KAt 25 w t.kids (fun b=>b<w.heap.size) kv:=hk.keep fun b _ hb=>⟨hb,rfl⟩
 obtain ⟨W0,hW0⟩:∃ W,((w.alloc (.cells (zaa t kv).toArray 25)).alloc (.cells zhc.toArray 153)).alloc (.cells zhc.toArray 153)=W:=⟨_,rfl⟩
 have HB0:=zh (show Below w.heap.size w W0 from hW0▸((((Below.refl _ _).alloc (Nat.le_refl _) _).alloc (by simp) _).alloc (by simp;omega) _))
 have b1:=show Blk W0 w.heap.size (zaa t kv) 25 from hW0▸(((Blk.new w _ _).alloc _).alloc _)
 have b2:=show Blk W0 (w.heap.size+1) zhc 153 from hW0▸((Blk.zTe w _ _ _).alloc _)
 have b3:=show Blk W0 (w.heap.size+1+1) zhc 153 from hW0▸(by simpa using Blk.new ((w.alloc (.cells (zaa t kv).toArray 25)).alloc (.cells zhc.toArray 153)) zhc 153)
 have hsz:w.heap.size+3≤W0.heap.size:=by rw [← hW0];simp
 have HST:=zh (show zDk w w.heap.size W0 (zUd (t.kids.take 0)) (.slice none 0 0) (.slice none 0 0) (.slice none 0 0) from ⟨HB0.out,b2,b3,KAt.nil _ _ _,zvg.nil _ _ _,zvg.nil _ _ _,(fun g h=>by simp [Value.ownBlock] at h),hsz⟩)
 have c4:W0.cell? ⟨w.heap.size,4,none⟩=some kv:=b1.cell 4
 have HK:=zh hk0
 obtain ⟨ka,kc,rfl⟩:=hk0.len
 unfold zhc zaa at hW0
 clear b1 b2 b3 hk
 unfold zna
 go_enter Tryz.func61,Tryz.ntmps61
 go_upto_region 2 with fail
 try rw [hW0]
 clear hW0
 go_wp2_with fail
 go_loopw [9] (fun i wr=>∃ k:Nat,k≤t.kids.length∧i=.int .i64 k∧∃ sv fv cv,zDk w w.heap.size wr (zUd (t.kids.take k)) sv fv cv) (fun i _=>t.kids.length-(intOf i).toNat)
 case atStart=>exact ⟨0,by omega,rfl,_,_,_,HST.out⟩
 case round =>
  obtain ⟨k,hkk,rfl,sv,fv,cv,hst⟩:=hrel
  by_cases hlt:k<t.kids.length
  ·obtain ⟨tk,htk⟩:∃ tk,t.kids[k]?=some tk:=⟨_,List.getElem?_eq_getElem hlt⟩
   obtain ⟨g,cap,hsl,hgl,hcap,hcm,hget⟩:=(HK.out.form).resolve_left fun h=>by rw [h.2] at hlt;simp at hlt
   obtain ⟨rfl,rfl⟩:ka=some ⟨g,0,none⟩∧kc=cap:=by simpa using hsl
   obtain ⟨u,hr,hu⟩:=hget k tk htk
   have HR:=zh (zua hr hst.b hgl)
   have HTU:=zh ((hu.below hst.b).alloc (.cells (zaa tk u).toArray 25))
   have hu1:=hu.kat.one
   have HSN:=zh (show zUd (t.kids.take (k+1))=⟨bif tk.kind == 2 then tk else (zUd (t.kids.take k)).sort,bif tk.kind == 3 then (zUd (t.kids.take k)).fields++[tk] else (zUd (t.kids.take k)).fields,bif tk.kind == 4 then (zUd (t.kids.take k)).facts++[tk] else (zUd (t.kids.take k)).facts⟩ by rw [List.take_add_one,htk,Option.toList_some,zIo])
   generalize hp:zUd (t.kids.take k)=p at *
   have HPL:=zh (show p.fields.length≤4096∧p.facts.length≤4096 from by
    subst hp
    unfold zUd
    have h1:=List.length_filter_le (fun x:T=>x.kind == 3) (t.kids.take k)
    have h2:=List.length_filter_le (fun x:T=>x.kind == 4) (t.kids.take k)
    simp only [List.length_take] at h1 h2 ⊢
    omega)
   obtain ⟨W1,hW1⟩:∃ W,wr.alloc (.cells (zaa tk u).toArray 25)=W:=⟨_,rfl⟩
   have HS1:=zh (show zDk w w.heap.size W1 p sv fv cv from hW1▸hst.alloc _)
   have HB5:=zh (show Blk W1 wr.heap.size (zaa tk u) 25 from hW1▸Blk.new wr _ _)
   have hc0:W1.cell? ⟨wr.heap.size,0,none⟩=some (.int .i64 tk.kind):=HB5.out.cell 0
   rw [hW1] at HTU
   have hgn:w.heap.size+3≤wr.heap.size:=hst.lt
   have hn5:(zaa tk u).length=5:=rfl
   have p5:W1.cell? ⟨w.heap.size+1+1,5,none⟩=some fv:=HS1.out.q.cell 5
   have p6:W1.cell? ⟨w.heap.size+1+1,6,none⟩=some cv:=HS1.out.q.cell 6
   clear hget hr hu hst hsl hp htk
   cases h2:tk.kind == 2
   ·cases h3:tk.kind == 3
    ·cases h4:tk.kind == 4
     ·have HN2:=zh (HSN.out.trans (show _=p by rw [h2,h3,h4];rfl))
      go_wp2_with (first
       | ((with_reducible refine zqa 25 (.tmp 11) ?_);refine wpList_load_mid rfl 25 (.tmp 11) rfl g (k * 5) rfl (zaa tk u) _ HR.out Tryz.underlying25 rfl Tryz.zea ?_)
       | ((with_reducible refine zla 25 (.tmp 5) ?_);refine zga rfl 25 (.tmp 5) (.tmp 12) rfl (zaa tk u) (old:=zba) rfl rfl Tryz.zea rfl (zca _ _ hu1) ?_;rw [hW1]))
      go_roundw
      case rel=>exact ⟨k+1,by omega,by go_num,_,_,_,by rw [HN2.out];exact HS1.out⟩
      case measure=>simp [intOf];omega
     ·have HN2:=zh (HSN.out.trans (show _=(⟨p.sort,p.fields,p.facts++[tk]⟩:Pt) by
       rw [h2,h3,h4];rfl))
      have HSA:=zh (HS1.out.alloc (.cells (zaa tk u).toArray 25))
      have HLN:=zh (Blk.new W1 (zaa tk u) 25)
      go_wp2_with (first
       | ((with_reducible refine zqa 25 (.tmp 11) ?_);refine wpList_load_mid rfl 25 (.tmp 11) rfl g (k * 5) rfl (zaa tk u) _ HR.out Tryz.underlying25 rfl Tryz.zea ?_)
       | ((with_reducible refine zla 25 (.tmp 5) ?_);refine zga rfl 25 (.tmp 5) (.tmp 12) rfl (zaa tk u) (old:=zba) rfl rfl Tryz.zea rfl (zca _ _ hu1) ?_;rw [hW1])
       | ((with_reducible refine zqa 25 (.tmp 5) ?_);refine zia rfl 25 (.tmp 5) rfl wr.heap.size (zaa tk u) rfl HB5.out Tryz.underlying25 rfl Tryz.zea ?_)
       | (at_builtin;refine zmd rfl (.tmp 30) (.tmp 32) rfl I rfl HSA.out.c (HTU.out.alloc _) rfl HLN.out HPL.out.2 (by omega) HSA.out.lt ?_))
      intro v' w' hf hg hbk
      obtain ⟨va,vn,vc,rfl⟩:∃ a n c,v'=.slice a n c:=hf.slice.elim fun a h=>h.elim fun c h=>⟨a,_,c,h⟩
      have HS2:=zh (HSA.out.addC hg hf (hbk.imp_right fun h=>h.trans (by simp)))
      have HQ:=zh (HSA.out.q.grown hg (fun e=>by have:=(HSA.out.c.lt e.symm).1;omega))
      have p6:w'.cell? ⟨w.heap.size+1+1,6,none⟩=some cv:=HQ.out.cell 6
      have hfr:w'.frozen? ⟨w.heap.size+1+1,6,none⟩=false:=(HQ.out.there 6 1 (by show 6+1≤7;omega) 0 (by omega)).2
      clear hf hg hbk
      go_wp2
      go_roundw
      case rel=>exact ⟨k+1,by omega,by go_num,_,_,_,by rw [HN2.out];exact HS2.out⟩
      case measure=>simp [intOf];omega
    ·have HN2:=zh (HSN.out.trans (show _=(⟨p.sort,p.fields++[tk],p.facts⟩:Pt) by
      have h4:(tk.kind == 4)=false:=by rw [beq_iff_eq.1 h3];rfl
      rw [h2,h3,h4];rfl))
     have HSA:=zh (HS1.out.alloc (.cells (zaa tk u).toArray 25))
     have HLN:=zh (Blk.new W1 (zaa tk u) 25)
     go_wp2_with (first
      | ((with_reducible refine zqa 25 (.tmp 11) ?_);refine wpList_load_mid rfl 25 (.tmp 11) rfl g (k * 5) rfl (zaa tk u) _ HR.out Tryz.underlying25 rfl Tryz.zea ?_)
      | ((with_reducible refine zla 25 (.tmp 5) ?_);refine zga rfl 25 (.tmp 5) (.tmp 12) rfl (zaa tk u) (old:=zba) rfl rfl Tryz.zea rfl (zca _ _ hu1) ?_;rw [hW1])
      | ((with_reducible refine zqa 25 (.tmp 5) ?_);refine zia rfl 25 (.tmp 5) rfl wr.heap.size (zaa tk u) rfl HB5.out Tryz.underlying25 rfl Tryz.zea ?_)
      | (at_builtin;refine zmd rfl (.tmp 22) (.tmp 24) rfl I rfl HSA.out.f (HTU.out.alloc _) rfl HLN.out HPL.out.1 (by omega) HSA.out.lt ?_))
     intro v' w' hf hg hbk
     obtain ⟨va,vn,vc,rfl⟩:∃ a n c,v'=.slice a n c:=hf.slice.elim fun a h=>h.elim fun c h=>⟨a,_,c,h⟩
     have HS2:=zh (HSA.out.addF hg hf (hbk.imp_right fun h=>h.trans (by simp)))
     have HQ:=zh (HSA.out.q.grown hg (fun e=>by have:=(HSA.out.f.lt e.symm).1;omega))
     have p5:w'.cell? ⟨w.heap.size+1+1,5,none⟩=some fv:=HQ.out.cell 5
     have hfr:w'.frozen? ⟨w.heap.size+1+1,5,none⟩=false:=(HQ.out.there 5 1 (by show 5+1≤7;omega) 0 (by omega)).2
     clear hf hg hbk
     go_wp2
     go_roundw
     case rel=>exact ⟨k+1,by omega,by go_num,_,_,_,by rw [HN2.out];exact HS2.out⟩
     case measure=>simp [intOf];omega
   ·have HN2:=zh (HSN.out.trans (show _=(⟨tk,p.fields,p.facts⟩:Pt) by
     have h3:(tk.kind == 3)=false:=by rw [beq_iff_eq.1 h2];rfl
     have h4:(tk.kind == 4)=false:=by rw [beq_iff_eq.1 h2];rfl
     rw [h2,h3,h4];rfl))
    have HS2:=zh (HS1.out.set (p':=⟨tk,p.fields,p.facts⟩) (sv':=u) (fv':=fv) (cv':=cv) HTU.out.kat HS1.out.f HS1.out.c HS1.out.ne)
    have HEQ:=zh (zad (zaa tk u) 0 W1 (zDa p sv fv cv) HS1.out.q)
    go_wp2_with (first
     | ((with_reducible refine zqa 25 (.tmp 11) ?_);refine wpList_load_mid rfl 25 (.tmp 11) rfl g (k * 5) rfl (zaa tk u) _ HR.out Tryz.underlying25 rfl Tryz.zea ?_)
     | ((with_reducible refine zla 25 (.tmp 5) ?_);refine zga rfl 25 (.tmp 5) (.tmp 12) rfl (zaa tk u) (old:=zba) rfl rfl Tryz.zea rfl (zca _ _ hu1) ?_;rw [hW1])
     | ((with_reducible refine zqa 25 (.tmp 5) ?_);refine zia rfl 25 (.tmp 5) rfl wr.heap.size (zaa tk u) rfl HB5.out Tryz.underlying25 rfl Tryz.zea ?_)
     | ((with_reducible refine zla 25 (.tmp 18) ?_);refine wpList_store_mid rfl 25 (.tmp 18) (.tmp 17) rfl (w.heap.size+1+1) 0 (zaa tk u).toArray rfl rfl (HS1.out.q.there 0 5 (by show 0+5≤7;omega)) Tryz.zea (all_oneCell_toArray (zca _ _ hu1)) ?_;rw [List.toList_toArray,HEQ.out]))
    go_roundw
    case rel=>exact ⟨k+1,by omega,by go_num,_,_,_,by rw [HN2.out];exact HS2.out⟩
    case measure=>simp [intOf];omega
  ·obtain rfl:k=t.kids.length:=by omega
   rw [List.take_of_length_le (Nat.le_refl _)] at hst
   have hZ:=hst.z
   have hQ:=hst.q
   have HST2:=zh hst
   have hone:∀ y∈zDa (zUd t.kids) sv fv cv,y.oneCell'=true:=by
    intro y hy
    simp only [zDa,List.mem_cons,List.not_mem_nil,or_false] at hy
    rcases hy with rfl|rfl|rfl|rfl|rfl|rfl|rfl
    all_goals first|rfl|exact hst.s.one|exact hst.f.one|exact hst.c.one
   have HONE:=zh hone
   clear hst hone
   go_wp2_with (first
    | ((with_reducible refine zqa 153 (.tmp 3) ?_);refine zia rfl 153 (.tmp 3) rfl (w.heap.size+1+1) (zDa (zUd t.kids) sv fv cv) rfl hQ Tryz.underlying153 rfl Tryz.zoc ?_)
    | ((with_reducible refine zla 153 (.tmp 2) ?_);refine zda rfl 153 (.tmp 2) (.tmp 36) rfl (w.heap.size+1) (zDa (zUd t.kids) sv fv cv) rfl rfl hZ Tryz.zoc rfl HONE.out ?_))
   have hst:=HST2.out
   exact zma (cs:=zDa (zUd t.kids) sv fv cv) Tryz.results61 rfl hZ Tryz.underlying153 rfl Tryz.zoc rfl
    ⟨sv,fv,cv,rfl,⟨(hst.s.setRow _ _ (fun b hb=>by omega)).mono fun _ _ _=>trivial,((hst.f.row _ _ (by omega) (by omega)).kat (by omega)).nsv,((hst.c.row _ _ (by omega) (by omega)).kat (by omega)).nsv⟩,Below.row hst.b (by omega) _⟩
end
section
open Go.RowKit
def fld0:ByteArray × Int:=(⟨#[]⟩,0)
theorem zgn {α:Type} (c:α→List Value) (x:α):∀ n:Nat,(List.replicate n x).flatMap c=(List.replicate n (c x)).flatten
 | 0=>rfl
 | n+1=>by rw [List.replicate_succ,List.replicate_succ,List.flatten_cons,List.flatMap_cons,zgn c x n]
theorem Tryz.zLt:(Tryz.prog.info? 173).map (fun i=>(i.zero,i.size,i.bytes))=some (some (.agg #[.string ⟨#[]⟩,.int .i64 0]),2,24):=by kernel_rfl
theorem zUp {α:Type} (l:List α) (k:Nat) (hl:l.length=k) (hk:0<k):∀ (n q:Nat),q<n * k→(List.replicate n l).flatten[q]?=l[q % k]?
 | 0,q,h=>by omega
 | n+1,q,h=>by
  rw [List.replicate_succ,List.flatten_cons]
  by_cases hq:q<k
  ·rw [List.getElem?_append_left (by omega),Nat.mod_eq_of_lt hq]
  ·rw [List.getElem?_append_right (by omega),hl,zUp l k hl hk n (q-k) (by rw [Nat.succ_mul] at h;omega)]
   congr 1
   exact (Nat.mod_eq_sub_mod (by omega)).symm
theorem zGq (z:Array Value) (k:Nat) (hz:z.size=k) (hk:0<k) (n:Nat):(madeCells z (n * k)).toList=(List.replicate n z.toList).flatten:=by
 subst hz
 apply List.ext_getElem?
 intro q
 by_cases hq:q<n * z.size
 ·rw [zUp z.toList z.size (by simp) hk n q hq]
  have hm:q % z.size<z.size:=Nat.mod_lt _ hk
  simp only [madeCells,Array.toList_map,List.getElem?_map,Array.toList_range,List.getElem?_range hq,Option.map_some,Array.getElem?_toList]
  rw [Array.getElem?_eq_getElem hm,getElem!_pos z _ hm]
 ·rw [List.getElem?_eq_none (by simp [madeCells];omega),List.getElem?_eq_none (by simp;omega)]
theorem zck (n:Nat) (hn:n≤65536) (w:World) :
  (Instr.makeSlice 64 (.int .i64 (n:Int)) (.int .i64 (n:Int))).run Tryz.prog w=.ok (.slice (some ⟨w.heap.size,0,none⟩) n n) (w.alloc (.cells ((List.replicate n fld0).flatMap zgb).toArray 173)):=by
 obtain ⟨i,h1,h2,h3,h4⟩:=info_parts Tryz.zLt
 have hr:=run_make (P:=Tryz.prog) w 64 173 i _ Tryz.underlying64 h1 h2 .i64 .i64 n n (by omega) (Int.le_refl _) (by rw [h4];omega) (by omega)
 simp only [Int.toNat_natCast,h3] at hr
 rw [hr]
 have e2:madeCells (Value.agg #[.string ⟨#[]⟩,.int .i64 0]).cells (n * 2)=((List.replicate n fld0).flatMap zgb).toArray:=by
  rw [← Array.toList_inj]
  exact (zGq #[.string ⟨#[]⟩,.int .i64 0] 2 rfl (by omega) n).trans (by rw [zgn];rfl)
 rw [e2]
def part (done:List (ByteArray × Int)) (m:Nat):List (ByteArray × Int):=done++List.replicate m fld0
theorem ztn (done:List (ByteArray × Int)) (m:Nat):(part done m).length=done.length+m:=by simp [part]
theorem zsr (done:List (ByteArray × Int)) (m:Nat) (x:ByteArray × Int):setL ((part done (m+1)).flatMap zgb) (done.length * 2) (zgb x)=(part (done++[x]) m).flatMap zgb:=by
 unfold part
 have h:(done.flatMap zgb).length=done.length * 2:=zNd zYf done
 simp only [List.flatMap_append,List.replicate_succ,List.flatMap_cons,List.flatMap_nil,List.append_nil,List.append_assoc]
 generalize done.flatMap zgb=a at h ⊢
 rw [← h]
 unfold zgb
 simp only [setL]
 rw [List.set_append_right _ _ (Nat.le_refl _),Nat.sub_self,List.set_append_right _ _ (by omega),show a.length+1-a.length=1 by omega]
 rfl
theorem zJp (done:List (ByteArray × Int)) (m:Nat) (s:ByteArray) (y z:Int):((part (done++[(s,y)]) m).flatMap zgb).set (done.length * 2+1) (.int .i64 z)=(part (done++[(s,z)]) m).flatMap zgb:=by
 unfold part
 have h:(done.flatMap zgb).length=done.length * 2:=zNd zYf done
 simp only [List.flatMap_append,List.flatMap_cons,List.flatMap_nil,List.append_nil,List.append_assoc]
 generalize done.flatMap zgb=a at h ⊢
 rw [← h,List.set_append_right _ _ (by omega),show a.length+1-a.length=1 by omega]
 rfl
structure zSq (w:World) (n:Nat) (p:Pt) (sv fv cv:Value) (W:World) (cs:List (ByteArray × Int)):Prop where
 b:Below n w W
 q:Blk W n (zDa p sv fv cv) 153
 r:Blk W (n+1) (cs.flatMap zgb) 173
section
variable {w W W':World} {n:Nat} {p:Pt} {sv fv cv:Value} {cs cs':List (ByteArray × Int)}
theorem zSq.stay (h:zSq w n p sv fv cv W cs) (hb:Below W.heap.size W W'):zSq w n p sv fv cv W' cs :=
 ⟨h.b.trans (hb.mono (Nat.le_of_lt h.q.lt)),h.q.stays hb,h.r.stays hb⟩
theorem zSq.set (h:zSq w n p sv fv cv W cs):zSq w n p sv fv cv (W.setRow (n+1) (cs'.flatMap zgb).toArray) cs' :=
 ⟨Below.row h.b (by omega) _,h.q.zta (n+1) _ (by omega),h.r.zra _⟩
end
theorem zSp {fs:List T} {srt:Int} {i:Nat} {t:T} {r:List T} (h:(zYm (fs.take i) t.text).isSome=true):zve fs srt i (t :: r)=.error (t.place,30):=by rw [zve,h];rfl
theorem zcq {fs:List T} {srt:Int} {i:Nat} {t:T} {r:List T} {e:Nat × Int} (h:zYm (fs.take i) t.text=none) (he:zmt fs srt t=.error e):zve fs srt i (t :: r)=.error e:=by rw [zve,h,he];rfl
theorem zBm {fs:List T} {srt:Int} {i:Nat} {t:T} {r:List T} {z:Int} (h:zYm (fs.take i) t.text=none) (he:zmt fs srt t=.ok z):zve fs srt i (t :: r)=pre [(t.text,z)] (zve fs srt (i+1) r):=by rw [zve,h,he];rfl
theorem zBs {fs:List T} {srt:Int} {t:T} (h:t.kids.isEmpty=true):zmt fs srt t=.ok (-1):=by unfold zmt;rw [h];rfl
theorem zKr {fs:List T} {srt:Int} {t:T} (h:t.kids.isEmpty=false):zmt fs srt t=zPq fs srt t:=by unfold zmt;rw [h];rfl
def zAt (W:World) (lo:Nat) (l:List (ByteArray × Int)) (v:Value):Prop:=zml W l (fun b=>lo≤b) v
theorem zYp {W:World} {lo:Nat} {l:List (ByteArray × Int)} {g:Nat} (h:Blk W g (l.flatMap zgb) 173) (hg:lo≤g) {n:Nat} (hn:l.length=n) (hl:n≤65536):zAt W lo l (.slice (some ⟨g,0,none⟩) n n):=by
 subst hn
 refine ⟨⟨zNd zYf l,.inr ⟨g,l.length,_,rfl,Nat.zero_le _,h,Nat.le_refl _,by unfold maxLen;omega,by rw [List.size_toArray,zNd zYf],?_⟩⟩,fun b hb=>?_⟩
 ·rw [List.take_of_length_le (by rw [zNd zYf];omega)]
 ·simp only [Value.ownBlock,Option.some.injEq] at hb
  omega
theorem zaj {w:World} {p:Pt} {sv fv cv:Value} (h:zRt w p sv fv cv) (hl:p.fields.length≤4096) (srt:Int) :
  Calls Tryz.prog 63 #[PtV p sv fv cv,.int .i64 srt] w (zJd zAt w (zve p.fields srt 0 p.fields)):=by
 have HP:=zh h
 obtain ⟨A,cap,rfl,hcap,hcm,hns⟩:=h.f
 have hmk:=zck p.fields.length (by omega)
 have HST:=zh (show zSq w w.heap.size p sv (.slice A p.fields.length cap) cv ((w.alloc (.cells (zDa p sv (.slice A p.fields.length cap) cv).toArray 153)).alloc (.cells ((List.replicate p.fields.length fld0).flatMap zgb).toArray 173)) (part [] p.fields.length) from
  ⟨((Below.refl _ _).alloc (Nat.le_refl _) _).alloc (by simp) _,(Blk.new w _ _).alloc _,Blk.zTe w _ _ _⟩)
 have HNS:=zh hns
 unfold PtV
 go_enter Tryz.func63,Tryz.ntmps63
 go_wp2_with fail
 clear hmk h hns
 go_loopw [15] (fun i wr=>∃ k:Nat,∃ m:Nat,k+m=p.fields.length∧i=.int .i64 k∧∃ done,done.length=k∧zSq w w.heap.size p sv (.slice A p.fields.length cap) cv wr (part done m)∧zve p.fields srt 0 p.fields=pre done (zve p.fields srt k (p.fields.drop k))) (fun i _=>p.fields.length-(intOf i).toNat)
 case atStart=>exact ⟨0,_,by omega,rfl,[],rfl,HST.out,by rw [pre_nil,List.drop_zero]⟩
 case round =>
  obtain ⟨k,m,hkm,rfl,done,hdl,hst,heq⟩:=hrel
  rcases m with _|m
  ·have hke:k=p.fields.length:=by omega
   have HR:=zh (show zJd zAt w (zve p.fields srt 0 p.fields) (.returned (.slice (some ⟨w.heap.size+1,0,none⟩) p.fields.length p.fields.length)) wr from by
    refine zJd.ok (a:=done) (by rw [heq,hke,List.drop_length];simp [zve,pre]) ?_ hst.b
    have h1:=hst.r
    rw [show part done 0=done by simp [part]] at h1
    exact zYp h1 (by omega) (hdl.trans hke) (by omega))
   clear hst heq
   go_wp2_with fail
   go_ret
   exact HR.out
  ·have hlt:k<p.fields.length:=by omega
   obtain ⟨tk,htk⟩:∃ tk,p.fields[k]?=some tk:=⟨_,List.getElem?_eq_getElem hlt⟩
   obtain ⟨g,rfl,hgl,hget⟩:=HNS.out (by omega)
   obtain ⟨u,hr,hu⟩:=hget k tk htk
   have HR:=zh (zua hr hst.b hgl)
   have HEQ:=zh (heq.trans (show _=pre done (zve p.fields srt k (tk :: p.fields.drop (k+1))) by rw [List.drop_eq_getElem_cons hlt,(List.getElem?_eq_some_iff.1 htk).2]))
   obtain ⟨W1,hW1⟩:∃ W,wr.alloc (.cells (zaa tk u).toArray 25)=W:=⟨_,rfl⟩
   have HS1:=zh (show zSq w w.heap.size p sv (.slice (some ⟨g,0,none⟩) p.fields.length cap) cv W1 (part done (m+1)) from hW1▸hst.stay ((Below.refl _ _).alloc (Nat.le_refl _) _))
   have HB5:=zh (show Blk W1 wr.heap.size (zaa tk u) 25 from hW1▸Blk.new wr _ _)
   have HU:Hid (∀ W,Below w.heap.size w W→KAt 25 W tk.kids (fun _=>True) u):=zh fun W hb=>hu.below hb
   have HFI:Hid (∀ W,Below w.heap.size w W→Calls Tryz.prog 87 #[.slice (some ⟨g,0,none⟩) k cap,.string tk.text] W (zie W (zYm (p.fields.take k) tk.text))):=zh fun W hb=>by
    have:=zrn tk.text (some ⟨g,0,none⟩) cap (p.fields.take k) W ((HNS.out.below hb).take k) (by simp;omega)
    rwa [show (p.fields.take k).length=k by simp;omega] at this
   have hu1:=hu.one
   have hgn:w.heap.size+1<wr.heap.size:=hst.r.lt
   clear hget hr hu hst heq htk
   go_wp2_with (first
    | ((with_reducible refine zqa 25 (.tmp 18) ?_);refine wpList_load_mid rfl 25 (.tmp 18) rfl g (k * 5) rfl (zaa tk u) _ HR.out Tryz.underlying25 rfl Tryz.zea ?_)
    | ((with_reducible refine zla 25 (.tmp 7) ?_);refine zga rfl 25 (.tmp 7) (.tmp 19) rfl (zaa tk u) (old:=zba) rfl rfl Tryz.zea rfl (zca _ _ hu1) ?_;rw [hW1]))
   clear hW1
   refine wp_region_held_drew (S:=fun W=>zSq w w.heap.size p sv (.slice (some ⟨g,0,none⟩) p.fields.length cap) cv W (part done (m+1))∧Blk W wr.heap.size (zaa tk u) 25) (by kernel_rfl) ⟨HS1.out.stay (Below.refl _ _).drew,HB5.out⟩ (fun hS=>?_)
   refine wpAnyH_take (i:=0) (oi:=⟨some 20,_,_,_,_,_⟩) (v:=.pointer (some ⟨w.heap.size,5,none⟩)) rfl (by kernel_rfl) (by kernel_rfl) (by kernel_rfl) (fun _ _ _ h=>h) (Or.inl ⟨by rfl,fun W _=>by go_simp⟩) hS ?_
   try simp only [Act.put,List.setIfInBounds_toArray,List.set_cons_zero,List.set_cons_succ]
   refine wpAnyH_take (i:=1) (oi:=⟨some 21,_,_,_,_,_⟩) (v:=.slice (some ⟨g,0,none⟩) p.fields.length cap) rfl (by kernel_rfl) (by kernel_rfl) (by kernel_rfl) (fun _ _ _ h=>h) (Or.inl ⟨by rfl,fun W hW=>by have hcx:W.cell? ⟨w.heap.size,5,none⟩=some (.slice (some ⟨g,0,none⟩) p.fields.length cap):=hW.1.q.cell 5;go_simp⟩) hS ?_
   try simp only [Act.put,List.setIfInBounds_toArray,List.set_cons_zero,List.set_cons_succ]
   refine wpAnyH_take (i:=2) (oi:=⟨some 22,_,_,_,_,_⟩) (v:=.int .i64 k) rfl (by kernel_rfl) (by kernel_rfl) (by kernel_rfl) (fun _ _ _ h=>h) (Or.inl ⟨by rfl,fun W _=>by go_simp⟩) hS ?_
   try simp only [Act.put,List.setIfInBounds_toArray,List.set_cons_zero,List.set_cons_succ]
   refine wpAnyH_take (i:=3) (oi:=⟨some 23,_,_,_,_,_⟩) (v:=.slice (some ⟨g,0,none⟩) k cap) rfl (by kernel_rfl) (by kernel_rfl) (by kernel_rfl) (fun _ _ _ h=>h) (Or.inl ⟨by rfl,fun W _=>by go_simp;intro h;omega⟩) hS ?_
   try simp only [Act.put,List.setIfInBounds_toArray,List.set_cons_zero,List.set_cons_succ]
   refine wpAnyH_take (i:=4) (oi:=⟨some 24,_,_,_,_,_⟩) (v:=.pointer (some ⟨wr.heap.size,1,none⟩)) rfl (by kernel_rfl) (by kernel_rfl) (by kernel_rfl) (fun _ _ _ h=>h) (Or.inl ⟨by rfl,fun W _=>by go_simp⟩) hS ?_
   try simp only [Act.put,List.setIfInBounds_toArray,List.set_cons_zero,List.set_cons_succ]
   refine wpAnyH_take (i:=5) (oi:=⟨some 25,_,_,_,_,_⟩) (v:=.string tk.text) rfl (by kernel_rfl) (by kernel_rfl) (by kernel_rfl) (fun _ _ _ h=>h) (Or.inl ⟨by rfl,fun W hW=>by have hcx:W.cell? ⟨wr.heap.size,1,none⟩=some (.string tk.text):=hW.2.cell 1;go_simp⟩) hS ?_
   try simp only [Act.put,List.setIfInBounds_toArray,List.set_cons_zero,List.set_cons_succ]
   refine AnyH.only (i:=6) (o:=⟨some 26,_,_,_,_,_⟩) (by kernel_rfl) rfl (by rfl) (fun K hK=>?_)
   go_simp
   refine (HFI.out _ hS.1.b).mono ?_
   rintro e w2 ⟨rfl,hb⟩
   have HS2:=zh (hS.1.stay hb)
   have HB2:=zh (hS.2.stays hb)
   refine hK.out _ _ ⟨HS2.out,HB2.out⟩ ?_
   clear hK K hS hb
   try simp only [Act.put,List.setIfInBounds_toArray,List.set_cons_zero,List.set_cons_succ]
   have d0:w2.cell? ⟨wr.heap.size,0,none⟩=some (.int .i64 tk.kind):=HB2.out.cell 0
   have d1:w2.cell? ⟨wr.heap.size,1,none⟩=some (.string tk.text):=HB2.out.cell 1
   have d2:w2.cell? ⟨wr.heap.size,2,none⟩=some (.int .i64 tk.num):=HB2.out.cell 2
   have d3:w2.cell? ⟨wr.heap.size,3,none⟩=some (.int .i64 tk.place):=HB2.out.cell 3
   have d4:w2.cell? ⟨wr.heap.size,4,none⟩=some u:=HB2.out.cell 4
   cases hf:zYm (p.fields.take k) tk.text with
   | some j =>
    have HRes:=zh (show zve p.fields srt 0 p.fields=.error (tk.place,30) from HEQ.out.trans (by rw [zSp (by rw [hf];rfl)];rfl))
    have hne:((j:Int) != -1)=true:=by simp
    simp only [oi]
    refine wpAnyH_take (i:=7) (oi:=⟨some 27,_,_,_,_,_⟩) (v:=.bool true) rfl (by kernel_rfl) (by kernel_rfl) (by kernel_rfl) (fun _ _ _ h=>h) (Or.inl ⟨by rfl,fun W _=>by go_simp⟩) ⟨HS2.out,HB2.out⟩ ?_
    try simp only [Act.put,List.setIfInBounds_toArray,List.set_cons_zero,List.set_cons_succ]
    refine wpAnyH_done (by kernel_rfl) ?_ _
    have HFA:=zh (zmc tk u 30 w2)
    unfold zna at HFA
    go_wp2_with fail
    refine HFA.out.mono ?_
    rintro e w3 ⟨rfl,hb⟩
    go_wp2_with fail
    exact ⟨rfl,zJd.err HRes.out (HS2.out.b.trans (hb.mono HS2.out.b.size))⟩
   | none =>
    simp only [oi]
    refine wpAnyH_take (i:=7) (oi:=⟨some 27,_,_,_,_,_⟩) (v:=.bool false) rfl (by kernel_rfl) (by kernel_rfl) (by kernel_rfl) (fun _ _ _ h=>h) (Or.inl ⟨by rfl,fun W _=>by go_simp⟩) ⟨HS2.out,HB2.out⟩ ?_
    try simp only [Act.put,List.setIfInBounds_toArray,List.set_cons_zero,List.set_cons_succ]
    refine wpAnyH_done (by kernel_rfl) ?_ _
    have HF:=zh hf
    clear hf
    have hsr:(part done (m+1)).flatMap zgb=(part done (m+1)).flatMap zgb:=rfl
    have HSC:=zh (zad (zgb (tk.text,-1)) (k * 2) w2 _ HS2.out.r)
    have HS3:=zh (HS2.out.set (cs':=part (done++[(tk.text,-1)]) m))
    have HE3:=zh (show w2.setCells (w.heap.size+1) (k * 2) (zgb (tk.text,-1))=w2.setRow (w.heap.size+1) ((part (done++[(tk.text,-1)]) m).flatMap zgb).toArray from by rw [HSC.out,← hdl,zsr])
    have HTH:=zh (HS2.out.r.there (k * 2) 2 (by rw [zNd zYf,ztn];omega))
    obtain ⟨W3,hW3⟩:∃ W,w2.setRow (w.heap.size+1) ((part (done++[(tk.text,-1)]) m).flatMap zgb).toArray=W:=⟨_,rfl⟩
    rw [hW3] at HS3 HE3
    have HB3:=zh (show Blk W3 wr.heap.size (zaa tk u) 25 from hW3▸HB2.out.zta _ _ (by omega))
    have HU3:=zh (HU.out _ HS3.out.b)
    have e0:W3.cell? ⟨wr.heap.size,0,none⟩=some (.int .i64 tk.kind):=HB3.out.cell 0
    have e1:W3.cell? ⟨wr.heap.size,1,none⟩=some (.string tk.text):=HB3.out.cell 1
    have e2:W3.cell? ⟨wr.heap.size,2,none⟩=some (.int .i64 tk.num):=HB3.out.cell 2
    have e3:W3.cell? ⟨wr.heap.size,3,none⟩=some (.int .i64 tk.place):=HB3.out.cell 3
    have e4:W3.cell? ⟨wr.heap.size,4,none⟩=some u:=HB3.out.cell 4
    have HIA:=zh (zai (t:=tk) HU3.out)
    unfold zna at HIA
    go_wp2_with (first
     | ((with_reducible refine zla 173 (.tmp 35) ?_);(refine wpList_store_mid rfl 173 (.tmp 35) (.tmp 34) rfl (w.heap.size+1) (k * 2) (zgb (tk.text,-1)).toArray rfl rfl HTH.out Tryz.zWs (by simp [zgb,Value.oneCell']) ?_;rw [List.toList_toArray,HE3.out])))
    refine HIA.out.mono ?_
    rintro e w4 ⟨rfl,hb⟩
    have HS4:=zh (HS3.out.stay hb)
    have HB4:=zh (HB3.out.stays hb)
    clear hb HIA e0 e1 e2 e3 e4 d0 d1 d2 d3 d4 hW3
    cases hq:tk.kids.isEmpty
    ·have HFP:=zh (zKr (fs:=p.fields) (srt:=srt) hq)
     have HSZ:=zh (zCn (p:=p) (sv:=sv) (cv:=cv) (HP.out.below HS4.out.b).f (t:=tk) (HU.out _ HS4.out.b) srt)
     unfold PtV zna at HSZ
     have hq4:=HS4.out.q
     have hb4:=HB4.out
     go_wp2_with (first
      | ((with_reducible refine zqa 153 (.tmp 2) ?_);refine zia rfl 153 (.tmp 2) rfl w.heap.size (zDa p sv (.slice (some ⟨g,0,none⟩) p.fields.length cap) cv) rfl hq4 Tryz.underlying153 rfl Tryz.zoc ?_)
      | ((with_reducible refine zqa 25 (.tmp 7) ?_);refine zia rfl 25 (.tmp 7) rfl wr.heap.size (zaa tk u) rfl hb4 Tryz.underlying25 rfl Tryz.zea ?_))
     refine HSZ.out.mono ?_
     clear HSZ hq4 hb4
     intro e w5 hp
     cases hz:zPq p.fields srt tk with
     | error pc =>
      obtain ⟨q,c⟩:=pc
      rw [hz] at hp
      obtain ⟨rfl,hb⟩:=hp
      have HRes:=zh (show zve p.fields srt 0 p.fields=.error (q,c) from HEQ.out.trans (by rw [zcq HF.out (HFP.out.trans hz)];rfl))
      clear hz
      go_wp2_with fail
      exact ⟨rfl,zJd.err HRes.out (HS4.out.b.trans (hb.mono HS4.out.b.size))⟩
     | ok z =>
      rw [hz] at hp
      obtain ⟨v,rfl,rfl,hb⟩:=hp
      have HS5:=zh (HS4.out.stay hb)
      have HN:=zh (show zve p.fields srt 0 p.fields=pre (done++[(tk.text,z)]) (zve p.fields srt (k+1) (p.fields.drop (k+1))) from HEQ.out.trans (by rw [zBm HF.out (HFP.out.trans hz),zPl]))
      have HS6:=zh (show zSq w w.heap.size p sv (.slice (some ⟨g,0,none⟩) p.fields.length cap) cv (w5.setCell ⟨w.heap.size+1,k * 2+1,none⟩ (.int .i64 z)) (part (done++[(tk.text,z)]) m) from by
       rw [setCell_eq_setRow w5 (w.heap.size+1) (k * 2+1) _ _ (0,0) (.int .i64 z) HS5.out.r,List.setIfInBounds_toArray,← hdl,zJp]
       exact HS5.out.set)
      have hth:=HS5.out.r.there (k * 2+1) 1 (by rw [zNd zYf,ztn];simp;omega) 0 (by omega)
      have hth1:(w5.cell? ⟨w.heap.size+1,k * 2+1,none⟩).isSome=true:=hth.1
      have hth2:w5.frozen? ⟨w.heap.size+1,k * 2+1,none⟩=false:=hth.2
      obtain ⟨x,hx⟩:=Option.isSome_iff_exists.1 hth1
      clear hz hb hth hth1
      go_wp2
      go_roundw
      case rel=>exact ⟨k+1,m,by omega,by go_num,done++[(tk.text,z)],by simp [hdl],HS6.out,HN.out⟩
      case measure=>simp [intOf];omega
    ·have HN:=zh (show zve p.fields srt 0 p.fields=pre (done++[(tk.text,-1)]) (zve p.fields srt (k+1) (p.fields.drop (k+1))) from HEQ.out.trans (by rw [zBm HF.out (zBs hq),zPl]))
     go_wp2_with fail
     go_roundw
     case rel=>exact ⟨k+1,m,by omega,by go_num,done++[(tk.text,-1)],by simp [hdl],HS4.out,HN.out⟩
     case measure=>simp [intOf];omega
end
section
open Go.RowKit Go.Maps
structure zLl (w:World) (B R M:Nat) (tys:List Ty) (tv:Value):Prop where
 l:Blk w R [tv,.map (some M)] 124
 t:zOc w tys (fun b=>B≤b∧b≠R∧b≠M) tv
 m:MapAt w M tys
 lo:B≤R∧B≤M
 ne:R≠M
theorem zLl.below {w w':World} {B R M:Nat} {tys:List Ty} {tv:Value} (h:zLl w B R M tys tv) (hb:Below w.heap.size w w'):zLl w' B R M tys tv:=⟨h.l.stays hb,h.t.below hb,h.m.below hb,h.lo,h.ne⟩
theorem zUg {w:World} {g:Nat} {p:Pt} {sv fv cv:Value} (h:Blk w g (zDa p sv fv cv) 153):w.rangeAt g 0 (zaa p.sort sv):=fun j v hj=>by
 rw [Nat.zero_add,h.cell j]
 match j,hj with
 | 0,hj|1,hj|2,hj|3,hj|4,hj=>exact hj
 | j+5,hj=>simp [zaa] at hj
theorem zWq {tys:List Ty} {p:Pt} {srt:Int} (hs:(srt == 2 || srt == 3)=true):ofP tys p srt=match zsj p.fields (zJa p.sort 0).text with|none=>.error (p.sort.place,32)|some i=>.ok (i:Int):=by unfold ofP;rw [hs];rfl
theorem zOr {tys:List Ty} {p:Pt} {srt:Int} (hs:(srt == 2 || srt == 3)=false) (h4:(srt == 4)=false):ofP tys p srt=.ok 0:=by unfold ofP;rw [hs,h4];rfl
theorem zxq {tys:List Ty} {p:Pt}:ofP tys p 4=match zze tys (zJa p.sort 0).text with
  | none=>.error (p.sort.place,31)
  | some k=>bif (tys[k]?.map (·.sort)).getD 0 != 3 then .error (p.sort.place,31) else bif !p.fields.isEmpty || !p.facts.isEmpty then .error (p.sort.place,32) else .ok (k:Int):=rfl
theorem zVu {w:World} {B R M:Nat} {tys:List Ty} {tv:Value} (hr:zLl w B R M tys tv) {p:Pt} {sv fv cv:Value} (h:zRt w p sv fv cv) (hz:(zJa p.sort 0).text.size≤maxLen) (srt:Int) :
  Calls Tryz.prog 64 #[.pointer (some ⟨R,0,none⟩),PtV p sv fv cv,.int .i64 srt] w (zJd VInt w (ofP tys p srt)):=by
 have HP:=zh h
 have HRD:=zh hr
 obtain ⟨A,cap,rfl,hcap,hcm,_⟩:=h.f
 obtain ⟨A2,cap2,rfl,hcap2,hcm2,_⟩:=h.c
 obtain ⟨W0,hW0⟩:∃ W,w.alloc (.cells (zDa p sv (.slice A p.fields.length cap) (.slice A2 p.facts.length cap2)).toArray 153)=W:=⟨_,rfl⟩
 have HB0:=zh (show Below w.heap.size w W0 from hW0▸(Below.refl _ _).alloc (Nat.le_refl _) _)
 have HQ:=zh (show Blk W0 w.heap.size (zDa p sv (.slice A p.fields.length cap) (.slice A2 p.facts.length cap2)) 153 from hW0▸Blk.new w _ _)
 have HFR:=zh (zUg HQ.out)
 have hfn:=zzk
 have HKN:=zh (zvb (t:=p.sort) (h.s.below HB0.out) 0)
 unfold zDa at hW0
 unfold PtV
 clear h hr
 go_enter Tryz.func64,Tryz.ntmps64
 go_wp2_with ((with_reducible refine zqa 25 (.tmp 11) ?_);refine wpList_load_mid rfl 25 (.tmp 11) rfl w.heap.size 0 rfl (zaa p.sort sv) _ HFR.out Tryz.underlying25 rfl Tryz.zea ?_)
 try rw [hW0]
 clear hW0
 refine HKN.out.mono ?_
 rintro e w1 ⟨u,rfl,_,hb⟩
 have HB1:=zh (HB0.out.trans (hb.mono HB0.out.size))
 have HQ1:=zh (HQ.out.stays hb)
 have HR1:=zh (HRD.out.below HB1.out)
 clear hb HFR HKN HB0 HQ
 unfold zna
 go_upto_region 2 with fail
 have q4:=HQ1.out
 have p5:w1.cell? ⟨w.heap.size,5,none⟩=some (.slice A p.fields.length cap):=q4.cell 5
 have p6:w1.cell? ⟨w.heap.size,6,none⟩=some (.slice A2 p.facts.length cap2):=q4.cell 6
 cases hs:srt == 2 || srt == 3
 ·cases h4:srt == 4
  ·obtain ⟨hs2,hs3⟩:=Bool.or_eq_false_iff.1 hs
   have HR:=zh (zOr (tys:=tys) (p:=p) hs h4)
   go_wp2_with fail
   go_ret
   exact zJd.ok HR.out rfl HB1.out
  ·obtain rfl:srt=4:=beq_iff_eq.1 h4
   have HG:=zh (zxq (tys:=tys) (p:=p))
   obtain ⟨c,hc,hlk⟩:=HR1.out.m.look hz
   replace hlk:=hlk w1 rfl
   have l0:w1.cell? ⟨R,0,none⟩=some tv:=HR1.out.l.cell 0
   have l1:w1.cell? ⟨R,1,none⟩=some (.map (some M)):=HR1.out.l.cell 1
   clear hs h4
   cases hf:zze tys (zJa p.sort 0).text with
   | none =>
    rw [hf] at hlk
    have HR:=zh (HG.out.trans (by rw [hf]))
    have HFA:=zh (zmc p.sort sv 31 w1)
    unfold zna at HFA
    have hfr:=zUg q4
    go_wp2_with ((with_reducible refine zqa 25 (.tmp 52) ?_);refine wpList_load_mid rfl 25 (.tmp 52) rfl w.heap.size 0 rfl (zaa p.sort sv) _ hfr Tryz.underlying25 rfl Tryz.zea ?_)
    refine HFA.out.mono ?_
    rintro e w3 ⟨rfl,hb⟩
    go_wp2_with fail
    exact ⟨rfl,zJd.err HR.out (HB1.out.trans (hb.mono HB1.out.size))⟩
   | some k =>
    rw [hf] at hlk
    obtain rfl:=hc k hf
    have hkl:=zCi hf
    obtain ⟨g2,cp2,rfl,hg2,hcp2,hcm3,hget⟩:=(HR1.out.t.form).resolve_left fun h=>by rw [h.2] at hkl;simp at hkl
    obtain ⟨ty,hty⟩:∃ ty,tys[k]?=some ty:=⟨_,List.getElem?_eq_getElem hkl⟩
    obtain ⟨pv,lv,hra,_⟩:=hget k ty hty
    have e1:w1.cell? ⟨g2,k * 5+1,none⟩=some (.int .i64 ty.sort):=hra 1 _ rfl
    have hk1:(k:Int)<(tys.length:Int):=by omega
    have HR0:=zh (HG.out.trans (show _=(bif ty.sort != 3 then .error (p.sort.place,31) else bif !p.fields.isEmpty || !p.facts.isEmpty then .error (p.sort.place,32) else .ok (k:Int):E Int) by rw [hf];simp only [hty,Option.map_some,Option.getD_some]))
    clear hget hra hty hf
    unfold maxLen at hcm3
    generalize ty.sort=so at e1 HR0
    cases hso:so != 3
    ·rw [hso] at HR0
     have HL1:=zh (zXf p.fields)
     have HL2:=zh (zXf p.facts)
     generalize p.fields.length=nf at *
     generalize p.facts.length=nc at *
     cases hl1:decide ((0:Int)<(nf:Int))
     ·have hl1':decide (0<nf)=false:=by simpa using hl1
      cases hl2:decide ((0:Int)<(nc:Int))
      ·have hl2':decide (0<nc)=false:=by simpa using hl2
       have HR:=zh (HR0.out.trans (by rw [HL1.out,HL2.out,hl1,hl2];try rfl))
       go_wp2_with fail
       go_ret
       exact zJd.ok HR.out rfl HB1.out
      ·have hl2':decide (0<nc)=true:=by simpa using hl2
       have HR:=zh (HR0.out.trans (by rw [HL1.out,HL2.out,hl1,hl2];try rfl))
       have HFA:=zh (zmc p.sort sv 32 w1)
       unfold zna at HFA
       have hfr:=zUg q4
       go_wp2_with ((with_reducible refine zqa 25 (.tmp 65) ?_);refine wpList_load_mid rfl 25 (.tmp 65) rfl w.heap.size 0 rfl (zaa p.sort sv) _ hfr Tryz.underlying25 rfl Tryz.zea ?_)
       refine HFA.out.mono ?_
       rintro e w3 ⟨rfl,hb⟩
       go_wp2_with fail
       exact ⟨rfl,zJd.err HR.out (HB1.out.trans (hb.mono HB1.out.size))⟩
     ·have hl1':decide (0<nf)=true:=by simpa using hl1
      have HR:=zh (HR0.out.trans (by rw [HL1.out,hl1];try rfl))
      have HFA:=zh (zmc p.sort sv 32 w1)
      unfold zna at HFA
      have hfr:=zUg q4
      go_wp2_with ((with_reducible refine zqa 25 (.tmp 65) ?_);refine wpList_load_mid rfl 25 (.tmp 65) rfl w.heap.size 0 rfl (zaa p.sort sv) _ hfr Tryz.underlying25 rfl Tryz.zea ?_)
      refine HFA.out.mono ?_
      rintro e w3 ⟨rfl,hb⟩
      go_wp2_with fail
      exact ⟨rfl,zJd.err HR.out (HB1.out.trans (hb.mono HB1.out.size))⟩
    ·rw [hso] at HR0
     have HR:=zh (HR0.out.trans (by rfl))
     have HFA:=zh (zmc p.sort sv 31 w1)
     unfold zna at HFA
     have hfr:=zUg q4
     go_wp2_with ((with_reducible refine zqa 25 (.tmp 52) ?_);refine wpList_load_mid rfl 25 (.tmp 52) rfl w.heap.size 0 rfl (zaa p.sort sv) _ hfr Tryz.underlying25 rfl Tryz.zea ?_)
     refine HFA.out.mono ?_
     rintro e w3 ⟨rfl,hb⟩
     go_wp2_with fail
     exact ⟨rfl,zJd.err HR.out (HB1.out.trans (hb.mono HB1.out.size))⟩
 ·have HOF:=zh (zWq (tys:=tys) (p:=p) hs)
  have HNU:=zh (zLj (p:=p) (sv:=sv) (cv:=.slice A2 p.facts.length cap2) (HP.out.below HB1.out).f (zJa p.sort 0).text)
  unfold PtV at HNU
  have hsw:(srt == 2)=true∨((srt == 2)=false∧(srt == 3)=true):=by
   cases h2:srt == 2
   ·rw [h2] at hs;exact .inr ⟨rfl,by simpa using hs⟩
   ·exact .inl rfl
  rcases hsw with h2|⟨h2,h3⟩
  all_goals
   go_wp2_with ((with_reducible refine zqa 153 (.tmp 4) ?_);refine zia rfl 153 (.tmp 4) rfl w.heap.size (zDa p sv (.slice A p.fields.length cap) (.slice A2 p.facts.length cap2)) rfl q4 Tryz.underlying153 rfl Tryz.zoc ?_)
   refine HNU.out.mono ?_
   rintro e w2 ⟨rfl,hb⟩
   have HB2:=zh (HB1.out.trans (hb.mono HB1.out.size))
   have q5:=HQ1.out.stays hb
   have hfr:=zUg q5
   clear hb
   cases hn:zsj p.fields (zJa p.sort 0).text with
   | none =>
    have HR:=zh (HOF.out.trans (by rw [hn]))
    have HFA:=zh (zmc p.sort sv 32 w2)
    unfold zna at HFA
    simp only [oi]
    go_wp2_with ((with_reducible refine zqa 25 (.tmp 24) ?_);refine wpList_load_mid rfl 25 (.tmp 24) rfl w.heap.size 0 rfl (zaa p.sort sv) _ hfr Tryz.underlying25 rfl Tryz.zea ?_)
    refine HFA.out.mono ?_
    rintro e w3 ⟨rfl,hb⟩
    go_wp2_with fail
    exact ⟨rfl,zJd.err HR.out (HB2.out.trans (hb.mono HB2.out.size))⟩
   | some k =>
    have HR:=zh (HOF.out.trans (by rw [hn]))
    have hne:((k:Int) == -1)=false:=by simp
    simp only [oi]
    go_wp2_with fail
    go_ret
    exact zJd.ok HR.out rfl HB2.out
end
end Go.Proofs.YtpjnpffcnmgdcaaGreatDoor
