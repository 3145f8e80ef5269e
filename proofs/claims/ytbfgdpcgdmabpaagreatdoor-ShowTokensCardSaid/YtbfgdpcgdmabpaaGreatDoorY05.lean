/- append on a slice of trees: what comes of it holds the trees of both, in the row that was there or in a new one; all else is as it was. Nothing of the program is walked here. The contracts of the parser's methods that look at the next token or take it: peek, take, misplaced, is, accept, expectKind, name, number. The contract of the parser's expect: the next token, which must be one of those texts. -/
import Derived.Test.YtbfgdpcgdmabpaaGreatDoorY04
import Derived.Laws.AppendOwn
import Derived.Laws.AppendOwnNone
import Derived.RegionTactic
import Derived.ChangeAlike
import Derived.BigRegion
import Derived.Deep.LoopGhost
import Derived.Maps.RangeRun
import Derived.MapKept
namespace Go.Proofs.YtbfgdpcgdmabpaaGreatDoor
set_option maxRecDepth 100000
set_option maxHeartbeats 1000000
section
open Go.RowKit
theorem zMf:∀ (ks ts:List T) (vs us:List Value),vs.length=ks.length→zCb (ks++ts) (vs++us)=zCb ks vs++zCb ts us
 | [],_,[],_,_=>rfl
 | k :: ks,ts,v :: vs,us,h=>by
  simp only [List.cons_append,zCb,List.append_assoc]
  rw [zMf ks ts vs us (by simpa using h)]
theorem zjd.length {e:TypeId} {w:World}:∀ {ts:List T} {S:Nat→Prop} {vs:List Value},zjd e w ts S vs→vs.length=ts.length
 | [],_,_,h=>by unfold zjd at h;rw [h];rfl
 | t :: ts,_,_,h=>by
  unfold zjd at h
  obtain ⟨v,vs',rfl,_,h'⟩:=h
  simp [zjd.length h']
theorem zjd.append {e:TypeId} {w:World}:∀ {ks ts:List T} {S:Nat→Prop} {vs us:List Value},zjd e w ks S vs→zjd e w ts S us→zjd e w (ks++ts) S (vs++us)
 | [],_,_,_,_,h,h'=>by unfold zjd at h;rw [h];exact h'
 | k :: ks,ts,_,_,us,h,h'=>by
  unfold zjd at h
  obtain ⟨v,vs',rfl,hk,hks⟩:=h
  show zjd e w (k :: (ks++ts)) _ (v :: (vs'++us))
  unfold zjd
  exact ⟨v,vs'++us,rfl,hk,zjd.append hks h'⟩
theorem TAt.one' {e:TypeId} {w:World} {t:T} {S:Nat→Prop} {v:Value} (h:TAt e w t S v):v.oneCell'=true:=h.kat.one
theorem zLf {e:TypeId} {w:World}:∀ {ts:List T} {S:Nat→Prop} {vs:List Value},zjd e w ts S vs→∀ u∈zCb ts vs,u.oneCell'=true
 | [],_,_,_=>by intro u hu;simp [zCb] at hu
 | t :: ts,_,_,h=>by
  unfold zjd at h
  obtain ⟨v,vs',rfl,ht,hts⟩:=h
  intro u hu
  simp only [zCb,List.mem_append] at hu
  rcases hu with hu|hu
  ·exact zoa t v ht.one' u hu
  ·exact zLf hts u hu
theorem zFe {e:TypeId} {w:World}:∀ {ts:List T} {S:Nat→Prop} {vs:List Value},zjd e w ts S vs→(zCb ts vs).length=ts.length * 5
 | [],_,_,_=>by simp [zCb]
 | t :: ts,_,_,h=>by
  unfold zjd at h
  obtain ⟨v,vs',rfl,_,hts⟩:=h
  simp only [zCb,List.length_append,zFe hts,List.length_cons]
  show 5+_=_
  omega
theorem zDk {P:Program} {w:World} {t ty e:TypeId} {i:TypeInfo} {z:Value} {bytes:Nat} (ht:P.underlying t=some (.slice e)) (hi:P.info? e=some i) (hz:i.zero=some z) (hsize:i.size=5) (hby:i.bytes=bytes)
  {v:Value} {n:Nat} {xs:List Value} (hown:w.ownsRow 0 e 5 v n xs) {a:Addr} {m c:Nat} {news:List Value} (hm:0<m) (hl:news.length=m * 5) (hnews:∀ j u,news[j]?=some u→w.cell? (a.add j)=some u) (h1:∀ u∈news,u.oneCell'=true)
  (h63:n+m≤maxLen) (hbytes:(n+m) * bytes≤140737488355328) {v':Value} {w':World} (hr:(Builtin.append_ #[t,t] ty #[v,.slice (some a) m c]).run P w=.ok v' w'):v'.ownBlock=v.ownBlock∨v'.ownBlock=some w.heap.size:=by
 subst hby
 have hsmall:n+m≤9223372036854775807:=by simp only [maxLen] at h63;omega
 rw [← hsize] at hl
 rcases hown.2 with ⟨rfl,rfl⟩|⟨g,cap,cur,rfl,hbg,hg,hnc,hcm,hcs,htake⟩
 ·have h:=run_append_nil (P:=P) w t ty e i z ht hi hz a m c news hl hnews hm (by omega) (by have hb:=hbytes;simp only [Nat.zero_add] at hb;omega)
  rw [h] at hr
  cases hr
  exact .inr rfl
 ·by_cases hroom:n+m≤cap
  ·have hfit:n * i.size+news.length≤cur.size:=by rw [hl,hcs,hsize,← Nat.add_mul];exact Nat.mul_le_mul_right _ hroom
   have h:=run_append_room (P:=P) w t ty e i ht hi g n cap cur hg a m c news hl hnews h1 hroom hfit
   rw [h] at hr
   cases hr
   exact .inl rfl
  ·have h:=run_append_grow (P:=P) w t ty e i z ht hi hz ⟨g,0,none⟩ n cap xs (by rw [hown.1,hsize]) (hown.cells (g:=g) rfl) a m c news hl hnews (by omega) (by omega) (growslice_fits (by omega) hbytes)
   rw [h] at hr
   cases hr
   exact .inr rfl
structure zWf (P:Program) (t e:TypeId) (i:TypeInfo) (z:Value):Prop where
 ht:P.underlying t=some (.slice e)
 hi:P.info? e=some i
 hz:i.zero=some z
 size:i.size=5
 bytes:i.bytes=64
 zs:z.cells.size=5
theorem zUh {P:Program} {w:World} {t ty e:TypeId} {i:TypeInfo} {z:Value} (I:zWf P t e i z) {ks ts:List T} {S:Nat→Prop} {v:Value} (hk:KAt e w ks S v) {us:List Value}
  (hts:zjd e w ts (fun b=>S b∧v.ownBlock≠some b) us) (hS:S w.heap.size) {a:Addr} {c:Nat} (hm:0<ts.length) (hnews:∀ j u,(zCb ts us)[j]?=some u→w.cell? (a.add j)=some u) (hb:ks.length+ts.length≤100000) :
  ∃ v' w',(Builtin.append_ #[t,t] ty #[v,.slice (some a) ts.length c]).run P w=.ok v' w'∧KAt e w' (ks++ts) S v'∧w.grownBy w' v.ownBlock∧(v'.ownBlock=v.ownBlock∨v'.ownBlock=some w.heap.size):=by
 obtain ⟨vs,hown,hSv,hks⟩:=hk
 obtain ⟨v',w',hr,ho',hg',_⟩:=run_append_own (P:=P) w 0 t ty e i z 5 64 I.ht I.hi I.hz I.size I.bytes I.zs (by decide) v ks.length (zCb ks vs) hown a ts.length c (zCb ts us) (zFe hts) hnews (zLf hts)
  (by unfold maxLen;omega) (by omega) (Nat.zero_le _)
 have hbk:=zDk (ty:=ty) I.ht I.hi I.hz I.size I.bytes hown hm (zFe hts) hnews (zLf hts) (by unfold maxLen;omega) (by omega) hr
 refine ⟨v',w',hr,⟨vs++us,?_,?_,?_⟩,hg',hbk⟩
 ·rw [zMf _ _ _ _ (zjd.length hks),List.length_append]
  exact ho'
 ·intro g hg
  rcases hbk with h|h
  ·exact hSv g (h▸hg)
  ·rw [h] at hg;cases hg;exact hS
 ·have keep:∀ b,(S b∧v.ownBlock≠some b)→b<w.heap.size→(S b∧v'.ownBlock≠some b)∧w'.heap[b]?=w.heap[b]?:=fun b hb hl=>by
   refine ⟨⟨hb.1,fun h=>?_⟩,hg'.block b hl (Ne.symm hb.2)⟩
   rcases hbk with h'|h'
   ·exact hb.2 (h'▸h)
   ·rw [h'] at h;cases h;exact absurd hl (Nat.lt_irrefl _)
  exact zjd.append (zjd.keep ks hks keep) (zjd.keep ts hts keep)
theorem zEb {P:Program} {w:World} {o:Oper} {a:Act} {K:Act→World→Prop} {Q:Exit→Act→World→Prop} (s x:Operand) {t e:TypeId} (ho:o.op=.call { callee:=.builtin .append,args:=#[s,x],argTypes:=#[t,t] })
  {i:TypeInfo} {z:Value} (I:zWf P t e i z) {ks ts:List T} {S:Nat→Prop} {v:Value} (hs:a.eval s=v) (hk:KAt e w ks S v) {us:List Value}
  (hts:zjd e w ts (fun b=>S b∧v.ownBlock≠some b) us) (hS:S w.heap.size) {ad:Addr} {m c:Nat} (hx:a.eval x=.slice (some ad) m c) (hml:m=ts.length) (hm:0<ts.length) (hnews:∀ j u,(zCb ts us)[j]?=some u→w.cell? (ad.add j)=some u)
  (hb:ks.length+ts.length≤100000)
  (h:∀ v' w',KAt e w' (ks++ts) S v'→w.grownBy w' v.ownBlock→(v'.ownBlock=v.ownBlock∨v'.ownBlock=some w.heap.size)→K (a.put o.dst v') w'):o.wp P a w K Q:=by
 subst hml
 obtain ⟨v',w',hr,h2,h3,h4⟩:=zUh (ty:=o.type) (c:=c) I hk hts hS hm hnews hb
 unfold Oper.wp execOp
 simp only [ho,resolve,invoke,builtin,Sem.run_bind,Sem.run_pure,Result.andThen_ok,List.map_toArray,List.map_cons,List.map_nil,hs,hx,hr]
 exact h v' w' h2 h3 h4
theorem zAd {P:Program} {w:World} {ops:Array Oper} {rest:List Oper} {o:Oper} {a:Act} {Q:Exit→Act→World→Prop} (hgd:o.guard=none) (s x:Operand) {t e:TypeId} (ho:o.op=.call { callee:=.builtin .append,args:=#[s,x],argTypes:=#[t,t] })
  {i:TypeInfo} {z:Value} (I:zWf P t e i z) {ks ts:List T} {S:Nat→Prop} {v:Value} (hs:a.eval s=v) (hk:KAt e w ks S v) {us:List Value}
  (hts:zjd e w ts (fun b=>S b∧v.ownBlock≠some b) us) (hS:S w.heap.size) {ad:Addr} {m c:Nat} (hx:a.eval x=.slice (some ad) m c) (hml:m=ts.length) (hm:0<ts.length) (hnews:∀ j u,(zCb ts us)[j]?=some u→w.cell? (ad.add j)=some u)
  (hb:ks.length+ts.length≤100000)
  (h:∀ v' w',KAt e w' (ks++ts) S v'→w.grownBy w' v.ownBlock→(v'.ownBlock=v.ownBlock∨v'.ownBlock=some w.heap.size)→wpList P ops Q rest (a.put o.dst v') w'):wpList P ops Q (o :: rest) a w :=
 wpList_plain hgd fun _ hK=>zEb s x ho I hs hk hts hS hx hml hm hnews hb fun v' w' h2 h3 h4=>hK _ _ (h v' w' h2 h3 h4)
theorem zjf (w:World) (e:TypeId) (t:T) (v:Value):∀ j u,(zCb [t] [v])[j]?=some u→(w.alloc (.cells (zaa t v).toArray e)).cell? ((⟨w.heap.size,0,none⟩:Addr).add j)=some u:=by
 intro j u hj
 rw [Addr.add_mid,Nat.zero_add,(Blk.new w (zaa t v) e).cell j]
 simpa [zCb] using hj
theorem zMo (w:World) (e:TypeId) (t t':T) (v v':Value):∀ j u,(zCb [t,t'] [v,v'])[j]?=some u→(w.alloc (.cells (zaa t v++zaa t' v').toArray e)).cell? ((⟨w.heap.size,0,none⟩:Addr).add j)=some u:=by
 intro j u hj
 rw [Addr.add_mid,Nat.zero_add,(Blk.new w (zaa t v++zaa t' v') e).cell j]
 simpa [zCb] using hj
theorem zjd.single {e:TypeId} {w:World} {t:T} {S:Nat→Prop} {v:Value} (h:TAt e w t S v):zjd e w [t] S [v]:=by
 unfold zjd
 exact ⟨v,[],rfl,h,by unfold zjd;rfl⟩
theorem zjd.pair {e:TypeId} {w:World} {t t':T} {S:Nat→Prop} {v v':Value} (h:TAt e w t S v) (h':TAt e w t' S v'):zjd e w [t,t'] S [v,v']:=by
 unfold zjd
 exact ⟨v,[v'],rfl,h,zjd.single h'⟩
theorem Tryz.zrf:∃ i z,zWf Tryz.prog 23 25 i z:=by
 have h:(Tryz.prog.info? 25).map (fun i=>(i.zero,i.size,i.bytes))=some (some (.agg #[.int .i64 0,.string ⟨#[]⟩,.int .i64 0,.int .i64 0,.slice none 0 0]),5,64):=by kernel_rfl
 obtain ⟨i0,hi,hz0,hz1,hz2⟩:=info_parts h
 exact ⟨i0,_,Tryz.underlying23,hi,hz0,hz1,hz2,rfl⟩
theorem Run.grown {E:Env} {w W W':World} {l:List Tok} {d:Nat} (h:Run E w W l d) {row:Option Nat} (hg:W.grownBy W' row) (hr:∀ k,row=some k→w.heap.size≤k):Run E w W' l d:=by
 have hb:∀ k,k<w.heap.size→W'.heap[k]?=W.heap[k]?:=fun k hk=>hg.block k (Nat.lt_of_lt_of_le hk h.kp.size) (fun e=>by have:=hr k e.symm;omega)
 exact ⟨⟨hg.os.trans h.kp.os,hg.tape.trans h.kp.tape,hg.output.trans h.kp.output,Nat.le_trans h.kp.size hg.size,fun k hk hn=>(hb k hk).trans (h.kp.block k hk hn)⟩,h.st.same hg.size (hb _ h.lo) (hb _ h.lt),h.lo,h.lt⟩
theorem Blk.grown {w w':World} {g:Nat} {cs:List Value} {t:TypeId} (h:Blk w g cs t) {row:Option Nat} (hg:w.grownBy w' row) (hn:some g≠row):Blk w' g cs t:=(hg.block g h.lt hn).trans h
theorem KAt.slice {e:TypeId} {w:World} {ks:List T} {S:Nat→Prop} {v:Value} (h:KAt e w ks S v):∃ a n c,v=.slice a n c:=by
 obtain ⟨_,ho,_⟩:=h
 rcases ho.2 with ⟨rfl,_⟩|⟨g,cap,_,rfl,_⟩
 ·exact ⟨_,_,_,rfl⟩
 ·exact ⟨_,_,_,rfl⟩
theorem zyp (t:Tok) (l:List UInt8):isT t (bs l)=(t.text.toList == l):=by
 unfold isT
 rw [ByteArray.toList_eq (bs l)]
 simp [bs]
theorem zdk {t:Tok} {l:List UInt8} (h:isT t (bs l)=true):(t.text.toList == l)=true∧t.text.toList=l:=by
 rw [zyp] at h
 exact ⟨h,beq_iff_eq.1 h⟩
theorem zJk {t:Tok} {l:List UInt8} (h:isT t (bs l)=false):(t.text.toList == l)=false∧¬ t.text.toList=l:=by
 rw [zyp] at h
 exact ⟨h,beq_eq_false_iff_ne.1 h⟩
theorem Blk.zgc {w w':World} {g pb:Nat} {cs:List Value} {t:TypeId} (_:Kp pb w w') (h:Blk w g cs t):g<w.heap.size:=h.lt
theorem KAt.zSp {e:TypeId} {w:World} {t:T} {S:Nat→Prop} {v:Value} (h:TAt e w t S v) (a:Addr) (x:Value) (ha:∀ b,S b→b≠a.block) (hS:S w.heap.size) :
  KAt e ((w.setCell a x).alloc (.cells (zaa t v).toArray e)) [t] S (.slice (some ⟨w.heap.size,0,none⟩) 1 1):=by
 have h1:=KAt.zVt (h.setCell a x ha) (by rw [show (w.setCell a x).heap.size=w.heap.size by simp [World.setCell]];exact hS)
 rwa [show (w.setCell a x).heap.size=w.heap.size by simp [World.setCell]] at h1
theorem zic {P:Program} {o:Oper} {a:Act} {w:World} {K:Act→World→Prop} {Q:Exit→Act→World→Prop} (ty:TypeId) (x y:Operand) (ho:o.op=.store ty x y)
  (g:Nat) (cells:List Value) (hx:a.eval x=.pointer (some ⟨g,0,none⟩)) (hy:a.eval y=.agg cells.toArray)
  {t:TypeId} {old:List Value} (hg:Blk w g old t) (hi:(P.info? ty).map (·.size)=some cells.length)
  (hold:old.length=cells.length) (h1:∀ v∈cells,v.oneCell'=true)
  (h:K (a.put o.dst undef) (w.setRow g cells.toArray)):o.wp P a w K Q :=
 wp_store_row ty x y ho g cells.toArray hx hy t old.toArray hg (by simpa using hi) (by simpa using hold) (all_oneCell_toArray h1) h
theorem znf {P:Program} {fn:Func} {s:Tmp} {ty t:TypeId} (h:fn.results=#[.cell s ty]) {a:Act} {W:World} {g:Nat} {old cs:List Value} {d:TypeDesc} {R:Ending→World→Prop} (hs:a.tmps.getD s undef=.pointer (some ⟨g,0,none⟩))
  (hb:Blk W g old t) (hu:P.underlying ty=some d) (hd:d.isRow=true) (hi:(P.info? ty).map (·.size)=some cs.length) (hdf:a.defers=[]) (hR:R (.returned (.agg cs.toArray)) (W.setRow g cs.toArray)) :
  bodyPost P fn R .ret a (W.setRow g cs.toArray) :=
 bodyPost_ret (zLe h hs (hb.zZc cs) hu hd hi) hdf hR
theorem Run.nodeAt {E:Env} {w W:World} {l l':List Tok} {d g:Nat} {r:R T} {t:T} {v:Value} (hg:w.heap.size≤g) (h:Run E w W l' d) (ht:TAt 25 W t (fun b=>g<b) v) (hr:r=.ok (t,l')) (hl:l'.length<l.length) :
  zec zvd E w l d r (.returned (zmb t v)) (W.setRow g (zaa t v).toArray) :=
 .zli hr rfl ⟨v,rfl,(ht.setRow _ _ (fun b hb=>by omega)).mono (fun b hb _=>by omega)⟩ (h.setRow hg _).st hl (h.setRow hg _).kp
def zLh {α:Type} (V:World→Nat→α→Value→Prop) (E:Env) (w:World) (l:List Tok) (d:Nat) (r:R α) (e:Ending) (w':World):Prop :=
 match r with
 | .ok (a,l')=>∃ v,e=.returned v∧V w' w.heap.size a v∧PSt E w' l' d∧l'.length≤l.length∧Kp E.pb w w'
 | .error (p,c)=>e=.panicked [{ v:=zBg p c,recovered:=false }]∧Kp E.pb w w'∧(c=20∨c=21)
theorem zLh.toP {α:Type} {V:World→Nat→α→Value→Prop} {E:Env} {w:World} {l l0:List Tok} {d:Nat} {r:R α} {e:Ending} {w':World} (h:zLh V E w l d r e w') (hl:l.length<l0.length):zec V E w l0 d r e w':=by
 unfold zLh at h
 unfold zec
 cases r with
 | error pc=>exact h
 | ok q =>
  obtain ⟨v,h1,h2,h3,h4,h5⟩:=h
  exact ⟨v,h1,h2,h3,by omega,h5⟩
theorem Run.zdu {E:Env} {w W:World} {l l':List Tok} {d:Nat} {r:R T} {t:T} {v:Value} (h:Run E w W l' d) (ht:TAt 25 W t (fun b=>w.heap.size<b) v) (hr:r=.ok (t,l')) (hl:l'.length≤l.length) :
  zLh zvd E w l d r (.returned (zmb t v)) (W.setRow w.heap.size (zaa t v).toArray):=by
 rw [hr]
 exact ⟨_,rfl,⟨v,rfl,(ht.setRow _ _ (fun b hb=>by omega)).mono (fun b hb _=>by omega)⟩,(h.setRow (Nat.le_refl _) _).st,hl,(h.setRow (Nat.le_refl _) _).kp⟩
theorem Run.errE {α:Type} {V:World→Nat→α→Value→Prop} {E:Env} {w W:World} {l:List Tok} {d:Nat} {r:R α} {p:Nat} {c:Int} (hk:Kp E.pb w W) (hr:r=.error (p,c)) (hc:c=20∨c=21) :
  zLh V E w l d r (.panicked [{ v:=zBg p c,recovered:=false }]) W:=by rw [hr];exact ⟨rfl,hk,hc⟩
theorem Calls.weak {P:Program} {f:FuncId} {args:Array Value} {α:Type} {V:World→Nat→α→Value→Prop} {E:Env} {w:World} {l l0:List Tok} {d:Nat} {r:R α} (h:Calls P f args w (zLh V E w l d r)) (hl:l.length<l0.length):Calls P f args w (zec V E w l0 d r) :=
 h.mono fun _ _ hp=>hp.toP hl
theorem zke (fn:Fn) (first cap:Array Value) (w:World):(Instr.makeFunc fn first cap).run Tryz.prog w=.ok (.func fn first cap) w:=rfl
end
section
open Go.RowKit
theorem zfc {E:Env} {w:World} {l:List Tok} {d:Nat} (h:PSt E w l d) :
  Calls Tryz.prog 75 #[.pointer (some ⟨E.pb,0,none⟩)] w fun e w'=>e=.returned (zJc (hdT l))∧Below w.heap.size w w':=by
 obtain ⟨c0,c1,_,_⟩:=h.cell
 obtain ⟨t0,t1,t2,t3⟩:=h.tok
 have hk:E.ts.length-l.length<E.ts.length:=by have:=h.head.1;have:=h.le;omega
 have hlen:=h.len
 have hp:=h.plt
 have ht:=h.tlt
 generalize E.ts.length-l.length=k at *
 clear h
 go_enter Tryz.func75,Tryz.ntmps75
 go_wp2
 go_region
 go_wp2
 exact bodyPost_ret (v:=zJc (hdT l)) (by simp [results,Tryz.results75,go_sem,zJc]) rfl ⟨rfl,((Below.refl _ _).alloc (Nat.le_refl _) _).drew⟩
def zfd:List Value:=[.int .i64 0,.string ⟨#[]⟩,.int .i64 0,.int .i64 0]
theorem take_any {E:Env} {w:World} {l:List Tok} {d:Nat} (h:PSt E w l d) (he:Ends l.tail) :
  Calls Tryz.prog 136 #[.pointer (some ⟨E.pb,0,none⟩)] w fun e w'=>e=.returned (zJc (hdT l))∧PSt E w' l.tail d∧Kp E.pb w w':=by
 go_enter Tryz.func136,Tryz.ntmps136
 go_wp2_with fail
 refine (zfc (h.alloc _)).mono ?_
 rintro e w1 ⟨rfl,hb⟩
 have hk1:Kp E.pb (w.alloc _) w1:=.of_below hb
 have hs:=(h.alloc _).below hb
 obtain ⟨c0,c1,c2,cf⟩:=hs.cell
 have hlen:=h.len
 have hp:=hs.plt
 have hpw:=h.plt
 have htw:=h.tlt
 have HST:=zh (hs.step he)
 have HK:=zh (((Kp.refl E.pb w).alloc _).trans hk1)
 have HR:=zh ((Blk.new w zfd 119).kp hk1 (by omega))
 have hsz:w.heap.size<w1.heap.size:=by have:=hb.size;simp at this;omega
 clear hb hs h hk1
 unfold zJc
 generalize hkk:E.ts.length-l.length=k at *
 have hkb:k≤16385:=by omega
 clear hkk
 go_wp2_with ((with_reducible refine zlb 119 (.tmp 2) ?_);refine zma rfl 119 (.tmp 2) (.tmp 13) rfl w.heap.size (zgb (hdT l)) rfl rfl ((HR.out.setOther ⟨E.pb,1,none⟩ _ (by show _≠E.pb;omega)).alloc _) Tryz.zyh rfl (zoe _) ?_)
 exact zab (cs:=zgb (hdT l)) Tryz.results136 rfl ((HR.out.setOther ⟨E.pb,1,none⟩ _ (by show _≠E.pb;omega)).alloc _) Tryz.underlying119 rfl Tryz.zyh rfl ⟨rfl,(HST.out.alloc _).setRow (by omega) (by omega) _,((HK.out.zru _ _).alloc _).setRow (Nat.le_refl _) _⟩
theorem zmf {E:Env} {w:World} {l:List Tok} {d:Nat} (h:PSt E w l d) :
  Calls Tryz.prog 137 #[.pointer (some ⟨E.pb,0,none⟩)] w fun e w'=>e=.returned (.agg #[.int .i64 (hdT l).place,.int .i64 20])∧Below w.heap.size w w':=by
 go_enter Tryz.func137,Tryz.ntmps137
 go_wp2_with fail
 refine (zfc (h.alloc _)).mono ?_
 rintro e w1 ⟨rfl,hb⟩
 have HB:=zh (((Below.refl w.heap.size w).alloc (Nat.le_refl _) _).trans (hb.mono (by simp)))
 obtain ⟨hc,hf⟩:=zun hb
 clear hb h
 unfold zJc
 have fl0:=zGc
 have fl1:=zFc
 have fl2:=zxh
 have fl3:=zIc
 go_wp2
 exact bodyPost_ret (v:=.agg #[.int .i64 (hdT l).place,.int .i64 20]) (by simp [results,Tryz.results137,go_sem,hc]) rfl ⟨rfl,(HB.out.setCell (Nat.le_refl _) _).setCell (Nat.le_refl _) _⟩
theorem zUe {E:Env} {w:World} {l:List Tok} {d:Nat} (h:PSt E w l d) (s:ByteArray) :
  Calls Tryz.prog 135 #[.pointer (some ⟨E.pb,0,none⟩),.string s] w fun e w'=>e=.returned (.bool (isT (hdT l) s))∧Below w.heap.size w w':=by
 go_enter Tryz.func135,Tryz.ntmps135
 go_wp2_with fail
 refine (zfc h).mono ?_
 rintro e w1 ⟨rfl,hb⟩
 have HB:=zh hb
 clear hb h
 unfold zJc
 have fl0:=zGc
 have fl1:=zFc
 have fl2:=zxh
 have fl3:=zIc
 go_wp2
 go_ret
 exact ⟨rfl,HB.out⟩
theorem ztb {E:Env} {w:World} {l:List Tok} {d:Nat} (h:PSt E w l d) {s:ByteArray} (hi:isT (hdT l) s=false) :
  Calls Tryz.prog 140 #[.pointer (some ⟨E.pb,0,none⟩),.string s] w fun e w'=>e=.returned (.bool false)∧Below w.heap.size w w':=by
 go_enter Tryz.func140,Tryz.ntmps140
 go_wp2_with fail
 refine (zUe h s).mono ?_
 rintro e w1 ⟨rfl,hb⟩
 rw [hi]
 have HB:=zh hb
 clear hb h hi
 go_wp2
 go_ret
 exact ⟨rfl,HB.out⟩
theorem zkb {E:Env} {w:World} {l:List Tok} {d:Nat} (h:PSt E w l d) {s:ByteArray} (hi:isT (hdT l) s=true) (hs:0<s.size) :
  Calls Tryz.prog 140 #[.pointer (some ⟨E.pb,0,none⟩),.string s] w fun e w'=>e=.returned (.bool true)∧PSt E w' l.tail d∧Kp E.pb w w':=by
 go_enter Tryz.func140,Tryz.ntmps140
 go_wp2_with fail
 refine (zUe h s).mono ?_
 rintro e w1 ⟨rfl,hb⟩
 rw [hi]
 have h1:=h.below hb
 obtain ⟨c0,c1,c2,cf⟩:=h1.cell
 have hp:=h1.plt
 have hlen:=h.len
 have HST:=zh (h1.step (h.ends.zpo hi hs))
 have HK:=zh (Kp.of_below (pb:=E.pb) hb)
 clear hb h h1 hi hs
 generalize hkk:E.ts.length-l.length=k at *
 have hkb:k≤16385:=by omega
 clear hkk
 go_wp2
 go_ret
 exact ⟨rfl,HST.out,HK.out.zru _ _⟩
theorem zhg {E:Env} {w:World} {l:List Tok} {d:Nat} (h:PSt E w l d) (k:Nat) (hk0:0<k) :
  Calls Tryz.prog 163 #[.pointer (some ⟨E.pb,0,none⟩),.int .i64 k] w (zec VTok E w l d (zCf k l)):=by
 have hR:=(Run.start h).alloc (.cells zfd.toArray 119)
 go_enter Tryz.func163,Tryz.ntmps163
 go_wp2_with fail
 refine (zfc (h.alloc _)).mono ?_
 rintro e w1 ⟨rfl,hb⟩
 have hR1:=hR.below hb
 have HB:=zh ((Blk.new w zfd 119).kp (Kp.of_below (pb:=E.pb) hb) (by have:=h.plt;omega))
 have HR:=zh hR1
 have HL:=zh (zwf h)
 have HO:=zh h.zVr
 have HE:=zh h.ends
 clear hb h hR hR1
 by_cases hk:(hdT l).kind=k
 ·have HP:=zh (show zCf k l=.ok (hdT l,l.tail) by unfold zCf;rw [beq_iff_eq.2 hk];rfl)
  have hb:((((hdT l).kind:Int)) != (k:Int))=false:=by simp [hk]
  have HT:=zh (HE.out.tail (by omega))
  clear hk
  unfold zJc
  have fl0:=zGc
  have fl1:=zFc
  have fl2:=zxh
  have fl3:=zIc
  go_wp2_with fail
  refine (take_any HR.out.st HT.out).mono ?_
  rintro e w2 ⟨rfl,hs2,hk2⟩
  have HR2:=zh (HR.out.call hk2 hs2)
  have HB2:=zh (HB.out.kp hk2 (by have:=HR.out.lo;omega))
  clear hs2 hk2
  go_wp2_with ((with_reducible refine zlb 119 (.tmp 4) ?_);refine zma rfl 119 (.tmp 4) (.tmp 14) rfl w.heap.size (zgb (hdT l)) rfl rfl HB2.out Tryz.zyh rfl (zoe _) ?_)
  exact zab (cs:=zgb (hdT l)) Tryz.results163 rfl HB2.out Tryz.underlying119 rfl Tryz.zyh rfl
   (.zli HP.out rfl ⟨rfl,HO.out⟩ (HR2.out.setRow (Nat.le_refl _) _).st HL.out (HR2.out.setRow (Nat.le_refl _) _).kp)
 ·have HP:=zh (show zCf k l=.error ((hdT l).place,20) by unfold zCf;rw [beq_eq_false_iff_ne.2 hk];rfl)
  have hb:((((hdT l).kind:Int)) != (k:Int))=true:=by simp;omega
  clear hk
  unfold zJc
  have fl0:=zGc
  have fl1:=zFc
  have fl2:=zxh
  have fl3:=zIc
  go_wp2_with fail
  refine (zmf HR.out.st).mono ?_
  rintro e w2 ⟨rfl,hb2⟩
  have HR2:=zh (HR.out.below hb2)
  clear hb2
  go_wp2
  exact ⟨rfl,Run.err HR2.out.kp HP.out (.inl rfl)⟩
theorem name_any {E:Env} {w:World} {l:List Tok} {d:Nat} (h:PSt E w l d) :
  Calls Tryz.prog 138 #[.pointer (some ⟨E.pb,0,none⟩)] w (zec VStr E w l d (zdd l)):=by
 go_enter Tryz.func138,Tryz.ntmps138
 go_wp2_with fail
 refine (zhg h 1 (by omega)).mono ?_
 intro e w1 hp
 cases hr:zCf 1 l with
 | error pc =>
  obtain ⟨p,c⟩:=pc
  obtain ⟨rfl,hk,hcd⟩:=hp.err hr
  go_wp2
  exact ⟨rfl,Run.err hk (by unfold zdd;exact zNa hr _) hcd⟩
 | ok q =>
  obtain ⟨t,l1⟩:=q
  obtain ⟨v,rfl,⟨rfl,ho⟩,hs,hl,hk⟩:=hp.ok hr
  have HP:=zh (show zdd l=.ok (t.text,l1) by unfold zdd;exact zHa hr _)
  have HS:=zh hs
  have HK:=zh hk
  have HL:=zh hl
  clear hr hp h hs hk hl
  unfold zJc
  have fl0:=zGc
  have fl1:=zFc
  have fl2:=zxh
  have fl3:=zIc
  go_wp2
  go_ret
  exact .zli HP.out rfl rfl HS.out HL.out HK.out
theorem zBe {E:Env} {w:World} {l:List Tok} {d:Nat} (h:PSt E w l d) :
  Calls Tryz.prog 185 #[.pointer (some ⟨E.pb,0,none⟩)] w (zec VNum E w l d (zVb l)):=by
 go_enter Tryz.func185,Tryz.ntmps185
 go_wp2_with fail
 refine (zhg h 3 (by omega)).mono ?_
 intro e w1 hp
 cases hr:zCf 3 l with
 | error pc =>
  obtain ⟨p,c⟩:=pc
  obtain ⟨rfl,hk,hcd⟩:=hp.err hr
  go_wp2
  exact ⟨rfl,Run.err hk (by unfold zVb;exact zNa hr _) hcd⟩
 | ok q =>
  obtain ⟨t,l1⟩:=q
  obtain ⟨v,rfl,⟨rfl,ho⟩,hs,hl,hk⟩:=hp.ok hr
  have HP:=zh (show zVb l=.ok ((t.num:Int),l1) by unfold zVb;exact zHa hr _)
  have HS:=zh hs
  have HK:=zh hk
  have HL:=zh hl
  have HN:=zh ho.num
  clear hr hp h hs hk hl ho
  unfold zJc
  have fl0:=zGc
  have fl1:=zFc
  have fl2:=zxh
  have fl3:=zIc
  go_wp2
  go_ret
  exact .zli HP.out rfl ⟨rfl,by omega,by have:=HN.out;omega⟩ HS.out HL.out HK.out
end
section
open Go.RowKit
theorem zJl {ss:List ByteArray} {l:List Tok} {k:Nat} {s:ByteArray} (hk:ss[k]?=some s) (h:isT (hdT l) s=true):zSa ss l=.ok (hdT l,l.tail):=by
 unfold zSa
 rw [List.any_eq_true.2 ⟨s,List.mem_of_getElem? hk,h⟩]
 rfl
theorem zyn {ss:List ByteArray} {l:List Tok} (h:∀ s∈ss,isT (hdT l) s=false):zSa ss l=.error ((hdT l).place,20):=by
 unfold zSa
 rw [List.any_eq_false.2 (fun s hs=>by simp [h s hs])]
 rfl
def zXv (ss:List ByteArray) (l:List Tok) (W:World) (g:Nat) (i:Value) (wr:World):Prop :=
 ∃ k:Nat,k≤ss.length∧ss.length≤k+g∧i=.int .i64 k∧(∀ s∈ss.take k,isT (hdT l) s=false)∧Below W.heap.size W wr
theorem zKn {E:Env} {w:World} {l:List Tok} {d:Nat} (h:PSt E w l d) (ss:List ByteArray) (hne:∀ s∈ss,0<s.size) (hn:ss.length≤8) :
  Calls Tryz.prog 115 #[.pointer (some ⟨E.pb,0,none⟩),.slice (some ⟨w.heap.size,0,none⟩) ss.length ss.length] (w.alloc (.cells (ss.map Value.string).toArray 9)) (zec VTok E w l d (zSa ss l)):=by
 have HR:=zh (((Run.start h).alloc (.cells (ss.map Value.string).toArray 9)).alloc (.cells zfd.toArray 119))
 have HC:=zh ((Blk.new w (ss.map Value.string) 9).alloc (.cells zfd.toArray 119))
 have HB:=zh (Blk.zCe w (.cells (ss.map Value.string).toArray 9) zfd 119)
 have HL:=zh (zwf h)
 have HO:=zh h.zVr
 have HE:=zh h.ends
 have HNE:=zh hne
 have hpw:=h.plt
 have htw:=h.tlt
 clear h hne
 go_enter Tryz.func115,Tryz.ntmps115
 go_wp2_with fail
 go_loopg [9] ss.length (fun g i wr=>zXv ss l ((w.alloc (.cells (ss.map Value.string).toArray 9)).alloc (.cells zfd.toArray 119)) g i wr)
 case atStart=>exact ⟨0,by omega,by omega,rfl,by simp,Below.refl _ _⟩
 case round =>
  obtain ⟨k,hk,hg,rfl,hno,hbel⟩:=hrel
  have HNO:=zh hno
  have HRW:=zh (HR.out.below hbel)
  have HBW:=zh (HB.out.kp (Kp.of_below (pb:=E.pb) hbel) (by omega))
  have HCW:=zh (HC.out.kp (Kp.of_below (pb:=E.pb) hbel) (by omega))
  have HBEL:=zh hbel
  clear hno hbel
  by_cases hlt:k<ss.length
  ·have hcell:wr.cell? ⟨w.heap.size,k,none⟩=some (.string ss[k]):=by rw [HCW.out.cell k];simp [hlt]
   cases hi:isT (hdT l) ss[k]
   ·have HI:=zh hi
    go_wp2_with fail
    refine (zUe HRW.out.st ss[k]).mono ?_
    rintro e w1 ⟨rfl,hb⟩
    rw [HI.out]
    have HB1:=zh (HBEL.out.trans (hb.mono HBEL.out.size))
    clear hb hi hcell
    go_wp2
    go_roundg (gk-1)
    case measure=>omega
    case rel =>
     refine ⟨k+1,by omega,by omega,by go_num,?_,HB1.out⟩
     intro s hs
     rw [List.take_succ_eq_append_getElem hlt] at hs
     rcases List.mem_append.1 hs with h1|h1
     ·exact HNO.out s h1
     ·rw [List.mem_singleton.1 h1];exact HI.out
   ·have HI:=zh hi
    go_wp2_with fail
    refine (zUe HRW.out.st ss[k]).mono ?_
    rintro e w1 ⟨rfl,hb⟩
    rw [HI.out]
    have HR1:=zh (HRW.out.below hb)
    have HB1:=zh (HBW.out.kp (Kp.of_below (pb:=E.pb) hb) (by omega))
    have HT:=zh (HE.out.zpo HI.out (HNE.out _ (List.getElem_mem hlt)))
    have HP:=zh (zJl (List.getElem?_eq_getElem hlt) HI.out)
    clear hb hi hcell
    go_wp2_with fail
    refine (take_any HR1.out.st HT.out).mono ?_
    rintro e w2 ⟨rfl,hs2,hk2⟩
    have HR2:=zh (HR1.out.call hk2 hs2)
    have HB2:=zh (HB1.out.kp hk2 (by omega))
    clear hs2 hk2
    unfold zJc
    go_wp2_with ((with_reducible refine zlb 119 (.tmp 4) ?_);refine zma rfl 119 (.tmp 4) (.tmp 17) rfl (w.heap.size+1) (zgb (hdT l)) rfl rfl HB2.out Tryz.zyh rfl (zoe _) ?_)
    exact zab (cs:=zgb (hdT l)) Tryz.results115 rfl HB2.out Tryz.underlying119 rfl Tryz.zyh rfl
     (.zli HP.out rfl ⟨rfl,HO.out⟩ (HR2.out.setRow (by omega) _).st HL.out (HR2.out.setRow (by omega) _).kp)
  ·have HP:=zh (zyn (ss:=ss) (l:=l) (by rw [List.take_of_length_le (by omega)] at HNO;exact HNO.out))
   go_wp2_with fail
   refine (zmf HRW.out.st).mono ?_
   rintro e w2 ⟨rfl,hb2⟩
   have HR2:=zh (HRW.out.below hb2)
   clear hb2
   go_wp2
   exact ⟨rfl,Run.err HR2.out.kp HP.out (.inl rfl)⟩
theorem zAb {E:Env} {w:World} {l:List Tok} {d g m c:Nat} (h:PSt E w l d) (ss:List ByteArray) (hne:∀ s∈ss,0<s.size) (hn:ss.length≤8) (hg:g=w.heap.size) (hm:m=ss.length) (hc:c=ss.length) :
  Calls Tryz.prog 115 #[.pointer (some ⟨E.pb,0,none⟩),.slice (some ⟨g,0,none⟩) m c] (w.alloc (.cells (ss.map Value.string).toArray 9)) (zec VTok E w l d (zSa ss l)):=by
 subst hg hm hc
 exact zKn h ss hne hn
end
end Go.Proofs.YtbfgdpcgdmabpaaGreatDoor
namespace Go.Proofs.YtbfgdpcgdmabpaaGreatDoor
set_option maxRecDepth 100000
set_option maxHeartbeats 1000000
open Go.RowKit
open Go.ChangeMaps (setBlock)
theorem zAh (w:World) (o o':Obj):setBlock (w.alloc o) w.heap.size o'=w.alloc o':=by
 unfold setBlock
 show ({ w.alloc o with heap:=(w.heap.push o).setIfInBounds w.heap.size o' }:World)=_
 have hp:(w.heap.push o).setIfInBounds w.heap.size o'=w.heap.push o':=by
  apply Array.toList_inj.1
  simp
 rw [hp]
 rfl
theorem zJp {P:Program} {w:World} {t kt et:TypeId} {r:Nat} {es:Array MapEntry} {clock:Nat} {k:ByteArray} {v:Value} (ht:P.underlying t=some (.map kt et)) (hk:P.underlying kt=some .string)
  (hb:w.heap[r]?=some (.map es clock)) (hf:Instr.findNow .string (.string k) es.toList 0=some none) :
  (Instr.mapUpdate t (.map (some r)) (.string k) v).run P w=.ok () (setBlock w r (.map (es.push ⟨.string k,v,clock⟩) (clock+1))):=by
 have h1:=MapKept.run_checkKey (P:=P) (w:=w) (k:=.string k) hk (by first|exact trivial|exact ⟨_,rfl⟩|rfl|simp [MapKept.IsKey]) false 9999
 have h2:=MapKept.run_findKey (P:=P) (w:=w) (kt:=kt) (k:=.string k) (l:=es.toList) hk hf
 have h3:=MapKept.run_getObj_map (P:=P) (w:=w) hb
 have h4:∀ o',(setObj r o').run P w=.ok () (setBlock w r o'):=fun o'=>by simp [setObj,Sem.run,hb,setBlock]
 simp [Instr.mapUpdate,run_underlying ht,h1,h2,h3,h4]
def ztk:MapEntry:=⟨.string ⟨#[43]⟩,.agg #[.int .i64 21,.int .i64 1],0⟩
def zll:MapEntry:=⟨.string ⟨#[45]⟩,.agg #[.int .i64 22,.int .i64 (-1)],1⟩
def zFd:Array MapEntry:=#[ztk,zll]
theorem zLr (w:World):Calls Tryz.prog 189 #[] w fun e w'=>e=.returned (.map (some w.heap.size))∧w'=w.alloc (.map zFd 2):=by
 have h1:(Instr.mapUpdate 221 (.map (some w.heap.size)) (.string ⟨#[43]⟩) (.agg #[.int .i64 21,.int .i64 1])).run Tryz.prog (w.alloc (.map #[] 0))=.ok () (w.alloc (.map #[ztk] 1)):=by
  have:=zJp (P:=Tryz.prog) (w:=w.alloc (.map #[] 0)) (r:=w.heap.size) (es:=#[]) (clock:=0) (k:=⟨#[43]⟩) (v:=.agg #[.int .i64 21,.int .i64 1]) Tryz.underlying221 Tryz.underlying9 (heap_alloc_new w _) rfl
  rw [zAh] at this
  exact this
 have h2:(Instr.mapUpdate 221 (.map (some w.heap.size)) (.string ⟨#[45]⟩) (.agg #[.int .i64 22,.int .i64 (-1)])).run Tryz.prog (w.alloc (.map #[ztk] 1))=.ok () (w.alloc (.map zFd 2)):=by
  have:=zJp (P:=Tryz.prog) (w:=w.alloc (.map #[ztk] 1)) (r:=w.heap.size) (es:=#[ztk]) (clock:=1) (k:=⟨#[45]⟩) (v:=.agg #[.int .i64 22,.int .i64 (-1)]) Tryz.underlying221 Tryz.underlying9 (heap_alloc_new w _) (by kernel_rfl)
  rw [zAh] at this
  exact this
 have h0:(Instr.makeMap 221 none).run Tryz.prog w=.ok (.map (some w.heap.size)) (w.alloc (.map #[] 0)):=rfl
 go_enter Tryz.func189,Tryz.ntmps189
 go_wp2
 go_ret
 exact ⟨rfl,rfl⟩
theorem zOd (w:World) (r k:Nat) (o:Obj) (h:k≠r):(setBlock w r o).heap[k]?=w.heap[k]?:=by
 unfold setBlock
 simp [Ne.symm h]
theorem heap_setBlock_same (w:World) (r:Nat) (o:Obj) (h:r<w.heap.size):(setBlock w r o).heap[r]?=some o:=by
 unfold setBlock
 simp [h]
theorem Run.setBlock {E:Env} {w W:World} {l:List Tok} {d:Nat} (h:Run E w W l d) {r:Nat} (hr:w.heap.size≤r) (o:Obj):Run E w (ChangeMaps.setBlock W r o) l d :=
 ⟨⟨h.kp.os,h.kp.tape,h.kp.output,by simpa [ChangeMaps.setBlock] using h.kp.size,fun k hk hn=>(zOd W r k o (by omega)).trans (h.kp.block k hk hn)⟩,
  h.st.same (by simp [ChangeMaps.setBlock]) (zOd _ _ _ _ (by have:=h.lo;omega)) (zOd _ _ _ _ (by have:=h.lt;omega)),h.lo,h.lt⟩
theorem Run.drew {E:Env} {w W:World} {l:List Tok} {d:Nat} (h:Run E w W l d):Run E w W.drew l d:=⟨h.kp.drew,h.st.same (Nat.le_refl _) rfl rfl,h.lo,h.lt⟩
theorem zpl {e:MapEntry} (h:e∈zFd.toList):e=ztk∨e=zll:=by
 simpa [zFd] using h
theorem zGm {e:MapEntry} {seen:Array Nat} (h:e∈(leftOf zFd seen).toList):e∈zFd.toList∧e.born ∉ seen:=by
 simp only [leftOf,Array.toList_filter,List.mem_filter] at h
 exact ⟨h.1,by simpa using h.2⟩
theorem zol {seen:Array Nat} (h:(leftOf zFd seen).size=0):0∈seen∧1∈seen:=by
 have h0:leftOf zFd seen=#[]:=Array.eq_empty_of_size_eq_zero h
 unfold leftOf at h0
 rw [Array.filter_eq_empty_iff] at h0
 have h1:=h0 ztk (by simp [zFd])
 have h2:=h0 zll (by simp [zFd])
 exact ⟨by simpa [ztk] using h1,by simpa [zll] using h2⟩
theorem zJi (seen:Array Nat):(leftOf zFd seen).size=(zFd.toList.filter fun x=>!seen.contains x.born).length:=by
 unfold leftOf
 rw [← Array.toList_filter,Array.length_toList]
theorem zbp {e:MapEntry} {seen:Array Nat} (h:e∈(leftOf zFd seen).toList):(leftOf zFd (seen.push e.born)).size<(leftOf zFd seen).size:=by
 have hm:=zGm h
 rw [zJi,zJi]
 refine filter_lt (fun x:MapEntry=>!seen.contains x.born) (fun x:MapEntry=>!(seen.push e.born).contains x.born) (fun x hx=>?_) e (by simpa using hm.2) (by simp) zFd.toList hm.1
 simp at hx ⊢
 exact hx.1
def zzw (E:Env) (w:World) (l:List Tok) (d:Nat) (g:Nat) (wr:World):Prop :=
 ∃ seen:Array Nat,Run E w wr l d∧Blk wr w.heap.size [.int .i64 0,.int .i64 0] 215∧wr.heap[w.heap.size+1]?=some (.map zFd 2)∧wr.heap[w.heap.size+2]?=some (.mapIter (some (w.heap.size+1)) 2 seen 2) ∧
  (0∈seen→isT (hdT l) (bs [43])=false)∧(1∈seen→isT (hdT l) (bs [45])=false)∧(leftOf zFd seen).size≤g
def zIt (E:Env) (w:World) (l:List Tok) (d:Nat) (e:Ending) (w':World):Prop :=
 (sumP l=none∧e=.returned (.tuple #[.agg #[.int .i64 0,.int .i64 0],.bool false])∧PSt E w' l d∧Kp E.pb w w') ∨
 ∃ k f,sumP l=some (k,f)∧(f=1∨f=-1)∧e=.returned (.tuple #[.agg #[.int .i64 k,.int .i64 f],.bool true])∧PSt E w' l.tail d∧Kp E.pb w w'
theorem zik {P:Program} {fn:Func} {s u:Tmp} {ty t:TypeId} (h:fn.results=#[.cell s ty,.tmp u]) {a:Act} {W:World} {g:Nat} {old cs:List Value} {d:TypeDesc} {R:Ending→World→Prop} {x:Value} (hs:a.tmps.getD s undef=.pointer (some ⟨g,0,none⟩))
  (hb:Blk W g old t) (hu:P.underlying ty=some d) (hd:d.isRow=true) (hi:(P.info? ty).map (·.size)=some cs.length) (hx:a.tmps.getD u undef=x) (hdf:a.defers=[]) (hR:R (.returned (.tuple #[.agg cs.toArray,x])) (W.setRow g cs.toArray)) :
  bodyPost P fn R .ret a (W.setRow g cs.toArray):=by
 refine bodyPost_ret ?_ hdf hR
 have hl:=run_loadVar_mid (P:=P) (W.setRow g cs.toArray) g 0 ty cs d (fun j v hj=>by rw [Nat.zero_add,(hb.zZc cs).cell j];exact hj) hu hd hi
 have hs':a.tmps[s]?.getD undef=.pointer (some ⟨g,0,none⟩):=by rw [← hs];simp
 have hx':a.tmps[u]?.getD undef=x:=by rw [← hx];simp
 simp [results,h,hs',asAddr,hl,hx']
theorem zys {t:Tok} {s s':ByteArray} (h:isT t s=true) (h':isT t s'=true):s.toList=s'.toList:=by
 unfold isT at h h'
 rw [← beq_iff_eq.1 h,← beq_iff_eq.1 h']
theorem Tryz.zJf:(Tryz.prog.info? 215).map (·.size)=some 2:=by kernel_rfl
theorem zLg {E:Env} {w:World} {l:List Tok} {d:Nat} (h:PSt E w l d) :
  Calls Tryz.prog 184 #[.pointer (some ⟨E.pb,0,none⟩)] w (zIt E w l d):=by
 have HR0:=zh ((((Run.start h).alloc (.cells #[.int .i64 0,.int .i64 0] 215)).alloc (.map zFd 2)).alloc (.mapIter (some (w.heap.size+1)) 2 #[] 2))
 have HB0:=zh (((Blk.new w [.int .i64 0,.int .i64 0] 215).alloc (.map zFd 2)).alloc (.mapIter (some (w.heap.size+1)) 2 #[] 2))
 have hlo:=h.plt
 have hlt:=h.tlt
 have hln:=h.len
 clear h
 have hrg:=run_range_map (P:=Tryz.prog) ((w.alloc (.cells #[.int .i64 0,.int .i64 0] 215)).alloc (.map zFd 2)) 221 9 215 (w.heap.size+1) zFd 2 Tryz.underlying221
  (by have:=heap_alloc_new (w.alloc (.cells #[.int .i64 0,.int .i64 0] 215)) (.map zFd 2);simpa using this)
 rw [show ((w.alloc (.cells #[.int .i64 0,.int .i64 0] 215)).alloc (.map zFd 2)).heap.size=w.heap.size+2 by simp] at hrg
 go_enter Tryz.func184,Tryz.ntmps184
 go_wp2_with fail
 refine (zLr _).mono ?_
 rintro e w1 ⟨rfl,rfl⟩
 go_wp2_with fail
 clear hrg
 go_loopg [4] 2 (fun g _ wr=>zzw E w l d g wr)
 case atStart =>
  refine ⟨#[],HR0.out,HB0.out,?_,?_,by simp,by simp,by rw [zJi];exact Nat.le_trans (List.length_filter_le _ _) (Nat.le_refl _)⟩
  ·have:=heap_alloc_new (w.alloc (.cells #[.int .i64 0,.int .i64 0] 215)) (.map zFd 2)
   rw [Below.heap_alloc _ _ _ (by simp)]
   simpa using this
  ·have:=heap_alloc_new ((w.alloc (.cells #[.int .i64 0,.int .i64 0] 215)).alloc (.map zFd 2)) (.mapIter (some (w.heap.size+1)) 2 #[] 2)
   simpa using this
 case round =>
  obtain ⟨seen,hR,hB,hm,hi,h0,h1,hg⟩:=hrel
  have law:=run_next_at (P:=Tryz.prog) wr 0 (w.heap.size+2) (w.heap.size+1) 2 2 seen zFd 2 hi hm (by intro x hx;rcases zpl hx with rfl|rfl<;>decide) (Nat.le_refl _)
  have HR:=zh hR
  have HB:=zh hB
  have HM:=zh hm
  have HI:=zh hi
  have HH0:=zh h0
  have HH1:=zh h1
  have hsz:w.heap.size+2<wr.heap.size:=(Array.getElem?_eq_some_iff.1 hi).1
  clear hR hB hm hi h0 h1 HR0 HB0
  rcases law with ⟨hz,hrun⟩|⟨e,he,w1,hal,hrun⟩
  ·have hnx:∀ ty,(Instr.next (.pointer (some ⟨w.heap.size+2,0,none⟩)) false ty).run Tryz.prog wr=_:=fun _=>hrun
   have HP:=zh (show sumP l=none by unfold sumP;rw [HH0.out (zol hz).1,HH1.out (zol hz).2];rfl)
   clear hrun hz hg
   go_wp2_with ((with_reducible refine zlb 215 (.tmp 2) ?_);refine zma rfl 215 (.tmp 2) (.tmp 17) rfl w.heap.size [.int .i64 0,.int .i64 0] rfl rfl HB.out Tryz.zJf rfl (by simp [Value.oneCell']) ?_)
   exact zik (cs:=[.int .i64 0,.int .i64 0]) Tryz.results184 rfl HB.out Tryz.underlying215 rfl Tryz.zJf rfl rfl
    (.inl ⟨HP.out,rfl,(HR.out.setRow (Nat.le_refl _) _).st,(HR.out.setRow (Nat.le_refl _) _).kp⟩)
  ·have hmem:=zGm he
   have HW:=zh (zbp he)
   have hR1:Run E w w1 l d:=hal.elim (fun e=>e▸HR.out) (fun e=>e▸HR.out.drew)
   have hB1:Blk w1 w.heap.size [.int .i64 0,.int .i64 0] 215:=hal.elim (fun e=>e▸HB.out) (fun e=>e▸HB.out)
   have hM1:w1.heap[w.heap.size+1]?=some (.map zFd 2):=hal.elim (fun e=>e▸HM.out) (fun e=>e▸HM.out)
   have hI1:w.heap.size+2<w1.heap.size:=hal.elim (fun e=>e▸hsz) (fun e=>e▸hsz)
   generalize hw2:setBlock w1 (w.heap.size+2) (.mapIter (some (w.heap.size+1)) 2 (seen.push e.born) 2)=w2 at hrun
   have hR2:Run E w w2 l d:=by rw [← hw2];exact hR1.setBlock (by omega) _
   have hB2:Blk w2 w.heap.size [.int .i64 0,.int .i64 0] 215:=by rw [← hw2];exact (zOd _ _ _ _ (by omega)).trans hB1
   have hM2:w2.heap[w.heap.size+1]?=some (.map zFd 2):=by rw [← hw2];exact (zOd _ _ _ _ (by omega)).trans hM1
   have hI2:w2.heap[w.heap.size+2]?=some (.mapIter (some (w.heap.size+1)) 2 (seen.push e.born) 2):=by rw [← hw2];exact heap_setBlock_same _ _ _ hI1
   have hent:=run_entry_at (P:=Tryz.prog) w2 (w.heap.size+2) (w.heap.size+1) 2 seen zFd 2 e hI2 hM2 hmem.1 (by decide)
   have hnx:∀ ty,(Instr.next (.pointer (some ⟨w.heap.size+2,0,none⟩)) false ty).run Tryz.prog wr=_:=fun _=>hrun
   have HR2:=zh hR2
   have HB2:=zh hB2
   have HM2:=zh hM2
   have HI2:=zh hI2
   have HG:=zh hg
   have hsz2:w.heap.size<w2.heap.size:=hB2.lt
   clear hrun hw2 hR2 hB2 hM2 hI2 hR1 hB1 hM1 hI1 hal hg HR HB HM HI he w1
   rcases zpl hmem.1 with rfl|rfl
   ·clear hmem
    unfold ztk at hent hnx HI2 HW
    simp only [] at hent hnx HI2 HW
    cases hi:isT (hdT l) (bs [43]) with
    | false =>
     have HN:=zh hi
     clear hi
     go_wp2_with fail
     refine (ztb (HR2.out.alloc _).st HN.out).mono ?_
     rintro e w3 ⟨rfl,hb⟩
     have HR3:=zh ((HR2.out.alloc _).below hb)
     have HB3:=zh ((HB2.out.alloc _).kp (Kp.of_below (pb:=E.pb) hb) (by omega))
     have HM3:=zh ((hb.block _ (by have:=(Array.getElem?_eq_some_iff.1 HM2.out).1;simp;omega)).trans ((Below.heap_alloc _ _ _ (Array.getElem?_eq_some_iff.1 HM2.out).1).trans HM2.out))
     have HI3:=zh ((hb.block _ (by have:=(Array.getElem?_eq_some_iff.1 HI2.out).1;simp;omega)).trans ((Below.heap_alloc _ _ _ (Array.getElem?_eq_some_iff.1 HI2.out).1).trans HI2.out))
     clear hb hent hnx
     go_wp2
     go_roundg (gk-1)
     case measure=>have:=HG.out;have:=HW.out;omega
     case rel=>exact ⟨seen.push 0,HR3.out,HB3.out,HM3.out,HI3.out,fun _=>HN.out,fun hx=>HH1.out (by simpa using hx),by have:=HG.out;have:=HW.out;omega⟩
    | true =>
     have HN:=zh hi
     have HP:=zh (show sumP l=some (21,1) by unfold sumP;rw [HN.out];rfl)
     clear hi
     go_wp2_with fail
     refine (zkb (HR2.out.alloc _).st HN.out (by decide)).mono ?_
     rintro e w3 ⟨rfl,hs,hk⟩
     have HR3:=zh ((HR2.out.alloc _).call hk hs)
     have HB3:=zh ((HB2.out.alloc _).kp hk (by omega))
     have HC3:=zh ((Blk.new w2 [.int .i64 21,.int .i64 (1)] 215).kp hk (by omega))
     clear hs hk hent hnx
     go_wp2_with (first|((with_reducible refine zCc 215 (.tmp 5) ?_);refine zAa rfl 215 (.tmp 5) rfl w2.heap.size [.int .i64 21,.int .i64 (1)] rfl HC3.out Tryz.underlying215 rfl Tryz.zJf ?_)|((with_reducible refine zlb 215 (.tmp 2) ?_);refine zma rfl 215 (.tmp 2) (.tmp 16) rfl w.heap.size [.int .i64 21,.int .i64 (1)] rfl rfl HB3.out Tryz.zJf rfl (by simp [Value.oneCell']) ?_))
     (try rw [Exit.noGoto_ret])
     exact zik (cs:=[.int .i64 21,.int .i64 (1)]) Tryz.results184 rfl HB3.out Tryz.underlying215 rfl Tryz.zJf rfl rfl
      (.inr ⟨21,1,HP.out,by omega,rfl,(HR3.out.setRow (Nat.le_refl _) _).st,(HR3.out.setRow (Nat.le_refl _) _).kp⟩)
   ·clear hmem
    unfold zll at hent hnx HI2 HW
    simp only [] at hent hnx HI2 HW
    cases hi:isT (hdT l) (bs [45]) with
    | false =>
     have HN:=zh hi
     clear hi
     go_wp2_with fail
     refine (ztb (HR2.out.alloc _).st HN.out).mono ?_
     rintro e w3 ⟨rfl,hb⟩
     have HR3:=zh ((HR2.out.alloc _).below hb)
     have HB3:=zh ((HB2.out.alloc _).kp (Kp.of_below (pb:=E.pb) hb) (by omega))
     have HM3:=zh ((hb.block _ (by have:=(Array.getElem?_eq_some_iff.1 HM2.out).1;simp;omega)).trans ((Below.heap_alloc _ _ _ (Array.getElem?_eq_some_iff.1 HM2.out).1).trans HM2.out))
     have HI3:=zh ((hb.block _ (by have:=(Array.getElem?_eq_some_iff.1 HI2.out).1;simp;omega)).trans ((Below.heap_alloc _ _ _ (Array.getElem?_eq_some_iff.1 HI2.out).1).trans HI2.out))
     clear hb hent hnx
     go_wp2
     go_roundg (gk-1)
     case measure=>have:=HG.out;have:=HW.out;omega
     case rel=>exact ⟨seen.push 1,HR3.out,HB3.out,HM3.out,HI3.out,fun hx=>HH0.out (by simpa using hx),fun _=>HN.out,by have:=HG.out;have:=HW.out;omega⟩
    | true =>
     have HN:=zh hi
     have HP:=zh (show sumP l=some (22,-1) by unfold sumP;rw [HN.out,show isT (hdT l) (bs [43])=false by cases hc:isT (hdT l) (bs [43]) with|false=>rfl|true=>exact absurd (zys hc HN.out) (by simp only [ByteArray.toList_eq];decide)];rfl)
     clear hi
     go_wp2_with fail
     refine (zkb (HR2.out.alloc _).st HN.out (by decide)).mono ?_
     rintro e w3 ⟨rfl,hs,hk⟩
     have HR3:=zh ((HR2.out.alloc _).call hk hs)
     have HB3:=zh ((HB2.out.alloc _).kp hk (by omega))
     have HC3:=zh ((Blk.new w2 [.int .i64 22,.int .i64 (-1)] 215).kp hk (by omega))
     clear hs hk hent hnx
     go_wp2_with (first|((with_reducible refine zCc 215 (.tmp 5) ?_);refine zAa rfl 215 (.tmp 5) rfl w2.heap.size [.int .i64 22,.int .i64 (-1)] rfl HC3.out Tryz.underlying215 rfl Tryz.zJf ?_)|((with_reducible refine zlb 215 (.tmp 2) ?_);refine zma rfl 215 (.tmp 2) (.tmp 16) rfl w.heap.size [.int .i64 22,.int .i64 (-1)] rfl rfl HB3.out Tryz.zJf rfl (by simp [Value.oneCell']) ?_))
     (try rw [Exit.noGoto_ret])
     exact zik (cs:=[.int .i64 22,.int .i64 (-1)]) Tryz.results184 rfl HB3.out Tryz.underlying215 rfl Tryz.zJf rfl rfl
      (.inr ⟨22,-1,HP.out,by omega,rfl,(HR3.out.setRow (Nat.le_refl _) _).st,(HR3.out.setRow (Nat.le_refl _) _).kp⟩)
end Go.Proofs.YtbfgdpcgdmabpaaGreatDoor
