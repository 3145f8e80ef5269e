/- append on a slice of trees: what comes of it holds the trees of both, in the row that was there or in a new one; all else is as it was. Nothing of the program is walked here. The contracts of the parser's methods that look at the next token or take it: peek, take, misplaced, is, accept, expectKind, name, number. The contract of the parser's expect: the next token, which must be one of those texts. The contracts of sums (the map of the signs of a sum) and of the parser's acceptSum, which goes through that map in whatever order. -/
import Derived.Test.YtpjnpffcnmgdcaaGreatDoorZ03
import Derived.Laws.AppendOwn
import Derived.Laws.AppendOwnNone
import Derived.RegionTactic
import Derived.ChangeAlike
import Derived.BigRegion
import Derived.Deep.LoopGhost
import Derived.Maps.RangeRun
import Derived.MapKept
namespace Go.Proofs.YtpjnpffcnmgdcaaGreatDoor
set_option maxRecDepth 100000
set_option maxHeartbeats 1000000
section
open Go.RowKit
theorem zwe:∀ (ks ts:List T) (vs us:List Value),vs.length=ks.length→zKa (ks++ts) (vs++us)=zKa ks vs++zKa ts us
 | [],_,[],_,_=>rfl
 | k :: ks,ts,v :: vs,us,h=>by
  simp only [List.cons_append,zKa,List.append_assoc]
  rw [zwe ks ts vs us (by simpa using h)]
theorem zGb.length {e:TypeId} {w:World}:∀ {ts:List T} {S:Nat→Prop} {vs:List Value},zGb e w ts S vs→vs.length=ts.length
 | [],_,_,h=>by unfold zGb at h;rw [h];rfl
 | t :: ts,_,_,h=>by
  unfold zGb at h
  obtain ⟨v,vs',rfl,_,h'⟩:=h
  simp [zGb.length h']
theorem zGb.append {e:TypeId} {w:World}:∀ {ks ts:List T} {S:Nat→Prop} {vs us:List Value},zGb e w ks S vs→zGb e w ts S us→zGb e w (ks++ts) S (vs++us)
 | [],_,_,_,_,h,h'=>by unfold zGb at h;rw [h];exact h'
 | k :: ks,ts,_,_,us,h,h'=>by
  unfold zGb at h
  obtain ⟨v,vs',rfl,hk,hks⟩:=h
  show zGb e w (k :: (ks++ts)) _ (v :: (vs'++us))
  unfold zGb
  exact ⟨v,vs'++us,rfl,hk,zGb.append hks h'⟩
theorem TAt.one' {e:TypeId} {w:World} {t:T} {S:Nat→Prop} {v:Value} (h:TAt e w t S v):v.oneCell'=true:=h.kat.one
theorem zuf {e:TypeId} {w:World}:∀ {ts:List T} {S:Nat→Prop} {vs:List Value},zGb e w ts S vs→∀ u∈zKa ts vs,u.oneCell'=true
 | [],_,_,_=>by intro u hu;simp [zKa] at hu
 | t :: ts,_,_,h=>by
  unfold zGb at h
  obtain ⟨v,vs',rfl,ht,hts⟩:=h
  intro u hu
  simp only [zKa,List.mem_append] at hu
  rcases hu with hu|hu
  ·exact zca t v ht.one' u hu
  ·exact zuf hts u hu
theorem zoe {e:TypeId} {w:World}:∀ {ts:List T} {S:Nat→Prop} {vs:List Value},zGb e w ts S vs→(zKa ts vs).length=ts.length * 5
 | [],_,_,_=>by simp [zKa]
 | t :: ts,_,_,h=>by
  unfold zGb at h
  obtain ⟨v,vs',rfl,_,hts⟩:=h
  simp only [zKa,List.length_append,zoe hts,List.length_cons]
  show 5+_=_
  omega
theorem zwh {P:Program} {w:World} {t ty e:TypeId} {i:TypeInfo} {z:Value} {bytes:Nat} (ht:P.underlying t=some (.slice e)) (hi:P.info? e=some i) (hz:i.zero=some z) (hsize:i.size=5) (hby:i.bytes=bytes)
  {v:Value} {n:Nat} {xs:List Value} (hown:w.ownsRow 0 e 5 v n xs) {a:Addr} {m c:Nat} {news:List Value} (hm:0<m) (hl:news.length=m * 5) (hnews:∀ j u,news[j]?=some u→w.cell? (a.add j)=some u) (h1:∀ u∈news,u.oneCell'=true)
  (h63:n+m≤maxLen) (hbytes:(n+m) * bytes≤140737488355328) {v':Value} {w':World} (hr:(Builtin.append_ #[t,t] ty #[v,.slice (some a) m c]).run P w=.ok v' w'):v'.ownBlock=v.ownBlock∨v'.ownBlock=some w.heap.size:=by
 subst hby
 have hsmall:n+m≤9223372036854775807:=by simp only [maxLen] at h63;omega
 rw [← hsize] at hl
 rcases hown.2 with ⟨rfl,rfl⟩|⟨g,cap,cur,rfl,hbg,hg,hnc,hcm,hcs,htake⟩
 ·have h:=run_append_nil (P:=P) w t ty e i z ht hi hz a m c news hl hnews hm (by omega) (by have hb:=hbytes;simp only [Nat.zero_add] at hb;omega)
  rw [h] at hr
  cases hr
  exact .inr rfl
 ·by_cases hroom:n+m≤cap
  ·have hfit:n * i.size+news.length≤cur.size:=by rw [hl,hcs,hsize,← Nat.add_mul];exact Nat.mul_le_mul_right _ hroom
   have h:=run_append_room (P:=P) w t ty e i ht hi g n cap cur hg a m c news hl hnews h1 hroom hfit
   rw [h] at hr
   cases hr
   exact .inl rfl
  ·have h:=run_append_grow (P:=P) w t ty e i z ht hi hz ⟨g,0,none⟩ n cap xs (by rw [hown.1,hsize]) (hown.cells (g:=g) rfl) a m c news hl hnews (by omega) (by omega) (growslice_fits (by omega) hbytes)
   rw [h] at hr
   cases hr
   exact .inr rfl
structure zjf (P:Program) (t e:TypeId) (i:TypeInfo) (z:Value):Prop where
 ht:P.underlying t=some (.slice e)
 hi:P.info? e=some i
 hz:i.zero=some z
 size:i.size=5
 bytes:i.bytes=64
 zs:z.cells.size=5
theorem zBh {P:Program} {w:World} {t ty e:TypeId} {i:TypeInfo} {z:Value} (I:zjf P t e i z) {ks ts:List T} {S:Nat→Prop} {v:Value} (hk:KAt e w ks S v) {us:List Value}
  (hts:zGb e w ts (fun b=>S b∧v.ownBlock≠some b) us) (hS:S w.heap.size) {a:Addr} {c:Nat} (hm:0<ts.length) (hnews:∀ j u,(zKa ts us)[j]?=some u→w.cell? (a.add j)=some u) (hb:ks.length+ts.length≤100000) :
  ∃ v' w',(Builtin.append_ #[t,t] ty #[v,.slice (some a) ts.length c]).run P w=.ok v' w'∧KAt e w' (ks++ts) S v'∧w.grownBy w' v.ownBlock∧(v'.ownBlock=v.ownBlock∨v'.ownBlock=some w.heap.size):=by
 obtain ⟨vs,hown,hSv,hks⟩:=hk
 obtain ⟨v',w',hr,ho',hg',_⟩:=run_append_own (P:=P) w 0 t ty e i z 5 64 I.ht I.hi I.hz I.size I.bytes I.zs (by decide) v ks.length (zKa ks vs) hown a ts.length c (zKa ts us) (zoe hts) hnews (zuf hts)
  (by unfold maxLen;omega) (by omega) (Nat.zero_le _)
 have hbk:=zwh (ty:=ty) I.ht I.hi I.hz I.size I.bytes hown hm (zoe hts) hnews (zuf hts) (by unfold maxLen;omega) (by omega) hr
 refine ⟨v',w',hr,⟨vs++us,?_,?_,?_⟩,hg',hbk⟩
 ·rw [zwe _ _ _ _ (zGb.length hks),List.length_append]
  exact ho'
 ·intro g hg
  rcases hbk with h|h
  ·exact hSv g (h▸hg)
  ·rw [h] at hg;cases hg;exact hS
 ·have keep:∀ b,(S b∧v.ownBlock≠some b)→b<w.heap.size→(S b∧v'.ownBlock≠some b)∧w'.heap[b]?=w.heap[b]?:=fun b hb hl=>by
   refine ⟨⟨hb.1,fun h=>?_⟩,hg'.block b hl (Ne.symm hb.2)⟩
   rcases hbk with h'|h'
   ·exact hb.2 (h'▸h)
   ·rw [h'] at h;cases h;exact absurd hl (Nat.lt_irrefl _)
  exact zGb.append (zGb.keep ks hks keep) (zGb.keep ts hts keep)
theorem zob {P:Program} {w:World} {o:Oper} {a:Act} {K:Act→World→Prop} {Q:Exit→Act→World→Prop} (s x:Operand) {t e:TypeId} (ho:o.op=.call { callee:=.builtin .append,args:=#[s,x],argTypes:=#[t,t] })
  {i:TypeInfo} {z:Value} (I:zjf P t e i z) {ks ts:List T} {S:Nat→Prop} {v:Value} (hs:a.eval s=v) (hk:KAt e w ks S v) {us:List Value}
  (hts:zGb e w ts (fun b=>S b∧v.ownBlock≠some b) us) (hS:S w.heap.size) {ad:Addr} {m c:Nat} (hx:a.eval x=.slice (some ad) m c) (hml:m=ts.length) (hm:0<ts.length) (hnews:∀ j u,(zKa ts us)[j]?=some u→w.cell? (ad.add j)=some u)
  (hb:ks.length+ts.length≤100000)
  (h:∀ v' w',KAt e w' (ks++ts) S v'→w.grownBy w' v.ownBlock→(v'.ownBlock=v.ownBlock∨v'.ownBlock=some w.heap.size)→K (a.put o.dst v') w'):o.wp P a w K Q:=by
 subst hml
 obtain ⟨v',w',hr,h2,h3,h4⟩:=zBh (ty:=o.type) (c:=c) I hk hts hS hm hnews hb
 unfold Oper.wp execOp
 simp only [ho,resolve,invoke,builtin,Sem.run_bind,Sem.run_pure,Result.andThen_ok,List.map_toArray,List.map_cons,List.map_nil,hs,hx,hr]
 exact h v' w' h2 h3 h4
theorem zxa {P:Program} {w:World} {ops:Array Oper} {rest:List Oper} {o:Oper} {a:Act} {Q:Exit→Act→World→Prop} (hgd:o.guard=none) (s x:Operand) {t e:TypeId} (ho:o.op=.call { callee:=.builtin .append,args:=#[s,x],argTypes:=#[t,t] })
  {i:TypeInfo} {z:Value} (I:zjf P t e i z) {ks ts:List T} {S:Nat→Prop} {v:Value} (hs:a.eval s=v) (hk:KAt e w ks S v) {us:List Value}
  (hts:zGb e w ts (fun b=>S b∧v.ownBlock≠some b) us) (hS:S w.heap.size) {ad:Addr} {m c:Nat} (hx:a.eval x=.slice (some ad) m c) (hml:m=ts.length) (hm:0<ts.length) (hnews:∀ j u,(zKa ts us)[j]?=some u→w.cell? (ad.add j)=some u)
  (hb:ks.length+ts.length≤100000)
  (h:∀ v' w',KAt e w' (ks++ts) S v'→w.grownBy w' v.ownBlock→(v'.ownBlock=v.ownBlock∨v'.ownBlock=some w.heap.size)→wpList P ops Q rest (a.put o.dst v') w'):wpList P ops Q (o :: rest) a w :=
 wpList_plain hgd fun _ hK=>zob s x ho I hs hk hts hS hx hml hm hnews hb fun v' w' h2 h3 h4=>hK _ _ (h v' w' h2 h3 h4)
theorem zke (w:World) (e:TypeId) (t:T) (v:Value):∀ j u,(zKa [t] [v])[j]?=some u→(w.alloc (.cells (zaa t v).toArray e)).cell? ((⟨w.heap.size,0,none⟩:Addr).add j)=some u:=by
 intro j u hj
 rw [Addr.add_mid,Nat.zero_add,(Blk.new w (zaa t v) e).cell j]
 simpa [zKa] using hj
theorem zoq (w:World) (e:TypeId) (t t':T) (v v':Value):∀ j u,(zKa [t,t'] [v,v'])[j]?=some u→(w.alloc (.cells (zaa t v++zaa t' v').toArray e)).cell? ((⟨w.heap.size,0,none⟩:Addr).add j)=some u:=by
 intro j u hj
 rw [Addr.add_mid,Nat.zero_add,(Blk.new w (zaa t v++zaa t' v') e).cell j]
 simpa [zKa] using hj
theorem zGb.single {e:TypeId} {w:World} {t:T} {S:Nat→Prop} {v:Value} (h:TAt e w t S v):zGb e w [t] S [v]:=by
 unfold zGb
 exact ⟨v,[],rfl,h,by unfold zGb;rfl⟩
theorem zGb.pair {e:TypeId} {w:World} {t t':T} {S:Nat→Prop} {v v':Value} (h:TAt e w t S v) (h':TAt e w t' S v'):zGb e w [t,t'] S [v,v']:=by
 unfold zGb
 exact ⟨v,[v'],rfl,h,zGb.single h'⟩
theorem Tryz.zce:∃ i z,zjf Tryz.prog 23 25 i z:=by
 have h:(Tryz.prog.info? 25).map (fun i=>(i.zero,i.size,i.bytes))=some (some (.agg #[.int .i64 0,.string ⟨#[]⟩,.int .i64 0,.int .i64 0,.slice none 0 0]),5,64):=by kernel_rfl
 obtain ⟨i0,hi,hz0,hz1,hz2⟩:=info_parts h
 exact ⟨i0,_,Tryz.underlying23,hi,hz0,hz1,hz2,rfl⟩
theorem Run.grown {E:Env} {w W W':World} {l:List Tok} {d:Nat} (h:Run E w W l d) {row:Option Nat} (hg:W.grownBy W' row) (hr:∀ k,row=some k→w.heap.size≤k):Run E w W' l d:=by
 have hb:∀ k,k<w.heap.size→W'.heap[k]?=W.heap[k]?:=fun k hk=>hg.block k (Nat.lt_of_lt_of_le hk h.kp.size) (fun e=>by have:=hr k e.symm;omega)
 exact ⟨⟨hg.os.trans h.kp.os,hg.tape.trans h.kp.tape,hg.output.trans h.kp.output,Nat.le_trans h.kp.size hg.size,fun k hk hn=>(hb k hk).trans (h.kp.block k hk hn)⟩,h.st.same hg.size (hb _ h.lo) (hb _ h.lt),h.lo,h.lt⟩
theorem Blk.grown {w w':World} {g:Nat} {cs:List Value} {t:TypeId} (h:Blk w g cs t) {row:Option Nat} (hg:w.grownBy w' row) (hn:some g≠row):Blk w' g cs t:=(hg.block g h.lt hn).trans h
theorem KAt.slice {e:TypeId} {w:World} {ks:List T} {S:Nat→Prop} {v:Value} (h:KAt e w ks S v):∃ a n c,v=.slice a n c:=by
 obtain ⟨_,ho,_⟩:=h
 rcases ho.2 with ⟨rfl,_⟩|⟨g,cap,_,rfl,_⟩
 ·exact ⟨_,_,_,rfl⟩
 ·exact ⟨_,_,_,rfl⟩
theorem zBq (t:Tok) (l:List UInt8):isT t (bs l)=(t.text.toList == l):=by
 unfold isT
 rw [ByteArray.toList_eq (bs l)]
 simp [bs]
theorem ztd {t:Tok} {l:List UInt8} (h:isT t (bs l)=true):(t.text.toList == l)=true∧t.text.toList=l:=by
 rw [zBq] at h
 exact ⟨h,beq_iff_eq.1 h⟩
theorem zlb {t:Tok} {l:List UInt8} (h:isT t (bs l)=false):(t.text.toList == l)=false∧¬ t.text.toList=l:=by
 rw [zBq] at h
 exact ⟨h,beq_eq_false_iff_ne.1 h⟩
theorem Blk.zNb {w w':World} {g pb:Nat} {cs:List Value} {t:TypeId} (_:Kp pb w w') (h:Blk w g cs t):g<w.heap.size:=h.lt
theorem KAt.zxp {e:TypeId} {w:World} {t:T} {S:Nat→Prop} {v:Value} (h:TAt e w t S v) (a:Addr) (x:Value) (ha:∀ b,S b→b≠a.block) (hS:S w.heap.size) :
  KAt e ((w.setCell a x).alloc (.cells (zaa t v).toArray e)) [t] S (.slice (some ⟨w.heap.size,0,none⟩) 1 1):=by
 have h1:=KAt.zrk (h.setCell a x ha) (by rw [show (w.setCell a x).heap.size=w.heap.size by simp [World.setCell]];exact hS)
 rwa [show (w.setCell a x).heap.size=w.heap.size by simp [World.setCell]] at h1
theorem zva {P:Program} {o:Oper} {a:Act} {w:World} {K:Act→World→Prop} {Q:Exit→Act→World→Prop} (ty:TypeId) (x y:Operand) (ho:o.op=.store ty x y)
  (g:Nat) (cells:List Value) (hx:a.eval x=.pointer (some ⟨g,0,none⟩)) (hy:a.eval y=.agg cells.toArray)
  {t:TypeId} {old:List Value} (hg:Blk w g old t) (hi:(P.info? ty).map (·.size)=some cells.length)
  (hold:old.length=cells.length) (h1:∀ v∈cells,v.oneCell'=true)
  (h:K (a.put o.dst undef) (w.setRow g cells.toArray)):o.wp P a w K Q :=
 wp_store_row ty x y ho g cells.toArray hx hy t old.toArray hg (by simpa using hi) (by simpa using hold) (all_oneCell_toArray h1) h
theorem zkf {P:Program} {fn:Func} {s:Tmp} {ty t:TypeId} (h:fn.results=#[.cell s ty]) {a:Act} {W:World} {g:Nat} {old cs:List Value} {d:TypeDesc} {R:Ending→World→Prop} (hs:a.tmps.getD s undef=.pointer (some ⟨g,0,none⟩))
  (hb:Blk W g old t) (hu:P.underlying ty=some d) (hd:d.isRow=true) (hi:(P.info? ty).map (·.size)=some cs.length) (hdf:a.defers=[]) (hR:R (.returned (.agg cs.toArray)) (W.setRow g cs.toArray)) :
  bodyPost P fn R .ret a (W.setRow g cs.toArray) :=
 bodyPost_ret (zdg h hs (hb.zra cs) hu hd hi) hdf hR
theorem Run.nodeAt {E:Env} {w W:World} {l l':List Tok} {d g:Nat} {r:R T} {t:T} {v:Value} (hg:w.heap.size≤g) (h:Run E w W l' d) (ht:TAt 25 W t (fun b=>g<b) v) (hr:r=.ok (t,l')) (hl:l'.length<l.length) :
  zMb zTc E w l d r (.returned (zna t v)) (W.setRow g (zaa t v).toArray) :=
 .zSh hr rfl ⟨v,rfl,(ht.setRow _ _ (fun b hb=>by omega)).mono (fun b hb _=>by omega)⟩ (h.setRow hg _).st hl (h.setRow hg _).kp
def zxh {α:Type} (V:World→Nat→α→Value→Prop) (E:Env) (w:World) (l:List Tok) (d:Nat) (r:R α) (e:Ending) (w':World):Prop :=
 match r with
 | .ok (a,l')=>∃ v,e=.returned v∧V w' w.heap.size a v∧PSt E w' l' d∧l'.length≤l.length∧Kp E.pb w w'
 | .error (p,c)=>e=.panicked [{ v:=zGg p c,recovered:=false }]∧Kp E.pb w w'∧(c=20∨c=21)
theorem zxh.toP {α:Type} {V:World→Nat→α→Value→Prop} {E:Env} {w:World} {l l0:List Tok} {d:Nat} {r:R α} {e:Ending} {w':World} (h:zxh V E w l d r e w') (hl:l.length<l0.length):zMb V E w l0 d r e w':=by
 unfold zxh at h
 unfold zMb
 cases r with
 | error pc=>exact h
 | ok q =>
  obtain ⟨v,h1,h2,h3,h4,h5⟩:=h
  exact ⟨v,h1,h2,h3,by omega,h5⟩
theorem Run.zTs {E:Env} {w W:World} {l l':List Tok} {d:Nat} {r:R T} {t:T} {v:Value} (h:Run E w W l' d) (ht:TAt 25 W t (fun b=>w.heap.size<b) v) (hr:r=.ok (t,l')) (hl:l'.length≤l.length) :
  zxh zTc E w l d r (.returned (zna t v)) (W.setRow w.heap.size (zaa t v).toArray):=by
 rw [hr]
 exact ⟨_,rfl,⟨v,rfl,(ht.setRow _ _ (fun b hb=>by omega)).mono (fun b hb _=>by omega)⟩,(h.setRow (Nat.le_refl _) _).st,hl,(h.setRow (Nat.le_refl _) _).kp⟩
theorem Run.errE {α:Type} {V:World→Nat→α→Value→Prop} {E:Env} {w W:World} {l:List Tok} {d:Nat} {r:R α} {p:Nat} {c:Int} (hk:Kp E.pb w W) (hr:r=.error (p,c)) (hc:c=20∨c=21) :
  zxh V E w l d r (.panicked [{ v:=zGg p c,recovered:=false }]) W:=by rw [hr];exact ⟨rfl,hk,hc⟩
theorem Calls.weak {P:Program} {f:FuncId} {args:Array Value} {α:Type} {V:World→Nat→α→Value→Prop} {E:Env} {w:World} {l l0:List Tok} {d:Nat} {r:R α} (h:Calls P f args w (zxh V E w l d r)) (hl:l.length<l0.length):Calls P f args w (zMb V E w l0 d r) :=
 h.mono fun _ _ hp=>hp.toP hl
theorem zbc (fn:Fn) (first cap:Array Value) (w:World):(Instr.makeFunc fn first cap).run Tryz.prog w=.ok (.func fn first cap) w:=rfl
end
section
open Go.RowKit
theorem zJb {E:Env} {w:World} {l:List Tok} {d:Nat} (h:PSt E w l d) :
  Calls Tryz.prog 58 #[.pointer (some ⟨E.pb,0,none⟩)] w fun e w'=>e=.returned (zmb (hdT l))∧Below w.heap.size w w':=by
 obtain ⟨c0,c1,_,_⟩:=h.cell
 obtain ⟨t0,t1,t2,t3⟩:=h.tok
 have hk:E.ts.length-l.length<E.ts.length:=by have:=h.head.1;have:=h.le;omega
 have hlen:=h.len
 have hp:=h.plt
 have ht:=h.tlt
 generalize E.ts.length-l.length=k at *
 clear h
 go_enter Tryz.func58,Tryz.ntmps58
 go_wp2
 go_region
 go_wp2
 exact bodyPost_ret (v:=zmb (hdT l)) (by simp [results,Tryz.results58,go_sem,zmb]) rfl ⟨rfl,((Below.refl _ _).alloc (Nat.le_refl _) _).drew⟩
def zEc:List Value:=[.int .i64 0,.string ⟨#[]⟩,.int .i64 0,.int .i64 0]
theorem take_any {E:Env} {w:World} {l:List Tok} {d:Nat} (h:PSt E w l d) (he:Ends l.tail) :
  Calls Tryz.prog 104 #[.pointer (some ⟨E.pb,0,none⟩)] w fun e w'=>e=.returned (zmb (hdT l))∧PSt E w' l.tail d∧Kp E.pb w w':=by
 go_enter Tryz.func104,Tryz.ntmps104
 go_wp2_with fail
 refine (zJb (h.alloc _)).mono ?_
 rintro e w1 ⟨rfl,hb⟩
 have hk1:Kp E.pb (w.alloc _) w1:=.of_below hb
 have hs:=(h.alloc _).below hb
 obtain ⟨c0,c1,c2,cf⟩:=hs.cell
 have hlen:=h.len
 have hp:=hs.plt
 have hpw:=h.plt
 have htw:=h.tlt
 have HST:=zh (hs.step he)
 have HK:=zh (((Kp.refl E.pb w).alloc _).trans hk1)
 have HR:=zh ((Blk.new w zEc 113).kp hk1 (by omega))
 have hsz:w.heap.size<w1.heap.size:=by have:=hb.size;simp at this;omega
 clear hb hs h hk1
 unfold zmb
 generalize hkk:E.ts.length-l.length=k at *
 have hkb:k≤16385:=by omega
 clear hkk
 go_wp2_with ((with_reducible refine zla 113 (.tmp 2) ?_);refine zda rfl 113 (.tmp 2) (.tmp 13) rfl w.heap.size (zGa (hdT l)) rfl rfl ((HR.out.setOther ⟨E.pb,1,none⟩ _ (by show _≠E.pb;omega)).alloc _) Tryz.zbh rfl (zDc _) ?_)
 exact zma (cs:=zGa (hdT l)) Tryz.results104 rfl ((HR.out.setOther ⟨E.pb,1,none⟩ _ (by show _≠E.pb;omega)).alloc _) Tryz.underlying113 rfl Tryz.zbh rfl ⟨rfl,(HST.out.alloc _).setRow (by omega) (by omega) _,((HK.out.zeh _ _).alloc _).setRow (Nat.le_refl _) _⟩
theorem zef {E:Env} {w:World} {l:List Tok} {d:Nat} (h:PSt E w l d) :
  Calls Tryz.prog 105 #[.pointer (some ⟨E.pb,0,none⟩)] w fun e w'=>e=.returned (.agg #[.int .i64 (hdT l).place,.int .i64 20])∧Below w.heap.size w w':=by
 go_enter Tryz.func105,Tryz.ntmps105
 go_wp2_with fail
 refine (zJb (h.alloc _)).mono ?_
 rintro e w1 ⟨rfl,hb⟩
 have HB:=zh (((Below.refl w.heap.size w).alloc (Nat.le_refl _) _).trans (hb.mono (by simp)))
 obtain ⟨hc,hf⟩:=zWk hb
 clear hb h
 unfold zmb
 have fl0:=zjc
 have fl1:=zfc
 have fl2:=zXg
 have fl3:=zic
 go_wp2
 exact bodyPost_ret (v:=.agg #[.int .i64 (hdT l).place,.int .i64 20]) (by simp [results,Tryz.results105,go_sem,hc]) rfl ⟨rfl,(HB.out.setCell (Nat.le_refl _) _).setCell (Nat.le_refl _) _⟩
theorem zAe {E:Env} {w:World} {l:List Tok} {d:Nat} (h:PSt E w l d) (s:ByteArray) :
  Calls Tryz.prog 103 #[.pointer (some ⟨E.pb,0,none⟩),.string s] w fun e w'=>e=.returned (.bool (isT (hdT l) s))∧Below w.heap.size w w':=by
 go_enter Tryz.func103,Tryz.ntmps103
 go_wp2_with fail
 refine (zJb h).mono ?_
 rintro e w1 ⟨rfl,hb⟩
 have HB:=zh hb
 clear hb h
 unfold zmb
 have fl0:=zjc
 have fl1:=zfc
 have fl2:=zXg
 have fl3:=zic
 go_wp2
 go_ret
 exact ⟨rfl,HB.out⟩
theorem zSa {E:Env} {w:World} {l:List Tok} {d:Nat} (h:PSt E w l d) {s:ByteArray} (hi:isT (hdT l) s=false) :
  Calls Tryz.prog 108 #[.pointer (some ⟨E.pb,0,none⟩),.string s] w fun e w'=>e=.returned (.bool false)∧Below w.heap.size w w':=by
 go_enter Tryz.func108,Tryz.ntmps108
 go_wp2_with fail
 refine (zAe h s).mono ?_
 rintro e w1 ⟨rfl,hb⟩
 rw [hi]
 have HB:=zh hb
 clear hb h hi
 go_wp2
 go_ret
 exact ⟨rfl,HB.out⟩
theorem zLa {E:Env} {w:World} {l:List Tok} {d:Nat} (h:PSt E w l d) {s:ByteArray} (hi:isT (hdT l) s=true) (hs:0<s.size) :
  Calls Tryz.prog 108 #[.pointer (some ⟨E.pb,0,none⟩),.string s] w fun e w'=>e=.returned (.bool true)∧PSt E w' l.tail d∧Kp E.pb w w':=by
 go_enter Tryz.func108,Tryz.ntmps108
 go_wp2_with fail
 refine (zAe h s).mono ?_
 rintro e w1 ⟨rfl,hb⟩
 rw [hi]
 have h1:=h.below hb
 obtain ⟨c0,c1,c2,cf⟩:=h1.cell
 have hp:=h1.plt
 have hlen:=h.len
 have HST:=zh (h1.step (h.ends.zId hi hs))
 have HK:=zh (Kp.of_below (pb:=E.pb) hb)
 clear hb h h1 hi hs
 generalize hkk:E.ts.length-l.length=k at *
 have hkb:k≤16385:=by omega
 clear hkk
 go_wp2
 go_ret
 exact ⟨rfl,HST.out,HK.out.zeh _ _⟩
theorem zRf {E:Env} {w:World} {l:List Tok} {d:Nat} (h:PSt E w l d) (k:Nat) (hk0:0<k) :
  Calls Tryz.prog 121 #[.pointer (some ⟨E.pb,0,none⟩),.int .i64 k] w (zMb VTok E w l d (zkd k l)):=by
 have hR:=(Run.start h).alloc (.cells zEc.toArray 113)
 go_enter Tryz.func121,Tryz.ntmps121
 go_wp2_with fail
 refine (zJb (h.alloc _)).mono ?_
 rintro e w1 ⟨rfl,hb⟩
 have hR1:=hR.below hb
 have HB:=zh ((Blk.new w zEc 113).kp (Kp.of_below (pb:=E.pb) hb) (by have:=h.plt;omega))
 have HR:=zh hR1
 have HL:=zh (zlf h)
 have HO:=zh h.zTf
 have HE:=zh h.ends
 clear hb h hR hR1
 by_cases hk:(hdT l).kind=k
 ·have HP:=zh (show zkd k l=.ok (hdT l,l.tail) by unfold zkd;rw [beq_iff_eq.2 hk];rfl)
  have hb:((((hdT l).kind:Int)) != (k:Int))=false:=by simp [hk]
  have HT:=zh (HE.out.tail (by omega))
  clear hk
  unfold zmb
  have fl0:=zjc
  have fl1:=zfc
  have fl2:=zXg
  have fl3:=zic
  go_wp2_with fail
  refine (take_any HR.out.st HT.out).mono ?_
  rintro e w2 ⟨rfl,hs2,hk2⟩
  have HR2:=zh (HR.out.call hk2 hs2)
  have HB2:=zh (HB.out.kp hk2 (by have:=HR.out.lo;omega))
  clear hs2 hk2
  go_wp2_with ((with_reducible refine zla 113 (.tmp 4) ?_);refine zda rfl 113 (.tmp 4) (.tmp 14) rfl w.heap.size (zGa (hdT l)) rfl rfl HB2.out Tryz.zbh rfl (zDc _) ?_)
  exact zma (cs:=zGa (hdT l)) Tryz.results121 rfl HB2.out Tryz.underlying113 rfl Tryz.zbh rfl
   (.zSh HP.out rfl ⟨rfl,HO.out⟩ (HR2.out.setRow (Nat.le_refl _) _).st HL.out (HR2.out.setRow (Nat.le_refl _) _).kp)
 ·have HP:=zh (show zkd k l=.error ((hdT l).place,20) by unfold zkd;rw [beq_eq_false_iff_ne.2 hk];rfl)
  have hb:((((hdT l).kind:Int)) != (k:Int))=true:=by simp;omega
  clear hk
  unfold zmb
  have fl0:=zjc
  have fl1:=zfc
  have fl2:=zXg
  have fl3:=zic
  go_wp2_with fail
  refine (zef HR.out.st).mono ?_
  rintro e w2 ⟨rfl,hb2⟩
  have HR2:=zh (HR.out.below hb2)
  clear hb2
  go_wp2
  exact ⟨rfl,Run.err HR2.out.kp HP.out (.inl rfl)⟩
theorem name_any {E:Env} {w:World} {l:List Tok} {d:Nat} (h:PSt E w l d) :
  Calls Tryz.prog 106 #[.pointer (some ⟨E.pb,0,none⟩)] w (zMb VStr E w l d (zKb l)):=by
 go_enter Tryz.func106,Tryz.ntmps106
 go_wp2_with fail
 refine (zRf h 1 (by omega)).mono ?_
 intro e w1 hp
 cases hr:zkd 1 l with
 | error pc =>
  obtain ⟨p,c⟩:=pc
  obtain ⟨rfl,hk,hcd⟩:=hp.err hr
  go_wp2
  exact ⟨rfl,Run.err hk (by unfold zKb;exact zya hr _) hcd⟩
 | ok q =>
  obtain ⟨t,l1⟩:=q
  obtain ⟨v,rfl,⟨rfl,ho⟩,hs,hl,hk⟩:=hp.ok hr
  have HP:=zh (show zKb l=.ok (t.text,l1) by unfold zKb;exact zpa hr _)
  have HS:=zh hs
  have HK:=zh hk
  have HL:=zh hl
  clear hr hp h hs hk hl
  unfold zmb
  have fl0:=zjc
  have fl1:=zfc
  have fl2:=zXg
  have fl3:=zic
  go_wp2
  go_ret
  exact .zSh HP.out rfl rfl HS.out HL.out HK.out
theorem zhe {E:Env} {w:World} {l:List Tok} {d:Nat} (h:PSt E w l d) :
  Calls Tryz.prog 131 #[.pointer (some ⟨E.pb,0,none⟩)] w (zMb VNum E w l d (zEa l)):=by
 go_enter Tryz.func131,Tryz.ntmps131
 go_wp2_with fail
 refine (zRf h 3 (by omega)).mono ?_
 intro e w1 hp
 cases hr:zkd 3 l with
 | error pc =>
  obtain ⟨p,c⟩:=pc
  obtain ⟨rfl,hk,hcd⟩:=hp.err hr
  go_wp2
  exact ⟨rfl,Run.err hk (by unfold zEa;exact zya hr _) hcd⟩
 | ok q =>
  obtain ⟨t,l1⟩:=q
  obtain ⟨v,rfl,⟨rfl,ho⟩,hs,hl,hk⟩:=hp.ok hr
  have HP:=zh (show zEa l=.ok ((t.num:Int),l1) by unfold zEa;exact zpa hr _)
  have HS:=zh hs
  have HK:=zh hk
  have HL:=zh hl
  have HN:=zh ho.num
  clear hr hp h hs hk hl ho
  unfold zmb
  have fl0:=zjc
  have fl1:=zfc
  have fl2:=zXg
  have fl3:=zic
  go_wp2
  go_ret
  exact .zSh HP.out rfl ⟨rfl,by omega,by have:=HN.out;omega⟩ HS.out HL.out HK.out
end
section
open Go.RowKit
theorem ztm {ss:List ByteArray} {l:List Tok} {k:Nat} {s:ByteArray} (hk:ss[k]?=some s) (h:isT (hdT l) s=true):zsa ss l=.ok (hdT l,l.tail):=by
 unfold zsa
 rw [List.any_eq_true.2 ⟨s,List.mem_of_getElem? hk,h⟩]
 rfl
theorem zso {ss:List ByteArray} {l:List Tok} (h:∀ s∈ss,isT (hdT l) s=false):zsa ss l=.error ((hdT l).place,20):=by
 unfold zsa
 rw [List.any_eq_false.2 (fun s hs=>by simp [h s hs])]
 rfl
def zyu (ss:List ByteArray) (l:List Tok) (W:World) (g:Nat) (i:Value) (wr:World):Prop :=
 ∃ k:Nat,k≤ss.length∧ss.length≤k+g∧i=.int .i64 k∧(∀ s∈ss.take k,isT (hdT l) s=false)∧Below W.heap.size W wr
theorem zRn {E:Env} {w:World} {l:List Tok} {d:Nat} (h:PSt E w l d) (ss:List ByteArray) (hne:∀ s∈ss,0<s.size) (hn:ss.length≤8) :
  Calls Tryz.prog 84 #[.pointer (some ⟨E.pb,0,none⟩),.slice (some ⟨w.heap.size,0,none⟩) ss.length ss.length] (w.alloc (.cells (ss.map Value.string).toArray 9)) (zMb VTok E w l d (zsa ss l)):=by
 have HR:=zh (((Run.start h).alloc (.cells (ss.map Value.string).toArray 9)).alloc (.cells zEc.toArray 113))
 have HC:=zh ((Blk.new w (ss.map Value.string) 9).alloc (.cells zEc.toArray 113))
 have HB:=zh (Blk.zTe w (.cells (ss.map Value.string).toArray 9) zEc 113)
 have HL:=zh (zlf h)
 have HO:=zh h.zTf
 have HE:=zh h.ends
 have HNE:=zh hne
 have hpw:=h.plt
 have htw:=h.tlt
 clear h hne
 go_enter Tryz.func84,Tryz.ntmps84
 go_wp2_with fail
 go_loopg [9] ss.length (fun g i wr=>zyu ss l ((w.alloc (.cells (ss.map Value.string).toArray 9)).alloc (.cells zEc.toArray 113)) g i wr)
 case atStart=>exact ⟨0,by omega,by omega,rfl,by simp,Below.refl _ _⟩
 case round =>
  obtain ⟨k,hk,hg,rfl,hno,hbel⟩:=hrel
  have HNO:=zh hno
  have HRW:=zh (HR.out.below hbel)
  have HBW:=zh (HB.out.kp (Kp.of_below (pb:=E.pb) hbel) (by omega))
  have HCW:=zh (HC.out.kp (Kp.of_below (pb:=E.pb) hbel) (by omega))
  have HBEL:=zh hbel
  clear hno hbel
  by_cases hlt:k<ss.length
  ·have hcell:wr.cell? ⟨w.heap.size,k,none⟩=some (.string ss[k]):=by rw [HCW.out.cell k];simp [hlt]
   cases hi:isT (hdT l) ss[k]
   ·have HI:=zh hi
    go_wp2_with fail
    refine (zAe HRW.out.st ss[k]).mono ?_
    rintro e w1 ⟨rfl,hb⟩
    rw [HI.out]
    have HB1:=zh (HBEL.out.trans (hb.mono HBEL.out.size))
    clear hb hi hcell
    go_wp2
    go_roundg (gk-1)
    case measure=>omega
    case rel =>
     refine ⟨k+1,by omega,by omega,by go_num,?_,HB1.out⟩
     intro s hs
     rw [List.take_succ_eq_append_getElem hlt] at hs
     rcases List.mem_append.1 hs with h1|h1
     ·exact HNO.out s h1
     ·rw [List.mem_singleton.1 h1];exact HI.out
   ·have HI:=zh hi
    go_wp2_with fail
    refine (zAe HRW.out.st ss[k]).mono ?_
    rintro e w1 ⟨rfl,hb⟩
    rw [HI.out]
    have HR1:=zh (HRW.out.below hb)
    have HB1:=zh (HBW.out.kp (Kp.of_below (pb:=E.pb) hb) (by omega))
    have HT:=zh (HE.out.zId HI.out (HNE.out _ (List.getElem_mem hlt)))
    have HP:=zh (ztm (List.getElem?_eq_getElem hlt) HI.out)
    clear hb hi hcell
    go_wp2_with fail
    refine (take_any HR1.out.st HT.out).mono ?_
    rintro e w2 ⟨rfl,hs2,hk2⟩
    have HR2:=zh (HR1.out.call hk2 hs2)
    have HB2:=zh (HB1.out.kp hk2 (by omega))
    clear hs2 hk2
    unfold zmb
    go_wp2_with ((with_reducible refine zla 113 (.tmp 4) ?_);refine zda rfl 113 (.tmp 4) (.tmp 17) rfl (w.heap.size+1) (zGa (hdT l)) rfl rfl HB2.out Tryz.zbh rfl (zDc _) ?_)
    exact zma (cs:=zGa (hdT l)) Tryz.results84 rfl HB2.out Tryz.underlying113 rfl Tryz.zbh rfl
     (.zSh HP.out rfl ⟨rfl,HO.out⟩ (HR2.out.setRow (by omega) _).st HL.out (HR2.out.setRow (by omega) _).kp)
  ·have HP:=zh (zso (ss:=ss) (l:=l) (by rw [List.take_of_length_le (by omega)] at HNO;exact HNO.out))
   go_wp2_with fail
   refine (zef HRW.out.st).mono ?_
   rintro e w2 ⟨rfl,hb2⟩
   have HR2:=zh (HRW.out.below hb2)
   clear hb2
   go_wp2
   exact ⟨rfl,Run.err HR2.out.kp HP.out (.inl rfl)⟩
theorem zcb {E:Env} {w:World} {l:List Tok} {d g m c:Nat} (h:PSt E w l d) (ss:List ByteArray) (hne:∀ s∈ss,0<s.size) (hn:ss.length≤8) (hg:g=w.heap.size) (hm:m=ss.length) (hc:c=ss.length) :
  Calls Tryz.prog 84 #[.pointer (some ⟨E.pb,0,none⟩),.slice (some ⟨g,0,none⟩) m c] (w.alloc (.cells (ss.map Value.string).toArray 9)) (zMb VTok E w l d (zsa ss l)):=by
 subst hg hm hc
 exact zRn h ss hne hn
end
section
open Go.RowKit
open Go.ChangeMaps (setBlock)
theorem zvh (w:World) (o o':Obj):setBlock (w.alloc o) w.heap.size o'=w.alloc o':=by
 unfold setBlock
 show ({ w.alloc o with heap:=(w.heap.push o).setIfInBounds w.heap.size o' }:World)=_
 have hp:(w.heap.push o).setIfInBounds w.heap.size o'=w.heap.push o':=by
  apply Array.toList_inj.1
  simp
 rw [hp]
 rfl
theorem zEo {P:Program} {w:World} {t kt et:TypeId} {r:Nat} {es:Array MapEntry} {clock:Nat} {k:ByteArray} {v:Value} (ht:P.underlying t=some (.map kt et)) (hk:P.underlying kt=some .string)
  (hb:w.heap[r]?=some (.map es clock)) (hf:Instr.findNow .string (.string k) es.toList 0=some none) :
  (Instr.mapUpdate t (.map (some r)) (.string k) v).run P w=.ok () (setBlock w r (.map (es.push ⟨.string k,v,clock⟩) (clock+1))):=by
 have h1:=MapKept.run_checkKey (P:=P) (w:=w) (k:=.string k) hk (by first|exact trivial|exact ⟨_,rfl⟩|rfl|simp [MapKept.IsKey]) false 9999
 have h2:=MapKept.run_findKey (P:=P) (w:=w) (kt:=kt) (k:=.string k) (l:=es.toList) hk hf
 have h3:=MapKept.run_getObj_map (P:=P) (w:=w) hb
 have h4:∀ o',(setObj r o').run P w=.ok () (setBlock w r o'):=fun o'=>by simp [setObj,Sem.run,hb,setBlock]
 simp [Instr.mapUpdate,run_underlying ht,h1,h2,h3,h4]
def zpk:MapEntry:=⟨.string ⟨#[43]⟩,.agg #[.int .i64 21,.int .i64 1],0⟩
def zDl:MapEntry:=⟨.string ⟨#[45]⟩,.agg #[.int .i64 22,.int .i64 (-1)],1⟩
def zhd:Array MapEntry:=#[zpk,zDl]
theorem zLr (w:World):Calls Tryz.prog 135 #[] w fun e w'=>e=.returned (.map (some w.heap.size))∧w'=w.alloc (.map zhd 2):=by
 have h1:(Instr.mapUpdate 198 (.map (some w.heap.size)) (.string ⟨#[43]⟩) (.agg #[.int .i64 21,.int .i64 1])).run Tryz.prog (w.alloc (.map #[] 0))=.ok () (w.alloc (.map #[zpk] 1)):=by
  have:=zEo (P:=Tryz.prog) (w:=w.alloc (.map #[] 0)) (r:=w.heap.size) (es:=#[]) (clock:=0) (k:=⟨#[43]⟩) (v:=.agg #[.int .i64 21,.int .i64 1]) Tryz.underlying198 Tryz.underlying9 (heap_alloc_new w _) rfl
  rw [zvh] at this
  exact this
 have h2:(Instr.mapUpdate 198 (.map (some w.heap.size)) (.string ⟨#[45]⟩) (.agg #[.int .i64 22,.int .i64 (-1)])).run Tryz.prog (w.alloc (.map #[zpk] 1))=.ok () (w.alloc (.map zhd 2)):=by
  have:=zEo (P:=Tryz.prog) (w:=w.alloc (.map #[zpk] 1)) (r:=w.heap.size) (es:=#[zpk]) (clock:=1) (k:=⟨#[45]⟩) (v:=.agg #[.int .i64 22,.int .i64 (-1)]) Tryz.underlying198 Tryz.underlying9 (heap_alloc_new w _) (by kernel_rfl)
  rw [zvh] at this
  exact this
 have h0:(Instr.makeMap 198 none).run Tryz.prog w=.ok (.map (some w.heap.size)) (w.alloc (.map #[] 0)):=rfl
 go_enter Tryz.func135,Tryz.ntmps135
 go_wp2
 go_ret
 exact ⟨rfl,rfl⟩
theorem zod (w:World) (r k:Nat) (o:Obj) (h:k≠r):(setBlock w r o).heap[k]?=w.heap[k]?:=by
 unfold setBlock
 simp [Ne.symm h]
theorem heap_setBlock_same (w:World) (r:Nat) (o:Obj) (h:r<w.heap.size):(setBlock w r o).heap[r]?=some o:=by
 unfold setBlock
 simp [h]
theorem Run.setBlock {E:Env} {w W:World} {l:List Tok} {d:Nat} (h:Run E w W l d) {r:Nat} (hr:w.heap.size≤r) (o:Obj):Run E w (ChangeMaps.setBlock W r o) l d :=
 ⟨⟨h.kp.os,h.kp.tape,h.kp.output,by simpa [ChangeMaps.setBlock] using h.kp.size,fun k hk hn=>(zod W r k o (by omega)).trans (h.kp.block k hk hn)⟩,
  h.st.same (by simp [ChangeMaps.setBlock]) (zod _ _ _ _ (by have:=h.lo;omega)) (zod _ _ _ _ (by have:=h.lt;omega)),h.lo,h.lt⟩
theorem Run.drew {E:Env} {w W:World} {l:List Tok} {d:Nat} (h:Run E w W l d):Run E w W.drew l d:=⟨h.kp.drew,h.st.same (Nat.le_refl _) rfl rfl,h.lo,h.lt⟩
theorem zXk {e:MapEntry} (h:e∈zhd.toList):e=zpk∨e=zDl:=by
 simpa [zhd] using h
theorem zIm {e:MapEntry} {seen:Array Nat} (h:e∈(leftOf zhd seen).toList):e∈zhd.toList∧e.born ∉ seen:=by
 simp only [leftOf,Array.toList_filter,List.mem_filter] at h
 exact ⟨h.1,by simpa using h.2⟩
theorem zvl {seen:Array Nat} (h:(leftOf zhd seen).size=0):0∈seen∧1∈seen:=by
 have h0:leftOf zhd seen=#[]:=Array.eq_empty_of_size_eq_zero h
 unfold leftOf at h0
 rw [Array.filter_eq_empty_iff] at h0
 have h1:=h0 zpk (by simp [zhd])
 have h2:=h0 zDl (by simp [zhd])
 exact ⟨by simpa [zpk] using h1,by simpa [zDl] using h2⟩
theorem zHi (seen:Array Nat):(leftOf zhd seen).size=(zhd.toList.filter fun x=>!seen.contains x.born).length:=by
 unfold leftOf
 rw [← Array.toList_filter,Array.length_toList]
theorem zHq {e:MapEntry} {seen:Array Nat} (h:e∈(leftOf zhd seen).toList):(leftOf zhd (seen.push e.born)).size<(leftOf zhd seen).size:=by
 have hm:=zIm h
 rw [zHi,zHi]
 refine filter_lt (fun x:MapEntry=>!seen.contains x.born) (fun x:MapEntry=>!(seen.push e.born).contains x.born) (fun x hx=>?_) e (by simpa using hm.2) (by simp) zhd.toList hm.1
 simp at hx ⊢
 exact hx.1
def zSu (E:Env) (w:World) (l:List Tok) (d:Nat) (g:Nat) (wr:World):Prop :=
 ∃ seen:Array Nat,Run E w wr l d∧Blk wr w.heap.size [.int .i64 0,.int .i64 0] 194∧wr.heap[w.heap.size+1]?=some (.map zhd 2)∧wr.heap[w.heap.size+2]?=some (.mapIter (some (w.heap.size+1)) 2 seen 2) ∧
  (0∈seen→isT (hdT l) (bs [43])=false)∧(1∈seen→isT (hdT l) (bs [45])=false)∧(leftOf zhd seen).size≤g
def zVs (E:Env) (w:World) (l:List Tok) (d:Nat) (e:Ending) (w':World):Prop :=
 (sumP l=none∧e=.returned (.tuple #[.agg #[.int .i64 0,.int .i64 0],.bool false])∧PSt E w' l d∧Kp E.pb w w') ∨
 ∃ k f,sumP l=some (k,f)∧(f=1∨f=-1)∧e=.returned (.tuple #[.agg #[.int .i64 k,.int .i64 f],.bool true])∧PSt E w' l.tail d∧Kp E.pb w w'
theorem zVj {P:Program} {fn:Func} {s u:Tmp} {ty t:TypeId} (h:fn.results=#[.cell s ty,.tmp u]) {a:Act} {W:World} {g:Nat} {old cs:List Value} {d:TypeDesc} {R:Ending→World→Prop} {x:Value} (hs:a.tmps.getD s undef=.pointer (some ⟨g,0,none⟩))
  (hb:Blk W g old t) (hu:P.underlying ty=some d) (hd:d.isRow=true) (hi:(P.info? ty).map (·.size)=some cs.length) (hx:a.tmps.getD u undef=x) (hdf:a.defers=[]) (hR:R (.returned (.tuple #[.agg cs.toArray,x])) (W.setRow g cs.toArray)) :
  bodyPost P fn R .ret a (W.setRow g cs.toArray):=by
 refine bodyPost_ret ?_ hdf hR
 have hl:=run_loadVar_mid (P:=P) (W.setRow g cs.toArray) g 0 ty cs d (fun j v hj=>by rw [Nat.zero_add,(hb.zra cs).cell j];exact hj) hu hd hi
 have hs':a.tmps[s]?.getD undef=.pointer (some ⟨g,0,none⟩):=by rw [← hs];simp
 have hx':a.tmps[u]?.getD undef=x:=by rw [← hx];simp
 simp [results,h,hs',asAddr,hl,hx']
theorem zKt {t:Tok} {s s':ByteArray} (h:isT t s=true) (h':isT t s'=true):s.toList=s'.toList:=by
 unfold isT at h h'
 rw [← beq_iff_eq.1 h,← beq_iff_eq.1 h']
theorem Tryz.zAf:(Tryz.prog.info? 194).map (·.size)=some 2:=by kernel_rfl
theorem zJg {E:Env} {w:World} {l:List Tok} {d:Nat} (h:PSt E w l d) :
  Calls Tryz.prog 130 #[.pointer (some ⟨E.pb,0,none⟩)] w (zVs E w l d):=by
 have HR0:=zh ((((Run.start h).alloc (.cells #[.int .i64 0,.int .i64 0] 194)).alloc (.map zhd 2)).alloc (.mapIter (some (w.heap.size+1)) 2 #[] 2))
 have HB0:=zh (((Blk.new w [.int .i64 0,.int .i64 0] 194).alloc (.map zhd 2)).alloc (.mapIter (some (w.heap.size+1)) 2 #[] 2))
 have hlo:=h.plt
 have hlt:=h.tlt
 have hln:=h.len
 clear h
 have hrg:=run_range_map (P:=Tryz.prog) ((w.alloc (.cells #[.int .i64 0,.int .i64 0] 194)).alloc (.map zhd 2)) 198 9 194 (w.heap.size+1) zhd 2 Tryz.underlying198
  (by have:=heap_alloc_new (w.alloc (.cells #[.int .i64 0,.int .i64 0] 194)) (.map zhd 2);simpa using this)
 rw [show ((w.alloc (.cells #[.int .i64 0,.int .i64 0] 194)).alloc (.map zhd 2)).heap.size=w.heap.size+2 by simp] at hrg
 go_enter Tryz.func130,Tryz.ntmps130
 go_wp2_with fail
 refine (zLr _).mono ?_
 rintro e w1 ⟨rfl,rfl⟩
 go_wp2_with fail
 clear hrg
 go_loopg [4] 2 (fun g _ wr=>zSu E w l d g wr)
 case atStart =>
  refine ⟨#[],HR0.out,HB0.out,?_,?_,by simp,by simp,by rw [zHi];exact Nat.le_trans (List.length_filter_le _ _) (Nat.le_refl _)⟩
  ·have:=heap_alloc_new (w.alloc (.cells #[.int .i64 0,.int .i64 0] 194)) (.map zhd 2)
   rw [Below.heap_alloc _ _ _ (by simp)]
   simpa using this
  ·have:=heap_alloc_new ((w.alloc (.cells #[.int .i64 0,.int .i64 0] 194)).alloc (.map zhd 2)) (.mapIter (some (w.heap.size+1)) 2 #[] 2)
   simpa using this
 case round =>
  obtain ⟨seen,hR,hB,hm,hi,h0,h1,hg⟩:=hrel
  have law:=run_next_at (P:=Tryz.prog) wr 0 (w.heap.size+2) (w.heap.size+1) 2 2 seen zhd 2 hi hm (by intro x hx;rcases zXk hx with rfl|rfl<;>decide) (Nat.le_refl _)
  have HR:=zh hR
  have HB:=zh hB
  have HM:=zh hm
  have HI:=zh hi
  have HH0:=zh h0
  have HH1:=zh h1
  have hsz:w.heap.size+2<wr.heap.size:=(Array.getElem?_eq_some_iff.1 hi).1
  clear hR hB hm hi h0 h1 HR0 HB0
  rcases law with ⟨hz,hrun⟩|⟨e,he,w1,hal,hrun⟩
  ·have hnx:∀ ty,(Instr.next (.pointer (some ⟨w.heap.size+2,0,none⟩)) false ty).run Tryz.prog wr=_:=fun _=>hrun
   have HP:=zh (show sumP l=none by unfold sumP;rw [HH0.out (zvl hz).1,HH1.out (zvl hz).2];rfl)
   clear hrun hz hg
   go_wp2_with ((with_reducible refine zla 194 (.tmp 2) ?_);refine zda rfl 194 (.tmp 2) (.tmp 17) rfl w.heap.size [.int .i64 0,.int .i64 0] rfl rfl HB.out Tryz.zAf rfl (by simp [Value.oneCell']) ?_)
   exact zVj (cs:=[.int .i64 0,.int .i64 0]) Tryz.results130 rfl HB.out Tryz.underlying194 rfl Tryz.zAf rfl rfl
    (.inl ⟨HP.out,rfl,(HR.out.setRow (Nat.le_refl _) _).st,(HR.out.setRow (Nat.le_refl _) _).kp⟩)
  ·have hmem:=zIm he
   have HW:=zh (zHq he)
   have hR1:Run E w w1 l d:=hal.elim (fun e=>e▸HR.out) (fun e=>e▸HR.out.drew)
   have hB1:Blk w1 w.heap.size [.int .i64 0,.int .i64 0] 194:=hal.elim (fun e=>e▸HB.out) (fun e=>e▸HB.out)
   have hM1:w1.heap[w.heap.size+1]?=some (.map zhd 2):=hal.elim (fun e=>e▸HM.out) (fun e=>e▸HM.out)
   have hI1:w.heap.size+2<w1.heap.size:=hal.elim (fun e=>e▸hsz) (fun e=>e▸hsz)
   generalize hw2:setBlock w1 (w.heap.size+2) (.mapIter (some (w.heap.size+1)) 2 (seen.push e.born) 2)=w2 at hrun
   have hR2:Run E w w2 l d:=by rw [← hw2];exact hR1.setBlock (by omega) _
   have hB2:Blk w2 w.heap.size [.int .i64 0,.int .i64 0] 194:=by rw [← hw2];exact (zod _ _ _ _ (by omega)).trans hB1
   have hM2:w2.heap[w.heap.size+1]?=some (.map zhd 2):=by rw [← hw2];exact (zod _ _ _ _ (by omega)).trans hM1
   have hI2:w2.heap[w.heap.size+2]?=some (.mapIter (some (w.heap.size+1)) 2 (seen.push e.born) 2):=by rw [← hw2];exact heap_setBlock_same _ _ _ hI1
   have hent:=run_entry_at (P:=Tryz.prog) w2 (w.heap.size+2) (w.heap.size+1) 2 seen zhd 2 e hI2 hM2 hmem.1 (by decide)
   have hnx:∀ ty,(Instr.next (.pointer (some ⟨w.heap.size+2,0,none⟩)) false ty).run Tryz.prog wr=_:=fun _=>hrun
   have HR2:=zh hR2
   have HB2:=zh hB2
   have HM2:=zh hM2
   have HI2:=zh hI2
   have HG:=zh hg
   have hsz2:w.heap.size<w2.heap.size:=hB2.lt
   clear hrun hw2 hR2 hB2 hM2 hI2 hR1 hB1 hM1 hI1 hal hg HR HB HM HI he w1
   rcases zXk hmem.1 with rfl|rfl
   ·clear hmem
    unfold zpk at hent hnx HI2 HW
    simp only [] at hent hnx HI2 HW
    cases hi:isT (hdT l) (bs [43]) with
    | false =>
     have HN:=zh hi
     clear hi
     go_wp2_with fail
     refine (zSa (HR2.out.alloc _).st HN.out).mono ?_
     rintro e w3 ⟨rfl,hb⟩
     have HR3:=zh ((HR2.out.alloc _).below hb)
     have HB3:=zh ((HB2.out.alloc _).kp (Kp.of_below (pb:=E.pb) hb) (by omega))
     have HM3:=zh ((hb.block _ (by have:=(Array.getElem?_eq_some_iff.1 HM2.out).1;simp;omega)).trans ((Below.heap_alloc _ _ _ (Array.getElem?_eq_some_iff.1 HM2.out).1).trans HM2.out))
     have HI3:=zh ((hb.block _ (by have:=(Array.getElem?_eq_some_iff.1 HI2.out).1;simp;omega)).trans ((Below.heap_alloc _ _ _ (Array.getElem?_eq_some_iff.1 HI2.out).1).trans HI2.out))
     clear hb hent hnx
     go_wp2
     go_roundg (gk-1)
     case measure=>have:=HG.out;have:=HW.out;omega
     case rel=>exact ⟨seen.push 0,HR3.out,HB3.out,HM3.out,HI3.out,fun _=>HN.out,fun hx=>HH1.out (by simpa using hx),by have:=HG.out;have:=HW.out;omega⟩
    | true =>
     have HN:=zh hi
     have HP:=zh (show sumP l=some (21,1) by unfold sumP;rw [HN.out];rfl)
     clear hi
     go_wp2_with fail
     refine (zLa (HR2.out.alloc _).st HN.out (by decide)).mono ?_
     rintro e w3 ⟨rfl,hs,hk⟩
     have HR3:=zh ((HR2.out.alloc _).call hk hs)
     have HB3:=zh ((HB2.out.alloc _).kp hk (by omega))
     have HC3:=zh ((Blk.new w2 [.int .i64 21,.int .i64 (1)] 194).kp hk (by omega))
     clear hs hk hent hnx
     go_wp2_with (first|((with_reducible refine zqa 194 (.tmp 5) ?_);refine zia rfl 194 (.tmp 5) rfl w2.heap.size [.int .i64 21,.int .i64 (1)] rfl HC3.out Tryz.underlying194 rfl Tryz.zAf ?_)|((with_reducible refine zla 194 (.tmp 2) ?_);refine zda rfl 194 (.tmp 2) (.tmp 16) rfl w.heap.size [.int .i64 21,.int .i64 (1)] rfl rfl HB3.out Tryz.zAf rfl (by simp [Value.oneCell']) ?_))
     (try rw [Exit.noGoto_ret])
     exact zVj (cs:=[.int .i64 21,.int .i64 (1)]) Tryz.results130 rfl HB3.out Tryz.underlying194 rfl Tryz.zAf rfl rfl
      (.inr ⟨21,1,HP.out,by omega,rfl,(HR3.out.setRow (Nat.le_refl _) _).st,(HR3.out.setRow (Nat.le_refl _) _).kp⟩)
   ·clear hmem
    unfold zDl at hent hnx HI2 HW
    simp only [] at hent hnx HI2 HW
    cases hi:isT (hdT l) (bs [45]) with
    | false =>
     have HN:=zh hi
     clear hi
     go_wp2_with fail
     refine (zSa (HR2.out.alloc _).st HN.out).mono ?_
     rintro e w3 ⟨rfl,hb⟩
     have HR3:=zh ((HR2.out.alloc _).below hb)
     have HB3:=zh ((HB2.out.alloc _).kp (Kp.of_below (pb:=E.pb) hb) (by omega))
     have HM3:=zh ((hb.block _ (by have:=(Array.getElem?_eq_some_iff.1 HM2.out).1;simp;omega)).trans ((Below.heap_alloc _ _ _ (Array.getElem?_eq_some_iff.1 HM2.out).1).trans HM2.out))
     have HI3:=zh ((hb.block _ (by have:=(Array.getElem?_eq_some_iff.1 HI2.out).1;simp;omega)).trans ((Below.heap_alloc _ _ _ (Array.getElem?_eq_some_iff.1 HI2.out).1).trans HI2.out))
     clear hb hent hnx
     go_wp2
     go_roundg (gk-1)
     case measure=>have:=HG.out;have:=HW.out;omega
     case rel=>exact ⟨seen.push 1,HR3.out,HB3.out,HM3.out,HI3.out,fun hx=>HH0.out (by simpa using hx),fun _=>HN.out,by have:=HG.out;have:=HW.out;omega⟩
    | true =>
     have HN:=zh hi
     have HP:=zh (show sumP l=some (22,-1) by unfold sumP;rw [HN.out,show isT (hdT l) (bs [43])=false by cases hc:isT (hdT l) (bs [43]) with|false=>rfl|true=>exact absurd (zKt hc HN.out) (by simp only [ByteArray.toList_eq];decide)];rfl)
     clear hi
     go_wp2_with fail
     refine (zLa (HR2.out.alloc _).st HN.out (by decide)).mono ?_
     rintro e w3 ⟨rfl,hs,hk⟩
     have HR3:=zh ((HR2.out.alloc _).call hk hs)
     have HB3:=zh ((HB2.out.alloc _).kp hk (by omega))
     have HC3:=zh ((Blk.new w2 [.int .i64 22,.int .i64 (-1)] 194).kp hk (by omega))
     clear hs hk hent hnx
     go_wp2_with (first|((with_reducible refine zqa 194 (.tmp 5) ?_);refine zia rfl 194 (.tmp 5) rfl w2.heap.size [.int .i64 22,.int .i64 (-1)] rfl HC3.out Tryz.underlying194 rfl Tryz.zAf ?_)|((with_reducible refine zla 194 (.tmp 2) ?_);refine zda rfl 194 (.tmp 2) (.tmp 16) rfl w.heap.size [.int .i64 22,.int .i64 (-1)] rfl rfl HB3.out Tryz.zAf rfl (by simp [Value.oneCell']) ?_))
     (try rw [Exit.noGoto_ret])
     exact zVj (cs:=[.int .i64 22,.int .i64 (-1)]) Tryz.results130 rfl HB3.out Tryz.underlying194 rfl Tryz.zAf rfl rfl
      (.inr ⟨22,-1,HP.out,by omega,rfl,(HR3.out.setRow (Nat.le_refl _) _).st,(HR3.out.setRow (Nat.le_refl _) _).kp⟩)
end
end Go.Proofs.YtpjnpffcnmgdcaaGreatDoor
