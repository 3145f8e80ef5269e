/- A region that draws its order, when all but a chain of its operations yield in every world that meets a condition S: they are taken first, then the chain is walked in its one order. S is shown behind each operation of the chain but the last one (which may overwrite what S speaks of). Nothing of the program is walked here. append on a slice of trees: what comes of it holds the trees of both, in the row that was there or in a new one; all else is as it was. Nothing of the program is walked here. The contracts of the parser's methods that look at the next token or take it: peek, take, misplaced, is, accept, expectKind, name, number. The contract of the parser's expect: the next token, which must be one of those texts. -/
import Derived.Test.YtdhmdfhnkppnmaaDoorY04
import Derived.OrdersHeld
import Derived.Deep.RegionHeld
import Derived.Laws.AppendOwn
import Derived.Laws.AppendOwnNone
import Derived.RegionTactic
import Derived.ChangeAlike
import Derived.BigRegion
import Derived.Deep.LoopGhost
import Derived.Test.YtdhmdfhnkppnmaaDoorY03
namespace Go.Proofs.YtdhmdfhnkppnmaaDoor
set_option maxRecDepth 100000
set_option maxHeartbeats 1000000
section
open Go.RowKit
section
variable {P:Program} {ops:Array Oper} {Q:Exit→Act→World→Prop} {md:Region.Mode} {S:World→Prop}
def AnyE (P:Program) (md:Region.Mode) (ops:Array Oper) (Q:Exit→Act→World→Prop) (S:World→Prop):Nat→Array Bool→Act→World→Prop
 | 0,listed,a,w=>Region.ready md ops listed=[]∧Q .normal a w
 | fuel+1,listed,a,w =>
  (Region.ready md ops listed=[]→Q .normal a w) ∧
  ∀ i∈Region.ready md ops listed,wpOp P ops Q i (fun a' w'=>(i+1≠ops.size→S w')∧AnyE P md ops Q S fuel (listed.setIfInBounds i true) a' w') a w
theorem AnyE.any:∀ (fuel:Nat) (listed:Array Bool) (a:Act) (w:World),AnyE P md ops Q S fuel listed a w→wpAny P md ops Q fuel listed a w
 | 0,_,_,_,h=>h
 | fuel+1,_,_,_,h=>⟨h.1,fun i hi=>wpOp_mono (fun a' w' h'=>AnyE.any fuel _ a' w' h'.2) (h.2 i hi)⟩
def zFg (md:Region.Mode) (ops:Array Oper) (i:Nat):Bool :=
 match ops[ops.size-1]? with
 | some o=>o.after.any fun e=>Region.binds md e && e.on == i
 | none=>false
theorem AnyE.first {i:Nat} {oi:Oper} {v:Value} (hi:ops[i]?=some oi) (hlw:zFg md ops i=true) (hsel:∀ (j:Nat) (o:Oper) cs b,ops[j]?=some o→o.op≠.select cs b)
  (hQ:∀ c a w,Q (.panic c) (a.put oi.dst v) w→Q (.panic c) a w) :
  ∀ (fuel:Nat) (listed:Array Bool) (a:Act) (w:World),
   (∀ j oj,ops[j]?=some oj→j≠i→listed.getD j true=false→(∀ e∈oj.after,Region.binds md e=true→e.on≠i)→oi.apart ops oj=true) →
   i∈Region.ready md ops listed→YieldsIf P ops S oi v a→S w →
   AnyE P md ops Q S fuel (listed.setIfInBounds i true) (a.put oi.dst v) w→AnyE P md ops Q S (fuel+1) listed a w:=by
 intro fuel
 induction fuel with
 | zero =>
  intro listed a w _ hr hy hS H
  refine ⟨fun h=>(by rw [h] at hr;cases hr),fun j hj=>?_⟩
  by_cases hji:j=i
  ·subst hji;exact hy.wpOp hi hS ⟨fun _=>hS,H⟩
  ·have:=ready_mono hj hji
   rw [H.1] at this
   cases this
 | succ fuel ih =>
  intro listed a w hfree hr hy hS H
  refine ⟨fun h=>(by rw [h] at hr;cases hr),fun j hj=>?_⟩
  by_cases hji:j=i
  ·subst hji;exact hy.wpOp hi hS ⟨fun _=>hS,H⟩
  ·have h0:=(mem_ready.1 hr).1
   have hun:(listed.setIfInBounds j true).getD i true=false:=by rw [getD_set_ne true hji];exact h0
   obtain ⟨hjun,oj,hoj,hall⟩:=mem_ready.1 hj
   have hnot:∀ e∈oj.after,Region.binds md e=true→e.on≠i:=fun e he hb heq=>by
    have h1:=hall e he hb
    rw [heq] at h1
    rcases Nat.lt_or_ge i listed.size with h'|h'
    ·simp [h'] at h0 h1;rw [h0] at h1;cases h1
    ·simp [Array.getElem?_eq_none h'] at h1
   have hfree':∀ k ok,ops[k]?=some ok→k≠i→(listed.setIfInBounds j true).getD k true=false →
     (∀ e∈ok.after,Region.binds md e=true→e.on≠i)→oi.apart ops ok=true:=fun k ok hk hki hunk hno=>by
    refine hfree k ok hk hki ?_ hno
    by_cases hjk:j=k
    ·subst hjk;exact hjun
    ·rw [getD_set_ne true hjk] at hunk;exact hunk
   have h1:=H.2 j (ready_mono hj hji)
   have h2:=wpOp_putIf hoj (hfree j oj hoj hji hjun hnot) (fun cs b=>hsel i oi cs b hi) (fun cs b=>hsel j oj cs b hoj) hQ hy h1
   have hlast:j+1≠ops.size:=fun he=>by
    have hj':ops.size-1=j:=by omega
    unfold zFg at hlw
    rw [hj',hoj] at hlw
    obtain ⟨k,hk,hb⟩:=Array.any_eq_true.1 hlw
    simp only [Bool.and_eq_true,beq_iff_eq] at hb
    exact hnot _ (Array.getElem_mem hk) hb.1 hb.2
   refine wpOp_mono (fun a' w' h3=>?_) h2
   have hS':S w':=h3.2.1 hlast
   refine ⟨fun _=>hS',ih (listed.setIfInBounds j true) a' w' hfree' (ready_mono hr (Ne.symm hji)) h3.1 hS' ?_⟩
   rw [Array.setIfInBounds_comm _ _ hji]
   exact h3.2.2
theorem AnyE.take {i:Nat} {oi:Oper} {v:Value} {fuel:Nat} {listed:Array Bool} {a:Act} {w:World} (hi:ops[i]?=some oi) (hlw:zFg md ops i=true)
  (hs:Region.noSelect ops=true) (hf:Region.free md ops listed i=true) (hr:(Region.ready md ops listed).contains i=true)
  (hQ:∀ c a w,Q (.panic c) (a.put oi.dst v) w→Q (.panic c) a w) (hy:YieldsIf P ops S oi v a) (hS:S w)
  (h:AnyE P md ops Q S fuel (listed.setIfInBounds i true) (a.put oi.dst v) w):AnyE P md ops Q S (fuel+1) listed a w :=
 AnyE.first hi hlw (Region.noSelect_spec hs) hQ fuel listed a w (Region.free_spec hi hf) (by simpa using hr) hy hS h
theorem AnyE.one {i:Nat} {o:Oper} {fuel:Nat} {listed:Array Bool} {a:Act} {w:World} (hr:Region.ready md ops listed=[i]) (ho:ops[i]?=some o) (hw:Region.wanted o (yielded ops a.tmps)=true)
  (h:∀ K:Act→World→Prop,Shut (∀ a w,(i+1≠ops.size→S w)→AnyE P md ops Q S fuel (listed.setIfInBounds i true) a w→K a w)→o.wp P a w K Q):AnyE P md ops Q S (fuel+1) listed a w:=by
 refine ⟨(fun h0=>by rw [hr] at h0;cases h0),fun j hj=>?_⟩
 rw [hr] at hj
 obtain rfl:j=i:=by simpa using hj
 refine wpOp_step ho fun K' hK=>?_
 rw [if_pos hw]
 exact h K' fun a w hS hA=>hK a w ⟨hS,hA⟩
theorem AnyE.done {listed:Array Bool} {a:Act} {w:World} (hr:Region.ready md ops listed=[]) (h:Q .normal a w):∀ fuel,AnyE P md ops Q S fuel listed a w
 | 0=>⟨hr,h⟩
 | _+1=>⟨fun _=>h,by rw [hr];simp⟩
theorem AnyE.begin {id:Nat} {a:Act} {w:World} (hm:P.follows .mixedOrders=true) (h:AnyE P .any ops Q S ops.size (Array.replicate ops.size false) a w.drew):(Code.region id ops true).wp P Q a w :=
 wp_region_any hm (AnyE.any _ _ _ _ h)
theorem AnyE.zHb {id:Nat} {a:Act} {w:World} (hm:P.follows .mixedOrders=true) (hS:S w.drew) (h:S w.drew→AnyE P .any ops Q S ops.size (Array.replicate ops.size false) a w.drew):(Code.region id ops true).wp P Q a w :=
 AnyE.begin hm (h hS)
end
end
section
open Go.RowKit
theorem zad:∀ (ks ts:List T) (vs us:List Value),vs.length=ks.length→zDa (ks++ts) (vs++us)=zDa ks vs++zDa ts us
 | [],_,[],_,_=>rfl
 | k :: ks,ts,v :: vs,us,h=>by
  simp only [List.cons_append,zDa,List.append_assoc]
  rw [zad ks ts vs us (by simpa using h)]
theorem zlb.length {e:TypeId} {w:World}:∀ {ts:List T} {S:Nat→Prop} {vs:List Value},zlb e w ts S vs→vs.length=ts.length
 | [],_,_,h=>by unfold zlb at h;rw [h];rfl
 | t :: ts,_,_,h=>by
  unfold zlb at h
  obtain ⟨v,vs',rfl,_,h'⟩:=h
  simp [zlb.length h']
theorem zlb.append {e:TypeId} {w:World}:∀ {ks ts:List T} {S:Nat→Prop} {vs us:List Value},zlb e w ks S vs→zlb e w ts S us→zlb e w (ks++ts) S (vs++us)
 | [],_,_,_,_,h,h'=>by unfold zlb at h;rw [h];exact h'
 | k :: ks,ts,_,_,us,h,h'=>by
  unfold zlb at h
  obtain ⟨v,vs',rfl,hk,hks⟩:=h
  show zlb e w (k :: (ks++ts)) _ (v :: (vs'++us))
  unfold zlb
  exact ⟨v,vs'++us,rfl,hk,zlb.append hks h'⟩
theorem TAt.one' {e:TypeId} {w:World} {t:T} {S:Nat→Prop} {v:Value} (h:TAt e w t S v):v.oneCell'=true:=h.kat.one
theorem zXd {e:TypeId} {w:World}:∀ {ts:List T} {S:Nat→Prop} {vs:List Value},zlb e w ts S vs→∀ u∈zDa ts vs,u.oneCell'=true
 | [],_,_,_=>by intro u hu;simp [zDa] at hu
 | t :: ts,_,_,h=>by
  unfold zlb at h
  obtain ⟨v,vs',rfl,ht,hts⟩:=h
  intro u hu
  simp only [zDa,List.mem_append] at hu
  rcases hu with hu|hu
  ·exact zda t v ht.one' u hu
  ·exact zXd hts u hu
theorem zcd {e:TypeId} {w:World}:∀ {ts:List T} {S:Nat→Prop} {vs:List Value},zlb e w ts S vs→(zDa ts vs).length=ts.length * 5
 | [],_,_,_=>by simp [zDa]
 | t :: ts,_,_,h=>by
  unfold zlb at h
  obtain ⟨v,vs',rfl,_,hts⟩:=h
  simp only [zDa,List.length_append,zcd hts,List.length_cons]
  show 5+_=_
  omega
theorem zCf {P:Program} {w:World} {t ty e:TypeId} {i:TypeInfo} {z:Value} {bytes:Nat} (ht:P.underlying t=some (.slice e)) (hi:P.info? e=some i) (hz:i.zero=some z) (hsize:i.size=5) (hby:i.bytes=bytes)
  {v:Value} {n:Nat} {xs:List Value} (hown:w.ownsRow 0 e 5 v n xs) {a:Addr} {m c:Nat} {news:List Value} (hm:0<m) (hl:news.length=m * 5) (hnews:∀ j u,news[j]?=some u→w.cell? (a.add j)=some u) (h1:∀ u∈news,u.oneCell'=true)
  (h63:n+m≤maxLen) (hbytes:(n+m) * bytes≤140737488355328) {v':Value} {w':World} (hr:(Builtin.append_ #[t,t] ty #[v,.slice (some a) m c]).run P w=.ok v' w'):v'.ownBlock=v.ownBlock∨v'.ownBlock=some w.heap.size:=by
 subst hby
 have hsmall:n+m≤9223372036854775807:=by simp only [maxLen] at h63;omega
 rw [← hsize] at hl
 rcases hown.2 with ⟨rfl,rfl⟩|⟨g,cap,cur,rfl,hbg,hg,hnc,hcm,hcs,htake⟩
 ·have h:=run_append_nil (P:=P) w t ty e i z ht hi hz a m c news hl hnews hm (by omega) (by have hb:=hbytes;simp only [Nat.zero_add] at hb;omega)
  rw [h] at hr
  cases hr
  exact .inr rfl
 ·by_cases hroom:n+m≤cap
  ·have hfit:n * i.size+news.length≤cur.size:=by rw [hl,hcs,hsize,← Nat.add_mul];exact Nat.mul_le_mul_right _ hroom
   have h:=run_append_room (P:=P) w t ty e i ht hi g n cap cur hg a m c news hl hnews h1 hroom hfit
   rw [h] at hr
   cases hr
   exact .inl rfl
  ·have h:=run_append_grow (P:=P) w t ty e i z ht hi hz ⟨g,0,none⟩ n cap xs (by rw [hown.1,hsize]) (hown.cells (g:=g) rfl) a m c news hl hnews (by omega) (by omega) (growslice_fits (by omega) hbytes)
   rw [h] at hr
   cases hr
   exact .inr rfl
structure zke (P:Program) (t e:TypeId) (i:TypeInfo) (z:Value):Prop where
 ht:P.underlying t=some (.slice e)
 hi:P.info? e=some i
 hz:i.zero=some z
 size:i.size=5
 bytes:i.bytes=64
 zs:z.cells.size=5
theorem zRf {P:Program} {w:World} {t ty e:TypeId} {i:TypeInfo} {z:Value} (I:zke P t e i z) {ks ts:List T} {S:Nat→Prop} {v:Value} (hk:KAt e w ks S v) {us:List Value}
  (hts:zlb e w ts (fun b=>S b∧v.ownBlock≠some b) us) (hS:S w.heap.size) {a:Addr} {c:Nat} (hm:0<ts.length) (hnews:∀ j u,(zDa ts us)[j]?=some u→w.cell? (a.add j)=some u) (hb:ks.length+ts.length≤100000) :
  ∃ v' w',(Builtin.append_ #[t,t] ty #[v,.slice (some a) ts.length c]).run P w=.ok v' w'∧KAt e w' (ks++ts) S v'∧w.grownBy w' v.ownBlock∧(v'.ownBlock=v.ownBlock∨v'.ownBlock=some w.heap.size):=by
 obtain ⟨vs,hown,hSv,hks⟩:=hk
 obtain ⟨v',w',hr,ho',hg',_⟩:=run_append_own (P:=P) w 0 t ty e i z 5 64 I.ht I.hi I.hz I.size I.bytes I.zs (by decide) v ks.length (zDa ks vs) hown a ts.length c (zDa ts us) (zcd hts) hnews (zXd hts)
  (by unfold maxLen;omega) (by omega) (Nat.zero_le _)
 have hbk:=zCf (ty:=ty) I.ht I.hi I.hz I.size I.bytes hown hm (zcd hts) hnews (zXd hts) (by unfold maxLen;omega) (by omega) hr
 refine ⟨v',w',hr,⟨vs++us,?_,?_,?_⟩,hg',hbk⟩
 ·rw [zad _ _ _ _ (zlb.length hks),List.length_append]
  exact ho'
 ·intro g hg
  rcases hbk with h|h
  ·exact hSv g (h▸hg)
  ·rw [h] at hg;cases hg;exact hS
 ·have keep:∀ b,(S b∧v.ownBlock≠some b)→b<w.heap.size→(S b∧v'.ownBlock≠some b)∧w'.heap[b]?=w.heap[b]?:=fun b hb hl=>by
   refine ⟨⟨hb.1,fun h=>?_⟩,hg'.block b hl (Ne.symm hb.2)⟩
   rcases hbk with h'|h'
   ·exact hb.2 (h'▸h)
   ·rw [h'] at h;cases h;exact absurd hl (Nat.lt_irrefl _)
  exact zlb.append (zlb.keep ks hks keep) (zlb.keep ts hts keep)
theorem zOa {P:Program} {w:World} {o:Oper} {a:Act} {K:Act→World→Prop} {Q:Exit→Act→World→Prop} (s x:Operand) {t e:TypeId} (ho:o.op=.call { callee:=.builtin .append,args:=#[s,x],argTypes:=#[t,t] })
  {i:TypeInfo} {z:Value} (I:zke P t e i z) {ks ts:List T} {S:Nat→Prop} {v:Value} (hs:a.eval s=v) (hk:KAt e w ks S v) {us:List Value}
  (hts:zlb e w ts (fun b=>S b∧v.ownBlock≠some b) us) (hS:S w.heap.size) {ad:Addr} {m c:Nat} (hx:a.eval x=.slice (some ad) m c) (hml:m=ts.length) (hm:0<ts.length) (hnews:∀ j u,(zDa ts us)[j]?=some u→w.cell? (ad.add j)=some u)
  (hb:ks.length+ts.length≤100000)
  (h:∀ v' w',KAt e w' (ks++ts) S v'→w.grownBy w' v.ownBlock→(v'.ownBlock=v.ownBlock∨v'.ownBlock=some w.heap.size)→K (a.put o.dst v') w'):o.wp P a w K Q:=by
 subst hml
 obtain ⟨v',w',hr,h2,h3,h4⟩:=zRf (ty:=o.type) (c:=c) I hk hts hS hm hnews hb
 unfold Oper.wp execOp
 simp only [ho,resolve,invoke,builtin,Sem.run_bind,Sem.run_pure,Result.andThen_ok,List.map_toArray,List.map_cons,List.map_nil,hs,hx,hr]
 exact h v' w' h2 h3 h4
theorem zSb {P:Program} {w:World} {ops:Array Oper} {rest:List Oper} {o:Oper} {a:Act} {Q:Exit→Act→World→Prop} (hgd:o.guard=none) (s x:Operand) {t e:TypeId} (ho:o.op=.call { callee:=.builtin .append,args:=#[s,x],argTypes:=#[t,t] })
  {i:TypeInfo} {z:Value} (I:zke P t e i z) {ks ts:List T} {S:Nat→Prop} {v:Value} (hs:a.eval s=v) (hk:KAt e w ks S v) {us:List Value}
  (hts:zlb e w ts (fun b=>S b∧v.ownBlock≠some b) us) (hS:S w.heap.size) {ad:Addr} {m c:Nat} (hx:a.eval x=.slice (some ad) m c) (hml:m=ts.length) (hm:0<ts.length) (hnews:∀ j u,(zDa ts us)[j]?=some u→w.cell? (ad.add j)=some u)
  (hb:ks.length+ts.length≤100000)
  (h:∀ v' w',KAt e w' (ks++ts) S v'→w.grownBy w' v.ownBlock→(v'.ownBlock=v.ownBlock∨v'.ownBlock=some w.heap.size)→wpList P ops Q rest (a.put o.dst v') w'):wpList P ops Q (o :: rest) a w :=
 wpList_plain hgd fun _ hK=>zOa s x ho I hs hk hts hS hx hml hm hnews hb fun v' w' h2 h3 h4=>hK _ _ (h v' w' h2 h3 h4)
theorem zde (w:World) (e:TypeId) (t:T) (v:Value):∀ j u,(zDa [t] [v])[j]?=some u→(w.alloc (.cells (zaa t v).toArray e)).cell? ((⟨w.heap.size,0,none⟩:Addr).add j)=some u:=by
 intro j u hj
 rw [Addr.add_mid,Nat.zero_add,(Blk.new w (zaa t v) e).cell j]
 simpa [zDa] using hj
theorem zlm (w:World) (e:TypeId) (t t':T) (v v':Value):∀ j u,(zDa [t,t'] [v,v'])[j]?=some u→(w.alloc (.cells (zaa t v++zaa t' v').toArray e)).cell? ((⟨w.heap.size,0,none⟩:Addr).add j)=some u:=by
 intro j u hj
 rw [Addr.add_mid,Nat.zero_add,(Blk.new w (zaa t v++zaa t' v') e).cell j]
 simpa [zDa] using hj
theorem zlb.single {e:TypeId} {w:World} {t:T} {S:Nat→Prop} {v:Value} (h:TAt e w t S v):zlb e w [t] S [v]:=by
 unfold zlb
 exact ⟨v,[],rfl,h,by unfold zlb;rfl⟩
theorem zlb.pair {e:TypeId} {w:World} {t t':T} {S:Nat→Prop} {v v':Value} (h:TAt e w t S v) (h':TAt e w t' S v'):zlb e w [t,t'] S [v,v']:=by
 unfold zlb
 exact ⟨v,[v'],rfl,h,zlb.single h'⟩
theorem Tryd.zOc:∃ i z,zke Tryd.prog 23 25 i z:=by
 have h:(Tryd.prog.info? 25).map (fun i=>(i.zero,i.size,i.bytes))=some (some (.agg #[.int .i64 0,.string ⟨#[]⟩,.int .i64 0,.int .i64 0,.slice none 0 0]),5,64):=by kernel_rfl
 obtain ⟨i0,hi,hz0,hz1,hz2⟩:=info_parts h
 exact ⟨i0,_,Tryd.underlying23,hi,hz0,hz1,hz2,rfl⟩
theorem Run.grown {E:Env} {w W W':World} {l:List Tok} {d:Nat} (h:Run E w W l d) {row:Option Nat} (hg:W.grownBy W' row) (hr:∀ k,row=some k→w.heap.size≤k):Run E w W' l d:=by
 have hb:∀ k,k<w.heap.size→W'.heap[k]?=W.heap[k]?:=fun k hk=>hg.block k (Nat.lt_of_lt_of_le hk h.kp.size) (fun e=>by have:=hr k e.symm;omega)
 exact ⟨⟨hg.os.trans h.kp.os,hg.tape.trans h.kp.tape,hg.output.trans h.kp.output,Nat.le_trans h.kp.size hg.size,fun k hk hn=>(hb k hk).trans (h.kp.block k hk hn)⟩,h.st.same hg.size (hb _ h.lo) (hb _ h.lt),h.lo,h.lt⟩
theorem Blk.grown {w w':World} {g:Nat} {cs:List Value} {t:TypeId} (h:Blk w g cs t) {row:Option Nat} (hg:w.grownBy w' row) (hn:some g≠row):Blk w' g cs t:=(hg.block g h.lt hn).trans h
theorem KAt.slice {e:TypeId} {w:World} {ks:List T} {S:Nat→Prop} {v:Value} (h:KAt e w ks S v):∃ a n c,v=.slice a n c:=by
 obtain ⟨_,ho,_⟩:=h
 rcases ho.2 with ⟨rfl,_⟩|⟨g,cap,_,rfl,_⟩
 ·exact ⟨_,_,_,rfl⟩
 ·exact ⟨_,_,_,rfl⟩
theorem zol (t:Tok) (l:List UInt8):isT t (bs l)=(t.text.toList == l):=by
 unfold isT
 rw [ByteArray.toList_eq (bs l)]
 simp [bs]
theorem znf {t:Tok} {l:List UInt8} (h:isT t (bs l)=true):(t.text.toList == l)=true∧t.text.toList=l:=by
 rw [zol] at h
 exact ⟨h,beq_iff_eq.1 h⟩
theorem zni {t:Tok} {l:List UInt8} (h:isT t (bs l)=false):(t.text.toList == l)=false∧¬ t.text.toList=l:=by
 rw [zol] at h
 exact ⟨h,beq_eq_false_iff_ne.1 h⟩
theorem Blk.zcb {w w':World} {g pb:Nat} {cs:List Value} {t:TypeId} (_:Kp pb w w') (h:Blk w g cs t):g<w.heap.size:=h.lt
theorem KAt.ztl {e:TypeId} {w:World} {t:T} {S:Nat→Prop} {v:Value} (h:TAt e w t S v) (a:Addr) (x:Value) (ha:∀ b,S b→b≠a.block) (hS:S w.heap.size) :
  KAt e ((w.setCell a x).alloc (.cells (zaa t v).toArray e)) [t] S (.slice (some ⟨w.heap.size,0,none⟩) 1 1):=by
 have h1:=KAt.zuo (h.setCell a x ha) (by rw [show (w.setCell a x).heap.size=w.heap.size by simp [World.setCell]];exact hS)
 rwa [show (w.setCell a x).heap.size=w.heap.size by simp [World.setCell]] at h1
theorem zka {P:Program} {o:Oper} {a:Act} {w:World} {K:Act→World→Prop} {Q:Exit→Act→World→Prop} (ty:TypeId) (x y:Operand) (ho:o.op=.store ty x y)
  (g:Nat) (cells:List Value) (hx:a.eval x=.pointer (some ⟨g,0,none⟩)) (hy:a.eval y=.agg cells.toArray)
  {t:TypeId} {old:List Value} (hg:Blk w g old t) (hi:(P.info? ty).map (·.size)=some cells.length)
  (hold:old.length=cells.length) (h1:∀ v∈cells,v.oneCell'=true)
  (h:K (a.put o.dst undef) (w.setRow g cells.toArray)):o.wp P a w K Q :=
 wp_store_row ty x y ho g cells.toArray hx hy t old.toArray hg (by simpa using hi) (by simpa using hold) (all_oneCell_toArray h1) h
theorem zNd {P:Program} {fn:Func} {s:Tmp} {ty t:TypeId} (h:fn.results=#[.cell s ty]) {a:Act} {W:World} {g:Nat} {old cs:List Value} {d:TypeDesc} {R:Ending→World→Prop} (hs:a.tmps.getD s undef=.pointer (some ⟨g,0,none⟩))
  (hb:Blk W g old t) (hu:P.underlying ty=some d) (hd:d.isRow=true) (hi:(P.info? ty).map (·.size)=some cs.length) (hdf:a.defers=[]) (hR:R (.returned (.agg cs.toArray)) (W.setRow g cs.toArray)) :
  bodyPost P fn R .ret a (W.setRow g cs.toArray) :=
 bodyPost_ret (zKe h hs (hb.zna cs) hu hd hi) hdf hR
theorem Run.nodeAt {E:Env} {w W:World} {l l':List Tok} {d g:Nat} {r:R T} {t:T} {v:Value} (hg:w.heap.size≤g) (h:Run E w W l' d) (ht:TAt 25 W t (fun b=>g<b) v) (hr:r=.ok (t,l')) (hl:l'.length<l.length) :
  zbb zNb E w l d r (.returned (zma t v)) (W.setRow g (zaa t v).toArray) :=
 .zmg hr rfl ⟨v,rfl,(ht.setRow _ _ (fun b hb=>by omega)).mono (fun b hb _=>by omega)⟩ (h.setRow hg _).st hl (h.setRow hg _).kp
def zJf {α:Type} (V:World→Nat→α→Value→Prop) (E:Env) (w:World) (l:List Tok) (d:Nat) (r:R α) (e:Ending) (w':World):Prop :=
 match r with
 | .ok (a,l')=>∃ v,e=.returned v∧V w' w.heap.size a v∧PSt E w' l' d∧l'.length≤l.length∧Kp E.pb w w'
 | .error (p,c)=>e=.panicked [{ v:=zhf p c,recovered:=false }]∧Kp E.pb w w'∧(c=20∨c=21)
theorem zJf.toP {α:Type} {V:World→Nat→α→Value→Prop} {E:Env} {w:World} {l l0:List Tok} {d:Nat} {r:R α} {e:Ending} {w':World} (h:zJf V E w l d r e w') (hl:l.length<l0.length):zbb V E w l0 d r e w':=by
 unfold zJf at h
 unfold zbb
 cases r with
 | error pc=>exact h
 | ok q =>
  obtain ⟨v,h1,h2,h3,h4,h5⟩:=h
  exact ⟨v,h1,h2,h3,by omega,h5⟩
theorem Run.zqo {E:Env} {w W:World} {l l':List Tok} {d:Nat} {r:R T} {t:T} {v:Value} (h:Run E w W l' d) (ht:TAt 25 W t (fun b=>w.heap.size<b) v) (hr:r=.ok (t,l')) (hl:l'.length≤l.length) :
  zJf zNb E w l d r (.returned (zma t v)) (W.setRow w.heap.size (zaa t v).toArray):=by
 rw [hr]
 exact ⟨_,rfl,⟨v,rfl,(ht.setRow _ _ (fun b hb=>by omega)).mono (fun b hb _=>by omega)⟩,(h.setRow (Nat.le_refl _) _).st,hl,(h.setRow (Nat.le_refl _) _).kp⟩
theorem Run.errE {α:Type} {V:World→Nat→α→Value→Prop} {E:Env} {w W:World} {l:List Tok} {d:Nat} {r:R α} {p:Nat} {c:Int} (hk:Kp E.pb w W) (hr:r=.error (p,c)) (hc:c=20∨c=21) :
  zJf V E w l d r (.panicked [{ v:=zhf p c,recovered:=false }]) W:=by rw [hr];exact ⟨rfl,hk,hc⟩
theorem Calls.weak {P:Program} {f:FuncId} {args:Array Value} {α:Type} {V:World→Nat→α→Value→Prop} {E:Env} {w:World} {l l0:List Tok} {d:Nat} {r:R α} (h:Calls P f args w (zJf V E w l d r)) (hl:l.length<l0.length):Calls P f args w (zbb V E w l0 d r) :=
 h.mono fun _ _ hp=>hp.toP hl
theorem zkb (fn:Fn) (first cap:Array Value) (w:World):(Instr.makeFunc fn first cap).run Tryd.prog w=.ok (.func fn first cap) w:=rfl
end
section
open Go.RowKit
theorem zdb {E:Env} {w:World} {l:List Tok} {d:Nat} (h:PSt E w l d) :
  Calls Tryd.prog 31 #[.pointer (some ⟨E.pb,0,none⟩)] w fun e w'=>e=.returned (zsb (hdT l))∧Below w.heap.size w w':=by
 obtain ⟨c0,c1,_,_⟩:=h.cell
 obtain ⟨t0,t1,t2,t3⟩:=h.tok
 have hk:E.ts.length-l.length<E.ts.length:=by have:=h.head.1;have:=h.le;omega
 have hlen:=h.len
 have hp:=h.plt
 have ht:=h.tlt
 generalize E.ts.length-l.length=k at *
 clear h
 go_enter Tryd.func31,Tryd.ntmps31
 go_wp2
 go_region
 go_wp2
 exact bodyPost_ret (v:=zsb (hdT l)) (by simp [results,Tryd.results31,go_sem,zsb]) rfl ⟨rfl,((Below.refl _ _).alloc (Nat.le_refl _) _).drew⟩
def zJb:List Value:=[.int .i64 0,.string ⟨#[]⟩,.int .i64 0,.int .i64 0]
theorem take_any {E:Env} {w:World} {l:List Tok} {d:Nat} (h:PSt E w l d) (he:Ends l.tail) :
  Calls Tryd.prog 65 #[.pointer (some ⟨E.pb,0,none⟩)] w fun e w'=>e=.returned (zsb (hdT l))∧PSt E w' l.tail d∧Kp E.pb w w':=by
 go_enter Tryd.func65,Tryd.ntmps65
 go_wp2_with fail
 refine (zdb (h.alloc _)).mono ?_
 rintro e w1 ⟨rfl,hb⟩
 have hk1:Kp E.pb (w.alloc _) w1:=.of_below hb
 have hs:=(h.alloc _).below hb
 obtain ⟨c0,c1,c2,cf⟩:=hs.cell
 have hlen:=h.len
 have hp:=hs.plt
 have hpw:=h.plt
 have htw:=h.tlt
 have HST:=zh (hs.step he)
 have HK:=zh (((Kp.refl E.pb w).alloc _).trans hk1)
 have HR:=zh ((Blk.new w zJb 73).kp hk1 (by omega))
 have hsz:w.heap.size<w1.heap.size:=by have:=hb.size;simp at this;omega
 clear hb hs h hk1
 unfold zsb
 generalize hkk:E.ts.length-l.length=k at *
 have hkb:k≤16385:=by omega
 clear hkk
 go_wp2_with ((with_reducible refine zra 73 (.tmp 2) ?_);refine zea rfl 73 (.tmp 2) (.tmp 13) rfl w.heap.size (zAa (hdT l)) rfl rfl ((HR.out.setOther ⟨E.pb,1,none⟩ _ (by show _≠E.pb;omega)).alloc _) Tryd.zqf rfl (zBc _) ?_)
 exact zua (cs:=zAa (hdT l)) Tryd.results65 rfl ((HR.out.setOther ⟨E.pb,1,none⟩ _ (by show _≠E.pb;omega)).alloc _) Tryd.underlying73 rfl Tryd.zqf rfl ⟨rfl,(HST.out.alloc _).setRow (by omega) (by omega) _,((HK.out.zDo _ _).alloc _).setRow (Nat.le_refl _) _⟩
theorem zGd {E:Env} {w:World} {l:List Tok} {d:Nat} (h:PSt E w l d) :
  Calls Tryd.prog 66 #[.pointer (some ⟨E.pb,0,none⟩)] w fun e w'=>e=.returned (.agg #[.int .i64 (hdT l).place,.int .i64 20])∧Below w.heap.size w w':=by
 go_enter Tryd.func66,Tryd.ntmps66
 go_wp2_with fail
 refine (zdb (h.alloc _)).mono ?_
 rintro e w1 ⟨rfl,hb⟩
 have HB:=zh (((Below.refl w.heap.size w).alloc (Nat.le_refl _) _).trans (hb.mono (by simp)))
 obtain ⟨hc,hf⟩:=zHk hb
 clear hb h
 unfold zsb
 have fl0:=zrb
 have fl1:=zmb
 have fl2:=zxf
 have fl3:=zpb
 go_wp2
 exact bodyPost_ret (v:=.agg #[.int .i64 (hdT l).place,.int .i64 20]) (by simp [results,Tryd.results66,go_sem,hc]) rfl ⟨rfl,(HB.out.setCell (Nat.le_refl _) _).setCell (Nat.le_refl _) _⟩
theorem znd {E:Env} {w:World} {l:List Tok} {d:Nat} (h:PSt E w l d) (s:ByteArray) :
  Calls Tryd.prog 64 #[.pointer (some ⟨E.pb,0,none⟩),.string s] w fun e w'=>e=.returned (.bool (isT (hdT l) s))∧Below w.heap.size w w':=by
 go_enter Tryd.func64,Tryd.ntmps64
 go_wp2_with fail
 refine (zdb h).mono ?_
 rintro e w1 ⟨rfl,hb⟩
 have HB:=zh hb
 clear hb h
 unfold zsb
 have fl0:=zrb
 have fl1:=zmb
 have fl2:=zxf
 have fl3:=zpb
 go_wp2
 go_ret
 exact ⟨rfl,HB.out⟩
theorem zFa {E:Env} {w:World} {l:List Tok} {d:Nat} (h:PSt E w l d) {s:ByteArray} (hi:isT (hdT l) s=false) :
  Calls Tryd.prog 69 #[.pointer (some ⟨E.pb,0,none⟩),.string s] w fun e w'=>e=.returned (.bool false)∧Below w.heap.size w w':=by
 go_enter Tryd.func69,Tryd.ntmps69
 go_wp2_with fail
 refine (znd h s).mono ?_
 rintro e w1 ⟨rfl,hb⟩
 rw [hi]
 have HB:=zh hb
 clear hb h hi
 go_wp2
 go_ret
 exact ⟨rfl,HB.out⟩
theorem zBa {E:Env} {w:World} {l:List Tok} {d:Nat} (h:PSt E w l d) {s:ByteArray} (hi:isT (hdT l) s=true) (hs:0<s.size) :
  Calls Tryd.prog 69 #[.pointer (some ⟨E.pb,0,none⟩),.string s] w fun e w'=>e=.returned (.bool true)∧PSt E w' l.tail d∧Kp E.pb w w':=by
 go_enter Tryd.func69,Tryd.ntmps69
 go_wp2_with fail
 refine (znd h s).mono ?_
 rintro e w1 ⟨rfl,hb⟩
 rw [hi]
 have h1:=h.below hb
 obtain ⟨c0,c1,c2,cf⟩:=h1.cell
 have hp:=h1.plt
 have hlen:=h.len
 have HST:=zh (h1.step (h.ends.zYk hi hs))
 have HK:=zh (Kp.of_below (pb:=E.pb) hb)
 clear hb h h1 hi hs
 generalize hkk:E.ts.length-l.length=k at *
 have hkb:k≤16385:=by omega
 clear hkk
 go_wp2
 go_ret
 exact ⟨rfl,HST.out,HK.out.zDo _ _⟩
theorem zwe {E:Env} {w:World} {l:List Tok} {d:Nat} (h:PSt E w l d) (k:Nat) (hk0:0<k) :
  Calls Tryd.prog 81 #[.pointer (some ⟨E.pb,0,none⟩),.int .i64 k] w (zbb VTok E w l d (zmf k l)):=by
 have hR:=(Run.start h).alloc (.cells zJb.toArray 73)
 go_enter Tryd.func81,Tryd.ntmps81
 go_wp2_with fail
 refine (zdb (h.alloc _)).mono ?_
 rintro e w1 ⟨rfl,hb⟩
 have hR1:=hR.below hb
 have HB:=zh ((Blk.new w zJb 73).kp (Kp.of_below (pb:=E.pb) hb) (by have:=h.plt;omega))
 have HR:=zh hR1
 have HL:=zh (zOd h)
 have HO:=zh h.zeo
 have HE:=zh h.ends
 clear hb h hR hR1
 by_cases hk:(hdT l).kind=k
 ·have HP:=zh (show zmf k l=.ok (hdT l,l.tail) by unfold zmf;rw [beq_iff_eq.2 hk];rfl)
  have hb:((((hdT l).kind:Int)) != (k:Int))=false:=by simp [hk]
  have HT:=zh (HE.out.tail (by omega))
  clear hk
  unfold zsb
  have fl0:=zrb
  have fl1:=zmb
  have fl2:=zxf
  have fl3:=zpb
  go_wp2_with fail
  refine (take_any HR.out.st HT.out).mono ?_
  rintro e w2 ⟨rfl,hs2,hk2⟩
  have HR2:=zh (HR.out.call hk2 hs2)
  have HB2:=zh (HB.out.kp hk2 (by have:=HR.out.lo;omega))
  clear hs2 hk2
  go_wp2_with ((with_reducible refine zra 73 (.tmp 4) ?_);refine zea rfl 73 (.tmp 4) (.tmp 14) rfl w.heap.size (zAa (hdT l)) rfl rfl HB2.out Tryd.zqf rfl (zBc _) ?_)
  exact zua (cs:=zAa (hdT l)) Tryd.results81 rfl HB2.out Tryd.underlying73 rfl Tryd.zqf rfl
   (.zmg HP.out rfl ⟨rfl,HO.out⟩ (HR2.out.setRow (Nat.le_refl _) _).st HL.out (HR2.out.setRow (Nat.le_refl _) _).kp)
 ·have HP:=zh (show zmf k l=.error ((hdT l).place,20) by unfold zmf;rw [beq_eq_false_iff_ne.2 hk];rfl)
  have hb:((((hdT l).kind:Int)) != (k:Int))=true:=by simp;omega
  clear hk
  unfold zsb
  have fl0:=zrb
  have fl1:=zmb
  have fl2:=zxf
  have fl3:=zpb
  go_wp2_with fail
  refine (zGd HR.out.st).mono ?_
  rintro e w2 ⟨rfl,hb2⟩
  have HR2:=zh (HR.out.below hb2)
  clear hb2
  go_wp2
  exact ⟨rfl,Run.err HR2.out.kp HP.out (.inl rfl)⟩
theorem name_any {E:Env} {w:World} {l:List Tok} {d:Nat} (h:PSt E w l d) :
  Calls Tryd.prog 67 #[.pointer (some ⟨E.pb,0,none⟩)] w (zbb VStr E w l d (zac l)):=by
 go_enter Tryd.func67,Tryd.ntmps67
 go_wp2_with fail
 refine (zwe h 1 (by omega)).mono ?_
 intro e w1 hp
 cases hr:zmf 1 l with
 | error pc =>
  obtain ⟨p,c⟩:=pc
  obtain ⟨rfl,hk,hcd⟩:=hp.err hr
  go_wp2
  exact ⟨rfl,Run.err hk (by unfold zac;exact zpa hr _) hcd⟩
 | ok q =>
  obtain ⟨t,l1⟩:=q
  obtain ⟨v,rfl,⟨rfl,ho⟩,hs,hl,hk⟩:=hp.ok hr
  have HP:=zh (show zac l=.ok (t.text,l1) by unfold zac;exact zia hr _)
  have HS:=zh hs
  have HK:=zh hk
  have HL:=zh hl
  clear hr hp h hs hk hl
  unfold zsb
  have fl0:=zrb
  have fl1:=zmb
  have fl2:=zxf
  have fl3:=zpb
  go_wp2
  go_ret
  exact .zmg HP.out rfl rfl HS.out HL.out HK.out
theorem zRc {E:Env} {w:World} {l:List Tok} {d:Nat} (h:PSt E w l d) :
  Calls Tryd.prog 91 #[.pointer (some ⟨E.pb,0,none⟩)] w (zbb VNum E w l d (zvb l)):=by
 go_enter Tryd.func91,Tryd.ntmps91
 go_wp2_with fail
 refine (zwe h 3 (by omega)).mono ?_
 intro e w1 hp
 cases hr:zmf 3 l with
 | error pc =>
  obtain ⟨p,c⟩:=pc
  obtain ⟨rfl,hk,hcd⟩:=hp.err hr
  go_wp2
  exact ⟨rfl,Run.err hk (by unfold zvb;exact zpa hr _) hcd⟩
 | ok q =>
  obtain ⟨t,l1⟩:=q
  obtain ⟨v,rfl,⟨rfl,ho⟩,hs,hl,hk⟩:=hp.ok hr
  have HP:=zh (show zvb l=.ok ((t.num:Int),l1) by unfold zvb;exact zia hr _)
  have HS:=zh hs
  have HK:=zh hk
  have HL:=zh hl
  have HN:=zh ho.num
  clear hr hp h hs hk hl ho
  unfold zsb
  have fl0:=zrb
  have fl1:=zmb
  have fl2:=zxf
  have fl3:=zpb
  go_wp2
  go_ret
  exact .zmg HP.out rfl ⟨rfl,by omega,by have:=HN.out;omega⟩ HS.out HL.out HK.out
end
section
open Go.RowKit
theorem zUi {ss:List ByteArray} {l:List Tok} {k:Nat} {s:ByteArray} (hk:ss[k]?=some s) (h:isT (hdT l) s=true):zxa ss l=.ok (hdT l,l.tail):=by
 unfold zxa
 rw [List.any_eq_true.2 ⟨s,List.mem_of_getElem? hk,h⟩]
 rfl
theorem zJk {ss:List ByteArray} {l:List Tok} (h:∀ s∈ss,isT (hdT l) s=false):zxa ss l=.error ((hdT l).place,20):=by
 unfold zxa
 rw [List.any_eq_false.2 (fun s hs=>by simp [h s hs])]
 rfl
def zqp (ss:List ByteArray) (l:List Tok) (W:World) (g:Nat) (i:Value) (wr:World):Prop :=
 ∃ k:Nat,k≤ss.length∧ss.length≤k+g∧i=.int .i64 k∧(∀ s∈ss.take k,isT (hdT l) s=false)∧Below W.heap.size W wr
theorem zIk {E:Env} {w:World} {l:List Tok} {d:Nat} (h:PSt E w l d) (ss:List ByteArray) (hne:∀ s∈ss,0<s.size) (hn:ss.length≤8) :
  Calls Tryd.prog 50 #[.pointer (some ⟨E.pb,0,none⟩),.slice (some ⟨w.heap.size,0,none⟩) ss.length ss.length] (w.alloc (.cells (ss.map Value.string).toArray 9)) (zbb VTok E w l d (zxa ss l)):=by
 have HR:=zh (((Run.start h).alloc (.cells (ss.map Value.string).toArray 9)).alloc (.cells zJb.toArray 73))
 have HC:=zh ((Blk.new w (ss.map Value.string) 9).alloc (.cells zJb.toArray 73))
 have HB:=zh (Blk.zIe w (.cells (ss.map Value.string).toArray 9) zJb 73)
 have HL:=zh (zOd h)
 have HO:=zh h.zeo
 have HE:=zh h.ends
 have HNE:=zh hne
 have hpw:=h.plt
 have htw:=h.tlt
 clear h hne
 go_enter Tryd.func50,Tryd.ntmps50
 go_wp2_with fail
 go_loopg [9] ss.length (fun g i wr=>zqp ss l ((w.alloc (.cells (ss.map Value.string).toArray 9)).alloc (.cells zJb.toArray 73)) g i wr)
 case atStart=>exact ⟨0,by omega,by omega,rfl,by simp,Below.refl _ _⟩
 case round =>
  obtain ⟨k,hk,hg,rfl,hno,hbel⟩:=hrel
  have HNO:=zh hno
  have HRW:=zh (HR.out.below hbel)
  have HBW:=zh (HB.out.kp (Kp.of_below (pb:=E.pb) hbel) (by omega))
  have HCW:=zh (HC.out.kp (Kp.of_below (pb:=E.pb) hbel) (by omega))
  have HBEL:=zh hbel
  clear hno hbel
  by_cases hlt:k<ss.length
  ·have hcell:wr.cell? ⟨w.heap.size,k,none⟩=some (.string ss[k]):=by rw [HCW.out.cell k];simp [hlt]
   cases hi:isT (hdT l) ss[k]
   ·have HI:=zh hi
    go_wp2_with fail
    refine (znd HRW.out.st ss[k]).mono ?_
    rintro e w1 ⟨rfl,hb⟩
    rw [HI.out]
    have HB1:=zh (HBEL.out.trans (hb.mono HBEL.out.size))
    clear hb hi hcell
    go_wp2
    go_roundg (gk-1)
    case measure=>omega
    case rel =>
     refine ⟨k+1,by omega,by omega,by go_num,?_,HB1.out⟩
     intro s hs
     rw [List.take_succ_eq_append_getElem hlt] at hs
     rcases List.mem_append.1 hs with h1|h1
     ·exact HNO.out s h1
     ·rw [List.mem_singleton.1 h1];exact HI.out
   ·have HI:=zh hi
    go_wp2_with fail
    refine (znd HRW.out.st ss[k]).mono ?_
    rintro e w1 ⟨rfl,hb⟩
    rw [HI.out]
    have HR1:=zh (HRW.out.below hb)
    have HB1:=zh (HBW.out.kp (Kp.of_below (pb:=E.pb) hb) (by omega))
    have HT:=zh (HE.out.zYk HI.out (HNE.out _ (List.getElem_mem hlt)))
    have HP:=zh (zUi (List.getElem?_eq_getElem hlt) HI.out)
    clear hb hi hcell
    go_wp2_with fail
    refine (take_any HR1.out.st HT.out).mono ?_
    rintro e w2 ⟨rfl,hs2,hk2⟩
    have HR2:=zh (HR1.out.call hk2 hs2)
    have HB2:=zh (HB1.out.kp hk2 (by omega))
    clear hs2 hk2
    unfold zsb
    go_wp2_with ((with_reducible refine zra 73 (.tmp 4) ?_);refine zea rfl 73 (.tmp 4) (.tmp 17) rfl (w.heap.size+1) (zAa (hdT l)) rfl rfl HB2.out Tryd.zqf rfl (zBc _) ?_)
    exact zua (cs:=zAa (hdT l)) Tryd.results50 rfl HB2.out Tryd.underlying73 rfl Tryd.zqf rfl
     (.zmg HP.out rfl ⟨rfl,HO.out⟩ (HR2.out.setRow (by omega) _).st HL.out (HR2.out.setRow (by omega) _).kp)
  ·have HP:=zh (zJk (ss:=ss) (l:=l) (by rw [List.take_of_length_le (by omega)] at HNO;exact HNO.out))
   go_wp2_with fail
   refine (zGd HRW.out.st).mono ?_
   rintro e w2 ⟨rfl,hb2⟩
   have HR2:=zh (HRW.out.below hb2)
   clear hb2
   go_wp2
   exact ⟨rfl,Run.err HR2.out.kp HP.out (.inl rfl)⟩
theorem zLa {E:Env} {w:World} {l:List Tok} {d g m c:Nat} (h:PSt E w l d) (ss:List ByteArray) (hne:∀ s∈ss,0<s.size) (hn:ss.length≤8) (hg:g=w.heap.size) (hm:m=ss.length) (hc:c=ss.length) :
  Calls Tryd.prog 50 #[.pointer (some ⟨E.pb,0,none⟩),.slice (some ⟨g,0,none⟩) m c] (w.alloc (.cells (ss.map Value.string).toArray 9)) (zbb VTok E w l d (zxa ss l)):=by
 subst hg hm hc
 exact zIk h ss hne hn
end
end Go.Proofs.YtdhmdfhnkppnmaaDoor
namespace Go.Proofs.YtdhmdfhnkppnmaaDoor
open Go.RowKit
def Con (t:Tok):Prop:=t.kind=1∨t.kind=3∨0<t.text.size
theorem zxp {t:Tok} {s:ByteArray} (h:isT t s=true) (hs:0<s.size):Con t:=by
 refine .inr (.inr ?_)
 have h1:=beq_iff_eq.1 (show (t.text.toList == s.toList)=true from h)
 rw [ByteArray.toList_eq,ByteArray.toList_eq] at h1
 have h2:=congrArg List.length h1
 have e1:t.text.data.toList.length=t.text.size:=Array.length_toList
 have e2:s.data.toList.length=s.size:=Array.length_toList
 omega
def Past {α:Type} (x:List Tok) (r:R α):Prop :=
 match r with
 | .ok q=>∃ d,x=d++q.2∧∀ t∈d,Con t
 | .error e=>(∃ t∈x,e.1=t.place∧e.2≠0)∨∀ t∈x,Con t
section
variable {α β:Type} {x l d:List Tok}
theorem Past.ok (a:α) (l:List Tok):Past l (.ok (a,l):R α):=⟨[],rfl,by simp⟩
theorem Past.trans {r:R α} (hx:x=d++l) (hd:∀ t∈d,Con t) (h:Past l r):Past x r:=by
 subst hx
 cases r with
 | ok q =>
  obtain ⟨d2,h1,h2⟩:=h
  refine ⟨d++d2,by rw [h1,List.append_assoc],fun t ht=>?_⟩
  rcases List.mem_append.1 ht with ht|ht
  ·exact hd t ht
  ·exact h2 t ht
 | error e =>
  rcases h with ⟨t,ht,he⟩|h
  ·exact .inl ⟨t,List.mem_append_right _ ht,he⟩
  ·refine .inr fun t ht=>?_
   rcases List.mem_append.1 ht with ht|ht
   ·exact hd t ht
   ·exact h t ht
theorem Past.bd {r:R α} {f:α→List Tok→R β} (hr:Past x r) (hf:∀ a l,r=.ok (a,l)→l.length≤x.length→Past l (f a l)):Past x (bd r f):=by
 cases hq:r with
 | error e=>rw [hq] at hr;exact hr
 | ok q =>
  obtain ⟨a,l⟩:=q
  rw [hq] at hr
  obtain ⟨d,h1,h2⟩:=hr
  exact Past.trans h1 h2 (hf a l hq (by rw [h1];simp))
theorem Past.cond {b:Bool} {r r':R α} (hx:b=true→Past x r) (hy:b=false→Past x r'):Past x (bif b then r else r'):=by
 cases b
 ·exact hy rfl
 ·exact hx rfl
theorem Past.sum {s:Option (Int × Int)} {a:R T} {f:Int→Int→R T} (ha:s=none→Past x a) (hf:∀ k v,s=some (k,v)→Past x (f k v)):Past x (zZn s a f):=by
 cases s with
 | none=>exact ha rfl
 | some q=>exact hf q.1 q.2 rfl
theorem Past.tail {r:R α} (hc:0<x.length→Con (hdT x)) (hr:Past x.tail r):Past x r:=by
 cases x with
 | nil=>exact hr
 | cons t y=>exact Past.trans (d:=[t]) rfl (fun u hu=>by obtain rfl:u=t:=List.mem_singleton.1 hu;exact hc (by simp)) hr
theorem Past.take {r:R α} {s:ByteArray} (h:isT (hdT x) s=true) (hs:0<s.size) (hr:Past x.tail r):Past x r:=Past.tail (fun _=>zxp h hs) hr
theorem Past.hd (x:List Tok) (e:Int) (he:e≠0):Past x (.error ((hdT x).place,e):R α):=by
 cases x with
 | nil=>exact .inr (by simp)
 | cons t y=>exact .inl ⟨t,by simp,rfl,he⟩
end
structure zgp (ρ:Nat→Nat→Prop) (t t':Tok):Prop where
 kind:t.kind=t'.kind
 text:t.text=t'.text
 num:t.num=t'.num
 place:ρ t.place t'.place
inductive Al (ρ:Nat→Nat→Prop):List Tok→List Tok→Prop where
 | nil:Al ρ [] []
 | cons {t t':Tok} {c c':List Tok}:zgp ρ t t'→Al ρ c c'→Al ρ (t :: c) (t' :: c')
mutual
def TR (ρ:Nat→Nat→Prop):T→T→Prop
 | .mk k s n p ks,u=>k=u.kind∧s=u.text∧n=u.num∧ρ p u.place∧TsR ρ ks u.kids
def TsR (ρ:Nat→Nat→Prop):List T→List T→Prop
 | [],us=>us=[]
 | t :: ts,us=>∃ u us',us=u :: us'∧TR ρ t u∧TsR ρ ts us'
end
section
variable {ρ:Nat→Nat→Prop}
theorem TR.mk {k:Int} {s:ByteArray} {n:Int} {p p':Nat} {ks ks':List T} (hp:ρ p p') (hk:TsR ρ ks ks'):TR ρ (.mk k s n p ks) (.mk k s n p' ks'):=by unfold TR;exact ⟨rfl,rfl,rfl,hp,hk⟩
theorem TsR.nil:TsR ρ [] []:=by unfold TsR;rfl
theorem TsR.cons {t u:T} {ts us:List T} (h:TR ρ t u) (hs:TsR ρ ts us):TsR ρ (t :: ts) (u :: us):=by unfold TsR;exact ⟨u,us,rfl,h,hs⟩
theorem TsR.one {t u:T} (h:TR ρ t u):TsR ρ [t] [u]:=.cons h .nil
theorem TsR.two {t u t' u':T} (h:TR ρ t u) (h':TR ρ t' u'):TsR ρ [t,t'] [u,u']:=.cons h (.cons h' .nil)
theorem TsR.append:∀ {a a' b b':List T},TsR ρ a a'→TsR ρ b b'→TsR ρ (a++b) (a'++b')
 | [],a',b,b',h,hb=>by unfold TsR at h;subst h;exact hb
 | t :: ts,a',b,b',h,hb=>by
  unfold TsR at h
  obtain ⟨u,us,rfl,h1,h2⟩:=h
  exact .cons h1 (TsR.append h2 hb)
theorem TR.text {t u:T} (h:TR ρ t u):t.text=u.text:=by cases t;unfold TR at h;exact h.2.1
theorem TR.kind {t u:T} (h:TR ρ t u):t.kind=u.kind:=by cases t;unfold TR at h;exact h.1
theorem TR.num {t u:T} (h:TR ρ t u):t.num=u.num:=by cases t;unfold TR at h;exact h.2.2.1
theorem TR.place {t u:T} (h:TR ρ t u):ρ t.place u.place:=by cases t;unfold TR at h;exact h.2.2.2.1
theorem TR.kids {t u:T} (h:TR ρ t u):TsR ρ t.kids u.kids:=by cases t;unfold TR at h;exact h.2.2.2.2
theorem TR.of {t u:T} (h1:t.kind=u.kind) (h2:t.text=u.text) (h3:t.num=u.num) (h4:ρ t.place u.place) (h5:TsR ρ t.kids u.kids):TR ρ t u:=by cases t;unfold TR;exact ⟨h1,h2,h3,h4,h5⟩
theorem TR.zVb {t u:T} (h:TR ρ t u) (v:Int):TR ρ (t.zVb v) (u.zVb v):=by
 cases t;cases u
 exact TR.of h.kind h.text rfl h.place h.kids
theorem TR.snoc {t u b b':T} (h:TR ρ t u) (hb:TR ρ b b'):TR ρ (t.snoc b) (u.snoc b'):=by
 cases t;cases u
 exact TR.of h.kind h.text h.num h.place (h.kids.append (.one hb))
def Sim {α β:Type} (ρ:Nat→Nat→Prop) (cl:Bool) (V:α→β→Prop) (c c' x x':List Tok) (r:R α) (r':R β):Prop :=
 (∃ a a' d k d' k',r=.ok (a,k++x)∧r'=.ok (a',k'++x')∧V a a'∧c=d++k∧c'=d'++k'∧Al ρ k k'∧∀ t∈d,Con t) ∨
 (∃ p p' e,r=.error (p,e)∧r'=.error (p',e)∧ρ p p'∧∃ t∈c,p=t.place) ∨
 ((∀ t∈c,Con t)∧Past x r∧Past x' r'∧(cl=true→(∀ t∈x,¬ Con t)→∃ e,r=.error e))
variable {α β γ δ:Type} {V:α→β→Prop} {W:γ→δ→Prop} {c c' x x':List Tok} {r:R α} {r':R β} {cl cl1:Bool}
theorem Sim.bdc {f:α→List Tok→R γ} {f':β→List Tok→R δ} (h:Sim ρ cl1 V c c' x x' r r')
  (hf:∀ a a' k k',r=.ok (a,k++x)→r'=.ok (a',k'++x')→k.length≤c.length→k'.length≤c'.length→V a a'→Al ρ k k'→Sim ρ cl W k k' x x' (f a (k++x)) (f' a' (k'++x')))
  (hp:∀ a l,r=.ok (a,l)→l.length≤x.length→Past l (f a l)) (hp':∀ a l,r'=.ok (a,l)→l.length≤x'.length→Past l (f' a l))
  (hc:cl=true→∀ a l,(∀ t∈l,¬ Con t)→∃ e,f a l=.error e):Sim ρ cl W c c' x x' (bd r f) (bd r' f'):=by
 rcases h with ⟨a,a',d,k,d',k',e1,e2,hv,hd,hd',hal,hcon⟩|⟨p,p',e,e1,e2,hrho,hm⟩|⟨hcon,h1,h2,h3⟩
 ·have h4:=hf a a' k k' e1 e2 (by rw [hd];simp) (by rw [hd'];simp) hv hal
  rw [zia e1,zia e2]
  rcases h4 with ⟨b,b',m,q,m',q',g1,g2,hw,hm,hm',hq,hmc⟩|⟨p,p',e,g1,g2,hrho,t,ht,he⟩|⟨g1,g2,g3,g4⟩
  ·refine .inl ⟨b,b',d++m,q,d'++m',q',g1,g2,hw,by rw [hd,hm,List.append_assoc],by rw [hd',hm',List.append_assoc],hq,fun t ht=>?_⟩
   rcases List.mem_append.1 ht with ht|ht
   ·exact hcon t ht
   ·exact hmc t ht
  ·exact .inr (.inl ⟨p,p',e,g1,g2,hrho,t,by rw [hd];exact List.mem_append_right _ ht,he⟩)
  ·refine .inr (.inr ⟨fun t ht=>?_,g2,g3,g4⟩)
   rw [hd] at ht
   rcases List.mem_append.1 ht with ht|ht
   ·exact hcon t ht
   ·exact g1 t ht
 ·exact .inr (.inl ⟨p,p',e,by rw [zpa e1],by rw [zpa e2],hrho,hm⟩)
 ·refine .inr (.inr ⟨hcon,h1.bd hp,h2.bd hp',fun hcl hx=>?_⟩)
  cases hr:r with
  | error e=>exact ⟨e,rfl⟩
  | ok q =>
   obtain ⟨a,l⟩:=q
   rw [hr] at h1
   obtain ⟨d,hd,_⟩:=h1
   exact hc hcl a l fun t ht=>hx t (by rw [hd];exact List.mem_append_right _ ht)
theorem Sim.bd {f:α→List Tok→R γ} {f':β→List Tok→R δ} (h:Sim ρ cl1 V c c' x x' r r')
  (hf:∀ a a' k k',r=.ok (a,k++x)→r'=.ok (a',k'++x')→k.length≤c.length→k'.length≤c'.length→V a a'→Al ρ k k'→Sim ρ false W k k' x x' (f a (k++x)) (f' a' (k'++x')))
  (hp:∀ a l,r=.ok (a,l)→l.length≤x.length→Past l (f a l)) (hp':∀ a l,r'=.ok (a,l)→l.length≤x'.length→Past l (f' a l)):Sim ρ false W c c' x x' (bd r f) (bd r' f') :=
 Sim.bdc h hf hp hp' fun h=>by cases h
theorem Sim.ok {a:α} {a':β} (h:V a a') (hal:Al ρ c c'):Sim ρ cl V c c' x x' (.ok (a,c++x)) (.ok (a',c'++x')) :=
 .inl ⟨a,a',[],c,[],c',rfl,rfl,h,rfl,rfl,hal,by simp⟩
theorem Sim.take {t t':Tok} (hc:Con t) (h:Sim ρ cl V c c' x x' r r'):Sim ρ cl V (t :: c) (t' :: c') x x' r r':=by
 rcases h with ⟨a,a',d,k,d',k',e1,e2,hv,hd,hd',hal,hcon⟩|⟨p,p',e,e1,e2,hrho,u,hu,hp⟩|⟨hcon,h1,h2,h3⟩
 ·refine .inl ⟨a,a',t :: d,k,t' :: d',k',e1,e2,hv,by rw [hd];rfl,by rw [hd'];rfl,hal,fun u hu=>?_⟩
  rcases List.mem_cons.1 hu with rfl|hu
  ·exact hc
  ·exact hcon u hu
 ·exact .inr (.inl ⟨p,p',e,e1,e2,hrho,u,List.mem_cons_of_mem _ hu,hp⟩)
 ·refine .inr (.inr ⟨fun u hu=>?_,h1,h2,h3⟩)
  rcases List.mem_cons.1 hu with rfl|hu
  ·exact hc
  ·exact hcon u hu
theorem Sim.err {t t':Tok} (ht:zgp ρ t t') (e:Int):Sim ρ cl V (t :: c) (t' :: c') x x' (.error (t.place,e)) (.error (t'.place,e)) :=
 .inr (.inl ⟨t.place,t'.place,e,rfl,rfl,ht.place,t,by simp,rfl⟩)
theorem Sim.nil (h:Past x r) (h':Past x' r'):Sim ρ false V [] [] x x' r r':=.inr (.inr ⟨by simp,h,h',fun h=>by cases h⟩)
theorem Sim.cond {b b':Bool} {r1 r2:R α} {r1' r2':R β} (hb:b=b') (hx:b=true→Sim ρ cl V c c' x x' r1 r1') (hy:b=false→Sim ρ cl V c c' x x' r2 r2'):Sim ρ cl V c c' x x' (bif b then r1 else r2) (bif b' then r1' else r2'):=by
 subst hb
 cases b
 ·exact hy rfl
 ·exact hx rfl
theorem Sim.sum {W:T→T→Prop} {s s':Option (Int × Int)} {a a':R T} {f f':Int→Int→R T} (hs:s=s') (ha:s=none→Sim ρ cl W c c' x x' a a') (hf:∀ k v,s=some (k,v)→Sim ρ cl W c c' x x' (f k v) (f' k v)):Sim ρ cl W c c' x x' (zZn s a f) (zZn s' a' f'):=by
 subst hs
 cases s with
 | none=>exact ha rfl
 | some q=>exact hf q.1 q.2 rfl
theorem Sim.weak (h:Sim ρ cl V c c' x x' r r'):Sim ρ false V c c' x x' r r':=by
 rcases h with h|h|⟨h1,h2,h3,_⟩
 ·exact .inl h
 ·exact .inr (.inl h)
 ·exact .inr (.inr ⟨h1,h2,h3,fun h=>by cases h⟩)
theorem zgp.is {t t':Tok} (h:zgp ρ t t') (s:ByteArray):isT t s=isT t' s:=by unfold isT;rw [h.text]
theorem zgp.sum {t t':Tok} (h:zgp ρ t t') (l l':List Tok):sumP (t :: l)=sumP (t' :: l'):=by
 show (bif isT t (bs [43]) then _ else bif isT t (bs [45]) then _ else _)=(bif isT t' (bs [43]) then _ else bif isT t' (bs [45]) then _ else _)
 rw [h.is,h.is]
end
end Go.Proofs.YtdhmdfhnkppnmaaDoor
