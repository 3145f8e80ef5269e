/- Instructions in memory: a slice of instructions, each with a slice of terms of its own; that they stay where nothing of theirs is changed, and append on them. Nothing of the program is walked here. Facts on nodes written out, and stores of two cells: what they keep (shared by Low3 and the texts that do not import it). Nothing of the program is walked here. The contracts of code.kidOf, term, termOf: the kid of a number, or the zero node; its term. The contract of code.termsOf: the terms of all kids, in a new row. -/
import Derived.Test.YthdbmgijpelecaaGreatDoorM12
import Derived.Test.YthdbmgijpelecaaGreatDoorM04
import Derived.Test.YthdbmgijpelecaaGreatDoorM03
namespace Go.Proofs.YthdbmgijpelecaaGreatDoor
set_option maxRecDepth 100000
set_option maxHeartbeats 2000000
section
open Go.RowKit
theorem Below.row {B:Nat} {a w:World} (h:Below B a w) {g:Nat} (hg:B≤g) (cs:Array Value):Below B a (w.setRow g cs) :=
 ⟨h.os,h.tape,h.output,by simpa [World.setRow] using h.size,fun k hk=>(setRow_other w g k cs (by omega)).trans (h.block k hk)⟩
theorem Blk.stays {w w':World} {g:Nat} {cs:List Value} {t:TypeId} (h:Blk w g cs t) (hb:Below w.heap.size w w'):Blk w' g cs t:=(hb.block g h.lt).trans h
def zab (t:Tm):List Value:=[.string t.name,.int .i64 t.num]
def zgb:List Tm→List Value
 | []=>[]
 | t :: ts=>zab t++zgb ts
def zea (i:Ins) (v:Value):List Value :=
 [.int .i64 i.op,.int .i64 i.place,.string i.x,.string i.y,.string i.a.name,.int .i64 i.a.num,.string i.b.name,.int .i64 i.b.num,v,.int .i64 i.to,.bool i.has]
def zmo (i:Ins) (v:Value):Value :=
 .agg #[.int .i64 i.op,.int .i64 i.place,.string i.x,.string i.y,.string i.a.name,.int .i64 i.a.num,.string i.b.name,.int .i64 i.b.num,v,.int .i64 i.to,.bool i.has]
def zVb:List Ins→List Value→List Value
 | i :: is,v :: vs=>zea i v++zVb is vs
 | _,_=>[]
def zWa (w:World) (ts:List Tm) (S:Nat→Prop) (v:Value):Prop :=
 w.ownsRow 0 98 2 v ts.length (zgb ts)∧∀ g,v.ownBlock=some g→S g
def zNb (w:World):List Ins→(Nat→Prop)→List Value→Prop
 | [],_,vs=>vs=[]
 | i :: is,S,vs=>∃ v vs',vs=v :: vs'∧zWa w i.args S v∧zNb w is S vs'
def zGb (w:World) (is:List Ins) (S:Nat→Prop) (v:Value):Prop :=
 ∃ vs,w.ownsRow 0 101 11 v is.length (zVb is vs)∧(∀ g,v.ownBlock=some g→S g)∧zNb w is (fun b=>S b∧v.ownBlock≠some b) vs
theorem zXd:∀ ts:List Tm,(zgb ts).length=ts.length * 2
 | []=>rfl
 | t :: ts=>by simp only [zgb,List.length_append,zXd ts,List.length_cons];show 2+_=_;omega
theorem zNf:∀ a b:List Tm,zgb (a++b)=zgb a++zgb b
 | [],_=>rfl
 | t :: ts,b=>by simp only [List.cons_append,zgb,zNf ts b,List.append_assoc]
theorem zWa.nil (w:World) (S:Nat→Prop):zWa w [] S (.slice none 0 0) :=
 ⟨World.ownsRow_nil _ _ _ _,fun g h=>by simp [Value.ownBlock] at h⟩
theorem zWa.one {w:World} {ts:List Tm} {S:Nat→Prop} {v:Value} (h:zWa w ts S v):v.oneCell'=true:=by
 rcases h.1.2 with ⟨rfl,_⟩|⟨_,_,_,rfl,_⟩<;>rfl
theorem zWa.slice {w:World} {ts:List Tm} {S:Nat→Prop} {v:Value} (h:zWa w ts S v):∃ a n c,v=.slice a n c:=by
 rcases h.1.2 with ⟨rfl,_⟩|⟨_,_,_,rfl,_⟩<;>exact ⟨_,_,_,rfl⟩
theorem znd {w w':World} {o:Nat} {e:TypeId} {m n:Nat} {v:Value} {xs:List Value} (h:w.ownsRow o e m v n xs) (hk:∀ g,v.ownBlock=some g→w'.heap[g]?=w.heap[g]?):w'.ownsRow o e m v n xs:=by
 refine ⟨h.1,?_⟩
 rcases h.2 with hn|⟨g,cap,cur,rfl,hb,hg,rest⟩
 ·exact .inl hn
 ·exact .inr ⟨g,cap,cur,rfl,hb,(hk g rfl).trans hg,rest⟩
theorem zWa.keep {w w':World} {ts:List Tm} {S S':Nat→Prop} {v:Value} (h:zWa w ts S v) (hk:∀ b,S b→b<w.heap.size→S' b∧w'.heap[b]?=w.heap[b]?):zWa w' ts S' v :=
 ⟨znd h.1 fun g hg=>(hk g (h.2 g hg) (h.1.lt g hg).2).2,fun g hg=>(hk g (h.2 g hg) (h.1.lt g hg).2).1⟩
theorem zNb.keep {w w':World}:∀ (is:List Ins) {S S':Nat→Prop} {vs:List Value},zNb w is S vs→(∀ b,S b→b<w.heap.size→S' b∧w'.heap[b]?=w.heap[b]?)→zNb w' is S' vs
 | [],_,_,_,h,_=>h
 | i :: is,S,S',vs,h,hk=>by
  obtain ⟨v,vs',e,ha,hs⟩:=h
  exact ⟨v,vs',e,ha.keep hk,zNb.keep is hs hk⟩
theorem zGb.keep {w w':World} {is:List Ins} {S S':Nat→Prop} {v:Value} (h:zGb w is S v) (hk:∀ b,S b→b<w.heap.size→S' b∧w'.heap[b]?=w.heap[b]?):zGb w' is S' v:=by
 obtain ⟨vs,ho,hS,ha⟩:=h
 exact ⟨vs,znd ho fun g hg=>(hk g (hS g hg) (ho.lt g hg).2).2,fun g hg=>(hk g (hS g hg) (ho.lt g hg).2).1,zNb.keep is ha fun b hb hl=>⟨⟨(hk b hb.1 hl).1,hb.2⟩,(hk b hb.1 hl).2⟩⟩
theorem zNb.length {w:World}:∀ {is:List Ins} {S:Nat→Prop} {vs:List Value},zNb w is S vs→vs.length=is.length
 | [],_,_,h=>by rw [show _=[] from h];rfl
 | i :: is,_,_,h=>by obtain ⟨v,vs',rfl,_,h'⟩:=h;simp [zNb.length h']
theorem zNb.append {w:World}:∀ {is js:List Ins} {S:Nat→Prop} {vs us:List Value},zNb w is S vs→zNb w js S us→zNb w (is++js) S (vs++us)
 | [],_,_,vs,_,h,h'=>by rw [show vs=[] from h];exact h'
 | i :: is,js,_,_,us,h,h'=>by
  obtain ⟨v,vs',rfl,ha,hs⟩:=h
  exact ⟨v,vs'++us,rfl,ha,zNb.append hs h'⟩
theorem zyf:∀ (is js:List Ins) (vs us:List Value),vs.length=is.length→zVb (is++js) (vs++us)=zVb is vs++zVb js us
 | [],_,[],_,_=>rfl
 | i :: is,js,v :: vs,us,h=>by
  simp only [List.cons_append,zVb,List.append_assoc]
  rw [zyf is js vs us (by simpa using h)]
theorem zGf {w:World}:∀ {is:List Ins} {S:Nat→Prop} {vs:List Value},zNb w is S vs→(zVb is vs).length=is.length * 11
 | [],_,_,_=>by simp [zVb]
 | i :: is,_,_,h=>by
  obtain ⟨v,vs',rfl,_,hs⟩:=h
  simp only [zVb,List.length_append,zGf hs,List.length_cons]
  show 11+_=_
  omega
theorem zna (i:Ins) (v:Value) (hv:v.oneCell'=true):∀ u∈zea i v,u.oneCell'=true:=by
 intro u hu
 simp only [zea,List.mem_cons,List.not_mem_nil,or_false] at hu
 rcases hu with rfl|rfl|rfl|rfl|rfl|rfl|rfl|rfl|rfl|rfl|rfl
 all_goals first|rfl|exact hv
theorem zGb.nil (w:World) (S:Nat→Prop):zGb w [] S (.slice none 0 0) :=
 ⟨[],World.ownsRow_nil _ _ _ _,(fun g h=>by simp [Value.ownBlock] at h),rfl⟩
section
variable {w w':World} {is:List Ins} {ts:List Tm} {S S':Nat→Prop} {v:Value}
theorem zGb.mono (h:zGb w is S v) (hS:∀ b,S b→b<w.heap.size→S' b):zGb w is S' v:=h.keep fun b hb hl=>⟨hS b hb hl,rfl⟩
theorem zGb.below (h:zGb w is S v) (hk:Below w.heap.size w w'):zGb w' is S v:=h.keep fun b hb hl=>⟨hb,hk.block b hl⟩
theorem zGb.alloc (h:zGb w is S v) (o:Obj):zGb (w.alloc o) is S v:=h.keep fun b hb hl=>⟨hb,Below.heap_alloc w o b hl⟩
theorem zGb.drew (h:zGb w is S v):zGb w.drew is S v:=h.keep fun _ hb _=>⟨hb,rfl⟩
theorem zGb.setRow (h:zGb w is S v) (g:Nat) (cs:Array Value) (hS:∀ b,S b→b≠g):zGb (w.setRow g cs) is S v:=h.keep fun b hb _=>⟨hb,setRow_other w g b cs (hS b hb)⟩
theorem zGb.setCell (h:zGb w is S v) (a:Addr) (x:Value) (hS:∀ b,S b→b≠a.block):zGb (w.setCell a x) is S v:=h.keep fun b hb _=>⟨hb,Below.heap_setCell w a x b (hS b hb)⟩
theorem zWa.mono (h:zWa w ts S v) (hS:∀ b,S b→b<w.heap.size→S' b):zWa w ts S' v:=h.keep fun b hb hl=>⟨hS b hb hl,rfl⟩
theorem zWa.below (h:zWa w ts S v) (hk:Below w.heap.size w w'):zWa w' ts S v:=h.keep fun b hb hl=>⟨hb,hk.block b hl⟩
theorem zWa.alloc (h:zWa w ts S v) (o:Obj):zWa (w.alloc o) ts S v:=h.keep fun b hb hl=>⟨hb,Below.heap_alloc w o b hl⟩
theorem zWa.drew (h:zWa w ts S v):zWa w.drew ts S v:=h.keep fun _ hb _=>⟨hb,rfl⟩
theorem zWa.setRow (h:zWa w ts S v) (g:Nat) (cs:Array Value) (hS:∀ b,S b→b≠g):zWa (w.setRow g cs) ts S v:=h.keep fun b hb _=>⟨hb,setRow_other w g b cs (hS b hb)⟩
theorem zWa.setCell (h:zWa w ts S v) (a:Addr) (x:Value) (hS:∀ b,S b→b≠a.block):zWa (w.setCell a x) ts S v:=h.keep fun b hb _=>⟨hb,Below.heap_setCell w a x b (hS b hb)⟩
end
theorem zGb.slice {w:World} {is:List Ins} {S:Nat→Prop} {v:Value} (h:zGb w is S v):∃ a c,v=.slice a is.length c:=by
 obtain ⟨_,ho,_⟩:=h
 rcases ho.2 with ⟨rfl,h0⟩|⟨g,cap,_,rfl,_⟩
 ·exact ⟨_,_,by rw [h0]⟩
 ·exact ⟨_,_,rfl⟩
theorem zGb.one {w:World} {is:List Ins} {S:Nat→Prop} {v:Value} (h:zGb w is S v):v.oneCell'=true:=by
 obtain ⟨_,_,rfl⟩:=h.slice
 rfl
theorem zZd {P:Program} {w:World} {t ty e:TypeId} {i:TypeInfo} {z:Value} {m0 bytes:Nat} (ht:P.underlying t=some (.slice e)) (hi:P.info? e=some i) (hz:i.zero=some z) (hsize:i.size=m0) (hby:i.bytes=bytes)
  {v:Value} {n:Nat} {xs:List Value} (hown:w.ownsRow 0 e m0 v n xs) {a:Addr} {m c:Nat} {news:List Value} (hm:0<m) (hl:news.length=m * m0) (hnews:∀ j u,news[j]?=some u→w.cell? (a.add j)=some u) (h1:∀ u∈news,u.oneCell'=true)
  (h63:n+m≤maxLen) (hbytes:(n+m) * bytes≤140737488355328) {v':Value} {w':World} (hr:(Builtin.append_ #[t,t] ty #[v,.slice (some a) m c]).run P w=.ok v' w'):v'.ownBlock=v.ownBlock∨v'.ownBlock=some w.heap.size:=by
 subst hby
 have hsmall:n+m≤9223372036854775807:=by simp only [maxLen] at h63;omega
 rw [← hsize] at hl
 rcases hown.2 with ⟨rfl,rfl⟩|⟨g,cap,cur,rfl,hbg,hg,hnc,hcm,hcs,htake⟩
 ·have h:=run_append_nil (P:=P) w t ty e i z ht hi hz a m c news hl hnews hm (by omega) (by have hb:=hbytes;simp only [Nat.zero_add] at hb;omega)
  rw [h] at hr
  cases hr
  exact .inr rfl
 ·by_cases hroom:n+m≤cap
  ·have hfit:n * i.size+news.length≤cur.size:=by rw [hl,hcs,hsize,← Nat.add_mul];exact Nat.mul_le_mul_right _ hroom
   have h:=run_append_room (P:=P) w t ty e i ht hi g n cap cur hg a m c news hl hnews h1 hroom hfit
   rw [h] at hr
   cases hr
   exact .inl rfl
  ·have h:=run_append_grow (P:=P) w t ty e i z ht hi hz ⟨g,0,none⟩ n cap xs (by rw [hown.1,hsize]) (hown.cells (g:=g) rfl) a m c news hl hnews (by omega) (by omega) (growslice_fits (by omega) hbytes)
   rw [h] at hr
   cases hr
   exact .inr rfl
structure zAe (P:Program) (t e:TypeId) (m bytes:Nat) (i:TypeInfo) (z:Value):Prop where
 ht:P.underlying t=some (.slice e)
 hi:P.info? e=some i
 hz:i.zero=some z
 size:i.size=m
 bytes:i.bytes=bytes
 zs:z.cells.size=m
theorem zqj {P:Program} {w:World} {t ty:TypeId} {i:TypeInfo} {z:Value} {by':Nat} (I:zAe P t 101 11 by' i z) (hby:by'≤1000) {is js:List Ins} {S:Nat→Prop} {v:Value} (hk:zGb w is S v) {us:List Value}
  (hts:zNb w js (fun b=>S b∧v.ownBlock≠some b) us) (hS:S w.heap.size) {a:Addr} {c:Nat} (hm:0<js.length) (hnews:∀ j u,(zVb js us)[j]?=some u→w.cell? (a.add j)=some u) (h1:∀ u∈zVb js us,u.oneCell'=true) (hb:is.length+js.length≤100000) :
  ∃ v' w',(Builtin.append_ #[t,t] ty #[v,.slice (some a) js.length c]).run P w=.ok v' w'∧zGb w' (is++js) S v'∧w.grownBy w' v.ownBlock∧(v'.ownBlock=v.ownBlock∨v'.ownBlock=some w.heap.size):=by
 obtain ⟨vs,hown,hSv,hks⟩:=hk
 have hbb:(is.length+js.length) * by'≤140737488355328:=Nat.le_trans (Nat.mul_le_mul hb hby) (by omega)
 obtain ⟨v',w',hr,ho',hg',_⟩:=run_append_own (P:=P) w 0 t ty 101 i z 11 by' I.ht I.hi I.hz I.size I.bytes I.zs (by decide) v is.length (zVb is vs) hown a js.length c (zVb js us) (zGf hts) hnews h1
  (by unfold maxLen;omega) hbb (Nat.zero_le _)
 have hbk:=zZd (ty:=ty) I.ht I.hi I.hz I.size I.bytes hown hm (zGf hts) hnews h1 (by unfold maxLen;omega) hbb hr
 refine ⟨v',w',hr,⟨vs++us,?_,?_,?_⟩,hg',hbk⟩
 ·rw [zyf _ _ _ _ hks.length,List.length_append]
  exact ho'
 ·intro g hg
  rcases hbk with h|h
  ·exact hSv g (h▸hg)
  ·rw [h] at hg;cases hg;exact hS
 ·have keep:∀ b,(S b∧v.ownBlock≠some b)→b<w.heap.size→(S b∧v'.ownBlock≠some b)∧w'.heap[b]?=w.heap[b]?:=fun b hb hl=>by
   refine ⟨⟨hb.1,fun h=>?_⟩,hg'.block b hl (Ne.symm hb.2)⟩
   rcases hbk with h'|h'
   ·exact hb.2 (h'▸h)
   ·rw [h'] at h;cases h;exact absurd hl (Nat.lt_irrefl _)
  exact zNb.append (zNb.keep _ hks keep) (zNb.keep _ hts keep)
theorem zfk {P:Program} {w:World} {o:Oper} {a:Act} {K:Act→World→Prop} {Q:Exit→Act→World→Prop} (s x:Operand) {t:TypeId} (ho:o.op=.call { callee:=.builtin .append,args:=#[s,x],argTypes:=#[t,t] })
  {i:TypeInfo} {z:Value} {by':Nat} (I:zAe P t 101 11 by' i z) (hby:by'≤1000) {is:List Ins} {j:Ins} {S:Nat→Prop} {v:Value} (hs:a.eval s=v) (hk:zGb w is S v) {u:Value}
  (hu:zWa w j.args (fun b=>S b∧v.ownBlock≠some b) u) (hS:S w.heap.size) {ad:Addr} {c:Nat} (hx:a.eval x=.slice (some ad) 1 c) (hnews:∀ k y,(zea j u)[k]?=some y→w.cell? (ad.add k)=some y)
  (hb:is.length+1≤100000)
  (h:∀ v' w',zGb w' (is++[j]) S v'→w.grownBy w' v.ownBlock→(v'.ownBlock=v.ownBlock∨v'.ownBlock=some w.heap.size)→K (a.put o.dst v') w'):o.wp P a w K Q:=by
 have hr1:zVb [j] [u]=zea j u:=by simp [zVb]
 obtain ⟨v',w',hr,h2,h3,h4⟩:=zqj (ty:=o.type) (c:=c) (a:=ad) (js:=[j]) (us:=[u]) I hby hk ⟨u,[],rfl,hu,rfl⟩ hS (by simp) (by rw [hr1];exact hnews) (by rw [hr1];exact zna j u hu.one) hb
 unfold Oper.wp execOp
 simp only [ho,resolve,invoke,builtin,Sem.run_bind,Sem.run_pure,Result.andThen_ok,List.map_toArray,List.map_cons,List.map_nil,hs,hx]
 rw [show ([j]:List Ins).length=1 from rfl] at hr
 rw [hr]
 exact h v' w' h2 h3 h4
theorem zht (w:World) (e:TypeId) (i:Ins) (v:Value):∀ k y,(zea i v)[k]?=some y→(w.alloc (.cells (zea i v).toArray e)).cell? ((⟨w.heap.size,0,none⟩:Addr).add k)=some y:=by
 intro k y hy
 rw [Addr.add_mid,Nat.zero_add,(Blk.new w (zea i v) e).cell k]
 exact hy
def Ins.znf (i:Ins) (to:Nat):Ins:=⟨i.op,i.place,i.x,i.y,i.a,i.b,i.args,to,i.has⟩
theorem zdg:∀ (is:List Ins) (vs:List Value) (k:Nat) (i:Ins) (u:Value) (j:Nat),is[k]?=some i→vs[k]?=some u→j<11→(zVb is vs)[k * 11+j]?=(zea i u)[j]?
 | [],_,k,t,u,j,h,_,_=>by simp at h
 | _ :: _,[],k,t,u,j,_,h,_=>by simp at h
 | a :: ks,b :: vs,0,t,u,j,h,h',hj=>by
  obtain rfl:a=t:=by simpa using h
  obtain rfl:b=u:=by simpa using h'
  rw [zVb,Nat.zero_mul,Nat.zero_add,List.getElem?_append_left (by simpa [zea] using hj)]
 | a :: ks,b :: vs,k+1,t,u,j,h,h',hj=>by
  rw [zVb,List.getElem?_append_right (by simp [zea];omega)]
  have e:(k+1) * 11+j-(zea a b).length=k * 11+j:=by simp [zea];omega
  rw [e]
  exact zdg ks vs k t u j (by simpa using h) (by simpa using h') hj
theorem zNb.get {w:World}:∀ {is:List Ins} {S:Nat→Prop} {vs:List Value},zNb w is S vs→∀ {k:Nat} {i:Ins},is[k]?=some i→∃ u,vs[k]?=some u∧zWa w i.args S u
 | [],_,_,_,k,t,h=>by simp at h
 | a :: ts,S,vs,h,0,t,hk=>by
  obtain ⟨v,vs',rfl,ht,_⟩:=h
  obtain rfl:a=t:=by simpa using hk
  exact ⟨v,rfl,ht⟩
 | a :: ts,S,vs,h,k+1,t,hk=>by
  obtain ⟨v,vs',rfl,_,hts⟩:=h
  obtain ⟨u,hu,ht⟩:=zNb.get hts (k:=k) (i:=t) (by simpa using hk)
  exact ⟨u,by simpa using hu,ht⟩
theorem zoj (i:Ins) (v:Value) (to:Nat):(zea i v).set 9 (.int .i64 to)=zea (i.znf to) v:=rfl
theorem zBh:∀ (is:List Ins) (vs:List Value) (k:Nat) (i:Ins) (to:Nat),vs.length=is.length→is[k]?=some i→(zVb is vs).set (k * 11+9) (.int .i64 to)=zVb (is.set k (i.znf to)) vs
 | [],_,k,t,_,_,h=>by simp at h
 | a :: ks,[],k,t,_,h,_=>by simp at h
 | a :: ks,b :: vs,0,t,to,_,h=>by
  obtain rfl:a=t:=by simpa using h
  rw [List.set_cons_zero,zVb,zVb,Nat.zero_mul,Nat.zero_add,List.set_append_left _ _ (by simp [zea]),zoj]
 | a :: ks,b :: vs,k+1,t,to,hl,h=>by
  rw [List.set_cons_succ,zVb,zVb,List.set_append_right _ _ (by simp [zea];omega)]
  have e:(k+1) * 11+9-(zea a b).length=k * 11+9:=by simp [zea];omega
  rw [e,zBh ks vs k t to (by simpa using hl) (by simpa using h)]
theorem zNb.znf {w:World}:∀ {is:List Ins} {S:Nat→Prop} {vs:List Value} {k:Nat} {i:Ins} {to:Nat},zNb w is S vs→is[k]?=some i→zNb w (is.set k (i.znf to)) S vs
 | [],_,_,k,t,_,_,h=>by simp at h
 | a :: ks,_,_,0,t,_,h,hk=>by
  obtain ⟨v,vs',rfl,ha,hs⟩:=h
  obtain rfl:a=t:=by simpa using hk
  exact ⟨v,vs',rfl,ha,hs⟩
 | a :: ks,_,_,k+1,t,_,h,hk=>by
  obtain ⟨v,vs',rfl,ha,hs⟩:=h
  exact ⟨v,vs',rfl,ha,zNb.znf hs (by simpa using hk)⟩
end
section
open Go.RowKit
theorem zRa (k:Int) (s:ByteArray) (n:Int) (p:Nat) (ks:List T):(T.mk k s n p ks).kind=k:=rfl
theorem zXa (k:Int) (s:ByteArray) (n:Int) (p:Nat) (ks:List T):(T.mk k s n p ks).text=s:=rfl
theorem zBb (k:Int) (s:ByteArray) (n:Int) (p:Nat) (ks:List T):(T.mk k s n p ks).num=n:=rfl
theorem zJa (k:Int) (s:ByteArray) (n:Int) (p:Nat) (ks:List T):(T.mk k s n p ks).place=p:=rfl
theorem Blk.zGc {w:World} {g:Nat} {cs:List Value} {t:TypeId} (h:Blk w g cs t) (o n:Nat) (hn:o+n≤cs.length):w.there g o n:=fun j hj=>by
 refine ⟨?_,h.frozen (o+j)⟩
 rw [h.cell (o+j),List.getElem?_eq_getElem (by omega)]
 rfl
theorem Blk.zoc {w:World} {g:Nat} {cs:List Value} {t:TypeId} (h:Blk w g cs t) (o:Nat) (x y:Value):Blk (w.setCells g o [x,y]) g ((cs.set o x).set (o+1) y) t:=(h.zxa o x).zxa (o+1) y
theorem Below.cells2 {B:Nat} {a w:World} (h:Below B a w) {g:Nat} (hg:B≤g) (o:Nat) (x y:Value):Below B a (w.setCells g o [x,y]):=(h.setCell (by show B≤g;exact hg) x).setCell (by show B≤g;exact hg) y
theorem Blk.zAc {w:World} {b g:Nat} {cs:List Value} {t:TypeId} (h:Blk w b cs t) (hn:b≠g) (o:Nat) (x y:Value):Blk (w.setCells g o [x,y]) b cs t:=(h.setOther _ _ (by show b≠g;exact hn)).setOther _ _ (by show b≠g;exact hn)
end
section
open Go.RowKit
theorem Tryz.zcc:(Tryz.prog.info? 98).map (·.size)=some 2:=by kernel_rfl
theorem Tryz.zza:(Tryz.prog.info? 101).map (·.size)=some 11:=by kernel_rfl
theorem zJb (t:Tm):∀ u∈zab t,u.oneCell'=true:=by
 intro u hu
 simp only [zab,List.mem_cons,List.not_mem_nil,or_false] at hu
 rcases hu with rfl|rfl<;>rfl
theorem zUl {t:T} {i:Nat} (h:i<t.kids.length):zFa t i=t.kids[i]:=by unfold zFa;simp [h]
theorem zVq {t:T} {i:Nat} (h:t.kids.length≤i):zFa t i=znb:=by unfold zFa;simp [h]
def zMi (w:World) (t:T) (S:Nat→Prop) (e:Ending) (w':World):Prop:=∃ u,e=.returned (zma t u)∧KAt 25 w' t.kids S u∧Below w.heap.size w w'
theorem zBr {w:World} {t:T} {S:Nat→Prop} {kv:Value} (hk:KAt 25 w t.kids S kv) {i:Nat} (hi:i<t.kids.length) :
  Calls Tryz.prog 43 #[zma t kv,.int .i64 i] w (zMi w (zFa t i) S):=by
 rw [zUl hi]
 rcases hk.form with ⟨rfl,hnil⟩|⟨g,cap,rfl,hg,hcap,hcm,hget⟩
 ·rw [hnil] at hi;simp at hi
 ·obtain ⟨u,hr,hT⟩:=hget i t.kids[i] (List.getElem?_eq_getElem hi)
  generalize t.kids[i]=tk at hr hT ⊢
  generalize t.kids.length=n at *
  unfold zma
  clear hget hk
  have HB:=zh (show Below w.heap.size w ((w.alloc (.cells (zaa t (.slice (some ⟨g,0,none⟩) n cap)).toArray 25)).alloc (.cells zba.toArray 25)) from (((Below.refl _ _).alloc (Nat.le_refl _) _).alloc (by simp) _))
  have HRes:=zh (Blk.zpc w (.cells (zaa t (.slice (some ⟨g,0,none⟩) n cap)).toArray 25) zba 25)
  have HR:=zh (zpa hr (HB.out.mono (Nat.le_refl _)) hg)
  have HT:=zh (hT.below HB.out)
  have HLT:=zh (hT.kat)
  clear hr hT hg
  unfold maxLen at hcm
  go_enter Tryz.func43,Tryz.ntmps43
  go_wp2_with (first
   | ((with_reducible refine zra 25 (.tmp 18) ?_);refine wpList_load_mid rfl 25 (.tmp 18) rfl g (i * 5) rfl (zaa tk u) _ HR.out Tryz.underlying25 rfl Tryz.zha ?_)
   | ((with_reducible refine zla 25 (.tmp 4) ?_);refine zca rfl 25 (.tmp 4) (.tmp 19) rfl (w.heap.size+1) (zaa tk u) rfl rfl HRes.out Tryz.zha rfl (zda _ _ HT.out.kat.one) ?_))
  exact zka (cs:=zaa tk u) Tryz.results43 rfl HRes.out Tryz.underlying25 rfl Tryz.zha rfl ⟨u,rfl,HLT.out.keep fun b hb hl=>⟨hb,(setRow_other _ _ _ _ (by omega)).trans (HB.out.block b hl)⟩,Below.row HB.out (by omega) _⟩
theorem zvn {w:World} {t:T} {S:Nat→Prop} {kv:Value} (hk:KAt 25 w t.kids S kv) {i:Int} (hi:i<0∨(t.kids.length:Int)≤i) :
  Calls Tryz.prog 43 #[zma t kv,.int .i64 i] w (zMi w znb S):=by
 obtain ⟨a,c,rfl⟩:∃ a c,kv=.slice a t.kids.length c:=by
  rcases hk.form with ⟨rfl,hnil⟩|⟨g,cap,rfl,_⟩
  ·exact ⟨_,_,by rw [hnil];rfl⟩
  ·exact ⟨_,_,rfl⟩
 clear hk
 generalize t.kids.length=n at *
 unfold zma
 have hw:∀ v:Value,zMi w znb S (.returned (.agg zba.toArray)) (((w.alloc (.cells (zaa t v).toArray 25)).alloc (.cells zba.toArray 25)).setRow (w.heap.size+1) zba.toArray):=fun v =>
  ⟨.slice none 0 0,rfl,KAt.nil _ _ _,Below.row (((Below.refl _ _).alloc (Nat.le_refl _) _).alloc (by simp) _) (by omega) _⟩
 have HW:=zh (hw (.slice a n c))
 have HRes:=zh (Blk.zpc w (.cells (zaa t (.slice a n c)).toArray 25) zba 25)
 clear hw
 by_cases h0:i<0
 ·go_enter Tryz.func43,Tryz.ntmps43
  go_wp2_with (first
   | ((with_reducible refine zla 25 (.tmp 4) ?_);refine zca rfl 25 (.tmp 4) (.tmp 14) rfl (w.heap.size+1) zba rfl rfl HRes.out Tryz.zha rfl (zda znb _ rfl) ?_))
  exact zka (cs:=zba) Tryz.results43 rfl HRes.out Tryz.underlying25 rfl Tryz.zha rfl HW.out
 ·have h1:(n:Int)≤i:=by omega
  go_enter Tryz.func43,Tryz.ntmps43
  go_wp2_with (first
   | ((with_reducible refine zla 25 (.tmp 4) ?_);refine zca rfl 25 (.tmp 4) (.tmp 14) rfl (w.heap.size+1) zba rfl rfl HRes.out Tryz.zha rfl (zda znb _ rfl) ?_))
  exact zka (cs:=zba) Tryz.results43 rfl HRes.out Tryz.underlying25 rfl Tryz.zha rfl HW.out
theorem zmc {w:World} {t:T} {S:Nat→Prop} {kv:Value} (hk:KAt 25 w t.kids S kv) (i:Nat) :
  Calls Tryz.prog 43 #[zma t kv,.int .i64 i] w (zMi w (zFa t i) S):=by
 rcases Nat.lt_or_ge i t.kids.length with h|h
 ·exact zBr hk h
 ·rw [zVq h]
  exact zvn hk (.inr (by omega))
def TmV (x:Tm):Value:=.agg #[.string x.name,.int .i64 x.num]
def zas (w:World) (x:Tm) (e:Ending) (w':World):Prop:=e=.returned (TmV x)∧Below w.heap.size w w'
theorem zri (w:World) (t:T) (kv:Value):Calls Tryz.prog 151 #[zma t kv] w (zas w (zDa t)):=by
 have HB:=zh (show Below w.heap.size w ((w.alloc (.cells (zaa t kv).toArray 25)).alloc (.cells (zab (zDa t)).toArray 98)) from (((Below.refl _ _).alloc (Nat.le_refl _) _).alloc (by simp) _))
 have HRes:=zh (Blk.zpc w (.cells (zaa t kv).toArray 25) (zab (zDa t)) 98)
 unfold zma
 go_enter Tryz.func151,Tryz.ntmps151
 go_wp2_with fail
 exact bodyPost_ret (zFd (cs:=zab (zDa t)) Tryz.results151 rfl HRes.out Tryz.underlying98 rfl Tryz.zcc) rfl ⟨rfl,HB.out⟩
theorem zWc {w:World} {t:T} {S:Nat→Prop} {kv:Value} (hk:KAt 25 w t.kids S kv) (i:Nat) :
  Calls Tryz.prog 152 #[zma t kv,.int .i64 i] w (zas w (zDa (zFa t i))):=by
 have HK:=zh hk
 have HB:=zh (show Below w.heap.size w ((w.alloc (.cells (zaa t kv).toArray 25)).alloc (.cells (zab tm0).toArray 98)) from (((Below.refl _ _).alloc (Nat.le_refl _) _).alloc (by simp) _))
 have HRes:=zh (Blk.zpc w (.cells (zaa t kv).toArray 25) (zab tm0) 98)
 clear hk
 unfold zma
 go_enter Tryz.func152,Tryz.ntmps152
 go_wp2_with fail
 refine (zmc ((HK.out.alloc _).alloc _) i).mono ?_
 rintro e w1 ⟨u,rfl,_,hb⟩
 have HB1:=zh (HB.out.trans (hb.mono HB.out.size))
 have HRes1:=zh (HRes.out.stays hb)
 clear hb
 unfold zma
 go_wp2_with fail
 refine (zri _ _ _).mono ?_
 rintro e w2 ⟨rfl,hb⟩
 have HB2:=zh (HB1.out.trans (hb.mono HB1.out.size))
 have HRes2:=zh (HRes1.out.stays hb)
 clear hb
 unfold TmV
 go_wp2_with (first
  | ((with_reducible refine zla 98 (.tmp 4) ?_);refine zca rfl 98 (.tmp 4) (.tmp 8) rfl (w.heap.size+1) (zab (zDa (zFa t i))) rfl rfl HRes2.out Tryz.zcc rfl (zJb _) ?_))
 exact zka (cs:=zab (zDa (zFa t i))) Tryz.results152 rfl HRes2.out Tryz.underlying98 rfl Tryz.zcc rfl ⟨rfl,Below.row HB2.out (by omega) _⟩
def zPe (w:World) (i:Ins) (e:Ending) (w':World):Prop:=∃ u,e=.returned (zmo i u)∧zWa w' i.args (fun b=>w.heap.size≤b) u∧Below w.heap.size w w'
def zcd:Ins:=zir 0 0
theorem zBj {w:World} {t:T} {S:Nat→Prop} {kv:Value} (hk:KAt 25 w t.kids S kv) :
  Calls Tryz.prog 150 #[zma t kv] w (zPe w (zeb t 0)):=by
 have HB:=zh (show Below w.heap.size w ((w.alloc (.cells (zaa t kv).toArray 25)).alloc (.cells (zea zcd (.slice none 0 0)).toArray 101)).drew from ((((Below.refl _ _).alloc (Nat.le_refl _) _).alloc (by simp) _)).drew)
 have HN:=zh (show Blk ((w.alloc (.cells (zaa t kv).toArray 25)).alloc (.cells (zea zcd (.slice none 0 0)).toArray 101)).drew w.heap.size (zaa t kv) 25 from ((Blk.new w (zaa t kv) 25).alloc _).drew)
 have HRes:=zh (show Blk ((w.alloc (.cells (zaa t kv).toArray 25)).alloc (.cells (zea zcd (.slice none 0 0)).toArray 101)).drew (w.heap.size+1) (zea zcd (.slice none 0 0)) 101 from (Blk.zpc w (.cells (zaa t kv).toArray 25) (zea zcd (.slice none 0 0)) 101).drew)
 have HK:=zh (show KAt 25 ((w.alloc (.cells (zaa t kv).toArray 25)).alloc (.cells (zea zcd (.slice none 0 0)).toArray 101)).drew t.kids S kv from ((hk.alloc _).alloc _).drew)
 clear hk
 unfold zma
 go_enter Tryz.func150,Tryz.ntmps150
 go_wp2_with fail
 refine AnyE.zxd (S:=fun W=>Blk W w.heap.size (zaa t kv) 25) (by kernel_rfl) HN.out (fun hS=>?_)
 refine AnyE.take (i:=0) (v:=.pointer (some ⟨w.heap.size,3,none⟩)) rfl (by kernel_rfl) (by kernel_rfl) (by kernel_rfl) (by kernel_rfl) (fun _ _ _ h=>h) (Or.inl ⟨by rfl,fun W _=>by go_simp⟩) hS ?_
 refine AnyE.take (i:=1) (v:=.int .i64 t.place) rfl (by kernel_rfl) (by kernel_rfl) (by kernel_rfl) (by kernel_rfl) (fun _ _ _ h=>h) (Or.inl ⟨by rfl,fun W hW=>by have hcx:W.cell? ⟨w.heap.size,3,none⟩=some (.int .i64 t.place):=hW.cell 3;go_simp⟩) hS ?_
 refine AnyE.take (i:=2) (v:=.pointer (some ⟨w.heap.size,1,none⟩)) rfl (by kernel_rfl) (by kernel_rfl) (by kernel_rfl) (by kernel_rfl) (fun _ _ _ h=>h) (Or.inl ⟨by rfl,fun W _=>by go_simp⟩) hS ?_
 refine AnyE.take (i:=3) (v:=.string t.text) rfl (by kernel_rfl) (by kernel_rfl) (by kernel_rfl) (by kernel_rfl) (fun _ _ _ h=>h) (Or.inl ⟨by rfl,fun W hW=>by have hcx:W.cell? ⟨w.heap.size,1,none⟩=some (.string t.text):=hW.cell 1;go_simp⟩) hS ?_
 refine AnyE.take (i:=4) (v:=.agg #[.int .i64 t.kind,.string t.text,.int .i64 t.num,.int .i64 t.place,kv]) rfl (by kernel_rfl) (by kernel_rfl) (by kernel_rfl) (by kernel_rfl) (fun _ _ _ h=>h) (yieldsIf_load_mid (cs:=zaa t kv) (by rfl) 25 (.tmp 1) rfl (w.heap.size) 0 rfl _ (fun W hW j v hj=>by rw [Nat.zero_add,hW.cell j];exact hj) Tryz.underlying25 rfl Tryz.zha) hS ?_
 refine AnyE.take (i:=6) (v:=.agg #[.int .i64 t.kind,.string t.text,.int .i64 t.num,.int .i64 t.place,kv]) rfl (by kernel_rfl) (by kernel_rfl) (by kernel_rfl) (by kernel_rfl) (fun _ _ _ h=>h) (yieldsIf_load_mid (cs:=zaa t kv) (by rfl) 25 (.tmp 1) rfl (w.heap.size) 0 rfl _ (fun W hW j v hj=>by rw [Nat.zero_add,hW.cell j];exact hj) Tryz.underlying25 rfl Tryz.zha) hS ?_
 refine AnyE.one (i:=5) (by kernel_rfl) rfl (by rfl) (fun K hK=>?_)
 go_simp
 refine (zWc HK.out 0).mono ?_
 rintro e w1 ⟨rfl,hb⟩
 have HB1:=zh (HB.out.trans (hb.mono HB.out.size))
 have HN1:=zh (HN.out.stays hb)
 have HRes1:=zh (HRes.out.stays hb)
 have HK1:=zh (HK.out.below hb)
 clear hb
 unfold TmV
 refine hK.out _ _ (fun _=>HN1.out) ?_
 clear hK K
 refine AnyE.one (i:=7) (by kernel_rfl) rfl (by rfl) (fun K hK=>?_)
 go_simp
 refine (zWc HK1.out 1).mono ?_
 rintro e w2 ⟨rfl,hb⟩
 have HB2:=zh (HB1.out.trans (hb.mono HB1.out.size))
 have HN2:=zh (HN1.out.stays hb)
 have HRes2:=zh (HRes1.out.stays hb)
 clear hb
 unfold TmV
 refine hK.out _ _ (fun _=>HN2.out) ?_
 clear hK K
 refine AnyE.one (i:=8) (by kernel_rfl) rfl (by rfl) (fun K hK=>?_)
 go_simp
 refine hK.out _ _ (fun _=>HN2.out) ?_
 clear hK K
 refine AnyE.one (i:=9) (by kernel_rfl) rfl (by rfl) (fun K hK=>?_)
 refine zxc 101 (.tmp 2) (.tmp 11) rfl (w.heap.size+1) (zea (zeb t 0) (.slice none 0 0)) rfl rfl HRes2.out Tryz.zza rfl (zna _ _ rfl) ?_
 refine hK.out _ _ (fun h=>absurd rfl h) ?_
 clear hK K
 refine AnyE.done (by kernel_rfl) ?_ _
 go_wp2_with fail
 exact zka (cs:=zea (zeb t 0) (.slice none 0 0)) Tryz.results150 rfl HRes2.out Tryz.underlying101 rfl Tryz.zza rfl ⟨_,rfl,zWa.nil _ _,Below.row HB2.out (by omega) _⟩
end
section
open Go.RowKit
def zPo (w:World) (ts:List Tm) (e:Ending) (w':World):Prop:=∃ v,e=.returned v∧zWa w' ts (fun b=>w.heap.size≤b) v∧Below w.heap.size w w'
theorem flat_get {α:Type} (l:List α) (k:Nat) (hl:l.length=k) (hk:0<k):∀ (n q:Nat),q<n * k→(List.replicate n l).flatten[q]?=l[q % k]?
 | 0,q,h=>by omega
 | n+1,q,h=>by
  rw [List.replicate_succ,List.flatten_cons]
  by_cases hq:q<k
  ·rw [List.getElem?_append_left (by omega),Nat.mod_eq_of_lt hq]
  ·rw [List.getElem?_append_right (by omega),hl,flat_get l k hl hk n (q-k) (by rw [Nat.succ_mul] at h;omega)]
   congr 1
   exact (Nat.mod_eq_sub_mod (by omega)).symm
theorem zQo (z:Array Value) (k:Nat) (hz:z.size=k) (hk:0<k) (n:Nat):(madeCells z (n * k)).toList=(List.replicate n z.toList).flatten:=by
 subst hz
 apply List.ext_getElem?
 intro q
 by_cases hq:q<n * z.size
 ·rw [flat_get z.toList z.size (by simp) hk n q hq]
  have hm:q % z.size<z.size:=Nat.mod_lt _ hk
  simp only [madeCells,Array.toList_map,List.getElem?_map,Array.toList_range,List.getElem?_range hq,Option.map_some,Array.getElem?_toList]
  rw [Array.getElem?_eq_getElem hm,getElem!_pos z _ hm]
 ·rw [List.getElem?_eq_none (by simp [madeCells];omega),List.getElem?_eq_none (by simp;omega)]
theorem zGh:∀ n:Nat,zgb (List.replicate n tm0)=(List.replicate n (zab tm0)).flatten
 | 0=>rfl
 | n+1=>by rw [List.replicate_succ,List.replicate_succ,List.flatten_cons,zgb,zGh n]
theorem Tryz.zMq:(Tryz.prog.info? 98).map (fun i=>(i.zero,i.size,i.bytes))=some (some (.agg #[.string ⟨#[]⟩,.int .i64 0]),2,24):=by kernel_rfl
theorem zwg (n:Nat) (hn:n≤65536) (w:World) :
  (Instr.makeSlice 99 (.int .i64 (n:Int)) (.int .i64 (n:Int))).run Tryz.prog w=.ok (.slice (some ⟨w.heap.size,0,none⟩) n n) (w.alloc (.cells (zgb (List.replicate n tm0)).toArray 98)):=by
 obtain ⟨i,h1,h2,h3,h4⟩:=info_parts Tryz.zMq
 have hr:=run_make (P:=Tryz.prog) w 99 98 i _ Tryz.underlying99 h1 h2 .i64 .i64 n n (by omega) (Int.le_refl _) (by rw [h4];omega) (by omega)
 simp only [Int.toNat_natCast,h3] at hr
 rw [hr]
 have e2:madeCells (Value.agg #[.string ⟨#[]⟩,.int .i64 0]).cells (n * 2)=(zgb (List.replicate n tm0)).toArray:=by
  rw [← Array.toList_inj]
  exact (zQo #[.string ⟨#[]⟩,.int .i64 0] 2 rfl (by omega) n).trans (by rw [zGh];rfl)
 rw [e2]
theorem zEh:∀ (ts:List Tm) (k:Nat) (t:Tm),k<ts.length→((zgb ts).set (k * 2) (.string t.name)).set (k * 2+1) (.int .i64 t.num)=zgb (ts.set k t)
 | [],k,_,h=>by simp at h
 | a :: ts,0,t,_=>rfl
 | a :: ts,k+1,t,h=>by
  rw [List.set_cons_succ,zgb,zgb,← zEh ts k t (by simpa using h)]
  have e:(k+1) * 2-(zab a).length=k * 2:=by simp [zab];omega
  have e':(k+1) * 2+1-(zab a).length=k * 2+1:=by simp [zab];omega
  rw [List.set_append_right _ _ (by simp [zab];omega),List.set_append_right _ _ (by simp [zab];omega),e,e']
theorem zzg:∀ (ts:List Tm) (k:Nat) (t:Tm) (j:Nat),ts[k]?=some t→j<2→(zgb ts)[k * 2+j]?=(zab t)[j]?
 | [],k,t,j,h,_=>by simp at h
 | a :: ts,0,t,j,h,hj=>by
  obtain rfl:a=t:=by simpa using h
  rw [zgb,Nat.zero_mul,Nat.zero_add,List.getElem?_append_left (by simpa [zab] using hj)]
 | a :: ts,k+1,t,j,h,hj=>by
  rw [zgb,List.getElem?_append_right (by simp [zab];omega)]
  have e:(k+1) * 2+j-(zab a).length=k * 2+j:=by simp [zab];omega
  rw [e]
  exact zzg ts k t j (by simpa using h) hj
def partT (ts:List Tm) (k:Nat):List Tm:=ts.take k++List.replicate (ts.length-k) tm0
theorem zin (ts:List Tm):partT ts 0=List.replicate ts.length tm0:=by simp [partT]
theorem zsp (ts:List Tm) {k:Nat} (h:ts.length≤k):partT ts k=ts:=by simp [partT,List.take_of_length_le h,show ts.length-k=0 by omega]
theorem zqo (ts:List Tm) {k:Nat} (hk:k≤ts.length):(partT ts k).length=ts.length:=by simp [partT];omega
theorem zHp {ts:List Tm} {k:Nat} {t:Tm} (h:ts[k]?=some t):(partT ts k).set k t=partT ts (k+1):=by
 obtain ⟨hk,e⟩:=List.getElem?_eq_some_iff.1 h
 unfold partT
 rw [List.set_append_right _ _ (by simp;omega),List.length_take,show k-min k ts.length=0 by omega,show ts.length-k=(ts.length-(k+1))+1 by omega,List.replicate_succ,List.set_cons_zero,List.take_succ_eq_append_getElem hk,e,List.append_assoc]
 rfl
theorem zdp {ts:List Tm} {k:Nat} (h:k<ts.length):(partT ts k)[k]?=some tm0:=by
 unfold partT
 rw [List.getElem?_append_right (by simp;omega),List.length_take,show k-min k ts.length=0 by omega,show ts.length-k=(ts.length-(k+1))+1 by omega,List.replicate_succ]
 rfl
theorem zuj {w W:World} {ts:List Tm} {g:Nat} (h:Blk W g (zgb ts) 98) (hg:w.heap.size≤g) (hl:ts.length≤65536):zWa W ts (fun b=>w.heap.size≤b) (.slice (some ⟨g,0,none⟩) ts.length ts.length):=by
 refine ⟨⟨zXd ts,.inr ⟨g,ts.length,_,rfl,Nat.zero_le _,h,Nat.le_refl _,by unfold maxLen;omega,by simp [zXd],?_⟩⟩,fun b hb=>?_⟩
 ·rw [List.take_of_length_le (by rw [zXd];omega)]
 ·simp only [Value.ownBlock,Option.some.injEq] at hb
  omega
def zes (w:World) (t:T) (g:Nat) (gh:Nat) (i:Value) (wr:World):Prop :=
 ∃ k:Nat,k≤t.kids.length∧t.kids.length≤k+gh∧i=.int .i64 k∧Blk wr g (zgb (partT (zed t) k)) 98∧Below w.heap.size w wr
theorem zAg {w:World} {t:T} {S:Nat→Prop} {kv:Value} (hk:KAt 25 w t.kids S kv) (hl:t.kids.length≤50000) :
  Calls Tryz.prog 153 #[zma t kv] w (zPo w (zed t)):=by
 have htl:(zed t).length=t.kids.length:=by unfold zed;simp
 have HTL:=zh htl
 have hmk:=zwg t.kids.length (by omega)
 have HST:=zh (show zes w t (w.heap.size+1) t.kids.length (.int .i64 0) ((w.alloc (.cells (zaa t kv).toArray 25)).alloc (.cells (zgb (List.replicate t.kids.length tm0)).toArray 98)) from
  ⟨0,by omega,by omega,rfl,by rw [zin,htl];exact Blk.zpc w _ _ _,((Below.refl _ _).alloc (Nat.le_refl _) _).alloc (by simp) _⟩)
 rcases hk.form with ⟨rfl,hnil⟩|⟨g,cap,rfl,hg,hcap,hcm,hget⟩
 ·have hn:t.kids.length=0:=by rw [hnil];rfl
  have hmk0:∀ w:World,(Instr.makeSlice 99 (.int .i64 0) (.int .i64 0)).run Tryz.prog w=.ok (.slice (some ⟨w.heap.size,0,none⟩) 0 0) (w.alloc (.cells #[] 98)):=zwg 0 (by omega)
  have HE:=zh (show zPo w (zed t) (.returned (.slice (some ⟨w.heap.size+1,0,none⟩) 0 0)) ((w.alloc (.cells (zaa t (.slice none 0 0)).toArray 25)).alloc (.cells #[] 98)) from by
   have h0:zed t=[]:=by unfold zed;rw [hnil];rfl
   rw [h0]
   exact ⟨_,rfl,zuj (ts:=[]) (Blk.zpc w _ [] _) (by omega) (by simp),((Below.refl _ _).alloc (Nat.le_refl _) _).alloc (by simp) _⟩)
  clear hmk HST
  unfold zma
  clear hk hnil htl HTL hl
  go_enter Tryz.func153,Tryz.ntmps153
  go_wp2
  clear hmk0
  refine wp_loop_rounds 1 ?_
  rw [rounds_succ]
  go_wp2_with fail
  go_ret
  exact HE.out
 ·have HG:=zh hget
  have HCAP:=zh hcap
  have HHG:=zh hg
  clear hk hget hcap hg htl
  unfold maxLen at hcm
  unfold zma
  go_enter Tryz.func153,Tryz.ntmps153
  go_wp2
  clear hmk
  go_loopg [13] t.kids.length (fun gh i wr=>zes w t (w.heap.size+1) gh i wr)
  case atStart=>exact HST.out
  case round =>
   obtain ⟨k,hk,hgk,rfl,hrow,hb⟩:=hrel
   by_cases hlt:k<t.kids.length
   ·obtain ⟨u,hr,hT⟩:=HG.out k t.kids[k] (List.getElem?_eq_getElem hlt)
    have hne:=List.getElem?_eq_getElem hlt
    have htm:(zed t)[k]?=some (zDa t.kids[k]):=by unfold zed;simp [hlt]
    generalize t.kids[k]=tk at hr hT hne htm
    have HB:=zh hb
    have HR:=zh (zpa hr (hb.mono (Nat.le_refl _)) HHG.out)
    have HRow:=zh hrow
    have HTM:=zh htm
    have HOne:=zh hT.kat.one
    have hcap:=HCAP.out
    have hsz:=hrow.lt
    have HKB:=zh (Blk.new wr (zaa tk u) 25)
    clear hr hT hne hrow hb
    go_wp2_with (first
     | ((with_reducible refine zra 25 (.tmp 16) ?_);refine wpList_load_mid rfl 25 (.tmp 16) rfl g (k * 5) rfl (zaa tk u) _ HR.out Tryz.underlying25 rfl Tryz.zha ?_)
     | ((with_reducible refine zla 25 (.tmp 5) ?_);refine zga rfl 25 (.tmp 5) (.tmp 17) rfl (zaa tk u) (old:=zba) rfl rfl Tryz.zha rfl (zda _ _ HOne.out) ?_)
     | ((with_reducible refine zra 25 (.tmp 5) ?_);refine zja rfl 25 (.tmp 5) rfl (wr.heap.size) (zaa tk u) rfl HKB.out Tryz.underlying25 rfl Tryz.zha ?_))
    refine (zri _ tk u).mono ?_
    rintro e w1 ⟨rfl,hb1⟩
    have hrow1:=(HRow.out.alloc (.cells (zaa tk u).toArray 25)).stays hb1
    have HR1:=zh hrow1
    have HB1:=zh ((HB.out.alloc HB.out.size (.cells (zaa tk u).toArray 25)).trans (hb1.mono (by have:=HB.out.size;simp;omega)))
    have hlt2:k<(zed t).length:=by rw [HTL.out];exact hlt
    have y0:=hrow1.cell (k * 2+0)
    have y1:=hrow1.cell (k * 2+1)
    rw [zzg _ _ tm0 _ (zdp hlt2) (by omega)] at y0 y1
    simp only [zab,tm0,List.getElem?_cons_zero,List.getElem?_cons_succ,Nat.add_zero] at y0 y1
    have q0:=hrow1.frozen (k * 2)
    have q1:=hrow1.frozen (k * 2+1)
    have hsz1:=hrow1.lt
    clear hrow1 hb1
    unfold TmV
    go_wp2_with fail
    go_roundg (gk-1)
    case measure=>omega
    case rel =>
     refine ⟨k+1,by omega,by omega,by go_num,?_,?_⟩
     ·have h2:=(HR1.out.zxa (k * 2) (.string (zDa tk).name)).zxa (k * 2+1) (.int .i64 (zDa tk).num)
      rw [zEh _ _ (zDa tk) (by rw [zqo _ (by omega)];exact hlt2),zHp HTM.out] at h2
      exact h2
     ·exact (HB1.out.setCell (by show w.heap.size≤w.heap.size+1;omega) _).setCell (by show w.heap.size≤w.heap.size+1;omega) _
   ·have hE:Blk wr (w.heap.size+1) (zgb (zed t)) 98:=by have:=hrow;rwa [zsp _ (by rw [HTL.out];omega)] at this
    have HE:=zh (zuj (w:=w) hE (by omega) (by rw [HTL.out];omega))
    have HB:=zh hb
    clear hrow hb hE
    go_wp2_with fail
    go_ret
    have h:=HE.out
    rw [HTL.out] at h
    exact ⟨_,rfl,h,HB.out⟩
end
end Go.Proofs.YthdbmgijpelecaaGreatDoor
