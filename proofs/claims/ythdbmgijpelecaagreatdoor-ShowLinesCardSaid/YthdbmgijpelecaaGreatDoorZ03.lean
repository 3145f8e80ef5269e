/- Trees in memory: what value stands for a tree (NodeV, TAt), that it stays where no block of it is changed, and how a method of the parser ends that hands back a node. How great a tree is that was read: no greater than twice the tokens that it was read from. Nothing of the program is walked here. A row of trees in memory, read tree by tree. Nothing of the program is walked here. A region that draws its order, when all but a chain of its operations yield in every world that meets a condition S: they are taken first, then the chain is walked in its one order. S is shown behind each operation of the chain but the last one (which may overwrite what S speaks of). Nothing of the program is walked here. -/
import Derived.Test.YthdbmgijpelecaaGreatDoorZ02
import Derived.OrdersHeld
import Derived.Deep.RegionHeld
namespace Go.Proofs.YthdbmgijpelecaaGreatDoor
set_option maxRecDepth 100000
section
open Go.RowKit
def zaa (t:T) (v:Value):List Value:=[.int .i64 t.kind,.string t.text,.int .i64 t.num,.int .i64 t.place,v]
def zOa (t:T) (v:Value):Value:=.agg #[.int .i64 t.kind,.string t.text,.int .i64 t.num,.int .i64 t.place,v]
def zRa:List T→List Value→List Value
 | t :: ts,v :: vs=>zaa t v++zRa ts vs
 | _,_=>[]
mutual
def TAt (e:TypeId) (w:World):T→(Nat→Prop)→Value→Prop
 | .mk _ _ _ _ ks,S,v=>∃ vs,w.ownsRow 0 e 5 v ks.length (zRa ks vs)∧(∀ g,v.ownBlock=some g→S g)∧zic e w ks (fun b=>S b∧v.ownBlock≠some b) vs
def zic (e:TypeId) (w:World):List T→(Nat→Prop)→List Value→Prop
 | [],_,vs=>vs=[]
 | t :: ts,S,vs=>∃ v vs',vs=v :: vs'∧TAt e w t S v∧zic e w ts S vs'
end
def KAt (e:TypeId) (w:World) (ks:List T) (S:Nat→Prop) (v:Value):Prop :=
 ∃ vs,w.ownsRow 0 e 5 v ks.length (zRa ks vs)∧(∀ g,v.ownBlock=some g→S g)∧zic e w ks (fun b=>S b∧v.ownBlock≠some b) vs
theorem TAt.kat {e:TypeId} {w:World} {t:T} {S:Nat→Prop} {v:Value} (h:TAt e w t S v):KAt e w t.kids S v:=by
 cases t with
 | mk k s n p ks=>unfold TAt at h;exact h
theorem KAt.tat {e:TypeId} {w:World} {ks:List T} {S:Nat→Prop} {v:Value} (h:KAt e w ks S v) (k:Int) (s:ByteArray) (n:Int) (p:Nat):TAt e w (.mk k s n p ks) S v:=by
 unfold TAt;exact h
theorem TAt.zMc {e:TypeId} {w:World} {t:T} {S:Nat→Prop} {v:Value} (h:KAt e w t.kids S v):TAt e w t S v:=by
 cases t with
 | mk k s n p ks=>unfold TAt;exact h
theorem KAt.nil (e:TypeId) (w:World) (S:Nat→Prop):KAt e w [] S (.slice none 0 0) :=
 ⟨[],World.ownsRow_nil _ _ _ _,(fun g h=>by simp [Value.ownBlock] at h),by unfold zic;rfl⟩
mutual
theorem TAt.keep {e:TypeId} {w w':World}:∀ (t:T) {S S':Nat→Prop} {v:Value},TAt e w t S v→(∀ b,S b→b<w.heap.size→S' b∧w'.heap[b]?=w.heap[b]?)→TAt e w' t S' v
 | .mk _ _ _ _ ks,S,S',v,h,hk=>by
  unfold TAt at h ⊢
  obtain ⟨vs,ho,hS,hts⟩:=h
  refine ⟨vs,⟨ho.1,?_⟩,fun g hg=>(hk g (hS g hg) (ho.lt g hg).2).1,zic.keep ks hts fun b hb hlt=>⟨⟨(hk b hb.1 hlt).1,hb.2⟩,(hk b hb.1 hlt).2⟩⟩
  rcases ho.2 with hn|⟨g,cap,cur,rfl,hb,hg,rest⟩
  ·exact .inl hn
  ·exact .inr ⟨g,cap,cur,rfl,hb,(hk g (hS g rfl) (Array.getElem?_eq_some_iff.1 hg).1).2.trans hg,rest⟩
theorem zic.keep {e:TypeId} {w w':World}:∀ (ts:List T) {S S':Nat→Prop} {vs:List Value},zic e w ts S vs→(∀ b,S b→b<w.heap.size→S' b∧w'.heap[b]?=w.heap[b]?)→zic e w' ts S' vs
 | [],_,_,_,h,_=>by unfold zic at h ⊢;exact h
 | t :: ts,S,S',vs,h,hk=>by
  unfold zic at h ⊢
  obtain ⟨v,vs',e,ht,hts⟩:=h
  exact ⟨v,vs',e,TAt.keep t ht hk,zic.keep ts hts hk⟩
end
section
variable {e:TypeId} {w w':World} {t:T} {ks:List T} {S S':Nat→Prop} {v:Value} {pb:Nat}
theorem TAt.mono (h:TAt e w t S v) (hS:∀ b,S b→b<w.heap.size→S' b):TAt e w t S' v:=TAt.keep t h fun b hb hl=>⟨hS b hb hl,rfl⟩
theorem TAt.kp (h:TAt e w t S v) (hk:Kp pb w w') (hS:∀ b,S b→b≠pb):TAt e w' t S v :=
 TAt.keep t h fun b hb hl=>⟨hb,hk.block b hl (by simpa using hS b hb)⟩
theorem TAt.below (h:TAt e w t S v) (hk:Below w.heap.size w w'):TAt e w' t S v:=TAt.keep t h fun b hb hl=>⟨hb,hk.block b hl⟩
theorem TAt.alloc (h:TAt e w t S v) (o:Obj):TAt e (w.alloc o) t S v:=TAt.keep t h fun b hb hl=>⟨hb,Below.heap_alloc w o b hl⟩
theorem TAt.drew (h:TAt e w t S v):TAt e w.drew t S v:=TAt.keep t h fun _ hb _=>⟨hb,rfl⟩
theorem TAt.setRow (h:TAt e w t S v) (g:Nat) (cs:Array Value) (hS:∀ b,S b→b≠g):TAt e (w.setRow g cs) t S v :=
 TAt.keep t h fun b hb _=>⟨hb,setRow_other w g b cs (hS b hb)⟩
theorem TAt.setCell (h:TAt e w t S v) (a:Addr) (x:Value) (hS:∀ b,S b→b≠a.block):TAt e (w.setCell a x) t S v :=
 TAt.keep t h fun b hb _=>⟨hb,Below.heap_setCell w a x b (hS b hb)⟩
theorem KAt.keep (h:KAt e w ks S v) (hk:∀ b,S b→b<w.heap.size→S' b∧w'.heap[b]?=w.heap[b]?):KAt e w' ks S' v :=
 (TAt.keep _ (h.tat 0 e0 0 0) hk).kat
theorem KAt.kp (h:KAt e w ks S v) (hk:Kp pb w w') (hS:∀ b,S b→b≠pb):KAt e w' ks S v:=h.keep fun b hb hl=>⟨hb,hk.block b hl (by simpa using hS b hb)⟩
theorem KAt.drew (h:KAt e w ks S v):KAt e w.drew ks S v:=h.keep fun _ hb _=>⟨hb,rfl⟩
theorem KAt.below (h:KAt e w ks S v) (hk:Below w.heap.size w w'):KAt e w' ks S v:=h.keep fun b hb hl=>⟨hb,hk.block b hl⟩
theorem KAt.alloc (h:KAt e w ks S v) (o:Obj):KAt e (w.alloc o) ks S v:=h.keep fun b hb hl=>⟨hb,Below.heap_alloc w o b hl⟩
theorem KAt.setCell (h:KAt e w ks S v) (a:Addr) (x:Value) (hS:∀ b,S b→b≠a.block):KAt e (w.setCell a x) ks S v:=h.keep fun b hb _=>⟨hb,Below.heap_setCell w a x b (hS b hb)⟩
theorem KAt.setRow (h:KAt e w ks S v) (g:Nat) (cs:Array Value) (hS:∀ b,S b→b≠g):KAt e (w.setRow g cs) ks S v:=h.keep fun b hb _=>⟨hb,setRow_other w g b cs (hS b hb)⟩
theorem KAt.mono (h:KAt e w ks S v) (hS:∀ b,S b→b<w.heap.size→S' b):KAt e w ks S' v:=h.keep fun b hb hl=>⟨hS b hb hl,rfl⟩
end
theorem zje (t:T) (v:Value) (n:Int):(zaa t v).set 2 (.int .i64 n)=zaa (t.zhc n) v:=by cases t;rfl
theorem zNb (ty:TypeId) (x:Operand) {P:Program} {ops:Array Oper} {rest:List Oper} {dst:Option Tmp} {tt:TypeId} {ps:String} {af:Array Edge} {a:Act} {w:World} {Q:Exit→Act→World→Prop}
  (h:wpList P ops Q (⟨dst,.load ty x,tt,ps,af,none⟩ :: rest) a w):wpList P ops Q (⟨dst,.load ty x,tt,ps,af,none⟩ :: rest) a w:=h
theorem zga {P:Program} {ops:Array Oper} {rest:List Oper} {o:Oper} {a:Act} {w:World} {Q:Exit→Act→World→Prop} (hgd:o.guard=none) (ty:TypeId) (x:Operand) (ho:o.op=.load ty x)
  (g:Nat) (cells:List Value) (hx:a.eval x=.pointer (some ⟨g,0,none⟩)) {t:TypeId} (hg:Blk w g cells t) {d:TypeDesc} (hu:P.underlying ty=some d) (hd:d.isRow=true) (hi:(P.info? ty).map (·.size)=some cells.length)
  (h:wpList P ops Q rest (a.put o.dst (.agg cells.toArray)) w):wpList P ops Q (o :: rest) a w :=
 wpList_load_mid hgd ty x ho g 0 hx cells d (fun j v hj=>by rw [Nat.zero_add,hg.cell j];exact hj) hu hd hi h
theorem zea (t:T) (v:Value) (hv:v.oneCell'=true):∀ u∈zaa t v,u.oneCell'=true:=by
 intro u hu
 simp only [zaa,List.mem_cons,List.not_mem_nil,or_false] at hu
 rcases hu with rfl|rfl|rfl|rfl|rfl
 ·rfl
 ·rfl
 ·rfl
 ·rfl
 ·exact hv
theorem KAt.one {e:TypeId} {w:World} {ks:List T} {S:Nat→Prop} {v:Value} (h:KAt e w ks S v):v.oneCell'=true:=by
 obtain ⟨_,ho,_⟩:=h
 rcases ho.2 with ⟨rfl,_⟩|⟨_,_,_,rfl,_⟩<;>rfl
theorem KAt.zRo {e:TypeId} {w:World} {t:T} {S:Nat→Prop} {v:Value} (h:TAt e w t S v) (hS:S w.heap.size) :
  KAt e (w.alloc (.cells (zaa t v).toArray e)) [t] S (.slice (some ⟨w.heap.size,0,none⟩) 1 1):=by
 refine ⟨[v],⟨rfl,.inr ⟨w.heap.size,1,_,rfl,Nat.zero_le _,heap_alloc_new w _,Nat.le_refl _,by unfold maxLen;omega,rfl,rfl⟩⟩,fun g hg=>?_,?_⟩
 ·simp only [Value.ownBlock,Option.some.injEq] at hg;subst hg;exact hS
 ·unfold zic
  refine ⟨v,[],rfl,?_,by unfold zic;rfl⟩
  refine TAt.keep t h fun b hb hl=>⟨⟨hb,?_⟩,Below.heap_alloc w _ b hl⟩
  simp only [Value.ownBlock,ne_eq,Option.some.injEq]
  omega
theorem KAt.lit2 {e:TypeId} {w:World} {t u:T} {S:Nat→Prop} {v x:Value} (h:TAt e w t S v) (h':TAt e w u S x) (hS:S w.heap.size) :
  KAt e (w.alloc (.cells (zaa t v++zaa u x).toArray e)) [t,u] S (.slice (some ⟨w.heap.size,0,none⟩) 2 2):=by
 refine ⟨[v,x],⟨rfl,.inr ⟨w.heap.size,2,_,rfl,Nat.zero_le _,heap_alloc_new w _,Nat.le_refl _,by unfold maxLen;omega,rfl,rfl⟩⟩,fun g hg=>?_,?_⟩
 ·simp only [Value.ownBlock,Option.some.injEq] at hg;subst hg;exact hS
 ·have keep:∀ b,S b→b<w.heap.size→(S b∧(Value.slice (some ⟨w.heap.size,0,none⟩) 2 2).ownBlock≠some b)∧(w.alloc (.cells (zaa t v++zaa u x).toArray e)).heap[b]?=w.heap[b]?:=fun b hb hl=>by
   refine ⟨⟨hb,?_⟩,Below.heap_alloc w _ b hl⟩
   simp only [Value.ownBlock,ne_eq,Option.some.injEq]
   omega
  unfold zic
  refine ⟨v,[x],rfl,TAt.keep t h keep,?_⟩
  unfold zic
  exact ⟨x,[],rfl,TAt.keep u h' keep,by unfold zic;rfl⟩
structure Run (E:Env) (w W:World) (l:List Tok) (d:Nat):Prop where
 kp:Kp E.pb w W
 st:PSt E W l d
 lo:E.pb<w.heap.size
 lt:E.tb<w.heap.size
section
variable {E:Env} {w W W':World} {l l':List Tok} {d d':Nat}
theorem Run.start (h:PSt E w l d):Run E w w l d:=⟨.refl _ _,h,h.plt,h.tlt⟩
theorem Run.alloc (h:Run E w W l d) (o:Obj):Run E w (W.alloc o) l d:=⟨h.kp.alloc o,h.st.alloc o,h.lo,h.lt⟩
theorem Run.below (h:Run E w W l d) (hb:Below W.heap.size W W'):Run E w W' l d:=⟨h.kp.trans (.of_below hb),h.st.below hb,h.lo,h.lt⟩
theorem Run.call (h:Run E w W l d) (hk:Kp E.pb W W') (hs:PSt E W' l' d'):Run E w W' l' d':=⟨h.kp.trans hk,hs,h.lo,h.lt⟩
theorem Run.setRow (h:Run E w W l d) {g:Nat} (hg:w.heap.size≤g) (cs:Array Value):Run E w (W.setRow g cs) l d :=
 ⟨h.kp.setRow hg cs,h.st.setRow (by have:=h.lo;omega) (by have:=h.lt;omega) cs,h.lo,h.lt⟩
theorem Run.setCell (h:Run E w W l d) {a:Addr} (hg:w.heap.size≤a.block) (v:Value):Run E w (W.setCell a v) l d :=
 ⟨h.kp.zar hg v,h.st.same (by simp [World.setCell]) (Below.heap_setCell _ _ _ _ (by have:=h.lo;omega)) (Below.heap_setCell _ _ _ _ (by have:=h.lt;omega)),h.lo,h.lt⟩
theorem Run.size (h:Run E w W l d):w.heap.size≤W.heap.size:=h.kp.size
end
def zba:List Value:=[.int .i64 0,.string ⟨#[]⟩,.int .i64 0,.int .i64 0,.slice none 0 0]
theorem zra {α:Type} {b:Bool} (h:b=true) (x y:α):(bif b then x else y)=x:=by rw [h];rfl
theorem zja {α:Type} {b:Bool} (h:b=false) (x y:α):(bif b then x else y)=y:=by rw [h];rfl
theorem TAt.weak {e:TypeId} {w w':World} {t:T} {v:Value} {x:Nat} (h:TAt e w' t (fun b=>w.heap.size≤b) v) (hx:x<w.heap.size):TAt e w' t (fun b=>x<b∧b<w'.heap.size) v:=h.mono fun b hb hl=>⟨by omega,hl⟩
theorem KAt.weak {e:TypeId} {w w':World} {ks:List T} {v:Value} {x:Nat} (h:KAt e w' ks (fun b=>w.heap.size≤b) v) (hx:x<w.heap.size):KAt e w' ks (fun b=>x<b∧b<w'.heap.size) v:=h.mono fun b hb hl=>⟨by omega,hl⟩
theorem TAt.lo {e:TypeId} {w:World} {t:T} {v:Value} {x y:Nat} (h:TAt e w t (fun b=>x<b∧b<y) v):TAt e w t (fun b=>x<b) v:=h.mono fun _ hb _=>hb.1
theorem KAt.lo {e:TypeId} {w:World} {ks:List T} {v:Value} {x y:Nat} (h:KAt e w ks (fun b=>x<b∧b<y) v):KAt e w ks (fun b=>x<b) v:=h.mono fun _ hb _=>hb.1
def znc (W:World) (lo:Nat) (t:T) (v:Value):Prop:=∃ kv,v=zOa t kv∧TAt 25 W t (fun b=>lo≤b) kv
theorem Run.err {α:Type} {V:World→Nat→α→Value→Prop} {E:Env} {w W:World} {l:List Tok} {d:Nat} {r:R α} {p:Nat} {c:Int} (hk:Kp E.pb w W) (hr:r=.error (p,c)) (hc:c=20∨c=21) :
  zpb V E w l d r (.panicked [{ v:=zCf p c,recovered:=false }]) W:=.zCl hr rfl hk hc
theorem Run.node {E:Env} {w W:World} {l l':List Tok} {d:Nat} {r:R T} {t:T} {v:Value} (h:Run E w W l' d) (ht:TAt 25 W t (fun b=>w.heap.size<b) v) (hr:r=.ok (t,l')) (hl:l'.length<l.length) :
  zpb znc E w l d r (.returned (zOa t v)) (W.setRow w.heap.size (zaa t v).toArray) :=
 .zih hr rfl ⟨v,rfl,(ht.setRow _ _ (fun b hb=>by omega)).mono (fun b hb _=>by omega)⟩ (h.setRow (Nat.le_refl _) _).st hl (h.setRow (Nat.le_refl _) _).kp
theorem zzd {P:Program} {fn:Func} {s:Tmp} {ty t:TypeId} (h:fn.results=#[.cell s ty]) {tmps:Array Value} {W:World} {g:Nat} {cs:List Value} {d:TypeDesc} (hs:tmps.getD s undef=.pointer (some ⟨g,0,none⟩))
  (hb:Blk W g cs t) (hu:P.underlying ty=some d) (hd:d.isRow=true) (hi:(P.info? ty).map (·.size)=some cs.length):(results fn tmps).run P W=.ok (.agg cs.toArray) W:=by
 have hl:=run_loadVar_mid (P:=P) W g 0 ty cs d (fun j v hj=>by rw [Nat.zero_add,hb.cell j];exact hj) hu hd hi
 have hs':tmps[s]?.getD undef=.pointer (some ⟨g,0,none⟩):=by rw [← hs];simp
 simp [results,h,hs',asAddr,hl]
theorem zna {P:Program} {fn:Func} {s:Tmp} {ty t:TypeId} (h:fn.results=#[.cell s ty]) {a:Act} {W:World} {g:Nat} {old cs:List Value} {d:TypeDesc} {R:Ending→World→Prop} (hs:a.tmps.getD s undef=.pointer (some ⟨g,0,none⟩))
  (hb:Blk W g old t) (hu:P.underlying ty=some d) (hd:d.isRow=true) (hi:(P.info? ty).map (·.size)=some cs.length) (hdf:a.defers=[]) (hR:R (.returned (.agg cs.toArray)) (W.setRow g cs.toArray)) :
  bodyPost P fn R .ret (a.put none undef) (W.setRow g cs.toArray) :=
 bodyPost_ret (zzd h hs (hb.zcc cs) hu hd hi) hdf hR
theorem znd {P:Program} {t:TypeId} {fs:Array Field} {i:Nat} {f:Field} {cs:Array Value} {v:Value} (ht:P.underlying t=some (.struct fs)) (hf:fs[i]?=some f) (he:∀ w,(isAgg f.type).run P w=.ok false w)
  (hv:cs[f.offset]?=some v) (w:World):(Instr.field t (.agg cs) i).run P w=.ok v w:=by
 simp [Instr.field,run_underlying ht,hf,part,he,hv,asAgg]
theorem zmk {P:Program} {t:TypeId} {d:TypeDesc} (h:P.underlying t=some d) (hd:d.isRow=false) (w:World):(isAgg t).run P w=.ok false w:=by
 unfold isAgg
 rw [Sem.run_bind,run_underlying h w]
 cases d<;>simp_all
theorem zDb (a b c d:Value) (w:World):(Instr.field 128 (.agg #[a,b,c,d]) 0).run Tryz.prog w=.ok a w:=znd Tryz.underlying128 rfl (zmk Tryz.underlying126 rfl) rfl w
theorem zFb (a b c d:Value) (w:World):(Instr.field 128 (.agg #[a,b,c,d]) 1).run Tryz.prog w=.ok b w:=znd Tryz.underlying128 rfl (zmk Tryz.underlying9 rfl) rfl w
theorem zJf (a b c d:Value) (w:World):(Instr.field 128 (.agg #[a,b,c,d]) 2).run Tryz.prog w=.ok c w:=znd Tryz.underlying128 rfl (zmk Tryz.underlying2 rfl) rfl w
theorem zEb (a b c d:Value) (w:World):(Instr.field 128 (.agg #[a,b,c,d]) 3).run Tryz.prog w=.ok d w:=znd Tryz.underlying128 rfl (zmk Tryz.underlying3 rfl) rfl w
theorem Tryz.zda:(Tryz.prog.info? 25).map (·.size)=some 5:=by kernel_rfl
theorem Tryz.zWf:(Tryz.prog.info? 128).map (·.size)=some 4:=by kernel_rfl
end
section
open Go.RowKit
def Ok {α:Type} (G:α→List Tok→Prop) (r:R α):Prop:=∀ a l,r=.ok (a,l)→G a l
section
variable {α β:Type} {G:α→List Tok→Prop} {H:β→List Tok→Prop}
theorem Ok.bd {r:R α} {f:α→List Tok→R β} (hr:Ok G r) (hf:∀ a l,G a l→Ok H (f a l)):Ok H (bd r f):=by
 intro b l h
 cases hq:r with
 | error e=>rw [zla hq] at h;cases h
 | ok q =>
  obtain ⟨a,l1⟩:=q
  rw [zia hq] at h
  exact hf a l1 (hr a l1 hq) b l h
theorem Ok.cond {b:Bool} {x y:R α} (hx:b=true→Ok G x) (hy:b=false→Ok G y):Ok G (bif b then x else y):=by
 cases b
 ·exact hy rfl
 ·exact hx rfl
theorem Ok.ok {a:α} {l:List Tok} (h:G a l):Ok G (.ok (a,l)):=by intro b l' e;cases e;exact h
theorem Ok.err {e:Nat × Int}:Ok G (.error e:R α):=by intro b l' h;cases h
theorem Ok.mono {G':α→List Tok→Prop} {r:R α} (h:Ok G r) (hg:∀ a l,G a l→G' a l):Ok G' r:=fun a l e=>hg a l (h a l e)
end
theorem Ok.sum {G:T→List Tok→Prop} {s:Option (Int × Int)} {a:R T} {f:Int→Int→R T} (ha:s=none→Ok G a) (hf:∀ k x,s=some (k,x)→Ok G (f k x)):Ok G (zdr s a f):=by
 cases s with
 | none=>exact ha rfl
 | some q=>exact hf q.1 q.2 rfl
def Sz (c:Nat) (l:List Tok) (t:T) (l':List Tok):Prop:=t.size+2 * l'.length≤2 * l.length+c
def SzL (c:Nat) (l:List Tok) (ts:List T) (l':List Tok):Prop:=sizes ts+2 * l'.length≤2 * l.length+c
def Sh {α:Type} (l:List Tok) (_:α) (l':List Tok):Prop:=l'.length+1≤l.length
theorem size_mk (k:Int) (s:ByteArray) (n:Int) (p:Nat) (ks:List T):(T.mk k s n p ks).size=1+sizes ks:=by rw [T.size]
theorem zma:sizes []=0:=by rw [sizes]
theorem zoa (t:T) (ts:List T):sizes (t :: ts)=t.size+sizes ts:=by rw [sizes]
theorem zDc:∀ a b:List T,sizes (a++b)=sizes a+sizes b
 | [],b=>by simp [zma]
 | t :: ts,b=>by rw [List.cons_append,zoa,zoa,zDc ts b];omega
theorem zeh (v:Int) (t:T):(t.zhc v).size=t.size:=by cases t;simp [T.zhc,size_mk]
theorem zYg (t b:T):(t.snoc b).size=t.size+b.size:=by cases t;simp [T.snoc,size_mk,zDc,zoa,zma];omega
theorem zNg {l:List Tok} {s:ByteArray} (h:isT (hdT l) s=true) (hs:0<s.size):0<l.length:=by
 cases l with
 | nil =>
  have h1:=beq_iff_eq.1 (show ((zLb.text).toList == s.toList)=true from h)
  rw [ByteArray.toList_eq,ByteArray.toList_eq] at h1
  have h2:=congrArg List.length h1
  simp [zLb] at h2
  have:s.data.size=s.size:=rfl
  omega
 | cons t r=>simp
theorem zfn {l:List Tok} {k:Nat} (h:((hdT l).kind == k)=true) (hk:0<k):0<l.length:=by
 cases l with
 | nil=>have:=beq_iff_eq.1 h;simp [hdT,zLb] at this;omega
 | cons t r=>simp
theorem zVa {ss:List ByteArray} (l:List Tok) (hs:∀ s∈ss,0<s.size):Ok (Sh l) (zqa ss l):=by
 unfold zqa
 refine Ok.cond (fun h=>Ok.ok ?_) (fun _=>Ok.err)
 obtain ⟨s,hm,h1⟩:=List.any_eq_true.1 h
 have:=zNg h1 (hs s hm)
 unfold Sh
 simp only [List.length_tail]
 omega
theorem zwl {k:Nat} (hk:0<k) (l:List Tok):Ok (Sh l) (zVf k l):=by
 unfold zVf
 refine Ok.cond (fun h=>Ok.ok ?_) (fun _=>Ok.err)
 have:=zfn h hk
 unfold Sh
 simp only [List.length_tail]
 omega
theorem zgd (l:List Tok):Ok (Sh l) (zFc l):=by unfold zFc;exact (zwl (by omega) l).bd fun _ _ h=>Ok.ok h
theorem zQd (l:List Tok):Ok (Sh l) (zIb l):=by unfold zIb;exact (zwl (by omega) l).bd fun _ _ h=>Ok.ok h
theorem zbc (l:List Tok):Ok (Sz 0 l) (zsa l):=by
 unfold zsa
 exact (zgd l).bd fun s l1 h=>Ok.ok (by unfold Sz Sh at *;rw [size_mk,zma];omega)
theorem zcf (l:List Tok):Ok (Sz 0 l) (zEa l):=by
 unfold zEa
 refine Ok.cond (fun _=>(zQd _).bd fun s l1 h=>Ok.ok ?_) (fun _=>(zQd _).bd fun s l1 h=>Ok.ok ?_)
 ·unfold Sz Sh at *;rw [size_mk,zma];simp only [List.length_tail] at h;omega
 ·unfold Sz Sh at *;rw [size_mk,zma];omega
theorem zpe (l:List Tok):Ok (Sz 0 l) (zQb l):=by
 unfold zQb
 refine Ok.cond (fun _=>(zbc l).bd fun n l1 h=>Ok.sum (fun _=>Ok.ok h) fun k x _=>(zQd _).bd fun v l2 h2=>Ok.ok ?_) (fun _=>zcf l)
 unfold Sz Sh at *;rw [zeh];simp only [List.length_tail] at h2;omega
theorem zsk {item:List Tok→R T} (hi:∀ l,Ok (Sz 0 l) (item l)):∀ (n:Nat) (l:List Tok),Ok (SzL 0 l) (zLe item n l)
 | 0,l=>Ok.err
 | n+1,l=>by
  rw [zLe]
  refine Ok.cond (fun _=>(hi _).bd fun a l1 h=>(zsk hi n l1).bd fun xs l2 h2=>Ok.ok ?_) (fun _=>Ok.ok (by unfold SzL;rw [zma];omega))
  unfold SzL Sz at *;rw [zoa];simp only [List.length_tail] at h;omega
theorem zDj {item:List Tok→R T} (hi:∀ l,Ok (Sz 0 l) (item l)) (l:List Tok):Ok (SzL 0 l) (zHd item l):=by
 unfold zHd
 refine (hi l).bd fun a l1 h=>(zsk hi _ l1).bd fun xs l2 h2=>Ok.ok ?_
 unfold SzL Sz at *;rw [zoa];omega
theorem zff {item:List Tok→R T} (hi:∀ l,Ok (Sz 0 l) (item l)) (l:List Tok):Ok (fun xs l'=>sizes xs+2 * l'.length+2≤2 * l.length) (zjb item l):=by
 unfold zjb
 refine (zVa l (by decide)).bd fun _ l1 h=>Ok.cond (fun _=>Ok.ok ?_) (fun _=>(zDj hi l1).bd fun xs l2 h2=>(zVa l2 (by decide)).bd fun _ l3 h3=>Ok.ok ?_)
 ·unfold Sh at *;rw [zma];simp only [List.length_tail];omega
 ·unfold SzL Sh at *;omega
theorem zvk (l:List Tok):Ok (fun a l'=>a.size+2 * l'.length+4≤2 * l.length) (zqc l):=by
 unfold zqc
 refine (zVa l (by decide)).bd fun _ l1 h=>(zpe l1).bd fun a l2 h2=>(zVa l2 (by decide)).bd fun _ l3 h3=>Ok.ok ?_
 unfold Sz Sh at *;omega
theorem zNo {l:List Tok} {q:Int × Int} (h:sumP l=some q):0<l.length:=by
 unfold sumP at h
 cases h1:isT (hdT l) (bs [43]) with
 | true=>exact zNg h1 (by decide)
 | false =>
  rw [h1] at h
  cases h2:isT (hdT l) (bs [45]) with
  | true=>exact zNg h2 (by decide)
  | false=>rw [h2] at h;cases h
theorem zVp (n:T) (l:List Tok):Ok (Sz 0 l) (zae n l):=by
 unfold zae
 refine (zff zpe l).bd fun xs l1 h=>Ok.ok ?_
 unfold Sz;rw [size_mk];omega
theorem zCq (p:Nat) (l:List Tok):Ok (Sz 0 l) (zti p l):=by
 unfold zti
 refine Ok.cond (fun _=>(zgd _).bd fun s l1 h=>Ok.ok ?_) (fun _=>(zgd _).bd fun s l1 h=>Ok.ok ?_)
 ·unfold Sz Sh at *;rw [size_mk,zma];simp only [List.length_tail] at h;omega
 ·unfold Sz Sh at *;rw [size_mk,zma];omega
theorem zgk (l:List Tok):Ok (Sz 0 l) (zza l):=by
 unfold zza
 refine (zbc l).bd fun n l1 h=>Ok.cond (fun _=>(zvk l1).bd fun a l2 h2=>Ok.ok ?_) fun _=>Ok.cond (fun _=>(zVp n l1).mono fun a l2 h2=>?_) fun _=>Ok.sum (fun _=>Ok.ok h) fun k x hs=>Ok.cond (fun _=>(zbc _).bd fun m l2 h2=>Ok.ok ?_) (fun _=>(zQd _).bd fun v l2 h2=>Ok.ok ?_)
 ·unfold Sz at *;rw [size_mk,zoa,zma];omega
 ·unfold Sz at *;omega
 ·have:=zNo hs
  unfold Sz at *;rw [size_mk,zoa,zoa,zma];simp only [List.length_tail] at h2;omega
 ·unfold Sz Sh at *;rw [zeh];simp only [List.length_tail] at h2;omega
theorem zIp (l:List Tok):Ok (Sz 0 l) (zyc l):=by
 unfold zyc
 refine Ok.cond (fun _=>(zQd _).bd fun v l1 h=>Ok.ok ?_) fun _=>Ok.cond (fun _=>(zgd _).bd fun s l1 h=>Ok.ok ?_) fun _=>Ok.cond (fun _=>(zCq _ _).mono fun a l1 h=>?_) fun _=>Ok.cond (fun _=>zgk l) fun _=>zcf l
 ·unfold Sz Sh at *;rw [size_mk,zma];simp only [List.length_tail] at h;omega
 ·unfold Sz Sh at *;rw [size_mk,zma];simp only [List.length_tail] at h;omega
 ·unfold Sz at *;simp only [List.length_tail] at h;omega
theorem zQf (k:Int) (p:Nat) (l:List Tok):Ok (fun t l'=>t.size+2 * l'.length+1≤2 * l.length) (zUa k p l):=by
 unfold zUa
 refine (zpe l).bd fun a l1 h1=>(zVa l1 (by decide)).bd fun c l2 h2=>(zpe l2).bd fun b l3 h3=>Ok.ok ?_
 unfold Sz Sh at *;rw [size_mk,zoa,zoa,zma];omega
theorem zpq (l:List Tok):Ok (Sz 0 l) (zwe l):=by
 unfold zwe
 exact (zQf 4 _ l).mono fun t l' h=>by unfold Sz;omega
theorem zfo (l:List Tok):Ok (Sz 0 l) (zfc l):=by
 unfold zfc
 refine (zgd l).bd fun s l1 h=>Ok.cond (fun hc=>(zbc _).bd fun a l2 h2=>(zVa l2 (by decide)).bd fun _ l3 h3=>Ok.ok ?_) (fun _=>Ok.ok ?_)
 ·unfold Sz Sh at *;rw [size_mk,zoa,zma];simp only [List.length_tail] at h2;omega
 ·unfold Sz Sh at *;rw [size_mk,zma];omega
theorem zcq (l:List Tok):Ok (Sz 0 l) (zNd l):=by
 unfold zNd
 refine (zVa l (by decide)).bd fun t l1 h=>Ok.cond (fun _=>Ok.ok ?_) (fun _=>(zbc l1).bd fun a l2 h2=>Ok.ok ?_)
 ·unfold Sz Sh at *;rw [size_mk,zma];omega
 ·unfold Sz Sh at *;rw [size_mk,zoa,zma];omega
theorem zog (l:List Tok):Ok (Sz 0 l) (zLa l):=by
 unfold zLa
 refine (zVa l (by decide)).bd fun t l1 h=>Ok.cond (fun _=>(zbc l1).bd fun a l2 h2=>Ok.ok ?_) (fun _=>Ok.ok ?_)
 ·unfold Sz Sh at *;rw [size_mk,zoa,zma];omega
 ·unfold Sz Sh at *;rw [size_mk,zma];omega
theorem zWp (l:List Tok):Ok (Sz 0 l) (zBd l):=by
 unfold zBd
 refine Ok.cond (fun hc=>Ok.cond (fun _=>(zbc _).bd fun a l2 h2=>Ok.ok ?_) (fun _=>(zbc _).bd fun a l2 h2=>Ok.ok ?_)) (fun _=>zog l)
 ·have:=zNg hc (by decide)
  unfold Sz at *;rw [size_mk,zoa,zma];simp only [List.length_tail] at h2;omega
 ·have:=zNg hc (by decide)
  unfold Sz at *;rw [size_mk,zoa,zma];simp only [List.length_tail] at h2;omega
theorem zeo (l:List Tok):Ok (Sz 0 l) (zzc l):=by
 unfold zzc
 refine (zgd l).bd fun s l1 h=>(zVa l1 (by decide)).bd fun _ l2 h2=>(zWp l2).bd fun a l3 h3=>Ok.ok ?_
 unfold Sz Sh at *;rw [size_mk,zoa,zma];omega
theorem zrm (l:List Tok):Ok (SzL 0 l) (zTc l):=by
 unfold zTc
 refine Ok.cond (fun _=>(zDj zfo _).bd fun xs l1 h=>(zVa l1 (by decide)).bd fun _ l2 h2=>Ok.ok ?_) (fun _=>Ok.ok ?_)
 ·unfold SzL Sh at *;simp only [List.length_tail] at h;omega
 ·unfold SzL;rw [zma];omega
theorem znn (l:List Tok):Ok (SzL 0 l) (zbd l):=by
 unfold zbd
 refine Ok.cond (fun _=>(zDj zpq _).mono fun xs l1 h=>?_) (fun _=>Ok.ok ?_)
 ·unfold SzL at *;simp only [List.length_tail] at h;omega
 ·unfold SzL;rw [zma];omega
theorem zhp (p:Nat) (l:List Tok):Ok (Sz 0 l) (zMb p l):=by
 unfold zMb
 refine (zgd l).bd fun s l1 h=>(zcq l1).bd fun a l2 h2=>(zrm l2).bd fun ys l3 h3=>(znn l3).bd fun zs l4 h4=>(zVa l4 (by decide)).bd fun _ l5 h5=>Ok.ok ?_
 unfold Sz SzL Sh at *;rw [size_mk,zoa,zDc];omega
theorem zBm (k:Int) (p:Nat) (l:List Tok):Ok (Sz 0 l) (zAd k p l):=by
 unfold zAd
 refine (zgd l).bd fun s l1 h=>(zVa l1 (by decide)).bd fun _ l2 h2=>(zQd l2).bd fun v l3 h3=>(zVa l3 (by decide)).bd fun _ l4 h4=>Ok.ok ?_
 unfold Sz Sh at *;rw [size_mk,zma];omega
theorem zRm (p:Nat) (l:List Tok):Ok (Sz 1 l) (zYb p l):=by
 unfold zYb
 refine Ok.cond (fun _=>Ok.ok ?_) (fun _=>(zpe l).bd fun a l1 h=>Ok.ok ?_)
 ·unfold Sz;rw [size_mk,zma];omega
 ·unfold Sz at *;rw [size_mk,zoa,zma];omega
theorem zsl (l:List Tok):Ok (fun n l'=>n.size=1∧l'.length+1≤l.length) (zsa l):=by
 unfold zsa
 exact (zgd l).bd fun s l1 h=>Ok.ok ⟨by rw [size_mk,zma],h⟩
theorem zIj (n:T) (l:List Tok):Ok (fun t l'=>t.size+2 * l'.length+1≤2 * l.length) (zae n l):=by
 unfold zae
 refine (zff zpe l).bd fun xs l1 h=>Ok.ok ?_
 rw [size_mk];omega
theorem zan (l:List Tok):Ok (Sz 0 l) (zxb l):=by
 unfold zxb
 refine (zsl l).bd fun n l1 h=>Ok.cond (fun _=>(zIj n l1).bd fun c l2 h2=>Ok.ok ?_) fun _=>Ok.cond (fun _=>(zvk l1).bd fun i l2 h2=>(zVa l2 (by decide)).bd fun _ l3 h3=>(zpe l3).bd fun b l4 h4=>Ok.ok ?_) fun _=>(zVa l1 (by decide)).bd fun _ l2 h2=>(zIp l2).bd fun x l3 h3=>Ok.ok ?_
 ·unfold Sz;rw [size_mk,zoa,zma];omega
 ·unfold Sz Sh at *;rw [size_mk,zoa,zoa,zma];omega
 ·unfold Sz Sh at *;rw [size_mk,zoa,zma];omega
theorem zGl (l:List Tok):Ok (Sz 0 l) (zIa l):=by
 unfold zIa
 refine Ok.cond (fun _=>zan l) fun _=>Ok.cond (fun _=>(zgd _).bd fun s l1 h=>Ok.ok ?_) fun _=>Ok.cond (fun _=>(zBm _ _ _).mono fun a l1 h=>?_) fun _=>Ok.cond (fun _=>(zBm _ _ _).mono fun a l1 h=>?_) fun _=>Ok.cond (fun hc=>(zRm _ _).mono fun a l1 h=>?_) fun _=>Ok.cond (fun hc=>Ok.ok ?_) fun _=>Ok.cond (fun _=>(zgd _).bd fun s l1 h=>(zff zpe l1).bd fun xs l2 h2=>Ok.ok ?_) fun _=>Ok.err
 ·unfold Sz Sh at *;rw [size_mk,zma];simp only [List.length_tail] at h;omega
 ·unfold Sz at *;simp only [List.length_tail] at h;omega
 ·unfold Sz at *;simp only [List.length_tail] at h;omega
 ·have:=zNg hc (by decide)
  unfold Sz at *;simp only [List.length_tail] at h;omega
 ·have:=zNg hc (by decide)
  unfold Sz;rw [size_mk,zma];simp only [List.length_tail];omega
 ·unfold Sz Sh at *;rw [size_mk];simp only [List.length_tail] at h;omega
theorem zpp {blk:List Tok→R T} (hb:∀ l,Ok (Sz 0 l) (blk l)) (p:Nat) (l:List Tok):Ok (Sz 1 l) (zUf blk p l):=by
 unfold zUf
 refine Ok.cond (fun _=>(hb _).mono fun a l1 h=>?_) (fun _=>Ok.ok ?_)
 ·unfold Sz at *;simp only [List.length_tail] at h;omega
 ·unfold Sz;rw [size_mk,zma];omega
theorem if_sz {blk:List Tok→R T} (hb:∀ l,Ok (Sz 0 l) (blk l)) (p:Nat) (l:List Tok):Ok (Sz 0 l) (ifP blk p l):=by
 unfold ifP
 refine (zQf _ _ l).bd fun n l1 h=>(hb l1).bd fun b l2 h2=>(zpp hb p l2).bd fun c l3 h3=>Ok.ok ?_
 unfold Sz at *;rw [zYg,zYg];omega
theorem zdn {blk:List Tok→R T} (hb:∀ l,Ok (Sz 0 l) (blk l)) (p:Nat) (l:List Tok):Ok (Sz 0 l) (zke blk p l):=by
 unfold zke
 refine (zQf _ _ l).bd fun n l1 h=>(hb l1).bd fun b l2 h2=>Ok.ok ?_
 unfold Sz at *;rw [zYg];omega
theorem zLp {blk:List Tok→R T} (hb:∀ l,Ok (Sz 0 l) (blk l)) (l:List Tok):Ok (Sz 0 l) (zHc blk l):=by
 unfold zHc
 refine Ok.cond (fun _=>(if_sz hb _ _).mono fun a l1 h=>?_) fun _=>Ok.cond (fun _=>(zdn hb _ _).mono fun a l1 h=>?_) fun _=>(zGl l).bd fun n l1 h=>(zVa l1 (by decide)).bd fun _ l2 h2=>Ok.ok ?_
 ·unfold Sz at *;simp only [List.length_tail] at h;omega
 ·unfold Sz at *;simp only [List.length_tail] at h;omega
 ·unfold Sz Sh at *;omega
theorem zkj {item:List Tok→R T} (hi:∀ l,Ok (Sz 0 l) (item l)):∀ (n:Nat) (l:List Tok),Ok (SzL 0 l) (zPc item n l)
 | 0,l=>Ok.err
 | n+1,l=>by
  rw [zPc]
  refine Ok.cond (fun _=>Ok.ok ?_) (fun _=>(hi l).bd fun a l1 h=>(zkj hi n l1).bd fun xs l2 h2=>Ok.ok ?_)
  ·unfold SzL;rw [zma];simp only [List.length_tail];omega
  ·unfold SzL Sz at *;rw [zoa];omega
theorem zik:∀ (n:Nat) (l:List Tok),Ok (Sz 0 l) (zhb n l)
 | 0,l=>by rw [zhb];exact (zVa l (by decide)).bd fun _ _ _=>Ok.err
 | n+1,l=>by
  rw [zhb]
  refine (zVa l (by decide)).bd fun t l1 h=>(zkj (zLp (zik n)) _ l1).bd fun xs l2 h2=>Ok.ok ?_
  unfold SzL Sz Sh at *;rw [size_mk];omega
theorem zEm (l:List Tok):Ok (Sz 1 l) (zRc l):=by
 unfold zRc
 refine Ok.cond (fun _=>(zog _).mono fun a l1 h=>?_) (fun _=>Ok.ok ?_)
 ·unfold Sz at *;simp only [List.length_tail] at h;omega
 ·unfold Sz;rw [size_mk,zma];omega
theorem fn_sz (p:Nat) (l:List Tok):Ok (Sz 0 l) (fnP p l):=by
 unfold fnP
 refine (zgd l).bd fun s l1 h=>(zff zeo l1).bd fun xs l2 h2=>(zEm l2).bd fun r l3 h3=>(zik 8 l3).bd fun b l4 h4=>Ok.ok ?_
 unfold Sz Sh at *;rw [size_mk,zDc,zoa,zoa,zma];omega
theorem zfp (l:List Tok):Ok (Sz 0 l) (zGd l):=by
 unfold zGd
 refine (zVa l (by decide)).bd fun t l1 h=>Ok.cond (fun _=>(zhp _ _).mono fun a l2 h2=>?_) (fun _=>(fn_sz _ _).mono fun a l2 h2=>?_)
 ·unfold Sz Sh at *;omega
 ·unfold Sz Sh at *;omega
theorem zGk:∀ (n:Nat) (l:List Tok),Ok (SzL 0 l) (zVd n l)
 | 0,l=>Ok.err
 | n+1,l=>by
  rw [zVd]
  refine Ok.cond (fun _=>Ok.ok ?_) (fun _=>(zfp l).bd fun a l1 h=>(zGk n l1).bd fun xs l2 h2=>Ok.ok ?_)
  ·unfold SzL;rw [zma];omega
  ·unfold SzL Sz at *;rw [zoa];omega
theorem zgq {l l':List Tok} {t:T} (h:zqd l=.ok (t,l')):t.size≤2 * l.length+1:=by
 have h1:Ok (Sz 1 l) (zqd l):=by
  unfold zqd
  refine (zGk _ l).bd fun xs l1 h=>Ok.ok ?_
  unfold SzL at h;unfold Sz;rw [size_mk];omega
 have h2:=h1 t l' h
 unfold Sz at h2
 omega
end
section
open Go.RowKit
theorem zpg:∀ (ks:List T) (vs:List Value) (k:Nat) (t:T) (u:Value) (j:Nat),ks[k]?=some t→vs[k]?=some u→j<5→(zRa ks vs)[k * 5+j]?=(zaa t u)[j]?
 | [],_,k,t,u,j,h,_,_=>by simp at h
 | _ :: _,[],k,t,u,j,_,h,_=>by simp at h
 | a :: ks,b :: vs,0,t,u,j,h,h',hj=>by
  obtain rfl:a=t:=by simpa using h
  obtain rfl:b=u:=by simpa using h'
  rw [zRa,Nat.zero_mul,Nat.zero_add,List.getElem?_append_left (by simpa [zaa] using hj)]
 | a :: ks,b :: vs,k+1,t,u,j,h,h',hj=>by
  rw [zRa,List.getElem?_append_right (by simp [zaa];omega)]
  have e:(k+1) * 5+j-(zaa a b).length=k * 5+j:=by simp [zaa];omega
  rw [e]
  exact zpg ks vs k t u j (by simpa using h) (by simpa using h') hj
theorem zic.get {e:TypeId} {w:World}:∀ {ts:List T} {S:Nat→Prop} {vs:List Value},zic e w ts S vs→∀ {k:Nat} {t:T},ts[k]?=some t→∃ u,vs[k]?=some u∧TAt e w t S u
 | [],_,_,_,k,t,h=>by simp at h
 | a :: ts,S,vs,h,0,t,hk=>by
  unfold zic at h
  obtain ⟨v,vs',rfl,ht,_⟩:=h
  obtain rfl:a=t:=by simpa using hk
  exact ⟨v,rfl,ht⟩
 | a :: ts,S,vs,h,k+1,t,hk=>by
  unfold zic at h
  obtain ⟨v,vs',rfl,_,hts⟩:=h
  obtain ⟨u,hu,ht⟩:=zic.get hts (k:=k) (t:=t) (by simpa using hk)
  exact ⟨u,by simpa using hu,ht⟩
theorem KAt.form {e:TypeId} {w:World} {ks:List T} {S:Nat→Prop} {v:Value} (h:KAt e w ks S v):(v=.slice none 0 0∧ks=[])∨∃ g cap,v=.slice (some ⟨g,0,none⟩) ks.length cap∧g<w.heap.size∧ks.length≤cap∧cap≤maxLen ∧
  ∀ k t,ks[k]?=some t→∃ u,w.rangeAt g (k * 5) (zaa t u)∧TAt e w t S u:=by
 obtain ⟨vs,ho,hS,hts⟩:=h
 have ho':=ho
 rcases ho.2 with ⟨rfl,h0⟩|⟨g,cap,cur,rfl,hb,hg,hnc,hcm,hcs,htake⟩
 ·exact .inl ⟨rfl,List.eq_nil_of_length_eq_zero h0⟩
 ·refine .inr ⟨g,cap,rfl,(Array.getElem?_eq_some_iff.1 hg).1,hnc,hcm,fun k t hk=>?_⟩
  obtain ⟨u,hu,ht⟩:=zic.get hts hk
  refine ⟨u,fun j x hj=>?_,ht.mono fun b hb _=>hb.1⟩
  have hj5:j<5:=by have:=(List.getElem?_eq_some_iff.1 hj).1;simpa [zaa] using this
  have hlt:k<ks.length:=(List.getElem?_eq_some_iff.1 hk).1
  rw [ho'.cellAt (k * 5+j) (by omega),zpg ks vs k t u j hk hu hj5]
  exact hj
theorem ztd {w w':World} {g o:Nat} {cs:List Value} (h:w.rangeAt g o cs) (hb:Below w.heap.size w w') (hg:g<w.heap.size):w'.rangeAt g o cs:=fun j v hj=>(hb.cell (p:=⟨g,o+j,none⟩) hg).trans (h j v hj)
theorem zZk (ks:List T) (k:Nat) (t:T) (h:ks[k]?=some t):sizes (ks.take (k+1))=sizes (ks.take k)+t.size:=by
 have hlt:=(List.getElem?_eq_some_iff.1 h).1
 rw [List.take_succ_eq_append_getElem hlt,zDc,zoa,zma,(List.getElem?_eq_some_iff.1 h).2]
 omega
theorem zhh:∀ {ks:List T} {k:Nat} {t:T},ks[k]?=some t→t.size≤sizes ks
 | [],k,t,h=>by simp at h
 | a :: ks,0,t,h=>by
  obtain rfl:a=t:=by simpa using h
  rw [zoa];omega
 | a :: ks,k+1,t,h=>by rw [zoa];have:=zhh (ks:=ks) (k:=k) (t:=t) (by simpa using h);omega
theorem zxi (ks:List T) (k:Nat):sizes (ks.take k)≤sizes ks:=by
 have h:=zDc (ks.take k) (ks.drop k)
 rw [List.take_append_drop] at h
 omega
theorem zua:∀ ks:List T,ks.length≤sizes ks
 | []=>by simp
 | a :: ks=>by have:=zua ks;rw [zoa];cases a;rw [size_mk];simp;omega
end
section
open Go.RowKit
section
variable {P:Program} {ops:Array Oper} {Q:Exit→Act→World→Prop} {md:Region.Mode} {S:World→Prop}
def AnyE (P:Program) (md:Region.Mode) (ops:Array Oper) (Q:Exit→Act→World→Prop) (S:World→Prop):Nat→Array Bool→Act→World→Prop
 | 0,listed,a,w=>Region.ready md ops listed=[]∧Q .normal a w
 | fuel+1,listed,a,w =>
  (Region.ready md ops listed=[]→Q .normal a w) ∧
  ∀ i∈Region.ready md ops listed,wpOp P ops Q i (fun a' w'=>(i+1≠ops.size→S w')∧AnyE P md ops Q S fuel (listed.setIfInBounds i true) a' w') a w
theorem AnyE.any:∀ (fuel:Nat) (listed:Array Bool) (a:Act) (w:World),AnyE P md ops Q S fuel listed a w→wpAny P md ops Q fuel listed a w
 | 0,_,_,_,h=>h
 | fuel+1,_,_,_,h=>⟨h.1,fun i hi=>wpOp_mono (fun a' w' h'=>AnyE.any fuel _ a' w' h'.2) (h.2 i hi)⟩
def zmh (md:Region.Mode) (ops:Array Oper) (i:Nat):Bool :=
 match ops[ops.size-1]? with
 | some o=>o.after.any fun e=>Region.binds md e && e.on == i
 | none=>false
theorem AnyE.first {i:Nat} {oi:Oper} {v:Value} (hi:ops[i]?=some oi) (hlw:zmh md ops i=true) (hsel:∀ (j:Nat) (o:Oper) cs b,ops[j]?=some o→o.op≠.select cs b)
  (hQ:∀ c a w,Q (.panic c) (a.put oi.dst v) w→Q (.panic c) a w) :
  ∀ (fuel:Nat) (listed:Array Bool) (a:Act) (w:World),
   (∀ j oj,ops[j]?=some oj→j≠i→listed.getD j true=false→(∀ e∈oj.after,Region.binds md e=true→e.on≠i)→oi.apart ops oj=true) →
   i∈Region.ready md ops listed→YieldsIf P ops S oi v a→S w →
   AnyE P md ops Q S fuel (listed.setIfInBounds i true) (a.put oi.dst v) w→AnyE P md ops Q S (fuel+1) listed a w:=by
 intro fuel
 induction fuel with
 | zero =>
  intro listed a w _ hr hy hS H
  refine ⟨fun h=>(by rw [h] at hr;cases hr),fun j hj=>?_⟩
  by_cases hji:j=i
  ·subst hji;exact hy.wpOp hi hS ⟨fun _=>hS,H⟩
  ·have:=ready_mono hj hji
   rw [H.1] at this
   cases this
 | succ fuel ih =>
  intro listed a w hfree hr hy hS H
  refine ⟨fun h=>(by rw [h] at hr;cases hr),fun j hj=>?_⟩
  by_cases hji:j=i
  ·subst hji;exact hy.wpOp hi hS ⟨fun _=>hS,H⟩
  ·have h0:=(mem_ready.1 hr).1
   have hun:(listed.setIfInBounds j true).getD i true=false:=by rw [getD_set_ne true hji];exact h0
   obtain ⟨hjun,oj,hoj,hall⟩:=mem_ready.1 hj
   have hnot:∀ e∈oj.after,Region.binds md e=true→e.on≠i:=fun e he hb heq=>by
    have h1:=hall e he hb
    rw [heq] at h1
    rcases Nat.lt_or_ge i listed.size with h'|h'
    ·simp [h'] at h0 h1;rw [h0] at h1;cases h1
    ·simp [Array.getElem?_eq_none h'] at h1
   have hfree':∀ k ok,ops[k]?=some ok→k≠i→(listed.setIfInBounds j true).getD k true=false →
     (∀ e∈ok.after,Region.binds md e=true→e.on≠i)→oi.apart ops ok=true:=fun k ok hk hki hunk hno=>by
    refine hfree k ok hk hki ?_ hno
    by_cases hjk:j=k
    ·subst hjk;exact hjun
    ·rw [getD_set_ne true hjk] at hunk;exact hunk
   have h1:=H.2 j (ready_mono hj hji)
   have h2:=wpOp_putIf hoj (hfree j oj hoj hji hjun hnot) (fun cs b=>hsel i oi cs b hi) (fun cs b=>hsel j oj cs b hoj) hQ hy h1
   have hlast:j+1≠ops.size:=fun he=>by
    have hj':ops.size-1=j:=by omega
    unfold zmh at hlw
    rw [hj',hoj] at hlw
    obtain ⟨k,hk,hb⟩:=Array.any_eq_true.1 hlw
    simp only [Bool.and_eq_true,beq_iff_eq] at hb
    exact hnot _ (Array.getElem_mem hk) hb.1 hb.2
   refine wpOp_mono (fun a' w' h3=>?_) h2
   have hS':S w':=h3.2.1 hlast
   refine ⟨fun _=>hS',ih (listed.setIfInBounds j true) a' w' hfree' (ready_mono hr (Ne.symm hji)) h3.1 hS' ?_⟩
   rw [Array.setIfInBounds_comm _ _ hji]
   exact h3.2.2
theorem AnyE.take {i:Nat} {oi:Oper} {v:Value} {fuel:Nat} {listed:Array Bool} {a:Act} {w:World} (hi:ops[i]?=some oi) (hlw:zmh md ops i=true)
  (hs:Region.noSelect ops=true) (hf:Region.free md ops listed i=true) (hr:(Region.ready md ops listed).contains i=true)
  (hQ:∀ c a w,Q (.panic c) (a.put oi.dst v) w→Q (.panic c) a w) (hy:YieldsIf P ops S oi v a) (hS:S w)
  (h:AnyE P md ops Q S fuel (listed.setIfInBounds i true) (a.put oi.dst v) w):AnyE P md ops Q S (fuel+1) listed a w :=
 AnyE.first hi hlw (Region.noSelect_spec hs) hQ fuel listed a w (Region.free_spec hi hf) (by simpa using hr) hy hS h
theorem AnyE.one {i:Nat} {o:Oper} {fuel:Nat} {listed:Array Bool} {a:Act} {w:World} (hr:Region.ready md ops listed=[i]) (ho:ops[i]?=some o) (hw:Region.wanted o (yielded ops a.tmps)=true)
  (h:∀ K:Act→World→Prop,Shut (∀ a w,(i+1≠ops.size→S w)→AnyE P md ops Q S fuel (listed.setIfInBounds i true) a w→K a w)→o.wp P a w K Q):AnyE P md ops Q S (fuel+1) listed a w:=by
 refine ⟨(fun h0=>by rw [hr] at h0;cases h0),fun j hj=>?_⟩
 rw [hr] at hj
 obtain rfl:j=i:=by simpa using hj
 refine wpOp_step ho fun K' hK=>?_
 rw [if_pos hw]
 exact h K' fun a w hS hA=>hK a w ⟨hS,hA⟩
theorem AnyE.done {listed:Array Bool} {a:Act} {w:World} (hr:Region.ready md ops listed=[]) (h:Q .normal a w):∀ fuel,AnyE P md ops Q S fuel listed a w
 | 0=>⟨hr,h⟩
 | _+1=>⟨fun _=>h,by rw [hr];simp⟩
theorem AnyE.begin {id:Nat} {a:Act} {w:World} (hm:P.follows .mixedOrders=true) (h:AnyE P .any ops Q S ops.size (Array.replicate ops.size false) a w.drew):(Code.region id ops true).wp P Q a w :=
 wp_region_any hm (AnyE.any _ _ _ _ h)
theorem AnyE.zoc {id:Nat} {a:Act} {w:World} (hm:P.follows .mixedOrders=true) (hS:S w.drew) (h:S w.drew→AnyE P .any ops Q S ops.size (Array.replicate ops.size false) a w.drew):(Code.region id ops true).wp P Q a w :=
 AnyE.begin hm (h hS)
end
end
end Go.Proofs.YthdbmgijpelecaaGreatDoor
