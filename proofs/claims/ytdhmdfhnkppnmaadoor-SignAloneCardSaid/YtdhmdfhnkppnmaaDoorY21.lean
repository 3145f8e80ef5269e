/- What the Types of a tree that was read are made of: a Sort, Fields, Facts. Nothing of the program is walked here. The contract of shape's Types: the types of a tree, or the first fault, which its deferred function recovers. -/
import Derived.Test.YtdhmdfhnkppnmaaDoorY16
import Derived.Test.YtdhmdfhnkppnmaaDoorY15
import Derived.Test.YtdhmdfhnkppnmaaDoorY20
import Derived.Recover
namespace Go.Proofs.YtdhmdfhnkppnmaaDoor
set_option maxRecDepth 100000
set_option maxHeartbeats 2000000
section
open Go.RowKit
def zVn (a:T):Prop:=a.kind=2∧∀ n∈a.kids,zeb n.text=true
def zUn (t:T):Prop:=zeb t.text=true∧∃ a ys zs,t.kids=a :: (ys++zs)∧zVn a∧(∀ y∈ys,y.kind=3)∧(∀ z∈zs,z.kind=4)
def zlf (t:T):Prop:=t.kind=1→zUn t
theorem zFp {l:List Tok} (h:TG l):Ok (fun a l'=>zVn a∧TG l') (zKd l):=by
 unfold zKd
 exact (zGa h).bd fun t l1 h1=>Ok.cond (fun _=>Ok.ok ⟨⟨rfl,fun n hn=>by simp [T.kids] at hn⟩,h1.2⟩) (fun _=>(zTb h1.2).bd fun a l2 h2=>Ok.ok ⟨⟨rfl,fun n hn=>by
  obtain rfl:n=a:=by simpa [T.kids] using hn
  exact h2.1.1⟩,h2.2⟩)
theorem zyo {l:List Tok} (h:TG l):Ok (fun a l'=>a.kind=3∧TG l') (zUb l):=by
 unfold zUb
 exact (zfd h).bd fun s l1 h1=>Ok.cond (fun _=>(zQb h1.2.tail).bd fun a l2 h2=>(zGa h2.2).bd fun _ l3 h3=>Ok.ok ⟨rfl,h3.2⟩) (fun _=>Ok.ok ⟨rfl,h1.2⟩)
theorem zpp {l:List Tok} (h:TG l):Ok (fun a l'=>a.kind=4∧TG l') (zze l):=by
 unfold zze zRa
 exact (zgf h).bd fun a l1 h1=>(zGa h1.2).bd fun c l2 h2=>(zgf h2.2).bd fun b l3 h3=>Ok.ok ⟨rfl,h3.2⟩
theorem zNl {item:List Tok→R T} {P:T→Prop} (hi:∀ {l},TG l→Ok (fun a l'=>P a∧TG l') (item l)):∀ (n:Nat) {l:List Tok},TG l→Ok (fun xs l'=>(∀ x∈xs,P x)∧TG l') (zaf item n l)
 | 0,l,_=>Ok.err
 | n+1,l,h=>by
  rw [zaf]
  exact Ok.cond (fun _=>(hi h.tail).bd fun a l1 h1=>(zNl hi n h1.2).bd fun xs l2 h2=>Ok.ok ⟨fun x hx=>by
   rcases List.mem_cons.1 hx with rfl|hx
   ·exact h1.1
   ·exact h2.1 x hx,h2.2⟩) (fun _=>Ok.ok ⟨fun x hx=>by simp at hx,h⟩)
theorem zLm {item:List Tok→R T} {P:T→Prop} (hi:∀ {l},TG l→Ok (fun a l'=>P a∧TG l') (item l)) {l:List Tok} (h:TG l):Ok (fun xs l'=>(∀ x∈xs,P x)∧TG l') (zAd item l):=by
 unfold zAd
 exact (hi h).bd fun a l1 h1=>(zNl hi _ h1.2).bd fun xs l2 h2=>Ok.ok ⟨fun x hx=>by
  rcases List.mem_cons.1 hx with rfl|hx
  ·exact h1.1
  ·exact h2.1 x hx,h2.2⟩
theorem zqn {l:List Tok} (h:TG l):Ok (fun xs l'=>(∀ x∈xs,x.kind=3)∧TG l') (zdd l):=by
 unfold zdd
 exact Ok.cond (fun _=>(zLm zyo h.tail).bd fun xs l1 h1=>(zGa h1.2).bd fun _ l2 h2=>Ok.ok ⟨h1.1,h2.2⟩) (fun _=>Ok.ok ⟨fun x hx=>by simp at hx,h⟩)
theorem zbp {l:List Tok} (h:TG l):Ok (fun xs l'=>(∀ x∈xs,x.kind=4)∧TG l') (zXc l):=by
 unfold zXc
 exact Ok.cond (fun _=>zLm zpp h.tail) (fun _=>Ok.ok ⟨fun x hx=>by simp at hx,h⟩)
theorem zPp {p:Nat} {l:List Tok} (h:TG l):Ok (fun a l'=>zlf a∧TG l') (zzb p l):=by
 unfold zzb
 exact (zfd h).bd fun s l1 h1=>(zFp h1.2).bd fun a l2 h2=>(zqn h2.2).bd fun ys l3 h3=>(zbp h3.2).bd fun zs l4 h4=>(zGa h4.2).bd fun _ l5 h5=>Ok.ok ⟨fun _=>⟨h1.1,a,ys,zs,rfl,h2.1,h3.1,h4.1⟩,h5.2⟩
theorem fn_q {p:Nat} {l:List Tok} (h:TG l):Ok (fun a l'=>zlf a∧TG l') (fnP p l):=by
 have h0:Ok (fun a _=>a.kind=6) (fnP p l):=by
  unfold fnP
  exact Ok.bd (G:=fun _ _=>True) (fun _ _ _=>trivial) fun s l1 _=>Ok.bd (G:=fun _ _=>True) (fun _ _ _=>trivial) fun xs l2 _=>Ok.bd (G:=fun _ _=>True) (fun _ _ _=>trivial) fun r l3 _=>Ok.bd (G:=fun _ _=>True) (fun _ _ _=>trivial) fun b l4 _=>Ok.ok rfl
 intro a l' e
 refine ⟨fun h1=>?_,(fn_g h a l' e).2⟩
 have:=h0 a l' e
 omega
theorem zEp {l:List Tok} (h:TG l):Ok (fun a l'=>zlf a∧TG l') (zhd l):=by
 unfold zhd
 exact (zGa h).bd fun t l1 h1=>Ok.cond (fun _=>zPp h1.2) (fun _=>fn_q h1.2)
theorem zsm:∀ (n:Nat) {l:List Tok},TG l→Ok (fun xs l'=>(∀ x∈xs,zlf x)∧TG l') (zJd n l)
 | 0,l,_=>Ok.err
 | n+1,l,h=>by
  rw [zJd]
  exact Ok.cond (fun _=>Ok.ok ⟨fun x hx=>by simp at hx,h⟩) (fun _=>(zEp h).bd fun a l1 h1=>(zsm n h1.2).bd fun xs l2 h2=>Ok.ok ⟨fun x hx=>by
   rcases List.mem_cons.1 hx with rfl|hx
   ·exact h1.1
   ·exact h2.1 x hx,h2.2⟩)
theorem zye (s:ByteArray):∀ t∈(zab s).1.kids,zlf t:=by
 have hz:∀ t∈zqb.kids,zlf t:=fun t ht=>by simp [zqb,T.kids] at ht
 unfold zab
 cases hl:zjc s with
 | error e=>exact hz
 | ok ts =>
  simp only
  unfold zAc
  cases hu:zPc ts with
  | error e=>exact hz
  | ok q =>
   obtain ⟨t,l⟩:=q
   simp only
   by_cases hs:4096<t.size
   ·rw [if_pos hs];exact hz
   ·rw [if_neg hs]
    have h1:Ok (fun t l'=>(∀ x∈t.kids,zlf x)∧TG l') (zPc ts):=by
     unfold zPc
     exact (zsm _ (zng hl)).bd fun xs l1 h=>Ok.ok ⟨h.1,h.2⟩
    exact (h1 t l hu).1
theorem zxd {s:ByteArray} (h:zeb s=true):s.size≤16:=by
 unfold zeb at h
 simp only [Bool.and_eq_true,decide_eq_true_eq] at h
 exact h.1.1.1.2
theorem filter_all {P:T→Bool}:∀ {l:List T},(∀ x∈l,P x=true)→l.filter P=l
 | _,h=>List.filter_eq_self.2 h
theorem zae {P:T→Bool}:∀ {l:List T},(∀ x∈l,P x=false)→l.filter P=[]
 | _,h=>List.filter_eq_nil_iff.2 fun x hx=>by rw [h x hx];decide
theorem zvm {a:T} {ys zs:List T} (ha:a.kind=2) (hy:∀ y∈ys,y.kind=3) (hz:∀ z∈zs,z.kind=4):zAb (a :: (ys++zs))=⟨a,ys,zs⟩:=by
 unfold zAb
 have y2:=zae (P:=fun t=>t.kind == 2) (l:=ys) fun y h=>by simp [hy y h]
 have z2:=zae (P:=fun t=>t.kind == 2) (l:=zs) fun y h=>by simp [hz y h]
 have y3:=filter_all (P:=fun t=>t.kind == 3) (l:=ys) fun y h=>by simp [hy y h]
 have z3:=zae (P:=fun t=>t.kind == 3) (l:=zs) fun y h=>by simp [hz y h]
 have y4:=zae (P:=fun t=>t.kind == 4) (l:=ys) fun y h=>by simp [hy y h]
 have z4:=filter_all (P:=fun t=>t.kind == 4) (l:=zs) fun y h=>by simp [hz y h]
 simp only [List.filter_cons,List.filter_append,y2,z2,y3,z3,y4,z4,ha]
 simp
theorem zdk {t:T} (h:zUn t):t.text.size≤16∧(zza (zAb t.kids).sort 0).text.size≤16:=by
 obtain ⟨h1,a,ys,zs,e,ha,hy,hz⟩:=h
 refine ⟨zxd h1,?_⟩
 rw [e,zvm ha.1 hy hz]
 show (zza a 0).text.size≤16
 unfold zza
 cases hk:a.kids with
 | nil=>show zqb.text.size≤16;decide
 | cons n r=>exact zxd (ha.2 n (by rw [hk];simp))
end
section
open Go.RowKit Go.Maps
theorem Tryd.zCd:(Tryd.prog.info? 60).map (·.size)=some 2:=by kernel_rfl
theorem zMh (v:Value) (w:World):(Instr.typeAssert (.iface 60 v) 20 60 true).run Tryd.prog w=.ok (.tuple #[v,.bool true]) w:=by
 simp [Instr.typeAssert,run_underlying Tryd.underlying60]
theorem zSf (fb:Nat) (p:Nat) (c:Int) (w:World) (hb:Blk w fb [.int .i64 0,.int .i64 0] 60) :
  CallsD Tryd.prog 20 #[.pointer (some ⟨fb,0,none⟩)] (.panicking [{ v:=sfV p c,recovered:=false }]) w fun e u' w' =>
   e=.returned (.tuple #[])∧u'=.panicking [{ v:=sfV p c,recovered:=true }]∧Blk w' fb [.int .i64 p,.int .i64 c] 60∧w.grownBy w' (some fb):=by
 have HB:=zh hb
 have hlt:=hb.lt
 have hta:=zMh
 clear hb
 refine callsD_of_wpS Tryd.func20 rfl fun c₀ cs hu=>?_
 simp only [Tryd.ntmps20,List.size_toArray,List.length_cons,List.length_nil,Nat.reduceAdd,Nat.reduceSub,Array.replicate_succ,Array.replicate_zero,List.push_toArray,List.append_toArray,List.nil_append,List.cons_append]
 apply wpS_seq
 apply wpS_region
 unfold sfV at hu ⊢
 simp [wpOpsS,go_sem,recoverD,hu,Exit.thenS]
 refine wpS_of_wp ?_
 clear hu
 go_wp2_with ((with_reducible refine zra 60 (.tmp 0) ?_);refine zea rfl 60 (.tmp 0) (.tmp 15) rfl fb [.int .i64 p,.int .i64 c] rfl rfl (HB.out.alloc _) Tryd.zCd rfl (by simp [Value.oneCell']) ?_)
 refine ⟨rfl,_,rfl,.tuple #[],by simp [results,Tryd.results20],rfl,rfl,(HB.out.alloc _).zna [.int .i64 p,.int .i64 c],?_⟩
 exact ⟨rfl,rfl,rfl,by simp,fun k hk hn=>(setRow_other _ fb k _ (fun e=>hn (by rw [e]))).trans (Below.heap_alloc w _ k hk)⟩
theorem zvj (fb:Nat) (w:World) :
  CallsD Tryd.prog 20 #[.pointer (some ⟨fb,0,none⟩)] .returning w fun e u' w'=>e=.returned (.tuple #[])∧u'=.returning∧w'=w:=by
 refine callsD_of_wpS Tryd.func20 rfl fun c₀ cs hu=>?_
 simp only [Tryd.ntmps20,List.size_toArray,List.length_cons,List.length_nil,Nat.reduceAdd,Nat.reduceSub,Array.replicate_succ,Array.replicate_zero,List.push_toArray,List.append_toArray,List.nil_append,List.cons_append]
 apply wpS_seq
 apply wpS_region
 simp [wpOpsS,go_sem,recoverD,hu,Exit.thenS]
 refine wpS_of_wp ?_
 go_wp2_with fail
 refine ⟨rfl,.returning,?_,.tuple #[],by simp [results,Tryd.results20],rfl,rfl,rfl⟩
 cases c₀
 simp_all
def zwm (w:World) (r:E (List Ty)) (e:Ending) (w':World):Prop :=
 match r with
 | .ok tys=>∃ v,e=.returned (.tuple #[v,.agg #[.int .i64 0,.int .i64 0]])∧zZb w' tys (fun b=>w.heap.size≤b) v∧Below w.heap.size w w'
 | .error (p,c)=>e=.returned (.tuple #[.slice none 0 0,.agg #[.int .i64 p,.int .i64 c]])∧Below w.heap.size w w'
theorem zof {P:Program} {fn:Func} {s u:Tmp} {tz t':TypeId} (h:fn.results=#[.tmp s,.cell u tz]) {tmps:Array Value} {W:World} {g':Nat} {x:Value} {cs':List Value} {d':TypeDesc}
  (hs:tmps.getD s undef=x) (hu':tmps.getD u undef=.pointer (some ⟨g',0,none⟩)) (hb':Blk W g' cs' t')
  (hz:P.underlying tz=some d') (hd':d'.isRow=true) (hi':(P.info? tz).map (·.size)=some cs'.length):(results fn tmps).run P W=.ok (.tuple #[x,.agg cs'.toArray]) W:=by
 have hl':=run_loadVar_mid (P:=P) W g' 0 tz cs' d' (fun j v hj=>by rw [Nat.zero_add,hb'.cell j];exact hj) hz hd' hi'
 have h1:tmps[s]?.getD undef=x:=by rw [← hs];simp
 have h2:tmps[u]?.getD undef=.pointer (some ⟨g',0,none⟩):=by rw [← hu'];simp
 simp [results,h,h1,h2,asAddr,hl']
def zVf (t:T):Prop:=∀ x∈t.kids,zlf x
theorem zxk {tys:List Ty} {n:T} {r:List T} {e:Nat × Int} (hk:(n.kind == 1)=true) (h:zGh tys n=.error e):zGb tys (n :: r)=.error e:=by rw [zGb,hk,h];rfl
theorem zsl {tys:List Ty} {n:T} {r:List T} {x:Ty} (hk:(n.kind == 1)=true) (h:zGh tys n=.ok x):zGb tys (n :: r)=zGb (tys++[x]) r:=by rw [zGb,hk,h];rfl
theorem zvl {tys:List Ty} {n:T} {r:List T} (hk:(n.kind == 1)=false):zGb tys (n :: r)=zGb tys r:=by rw [zGb,hk];rfl
theorem zYi {l:List T} {t:T} (h:t∈l):t.kids.length≤sizes l:=by
 induction l with
 | nil=>simp at h
 | cons a l ih =>
  rw [zta]
  rcases List.mem_cons.1 h with rfl|h
  ·have:t.size=1+sizes t.kids:=by cases t;rw [size_mk];rfl
   have h2:=zrd t.kids
   omega
  ·have:=ih h;omega
theorem zOi.new (w:World) (na:List Value):zOi ((((w.alloc (.cells na.toArray 25)).alloc (.cells #[.int .i64 0,.int .i64 0] 60)).alloc (.map #[] 0)).alloc (.cells #[.slice none 0 0,.map (some (w.heap.size+1+1))] 84)) (w.heap.size+1+1) (w.heap.size+1+1+1) (w.heap.size+1+1) [] (.slice none 0 0):=by
 have e2:((w.alloc (.cells na.toArray 25)).alloc (.cells #[.int .i64 0,.int .i64 0] 60)).heap.size=w.heap.size+1+1:=by simp
 have e3:(((w.alloc (.cells na.toArray 25)).alloc (.cells #[.int .i64 0,.int .i64 0] 60)).alloc (.map #[] 0)).heap.size=w.heap.size+1+1+1:=by simp
 refine ⟨?_,zZb.nil _ _,?_,⟨by omega,by omega⟩,by omega⟩
 ·have h:=Blk.new (((w.alloc (.cells na.toArray 25)).alloc (.cells #[.int .i64 0,.int .i64 0] 60)).alloc (.map #[] 0)) [.slice none 0 0,.map (some (w.heap.size+1+1))] 84
  rw [e3] at h
  exact h
 ·have h:=World.ownsMap_made (H:=Unit) ((w.alloc (.cells na.toArray 25)).alloc (.cells #[.int .i64 0,.int .i64 0] 60)) Tryd.prog 9 (plainElem Tryd.prog 3)
  rw [e2] at h
  exact ⟨0,_,h.alloc _,by simp,⟨[],rfl⟩,fun s=>⟨rfl,fun k hk=>by simp [zkf] at hk⟩⟩
theorem znm {w:World} {t:T} {S:Nat→Prop} {kv:Value} (hk:KAt 25 w t.kids S kv) (hd:zVf t) (hz:t.size≤4096) :
  Calls Tryd.prog 12 #[zma t kv] w (zwm w (zGb [] t.kids)):=by
 have hmf:=zkb
 have hmm:=@run_makeMap Tryd.prog
 have hts:t.size=1+sizes t.kids:=by cases t;rw [size_mk];rfl
 have hkl:=zrd t.kids
 have HK:=zh (show KAt 25 w t.kids (fun b=>b<w.heap.size) kv from hk.keep fun b _ hb=>⟨hb,rfl⟩)
 have HD:=zh hd
 have HTS:=zh hts
 obtain ⟨ka,kc,rfl⟩:=hk.len
 obtain ⟨W0,hW0⟩:∃ W,(((w.alloc (.cells (zaa t (.slice ka t.kids.length kc)).toArray 25)).alloc (.cells #[.int .i64 0,.int .i64 0] 60)).alloc (.map #[] 0)).alloc (.cells #[.slice none 0 0,.map (some (w.heap.size+1+1))] 84)=W:=⟨_,rfl⟩
 have HR0:=zh (show zOi W0 (w.heap.size+1+1) (w.heap.size+1+1+1) (w.heap.size+1+1) [] (.slice none 0 0) from hW0▸zOi.new w _)
 have HB0:=zh (show Below w.heap.size w W0 from hW0▸(((((Below.refl _ _).alloc (Nat.le_refl _) _).alloc (by simp) _).alloc (by simp;omega) _).alloc (by simp;omega) _))
 have HF0:=zh (show Blk W0 (w.heap.size+1) [.int .i64 0,.int .i64 0] 60 from hW0▸((Blk.zIe w _ _ _).alloc _).alloc _)
 have HN0:=zh (show Blk W0 w.heap.size (zaa t (.slice ka t.kids.length kc)) 25 from hW0▸(((Blk.new w _ _).alloc _).alloc _).alloc _)
 have n4:W0.cell? ⟨w.heap.size,4,none⟩=some (.slice ka t.kids.length kc):=HN0.out.cell 4
 unfold zaa at hW0
 unfold zma
 clear hk hd
 go_enter_defers Tryd.func12,Tryd.ntmps12
 go_wp2_with fail
 clear hmm hmf n4 hW0
 go_loopw [14] (fun i wr=>∃ k:Nat,k≤t.kids.length∧i=.int .i64 k∧∃ tys tv,zOi wr (w.heap.size+1+1) (w.heap.size+1+1+1) (w.heap.size+1+1) tys tv∧Below (w.heap.size+1+1) W0 wr∧tys.length≤k∧zGb [] t.kids=zGb tys (t.kids.drop k)) (fun i _=>t.kids.length-(intOf i).toNat)
 case atStart=>exact ⟨0,by omega,rfl,[],_,HR0.out,Below.refl _ _,by simp,by rw [List.drop_zero]⟩
 case round =>
  obtain ⟨k,hkk,rfl,tys,tv,hst,hbw,htl,heq⟩:=hrel
  have HF:=zh (show Blk wr (w.heap.size+1) [.int .i64 0,.int .i64 0] 60 from (hbw.block _ (by omega)).trans HF0.out)
  have HB:=zh (HB0.out.trans (hbw.mono (by omega)))
  have HBW:=zh hbw
  have HST:=zh hst
  have HEQ0:=zh heq
  have hsz:w.heap.size+1+1+1<wr.heap.size:=hst.l.lt
  by_cases hlt:k<t.kids.length
  ·obtain ⟨tk,htk⟩:∃ tk,t.kids[k]?=some tk:=⟨_,List.getElem?_eq_getElem hlt⟩
   obtain ⟨g,cap,hsl,hgl,hcap,hcm,hget⟩:=(HK.out.form).resolve_left fun h=>by rw [h.2] at hlt;simp at hlt
   obtain ⟨rfl,rfl⟩:ka=some ⟨g,0,none⟩∧kc=cap:=by simpa using hsl
   obtain ⟨u,hr,hu⟩:=hget k tk htk
   have HR:=zh (zoa hr HB.out hgl)
   have HEQ:=zh (heq.trans (show _=zGb tys (tk :: t.kids.drop (k+1)) by rw [List.drop_eq_getElem_cons hlt,(List.getElem?_eq_some_iff.1 htk).2]))
   obtain ⟨W1,hW1⟩:∃ W,wr.alloc (.cells (zaa tk u).toArray 25)=W:=⟨_,rfl⟩
   have hb1:Below wr.heap.size wr W1:=hW1▸(Below.refl _ _).alloc (Nat.le_refl _) _
   have HB1:=zh (HB.out.trans (hb1.mono HB.out.size))
   have HBW1:=zh (HBW.out.trans (hb1.mono (by omega)))
   have HS1:=zh (hst.below hb1)
   have HF1:=zh (HF.out.stays hb1)
   have HB5:=zh (show Blk W1 wr.heap.size (zaa tk u) 25 from hW1▸Blk.new wr _ _)
   have HU:=zh (hu.kat.below HB1.out)
   have hu1:=hu.one'
   have hc0:W1.cell? ⟨wr.heap.size,0,none⟩=some (.int .i64 tk.kind):=HB5.out.cell 0
   have HKL:=zh (show tk.kids.length≤4096 from by have:=zYi (List.mem_of_getElem? htk);omega)
   have HSM:=zh (show (tk.kind == 1)=true→tk.text.size≤16∧(zza (zAb tk.kids).sort 0).text.size≤16 from fun h=>zdk (HD.out tk (List.mem_of_getElem? htk) (beq_iff_eq.1 h)))
   clear hget hr hu hst hsl htk heq hb1 hbw
   cases h1:tk.kind == 1
   ·have HN:=zh (HEQ.out.trans (zvl h1))
    go_wp2_with (first
     | ((with_reducible refine zva 25 (.tmp 16) ?_);refine wpList_load_mid rfl 25 (.tmp 16) rfl g (k * 5) rfl (zaa tk u) _ HR.out Tryd.underlying25 rfl Tryd.zca ?_)
     | ((with_reducible refine zra 25 (.tmp 6) ?_);refine zga rfl 25 (.tmp 6) (.tmp 17) rfl (zaa tk u) (old:=zba) rfl rfl Tryd.zca rfl (zda _ _ hu1) ?_;rw [hW1]))
    go_roundw
    case rel=>exact ⟨k+1,by omega,by go_num,tys,tv,HS1.out,HBW1.out,by omega,HN.out⟩
    case measure=>simp [intOf];omega
   ·have hsm:=HSM.out h1
    have HAD:=zh (zhj HS1.out (t:=tk) (kv:=u) HU.out HKL.out (by omega) (by unfold maxLen;omega) (by unfold maxLen;omega))
    unfold zma at HAD
    have hb5:=HB5.out
    go_wp2_with (first
     | ((with_reducible refine zva 25 (.tmp 16) ?_);refine wpList_load_mid rfl 25 (.tmp 16) rfl g (k * 5) rfl (zaa tk u) _ HR.out Tryd.underlying25 rfl Tryd.zca ?_)
     | ((with_reducible refine zra 25 (.tmp 6) ?_);refine zga rfl 25 (.tmp 6) (.tmp 17) rfl (zaa tk u) (old:=zba) rfl rfl Tryd.zca rfl (zda _ _ hu1) ?_;rw [hW1])
     | ((with_reducible refine zva 25 (.tmp 6) ?_);refine zfa rfl 25 (.tmp 6) rfl wr.heap.size (zaa tk u) rfl hb5 Tryd.underlying25 rfl Tryd.zca ?_))
    refine HAD.out.mono ?_
    clear HAD hb5 hW1 hc0
    intro e w2 hp
    cases ho:zGh tys tk with
    | error pc =>
     obtain ⟨q,c⟩:=pc
     rw [ho] at hp
     obtain ⟨rfl,hb⟩:=hp
     have HRes:=zh (HEQ.out.trans (zxk h1 ho))
     have HF2:=zh (show Blk w2 (w.heap.size+1) [.int .i64 0,.int .i64 0] 60 from (hb.block _ (by omega)).trans HF1.out)
     have HB2:=zh (HB1.out.trans (hb.mono (by omega)))
     clear hb
     go_wp2_with fail
     refine leaves_cons (f:=20) (args:=#[.pointer (some ⟨w.heap.size+1,0,none⟩)]) (by simp) (by simp [go_sem]) ?_
     refine (zSf (w.heap.size+1) q c _ HF2.out).mono ?_
     rintro e u' w3 ⟨rfl,rfl,hb3,hg3⟩
     refine ⟨_,zof Tryd.results12 rfl rfl hb3 Tryd.underlying60 rfl Tryd.zCd,?_⟩
     rw [HRes.out]
     exact ⟨rfl,HB2.out.grown hg3 HB2.out.size (fun k hk=>by cases hk;omega)⟩
    | ok x =>
     rw [ho] at hp
     obtain ⟨rfl,⟨tv',hs⟩,hb⟩:=hp
     have HN:=zh (HEQ.out.trans (zsl h1 ho))
     have HS2:=zh hs
     have HB2:=zh (HBW1.out.trans hb)
     clear hs hb
     go_wp2_with fail
     go_roundw
     case rel=>exact ⟨k+1,by omega,by go_num,tys++[x],tv',HS2.out,HB2.out,by simp;omega,HN.out⟩
     case measure=>simp [intOf];omega
  ·obtain rfl:k=t.kids.length:=by omega
   have HRes:=zh (show zGb [] t.kids=.ok tys by rw [heq,List.drop_length];rfl)
   have l0:wr.cell? ⟨w.heap.size+1+1+1,0,none⟩=some tv:=hst.l.cell 0
   have hf:=HF.out
   clear heq hbw hst HEQ0
   go_wp2_with ((with_reducible refine zra 60 (.tmp 3) ?_);refine zea rfl 60 (.tmp 3) (.tmp 29) rfl (w.heap.size+1) [.int .i64 0,.int .i64 0] rfl rfl hf Tryd.zCd rfl (by simp [Value.oneCell']) ?_)
   refine leaves_cons (f:=20) (args:=#[.pointer (some ⟨w.heap.size+1,0,none⟩)]) (by simp) (by simp [go_sem]) ?_
   refine (zvj (w.heap.size+1) _).mono ?_
   rintro e u' w2 ⟨rfl,rfl,rfl⟩
   refine ⟨_,zof Tryd.results12 rfl rfl (hf.zna [.int .i64 0,.int .i64 0]) Tryd.underlying60 rfl Tryd.zCd,?_⟩
   rw [HRes.out]
   exact ⟨tv,rfl,HST.out.t.keep fun b hb _=>⟨by omega,setRow_other _ _ _ _ (by omega)⟩,Below.row HB.out (by omega) _⟩
def zyc (w:World) (r:E (List Ty)) (e:Ending) (w':World):Prop :=
 match r with
 | .ok tys=>∃ v,e=.returned (.tuple #[v,.int .i64 0,.int .i64 0])∧zZb w' tys (fun b=>w.heap.size≤b) v∧Below w.heap.size w w'
 | .error (p,c)=>e=.returned (.tuple #[.slice none 0 0,.int .i64 p,.int .i64 c])∧Below w.heap.size w w'
theorem zEg {w:World} {t:T} {S:Nat→Prop} {kv:Value} (hk:KAt 25 w t.kids S kv) (hd:zVf t) (hz:t.size≤4096) :
  Calls Tryd.prog 6 #[zma t kv] w (zyc w (zGb [] t.kids)):=by
 obtain ⟨W0,hW0⟩:∃ W,w.alloc (.cells (zaa t kv).toArray 25)=W:=⟨_,rfl⟩
 have HB0:=zh (show Below w.heap.size w W0 from hW0▸(Below.refl _ _).alloc (Nat.le_refl _) _)
 have hn:=show Blk W0 w.heap.size (zaa t kv) 25 from hW0▸Blk.new w _ _
 have HRD:=zh (znm (hk.below HB0.out) hd hz)
 unfold zaa at hW0
 unfold zma at HRD ⊢
 clear hk
 go_enter Tryd.func6,Tryd.ntmps6
 go_wp2_with ((with_reducible refine zva 25 (.tmp 1) ?_);refine zfa rfl 25 (.tmp 1) rfl w.heap.size (zaa t kv) rfl hn Tryd.underlying25 rfl Tryd.zca ?_)
 refine HRD.out.mono ?_
 clear HRD hn hW0
 intro e w2 hp
 cases hr:zGb [] t.kids with
 | error pc =>
  obtain ⟨p,c⟩:=pc
  rw [hr] at hp
  obtain ⟨rfl,hb⟩:=hp
  have HB2:=zh (HB0.out.trans (hb.mono HB0.out.size))
  obtain ⟨W3,hW3⟩:∃ W,w2.alloc (.cells #[.int .i64 p,.int .i64 c] 60)=W:=⟨_,rfl⟩
  have HB3:=zh (show Below w.heap.size w W3 from hW3▸HB2.out.alloc HB2.out.size _)
  have h3:=show Blk W3 w2.heap.size [.int .i64 p,.int .i64 c] 60 from hW3▸Blk.new w2 _ _
  have c0:W3.cell? ⟨w2.heap.size,0,none⟩=some (.int .i64 p):=h3.cell 0
  have c1:W3.cell? ⟨w2.heap.size,1,none⟩=some (.int .i64 c):=h3.cell 1
  clear hb h3
  go_wp2_with fail
  try rw [hW3]
  clear hW3
  go_quiet (fail)
  go_wp2_with fail
  go_ret3
  unfold zyc
  rw [hr]
  exact ⟨rfl,zWd HB3.out _⟩
 | ok tys =>
  rw [hr] at hp
  obtain ⟨v,rfl,ht,hb⟩:=hp
  have HB2:=zh (HB0.out.trans (hb.mono HB0.out.size))
  obtain ⟨va,vn,vc,rfl⟩:∃ a n c,v=.slice a n c:=ht.slice.elim fun a h=>h.elim fun c h=>⟨a,_,c,h⟩
  obtain ⟨W3,hW3⟩:∃ W,w2.alloc (.cells #[.int .i64 0,.int .i64 0] 60)=W:=⟨_,rfl⟩
  have HB3:=zh (show Below w.heap.size w W3 from hW3▸HB2.out.alloc HB2.out.size _)
  have h3:=show Blk W3 w2.heap.size [.int .i64 0,.int .i64 0] 60 from hW3▸Blk.new w2 _ _
  have hz2:=HB2.out.size
  obtain ⟨W4,hW4⟩:∃ W,W3.setRow w2.heap.size [.int .i64 0,.int .i64 0].toArray=W:=⟨_,rfl⟩
  have h4:=show Blk W4 w2.heap.size [.int .i64 0,.int .i64 0] 60 from hW4▸h3.zna _
  have HB4:=zh (show Below w.heap.size w W4 from hW4▸Below.row HB3.out hz2 _)
  have HT4:=zh (show zZb W4 tys (fun b=>W0.heap.size≤b) (.slice va vn vc) from hW4▸ht.keep fun b hb hl=>⟨hb,(setRow_other _ _ _ _ (by omega)).trans (by rw [← hW3];exact Below.heap_alloc _ _ _ hl)⟩)
  have c0:W4.cell? ⟨w2.heap.size,0,none⟩=some (.int .i64 0):=h4.cell 0
  have c1:W4.cell? ⟨w2.heap.size,1,none⟩=some (.int .i64 0):=h4.cell 1
  clear hb ht h4
  go_wp2_with ((with_reducible refine zra 60 (.tmp 6) ?_);refine zea rfl 60 (.tmp 6) (.tmp 11) rfl w2.heap.size [.int .i64 0,.int .i64 0] rfl rfl h3 Tryd.zCd rfl (by simp [Value.oneCell']) ?_;rw [hW4])
  clear hW3 h3
  go_quiet (fail)
  go_wp2_with fail
  go_ret3
  unfold zyc
  rw [hr]
  exact ⟨_,rfl,HT4.out.keep fun b hb _=>⟨by have:=HB0.out.size;omega,rfl⟩,zWd HB4.out _⟩
end
end Go.Proofs.YtdhmdfhnkppnmaaDoor
namespace Go.Proofs.YtdhmdfhnkppnmaaDoor
set_option maxRecDepth 100000
set_option maxHeartbeats 2000000
open Go.RowKit
theorem zlp {P:Program} {fn:Func} {s u:Tmp} {tz t:TypeId} (h:fn.results=#[.tmp s,.cell u tz]) {a:Act} {W:World} {g:Nat} {cs:List Value} {d:TypeDesc} {R:Ending→World→Prop} {x:Value} (hs:a.tmps.getD s undef=x) (hu:a.tmps.getD u undef=.pointer (some ⟨g,0,none⟩))
  (hb:Blk W g cs t) (hz:P.underlying tz=some d) (hd:d.isRow=true) (hi:(P.info? tz).map (·.size)=some cs.length) (hdf:a.defers=[]) (hR:R (.returned (.tuple #[x,.agg cs.toArray])) W):bodyPost P fn R .ret a W :=
 bodyPost_ret (zof h hs hu hb hz hd hi) hdf hR
theorem zUl {P:Program} {fn:Func} {s u:Tmp} {tz t:TypeId} (h:fn.results=#[.cell s tz,.tmp u]) {a:Act} {W:World} {g:Nat} {cs:List Value} {d:TypeDesc} {R:Ending→World→Prop} {x:Value} (hs:a.tmps.getD s undef=.pointer (some ⟨g,0,none⟩)) (hu:a.tmps.getD u undef=x)
  (hb:Blk W g cs t) (hz:P.underlying tz=some d) (hd:d.isRow=true) (hi:(P.info? tz).map (·.size)=some cs.length) (hdf:a.defers=[]) (hR:R (.returned (.tuple #[.agg cs.toArray,x])) W):bodyPost P fn R .ret a W:=by
 refine bodyPost_ret ?_ hdf hR
 have hl:=run_loadVar_mid (P:=P) W g 0 tz cs d (fun j v hj=>by rw [Nat.zero_add,hb.cell j];exact hj) hz hd hi
 have hs':a.tmps[s]?.getD undef=.pointer (some ⟨g,0,none⟩):=by rw [← hs];simp
 have hx':a.tmps[u]?.getD undef=x:=by rw [← hu];simp
 simp [results,h,hs',asAddr,hl,hx']
def zmp (w:World) (p:Fp) (e:Ending) (w':World):Prop:=∃ fv rv,e=.returned (.tuple #[fv,zma p.res rv])∧KAt 25 w' p.params (fun _=>True) fv∧KAt 25 w' p.res.kids (fun _=>True) rv∧Below w.heap.size w w'
structure zuj (w:World) (n:Nat) (W:World) (p:Fp) (rv fv:Value):Prop where
 b:Below n w W
 q:Blk W (n+1) (zaa p.res rv) 25
 s:KAt 25 W p.res.kids (fun b=>b<n) rv
 f:zZe W n (n+2) p.params fv
 lt:n+2≤W.heap.size
section
variable {w W W':World} {n:Nat} {p:Fp} {rv fv:Value}
theorem zuj.stay (h:zuj w n W p rv fv) (hb:Below W.heap.size W W'):zuj w n W' p rv fv :=
 ⟨h.b.trans (hb.mono (by have:=h.lt;omega)),h.q.stays hb,h.s.below hb,h.f.keep fun b _ hl=>hb.block b hl,Nat.le_trans h.lt hb.size⟩
theorem zuj.alloc (h:zuj w n W p rv fv) (o:Obj):zuj w n (W.alloc o) p rv fv:=h.stay ((Below.refl _ _).alloc (Nat.le_refl _) _)
theorem zuj.set (h:zuj w n W p rv fv) {t:T} {u:Value} (hs:KAt 25 W t.kids (fun b=>b<n) u):zuj w n (W.setRow (n+1) (zaa t u).toArray) ⟨p.params,t⟩ u fv :=
 ⟨Below.row h.b (by omega) _,h.q.zna _,hs.setRow _ _ (fun b hb=>by omega),h.f.row _ _ (by omega) (by omega),by simpa using h.lt⟩
theorem zuj.add (h:zuj w n W p rv fv) (hg:W.grownBy W' fv.ownBlock) {fs':List T} {fv':Value} (hf:zZe W' n (n+2) fs' fv'):zuj w n W' ⟨fs',p.res⟩ rv fv':=by
 have hlt:=h.lt
 have hr:∀ k,fv.ownBlock=some k→n+2≤k:=fun k hk=>(h.f.lt hk).1
 exact ⟨h.b.grown hg (by omega) (fun k hk=>by have:=hr k hk;omega),h.q.grown hg (fun e=>by have:=hr _ e.symm;omega),
  h.s.keep fun b hb hl=>⟨hb,hg.block b hl fun e=>by have:=hr _ e.symm;omega⟩,hf,by have:=hg.size;omega⟩
end
theorem zck {w:World} {t:T} {S:Nat→Prop} {kv:Value} (hk:KAt 25 w t.kids S kv) (hl:t.kids.length≤4096) :
  Calls Tryd.prog 23 #[zma t kv] w (zmp w (zJc t.kids)):=by
 obtain ⟨i0,z0,I⟩:=Tryd.zOc
 have hk0:KAt 25 w t.kids (fun b=>b<w.heap.size) kv:=hk.keep fun b _ hb=>⟨hb,rfl⟩
 obtain ⟨W0,hW0⟩:∃ W,(w.alloc (.cells (zaa t kv).toArray 25)).alloc (.cells zba.toArray 25)=W:=⟨_,rfl⟩
 have HB0:=zh (show Below w.heap.size w W0 from hW0▸(((Below.refl _ _).alloc (Nat.le_refl _) _).alloc (by simp) _))
 have b1:=show Blk W0 w.heap.size (zaa t kv) 25 from hW0▸((Blk.new w _ _).alloc _)
 have b2:=show Blk W0 (w.heap.size+1) zba 25 from hW0▸(Blk.zIe w _ _ _)
 have hsz:w.heap.size+2≤W0.heap.size:=by rw [← hW0];simp
 have HST:=zh (show zuj w w.heap.size W0 (zJc (t.kids.take 0)) (.slice none 0 0) (.slice none 0 0) from ⟨HB0.out,b2,KAt.nil _ _ _,zZe.nil _ _ _,hsz⟩)
 have c4:W0.cell? ⟨w.heap.size,4,none⟩=some kv:=b1.cell 4
 have HK:=zh hk0
 obtain ⟨ka,kc,rfl⟩:=hk0.len
 unfold zba zaa at hW0
 clear b1 b2 hk
 unfold zma
 go_enter Tryd.func23,Tryd.ntmps23
 go_upto_region 1 with fail
 try rw [hW0]
 clear hW0
 go_wp2_with fail
 go_loopw [2,9] (fun fv i wr=>∃ k:Nat,k≤t.kids.length∧i=.int .i64 k∧∃ rv,zuj w w.heap.size wr (zJc (t.kids.take k)) rv fv) (fun _ i _=>t.kids.length-(intOf i).toNat)
 case atStart=>exact ⟨0,by omega,rfl,_,HST.out⟩
 case round =>
  obtain ⟨k,hkk,rfl,hrv⟩:=hrel
  obtain ⟨rv,hst⟩:=hrv
  by_cases hlt:k<t.kids.length
  ·obtain ⟨tk,htk⟩:∃ tk,t.kids[k]?=some tk:=⟨_,List.getElem?_eq_getElem hlt⟩
   obtain ⟨g,cap,hsl,hgl,hcap,hcm,hget⟩:=(HK.out.form).resolve_left fun h=>by rw [h.2] at hlt;simp at hlt
   obtain ⟨rfl,rfl⟩:ka=some ⟨g,0,none⟩∧kc=cap:=by simpa using hsl
   obtain ⟨u,hr,hu⟩:=hget k tk htk
   have HR:=zh (zoa hr hst.b hgl)
   have HTU:=zh ((hu.below hst.b).alloc (.cells (zaa tk u).toArray 25))
   have hu1:=hu.kat.one
   have HSN:=zh (show zJc (t.kids.take (k+1))=⟨bif tk.kind == 7 then (zJc (t.kids.take k)).params++[tk] else (zJc (t.kids.take k)).params,bif tk.kind == 8 then tk else (zJc (t.kids.take k)).res⟩ by rw [List.take_add_one,htk,Option.toList_some,znl])
   generalize hp:zJc (t.kids.take k)=p at *
   have HPL:=zh (show p.params.length≤4096 from by
    subst hp
    unfold zJc
    have h1:=List.length_filter_le (fun x:T=>x.kind == 7) (t.kids.take k)
    simp only [List.length_take] at h1 ⊢
    omega)
   obtain ⟨W1,hW1⟩:∃ W,wr.alloc (.cells (zaa tk u).toArray 25)=W:=⟨_,rfl⟩
   have HS1:=zh (show zuj w w.heap.size W1 p rv u2 from hW1▸hst.alloc _)
   have HB5:=zh (show Blk W1 wr.heap.size (zaa tk u) 25 from hW1▸Blk.new wr _ _)
   have hc0:W1.cell? ⟨wr.heap.size,0,none⟩=some (.int .i64 tk.kind):=HB5.out.cell 0
   rw [hW1] at HTU
   have hgn:w.heap.size+2≤wr.heap.size:=hst.lt
   have hn5:(zaa tk u).length=5:=rfl
   clear hget hr hu hst hsl hp htk
   cases h2:tk.kind == 7
   ·cases h3:tk.kind == 8
    ·have HN2:=zh (HSN.out.trans (show _=p by rw [h2,h3];rfl))
     go_wp2_with (first
      | ((with_reducible refine zva 25 (.tmp 11) ?_);refine wpList_load_mid rfl 25 (.tmp 11) rfl g (k * 5) rfl (zaa tk u) _ HR.out Tryd.underlying25 rfl Tryd.zca ?_)
      | ((with_reducible refine zra 25 (.tmp 5) ?_);refine zga rfl 25 (.tmp 5) (.tmp 12) rfl (zaa tk u) (old:=zba) rfl rfl Tryd.zca rfl (zda _ _ hu1) ?_;rw [hW1]))
     go_roundw
     case rel=>exact ⟨k+1,by omega,by go_num,_,by rw [HN2.out];exact HS1.out⟩
     case measure=>simp [intOf];omega
    ·have HN2:=zh (HSN.out.trans (show _=(⟨p.params,tk⟩:Fp) by rw [h2,h3];rfl))
     have HS2:=zh (HS1.out.set (t:=tk) HTU.out.kat)
     go_wp2_with (first
      | ((with_reducible refine zva 25 (.tmp 11) ?_);refine wpList_load_mid rfl 25 (.tmp 11) rfl g (k * 5) rfl (zaa tk u) _ HR.out Tryd.underlying25 rfl Tryd.zca ?_)
      | ((with_reducible refine zra 25 (.tmp 5) ?_);refine zga rfl 25 (.tmp 5) (.tmp 12) rfl (zaa tk u) (old:=zba) rfl rfl Tryd.zca rfl (zda _ _ hu1) ?_;rw [hW1])
      | ((with_reducible refine zva 25 (.tmp 5) ?_);refine zfa rfl 25 (.tmp 5) rfl wr.heap.size (zaa tk u) rfl HB5.out Tryd.underlying25 rfl Tryd.zca ?_)
      | ((with_reducible refine zra 25 (.tmp 3) ?_);refine zea rfl 25 (.tmp 3) (.tmp 23) rfl (w.heap.size+1) (zaa tk u) rfl rfl HS1.out.q Tryd.zca rfl (zda _ _ hu1) ?_))
     go_roundw
     case rel=>exact ⟨k+1,by omega,by go_num,_,by rw [HN2.out];exact HS2.out⟩
     case measure=>simp [intOf];omega
   ·have HN2:=zh (HSN.out.trans (show _=(⟨p.params++[tk],p.res⟩:Fp) by
     have h3:(tk.kind == 8)=false:=by rw [beq_iff_eq.1 h2];rfl
     rw [h2,h3];rfl))
    have HSA:=zh (HS1.out.alloc (.cells (zaa tk u).toArray 25))
    have HLN:=zh (Blk.new W1 (zaa tk u) 25)
    go_wp2_with (first
     | ((with_reducible refine zva 25 (.tmp 11) ?_);refine wpList_load_mid rfl 25 (.tmp 11) rfl g (k * 5) rfl (zaa tk u) _ HR.out Tryd.underlying25 rfl Tryd.zca ?_)
     | ((with_reducible refine zra 25 (.tmp 5) ?_);refine zga rfl 25 (.tmp 5) (.tmp 12) rfl (zaa tk u) (old:=zba) rfl rfl Tryd.zca rfl (zda _ _ hu1) ?_;rw [hW1])
     | ((with_reducible refine zva 25 (.tmp 5) ?_);refine zfa rfl 25 (.tmp 5) rfl wr.heap.size (zaa tk u) rfl HB5.out Tryd.underlying25 rfl Tryd.zca ?_)
     | (at_builtin;refine zfc rfl (.tmp 17) (.tmp 19) rfl I rfl HSA.out.f (HTU.out.alloc _) rfl HLN.out HPL.out (by omega) HSA.out.lt ?_))
    intro v' w' hf hg hbk
    obtain ⟨va,vn,vc,rfl⟩:∃ a n c,v'=.slice a n c:=hf.slice.elim fun a h=>h.elim fun c h=>⟨a,_,c,h⟩
    have HS2:=zh (HSA.out.add hg hf)
    clear hf hg hbk
    go_wp2
    go_roundw
    case rel=>exact ⟨k+1,by omega,by go_num,_,by rw [HN2.out];exact HS2.out⟩
    case measure=>simp [intOf];omega
  ·obtain rfl:k=t.kids.length:=by omega
   rw [List.take_of_length_le (Nat.le_refl _)] at hst
   have hQ:=hst.q
   have HST2:=zh hst
   have HONE:=zh hst.s.one
   obtain ⟨va,vc,rfl⟩:=hst.f.slice
   clear hst
   go_upto_region 10 with fail
   refine wp_region_held_drew (S:=fun W=>Blk W (w.heap.size+1) (zaa (zJc t.kids).res rv) 25) (by kernel_rfl) hQ (fun hS=>?_)
   refine wpAnyH_take (i:=0) (oi:=⟨some 25,_,_,_,_,_⟩) (v:=.slice va (zJc t.kids).params.length vc) rfl (by kernel_rfl) (by kernel_rfl) (by kernel_rfl) (fun _ _ _ h=>h) (Or.inl ⟨by rfl,fun W _=>by go_simp⟩) hS ?_
   try simp only [Act.put,List.setIfInBounds_toArray,List.set_cons_zero,List.set_cons_succ]
   refine wpAnyH_take (i:=1) (oi:=⟨some 26,_,_,_,_,_⟩) (v:=.agg (zaa (zJc t.kids).res rv).toArray) rfl (by kernel_rfl) (by kernel_rfl) (by kernel_rfl) (fun _ _ _ h=>h) (yieldsIf_load_mid (cs:=zaa (zJc t.kids).res rv) (by rfl) 25 (.tmp 3) rfl (w.heap.size+1) 0 (by go_simp) _ (fun W hW j v hj=>by rw [Nat.zero_add,hW.cell j];exact hj) Tryd.underlying25 rfl Tryd.zca) hS ?_
   try simp only [Act.put,List.setIfInBounds_toArray,List.set_cons_zero,List.set_cons_succ]
   refine wpAnyH_take (i:=2) (oi:=⟨some 2,_,_,_,_,_⟩) (v:=.slice va (zJc t.kids).params.length vc) rfl (by kernel_rfl) (by kernel_rfl) (by kernel_rfl) (fun _ _ _ h=>h) (Or.inl ⟨by rfl,fun W _=>by go_simp⟩) hS ?_
   try simp only [Act.put,List.setIfInBounds_toArray,List.set_cons_zero,List.set_cons_succ]
   refine AnyH.only (i:=3) (o:=⟨none,_,_,_,_,_⟩) (by kernel_rfl) rfl (by rfl) (fun K hK=>?_)
   refine zka 25 (.tmp 3) (.tmp 26) rfl (w.heap.size+1) (zaa (zJc t.kids).res rv) rfl rfl hS Tryd.zca rfl (zda _ _ HONE.out) ?_
   refine hK.out _ _ (hS.zna _) ?_
   clear hK K
   refine wpAnyH_done (by kernel_rfl) ?_ _
   go_wp2_with fail
   have hst:=HST2.out.stay (Below.refl _ _).drew
   have h2:=hst.set (t:=(zJc t.kids).res) (u:=rv) hst.s
   refine zlp (cs:=zaa (zJc t.kids).res rv) Tryd.results23 rfl rfl (hst.q.zna (zaa (zJc t.kids).res rv)) Tryd.underlying25 rfl Tryd.zca rfl ?_
   exact ⟨_,rv,rfl,h2.f.kat (by omega),h2.s.mono fun _ _ _=>trivial,h2.b⟩
end Go.Proofs.YtdhmdfhnkppnmaaDoor
