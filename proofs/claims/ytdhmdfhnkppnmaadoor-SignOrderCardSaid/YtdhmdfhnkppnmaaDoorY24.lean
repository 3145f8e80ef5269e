/- Signatures in memory: a slice of them, each with a row of parameters; append on them. Nothing of the program is walked here. -/
import Derived.Test.YtdhmdfhnkppnmaaDoorY23
import Derived.Test.YtdhmdfhnkppnmaaDoorY15
import Derived.Test.YtdhmdfhnkppnmaaDoorY22
namespace Go.Proofs.YtdhmdfhnkppnmaaDoor
open Go.RowKit Go.Maps
def zTg:List Sg→List Value→List Value
 | c :: cs,u :: us=>zqa c u++zTg cs us
 | _,_=>[]
def zdc (w:World):List Sg→(Nat→Prop)→List Value→Prop
 | [],_,us=>us=[]
 | c :: cs,S,us=>∃ u us',us=u :: us'∧zHc w c.params S u∧zdc w cs S us'
def zFd (w:World) (cs:List Sg) (S:Nat→Prop) (v:Value):Prop :=
 ∃ us,w.ownsRow 0 42 5 v cs.length (zTg cs us)∧(∀ g,v.ownBlock=some g→S g)∧zdc w cs (fun b=>S b∧v.ownBlock≠some b) us
theorem zdc.keep {w w':World}:∀ (cs:List Sg) {S S':Nat→Prop} {us:List Value},zdc w cs S us→(∀ b,S b→b<w.heap.size→S' b∧w'.heap[b]?=w.heap[b]?)→zdc w' cs S' us
 | [],_,_,_,h,_=>h
 | c :: cs,S,S',us,h,hk=>by
  obtain ⟨u,us',e,ha,hs⟩:=h
  exact ⟨u,us',e,ha.keep hk,zdc.keep cs hs hk⟩
theorem zFd.keep {w w':World} {cs:List Sg} {S S':Nat→Prop} {v:Value} (h:zFd w cs S v) (hk:∀ b,S b→b<w.heap.size→S' b∧w'.heap[b]?=w.heap[b]?):zFd w' cs S' v:=by
 obtain ⟨us,ho,hS,ha⟩:=h
 exact ⟨us,zld ho fun g hg=>(hk g (hS g hg) (ho.lt g hg).2).2,fun g hg=>(hk g (hS g hg) (ho.lt g hg).2).1,zdc.keep cs ha fun b hb hl=>⟨⟨(hk b hb.1 hl).1,hb.2⟩,(hk b hb.1 hl).2⟩⟩
theorem zFd.below {w w':World} {cs:List Sg} {S:Nat→Prop} {v:Value} (h:zFd w cs S v) (hk:Below w.heap.size w w'):zFd w' cs S v:=h.keep fun b hb hl=>⟨hb,hk.block b hl⟩
theorem zFd.nil (w:World) (S:Nat→Prop):zFd w [] S (.slice none 0 0):=⟨[],World.ownsRow_nil _ _ _ _,(fun g h=>by simp [Value.ownBlock] at h),rfl⟩
theorem zdc.length {w:World}:∀ {cs:List Sg} {S:Nat→Prop} {us:List Value},zdc w cs S us→us.length=cs.length
 | [],_,_,h=>by rw [show _=[] from h];rfl
 | c :: cs,_,_,h=>by obtain ⟨u,us',rfl,_,h'⟩:=h;simp [zdc.length h']
theorem zdc.snoc {w:World}:∀ {cs:List Sg} {c:Sg} {S:Nat→Prop} {us:List Value} {u:Value},zdc w cs S us→zHc w c.params S u→zdc w (cs++[c]) S (us++[u])
 | [],c,_,us,u,h,h'=>by rw [show us=[] from h];exact ⟨u,[],rfl,h',rfl⟩
 | a :: cs,c,_,_,u,h,h'=>by
  obtain ⟨v,us',rfl,ha,hs⟩:=h
  exact ⟨v,us'++[u],rfl,ha,zdc.snoc hs h'⟩
theorem zph:∀ (cs:List Sg) (c:Sg) (us:List Value) (u:Value),us.length=cs.length→zTg (cs++[c]) (us++[u])=zTg cs us++zqa c u
 | [],c,[],u,_=>by simp [zTg]
 | a :: cs,c,v :: us,u,h=>by
  simp only [List.cons_append,zTg,List.append_assoc]
  rw [zph cs c us u (by simpa using h)]
theorem zxi:∀ (cs:List Sg) (us:List Value) (k:Nat) (c:Sg) (u:Value) (j:Nat),cs[k]?=some c→us[k]?=some u→j<5→(zTg cs us)[k * 5+j]?=(zqa c u)[j]?
 | [],_,k,t,u,j,h,_,_=>by simp at h
 | _ :: _,[],k,t,u,j,_,h,_=>by simp at h
 | a :: ks,b :: vs,0,t,u,j,h,h',hj=>by
  obtain rfl:a=t:=by simpa using h
  obtain rfl:b=u:=by simpa using h'
  rw [zTg,Nat.zero_mul,Nat.zero_add,List.getElem?_append_left (by simpa [zqa] using hj)]
 | a :: ks,b :: vs,k+1,t,u,j,h,h',hj=>by
  rw [zTg,List.getElem?_append_right (by simp [zqa];omega)]
  have e:(k+1) * 5+j-(zqa a b).length=k * 5+j:=by simp [zqa];omega
  rw [e]
  exact zxi ks vs k t u j (by simpa using h) (by simpa using h') hj
theorem zdc.get {w:World}:∀ {cs:List Sg} {S:Nat→Prop} {us:List Value},zdc w cs S us→∀ {k:Nat} {c:Sg},cs[k]?=some c→∃ u,us[k]?=some u∧zHc w c.params S u
 | [],_,_,_,k,t,h=>by simp at h
 | a :: ts,S,vs,h,0,t,hk=>by
  obtain ⟨v,vs',rfl,ht,_⟩:=h
  obtain rfl:a=t:=by simpa using hk
  exact ⟨v,rfl,ht⟩
 | a :: ts,S,vs,h,k+1,t,hk=>by
  obtain ⟨v,vs',rfl,_,hts⟩:=h
  obtain ⟨u,hu,ht⟩:=zdc.get hts (k:=k) (c:=t) (by simpa using hk)
  exact ⟨u,by simpa using hu,ht⟩
theorem zFd.slice {w:World} {cs:List Sg} {S:Nat→Prop} {v:Value} (h:zFd w cs S v):∃ a c,v=.slice a cs.length c:=by
 obtain ⟨_,ho,_⟩:=h
 rcases ho.2 with ⟨rfl,h0⟩|⟨g,cap,_,rfl,_⟩
 ·exact ⟨_,_,by rw [h0]⟩
 ·exact ⟨_,_,rfl⟩
theorem zFd.lt {w:World} {cs:List Sg} {S:Nat→Prop} {v:Value} (h:zFd w cs S v) {g:Nat} (hg:v.ownBlock=some g):S g∧g<w.heap.size:=by
 obtain ⟨_,ho,hS,_⟩:=h
 exact ⟨hS g hg,(ho.lt g hg).2⟩
theorem zFd.form {w:World} {cs:List Sg} {S:Nat→Prop} {v:Value} (h:zFd w cs S v):(v=.slice none 0 0∧cs=[])∨∃ g cap,v=.slice (some ⟨g,0,none⟩) cs.length cap∧(S g∧g<w.heap.size)∧cs.length≤cap∧cap≤maxLen ∧
  ∀ k c,cs[k]?=some c→∃ p,w.rangeAt g (k * 5) (zqa c p)∧zHc w c.params S p:=by
 obtain ⟨us,ho,hS,hts⟩:=h
 have ho':=ho
 rcases ho.2 with ⟨rfl,h0⟩|⟨g,cap,cur,rfl,hb,hg,hnc,hcm,hcs,htake⟩
 ·exact .inl ⟨rfl,List.eq_nil_of_length_eq_zero h0⟩
 ·refine .inr ⟨g,cap,rfl,⟨hS g rfl,(Array.getElem?_eq_some_iff.1 hg).1⟩,hnc,hcm,fun k c hk=>?_⟩
  obtain ⟨u,hu,ht⟩:=hts.get hk
  refine ⟨u,fun j x hj=>?_,ht.keep fun b hb hl=>⟨hb.1,rfl⟩⟩
  have hj5:j<5:=by have:=(List.getElem?_eq_some_iff.1 hj).1;simpa [zqa] using this
  have hlt:k<cs.length:=(List.getElem?_eq_some_iff.1 hk).1
  rw [ho'.cellAt (k * 5+j) (by omega),zxi cs us k c u j hk hu hj5]
  exact hj
theorem zOf {P:Program} {w:World} {ops:Array Oper} {rest:List Oper} {o:Oper} {a:Act} {Q:Exit→Act→World→Prop} (hgd:o.guard=none) (s x:Operand) {t:TypeId} (ho:o.op=.call { callee:=.builtin .append,args:=#[s,x],argTypes:=#[t,t] })
  {i:TypeInfo} {z:Value} (I:zBe P t 42 5 72 i z) {cs:List Sg} {c:Sg} {S:Nat→Prop} {v p:Value} (hs:a.eval s=v) (hk:zFd w cs S v) (hS:S w.heap.size) {b cc:Nat} (hx:a.eval x=.slice (some ⟨b,0,none⟩) 1 cc)
  (hg:Blk w b (zqa c p) 42) (hc:zHc w c.params (fun b=>S b∧v.ownBlock≠some b) p) (hb:cs.length+1≤2000000)
  (h:∀ v' w',zFd w' (cs++[c]) S v'→w.grownBy w' v.ownBlock→wpList P ops Q rest (a.put o.dst v') w'):wpList P ops Q (o :: rest) a w:=by
 refine wpList_plain hgd fun _ hK=>?_
 obtain ⟨us,hown,hSv,hks⟩:=hk
 have hnews:∀ j y,(zqa c p)[j]?=some y→w.cell? ((⟨b,0,none⟩:Addr).add j)=some y:=fun j y hj=>by rw [Addr.add_mid,Nat.zero_add,hg.cell j];exact hj
 have hbb:(cs.length+1) * 72≤140737488355328:=by omega
 obtain ⟨v',w',hr,ho',hg',_⟩:=run_append_own (P:=P) w 0 t o.type 42 i z 5 72 I.ht I.hi I.hz I.size I.bytes I.zs (by decide) v cs.length (zTg cs us) hown ⟨b,0,none⟩ 1 cc (zqa c p) rfl hnews (zAf c hc.one) (by unfold maxLen;omega) hbb (Nat.zero_le _)
 have hbk:=zId (ty:=o.type) I.ht I.hi I.hz I.size I.bytes hown (by omega) rfl hnews (zAf c hc.one) (by unfold maxLen;omega) hbb hr
 unfold Oper.wp execOp
 simp only [ho,resolve,invoke,builtin,Sem.run_bind,Sem.run_pure,Result.andThen_ok,List.map_toArray,List.map_cons,List.map_nil,hs,hx]
 rw [hr]
 have keep:∀ b,(S b∧v.ownBlock≠some b)→b<w.heap.size→(S b∧v'.ownBlock≠some b)∧w'.heap[b]?=w.heap[b]?:=fun b hb hl=>by
  refine ⟨⟨hb.1,fun h=>?_⟩,hg'.block b hl (Ne.symm hb.2)⟩
  rcases hbk with h'|h'
  ·exact hb.2 (h'▸h)
  ·rw [h'] at h;cases h;exact absurd hl (Nat.lt_irrefl _)
 refine hK _ _ (h v' w' ⟨us++[p],?_,?_,?_⟩ hg')
 ·rw [zph _ _ _ _ hks.length,List.length_append]
  exact ho'
 ·intro g hg2
  rcases hbk with h|h
  ·exact hSv g (h▸hg2)
  ·rw [h] at hg2;cases hg2;exact hS
 ·exact zdc.snoc (zdc.keep _ hks keep) (hc.keep keep)
theorem Tryd.zGp:∃ i z,zBe Tryd.prog 33 42 5 72 i z:=by
 have h:(Tryd.prog.info? 42).map (fun i=>(i.zero,i.size,i.bytes))=some (some (.agg #[.string ⟨#[]⟩,.slice none 0 0,.string ⟨#[]⟩,.int .i64 0,.int .i64 0]),5,72):=by kernel_rfl
 obtain ⟨i0,hi,hz0,hz1,hz2⟩:=info_parts h
 exact ⟨i0,_,Tryd.underlying33,hi,hz0,hz1,hz2,rfl⟩
end Go.Proofs.YtdhmdfhnkppnmaaDoor
namespace Go.Proofs.YtdhmdfhnkppnmaaDoor
set_option maxRecDepth 100000
set_option maxHeartbeats 4000000
open Go.RowKit Go.Maps
def zbc (w:World) (r:E (List Sg)) (e:Ending) (w':World):Prop :=
 match r with
 | .ok l=>∃ v,e=.returned (.tuple #[v,.int .i64 0,.int .i64 0])∧zFd w' l (fun b=>w.heap.size≤b) v∧Below w.heap.size w w'
 | .error (q,c)=>e=.returned (.tuple #[.slice none 0 0,.int .i64 q,.int .i64 c])∧Below w.heap.size w w'
theorem zkh {tys:List Ty}:∀ {r:List T} {l:List Prm} {q:Nat} {c:Int},zgd tys l r=.error (q,c)→c≠0
 | [],_,_,_,h=>by rw [zgd] at h;cases h
 | n :: r,l,q,c,h=>by
  rw [zgd] at h
  cases hp:zOg tys n l with
  | error e=>rw [hp] at h;cases h;exact zfi hp
  | ok p=>rw [hp] at h;exact zkh h
theorem zli {tys:List Ty} {n:T} {q:Nat} {c:Int} (h:zSg tys n=.error (q,c)):c≠0:=by
 by_cases h8:8<(zJc n.kids).params.length
 ·rw [zKi h8] at h;cases h;decide
 ·rw [zbm h8] at h
  cases hp:zgd tys [] (zJc n.kids).params with
  | error e=>rw [hp] at h;cases h;exact zkh hp
  | ok l =>
   rw [hp] at h
   simp only at h
   cases hh:zEc tys (zJc n.kids).res with
   | none=>rw [hh] at h;cases h;decide
   | some r=>rw [hh] at h;cases h
theorem zpe {tys:List Ty}:∀ {r:List T} {l:List Sg} {q:Nat} {c:Int},zFc tys l r=.error (q,c)→c≠0
 | [],_,_,_,h=>by rw [zFc] at h;cases h
 | n :: r,l,q,c,h=>by
  rw [zFc] at h
  cases hk:n.kind == 6
  ·rw [hk] at h;exact zpe h
  ·rw [hk] at h
   simp only [cond_true] at h
   cases hp:zSg tys n with
   | error e=>rw [hp] at h;cases h;exact zli hp
   | ok p=>rw [hp] at h;exact zpe h
theorem zQm {tys:List Ty} {l:List Sg} {n:T} {r:List T} (hk:(n.kind == 6)=false):zFc tys l (n :: r)=zFc tys l r:=by rw [zFc,hk];rfl
theorem zym {tys:List Ty} {l:List Sg} {n:T} {r:List T} {e:Nat × Int} (hk:(n.kind == 6)=true) (h:zSg tys n=.error e):zFc tys l (n :: r)=.error e:=by rw [zFc,hk,h];rfl
theorem zfn {tys:List Ty} {l:List Sg} {n:T} {r:List T} {s:Sg} (hk:(n.kind == 6)=true) (h:zSg tys n=.ok s):zFc tys l (n :: r)=zFc tys (l++[s]) r:=by rw [zFc,hk,h];rfl
theorem zNn {t:T} (h:zPn t):(∀ p∈(zJc t.kids).params,(zza (zza p 0) 0).text.size≤maxLen)∧(zza (zJc t.kids).res 0).text.size≤maxLen:=by
 obtain ⟨ps,m,b,_,hp,hm,e⟩:=h.fp
 rw [e]
 exact ⟨fun p h=>by have:=zzm (hp p h);unfold maxLen;omega,by have:=zeh hm.1;show (zza m 0).text.size≤maxLen;unfold maxLen;omega⟩
theorem zqe {w:World} {A:Option Addr} {cap:Nat} {tys:List Ty} (ht:Tys w A tys) (hlen:tys.length≤cap∧cap≤maxLen) (hns:∀ t∈tys,t.name.size≤maxLen) {t:T} {S:Nat→Prop} {kv:Value} (hk:KAt 25 w t.kids S kv) (hts:t.size≤4096) (hfn:∀ x∈t.kids,zje x) :
  Calls Tryd.prog 7 #[zma t kv,.slice A tys.length cap] w (zbc w (zFc tys [] t.kids)):=by
 obtain ⟨i0,z0,I⟩:=Tryd.zGp
 have htz:t.size=1+sizes t.kids:=by cases t;rw [size_mk];rfl
 have hkl:t.kids.length≤4096:=by have:=zrd t.kids;omega
 obtain ⟨W0,hW0⟩:∃ W,w.alloc (.cells (zaa t kv).toArray 25)=W:=⟨_,rfl⟩
 have hB0:Below w.heap.size w W0:=hW0▸(Below.refl _ _).alloc (Nat.le_refl _) _
 have HB0:=zh hB0
 have b1:=zh (show Blk W0 w.heap.size (zaa t kv) 25 from hW0▸Blk.new w _ _)
 have HT:=zh ht
 have HFN:=zh hfn
 have HTZ:=zh (show 1+sizes t.kids≤4096 by omega)
 have HK:=zh (show KAt 25 w t.kids (fun b=>b<w.heap.size) kv from hk.keep fun b _ hb=>⟨hb,rfl⟩)
 have HNR:=zh (zwh A cap tys W0 (by omega) (ht.below hB0) hns)
 obtain ⟨ka,kc,rfl⟩:=hk.len
 unfold zaa at hW0
 unfold zma
 clear ht hk hfn hns hB0 hts htz
 go_enter Tryd.func7,Tryd.ntmps7
 go_upto_region 1 with fail
 try rw [hW0]
 clear hW0
 go_wp2_with fail
 refine HNR.out.mono ?_
 clear HNR
 rintro e w1 ⟨M,hM,rfl,hm,hb⟩
 obtain ⟨W1,hW1⟩:∃ W,w1.alloc (.cells (zWa A tys.length cap M).toArray 64)=W:=⟨_,rfl⟩
 have hb2:Below w1.heap.size w1 W1:=hW1▸(Below.refl _ _).alloc (Nat.le_refl _) _
 have hb12:=hb.trans (hb2.mono hb.size)
 have HB1:=zh (HB0.out.trans (hb12.mono HB0.out.size))
 have HM1:=zh (hm.below hb2)
 have HML:=zh (show M<w1.heap.size+1 from Nat.lt_succ_of_lt hm.lt)
 have R1:=zh (show Blk W1 w1.heap.size (zWa A tys.length cap M) 64 from hW1▸Blk.new w1 _ _)
 have hn1:=b1.out.stays hb12
 have hw1:w.heap.size<w1.heap.size:=Nat.lt_of_lt_of_le b1.out.lt hb.size
 have n14:W1.cell? ⟨w.heap.size,4,none⟩=some (.slice ka t.kids.length kc):=hn1.cell 4
 clear hb hb2 hb12 hm hn1
 unfold RV
 go_wp2_with ((with_reducible refine zra 64 (.tmp 7) ?_);refine zga rfl 64 (.tmp 7) (.tmp 15) rfl (zWa A tys.length cap M) (old:=[.slice none 0 0,.map none]) rfl rfl Tryd.zyg rfl (by intro x hx;simp only [zWa,List.mem_cons,List.not_mem_nil,or_false] at hx;rcases hx with rfl|rfl<;>rfl) ?_;rw [hW1])
 clear hW1 n14
 go_loopw [8,19] (fun sv i wr=>∃ k:Nat,k≤t.kids.length∧i=.int .i64 k∧∃ l,zFd wr l (fun b=>w1.heap.size<b) sv∧Below (w1.heap.size+1) W1 wr∧l.length≤k∧zFc tys [] t.kids=zFc tys l (t.kids.drop k)) (fun _ i _=>t.kids.length-(intOf i).toNat)
 case atStart=>exact ⟨0,by omega,rfl,[],zFd.nil _ _,Below.refl _ _,by simp,by rw [List.drop_zero]⟩
 case round =>
  obtain ⟨k,hkk,rfl,l,hs,hbw,hll,heq⟩:=hrel
  have HLL:=zh hll
  have HBW:=zh hbw
  have HB:=zh (HB1.out.trans (hbw.mono (by omega)))
  have HSG:=zh hs
  have hwr:w1.heap.size<wr.heap.size:=Nat.lt_of_lt_of_le R1.out.lt hbw.size
  have R2:=zh (show Blk wr w1.heap.size (zWa A tys.length cap M) 64 from (hbw.block _ (by omega)).trans R1.out)
  by_cases hlt:k<t.kids.length
  ·obtain ⟨tk,htk⟩:∃ tk,t.kids[k]?=some tk:=⟨_,List.getElem?_eq_getElem hlt⟩
   obtain ⟨g,cp,hsl,hgl,hcap,hcm,hget⟩:=(HK.out.form).resolve_left fun h=>by rw [h.2] at hlt;simp at hlt
   obtain ⟨rfl,rfl⟩:ka=some ⟨g,0,none⟩∧kc=cp:=by simpa using hsl
   obtain ⟨u,hr,hu⟩:=hget k tk htk
   have HR:=zh (zoa hr HB.out hgl)
   have HEQ:=zh (heq.trans (show _=zFc tys l (tk :: t.kids.drop (k+1)) by rw [List.drop_eq_getElem_cons hlt,(List.getElem?_eq_some_iff.1 htk).2]))
   obtain ⟨W2,hW2⟩:∃ W,wr.alloc (.cells (zaa tk u).toArray 25)=W:=⟨_,rfl⟩
   have hb1:Below wr.heap.size wr W2:=hW2▸(Below.refl _ _).alloc (Nat.le_refl _) _
   have HB2:=zh (HB.out.trans (hb1.mono HB.out.size))
   have HBW2:=zh (hbw.trans (hb1.mono (by omega)))
   have HSG2:=zh (hs.below hb1)
   have HN2:=zh (show Blk W2 wr.heap.size (zaa tk u) 25 from hW2▸Blk.new wr _ _)
   have HU:=zh (hu.kat.below HB2.out)
   have hu1:=hu.one'
   have hc0:W2.cell? ⟨wr.heap.size,0,none⟩=some (.int .i64 tk.kind):=HN2.out.cell 0
   have HKL:=zh (show tk.kids.length≤4096 from by have:=zYi (List.mem_of_getElem? htk);have:=HTZ.out;omega)
   have HFK:=zh (HFN.out tk (List.mem_of_getElem? htk))
   have r2:=R2.out.stays hb1
   obtain ⟨sa,sc,rfl⟩:=hs.slice
   clear hget hr hu hs hsl htk heq hb1 hbw hll
   cases h6:tk.kind == 6
   ·have HN:=zh (HEQ.out.trans (zQm h6))
    have h6':(tk.kind != 6)=true:=by simp [bne,h6]
    go_wp2_with (first
     | ((with_reducible refine zva 25 (.tmp 21) ?_);refine wpList_load_mid rfl 25 (.tmp 21) rfl g (k * 5) rfl (zaa tk u) _ HR.out Tryd.underlying25 rfl Tryd.zca ?_)
     | ((with_reducible refine zra 25 (.tmp 10) ?_);refine zga rfl 25 (.tmp 10) (.tmp 22) rfl (zaa tk u) (old:=zba) rfl rfl Tryd.zca rfl (zda _ _ hu1) ?_;rw [hW2]))
    go_roundw
    case rel=>exact ⟨k+1,hlt,by go_num,l,HSG2.out,HBW2.out,by have:=HLL.out;omega,HN.out⟩
    case measure=>simp [intOf];omega
   ·have h6':(tk.kind != 6)=false:=by simp [bne,h6]
    have hok:=HFK.out (beq_iff_eq.1 h6)
    have HSI:=zh (zyn (HT.out.below HB2.out) hlen (HM1.out.same (HBW2.out.block M HML.out)) HU.out HKL.out (zNn hok))
    have n2:=HN2.out
    unfold RV zma at HSI
    clear hok
    go_wp2_with (first
     | ((with_reducible refine zva 25 (.tmp 21) ?_);refine wpList_load_mid rfl 25 (.tmp 21) rfl g (k * 5) rfl (zaa tk u) _ HR.out Tryd.underlying25 rfl Tryd.zca ?_)
     | ((with_reducible refine zra 25 (.tmp 10) ?_);refine zga rfl 25 (.tmp 10) (.tmp 22) rfl (zaa tk u) (old:=zba) rfl rfl Tryd.zca rfl (zda _ _ hu1) ?_;rw [hW2])
     | ((with_reducible refine zva 64 (.tmp 7) ?_);refine zfa rfl 64 (.tmp 7) rfl w1.heap.size (zWa A tys.length cap M) rfl r2 Tryd.underlying64 rfl Tryd.zyg ?_)
     | ((with_reducible refine zva 25 (.tmp 10) ?_);refine zfa rfl 25 (.tmp 10) rfl wr.heap.size (zaa tk u) rfl n2 Tryd.underlying25 rfl Tryd.zca ?_))
    refine HSI.out.mono ?_
    clear HSI n2 r2 hW2 hc0
    intro e w5 hp
    cases ho:zSg tys tk with
    | error pc =>
     obtain ⟨q,c⟩:=pc
     rw [ho] at hp
     obtain ⟨rfl,hb⟩:=hp
     have HRes:=zh (show zFc tys [] t.kids=.error (q,c) from by rw [HEQ.out,zym h6 ho])
     have hc0:=zli ho
     have hc1:(c != 0)=true:=by simpa using hc0
     obtain ⟨W6,hW6⟩:∃ W,w5.alloc (.cells (zqa sg0 (.slice none 0 0)).toArray 42)=W:=⟨_,rfl⟩
     have HB6:=zh (show Below w.heap.size w W6 from hW6▸(HB2.out.trans (hb.mono HB2.out.size)).alloc (Nat.le_trans HB2.out.size hb.size) _)
     have hone:=zAf sg0 (pv:=.slice none 0 0) rfl
     clear hb ho hc0
     unfold SgV
     go_wp2_with ((with_reducible refine zra 42 (.tmp 11) ?_);refine zga rfl 42 (.tmp 11) (.tmp 30) rfl (zqa sg0 (.slice none 0 0)) (old:=zqa sg0 (.slice none 0 0)) rfl rfl Tryd.zZc rfl hone ?_;rw [hW6])
     refine bodyPost_ret (results_tmp3 Tryd.results7 _ _ _) rfl ?_
     rw [HRes.out]
     exact ⟨rfl,HB6.out⟩
    | ok s =>
     rw [ho] at hp
     obtain ⟨pv,rfl,hpv,hb⟩:=hp
     have HN:=zh (HEQ.out.trans (zfn h6 ho))
     obtain ⟨W6,hW6⟩:∃ W,w5.alloc (.cells (zqa s pv).toArray 42)=W:=⟨_,rfl⟩
     have hb2:Below w5.heap.size w5 W6:=hW6▸(Below.refl _ _).alloc (Nat.le_refl _) _
     have hb12:=hb.trans (hb2.mono hb.size)
     have hb7:=hb12.trans (((Below.refl W6.heap.size W6).alloc (Nat.le_refl _) (.cells (zqa s pv).toArray 42)).mono hb12.size)
     have HB7:=zh hb7
     have HSG7:=zh (HSG2.out.below hb7)
     have HBW7:=zh (HBW2.out.trans (hb7.mono (by have:=HN2.out.lt;omega)))
     have HP7:=zh (((hpv.below hb2).alloc (.cells (zqa s pv).toArray 42)))
     have hwW:wr.heap.size<W2.heap.size:=HN2.out.lt
     have HPC:=zh (show zHc _ s.params (fun b=>w1.heap.size<b∧(Value.slice sa l.length sc).ownBlock≠some b) pv from HP7.out.mono fun b hb _=>by
      have hb':W2.heap.size≤b:=hb
      exact ⟨by omega,fun e=>by have:=(HSG2.out.lt e).2;omega⟩)
     have HX6:=zh (show Blk W6 w5.heap.size (zqa s pv) 42 from hW6▸Blk.new w5 _ _)
     have HL7:=zh (Blk.new W6 (zqa s pv) 42)
     have x6:=HX6.out
     have hone:=zAf s hpv.one
     have hn5:(zqa s pv).length=5:=rfl
     have hW2l:=HN2.out.lt
     clear hb hb2 hb12 hb7 hpv ho
     unfold SgV
     go_wp2_with (first
      | ((with_reducible refine zra 42 (.tmp 11) ?_);refine zga rfl 42 (.tmp 11) (.tmp 30) rfl (zqa s pv) (old:=zqa sg0 (.slice none 0 0)) rfl rfl Tryd.zZc rfl hone ?_;rw [hW6])
      | ((with_reducible refine zva 42 (.tmp 11) ?_);refine zfa rfl 42 (.tmp 11) rfl w5.heap.size (zqa s pv) rfl x6 Tryd.underlying42 rfl Tryd.zZc ?_)
      | (at_builtin;refine zOf rfl (.tmp 37) (.tmp 39) rfl I rfl HSG7.out ?c3 rfl HL7.out HPC.out ?c4 ?_))
     case c3=>exact Nat.lt_of_lt_of_le R1.out.lt HBW7.out.size
     case c4=>have:=HLL.out;omega
     intro v' w8 hv' hg'
     have HB8:=zh (HBW7.out.grown hg' (by have:=HBW7.out.size;have:=R1.out.lt;omega) (fun k hk=>by have:=(HSG2.out.lt hk).1;omega))
     obtain ⟨va2,vc2,rfl⟩:=hv'.slice
     have HV:=zh hv'
     clear hv' hg' x6 hW6
     go_wp2
     go_roundw
     case rel=>exact ⟨k+1,hlt,by go_num,_,HV.out,HB8.out,by have:=HLL.out;simp;omega,HN.out⟩
     case measure=>simp [intOf];omega
  ·obtain rfl:k=t.kids.length:=by omega
   have HRes:=zh (show zFc tys [] t.kids=.ok l by rw [heq,List.drop_length];rfl)
   clear heq hs hbw
   go_wp2_with fail
   refine bodyPost_ret (results_tmp3 Tryd.results7 _ _ _) rfl ?_
   rw [HRes.out]
   exact ⟨_,rfl,HSG.out.keep fun b hb hl=>⟨by omega,rfl⟩,HB.out⟩
end Go.Proofs.YtdhmdfhnkppnmaaDoor
namespace Go.Proofs.YtdhmdfhnkppnmaaDoor
set_option maxRecDepth 100000
set_option maxHeartbeats 2000000
open Go.RowKit
theorem zEd:∀ (k:Nat) (ks:List T) (vs:List Value),vs.length=ks.length→zDa (ks.take k) (vs.take k)=(zDa ks vs).take (k * 5)
 | 0,_,_,_=>by simp [zDa]
 | k+1,[],[],_=>by simp [zDa]
 | k+1,t :: ks,v :: vs,h=>by
  simp only [List.take_succ_cons,zDa]
  rw [zEd k ks vs (by simpa using h),List.take_append,List.take_of_length_le (l:=zaa t v) (by simp [zaa];omega)]
  congr 2
  simp [zaa]
  omega
theorem zlb.take {e:TypeId} {w:World}:∀ (k:Nat) (ks:List T) {S:Nat→Prop} {vs:List Value},zlb e w ks S vs→zlb e w (ks.take k) S (vs.take k)
 | 0,ks,S,vs,_=>by simp [zlb]
 | k+1,[],S,vs,h=>by simp only [zlb] at h;subst h;simp [zlb]
 | k+1,t :: ks,S,vs,h=>by
  simp only [zlb] at h
  obtain ⟨v,vs',rfl,h1,h2⟩:=h
  simp only [List.take_succ_cons,zlb]
  exact ⟨v,vs'.take k,rfl,h1,zlb.take k ks h2⟩
theorem KAt.take {e:TypeId} {w:World} {ks:List T} {S:Nat→Prop} {a:Option Addr} {c:Nat} (h:KAt e w ks S (.slice a ks.length c)) {k:Nat} (h0:0<k) (hk:k≤ks.length):KAt e w (ks.take k) S (.slice a k c):=by
 obtain ⟨vs,⟨hl,ho⟩,hS,ht⟩:=h
 have hvl:=zlb.length ht
 rcases ho with ⟨e1,e2⟩|⟨g,cap,cur,e1,hb,hg,hnc,hcm,hcs,htake⟩
 ·omega
 ·obtain ⟨rfl,rfl⟩:a=some ⟨g,0,none⟩∧c=cap:=by simpa using e1
  have hlk:(ks.take k).length=k:=by simp;omega
  refine ⟨vs.take k,⟨?_,.inr ⟨g,c,cur,by rw [hlk],hb,hg,by omega,hcm,hcs,?_⟩⟩,hS,?_⟩
  ·rw [zEd k ks vs hvl,List.length_take,hl,hlk];omega
  ·rw [zEd k ks vs hvl,← htake,List.take_take,hlk]
   congr 1
   omega
  ·exact zlb.take k ks ht
def s12:ByteArray:=⟨#[116,121,112,101,32,118,101,99,32,111,119,110,32,123,32,110,32,125,59,32,116,121,112,101,32,99,32,99,101,108,108,32,123,32,118,32,125,59,32,102,110,32,103,101,116,40,118,58,32,38,118,101,99,44,32,105,58,32,105,110,116,41,32,45,62,32,105,110,116,32,123,32,125,32,102,110,32,116,119,111,40,97,58,32,38,99,44,32,98,58,32,38,109,117,116,32,99,41,32,123,32,125]⟩
def zoo:List Ty:=[⟨bs [118,101,99],0,0,[(bs [110],-1)],[]⟩,⟨bs [99],1,0,[(bs [118],-1)],[]⟩]
def sg12:Sg:=⟨bs [103,101,116],[⟨bs [118],3,0⟩,⟨bs [105],1,0⟩],⟨⟨#[]⟩,1,0⟩⟩
theorem zoh:∀ t∈zoo,t.name.size≤maxLen:=by
 intro t ht
 simp only [zoo,List.mem_cons,List.not_mem_nil,or_false] at ht
 rcases ht with rfl|rfl<;>(unfold maxLen;decide)
theorem zhm:zab s12=((zab s12).1,0,0):=by kernel_rfl
theorem zcm:zGb [] (zab s12).1.kids=.ok zoo:=by kernel_rfl
theorem zVm:zFc zoo [] (zab s12).1.kids=.error (91,34):=by kernel_rfl
theorem zgl:zFc zoo [] ((zab s12).1.kids.take 3)=.ok [sg12]:=by kernel_rfl
theorem zEn:(zab s12).1.kids.length=4:=by kernel_rfl
theorem zVj:∀ (k:Nat) (l:List T),sizes (l.take k)≤sizes l
 | 0,l=>by simp [zsa]
 | k+1,[]=>by simp
 | k+1,t :: l=>by rw [List.take_succ_cons,zta,zta];have:=zVj k l;omega
theorem zZb.tysc {w:World} {ts:List Ty} {S:Nat→Prop} {v:Value} (h:zZb w ts S v):∃ a c,v=.slice a ts.length c∧(ts.length≤c∧c≤maxLen)∧Tys w a ts:=by
 rcases h.form with ⟨rfl,rfl⟩|⟨g,cap,rfl,hg,hcap,hcm,hget⟩
 ·exact ⟨none,0,rfl,⟨Nat.le_refl _,by unfold maxLen;omega⟩,fun h=>by simp at h⟩
 ·obtain ⟨A,c,e,_,h⟩:=h.tys
  obtain ⟨rfl,rfl⟩:some ⟨g,0,none⟩=A∧cap=c:=by simpa using e
  exact ⟨_,_,rfl,⟨hcap,hcm⟩,h⟩
theorem zZb.val {w:World} {ts:List Ty} {S:Nat→Prop} {a:Option Addr} {n c:Nat} (h:zZb w ts S (.slice a n c)):(ts.length≤c∧c≤maxLen)∧Tys w a ts:=by
 obtain ⟨a',c',e,h1,h2⟩:=h.tysc
 obtain ⟨rfl,_,rfl⟩:a=a'∧n=ts.length∧c=c':=by simpa using e
 exact ⟨h1,h2⟩
def T.head (t:T) (k:Nat):T:=.mk t.kind t.text t.num t.place (t.kids.take k)
theorem zrg (w:World) (ht:Tabs w) :
  Calls Tryd.prog 8 #[] w fun e w'=>e=.returned (.bool true)∧Below w.heap.size w w':=by
 have HT:=zh ht
 go_enter Tryd.func8,Tryd.ntmps8
 go_wp2_with fail
 refine (parse_any s12 w (by unfold maxLen;decide) ht).mono ?_
 rintro e w1 ⟨kv,rfl,hk,hb⟩
 rw [zhm] at hk ⊢
 simp only at hk ⊢
 obtain ⟨W1,hW1⟩:∃ W,w1.alloc (.cells (zaa (zab s12).1 kv).toArray 25)=W:=⟨_,rfl⟩
 have hb1:Below w1.heap.size w1 W1:=hW1▸(Below.refl _ _).alloc (Nat.le_refl _) _
 have HB1:=zh (hb.trans (hb1.mono hb.size))
 have HN1:=zh (show Blk W1 w1.heap.size (zaa (zab s12).1 kv) 25 from hW1▸Blk.new w1 _ _)
 have HTY:=zh (zEg (hk.below hb1) (zye s12) (zwd s12).2)
 have HTS:=zh zcm
 have HS1:=zh zVm
 have HS2:=zh zgl
 have HKL:=zh zEn
 have HFN:=zh (zzg s12)
 have HSZ:=zh (zwd s12).2
 have HWL:=zh hb.size
 have HO:=zh hk.one
 have hk':KAt 25 w1 (zab s12).1.kids (fun b=>b<w1.heap.size) kv:=hk.keep fun b _ hl=>⟨hl,rfl⟩
 have HK1:=zh (hk'.below hb1)
 have hwl:w1.heap.size<W1.heap.size:=HN1.out.lt
 clear hk hk' hb hb1 ht
 unfold zma at HTY ⊢
 generalize (zab s12).1=tr at *
 have hn1:=HN1.out
 go_upto_region 2 with ((with_reducible refine zra 25 (.tmp 1) ?_);refine zga rfl 25 (.tmp 1) (.tmp 15) rfl (zaa tr kv) (old:=zba) rfl rfl Tryd.zca rfl (zda tr _ HO.out) ?_;rw [hW1])
 clear hW1
 go_wp2_with ((with_reducible refine zva 25 (.tmp 1) ?_);refine zfa rfl 25 (.tmp 1) rfl w1.heap.size (zaa tr kv) rfl hn1 Tryd.underlying25 rfl Tryd.zca ?_)
 refine HTY.out.mono ?_
 clear hn1 HTY
 intro e w2 hp
 unfold zyc at hp
 rw [HTS.out] at hp
 obtain ⟨v,rfl,hv,hb2⟩:=hp
 have HB2:=zh (HB1.out.trans (hb2.mono HB1.out.size))
 have HN2:=zh (HN1.out.stays hb2)
 have HK2:=zh (HK1.out.below hb2)
 have HV2:=zh hv
 obtain ⟨va,vc,rfl,hcl,hty⟩:=hv.tysc
 have HSG:=zh (zqe hty hcl zoh HK2.out HSZ.out HFN.out)
 have hn2:=HN2.out
 unfold zma at HSG
 clear hv hb2 hty
 go_wp2_with ((with_reducible refine zva 25 (.tmp 1) ?_);refine zfa rfl 25 (.tmp 1) rfl w1.heap.size (zaa tr kv) rfl hn2 Tryd.underlying25 rfl Tryd.zca ?_)
 refine HSG.out.mono ?_
 clear HSG hn2
 intro e w3 hp
 rw [HS1.out] at hp
 obtain ⟨rfl,hb3⟩:=hp
 have HB3:=zh (HB2.out.trans (hb3.mono HB2.out.size))
 have HN3:=zh (HN2.out.stays hb3)
 have HK3:=zh (HK2.out.below hb3)
 have HV3:=zh (HV2.out.below hb3)
 obtain ⟨g,cap,rfl,hcap,hcm⟩:∃ g cap,kv=.slice (some ⟨g,0,none⟩) 4 cap∧4≤cap∧cap≤9223372036854775807:=by
  rcases HK1.out.form with ⟨rfl,hnil⟩|⟨g,cap,rfl,hg,h1,h2,_⟩
  ·have:=HKL.out;rw [hnil] at this;cases this
  ·rw [HKL.out] at h1 ⊢
   exact ⟨g,cap,rfl,h1,by unfold maxLen at h2;omega⟩
 have hk4:KAt 25 w3 (tr.kids.take 3) (fun b=>b<w1.heap.size) (.slice (some ⟨g,0,none⟩) 3 cap):=by
  have h:=HK3.out
  rw [← HKL.out] at h
  exact h.take (by omega) (by rw [HKL.out];omega)
 have n34:w3.cell? ⟨w1.heap.size,4,none⟩=some (.slice (some ⟨g,0,none⟩) 4 cap):=HN3.out.cell 4
 have f34:w3.frozen? ⟨w1.heap.size,4,none⟩=false:=(HN3.out.there 4 1 (by simp [zaa]) 0 (by omega)).2
 obtain ⟨W4,hW4⟩:∃ W,w3.setCell ⟨w1.heap.size,4,none⟩ (.slice (some ⟨g,0,none⟩) 3 cap)=W:=⟨_,rfl⟩
 have hrow:W4=w3.setRow w1.heap.size (zaa (tr.head 3) (.slice (some ⟨g,0,none⟩) 3 cap)).toArray:=hW4▸setCell_eq_setRow w3 w1.heap.size 4 _ _ (0,0) _ HN3.out
 have hn4:Blk W4 w1.heap.size (zaa (tr.head 3) (.slice (some ⟨g,0,none⟩) 3 cap)) 25:=hrow▸HN3.out.zna _
 have HB4:=zh (show Below w.heap.size w W4 from hrow▸Below.row HB3.out HWL.out _)
 have hk5:KAt 25 W4 (tr.head 3).kids (fun b=>b<w1.heap.size) (.slice (some ⟨g,0,none⟩) 3 cap):=hrow▸hk4.setRow _ _ (fun b hb=>by omega)
 have hv4:zZb W4 zoo (fun b=>W1.heap.size≤b) (.slice va zoo.length vc):=hrow▸HV3.out.keep fun b hb _=>⟨hb,setRow_other _ _ _ _ (by omega)⟩
 have HSG:=zh (zqe hv4.val.2 hv4.val.1 zoh hk5 (by
  have h1:=HSZ.out
  have h2:tr.size=1+sizes tr.kids:=by cases tr;rw [size_mk];rfl
  have h3:=zVj 3 tr.kids
  show (T.mk tr.kind tr.text tr.num tr.place (tr.kids.take 3)).size≤4096
  rw [size_mk]
  omega) (fun x hx=>HFN.out x (List.mem_of_mem_take hx)))
 unfold zma at HSG
 clear hk4 hk5 hv4 hrow
 go_wp2_with ((with_reducible refine zva 25 (.tmp 1) ?_);refine zfa rfl 25 (.tmp 1) rfl w1.heap.size (zaa (tr.head 3) (.slice (some ⟨g,0,none⟩) 3 cap)) rfl hn4 Tryd.underlying25 rfl Tryd.zca ?_)
 refine HSG.out.mono ?_
 clear HSG hn4 hW4 n34 f34
 intro e w5 hp
 rw [show (tr.head 3).kids=tr.kids.take 3 from rfl,HS2.out] at hp
 obtain ⟨v,rfl,hv,hb5⟩:=hp
 have HB5:=zh (HB4.out.trans (hb5.mono HB4.out.size))
 rcases hv.form with ⟨_,hnil⟩|⟨gs,cs,rfl,hgs,hcs,hcms,hget⟩
 ·cases hnil
 obtain ⟨pv,hr,hp⟩:=hget 0 sg12 rfl
 rcases hp.form zvf with ⟨_,hnil⟩|⟨gp,cp,rfl,hgp,hcp,hcmp,hgetp⟩
 ·cases hnil
 have c1:w5.cell? ⟨gs,1,none⟩=some (.slice (some ⟨gp,0,none⟩) 2 cp):=hr 1 _ rfl
 have c3:w5.cell? ⟨gs,3,none⟩=some (.int .i64 1):=hr 3 _ rfl
 have p0:w5.cell? ⟨gp,0,none⟩=some (.string (bs [118])):=hgetp 0 _ rfl 0 _ rfl
 have p1:w5.cell? ⟨gp,1,none⟩=some (.int .i64 3):=hgetp 0 _ rfl 1 _ rfl
 have p2:w5.cell? ⟨gp,2,none⟩=some (.int .i64 0):=hgetp 0 _ rfl 2 _ rfl
 unfold maxLen at hcms hcmp
 rw [show [sg12].length=1 from rfl] at hcs ⊢
 rw [show sg12.params.length=2 from rfl] at hcp
 unfold bs at p0
 clear hget hr hp hgetp hv hb5
 go_wp2_with fail
 go_ret
 exact ⟨rfl,HB5.out⟩
end Go.Proofs.YtdhmdfhnkppnmaaDoor
namespace Go.Proofs.YtdhmdfhnkppnmaaDoor
open Go.RowKit
theorem zyp {α:Type} {l:List α} {r:E (List α)} {x:List α} (h:pre l r=.ok x):∃ y,r=.ok y∧x=l++y:=by
 cases r with
 | error e=>cases h
 | ok y=>cases h;exact ⟨y,rfl,rfl⟩
theorem zBi {fs:List T} {srt:Int}:∀ (l:List T) {i:Nat} {fl:List (ByteArray × Int)},zYb fs srt i l=.ok fl→fl.length=l.length∧∀ (j:Nat) (f:T),l[j]?=some f→∃ z,zEj fs srt f=.ok z∧fl[j]?=some (f.text,z)
 | [],i,fl,h=>by cases h;exact ⟨rfl,fun j f hf=>by simp at hf⟩
 | n :: r,i,fl,h=>by
  rw [zYb] at h
  cases hb:(zNi (List.take i fs) n.text).isSome
  ·rw [hb] at h
   simp only [cond_false] at h
   cases hz:zEj fs srt n with
   | error e=>rw [hz] at h;cases h
   | ok z =>
    rw [hz] at h
    obtain ⟨y,hy,rfl⟩:=zyp h
    obtain ⟨h1,h2⟩:=zBi r hy
    refine ⟨by simp [h1],fun j f hf=>?_⟩
    cases j with
    | zero =>
     obtain rfl:n=f:=by simpa using hf
     exact ⟨z,hz,rfl⟩
    | succ j =>
     obtain ⟨z',e1,e2⟩:=h2 j f (by simpa using hf)
     exact ⟨z',e1,by simpa using e2⟩
  ·rw [hb] at h;cases h
theorem zIn {tys:List Ty} {n:T} {x:Ty} (h:zGh tys n=.ok x):zDd tys n.text=none∧(zAb n.kids).fields.length≤8∧∃ fl o fc,zYb (zAb n.kids).fields (znb (zAb n.kids).sort.text) 0 (zAb n.kids).fields=.ok fl ∧
  ofP tys (zAb n.kids) (znb (zAb n.kids).sort.text)=.ok o∧zEb (zAb n.kids).fields (znb (zAb n.kids).sort.text) o (zAb n.kids).facts=.ok fc∧x=⟨n.text,znb (zAb n.kids).sort.text,o,fl,fc⟩:=by
 unfold zGh at h
 cases hb:(zDd tys n.text).isSome
 ·rw [hb] at h
  cases hm:decide (8<(zAb n.kids).fields.length)
  ·rw [hm] at h
   simp only [cond_false] at h
   refine ⟨by simpa using hb,by simpa using hm,?_⟩
   cases h1:zYb (zAb n.kids).fields (znb (zAb n.kids).sort.text) 0 (zAb n.kids).fields with
   | error e=>rw [h1] at h;cases h
   | ok fl =>
    rw [h1] at h
    simp only at h
    cases h2:ofP tys (zAb n.kids) (znb (zAb n.kids).sort.text) with
    | error e=>rw [h2] at h;cases h
    | ok o =>
     rw [h2] at h
     simp only at h
     cases h3:zEb (zAb n.kids).fields (znb (zAb n.kids).sort.text) o (zAb n.kids).facts with
     | error e=>rw [h3] at h;cases h
     | ok fc=>rw [h3] at h;cases h;exact ⟨fl,o,fc,rfl,rfl,h3,rfl⟩
  ·rw [hm] at h;cases h
 ·rw [hb] at h;cases h
theorem znn {fs:List T} {srt:Int} {n:T} {z:Int} (h:zEj fs srt n=.ok z):(n.kids.isEmpty=true∧z=-1)∨(n.kids.isEmpty=false∧srt=0∧∃ k:Nat,z=k∧zUf fs (zza n 0).text=some k):=by
 unfold zEj at h
 cases he:n.kids.isEmpty
 ·rw [he] at h
  unfold zZi at h
  right
  cases hs:srt != 0
  ·rw [hs] at h
   cases hn:zUf fs (zza n 0).text with
   | none=>rw [hn] at h;cases h
   | some k=>rw [hn] at h;cases h;exact ⟨rfl,by simpa using hs,k,rfl,rfl⟩
  ·rw [hs] at h;cases h
 ·rw [he] at h;cases h;exact .inl ⟨rfl,rfl⟩
def MkO (n:T) (x:Ty):Prop :=
 x.name=n.text∧x.fields.length=(n.kids.filter (fun t=>t.kind == 3)).length∧∀ (j:Nat) (f:T),(n.kids.filter (fun t=>t.kind == 3))[j]?=some f→∃ z,x.fields[j]?=some (f.text,z)∧decide (0≤z)=!f.kids.isEmpty
theorem zVo {tys:List Ty} {n:T} {x:Ty} (h:zGh tys n=.ok x):MkO n x:=by
 obtain ⟨_,_,fl,o,fc,h1,_,_,rfl⟩:=zIn h
 obtain ⟨hl,hg⟩:=zBi _ h1
 refine ⟨rfl,hl,fun j f hf=>?_⟩
 obtain ⟨z,hz,e⟩:=hg j f hf
 refine ⟨z,e,?_⟩
 rcases znn hz with ⟨e1,rfl⟩|⟨e1,_,k,rfl,_⟩
 ·rw [e1];rfl
 ·rw [e1];simp
inductive zWk {α β:Type} (R:α→β→Prop):List α→List β→Prop
 | nil:zWk R [] []
 | cons {a:α} {b:β} {us:List α} {vs:List β}:R a b→zWk R us vs→zWk R (a :: us) (b :: vs)
theorem zWk.len {α β:Type} {R:α→β→Prop} {us:List α} {vs:List β} (h:zWk R us vs):us.length=vs.length:=by
 induction h with
 | nil=>rfl
 | cons _ _ ih=>simp [ih]
theorem zWk.get {α β:Type} {R:α→β→Prop} {us:List α} {vs:List β} (h:zWk R us vs):∀ (k:Nat) (a:α),us[k]?=some a→∃ b,vs[k]?=some b∧R a b:=by
 induction h with
 | nil=>intro k a hk;simp at hk
 | cons h1 _ ih =>
  intro k a hk
  cases k with
  | zero=>obtain rfl:=Option.some.inj (by simpa using hk);exact ⟨_,rfl,h1⟩
  | succ k=>obtain ⟨b,e,r⟩:=ih k a (by simpa using hk);exact ⟨b,by simpa using e,r⟩
theorem zsi {P:T→Bool}:∀ {l:List T} {k:Nat} {t:T},l[k]?=some t→P t=true→(l.filter P)[((l.take k).filter P).length]?=some t
 | [],k,t,h,_=>by simp at h
 | a :: l,0,t,h,hp=>by
  obtain rfl:a=t:=by simpa using h
  rw [List.filter_cons_of_pos hp]
  rfl
 | a :: l,k+1,t,h,hp=>by
  have ih:=zsi (l:=l) (k:=k) (t:=t) (by simpa using h) hp
  rw [List.take_succ_cons]
  cases ha:P a
  ·rw [List.filter_cons_of_neg (by rw [ha];decide),List.filter_cons_of_neg (by rw [ha];decide)];exact ih
  ·rw [List.filter_cons_of_pos ha,List.filter_cons_of_pos ha];simpa using ih
theorem ztj {P:T→Bool} {l:List T} {k:Nat} {t:T} (h:l[k]?=some t):((l.take (k+1)).filter P).length=((l.take k).filter P).length+(bif P t then 1 else 0):=by
 rw [List.take_add_one,h,List.filter_append]
 cases ht:P t<;>simp [List.filter,ht]
end Go.Proofs.YtdhmdfhnkppnmaaDoor
namespace Go.Proofs.YtdhmdfhnkppnmaaDoor
open Go.RowKit
theorem zPj {α:Type} {nm:α→ByteArray}:∀ {l:List α} {s:ByteArray} {k:Nat},zkf nm l s=some k→∃ t,l[k]?=some t∧(nm t).toList=s.toList
 | [],_,_,h=>by cases h
 | a :: l,s,k,h=>by
  unfold zkf at h
  cases hb:(nm a).toList == s.toList with
  | true=>rw [hb] at h;simp at h;subst h;exact ⟨a,rfl,by simpa using hb⟩
  | false =>
   rw [hb] at h
   simp only [cond_false,Option.map_eq_some_iff] at h
   obtain ⟨j,hj,rfl⟩:=h
   obtain ⟨t,e,h2⟩:=zPj hj
   exact ⟨t,by simpa using e,h2⟩
def TyO (tys:List Ty) (m:T) (p:Prm):Prop:=p.mode=zUa m.text∧((m.kids=[]∧ztb p.mode=false)∨(ztb p.mode=true∧∃ (n:T) (k:Nat) (t:Ty),m.kids=[n]∧p.ty=(k:Int)∧tys[k]?=some t∧t.name.toList=n.text.toList))
theorem zij {tys:List Ty} {m:T} {p:Prm} (hm:zHf m) (h:zEc tys m=some p):TyO tys m p:=by
 rcases hm.2 with ⟨e,hb⟩|⟨n,e,hn,hb⟩
 ·rw [zgg hb] at h
  cases h
  exact ⟨rfl,.inl ⟨e,hb⟩⟩
 ·rw [zuh hb] at h
  simp only [Option.map_eq_some_iff] at h
  obtain ⟨k,hk,rfl⟩:=h
  have e0:zza m 0=n:=by unfold zza;rw [e];rfl
  rw [e0] at hk
  obtain ⟨t,ht,hs⟩:=zPj hk
  exact ⟨rfl,.inr ⟨hb,n,k,t,e,rfl,ht,hs⟩⟩
def PrO (tys:List Ty) (q:T) (p:Prm):Prop:=p.name=q.text∧∃ m,q.kids=[m]∧1≤zUa m.text∧TyO tys m p
theorem zYn {tys:List Ty} {q:T} {l:List Prm} {p:Prm} (hq:zLi q) (h:zOg tys q l=.ok p):PrO tys q p:=by
 obtain ⟨_,m,e,hm,h1⟩:=hq
 have e0:zza q 0=m:=by unfold zza;rw [e];rfl
 unfold zOg at h
 rw [e0] at h
 cases ha:l.any (zxc q.text)
 ·rw [ha] at h
  cases hh:zEc tys m with
  | none=>rw [hh] at h;cases h
  | some p' =>
   rw [hh] at h
   simp only [cond_false] at h
   cases hc:zed tys p' l
   ·rw [hc] at h
    cases h
    exact ⟨rfl,m,e,h1,(zij hm hh).1,(zij hm hh).2⟩
   ·rw [hc] at h;cases h
 ·rw [ha] at h;cases h
theorem zkj {tys:List Ty}:∀ (qs:List T) {l l':List Prm},(∀ q∈qs,zLi q)→zgd tys l qs=.ok l'→∃ zs,l'=l++zs∧zWk (PrO tys) qs zs
 | [],l,l',_,h=>by cases h;exact ⟨[],by simp,.nil⟩
 | q :: r,l,l',hq,h=>by
  rw [zgd] at h
  cases ho:zOg tys q l with
  | error e=>rw [ho] at h;cases h
  | ok p =>
   rw [ho] at h
   obtain ⟨zs,e,ha⟩:=zkj r (fun x hx=>hq x (by simp [hx])) h
   exact ⟨p :: zs,by rw [e];simp,.cons (zYn (hq q (by simp)) ho) ha⟩
theorem zzh {tys:List Ty} {n:T} {s:Sg} (h:zSg tys n=.ok s):(zJc n.kids).params.length≤8∧∃ l r,zgd tys [] (zJc n.kids).params=.ok l∧zEc tys (zJc n.kids).res=some r∧s=⟨n.text,l,r⟩:=by
 unfold zSg at h
 cases hm:decide (8<(zJc n.kids).params.length)
 ·rw [hm] at h
  simp only [cond_false] at h
  refine ⟨by simpa using hm,?_⟩
  cases hp:zgd tys [] (zJc n.kids).params with
  | error e=>rw [hp] at h;cases h
  | ok l =>
   rw [hp] at h
   simp only at h
   cases hh:zEc tys (zJc n.kids).res with
   | none=>rw [hh] at h;cases h
   | some r=>rw [hh] at h;cases h;exact ⟨l,r,rfl,rfl,rfl⟩
 ·rw [hm] at h;cases h
def SgO (tys:List Ty) (n:T) (s:Sg):Prop:=s.name=n.text∧s.params.length≤8∧∃ ps m b,n.kids=ps++[m,b]∧zWk (PrO tys) ps s.params
theorem zXn {tys:List Ty} {n:T} {s:Sg} (hn:zPn n) (h:zSg tys n=.ok s):SgO tys n s:=by
 obtain ⟨h8,l,r,hp,hr,rfl⟩:=zzh h
 obtain ⟨ps,m,b,e,hq,hm,hf⟩:=hn.fp
 rw [hf] at hp h8
 obtain ⟨zs,e2,ha⟩:=zkj ps hq hp
 obtain rfl:l=zs:=by simpa using e2
 exact ⟨rfl,by rw [← ha.len];exact h8,ps,m,b,e,ha⟩
theorem zVh {tys:List Ty} {R:T→Sg→Prop} (hR:∀ n s,zPn n→zSg tys n=.ok s→R n s):∀ (ks:List T) {l l':List Sg},(∀ x∈ks,zje x)→zFc tys l ks=.ok l'→∃ zs,l'=l++zs∧zWk R (ks.filter (fun t=>t.kind == 6)) zs
 | [],l,l',_,h=>by cases h;exact ⟨[],by simp,.nil⟩
 | n :: r,l,l',hf,h=>by
  rw [zFc] at h
  cases hk:n.kind == 6
  ·rw [hk] at h
   obtain ⟨zs,e,ha⟩:=zVh hR r (fun x hx=>hf x (by simp [hx])) h
   exact ⟨zs,e,by rw [show (n :: r).filter (fun t=>t.kind == 6)=r.filter (fun t=>t.kind == 6) by simp [List.filter,hk]];exact ha⟩
  ·rw [hk] at h
   simp only [cond_true] at h
   cases ho:zSg tys n with
   | error e=>rw [ho] at h;cases h
   | ok x =>
    rw [ho] at h
    obtain ⟨zs,e,ha⟩:=zVh hR r (fun x hx=>hf x (by simp [hx])) h
    exact ⟨x :: zs,by rw [e];simp,by rw [show (n :: r).filter (fun t=>t.kind == 6)=n :: r.filter (fun t=>t.kind == 6) by simp [List.filter,hk]];exact .cons (hR n x (hf n (by simp) (beq_iff_eq.1 hk)) ho) ha⟩
theorem zpo (s:ByteArray):(zUa s == 1)=(s.toList == [105,110,116]):=by
 unfold zUa
 generalize s.toList=l
 by_cases h1:l=[105,110,116]
 ·subst h1;rfl
 ·have e1:(l == [105,110,116])=false:=by simpa using h1
  rw [e1]
  cases l == [111,119,110]<;>cases l == [38]<;>cases l == [38,109,117,116]<;>rfl
theorem zBo (s:ByteArray):(zUa s == 2)=(s.toList == [111,119,110]):=by
 unfold zUa
 generalize s.toList=l
 by_cases h1:l=[111,119,110]
 ·subst h1;rfl
 ·have e1:(l == [111,119,110])=false:=by simpa using h1
  rw [e1]
  cases l == [105,110,116]<;>cases l == [38]<;>cases l == [38,109,117,116]<;>rfl
theorem zno (s:ByteArray):(zUa s == 4)=(s.toList == [38,109,117,116]):=by
 unfold zUa
 generalize s.toList=l
 by_cases h1:l=[38,109,117,116]
 ·subst h1;rfl
 ·have e1:(l == [38,109,117,116])=false:=by simpa using h1
  rw [e1]
  cases l == [105,110,116]<;>cases l == [111,119,110]<;>cases l == [38]<;>rfl
theorem zid:∀ (l:List T) {tys tys':List Ty},(∀ x∈l,zlf x)→(∀ t∈tys,t.name.size≤16)→zGb tys l=.ok tys'→∀ t∈tys',t.name.size≤16
 | [],tys,tys',_,ht,h=>by cases h;exact ht
 | n :: r,tys,tys',hd,ht,h=>by
  rw [zGb] at h
  cases hk:n.kind == 1
  ·rw [hk] at h
   exact zid r (fun x hx=>hd x (by simp [hx])) ht h
  ·rw [hk] at h
   simp only [cond_true] at h
   cases ho:zGh tys n with
   | error e=>rw [ho] at h;cases h
   | ok x =>
    rw [ho] at h
    refine zid r (fun x hx=>hd x (by simp [hx])) (fun t h2=>?_) h
    rcases List.mem_append.1 h2 with h2|h2
    ·exact ht t h2
    ·obtain rfl:t=x:=by simpa using h2
     rw [(zVo ho).1]
     exact zxd (hd n (by simp) (beq_iff_eq.1 hk)).1
end Go.Proofs.YtdhmdfhnkppnmaaDoor
namespace Go.Proofs.YtdhmdfhnkppnmaaDoor
open Go.RowKit
def zve {α:Type} (r:E α):Prop:=∀ p c,r=.error (p,c)→22≤c∧c≤33
theorem zMd {α:Type} (a:α):zve (.ok a:E α):=fun p c h=>by cases h
theorem zFb {α:Type} {q:Nat} {d:Int} (h:22≤d∧d≤33):zve (.error (q,d):E α):=fun p c e=>by cases e;exact h
theorem zTj {α:Type} {l:List α} {r:E (List α)} (h:zve r):zve (pre l r):=fun p c e=>by
 cases r with
 | ok a=>cases e
 | error q=>exact h p c (by simpa [pre] using e)
theorem zBn {fs:List T} {srt:Int} {n:T}:zve (zEj fs srt n):=by
 unfold zEj zZi
 cases n.kids.isEmpty
 ·cases (srt != 0 || (zUf fs (zza n 0).text).isNone)
  ·exact zMd _
  ·exact zFb (by decide)
 ·exact zMd _
theorem zgi {fs:List T} {srt:Int}:∀ (l:List T) (i:Nat),zve (zYb fs srt i l)
 | [],i=>zMd _
 | n :: r,i=>by
  rw [zYb]
  cases (zNi (List.take i fs) n.text).isSome
  ·simp only [cond_false]
   cases h:zEj fs srt n with
   | error e=>obtain ⟨p,c⟩:=e;exact zFb (zBn p c h)
   | ok z=>exact zTj (zgi r (i+1))
  ·exact zFb (by decide)
theorem zto {tys:List Ty} {p:Pt} {srt:Int}:zve (ofP tys p srt):=by
 unfold ofP
 cases (srt == 2 || srt == 3)
 ·cases srt == 4
  ·exact zMd _
  ·simp only [cond_false,cond_true]
   cases zDd tys (zza p.sort 0).text with
   | none=>exact zFb (by decide)
   | some k =>
    simp only
    cases (tys[k]?.map (·.sort)).getD 0 != 3
    ·cases (!p.fields.isEmpty || !p.facts.isEmpty)
     ·exact zMd _
     ·exact zFb (by decide)
    ·exact zFb (by decide)
 ·simp only [cond_true]
  cases zUf p.fields (zza p.sort 0).text with
  | none=>exact zFb (by decide)
  | some k=>exact zMd _
theorem zhh {fs:List T} {srt of:Int}:∀ l:List T,zve (zEb fs srt of l)
 | []=>zMd _
 | n :: r=>by
  rw [zEb]
  cases h:zZf fs srt of n with
  | error e =>
   obtain ⟨p,c⟩:=e
   unfold zZf at h
   split at h
   ·cases h
   ·cases h;exact zFb (by decide)
  | ok l=>exact zTj (zhh r)
theorem ztn {tys:List Ty} {n:T}:zve (zGh tys n):=by
 unfold zGh
 cases (zDd tys n.text).isSome
 ·cases decide (8<(zAb n.kids).fields.length)
  ·simp only [cond_false]
   cases h1:zYb (zAb n.kids).fields (znb (zAb n.kids).sort.text) 0 (zAb n.kids).fields with
   | error e=>obtain ⟨p,c⟩:=e;exact zFb (zgi _ _ p c h1)
   | ok fl =>
    simp only
    cases h2:ofP tys (zAb n.kids) (znb (zAb n.kids).sort.text) with
    | error e=>obtain ⟨p,c⟩:=e;exact zFb (zto p c h2)
    | ok o =>
     simp only
     cases h3:zEb (zAb n.kids).fields (znb (zAb n.kids).sort.text) o (zAb n.kids).facts with
     | error e=>obtain ⟨p,c⟩:=e;exact zFb (zhh _ p c h3)
     | ok fc=>exact zMd _
  ·exact zFb (by decide)
 ·exact zFb (by decide)
theorem zne:∀ (l:List T) (tys:List Ty),zve (zGb tys l)
 | [],tys=>zMd _
 | n :: r,tys=>by
  rw [zGb]
  cases n.kind == 1
  ·exact zne r tys
  ·simp only [cond_true]
   cases h:zGh tys n with
   | error e=>obtain ⟨p,c⟩:=e;exact zFb (ztn p c h)
   | ok x=>exact zne r _
end Go.Proofs.YtdhmdfhnkppnmaaDoor
