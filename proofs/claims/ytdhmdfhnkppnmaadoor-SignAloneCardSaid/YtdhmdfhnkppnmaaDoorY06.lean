/- Plain facts on the account of lex.Tokens: what a token hangs on is the bytes from its place on, of these its own bytes and the one behind them. Nothing of the program is walked here. Plain facts on faults: what stands ahead of the first fault is read without one, and what begins at its place has it at once. Nothing of the program is walked here. -/
import Derived.Test.YtdhmdfhnkppnmaaDoorY02
import Derived.Test.YtdhmdfhnkppnmaaDoorY05
import Derived.Test.YtdhmdfhnkppnmaaDoorY04
import Derived.Maps.RangeRun
import Derived.MapKept
namespace Go.Proofs.YtdhmdfhnkppnmaaDoor
section
open Go.RowKit
end
section
open Go.RowKit
theorem zSi {s:ByteArray} {P:Nat→zXe→Prop}
  (hend:∀ k,s.size≤k→P k (.ok [zcf s]))
  (hblank:∀ k,k<s.size→zLb (bat s k)=true→P (k+1) (lexFrom s (k+1))→P k (lexFrom s (k+1)))
  (hrem:∀ k,k<s.size→bat s k=35→P (endOf zAk s k) (lexFrom s (endOf zAk s k))→P k (lexFrom s (endOf zAk s k)))
  (herr:∀ k e,k<s.size→zLb (bat s k)=false→¬ bat s k=35→zLc s k=.error e→P k (.error (k,e)))
  (htok:∀ k t,k<s.size→zLb (bat s k)=false→¬ bat s k=35→zLc s k=.ok t→P (k+t.text.size) (lexFrom s (k+t.text.size))→P k (more [t] (lexFrom s (k+t.text.size)))) :
  ∀ k,P k (lexFrom s k):=by
 intro k
 generalize hm:s.size-k=m
 induction m using Nat.strongRecOn generalizing k with
 | ind m ih =>
  rcases Nat.lt_or_ge k s.size with hk|hk
  ·cases hb:zLb (bat s k)
   ·by_cases hr:bat s k=35
    ·rw [zih hk hr]
     have:=zee hk hr
     exact hrem k hk hr (ih _ (by omega) _ rfl)
    ·cases ht:zLc s k with
     | error e=>rw [zgm hk hb hr ht];exact herr k e hk hb hr ht
     | ok t =>
      rw [zbl hk hb hr ht]
      have:=(zvd hk ht).1
      exact htok k t hk hb hr ht (ih _ (by omega) _ rfl)
   ·rw [zkg hk hb]
    exact hblank k hk hb (ih _ (by omega) _ rfl)
  ·rw [zAm hk]
   exact hend k hk
theorem zOk {ts:List Tok} {r:zXe} {x:Nat × Int} (h:more ts r=.error x):r=.error x:=by
 cases r with
 | error e=>exact h
 | ok t=>cases h
theorem zkl {s:ByteArray} {k:Nat} {e:Int}:∀ j,lexFrom s j=.error (k,e)→j≤k∧k<s.size∧zLb (bat s k)=false∧¬ bat s k=35∧zLc s k=.error e:=by
 apply zSi (P:=fun j r=>r=.error (k,e)→j≤k∧k<s.size∧zLb (bat s k)=false∧¬ bat s k=35∧zLc s k=.error e)
 ·intro j _ h;cases h
 ·intro j _ _ ih h
  have:=ih h
  exact ⟨by omega,this.2⟩
 ·intro j hj hb ih h
  have:=ih h
  have h2:=zee hj hb
  exact ⟨by omega,this.2⟩
 ·intro j e' hj hb hr ht h
  cases h
  exact ⟨Nat.le_refl _,hj,hb,hr,ht⟩
 ·intro j t hj hb hr ht ih h
  have:=ih (zOk h)
  have h2:=(zvd hj ht).1
  exact ⟨by omega,this.2⟩
end
end Go.Proofs.YtdhmdfhnkppnmaaDoor
namespace Go.Proofs.YtdhmdfhnkppnmaaDoor
section
open Go.RowKit
section
variable {P:Program} {ops:Array Oper} {Q:Exit→Act→World→Prop} {md:Region.Mode} {S:World→Prop}
theorem AnyH.one {i:Nat} {o:Oper} {fuel:Nat} {listed:Array Bool} {a:Act} {w:World} (hr:Region.ready md ops listed=[i]) (ho:ops[i]?=some o) (hw:Region.wanted o (yielded ops a.tmps)=true)
  (h:∀ K:Act→World→Prop,Shut (∀ a w,S w→wpAnyH P md ops Q S fuel (listed.setIfInBounds i true) a w→K a w)→o.wp P a w K Q):wpAnyH P md ops Q S (fuel+1) listed a w:=by
 refine ⟨(fun h0=>by rw [hr] at h0;cases h0),fun j hj=>?_⟩
 rw [hr] at hj
 obtain rfl:j=i:=by simpa using hj
 refine wpOp_step ho fun K' hK=>?_
 rw [if_pos hw]
 exact h K' fun a w hS hA=>hK a w ⟨hS,hA⟩
end
mutual
def zUj (b:Bool):T→T→Bool
 | .mk k s n p ks,u=>!(k != u.kind) && (s.toList == u.text.toList && (!(n != u.num) && (!(b && (p != u.place)) && (!(ks.length != u.kids.length) && zfe b ks u.kids))))
def zfe (b:Bool):List T→List T→Bool
 | [],_=>true
 | t :: ts,us=>match us with
  | []=>false
  | u :: us'=>zUj b t u && zfe b ts us'
end
theorem zjj (b:Bool) (t u:T) (ts us:List T):zfe b (t :: ts) (u :: us)=(zUj b t u && zfe b ts us):=by rw [zfe]
theorem KAt.len {e:TypeId} {w:World} {ks:List T} {S:Nat→Prop} {v:Value} (h:KAt e w ks S v):∃ a c,v=.slice a ks.length c:=by
 obtain ⟨_,ho,_⟩:=h
 rcases ho.2 with ⟨rfl,h0⟩|⟨g,cap,_,rfl,_⟩
 ·exact ⟨none,0,by rw [h0]⟩
 ·exact ⟨_,_,rfl⟩
mutual
theorem TR.alike {ρ:Nat→Nat→Prop} {b:Bool} (hb:b=true→∀ p q,ρ p q→p=q):∀ {t u:T},TR ρ t u→zUj b t u=true
 | .mk k s n p ks,u,h=>by
  unfold TR at h
  obtain ⟨h1,h2,h3,h4,h5⟩:=h
  have h6:ks.length=u.kids.length:=TsR.len h5
  have h7:zfe b ks u.kids=true:=TsR.alike hb h5
  rw [zUj,h7,← h1,← h2,← h3,← h6]
  cases b
  ·simp
  ·rw [← hb rfl _ _ h4];simp
theorem TsR.alike {ρ:Nat→Nat→Prop} {b:Bool} (hb:b=true→∀ p q,ρ p q→p=q):∀ {ts us:List T},TsR ρ ts us→zfe b ts us=true
 | [],us,h=>by rw [zfe]
 | t :: ts,us,h=>by
  unfold TsR at h
  obtain ⟨u,us',rfl,h1,h2⟩:=h
  rw [zjj,TR.alike hb h1,TsR.alike hb h2]
  rfl
theorem TsR.len {ρ:Nat→Nat→Prop}:∀ {ts us:List T},TsR ρ ts us→ts.length=us.length
 | [],us,h=>by unfold TsR at h;rw [h]
 | t :: ts,us,h=>by
  unfold TsR at h
  obtain ⟨u,us',rfl,_,h2⟩:=h
  simp [TsR.len h2]
end
mutual
theorem TR.size {ρ:Nat→Nat→Prop}:∀ {t u:T},TR ρ t u→t.size=u.size
 | .mk k s n p ks,u,h=>by
  unfold TR at h
  obtain ⟨h1,h2,h3,h4,h5⟩:=h
  cases u
  rw [size_mk,size_mk,TsR.sizes h5]
  rfl
theorem TsR.sizes {ρ:Nat→Nat→Prop}:∀ {ts us:List T},TsR ρ ts us→Go.Proofs.YtdhmdfhnkppnmaaDoor.sizes ts=Go.Proofs.YtdhmdfhnkppnmaaDoor.sizes us
 | [],us,h=>by unfold TsR at h;rw [h]
 | t :: ts,us,h=>by
  unfold TsR at h
  obtain ⟨u,us',rfl,h1,h2⟩:=h
  rw [zta,zta,TR.size h1,TsR.sizes h2]
end
end
section
open Go.RowKit
end
section
open Go.RowKit
end
section
open Go.RowKit
theorem Al.append {ρ:Nat→Nat→Prop} {a a' b b':List Tok} (h:Al ρ a a') (h':Al ρ b b'):Al ρ (a++b) (a'++b'):=by
 induction h with
 | nil=>exact h'
 | cons ht _ ih=>exact .cons ht ih
theorem Al.length {ρ:Nat→Nat→Prop} {a a':List Tok} (h:Al ρ a a'):a.length=a'.length:=by
 induction h with
 | nil=>rfl
 | cons _ _ ih=>simp [ih]
end
section
open Go.RowKit
theorem Al.refl:∀ c:List Tok,Al Eq c c
 | []=>.nil
 | _ :: c=>.cons ⟨rfl,rfl,rfl,rfl⟩ (Al.refl c)
end
end Go.Proofs.YtdhmdfhnkppnmaaDoor
namespace Go.Proofs.YtdhmdfhnkppnmaaDoor
set_option maxRecDepth 100000
set_option maxHeartbeats 1000000
section
open Go.RowKit
open Go.ChangeMaps (setBlock)
theorem zFf (w:World) (o o':Obj):setBlock (w.alloc o) w.heap.size o'=w.alloc o':=by
 unfold setBlock
 show ({ w.alloc o with heap:=(w.heap.push o).setIfInBounds w.heap.size o' }:World)=_
 have hp:(w.heap.push o).setIfInBounds w.heap.size o'=w.heap.push o':=by
  apply Array.toList_inj.1
  simp
 rw [hp]
 rfl
theorem zOl {P:Program} {w:World} {t kt et:TypeId} {r:Nat} {es:Array MapEntry} {clock:Nat} {k:ByteArray} {v:Value} (ht:P.underlying t=some (.map kt et)) (hk:P.underlying kt=some .string)
  (hb:w.heap[r]?=some (.map es clock)) (hf:Instr.findNow .string (.string k) es.toList 0=some none) :
  (Instr.mapUpdate t (.map (some r)) (.string k) v).run P w=.ok () (setBlock w r (.map (es.push ⟨.string k,v,clock⟩) (clock+1))):=by
 have h1:=MapKept.run_checkKey (P:=P) (w:=w) (k:=.string k) hk (by first|exact trivial|exact ⟨_,rfl⟩|rfl|simp [MapKept.IsKey]) false 9999
 have h2:=MapKept.run_findKey (P:=P) (w:=w) (kt:=kt) (k:=.string k) (l:=es.toList) hk hf
 have h3:=MapKept.run_getObj_map (P:=P) (w:=w) hb
 have h4:∀ o',(setObj r o').run P w=.ok () (setBlock w r o'):=fun o'=>by simp [setObj,Sem.run,hb,setBlock]
 simp [Instr.mapUpdate,run_underlying ht,h1,h2,h3,h4]
def zEh:MapEntry:=⟨.string ⟨#[43]⟩,.agg #[.int .i64 21,.int .i64 1],0⟩
def zJi:MapEntry:=⟨.string ⟨#[45]⟩,.agg #[.int .i64 22,.int .i64 (-1)],1⟩
def zXb:Array MapEntry:=#[zEh,zJi]
theorem zSm (w:World):Calls Tryd.prog 95 #[] w fun e w'=>e=.returned (.map (some w.heap.size))∧w'=w.alloc (.map zXb 2):=by
 have h1:(Instr.mapUpdate 141 (.map (some w.heap.size)) (.string ⟨#[43]⟩) (.agg #[.int .i64 21,.int .i64 1])).run Tryd.prog (w.alloc (.map #[] 0))=.ok () (w.alloc (.map #[zEh] 1)):=by
  have:=zOl (P:=Tryd.prog) (w:=w.alloc (.map #[] 0)) (r:=w.heap.size) (es:=#[]) (clock:=0) (k:=⟨#[43]⟩) (v:=.agg #[.int .i64 21,.int .i64 1]) Tryd.underlying141 Tryd.underlying9 (heap_alloc_new w _) rfl
  rw [zFf] at this
  exact this
 have h2:(Instr.mapUpdate 141 (.map (some w.heap.size)) (.string ⟨#[45]⟩) (.agg #[.int .i64 22,.int .i64 (-1)])).run Tryd.prog (w.alloc (.map #[zEh] 1))=.ok () (w.alloc (.map zXb 2)):=by
  have:=zOl (P:=Tryd.prog) (w:=w.alloc (.map #[zEh] 1)) (r:=w.heap.size) (es:=#[zEh]) (clock:=1) (k:=⟨#[45]⟩) (v:=.agg #[.int .i64 22,.int .i64 (-1)]) Tryd.underlying141 Tryd.underlying9 (heap_alloc_new w _) (by kernel_rfl)
  rw [zFf] at this
  exact this
 have h0:(Instr.makeMap 141 none).run Tryd.prog w=.ok (.map (some w.heap.size)) (w.alloc (.map #[] 0)):=rfl
 go_enter Tryd.func95,Tryd.ntmps95
 go_wp2
 go_ret
 exact ⟨rfl,rfl⟩
theorem zhc (w:World) (r k:Nat) (o:Obj) (h:k≠r):(setBlock w r o).heap[k]?=w.heap[k]?:=by
 unfold setBlock
 simp [Ne.symm h]
theorem heap_setBlock_same (w:World) (r:Nat) (o:Obj) (h:r<w.heap.size):(setBlock w r o).heap[r]?=some o:=by
 unfold setBlock
 simp [h]
theorem Run.setBlock {E:Env} {w W:World} {l:List Tok} {d:Nat} (h:Run E w W l d) {r:Nat} (hr:w.heap.size≤r) (o:Obj):Run E w (ChangeMaps.setBlock W r o) l d :=
 ⟨⟨h.kp.os,h.kp.tape,h.kp.output,by simpa [ChangeMaps.setBlock] using h.kp.size,fun k hk hn=>(zhc W r k o (by omega)).trans (h.kp.block k hk hn)⟩,
  h.st.same (by simp [ChangeMaps.setBlock]) (zhc _ _ _ _ (by have:=h.lo;omega)) (zhc _ _ _ _ (by have:=h.lt;omega)),h.lo,h.lt⟩
theorem Run.drew {E:Env} {w W:World} {l:List Tok} {d:Nat} (h:Run E w W l d):Run E w W.drew l d:=⟨h.kp.drew,h.st.same (Nat.le_refl _) rfl rfl,h.lo,h.lt⟩
theorem zhi {e:MapEntry} (h:e∈zXb.toList):e=zEh∨e=zJi:=by
 simpa [zXb] using h
theorem zAj {e:MapEntry} {seen:Array Nat} (h:e∈(leftOf zXb seen).toList):e∈zXb.toList∧e.born ∉ seen:=by
 simp only [leftOf,Array.toList_filter,List.mem_filter] at h
 exact ⟨h.1,by simpa using h.2⟩
theorem zYh {seen:Array Nat} (h:(leftOf zXb seen).size=0):0∈seen∧1∈seen:=by
 have h0:leftOf zXb seen=#[]:=Array.eq_empty_of_size_eq_zero h
 unfold leftOf at h0
 rw [Array.filter_eq_empty_iff] at h0
 have h1:=h0 zEh (by simp [zXb])
 have h2:=h0 zJi (by simp [zXb])
 exact ⟨by simpa [zEh] using h1,by simpa [zJi] using h2⟩
theorem zhg (seen:Array Nat):(leftOf zXb seen).size=(zXb.toList.filter fun x=>!seen.contains x.born).length:=by
 unfold leftOf
 rw [← Array.toList_filter,Array.length_toList]
theorem zql {e:MapEntry} {seen:Array Nat} (h:e∈(leftOf zXb seen).toList):(leftOf zXb (seen.push e.born)).size<(leftOf zXb seen).size:=by
 have hm:=zAj h
 rw [zhg,zhg]
 refine filter_lt (fun x:MapEntry=>!seen.contains x.born) (fun x:MapEntry=>!(seen.push e.born).contains x.born) (fun x hx=>?_) e (by simpa using hm.2) (by simp) zXb.toList hm.1
 simp at hx ⊢
 exact hx.1
def znp (E:Env) (w:World) (l:List Tok) (d:Nat) (g:Nat) (wr:World):Prop :=
 ∃ seen:Array Nat,Run E w wr l d∧Blk wr w.heap.size [.int .i64 0,.int .i64 0] 137∧wr.heap[w.heap.size+1]?=some (.map zXb 2)∧wr.heap[w.heap.size+2]?=some (.mapIter (some (w.heap.size+1)) 2 seen 2) ∧
  (0∈seen→isT (hdT l) (bs [43])=false)∧(1∈seen→isT (hdT l) (bs [45])=false)∧(leftOf zXb seen).size≤g
def zHo (E:Env) (w:World) (l:List Tok) (d:Nat) (e:Ending) (w':World):Prop :=
 (sumP l=none∧e=.returned (.tuple #[.agg #[.int .i64 0,.int .i64 0],.bool false])∧PSt E w' l d∧Kp E.pb w w') ∨
 ∃ k f,sumP l=some (k,f)∧(f=1∨f=-1)∧e=.returned (.tuple #[.agg #[.int .i64 k,.int .i64 f],.bool true])∧PSt E w' l.tail d∧Kp E.pb w w'
theorem zNh {P:Program} {fn:Func} {s u:Tmp} {ty t:TypeId} (h:fn.results=#[.cell s ty,.tmp u]) {a:Act} {W:World} {g:Nat} {old cs:List Value} {d:TypeDesc} {R:Ending→World→Prop} {x:Value} (hs:a.tmps.getD s undef=.pointer (some ⟨g,0,none⟩))
  (hb:Blk W g old t) (hu:P.underlying ty=some d) (hd:d.isRow=true) (hi:(P.info? ty).map (·.size)=some cs.length) (hx:a.tmps.getD u undef=x) (hdf:a.defers=[]) (hR:R (.returned (.tuple #[.agg cs.toArray,x])) (W.setRow g cs.toArray)) :
  bodyPost P fn R .ret a (W.setRow g cs.toArray):=by
 refine bodyPost_ret ?_ hdf hR
 have hl:=run_loadVar_mid (P:=P) (W.setRow g cs.toArray) g 0 ty cs d (fun j v hj=>by rw [Nat.zero_add,(hb.zna cs).cell j];exact hj) hu hd hi
 have hs':a.tmps[s]?.getD undef=.pointer (some ⟨g,0,none⟩):=by rw [← hs];simp
 have hx':a.tmps[u]?.getD undef=x:=by rw [← hx];simp
 simp [results,h,hs',asAddr,hl,hx']
theorem zOo {t:Tok} {s s':ByteArray} (h:isT t s=true) (h':isT t s'=true):s.toList=s'.toList:=by
 unfold isT at h h'
 rw [← beq_iff_eq.1 h,← beq_iff_eq.1 h']
theorem Tryd.zie:(Tryd.prog.info? 137).map (·.size)=some 2:=by kernel_rfl
theorem zUe {E:Env} {w:World} {l:List Tok} {d:Nat} (h:PSt E w l d) :
  Calls Tryd.prog 90 #[.pointer (some ⟨E.pb,0,none⟩)] w (zHo E w l d):=by
 have HR0:=zh ((((Run.start h).alloc (.cells #[.int .i64 0,.int .i64 0] 137)).alloc (.map zXb 2)).alloc (.mapIter (some (w.heap.size+1)) 2 #[] 2))
 have HB0:=zh (((Blk.new w [.int .i64 0,.int .i64 0] 137).alloc (.map zXb 2)).alloc (.mapIter (some (w.heap.size+1)) 2 #[] 2))
 have hlo:=h.plt
 have hlt:=h.tlt
 have hln:=h.len
 clear h
 have hrg:=run_range_map (P:=Tryd.prog) ((w.alloc (.cells #[.int .i64 0,.int .i64 0] 137)).alloc (.map zXb 2)) 141 9 137 (w.heap.size+1) zXb 2 Tryd.underlying141
  (by have:=heap_alloc_new (w.alloc (.cells #[.int .i64 0,.int .i64 0] 137)) (.map zXb 2);simpa using this)
 rw [show ((w.alloc (.cells #[.int .i64 0,.int .i64 0] 137)).alloc (.map zXb 2)).heap.size=w.heap.size+2 by simp] at hrg
 go_enter Tryd.func90,Tryd.ntmps90
 go_wp2_with fail
 refine (zSm _).mono ?_
 rintro e w1 ⟨rfl,rfl⟩
 go_wp2_with fail
 clear hrg
 go_loopg [4] 2 (fun g _ wr=>znp E w l d g wr)
 case atStart =>
  refine ⟨#[],HR0.out,HB0.out,?_,?_,by simp,by simp,by rw [zhg];exact Nat.le_trans (List.length_filter_le _ _) (Nat.le_refl _)⟩
  ·have:=heap_alloc_new (w.alloc (.cells #[.int .i64 0,.int .i64 0] 137)) (.map zXb 2)
   rw [Below.heap_alloc _ _ _ (by simp)]
   simpa using this
  ·have:=heap_alloc_new ((w.alloc (.cells #[.int .i64 0,.int .i64 0] 137)).alloc (.map zXb 2)) (.mapIter (some (w.heap.size+1)) 2 #[] 2)
   simpa using this
 case round =>
  obtain ⟨seen,hR,hB,hm,hi,h0,h1,hg⟩:=hrel
  have law:=run_next_at (P:=Tryd.prog) wr 0 (w.heap.size+2) (w.heap.size+1) 2 2 seen zXb 2 hi hm (by intro x hx;rcases zhi hx with rfl|rfl<;>decide) (Nat.le_refl _)
  have HR:=zh hR
  have HB:=zh hB
  have HM:=zh hm
  have HI:=zh hi
  have HH0:=zh h0
  have HH1:=zh h1
  have hsz:w.heap.size+2<wr.heap.size:=(Array.getElem?_eq_some_iff.1 hi).1
  clear hR hB hm hi h0 h1 HR0 HB0
  rcases law with ⟨hz,hrun⟩|⟨e,he,w1,hal,hrun⟩
  ·have hnx:∀ ty,(Instr.next (.pointer (some ⟨w.heap.size+2,0,none⟩)) false ty).run Tryd.prog wr=_:=fun _=>hrun
   have HP:=zh (show sumP l=none by unfold sumP;rw [HH0.out (zYh hz).1,HH1.out (zYh hz).2];rfl)
   clear hrun hz hg
   go_wp2_with ((with_reducible refine zra 137 (.tmp 2) ?_);refine zea rfl 137 (.tmp 2) (.tmp 17) rfl w.heap.size [.int .i64 0,.int .i64 0] rfl rfl HB.out Tryd.zie rfl (by simp [Value.oneCell']) ?_)
   exact zNh (cs:=[.int .i64 0,.int .i64 0]) Tryd.results90 rfl HB.out Tryd.underlying137 rfl Tryd.zie rfl rfl
    (.inl ⟨HP.out,rfl,(HR.out.setRow (Nat.le_refl _) _).st,(HR.out.setRow (Nat.le_refl _) _).kp⟩)
  ·have hmem:=zAj he
   have HW:=zh (zql he)
   have hR1:Run E w w1 l d:=hal.elim (fun e=>e▸HR.out) (fun e=>e▸HR.out.drew)
   have hB1:Blk w1 w.heap.size [.int .i64 0,.int .i64 0] 137:=hal.elim (fun e=>e▸HB.out) (fun e=>e▸HB.out)
   have hM1:w1.heap[w.heap.size+1]?=some (.map zXb 2):=hal.elim (fun e=>e▸HM.out) (fun e=>e▸HM.out)
   have hI1:w.heap.size+2<w1.heap.size:=hal.elim (fun e=>e▸hsz) (fun e=>e▸hsz)
   generalize hw2:setBlock w1 (w.heap.size+2) (.mapIter (some (w.heap.size+1)) 2 (seen.push e.born) 2)=w2 at hrun
   have hR2:Run E w w2 l d:=by rw [← hw2];exact hR1.setBlock (by omega) _
   have hB2:Blk w2 w.heap.size [.int .i64 0,.int .i64 0] 137:=by rw [← hw2];exact (zhc _ _ _ _ (by omega)).trans hB1
   have hM2:w2.heap[w.heap.size+1]?=some (.map zXb 2):=by rw [← hw2];exact (zhc _ _ _ _ (by omega)).trans hM1
   have hI2:w2.heap[w.heap.size+2]?=some (.mapIter (some (w.heap.size+1)) 2 (seen.push e.born) 2):=by rw [← hw2];exact heap_setBlock_same _ _ _ hI1
   have hent:=run_entry_at (P:=Tryd.prog) w2 (w.heap.size+2) (w.heap.size+1) 2 seen zXb 2 e hI2 hM2 hmem.1 (by decide)
   have hnx:∀ ty,(Instr.next (.pointer (some ⟨w.heap.size+2,0,none⟩)) false ty).run Tryd.prog wr=_:=fun _=>hrun
   have HR2:=zh hR2
   have HB2:=zh hB2
   have HM2:=zh hM2
   have HI2:=zh hI2
   have HG:=zh hg
   have hsz2:w.heap.size<w2.heap.size:=hB2.lt
   clear hrun hw2 hR2 hB2 hM2 hI2 hR1 hB1 hM1 hI1 hal hg HR HB HM HI he w1
   rcases zhi hmem.1 with rfl|rfl
   ·clear hmem
    unfold zEh at hent hnx HI2 HW
    simp only [] at hent hnx HI2 HW
    cases hi:isT (hdT l) (bs [43]) with
    | false =>
     have HN:=zh hi
     clear hi
     go_wp2_with fail
     refine (zFa (HR2.out.alloc _).st HN.out).mono ?_
     rintro e w3 ⟨rfl,hb⟩
     have HR3:=zh ((HR2.out.alloc _).below hb)
     have HB3:=zh ((HB2.out.alloc _).kp (Kp.of_below (pb:=E.pb) hb) (by omega))
     have HM3:=zh ((hb.block _ (by have:=(Array.getElem?_eq_some_iff.1 HM2.out).1;simp;omega)).trans ((Below.heap_alloc _ _ _ (Array.getElem?_eq_some_iff.1 HM2.out).1).trans HM2.out))
     have HI3:=zh ((hb.block _ (by have:=(Array.getElem?_eq_some_iff.1 HI2.out).1;simp;omega)).trans ((Below.heap_alloc _ _ _ (Array.getElem?_eq_some_iff.1 HI2.out).1).trans HI2.out))
     clear hb hent hnx
     go_wp2
     go_roundg (gk-1)
     case measure=>have:=HG.out;have:=HW.out;omega
     case rel=>exact ⟨seen.push 0,HR3.out,HB3.out,HM3.out,HI3.out,fun _=>HN.out,fun hx=>HH1.out (by simpa using hx),by have:=HG.out;have:=HW.out;omega⟩
    | true =>
     have HN:=zh hi
     have HP:=zh (show sumP l=some (21,1) by unfold sumP;rw [HN.out];rfl)
     clear hi
     go_wp2_with fail
     refine (zBa (HR2.out.alloc _).st HN.out (by decide)).mono ?_
     rintro e w3 ⟨rfl,hs,hk⟩
     have HR3:=zh ((HR2.out.alloc _).call hk hs)
     have HB3:=zh ((HB2.out.alloc _).kp hk (by omega))
     have HC3:=zh ((Blk.new w2 [.int .i64 21,.int .i64 (1)] 137).kp hk (by omega))
     clear hs hk hent hnx
     go_wp2_with (first|((with_reducible refine zva 137 (.tmp 5) ?_);refine zfa rfl 137 (.tmp 5) rfl w2.heap.size [.int .i64 21,.int .i64 (1)] rfl HC3.out Tryd.underlying137 rfl Tryd.zie ?_)|((with_reducible refine zra 137 (.tmp 2) ?_);refine zea rfl 137 (.tmp 2) (.tmp 16) rfl w.heap.size [.int .i64 21,.int .i64 (1)] rfl rfl HB3.out Tryd.zie rfl (by simp [Value.oneCell']) ?_))
     (try rw [Exit.noGoto_ret])
     exact zNh (cs:=[.int .i64 21,.int .i64 (1)]) Tryd.results90 rfl HB3.out Tryd.underlying137 rfl Tryd.zie rfl rfl
      (.inr ⟨21,1,HP.out,by omega,rfl,(HR3.out.setRow (Nat.le_refl _) _).st,(HR3.out.setRow (Nat.le_refl _) _).kp⟩)
   ·clear hmem
    unfold zJi at hent hnx HI2 HW
    simp only [] at hent hnx HI2 HW
    cases hi:isT (hdT l) (bs [45]) with
    | false =>
     have HN:=zh hi
     clear hi
     go_wp2_with fail
     refine (zFa (HR2.out.alloc _).st HN.out).mono ?_
     rintro e w3 ⟨rfl,hb⟩
     have HR3:=zh ((HR2.out.alloc _).below hb)
     have HB3:=zh ((HB2.out.alloc _).kp (Kp.of_below (pb:=E.pb) hb) (by omega))
     have HM3:=zh ((hb.block _ (by have:=(Array.getElem?_eq_some_iff.1 HM2.out).1;simp;omega)).trans ((Below.heap_alloc _ _ _ (Array.getElem?_eq_some_iff.1 HM2.out).1).trans HM2.out))
     have HI3:=zh ((hb.block _ (by have:=(Array.getElem?_eq_some_iff.1 HI2.out).1;simp;omega)).trans ((Below.heap_alloc _ _ _ (Array.getElem?_eq_some_iff.1 HI2.out).1).trans HI2.out))
     clear hb hent hnx
     go_wp2
     go_roundg (gk-1)
     case measure=>have:=HG.out;have:=HW.out;omega
     case rel=>exact ⟨seen.push 1,HR3.out,HB3.out,HM3.out,HI3.out,fun hx=>HH0.out (by simpa using hx),fun _=>HN.out,by have:=HG.out;have:=HW.out;omega⟩
    | true =>
     have HN:=zh hi
     have HP:=zh (show sumP l=some (22,-1) by unfold sumP;rw [HN.out,show isT (hdT l) (bs [43])=false by cases hc:isT (hdT l) (bs [43]) with|false=>rfl|true=>exact absurd (zOo hc HN.out) (by simp only [ByteArray.toList_eq];decide)];rfl)
     clear hi
     go_wp2_with fail
     refine (zBa (HR2.out.alloc _).st HN.out (by decide)).mono ?_
     rintro e w3 ⟨rfl,hs,hk⟩
     have HR3:=zh ((HR2.out.alloc _).call hk hs)
     have HB3:=zh ((HB2.out.alloc _).kp hk (by omega))
     have HC3:=zh ((Blk.new w2 [.int .i64 22,.int .i64 (-1)] 137).kp hk (by omega))
     clear hs hk hent hnx
     go_wp2_with (first|((with_reducible refine zva 137 (.tmp 5) ?_);refine zfa rfl 137 (.tmp 5) rfl w2.heap.size [.int .i64 22,.int .i64 (-1)] rfl HC3.out Tryd.underlying137 rfl Tryd.zie ?_)|((with_reducible refine zra 137 (.tmp 2) ?_);refine zea rfl 137 (.tmp 2) (.tmp 16) rfl w.heap.size [.int .i64 22,.int .i64 (-1)] rfl rfl HB3.out Tryd.zie rfl (by simp [Value.oneCell']) ?_))
     (try rw [Exit.noGoto_ret])
     exact zNh (cs:=[.int .i64 22,.int .i64 (-1)]) Tryd.results90 rfl HB3.out Tryd.underlying137 rfl Tryd.zie rfl rfl
      (.inr ⟨22,-1,HP.out,by omega,rfl,(HR3.out.setRow (Nat.le_refl _) _).st,(HR3.out.setRow (Nat.le_refl _) _).kp⟩)
end
section
open Go.RowKit
theorem zjb {E:Env} {w:World} {l:List Tok} {d:Nat} (h:PSt E w l d) :
  Calls Tryd.prog 82 #[.pointer (some ⟨E.pb,0,none⟩)] w (zbb zNb E w l d (zCa l)):=by
 have HR0:=zh ((Run.start h).alloc (.cells zba.toArray 25))
 have HB0:=zh (Blk.new w zba 25)
 have hlo:=h.plt
 have hlt:=h.tlt
 have hln:=h.len
 clear h
 go_enter Tryd.func82,Tryd.ntmps82
 go_wp2_with fail
 refine (zdb HR0.out.st).mono ?_
 rintro e w1 ⟨rfl,hb⟩
 have HR1:=zh (HR0.out.below hb)
 have hzR1:=HR1.out.size
 have HB1:=zh (HB0.out.kp (Kp.of_below (pb:=E.pb) hb) (by omega))
 have hzHB1:=HB1.out.lt
 clear hb
 unfold zsb
 have fl0:=zrb
 have fl1:=zmb
 have fl3:=zpb
 go_wp2_with fail
 refine (name_any HR1.out.st).mono ?_
 intro e w2 hp
 cases hr:zac l with
 | error pc =>
  obtain ⟨p,c⟩:=pc
  obtain ⟨rfl,hk,hcd⟩:=hp.err hr
  have HK:=zh (HR1.out.kp.trans hk)
  have HP:=zh (show zCa l=.error (p,c) by unfold zCa;exact (zpa hr _))
  clear hr hp hk
  go_wp2
  exact ⟨rfl,Run.err HK.out HP.out hcd⟩
 | ok q =>
  obtain ⟨a2,l2⟩:=q
  obtain ⟨v2,rfl,hv,hs,hl,hk⟩:=hp.ok hr
  obtain rfl:v2=.string a2:=hv
  have HR2:=zh (HR1.out.call hk hs)
  have hzR2:=HR2.out.size
  have HB2:=zh (HB1.out.kp hk (by omega))
  have hzHB2:=HB2.out.lt
  have HL2:=zh hl
  have H2:=zh hr
  clear hr hp hs hl hk
  have HP:=zh (show zCa l=.ok (T.mk 5 a2 0 (hdT l).place [],l2) by unfold zCa;exact (zia H2.out _))
  go_wp2_with ((with_reducible refine zra 25 (.tmp 2) ?_);refine zea rfl 25 (.tmp 2) (.tmp 10) rfl w.heap.size (zaa (T.mk 5 a2 0 (hdT l).place []) (.slice none 0 0)) rfl rfl HB2.out Tryd.zca rfl (zda _ _ rfl) ?_)
  exact zua (cs:=zaa (T.mk 5 a2 0 (hdT l).place []) (.slice none 0 0)) Tryd.results82 rfl HB2.out Tryd.underlying25 rfl Tryd.zca rfl (Run.node HR2.out ((KAt.nil _ _ _).tat _ _ _ _) HP.out (by have:=HL2.out;first|omega|(simp only [List.length_tail] at *;omega)))
theorem zue {E:Env} {w:World} {l:List Tok} {d:Nat} (h:PSt E w l d) :
  Calls Tryd.prog 89 #[.pointer (some ⟨E.pb,0,none⟩)] w (zbb zNb E w l d (zJa l)):=by
 have HR0:=zh ((Run.start h).alloc (.cells zba.toArray 25))
 have HB0:=zh (Blk.new w zba 25)
 have HL0:=zh (zOd h)
 have hlo:=h.plt
 have hlt:=h.tlt
 have hln:=h.len
 clear h
 go_enter Tryd.func89,Tryd.ntmps89
 go_wp2_with fail
 refine (zdb HR0.out.st).mono ?_
 rintro e w1 ⟨rfl,hb⟩
 have HR1:=zh (HR0.out.below hb)
 have hzR1:=HR1.out.size
 have HB1:=zh (HB0.out.kp (Kp.of_below (pb:=E.pb) hb) (by omega))
 have hzHB1:=HB1.out.lt
 clear hb
 unfold zsb
 have fl0:=zrb
 have fl1:=zmb
 have fl3:=zpb
 cases hi:isT (hdT l) (bs [45]) with
 | false =>
  have HIi:=zh hi
  clear hi
  go_wp2_with fail
  refine (zFa (HR1.out.alloc _).st HIi.out).mono ?_
  rintro e w2 ⟨rfl,hb⟩
  have HR2:=zh ((HR1.out.alloc _).below hb)
  have hzR2:=HR2.out.size
  have HB2:=zh ((HB1.out.alloc _).kp (Kp.of_below (pb:=E.pb) hb) (by omega))
  have hzHB2:=HB2.out.lt
  have HN2:=zh ((Blk.new w1 (zaa (T.mk 5 e0 0 (hdT l).place []) (.slice none 0 0)) 25).kp (Kp.of_below (pb:=E.pb) hb) (by first|omega|(have:=HR0.out.size;simp at *;omega)))
  have hzHN2:=HN2.out.lt
  clear hb
  go_wp2_with fail
  refine (zRc HR2.out.st).mono ?_
  intro e w3 hp
  cases hr:zvb l with
  | error pc =>
   obtain ⟨p,c⟩:=pc
   obtain ⟨rfl,hk,hcd⟩:=hp.err hr
   have HK:=zh (HR2.out.kp.trans hk)
   have HP:=zh (show zJa l=.error (p,c) by unfold zJa;exact ((zja HIi.out _ _)).trans ((zpa hr _)))
   clear hr hp hk
   go_wp2
   exact ⟨rfl,Run.err HK.out HP.out hcd⟩
  | ok q =>
   obtain ⟨a3,l3⟩:=q
   obtain ⟨v3,rfl,hv,hs,hl,hk⟩:=hp.ok hr
   obtain ⟨rfl,hn0,hn1⟩:=hv
   have HR3:=zh (HR2.out.call hk hs)
   have hzR3:=HR3.out.size
   have HB3:=zh (HB2.out.kp hk (by omega))
   have hzHB3:=HB3.out.lt
   have HN3:=zh (HN2.out.kp hk (by first|omega|(have:=HR0.out.size;simp at *;omega)))
   have hzHN3:=HN3.out.lt
   have HL3:=zh hl
   have H3:=zh hr
   clear hr hp hs hl hk
   have hcell:_root_.Go.World.cell? _ ⟨w1.heap.size,2,none⟩=some (.int .i64 0):=HN3.out.cell 2
   have hfroz:=HN3.out.frozen 2
   have HP:=zh (show zJa l=.ok (T.mk 5 e0 (a3) (hdT l).place [],l3) by unfold zJa;exact ((zja HIi.out _ _)).trans ((zia H3.out _)))
   go_wp2_with (first|((with_reducible refine zva 25 (.tmp 3) ?_);refine zfa rfl 25 (.tmp 3) rfl w1.heap.size (zaa (T.mk 5 e0 (a3) (hdT l).place []) (.slice none 0 0)) rfl (show Blk _ w1.heap.size (zaa (T.mk 5 e0 (a3) (hdT l).place []) (.slice none 0 0)) 25 from (HN3.out.zTc 2 (.int .i64 (a3)))) Tryd.underlying25 rfl Tryd.zca ?_)|((with_reducible refine zra 25 (.tmp 2) ?_);refine zea rfl 25 (.tmp 2) (.tmp 17) rfl w.heap.size (zaa (T.mk 5 e0 (a3) (hdT l).place []) (.slice none 0 0)) rfl rfl (HB3.out.setOther ⟨w1.heap.size,2,none⟩ _ (by show _≠w1.heap.size;omega)) Tryd.zca rfl (zda _ _ rfl) ?_))
   exact zua (cs:=zaa (T.mk 5 e0 (a3) (hdT l).place []) (.slice none 0 0)) Tryd.results89 rfl (HB3.out.setOther ⟨w1.heap.size,2,none⟩ _ (by show _≠w1.heap.size;omega)) Tryd.underlying25 rfl Tryd.zca rfl (Run.node (HR3.out.setCell (a:=⟨w1.heap.size,2,none⟩) (by show w.heap.size≤w1.heap.size;omega) _) ((KAt.nil _ _ _).tat _ _ _ _) HP.out (by have:=HL0.out;have:=HL3.out;first|omega|(simp only [List.length_tail] at *;omega)))
 | true =>
  have HIi:=zh hi
  clear hi
  go_wp2_with fail
  refine (zBa (HR1.out.alloc _).st HIi.out (by decide)).mono ?_
  rintro e w2 ⟨rfl,hs,hk⟩
  have HR2:=zh ((HR1.out.alloc _).call hk hs)
  have hzR2:=HR2.out.size
  have HB2:=zh ((HB1.out.alloc _).kp hk (by omega))
  have hzHB2:=HB2.out.lt
  have HN2:=zh ((Blk.new w1 (zaa (T.mk 5 e0 0 (hdT l).place []) (.slice none 0 0)) 25).kp hk (by first|omega|(have:=HR0.out.size;simp at *;omega)))
  have hzHN2:=HN2.out.lt
  clear hs hk
  go_wp2_with fail
  refine (zRc HR2.out.st).mono ?_
  intro e w3 hp
  cases hr:zvb l.tail with
  | error pc =>
   obtain ⟨p,c⟩:=pc
   obtain ⟨rfl,hk,hcd⟩:=hp.err hr
   have HK:=zh (HR2.out.kp.trans hk)
   have HP:=zh (show zJa l=.error (p,c) by unfold zJa;exact ((zya HIi.out _ _)).trans ((zpa hr _)))
   clear hr hp hk
   go_wp2
   exact ⟨rfl,Run.err HK.out HP.out hcd⟩
  | ok q =>
   obtain ⟨a3,l3⟩:=q
   obtain ⟨v3,rfl,hv,hs,hl,hk⟩:=hp.ok hr
   obtain ⟨rfl,hn0,hn1⟩:=hv
   have HR3:=zh (HR2.out.call hk hs)
   have hzR3:=HR3.out.size
   have HB3:=zh (HB2.out.kp hk (by omega))
   have hzHB3:=HB3.out.lt
   have HN3:=zh (HN2.out.kp hk (by first|omega|(have:=HR0.out.size;simp at *;omega)))
   have hzHN3:=HN3.out.lt
   have HL3:=zh hl
   have H3:=zh hr
   clear hr hp hs hl hk
   have hcell:_root_.Go.World.cell? _ ⟨w1.heap.size,2,none⟩=some (.int .i64 0):=HN3.out.cell 2
   have hfroz:=HN3.out.frozen 2
   have HP:=zh (show zJa l=.ok (T.mk 5 e0 (-a3) (hdT l).place [],l3) by unfold zJa;exact ((zya HIi.out _ _)).trans ((zia H3.out _)))
   go_wp2_with (first|((with_reducible refine zva 25 (.tmp 3) ?_);refine zfa rfl 25 (.tmp 3) rfl w1.heap.size (zaa (T.mk 5 e0 (-a3) (hdT l).place []) (.slice none 0 0)) rfl (show Blk _ w1.heap.size (zaa (T.mk 5 e0 (-a3) (hdT l).place []) (.slice none 0 0)) 25 from (HN3.out.zTc 2 (.int .i64 (-a3)))) Tryd.underlying25 rfl Tryd.zca ?_)|((with_reducible refine zra 25 (.tmp 2) ?_);refine zea rfl 25 (.tmp 2) (.tmp 17) rfl w.heap.size (zaa (T.mk 5 e0 (-a3) (hdT l).place []) (.slice none 0 0)) rfl rfl (HB3.out.setOther ⟨w1.heap.size,2,none⟩ _ (by show _≠w1.heap.size;omega)) Tryd.zca rfl (zda _ _ rfl) ?_))
   exact zua (cs:=zaa (T.mk 5 e0 (-a3) (hdT l).place []) (.slice none 0 0)) Tryd.results89 rfl (HB3.out.setOther ⟨w1.heap.size,2,none⟩ _ (by show _≠w1.heap.size;omega)) Tryd.underlying25 rfl Tryd.zca rfl (Run.node (HR3.out.setCell (a:=⟨w1.heap.size,2,none⟩) (by show w.heap.size≤w1.heap.size;omega) _) ((KAt.nil _ _ _).tat _ _ _ _) HP.out (by have:=HL0.out;have:=HL3.out;first|omega|(simp only [List.length_tail] at *;omega)))
theorem zoe {E:Env} {w:World} {l:List Tok} {d:Nat} (h:PSt E w l d) :
  Calls Tryd.prog 86 #[.pointer (some ⟨E.pb,0,none⟩)] w (zbb zNb E w l d (zKb l)):=by
 have HR0:=zh ((Run.start h).alloc (.cells zba.toArray 25))
 have HB0:=zh (Blk.new w zba 25)
 have HL0:=zh (zOd h)
 have hlo:=h.plt
 have hlt:=h.tlt
 have hln:=h.len
 clear h
 go_enter Tryd.func86,Tryd.ntmps86
 go_wp2_with fail
 refine (zdb HR0.out.st).mono ?_
 rintro e w1 ⟨rfl,hb⟩
 have HR1:=zh (HR0.out.below hb)
 have hzR1:=HR1.out.size
 have HB1:=zh (HB0.out.kp (Kp.of_below (pb:=E.pb) hb) (by omega))
 have hzHB1:=HB1.out.lt
 clear hb
 unfold zsb
 have fl0:=zrb
 have fl1:=zmb
 have fl3:=zpb
 by_cases hkd:(hdT l).kind=1
 ·
  have HI:=zh (show ((hdT l).kind == 1)=true by rw [hkd];rfl)
  have hne:(((hdT l).kind:Int) != 1)=false:=by rw [hkd];rfl
  clear hkd
  go_wp2_with fail
  refine (zjb HR1.out.st).mono ?_
  intro e w2 hp
  cases hr:zCa l with
  | error pc =>
   obtain ⟨p,c⟩:=pc
   obtain ⟨rfl,hk,hcd⟩:=hp.err hr
   have HK:=zh (HR1.out.kp.trans hk)
   have HP:=zh (show zKb l=.error (p,c) by unfold zKb;exact ((zya HI.out _ _)).trans ((zpa hr _)))
   clear hr hp hk
   go_wp2
   exact ⟨rfl,Run.err HK.out HP.out hcd⟩
  | ok q =>
   obtain ⟨a2,l2⟩:=q
   obtain ⟨v2,rfl,hv,hs,hl,hk⟩:=hp.ok hr
   obtain ⟨kv2,rfl,ht⟩:=hv
   have HT2:=zh (ht.weak HB1.out.lt)
   have HR2:=zh (HR1.out.call hk hs)
   have hzR2:=HR2.out.size
   have HB2:=zh (HB1.out.kp hk (by omega))
   have hzHB2:=HB2.out.lt
   have HL2:=zh hl
   have H2:=zh hr
   clear hr hp hs hl hk ht
   unfold zma
   go_wp2_with ((with_reducible refine zra 25 (.tmp 3) ?_);refine zga rfl 25 (.tmp 3) (.tmp 13) rfl (zaa (a2) (kv2)) (old:=zba) rfl rfl Tryd.zca rfl (zda _ _ HT2.out.kat.one) ?_)
   go_wp2_with fail
   refine (zUe (HR2.out.alloc _).st).mono ?_
   intro e w3 hp
   rcases hp with ⟨hS0,rfl,hs,hk⟩|⟨kk,ff,hS0,hf,rfl,hs,hk⟩
   ·
    have HR3:=zh ((HR2.out.alloc _).call hk hs)
    have hzR3:=HR3.out.size
    have HB3:=zh ((HB2.out.alloc _).kp hk (by omega))
    have hzHB3:=HB3.out.lt
    have HN3:=zh ((Blk.new w2 (zaa (a2) (kv2)) 25).kp hk (by first|omega|(have:=HR0.out.size;simp at *;omega)))
    have hzHN3:=HN3.out.lt
    have HT2_3:=zh ((HT2.out.alloc _).kp hk (fun b hb=>by omega))
    have HS:=zh hS0
    clear hS0 hs hk
    have HP:=zh (show zKb l=.ok (a2,l2) by unfold zKb;exact ((zya HI.out _ _)).trans (((zia H2.out _)).trans ((zvi HS.out _ _))))
    go_wp2_with (first|((with_reducible refine zva 25 (.tmp 3) ?_);refine zfa rfl 25 (.tmp 3) rfl w2.heap.size (zaa (a2) (kv2)) rfl (show Blk _ w2.heap.size (zaa (a2) (kv2)) 25 from (HN3.out.alloc _)) Tryd.underlying25 rfl Tryd.zca ?_)|((with_reducible refine zra 25 (.tmp 2) ?_);refine zea rfl 25 (.tmp 2) (.tmp 26) rfl w.heap.size (zaa (a2) (kv2)) rfl rfl (HB3.out.alloc _) Tryd.zca rfl (zda _ _ HT2.out.kat.one) ?_))
    exact zua (cs:=zaa (a2) (kv2)) Tryd.results86 rfl (HB3.out.alloc _) Tryd.underlying25 rfl Tryd.zca rfl (Run.node (HR3.out.alloc _) (HT2_3.out.alloc _).lo HP.out (by have:=HL2.out;first|omega|(simp only [List.length_tail] at *;omega)))
   ·
    have HR3:=zh ((HR2.out.alloc _).call hk hs)
    have hzR3:=HR3.out.size
    have HB3:=zh ((HB2.out.alloc _).kp hk (by omega))
    have hzHB3:=HB3.out.lt
    have HN3:=zh ((Blk.new w2 (zaa (a2) (kv2)) 25).kp hk (by first|omega|(have:=HR0.out.size;simp at *;omega)))
    have hzHN3:=HN3.out.lt
    have HT2_3:=zh ((HT2.out.alloc _).kp hk (fun b hb=>by omega))
    have HS:=zh hS0
    clear hS0 hs hk
    have HF:=zh hf
    clear hf
    go_wp2_with fail
    refine AnyE.zHb (S:=fun W=>Blk W w3.heap.size [.int .i64 kk,.int .i64 ff] 137) (by kernel_rfl) ((Blk.new w3 [.int .i64 kk,.int .i64 ff] 137).drew) (fun hS=>?_)
    refine AnyE.take (i:=0) (v:=.pointer (some ⟨w3.heap.size,1,none⟩)) rfl (by kernel_rfl) (by kernel_rfl) (by kernel_rfl) (by kernel_rfl) (fun _ _ _ h=>h) (Or.inl ⟨by rfl,fun W _=>by go_simp⟩) hS ?_
    refine AnyE.take (i:=1) (v:=.int .i64 ff) rfl (by kernel_rfl) (by kernel_rfl) (by kernel_rfl) (by kernel_rfl) (fun _ _ _ h=>h) (Or.inl ⟨by rfl,fun W hW=>by have hc1:W.cell? ⟨w3.heap.size,1,none⟩=some (.int .i64 ff):=hW.cell 1;go_simp⟩) hS ?_
    refine AnyE.take (i:=2) (v:=.pointer (some ⟨E.pb,0,none⟩)) rfl (by kernel_rfl) (by kernel_rfl) (by kernel_rfl) (by kernel_rfl) (fun _ _ _ h=>h) (Or.inl ⟨by rfl,fun W _=>by go_simp⟩) hS ?_
    refine AnyE.one (i:=3) (by kernel_rfl) rfl (by rfl) (fun K hK=>?_)
    go_simp
    refine (zRc ((HR3.out.alloc _).drew).st).mono ?_
    intro e w4 hp
    cases hr:zvb l2.tail with
    | error pc =>
     obtain ⟨p,c⟩:=pc
     obtain ⟨rfl,hk,hcd⟩:=hp.err hr
     have HK:=zh (((HR3.out.alloc _).drew).kp.trans hk)
     have HP:=zh (show zKb l=.error (p,c) by unfold zKb;exact ((zya HI.out _ _)).trans (((zia H2.out _)).trans (((zyd HS.out _ _)).trans ((zpa hr _)))))
     clear hr hp hk
     go_wp2
     exact ⟨rfl,Run.err HK.out HP.out hcd⟩
    | ok q =>
     obtain ⟨a4,l4⟩:=q
     obtain ⟨v4,rfl,hv,hs,hl,hk⟩:=hp.ok hr
     obtain ⟨rfl,hn0,hn1⟩:=hv
     have HR4:=zh (((HR3.out.alloc _).drew).call hk hs)
     have hzR4:=HR4.out.size
     have HB4:=zh (((HB3.out.alloc _).drew).kp hk (by omega))
     have hzHB4:=HB4.out.lt
     have HN4:=zh (((HN3.out.alloc _).drew).kp hk (by first|omega|(have:=HR0.out.size;simp at *;omega)))
     have hzHN4:=HN4.out.lt
     have HS_4:=zh (((Blk.new w3 [.int .i64 kk,.int .i64 ff] 137).drew).kp hk (by first|omega|(have:=HR0.out.size;simp at *;omega)))
     have hzHS_4:=HS_4.out.lt
     have HT2_4:=zh (((HT2_3.out.alloc _).drew).kp hk (fun b hb=>by omega))
     have HL4:=zh hl
     have H4:=zh hr
     clear hr hp hs hl hk
     refine hK.out _ _ (fun _=>HS_4.out) ?_
     clear hK K
     have hwr:IntKind.i64.wrap (ff * a4)=ff * a4:=by
      have h1:ff * a4=a4∨ff * a4=-a4:=by rcases HF.out with rfl|rfl;exact .inl (by omega);exact .inr (by omega)
      refine IntWalk.i64_in _ ?_
      rcases h1 with h1|h1<;>rw [h1]<;>omega
     refine AnyE.one (i:=4) (by kernel_rfl) rfl (by rfl) (fun K hK=>?_)
     go_simp
     refine hK.out _ _ (fun _=>HS_4.out) ?_
     clear hK K
     refine AnyE.one (i:=5) (by kernel_rfl) rfl (by rfl) (fun K hK=>?_)
     go_simp
     refine hK.out _ _ (fun _=>HS_4.out) ?_
     clear hK K
     refine AnyE.one (i:=6) (by kernel_rfl) rfl (by rfl) (fun K hK=>?_)
     have hcell:_root_.Go.World.cell? _ ⟨w2.heap.size,2,none⟩=some (.int .i64 a2.num):=HN4.out.cell 2
     have hfroz:=HN4.out.frozen 2
     go_simp
     refine hK.out _ _ (fun h=>absurd rfl h) ?_
     clear hK K
     refine AnyE.done (by kernel_rfl) ?_ _
     have HP:=zh (show zKb l=.ok (a2.zVb (ff * a4),l4) by unfold zKb;exact ((zya HI.out _ _)).trans (((zia H2.out _)).trans (((zyd HS.out _ _)).trans ((zia H4.out _)))))
     go_wp2_with (first|((with_reducible refine zva 25 (.tmp 3) ?_);refine zfa rfl 25 (.tmp 3) rfl w2.heap.size (zaa (a2.zVb (ff * a4)) (kv2)) rfl (show Blk _ w2.heap.size (zaa (a2.zVb (ff * a4)) (kv2)) 25 from (by rw [← zRd];exact (HN4.out.zTc 2 (.int .i64 (ff * a4))))) Tryd.underlying25 rfl Tryd.zca ?_)|((with_reducible refine zra 25 (.tmp 2) ?_);refine zea rfl 25 (.tmp 2) (.tmp 26) rfl w.heap.size (zaa (a2.zVb (ff * a4)) (kv2)) rfl rfl (HB4.out.setOther ⟨w2.heap.size,2,none⟩ _ (by show _≠w2.heap.size;omega)) Tryd.zca rfl (zda _ _ HT2.out.kat.one) ?_))
     exact zua (cs:=zaa (a2.zVb (ff * a4)) (kv2)) Tryd.results86 rfl (HB4.out.setOther ⟨w2.heap.size,2,none⟩ _ (by show _≠w2.heap.size;omega)) Tryd.underlying25 rfl Tryd.zca rfl (Run.node (HR4.out.setCell (a:=⟨w2.heap.size,2,none⟩) (by show w.heap.size≤w2.heap.size;omega) _) (TAt.zoc (by cases a2;exact (HT2_4.out.setCell ⟨w2.heap.size,2,none⟩ _ (fun b hb=>by show _≠w2.heap.size;omega)).lo.kat)) HP.out (by have:=HL2.out;have:=HL4.out;first|omega|(simp only [List.length_tail] at *;omega)))
 ·
  have HI:=zh (show ((hdT l).kind == 1)=false from beq_eq_false_iff_ne.2 hkd)
  have hne:(((hdT l).kind:Int) != 1)=true:=by simp;omega
  clear hkd
  go_wp2_with fail
  refine (zue HR1.out.st).mono ?_
  intro e w2 hp
  cases hr:zJa l with
  | error pc =>
   obtain ⟨p,c⟩:=pc
   obtain ⟨rfl,hk,hcd⟩:=hp.err hr
   have HK:=zh (HR1.out.kp.trans hk)
   have HP:=zh (show zKb l=.error (p,c) by unfold zKb;exact ((zja HI.out _ _)).trans (hr))
   clear hr hp hk
   go_wp2
   exact ⟨rfl,Run.err HK.out HP.out hcd⟩
  | ok q =>
   obtain ⟨a2,l2⟩:=q
   obtain ⟨v2,rfl,hv,hs,hl,hk⟩:=hp.ok hr
   obtain ⟨kv2,rfl,ht⟩:=hv
   have HT2:=zh (ht.weak HB1.out.lt)
   have HR2:=zh (HR1.out.call hk hs)
   have hzR2:=HR2.out.size
   have HB2:=zh (HB1.out.kp hk (by omega))
   have hzHB2:=HB2.out.lt
   have HL2:=zh hl
   have H2:=zh hr
   clear hr hp hs hl hk ht
   unfold zma
   have HP:=zh (show zKb l=.ok (a2,l2) by unfold zKb;exact ((zja HI.out _ _)).trans (H2.out))
   go_wp2_with ((with_reducible refine zra 25 (.tmp 2) ?_);refine zea rfl 25 (.tmp 2) (.tmp 11) rfl w.heap.size (zaa (a2) (kv2)) rfl rfl HB2.out Tryd.zca rfl (zda _ _ HT2.out.kat.one) ?_)
   exact zua (cs:=zaa (a2) (kv2)) Tryd.results86 rfl HB2.out Tryd.underlying25 rfl Tryd.zca rfl (Run.node HR2.out HT2.out.lo HP.out (by have:=HL2.out;first|omega|(simp only [List.length_tail] at *;omega)))
end
end Go.Proofs.YtdhmdfhnkppnmaaDoor
