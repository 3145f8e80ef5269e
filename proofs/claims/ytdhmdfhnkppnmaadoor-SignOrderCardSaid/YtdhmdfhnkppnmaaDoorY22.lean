/- The contract of sign's newReader: the types of a table by their names; slices.Backward, the range over it. -/
import Derived.Test.YtdhmdfhnkppnmaaDoorY21
import Derived.RangeFuncNested
import Derived.RangeFuncBound
import Derived.RangeFuncCalls
import Derived.RangeFuncLeaves
import Derived.Shelf.Abstract
import Derived.Shelf.RegionOpen
import Derived.OwnWalkIn
import Derived.TacticsInMore
import Derived.LoopNIn
import Derived.LoopIn
import Derived.Maps.OwnIn
import Derived.Test.YtdhmdfhnkppnmaaDoorY15
import Derived.Test.YtdhmdfhnkppnmaaDoorY05
namespace Go.Proofs.YtdhmdfhnkppnmaaDoor
set_option maxRecDepth 100000
set_option maxHeartbeats 4000000
open Go.RowKit Go.Maps Go.Shelf
attribute [local go_sem] Oper.semAt_some
structure TyX where
 k:Nat
 hk:k≤9223372036854775807
 t:Ty
 hs:t.name.size≤maxLen
 p:Option Addr × Nat × Nat
 l:Option Addr × Nat × Nat
def TyX.kt (x:TyX):Nat × ByteArray:=(x.k,x.t.name)
def TyX.pv (x:TyX):Value:=.slice x.p.1 x.p.2.1 x.p.2.2
def TyX.lv (x:TyX):Value:=.slice x.l.1 x.l.2.1 x.l.2.2
def zog (s:ByteArray):List (Nat × ByteArray)→Option Nat:=List.foldl (fun o x=>bif x.2.toList == s.toList then some x.1 else o) none
theorem zsh (s:ByteArray) (l:List (Nat × ByteArray)) (x:Nat × ByteArray):zog s (l++[x])=bif x.2.toList == s.toList then some x.1 else zog s l:=by simp [zog]
def zse (ts:List Ty):Nat→List (Nat × ByteArray)
 | 0=>[]
 | m+1=>zse ts m++(match ts[ts.length-(m+1)]? with|some t=>[(ts.length-(m+1),t.name)]|none=>[])
theorem zrh {ts:List Ty} {j m:Nat} {t:Ty} (h:ts[j]?=some t) (hm:m+1+j=ts.length):zse ts (m+1)=zse ts m++[(j,t.name)]:=by
 have e:ts.length-(m+1)=j:=by omega
 simp only [zse,e,h]
theorem zbi (ts:List Ty) (s:ByteArray):∀ m,m≤ts.length→zog s (zse ts m)=(zDd (ts.drop (ts.length-m)) s).map (·+(ts.length-m))
 | 0,_=>by simp [zse,zog,zkf]
 | m+1,hm=>by
  obtain ⟨t,ht⟩:∃ t,ts[ts.length-(m+1)]?=some t:=⟨_,List.getElem?_eq_getElem (by omega)⟩
  have hlt:ts.length-(m+1)<ts.length:=by omega
  rw [zrh ht (by omega),zsh,zbi ts s m (by omega)]
  have e:ts.drop (ts.length-(m+1))=t :: ts.drop (ts.length-m):=by
   rw [List.drop_eq_getElem_cons hlt,(List.getElem?_eq_some_iff.1 ht).2]
   congr 2
   omega
  rw [e]
  show _=((bif t.name.toList == s.toList then some 0 else (zDd (ts.drop (ts.length-m)) s).map (·+1))).map _
  cases t.name.toList == s.toList
  ·simp only [cond_false,Option.map_map]
   cases zDd (ts.drop (ts.length-m)) s with
   | none=>rfl
   | some k=>simp only [Option.map_some,Function.comp];congr 1;omega
  ·simp
def zZj (w:World) (M:Nat) (l:List (Nat × ByteArray)):Prop :=
 ∃ (n:Nat) (D:DataW Unit),w.ownsMap Tryd.prog 9 (plainElem Tryd.prog 3) M n D∧n≤l.length∧IsMap D∧∀ s:ByteArray,Maps.has D (zPd s)=(zog s l).isSome∧∀ k,zog s l=some k→D.atKey (zPd s) (.lit (.int .i64 0))=.lit (.int .i64 k)
theorem zZj.kept {w w':World} {b:Nat} {l:List (Nat × ByteArray)} {row:Option Nat} (h:zZj w b l) (hg:w.grownBy w' row) (hne:some b≠row):zZj w' b l:=by
 obtain ⟨n,D,h1,h2,h3,h4⟩:=h
 exact ⟨n,D,h1.kept hg hne,h2,h3,h4⟩
theorem zZj.same {w w':World} {M:Nat} {l:List (Nat × ByteArray)} (h:zZj w M l) (e:w'.heap[M]?=w.heap[M]?):zZj w' M l:=by
 obtain ⟨n,D,⟨es,clock,hb,hr⟩,h2⟩:=h
 exact ⟨n,D,⟨es,clock,e.trans hb,hr⟩,h2⟩
theorem zZj.snoc {w1:World} {M n:Nat} {l:List (Nat × ByteArray)} {x:Nat × ByteArray} {D:DataW Unit} (hn:n≤l.length) (hI:IsMap D) (hD:∀ s:ByteArray,Maps.has D (zPd s)=(zog s l).isSome∧∀ k,zog s l=some k→D.atKey (zPd s) (.lit (.int .i64 0))=.lit (.int .i64 k))
  (ho:w1.ownsMap Tryd.prog 9 (plainElem Tryd.prog 3) M (n+1) (D.put (zPd x.2) (.lit (.int .i64 (x.1:Nat))))):zZj w1 M (l++[x]):=by
 refine ⟨n+1,_,ho,by simp;omega,hI.put _ _,fun s=>?_⟩
 rw [zsh]
 by_cases he:x.2.toList=s.toList
 ·have hk:zPd s=zPd x.2:=(zlg s x.2).2 he.symm
  have hb:(x.2.toList == s.toList)=true:=by simpa using he
  rw [hk,has_put_same hI (by unfold zPd;trivial),hb]
  refine ⟨by simp,fun k hk2=>?_⟩
  rw [atKey_put_same hI (by unfold zPd;trivial)]
  simp only [cond_true,Option.some.injEq] at hk2
  rw [← hk2]
 ·have hk:zPd s≠zPd x.2:=fun e=>he ((zlg s x.2).1 e).symm
  have hb:(x.2.toList == s.toList)=false:=by simpa using he
  rw [has_put_other hk,atKey_put_other hk,hb]
  exact hD s
theorem zZj.at {w:World} {M:Nat} {ts:List Ty} (h:zZj w M (zse ts ts.length)) (hl:(zse ts ts.length).length≤ts.length):MapAt w M ts:=by
 obtain ⟨n,D,h1,h2,h3,h4⟩:=h
 refine ⟨n,D,h1,by omega,h3,fun s=>?_⟩
 have e:zog s (zse ts ts.length)=zDd ts s:=by
  rw [zbi ts s ts.length (Nat.le_refl _),Nat.sub_self,List.drop_zero]
  cases zDd ts s<;>rfl
 have:=h4 s
 rw [e] at this
 exact this
theorem zwi (ts:List Ty):∀ m,(zse ts m).length≤m
 | 0=>by simp [zse]
 | m+1=>by
  have:=zwi ts m
  unfold zse
  split<;>simp<;>omega
def KpB (n₀ Bs:Nat) (W W':World):Prop:=Below n₀ W W'∧W'.heap[Bs]?=W.heap[Bs]?
theorem zen (F:Fence) (n:Nat) (hf:F.fn 39) (hro:F.round=none) (hn:1≤n) (l Bs:Nat) (A:Option Addr) (cap:Nat) (ts:List Ty) (w:World) (hl:ts.length≤9223372036854775807) (hts:Tys w A ts) (hns:∀ t∈ts,t.name.size≤maxLen) (J Jx:List TyX→World→Prop)
  (hY:∀ pre x W,J pre W→pre.length<ts.length→YieldAt F (n-1) Tryd.prog l #[.int .i64 x.k,TyV x.t x.pv x.lv] W fun e W' =>
   (e=.returned (.bool true)∧J (pre++[x]) W'∧KpB w.heap.size Bs W W')∨(e=.returned (.bool false)∧Jx (pre++[x]) W'))
  (W:World) (hW:Below w.heap.size w W) (hBs:W.cell? ⟨Bs,0,none⟩=some (.slice A ts.length cap)) (h0:J [] W) :
  CallsIn F n Tryd.prog 39 #[.func (.yield l) #[] #[],.pointer (some ⟨Bs,0,none⟩)] W fun e W'=>(∃ v,e=.returned v) ∧
   ((∃ ys:List TyX,ys.map TyX.kt=zse ts ts.length∧J ys W')∨(∃ pre,Jx pre W')):=by
 have HT:=zh hts
 have HW:=zh hW
 have HNS:=zh hns
 clear hts hW hns
 refine callsIn_of_wp Tryd.func39 rfl hf ?_ hro
 simp only [Tryd.ntmps39,List.size_toArray,List.length_cons,List.length_nil,Nat.reduceAdd,Nat.reduceSub,Array.replicate_succ,Array.replicate_zero,List.push_toArray,List.append_toArray,List.nil_append,List.cons_append]
 have hwr:wrap64 ((ts.length:Int)-1)=(ts.length:Int)-1:=by unfold wrap64;omega
 gi_wp2
 gi_loopw [3] (fun i wr=>∃ (k m:Nat) (pre:List TyX),m+k=ts.length∧i=.int .i64 ((k:Int)-1)∧pre.length=m∧pre.map TyX.kt=zse ts m∧J pre wr∧KpB w.heap.size Bs W wr)
  (fun i _=>(intOf i+1).toNat)
 case atStart=>exact ⟨ts.length,0,[],by omega,rfl,rfl,rfl,h0,Below.refl _ _,rfl⟩
 case round =>
  obtain ⟨k,m,pre,hkm,rfl,hpl,hpm,hJ,hK⟩:=hrel
  have HK:=zh hK
  have hb:wr.cell? ⟨Bs,0,none⟩=some (.slice A ts.length cap):=by
   have:=hK.2
   simp only [World.cell?,this]
   simpa [World.cell?] using hBs
  rcases k with _|j
  ·gi_wp2
   go_end0
   have hm:m=ts.length:=by omega
   exact ⟨⟨_,rfl⟩,.inl ⟨pre,by rw [hpm,hm],hJ⟩⟩
  ·obtain ⟨t,ht⟩:∃ t,ts[j]?=some t:=⟨_,List.getElem?_eq_getElem (by omega)⟩
   obtain ⟨b,rfl,hbl,hget⟩:=HT.out (by omega)
   obtain ⟨p,q,hr,hty⟩:=hget j t ht
   obtain ⟨p1,p2,rfl⟩:=hty.1.slice
   obtain ⟨q1,q2,rfl⟩:=hty.2.slice
   have hr':=zoa hr (HW.out.trans hK.1) hbl
   have e0:wr.cell? ⟨b,j * 5,none⟩=some (.string t.name):=hr' 0 _ rfl
   have e1:wr.cell? ⟨b,j * 5+1,none⟩=some (.int .i64 t.sort):=hr' 1 _ rfl
   have e2:wr.cell? ⟨b,j * 5+2,none⟩=some (.int .i64 t.of):=hr' 2 _ rfl
   have e3:wr.cell? ⟨b,j * 5+3,none⟩=some (.slice p1 t.fields.length p2):=hr' 3 _ rfl
   have e4:wr.cell? ⟨b,j * 5+4,none⟩=some (.slice q1 t.facts.length q2):=hr' 4 _ rfl
   have hj1:(((j+1:Nat):Int)-1)=(j:Int):=by omega
   have hj2:(j:Int)<(ts.length:Int):=by omega
   have hj3:wrap64 ((j:Int)-1)=(j:Int)-1:=by unfold wrap64;omega
   have hts:=HNS.out t (List.mem_of_getElem? ht)
   have hjk:j≤9223372036854775807:=by omega
   have hx:=hY pre ⟨j,hjk,t,hts,(p1,t.fields.length,p2),(q1,t.facts.length,q2)⟩ wr hJ (by omega)
   have HX:=zh (show (pre++[(⟨j,hjk,t,hts,(p1,t.fields.length,p2),(q1,t.facts.length,q2)⟩:TyX)]).map TyX.kt=zse ts (m+1) from by rw [List.map_append,hpm,zrh ht (by omega)];rfl)
   obtain ⟨fn,tmps,assign,body,hy,hR⟩:=hx
   have HR:=zh hR
   simp only [TyV,TyX.pv,TyX.lv] at hy
   clear hR hget hr hty hr' hJ hK ht
   rw [hj1]
   gi_wp2
   refine HR.out.mono ?_
   rintro e W3 (⟨rfl,hJ3,hk3⟩|⟨rfl,hJx3⟩)
   ·gi_wp2
    go_roundw
    case rel=>exact ⟨j,m+1,_,by omega,by simp,by simp;omega,HX.out,hJ3,HK.out.1.trans hk3.1,hk3.2.trans HK.out.2⟩
    case measure=>simp [intOf]
   ·gi_wp2
    refine bodyPost_ret (results_none rfl _ _ _) rfl ?_
    exact ⟨⟨_,rfl⟩,.inr ⟨_,hJx3⟩⟩
theorem zCo (F:Fence) (n:Nat) (hf:F.fn 22) (hro:F.round=none) (a:Option Addr) (len cap:Nat) (w:World) :
  CallsIn F n Tryd.prog 22 #[.slice a len cap] w fun e w'=>e=.returned (.func (.func 39) #[] #[.pointer (some ⟨w.heap.size,0,none⟩)])∧w'=w.alloc (.cells #[.slice a len cap] 30):=by
 refine callsIn_of_wp Tryd.func22 rfl hf ?_ hro
 simp only [Tryd.ntmps22,List.size_toArray,List.length_cons,List.length_nil,Nat.reduceAdd,Nat.reduceSub,Array.replicate_succ,Array.replicate_zero,List.push_toArray,List.append_toArray,List.nil_append,List.cons_append]
 gi_wp2
 go_ret
 exact ⟨rfl,rfl⟩
theorem zLk (F:Fence) (n:Nat) (hf:F.fn 39) (hro:F.round=none) (hn:1≤n) (Bs:Nat) (A:Option Addr) (cap:Nat) (ts:List Ty) (w:World) (hl:ts.length≤9223372036854775807) (hts:Tys w A ts) (hns:∀ t∈ts,t.name.size≤maxLen)
  (W0:World) (hW:Below w.heap.size w W0) (hb:Bs<W0.heap.size) (hBs:W0.cell? ⟨Bs,0,none⟩=some (.slice A ts.length cap)) :
  SeqStopsK F n Tryd.prog 39 #[.pointer (some ⟨Bs,0,none⟩)] (fun x:TyX=>#[.int .i64 x.k,TyV x.t x.pv x.lv]) (KpB w.heap.size Bs) (fun ys=>ys.map TyX.kt=zse ts ts.length) (fun _=>True) ts.length W0:=fun l J Jx W hW0 _ _ hY h0 =>
 (zen F n hf hro hn l Bs A cap ts w hl hts hns J Jx hY W (hW.trans (hW0.mono hW.size)) ((hW0.cell (p:=⟨Bs,0,none⟩) hb).trans hBs) h0).mono fun _ _ ⟨he,h⟩=>⟨he,h.imp (fun ⟨ys,h1,h2⟩=>⟨ys,h1,h2⟩) fun ⟨pre,h⟩=>⟨pre,trivial,h⟩⟩
theorem KpB.t {n Bs:Nat} {A B C:World} (h1:KpB n Bs A B) (h2:KpB n Bs B C):KpB n Bs A C:=⟨h1.1.trans h2.1,h2.2.trans h1.2⟩
theorem KpB.b {n Bs:Nat} (W:World) (l:Nat) (o o':Obj) (hn:n≤l) (hb:l≠Bs) (h:W.heap[l]?=some o):KpB n Bs W (W.putObj l o') :=
 ⟨(Below.refl n W).grown (grownBy_putObj' W l o') (by have:=(Array.getElem?_eq_some_iff.1 h).1;omega) (fun k e=>by cases e;exact hn),World.putObj_heap_other (Ne.symm hb)⟩
theorem zCm (n:Int) (w:World):(Instr.makeMap 43 (some (.int .i64 n))).run Tryd.prog w=.ok (.map (some w.heap.size)) (w.alloc (.map #[] 0)):=by
 simp [Instr.makeMap,run_underlying Tryd.underlying43,asInt,asIntOf,Result.andThen]
def RV (A:Option Addr) (n cap M:Nat):Value:=.agg #[.slice A n cap,.map (some M)]
theorem zHi (F:Fence) (n:Nat) (h1f:F.fn 13) (h2f:F.fn 22) (h3f:F.fn 39) (hro:F.round=none) (hn:6≤n) (A:Option Addr) (cap:Nat) (ts:List Ty) (w:World) (hl:ts.length≤maxLen) (hts:Tys w A ts) (hns:∀ t∈ts,t.name.size≤maxLen) :
  CallsIn F n Tryd.prog 13 #[.slice A ts.length cap] w fun e w'=>∃ M,w.heap.size≤M∧e=.returned (RV A ts.length cap M)∧MapAt w' M ts∧Below w.heap.size w w':=by
 have h1:1≤n:=by omega
 have hmm:=zCm
 refine callsIn_of_wp_marks Tryd.func13 rfl h1f ?_ hro
 simp only [Tryd.ntmps13,List.size_toArray,List.length_cons,List.length_nil,Nat.reduceAdd,Nat.reduceSub,Array.replicate_succ,Array.replicate_zero,List.push_toArray,List.append_toArray,List.nil_append,List.cons_append]
 gi_wp2_with (gi_at_call 22;refine (zCo F (n-1) h2f hro _ _ _ _).mono ?_;rintro e w' ⟨rfl,rfl⟩)
 obtain ⟨W0,hW0⟩:∃ W,(((w.alloc (.cells #[.slice none 0 0,.map none] 64)).alloc (.map #[] 0)).alloc (.cells #[.map (some (w.heap.size+1))] 43)).alloc (.cells #[.slice A ts.length cap] 30)=W:=⟨_,rfl⟩
 have b0:Blk W0 w.heap.size [.slice none 0 0,.map none] 64:=hW0▸((((Blk.new w _ _).alloc _).alloc _).alloc _)
 have bM:zZj W0 (w.heap.size+1) []:=by
  have h:=World.ownsMap_made (H:=Unit) (w.alloc (.cells #[.slice none 0 0,.map none] 64)) Tryd.prog 9 (plainElem Tryd.prog 3)
  rw [World.size_alloc] at h
  exact hW0▸⟨0,_,(h.alloc _).alloc _,by simp,⟨[],rfl⟩,fun s=>⟨rfl,fun k hk=>by simp [zog] at hk⟩⟩
 have bB:Boxed W0 (w.heap.size+1+1) 43 (.map (some (w.heap.size+1))):=by
  have h:=Boxed.new ((w.alloc (.cells #[.slice none 0 0,.map none] 64)).alloc (.map #[] 0)) 43 (.map (some (w.heap.size+1)))
  rw [World.size_alloc,World.size_alloc] at h
  exact hW0▸h.alloc _
 have bS:Boxed W0 (w.heap.size+1+1+1) 30 (.slice A ts.length cap):=by
  have h:=Boxed.new (((w.alloc (.cells #[.slice none 0 0,.map none] 64)).alloc (.map #[] 0)).alloc (.cells #[.map (some (w.heap.size+1))] 43)) 30 (.slice A ts.length cap)
  rw [World.size_alloc,World.size_alloc,World.size_alloc] at h
  exact hW0▸h
 have hB0:Below w.heap.size w W0:=hW0▸(((((Below.refl _ w).alloc (Nat.le_refl _) _).alloc (by simp) _).alloc (by simp;omega) _).alloc (by simp;omega) _)
 have hsz:W0.heap.size=w.heap.size+4:=by rw [← hW0];simp
 rw [hW0]
 clear hW0 hmm
 refine wpIn_rangeFunc_ownH hro h1 (gf:=39) (lb:=#[.pointer (some ⟨w.heap.size+1+1+1,0,none⟩)]) rfl h3f (enters_of Tryd.func39 (by kernel_rfl) rfl)
  (zLk F (n-1) h3f hro (by omega) (w.heap.size+1+1+1) A cap ts w (by unfold maxLen at hl;omega) hts hns W0 hB0 bS.lt bS.cell) KpB.t (fun W l o o' hle h _ _=>KpB.b W l o o' (by omega) (by omega) h) (Below.refl _ _) (fun _=>rfl)
  (fun pre W=>(zZj W (w.heap.size+1) (pre.map TyX.kt)∧Boxed W (w.heap.size+1+1) 43 (.map (some (w.heap.size+1)))∧Blk W w.heap.size [.slice none 0 0,.map none] 64∧w.heap.size+4≤W.heap.size)∧Below w.heap.size w W)
  (fun _ _ _=>False)
  (OwnFrom.and (fun s X Y row hs hg hr=>⟨hs.1.kept hg (fun e=>by have:=(hr _ e.symm).1;omega),hs.2.1.kept hg (fun e=>by have:=(hr _ e.symm).1;omega),hs.2.2.1.grown hg (fun e=>by have:=(hr _ e.symm).1;omega),Nat.le_trans hs.2.2.2 hg.size⟩) (ownFrom_below (Nat.le_refl _) (by omega)))
  (fun _ _ _ _ _ hs _ _=>hs)
  ⟨⟨bM,bB,b0,by omega⟩,hB0⟩
  (fun x a' W=>∃ Bx,w.heap.size+4≤Bx∧Blk W Bx (zIa x.t x.pv x.lv) 49∧a'={ tmps:=#[.slice A ts.length cap,undef,.pointer (some ⟨w.heap.size,0,none⟩),.pointer (some ⟨w.heap.size+1+1,0,none⟩),.int .i64 x.k,.pointer (some ⟨Bx,0,none⟩),.slice A ts.length cap,.int .i64 ts.length,.map (some (w.heap.size+1)),.slice A ts.length cap,.func (.func 39) #[] #[.pointer (some ⟨w.heap.size+1+1+1,0,none⟩)],.int .i64 x.k,TyV x.t x.pv x.lv,undef,undef,undef,undef,undef,undef,undef],defers:=[] })
  (fun x a' _ X Y row hs hg hr=>by obtain ⟨Bx,h1,h2,h3⟩:=hs;exact ⟨Bx,h1,h2.grown hg (fun e=>by obtain ⟨_,o,ho,hc⟩:=hr _ e.symm;rw [show X.heap[Bx]?=_ from h2] at ho;cases ho;cases hc),h3⟩)
  ?assign ?body ?done ?stop
 case assign =>
  rintro l pre x W K ⟨⟨m1,m2,m3,hle⟩,hB1⟩ hK
  have hx:Blk (W.alloc (.cells (zIa x.t x.pv x.lv).toArray 49)) W.heap.size (zIa x.t x.pv x.lv) 49:=Blk.new W _ _
  simp only [TyV,TyX.pv,TyX.lv,zIa] at hK hx ⊢
  gi_wp2
  refine hK _ _ ((KeepsOthers.alloc _ _).from _) ⟨(Below.refl _ W).alloc (by omega) _,Below.heap_alloc W _ _ (by omega)⟩ ⟨⟨m1.kept (World.grownBy_alloc W _ none) (by simp),m2.alloc _,m3.alloc _,by simp;omega⟩,hB1.alloc hB1.size _⟩ ⟨W.heap.size,hle,hx,rfl⟩
 case body =>
  rintro l pre x a' W hl ⟨r,hr⟩ ⟨⟨m1,m2,m3,hle⟩,hB1⟩ ⟨Bx,hBx,bX,rfl⟩ hlt
  obtain ⟨mn,D,ho,hmn,hI,hD⟩:=m1
  have c0:W.cell? ⟨Bx,0,none⟩=some (.string x.t.name):=bX.cell 0
  have cB:=m2.cell
  have hmx:mn<maxLen:=by have:=hl;simp only [List.length_map] at hmn;omega
  have hxk:=x.hk
  gi_wp2_with (gi_at_mapUpdate;refine wpListIn_mapUpdate_own _ rfl _ _ _ 43 rfl 9 3 zAi Tryd.underlying43 (plainElem Tryd.prog 3) (w.heap.size+1) mn D rfl ho hmx (.string x.t.name) (.int .i64 x.k) (zPd x.t.name) rfl rfl (WideMaps.keyOf_string_mk Tryd.underlying9 x.hs) (.lit (.int .i64 x.k)) [] (plainElem_int Tryd.underlying3 (WalkArith.wf_i64 (by omega))) ?_;intro w1 ho1 hg1)
  refine ⟨KeepsFrom.of_grownBy hg1 (fun j e=>by cases e;omega),⟨(Below.refl _ W).grown hg1 hB1.size (fun k e=>by cases e;omega),hg1.block _ (by omega) (fun e=>by have:=Option.some.inj e;omega)⟩,⟨?_,m2.kept hg1 (fun e=>by have:=Option.some.inj e;omega),m3.grown hg1 (fun e=>by have:=Option.some.inj e;omega),Nat.le_trans hle hg1.size⟩,hB1.grown hg1 hB1.size (fun k e=>by cases e;omega)⟩
  rw [List.map_append]
  exact zZj.snoc (x:=x.kt) hmn hI hD ho1
 case done =>
  rintro D zs W hD hS ⟨⟨m1,m2,m3,hle⟩,hB1⟩ hK
  have cB:=m2.cell
  have r0:W.cell? ⟨w.heap.size,0,none⟩=some (.slice none 0 0):=m3.cell 0
  have r1:W.cell? ⟨w.heap.size,1,none⟩=some (.map none):=m3.cell 1
  have f0:W.frozen? ⟨w.heap.size,0,none⟩=false:=(m3.there 0 2 (by simp) 0 (by omega)).2
  have f1:W.frozen? ⟨w.heap.size,1,none⟩=false:=(m3.there 0 2 (by simp) 1 (by omega)).2
  gi_wp2
  have hK':=(KeepsOthers.setCell (W.setCell ⟨w.heap.size,0,none⟩ (.slice A ts.length cap)) ⟨w.heap.size,1,none⟩ (.map (some (w.heap.size+1)))).same D _ ((KeepsOthers.setCell W ⟨w.heap.size,0,none⟩ (.slice A ts.length cap)).same D _ hK rfl) rfl
  have hW2:(W.setCell ⟨w.heap.size,0,none⟩ (.slice A ts.length cap)).setCell ⟨w.heap.size,1,none⟩ (.map (some (w.heap.size+1)))=W.setRow w.heap.size [.slice A ts.length cap,.map (some (w.heap.size+1))].toArray:=zCc [.slice A ts.length cap,.map (some (w.heap.size+1))] 0 W _ m3
  rw [hW2] at hK' ⊢
  have hb2:=m3.zna [.slice A ts.length cap,.map (some (w.heap.size+1))]
  have hp2:=hb2.grown (grownBy_putObj' _ D (.deferred none)) (fun e=>by have:=Option.some.inj e;omega)
  have hB2:Below w.heap.size w (W.setRow w.heap.size [.slice A ts.length cap,.map (some (w.heap.size+1))].toArray):=Below.row hB1 (Nat.le_refl _) _
  refine ⟨by simp,.inl ⟨_,_,rfl,run_takeDeferred hK',?_⟩⟩
  refine ⟨_,zKe Tryd.results13 rfl hp2 Tryd.underlying64 rfl (by kernel_rfl),w.heap.size+1,by omega,rfl,?_,hB2.grown (grownBy_putObj' _ D (.deferred none)) hB2.size (fun k e=>by cases e;omega)⟩
  rw [hS] at m1
  exact zZj.at (m1.same ((World.putObj_heap_other (by omega)).trans (setRow_other _ _ _ _ (by omega)))) (zwi ts _)
 case stop =>
  rintro D c pre W _ _ h _
  exact h.elim
theorem zwh (A:Option Addr) (cap:Nat) (ts:List Ty) (w:World) (hl:ts.length≤maxLen) (hts:Tys w A ts) (hns:∀ t∈ts,t.name.size≤maxLen) :
  Calls Tryd.prog 13 #[.slice A ts.length cap] w fun e w'=>∃ M,w.heap.size≤M∧e=.returned (RV A ts.length cap M)∧MapAt w' M ts∧Below w.heap.size w w' :=
 callsIn_wide.1 (zHi Fence.wide 6 trivial trivial trivial rfl (Nat.le_refl _) A cap ts w hl hts hns)
end Go.Proofs.YtdhmdfhnkppnmaaDoor
namespace Go.Proofs.YtdhmdfhnkppnmaaDoor
set_option maxRecDepth 100000
set_option maxHeartbeats 2000000
open Go.RowKit Go.Maps
def zWa (A:Option Addr) (n cap M:Nat):List Value:=[.slice A n cap,.map (some M)]
def zrp (r:Option Prm):Int:=match r with|none=>31|some _=>0
def zin (w:World) (r:Option Prm) (e:Ending) (w':World):Prop:=e=.returned (.tuple #[zPi (r.getD zOb),.int .i64 (zrp r)])∧Below w.heap.size w w'
theorem Tryd.zyg:(Tryd.prog.info? 64).map (·.size)=some 2:=by kernel_rfl
theorem zjh {w:World} {A:Option Addr} {n cap M:Nat} {tys:List Ty} (hm:MapAt w M tys) {t:T} {S:Nat→Prop} {kv:Value} (hk:KAt 25 w t.kids S kv) (hz:(zza t 0).text.size≤maxLen) :
  Calls Tryd.prog 25 #[RV A n cap M,zma t kv] w (zin w (zEc tys t)):=by
 obtain ⟨W0,hW0⟩:∃ W,((w.alloc (.cells (zWa A n cap M).toArray 64)).alloc (.cells (zaa t kv).toArray 25)).alloc (.cells (zha zOb).toArray 40)=W:=⟨_,rfl⟩
 have HB0:=zh (show Below w.heap.size w W0 from hW0▸((((Below.refl _ _).alloc (Nat.le_refl _) _).alloc (by simp) _).alloc (by simp;omega) _))
 have b1:=zh (show Blk W0 w.heap.size (zWa A n cap M) 64 from hW0▸(((Blk.new w _ _).alloc _).alloc _))
 have b2:=zh (show Blk W0 (w.heap.size+1) (zaa t kv) 25 from hW0▸((Blk.zIe w _ _ _).alloc _))
 have b3:=zh (show Blk W0 (w.heap.size+1+1) (zha zOb) 40 from hW0▸(by simpa using Blk.new ((w.alloc (.cells (zWa A n cap M).toArray 64)).alloc (.cells (zaa t kv).toArray 25)) (zha zOb) 40))
 have HK:=zh (hk.below HB0.out)
 have HM:=zh (hm.below HB0.out)
 have HMO:=zh (znk t.text)
 have HNT:=zh (zHd (zUa t.text))
 have HI:=zh (zgg (tys:=tys) (t:=t))
 have HT:=zh (zuh (tys:=tys) (t:=t))
 have d1:W0.cell? ⟨w.heap.size+1,1,none⟩=some (.string t.text):=b2.out.cell 1
 unfold zWa zaa zha zOb at hW0
 unfold RV zma
 clear hm hk
 go_enter Tryd.func25,Tryd.ntmps25
 go_upto_region 1 with fail
 try rw [hW0]
 clear hW0
 go_wp2_with fail
 refine (HMO.out _).mono ?_
 rintro e w1 ⟨rfl,rfl⟩
 go_wp2_with fail
 refine (HNT.out _).mono ?_
 rintro e w2 ⟨rfl,rfl⟩
 cases hn:ztb (zUa t.text)
 ·have HR:=zh (HI.out hn)
  have b3':=b3.out
  go_wp2_with ((with_reducible refine zra 40 (.tmp 4) ?_);refine zea rfl 40 (.tmp 4) (.tmp 16) rfl (w.heap.size+1+1) (zha ⟨⟨#[]⟩,zUa t.text,0⟩) rfl rfl b3' Tryd.zNa rfl (zRb _) ?_)
  refine zUl (cs:=zha ⟨⟨#[]⟩,zUa t.text,0⟩) Tryd.results25 rfl rfl (b3'.zna (zha ⟨⟨#[]⟩,zUa t.text,0⟩)) Tryd.underlying40 rfl Tryd.zNa rfl ?_
  rw [HR.out]
  exact ⟨rfl,Below.row HB0.out (by omega) _⟩
 ·have HR:=zh (HT.out hn)
  obtain ⟨c,hc,hlk⟩:=HM.out.look hz
  have HC:=zh hc
  have HLK:=zh hlk
  clear hc hlk
  go_upto_region 4 with fail
  refine wp_region_held_drew (S:=fun W=>Blk W w.heap.size (zWa A n cap M) 64∧Blk W (w.heap.size+1) (zaa t kv) 25∧W.heap[M]?=w2.heap[M]?) (by kernel_rfl) ⟨b1.out,b2.out,rfl⟩ (fun hS=>?_)
  refine wpAnyH_take (i:=0) (oi:=⟨some 18,_,_,_,_,_⟩) (v:=.pointer (some ⟨w.heap.size,1,none⟩)) rfl (by kernel_rfl) (by kernel_rfl) (by kernel_rfl) (fun _ _ _ h=>h) (Or.inl ⟨by rfl,fun W _=>by go_simp⟩) hS ?_
  try simp only [Act.put,List.setIfInBounds_toArray,List.set_cons_zero,List.set_cons_succ]
  refine wpAnyH_take (i:=1) (oi:=⟨some 19,_,_,_,_,_⟩) (v:=.map (some M)) rfl (by kernel_rfl) (by kernel_rfl) (by kernel_rfl) (fun _ _ _ h=>h) (Or.inl ⟨by rfl,fun W hW=>by have hcx:W.cell? ⟨w.heap.size,1,none⟩=some (.map (some M)):=hW.1.cell 1;go_simp⟩) hS ?_
  try simp only [Act.put,List.setIfInBounds_toArray,List.set_cons_zero,List.set_cons_succ]
  refine wpAnyH_take (i:=2) (oi:=⟨some 20,_,_,_,_,_⟩) (v:=.agg (zaa t kv).toArray) rfl (by kernel_rfl) (by kernel_rfl) (by kernel_rfl) (fun _ _ _ h=>h) (yieldsIf_load_mid (cs:=zaa t kv) (by rfl) 25 (.tmp 3) rfl (w.heap.size+1) 0 (by go_simp) _ (fun W hW j v hj=>by rw [Nat.zero_add,hW.2.1.cell j];exact hj) Tryd.underlying25 rfl Tryd.zca) hS ?_
  try simp only [Act.put,List.setIfInBounds_toArray,List.set_cons_zero,List.set_cons_succ]
  refine AnyH.only (i:=3) (o:=⟨some 21,_,_,_,_,_⟩) (by kernel_rfl) rfl (by rfl) (fun K hK=>?_)
  go_simp
  refine (zCj (t:=t) (kv:=kv) HK.out.drew 0).mono ?_
  rintro e w1 ⟨u,rfl,_,hb⟩
  have HB1:=zh (HB0.out.drew.trans (hb.mono HB0.out.drew.size))
  have hS1:Blk w1 w.heap.size (zWa A n cap M) 64∧Blk w1 (w.heap.size+1) (zaa t kv) 25∧w1.heap[M]?=w2.heap[M]?:=⟨b1.out.drew.stays hb,b2.out.drew.stays hb,hb.block M HM.out.lt⟩
  have HP1:=zh (b3.out.drew.stays hb)
  clear hb
  unfold zma
  refine hK.out _ _ hS1 ?_
  clear hK K hS
  try simp only [Act.put,List.setIfInBounds_toArray,List.set_cons_zero,List.set_cons_succ]
  refine wpAnyH_take (i:=4) (oi:=⟨some 22,_,_,_,_,_⟩) (v:=.string (zza t 0).text) rfl (by kernel_rfl) (by kernel_rfl) (by kernel_rfl) (fun _ _ _ h=>h) (Or.inl ⟨by rfl,fun W _=>by have hf:=zDh;go_simp⟩) hS1 ?_
  try simp only [Act.put,List.setIfInBounds_toArray,List.set_cons_zero,List.set_cons_succ]
  refine wpAnyH_take (i:=5) (oi:=⟨some 23,_,_,_,_,_⟩) (v:=.tuple #[.int .i64 c,.bool (zDd tys (zza t 0).text).isSome]) rfl (by kernel_rfl) (by kernel_rfl) (by kernel_rfl) (fun _ _ _ h=>h) (Or.inl ⟨by rfl,fun W hW=>by have hl:=HLK.out W hW.2.2;go_simp⟩) hS1 ?_
  try simp only [Act.put,List.setIfInBounds_toArray,List.set_cons_zero,List.set_cons_succ]
  refine wpAnyH_take (i:=6) (oi:=⟨some 17,_,_,_,_,_⟩) (v:=.tuple #[.int .i64 c,.bool (zDd tys (zza t 0).text).isSome]) rfl (by kernel_rfl) (by kernel_rfl) (by kernel_rfl) (fun _ _ _ h=>h) (Or.inl ⟨by rfl,fun W _=>by go_simp⟩) hS1 ?_
  try simp only [Act.put,List.setIfInBounds_toArray,List.set_cons_zero,List.set_cons_succ]
  refine wpAnyH_take (i:=7) (oi:=⟨some 24,_,_,_,_,_⟩) (v:=.int .i64 c) rfl (by kernel_rfl) (by kernel_rfl) (by kernel_rfl) (fun _ _ _ h=>h) (Or.inl ⟨by rfl,fun W _=>by go_simp⟩) hS1 ?_
  try simp only [Act.put,List.setIfInBounds_toArray,List.set_cons_zero,List.set_cons_succ]
  refine wpAnyH_take (i:=8) (oi:=⟨some 25,_,_,_,_,_⟩) (v:=.bool (zDd tys (zza t 0).text).isSome) rfl (by kernel_rfl) (by kernel_rfl) (by kernel_rfl) (fun _ _ _ h=>h) (Or.inl ⟨by rfl,fun W _=>by go_simp⟩) hS1 ?_
  try simp only [Act.put,List.setIfInBounds_toArray,List.set_cons_zero,List.set_cons_succ]
  refine wpAnyH_take (i:=9) (oi:=⟨some 7,_,_,_,_,_⟩) (v:=.int .i64 c) rfl (by kernel_rfl) (by kernel_rfl) (by kernel_rfl) (fun _ _ _ h=>h) (Or.inl ⟨by rfl,fun W _=>by go_simp⟩) hS1 ?_
  try simp only [Act.put,List.setIfInBounds_toArray,List.set_cons_zero,List.set_cons_succ]
  refine wpAnyH_take (i:=10) (oi:=⟨some 8,_,_,_,_,_⟩) (v:=.bool (zDd tys (zza t 0).text).isSome) rfl (by kernel_rfl) (by kernel_rfl) (by kernel_rfl) (fun _ _ _ h=>h) (Or.inl ⟨by rfl,fun W _=>by go_simp⟩) hS1 ?_
  try simp only [Act.put,List.setIfInBounds_toArray,List.set_cons_zero,List.set_cons_succ]
  refine wpAnyH_done (by kernel_rfl) ?_ _
  clear hS1
  have b3':=HP1.out
  cases hf:zDd tys (zza t 0).text with
  | none =>
   have HR2:=zh (HR.out.trans (by rw [hf]))
   go_wp2_with ((with_reducible refine zra 40 (.tmp 4) ?_);refine zea rfl 40 (.tmp 4) (.tmp 28) rfl (w.heap.size+1+1) (zha zOb) rfl rfl b3' Tryd.zNa rfl (zRb _) ?_)
   refine zUl (cs:=zha zOb) Tryd.results25 rfl rfl (b3'.zna (zha zOb)) Tryd.underlying40 rfl Tryd.zNa rfl ?_
   rw [HR2.out]
   exact ⟨rfl,Below.row HB1.out (by omega) _⟩
  | some k =>
   have HR2:=zh (HR.out.trans (by rw [hf]))
   obtain rfl:=HC.out k hf
   go_wp2_with ((with_reducible refine zra 40 (.tmp 4) ?_);refine zea rfl 40 (.tmp 4) (.tmp 31) rfl (w.heap.size+1+1) (zha ⟨⟨#[]⟩,zUa t.text,k⟩) rfl rfl b3' Tryd.zNa rfl (zRb _) ?_)
   refine zUl (cs:=zha ⟨⟨#[]⟩,zUa t.text,k⟩) Tryd.results25 rfl rfl (b3'.zna (zha ⟨⟨#[]⟩,zUa t.text,k⟩)) Tryd.underlying40 rfl Tryd.zNa rfl ?_
   rw [HR2.out]
   exact ⟨rfl,Below.row HB1.out (by omega) _⟩
theorem zCl {tys:List Ty} {p:Prm} {l:List Prm} (h:ztb p.mode=false):zed tys p l=false:=by unfold zed;rw [h];rfl
theorem zik {tys:List Ty} {p:Prm} {l:List Prm} (h:(zth tys p.ty == 0)=true):zed tys p l=false:=by unfold zed;rw [h];simp
theorem zKk {tys:List Ty} {p:Prm} {l:List Prm} (h:ztb p.mode=true) (h0:(zth tys p.ty == 0)=false):zed tys p l=l.any (zxe p):=by unfold zed;rw [h,h0];rfl
theorem zqj {w:World} {A:Option Addr} {cap M:Nat} {tys:List Ty} (ht:Tys w A tys) (hlen:tys.length≤cap∧cap≤maxLen) {p:Prm} (hp:zwp tys p) {l:List Prm} {S:Nat→Prop} {v:Value} (hl:zHc w l S v) :
  Calls Tryd.prog 43 #[RV A tys.length cap M,zPi p,v] w fun e w'=>e=.returned (.bool (zed tys p l))∧Below w.heap.size w w':=by
 obtain ⟨W0,hW0⟩:∃ W,(w.alloc (.cells (zWa A tys.length cap M).toArray 64)).alloc (.cells (zha p).toArray 40)=W:=⟨_,rfl⟩
 have HB0:=zh (show Below w.heap.size w W0 from hW0▸(((Below.refl _ _).alloc (Nat.le_refl _) _).alloc (by simp) _))
 have b1:=show Blk W0 w.heap.size (zWa A tys.length cap M) 64 from hW0▸((Blk.new w _ _).alloc _)
 have b2:=show Blk W0 (w.heap.size+1) (zha p) 40 from hW0▸(Blk.zIe w _ _ _)
 have c0:W0.cell? ⟨w.heap.size,0,none⟩=some (.slice A tys.length cap):=b1.cell 0
 have d1:W0.cell? ⟨w.heap.size+1,1,none⟩=some (.int .i64 p.mode):=b2.cell 1
 have d2:W0.cell? ⟨w.heap.size+1,2,none⟩=some (.int .i64 p.ty):=b2.cell 2
 have HT:=zh (ht.below HB0.out)
 have HCF:=zh (zVi (w.heap.size+1) p W0 d2 (by have:=b2.lt;omega) (hl.below HB0.out))
 have HNT:=zh (zHd p.mode)
 have HP:=zh hp
 have HI:=zh (zCl (tys:=tys) (p:=p) (l:=l))
 have HO:=zh (zik (tys:=tys) (p:=p) (l:=l))
 have HA:=zh (zKk (tys:=tys) (p:=p) (l:=l))
 have hmf:=zkb
 obtain ⟨h1,h2⟩:=hlen
 unfold maxLen at h2
 obtain ⟨va,vc,rfl⟩:=hl.slice
 unfold zWa zha at hW0
 unfold RV zPi
 clear ht hl hp b1 b2
 go_enter Tryd.func43,Tryd.ntmps43
 go_upto_region 1 with fail
 try rw [hW0]
 clear hW0
 cases hn:ztb p.mode
 ·have HR:=zh (HI.out hn)
  have HN2:∀ W,Calls Tryd.prog 45 #[.int .i64 p.mode] W fun e w'=>e=.returned (.bool false)∧w'=W:=fun W=>by have:=HNT.out W;rwa [hn] at this
  go_wp2_with fail
  refine (HN2 _).mono ?_
  rintro e w2 ⟨rfl,rfl⟩
  go_wp2_with fail
  go_ret
  exact ⟨zXg (by rw [HR.out]),HB0.out⟩
 ·have HN2:∀ W,Calls Tryd.prog 45 #[.int .i64 p.mode] W fun e w'=>e=.returned (.bool true)∧w'=W:=fun W=>by have:=HNT.out W;rwa [hn] at this
  obtain ⟨k,hk,hkl⟩:=HP.out hn
  obtain ⟨b,rfl,hbl,hget⟩:=HT.out (by omega)
  obtain ⟨t,htk⟩:∃ t,tys[k]?=some t:=⟨_,List.getElem?_eq_getElem hkl⟩
  obtain ⟨pv,lv,hr,_⟩:=hget k t htk
  have e1:W0.cell? ⟨b,k * 5+1,none⟩=some (.int .i64 t.sort):=hr 1 _ rfl
  have hs:zth tys p.ty=t.sort:=by unfold zth;rw [hk];simp [htk]
  rw [hs] at HO HA
  rw [hk] at d2
  have hk1:(k:Int)<(tys.length:Int):=by omega
  clear hget hr htk hs
  go_wp2_with fail
  refine (HN2 _).mono ?_
  rintro e w2 ⟨rfl,rfl⟩
  cases h0:t.sort == 0
  ·have HR:=zh (HA.out hn h0)
   go_wp2_with fail
   refine HCF.out.mono ?_
   rintro e w3 ⟨rfl,hb⟩
   have HB3:=zh (HB0.out.trans (hb.mono HB0.out.size))
   clear hb
   go_wp2_with fail
   go_ret
   exact ⟨zXg (by rw [HR.out]),HB3.out⟩
  ·have HR:=zh (HO.out h0)
   go_wp2_with fail
   go_ret
   exact ⟨zXg (by rw [HR.out]),HB0.out⟩
end Go.Proofs.YtdhmdfhnkppnmaaDoor
namespace Go.Proofs.YtdhmdfhnkppnmaaDoor
open Go.RowKit
def zHf (a:T):Prop:=a.kind=8∧((a.kids=[]∧ztb (zUa a.text)=false)∨∃ n,a.kids=[n]∧zeb n.text=true∧ztb (zUa a.text)=true)
def zLi (p:T):Prop:=p.kind=7∧∃ m,p.kids=[m]∧zHf m∧1≤zUa m.text
def zPn (t:T):Prop:=∃ ps m b,t.kids=ps++[m,b]∧(∀ p∈ps,zLi p)∧(zHf m∧zUa m.text≤2)∧b.kind=9
def zje (t:T):Prop:=t.kind=6→zPn t
theorem zXl {t:Tok} (h:isT t (bs [111,119,110])=true):zUa t.text=2:=by
 have h2:=(znf h).1
 unfold zUa
 rw [beq_iff_eq.1 h2]
 rfl
theorem zdm {t:Tok} (h:([bs [105,110,116],bs [111,119,110]].any (isT t))=true) (h2:isT t (bs [111,119,110])=false):zUa t.text=1:=by
 simp only [List.any_cons,h2,List.any_nil,Bool.or_false] at h
 have h3:=(znf h).1
 unfold zUa
 rw [beq_iff_eq.1 h3]
 rfl
theorem mut_n:ztb (zUa (bs [38,109,117,116]))=true:=by kernel_rfl
theorem mut_1:1≤zUa (bs [38,109,117,116]):=by decide +kernel
theorem ref_n:ztb (zUa (bs [38]))=true:=by kernel_rfl
theorem ref_1:1≤zUa (bs [38]):=by decide +kernel
theorem non_n:ztb (zUa e0)=false:=by kernel_rfl
theorem non_1:zUa e0≤2:=by decide +kernel
theorem zbg {l:List Tok} (h:TG l):Ok (fun a l'=>(zHf a∧1≤zUa a.text∧zUa a.text≤2)∧TG l') (zKa l):=by
 unfold zKa
 refine (zGa h).bd fun t l1 h1=>Ok.cond (fun hc=>(zTb h1.2).bd fun a l2 h2=>Ok.ok ⟨?_,h2.2⟩) (fun hc=>Ok.ok ⟨?_,h1.2⟩)
 ·have e:=zXl hc
  refine ⟨⟨rfl,.inr ⟨a,rfl,h2.1.1,?_⟩⟩,?_,?_⟩
  all_goals (simp only [T.text];rw [e];decide)
 ·have e:=zdm h1.1 hc
  refine ⟨⟨rfl,.inl ⟨rfl,?_⟩⟩,?_,?_⟩
  all_goals (simp only [T.text];rw [e];decide)
theorem zOp {l:List Tok} (h:TG l):Ok (fun a l'=>(zHf a∧1≤zUa a.text)∧TG l') (zpd l):=by
 unfold zpd
 exact Ok.cond (fun _=>Ok.cond (fun _=>(zTb h.tail.tail).bd fun a l2 h2=>Ok.ok ⟨⟨⟨rfl,.inr ⟨a,rfl,h2.1.1,mut_n⟩⟩,mut_1⟩,h2.2⟩) (fun _=>(zTb h.tail).bd fun a l2 h2=>Ok.ok ⟨⟨⟨rfl,.inr ⟨a,rfl,h2.1.1,ref_n⟩⟩,ref_1⟩,h2.2⟩))
  (fun _=>(zbg h).mono fun a l' h=>⟨⟨h.1.1,h.1.2.1⟩,h.2⟩)
theorem zxo {l:List Tok} (h:TG l):Ok (fun a l'=>zLi a∧TG l') (zlc l):=by
 unfold zlc
 exact (zfd h).bd fun s l1 h1=>(zGa h1.2).bd fun _ l2 h2=>(zOp h2.2).bd fun a l3 h3=>Ok.ok ⟨⟨rfl,a,rfl,h3.1⟩,h3.2⟩
theorem zzn {item:List Tok→R T} {P:T→Prop} (hi:∀ {l},TG l→Ok (fun a l'=>P a∧TG l') (item l)) {l:List Tok} (h:TG l):Ok (fun xs l'=>(∀ x∈xs,P x)∧TG l') (zib item l):=by
 unfold zib
 exact (zGa h).bd fun _ l1 h1=>Ok.cond (fun _=>Ok.ok ⟨fun x hx=>by simp at hx,h1.2.tail⟩) (fun _=>(zLm hi h1.2).bd fun xs l2 h2=>(zGa h2.2).bd fun _ l3 h3=>Ok.ok ⟨h2.1,h3.2⟩)
theorem zJn {l:List Tok} (h:TG l):Ok (fun a l'=>(zHf a∧zUa a.text≤2)∧TG l') (zbd l):=by
 unfold zbd
 exact Ok.cond (fun _=>(zbg h.tail).mono fun a l' h=>⟨⟨h.1.1,h.1.2.2⟩,h.2⟩) (fun _=>Ok.ok ⟨⟨⟨rfl,.inl ⟨rfl,non_n⟩⟩,non_1⟩,h⟩)
theorem zvo:∀ (n:Nat) {l:List Tok},Ok (fun a _=>a.kind=9) (zgb n l)
 | 0,l=>by rw [zgb];exact Ok.bd (G:=fun _ _=>True) (fun _ _ _=>trivial) fun _ _ _=>Ok.err
 | n+1,l=>by
  rw [zgb]
  exact Ok.bd (G:=fun _ _=>True) (fun _ _ _=>trivial) fun t l1 _=>Ok.bd (G:=fun _ _=>True) (fun _ _ _=>trivial) fun xs l2 _=>Ok.ok rfl
theorem fn_f {p:Nat} {l:List Tok} (h:TG l):Ok (fun a l'=>zje a∧TG l') (fnP p l):=by
 intro a l' e
 refine ⟨fun _=>?_,(fn_g h a l' e).2⟩
 refine (?_:Ok (fun a _=>zPn a) (fnP p l)) a l' e
 unfold fnP
 exact (zfd h).bd fun s l1 h1=>(zzn zxo h1.2).bd fun xs l2 h2=>(zJn h2.2).bd fun r l3 h3=>(zvo 8).bd fun b l4 h4=>Ok.ok ⟨xs,r,b,rfl,h2.1,h3.1,h4⟩
theorem zAp {p:Nat} {l:List Tok} (h:TG l):Ok (fun a l'=>zje a∧TG l') (zzb p l):=by
 have h0:Ok (fun a _=>a.kind=1) (zzb p l):=by
  unfold zzb
  exact Ok.bd (G:=fun _ _=>True) (fun _ _ _=>trivial) fun s l1 _=>Ok.bd (G:=fun _ _=>True) (fun _ _ _=>trivial) fun xs l2 _=>Ok.bd (G:=fun _ _=>True) (fun _ _ _=>trivial) fun r l3 _=>Ok.bd (G:=fun _ _=>True) (fun _ _ _=>trivial) fun b l4 _=>Ok.bd (G:=fun _ _=>True) (fun _ _ _=>trivial) fun b l4 _=>Ok.ok rfl
 intro a l' e
 refine ⟨fun h6=>?_,(zbo h a l' e).2⟩
 have:=h0 a l' e
 omega
theorem zup {l:List Tok} (h:TG l):Ok (fun a l'=>zje a∧TG l') (zhd l):=by
 unfold zhd
 exact (zGa h).bd fun t l1 h1=>Ok.cond (fun _=>zAp h1.2) (fun _=>fn_f h1.2)
theorem zSl:∀ (n:Nat) {l:List Tok},TG l→Ok (fun xs l'=>(∀ x∈xs,zje x)∧TG l') (zJd n l)
 | 0,l,_=>Ok.err
 | n+1,l,h=>by
  rw [zJd]
  exact Ok.cond (fun _=>Ok.ok ⟨fun x hx=>by simp at hx,h⟩) (fun _=>(zup h).bd fun a l1 h1=>(zSl n h1.2).bd fun xs l2 h2=>Ok.ok ⟨fun x hx=>by
   rcases List.mem_cons.1 hx with rfl|hx
   ·exact h1.1
   ·exact h2.1 x hx,h2.2⟩)
theorem zzg (s:ByteArray):∀ t∈(zab s).1.kids,zje t:=by
 have hz:∀ t∈zqb.kids,zje t:=fun t ht=>by simp [zqb,T.kids] at ht
 unfold zab
 cases hl:zjc s with
 | error e=>exact hz
 | ok ts =>
  simp only
  unfold zAc
  cases hu:zPc ts with
  | error e=>exact hz
  | ok q =>
   obtain ⟨t,l⟩:=q
   simp only
   by_cases hs:4096<t.size
   ·rw [if_pos hs];exact hz
   ·rw [if_neg hs]
    have h1:Ok (fun t l'=>(∀ x∈t.kids,zje x)∧TG l') (zPc ts):=by
     unfold zPc
     exact (zSl _ (zng hl)).bd fun xs l1 h=>Ok.ok ⟨h.1,h.2⟩
    exact (h1 t l hu).1
theorem zJo {ps:List T} {m b:T} (hp:∀ p∈ps,p.kind=7) (hm:m.kind=8) (hb:b.kind=9):zJc (ps++[m,b])=⟨ps,m⟩:=by
 unfold zJc
 have p7:=filter_all (P:=fun t=>t.kind == 7) (l:=ps) fun y h=>by simp [hp y h]
 have p8:=zae (P:=fun t=>t.kind == 8) (l:=ps) fun y h=>by simp [hp y h]
 simp only [List.filter_append,p7,p8,List.filter_cons,List.filter_nil,hm,hb]
 simp
theorem zPn.fp {t:T} (h:zPn t):∃ ps m b,t.kids=ps++[m,b]∧(∀ p∈ps,zLi p)∧(zHf m∧zUa m.text≤2)∧zJc t.kids=⟨ps,m⟩:=by
 obtain ⟨ps,m,b,e,hp,hm,hb⟩:=h
 exact ⟨ps,m,b,e,hp,hm,by rw [e,zJo (fun p h=>(hp p h).1) hm.1.1 hb]⟩
theorem zeh {m:T} (h:zHf m):(zza m 0).text.size≤16:=by
 rcases h.2 with ⟨e,_⟩|⟨n,e,hn,_⟩
 ·unfold zza;rw [e];decide
 ·unfold zza;rw [e];exact zxd hn
theorem zzm {p:T} (h:zLi p):(zza (zza p 0) 0).text.size≤16:=by
 obtain ⟨_,m,e,hm,_⟩:=h
 have:zza p 0=m:=by unfold zza;rw [e];rfl
 rw [this]
 exact zeh hm
end Go.Proofs.YtdhmdfhnkppnmaaDoor
