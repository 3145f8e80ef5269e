/- The contract of shape's Types: the types of a tree, or the first fault, which its deferred function recovers. The contract of sign's partsOf. The contract of sign's newReader: the types of a table by their names; slices.Backward, the range over it. -/
import Derived.Test.YtpjnpffcnmgdcaaGreatDoorZ28
import Derived.Recover
import Derived.Test.YtpjnpffcnmgdcaaGreatDoorZ25
import Derived.RangeFuncNested
import Derived.RangeFuncBound
import Derived.RangeFuncCalls
import Derived.RangeFuncLeaves
import Derived.Shelf.Abstract
import Derived.Shelf.RegionOpen
import Derived.OwnWalkIn
import Derived.TacticsInMore
import Derived.LoopNIn
import Derived.LoopIn
import Derived.Maps.OwnIn
namespace Go.Proofs.YtpjnpffcnmgdcaaGreatDoor
set_option maxRecDepth 100000
set_option maxHeartbeats 4000000
section
open Go.RowKit Go.Maps
theorem Tryz.zdf:(Tryz.prog.info? 82).map (·.size)=some 2:=by kernel_rfl
theorem zxk (v:Value) (w:World):(Instr.typeAssert (.iface 82 v) 20 82 true).run Tryz.prog w=.ok (.tuple #[v,.bool true]) w:=by
 simp [Instr.typeAssert,run_underlying Tryz.underlying82]
theorem zDh (fb:Nat) (p:Nat) (c:Int) (w:World) (hb:Blk w fb [.int .i64 0,.int .i64 0] 82) :
  CallsD Tryz.prog 33 #[.pointer (some ⟨fb,0,none⟩)] (.panicking [{ v:=sfV p c,recovered:=false }]) w fun e u' w' =>
   e=.returned (.tuple #[])∧u'=.panicking [{ v:=sfV p c,recovered:=true }]∧Blk w' fb [.int .i64 p,.int .i64 c] 82∧w.grownBy w' (some fb):=by
 have HB:=zh hb
 have hlt:=hb.lt
 have hta:=zxk
 clear hb
 refine callsD_of_wpS Tryz.func33 rfl fun c₀ cs hu=>?_
 simp only [Tryz.ntmps33,List.size_toArray,List.length_cons,List.length_nil,Nat.reduceAdd,Nat.reduceSub,Array.replicate_succ,Array.replicate_zero,List.push_toArray,List.append_toArray,List.nil_append,List.cons_append]
 apply wpS_seq
 apply wpS_region
 unfold sfV at hu ⊢
 simp [wpOpsS,go_sem,recoverD,hu,Exit.thenS]
 refine wpS_of_wp ?_
 clear hu
 go_wp2_with ((with_reducible refine zla 82 (.tmp 0) ?_);refine zda rfl 82 (.tmp 0) (.tmp 15) rfl fb [.int .i64 p,.int .i64 c] rfl rfl (HB.out.alloc _) Tryz.zdf rfl (by simp [Value.oneCell']) ?_)
 refine ⟨rfl,_,rfl,.tuple #[],by simp [results,Tryz.results33],rfl,rfl,(HB.out.alloc _).zra [.int .i64 p,.int .i64 c],?_⟩
 exact ⟨rfl,rfl,rfl,by simp,fun k hk hn=>(setRow_other _ fb k _ (fun e=>hn (by rw [e]))).trans (Below.heap_alloc w _ k hk)⟩
theorem zym (fb:Nat) (w:World) :
  CallsD Tryz.prog 33 #[.pointer (some ⟨fb,0,none⟩)] .returning w fun e u' w'=>e=.returned (.tuple #[])∧u'=.returning∧w'=w:=by
 refine callsD_of_wpS Tryz.func33 rfl fun c₀ cs hu=>?_
 simp only [Tryz.ntmps33,List.size_toArray,List.length_cons,List.length_nil,Nat.reduceAdd,Nat.reduceSub,Array.replicate_succ,Array.replicate_zero,List.push_toArray,List.append_toArray,List.nil_append,List.cons_append]
 apply wpS_seq
 apply wpS_region
 simp [wpOpsS,go_sem,recoverD,hu,Exit.thenS]
 refine wpS_of_wp ?_
 go_wp2_with fail
 refine ⟨rfl,.returning,?_,.tuple #[],by simp [results,Tryz.results33],rfl,rfl,rfl⟩
 cases c₀
 simp_all
def zAq (w:World) (r:E (List Ty)) (e:Ending) (w':World):Prop :=
 match r with
 | .ok tys=>∃ v,e=.returned (.tuple #[v,.agg #[.int .i64 0,.int .i64 0]])∧zOc w' tys (fun b=>w.heap.size≤b) v∧Below w.heap.size w w'
 | .error (p,c)=>e=.returned (.tuple #[.slice none 0 0,.agg #[.int .i64 p,.int .i64 c]])∧Below w.heap.size w w'
theorem zdh {P:Program} {fn:Func} {s u:Tmp} {tz t':TypeId} (h:fn.results=#[.tmp s,.cell u tz]) {tmps:Array Value} {W:World} {g':Nat} {x:Value} {cs':List Value} {d':TypeDesc}
  (hs:tmps.getD s undef=x) (hu':tmps.getD u undef=.pointer (some ⟨g',0,none⟩)) (hb':Blk W g' cs' t')
  (hz:P.underlying tz=some d') (hd':d'.isRow=true) (hi':(P.info? tz).map (·.size)=some cs'.length):(results fn tmps).run P W=.ok (.tuple #[x,.agg cs'.toArray]) W:=by
 have hl':=run_loadVar_mid (P:=P) W g' 0 tz cs' d' (fun j v hj=>by rw [Nat.zero_add,hb'.cell j];exact hj) hz hd' hi'
 have h1:tmps[s]?.getD undef=x:=by rw [← hs];simp
 have h2:tmps[u]?.getD undef=.pointer (some ⟨g',0,none⟩):=by rw [← hu'];simp
 simp [results,h,h1,h2,asAddr,hl']
def zZj (t:T):Prop:=∀ x∈t.kids,zjh x
theorem zZn {tys:List Ty} {n:T} {r:List T} {e:Nat × Int} (hk:(n.kind == 1)=true) (h:zCo tys n=.error e):zCd tys (n :: r)=.error e:=by rw [zCd,hk,h];rfl
theorem zXq {tys:List Ty} {n:T} {r:List T} {x:Ty} (hk:(n.kind == 1)=true) (h:zCo tys n=.ok x):zCd tys (n :: r)=zCd (tys++[x]) r:=by rw [zCd,hk,h];rfl
theorem znq {tys:List Ty} {n:T} {r:List T} (hk:(n.kind == 1)=false):zCd tys (n :: r)=zCd tys r:=by rw [zCd,hk];rfl
theorem zzm {l:List T} {t:T} (h:t∈l):t.kids.length≤sizes l:=by
 induction l with
 | nil=>simp at h
 | cons a l ih =>
  rw [zBa]
  rcases List.mem_cons.1 h with rfl|h
  ·have:t.size=1+sizes t.kids:=by cases t;rw [size_mk];rfl
   have h2:=zbf t.kids
   omega
  ·have:=ih h;omega
theorem zLl.new (w:World) (na:List Value):zLl ((((w.alloc (.cells na.toArray 25)).alloc (.cells #[.int .i64 0,.int .i64 0] 82)).alloc (.map #[] 0)).alloc (.cells #[.slice none 0 0,.map (some (w.heap.size+1+1))] 124)) (w.heap.size+1+1) (w.heap.size+1+1+1) (w.heap.size+1+1) [] (.slice none 0 0):=by
 have e2:((w.alloc (.cells na.toArray 25)).alloc (.cells #[.int .i64 0,.int .i64 0] 82)).heap.size=w.heap.size+1+1:=by simp
 have e3:(((w.alloc (.cells na.toArray 25)).alloc (.cells #[.int .i64 0,.int .i64 0] 82)).alloc (.map #[] 0)).heap.size=w.heap.size+1+1+1:=by simp
 refine ⟨?_,zOc.nil _ _,?_,⟨by omega,by omega⟩,by omega⟩
 ·have h:=Blk.new (((w.alloc (.cells na.toArray 25)).alloc (.cells #[.int .i64 0,.int .i64 0] 82)).alloc (.map #[] 0)) [.slice none 0 0,.map (some (w.heap.size+1+1))] 124
  rw [e3] at h
  exact h
 ·have h:=World.ownsMap_made (H:=Unit) ((w.alloc (.cells na.toArray 25)).alloc (.cells #[.int .i64 0,.int .i64 0] 82)) Tryz.prog 9 (plainElem Tryz.prog 3)
  rw [e2] at h
  exact ⟨0,_,h.alloc _,by simp,⟨[],rfl⟩,fun s=>⟨rfl,fun k hk=>by simp [zNg] at hk⟩⟩
theorem zwp {w:World} {t:T} {S:Nat→Prop} {kv:Value} (hk:KAt 25 w t.kids S kv) (hd:zZj t) (hz:t.size≤4096) :
  Calls Tryz.prog 16 #[zna t kv] w (zAq w (zCd [] t.kids)):=by
 have hmf:=zbc
 have hmm:=@run_makeMap Tryz.prog
 have hts:t.size=1+sizes t.kids:=by cases t;rw [size_mk];rfl
 have hkl:=zbf t.kids
 have HK:=zh (show KAt 25 w t.kids (fun b=>b<w.heap.size) kv from hk.keep fun b _ hb=>⟨hb,rfl⟩)
 have HD:=zh hd
 have HTS:=zh hts
 obtain ⟨ka,kc,rfl⟩:=hk.len
 obtain ⟨W0,hW0⟩:∃ W,(((w.alloc (.cells (zaa t (.slice ka t.kids.length kc)).toArray 25)).alloc (.cells #[.int .i64 0,.int .i64 0] 82)).alloc (.map #[] 0)).alloc (.cells #[.slice none 0 0,.map (some (w.heap.size+1+1))] 124)=W:=⟨_,rfl⟩
 have HR0:=zh (show zLl W0 (w.heap.size+1+1) (w.heap.size+1+1+1) (w.heap.size+1+1) [] (.slice none 0 0) from hW0▸zLl.new w _)
 have HB0:=zh (show Below w.heap.size w W0 from hW0▸(((((Below.refl _ _).alloc (Nat.le_refl _) _).alloc (by simp) _).alloc (by simp;omega) _).alloc (by simp;omega) _))
 have HF0:=zh (show Blk W0 (w.heap.size+1) [.int .i64 0,.int .i64 0] 82 from hW0▸((Blk.zTe w _ _ _).alloc _).alloc _)
 have HN0:=zh (show Blk W0 w.heap.size (zaa t (.slice ka t.kids.length kc)) 25 from hW0▸(((Blk.new w _ _).alloc _).alloc _).alloc _)
 have n4:W0.cell? ⟨w.heap.size,4,none⟩=some (.slice ka t.kids.length kc):=HN0.out.cell 4
 unfold zaa at hW0
 unfold zna
 clear hk hd
 go_enter_defers Tryz.func16,Tryz.ntmps16
 go_wp2_with fail
 clear hmm hmf n4 hW0
 go_loopw [14] (fun i wr=>∃ k:Nat,k≤t.kids.length∧i=.int .i64 k∧∃ tys tv,zLl wr (w.heap.size+1+1) (w.heap.size+1+1+1) (w.heap.size+1+1) tys tv∧Below (w.heap.size+1+1) W0 wr∧tys.length≤k∧zCd [] t.kids=zCd tys (t.kids.drop k)) (fun i _=>t.kids.length-(intOf i).toNat)
 case atStart=>exact ⟨0,by omega,rfl,[],_,HR0.out,Below.refl _ _,by simp,by rw [List.drop_zero]⟩
 case round =>
  obtain ⟨k,hkk,rfl,tys,tv,hst,hbw,htl,heq⟩:=hrel
  have HF:=zh (show Blk wr (w.heap.size+1) [.int .i64 0,.int .i64 0] 82 from (hbw.block _ (by omega)).trans HF0.out)
  have HB:=zh (HB0.out.trans (hbw.mono (by omega)))
  have HBW:=zh hbw
  have HST:=zh hst
  have HEQ0:=zh heq
  have hsz:w.heap.size+1+1+1<wr.heap.size:=hst.l.lt
  by_cases hlt:k<t.kids.length
  ·obtain ⟨tk,htk⟩:∃ tk,t.kids[k]?=some tk:=⟨_,List.getElem?_eq_getElem hlt⟩
   obtain ⟨g,cap,hsl,hgl,hcap,hcm,hget⟩:=(HK.out.form).resolve_left fun h=>by rw [h.2] at hlt;simp at hlt
   obtain ⟨rfl,rfl⟩:ka=some ⟨g,0,none⟩∧kc=cap:=by simpa using hsl
   obtain ⟨u,hr,hu⟩:=hget k tk htk
   have HR:=zh (zua hr HB.out hgl)
   have HEQ:=zh (heq.trans (show _=zCd tys (tk :: t.kids.drop (k+1)) by rw [List.drop_eq_getElem_cons hlt,(List.getElem?_eq_some_iff.1 htk).2]))
   obtain ⟨W1,hW1⟩:∃ W,wr.alloc (.cells (zaa tk u).toArray 25)=W:=⟨_,rfl⟩
   have hb1:Below wr.heap.size wr W1:=hW1▸(Below.refl _ _).alloc (Nat.le_refl _) _
   have HB1:=zh (HB.out.trans (hb1.mono HB.out.size))
   have HBW1:=zh (HBW.out.trans (hb1.mono (by omega)))
   have HS1:=zh (hst.below hb1)
   have HF1:=zh (HF.out.stays hb1)
   have HB5:=zh (show Blk W1 wr.heap.size (zaa tk u) 25 from hW1▸Blk.new wr _ _)
   have HU:=zh (hu.kat.below HB1.out)
   have hu1:=hu.one'
   have hc0:W1.cell? ⟨wr.heap.size,0,none⟩=some (.int .i64 tk.kind):=HB5.out.cell 0
   have HKL:=zh (show tk.kids.length≤4096 from by have:=zzm (List.mem_of_getElem? htk);omega)
   have HSM:=zh (show (tk.kind == 1)=true→tk.text.size≤16∧(zJa (zUd tk.kids).sort 0).text.size≤16 from fun h=>zco (HD.out tk (List.mem_of_getElem? htk) (beq_iff_eq.1 h)))
   clear hget hr hu hst hsl htk heq hb1 hbw
   cases h1:tk.kind == 1
   ·have HN:=zh (HEQ.out.trans (znq h1))
    go_wp2_with (first
     | ((with_reducible refine zqa 25 (.tmp 16) ?_);refine wpList_load_mid rfl 25 (.tmp 16) rfl g (k * 5) rfl (zaa tk u) _ HR.out Tryz.underlying25 rfl Tryz.zea ?_)
     | ((with_reducible refine zla 25 (.tmp 6) ?_);refine zga rfl 25 (.tmp 6) (.tmp 17) rfl (zaa tk u) (old:=zba) rfl rfl Tryz.zea rfl (zca _ _ hu1) ?_;rw [hW1]))
    go_roundw
    case rel=>exact ⟨k+1,by omega,by go_num,tys,tv,HS1.out,HBW1.out,by omega,HN.out⟩
    case measure=>simp [intOf];omega
   ·have hsm:=HSM.out h1
    have HAD:=zh (zYl HS1.out (t:=tk) (kv:=u) HU.out HKL.out (by omega) (by unfold maxLen;omega) (by unfold maxLen;omega))
    unfold zna at HAD
    have hb5:=HB5.out
    go_wp2_with (first
     | ((with_reducible refine zqa 25 (.tmp 16) ?_);refine wpList_load_mid rfl 25 (.tmp 16) rfl g (k * 5) rfl (zaa tk u) _ HR.out Tryz.underlying25 rfl Tryz.zea ?_)
     | ((with_reducible refine zla 25 (.tmp 6) ?_);refine zga rfl 25 (.tmp 6) (.tmp 17) rfl (zaa tk u) (old:=zba) rfl rfl Tryz.zea rfl (zca _ _ hu1) ?_;rw [hW1])
     | ((with_reducible refine zqa 25 (.tmp 6) ?_);refine zia rfl 25 (.tmp 6) rfl wr.heap.size (zaa tk u) rfl hb5 Tryz.underlying25 rfl Tryz.zea ?_))
    refine HAD.out.mono ?_
    clear HAD hb5 hW1 hc0
    intro e w2 hp
    cases ho:zCo tys tk with
    | error pc =>
     obtain ⟨q,c⟩:=pc
     rw [ho] at hp
     obtain ⟨rfl,hb⟩:=hp
     have HRes:=zh (HEQ.out.trans (zZn h1 ho))
     have HF2:=zh (show Blk w2 (w.heap.size+1) [.int .i64 0,.int .i64 0] 82 from (hb.block _ (by omega)).trans HF1.out)
     have HB2:=zh (HB1.out.trans (hb.mono (by omega)))
     clear hb
     go_wp2_with fail
     refine leaves_cons (f:=33) (args:=#[.pointer (some ⟨w.heap.size+1,0,none⟩)]) (by simp) (by simp [go_sem]) ?_
     refine (zDh (w.heap.size+1) q c _ HF2.out).mono ?_
     rintro e u' w3 ⟨rfl,rfl,hb3,hg3⟩
     refine ⟨_,zdh Tryz.results16 rfl rfl hb3 Tryz.underlying82 rfl Tryz.zdf,?_⟩
     rw [HRes.out]
     exact ⟨rfl,HB2.out.grown hg3 HB2.out.size (fun k hk=>by cases hk;omega)⟩
    | ok x =>
     rw [ho] at hp
     obtain ⟨rfl,⟨tv',hs⟩,hb⟩:=hp
     have HN:=zh (HEQ.out.trans (zXq h1 ho))
     have HS2:=zh hs
     have HB2:=zh (HBW1.out.trans hb)
     clear hs hb
     go_wp2_with fail
     go_roundw
     case rel=>exact ⟨k+1,by omega,by go_num,tys++[x],tv',HS2.out,HB2.out,by simp;omega,HN.out⟩
     case measure=>simp [intOf];omega
  ·obtain rfl:k=t.kids.length:=by omega
   have HRes:=zh (show zCd [] t.kids=.ok tys by rw [heq,List.drop_length];rfl)
   have l0:wr.cell? ⟨w.heap.size+1+1+1,0,none⟩=some tv:=hst.l.cell 0
   have hf:=HF.out
   clear heq hbw hst HEQ0
   go_wp2_with ((with_reducible refine zla 82 (.tmp 3) ?_);refine zda rfl 82 (.tmp 3) (.tmp 29) rfl (w.heap.size+1) [.int .i64 0,.int .i64 0] rfl rfl hf Tryz.zdf rfl (by simp [Value.oneCell']) ?_)
   refine leaves_cons (f:=33) (args:=#[.pointer (some ⟨w.heap.size+1,0,none⟩)]) (by simp) (by simp [go_sem]) ?_
   refine (zym (w.heap.size+1) _).mono ?_
   rintro e u' w2 ⟨rfl,rfl,rfl⟩
   refine ⟨_,zdh Tryz.results16 rfl rfl (hf.zra [.int .i64 0,.int .i64 0]) Tryz.underlying82 rfl Tryz.zdf,?_⟩
   rw [HRes.out]
   exact ⟨tv,rfl,HST.out.t.keep fun b hb _=>⟨by omega,setRow_other _ _ _ _ (by omega)⟩,Below.row HB.out (by omega) _⟩
def zAg (w:World) (r:E (List Ty)) (e:Ending) (w':World):Prop :=
 match r with
 | .ok tys=>∃ v,e=.returned (.tuple #[v,.int .i64 0,.int .i64 0])∧zOc w' tys (fun b=>w.heap.size≤b) v∧Below w.heap.size w w'
 | .error (p,c)=>e=.returned (.tuple #[.slice none 0 0,.int .i64 p,.int .i64 c])∧Below w.heap.size w w'
theorem ziq {w:World} {t:T} {S:Nat→Prop} {kv:Value} (hk:KAt 25 w t.kids S kv) (hd:zZj t) (hz:t.size≤4096) :
  Calls Tryz.prog 6 #[zna t kv] w (zAg w (zCd [] t.kids)):=by
 obtain ⟨W0,hW0⟩:∃ W,w.alloc (.cells (zaa t kv).toArray 25)=W:=⟨_,rfl⟩
 have HB0:=zh (show Below w.heap.size w W0 from hW0▸(Below.refl _ _).alloc (Nat.le_refl _) _)
 have hn:=show Blk W0 w.heap.size (zaa t kv) 25 from hW0▸Blk.new w _ _
 have HRD:=zh (zwp (hk.below HB0.out) hd hz)
 unfold zaa at hW0
 unfold zna at HRD ⊢
 clear hk
 go_enter Tryz.func6,Tryz.ntmps6
 go_wp2_with ((with_reducible refine zqa 25 (.tmp 1) ?_);refine zia rfl 25 (.tmp 1) rfl w.heap.size (zaa t kv) rfl hn Tryz.underlying25 rfl Tryz.zea ?_)
 refine HRD.out.mono ?_
 clear HRD hn hW0
 intro e w2 hp
 cases hr:zCd [] t.kids with
 | error pc =>
  obtain ⟨p,c⟩:=pc
  rw [hr] at hp
  obtain ⟨rfl,hb⟩:=hp
  have HB2:=zh (HB0.out.trans (hb.mono HB0.out.size))
  obtain ⟨W3,hW3⟩:∃ W,w2.alloc (.cells #[.int .i64 p,.int .i64 c] 82)=W:=⟨_,rfl⟩
  have HB3:=zh (show Below w.heap.size w W3 from hW3▸HB2.out.alloc HB2.out.size _)
  have h3:=show Blk W3 w2.heap.size [.int .i64 p,.int .i64 c] 82 from hW3▸Blk.new w2 _ _
  have c0:W3.cell? ⟨w2.heap.size,0,none⟩=some (.int .i64 p):=h3.cell 0
  have c1:W3.cell? ⟨w2.heap.size,1,none⟩=some (.int .i64 c):=h3.cell 1
  clear hb h3
  go_wp2_with fail
  try rw [hW3]
  clear hW3
  go_quiet (fail)
  go_wp2_with fail
  go_ret3
  unfold zAg
  rw [hr]
  exact ⟨rfl,zXe HB3.out _⟩
 | ok tys =>
  rw [hr] at hp
  obtain ⟨v,rfl,ht,hb⟩:=hp
  have HB2:=zh (HB0.out.trans (hb.mono HB0.out.size))
  obtain ⟨va,vn,vc,rfl⟩:∃ a n c,v=.slice a n c:=ht.slice.elim fun a h=>h.elim fun c h=>⟨a,_,c,h⟩
  obtain ⟨W3,hW3⟩:∃ W,w2.alloc (.cells #[.int .i64 0,.int .i64 0] 82)=W:=⟨_,rfl⟩
  have HB3:=zh (show Below w.heap.size w W3 from hW3▸HB2.out.alloc HB2.out.size _)
  have h3:=show Blk W3 w2.heap.size [.int .i64 0,.int .i64 0] 82 from hW3▸Blk.new w2 _ _
  have hz2:=HB2.out.size
  obtain ⟨W4,hW4⟩:∃ W,W3.setRow w2.heap.size [.int .i64 0,.int .i64 0].toArray=W:=⟨_,rfl⟩
  have h4:=show Blk W4 w2.heap.size [.int .i64 0,.int .i64 0] 82 from hW4▸h3.zra _
  have HB4:=zh (show Below w.heap.size w W4 from hW4▸Below.row HB3.out hz2 _)
  have HT4:=zh (show zOc W4 tys (fun b=>W0.heap.size≤b) (.slice va vn vc) from hW4▸ht.keep fun b hb hl=>⟨hb,(setRow_other _ _ _ _ (by omega)).trans (by rw [← hW3];exact Below.heap_alloc _ _ _ hl)⟩)
  have c0:W4.cell? ⟨w2.heap.size,0,none⟩=some (.int .i64 0):=h4.cell 0
  have c1:W4.cell? ⟨w2.heap.size,1,none⟩=some (.int .i64 0):=h4.cell 1
  clear hb ht h4
  go_wp2_with ((with_reducible refine zla 82 (.tmp 6) ?_);refine zda rfl 82 (.tmp 6) (.tmp 11) rfl w2.heap.size [.int .i64 0,.int .i64 0] rfl rfl h3 Tryz.zdf rfl (by simp [Value.oneCell']) ?_;rw [hW4])
  clear hW3 h3
  go_quiet (fail)
  go_wp2_with fail
  go_ret3
  unfold zAg
  rw [hr]
  exact ⟨_,rfl,HT4.out.keep fun b hb _=>⟨by have:=HB0.out.size;omega,rfl⟩,zXe HB4.out _⟩
end
section
open Go.RowKit
theorem zOu {P:Program} {fn:Func} {s u:Tmp} {tz t:TypeId} (h:fn.results=#[.tmp s,.cell u tz]) {a:Act} {W:World} {g:Nat} {cs:List Value} {d:TypeDesc} {R:Ending→World→Prop} {x:Value} (hs:a.tmps.getD s undef=x) (hu:a.tmps.getD u undef=.pointer (some ⟨g,0,none⟩))
  (hb:Blk W g cs t) (hz:P.underlying tz=some d) (hd:d.isRow=true) (hi:(P.info? tz).map (·.size)=some cs.length) (hdf:a.defers=[]) (hR:R (.returned (.tuple #[x,.agg cs.toArray])) W):bodyPost P fn R .ret a W :=
 bodyPost_ret (zdh h hs hu hb hz hd hi) hdf hR
theorem zGf {P:Program} {fn:Func} {s u:Tmp} {tz t:TypeId} (h:fn.results=#[.cell s tz,.tmp u]) {a:Act} {W:World} {g:Nat} {cs:List Value} {d:TypeDesc} {R:Ending→World→Prop} {x:Value} (hs:a.tmps.getD s undef=.pointer (some ⟨g,0,none⟩)) (hu:a.tmps.getD u undef=x)
  (hb:Blk W g cs t) (hz:P.underlying tz=some d) (hd:d.isRow=true) (hi:(P.info? tz).map (·.size)=some cs.length) (hdf:a.defers=[]) (hR:R (.returned (.tuple #[.agg cs.toArray,x])) W):bodyPost P fn R .ret a W:=by
 refine bodyPost_ret ?_ hdf hR
 have hl:=run_loadVar_mid (P:=P) W g 0 tz cs d (fun j v hj=>by rw [Nat.zero_add,hb.cell j];exact hj) hz hd hi
 have hs':a.tmps[s]?.getD undef=.pointer (some ⟨g,0,none⟩):=by rw [← hs];simp
 have hx':a.tmps[u]?.getD undef=x:=by rw [← hu];simp
 simp [results,h,hs',asAddr,hl,hx']
def zhu (w:World) (p:Fp) (e:Ending) (w':World):Prop:=∃ fv rv,e=.returned (.tuple #[fv,zna p.res rv])∧KAt 25 w' p.params (fun _=>True) fv∧KAt 25 w' p.res.kids (fun _=>True) rv∧Below w.heap.size w w'
structure zxm (w:World) (n:Nat) (W:World) (p:Fp) (rv fv:Value):Prop where
 b:Below n w W
 q:Blk W (n+1) (zaa p.res rv) 25
 s:KAt 25 W p.res.kids (fun b=>b<n) rv
 f:zvg W n (n+2) p.params fv
 lt:n+2≤W.heap.size
section
variable {w W W':World} {n:Nat} {p:Fp} {rv fv:Value}
theorem zxm.stay (h:zxm w n W p rv fv) (hb:Below W.heap.size W W'):zxm w n W' p rv fv :=
 ⟨h.b.trans (hb.mono (by have:=h.lt;omega)),h.q.stays hb,h.s.below hb,h.f.keep fun b _ hl=>hb.block b hl,Nat.le_trans h.lt hb.size⟩
theorem zxm.alloc (h:zxm w n W p rv fv) (o:Obj):zxm w n (W.alloc o) p rv fv:=h.stay ((Below.refl _ _).alloc (Nat.le_refl _) _)
theorem zxm.set (h:zxm w n W p rv fv) {t:T} {u:Value} (hs:KAt 25 W t.kids (fun b=>b<n) u):zxm w n (W.setRow (n+1) (zaa t u).toArray) ⟨p.params,t⟩ u fv :=
 ⟨Below.row h.b (by omega) _,h.q.zra _,hs.setRow _ _ (fun b hb=>by omega),h.f.row _ _ (by omega) (by omega),by simpa using h.lt⟩
theorem zxm.add (h:zxm w n W p rv fv) (hg:W.grownBy W' fv.ownBlock) {fs':List T} {fv':Value} (hf:zvg W' n (n+2) fs' fv'):zxm w n W' ⟨fs',p.res⟩ rv fv':=by
 have hlt:=h.lt
 have hr:∀ k,fv.ownBlock=some k→n+2≤k:=fun k hk=>(h.f.lt hk).1
 exact ⟨h.b.grown hg (by omega) (fun k hk=>by have:=hr k hk;omega),h.q.grown hg (fun e=>by have:=hr _ e.symm;omega),
  h.s.keep fun b hb hl=>⟨hb,hg.block b hl fun e=>by have:=hr _ e.symm;omega⟩,hf,by have:=hg.size;omega⟩
end
theorem zXn {w:World} {t:T} {S:Nat→Prop} {kv:Value} (hk:KAt 25 w t.kids S kv) (hl:t.kids.length≤4096) :
  Calls Tryz.prog 49 #[zna t kv] w (zhu w (zFe t.kids)):=by
 obtain ⟨i0,z0,I⟩:=Tryz.zce
 have hk0:KAt 25 w t.kids (fun b=>b<w.heap.size) kv:=hk.keep fun b _ hb=>⟨hb,rfl⟩
 obtain ⟨W0,hW0⟩:∃ W,(w.alloc (.cells (zaa t kv).toArray 25)).alloc (.cells zba.toArray 25)=W:=⟨_,rfl⟩
 have HB0:=zh (show Below w.heap.size w W0 from hW0▸(((Below.refl _ _).alloc (Nat.le_refl _) _).alloc (by simp) _))
 have b1:=show Blk W0 w.heap.size (zaa t kv) 25 from hW0▸((Blk.new w _ _).alloc _)
 have b2:=show Blk W0 (w.heap.size+1) zba 25 from hW0▸(Blk.zTe w _ _ _)
 have hsz:w.heap.size+2≤W0.heap.size:=by rw [← hW0];simp
 have HST:=zh (show zxm w w.heap.size W0 (zFe (t.kids.take 0)) (.slice none 0 0) (.slice none 0 0) from ⟨HB0.out,b2,KAt.nil _ _ _,zvg.nil _ _ _,hsz⟩)
 have c4:W0.cell? ⟨w.heap.size,4,none⟩=some kv:=b1.cell 4
 have HK:=zh hk0
 obtain ⟨ka,kc,rfl⟩:=hk0.len
 unfold zba zaa at hW0
 clear b1 b2 hk
 unfold zna
 go_enter Tryz.func49,Tryz.ntmps49
 go_upto_region 1 with fail
 try rw [hW0]
 clear hW0
 go_wp2_with fail
 go_loopw [2,9] (fun fv i wr=>∃ k:Nat,k≤t.kids.length∧i=.int .i64 k∧∃ rv,zxm w w.heap.size wr (zFe (t.kids.take k)) rv fv) (fun _ i _=>t.kids.length-(intOf i).toNat)
 case atStart=>exact ⟨0,by omega,rfl,_,HST.out⟩
 case round =>
  obtain ⟨k,hkk,rfl,hrv⟩:=hrel
  obtain ⟨rv,hst⟩:=hrv
  by_cases hlt:k<t.kids.length
  ·obtain ⟨tk,htk⟩:∃ tk,t.kids[k]?=some tk:=⟨_,List.getElem?_eq_getElem hlt⟩
   obtain ⟨g,cap,hsl,hgl,hcap,hcm,hget⟩:=(HK.out.form).resolve_left fun h=>by rw [h.2] at hlt;simp at hlt
   obtain ⟨rfl,rfl⟩:ka=some ⟨g,0,none⟩∧kc=cap:=by simpa using hsl
   obtain ⟨u,hr,hu⟩:=hget k tk htk
   have HR:=zh (zua hr hst.b hgl)
   have HTU:=zh ((hu.below hst.b).alloc (.cells (zaa tk u).toArray 25))
   have hu1:=hu.kat.one
   have HSN:=zh (show zFe (t.kids.take (k+1))=⟨bif tk.kind == 7 then (zFe (t.kids.take k)).params++[tk] else (zFe (t.kids.take k)).params,bif tk.kind == 8 then tk else (zFe (t.kids.take k)).res⟩ by rw [List.take_add_one,htk,Option.toList_some,zNq])
   generalize hp:zFe (t.kids.take k)=p at *
   have HPL:=zh (show p.params.length≤4096 from by
    subst hp
    unfold zFe
    have h1:=List.length_filter_le (fun x:T=>x.kind == 7) (t.kids.take k)
    simp only [List.length_take] at h1 ⊢
    omega)
   obtain ⟨W1,hW1⟩:∃ W,wr.alloc (.cells (zaa tk u).toArray 25)=W:=⟨_,rfl⟩
   have HS1:=zh (show zxm w w.heap.size W1 p rv u2 from hW1▸hst.alloc _)
   have HB5:=zh (show Blk W1 wr.heap.size (zaa tk u) 25 from hW1▸Blk.new wr _ _)
   have hc0:W1.cell? ⟨wr.heap.size,0,none⟩=some (.int .i64 tk.kind):=HB5.out.cell 0
   rw [hW1] at HTU
   have hgn:w.heap.size+2≤wr.heap.size:=hst.lt
   have hn5:(zaa tk u).length=5:=rfl
   clear hget hr hu hst hsl hp htk
   cases h2:tk.kind == 7
   ·cases h3:tk.kind == 8
    ·have HN2:=zh (HSN.out.trans (show _=p by rw [h2,h3];rfl))
     go_wp2_with (first
      | ((with_reducible refine zqa 25 (.tmp 11) ?_);refine wpList_load_mid rfl 25 (.tmp 11) rfl g (k * 5) rfl (zaa tk u) _ HR.out Tryz.underlying25 rfl Tryz.zea ?_)
      | ((with_reducible refine zla 25 (.tmp 5) ?_);refine zga rfl 25 (.tmp 5) (.tmp 12) rfl (zaa tk u) (old:=zba) rfl rfl Tryz.zea rfl (zca _ _ hu1) ?_;rw [hW1]))
     go_roundw
     case rel=>exact ⟨k+1,by omega,by go_num,_,by rw [HN2.out];exact HS1.out⟩
     case measure=>simp [intOf];omega
    ·have HN2:=zh (HSN.out.trans (show _=(⟨p.params,tk⟩:Fp) by rw [h2,h3];rfl))
     have HS2:=zh (HS1.out.set (t:=tk) HTU.out.kat)
     go_wp2_with (first
      | ((with_reducible refine zqa 25 (.tmp 11) ?_);refine wpList_load_mid rfl 25 (.tmp 11) rfl g (k * 5) rfl (zaa tk u) _ HR.out Tryz.underlying25 rfl Tryz.zea ?_)
      | ((with_reducible refine zla 25 (.tmp 5) ?_);refine zga rfl 25 (.tmp 5) (.tmp 12) rfl (zaa tk u) (old:=zba) rfl rfl Tryz.zea rfl (zca _ _ hu1) ?_;rw [hW1])
      | ((with_reducible refine zqa 25 (.tmp 5) ?_);refine zia rfl 25 (.tmp 5) rfl wr.heap.size (zaa tk u) rfl HB5.out Tryz.underlying25 rfl Tryz.zea ?_)
      | ((with_reducible refine zla 25 (.tmp 3) ?_);refine zda rfl 25 (.tmp 3) (.tmp 23) rfl (w.heap.size+1) (zaa tk u) rfl rfl HS1.out.q Tryz.zea rfl (zca _ _ hu1) ?_))
     go_roundw
     case rel=>exact ⟨k+1,by omega,by go_num,_,by rw [HN2.out];exact HS2.out⟩
     case measure=>simp [intOf];omega
   ·have HN2:=zh (HSN.out.trans (show _=(⟨p.params++[tk],p.res⟩:Fp) by
     have h3:(tk.kind == 8)=false:=by rw [beq_iff_eq.1 h2];rfl
     rw [h2,h3];rfl))
    have HSA:=zh (HS1.out.alloc (.cells (zaa tk u).toArray 25))
    have HLN:=zh (Blk.new W1 (zaa tk u) 25)
    go_wp2_with (first
     | ((with_reducible refine zqa 25 (.tmp 11) ?_);refine wpList_load_mid rfl 25 (.tmp 11) rfl g (k * 5) rfl (zaa tk u) _ HR.out Tryz.underlying25 rfl Tryz.zea ?_)
     | ((with_reducible refine zla 25 (.tmp 5) ?_);refine zga rfl 25 (.tmp 5) (.tmp 12) rfl (zaa tk u) (old:=zba) rfl rfl Tryz.zea rfl (zca _ _ hu1) ?_;rw [hW1])
     | ((with_reducible refine zqa 25 (.tmp 5) ?_);refine zia rfl 25 (.tmp 5) rfl wr.heap.size (zaa tk u) rfl HB5.out Tryz.underlying25 rfl Tryz.zea ?_)
     | (at_builtin;refine zmd rfl (.tmp 17) (.tmp 19) rfl I rfl HSA.out.f (HTU.out.alloc _) rfl HLN.out HPL.out (by omega) HSA.out.lt ?_))
    intro v' w' hf hg hbk
    obtain ⟨va,vn,vc,rfl⟩:∃ a n c,v'=.slice a n c:=hf.slice.elim fun a h=>h.elim fun c h=>⟨a,_,c,h⟩
    have HS2:=zh (HSA.out.add hg hf)
    clear hf hg hbk
    go_wp2
    go_roundw
    case rel=>exact ⟨k+1,by omega,by go_num,_,by rw [HN2.out];exact HS2.out⟩
    case measure=>simp [intOf];omega
  ·obtain rfl:k=t.kids.length:=by omega
   rw [List.take_of_length_le (Nat.le_refl _)] at hst
   have hQ:=hst.q
   have HST2:=zh hst
   have HONE:=zh hst.s.one
   obtain ⟨va,vc,rfl⟩:=hst.f.slice
   clear hst
   go_upto_region 10 with fail
   refine wp_region_held_drew (S:=fun W=>Blk W (w.heap.size+1) (zaa (zFe t.kids).res rv) 25) (by kernel_rfl) hQ (fun hS=>?_)
   refine wpAnyH_take (i:=0) (oi:=⟨some 25,_,_,_,_,_⟩) (v:=.slice va (zFe t.kids).params.length vc) rfl (by kernel_rfl) (by kernel_rfl) (by kernel_rfl) (fun _ _ _ h=>h) (Or.inl ⟨by rfl,fun W _=>by go_simp⟩) hS ?_
   try simp only [Act.put,List.setIfInBounds_toArray,List.set_cons_zero,List.set_cons_succ]
   refine wpAnyH_take (i:=1) (oi:=⟨some 26,_,_,_,_,_⟩) (v:=.agg (zaa (zFe t.kids).res rv).toArray) rfl (by kernel_rfl) (by kernel_rfl) (by kernel_rfl) (fun _ _ _ h=>h) (yieldsIf_load_mid (cs:=zaa (zFe t.kids).res rv) (by rfl) 25 (.tmp 3) rfl (w.heap.size+1) 0 (by go_simp) _ (fun W hW j v hj=>by rw [Nat.zero_add,hW.cell j];exact hj) Tryz.underlying25 rfl Tryz.zea) hS ?_
   try simp only [Act.put,List.setIfInBounds_toArray,List.set_cons_zero,List.set_cons_succ]
   refine wpAnyH_take (i:=2) (oi:=⟨some 2,_,_,_,_,_⟩) (v:=.slice va (zFe t.kids).params.length vc) rfl (by kernel_rfl) (by kernel_rfl) (by kernel_rfl) (fun _ _ _ h=>h) (Or.inl ⟨by rfl,fun W _=>by go_simp⟩) hS ?_
   try simp only [Act.put,List.setIfInBounds_toArray,List.set_cons_zero,List.set_cons_succ]
   refine AnyH.only (i:=3) (o:=⟨none,_,_,_,_,_⟩) (by kernel_rfl) rfl (by rfl) (fun K hK=>?_)
   refine zva 25 (.tmp 3) (.tmp 26) rfl (w.heap.size+1) (zaa (zFe t.kids).res rv) rfl rfl hS Tryz.zea rfl (zca _ _ HONE.out) ?_
   refine hK.out _ _ (hS.zra _) ?_
   clear hK K
   refine wpAnyH_done (by kernel_rfl) ?_ _
   go_wp2_with fail
   have hst:=HST2.out.stay (Below.refl _ _).drew
   have h2:=hst.set (t:=(zFe t.kids).res) (u:=rv) hst.s
   refine zOu (cs:=zaa (zFe t.kids).res rv) Tryz.results49 rfl rfl (hst.q.zra (zaa (zFe t.kids).res rv)) Tryz.underlying25 rfl Tryz.zea rfl ?_
   exact ⟨_,rv,rfl,h2.f.kat (by omega),h2.s.mono fun _ _ _=>trivial,h2.b⟩
end
section
open Go.RowKit Go.Maps Go.Shelf
attribute [local go_sem] Oper.semAt_some
structure TyX where
 k:Nat
 hk:k≤9223372036854775807
 t:Ty
 hs:t.name.size≤maxLen
 p:Option Addr × Nat × Nat
 l:Option Addr × Nat × Nat
def TyX.kt (x:TyX):Nat × ByteArray:=(x.k,x.t.name)
def TyX.pv (x:TyX):Value:=.slice x.p.1 x.p.2.1 x.p.2.2
def TyX.lv (x:TyX):Value:=.slice x.l.1 x.l.2.1 x.l.2.2
def zOh (s:ByteArray):List (Nat × ByteArray)→Option Nat:=List.foldl (fun o x=>bif x.2.toList == s.toList then some x.1 else o) none
theorem zhj (s:ByteArray) (l:List (Nat × ByteArray)) (x:Nat × ByteArray):zOh s (l++[x])=bif x.2.toList == s.toList then some x.1 else zOh s l:=by simp [zOh]
def zPf (ts:List Ty):Nat→List (Nat × ByteArray)
 | 0=>[]
 | m+1=>zPf ts m++(match ts[ts.length-(m+1)]? with|some t=>[(ts.length-(m+1),t.name)]|none=>[])
theorem zkj {ts:List Ty} {j m:Nat} {t:Ty} (h:ts[j]?=some t) (hm:m+1+j=ts.length):zPf ts (m+1)=zPf ts m++[(j,t.name)]:=by
 have e:ts.length-(m+1)=j:=by omega
 simp only [zPf,e,h]
theorem zHk (ts:List Ty) (s:ByteArray):∀ m,m≤ts.length→zOh s (zPf ts m)=(zze (ts.drop (ts.length-m)) s).map (·+(ts.length-m))
 | 0,_=>by simp [zPf,zOh,zNg]
 | m+1,hm=>by
  obtain ⟨t,ht⟩:∃ t,ts[ts.length-(m+1)]?=some t:=⟨_,List.getElem?_eq_getElem (by omega)⟩
  have hlt:ts.length-(m+1)<ts.length:=by omega
  rw [zkj ht (by omega),zhj,zHk ts s m (by omega)]
  have e:ts.drop (ts.length-(m+1))=t :: ts.drop (ts.length-m):=by
   rw [List.drop_eq_getElem_cons hlt,(List.getElem?_eq_some_iff.1 ht).2]
   congr 2
   omega
  rw [e]
  show _=((bif t.name.toList == s.toList then some 0 else (zze (ts.drop (ts.length-m)) s).map (·+1))).map _
  cases t.name.toList == s.toList
  ·simp only [cond_false,Option.map_map]
   cases zze (ts.drop (ts.length-m)) s with
   | none=>rfl
   | some k=>simp only [Option.map_some,Function.comp];congr 1;omega
  ·simp
def zAm (w:World) (M:Nat) (l:List (Nat × ByteArray)):Prop :=
 ∃ (n:Nat) (D:DataW Unit),w.ownsMap Tryz.prog 9 (plainElem Tryz.prog 3) M n D∧n≤l.length∧IsMap D∧∀ s:ByteArray,Maps.has D (zgg s)=(zOh s l).isSome∧∀ k,zOh s l=some k→D.atKey (zgg s) (.lit (.int .i64 0))=.lit (.int .i64 k)
theorem zAm.kept {w w':World} {b:Nat} {l:List (Nat × ByteArray)} {row:Option Nat} (h:zAm w b l) (hg:w.grownBy w' row) (hne:some b≠row):zAm w' b l:=by
 obtain ⟨n,D,h1,h2,h3,h4⟩:=h
 exact ⟨n,D,h1.kept hg hne,h2,h3,h4⟩
theorem zAm.same {w w':World} {M:Nat} {l:List (Nat × ByteArray)} (h:zAm w M l) (e:w'.heap[M]?=w.heap[M]?):zAm w' M l:=by
 obtain ⟨n,D,⟨es,clock,hb,hr⟩,h2⟩:=h
 exact ⟨n,D,⟨es,clock,e.trans hb,hr⟩,h2⟩
theorem zAm.snoc {w1:World} {M n:Nat} {l:List (Nat × ByteArray)} {x:Nat × ByteArray} {D:DataW Unit} (hn:n≤l.length) (hI:IsMap D) (hD:∀ s:ByteArray,Maps.has D (zgg s)=(zOh s l).isSome∧∀ k,zOh s l=some k→D.atKey (zgg s) (.lit (.int .i64 0))=.lit (.int .i64 k))
  (ho:w1.ownsMap Tryz.prog 9 (plainElem Tryz.prog 3) M (n+1) (D.put (zgg x.2) (.lit (.int .i64 (x.1:Nat))))):zAm w1 M (l++[x]):=by
 refine ⟨n+1,_,ho,by simp;omega,hI.put _ _,fun s=>?_⟩
 rw [zhj]
 by_cases he:x.2.toList=s.toList
 ·have hk:zgg s=zgg x.2:=(ztk s x.2).2 he.symm
  have hb:(x.2.toList == s.toList)=true:=by simpa using he
  rw [hk,has_put_same hI (by unfold zgg;trivial),hb]
  refine ⟨by simp,fun k hk2=>?_⟩
  rw [atKey_put_same hI (by unfold zgg;trivial)]
  simp only [cond_true,Option.some.injEq] at hk2
  rw [← hk2]
 ·have hk:zgg s≠zgg x.2:=fun e=>he ((ztk s x.2).1 e).symm
  have hb:(x.2.toList == s.toList)=false:=by simpa using he
  rw [has_put_other hk,atKey_put_other hk,hb]
  exact hD s
theorem zAm.at {w:World} {M:Nat} {ts:List Ty} (h:zAm w M (zPf ts ts.length)) (hl:(zPf ts ts.length).length≤ts.length):MapAt w M ts:=by
 obtain ⟨n,D,h1,h2,h3,h4⟩:=h
 refine ⟨n,D,h1,by omega,h3,fun s=>?_⟩
 have e:zOh s (zPf ts ts.length)=zze ts s:=by
  rw [zHk ts s ts.length (Nat.le_refl _),Nat.sub_self,List.drop_zero]
  cases zze ts s<;>rfl
 have:=h4 s
 rw [e] at this
 exact this
theorem zGl (ts:List Ty):∀ m,(zPf ts m).length≤m
 | 0=>by simp [zPf]
 | m+1=>by
  have:=zGl ts m
  unfold zPf
  split<;>simp<;>omega
def KpB (n₀ Bs:Nat) (W W':World):Prop:=Below n₀ W W'∧W'.heap[Bs]?=W.heap[Bs]?
theorem zSr (F:Fence) (n:Nat) (hf:F.fn 73) (hro:F.round=none) (hn:1≤n) (l Bs:Nat) (A:Option Addr) (cap:Nat) (ts:List Ty) (w:World) (hl:ts.length≤9223372036854775807) (hts:Tys w A ts) (hns:∀ t∈ts,t.name.size≤maxLen) (J Jx:List TyX→World→Prop)
  (hY:∀ pre x W,J pre W→pre.length<ts.length→YieldAt F (n-1) Tryz.prog l #[.int .i64 x.k,TyV x.t x.pv x.lv] W fun e W' =>
   (e=.returned (.bool true)∧J (pre++[x]) W'∧KpB w.heap.size Bs W W')∨(e=.returned (.bool false)∧Jx (pre++[x]) W'))
  (W:World) (hW:Below w.heap.size w W) (hBs:W.cell? ⟨Bs,0,none⟩=some (.slice A ts.length cap)) (h0:J [] W) :
  CallsIn F n Tryz.prog 73 #[.func (.yield l) #[] #[],.pointer (some ⟨Bs,0,none⟩)] W fun e W'=>(∃ v,e=.returned v) ∧
   ((∃ ys:List TyX,ys.map TyX.kt=zPf ts ts.length∧J ys W')∨(∃ pre,Jx pre W')):=by
 have HT:=zh hts
 have HW:=zh hW
 have HNS:=zh hns
 clear hts hW hns
 refine callsIn_of_wp Tryz.func73 rfl hf ?_ hro
 simp only [Tryz.ntmps73,List.size_toArray,List.length_cons,List.length_nil,Nat.reduceAdd,Nat.reduceSub,Array.replicate_succ,Array.replicate_zero,List.push_toArray,List.append_toArray,List.nil_append,List.cons_append]
 have hwr:wrap64 ((ts.length:Int)-1)=(ts.length:Int)-1:=by unfold wrap64;omega
 gi_wp2
 gi_loopw [3] (fun i wr=>∃ (k m:Nat) (pre:List TyX),m+k=ts.length∧i=.int .i64 ((k:Int)-1)∧pre.length=m∧pre.map TyX.kt=zPf ts m∧J pre wr∧KpB w.heap.size Bs W wr)
  (fun i _=>(intOf i+1).toNat)
 case atStart=>exact ⟨ts.length,0,[],by omega,rfl,rfl,rfl,h0,Below.refl _ _,rfl⟩
 case round =>
  obtain ⟨k,m,pre,hkm,rfl,hpl,hpm,hJ,hK⟩:=hrel
  have HK:=zh hK
  have hb:wr.cell? ⟨Bs,0,none⟩=some (.slice A ts.length cap):=by
   have:=hK.2
   simp only [World.cell?,this]
   simpa [World.cell?] using hBs
  rcases k with _|j
  ·gi_wp2
   go_end0
   have hm:m=ts.length:=by omega
   exact ⟨⟨_,rfl⟩,.inl ⟨pre,by rw [hpm,hm],hJ⟩⟩
  ·obtain ⟨t,ht⟩:∃ t,ts[j]?=some t:=⟨_,List.getElem?_eq_getElem (by omega)⟩
   obtain ⟨b,rfl,hbl,hget⟩:=HT.out (by omega)
   obtain ⟨p,q,hr,hty⟩:=hget j t ht
   obtain ⟨p1,p2,rfl⟩:=hty.1.slice
   obtain ⟨q1,q2,rfl⟩:=hty.2.slice
   have hr':=zua hr (HW.out.trans hK.1) hbl
   have e0:wr.cell? ⟨b,j * 5,none⟩=some (.string t.name):=hr' 0 _ rfl
   have e1:wr.cell? ⟨b,j * 5+1,none⟩=some (.int .i64 t.sort):=hr' 1 _ rfl
   have e2:wr.cell? ⟨b,j * 5+2,none⟩=some (.int .i64 t.of):=hr' 2 _ rfl
   have e3:wr.cell? ⟨b,j * 5+3,none⟩=some (.slice p1 t.fields.length p2):=hr' 3 _ rfl
   have e4:wr.cell? ⟨b,j * 5+4,none⟩=some (.slice q1 t.facts.length q2):=hr' 4 _ rfl
   have hj1:(((j+1:Nat):Int)-1)=(j:Int):=by omega
   have hj2:(j:Int)<(ts.length:Int):=by omega
   have hj3:wrap64 ((j:Int)-1)=(j:Int)-1:=by unfold wrap64;omega
   have hts:=HNS.out t (List.mem_of_getElem? ht)
   have hjk:j≤9223372036854775807:=by omega
   have hx:=hY pre ⟨j,hjk,t,hts,(p1,t.fields.length,p2),(q1,t.facts.length,q2)⟩ wr hJ (by omega)
   have HX:=zh (show (pre++[(⟨j,hjk,t,hts,(p1,t.fields.length,p2),(q1,t.facts.length,q2)⟩:TyX)]).map TyX.kt=zPf ts (m+1) from by rw [List.map_append,hpm,zkj ht (by omega)];rfl)
   obtain ⟨fn,tmps,assign,body,hy,hR⟩:=hx
   have HR:=zh hR
   simp only [TyV,TyX.pv,TyX.lv] at hy
   clear hR hget hr hty hr' hJ hK ht
   rw [hj1]
   gi_wp2
   refine HR.out.mono ?_
   rintro e W3 (⟨rfl,hJ3,hk3⟩|⟨rfl,hJx3⟩)
   ·gi_wp2
    go_roundw
    case rel=>exact ⟨j,m+1,_,by omega,by simp,by simp;omega,HX.out,hJ3,HK.out.1.trans hk3.1,hk3.2.trans HK.out.2⟩
    case measure=>simp [intOf]
   ·gi_wp2
    refine bodyPost_ret (results_none rfl _ _ _) rfl ?_
    exact ⟨⟨_,rfl⟩,.inr ⟨_,hJx3⟩⟩
theorem zjt (F:Fence) (n:Nat) (hf:F.fn 48) (hro:F.round=none) (a:Option Addr) (len cap:Nat) (w:World) :
  CallsIn F n Tryz.prog 48 #[.slice a len cap] w fun e w'=>e=.returned (.func (.func 73) #[] #[.pointer (some ⟨w.heap.size,0,none⟩)])∧w'=w.alloc (.cells #[.slice a len cap] 30):=by
 refine callsIn_of_wp Tryz.func48 rfl hf ?_ hro
 simp only [Tryz.ntmps48,List.size_toArray,List.length_cons,List.length_nil,Nat.reduceAdd,Nat.reduceSub,Array.replicate_succ,Array.replicate_zero,List.push_toArray,List.append_toArray,List.nil_append,List.cons_append]
 gi_wp2
 go_ret
 exact ⟨rfl,rfl⟩
theorem zjo (F:Fence) (n:Nat) (hf:F.fn 73) (hro:F.round=none) (hn:1≤n) (Bs:Nat) (A:Option Addr) (cap:Nat) (ts:List Ty) (w:World) (hl:ts.length≤9223372036854775807) (hts:Tys w A ts) (hns:∀ t∈ts,t.name.size≤maxLen)
  (W0:World) (hW:Below w.heap.size w W0) (hb:Bs<W0.heap.size) (hBs:W0.cell? ⟨Bs,0,none⟩=some (.slice A ts.length cap)) :
  SeqStopsK F n Tryz.prog 73 #[.pointer (some ⟨Bs,0,none⟩)] (fun x:TyX=>#[.int .i64 x.k,TyV x.t x.pv x.lv]) (KpB w.heap.size Bs) (fun ys=>ys.map TyX.kt=zPf ts ts.length) (fun _=>True) ts.length W0:=fun l J Jx W hW0 _ _ hY h0 =>
 (zSr F n hf hro hn l Bs A cap ts w hl hts hns J Jx hY W (hW.trans (hW0.mono hW.size)) ((hW0.cell (p:=⟨Bs,0,none⟩) hb).trans hBs) h0).mono fun _ _ ⟨he,h⟩=>⟨he,h.imp (fun ⟨ys,h1,h2⟩=>⟨ys,h1,h2⟩) fun ⟨pre,h⟩=>⟨pre,trivial,h⟩⟩
theorem KpB.t {n Bs:Nat} {A B C:World} (h1:KpB n Bs A B) (h2:KpB n Bs B C):KpB n Bs A C:=⟨h1.1.trans h2.1,h2.2.trans h1.2⟩
theorem KpB.b {n Bs:Nat} (W:World) (l:Nat) (o o':Obj) (hn:n≤l) (hb:l≠Bs) (h:W.heap[l]?=some o):KpB n Bs W (W.putObj l o') :=
 ⟨(Below.refl n W).grown (grownBy_putObj' W l o') (by have:=(Array.getElem?_eq_some_iff.1 h).1;omega) (fun k e=>by cases e;exact hn),World.putObj_heap_other (Ne.symm hb)⟩
theorem zep (n:Int) (w:World):(Instr.makeMap 99 (some (.int .i64 n))).run Tryz.prog w=.ok (.map (some w.heap.size)) (w.alloc (.map #[] 0)):=by
 simp [Instr.makeMap,run_underlying Tryz.underlying99,asInt,asIntOf,Result.andThen]
def RV (A:Option Addr) (n cap M:Nat):Value:=.agg #[.slice A n cap,.map (some M)]
theorem zCl (F:Fence) (n:Nat) (h1f:F.fn 24) (h2f:F.fn 48) (h3f:F.fn 73) (hro:F.round=none) (hn:6≤n) (A:Option Addr) (cap:Nat) (ts:List Ty) (w:World) (hl:ts.length≤maxLen) (hts:Tys w A ts) (hns:∀ t∈ts,t.name.size≤maxLen) :
  CallsIn F n Tryz.prog 24 #[.slice A ts.length cap] w fun e w'=>∃ M,w.heap.size≤M∧e=.returned (RV A ts.length cap M)∧MapAt w' M ts∧Below w.heap.size w w':=by
 have h1:1≤n:=by omega
 have hmm:=zep
 refine callsIn_of_wp_marks Tryz.func24 rfl h1f ?_ hro
 simp only [Tryz.ntmps24,List.size_toArray,List.length_cons,List.length_nil,Nat.reduceAdd,Nat.reduceSub,Array.replicate_succ,Array.replicate_zero,List.push_toArray,List.append_toArray,List.nil_append,List.cons_append]
 gi_wp2_with (gi_at_call 48;refine (zjt F (n-1) h2f hro _ _ _ _).mono ?_;rintro e w' ⟨rfl,rfl⟩)
 obtain ⟨W0,hW0⟩:∃ W,(((w.alloc (.cells #[.slice none 0 0,.map none] 101)).alloc (.map #[] 0)).alloc (.cells #[.map (some (w.heap.size+1))] 99)).alloc (.cells #[.slice A ts.length cap] 30)=W:=⟨_,rfl⟩
 have b0:Blk W0 w.heap.size [.slice none 0 0,.map none] 101:=hW0▸((((Blk.new w _ _).alloc _).alloc _).alloc _)
 have bM:zAm W0 (w.heap.size+1) []:=by
  have h:=World.ownsMap_made (H:=Unit) (w.alloc (.cells #[.slice none 0 0,.map none] 101)) Tryz.prog 9 (plainElem Tryz.prog 3)
  rw [World.size_alloc] at h
  exact hW0▸⟨0,_,(h.alloc _).alloc _,by simp,⟨[],rfl⟩,fun s=>⟨rfl,fun k hk=>by simp [zOh] at hk⟩⟩
 have bB:Boxed W0 (w.heap.size+1+1) 99 (.map (some (w.heap.size+1))):=by
  have h:=Boxed.new ((w.alloc (.cells #[.slice none 0 0,.map none] 101)).alloc (.map #[] 0)) 99 (.map (some (w.heap.size+1)))
  rw [World.size_alloc,World.size_alloc] at h
  exact hW0▸h.alloc _
 have bS:Boxed W0 (w.heap.size+1+1+1) 30 (.slice A ts.length cap):=by
  have h:=Boxed.new (((w.alloc (.cells #[.slice none 0 0,.map none] 101)).alloc (.map #[] 0)).alloc (.cells #[.map (some (w.heap.size+1))] 99)) 30 (.slice A ts.length cap)
  rw [World.size_alloc,World.size_alloc,World.size_alloc] at h
  exact hW0▸h
 have hB0:Below w.heap.size w W0:=hW0▸(((((Below.refl _ w).alloc (Nat.le_refl _) _).alloc (by simp) _).alloc (by simp;omega) _).alloc (by simp;omega) _)
 have hsz:W0.heap.size=w.heap.size+4:=by rw [← hW0];simp
 rw [hW0]
 clear hW0 hmm
 refine wpIn_rangeFunc_ownH hro h1 (gf:=73) (lb:=#[.pointer (some ⟨w.heap.size+1+1+1,0,none⟩)]) rfl h3f (enters_of Tryz.func73 (by kernel_rfl) rfl)
  (zjo F (n-1) h3f hro (by omega) (w.heap.size+1+1+1) A cap ts w (by unfold maxLen at hl;omega) hts hns W0 hB0 bS.lt bS.cell) KpB.t (fun W l o o' hle h _ _=>KpB.b W l o o' (by omega) (by omega) h) (Below.refl _ _) (fun _=>rfl)
  (fun pre W=>(zAm W (w.heap.size+1) (pre.map TyX.kt)∧Boxed W (w.heap.size+1+1) 99 (.map (some (w.heap.size+1)))∧Blk W w.heap.size [.slice none 0 0,.map none] 101∧w.heap.size+4≤W.heap.size)∧Below w.heap.size w W)
  (fun _ _ _=>False)
  (OwnFrom.and (fun s X Y row hs hg hr=>⟨hs.1.kept hg (fun e=>by have:=(hr _ e.symm).1;omega),hs.2.1.kept hg (fun e=>by have:=(hr _ e.symm).1;omega),hs.2.2.1.grown hg (fun e=>by have:=(hr _ e.symm).1;omega),Nat.le_trans hs.2.2.2 hg.size⟩) (ownFrom_below (Nat.le_refl _) (by omega)))
  (fun _ _ _ _ _ hs _ _=>hs)
  ⟨⟨bM,bB,b0,by omega⟩,hB0⟩
  (fun x a' W=>∃ Bx,w.heap.size+4≤Bx∧Blk W Bx (zIa x.t x.pv x.lv) 67∧a'={ tmps:=#[.slice A ts.length cap,undef,.pointer (some ⟨w.heap.size,0,none⟩),.pointer (some ⟨w.heap.size+1+1,0,none⟩),.int .i64 x.k,.pointer (some ⟨Bx,0,none⟩),.slice A ts.length cap,.int .i64 ts.length,.map (some (w.heap.size+1)),.slice A ts.length cap,.func (.func 73) #[] #[.pointer (some ⟨w.heap.size+1+1+1,0,none⟩)],.int .i64 x.k,TyV x.t x.pv x.lv,undef,undef,undef,undef,undef,undef,undef],defers:=[] })
  (fun x a' _ X Y row hs hg hr=>by obtain ⟨Bx,h1,h2,h3⟩:=hs;exact ⟨Bx,h1,h2.grown hg (fun e=>by obtain ⟨_,o,ho,hc⟩:=hr _ e.symm;rw [show X.heap[Bx]?=_ from h2] at ho;cases ho;cases hc),h3⟩)
  ?assign ?body ?done ?stop
 case assign =>
  rintro l pre x W K ⟨⟨m1,m2,m3,hle⟩,hB1⟩ hK
  have hx:Blk (W.alloc (.cells (zIa x.t x.pv x.lv).toArray 67)) W.heap.size (zIa x.t x.pv x.lv) 67:=Blk.new W _ _
  simp only [TyV,TyX.pv,TyX.lv,zIa] at hK hx ⊢
  gi_wp2
  refine hK _ _ ((KeepsOthers.alloc _ _).from _) ⟨(Below.refl _ W).alloc (by omega) _,Below.heap_alloc W _ _ (by omega)⟩ ⟨⟨m1.kept (World.grownBy_alloc W _ none) (by simp),m2.alloc _,m3.alloc _,by simp;omega⟩,hB1.alloc hB1.size _⟩ ⟨W.heap.size,hle,hx,rfl⟩
 case body =>
  rintro l pre x a' W hl ⟨r,hr⟩ ⟨⟨m1,m2,m3,hle⟩,hB1⟩ ⟨Bx,hBx,bX,rfl⟩ hlt
  obtain ⟨mn,D,ho,hmn,hI,hD⟩:=m1
  have c0:W.cell? ⟨Bx,0,none⟩=some (.string x.t.name):=bX.cell 0
  have cB:=m2.cell
  have hmx:mn<maxLen:=by have:=hl;simp only [List.length_map] at hmn;omega
  have hxk:=x.hk
  gi_wp2_with (gi_at_mapUpdate;refine wpListIn_mapUpdate_own _ rfl _ _ _ 99 rfl 9 3 zDp Tryz.underlying99 (plainElem Tryz.prog 3) (w.heap.size+1) mn D rfl ho hmx (.string x.t.name) (.int .i64 x.k) (zgg x.t.name) rfl rfl (WideMaps.keyOf_string_mk Tryz.underlying9 x.hs) (.lit (.int .i64 x.k)) [] (plainElem_int Tryz.underlying3 (WalkArith.wf_i64 (by omega))) ?_;intro w1 ho1 hg1)
  refine ⟨KeepsFrom.of_grownBy hg1 (fun j e=>by cases e;omega),⟨(Below.refl _ W).grown hg1 hB1.size (fun k e=>by cases e;omega),hg1.block _ (by omega) (fun e=>by have:=Option.some.inj e;omega)⟩,⟨?_,m2.kept hg1 (fun e=>by have:=Option.some.inj e;omega),m3.grown hg1 (fun e=>by have:=Option.some.inj e;omega),Nat.le_trans hle hg1.size⟩,hB1.grown hg1 hB1.size (fun k e=>by cases e;omega)⟩
  rw [List.map_append]
  exact zAm.snoc (x:=x.kt) hmn hI hD ho1
 case done =>
  rintro D zs W hD hS ⟨⟨m1,m2,m3,hle⟩,hB1⟩ hK
  have cB:=m2.cell
  have r0:W.cell? ⟨w.heap.size,0,none⟩=some (.slice none 0 0):=m3.cell 0
  have r1:W.cell? ⟨w.heap.size,1,none⟩=some (.map none):=m3.cell 1
  have f0:W.frozen? ⟨w.heap.size,0,none⟩=false:=(m3.there 0 2 (by simp) 0 (by omega)).2
  have f1:W.frozen? ⟨w.heap.size,1,none⟩=false:=(m3.there 0 2 (by simp) 1 (by omega)).2
  gi_wp2
  have hK':=(KeepsOthers.setCell (W.setCell ⟨w.heap.size,0,none⟩ (.slice A ts.length cap)) ⟨w.heap.size,1,none⟩ (.map (some (w.heap.size+1)))).same D _ ((KeepsOthers.setCell W ⟨w.heap.size,0,none⟩ (.slice A ts.length cap)).same D _ hK rfl) rfl
  have hW2:(W.setCell ⟨w.heap.size,0,none⟩ (.slice A ts.length cap)).setCell ⟨w.heap.size,1,none⟩ (.map (some (w.heap.size+1)))=W.setRow w.heap.size [.slice A ts.length cap,.map (some (w.heap.size+1))].toArray:=zad [.slice A ts.length cap,.map (some (w.heap.size+1))] 0 W _ m3
  rw [hW2] at hK' ⊢
  have hb2:=m3.zra [.slice A ts.length cap,.map (some (w.heap.size+1))]
  have hp2:=hb2.grown (grownBy_putObj' _ D (.deferred none)) (fun e=>by have:=Option.some.inj e;omega)
  have hB2:Below w.heap.size w (W.setRow w.heap.size [.slice A ts.length cap,.map (some (w.heap.size+1))].toArray):=Below.row hB1 (Nat.le_refl _) _
  refine ⟨by simp,.inl ⟨_,_,rfl,run_takeDeferred hK',?_⟩⟩
  refine ⟨_,zdg Tryz.results24 rfl hp2 Tryz.underlying101 rfl (by kernel_rfl),w.heap.size+1,by omega,rfl,?_,hB2.grown (grownBy_putObj' _ D (.deferred none)) hB2.size (fun k e=>by cases e;omega)⟩
  rw [hS] at m1
  exact zAm.at (m1.same ((World.putObj_heap_other (by omega)).trans (setRow_other _ _ _ _ (by omega)))) (zGl ts _)
 case stop =>
  rintro D c pre W _ _ h _
  exact h.elim
theorem zak (A:Option Addr) (cap:Nat) (ts:List Ty) (w:World) (hl:ts.length≤maxLen) (hts:Tys w A ts) (hns:∀ t∈ts,t.name.size≤maxLen) :
  Calls Tryz.prog 24 #[.slice A ts.length cap] w fun e w'=>∃ M,w.heap.size≤M∧e=.returned (RV A ts.length cap M)∧MapAt w' M ts∧Below w.heap.size w w' :=
 callsIn_wide.1 (zCl Fence.wide 6 trivial trivial trivial rfl (Nat.le_refl _) A cap ts w hl hts hns)
end
end Go.Proofs.YtpjnpffcnmgdcaaGreatDoor
