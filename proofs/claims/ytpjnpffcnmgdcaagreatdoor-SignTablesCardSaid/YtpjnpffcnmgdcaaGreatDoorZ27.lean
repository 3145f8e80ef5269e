/- The contract of shape's readFacts. -/
import Derived.Test.YtpjnpffcnmgdcaaGreatDoorZ26
import Derived.Test.YtpjnpffcnmgdcaaGreatDoorZ24
namespace Go.Proofs.YtpjnpffcnmgdcaaGreatDoor
set_option maxRecDepth 100000
set_option maxHeartbeats 4000000
open Go.RowKit
theorem Tryz.zDt:∃ i z,zqe Tryz.prog 65 190 3 24 i z:=by
 have h:(Tryz.prog.info? 190).map (fun i=>(i.zero,i.size,i.bytes))=some (some (.agg #[.int .i64 0,.int .i64 0,.int .i64 0]),3,24):=by kernel_rfl
 obtain ⟨i0,hi,hz0,hz1,hz2⟩:=info_parts h
 exact ⟨i0,_,Tryz.underlying65,hi,hz0,hz1,hz2,rfl⟩
theorem zxb {α:Type} {c:α→List Value} {m by':Nat} (hcl:∀ a,(c a).length=m) (hco:∀ a,∀ u∈c a,u.oneCell'=true) (hm0:0<m) (hby:by'≤1000) {P:Program} {w:World} {ops:Array Oper} {rest:List Oper} {o:Oper} {a:Act} {Q:Exit→Act→World→Prop} (hgd:o.guard=none) (s x:Operand) {t e:TypeId}
  (ho:o.op=.call { callee:=.builtin .append,args:=#[s,x],argTypes:=#[t,t] }) {i:TypeInfo} {z:Value} (I:zqe P t e m by' i z) {xs ys:List α} {S S':Nat→Prop} {v y:Value} (hs:a.eval s=v) (hk:RAt e m c w xs S v) (hx:a.eval x=y) (hy:RAt e m c w ys S' y) (hS:S w.heap.size) (hb:xs.length+ys.length≤100000)
  (h:∀ v' w',RAt e m c w' (xs++ys) S v'→w.grownBy w' v.ownBlock→wpList P ops Q rest (a.put o.dst v') w'):wpList P ops Q (o :: rest) a w:=by
 refine wpList_plain hgd fun _ hK=>?_
 obtain ⟨hown,hSv⟩:=hk
 obtain ⟨ho',_⟩:=hy
 have hones:∀ l:List α,∀ u∈l.flatMap c,u.oneCell'=true:=fun l u hu=>by
  obtain ⟨a,_,ha⟩:=List.mem_flatMap.1 hu
  exact hco a u ha
 rcases ho'.2 with ⟨rfl,h0⟩|⟨g,cap,cur,rfl,hbg,hg,hnc,hcm,hcs,htake⟩
 ·obtain rfl:ys=[]:=List.eq_nil_of_length_eq_zero h0
  have hrun:=run_append_owned_none (P:=P) (w:=w) 0 t o.type e i m I.ht I.hi v xs.length _ hown
  unfold Oper.wp
  simp [execOp,ho,resolve,invoke,builtin,hs,hx,hrun,Result.andThen]
  exact hK _ _ (h v w (by rw [List.append_nil];exact ⟨hown,hSv⟩) ⟨rfl,rfl,rfl,Nat.le_refl _,fun _ _ _=>rfl⟩)
 ·have hmul:(xs.length+ys.length) * by'≤100000 * 1000:=Nat.mul_le_mul hb hby
  obtain ⟨v',w',hr,ho2,hg',hnil⟩:=run_append_own (P:=P) w 0 t o.type e i z m by' I.ht I.hi I.hz I.size I.bytes I.zs hm0 v xs.length (xs.flatMap c) hown ⟨g,0,none⟩ ys.length cap (ys.flatMap c) (zNd hcl ys) (ho'.cells (g:=g) rfl) (hones ys) (by unfold maxLen;omega) (by omega) (Nat.zero_le _)
  have hbk:v'.ownBlock=v.ownBlock∨v'.ownBlock=some w.heap.size:=by
   by_cases hm:0<ys.length
   ·exact zbe (ty:=o.type) I.ht I.hi I.hz I.size I.bytes hown hm (zNd hcl ys) (ho'.cells (g:=g) rfl) (hones ys) (by unfold maxLen;omega) (by omega) hr
   ·obtain rfl:ys=[]:=List.eq_nil_of_length_eq_zero (by omega)
    rcases hown.2 with ⟨rfl,_⟩|⟨g2,cap2,cur2,rfl,hbg2,hg2,hnc2,hcm2,hcs2,htake2⟩
    ·rw [hnil.2 ⟨rfl,rfl⟩];exact .inl rfl
    ·have h:=run_append_room (P:=P) w t o.type e i I.ht I.hi g2 xs.length cap2 cur2 hg2 ⟨g,0,none⟩ 0 cap [] (by simp) (by simp) (by simp) (by omega) (by rw [hcs2,I.size];simp;exact Nat.mul_le_mul_right _ hnc2)
     simp only [List.length_nil] at hr
     rw [h] at hr
     cases hr
     exact .inl rfl
  unfold Oper.wp execOp
  simp only [ho,resolve,invoke,builtin,Sem.run_bind,Sem.run_pure,Result.andThen_ok,List.map_toArray,List.map_cons,List.map_nil,hs,hx]
  rw [hr]
  refine hK _ _ (h v' w' ⟨?_,?_⟩ hg')
  ·rw [List.flatMap_append,List.length_append];exact ho2
  ·intro b hb
   rcases hbk with h|h
   ·exact hSv b (h▸hb)
   ·rw [h] at hb;cases hb;exact hS
theorem zPu (f:Fa):∀ u∈zmk f,u.oneCell'=true:=by
 intro u hu
 simp only [zmk,List.mem_cons,List.not_mem_nil,or_false] at hu
 rcases hu with rfl|rfl|rfl<;>rfl
structure FcSt (w:World) (n:Nat) (p:Pt) (sv fv cv:Value) (ty:Ty) (pv lv:Value) (W:World):Prop where
 b:Below n w W
 q:Blk W n (zDa p sv fv cv) 153
 y:Blk W (n+1) (zIa ty pv lv) 67
section
variable {w W W':World} {n:Nat} {p:Pt} {sv fv cv:Value} {ty:Ty} {pv lv:Value}
theorem FcSt.stay (h:FcSt w n p sv fv cv ty pv lv W) (hb:Below W.heap.size W W'):FcSt w n p sv fv cv ty pv lv W' :=
 ⟨h.b.trans (hb.mono (Nat.le_of_lt h.q.lt)),h.q.stays hb,h.y.stays hb⟩
theorem FcSt.row (h:FcSt w n p sv fv cv ty pv lv W) {g:Nat} (hg:n+1<g) (cs:Array Value):FcSt w n p sv fv cv ty pv lv (W.setRow g cs) :=
 ⟨Below.row h.b (by omega) _,h.q.zta g _ (by omega),h.y.zta g _ (by omega)⟩
theorem FcSt.grown (h:FcSt w n p sv fv cv ty pv lv W) {row:Option Nat} (hg:W.grownBy W' row) (hr:∀ k,row=some k→n+2≤k):FcSt w n p sv fv cv ty pv lv W' :=
 ⟨h.b.grown hg (Nat.le_of_lt h.q.lt) (fun k hk=>by have:=hr k hk;omega),h.q.grown hg (fun e=>by have:=hr _ e.symm;omega),h.y.grown hg (fun e=>by have:=hr _ e.symm;omega)⟩
end
structure FcF (w:World) (n:Nat) (p:Pt) (sv fv cv:Value) (ty:Ty) (pv lv:Value) (m:Nat) (done:List Fa) (x:Value) (W:World):Prop extends FcSt w n p sv fv cv ty pv lv W where
 f:zhl W done (fun b=>n+2≤b∧b<m) x
theorem FcF.stay {w W W':World} {n:Nat} {p:Pt} {sv fv cv:Value} {ty:Ty} {pv lv:Value} {m:Nat} {done:List Fa} {x:Value} (h:FcF w n p sv fv cv ty pv lv m done x W) (hb:Below W.heap.size W W'):FcF w n p sv fv cv ty pv lv m done x W':=⟨h.toFcSt.stay hb,h.f.below hb⟩
theorem FcF.row {w W:World} {n:Nat} {p:Pt} {sv fv cv:Value} {ty:Ty} {pv lv:Value} {m:Nat} {done:List Fa} {x:Value} (h:FcF w n p sv fv cv ty pv lv m done x W) {g:Nat} (hg:n+1<g) (hm:m≤g) (cs:Array Value):FcF w n p sv fv cv ty pv lv m done x (W.setRow g cs):=⟨h.toFcSt.row hg cs,h.f.setRow _ _ (fun b hb=>by omega)⟩
theorem zzj {fs:List T} {srt of:Int} {n:T} {r:List T} {e:Nat × Int} (h:zBk fs srt of n=.error e):zqd fs srt of (n :: r)=.error e:=by rw [zqd,h]
theorem zEp {fs:List T} {srt of:Int} {n:T} {r:List T} {l:List Fa} (h:zBk fs srt of n=.ok l):zqd fs srt of (n :: r)=pre l (zqd fs srt of r):=by rw [zqd,h]
def VFas (W:World) (lo:Nat) (l:List Fa) (v:Value):Prop:=zhl W l (fun b=>lo≤b) v
theorem zko (c:ByteArray) (a b k l:Int):(zIe c a b k l).length≤2:=by
 unfold zIe
 cases c.toList == [60]<;>cases c.toList == [60,61]<;>cases c.toList == [61,61]<;>simp
theorem zik {w:World} {p:Pt} {sv fv cv:Value} (h:zRt w p sv fv cv) (hl:p.facts.length≤4096) (ty:Ty) (pv lv:Value) :
  Calls Tryz.prog 65 #[PtV p sv fv cv,TyV ty pv lv] w (zJd VFas w (zqd p.fields ty.sort ty.of p.facts)):=by
 obtain ⟨i0,z0,I⟩:=Tryz.zDt
 have HP:=zh h
 obtain ⟨A,cap,hcv,hcap,hcm,hns⟩:=h.c
 have HNS:=zh hns
 obtain ⟨W0,hW0⟩:∃ W,(w.alloc (.cells (zDa p sv fv cv).toArray 153)).alloc (.cells (zIa ty pv lv).toArray 67)=W:=⟨_,rfl⟩
 have HST:=zh (show FcSt w w.heap.size p sv fv cv ty pv lv W0 from hW0▸⟨((Below.refl _ _).alloc (Nat.le_refl _) _).alloc (by simp) _,(Blk.new w _ _).alloc _,Blk.zTe w _ _ _⟩)
 have p6:W0.cell? ⟨w.heap.size,6,none⟩=some (.slice A p.facts.length cap):=hcv▸HST.out.q.cell 6
 replace hcv:=zh hcv
 unfold zDa zIa at hW0
 unfold PtV TyV
 clear h hns
 go_enter Tryz.func65,Tryz.ntmps65
 go_upto_region 2 with fail
 try rw [hW0]
 clear hW0
 go_wp2_with fail
 clear p6
 go_loopw [5,15] (fun x i wr=>∃ k:Nat,k≤p.facts.length∧i=.int .i64 k∧∃ done,zhl wr done (fun b=>w.heap.size+2≤b) x∧done.length≤2 * k∧FcSt w w.heap.size p sv fv cv ty pv lv wr∧zqd p.fields ty.sort ty.of p.facts=pre done (zqd p.fields ty.sort ty.of (p.facts.drop k))) (fun _ i _=>p.facts.length-(intOf i).toNat)
 case atStart=>exact ⟨0,by omega,rfl,[],RAt.nil _ _,by simp,HST.out,by rw [pre_nil,List.drop_zero]⟩
 case round =>
  obtain ⟨k,hk,rfl,done,hfa,hdl,hst,heq⟩:=hrel
  by_cases hlt:k<p.facts.length
  ·obtain ⟨tk,htk⟩:∃ tk,p.facts[k]?=some tk:=⟨_,List.getElem?_eq_getElem hlt⟩
   obtain ⟨g,rfl,hgl,hget⟩:=HNS.out (by omega)
   obtain ⟨u,hr,hu⟩:=hget k tk htk
   have HR:=zh (zua hr hst.b hgl)
   have HEQ:=zh (heq.trans (show _=pre done (zqd p.fields ty.sort ty.of (tk :: p.facts.drop (k+1))) by rw [List.drop_eq_getElem_cons hlt,(List.getElem?_eq_some_iff.1 htk).2]))
   obtain ⟨W1,hW1⟩:∃ W,wr.alloc (.cells (zaa tk u).toArray 25)=W:=⟨_,rfl⟩
   have hb1:Below wr.heap.size wr W1:=hW1▸(Below.refl _ _).alloc (Nat.le_refl _) _
   have HS1:=zh (show FcF w w.heap.size p sv fv cv ty pv lv wr.heap.size done u5 W1 from ⟨hst.stay hb1,(hfa.mono fun b hb hl=>⟨hb,hl⟩:zhl wr done (fun b=>w.heap.size+2≤b∧b<wr.heap.size) u5).below hb1⟩)
   have HB5:=zh (show Blk W1 wr.heap.size (zaa tk u) 25 from hW1▸Blk.new wr _ _)
   have HU:Hid (∀ W,Below w.heap.size w W→KAt 25 W tk.kids (fun _=>True) u):=zh fun W hb=>hu.below hb
   have hu1:=hu.one
   have hgn:w.heap.size+1<wr.heap.size:=hst.y.lt
   clear hget hr hu hst heq htk hfa hb1
   go_upto_region 5 with (first
    | ((with_reducible refine zqa 25 (.tmp 17) ?_);refine wpList_load_mid rfl 25 (.tmp 17) rfl g (k * 5) rfl (zaa tk u) _ HR.out Tryz.underlying25 rfl Tryz.zea ?_)
    | ((with_reducible refine zla 25 (.tmp 7) ?_);refine zga rfl 25 (.tmp 7) (.tmp 18) rfl (zaa tk u) (old:=zba) rfl rfl Tryz.zea rfl (zca _ _ hu1) ?_;rw [hW1]))
   clear hW1
   have SM:∀ {W W':World},(FcF w w.heap.size p sv fv cv ty pv lv wr.heap.size done u5 W∧Blk W wr.heap.size (zaa tk u) 25)→Below W.heap.size W W'→(FcF w w.heap.size p sv fv cv ty pv lv wr.heap.size done u5 W'∧Blk W' wr.heap.size (zaa tk u) 25):=fun h hb=>⟨h.1.stay hb,h.2.stays hb⟩
   have SR:∀ {W:World},(FcF w w.heap.size p sv fv cv ty pv lv wr.heap.size done u5 W∧Blk W wr.heap.size (zaa tk u) 25)→∀ g,wr.heap.size<g→∀ cs:Array Value,(FcF w w.heap.size p sv fv cv ty pv lv wr.heap.size done u5 (W.setRow g cs)∧Blk (W.setRow g cs) wr.heap.size (zaa tk u) 25):=fun h g hg cs=>⟨h.1.row (by omega) (by omega) cs,h.2.zta g cs (by omega)⟩
   simp only [Act.put]
   go_cut [8,9] (fun x y W=>∃ g8 g9 u1 u2,x=.pointer (some ⟨g8,0,none⟩)∧y=.pointer (some ⟨g9,0,none⟩)∧FcF w w.heap.size p sv fv cv ty pv lv wr.heap.size done u5 W∧Blk W wr.heap.size (zaa tk u) 25∧Blk W g8 (zaa (zJa tk 0) u1) 25∧Blk W g9 (zaa (zJa tk 1) u2) 25)
   case first =>
    refine wp_region_held_drew (S:=fun W=>FcF w w.heap.size p sv fv cv ty pv lv wr.heap.size done u5 W∧Blk W wr.heap.size (zaa tk u) 25) (by kernel_rfl) ⟨HS1.out.stay (Below.refl _ _).drew,HB5.out⟩ (fun hS=>?_)
    generalize W1.drew=Wd at hS ⊢
    refine wpAnyH_take (i:=0) (oi:=⟨some 19,_,_,_,_,_⟩) (v:=.agg (zaa tk u).toArray) rfl (by kernel_rfl) (by kernel_rfl) (by kernel_rfl) (fun _ _ _ h=>h) (yieldsIf_load_mid (cs:=zaa tk u) (by rfl) 25 (.tmp 7) rfl (wr.heap.size) 0 (by go_simp) _ (fun W hW j v hj=>by rw [Nat.zero_add,(hW.2).cell j];exact hj) Tryz.underlying25 rfl Tryz.zea) hS ?_
    try simp only [Act.put,List.setIfInBounds_toArray,List.set_cons_zero,List.set_cons_succ]
    refine wpAnyH_take (i:=2) (oi:=⟨some 21,_,_,_,_,_⟩) (v:=.agg (zaa tk u).toArray) rfl (by kernel_rfl) (by kernel_rfl) (by kernel_rfl) (fun _ _ _ h=>h) (yieldsIf_load_mid (cs:=zaa tk u) (by rfl) 25 (.tmp 7) rfl (wr.heap.size) 0 (by go_simp) _ (fun W hW j v hj=>by rw [Nat.zero_add,(hW.2).cell j];exact hj) Tryz.underlying25 rfl Tryz.zea) hS ?_
    try simp only [Act.put,List.setIfInBounds_toArray,List.set_cons_zero,List.set_cons_succ]
    refine AnyH.three (i:=1) (j:=4) (k:=5) (o:=⟨some 20,_,_,_,_,_⟩) (u:=⟨some 8,_,_,_,_,_⟩) (v:=⟨some 9,_,_,_,_,_⟩) (by kernel_rfl) rfl rfl rfl (by rfl) (by rfl) (by rfl) (fun K hK=>?_) (fun K hK=>?_) (fun K hK=>?_)
    ·go_simp
     refine (zvb (t:=tk) (kv:=u) (HU.out _ hS.1.b) 0).mono ?_
     rintro e x1 ⟨u1,rfl,hk,hb⟩
     have ho1:=hk.one
     clear hk
     replace hS:=SM hS hb
     clear hb
     unfold zna
     refine hK.out _ _ hS ?_
     clear hK K
     try simp only [Act.put,List.setIfInBounds_toArray,List.set_cons_zero,List.set_cons_succ]
     refine AnyH.three (i:=3) (j:=4) (k:=5) (o:=⟨some 22,_,_,_,_,_⟩) (u:=⟨some 8,_,_,_,_,_⟩) (v:=⟨some 9,_,_,_,_,_⟩) (by kernel_rfl) rfl rfl rfl (by rfl) (by rfl) (by rfl) (fun K hK=>?_) (fun K hK=>?_) (fun K hK=>?_)
     ·go_simp
      refine (zvb (t:=tk) (kv:=u) (HU.out _ hS.1.b) 1).mono ?_
      rintro e x2 ⟨u2,rfl,hk,hb⟩
      have ho2:=hk.one
      clear hk
      replace hS:=SM hS hb
      clear hb
      unfold zna
      refine hK.out _ _ hS ?_
      clear hK K
      try simp only [Act.put,List.setIfInBounds_toArray,List.set_cons_zero,List.set_cons_succ]
      refine AnyH.pair (i:=4) (k:=5) (o:=⟨some 8,_,_,_,_,_⟩) (u:=⟨some 9,_,_,_,_,_⟩) (by kernel_rfl) rfl rfl (by rfl) (by rfl) (fun K hK=>?_) (fun K hK=>?_)
      ·go_simp
       have hl8:wr.heap.size<(x2).heap.size:=hS.2.lt
       obtain ⟨x3,hx⟩:∃ W,(x2).alloc (.cells zba.toArray 25)=W:=⟨_,rfl⟩
       have h8:Blk x3 (x2).heap.size zba 25:=hx▸Blk.new _ _ _
       have hb:Below (x2).heap.size (x2) x3:=hx▸(Below.refl _ _).alloc (Nat.le_refl _) _
       replace hS:=SM hS hb
       clear hb
       unfold zba at hx
       try rw [hx]
       clear hx
       generalize hg:(x2).heap.size=g8 at *
       clear hg
       refine hK.out _ _ hS ?_
       clear hK K
       try simp only [Act.put,List.setIfInBounds_toArray,List.set_cons_zero,List.set_cons_succ]
       refine AnyH.only (i:=5) (o:=⟨some 9,_,_,_,_,_⟩) (by kernel_rfl) rfl (by rfl) (fun K hK=>?_)
       go_simp
       have hl9:wr.heap.size<(x3).heap.size:=hS.2.lt
       obtain ⟨x4,hx⟩:∃ W,(x3).alloc (.cells zba.toArray 25)=W:=⟨_,rfl⟩
       have h9:Blk x4 (x3).heap.size zba 25:=hx▸Blk.new _ _ _
       have hb:Below (x3).heap.size (x3) x4:=hx▸(Below.refl _ _).alloc (Nat.le_refl _) _
       have hne:g8<(x3).heap.size:=h8.lt
       replace h8:=h8.stays hb
       replace hS:=SM hS hb
       clear hb
       unfold zba at hx
       try rw [hx]
       clear hx
       generalize hg:(x3).heap.size=g9 at *
       clear hg
       refine hK.out _ _ hS ?_
       clear hK K
       try simp only [Act.put,List.setIfInBounds_toArray,List.set_cons_zero,List.set_cons_succ]
       refine AnyH.only (i:=6) (o:=⟨none,_,_,_,_,_⟩) (by kernel_rfl) rfl (by rfl) (fun K hK=>?_)
       refine zva 25 (.tmp 8) (.tmp 20) rfl g8 (zaa (zJa tk 0) u1) rfl rfl h8 Tryz.zea rfl (zca _ _ ho1) ?_
       replace hS:=SR hS g8 (by omega) (zaa (zJa tk 0) u1).toArray
       replace h9:=h9.zta g8 (zaa (zJa tk 0) u1).toArray (by omega)
       replace h8:=h8.zra (zaa (zJa tk 0) u1)
       refine hK.out _ _ hS ?_
       clear hK K
       try simp only [Act.put]
       refine AnyH.only (i:=7) (o:=⟨none,_,_,_,_,_⟩) (by kernel_rfl) rfl (by rfl) (fun K hK=>?_)
       refine zva 25 (.tmp 9) (.tmp 22) rfl g9 (zaa (zJa tk 1) u2) rfl rfl h9 Tryz.zea rfl (zca _ _ ho2) ?_
       replace hS:=SR hS g9 (by omega) (zaa (zJa tk 1) u2).toArray
       replace h8:=h8.zta g9 (zaa (zJa tk 1) u2).toArray (by omega)
       replace h9:=h9.zra (zaa (zJa tk 1) u2)
       refine hK.out _ _ hS ?_
       clear hK K
       try simp only [Act.put]
       refine wpAnyH_done (by kernel_rfl) ?_ _
       go_wp2_with fail
       go_meet
       exact ⟨g8,g9,_,_,rfl,rfl,hS.1,hS.2,h8,h9⟩
      ·go_simp
       have hl9:wr.heap.size<(x2).heap.size:=hS.2.lt
       obtain ⟨x5,hx⟩:∃ W,(x2).alloc (.cells zba.toArray 25)=W:=⟨_,rfl⟩
       have h9:Blk x5 (x2).heap.size zba 25:=hx▸Blk.new _ _ _
       have hb:Below (x2).heap.size (x2) x5:=hx▸(Below.refl _ _).alloc (Nat.le_refl _) _
       replace hS:=SM hS hb
       clear hb
       unfold zba at hx
       try rw [hx]
       clear hx
       generalize hg:(x2).heap.size=g9 at *
       clear hg
       refine hK.out _ _ hS ?_
       clear hK K
       try simp only [Act.put,List.setIfInBounds_toArray,List.set_cons_zero,List.set_cons_succ]
       refine AnyH.only (i:=4) (o:=⟨some 8,_,_,_,_,_⟩) (by kernel_rfl) rfl (by rfl) (fun K hK=>?_)
       go_simp
       have hl8:wr.heap.size<(x5).heap.size:=hS.2.lt
       obtain ⟨x6,hx⟩:∃ W,(x5).alloc (.cells zba.toArray 25)=W:=⟨_,rfl⟩
       have h8:Blk x6 (x5).heap.size zba 25:=hx▸Blk.new _ _ _
       have hb:Below (x5).heap.size (x5) x6:=hx▸(Below.refl _ _).alloc (Nat.le_refl _) _
       have hne:g9<(x5).heap.size:=h9.lt
       replace h9:=h9.stays hb
       replace hS:=SM hS hb
       clear hb
       unfold zba at hx
       try rw [hx]
       clear hx
       generalize hg:(x5).heap.size=g8 at *
       clear hg
       refine hK.out _ _ hS ?_
       clear hK K
       try simp only [Act.put,List.setIfInBounds_toArray,List.set_cons_zero,List.set_cons_succ]
       refine AnyH.only (i:=6) (o:=⟨none,_,_,_,_,_⟩) (by kernel_rfl) rfl (by rfl) (fun K hK=>?_)
       refine zva 25 (.tmp 8) (.tmp 20) rfl g8 (zaa (zJa tk 0) u1) rfl rfl h8 Tryz.zea rfl (zca _ _ ho1) ?_
       replace hS:=SR hS g8 (by omega) (zaa (zJa tk 0) u1).toArray
       replace h9:=h9.zta g8 (zaa (zJa tk 0) u1).toArray (by omega)
       replace h8:=h8.zra (zaa (zJa tk 0) u1)
       refine hK.out _ _ hS ?_
       clear hK K
       try simp only [Act.put]
       refine AnyH.only (i:=7) (o:=⟨none,_,_,_,_,_⟩) (by kernel_rfl) rfl (by rfl) (fun K hK=>?_)
       refine zva 25 (.tmp 9) (.tmp 22) rfl g9 (zaa (zJa tk 1) u2) rfl rfl h9 Tryz.zea rfl (zca _ _ ho2) ?_
       replace hS:=SR hS g9 (by omega) (zaa (zJa tk 1) u2).toArray
       replace h8:=h8.zta g9 (zaa (zJa tk 1) u2).toArray (by omega)
       replace h9:=h9.zra (zaa (zJa tk 1) u2)
       refine hK.out _ _ hS ?_
       clear hK K
       try simp only [Act.put]
       refine wpAnyH_done (by kernel_rfl) ?_ _
       go_wp2_with fail
       go_meet
       exact ⟨g8,g9,_,_,rfl,rfl,hS.1,hS.2,h8,h9⟩
     ·go_simp
      have hl8:wr.heap.size<(x1).heap.size:=hS.2.lt
      obtain ⟨x7,hx⟩:∃ W,(x1).alloc (.cells zba.toArray 25)=W:=⟨_,rfl⟩
      have h8:Blk x7 (x1).heap.size zba 25:=hx▸Blk.new _ _ _
      have hb:Below (x1).heap.size (x1) x7:=hx▸(Below.refl _ _).alloc (Nat.le_refl _) _
      replace hS:=SM hS hb
      clear hb
      unfold zba at hx
      try rw [hx]
      clear hx
      generalize hg:(x1).heap.size=g8 at *
      clear hg
      refine hK.out _ _ hS ?_
      clear hK K
      try simp only [Act.put,List.setIfInBounds_toArray,List.set_cons_zero,List.set_cons_succ]
      refine AnyH.pair (i:=3) (k:=5) (o:=⟨some 22,_,_,_,_,_⟩) (u:=⟨some 9,_,_,_,_,_⟩) (by kernel_rfl) rfl rfl (by rfl) (by rfl) (fun K hK=>?_) (fun K hK=>?_)
      ·go_simp
       refine (zvb (t:=tk) (kv:=u) (HU.out _ hS.1.b) 1).mono ?_
       rintro e x8 ⟨u2,rfl,hk,hb⟩
       have ho2:=hk.one
       clear hk
       replace hS:=SM hS hb
       replace h8:=h8.stays hb
       clear hb
       unfold zna
       refine hK.out _ _ hS ?_
       clear hK K
       try simp only [Act.put,List.setIfInBounds_toArray,List.set_cons_zero,List.set_cons_succ]
       refine AnyH.only (i:=5) (o:=⟨some 9,_,_,_,_,_⟩) (by kernel_rfl) rfl (by rfl) (fun K hK=>?_)
       go_simp
       have hl9:wr.heap.size<(x8).heap.size:=hS.2.lt
       obtain ⟨x9,hx⟩:∃ W,(x8).alloc (.cells zba.toArray 25)=W:=⟨_,rfl⟩
       have h9:Blk x9 (x8).heap.size zba 25:=hx▸Blk.new _ _ _
       have hb:Below (x8).heap.size (x8) x9:=hx▸(Below.refl _ _).alloc (Nat.le_refl _) _
       have hne:g8<(x8).heap.size:=h8.lt
       replace h8:=h8.stays hb
       replace hS:=SM hS hb
       clear hb
       unfold zba at hx
       try rw [hx]
       clear hx
       generalize hg:(x8).heap.size=g9 at *
       clear hg
       refine hK.out _ _ hS ?_
       clear hK K
       try simp only [Act.put,List.setIfInBounds_toArray,List.set_cons_zero,List.set_cons_succ]
       refine AnyH.only (i:=6) (o:=⟨none,_,_,_,_,_⟩) (by kernel_rfl) rfl (by rfl) (fun K hK=>?_)
       refine zva 25 (.tmp 8) (.tmp 20) rfl g8 (zaa (zJa tk 0) u1) rfl rfl h8 Tryz.zea rfl (zca _ _ ho1) ?_
       replace hS:=SR hS g8 (by omega) (zaa (zJa tk 0) u1).toArray
       replace h9:=h9.zta g8 (zaa (zJa tk 0) u1).toArray (by omega)
       replace h8:=h8.zra (zaa (zJa tk 0) u1)
       refine hK.out _ _ hS ?_
       clear hK K
       try simp only [Act.put]
       refine AnyH.only (i:=7) (o:=⟨none,_,_,_,_,_⟩) (by kernel_rfl) rfl (by rfl) (fun K hK=>?_)
       refine zva 25 (.tmp 9) (.tmp 22) rfl g9 (zaa (zJa tk 1) u2) rfl rfl h9 Tryz.zea rfl (zca _ _ ho2) ?_
       replace hS:=SR hS g9 (by omega) (zaa (zJa tk 1) u2).toArray
       replace h8:=h8.zta g9 (zaa (zJa tk 1) u2).toArray (by omega)
       replace h9:=h9.zra (zaa (zJa tk 1) u2)
       refine hK.out _ _ hS ?_
       clear hK K
       try simp only [Act.put]
       refine wpAnyH_done (by kernel_rfl) ?_ _
       go_wp2_with fail
       go_meet
       exact ⟨g8,g9,_,_,rfl,rfl,hS.1,hS.2,h8,h9⟩
      ·go_simp
       have hl9:wr.heap.size<(x7).heap.size:=hS.2.lt
       obtain ⟨x10,hx⟩:∃ W,(x7).alloc (.cells zba.toArray 25)=W:=⟨_,rfl⟩
       have h9:Blk x10 (x7).heap.size zba 25:=hx▸Blk.new _ _ _
       have hb:Below (x7).heap.size (x7) x10:=hx▸(Below.refl _ _).alloc (Nat.le_refl _) _
       have hne:g8<(x7).heap.size:=h8.lt
       replace h8:=h8.stays hb
       replace hS:=SM hS hb
       clear hb
       unfold zba at hx
       try rw [hx]
       clear hx
       generalize hg:(x7).heap.size=g9 at *
       clear hg
       refine hK.out _ _ hS ?_
       clear hK K
       try simp only [Act.put,List.setIfInBounds_toArray,List.set_cons_zero,List.set_cons_succ]
       refine AnyH.only (i:=3) (o:=⟨some 22,_,_,_,_,_⟩) (by kernel_rfl) rfl (by rfl) (fun K hK=>?_)
       go_simp
       refine (zvb (t:=tk) (kv:=u) (HU.out _ hS.1.b) 1).mono ?_
       rintro e x11 ⟨u2,rfl,hk,hb⟩
       have ho2:=hk.one
       clear hk
       replace hS:=SM hS hb
       replace h8:=h8.stays hb
       replace h9:=h9.stays hb
       clear hb
       unfold zna
       refine hK.out _ _ hS ?_
       clear hK K
       try simp only [Act.put,List.setIfInBounds_toArray,List.set_cons_zero,List.set_cons_succ]
       refine AnyH.only (i:=6) (o:=⟨none,_,_,_,_,_⟩) (by kernel_rfl) rfl (by rfl) (fun K hK=>?_)
       refine zva 25 (.tmp 8) (.tmp 20) rfl g8 (zaa (zJa tk 0) u1) rfl rfl h8 Tryz.zea rfl (zca _ _ ho1) ?_
       replace hS:=SR hS g8 (by omega) (zaa (zJa tk 0) u1).toArray
       replace h9:=h9.zta g8 (zaa (zJa tk 0) u1).toArray (by omega)
       replace h8:=h8.zra (zaa (zJa tk 0) u1)
       refine hK.out _ _ hS ?_
       clear hK K
       try simp only [Act.put]
       refine AnyH.only (i:=7) (o:=⟨none,_,_,_,_,_⟩) (by kernel_rfl) rfl (by rfl) (fun K hK=>?_)
       refine zva 25 (.tmp 9) (.tmp 22) rfl g9 (zaa (zJa tk 1) u2) rfl rfl h9 Tryz.zea rfl (zca _ _ ho2) ?_
       replace hS:=SR hS g9 (by omega) (zaa (zJa tk 1) u2).toArray
       replace h8:=h8.zta g9 (zaa (zJa tk 1) u2).toArray (by omega)
       replace h9:=h9.zra (zaa (zJa tk 1) u2)
       refine hK.out _ _ hS ?_
       clear hK K
       try simp only [Act.put]
       refine wpAnyH_done (by kernel_rfl) ?_ _
       go_wp2_with fail
       go_meet
       exact ⟨g8,g9,_,_,rfl,rfl,hS.1,hS.2,h8,h9⟩
     ·go_simp
      have hl9:wr.heap.size<(x1).heap.size:=hS.2.lt
      obtain ⟨x12,hx⟩:∃ W,(x1).alloc (.cells zba.toArray 25)=W:=⟨_,rfl⟩
      have h9:Blk x12 (x1).heap.size zba 25:=hx▸Blk.new _ _ _
      have hb:Below (x1).heap.size (x1) x12:=hx▸(Below.refl _ _).alloc (Nat.le_refl _) _
      replace hS:=SM hS hb
      clear hb
      unfold zba at hx
      try rw [hx]
      clear hx
      generalize hg:(x1).heap.size=g9 at *
      clear hg
      refine hK.out _ _ hS ?_
      clear hK K
      try simp only [Act.put,List.setIfInBounds_toArray,List.set_cons_zero,List.set_cons_succ]
      refine AnyH.pair (i:=3) (k:=4) (o:=⟨some 22,_,_,_,_,_⟩) (u:=⟨some 8,_,_,_,_,_⟩) (by kernel_rfl) rfl rfl (by rfl) (by rfl) (fun K hK=>?_) (fun K hK=>?_)
      ·go_simp
       refine (zvb (t:=tk) (kv:=u) (HU.out _ hS.1.b) 1).mono ?_
       rintro e x13 ⟨u2,rfl,hk,hb⟩
       have ho2:=hk.one
       clear hk
       replace hS:=SM hS hb
       replace h9:=h9.stays hb
       clear hb
       unfold zna
       refine hK.out _ _ hS ?_
       clear hK K
       try simp only [Act.put,List.setIfInBounds_toArray,List.set_cons_zero,List.set_cons_succ]
       refine AnyH.only (i:=4) (o:=⟨some 8,_,_,_,_,_⟩) (by kernel_rfl) rfl (by rfl) (fun K hK=>?_)
       go_simp
       have hl8:wr.heap.size<(x13).heap.size:=hS.2.lt
       obtain ⟨x14,hx⟩:∃ W,(x13).alloc (.cells zba.toArray 25)=W:=⟨_,rfl⟩
       have h8:Blk x14 (x13).heap.size zba 25:=hx▸Blk.new _ _ _
       have hb:Below (x13).heap.size (x13) x14:=hx▸(Below.refl _ _).alloc (Nat.le_refl _) _
       have hne:g9<(x13).heap.size:=h9.lt
       replace h9:=h9.stays hb
       replace hS:=SM hS hb
       clear hb
       unfold zba at hx
       try rw [hx]
       clear hx
       generalize hg:(x13).heap.size=g8 at *
       clear hg
       refine hK.out _ _ hS ?_
       clear hK K
       try simp only [Act.put,List.setIfInBounds_toArray,List.set_cons_zero,List.set_cons_succ]
       refine AnyH.only (i:=6) (o:=⟨none,_,_,_,_,_⟩) (by kernel_rfl) rfl (by rfl) (fun K hK=>?_)
       refine zva 25 (.tmp 8) (.tmp 20) rfl g8 (zaa (zJa tk 0) u1) rfl rfl h8 Tryz.zea rfl (zca _ _ ho1) ?_
       replace hS:=SR hS g8 (by omega) (zaa (zJa tk 0) u1).toArray
       replace h9:=h9.zta g8 (zaa (zJa tk 0) u1).toArray (by omega)
       replace h8:=h8.zra (zaa (zJa tk 0) u1)
       refine hK.out _ _ hS ?_
       clear hK K
       try simp only [Act.put]
       refine AnyH.only (i:=7) (o:=⟨none,_,_,_,_,_⟩) (by kernel_rfl) rfl (by rfl) (fun K hK=>?_)
       refine zva 25 (.tmp 9) (.tmp 22) rfl g9 (zaa (zJa tk 1) u2) rfl rfl h9 Tryz.zea rfl (zca _ _ ho2) ?_
       replace hS:=SR hS g9 (by omega) (zaa (zJa tk 1) u2).toArray
       replace h8:=h8.zta g9 (zaa (zJa tk 1) u2).toArray (by omega)
       replace h9:=h9.zra (zaa (zJa tk 1) u2)
       refine hK.out _ _ hS ?_
       clear hK K
       try simp only [Act.put]
       refine wpAnyH_done (by kernel_rfl) ?_ _
       go_wp2_with fail
       go_meet
       exact ⟨g8,g9,_,_,rfl,rfl,hS.1,hS.2,h8,h9⟩
      ·go_simp
       have hl8:wr.heap.size<(x12).heap.size:=hS.2.lt
       obtain ⟨x15,hx⟩:∃ W,(x12).alloc (.cells zba.toArray 25)=W:=⟨_,rfl⟩
       have h8:Blk x15 (x12).heap.size zba 25:=hx▸Blk.new _ _ _
       have hb:Below (x12).heap.size (x12) x15:=hx▸(Below.refl _ _).alloc (Nat.le_refl _) _
       have hne:g9<(x12).heap.size:=h9.lt
       replace h9:=h9.stays hb
       replace hS:=SM hS hb
       clear hb
       unfold zba at hx
       try rw [hx]
       clear hx
       generalize hg:(x12).heap.size=g8 at *
       clear hg
       refine hK.out _ _ hS ?_
       clear hK K
       try simp only [Act.put,List.setIfInBounds_toArray,List.set_cons_zero,List.set_cons_succ]
       refine AnyH.only (i:=3) (o:=⟨some 22,_,_,_,_,_⟩) (by kernel_rfl) rfl (by rfl) (fun K hK=>?_)
       go_simp
       refine (zvb (t:=tk) (kv:=u) (HU.out _ hS.1.b) 1).mono ?_
       rintro e x16 ⟨u2,rfl,hk,hb⟩
       have ho2:=hk.one
       clear hk
       replace hS:=SM hS hb
       replace h8:=h8.stays hb
       replace h9:=h9.stays hb
       clear hb
       unfold zna
       refine hK.out _ _ hS ?_
       clear hK K
       try simp only [Act.put,List.setIfInBounds_toArray,List.set_cons_zero,List.set_cons_succ]
       refine AnyH.only (i:=6) (o:=⟨none,_,_,_,_,_⟩) (by kernel_rfl) rfl (by rfl) (fun K hK=>?_)
       refine zva 25 (.tmp 8) (.tmp 20) rfl g8 (zaa (zJa tk 0) u1) rfl rfl h8 Tryz.zea rfl (zca _ _ ho1) ?_
       replace hS:=SR hS g8 (by omega) (zaa (zJa tk 0) u1).toArray
       replace h9:=h9.zta g8 (zaa (zJa tk 0) u1).toArray (by omega)
       replace h8:=h8.zra (zaa (zJa tk 0) u1)
       refine hK.out _ _ hS ?_
       clear hK K
       try simp only [Act.put]
       refine AnyH.only (i:=7) (o:=⟨none,_,_,_,_,_⟩) (by kernel_rfl) rfl (by rfl) (fun K hK=>?_)
       refine zva 25 (.tmp 9) (.tmp 22) rfl g9 (zaa (zJa tk 1) u2) rfl rfl h9 Tryz.zea rfl (zca _ _ ho2) ?_
       replace hS:=SR hS g9 (by omega) (zaa (zJa tk 1) u2).toArray
       replace h8:=h8.zta g9 (zaa (zJa tk 1) u2).toArray (by omega)
       replace h9:=h9.zra (zaa (zJa tk 1) u2)
       refine hK.out _ _ hS ?_
       clear hK K
       try simp only [Act.put]
       refine wpAnyH_done (by kernel_rfl) ?_ _
       go_wp2_with fail
       go_meet
       exact ⟨g8,g9,_,_,rfl,rfl,hS.1,hS.2,h8,h9⟩
    ·go_simp
     have hl8:wr.heap.size<(Wd).heap.size:=hS.2.lt
     obtain ⟨x17,hx⟩:∃ W,(Wd).alloc (.cells zba.toArray 25)=W:=⟨_,rfl⟩
     have h8:Blk x17 (Wd).heap.size zba 25:=hx▸Blk.new _ _ _
     have hb:Below (Wd).heap.size (Wd) x17:=hx▸(Below.refl _ _).alloc (Nat.le_refl _) _
     replace hS:=SM hS hb
     clear hb
     unfold zba at hx
     try rw [hx]
     clear hx
     generalize hg:(Wd).heap.size=g8 at *
     clear hg
     refine hK.out _ _ hS ?_
     clear hK K
     try simp only [Act.put,List.setIfInBounds_toArray,List.set_cons_zero,List.set_cons_succ]
     refine AnyH.pair (i:=1) (k:=5) (o:=⟨some 20,_,_,_,_,_⟩) (u:=⟨some 9,_,_,_,_,_⟩) (by kernel_rfl) rfl rfl (by rfl) (by rfl) (fun K hK=>?_) (fun K hK=>?_)
     ·go_simp
      refine (zvb (t:=tk) (kv:=u) (HU.out _ hS.1.b) 0).mono ?_
      rintro e x18 ⟨u1,rfl,hk,hb⟩
      have ho1:=hk.one
      clear hk
      replace hS:=SM hS hb
      replace h8:=h8.stays hb
      clear hb
      unfold zna
      refine hK.out _ _ hS ?_
      clear hK K
      try simp only [Act.put,List.setIfInBounds_toArray,List.set_cons_zero,List.set_cons_succ]
      refine AnyH.pair (i:=3) (k:=5) (o:=⟨some 22,_,_,_,_,_⟩) (u:=⟨some 9,_,_,_,_,_⟩) (by kernel_rfl) rfl rfl (by rfl) (by rfl) (fun K hK=>?_) (fun K hK=>?_)
      ·go_simp
       refine (zvb (t:=tk) (kv:=u) (HU.out _ hS.1.b) 1).mono ?_
       rintro e x19 ⟨u2,rfl,hk,hb⟩
       have ho2:=hk.one
       clear hk
       replace hS:=SM hS hb
       replace h8:=h8.stays hb
       clear hb
       unfold zna
       refine hK.out _ _ hS ?_
       clear hK K
       try simp only [Act.put,List.setIfInBounds_toArray,List.set_cons_zero,List.set_cons_succ]
       refine AnyH.only (i:=5) (o:=⟨some 9,_,_,_,_,_⟩) (by kernel_rfl) rfl (by rfl) (fun K hK=>?_)
       go_simp
       have hl9:wr.heap.size<(x19).heap.size:=hS.2.lt
       obtain ⟨x20,hx⟩:∃ W,(x19).alloc (.cells zba.toArray 25)=W:=⟨_,rfl⟩
       have h9:Blk x20 (x19).heap.size zba 25:=hx▸Blk.new _ _ _
       have hb:Below (x19).heap.size (x19) x20:=hx▸(Below.refl _ _).alloc (Nat.le_refl _) _
       have hne:g8<(x19).heap.size:=h8.lt
       replace h8:=h8.stays hb
       replace hS:=SM hS hb
       clear hb
       unfold zba at hx
       try rw [hx]
       clear hx
       generalize hg:(x19).heap.size=g9 at *
       clear hg
       refine hK.out _ _ hS ?_
       clear hK K
       try simp only [Act.put,List.setIfInBounds_toArray,List.set_cons_zero,List.set_cons_succ]
       refine AnyH.only (i:=6) (o:=⟨none,_,_,_,_,_⟩) (by kernel_rfl) rfl (by rfl) (fun K hK=>?_)
       refine zva 25 (.tmp 8) (.tmp 20) rfl g8 (zaa (zJa tk 0) u1) rfl rfl h8 Tryz.zea rfl (zca _ _ ho1) ?_
       replace hS:=SR hS g8 (by omega) (zaa (zJa tk 0) u1).toArray
       replace h9:=h9.zta g8 (zaa (zJa tk 0) u1).toArray (by omega)
       replace h8:=h8.zra (zaa (zJa tk 0) u1)
       refine hK.out _ _ hS ?_
       clear hK K
       try simp only [Act.put]
       refine AnyH.only (i:=7) (o:=⟨none,_,_,_,_,_⟩) (by kernel_rfl) rfl (by rfl) (fun K hK=>?_)
       refine zva 25 (.tmp 9) (.tmp 22) rfl g9 (zaa (zJa tk 1) u2) rfl rfl h9 Tryz.zea rfl (zca _ _ ho2) ?_
       replace hS:=SR hS g9 (by omega) (zaa (zJa tk 1) u2).toArray
       replace h8:=h8.zta g9 (zaa (zJa tk 1) u2).toArray (by omega)
       replace h9:=h9.zra (zaa (zJa tk 1) u2)
       refine hK.out _ _ hS ?_
       clear hK K
       try simp only [Act.put]
       refine wpAnyH_done (by kernel_rfl) ?_ _
       go_wp2_with fail
       go_meet
       exact ⟨g8,g9,_,_,rfl,rfl,hS.1,hS.2,h8,h9⟩
      ·go_simp
       have hl9:wr.heap.size<(x18).heap.size:=hS.2.lt
       obtain ⟨x21,hx⟩:∃ W,(x18).alloc (.cells zba.toArray 25)=W:=⟨_,rfl⟩
       have h9:Blk x21 (x18).heap.size zba 25:=hx▸Blk.new _ _ _
       have hb:Below (x18).heap.size (x18) x21:=hx▸(Below.refl _ _).alloc (Nat.le_refl _) _
       have hne:g8<(x18).heap.size:=h8.lt
       replace h8:=h8.stays hb
       replace hS:=SM hS hb
       clear hb
       unfold zba at hx
       try rw [hx]
       clear hx
       generalize hg:(x18).heap.size=g9 at *
       clear hg
       refine hK.out _ _ hS ?_
       clear hK K
       try simp only [Act.put,List.setIfInBounds_toArray,List.set_cons_zero,List.set_cons_succ]
       refine AnyH.only (i:=3) (o:=⟨some 22,_,_,_,_,_⟩) (by kernel_rfl) rfl (by rfl) (fun K hK=>?_)
       go_simp
       refine (zvb (t:=tk) (kv:=u) (HU.out _ hS.1.b) 1).mono ?_
       rintro e x22 ⟨u2,rfl,hk,hb⟩
       have ho2:=hk.one
       clear hk
       replace hS:=SM hS hb
       replace h8:=h8.stays hb
       replace h9:=h9.stays hb
       clear hb
       unfold zna
       refine hK.out _ _ hS ?_
       clear hK K
       try simp only [Act.put,List.setIfInBounds_toArray,List.set_cons_zero,List.set_cons_succ]
       refine AnyH.only (i:=6) (o:=⟨none,_,_,_,_,_⟩) (by kernel_rfl) rfl (by rfl) (fun K hK=>?_)
       refine zva 25 (.tmp 8) (.tmp 20) rfl g8 (zaa (zJa tk 0) u1) rfl rfl h8 Tryz.zea rfl (zca _ _ ho1) ?_
       replace hS:=SR hS g8 (by omega) (zaa (zJa tk 0) u1).toArray
       replace h9:=h9.zta g8 (zaa (zJa tk 0) u1).toArray (by omega)
       replace h8:=h8.zra (zaa (zJa tk 0) u1)
       refine hK.out _ _ hS ?_
       clear hK K
       try simp only [Act.put]
       refine AnyH.only (i:=7) (o:=⟨none,_,_,_,_,_⟩) (by kernel_rfl) rfl (by rfl) (fun K hK=>?_)
       refine zva 25 (.tmp 9) (.tmp 22) rfl g9 (zaa (zJa tk 1) u2) rfl rfl h9 Tryz.zea rfl (zca _ _ ho2) ?_
       replace hS:=SR hS g9 (by omega) (zaa (zJa tk 1) u2).toArray
       replace h8:=h8.zta g9 (zaa (zJa tk 1) u2).toArray (by omega)
       replace h9:=h9.zra (zaa (zJa tk 1) u2)
       refine hK.out _ _ hS ?_
       clear hK K
       try simp only [Act.put]
       refine wpAnyH_done (by kernel_rfl) ?_ _
       go_wp2_with fail
       go_meet
       exact ⟨g8,g9,_,_,rfl,rfl,hS.1,hS.2,h8,h9⟩
     ·go_simp
      have hl9:wr.heap.size<(x17).heap.size:=hS.2.lt
      obtain ⟨x23,hx⟩:∃ W,(x17).alloc (.cells zba.toArray 25)=W:=⟨_,rfl⟩
      have h9:Blk x23 (x17).heap.size zba 25:=hx▸Blk.new _ _ _
      have hb:Below (x17).heap.size (x17) x23:=hx▸(Below.refl _ _).alloc (Nat.le_refl _) _
      have hne:g8<(x17).heap.size:=h8.lt
      replace h8:=h8.stays hb
      replace hS:=SM hS hb
      clear hb
      unfold zba at hx
      try rw [hx]
      clear hx
      generalize hg:(x17).heap.size=g9 at *
      clear hg
      refine hK.out _ _ hS ?_
      clear hK K
      try simp only [Act.put,List.setIfInBounds_toArray,List.set_cons_zero,List.set_cons_succ]
      refine AnyH.only (i:=1) (o:=⟨some 20,_,_,_,_,_⟩) (by kernel_rfl) rfl (by rfl) (fun K hK=>?_)
      go_simp
      refine (zvb (t:=tk) (kv:=u) (HU.out _ hS.1.b) 0).mono ?_
      rintro e x24 ⟨u1,rfl,hk,hb⟩
      have ho1:=hk.one
      clear hk
      replace hS:=SM hS hb
      replace h8:=h8.stays hb
      replace h9:=h9.stays hb
      clear hb
      unfold zna
      refine hK.out _ _ hS ?_
      clear hK K
      try simp only [Act.put,List.setIfInBounds_toArray,List.set_cons_zero,List.set_cons_succ]
      refine AnyH.only (i:=3) (o:=⟨some 22,_,_,_,_,_⟩) (by kernel_rfl) rfl (by rfl) (fun K hK=>?_)
      go_simp
      refine (zvb (t:=tk) (kv:=u) (HU.out _ hS.1.b) 1).mono ?_
      rintro e x25 ⟨u2,rfl,hk,hb⟩
      have ho2:=hk.one
      clear hk
      replace hS:=SM hS hb
      replace h8:=h8.stays hb
      replace h9:=h9.stays hb
      clear hb
      unfold zna
      refine hK.out _ _ hS ?_
      clear hK K
      try simp only [Act.put,List.setIfInBounds_toArray,List.set_cons_zero,List.set_cons_succ]
      refine AnyH.only (i:=6) (o:=⟨none,_,_,_,_,_⟩) (by kernel_rfl) rfl (by rfl) (fun K hK=>?_)
      refine zva 25 (.tmp 8) (.tmp 20) rfl g8 (zaa (zJa tk 0) u1) rfl rfl h8 Tryz.zea rfl (zca _ _ ho1) ?_
      replace hS:=SR hS g8 (by omega) (zaa (zJa tk 0) u1).toArray
      replace h9:=h9.zta g8 (zaa (zJa tk 0) u1).toArray (by omega)
      replace h8:=h8.zra (zaa (zJa tk 0) u1)
      refine hK.out _ _ hS ?_
      clear hK K
      try simp only [Act.put]
      refine AnyH.only (i:=7) (o:=⟨none,_,_,_,_,_⟩) (by kernel_rfl) rfl (by rfl) (fun K hK=>?_)
      refine zva 25 (.tmp 9) (.tmp 22) rfl g9 (zaa (zJa tk 1) u2) rfl rfl h9 Tryz.zea rfl (zca _ _ ho2) ?_
      replace hS:=SR hS g9 (by omega) (zaa (zJa tk 1) u2).toArray
      replace h8:=h8.zta g9 (zaa (zJa tk 1) u2).toArray (by omega)
      replace h9:=h9.zra (zaa (zJa tk 1) u2)
      refine hK.out _ _ hS ?_
      clear hK K
      try simp only [Act.put]
      refine wpAnyH_done (by kernel_rfl) ?_ _
      go_wp2_with fail
      go_meet
      exact ⟨g8,g9,_,_,rfl,rfl,hS.1,hS.2,h8,h9⟩
    ·go_simp
     have hl9:wr.heap.size<(Wd).heap.size:=hS.2.lt
     obtain ⟨x26,hx⟩:∃ W,(Wd).alloc (.cells zba.toArray 25)=W:=⟨_,rfl⟩
     have h9:Blk x26 (Wd).heap.size zba 25:=hx▸Blk.new _ _ _
     have hb:Below (Wd).heap.size (Wd) x26:=hx▸(Below.refl _ _).alloc (Nat.le_refl _) _
     replace hS:=SM hS hb
     clear hb
     unfold zba at hx
     try rw [hx]
     clear hx
     generalize hg:(Wd).heap.size=g9 at *
     clear hg
     refine hK.out _ _ hS ?_
     clear hK K
     try simp only [Act.put,List.setIfInBounds_toArray,List.set_cons_zero,List.set_cons_succ]
     refine AnyH.pair (i:=1) (k:=4) (o:=⟨some 20,_,_,_,_,_⟩) (u:=⟨some 8,_,_,_,_,_⟩) (by kernel_rfl) rfl rfl (by rfl) (by rfl) (fun K hK=>?_) (fun K hK=>?_)
     ·go_simp
      refine (zvb (t:=tk) (kv:=u) (HU.out _ hS.1.b) 0).mono ?_
      rintro e x27 ⟨u1,rfl,hk,hb⟩
      have ho1:=hk.one
      clear hk
      replace hS:=SM hS hb
      replace h9:=h9.stays hb
      clear hb
      unfold zna
      refine hK.out _ _ hS ?_
      clear hK K
      try simp only [Act.put,List.setIfInBounds_toArray,List.set_cons_zero,List.set_cons_succ]
      refine AnyH.pair (i:=3) (k:=4) (o:=⟨some 22,_,_,_,_,_⟩) (u:=⟨some 8,_,_,_,_,_⟩) (by kernel_rfl) rfl rfl (by rfl) (by rfl) (fun K hK=>?_) (fun K hK=>?_)
      ·go_simp
       refine (zvb (t:=tk) (kv:=u) (HU.out _ hS.1.b) 1).mono ?_
       rintro e x28 ⟨u2,rfl,hk,hb⟩
       have ho2:=hk.one
       clear hk
       replace hS:=SM hS hb
       replace h9:=h9.stays hb
       clear hb
       unfold zna
       refine hK.out _ _ hS ?_
       clear hK K
       try simp only [Act.put,List.setIfInBounds_toArray,List.set_cons_zero,List.set_cons_succ]
       refine AnyH.only (i:=4) (o:=⟨some 8,_,_,_,_,_⟩) (by kernel_rfl) rfl (by rfl) (fun K hK=>?_)
       go_simp
       have hl8:wr.heap.size<(x28).heap.size:=hS.2.lt
       obtain ⟨x29,hx⟩:∃ W,(x28).alloc (.cells zba.toArray 25)=W:=⟨_,rfl⟩
       have h8:Blk x29 (x28).heap.size zba 25:=hx▸Blk.new _ _ _
       have hb:Below (x28).heap.size (x28) x29:=hx▸(Below.refl _ _).alloc (Nat.le_refl _) _
       have hne:g9<(x28).heap.size:=h9.lt
       replace h9:=h9.stays hb
       replace hS:=SM hS hb
       clear hb
       unfold zba at hx
       try rw [hx]
       clear hx
       generalize hg:(x28).heap.size=g8 at *
       clear hg
       refine hK.out _ _ hS ?_
       clear hK K
       try simp only [Act.put,List.setIfInBounds_toArray,List.set_cons_zero,List.set_cons_succ]
       refine AnyH.only (i:=6) (o:=⟨none,_,_,_,_,_⟩) (by kernel_rfl) rfl (by rfl) (fun K hK=>?_)
       refine zva 25 (.tmp 8) (.tmp 20) rfl g8 (zaa (zJa tk 0) u1) rfl rfl h8 Tryz.zea rfl (zca _ _ ho1) ?_
       replace hS:=SR hS g8 (by omega) (zaa (zJa tk 0) u1).toArray
       replace h9:=h9.zta g8 (zaa (zJa tk 0) u1).toArray (by omega)
       replace h8:=h8.zra (zaa (zJa tk 0) u1)
       refine hK.out _ _ hS ?_
       clear hK K
       try simp only [Act.put]
       refine AnyH.only (i:=7) (o:=⟨none,_,_,_,_,_⟩) (by kernel_rfl) rfl (by rfl) (fun K hK=>?_)
       refine zva 25 (.tmp 9) (.tmp 22) rfl g9 (zaa (zJa tk 1) u2) rfl rfl h9 Tryz.zea rfl (zca _ _ ho2) ?_
       replace hS:=SR hS g9 (by omega) (zaa (zJa tk 1) u2).toArray
       replace h8:=h8.zta g9 (zaa (zJa tk 1) u2).toArray (by omega)
       replace h9:=h9.zra (zaa (zJa tk 1) u2)
       refine hK.out _ _ hS ?_
       clear hK K
       try simp only [Act.put]
       refine wpAnyH_done (by kernel_rfl) ?_ _
       go_wp2_with fail
       go_meet
       exact ⟨g8,g9,_,_,rfl,rfl,hS.1,hS.2,h8,h9⟩
      ·go_simp
       have hl8:wr.heap.size<(x27).heap.size:=hS.2.lt
       obtain ⟨x30,hx⟩:∃ W,(x27).alloc (.cells zba.toArray 25)=W:=⟨_,rfl⟩
       have h8:Blk x30 (x27).heap.size zba 25:=hx▸Blk.new _ _ _
       have hb:Below (x27).heap.size (x27) x30:=hx▸(Below.refl _ _).alloc (Nat.le_refl _) _
       have hne:g9<(x27).heap.size:=h9.lt
       replace h9:=h9.stays hb
       replace hS:=SM hS hb
       clear hb
       unfold zba at hx
       try rw [hx]
       clear hx
       generalize hg:(x27).heap.size=g8 at *
       clear hg
       refine hK.out _ _ hS ?_
       clear hK K
       try simp only [Act.put,List.setIfInBounds_toArray,List.set_cons_zero,List.set_cons_succ]
       refine AnyH.only (i:=3) (o:=⟨some 22,_,_,_,_,_⟩) (by kernel_rfl) rfl (by rfl) (fun K hK=>?_)
       go_simp
       refine (zvb (t:=tk) (kv:=u) (HU.out _ hS.1.b) 1).mono ?_
       rintro e x31 ⟨u2,rfl,hk,hb⟩
       have ho2:=hk.one
       clear hk
       replace hS:=SM hS hb
       replace h8:=h8.stays hb
       replace h9:=h9.stays hb
       clear hb
       unfold zna
       refine hK.out _ _ hS ?_
       clear hK K
       try simp only [Act.put,List.setIfInBounds_toArray,List.set_cons_zero,List.set_cons_succ]
       refine AnyH.only (i:=6) (o:=⟨none,_,_,_,_,_⟩) (by kernel_rfl) rfl (by rfl) (fun K hK=>?_)
       refine zva 25 (.tmp 8) (.tmp 20) rfl g8 (zaa (zJa tk 0) u1) rfl rfl h8 Tryz.zea rfl (zca _ _ ho1) ?_
       replace hS:=SR hS g8 (by omega) (zaa (zJa tk 0) u1).toArray
       replace h9:=h9.zta g8 (zaa (zJa tk 0) u1).toArray (by omega)
       replace h8:=h8.zra (zaa (zJa tk 0) u1)
       refine hK.out _ _ hS ?_
       clear hK K
       try simp only [Act.put]
       refine AnyH.only (i:=7) (o:=⟨none,_,_,_,_,_⟩) (by kernel_rfl) rfl (by rfl) (fun K hK=>?_)
       refine zva 25 (.tmp 9) (.tmp 22) rfl g9 (zaa (zJa tk 1) u2) rfl rfl h9 Tryz.zea rfl (zca _ _ ho2) ?_
       replace hS:=SR hS g9 (by omega) (zaa (zJa tk 1) u2).toArray
       replace h8:=h8.zta g9 (zaa (zJa tk 1) u2).toArray (by omega)
       replace h9:=h9.zra (zaa (zJa tk 1) u2)
       refine hK.out _ _ hS ?_
       clear hK K
       try simp only [Act.put]
       refine wpAnyH_done (by kernel_rfl) ?_ _
       go_wp2_with fail
       go_meet
       exact ⟨g8,g9,_,_,rfl,rfl,hS.1,hS.2,h8,h9⟩
     ·go_simp
      have hl8:wr.heap.size<(x26).heap.size:=hS.2.lt
      obtain ⟨x32,hx⟩:∃ W,(x26).alloc (.cells zba.toArray 25)=W:=⟨_,rfl⟩
      have h8:Blk x32 (x26).heap.size zba 25:=hx▸Blk.new _ _ _
      have hb:Below (x26).heap.size (x26) x32:=hx▸(Below.refl _ _).alloc (Nat.le_refl _) _
      have hne:g9<(x26).heap.size:=h9.lt
      replace h9:=h9.stays hb
      replace hS:=SM hS hb
      clear hb
      unfold zba at hx
      try rw [hx]
      clear hx
      generalize hg:(x26).heap.size=g8 at *
      clear hg
      refine hK.out _ _ hS ?_
      clear hK K
      try simp only [Act.put,List.setIfInBounds_toArray,List.set_cons_zero,List.set_cons_succ]
      refine AnyH.only (i:=1) (o:=⟨some 20,_,_,_,_,_⟩) (by kernel_rfl) rfl (by rfl) (fun K hK=>?_)
      go_simp
      refine (zvb (t:=tk) (kv:=u) (HU.out _ hS.1.b) 0).mono ?_
      rintro e x33 ⟨u1,rfl,hk,hb⟩
      have ho1:=hk.one
      clear hk
      replace hS:=SM hS hb
      replace h8:=h8.stays hb
      replace h9:=h9.stays hb
      clear hb
      unfold zna
      refine hK.out _ _ hS ?_
      clear hK K
      try simp only [Act.put,List.setIfInBounds_toArray,List.set_cons_zero,List.set_cons_succ]
      refine AnyH.only (i:=3) (o:=⟨some 22,_,_,_,_,_⟩) (by kernel_rfl) rfl (by rfl) (fun K hK=>?_)
      go_simp
      refine (zvb (t:=tk) (kv:=u) (HU.out _ hS.1.b) 1).mono ?_
      rintro e x34 ⟨u2,rfl,hk,hb⟩
      have ho2:=hk.one
      clear hk
      replace hS:=SM hS hb
      replace h8:=h8.stays hb
      replace h9:=h9.stays hb
      clear hb
      unfold zna
      refine hK.out _ _ hS ?_
      clear hK K
      try simp only [Act.put,List.setIfInBounds_toArray,List.set_cons_zero,List.set_cons_succ]
      refine AnyH.only (i:=6) (o:=⟨none,_,_,_,_,_⟩) (by kernel_rfl) rfl (by rfl) (fun K hK=>?_)
      refine zva 25 (.tmp 8) (.tmp 20) rfl g8 (zaa (zJa tk 0) u1) rfl rfl h8 Tryz.zea rfl (zca _ _ ho1) ?_
      replace hS:=SR hS g8 (by omega) (zaa (zJa tk 0) u1).toArray
      replace h9:=h9.zta g8 (zaa (zJa tk 0) u1).toArray (by omega)
      replace h8:=h8.zra (zaa (zJa tk 0) u1)
      refine hK.out _ _ hS ?_
      clear hK K
      try simp only [Act.put]
      refine AnyH.only (i:=7) (o:=⟨none,_,_,_,_,_⟩) (by kernel_rfl) rfl (by rfl) (fun K hK=>?_)
      refine zva 25 (.tmp 9) (.tmp 22) rfl g9 (zaa (zJa tk 1) u2) rfl rfl h9 Tryz.zea rfl (zca _ _ ho2) ?_
      replace hS:=SR hS g9 (by omega) (zaa (zJa tk 1) u2).toArray
      replace h8:=h8.zta g9 (zaa (zJa tk 1) u2).toArray (by omega)
      replace h9:=h9.zra (zaa (zJa tk 1) u2)
      refine hK.out _ _ hS ?_
      clear hK K
      try simp only [Act.put]
      refine wpAnyH_done (by kernel_rfl) ?_ _
      go_wp2_with fail
      go_meet
      exact ⟨g8,g9,_,_,rfl,rfl,hS.1,hS.2,h8,h9⟩
   case rest =>
    obtain ⟨g8,g9,u1,u2,rfl,rfl,hs,hbk,h8,h9⟩:=hcut
    rename World=>W2
    have SM6:∀ {W W':World},(FcF w w.heap.size p sv fv cv ty pv lv wr.heap.size done u5 W∧Blk W wr.heap.size (zaa tk u) 25∧Blk W g8 (zaa (zJa tk 0) u1) 25∧Blk W g9 (zaa (zJa tk 1) u2) 25)→Below W.heap.size W W' →
     (FcF w w.heap.size p sv fv cv ty pv lv wr.heap.size done u5 W'∧Blk W' wr.heap.size (zaa tk u) 25∧Blk W' g8 (zaa (zJa tk 0) u1) 25∧Blk W' g9 (zaa (zJa tk 1) u2) 25):=fun h hb=>⟨h.1.stay hb,h.2.1.stays hb,h.2.2.1.stays hb,h.2.2.2.stays hb⟩
    clear SM SR
    go_upto_region 6 with fail
    refine wp_region_held_drew (S:=fun W=>FcF w w.heap.size p sv fv cv ty pv lv wr.heap.size done u5 W∧Blk W wr.heap.size (zaa tk u) 25∧Blk W g8 (zaa (zJa tk 0) u1) 25∧Blk W g9 (zaa (zJa tk 1) u2) 25) (by kernel_rfl) ⟨hs.stay (Below.refl _ _).drew,hbk,h8,h9⟩ (fun hS=>?_)
    generalize W2.drew=Wd at hS ⊢
    clear hs hbk h8 h9
    refine wpAnyH_take (i:=0) (oi:=⟨some 23,_,_,_,_,_⟩) (v:=.agg (zDa p sv fv cv).toArray) rfl (by kernel_rfl) (by kernel_rfl) (by kernel_rfl) (fun _ _ _ h=>h) (yieldsIf_load_mid (cs:=zDa p sv fv cv) (by rfl) 153 (.tmp 2) rfl (w.heap.size) 0 (by go_simp) _ (fun W hW j v hj=>by rw [Nat.zero_add,(hW.1.q).cell j];exact hj) Tryz.underlying153 rfl Tryz.zoc) hS ?_
    try simp only [Act.put,List.setIfInBounds_toArray,List.set_cons_zero,List.set_cons_succ]
    refine wpAnyH_take (i:=1) (oi:=⟨some 24,_,_,_,_,_⟩) (v:=.agg (zaa (zJa tk 0) u1).toArray) rfl (by kernel_rfl) (by kernel_rfl) (by kernel_rfl) (fun _ _ _ h=>h) (yieldsIf_load_mid (cs:=zaa (zJa tk 0) u1) (by rfl) 25 (.tmp 8) rfl (g8) 0 (by go_simp) _ (fun W hW j v hj=>by rw [Nat.zero_add,(hW.2.2.1).cell j];exact hj) Tryz.underlying25 rfl Tryz.zea) hS ?_
    try simp only [Act.put,List.setIfInBounds_toArray,List.set_cons_zero,List.set_cons_succ]
    refine wpAnyH_take (i:=2) (oi:=⟨some 25,_,_,_,_,_⟩) (v:=.agg (zIa ty pv lv).toArray) rfl (by kernel_rfl) (by kernel_rfl) (by kernel_rfl) (fun _ _ _ h=>h) (yieldsIf_load_mid (cs:=zIa ty pv lv) (by rfl) 67 (.tmp 3) rfl (w.heap.size+1) 0 (by go_simp) _ (fun W hW j v hj=>by rw [Nat.zero_add,(hW.1.y).cell j];exact hj) Tryz.underlying67 rfl Tryz.zYe) hS ?_
    try simp only [Act.put,List.setIfInBounds_toArray,List.set_cons_zero,List.set_cons_succ]
    refine wpAnyH_take (i:=4) (oi:=⟨some 27,_,_,_,_,_⟩) (v:=.agg (zDa p sv fv cv).toArray) rfl (by kernel_rfl) (by kernel_rfl) (by kernel_rfl) (fun _ _ _ h=>h) (yieldsIf_load_mid (cs:=zDa p sv fv cv) (by rfl) 153 (.tmp 2) rfl (w.heap.size) 0 (by go_simp) _ (fun W hW j v hj=>by rw [Nat.zero_add,(hW.1.q).cell j];exact hj) Tryz.underlying153 rfl Tryz.zoc) hS ?_
    try simp only [Act.put,List.setIfInBounds_toArray,List.set_cons_zero,List.set_cons_succ]
    refine wpAnyH_take (i:=5) (oi:=⟨some 28,_,_,_,_,_⟩) (v:=.agg (zaa (zJa tk 1) u2).toArray) rfl (by kernel_rfl) (by kernel_rfl) (by kernel_rfl) (fun _ _ _ h=>h) (yieldsIf_load_mid (cs:=zaa (zJa tk 1) u2) (by rfl) 25 (.tmp 9) rfl (g9) 0 (by go_simp) _ (fun W hW j v hj=>by rw [Nat.zero_add,(hW.2.2.2).cell j];exact hj) Tryz.underlying25 rfl Tryz.zea) hS ?_
    try simp only [Act.put,List.setIfInBounds_toArray,List.set_cons_zero,List.set_cons_succ]
    refine wpAnyH_take (i:=6) (oi:=⟨some 29,_,_,_,_,_⟩) (v:=.agg (zIa ty pv lv).toArray) rfl (by kernel_rfl) (by kernel_rfl) (by kernel_rfl) (fun _ _ _ h=>h) (yieldsIf_load_mid (cs:=zIa ty pv lv) (by rfl) 67 (.tmp 3) rfl (w.heap.size+1) 0 (by go_simp) _ (fun W hW j v hj=>by rw [Nat.zero_add,(hW.1.y).cell j];exact hj) Tryz.underlying67 rfl Tryz.zYe) hS ?_
    try simp only [Act.put,List.setIfInBounds_toArray,List.set_cons_zero,List.set_cons_succ]
    refine AnyH.only (i:=3) (o:=⟨some 26,_,_,_,_,_⟩) (by kernel_rfl) rfl (by rfl) (fun K hK=>?_)
    go_simp
    refine (zuh (p:=p) (sv:=sv) (fv:=fv) (cv:=cv) (HP.out.below hS.1.b).f (zJa tk 0) u1 ty pv lv).mono ?_
    rintro e w3 ⟨rfl,hb⟩
    replace hS:=SM6 hS hb
    clear hb
    refine hK.out _ _ hS ?_
    clear hK K
    try simp only [Act.put,List.setIfInBounds_toArray,List.set_cons_zero,List.set_cons_succ]
    refine AnyH.only (i:=7) (o:=⟨some 30,_,_,_,_,_⟩) (by kernel_rfl) rfl (by rfl) (fun K hK=>?_)
    go_simp
    refine (zuh (p:=p) (sv:=sv) (fv:=fv) (cv:=cv) (HP.out.below hS.1.b).f (zJa tk 1) u2 ty pv lv).mono ?_
    rintro e w4 ⟨rfl,hb⟩
    replace hS:=SM6 hS hb
    clear hb
    refine hK.out _ _ hS ?_
    clear hK K
    try simp only [Act.put,List.setIfInBounds_toArray,List.set_cons_zero,List.set_cons_succ]
    refine wpAnyH_take (i:=8) (oi:=⟨some 10,_,_,_,_,_⟩) (v:=.int .i64 (oi (zRm p.fields ty.sort ty.of (zJa tk 0)))) rfl (by kernel_rfl) (by kernel_rfl) (by kernel_rfl) (fun _ _ _ h=>h) (Or.inl ⟨by rfl,fun W _=>by go_simp⟩) hS ?_
    try simp only [Act.put,List.setIfInBounds_toArray,List.set_cons_zero,List.set_cons_succ]
    refine wpAnyH_take (i:=9) (oi:=⟨some 11,_,_,_,_,_⟩) (v:=.int .i64 (oi (zRm p.fields ty.sort ty.of (zJa tk 1)))) rfl (by kernel_rfl) (by kernel_rfl) (by kernel_rfl) (fun _ _ _ h=>h) (Or.inl ⟨by rfl,fun W _=>by go_simp⟩) hS ?_
    try simp only [Act.put,List.setIfInBounds_toArray,List.set_cons_zero,List.set_cons_succ]
    refine wpAnyH_done (by kernel_rfl) ?_ _
    have HS4:=zh hS.1
    have HB4:=zh hS.2.1
    have d1:w4.cell? ⟨wr.heap.size,1,none⟩=some (.string tk.text):=hS.2.1.cell 1
    have n8:w4.cell? ⟨g8,2,none⟩=some (.int .i64 (zJa tk 0).num):=hS.2.2.1.cell 2
    have n9:w4.cell? ⟨g9,2,none⟩=some (.int .i64 (zJa tk 1).num):=hS.2.2.2.cell 2
    clear hS SM6
    cases ha:zRm p.fields ty.sort ty.of (zJa tk 0) with
    | none =>
     have HRes:=zh (show zqd p.fields ty.sort ty.of p.facts=.error (tk.place,33) from HEQ.out.trans (by rw [zzj (show zBk p.fields ty.sort ty.of tk=.error (tk.place,33) by unfold zBk;rw [ha])];rfl))
     have HFL:=zh (zmc tk u 33 w4)
     unfold zna at HFL
     have hb4:=HB4.out
     generalize oi (zRm p.fields ty.sort ty.of (zJa tk 1))=zb
     simp only [oi]
     go_wp2_with ((with_reducible refine zqa 25 (.tmp 7) ?_);refine zia rfl 25 (.tmp 7) rfl wr.heap.size (zaa tk u) rfl hb4 Tryz.underlying25 rfl Tryz.zea ?_)
     refine HFL.out.mono ?_
     rintro e w5 ⟨rfl,hb⟩
     go_wp2_with fail
     exact ⟨rfl,zJd.err HRes.out (HS4.out.b.trans (hb.mono HS4.out.b.size))⟩
    | some a =>
     have hnea:((a:Int) == -1)=false:=by simp
     cases hbv:zRm p.fields ty.sort ty.of (zJa tk 1) with
     | none =>
      have HRes:=zh (show zqd p.fields ty.sort ty.of p.facts=.error (tk.place,33) from HEQ.out.trans (by rw [zzj (show zBk p.fields ty.sort ty.of tk=.error (tk.place,33) by unfold zBk;rw [ha,hbv])];rfl))
      have HFL:=zh (zmc tk u 33 w4)
      unfold zna at HFL
      have hb4:=HB4.out
      simp only [oi]
      go_wp2_with ((with_reducible refine zqa 25 (.tmp 7) ?_);refine zia rfl 25 (.tmp 7) rfl wr.heap.size (zaa tk u) rfl hb4 Tryz.underlying25 rfl Tryz.zea ?_)
      refine HFL.out.mono ?_
      rintro e w5 ⟨rfl,hb⟩
      go_wp2_with fail
      exact ⟨rfl,zJd.err HRes.out (HS4.out.b.trans (hb.mono HS4.out.b.size))⟩
     | some b =>
      have hneb:((b:Int) == -1)=false:=by simp
      have HN:=zh (show zqd p.fields ty.sort ty.of p.facts=pre (done++zIe tk.text a b (zJa tk 0).num (zJa tk 1).num) (zqd p.fields ty.sort ty.of (p.facts.drop (k+1))) from
       HEQ.out.trans (by rw [zEp (show zBk p.fields ty.sort ty.of tk=.ok (zIe tk.text a b (zJa tk 0).num (zJa tk 1).num) by unfold zBk;rw [ha,hbv]),zPl]))
      have HLL:=zh (zko tk.text a b (zJa tk 0).num (zJa tk 1).num)
      have HFC:=zh (zIq tk.text a b (zJa tk 0).num (zJa tk 1).num w4)
      clear ha hbv
      simp only [oi]
      go_wp2_with fail
      refine HFC.out.mono ?_
      rintro e w5 ⟨v,rfl,hv,hb⟩
      have HS5:=zh (HS4.out.stay hb)
      have HV:=zh hv
      clear hb hv HFC
      go_wp2_with (at_builtin;refine zxb zxu zPu (by omega) (by omega) rfl (.tmp 39) (.tmp 48) rfl I rfl ((HS5.out.f.mono fun b hb _=>hb.1:zhl w5 done (fun b=>w.heap.size+2≤b) u5)) rfl HV.out ?c3 ?c4 ?_)
      case c3=>have:=HS5.out.y.lt;omega
      case c4=>have:=HLL.out;omega
      intro v' w6 hv' hg'
      have HV6:=zh hv'
      have HS6:=zh (HS5.out.toFcSt.grown hg' fun k hk=>(HS5.out.f.2 k hk).1)
      clear hv' hg'
      go_wp2
      go_roundw
      case rel=>exact ⟨k+1,by omega,by go_num,_,HV6.out,by have:=HLL.out;simp;omega,HS6.out,HN.out⟩
      case measure=>simp [intOf];omega
  ·obtain rfl:k=p.facts.length:=by omega
   have HR:=zh (show zJd VFas w (zqd p.fields ty.sort ty.of p.facts) (.returned u5) wr from
    zJd.ok (a:=done) (by rw [heq,List.drop_length];simp [zqd,pre]) (hfa.mono fun b hb _=>by omega) hst.b)
   clear heq hfa hst
   go_wp2_with fail
   go_ret
   exact HR.out
end Go.Proofs.YtpjnpffcnmgdcaaGreatDoor
