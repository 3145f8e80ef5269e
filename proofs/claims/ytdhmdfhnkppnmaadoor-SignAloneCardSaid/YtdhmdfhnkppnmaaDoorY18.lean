/- The contract of shape's readFields. The reader of types in memory; the contract of shape's of. -/
import Derived.Test.YtdhmdfhnkppnmaaDoorY17
import Derived.Laws.MakeOwn
namespace Go.Proofs.YtdhmdfhnkppnmaaDoor
set_option maxRecDepth 100000
set_option maxHeartbeats 2000000
section
open Go.RowKit
def fld0:ByteArray × Int:=(⟨#[]⟩,0)
theorem zLj {α:Type} (c:α→List Value) (x:α):∀ n:Nat,(List.replicate n x).flatMap c=(List.replicate n (c x)).flatten
 | 0=>rfl
 | n+1=>by rw [List.replicate_succ,List.replicate_succ,List.flatten_cons,List.flatMap_cons,zLj c x n]
theorem Tryd.zZo:(Tryd.prog.info? 118).map (fun i=>(i.zero,i.size,i.bytes))=some (some (.agg #[.string ⟨#[]⟩,.int .i64 0]),2,24):=by kernel_rfl
theorem zll {α:Type} (l:List α) (k:Nat) (hl:l.length=k) (hk:0<k):∀ (n q:Nat),q<n * k→(List.replicate n l).flatten[q]?=l[q % k]?
 | 0,q,h=>by omega
 | n+1,q,h=>by
  rw [List.replicate_succ,List.flatten_cons]
  by_cases hq:q<k
  ·rw [List.getElem?_append_left (by omega),Nat.mod_eq_of_lt hq]
  ·rw [List.getElem?_append_right (by omega),hl,zll l k hl hk n (q-k) (by rw [Nat.succ_mul] at h;omega)]
   congr 1
   exact (Nat.mod_eq_sub_mod (by omega)).symm
theorem zEm (z:Array Value) (k:Nat) (hz:z.size=k) (hk:0<k) (n:Nat):(madeCells z (n * k)).toList=(List.replicate n z.toList).flatten:=by
 subst hz
 apply List.ext_getElem?
 intro q
 by_cases hq:q<n * z.size
 ·rw [zll z.toList z.size (by simp) hk n q hq]
  have hm:q % z.size<z.size:=Nat.mod_lt _ hk
  simp only [madeCells,Array.toList_map,List.getElem?_map,Array.toList_range,List.getElem?_range hq,Option.map_some,Array.getElem?_toList]
  rw [Array.getElem?_eq_getElem hm,getElem!_pos z _ hm]
 ·rw [List.getElem?_eq_none (by simp [madeCells];omega),List.getElem?_eq_none (by simp;omega)]
theorem zJh (n:Nat) (hn:n≤65536) (w:World) :
  (Instr.makeSlice 46 (.int .i64 (n:Int)) (.int .i64 (n:Int))).run Tryd.prog w=.ok (.slice (some ⟨w.heap.size,0,none⟩) n n) (w.alloc (.cells ((List.replicate n fld0).flatMap zMa).toArray 118)):=by
 obtain ⟨i,h1,h2,h3,h4⟩:=info_parts Tryd.zZo
 have hr:=run_make (P:=Tryd.prog) w 46 118 i _ Tryd.underlying46 h1 h2 .i64 .i64 n n (by omega) (Int.le_refl _) (by rw [h4];omega) (by omega)
 simp only [Int.toNat_natCast,h3] at hr
 rw [hr]
 have e2:madeCells (Value.agg #[.string ⟨#[]⟩,.int .i64 0]).cells (n * 2)=((List.replicate n fld0).flatMap zMa).toArray:=by
  rw [← Array.toList_inj]
  exact (zEm #[.string ⟨#[]⟩,.int .i64 0] 2 rfl (by omega) n).trans (by rw [zLj];rfl)
 rw [e2]
def part (done:List (ByteArray × Int)) (m:Nat):List (ByteArray × Int):=done++List.replicate m fld0
theorem zJj (done:List (ByteArray × Int)) (m:Nat):(part done m).length=done.length+m:=by simp [part]
theorem zRm (done:List (ByteArray × Int)) (m:Nat) (x:ByteArray × Int):setL ((part done (m+1)).flatMap zMa) (done.length * 2) (zMa x)=(part (done++[x]) m).flatMap zMa:=by
 unfold part
 have h:(done.flatMap zMa).length=done.length * 2:=ztc zHe done
 simp only [List.flatMap_append,List.replicate_succ,List.flatMap_cons,List.flatMap_nil,List.append_nil,List.append_assoc]
 generalize done.flatMap zMa=a at h ⊢
 rw [← h]
 unfold zMa
 simp only [setL]
 rw [List.set_append_right _ _ (Nat.le_refl _),Nat.sub_self,List.set_append_right _ _ (by omega),show a.length+1-a.length=1 by omega]
 rfl
theorem zum (done:List (ByteArray × Int)) (m:Nat) (s:ByteArray) (y z:Int):((part (done++[(s,y)]) m).flatMap zMa).set (done.length * 2+1) (.int .i64 z)=(part (done++[(s,z)]) m).flatMap zMa:=by
 unfold part
 have h:(done.flatMap zMa).length=done.length * 2:=ztc zHe done
 simp only [List.flatMap_append,List.flatMap_cons,List.flatMap_nil,List.append_nil,List.append_assoc]
 generalize done.flatMap zMa=a at h ⊢
 rw [← h,List.set_append_right _ _ (by omega),show a.length+1-a.length=1 by omega]
 rfl
structure zil (w:World) (n:Nat) (p:Pt) (sv fv cv:Value) (W:World) (cs:List (ByteArray × Int)):Prop where
 b:Below n w W
 q:Blk W n (zwa p sv fv cv) 99
 r:Blk W (n+1) (cs.flatMap zMa) 118
section
variable {w W W':World} {n:Nat} {p:Pt} {sv fv cv:Value} {cs cs':List (ByteArray × Int)}
theorem zil.stay (h:zil w n p sv fv cv W cs) (hb:Below W.heap.size W W'):zil w n p sv fv cv W' cs :=
 ⟨h.b.trans (hb.mono (Nat.le_of_lt h.q.lt)),h.q.stays hb,h.r.stays hb⟩
theorem zil.set (h:zil w n p sv fv cv W cs):zil w n p sv fv cv (W.setRow (n+1) (cs'.flatMap zMa).toArray) cs' :=
 ⟨Below.row h.b (by omega) _,h.q.zla (n+1) _ (by omega),h.r.zna _⟩
end
theorem zRl {fs:List T} {srt:Int} {i:Nat} {t:T} {r:List T} (h:(zNi (fs.take i) t.text).isSome=true):zYb fs srt i (t :: r)=.error (t.place,30):=by rw [zYb,h];rfl
theorem zJl {fs:List T} {srt:Int} {i:Nat} {t:T} {r:List T} {e:Nat × Int} (h:zNi (fs.take i) t.text=none) (he:zEj fs srt t=.error e):zYb fs srt i (t :: r)=.error e:=by rw [zYb,h,he];rfl
theorem zxj {fs:List T} {srt:Int} {i:Nat} {t:T} {r:List T} {z:Int} (h:zNi (fs.take i) t.text=none) (he:zEj fs srt t=.ok z):zYb fs srt i (t :: r)=pre [(t.text,z)] (zYb fs srt (i+1) r):=by rw [zYb,h,he];rfl
theorem zCn {fs:List T} {srt:Int} {t:T} (h:t.kids.isEmpty=true):zEj fs srt t=.ok (-1):=by unfold zEj;rw [h];rfl
theorem zTm {fs:List T} {srt:Int} {t:T} (h:t.kids.isEmpty=false):zEj fs srt t=zZi fs srt t:=by unfold zEj;rw [h];rfl
def zcp (W:World) (lo:Nat) (l:List (ByteArray × Int)) (v:Value):Prop:=zii W l (fun b=>lo≤b) v
theorem zZk {W:World} {lo:Nat} {l:List (ByteArray × Int)} {g:Nat} (h:Blk W g (l.flatMap zMa) 118) (hg:lo≤g) {n:Nat} (hn:l.length=n) (hl:n≤65536):zcp W lo l (.slice (some ⟨g,0,none⟩) n n):=by
 subst hn
 refine ⟨⟨ztc zHe l,.inr ⟨g,l.length,_,rfl,Nat.zero_le _,h,Nat.le_refl _,by unfold maxLen;omega,by rw [List.size_toArray,ztc zHe],?_⟩⟩,fun b hb=>?_⟩
 ·rw [List.take_of_length_le (by rw [ztc zHe];omega)]
 ·simp only [Value.ownBlock,Option.some.injEq] at hb
  omega
theorem zZg {w:World} {p:Pt} {sv fv cv:Value} (h:zMo w p sv fv cv) (hl:p.fields.length≤4096) (srt:Int) :
  Calls Tryd.prog 36 #[PtV p sv fv cv,.int .i64 srt] w (zpc zcp w (zYb p.fields srt 0 p.fields)):=by
 have HP:=zh h
 obtain ⟨A,cap,rfl,hcap,hcm,hns⟩:=h.f
 have hmk:=zJh p.fields.length (by omega)
 have HST:=zh (show zil w w.heap.size p sv (.slice A p.fields.length cap) cv ((w.alloc (.cells (zwa p sv (.slice A p.fields.length cap) cv).toArray 99)).alloc (.cells ((List.replicate p.fields.length fld0).flatMap zMa).toArray 118)) (part [] p.fields.length) from
  ⟨((Below.refl _ _).alloc (Nat.le_refl _) _).alloc (by simp) _,(Blk.new w _ _).alloc _,Blk.zIe w _ _ _⟩)
 have HNS:=zh hns
 unfold PtV
 go_enter Tryd.func36,Tryd.ntmps36
 go_wp2_with fail
 clear hmk h hns
 go_loopw [15] (fun i wr=>∃ k:Nat,∃ m:Nat,k+m=p.fields.length∧i=.int .i64 k∧∃ done,done.length=k∧zil w w.heap.size p sv (.slice A p.fields.length cap) cv wr (part done m)∧zYb p.fields srt 0 p.fields=pre done (zYb p.fields srt k (p.fields.drop k))) (fun i _=>p.fields.length-(intOf i).toNat)
 case atStart=>exact ⟨0,_,by omega,rfl,[],rfl,HST.out,by rw [pre_nil,List.drop_zero]⟩
 case round =>
  obtain ⟨k,m,hkm,rfl,done,hdl,hst,heq⟩:=hrel
  rcases m with _|m
  ·have hke:k=p.fields.length:=by omega
   have HR:=zh (show zpc zcp w (zYb p.fields srt 0 p.fields) (.returned (.slice (some ⟨w.heap.size+1,0,none⟩) p.fields.length p.fields.length)) wr from by
    refine zpc.ok (a:=done) (by rw [heq,hke,List.drop_length];simp [zYb,pre]) ?_ hst.b
    have h1:=hst.r
    rw [show part done 0=done by simp [part]] at h1
    exact zZk h1 (by omega) (hdl.trans hke) (by omega))
   clear hst heq
   go_wp2_with fail
   go_ret
   exact HR.out
  ·have hlt:k<p.fields.length:=by omega
   obtain ⟨tk,htk⟩:∃ tk,p.fields[k]?=some tk:=⟨_,List.getElem?_eq_getElem hlt⟩
   obtain ⟨g,rfl,hgl,hget⟩:=HNS.out (by omega)
   obtain ⟨u,hr,hu⟩:=hget k tk htk
   have HR:=zh (zoa hr hst.b hgl)
   have HEQ:=zh (heq.trans (show _=pre done (zYb p.fields srt k (tk :: p.fields.drop (k+1))) by rw [List.drop_eq_getElem_cons hlt,(List.getElem?_eq_some_iff.1 htk).2]))
   obtain ⟨W1,hW1⟩:∃ W,wr.alloc (.cells (zaa tk u).toArray 25)=W:=⟨_,rfl⟩
   have HS1:=zh (show zil w w.heap.size p sv (.slice (some ⟨g,0,none⟩) p.fields.length cap) cv W1 (part done (m+1)) from hW1▸hst.stay ((Below.refl _ _).alloc (Nat.le_refl _) _))
   have HB5:=zh (show Blk W1 wr.heap.size (zaa tk u) 25 from hW1▸Blk.new wr _ _)
   have HU:Hid (∀ W,Below w.heap.size w W→KAt 25 W tk.kids (fun _=>True) u):=zh fun W hb=>hu.below hb
   have HFI:Hid (∀ W,Below w.heap.size w W→Calls Tryd.prog 53 #[.slice (some ⟨g,0,none⟩) k cap,.string tk.text] W (zVc W (zNi (p.fields.take k) tk.text))):=zh fun W hb=>by
    have:=zRj tk.text (some ⟨g,0,none⟩) cap (p.fields.take k) W ((HNS.out.below hb).take k) (by simp;omega)
    rwa [show (p.fields.take k).length=k by simp;omega] at this
   have hu1:=hu.one
   have hgn:w.heap.size+1<wr.heap.size:=hst.r.lt
   clear hget hr hu hst heq htk
   go_wp2_with (first
    | ((with_reducible refine zva 25 (.tmp 18) ?_);refine wpList_load_mid rfl 25 (.tmp 18) rfl g (k * 5) rfl (zaa tk u) _ HR.out Tryd.underlying25 rfl Tryd.zca ?_)
    | ((with_reducible refine zra 25 (.tmp 7) ?_);refine zga rfl 25 (.tmp 7) (.tmp 19) rfl (zaa tk u) (old:=zba) rfl rfl Tryd.zca rfl (zda _ _ hu1) ?_;rw [hW1]))
   clear hW1
   refine wp_region_held_drew (S:=fun W=>zil w w.heap.size p sv (.slice (some ⟨g,0,none⟩) p.fields.length cap) cv W (part done (m+1))∧Blk W wr.heap.size (zaa tk u) 25) (by kernel_rfl) ⟨HS1.out.stay (Below.refl _ _).drew,HB5.out⟩ (fun hS=>?_)
   refine wpAnyH_take (i:=0) (oi:=⟨some 20,_,_,_,_,_⟩) (v:=.pointer (some ⟨w.heap.size,5,none⟩)) rfl (by kernel_rfl) (by kernel_rfl) (by kernel_rfl) (fun _ _ _ h=>h) (Or.inl ⟨by rfl,fun W _=>by go_simp⟩) hS ?_
   try simp only [Act.put,List.setIfInBounds_toArray,List.set_cons_zero,List.set_cons_succ]
   refine wpAnyH_take (i:=1) (oi:=⟨some 21,_,_,_,_,_⟩) (v:=.slice (some ⟨g,0,none⟩) p.fields.length cap) rfl (by kernel_rfl) (by kernel_rfl) (by kernel_rfl) (fun _ _ _ h=>h) (Or.inl ⟨by rfl,fun W hW=>by have hcx:W.cell? ⟨w.heap.size,5,none⟩=some (.slice (some ⟨g,0,none⟩) p.fields.length cap):=hW.1.q.cell 5;go_simp⟩) hS ?_
   try simp only [Act.put,List.setIfInBounds_toArray,List.set_cons_zero,List.set_cons_succ]
   refine wpAnyH_take (i:=2) (oi:=⟨some 22,_,_,_,_,_⟩) (v:=.int .i64 k) rfl (by kernel_rfl) (by kernel_rfl) (by kernel_rfl) (fun _ _ _ h=>h) (Or.inl ⟨by rfl,fun W _=>by go_simp⟩) hS ?_
   try simp only [Act.put,List.setIfInBounds_toArray,List.set_cons_zero,List.set_cons_succ]
   refine wpAnyH_take (i:=3) (oi:=⟨some 23,_,_,_,_,_⟩) (v:=.slice (some ⟨g,0,none⟩) k cap) rfl (by kernel_rfl) (by kernel_rfl) (by kernel_rfl) (fun _ _ _ h=>h) (Or.inl ⟨by rfl,fun W _=>by go_simp;intro h;omega⟩) hS ?_
   try simp only [Act.put,List.setIfInBounds_toArray,List.set_cons_zero,List.set_cons_succ]
   refine wpAnyH_take (i:=4) (oi:=⟨some 24,_,_,_,_,_⟩) (v:=.pointer (some ⟨wr.heap.size,1,none⟩)) rfl (by kernel_rfl) (by kernel_rfl) (by kernel_rfl) (fun _ _ _ h=>h) (Or.inl ⟨by rfl,fun W _=>by go_simp⟩) hS ?_
   try simp only [Act.put,List.setIfInBounds_toArray,List.set_cons_zero,List.set_cons_succ]
   refine wpAnyH_take (i:=5) (oi:=⟨some 25,_,_,_,_,_⟩) (v:=.string tk.text) rfl (by kernel_rfl) (by kernel_rfl) (by kernel_rfl) (fun _ _ _ h=>h) (Or.inl ⟨by rfl,fun W hW=>by have hcx:W.cell? ⟨wr.heap.size,1,none⟩=some (.string tk.text):=hW.2.cell 1;go_simp⟩) hS ?_
   try simp only [Act.put,List.setIfInBounds_toArray,List.set_cons_zero,List.set_cons_succ]
   refine AnyH.only (i:=6) (o:=⟨some 26,_,_,_,_,_⟩) (by kernel_rfl) rfl (by rfl) (fun K hK=>?_)
   go_simp
   refine (HFI.out _ hS.1.b).mono ?_
   rintro e w2 ⟨rfl,hb⟩
   have HS2:=zh (hS.1.stay hb)
   have HB2:=zh (hS.2.stays hb)
   refine hK.out _ _ ⟨HS2.out,HB2.out⟩ ?_
   clear hK K hS hb
   try simp only [Act.put,List.setIfInBounds_toArray,List.set_cons_zero,List.set_cons_succ]
   have d0:w2.cell? ⟨wr.heap.size,0,none⟩=some (.int .i64 tk.kind):=HB2.out.cell 0
   have d1:w2.cell? ⟨wr.heap.size,1,none⟩=some (.string tk.text):=HB2.out.cell 1
   have d2:w2.cell? ⟨wr.heap.size,2,none⟩=some (.int .i64 tk.num):=HB2.out.cell 2
   have d3:w2.cell? ⟨wr.heap.size,3,none⟩=some (.int .i64 tk.place):=HB2.out.cell 3
   have d4:w2.cell? ⟨wr.heap.size,4,none⟩=some u:=HB2.out.cell 4
   cases hf:zNi (p.fields.take k) tk.text with
   | some j =>
    have HRes:=zh (show zYb p.fields srt 0 p.fields=.error (tk.place,30) from HEQ.out.trans (by rw [zRl (by rw [hf];rfl)];rfl))
    have hne:((j:Int) != -1)=true:=by simp
    simp only [oi]
    refine wpAnyH_take (i:=7) (oi:=⟨some 27,_,_,_,_,_⟩) (v:=.bool true) rfl (by kernel_rfl) (by kernel_rfl) (by kernel_rfl) (fun _ _ _ h=>h) (Or.inl ⟨by rfl,fun W _=>by go_simp⟩) ⟨HS2.out,HB2.out⟩ ?_
    try simp only [Act.put,List.setIfInBounds_toArray,List.set_cons_zero,List.set_cons_succ]
    refine wpAnyH_done (by kernel_rfl) ?_ _
    have HFA:=zh (zyb tk u 30 w2)
    unfold zma at HFA
    go_wp2_with fail
    refine HFA.out.mono ?_
    rintro e w3 ⟨rfl,hb⟩
    go_wp2_with fail
    exact ⟨rfl,zpc.err HRes.out (HS2.out.b.trans (hb.mono HS2.out.b.size))⟩
   | none =>
    simp only [oi]
    refine wpAnyH_take (i:=7) (oi:=⟨some 27,_,_,_,_,_⟩) (v:=.bool false) rfl (by kernel_rfl) (by kernel_rfl) (by kernel_rfl) (fun _ _ _ h=>h) (Or.inl ⟨by rfl,fun W _=>by go_simp⟩) ⟨HS2.out,HB2.out⟩ ?_
    try simp only [Act.put,List.setIfInBounds_toArray,List.set_cons_zero,List.set_cons_succ]
    refine wpAnyH_done (by kernel_rfl) ?_ _
    have HF:=zh hf
    clear hf
    have hsr:(part done (m+1)).flatMap zMa=(part done (m+1)).flatMap zMa:=rfl
    have HSC:=zh (zCc (zMa (tk.text,-1)) (k * 2) w2 _ HS2.out.r)
    have HS3:=zh (HS2.out.set (cs':=part (done++[(tk.text,-1)]) m))
    have HE3:=zh (show w2.setCells (w.heap.size+1) (k * 2) (zMa (tk.text,-1))=w2.setRow (w.heap.size+1) ((part (done++[(tk.text,-1)]) m).flatMap zMa).toArray from by rw [HSC.out,← hdl,zRm])
    have HTH:=zh (HS2.out.r.there (k * 2) 2 (by rw [ztc zHe,zJj];omega))
    obtain ⟨W3,hW3⟩:∃ W,w2.setRow (w.heap.size+1) ((part (done++[(tk.text,-1)]) m).flatMap zMa).toArray=W:=⟨_,rfl⟩
    rw [hW3] at HS3 HE3
    have HB3:=zh (show Blk W3 wr.heap.size (zaa tk u) 25 from hW3▸HB2.out.zla _ _ (by omega))
    have HU3:=zh (HU.out _ HS3.out.b)
    have e0:W3.cell? ⟨wr.heap.size,0,none⟩=some (.int .i64 tk.kind):=HB3.out.cell 0
    have e1:W3.cell? ⟨wr.heap.size,1,none⟩=some (.string tk.text):=HB3.out.cell 1
    have e2:W3.cell? ⟨wr.heap.size,2,none⟩=some (.int .i64 tk.num):=HB3.out.cell 2
    have e3:W3.cell? ⟨wr.heap.size,3,none⟩=some (.int .i64 tk.place):=HB3.out.cell 3
    have e4:W3.cell? ⟨wr.heap.size,4,none⟩=some u:=HB3.out.cell 4
    have HIA:=zh (zcg (t:=tk) HU3.out)
    unfold zma at HIA
    go_wp2_with (first
     | ((with_reducible refine zra 118 (.tmp 35) ?_);(refine wpList_store_mid rfl 118 (.tmp 35) (.tmp 34) rfl (w.heap.size+1) (k * 2) (zMa (tk.text,-1)).toArray rfl rfl HTH.out Tryd.zmo (by simp [zMa,Value.oneCell']) ?_;rw [List.toList_toArray,HE3.out])))
    refine HIA.out.mono ?_
    rintro e w4 ⟨rfl,hb⟩
    have HS4:=zh (HS3.out.stay hb)
    have HB4:=zh (HB3.out.stays hb)
    clear hb HIA e0 e1 e2 e3 e4 d0 d1 d2 d3 d4 hW3
    cases hq:tk.kids.isEmpty
    ·have HFP:=zh (zTm (fs:=p.fields) (srt:=srt) hq)
     have HSZ:=zh (zQk (p:=p) (sv:=sv) (cv:=cv) (HP.out.below HS4.out.b).f (t:=tk) (HU.out _ HS4.out.b) srt)
     unfold PtV zma at HSZ
     have hq4:=HS4.out.q
     have hb4:=HB4.out
     go_wp2_with (first
      | ((with_reducible refine zva 99 (.tmp 2) ?_);refine zfa rfl 99 (.tmp 2) rfl w.heap.size (zwa p sv (.slice (some ⟨g,0,none⟩) p.fields.length cap) cv) rfl hq4 Tryd.underlying99 rfl Tryd.zxb ?_)
      | ((with_reducible refine zva 25 (.tmp 7) ?_);refine zfa rfl 25 (.tmp 7) rfl wr.heap.size (zaa tk u) rfl hb4 Tryd.underlying25 rfl Tryd.zca ?_))
     refine HSZ.out.mono ?_
     clear HSZ hq4 hb4
     intro e w5 hp
     cases hz:zZi p.fields srt tk with
     | error pc =>
      obtain ⟨q,c⟩:=pc
      rw [hz] at hp
      obtain ⟨rfl,hb⟩:=hp
      have HRes:=zh (show zYb p.fields srt 0 p.fields=.error (q,c) from HEQ.out.trans (by rw [zJl HF.out (HFP.out.trans hz)];rfl))
      clear hz
      go_wp2_with fail
      exact ⟨rfl,zpc.err HRes.out (HS4.out.b.trans (hb.mono HS4.out.b.size))⟩
     | ok z =>
      rw [hz] at hp
      obtain ⟨v,rfl,rfl,hb⟩:=hp
      have HS5:=zh (HS4.out.stay hb)
      have HN:=zh (show zYb p.fields srt 0 p.fields=pre (done++[(tk.text,z)]) (zYb p.fields srt (k+1) (p.fields.drop (k+1))) from HEQ.out.trans (by rw [zxj HF.out (HFP.out.trans hz),zmj]))
      have HS6:=zh (show zil w w.heap.size p sv (.slice (some ⟨g,0,none⟩) p.fields.length cap) cv (w5.setCell ⟨w.heap.size+1,k * 2+1,none⟩ (.int .i64 z)) (part (done++[(tk.text,z)]) m) from by
       rw [setCell_eq_setRow w5 (w.heap.size+1) (k * 2+1) _ _ (0,0) (.int .i64 z) HS5.out.r,List.setIfInBounds_toArray,← hdl,zum]
       exact HS5.out.set)
      have hth:=HS5.out.r.there (k * 2+1) 1 (by rw [ztc zHe,zJj];simp;omega) 0 (by omega)
      have hth1:(w5.cell? ⟨w.heap.size+1,k * 2+1,none⟩).isSome=true:=hth.1
      have hth2:w5.frozen? ⟨w.heap.size+1,k * 2+1,none⟩=false:=hth.2
      obtain ⟨x,hx⟩:=Option.isSome_iff_exists.1 hth1
      clear hz hb hth hth1
      go_wp2
      go_roundw
      case rel=>exact ⟨k+1,m,by omega,by go_num,done++[(tk.text,z)],by simp [hdl],HS6.out,HN.out⟩
      case measure=>simp [intOf];omega
    ·have HN:=zh (show zYb p.fields srt 0 p.fields=pre (done++[(tk.text,-1)]) (zYb p.fields srt (k+1) (p.fields.drop (k+1))) from HEQ.out.trans (by rw [zxj HF.out (zCn hq),zmj]))
     go_wp2_with fail
     go_roundw
     case rel=>exact ⟨k+1,m,by omega,by go_num,done++[(tk.text,-1)],by simp [hdl],HS4.out,HN.out⟩
     case measure=>simp [intOf];omega
end
section
open Go.RowKit Go.Maps
structure zOi (w:World) (B R M:Nat) (tys:List Ty) (tv:Value):Prop where
 l:Blk w R [tv,.map (some M)] 84
 t:zZb w tys (fun b=>B≤b∧b≠R∧b≠M) tv
 m:MapAt w M tys
 lo:B≤R∧B≤M
 ne:R≠M
theorem zOi.below {w w':World} {B R M:Nat} {tys:List Ty} {tv:Value} (h:zOi w B R M tys tv) (hb:Below w.heap.size w w'):zOi w' B R M tys tv:=⟨h.l.stays hb,h.t.below hb,h.m.below hb,h.lo,h.ne⟩
theorem zwf {w:World} {g:Nat} {p:Pt} {sv fv cv:Value} (h:Blk w g (zwa p sv fv cv) 99):w.rangeAt g 0 (zaa p.sort sv):=fun j v hj=>by
 rw [Nat.zero_add,h.cell j]
 match j,hj with
 | 0,hj|1,hj|2,hj|3,hj|4,hj=>exact hj
 | j+5,hj=>simp [zaa] at hj
theorem ztm {tys:List Ty} {p:Pt} {srt:Int} (hs:(srt == 2 || srt == 3)=true):ofP tys p srt=match zUf p.fields (zza p.sort 0).text with|none=>.error (p.sort.place,32)|some i=>.ok (i:Int):=by unfold ofP;rw [hs];rfl
theorem zxn {tys:List Ty} {p:Pt} {srt:Int} (hs:(srt == 2 || srt == 3)=false) (h4:(srt == 4)=false):ofP tys p srt=.ok 0:=by unfold ofP;rw [hs,h4];rfl
theorem zul {tys:List Ty} {p:Pt}:ofP tys p 4=match zDd tys (zza p.sort 0).text with
  | none=>.error (p.sort.place,31)
  | some k=>bif (tys[k]?.map (·.sort)).getD 0 != 3 then .error (p.sort.place,31) else bif !p.fields.isEmpty || !p.facts.isEmpty then .error (p.sort.place,32) else .ok (k:Int):=rfl
theorem zVp {w:World} {B R M:Nat} {tys:List Ty} {tv:Value} (hr:zOi w B R M tys tv) {p:Pt} {sv fv cv:Value} (h:zMo w p sv fv cv) (hz:(zza p.sort 0).text.size≤maxLen) (srt:Int) :
  Calls Tryd.prog 37 #[.pointer (some ⟨R,0,none⟩),PtV p sv fv cv,.int .i64 srt] w (zpc VInt w (ofP tys p srt)):=by
 have HP:=zh h
 have HRD:=zh hr
 obtain ⟨A,cap,rfl,hcap,hcm,_⟩:=h.f
 obtain ⟨A2,cap2,rfl,hcap2,hcm2,_⟩:=h.c
 obtain ⟨W0,hW0⟩:∃ W,w.alloc (.cells (zwa p sv (.slice A p.fields.length cap) (.slice A2 p.facts.length cap2)).toArray 99)=W:=⟨_,rfl⟩
 have HB0:=zh (show Below w.heap.size w W0 from hW0▸(Below.refl _ _).alloc (Nat.le_refl _) _)
 have HQ:=zh (show Blk W0 w.heap.size (zwa p sv (.slice A p.fields.length cap) (.slice A2 p.facts.length cap2)) 99 from hW0▸Blk.new w _ _)
 have HFR:=zh (zwf HQ.out)
 have hfn:=zDh
 have HKN:=zh (zSa (t:=p.sort) (h.s.below HB0.out) 0)
 unfold zwa at hW0
 unfold PtV
 clear h hr
 go_enter Tryd.func37,Tryd.ntmps37
 go_wp2_with ((with_reducible refine zva 25 (.tmp 11) ?_);refine wpList_load_mid rfl 25 (.tmp 11) rfl w.heap.size 0 rfl (zaa p.sort sv) _ HFR.out Tryd.underlying25 rfl Tryd.zca ?_)
 try rw [hW0]
 clear hW0
 refine HKN.out.mono ?_
 rintro e w1 ⟨u,rfl,_,hb⟩
 have HB1:=zh (HB0.out.trans (hb.mono HB0.out.size))
 have HQ1:=zh (HQ.out.stays hb)
 have HR1:=zh (HRD.out.below HB1.out)
 clear hb HFR HKN HB0 HQ
 unfold zma
 go_upto_region 2 with fail
 have q4:=HQ1.out
 have p5:w1.cell? ⟨w.heap.size,5,none⟩=some (.slice A p.fields.length cap):=q4.cell 5
 have p6:w1.cell? ⟨w.heap.size,6,none⟩=some (.slice A2 p.facts.length cap2):=q4.cell 6
 cases hs:srt == 2 || srt == 3
 ·cases h4:srt == 4
  ·obtain ⟨hs2,hs3⟩:=Bool.or_eq_false_iff.1 hs
   have HR:=zh (zxn (tys:=tys) (p:=p) hs h4)
   go_wp2_with fail
   go_ret
   exact zpc.ok HR.out rfl HB1.out
  ·obtain rfl:srt=4:=beq_iff_eq.1 h4
   have HG:=zh (zul (tys:=tys) (p:=p))
   obtain ⟨c,hc,hlk⟩:=HR1.out.m.look hz
   replace hlk:=hlk w1 rfl
   have l0:w1.cell? ⟨R,0,none⟩=some tv:=HR1.out.l.cell 0
   have l1:w1.cell? ⟨R,1,none⟩=some (.map (some M)):=HR1.out.l.cell 1
   clear hs h4
   cases hf:zDd tys (zza p.sort 0).text with
   | none =>
    rw [hf] at hlk
    have HR:=zh (HG.out.trans (by rw [hf]))
    have HFA:=zh (zyb p.sort sv 31 w1)
    unfold zma at HFA
    have hfr:=zwf q4
    go_wp2_with ((with_reducible refine zva 25 (.tmp 52) ?_);refine wpList_load_mid rfl 25 (.tmp 52) rfl w.heap.size 0 rfl (zaa p.sort sv) _ hfr Tryd.underlying25 rfl Tryd.zca ?_)
    refine HFA.out.mono ?_
    rintro e w3 ⟨rfl,hb⟩
    go_wp2_with fail
    exact ⟨rfl,zpc.err HR.out (HB1.out.trans (hb.mono HB1.out.size))⟩
   | some k =>
    rw [hf] at hlk
    obtain rfl:=hc k hf
    have hkl:=zMg hf
    obtain ⟨g2,cp2,rfl,hg2,hcp2,hcm3,hget⟩:=(HR1.out.t.form).resolve_left fun h=>by rw [h.2] at hkl;simp at hkl
    obtain ⟨ty,hty⟩:∃ ty,tys[k]?=some ty:=⟨_,List.getElem?_eq_getElem hkl⟩
    obtain ⟨pv,lv,hra,_⟩:=hget k ty hty
    have e1:w1.cell? ⟨g2,k * 5+1,none⟩=some (.int .i64 ty.sort):=hra 1 _ rfl
    have hk1:(k:Int)<(tys.length:Int):=by omega
    have HR0:=zh (HG.out.trans (show _=(bif ty.sort != 3 then .error (p.sort.place,31) else bif !p.fields.isEmpty || !p.facts.isEmpty then .error (p.sort.place,32) else .ok (k:Int):E Int) by rw [hf];simp only [hty,Option.map_some,Option.getD_some]))
    clear hget hra hty hf
    unfold maxLen at hcm3
    generalize ty.sort=so at e1 HR0
    cases hso:so != 3
    ·rw [hso] at HR0
     have HL1:=zh (zDe p.fields)
     have HL2:=zh (zDe p.facts)
     generalize p.fields.length=nf at *
     generalize p.facts.length=nc at *
     cases hl1:decide ((0:Int)<(nf:Int))
     ·have hl1':decide (0<nf)=false:=by simpa using hl1
      cases hl2:decide ((0:Int)<(nc:Int))
      ·have hl2':decide (0<nc)=false:=by simpa using hl2
       have HR:=zh (HR0.out.trans (by rw [HL1.out,HL2.out,hl1,hl2];try rfl))
       go_wp2_with fail
       go_ret
       exact zpc.ok HR.out rfl HB1.out
      ·have hl2':decide (0<nc)=true:=by simpa using hl2
       have HR:=zh (HR0.out.trans (by rw [HL1.out,HL2.out,hl1,hl2];try rfl))
       have HFA:=zh (zyb p.sort sv 32 w1)
       unfold zma at HFA
       have hfr:=zwf q4
       go_wp2_with ((with_reducible refine zva 25 (.tmp 65) ?_);refine wpList_load_mid rfl 25 (.tmp 65) rfl w.heap.size 0 rfl (zaa p.sort sv) _ hfr Tryd.underlying25 rfl Tryd.zca ?_)
       refine HFA.out.mono ?_
       rintro e w3 ⟨rfl,hb⟩
       go_wp2_with fail
       exact ⟨rfl,zpc.err HR.out (HB1.out.trans (hb.mono HB1.out.size))⟩
     ·have hl1':decide (0<nf)=true:=by simpa using hl1
      have HR:=zh (HR0.out.trans (by rw [HL1.out,hl1];try rfl))
      have HFA:=zh (zyb p.sort sv 32 w1)
      unfold zma at HFA
      have hfr:=zwf q4
      go_wp2_with ((with_reducible refine zva 25 (.tmp 65) ?_);refine wpList_load_mid rfl 25 (.tmp 65) rfl w.heap.size 0 rfl (zaa p.sort sv) _ hfr Tryd.underlying25 rfl Tryd.zca ?_)
      refine HFA.out.mono ?_
      rintro e w3 ⟨rfl,hb⟩
      go_wp2_with fail
      exact ⟨rfl,zpc.err HR.out (HB1.out.trans (hb.mono HB1.out.size))⟩
    ·rw [hso] at HR0
     have HR:=zh (HR0.out.trans (by rfl))
     have HFA:=zh (zyb p.sort sv 31 w1)
     unfold zma at HFA
     have hfr:=zwf q4
     go_wp2_with ((with_reducible refine zva 25 (.tmp 52) ?_);refine wpList_load_mid rfl 25 (.tmp 52) rfl w.heap.size 0 rfl (zaa p.sort sv) _ hfr Tryd.underlying25 rfl Tryd.zca ?_)
     refine HFA.out.mono ?_
     rintro e w3 ⟨rfl,hb⟩
     go_wp2_with fail
     exact ⟨rfl,zpc.err HR.out (HB1.out.trans (hb.mono HB1.out.size))⟩
 ·have HOF:=zh (ztm (tys:=tys) (p:=p) hs)
  have HNU:=zh (zSh (p:=p) (sv:=sv) (cv:=.slice A2 p.facts.length cap2) (HP.out.below HB1.out).f (zza p.sort 0).text)
  unfold PtV at HNU
  have hsw:(srt == 2)=true∨((srt == 2)=false∧(srt == 3)=true):=by
   cases h2:srt == 2
   ·rw [h2] at hs;exact .inr ⟨rfl,by simpa using hs⟩
   ·exact .inl rfl
  rcases hsw with h2|⟨h2,h3⟩
  all_goals
   go_wp2_with ((with_reducible refine zva 99 (.tmp 4) ?_);refine zfa rfl 99 (.tmp 4) rfl w.heap.size (zwa p sv (.slice A p.fields.length cap) (.slice A2 p.facts.length cap2)) rfl q4 Tryd.underlying99 rfl Tryd.zxb ?_)
   refine HNU.out.mono ?_
   rintro e w2 ⟨rfl,hb⟩
   have HB2:=zh (HB1.out.trans (hb.mono HB1.out.size))
   have q5:=HQ1.out.stays hb
   have hfr:=zwf q5
   clear hb
   cases hn:zUf p.fields (zza p.sort 0).text with
   | none =>
    have HR:=zh (HOF.out.trans (by rw [hn]))
    have HFA:=zh (zyb p.sort sv 32 w2)
    unfold zma at HFA
    simp only [oi]
    go_wp2_with ((with_reducible refine zva 25 (.tmp 24) ?_);refine wpList_load_mid rfl 25 (.tmp 24) rfl w.heap.size 0 rfl (zaa p.sort sv) _ hfr Tryd.underlying25 rfl Tryd.zca ?_)
    refine HFA.out.mono ?_
    rintro e w3 ⟨rfl,hb⟩
    go_wp2_with fail
    exact ⟨rfl,zpc.err HR.out (HB2.out.trans (hb.mono HB2.out.size))⟩
   | some k =>
    have HR:=zh (HOF.out.trans (by rw [hn]))
    have hne:((k:Int) == -1)=false:=by simp
    simp only [oi]
    go_wp2_with fail
    go_ret
    exact zpc.ok HR.out rfl HB2.out
end
end Go.Proofs.YtdhmdfhnkppnmaaDoor
