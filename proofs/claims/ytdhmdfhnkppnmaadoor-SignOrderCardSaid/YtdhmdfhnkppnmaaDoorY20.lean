/- The contract of the reader's add. -/
import Derived.Test.YtdhmdfhnkppnmaaDoorY19
namespace Go.Proofs.YtdhmdfhnkppnmaaDoor
set_option maxRecDepth 100000
set_option maxHeartbeats 4000000
open Go.RowKit Go.Maps
theorem zQf {H:Type} {P:Program} (w:World) {o:Oper} {a:Act} {K':Act→World→Prop} {Q:Exit→Act→World→Prop}
  (m x v:Operand) (t:TypeId) (hop:o.op=Op.mapUpdate t m x v)
  (k e:TypeId) (K:Keyed P k) (ht:P.underlying t=some (.map k e)) (R:Value→Option (DataW H × List MemPlace)) (b n:Nat) (D:DataW H)
  (hm:a.eval m=.map (some b)) (hown:w.ownsMap P k R b n D) (hn:n<maxLen) (key val:Value) (kl:Lit) (hx:a.eval x=key) (hv:a.eval v=val) (hkey:keyOf P k key=some kl)
  (d:DataW H) (ps:List MemPlace) (hval:R val=some (d,ps))
  (hK:∀ w',w'.ownsMap P k R b (n+1) (D.put kl d)→w.grownBy w' (some b)→K' (a.put o.dst undef) w'):o.wp P a w K' Q:=by
 obtain ⟨w',hrun,r1,r2⟩:=hown.update K ht hn hkey hval
 unfold Oper.wp
 simp [execOp,hop,hm,hx,hv,hrun,Result.andThen]
 exact hK w' r1 r2
theorem Tryd.zKo:∃ i z,zBe Tryd.prog 30 49 5 80 i z:=by
 have h:(Tryd.prog.info? 49).map (fun i=>(i.zero,i.size,i.bytes))=some (some (.agg #[.string ⟨#[]⟩,.int .i64 0,.int .i64 0,.slice none 0 0,.slice none 0 0]),5,80):=by kernel_rfl
 obtain ⟨i0,hi,hz0,hz1,hz2⟩:=info_parts h
 exact ⟨i0,_,Tryd.underlying30,hi,hz0,hz1,hz2,rfl⟩
theorem zOi.drew {w:World} {B R M:Nat} {tys:List Ty} {tv:Value} (h:zOi w B R M tys tv):zOi w.drew B R M tys tv:=h.below (Below.refl _ _).drew
def zmc:List Value:=[.string ⟨#[]⟩,.int .i64 0,.int .i64 0,.slice none 0 0,.slice none 0 0]
theorem zFl (s:ByteArray) (n:Int):∀ u∈[Value.string s,.int .i64 n,.int .i64 0,.slice none 0 0,.slice none 0 0],u.oneCell'=true:=by
 intro u hu
 simp only [List.mem_cons,List.not_mem_nil,or_false] at hu
 rcases hu with rfl|rfl|rfl|rfl|rfl<;>rfl
theorem zmk {tys:List Ty} {n:T} (h:(zDd tys n.text).isSome=true):zGh tys n=.error (n.place,30):=by unfold zGh;rw [h];rfl
theorem zDm {tys:List Ty} {n:T} (h:zDd tys n.text=none) (hm:8<(zAb n.kids).fields.length):zGh tys n=.error (n.place,22):=by unfold zGh;rw [h];simp [hm]
theorem zko {tys:List Ty} {n:T} (h:zDd tys n.text=none) (hm:¬ 8<(zAb n.kids).fields.length):zGh tys n=match zYb (zAb n.kids).fields (znb (zAb n.kids).sort.text) 0 (zAb n.kids).fields with
  | .error e=>.error e
  | .ok fl=>match ofP tys (zAb n.kids) (znb (zAb n.kids).sort.text) with
   | .error e=>.error e
   | .ok o=>match zEb (zAb n.kids).fields (znb (zAb n.kids).sort.text) o (zAb n.kids).facts with
    | .error e=>.error e
    | .ok fc=>.ok ⟨n.text,znb (zAb n.kids).sort.text,o,fl,fc⟩:=by unfold zGh;rw [h,decide_eq_false hm];rfl
def zUc (w:World) (B R M:Nat) (tys:List Ty) (r:E Ty) (e:Ending) (w':World):Prop :=
 match r with
 | .ok x=>e=.returned (.tuple #[])∧(∃ tv',zOi w' B R M (tys++[x]) tv')∧Below B w w'
 | .error (p,c)=>e=.panicked [{ v:=sfV p c,recovered:=false }]∧Below B w w'
theorem zUc.err {w w':World} {B R M:Nat} {tys:List Ty} {r:E Ty} {p:Nat} {c:Int} (hr:r=.error (p,c)) (h:Below B w w'):zUc w B R M tys r (.panicked [{ v:=sfV p c,recovered:=false }]) w':=by rw [hr];exact ⟨rfl,h⟩
theorem zUc.ok {w w':World} {B R M:Nat} {tys:List Ty} {r:E Ty} {x:Ty} {tv':Value} (hr:r=.ok x) (hs:zOi w' B R M (tys++[x]) tv') (h:Below B w w'):zUc w B R M tys r (.returned (.tuple #[])) w':=by rw [hr];exact ⟨rfl,⟨_,hs⟩,h⟩
theorem zWd {B:Nat} {a w:World} (h:Below B a w) (n:Nat):Below B a (w.drewN n):=⟨h.os,h.tape,h.output,h.size,h.block⟩
theorem zdh (k:Int) (l:List T):(l.filter (fun t=>t.kind == k)).length≤l.length:=List.length_filter_le _ _
theorem zhj {w:World} {B R M:Nat} {tys:List Ty} {tv:Value} (hr:zOi w B R M tys tv) {t:T} {S:Nat→Prop} {kv:Value} (hk:KAt 25 w t.kids S kv) (hl:t.kids.length≤4096) (htl:tys.length≤4096) (hz:t.text.size≤maxLen) (hz2:(zza (zAb t.kids).sort 0).text.size≤maxLen) :
  Calls Tryd.prog 21 #[.pointer (some ⟨R,0,none⟩),zma t kv] w (zUc w B R M tys (zGh tys t)):=by
 have hBw:B≤w.heap.size:=by have:=hr.m.lt;have:=hr.lo;omega
 have HRD:=zh hr
 have HKV:=zh hk
 obtain ⟨W0,hW0⟩:∃ W,w.alloc (.cells (zaa t kv).toArray 25)=W:=⟨_,rfl⟩
 have HB0:=zh (show Below w.heap.size w W0 from hW0▸(Below.refl _ _).alloc (Nat.le_refl _) _)
 have HK0:=zh (show Blk W0 w.heap.size (zaa t kv) 25 from hW0▸Blk.new w _ _)
 have HR0:=zh (hr.below HB0.out)
 obtain ⟨c,hc,hrun⟩:=HR0.out.m.look hz
 have hlk:∀ q,(Instr.lookup 43 (.map (some M)) (.string t.text) true).run Tryd.prog (W0.drewN q)=.ok (.tuple #[.int .i64 c,.bool (zDd tys t.text).isSome]) (W0.drewN q):=fun q=>hrun _ rfl
 have n1:W0.cell? ⟨w.heap.size,1,none⟩=some (.string t.text):=HK0.out.cell 1
 have l1:W0.cell? ⟨R,1,none⟩=some (.map (some M)):=HR0.out.l.cell 1
 unfold zaa at hW0
 unfold zma
 clear hrun hc hr hk
 go_enter Tryd.func21,Tryd.ntmps21
 go_upto_region 1 with fail
 try rw [hW0]
 clear hW0
 cases hf:zDd tys t.text with
 | some q =>
  rw [hf] at hlk
  have HRes:=zh (zmk (tys:=tys) (n:=t) (by rw [hf];rfl))
  go_quiet (fail)
  have HK8:=zh (show Blk (W0.drewN nq) w.heap.size (zaa t kv) 25 from HK0.out)
  have HB8:=zh (zWd HB0.out nq)
  clear hlk n1 l1
  generalize W0.drewN nq=W1 at *
  have HFL:=zh (zyb t kv 30 W1)
  unfold zma at HFL
  have hk8:=HK8.out
  go_wp2_with ((with_reducible refine zva 25 (.tmp 3) ?_);refine zfa rfl 25 (.tmp 3) rfl w.heap.size (zaa t kv) rfl hk8 Tryd.underlying25 rfl Tryd.zca ?_)
  refine HFL.out.mono ?_
  rintro e w5 ⟨rfl,hb⟩
  go_wp2_with fail
  exact ⟨rfl,zUc.err HRes.out ((HB8.out.trans (hb.mono HB8.out.size)).mono hBw)⟩
 | none =>
  rw [hf] at hlk
  go_quiet (fail)
  have HK8:=zh (show Blk (W0.drewN nq) w.heap.size (zaa t kv) 25 from HK0.out)
  have HB8:=zh (zWd HB0.out nq)
  clear hlk n1 l1 HK0 HB0 HR0
  generalize W0.drewN nq=W1 at *
  have HPO:=zh (zgj (HKV.out.below HB8.out) hl)
  unfold zma at HPO
  have hk8:=HK8.out
  go_wp2_with ((with_reducible refine zva 25 (.tmp 3) ?_);refine zfa rfl 25 (.tmp 3) rfl w.heap.size (zaa t kv) rfl hk8 Tryd.underlying25 rfl Tryd.zca ?_)
  refine HPO.out.mono ?_
  have HG:=zh (@zko tys t hf)
  have HM:=zh (@zDm tys t hf)
  have hfl:(zAb t.kids).fields.length≤4096:=Nat.le_trans (zdh _ _) hl
  have hcl:(zAb t.kids).facts.length≤4096:=Nat.le_trans (zdh _ _) hl
  clear HPO hk8
  generalize zAb t.kids=p at *
  rintro e w2 ⟨sv,fv,cv,rfl,hpa,hb⟩
  obtain ⟨fa,fc,rfl,hfc,hfm,hns⟩:=hpa.f
  have HPA0:=zh hpa
  have HB2:=zh (HB8.out.trans (hb.mono HB8.out.size))
  have HK2:=zh (HK8.out.stays hb)
  obtain ⟨w6,hw6⟩:∃ W,w2.alloc (.cells (zwa p sv (.slice fa p.fields.length fc) cv).toArray 99)=W:=⟨_,rfl⟩
  have hb26:Below w2.heap.size w2 w6:=hw6▸(Below.refl _ _).alloc (Nat.le_refl _) _
  have HB6:=zh (HB2.out.trans (hb26.mono HB2.out.size))
  have HK6:=zh (HK2.out.stays hb26)
  have HQ6:=zh (show Blk w6 w2.heap.size (zwa p sv (.slice fa p.fields.length fc) cv) 99 from hw6▸Blk.new w2 _ _)
  have HPA:=zh (hpa.below hb26)
  have hg6:w.heap.size<w2.heap.size:=HK2.out.lt
  have p5:w6.cell? ⟨w2.heap.size,5,none⟩=some (.slice fa p.fields.length fc):=HQ6.out.cell 5
  have hone:∀ y∈zwa p sv (.slice fa p.fields.length fc) cv,y.oneCell'=true:=by
   intro y hy
   simp only [zwa,List.mem_cons,List.not_mem_nil,or_false] at hy
   rcases hy with rfl|rfl|rfl|rfl|rfl|rfl|rfl
   all_goals first|rfl|exact hpa.s.one|(obtain ⟨_,_,rfl,_⟩:=hpa.c;rfl)
  have HONE:=zh hone
  clear hb hb26 hpa hns hone HB8 HK8
  by_cases hm:8<p.fields.length
  ·have HRes:=zh (HM.out hm)
   have hmi:(8:Int)<(p.fields.length:Int):=by omega
   have HFL:=zh (zyb t kv 22 w6)
   unfold zma at HFL
   have hk6:=HK6.out
   go_wp2_with (first
    | ((with_reducible refine zra 99 (.tmp 6) ?_);refine zga rfl 99 (.tmp 6) (.tmp 22) rfl (zwa p sv (.slice fa p.fields.length fc) cv) (old:=zob) rfl rfl Tryd.zxb rfl HONE.out ?_;rw [hw6])
    | ((with_reducible refine zva 25 (.tmp 3) ?_);refine zfa rfl 25 (.tmp 3) rfl w.heap.size (zaa t kv) rfl hk6 Tryd.underlying25 rfl Tryd.zca ?_))
   refine HFL.out.mono ?_
   rintro e w5 ⟨rfl,hb⟩
   go_wp2_with fail
   exact ⟨rfl,zUc.err HRes.out ((HB6.out.trans (hb.mono HB6.out.size)).mono hBw)⟩
  ·have hmi:¬ (8:Int)<(p.fields.length:Int):=by omega
   have HGO:=zh (HG.out hm)
   clear HG HM
   go_upto_region 7 with (first
    | ((with_reducible refine zra 99 (.tmp 6) ?_);refine zga rfl 99 (.tmp 6) (.tmp 22) rfl (zwa p sv (.slice fa p.fields.length fc) cv) (old:=zob) rfl rfl Tryd.zxb rfl HONE.out ?_;rw [hw6]))
   clear hw6 p5 HONE HPA0 HB2 HK2
   try simp only [Act.put]
   generalize w2.heap.size=g6 at *
   generalize Value.slice fa p.fields.length fc=fv at *
   go_cut [7] (fun x W=>∃ g7,x=.pointer (some ⟨g7,0,none⟩)∧w6.heap.size≤g7∧Below w6.heap.size w6 W∧Blk W g7 [.string t.text,.int .i64 (znb p.sort.text),.int .i64 0,.slice none 0 0,.slice none 0 0] 49)
   case first =>
    have hk6:=HK6.out
    have hq6:=HQ6.out
    refine wp_region_held_drew (S:=fun W=>Blk W w.heap.size (zaa t kv) 25∧Blk W g6 (zwa p sv fv cv) 99) (by kernel_rfl) ⟨hk6,hq6⟩ (fun hS=>?_)
    have hc7:Below w6.heap.size w6 w6.drew:=(Below.refl _ _).drew
    replace hk6:Blk w6.drew w.heap.size (zaa t kv) 25:=hk6
    replace hq6:Blk w6.drew g6 (zwa p sv fv cv) 99:=hq6
    have hw6l:=HK6.out.lt
    have hw6q:=HQ6.out.lt
    generalize w6.drew=W7 at *
    have hle:=hc7.size
    refine wpAnyH_take (i:=0) (oi:=⟨some 29,_,_,_,_,_⟩) (v:=.pointer (some ⟨w.heap.size,1,none⟩)) rfl (by kernel_rfl) (by kernel_rfl) (by kernel_rfl) (fun _ _ _ h=>h) (Or.inl ⟨by rfl,fun W _=>by go_simp⟩) hS ?_
    try simp only [Act.put,List.setIfInBounds_toArray,List.set_cons_zero,List.set_cons_succ]
    refine wpAnyH_take (i:=1) (oi:=⟨some 30,_,_,_,_,_⟩) (v:=.string t.text) rfl (by kernel_rfl) (by kernel_rfl) (by kernel_rfl) (fun _ _ _ h=>h) (Or.inl ⟨by rfl,fun W hW=>by have hcx:W.cell? ⟨w.heap.size,1,none⟩=some (.string t.text):=(hW.1).cell 1;go_simp⟩) hS ?_
    try simp only [Act.put,List.setIfInBounds_toArray,List.set_cons_zero,List.set_cons_succ]
    refine wpAnyH_take (i:=2) (oi:=⟨some 31,_,_,_,_,_⟩) (v:=.pointer (some ⟨g6,0,none⟩)) rfl (by kernel_rfl) (by kernel_rfl) (by kernel_rfl) (fun _ _ _ h=>h) (Or.inl ⟨by rfl,fun W _=>by go_simp⟩) hS ?_
    try simp only [Act.put,List.setIfInBounds_toArray,List.set_cons_zero,List.set_cons_succ]
    refine wpAnyH_take (i:=3) (oi:=⟨some 32,_,_,_,_,_⟩) (v:=.pointer (some ⟨g6,1,none⟩)) rfl (by kernel_rfl) (by kernel_rfl) (by kernel_rfl) (fun _ _ _ h=>h) (Or.inl ⟨by rfl,fun W _=>by go_simp⟩) hS ?_
    try simp only [Act.put,List.setIfInBounds_toArray,List.set_cons_zero,List.set_cons_succ]
    refine wpAnyH_take (i:=4) (oi:=⟨some 33,_,_,_,_,_⟩) (v:=.string p.sort.text) rfl (by kernel_rfl) (by kernel_rfl) (by kernel_rfl) (fun _ _ _ h=>h) (Or.inl ⟨by rfl,fun W hW=>by have hcx:W.cell? ⟨g6,1,none⟩=some (.string p.sort.text):=(hW.2).cell 1;go_simp⟩) hS ?_
    try simp only [Act.put,List.setIfInBounds_toArray,List.set_cons_zero,List.set_cons_succ]
    refine AnyH.pair (i:=5) (k:=7) (o:=⟨some 34,_,_,_,_,_⟩) (u:=⟨some 7,_,_,_,_,_⟩) (by kernel_rfl) rfl rfl (by rfl) (by rfl) (fun K hK=>?_) (fun K hK=>?_)
    ·go_simp
     refine (zmh p.sort.text _).mono ?_
     rintro e wq ⟨rfl,he⟩
     obtain rfl:W7=wq:=he.symm
     refine hK.out _ _ hS ?_
     clear hK K
     try simp only [Act.put,List.setIfInBounds_toArray,List.set_cons_zero,List.set_cons_succ]
     refine wpAnyH_take (i:=6) (oi:=⟨some 35,_,_,_,_,_⟩) (v:=.agg #[.string t.text,.int .i64 (znb p.sort.text),.int .i64 0,.slice none 0 0,.slice none 0 0]) rfl (by kernel_rfl) (by kernel_rfl) (by kernel_rfl) (fun _ _ _ h=>h) (Or.inl ⟨by rfl,fun W _=>by go_simp⟩) hS ?_
     try simp only [Act.put,List.setIfInBounds_toArray,List.set_cons_zero,List.set_cons_succ]
     refine AnyH.only (i:=7) (o:=⟨some 7,_,_,_,_,_⟩) (by kernel_rfl) rfl (by rfl) (fun K hK=>?_)
     go_simp
     obtain ⟨W8,hx⟩:∃ W,W7.alloc (.cells zmc.toArray 49)=W:=⟨_,rfl⟩
     have h7:Blk W8 W7.heap.size zmc 49:=hx▸Blk.new _ _ _
     have hb:Below W7.heap.size W7 W8:=hx▸(Below.refl _ _).alloc (Nat.le_refl _) _
     replace hS:Blk W8 w.heap.size (zaa t kv) 25∧Blk W8 g6 (zwa p sv fv cv) 99:=⟨hk6.stays hb,hq6.stays hb⟩
     have hc8:=hc7.trans (hb.mono hle)
     unfold zmc at hx
     try rw [hx]
     clear hx hb hc7
     refine hK.out _ _ hS ?_
     clear hK K
     try simp only [Act.put,List.setIfInBounds_toArray,List.set_cons_zero,List.set_cons_succ]
     refine AnyH.only (i:=8) (o:=⟨none,_,_,_,_,_⟩) (by kernel_rfl) rfl (by rfl) (fun K hK=>?_)
     refine zka 49 (.tmp 7) (.tmp 35) rfl W7.heap.size [.string t.text,.int .i64 (znb p.sort.text),.int .i64 0,.slice none 0 0,.slice none 0 0] rfl rfl h7 Tryd.zzd rfl (zFl _ _) ?_
     refine hK.out _ _ ⟨hS.1.zla _ _ (by omega),hS.2.zla _ _ (by omega)⟩ ?_
     clear hK K
     try simp only [Act.put]
     refine wpAnyH_done (by kernel_rfl) ?_ _
     go_wp2_with fail
     go_meet
     exact ⟨_,rfl,hle,Below.row hc8 hle _,h7.zna _⟩
    ·go_simp
     obtain ⟨W8,hx⟩:∃ W,W7.alloc (.cells zmc.toArray 49)=W:=⟨_,rfl⟩
     have h7:Blk W8 W7.heap.size zmc 49:=hx▸Blk.new _ _ _
     have hb:Below W7.heap.size W7 W8:=hx▸(Below.refl _ _).alloc (Nat.le_refl _) _
     replace hS:Blk W8 w.heap.size (zaa t kv) 25∧Blk W8 g6 (zwa p sv fv cv) 99:=⟨hk6.stays hb,hq6.stays hb⟩
     have hc8:=hc7.trans (hb.mono hle)
     unfold zmc at hx
     try rw [hx]
     clear hx hb hc7
     refine hK.out _ _ hS ?_
     clear hK K
     try simp only [Act.put,List.setIfInBounds_toArray,List.set_cons_zero,List.set_cons_succ]
     refine AnyH.only (i:=5) (o:=⟨some 34,_,_,_,_,_⟩) (by kernel_rfl) rfl (by rfl) (fun K hK=>?_)
     go_simp
     refine (zmh p.sort.text _).mono ?_
     rintro e wq ⟨rfl,he⟩
     obtain rfl:W8=wq:=he.symm
     refine hK.out _ _ hS ?_
     clear hK K
     try simp only [Act.put,List.setIfInBounds_toArray,List.set_cons_zero,List.set_cons_succ]
     refine wpAnyH_take (i:=6) (oi:=⟨some 35,_,_,_,_,_⟩) (v:=.agg #[.string t.text,.int .i64 (znb p.sort.text),.int .i64 0,.slice none 0 0,.slice none 0 0]) rfl (by kernel_rfl) (by kernel_rfl) (by kernel_rfl) (fun _ _ _ h=>h) (Or.inl ⟨by rfl,fun W _=>by go_simp⟩) hS ?_
     try simp only [Act.put,List.setIfInBounds_toArray,List.set_cons_zero,List.set_cons_succ]
     refine AnyH.only (i:=8) (o:=⟨none,_,_,_,_,_⟩) (by kernel_rfl) rfl (by rfl) (fun K hK=>?_)
     refine zka 49 (.tmp 7) (.tmp 35) rfl W7.heap.size [.string t.text,.int .i64 (znb p.sort.text),.int .i64 0,.slice none 0 0,.slice none 0 0] rfl rfl h7 Tryd.zzd rfl (zFl _ _) ?_
     refine hK.out _ _ ⟨hS.1.zla _ _ (by omega),hS.2.zla _ _ (by omega)⟩ ?_
     clear hK K
     try simp only [Act.put]
     refine wpAnyH_done (by kernel_rfl) ?_ _
     go_wp2_with fail
     go_meet
     exact ⟨_,rfl,hle,Below.row hc8 hle _,h7.zna _⟩
   case rest =>
    obtain ⟨g7,rfl,hg7,hc7,hy7⟩:=hcut
    rename World=>W7
    have HC7:=zh hc7
    have HY7:=zh hy7
    have hq7:=HQ6.out.stays hc7
    have y1:W7.cell? ⟨g7,1,none⟩=some (.int .i64 (znb p.sort.text)):=hy7.cell 1
    have HRF:=zh (zZg (HPA.out.below hc7) hfl (znb p.sort.text))
    unfold PtV at HRF
    clear hc7 hy7
    go_wp2_with ((with_reducible refine zva 99 (.tmp 6) ?_);refine zfa rfl 99 (.tmp 6) rfl g6 (zwa p sv fv cv) rfl hq7 Tryd.underlying99 rfl Tryd.zxb ?_)
    refine HRF.out.mono ?_
    clear HRF y1 hq7
    intro e w8 hp
    cases hz1:zYb p.fields (znb p.sort.text) 0 p.fields with
    | error pc =>
     obtain ⟨q,c⟩:=pc
     rw [hz1] at hp
     obtain ⟨rfl,hb⟩:=hp
     have HRes:=zh (HGO.out.trans (by rw [hz1]))
     have hB8:=HB6.out.trans ((HC7.out.trans (hb.mono HC7.out.size)).mono HB6.out.size)
     go_wp2_with fail
     exact ⟨rfl,zUc.err HRes.out (hB8.mono hBw)⟩
    | ok fl =>
     rw [hz1] at hp
     obtain ⟨v1,rfl,hv1,hb⟩:=hp
     obtain ⟨a1,m1,k1,rfl⟩:∃ a n c,v1=.slice a n c:=(RAt.slice hv1).elim fun a h=>h.elim fun c h=>⟨a,_,c,h⟩
     generalize hgv1:Value.slice a1 m1 k1=v1 at *
     have HG1:=zh (HGO.out.trans (by rw [hz1]))
     have HC8:=zh (HC7.out.trans (hb.mono HC7.out.size))
     have HY8:=zh (HY7.out.stays hb)
     have HV8:=zh hv1
     have hth:=HY8.out.there 3 1 (by show 3+1≤5;omega) 0 (by omega)
     obtain ⟨x3,hx3⟩:∃ x,w8.cell? ⟨g7,3,none⟩=some x:=Option.isSome_iff_exists.1 hth.1
     have hfr3:w8.frozen? ⟨g7,3,none⟩=false:=hth.2
     obtain ⟨W9,hW9⟩:∃ W,w8.setCell ⟨g7,3,none⟩ v1=W:=⟨_,rfl⟩
     have he9:=setCell_eq_setRow w8 g7 3 _ _ (0,0) v1 HY8.out
     have HY9:=zh (show Blk W9 g7 [.string t.text,.int .i64 (znb p.sort.text),.int .i64 0,v1,.slice none 0 0] 49 from hW9▸he9▸HY8.out.zna _)
     have HC9:=zh (show Below w6.heap.size w6 W9 from hW9▸he9▸Below.row HC8.out hg7 _)
     have HV9:=zh (show zii W9 fl (fun b=>W7.heap.size≤b) v1 from hW9▸hv1.setCell _ _ (fun b hb2=>by have:=HY7.out.lt;show b≠g7;omega))
     have hq9:=HQ6.out.stays HC9.out
     have y1:W9.cell? ⟨g7,1,none⟩=some (.int .i64 (znb p.sort.text)):=HY9.out.cell 1
     have HB9:=zh (HB6.out.trans (HC9.out.mono HB6.out.size))
     have HOF:=zh (zVp (HRD.out.below HB9.out) (HPA.out.below HC9.out) hz2 (znb p.sort.text))
     unfold PtV at HOF
     subst hgv1
     clear hv1 hb hth he9
     go_wp2_with ((with_reducible refine zva 99 (.tmp 6) ?_);refine zfa rfl 99 (.tmp 6) rfl g6 (zwa p sv fv cv) rfl hq9 Tryd.underlying99 rfl Tryd.zxb ?_)
     refine HOF.out.mono ?_
     clear HOF y1 hq9 hW9 hx3 hfr3
     generalize Value.slice a1 m1 k1=v1 at *
     intro e w10 hp
     cases hz3:ofP tys p (znb p.sort.text) with
     | error pc =>
      obtain ⟨q,c⟩:=pc
      rw [hz3] at hp
      obtain ⟨rfl,hb⟩:=hp
      have HRes:=zh (HG1.out.trans (by rw [hz3]))
      have hB10:=HB9.out.trans (hb.mono HB9.out.size)
      go_wp2_with fail
      exact ⟨rfl,zUc.err HRes.out (hB10.mono hBw)⟩
     | ok o =>
      rw [hz3] at hp
      obtain ⟨v2,rfl,rfl,hb⟩:=hp
      have HG2:=zh (HG1.out.trans (by rw [hz3]))
      have HC10:=zh (HC9.out.trans (hb.mono HC9.out.size))
      have HY10:=zh (HY9.out.stays hb)
      have HV10:=zh (HV9.out.below hb)
      have hth:=HY10.out.there 2 1 (by show 2+1≤5;omega) 0 (by omega)
      obtain ⟨x2,hx2⟩:∃ x,w10.cell? ⟨g7,2,none⟩=some x:=Option.isSome_iff_exists.1 hth.1
      have hfr2:w10.frozen? ⟨g7,2,none⟩=false:=hth.2
      obtain ⟨W11,hW11⟩:∃ W,w10.setCell ⟨g7,2,none⟩ (.int .i64 o)=W:=⟨_,rfl⟩
      have he11:=setCell_eq_setRow w10 g7 2 _ _ (0,0) (.int .i64 o) HY10.out
      have HY11:=zh (show Blk W11 g7 [.string t.text,.int .i64 (znb p.sort.text),.int .i64 o,v1,.slice none 0 0] 49 from hW11▸he11▸HY10.out.zna _)
      have HC11:=zh (show Below w6.heap.size w6 W11 from hW11▸he11▸Below.row HC10.out hg7 _)
      have HV11:=zh (show zii W11 fl (fun b=>W7.heap.size≤b) v1 from hW11▸HV10.out.setCell _ _ (fun b hb2=>by have:=HY7.out.lt;show b≠g7;omega))
      have hq11:=HQ6.out.stays HC11.out
      have hy11:=HY11.out
      have HB11:=zh (HB6.out.trans (HC11.out.mono HB6.out.size))
      have HFC:=zh (zRh (HPA.out.below HC11.out) hcl ⟨t.text,znb p.sort.text,o,[],[]⟩ v1 (.slice none 0 0))
      unfold PtV TyV at HFC
      clear hb hth he11
      go_wp2_with (first
       | ((with_reducible refine zva 99 (.tmp 6) ?_);refine zfa rfl 99 (.tmp 6) rfl g6 (zwa p sv fv cv) rfl hq11 Tryd.underlying99 rfl Tryd.zxb ?_)
       | ((with_reducible refine zva 49 (.tmp 7) ?_);refine zfa rfl 49 (.tmp 7) rfl g7 [.string t.text,.int .i64 (znb p.sort.text),.int .i64 o,v1,.slice none 0 0] rfl hy11 Tryd.underlying49 rfl Tryd.zzd ?_))
      refine HFC.out.mono ?_
      clear HFC hq11 hy11 hW11 hx2 hfr2
      intro e w12 hp
      cases hz4:zEb p.fields (znb p.sort.text) o p.facts with
      | error pc =>
       obtain ⟨q,c⟩:=pc
       rw [hz4] at hp
       obtain ⟨rfl,hb⟩:=hp
       have HRes:=zh (HG2.out.trans (by rw [hz4]))
       have hB12:=HB11.out.trans (hb.mono HB11.out.size)
       go_wp2_with fail
       exact ⟨rfl,zUc.err HRes.out (hB12.mono hBw)⟩
      | ok fcs =>
       rw [hz4] at hp
       obtain ⟨v3,rfl,hv3,hb⟩:=hp
       have HRes:=zh (show zGh tys t=.ok (⟨t.text,znb p.sort.text,o,fl,fcs⟩:Ty) from HG2.out.trans (by rw [hz4]))
       obtain ⟨x,hx⟩:∃ x:Ty,(⟨t.text,znb p.sort.text,o,fl,fcs⟩:Ty)=x:=⟨_,rfl⟩
       have hxn:x.name=t.text:=hx▸rfl
       rw [hx] at HRes
       have HC12:=zh (HC11.out.trans (hb.mono HC11.out.size))
       have HY12:=zh (HY11.out.stays hb)
       have HV12:=zh (HV11.out.below hb)
       have hle11:=HC11.out.size
       have hly7:=HY11.out.lt
       have hth:=HY12.out.there 4 1 (by show 4+1≤5;omega) 0 (by omega)
       obtain ⟨x4,hx4⟩:∃ x,w12.cell? ⟨g7,4,none⟩=some x:=Option.isSome_iff_exists.1 hth.1
       have hfr4:w12.frozen? ⟨g7,4,none⟩=false:=hth.2
       obtain ⟨a3,m3,k3,rfl⟩:∃ a n c,v3=.slice a n c:=(RAt.slice hv3).elim fun a h=>h.elim fun c h=>⟨a,_,c,h⟩
       obtain ⟨W13,hW13⟩:∃ W,w12.setCell ⟨g7,4,none⟩ (.slice a3 m3 k3)=W:=⟨_,rfl⟩
       have he13:=setCell_eq_setRow w12 g7 4 _ _ (0,0) (.slice a3 m3 k3) HY12.out
       have HY13:=zh (show Blk W13 g7 (zIa x v1 (.slice a3 m3 k3)) 49 from hW13▸he13▸hx▸HY12.out.zna _)
       have HC13:=zh (show Below w6.heap.size w6 W13 from hW13▸he13▸Below.row HC12.out hg7 _)
       have hW7l:=HC7.out.size
       have hg7l:=HY7.out.lt
       have HA13:=zh (show zMi W13 x (fun b=>w6.heap.size≤b∧b≠g7) v1 (.slice a3 m3 k3) from hx ▸
        ⟨(hW13▸HV12.out.setCell _ _ (fun b hb2=>by show b≠g7;omega):zii W13 fl (fun b=>W7.heap.size≤b) v1).mono fun b hb2 _=>⟨by omega,by omega⟩,
         (hW13▸RAt.setCell hv3 _ _ (fun b hb2=>by show b≠g7;omega):zmi W13 fcs (fun b=>W11.heap.size≤b) (.slice a3 m3 k3)).mono fun b hb2 _=>⟨by omega,by omega⟩⟩)
       have HB13:=zh (HB6.out.trans (HC13.out.mono HB6.out.size))
       have hw6n:=HB6.out.size
       obtain ⟨ta,tc,htv⟩:=HRD.out.t.slice
       subst htv
       have HR13:=zh (HRD.out.below HB13.out)
       have HK13:=zh (HK6.out.stays HC13.out)
       have HVB:=zh (show ∀ b,(Value.slice ta tys.length tc).ownBlock=some b→b<w.heap.size∧(B≤b∧b≠R∧b≠M) from fun b hb=>by
        obtain ⟨us,ho,hs',_⟩:=HRD.out.t
        exact ⟨(ho.lt b hb).2,hs' b hb⟩)
       clear hb hth he13 hv3
       go_wp2_with fail
       clear hW13 hx4 hfr4
       generalize Value.slice a3 m3 k3=v3 at *
       refine AnyE.zHb (S:=fun W=>Blk W R [(.slice ta tys.length tc),.map (some M)] 84∧Blk W w.heap.size (zaa t kv) 25) (by kernel_rfl) ⟨HR13.out.l.drew,HK13.out.drew⟩ (fun hS=>?_)
       refine AnyE.take (i:=0) (oi:=⟨some 51,_,_,_,_,_⟩) (v:=.pointer (some ⟨R,0,none⟩)) rfl (by kernel_rfl) (by kernel_rfl) (by kernel_rfl) (by kernel_rfl) (fun _ _ _ h=>h) (Or.inl ⟨by rfl,fun W _=>by go_simp⟩) hS ?_
       try simp only [Act.put,List.setIfInBounds_toArray,List.set_cons_zero,List.set_cons_succ]
       refine AnyE.take (i:=1) (oi:=⟨some 52,_,_,_,_,_⟩) (v:=.pointer (some ⟨R,0,none⟩)) rfl (by kernel_rfl) (by kernel_rfl) (by kernel_rfl) (by kernel_rfl) (fun _ _ _ h=>h) (Or.inl ⟨by rfl,fun W _=>by go_simp⟩) hS ?_
       try simp only [Act.put,List.setIfInBounds_toArray,List.set_cons_zero,List.set_cons_succ]
       refine AnyE.take (i:=2) (oi:=⟨some 53,_,_,_,_,_⟩) (v:=.pointer (some ⟨R,1,none⟩)) rfl (by kernel_rfl) (by kernel_rfl) (by kernel_rfl) (by kernel_rfl) (fun _ _ _ h=>h) (Or.inl ⟨by rfl,fun W _=>by go_simp⟩) hS ?_
       try simp only [Act.put,List.setIfInBounds_toArray,List.set_cons_zero,List.set_cons_succ]
       refine AnyE.take (i:=3) (oi:=⟨some 54,_,_,_,_,_⟩) (v:=.map (some M)) rfl (by kernel_rfl) (by kernel_rfl) (by kernel_rfl) (by kernel_rfl) (fun _ _ _ h=>h) (Or.inl ⟨by rfl,fun W hW=>by have hcx:W.cell? ⟨R,1,none⟩=some (.map (some M)):=(hW.1).cell 1;go_simp⟩) hS ?_
       try simp only [Act.put,List.setIfInBounds_toArray,List.set_cons_zero,List.set_cons_succ]
       refine AnyE.take (i:=4) (oi:=⟨some 55,_,_,_,_,_⟩) (v:=.pointer (some ⟨w.heap.size,1,none⟩)) rfl (by kernel_rfl) (by kernel_rfl) (by kernel_rfl) (by kernel_rfl) (fun _ _ _ h=>h) (Or.inl ⟨by rfl,fun W _=>by go_simp⟩) hS ?_
       try simp only [Act.put,List.setIfInBounds_toArray,List.set_cons_zero,List.set_cons_succ]
       refine AnyE.take (i:=5) (oi:=⟨some 56,_,_,_,_,_⟩) (v:=.string t.text) rfl (by kernel_rfl) (by kernel_rfl) (by kernel_rfl) (by kernel_rfl) (fun _ _ _ h=>h) (Or.inl ⟨by rfl,fun W hW=>by have hcx:W.cell? ⟨w.heap.size,1,none⟩=some (.string t.text):=(hW.2).cell 1;go_simp⟩) hS ?_
       try simp only [Act.put,List.setIfInBounds_toArray,List.set_cons_zero,List.set_cons_succ]
       refine AnyE.take (i:=6) (oi:=⟨some 57,_,_,_,_,_⟩) (v:=.pointer (some ⟨R,0,none⟩)) rfl (by kernel_rfl) (by kernel_rfl) (by kernel_rfl) (by kernel_rfl) (fun _ _ _ h=>h) (Or.inl ⟨by rfl,fun W _=>by go_simp⟩) hS ?_
       try simp only [Act.put,List.setIfInBounds_toArray,List.set_cons_zero,List.set_cons_succ]
       refine AnyE.take (i:=7) (oi:=⟨some 58,_,_,_,_,_⟩) (v:=.pointer (some ⟨R,0,none⟩)) rfl (by kernel_rfl) (by kernel_rfl) (by kernel_rfl) (by kernel_rfl) (fun _ _ _ h=>h) (Or.inl ⟨by rfl,fun W _=>by go_simp⟩) hS ?_
       try simp only [Act.put,List.setIfInBounds_toArray,List.set_cons_zero,List.set_cons_succ]
       refine AnyE.take (i:=8) (oi:=⟨some 59,_,_,_,_,_⟩) (v:=.pointer (some ⟨R,0,none⟩)) rfl (by kernel_rfl) (by kernel_rfl) (by kernel_rfl) (by kernel_rfl) (fun _ _ _ h=>h) (Or.inl ⟨by rfl,fun W _=>by go_simp⟩) hS ?_
       try simp only [Act.put,List.setIfInBounds_toArray,List.set_cons_zero,List.set_cons_succ]
       refine AnyE.take (i:=9) (oi:=⟨some 60,_,_,_,_,_⟩) (v:=(.slice ta tys.length tc)) rfl (by kernel_rfl) (by kernel_rfl) (by kernel_rfl) (by kernel_rfl) (fun _ _ _ h=>h) (Or.inl ⟨by rfl,fun W hW=>by have hcx:W.cell? ⟨R,0,none⟩=some ((.slice ta tys.length tc)):=(hW.1).cell 0;go_simp⟩) hS ?_
       try simp only [Act.put,List.setIfInBounds_toArray,List.set_cons_zero,List.set_cons_succ]
       refine AnyE.take (i:=10) (oi:=⟨some 61,_,_,_,_,_⟩) (v:=.int .i64 (tys.length:Int)) rfl (by kernel_rfl) (by kernel_rfl) (by kernel_rfl) (by kernel_rfl) (fun _ _ _ h=>h) (Or.inl ⟨by rfl,fun W _=>by go_simp⟩) hS ?_
       try simp only [Act.put,List.setIfInBounds_toArray,List.set_cons_zero,List.set_cons_succ]
       obtain ⟨mn,D,hmo,hmn,hmi,hmd⟩:=HR13.out.drew.m
       refine AnyE.one (i:=11) (o:=⟨none,_,_,_,_,_⟩) (by kernel_rfl) rfl (by rfl) (fun K hK=>?_)
       try simp only [Act.put,List.setIfInBounds_toArray,List.set_cons_zero,List.set_cons_succ]
       have HW1:=zh (show (Lit.int .i64 (tys.length:Int)).wf=true from WalkArith.wf_i64 (by omega))
       have HMN:=zh (show mn<maxLen from by unfold maxLen;omega)
       have HKEY:=zh (show keyOf Tryd.prog 9 (.string t.text)=some (zPd t.text) from WideMaps.keyOf_string_mk Tryd.underlying9 hz)
       refine zQf (D:=D) (R:=plainElem Tryd.prog 3) (b:=M) (n:=mn) (key:=.string t.text) (val:=.int .i64 (tys.length:Int)) (kl:=zPd t.text) (d:=.lit (.int .i64 (tys.length:Int))) (ps:=[]) W13.drew (.tmp 54) (.tmp 56) (.tmp 61) 43 rfl 9 3 zAi Tryd.underlying43 (hm:=rfl) (hown:=hmo) (hn:=HMN.out) (hx:=rfl) (hv:=rfl) (hkey:=HKEY.out) (hval:=plainElem_int Tryd.underlying3 HW1.out) (hK:=fun w14 hm1 hg1=>?_)
       have hML:=HRD.out.m.lt
       have hRL:=HRD.out.l.lt
       have HM14:=zh (show MapAt w14 M (tys++[x]) from MapAt.snoc hmn hmi hmd (by rw [hxn];exact hm1) (by rw [hxn];exact hf))
       have HL1:=zh (HR13.out.drew.l.grown hg1 (fun e=>HRD.out.ne (Option.some.inj e)))
       have HY14:=zh ((show Blk W13.drew g7 (zIa x v1 v3) 49 from HY13.out).grown hg1 (fun e=>by have:=Option.some.inj e;omega))
       have HT14:=zh (show zZb w14 tys (fun b=>B≤b∧b≠R∧b≠M) (.slice ta tys.length tc) from HR13.out.drew.t.keep fun b hb hl=>⟨hb,hg1.block b hl (fun e=>hb.2.2 (Option.some.inj e))⟩)
       have HB14:=zh (show Below B w w14 from (HB13.out.drew.mono hBw).grown hg1 (by have:=HB13.out.size;show B≤W13.heap.size;omega) (fun k hk=>by have:=Option.some.inj hk;have:=HRD.out.lo;omega))
       have HA14:=zh (show zMi w14 x (fun b=>w6.heap.size≤b∧b≠g7) v1 v3 from (show zMi W13.drew x _ v1 v3 from HA13.out).keep fun b hb hl=>⟨hb,hg1.block b hl (fun e=>by have:=Option.some.inj e;omega)⟩)
       have hsz14:w.heap.size≤w14.heap.size:=HB14.out.size
       clear hmo hmn hmi hmd hm1 hg1 hS
       refine hK.out _ _ (fun h=>absurd rfl h) ?_
       clear hK K
       refine AnyE.done (by kernel_rfl) ?_ _
       go_wp2_with fail
       clear hxn hx
       refine AnyE.zHb (S:=fun W=>Blk W R [(.slice ta tys.length tc),.map (some M)] 84∧Blk W g7 (zIa x v1 v3) 49) (by kernel_rfl) ⟨HL1.out.drew,HY14.out.drew⟩ (fun hS=>?_)
       replace HT14:=zh HT14.out.drew
       replace HM14:=zh (HM14.out.below (Below.refl _ _).drew)
       replace HB14:=zh HB14.out.drew
       replace HA14:=zh (show zMi w14.drew x (fun b=>w6.heap.size≤b∧b≠g7) v1 v3 from HA14.out.keep fun b hb _=>⟨hb,rfl⟩)
       generalize w14.drew=W15 at *
       refine AnyE.take (i:=0) (oi:=⟨some 62,_,_,_,_,_⟩) (v:=.pointer (some ⟨R,0,none⟩)) rfl (by kernel_rfl) (by kernel_rfl) (by kernel_rfl) (by kernel_rfl) (fun _ _ _ h=>h) (Or.inl ⟨by rfl,fun W _=>by go_simp⟩) hS ?_
       try simp only [Act.put,List.setIfInBounds_toArray,List.set_cons_zero,List.set_cons_succ]
       refine AnyE.take (i:=1) (oi:=⟨some 63,_,_,_,_,_⟩) (v:=.pointer (some ⟨R,0,none⟩)) rfl (by kernel_rfl) (by kernel_rfl) (by kernel_rfl) (by kernel_rfl) (fun _ _ _ h=>h) (Or.inl ⟨by rfl,fun W _=>by go_simp⟩) hS ?_
       try simp only [Act.put,List.setIfInBounds_toArray,List.set_cons_zero,List.set_cons_succ]
       refine AnyE.take (i:=2) (oi:=⟨some 64,_,_,_,_,_⟩) (v:=.pointer (some ⟨R,0,none⟩)) rfl (by kernel_rfl) (by kernel_rfl) (by kernel_rfl) (by kernel_rfl) (fun _ _ _ h=>h) (Or.inl ⟨by rfl,fun W _=>by go_simp⟩) hS ?_
       try simp only [Act.put,List.setIfInBounds_toArray,List.set_cons_zero,List.set_cons_succ]
       refine AnyE.take (i:=3) (oi:=⟨some 65,_,_,_,_,_⟩) (v:=.pointer (some ⟨R,0,none⟩)) rfl (by kernel_rfl) (by kernel_rfl) (by kernel_rfl) (by kernel_rfl) (fun _ _ _ h=>h) (Or.inl ⟨by rfl,fun W _=>by go_simp⟩) hS ?_
       try simp only [Act.put,List.setIfInBounds_toArray,List.set_cons_zero,List.set_cons_succ]
       refine AnyE.take (i:=4) (oi:=⟨some 66,_,_,_,_,_⟩) (v:=(.slice ta tys.length tc)) rfl (by kernel_rfl) (by kernel_rfl) (by kernel_rfl) (by kernel_rfl) (fun _ _ _ h=>h) (Or.inl ⟨by rfl,fun W hW=>by have hcx:W.cell? ⟨R,0,none⟩=some ((.slice ta tys.length tc)):=(hW.1).cell 0;go_simp⟩) hS ?_
       try simp only [Act.put,List.setIfInBounds_toArray,List.set_cons_zero,List.set_cons_succ]
       refine AnyE.take (i:=5) (oi:=⟨some 67,_,_,_,_,_⟩) (v:=.agg ([.string x.name,.int .i64 x.sort,.int .i64 x.of,v1,v3]).toArray) rfl (by kernel_rfl) (by kernel_rfl) (by kernel_rfl) (by kernel_rfl) (fun _ _ _ h=>h) (yieldsIf_load_mid (cs:=[.string x.name,.int .i64 x.sort,.int .i64 x.of,v1,v3]) (by rfl) 49 (.tmp 7) rfl (g7) 0 (by go_simp) _ (fun W hW j v hj=>by rw [Nat.zero_add,(hW.2).cell j];exact hj) Tryd.underlying49 rfl Tryd.zzd) hS ?_
       try simp only [Act.put,List.setIfInBounds_toArray,List.set_cons_zero,List.set_cons_succ]
       refine AnyE.one (i:=6) (o:=⟨some 68,_,_,_,_,_⟩) (by kernel_rfl) rfl (by rfl) (fun K hK=>?_)
       go_simp
       obtain ⟨W16,hx16⟩:∃ W,W15.alloc (.cells [.string x.name,.int .i64 x.sort,.int .i64 x.of,v1,v3].toArray 49)=W:=⟨_,rfl⟩
       have hb16:Below W15.heap.size W15 W16:=hx16▸(Below.refl _ _).alloc (Nat.le_refl _) _
       have h16:Blk W16 W15.heap.size (zIa x v1 v3) 49:=hx16▸Blk.new _ _ _
       try rw [hx16]
       clear hx16
       replace hS:Blk W16 R [(.slice ta tys.length tc),.map (some M)] 84∧Blk W16 g7 (zIa x v1 v3) 49:=⟨hS.1.stays hb16,hS.2.stays hb16⟩
       have HT16:=zh (HT14.out.below hb16)
       have HM16:=zh (HM14.out.below hb16)
       have HB16:=zh (HB14.out.trans (hb16.mono (Nat.le_trans hBw HB14.out.size)))
       have HA16:=zh (show zMi W16 x (fun b=>w6.heap.size≤b∧b≠g7) v1 v3 from HA14.out.keep fun b hb hl=>⟨hb,hb16.block b hl⟩)
       refine hK.out _ _ (fun _=>hS) ?_
       clear hK K
       try simp only [Act.put,List.setIfInBounds_toArray,List.set_cons_zero,List.set_cons_succ]
       refine AnyE.one (i:=7) (o:=⟨some 69,_,_,_,_,_⟩) (by kernel_rfl) rfl (by rfl) (fun K hK=>?_)
       obtain ⟨ic,zc,IC⟩:=Tryd.zKo
       refine zri (b:=W15.heap.size) (.tmp 66) (.tmp 68) rfl IC rfl HT16.out (by have:=HB16.out.size;have:=HRD.out.l.lt;have:=HRD.out.m.lt;refine ⟨by omega,by omega,by omega⟩) rfl h16 (HA16.out.keep fun b hb _=>⟨⟨⟨by omega,by have:=HRD.out.l.lt;omega,by have:=HRD.out.m.lt;omega⟩,fun e=>by have:=(HVB.out b e).1;omega⟩,rfl⟩) (by omega) (fun v2 W17 hc2 hg2 hl2=>?_)
       have hneR:some R≠(Value.slice ta tys.length tc).ownBlock:=fun e=>(HVB.out R e.symm).2.2.1 rfl
       have hneM:some M≠(Value.slice ta tys.length tc).ownBlock:=fun e=>(HVB.out M e.symm).2.2.2 rfl
       have hneG:some g7≠(Value.slice ta tys.length tc).ownBlock:=fun e=>by have:=(HVB.out g7 e.symm).1;omega
       replace hS:Blk W17 R [(.slice ta tys.length tc),.map (some M)] 84∧Blk W17 g7 (zIa x v1 v3) 49:=⟨hS.1.grown hg2 hneR,hS.2.grown hg2 hneG⟩
       have HM17:=zh (HM16.out.kept hg2 hneM)
       have HB17:=zh (HB16.out.grown hg2 (by have:=HB16.out.size;omega) fun b hb=>(HVB.out b hb).2.1)
       have HC17:=zh hc2
       obtain ⟨a2,m2,k2,rfl⟩:∃ a n c,v2=.slice a n c:=hc2.slice.elim fun a h=>h.elim fun c h=>⟨a,_,c,h⟩
       clear hg2 hc2 hl2
       refine hK.out _ _ (fun _=>hS) ?_
       clear hK K
       try simp only [Act.put,List.setIfInBounds_toArray,List.set_cons_zero,List.set_cons_succ]
       refine AnyE.one (i:=8) (o:=⟨some 70,_,_,_,_,_⟩) (by kernel_rfl) rfl (by rfl) (fun K hK=>?_)
       go_simp
       refine hK.out _ _ (fun _=>hS) ?_
       clear hK K
       try simp only [Act.put,List.setIfInBounds_toArray,List.set_cons_zero,List.set_cons_succ]
       refine AnyE.take (i:=9) (oi:=⟨some 71,_,_,_,_,_⟩) (v:=.pointer (some ⟨R,0,none⟩)) rfl (by kernel_rfl) (by kernel_rfl) (by kernel_rfl) (by kernel_rfl) (fun _ _ _ h=>h) (Or.inl ⟨by rfl,fun W _=>by go_simp⟩) hS ?_
       try simp only [Act.put,List.setIfInBounds_toArray,List.set_cons_zero,List.set_cons_succ]
       have hl0:W17.cell? ⟨R,0,none⟩=some (.slice ta tys.length tc):=hS.1.cell 0
       have hlf:W17.frozen? ⟨R,0,none⟩=false:=(hS.1.there 0 1 (by simp) 0 (by omega)).2
       have HFIN:=zh (show zOi (W17.setCell ⟨R,0,none⟩ (.slice a2 m2 k2)) B R M (tys++[x]) (.slice a2 m2 k2) from ⟨by rw [setCell_eq_setRow W17 R 0 _ _ (0,0) _ hS.1];exact hS.1.zna _,HC17.out.keep fun b hb _=>⟨hb,Below.heap_setCell _ _ _ _ hb.2.1⟩,HM17.out.same (Below.heap_setCell _ _ _ _ (Ne.symm HRD.out.ne)),HRD.out.lo,HRD.out.ne⟩)
       have HBF:=zh (show Below B w (W17.setCell ⟨R,0,none⟩ (.slice a2 m2 k2)) from by rw [setCell_eq_setRow W17 R 0 _ _ (0,0) _ hS.1];exact Below.row HB17.out HRD.out.lo.1 _)
       refine AnyE.one (i:=10) (o:=⟨none,_,_,_,_,_⟩) (by kernel_rfl) rfl (by rfl) (fun K hK=>?_)
       go_simp
       refine hK.out _ _ (fun h=>absurd rfl h) ?_
       clear hK K
       refine AnyE.done (by kernel_rfl) ?_ _
       clear hS hl0 hlf
       go_wp2_with fail
       refine bodyPost_end (results_none Tryd.results21 _ _ _) rfl ?_
       exact zUc.ok HRes.out HFIN.out HBF.out
end Go.Proofs.YtdhmdfhnkppnmaaDoor
