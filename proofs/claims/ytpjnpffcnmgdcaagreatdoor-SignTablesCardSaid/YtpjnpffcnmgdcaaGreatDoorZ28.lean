/- The contract of the reader's add. What the Types of a tree that was read are made of: a Sort, Fields, Facts. Nothing of the program is walked here. -/
import Derived.Test.YtpjnpffcnmgdcaaGreatDoorZ27
import Derived.Test.YtpjnpffcnmgdcaaGreatDoorZ24
import Derived.Test.YtpjnpffcnmgdcaaGreatDoorZ23
namespace Go.Proofs.YtpjnpffcnmgdcaaGreatDoor
set_option maxRecDepth 100000
set_option maxHeartbeats 4000000
section
open Go.RowKit Go.Maps
theorem zyh {H:Type} {P:Program} (w:World) {o:Oper} {a:Act} {K':Act→World→Prop} {Q:Exit→Act→World→Prop}
  (m x v:Operand) (t:TypeId) (hop:o.op=Op.mapUpdate t m x v)
  (k e:TypeId) (K:Keyed P k) (ht:P.underlying t=some (.map k e)) (R:Value→Option (DataW H × List MemPlace)) (b n:Nat) (D:DataW H)
  (hm:a.eval m=.map (some b)) (hown:w.ownsMap P k R b n D) (hn:n<maxLen) (key val:Value) (kl:Lit) (hx:a.eval x=key) (hv:a.eval v=val) (hkey:keyOf P k key=some kl)
  (d:DataW H) (ps:List MemPlace) (hval:R val=some (d,ps))
  (hK:∀ w',w'.ownsMap P k R b (n+1) (D.put kl d)→w.grownBy w' (some b)→K' (a.put o.dst undef) w'):o.wp P a w K' Q:=by
 obtain ⟨w',hrun,r1,r2⟩:=hown.update K ht hn hkey hval
 unfold Oper.wp
 simp [execOp,hop,hm,hx,hv,hrun,Result.andThen]
 exact hK w' r1 r2
theorem Tryz.zNh:∃ i z,zqe Tryz.prog 30 67 5 80 i z:=by
 have h:(Tryz.prog.info? 67).map (fun i=>(i.zero,i.size,i.bytes))=some (some (.agg #[.string ⟨#[]⟩,.int .i64 0,.int .i64 0,.slice none 0 0,.slice none 0 0]),5,80):=by kernel_rfl
 obtain ⟨i0,hi,hz0,hz1,hz2⟩:=info_parts h
 exact ⟨i0,_,Tryz.underlying30,hi,hz0,hz1,hz2,rfl⟩
theorem zLl.drew {w:World} {B R M:Nat} {tys:List Ty} {tv:Value} (h:zLl w B R M tys tv):zLl w.drew B R M tys tv:=h.below (Below.refl _ _).drew
def zHd:List Value:=[.string ⟨#[]⟩,.int .i64 0,.int .i64 0,.slice none 0 0,.slice none 0 0]
theorem zEq (s:ByteArray) (n:Int):∀ u∈[Value.string s,.int .i64 n,.int .i64 0,.slice none 0 0,.slice none 0 0],u.oneCell'=true:=by
 intro u hu
 simp only [List.mem_cons,List.not_mem_nil,or_false] at hu
 rcases hu with rfl|rfl|rfl|rfl|rfl<;>rfl
theorem zVn {tys:List Ty} {n:T} (h:(zze tys n.text).isSome=true):zCo tys n=.error (n.place,30):=by unfold zCo;rw [h];rfl
theorem zZq {tys:List Ty} {n:T} (h:zze tys n.text=none) (hm:8<(zUd n.kids).fields.length):zCo tys n=.error (n.place,22):=by unfold zCo;rw [h];simp [hm]
theorem zVt {tys:List Ty} {n:T} (h:zze tys n.text=none) (hm:¬ 8<(zUd n.kids).fields.length):zCo tys n=match zve (zUd n.kids).fields (zNc (zUd n.kids).sort.text) 0 (zUd n.kids).fields with
  | .error e=>.error e
  | .ok fl=>match ofP tys (zUd n.kids) (zNc (zUd n.kids).sort.text) with
   | .error e=>.error e
   | .ok o=>match zqd (zUd n.kids).fields (zNc (zUd n.kids).sort.text) o (zUd n.kids).facts with
    | .error e=>.error e
    | .ok fc=>.ok ⟨n.text,zNc (zUd n.kids).sort.text,o,fl,fc⟩:=by unfold zCo;rw [h,decide_eq_false hm];rfl
def zse (w:World) (B R M:Nat) (tys:List Ty) (r:E Ty) (e:Ending) (w':World):Prop :=
 match r with
 | .ok x=>e=.returned (.tuple #[])∧(∃ tv',zLl w' B R M (tys++[x]) tv')∧Below B w w'
 | .error (p,c)=>e=.panicked [{ v:=sfV p c,recovered:=false }]∧Below B w w'
theorem zse.err {w w':World} {B R M:Nat} {tys:List Ty} {r:E Ty} {p:Nat} {c:Int} (hr:r=.error (p,c)) (h:Below B w w'):zse w B R M tys r (.panicked [{ v:=sfV p c,recovered:=false }]) w':=by rw [hr];exact ⟨rfl,h⟩
theorem zse.ok {w w':World} {B R M:Nat} {tys:List Ty} {r:E Ty} {x:Ty} {tv':Value} (hr:r=.ok x) (hs:zLl w' B R M (tys++[x]) tv') (h:Below B w w'):zse w B R M tys r (.returned (.tuple #[])) w':=by rw [hr];exact ⟨rfl,⟨_,hs⟩,h⟩
theorem zXe {B:Nat} {a w:World} (h:Below B a w) (n:Nat):Below B a (w.drewN n):=⟨h.os,h.tape,h.output,h.size,h.block⟩
theorem zrj (k:Int) (l:List T):(l.filter (fun t=>t.kind == k)).length≤l.length:=List.length_filter_le _ _
theorem zYl {w:World} {B R M:Nat} {tys:List Ty} {tv:Value} (hr:zLl w B R M tys tv) {t:T} {S:Nat→Prop} {kv:Value} (hk:KAt 25 w t.kids S kv) (hl:t.kids.length≤4096) (htl:tys.length≤4096) (hz:t.text.size≤maxLen) (hz2:(zJa (zUd t.kids).sort 0).text.size≤maxLen) :
  Calls Tryz.prog 34 #[.pointer (some ⟨R,0,none⟩),zna t kv] w (zse w B R M tys (zCo tys t)):=by
 have hBw:B≤w.heap.size:=by have:=hr.m.lt;have:=hr.lo;omega
 have HRD:=zh hr
 have HKV:=zh hk
 obtain ⟨W0,hW0⟩:∃ W,w.alloc (.cells (zaa t kv).toArray 25)=W:=⟨_,rfl⟩
 have HB0:=zh (show Below w.heap.size w W0 from hW0▸(Below.refl _ _).alloc (Nat.le_refl _) _)
 have HK0:=zh (show Blk W0 w.heap.size (zaa t kv) 25 from hW0▸Blk.new w _ _)
 have HR0:=zh (hr.below HB0.out)
 obtain ⟨c,hc,hrun⟩:=HR0.out.m.look hz
 have hlk:∀ q,(Instr.lookup 99 (.map (some M)) (.string t.text) true).run Tryz.prog (W0.drewN q)=.ok (.tuple #[.int .i64 c,.bool (zze tys t.text).isSome]) (W0.drewN q):=fun q=>hrun _ rfl
 have n1:W0.cell? ⟨w.heap.size,1,none⟩=some (.string t.text):=HK0.out.cell 1
 have l1:W0.cell? ⟨R,1,none⟩=some (.map (some M)):=HR0.out.l.cell 1
 unfold zaa at hW0
 unfold zna
 clear hrun hc hr hk
 go_enter Tryz.func34,Tryz.ntmps34
 go_upto_region 1 with fail
 try rw [hW0]
 clear hW0
 cases hf:zze tys t.text with
 | some q =>
  rw [hf] at hlk
  have HRes:=zh (zVn (tys:=tys) (n:=t) (by rw [hf];rfl))
  go_quiet (fail)
  have HK8:=zh (show Blk (W0.drewN nq) w.heap.size (zaa t kv) 25 from HK0.out)
  have HB8:=zh (zXe HB0.out nq)
  clear hlk n1 l1
  generalize W0.drewN nq=W1 at *
  have HFL:=zh (zmc t kv 30 W1)
  unfold zna at HFL
  have hk8:=HK8.out
  go_wp2_with ((with_reducible refine zqa 25 (.tmp 3) ?_);refine zia rfl 25 (.tmp 3) rfl w.heap.size (zaa t kv) rfl hk8 Tryz.underlying25 rfl Tryz.zea ?_)
  refine HFL.out.mono ?_
  rintro e w5 ⟨rfl,hb⟩
  go_wp2_with fail
  exact ⟨rfl,zse.err HRes.out ((HB8.out.trans (hb.mono HB8.out.size)).mono hBw)⟩
 | none =>
  rw [hf] at hlk
  go_quiet (fail)
  have HK8:=zh (show Blk (W0.drewN nq) w.heap.size (zaa t kv) 25 from HK0.out)
  have HB8:=zh (zXe HB0.out nq)
  clear hlk n1 l1 HK0 HB0 HR0
  generalize W0.drewN nq=W1 at *
  have HPO:=zh (zWl (HKV.out.below HB8.out) hl)
  unfold zna at HPO
  have hk8:=HK8.out
  go_wp2_with ((with_reducible refine zqa 25 (.tmp 3) ?_);refine zia rfl 25 (.tmp 3) rfl w.heap.size (zaa t kv) rfl hk8 Tryz.underlying25 rfl Tryz.zea ?_)
  refine HPO.out.mono ?_
  have HG:=zh (@zVt tys t hf)
  have HM:=zh (@zZq tys t hf)
  have hfl:(zUd t.kids).fields.length≤4096:=Nat.le_trans (zrj _ _) hl
  have hcl:(zUd t.kids).facts.length≤4096:=Nat.le_trans (zrj _ _) hl
  clear HPO hk8
  generalize zUd t.kids=p at *
  rintro e w2 ⟨sv,fv,cv,rfl,hpa,hb⟩
  obtain ⟨fa,fc,rfl,hfc,hfm,hns⟩:=hpa.f
  have HPA0:=zh hpa
  have HB2:=zh (HB8.out.trans (hb.mono HB8.out.size))
  have HK2:=zh (HK8.out.stays hb)
  obtain ⟨w6,hw6⟩:∃ W,w2.alloc (.cells (zDa p sv (.slice fa p.fields.length fc) cv).toArray 153)=W:=⟨_,rfl⟩
  have hb26:Below w2.heap.size w2 w6:=hw6▸(Below.refl _ _).alloc (Nat.le_refl _) _
  have HB6:=zh (HB2.out.trans (hb26.mono HB2.out.size))
  have HK6:=zh (HK2.out.stays hb26)
  have HQ6:=zh (show Blk w6 w2.heap.size (zDa p sv (.slice fa p.fields.length fc) cv) 153 from hw6▸Blk.new w2 _ _)
  have HPA:=zh (hpa.below hb26)
  have hg6:w.heap.size<w2.heap.size:=HK2.out.lt
  have p5:w6.cell? ⟨w2.heap.size,5,none⟩=some (.slice fa p.fields.length fc):=HQ6.out.cell 5
  have hone:∀ y∈zDa p sv (.slice fa p.fields.length fc) cv,y.oneCell'=true:=by
   intro y hy
   simp only [zDa,List.mem_cons,List.not_mem_nil,or_false] at hy
   rcases hy with rfl|rfl|rfl|rfl|rfl|rfl|rfl
   all_goals first|rfl|exact hpa.s.one|(obtain ⟨_,_,rfl,_⟩:=hpa.c;rfl)
  have HONE:=zh hone
  clear hb hb26 hpa hns hone HB8 HK8
  by_cases hm:8<p.fields.length
  ·have HRes:=zh (HM.out hm)
   have hmi:(8:Int)<(p.fields.length:Int):=by omega
   have HFL:=zh (zmc t kv 22 w6)
   unfold zna at HFL
   have hk6:=HK6.out
   go_wp2_with (first
    | ((with_reducible refine zla 153 (.tmp 6) ?_);refine zga rfl 153 (.tmp 6) (.tmp 22) rfl (zDa p sv (.slice fa p.fields.length fc) cv) (old:=zhc) rfl rfl Tryz.zoc rfl HONE.out ?_;rw [hw6])
    | ((with_reducible refine zqa 25 (.tmp 3) ?_);refine zia rfl 25 (.tmp 3) rfl w.heap.size (zaa t kv) rfl hk6 Tryz.underlying25 rfl Tryz.zea ?_))
   refine HFL.out.mono ?_
   rintro e w5 ⟨rfl,hb⟩
   go_wp2_with fail
   exact ⟨rfl,zse.err HRes.out ((HB6.out.trans (hb.mono HB6.out.size)).mono hBw)⟩
  ·have hmi:¬ (8:Int)<(p.fields.length:Int):=by omega
   have HGO:=zh (HG.out hm)
   clear HG HM
   go_upto_region 7 with (first
    | ((with_reducible refine zla 153 (.tmp 6) ?_);refine zga rfl 153 (.tmp 6) (.tmp 22) rfl (zDa p sv (.slice fa p.fields.length fc) cv) (old:=zhc) rfl rfl Tryz.zoc rfl HONE.out ?_;rw [hw6]))
   clear hw6 p5 HONE HPA0 HB2 HK2
   try simp only [Act.put]
   generalize w2.heap.size=g6 at *
   generalize Value.slice fa p.fields.length fc=fv at *
   go_cut [7] (fun x W=>∃ g7,x=.pointer (some ⟨g7,0,none⟩)∧w6.heap.size≤g7∧Below w6.heap.size w6 W∧Blk W g7 [.string t.text,.int .i64 (zNc p.sort.text),.int .i64 0,.slice none 0 0,.slice none 0 0] 67)
   case first =>
    have hk6:=HK6.out
    have hq6:=HQ6.out
    refine wp_region_held_drew (S:=fun W=>Blk W w.heap.size (zaa t kv) 25∧Blk W g6 (zDa p sv fv cv) 153) (by kernel_rfl) ⟨hk6,hq6⟩ (fun hS=>?_)
    have hc7:Below w6.heap.size w6 w6.drew:=(Below.refl _ _).drew
    replace hk6:Blk w6.drew w.heap.size (zaa t kv) 25:=hk6
    replace hq6:Blk w6.drew g6 (zDa p sv fv cv) 153:=hq6
    have hw6l:=HK6.out.lt
    have hw6q:=HQ6.out.lt
    generalize w6.drew=W7 at *
    have hle:=hc7.size
    refine wpAnyH_take (i:=0) (oi:=⟨some 29,_,_,_,_,_⟩) (v:=.pointer (some ⟨w.heap.size,1,none⟩)) rfl (by kernel_rfl) (by kernel_rfl) (by kernel_rfl) (fun _ _ _ h=>h) (Or.inl ⟨by rfl,fun W _=>by go_simp⟩) hS ?_
    try simp only [Act.put,List.setIfInBounds_toArray,List.set_cons_zero,List.set_cons_succ]
    refine wpAnyH_take (i:=1) (oi:=⟨some 30,_,_,_,_,_⟩) (v:=.string t.text) rfl (by kernel_rfl) (by kernel_rfl) (by kernel_rfl) (fun _ _ _ h=>h) (Or.inl ⟨by rfl,fun W hW=>by have hcx:W.cell? ⟨w.heap.size,1,none⟩=some (.string t.text):=(hW.1).cell 1;go_simp⟩) hS ?_
    try simp only [Act.put,List.setIfInBounds_toArray,List.set_cons_zero,List.set_cons_succ]
    refine wpAnyH_take (i:=2) (oi:=⟨some 31,_,_,_,_,_⟩) (v:=.pointer (some ⟨g6,0,none⟩)) rfl (by kernel_rfl) (by kernel_rfl) (by kernel_rfl) (fun _ _ _ h=>h) (Or.inl ⟨by rfl,fun W _=>by go_simp⟩) hS ?_
    try simp only [Act.put,List.setIfInBounds_toArray,List.set_cons_zero,List.set_cons_succ]
    refine wpAnyH_take (i:=3) (oi:=⟨some 32,_,_,_,_,_⟩) (v:=.pointer (some ⟨g6,1,none⟩)) rfl (by kernel_rfl) (by kernel_rfl) (by kernel_rfl) (fun _ _ _ h=>h) (Or.inl ⟨by rfl,fun W _=>by go_simp⟩) hS ?_
    try simp only [Act.put,List.setIfInBounds_toArray,List.set_cons_zero,List.set_cons_succ]
    refine wpAnyH_take (i:=4) (oi:=⟨some 33,_,_,_,_,_⟩) (v:=.string p.sort.text) rfl (by kernel_rfl) (by kernel_rfl) (by kernel_rfl) (fun _ _ _ h=>h) (Or.inl ⟨by rfl,fun W hW=>by have hcx:W.cell? ⟨g6,1,none⟩=some (.string p.sort.text):=(hW.2).cell 1;go_simp⟩) hS ?_
    try simp only [Act.put,List.setIfInBounds_toArray,List.set_cons_zero,List.set_cons_succ]
    refine AnyH.pair (i:=5) (k:=7) (o:=⟨some 34,_,_,_,_,_⟩) (u:=⟨some 7,_,_,_,_,_⟩) (by kernel_rfl) rfl rfl (by rfl) (by rfl) (fun K hK=>?_) (fun K hK=>?_)
    ·go_simp
     refine (zjj p.sort.text _).mono ?_
     rintro e wq ⟨rfl,he⟩
     obtain rfl:W7=wq:=he.symm
     refine hK.out _ _ hS ?_
     clear hK K
     try simp only [Act.put,List.setIfInBounds_toArray,List.set_cons_zero,List.set_cons_succ]
     refine wpAnyH_take (i:=6) (oi:=⟨some 35,_,_,_,_,_⟩) (v:=.agg #[.string t.text,.int .i64 (zNc p.sort.text),.int .i64 0,.slice none 0 0,.slice none 0 0]) rfl (by kernel_rfl) (by kernel_rfl) (by kernel_rfl) (fun _ _ _ h=>h) (Or.inl ⟨by rfl,fun W _=>by go_simp⟩) hS ?_
     try simp only [Act.put,List.setIfInBounds_toArray,List.set_cons_zero,List.set_cons_succ]
     refine AnyH.only (i:=7) (o:=⟨some 7,_,_,_,_,_⟩) (by kernel_rfl) rfl (by rfl) (fun K hK=>?_)
     go_simp
     obtain ⟨W8,hx⟩:∃ W,W7.alloc (.cells zHd.toArray 67)=W:=⟨_,rfl⟩
     have h7:Blk W8 W7.heap.size zHd 67:=hx▸Blk.new _ _ _
     have hb:Below W7.heap.size W7 W8:=hx▸(Below.refl _ _).alloc (Nat.le_refl _) _
     replace hS:Blk W8 w.heap.size (zaa t kv) 25∧Blk W8 g6 (zDa p sv fv cv) 153:=⟨hk6.stays hb,hq6.stays hb⟩
     have hc8:=hc7.trans (hb.mono hle)
     unfold zHd at hx
     try rw [hx]
     clear hx hb hc7
     refine hK.out _ _ hS ?_
     clear hK K
     try simp only [Act.put,List.setIfInBounds_toArray,List.set_cons_zero,List.set_cons_succ]
     refine AnyH.only (i:=8) (o:=⟨none,_,_,_,_,_⟩) (by kernel_rfl) rfl (by rfl) (fun K hK=>?_)
     refine zva 67 (.tmp 7) (.tmp 35) rfl W7.heap.size [.string t.text,.int .i64 (zNc p.sort.text),.int .i64 0,.slice none 0 0,.slice none 0 0] rfl rfl h7 Tryz.zYe rfl (zEq _ _) ?_
     refine hK.out _ _ ⟨hS.1.zta _ _ (by omega),hS.2.zta _ _ (by omega)⟩ ?_
     clear hK K
     try simp only [Act.put]
     refine wpAnyH_done (by kernel_rfl) ?_ _
     go_wp2_with fail
     go_meet
     exact ⟨_,rfl,hle,Below.row hc8 hle _,h7.zra _⟩
    ·go_simp
     obtain ⟨W8,hx⟩:∃ W,W7.alloc (.cells zHd.toArray 67)=W:=⟨_,rfl⟩
     have h7:Blk W8 W7.heap.size zHd 67:=hx▸Blk.new _ _ _
     have hb:Below W7.heap.size W7 W8:=hx▸(Below.refl _ _).alloc (Nat.le_refl _) _
     replace hS:Blk W8 w.heap.size (zaa t kv) 25∧Blk W8 g6 (zDa p sv fv cv) 153:=⟨hk6.stays hb,hq6.stays hb⟩
     have hc8:=hc7.trans (hb.mono hle)
     unfold zHd at hx
     try rw [hx]
     clear hx hb hc7
     refine hK.out _ _ hS ?_
     clear hK K
     try simp only [Act.put,List.setIfInBounds_toArray,List.set_cons_zero,List.set_cons_succ]
     refine AnyH.only (i:=5) (o:=⟨some 34,_,_,_,_,_⟩) (by kernel_rfl) rfl (by rfl) (fun K hK=>?_)
     go_simp
     refine (zjj p.sort.text _).mono ?_
     rintro e wq ⟨rfl,he⟩
     obtain rfl:W8=wq:=he.symm
     refine hK.out _ _ hS ?_
     clear hK K
     try simp only [Act.put,List.setIfInBounds_toArray,List.set_cons_zero,List.set_cons_succ]
     refine wpAnyH_take (i:=6) (oi:=⟨some 35,_,_,_,_,_⟩) (v:=.agg #[.string t.text,.int .i64 (zNc p.sort.text),.int .i64 0,.slice none 0 0,.slice none 0 0]) rfl (by kernel_rfl) (by kernel_rfl) (by kernel_rfl) (fun _ _ _ h=>h) (Or.inl ⟨by rfl,fun W _=>by go_simp⟩) hS ?_
     try simp only [Act.put,List.setIfInBounds_toArray,List.set_cons_zero,List.set_cons_succ]
     refine AnyH.only (i:=8) (o:=⟨none,_,_,_,_,_⟩) (by kernel_rfl) rfl (by rfl) (fun K hK=>?_)
     refine zva 67 (.tmp 7) (.tmp 35) rfl W7.heap.size [.string t.text,.int .i64 (zNc p.sort.text),.int .i64 0,.slice none 0 0,.slice none 0 0] rfl rfl h7 Tryz.zYe rfl (zEq _ _) ?_
     refine hK.out _ _ ⟨hS.1.zta _ _ (by omega),hS.2.zta _ _ (by omega)⟩ ?_
     clear hK K
     try simp only [Act.put]
     refine wpAnyH_done (by kernel_rfl) ?_ _
     go_wp2_with fail
     go_meet
     exact ⟨_,rfl,hle,Below.row hc8 hle _,h7.zra _⟩
   case rest =>
    obtain ⟨g7,rfl,hg7,hc7,hy7⟩:=hcut
    rename World=>W7
    have HC7:=zh hc7
    have HY7:=zh hy7
    have hq7:=HQ6.out.stays hc7
    have y1:W7.cell? ⟨g7,1,none⟩=some (.int .i64 (zNc p.sort.text)):=hy7.cell 1
    have HRF:=zh (zaj (HPA.out.below hc7) hfl (zNc p.sort.text))
    unfold PtV at HRF
    clear hc7 hy7
    go_wp2_with ((with_reducible refine zqa 153 (.tmp 6) ?_);refine zia rfl 153 (.tmp 6) rfl g6 (zDa p sv fv cv) rfl hq7 Tryz.underlying153 rfl Tryz.zoc ?_)
    refine HRF.out.mono ?_
    clear HRF y1 hq7
    intro e w8 hp
    cases hz1:zve p.fields (zNc p.sort.text) 0 p.fields with
    | error pc =>
     obtain ⟨q,c⟩:=pc
     rw [hz1] at hp
     obtain ⟨rfl,hb⟩:=hp
     have HRes:=zh (HGO.out.trans (by rw [hz1]))
     have hB8:=HB6.out.trans ((HC7.out.trans (hb.mono HC7.out.size)).mono HB6.out.size)
     go_wp2_with fail
     exact ⟨rfl,zse.err HRes.out (hB8.mono hBw)⟩
    | ok fl =>
     rw [hz1] at hp
     obtain ⟨v1,rfl,hv1,hb⟩:=hp
     obtain ⟨a1,m1,k1,rfl⟩:∃ a n c,v1=.slice a n c:=(RAt.slice hv1).elim fun a h=>h.elim fun c h=>⟨a,_,c,h⟩
     generalize hgv1:Value.slice a1 m1 k1=v1 at *
     have HG1:=zh (HGO.out.trans (by rw [hz1]))
     have HC8:=zh (HC7.out.trans (hb.mono HC7.out.size))
     have HY8:=zh (HY7.out.stays hb)
     have HV8:=zh hv1
     have hth:=HY8.out.there 3 1 (by show 3+1≤5;omega) 0 (by omega)
     obtain ⟨x3,hx3⟩:∃ x,w8.cell? ⟨g7,3,none⟩=some x:=Option.isSome_iff_exists.1 hth.1
     have hfr3:w8.frozen? ⟨g7,3,none⟩=false:=hth.2
     obtain ⟨W9,hW9⟩:∃ W,w8.setCell ⟨g7,3,none⟩ v1=W:=⟨_,rfl⟩
     have he9:=setCell_eq_setRow w8 g7 3 _ _ (0,0) v1 HY8.out
     have HY9:=zh (show Blk W9 g7 [.string t.text,.int .i64 (zNc p.sort.text),.int .i64 0,v1,.slice none 0 0] 67 from hW9▸he9▸HY8.out.zra _)
     have HC9:=zh (show Below w6.heap.size w6 W9 from hW9▸he9▸Below.row HC8.out hg7 _)
     have HV9:=zh (show zml W9 fl (fun b=>W7.heap.size≤b) v1 from hW9▸hv1.setCell _ _ (fun b hb2=>by have:=HY7.out.lt;show b≠g7;omega))
     have hq9:=HQ6.out.stays HC9.out
     have y1:W9.cell? ⟨g7,1,none⟩=some (.int .i64 (zNc p.sort.text)):=HY9.out.cell 1
     have HB9:=zh (HB6.out.trans (HC9.out.mono HB6.out.size))
     have HOF:=zh (zVu (HRD.out.below HB9.out) (HPA.out.below HC9.out) hz2 (zNc p.sort.text))
     unfold PtV at HOF
     subst hgv1
     clear hv1 hb hth he9
     go_wp2_with ((with_reducible refine zqa 153 (.tmp 6) ?_);refine zia rfl 153 (.tmp 6) rfl g6 (zDa p sv fv cv) rfl hq9 Tryz.underlying153 rfl Tryz.zoc ?_)
     refine HOF.out.mono ?_
     clear HOF y1 hq9 hW9 hx3 hfr3
     generalize Value.slice a1 m1 k1=v1 at *
     intro e w10 hp
     cases hz3:ofP tys p (zNc p.sort.text) with
     | error pc =>
      obtain ⟨q,c⟩:=pc
      rw [hz3] at hp
      obtain ⟨rfl,hb⟩:=hp
      have HRes:=zh (HG1.out.trans (by rw [hz3]))
      have hB10:=HB9.out.trans (hb.mono HB9.out.size)
      go_wp2_with fail
      exact ⟨rfl,zse.err HRes.out (hB10.mono hBw)⟩
     | ok o =>
      rw [hz3] at hp
      obtain ⟨v2,rfl,rfl,hb⟩:=hp
      have HG2:=zh (HG1.out.trans (by rw [hz3]))
      have HC10:=zh (HC9.out.trans (hb.mono HC9.out.size))
      have HY10:=zh (HY9.out.stays hb)
      have HV10:=zh (HV9.out.below hb)
      have hth:=HY10.out.there 2 1 (by show 2+1≤5;omega) 0 (by omega)
      obtain ⟨x2,hx2⟩:∃ x,w10.cell? ⟨g7,2,none⟩=some x:=Option.isSome_iff_exists.1 hth.1
      have hfr2:w10.frozen? ⟨g7,2,none⟩=false:=hth.2
      obtain ⟨W11,hW11⟩:∃ W,w10.setCell ⟨g7,2,none⟩ (.int .i64 o)=W:=⟨_,rfl⟩
      have he11:=setCell_eq_setRow w10 g7 2 _ _ (0,0) (.int .i64 o) HY10.out
      have HY11:=zh (show Blk W11 g7 [.string t.text,.int .i64 (zNc p.sort.text),.int .i64 o,v1,.slice none 0 0] 67 from hW11▸he11▸HY10.out.zra _)
      have HC11:=zh (show Below w6.heap.size w6 W11 from hW11▸he11▸Below.row HC10.out hg7 _)
      have HV11:=zh (show zml W11 fl (fun b=>W7.heap.size≤b) v1 from hW11▸HV10.out.setCell _ _ (fun b hb2=>by have:=HY7.out.lt;show b≠g7;omega))
      have hq11:=HQ6.out.stays HC11.out
      have hy11:=HY11.out
      have HB11:=zh (HB6.out.trans (HC11.out.mono HB6.out.size))
      have HFC:=zh (zik (HPA.out.below HC11.out) hcl ⟨t.text,zNc p.sort.text,o,[],[]⟩ v1 (.slice none 0 0))
      unfold PtV TyV at HFC
      clear hb hth he11
      go_wp2_with (first
       | ((with_reducible refine zqa 153 (.tmp 6) ?_);refine zia rfl 153 (.tmp 6) rfl g6 (zDa p sv fv cv) rfl hq11 Tryz.underlying153 rfl Tryz.zoc ?_)
       | ((with_reducible refine zqa 67 (.tmp 7) ?_);refine zia rfl 67 (.tmp 7) rfl g7 [.string t.text,.int .i64 (zNc p.sort.text),.int .i64 o,v1,.slice none 0 0] rfl hy11 Tryz.underlying67 rfl Tryz.zYe ?_))
      refine HFC.out.mono ?_
      clear HFC hq11 hy11 hW11 hx2 hfr2
      intro e w12 hp
      cases hz4:zqd p.fields (zNc p.sort.text) o p.facts with
      | error pc =>
       obtain ⟨q,c⟩:=pc
       rw [hz4] at hp
       obtain ⟨rfl,hb⟩:=hp
       have HRes:=zh (HG2.out.trans (by rw [hz4]))
       have hB12:=HB11.out.trans (hb.mono HB11.out.size)
       go_wp2_with fail
       exact ⟨rfl,zse.err HRes.out (hB12.mono hBw)⟩
      | ok fcs =>
       rw [hz4] at hp
       obtain ⟨v3,rfl,hv3,hb⟩:=hp
       have HRes:=zh (show zCo tys t=.ok (⟨t.text,zNc p.sort.text,o,fl,fcs⟩:Ty) from HG2.out.trans (by rw [hz4]))
       obtain ⟨x,hx⟩:∃ x:Ty,(⟨t.text,zNc p.sort.text,o,fl,fcs⟩:Ty)=x:=⟨_,rfl⟩
       have hxn:x.name=t.text:=hx▸rfl
       rw [hx] at HRes
       have HC12:=zh (HC11.out.trans (hb.mono HC11.out.size))
       have HY12:=zh (HY11.out.stays hb)
       have HV12:=zh (HV11.out.below hb)
       have hle11:=HC11.out.size
       have hly7:=HY11.out.lt
       have hth:=HY12.out.there 4 1 (by show 4+1≤5;omega) 0 (by omega)
       obtain ⟨x4,hx4⟩:∃ x,w12.cell? ⟨g7,4,none⟩=some x:=Option.isSome_iff_exists.1 hth.1
       have hfr4:w12.frozen? ⟨g7,4,none⟩=false:=hth.2
       obtain ⟨a3,m3,k3,rfl⟩:∃ a n c,v3=.slice a n c:=(RAt.slice hv3).elim fun a h=>h.elim fun c h=>⟨a,_,c,h⟩
       obtain ⟨W13,hW13⟩:∃ W,w12.setCell ⟨g7,4,none⟩ (.slice a3 m3 k3)=W:=⟨_,rfl⟩
       have he13:=setCell_eq_setRow w12 g7 4 _ _ (0,0) (.slice a3 m3 k3) HY12.out
       have HY13:=zh (show Blk W13 g7 (zIa x v1 (.slice a3 m3 k3)) 67 from hW13▸he13▸hx▸HY12.out.zra _)
       have HC13:=zh (show Below w6.heap.size w6 W13 from hW13▸he13▸Below.row HC12.out hg7 _)
       have hW7l:=HC7.out.size
       have hg7l:=HY7.out.lt
       have HA13:=zh (show zPk W13 x (fun b=>w6.heap.size≤b∧b≠g7) v1 (.slice a3 m3 k3) from hx ▸
        ⟨(hW13▸HV12.out.setCell _ _ (fun b hb2=>by show b≠g7;omega):zml W13 fl (fun b=>W7.heap.size≤b) v1).mono fun b hb2 _=>⟨by omega,by omega⟩,
         (hW13▸RAt.setCell hv3 _ _ (fun b hb2=>by show b≠g7;omega):zhl W13 fcs (fun b=>W11.heap.size≤b) (.slice a3 m3 k3)).mono fun b hb2 _=>⟨by omega,by omega⟩⟩)
       have HB13:=zh (HB6.out.trans (HC13.out.mono HB6.out.size))
       have hw6n:=HB6.out.size
       obtain ⟨ta,tc,htv⟩:=HRD.out.t.slice
       subst htv
       have HR13:=zh (HRD.out.below HB13.out)
       have HK13:=zh (HK6.out.stays HC13.out)
       have HVB:=zh (show ∀ b,(Value.slice ta tys.length tc).ownBlock=some b→b<w.heap.size∧(B≤b∧b≠R∧b≠M) from fun b hb=>by
        obtain ⟨us,ho,hs',_⟩:=HRD.out.t
        exact ⟨(ho.lt b hb).2,hs' b hb⟩)
       clear hb hth he13 hv3
       go_wp2_with fail
       clear hW13 hx4 hfr4
       generalize Value.slice a3 m3 k3=v3 at *
       refine AnyE.zCc (S:=fun W=>Blk W R [(.slice ta tys.length tc),.map (some M)] 124∧Blk W w.heap.size (zaa t kv) 25) (by kernel_rfl) ⟨HR13.out.l.drew,HK13.out.drew⟩ (fun hS=>?_)
       refine AnyE.take (i:=0) (oi:=⟨some 51,_,_,_,_,_⟩) (v:=.pointer (some ⟨R,0,none⟩)) rfl (by kernel_rfl) (by kernel_rfl) (by kernel_rfl) (by kernel_rfl) (fun _ _ _ h=>h) (Or.inl ⟨by rfl,fun W _=>by go_simp⟩) hS ?_
       try simp only [Act.put,List.setIfInBounds_toArray,List.set_cons_zero,List.set_cons_succ]
       refine AnyE.take (i:=1) (oi:=⟨some 52,_,_,_,_,_⟩) (v:=.pointer (some ⟨R,0,none⟩)) rfl (by kernel_rfl) (by kernel_rfl) (by kernel_rfl) (by kernel_rfl) (fun _ _ _ h=>h) (Or.inl ⟨by rfl,fun W _=>by go_simp⟩) hS ?_
       try simp only [Act.put,List.setIfInBounds_toArray,List.set_cons_zero,List.set_cons_succ]
       refine AnyE.take (i:=2) (oi:=⟨some 53,_,_,_,_,_⟩) (v:=.pointer (some ⟨R,1,none⟩)) rfl (by kernel_rfl) (by kernel_rfl) (by kernel_rfl) (by kernel_rfl) (fun _ _ _ h=>h) (Or.inl ⟨by rfl,fun W _=>by go_simp⟩) hS ?_
       try simp only [Act.put,List.setIfInBounds_toArray,List.set_cons_zero,List.set_cons_succ]
       refine AnyE.take (i:=3) (oi:=⟨some 54,_,_,_,_,_⟩) (v:=.map (some M)) rfl (by kernel_rfl) (by kernel_rfl) (by kernel_rfl) (by kernel_rfl) (fun _ _ _ h=>h) (Or.inl ⟨by rfl,fun W hW=>by have hcx:W.cell? ⟨R,1,none⟩=some (.map (some M)):=(hW.1).cell 1;go_simp⟩) hS ?_
       try simp only [Act.put,List.setIfInBounds_toArray,List.set_cons_zero,List.set_cons_succ]
       refine AnyE.take (i:=4) (oi:=⟨some 55,_,_,_,_,_⟩) (v:=.pointer (some ⟨w.heap.size,1,none⟩)) rfl (by kernel_rfl) (by kernel_rfl) (by kernel_rfl) (by kernel_rfl) (fun _ _ _ h=>h) (Or.inl ⟨by rfl,fun W _=>by go_simp⟩) hS ?_
       try simp only [Act.put,List.setIfInBounds_toArray,List.set_cons_zero,List.set_cons_succ]
       refine AnyE.take (i:=5) (oi:=⟨some 56,_,_,_,_,_⟩) (v:=.string t.text) rfl (by kernel_rfl) (by kernel_rfl) (by kernel_rfl) (by kernel_rfl) (fun _ _ _ h=>h) (Or.inl ⟨by rfl,fun W hW=>by have hcx:W.cell? ⟨w.heap.size,1,none⟩=some (.string t.text):=(hW.2).cell 1;go_simp⟩) hS ?_
       try simp only [Act.put,List.setIfInBounds_toArray,List.set_cons_zero,List.set_cons_succ]
       refine AnyE.take (i:=6) (oi:=⟨some 57,_,_,_,_,_⟩) (v:=.pointer (some ⟨R,0,none⟩)) rfl (by kernel_rfl) (by kernel_rfl) (by kernel_rfl) (by kernel_rfl) (fun _ _ _ h=>h) (Or.inl ⟨by rfl,fun W _=>by go_simp⟩) hS ?_
       try simp only [Act.put,List.setIfInBounds_toArray,List.set_cons_zero,List.set_cons_succ]
       refine AnyE.take (i:=7) (oi:=⟨some 58,_,_,_,_,_⟩) (v:=.pointer (some ⟨R,0,none⟩)) rfl (by kernel_rfl) (by kernel_rfl) (by kernel_rfl) (by kernel_rfl) (fun _ _ _ h=>h) (Or.inl ⟨by rfl,fun W _=>by go_simp⟩) hS ?_
       try simp only [Act.put,List.setIfInBounds_toArray,List.set_cons_zero,List.set_cons_succ]
       refine AnyE.take (i:=8) (oi:=⟨some 59,_,_,_,_,_⟩) (v:=.pointer (some ⟨R,0,none⟩)) rfl (by kernel_rfl) (by kernel_rfl) (by kernel_rfl) (by kernel_rfl) (fun _ _ _ h=>h) (Or.inl ⟨by rfl,fun W _=>by go_simp⟩) hS ?_
       try simp only [Act.put,List.setIfInBounds_toArray,List.set_cons_zero,List.set_cons_succ]
       refine AnyE.take (i:=9) (oi:=⟨some 60,_,_,_,_,_⟩) (v:=(.slice ta tys.length tc)) rfl (by kernel_rfl) (by kernel_rfl) (by kernel_rfl) (by kernel_rfl) (fun _ _ _ h=>h) (Or.inl ⟨by rfl,fun W hW=>by have hcx:W.cell? ⟨R,0,none⟩=some ((.slice ta tys.length tc)):=(hW.1).cell 0;go_simp⟩) hS ?_
       try simp only [Act.put,List.setIfInBounds_toArray,List.set_cons_zero,List.set_cons_succ]
       refine AnyE.take (i:=10) (oi:=⟨some 61,_,_,_,_,_⟩) (v:=.int .i64 (tys.length:Int)) rfl (by kernel_rfl) (by kernel_rfl) (by kernel_rfl) (by kernel_rfl) (fun _ _ _ h=>h) (Or.inl ⟨by rfl,fun W _=>by go_simp⟩) hS ?_
       try simp only [Act.put,List.setIfInBounds_toArray,List.set_cons_zero,List.set_cons_succ]
       obtain ⟨mn,D,hmo,hmn,hmi,hmd⟩:=HR13.out.drew.m
       refine AnyE.one (i:=11) (o:=⟨none,_,_,_,_,_⟩) (by kernel_rfl) rfl (by rfl) (fun K hK=>?_)
       try simp only [Act.put,List.setIfInBounds_toArray,List.set_cons_zero,List.set_cons_succ]
       have HW1:=zh (show (Lit.int .i64 (tys.length:Int)).wf=true from WalkArith.wf_i64 (by omega))
       have HMN:=zh (show mn<maxLen from by unfold maxLen;omega)
       have HKEY:=zh (show keyOf Tryz.prog 9 (.string t.text)=some (zgg t.text) from WideMaps.keyOf_string_mk Tryz.underlying9 hz)
       refine zyh (D:=D) (R:=plainElem Tryz.prog 3) (b:=M) (n:=mn) (key:=.string t.text) (val:=.int .i64 (tys.length:Int)) (kl:=zgg t.text) (d:=.lit (.int .i64 (tys.length:Int))) (ps:=[]) W13.drew (.tmp 54) (.tmp 56) (.tmp 61) 99 rfl 9 3 zDp Tryz.underlying99 (hm:=rfl) (hown:=hmo) (hn:=HMN.out) (hx:=rfl) (hv:=rfl) (hkey:=HKEY.out) (hval:=plainElem_int Tryz.underlying3 HW1.out) (hK:=fun w14 hm1 hg1=>?_)
       have hML:=HRD.out.m.lt
       have hRL:=HRD.out.l.lt
       have HM14:=zh (show MapAt w14 M (tys++[x]) from MapAt.snoc hmn hmi hmd (by rw [hxn];exact hm1) (by rw [hxn];exact hf))
       have HL1:=zh (HR13.out.drew.l.grown hg1 (fun e=>HRD.out.ne (Option.some.inj e)))
       have HY14:=zh ((show Blk W13.drew g7 (zIa x v1 v3) 67 from HY13.out).grown hg1 (fun e=>by have:=Option.some.inj e;omega))
       have HT14:=zh (show zOc w14 tys (fun b=>B≤b∧b≠R∧b≠M) (.slice ta tys.length tc) from HR13.out.drew.t.keep fun b hb hl=>⟨hb,hg1.block b hl (fun e=>hb.2.2 (Option.some.inj e))⟩)
       have HB14:=zh (show Below B w w14 from (HB13.out.drew.mono hBw).grown hg1 (by have:=HB13.out.size;show B≤W13.heap.size;omega) (fun k hk=>by have:=Option.some.inj hk;have:=HRD.out.lo;omega))
       have HA14:=zh (show zPk w14 x (fun b=>w6.heap.size≤b∧b≠g7) v1 v3 from (show zPk W13.drew x _ v1 v3 from HA13.out).keep fun b hb hl=>⟨hb,hg1.block b hl (fun e=>by have:=Option.some.inj e;omega)⟩)
       have hsz14:w.heap.size≤w14.heap.size:=HB14.out.size
       clear hmo hmn hmi hmd hm1 hg1 hS
       refine hK.out _ _ (fun h=>absurd rfl h) ?_
       clear hK K
       refine AnyE.done (by kernel_rfl) ?_ _
       go_wp2_with fail
       clear hxn hx
       refine AnyE.zCc (S:=fun W=>Blk W R [(.slice ta tys.length tc),.map (some M)] 124∧Blk W g7 (zIa x v1 v3) 67) (by kernel_rfl) ⟨HL1.out.drew,HY14.out.drew⟩ (fun hS=>?_)
       replace HT14:=zh HT14.out.drew
       replace HM14:=zh (HM14.out.below (Below.refl _ _).drew)
       replace HB14:=zh HB14.out.drew
       replace HA14:=zh (show zPk w14.drew x (fun b=>w6.heap.size≤b∧b≠g7) v1 v3 from HA14.out.keep fun b hb _=>⟨hb,rfl⟩)
       generalize w14.drew=W15 at *
       refine AnyE.take (i:=0) (oi:=⟨some 62,_,_,_,_,_⟩) (v:=.pointer (some ⟨R,0,none⟩)) rfl (by kernel_rfl) (by kernel_rfl) (by kernel_rfl) (by kernel_rfl) (fun _ _ _ h=>h) (Or.inl ⟨by rfl,fun W _=>by go_simp⟩) hS ?_
       try simp only [Act.put,List.setIfInBounds_toArray,List.set_cons_zero,List.set_cons_succ]
       refine AnyE.take (i:=1) (oi:=⟨some 63,_,_,_,_,_⟩) (v:=.pointer (some ⟨R,0,none⟩)) rfl (by kernel_rfl) (by kernel_rfl) (by kernel_rfl) (by kernel_rfl) (fun _ _ _ h=>h) (Or.inl ⟨by rfl,fun W _=>by go_simp⟩) hS ?_
       try simp only [Act.put,List.setIfInBounds_toArray,List.set_cons_zero,List.set_cons_succ]
       refine AnyE.take (i:=2) (oi:=⟨some 64,_,_,_,_,_⟩) (v:=.pointer (some ⟨R,0,none⟩)) rfl (by kernel_rfl) (by kernel_rfl) (by kernel_rfl) (by kernel_rfl) (fun _ _ _ h=>h) (Or.inl ⟨by rfl,fun W _=>by go_simp⟩) hS ?_
       try simp only [Act.put,List.setIfInBounds_toArray,List.set_cons_zero,List.set_cons_succ]
       refine AnyE.take (i:=3) (oi:=⟨some 65,_,_,_,_,_⟩) (v:=.pointer (some ⟨R,0,none⟩)) rfl (by kernel_rfl) (by kernel_rfl) (by kernel_rfl) (by kernel_rfl) (fun _ _ _ h=>h) (Or.inl ⟨by rfl,fun W _=>by go_simp⟩) hS ?_
       try simp only [Act.put,List.setIfInBounds_toArray,List.set_cons_zero,List.set_cons_succ]
       refine AnyE.take (i:=4) (oi:=⟨some 66,_,_,_,_,_⟩) (v:=(.slice ta tys.length tc)) rfl (by kernel_rfl) (by kernel_rfl) (by kernel_rfl) (by kernel_rfl) (fun _ _ _ h=>h) (Or.inl ⟨by rfl,fun W hW=>by have hcx:W.cell? ⟨R,0,none⟩=some ((.slice ta tys.length tc)):=(hW.1).cell 0;go_simp⟩) hS ?_
       try simp only [Act.put,List.setIfInBounds_toArray,List.set_cons_zero,List.set_cons_succ]
       refine AnyE.take (i:=5) (oi:=⟨some 67,_,_,_,_,_⟩) (v:=.agg ([.string x.name,.int .i64 x.sort,.int .i64 x.of,v1,v3]).toArray) rfl (by kernel_rfl) (by kernel_rfl) (by kernel_rfl) (by kernel_rfl) (fun _ _ _ h=>h) (yieldsIf_load_mid (cs:=[.string x.name,.int .i64 x.sort,.int .i64 x.of,v1,v3]) (by rfl) 67 (.tmp 7) rfl (g7) 0 (by go_simp) _ (fun W hW j v hj=>by rw [Nat.zero_add,(hW.2).cell j];exact hj) Tryz.underlying67 rfl Tryz.zYe) hS ?_
       try simp only [Act.put,List.setIfInBounds_toArray,List.set_cons_zero,List.set_cons_succ]
       refine AnyE.one (i:=6) (o:=⟨some 68,_,_,_,_,_⟩) (by kernel_rfl) rfl (by rfl) (fun K hK=>?_)
       go_simp
       obtain ⟨W16,hx16⟩:∃ W,W15.alloc (.cells [.string x.name,.int .i64 x.sort,.int .i64 x.of,v1,v3].toArray 67)=W:=⟨_,rfl⟩
       have hb16:Below W15.heap.size W15 W16:=hx16▸(Below.refl _ _).alloc (Nat.le_refl _) _
       have h16:Blk W16 W15.heap.size (zIa x v1 v3) 67:=hx16▸Blk.new _ _ _
       try rw [hx16]
       clear hx16
       replace hS:Blk W16 R [(.slice ta tys.length tc),.map (some M)] 124∧Blk W16 g7 (zIa x v1 v3) 67:=⟨hS.1.stays hb16,hS.2.stays hb16⟩
       have HT16:=zh (HT14.out.below hb16)
       have HM16:=zh (HM14.out.below hb16)
       have HB16:=zh (HB14.out.trans (hb16.mono (Nat.le_trans hBw HB14.out.size)))
       have HA16:=zh (show zPk W16 x (fun b=>w6.heap.size≤b∧b≠g7) v1 v3 from HA14.out.keep fun b hb hl=>⟨hb,hb16.block b hl⟩)
       refine hK.out _ _ (fun _=>hS) ?_
       clear hK K
       try simp only [Act.put,List.setIfInBounds_toArray,List.set_cons_zero,List.set_cons_succ]
       refine AnyE.one (i:=7) (o:=⟨some 69,_,_,_,_,_⟩) (by kernel_rfl) rfl (by rfl) (fun K hK=>?_)
       obtain ⟨ic,zc,IC⟩:=Tryz.zNh
       refine zSd (b:=W15.heap.size) (.tmp 66) (.tmp 68) rfl IC rfl HT16.out (by have:=HB16.out.size;have:=HRD.out.l.lt;have:=HRD.out.m.lt;refine ⟨by omega,by omega,by omega⟩) rfl h16 (HA16.out.keep fun b hb _=>⟨⟨⟨by omega,by have:=HRD.out.l.lt;omega,by have:=HRD.out.m.lt;omega⟩,fun e=>by have:=(HVB.out b e).1;omega⟩,rfl⟩) (by omega) (fun v2 W17 hc2 hg2 hl2=>?_)
       have hneR:some R≠(Value.slice ta tys.length tc).ownBlock:=fun e=>(HVB.out R e.symm).2.2.1 rfl
       have hneM:some M≠(Value.slice ta tys.length tc).ownBlock:=fun e=>(HVB.out M e.symm).2.2.2 rfl
       have hneG:some g7≠(Value.slice ta tys.length tc).ownBlock:=fun e=>by have:=(HVB.out g7 e.symm).1;omega
       replace hS:Blk W17 R [(.slice ta tys.length tc),.map (some M)] 124∧Blk W17 g7 (zIa x v1 v3) 67:=⟨hS.1.grown hg2 hneR,hS.2.grown hg2 hneG⟩
       have HM17:=zh (HM16.out.kept hg2 hneM)
       have HB17:=zh (HB16.out.grown hg2 (by have:=HB16.out.size;omega) fun b hb=>(HVB.out b hb).2.1)
       have HC17:=zh hc2
       obtain ⟨a2,m2,k2,rfl⟩:∃ a n c,v2=.slice a n c:=hc2.slice.elim fun a h=>h.elim fun c h=>⟨a,_,c,h⟩
       clear hg2 hc2 hl2
       refine hK.out _ _ (fun _=>hS) ?_
       clear hK K
       try simp only [Act.put,List.setIfInBounds_toArray,List.set_cons_zero,List.set_cons_succ]
       refine AnyE.one (i:=8) (o:=⟨some 70,_,_,_,_,_⟩) (by kernel_rfl) rfl (by rfl) (fun K hK=>?_)
       go_simp
       refine hK.out _ _ (fun _=>hS) ?_
       clear hK K
       try simp only [Act.put,List.setIfInBounds_toArray,List.set_cons_zero,List.set_cons_succ]
       refine AnyE.take (i:=9) (oi:=⟨some 71,_,_,_,_,_⟩) (v:=.pointer (some ⟨R,0,none⟩)) rfl (by kernel_rfl) (by kernel_rfl) (by kernel_rfl) (by kernel_rfl) (fun _ _ _ h=>h) (Or.inl ⟨by rfl,fun W _=>by go_simp⟩) hS ?_
       try simp only [Act.put,List.setIfInBounds_toArray,List.set_cons_zero,List.set_cons_succ]
       have hl0:W17.cell? ⟨R,0,none⟩=some (.slice ta tys.length tc):=hS.1.cell 0
       have hlf:W17.frozen? ⟨R,0,none⟩=false:=(hS.1.there 0 1 (by simp) 0 (by omega)).2
       have HFIN:=zh (show zLl (W17.setCell ⟨R,0,none⟩ (.slice a2 m2 k2)) B R M (tys++[x]) (.slice a2 m2 k2) from ⟨by rw [setCell_eq_setRow W17 R 0 _ _ (0,0) _ hS.1];exact hS.1.zra _,HC17.out.keep fun b hb _=>⟨hb,Below.heap_setCell _ _ _ _ hb.2.1⟩,HM17.out.same (Below.heap_setCell _ _ _ _ (Ne.symm HRD.out.ne)),HRD.out.lo,HRD.out.ne⟩)
       have HBF:=zh (show Below B w (W17.setCell ⟨R,0,none⟩ (.slice a2 m2 k2)) from by rw [setCell_eq_setRow W17 R 0 _ _ (0,0) _ hS.1];exact Below.row HB17.out HRD.out.lo.1 _)
       refine AnyE.one (i:=10) (o:=⟨none,_,_,_,_,_⟩) (by kernel_rfl) rfl (by rfl) (fun K hK=>?_)
       go_simp
       refine hK.out _ _ (fun h=>absurd rfl h) ?_
       clear hK K
       refine AnyE.done (by kernel_rfl) ?_ _
       clear hS hl0 hlf
       go_wp2_with fail
       refine bodyPost_end (results_none Tryz.results34 _ _ _) rfl ?_
       exact zse.ok HRes.out HFIN.out HBF.out
end
section
open Go.RowKit
def zNs (a:T):Prop:=a.kind=2∧∀ n∈a.kids,zec n.text=true
def zLs (t:T):Prop:=zec t.text=true∧∃ a ys zs,t.kids=a :: (ys++zs)∧zNs a∧(∀ y∈ys,y.kind=3)∧(∀ z∈zs,z.kind=4)
def zjh (t:T):Prop:=t.kind=1→zLs t
theorem zGu {l:List Tok} (h:TG l):Ok (fun a l'=>zNs a∧TG l') (zKd l):=by
 unfold zKd
 exact (zWa h).bd fun t l1 h1=>Ok.cond (fun _=>Ok.ok ⟨⟨rfl,fun n hn=>by simp [T.kids] at hn⟩,h1.2⟩) (fun _=>(zdd h1.2).bd fun a l2 h2=>Ok.ok ⟨⟨rfl,fun n hn=>by
  obtain rfl:n=a:=by simpa [T.kids] using hn
  exact h2.1.1⟩,h2.2⟩)
theorem zZs {l:List Tok} (h:TG l):Ok (fun a l'=>a.kind=3∧TG l') (zsc l):=by
 unfold zsc
 exact (zme h).bd fun s l1 h1=>Ok.cond (fun _=>(zWc h1.2.tail).bd fun a l2 h2=>(zWa h2.2).bd fun _ l3 h3=>Ok.ok ⟨rfl,h3.2⟩) (fun _=>Ok.ok ⟨rfl,h1.2⟩)
theorem zTu {l:List Tok} (h:TG l):Ok (fun a l'=>a.kind=4∧TG l') (zWd l):=by
 unfold zWd zib
 exact (zEg h).bd fun a l1 h1=>(zWa h1.2).bd fun c l2 h2=>(zEg h2.2).bd fun b l3 h3=>Ok.ok ⟨rfl,h3.2⟩
theorem zyq {item:List Tok→R T} {P:T→Prop} (hi:∀ {l},TG l→Ok (fun a l'=>P a∧TG l') (item l)):∀ (n:Nat) {l:List Tok},TG l→Ok (fun xs l'=>(∀ x∈xs,P x)∧TG l') (zEd item n l)
 | 0,l,_=>Ok.err
 | n+1,l,h=>by
  rw [zEd]
  exact Ok.cond (fun _=>(hi h.tail).bd fun a l1 h1=>(zyq hi n h1.2).bd fun xs l2 h2=>Ok.ok ⟨fun x hx=>by
   rcases List.mem_cons.1 hx with rfl|hx
   ·exact h1.1
   ·exact h2.1 x hx,h2.2⟩) (fun _=>Ok.ok ⟨fun x hx=>by simp at hx,h⟩)
theorem zfp {item:List Tok→R T} {P:T→Prop} (hi:∀ {l},TG l→Ok (fun a l'=>P a∧TG l') (item l)) {l:List Tok} (h:TG l):Ok (fun xs l'=>(∀ x∈xs,P x)∧TG l') (zRd item l):=by
 unfold zRd
 exact (hi h).bd fun a l1 h1=>(zyq hi _ h1.2).bd fun xs l2 h2=>Ok.ok ⟨fun x hx=>by
  rcases List.mem_cons.1 hx with rfl|hx
  ·exact h1.1
  ·exact h2.1 x hx,h2.2⟩
theorem zYr {l:List Tok} (h:TG l):Ok (fun xs l'=>(∀ x∈xs,x.kind=3)∧TG l') (zXc l):=by
 unfold zXc
 exact Ok.cond (fun _=>(zfp zZs h.tail).bd fun xs l1 h1=>(zWa h1.2).bd fun _ l2 h2=>Ok.ok ⟨h1.1,h2.2⟩) (fun _=>Ok.ok ⟨fun x hx=>by simp at hx,h⟩)
theorem zRs {l:List Tok} (h:TG l):Ok (fun xs l'=>(∀ x∈xs,x.kind=4)∧TG l') (zld l):=by
 unfold zld
 exact Ok.cond (fun _=>zfp zTu h.tail) (fun _=>Ok.ok ⟨fun x hx=>by simp at hx,h⟩)
theorem zHu {p:Nat} {l:List Tok} (h:TG l):Ok (fun a l'=>zjh a∧TG l') (zdc p l):=by
 unfold zdc
 exact (zme h).bd fun s l1 h1=>(zGu h1.2).bd fun a l2 h2=>(zYr h2.2).bd fun ys l3 h3=>(zRs h3.2).bd fun zs l4 h4=>(zWa h4.2).bd fun _ l5 h5=>Ok.ok ⟨fun _=>⟨h1.1,a,ys,zs,rfl,h2.1,h3.1,h4.1⟩,h5.2⟩
theorem fn_q {p:Nat} {l:List Tok} (h:TG l):Ok (fun a l'=>zjh a∧TG l') (fnP p l):=by
 have h0:Ok (fun a _=>a.kind=6) (fnP p l):=by
  unfold fnP
  exact Ok.bd (G:=fun _ _=>True) (fun _ _ _=>trivial) fun s l1 _=>Ok.bd (G:=fun _ _=>True) (fun _ _ _=>trivial) fun xs l2 _=>Ok.bd (G:=fun _ _=>True) (fun _ _ _=>trivial) fun r l3 _=>Ok.bd (G:=fun _ _=>True) (fun _ _ _=>trivial) fun b l4 _=>Ok.ok rfl
 intro a l' e
 refine ⟨fun h1=>?_,(fn_g h a l' e).2⟩
 have:=h0 a l' e
 omega
theorem zLu {l:List Tok} (h:TG l):Ok (fun a l'=>zjh a∧TG l') (zfd l):=by
 unfold zfd
 exact (zWa h).bd fun t l1 h1=>Ok.cond (fun _=>zHu h1.2) (fun _=>fn_q h1.2)
theorem zbq:∀ (n:Nat) {l:List Tok},TG l→Ok (fun xs l'=>(∀ x∈xs,zjh x)∧TG l') (zQc n l)
 | 0,l,_=>Ok.err
 | n+1,l,h=>by
  rw [zQc]
  exact Ok.cond (fun _=>Ok.ok ⟨fun x hx=>by simp at hx,h⟩) (fun _=>(zLu h).bd fun a l1 h1=>(zbq n h1.2).bd fun xs l2 h2=>Ok.ok ⟨fun x hx=>by
   rcases List.mem_cons.1 hx with rfl|hx
   ·exact h1.1
   ·exact h2.1 x hx,h2.2⟩)
theorem zFi (s:ByteArray):∀ t∈(zhb s).1.kids,zjh t:=by
 have hz:∀ t∈zdb.kids,zjh t:=fun t ht=>by simp [zdb,T.kids] at ht
 unfold zhb
 cases hl:zZb s with
 | error e=>exact hz
 | ok ts =>
  simp only
  unfold zIc
  cases hu:zyd ts with
  | error e=>exact hz
  | ok q =>
   obtain ⟨t,l⟩:=q
   simp only
   by_cases hs:4096<t.size
   ·rw [if_pos hs];exact hz
   ·rw [if_neg hs]
    have h1:Ok (fun t l'=>(∀ x∈t.kids,zjh x)∧TG l') (zyd ts):=by
     unfold zyd
     exact (zbq _ (zTh hl)).bd fun xs l1 h=>Ok.ok ⟨h.1,h.2⟩
    exact (h1 t l hu).1
theorem zYg {s:ByteArray} (h:zec s=true):s.size≤16:=by
 unfold zec at h
 simp only [Bool.and_eq_true,decide_eq_true_eq] at h
 exact h.1.1.1.2
theorem filter_all {P:T→Bool}:∀ {l:List T},(∀ x∈l,P x=true)→l.filter P=l
 | _,h=>List.filter_eq_self.2 h
theorem zzf {P:T→Bool}:∀ {l:List T},(∀ x∈l,P x=false)→l.filter P=[]
 | _,h=>List.filter_eq_nil_iff.2 fun x hx=>by rw [h x hx];decide
theorem zNo {a:T} {ys zs:List T} (ha:a.kind=2) (hy:∀ y∈ys,y.kind=3) (hz:∀ z∈zs,z.kind=4):zUd (a :: (ys++zs))=⟨a,ys,zs⟩:=by
 unfold zUd
 have y2:=zzf (P:=fun t=>t.kind == 2) (l:=ys) fun y h=>by simp [hy y h]
 have z2:=zzf (P:=fun t=>t.kind == 2) (l:=zs) fun y h=>by simp [hz y h]
 have y3:=filter_all (P:=fun t=>t.kind == 3) (l:=ys) fun y h=>by simp [hy y h]
 have z3:=zzf (P:=fun t=>t.kind == 3) (l:=zs) fun y h=>by simp [hz y h]
 have y4:=zzf (P:=fun t=>t.kind == 4) (l:=ys) fun y h=>by simp [hy y h]
 have z4:=filter_all (P:=fun t=>t.kind == 4) (l:=zs) fun y h=>by simp [hz y h]
 simp only [List.filter_cons,List.filter_append,y2,z2,y3,z3,y4,z4,ha]
 simp
theorem zco {t:T} (h:zLs t):t.text.size≤16∧(zJa (zUd t.kids).sort 0).text.size≤16:=by
 obtain ⟨h1,a,ys,zs,e,ha,hy,hz⟩:=h
 refine ⟨zYg h1,?_⟩
 rw [e,zNo ha.1 hy hz]
 show (zJa a 0).text.size≤16
 unfold zJa
 cases hk:a.kids with
 | nil=>show zdb.text.size≤16;decide
 | cons n r=>exact zYg (ha.2 n (by rw [hk];simp))
end
end Go.Proofs.YtpjnpffcnmgdcaaGreatDoor
