/- The contract of the reader's param. -/
import Derived.Test.YtdhmdfhnkppnmaaDoorY22
import Derived.Test.YtdhmdfhnkppnmaaDoorY19
namespace Go.Proofs.YtdhmdfhnkppnmaaDoor
set_option maxRecDepth 100000
set_option maxHeartbeats 4000000
open Go.RowKit Go.Maps
def zUp (w:World) (r:E Prm) (e:Ending) (w':World):Prop :=
 match r with
 | .ok p=>e=.returned (.tuple #[zPi p,.int .i64 0,.int .i64 0])∧Below w.heap.size w w'
 | .error (q,c)=>e=.returned (.tuple #[zPi zOb,.int .i64 q,.int .i64 c])∧Below w.heap.size w w'
theorem zbk {tys:List Ty} {n:T} {l:List Prm} (h:l.any (zxc n.text)=true):zOg tys n l=.error (n.place,30):=by unfold zOg;rw [h];rfl
theorem zjl {tys:List Ty} {n:T} {l:List Prm} (h:l.any (zxc n.text)=false) (h2:zEc tys (zza n 0)=none):zOg tys n l=.error ((zza n 0).place,31):=by unfold zOg;rw [h,h2];rfl
theorem zvk {tys:List Ty} {n:T} {l:List Prm} {p:Prm} (h:l.any (zxc n.text)=false) (h2:zEc tys (zza n 0)=some p) (h3:zed tys p l=true):zOg tys n l=.error ((zza n 0).place,34):=by unfold zOg;rw [h,h2];simp only [h3];rfl
theorem zgo {tys:List Ty} {n:T} {l:List Prm} {p:Prm} (h:l.any (zxc n.text)=false) (h2:zEc tys (zza n 0)=some p) (h3:zed tys p l=false):zOg tys n l=.ok ⟨n.text,p.mode,p.ty⟩:=by unfold zOg;rw [h,h2];simp only [h3];rfl
theorem zjk {w:World} {A:Option Addr} {cap M:Nat} {tys:List Ty} (ht:Tys w A tys) (hlen:tys.length≤cap∧cap≤maxLen) (hm:MapAt w M tys) {t:T} {S:Nat→Prop} {kv:Value} (hk:KAt 25 w t.kids S kv) (hz:(zza (zza t 0) 0).text.size≤maxLen) {l:List Prm} {S':Nat→Prop} {v:Value} (hl:zHc w l S' v) :
  Calls Tryd.prog 24 #[RV A tys.length cap M,zma t kv,v] w (zUp w (zOg tys t l)):=by
 obtain ⟨W0,hW0⟩:∃ W,((w.alloc (.cells (zWa A tys.length cap M).toArray 64)).alloc (.cells (zaa t kv).toArray 25)).alloc (.cells (zha zOb).toArray 40)=W:=⟨_,rfl⟩
 have HB0:=zh (show Below w.heap.size w W0 from hW0▸((((Below.refl _ _).alloc (Nat.le_refl _) _).alloc (by simp) _).alloc (by simp;omega) _))
 have b1:=zh (show Blk W0 w.heap.size (zWa A tys.length cap M) 64 from hW0▸(((Blk.new w _ _).alloc _).alloc _))
 have b2:=zh (show Blk W0 (w.heap.size+1) (zaa t kv) 25 from hW0▸((Blk.zIe w _ _ _).alloc _))
 have b3:=zh (show Blk W0 (w.heap.size+1+1) (zha zOb) 40 from hW0▸(by simpa using Blk.new ((w.alloc (.cells (zWa A tys.length cap M).toArray 64)).alloc (.cells (zaa t kv).toArray 25)) (zha zOb) 40))
 have ZONE:=zRb zOb
 have HT:=zh ht
 have HM:=zh hm
 have HK:=zh hk
 have HL:=zh hl
 have HCN:=zh (zyh (w.heap.size+1) t.text W0 (b2.out.cell 1) b2.out.lt (hl.below HB0.out))
 have hmf:=zkb
 obtain ⟨va,vc,rfl⟩:=hl.slice
 unfold zWa zaa zha zOb at hW0
 unfold RV zma
 clear ht hm hk hl
 go_enter Tryd.func24,Tryd.ntmps24
 go_upto_region 1 with fail
 try rw [hW0]
 clear hW0
 go_wp2_with fail
 refine HCN.out.mono ?_
 rintro e w1 ⟨rfl,hb⟩
 have HB1:=zh (HB0.out.trans (hb.mono HB0.out.size))
 have R1:=zh (b1.out.stays hb)
 have N1:=zh (b2.out.stays hb)
 have P1:=zh (b3.out.stays hb)
 clear hb HCN hmf
 cases ha:l.any (zxc t.text)
 ·have n1:=N1.out
  go_wp2_with ((with_reducible refine zva 25 (.tmp 4) ?_);refine zfa rfl 25 (.tmp 4) rfl (w.heap.size+1) (zaa t kv) rfl n1 Tryd.underlying25 rfl Tryd.zca ?_)
  refine (zCj (t:=t) (kv:=kv) (HK.out.below HB1.out) 0).mono ?_
  rintro e w2 ⟨u,rfl,hku,hb⟩
  generalize hmt:zza t 0=m at *
  obtain ⟨W2,hW2⟩:∃ W,w2.alloc (.cells (zaa m u).toArray 25)=W:=⟨_,rfl⟩
  have hb2:Below w2.heap.size w2 W2:=hW2▸(Below.refl _ _).alloc (Nat.le_refl _) _
  have hb12:=hb.trans (hb2.mono hb.size)
  have HB2:=zh (HB1.out.trans (hb12.mono HB1.out.size))
  have R2:=zh (R1.out.stays hb12)
  have N2:=zh (N1.out.stays hb12)
  have P2:=zh (P1.out.stays hb12)
  have Q2:=zh (show Blk W2 w2.heap.size (zaa m u) 25 from hW2▸Blk.new w2 _ _)
  have hu1:=hku.one
  have HKU:=zh (hku.below hb2)
  have hg2:w.heap.size+1+1<w2.heap.size:=Nat.lt_of_lt_of_le P1.out.lt hb.size
  have HHD:=zh (zjh (A:=A) (n:=tys.length) (cap:=cap) (HM.out.below HB2.out) HKU.out hz)
  clear hku hb hb2 hb12 n1
  unfold zma
  unfold RV zma at HHD
  have q2:=Q2.out
  have r2:=R2.out
  go_wp2_with (first
   | ((with_reducible refine zra 25 (.tmp 9) ?_);refine zga rfl 25 (.tmp 9) (.tmp 19) rfl (zaa m u) (old:=zba) rfl rfl Tryd.zca rfl (zda _ _ hu1) ?_;rw [hW2])
   | ((with_reducible refine zva 64 (.tmp 3) ?_);refine zfa rfl 64 (.tmp 3) rfl w.heap.size (zWa A tys.length cap M) rfl r2 Tryd.underlying64 rfl Tryd.zyg ?_)
   | ((with_reducible refine zva 25 (.tmp 9) ?_);refine zfa rfl 25 (.tmp 9) rfl w2.heap.size (zaa m u) rfl q2 Tryd.underlying25 rfl Tryd.zca ?_))
  refine HHD.out.mono ?_
  clear HHD hW2
  rintro e w3 ⟨rfl,hb⟩
  obtain ⟨W3,hW3⟩:∃ W,w3.alloc (.cells (zha ((zEc tys m).getD zOb)).toArray 40)=W:=⟨_,rfl⟩
  have hb2:Below w3.heap.size w3 W3:=hW3▸(Below.refl _ _).alloc (Nat.le_refl _) _
  have hb12:=hb.trans (hb2.mono hb.size)
  have HB3:=zh (HB2.out.trans (hb12.mono HB2.out.size))
  have R3:=zh (R2.out.stays hb12)
  have N3:=zh (N2.out.stays hb12)
  have P3:=zh (P2.out.stays hb12)
  have Q3:=zh (Q2.out.stays hb12)
  have X3:=zh (show Blk W3 w3.heap.size (zha ((zEc tys m).getD zOb)) 40 from hW3▸Blk.new w3 _ _)
  have hg3:w2.heap.size<w3.heap.size:=Nat.lt_of_lt_of_le Q2.out.lt hb.size
  clear hb hb2 hb12 q2 r2
  cases hh:zEc tys m with
  | none =>
   have HRes:=zh (zjl (tys:=tys) ha (by rw [hmt];exact hh))
   rw [hmt] at HRes
   rw [hh] at hW3 X3
   simp only [zrp,Option.getD_none] at hW3 X3 ⊢
   unfold zPi
   go_wp2_with ((with_reducible refine zra 40 (.tmp 10) ?_);refine zga rfl 40 (.tmp 10) (.tmp 24) rfl (zha zOb) (old:=zha zOb) rfl rfl Tryd.zNa rfl (zRb _) ?_;rw [hW3])
   clear hW3
   go_upto_region 8 with fail
   refine wp_region_held_drew (S:=fun W=>Blk W w2.heap.size (zaa m u) 25∧Blk W (w.heap.size+1+1) (zha zOb) 40) (by kernel_rfl) ⟨Q3.out,P3.out⟩ (fun hS=>?_)
   refine wpAnyH_take (i:=0) (oi:=⟨some 36,_,_,_,_,_⟩) (v:=.agg (zha zOb).toArray) rfl (by kernel_rfl) (by kernel_rfl) (by kernel_rfl) (fun _ _ _ h=>h) (Or.inl ⟨by rfl,fun W _=>by unfold zha zOb;go_simp⟩) hS ?_
   try simp only [Act.put,List.setIfInBounds_toArray,List.set_cons_zero,List.set_cons_succ]
   refine wpAnyH_take (i:=1) (oi:=⟨some 37,_,_,_,_,_⟩) (v:=.pointer (some ⟨w2.heap.size,3,none⟩)) rfl (by kernel_rfl) (by kernel_rfl) (by kernel_rfl) (fun _ _ _ h=>h) (Or.inl ⟨by rfl,fun W _=>by go_simp⟩) hS ?_
   try simp only [Act.put,List.setIfInBounds_toArray,List.set_cons_zero,List.set_cons_succ]
   refine wpAnyH_take (i:=2) (oi:=⟨some 38,_,_,_,_,_⟩) (v:=.int .i64 (m).place) rfl (by kernel_rfl) (by kernel_rfl) (by kernel_rfl) (fun _ _ _ h=>h) (Or.inl ⟨by rfl,fun W hW=>by have hcx:W.cell? ⟨w2.heap.size,3,none⟩=some (.int .i64 (m).place):=hW.1.cell 3;go_simp⟩) hS ?_
   try simp only [Act.put,List.setIfInBounds_toArray,List.set_cons_zero,List.set_cons_succ]
   refine wpAnyH_take (i:=3) (oi:=⟨some 39,_,_,_,_,_⟩) (v:=.int .i64 31) rfl (by kernel_rfl) (by kernel_rfl) (by kernel_rfl) (fun _ _ _ h=>h) (Or.inl ⟨by rfl,fun W _=>by go_simp⟩) hS ?_
   try simp only [Act.put,List.setIfInBounds_toArray,List.set_cons_zero,List.set_cons_succ]
   refine AnyH.only (i:=4) (o:=⟨none,_,_,_,_,_⟩) (by kernel_rfl) rfl (by rfl) (fun K hK=>?_)
   refine zka 40 (.tmp 6) (.tmp 36) rfl ((w.heap.size+1+1)) (zha zOb) rfl rfl hS.2 Tryd.zNa rfl ZONE ?_
   have hS3:Blk (World.setRow _ ((w.heap.size+1+1)) (zha zOb).toArray) w2.heap.size (zaa m u) 25∧Blk (World.setRow _ ((w.heap.size+1+1)) (zha zOb).toArray) (w.heap.size+1+1) (zha zOb) 40:=⟨hS.1.zla _ _ (by omega),hS.2.zna _⟩
   refine hK.out _ _ hS3 ?_
   clear hK K hS
   try simp only [Act.put]
   refine wpAnyH_take (i:=5) (oi:=⟨some 7,_,_,_,_,_⟩) (v:=.int .i64 (m).place) rfl (by kernel_rfl) (by kernel_rfl) (by kernel_rfl) (fun _ _ _ h=>h) (Or.inl ⟨by rfl,fun W _=>by go_simp⟩) hS3 ?_
   try simp only [Act.put,List.setIfInBounds_toArray,List.set_cons_zero,List.set_cons_succ]
   refine wpAnyH_take (i:=6) (oi:=⟨some 8,_,_,_,_,_⟩) (v:=.int .i64 31) rfl (by kernel_rfl) (by kernel_rfl) (by kernel_rfl) (fun _ _ _ h=>h) (Or.inl ⟨by rfl,fun W _=>by go_simp⟩) hS3 ?_
   try simp only [Act.put,List.setIfInBounds_toArray,List.set_cons_zero,List.set_cons_succ]
   refine wpAnyH_done (by kernel_rfl) ?_ _
   go_wp2_with fail
   refine zPb (cs:=zha zOb) Tryd.results24 rfl hS3.2 Tryd.underlying40 rfl Tryd.zNa rfl rfl rfl ?_
   rw [HRes.out]
   exact ⟨rfl,Below.row (HB3.out).drew (by omega) _⟩
  | some p =>
   rw [hh] at hW3 X3
   simp only [zrp,Option.getD_some] at hW3 X3 ⊢
   have x3:=X3.out
   have r30:W3.cell? ⟨w.heap.size,0,none⟩=some (.slice A tys.length cap):=R3.out.cell 0
   have r31:W3.cell? ⟨w.heap.size,1,none⟩=some (.map (some M)):=R3.out.cell 1
   have x30:W3.cell? ⟨w3.heap.size,0,none⟩=some (.string p.name):=X3.out.cell 0
   have x31:W3.cell? ⟨w3.heap.size,1,none⟩=some (.int .i64 p.mode):=X3.out.cell 1
   have x32:W3.cell? ⟨w3.heap.size,2,none⟩=some (.int .i64 p.ty):=X3.out.cell 2
   have HCL:=zh (zqj (M:=M) (HT.out.below HB3.out) hlen (zGn hh) (HL.out.below HB3.out))
   unfold RV zPi at HCL
   unfold zPi
   go_wp2_with ((with_reducible refine zra 40 (.tmp 10) ?_);refine zga rfl 40 (.tmp 10) (.tmp 24) rfl (zha p) (old:=zha zOb) rfl rfl Tryd.zNa rfl (zRb _) ?_;rw [hW3])
   clear hW3 r30 r31 x30 x31 x32
   refine HCL.out.mono ?_
   clear HCL
   rintro e w4 ⟨rfl,hb⟩
   have HB4:=zh (HB3.out.trans (hb.mono HB3.out.size))
   have N4:=zh (N3.out.stays hb)
   have P4:=zh (P3.out.stays hb)
   have Q4:=zh (Q3.out.stays hb)
   have X4:=zh (X3.out.stays hb)
   clear hb x3
   cases hc:zed tys p l
   ·have HRes:=zh (zgo (tys:=tys) ha (by rw [hmt];exact hh) hc)
    have n41:w4.cell? ⟨w.heap.size+1,1,none⟩=some (.string t.text):=N4.out.cell 1
    have x40:w4.cell? ⟨w3.heap.size,0,none⟩=some (.string p.name):=X4.out.cell 0
    have f40:w4.frozen? ⟨w3.heap.size,0,none⟩=false:=(X4.out.there 0 3 (by simp [zha]) 0 (by omega)).2
    obtain ⟨W5,hW5⟩:∃ W,w4.setCell ⟨w3.heap.size,0,none⟩ (.string t.text)=W:=⟨_,rfl⟩
    have hrow:W5=w4.setRow w3.heap.size (zha ⟨t.text,p.mode,p.ty⟩).toArray:=hW5▸setCell_eq_setRow w4 w3.heap.size 0 _ _ (0,0) _ X4.out
    have p5:Blk W5 (w.heap.size+1+1) (zha zOb) 40:=hrow▸P4.out.zla _ _ (by omega)
    have x5:Blk W5 w3.heap.size (zha ⟨t.text,p.mode,p.ty⟩) 40:=hrow▸X4.out.zna _
    have HB5:=zh (show Below w.heap.size w W5 from hrow▸Below.row HB4.out (by omega) _)
    clear hrow
    go_wp2_with (first
     | ((with_reducible refine zva 40 (.tmp 10) ?_);refine zfa rfl 40 (.tmp 10) rfl w3.heap.size (zha ⟨t.text,p.mode,p.ty⟩) rfl x5 Tryd.underlying40 rfl Tryd.zNa ?_)
     | ((with_reducible refine zra 40 (.tmp 6) ?_);refine zea rfl 40 (.tmp 6) (.tmp 43) rfl (w.heap.size+1+1) (zha ⟨t.text,p.mode,p.ty⟩) rfl rfl p5 Tryd.zNa rfl (zRb _) ?_))
    refine zPb (cs:=zha ⟨t.text,p.mode,p.ty⟩) Tryd.results24 rfl (p5.zna (zha ⟨t.text,p.mode,p.ty⟩)) Tryd.underlying40 rfl Tryd.zNa rfl rfl rfl ?_
    rw [HRes.out]
    exact ⟨rfl,Below.row HB5.out (by omega) _⟩
   ·have HRes:=zh (zvk (tys:=tys) ha (by rw [hmt];exact hh) hc)
    rw [hmt] at HRes
    go_upto_region 8 with fail
    refine wp_region_held_drew (S:=fun W=>Blk W w2.heap.size (zaa m u) 25∧Blk W (w.heap.size+1+1) (zha zOb) 40) (by kernel_rfl) ⟨Q4.out,P4.out⟩ (fun hS=>?_)
    refine wpAnyH_take (i:=0) (oi:=⟨some 36,_,_,_,_,_⟩) (v:=.agg (zha zOb).toArray) rfl (by kernel_rfl) (by kernel_rfl) (by kernel_rfl) (fun _ _ _ h=>h) (Or.inl ⟨by rfl,fun W _=>by unfold zha zOb;go_simp⟩) hS ?_
    try simp only [Act.put,List.setIfInBounds_toArray,List.set_cons_zero,List.set_cons_succ]
    refine wpAnyH_take (i:=1) (oi:=⟨some 37,_,_,_,_,_⟩) (v:=.pointer (some ⟨w2.heap.size,3,none⟩)) rfl (by kernel_rfl) (by kernel_rfl) (by kernel_rfl) (fun _ _ _ h=>h) (Or.inl ⟨by rfl,fun W _=>by go_simp⟩) hS ?_
    try simp only [Act.put,List.setIfInBounds_toArray,List.set_cons_zero,List.set_cons_succ]
    refine wpAnyH_take (i:=2) (oi:=⟨some 38,_,_,_,_,_⟩) (v:=.int .i64 (m).place) rfl (by kernel_rfl) (by kernel_rfl) (by kernel_rfl) (fun _ _ _ h=>h) (Or.inl ⟨by rfl,fun W hW=>by have hcx:W.cell? ⟨w2.heap.size,3,none⟩=some (.int .i64 (m).place):=hW.1.cell 3;go_simp⟩) hS ?_
    try simp only [Act.put,List.setIfInBounds_toArray,List.set_cons_zero,List.set_cons_succ]
    refine wpAnyH_take (i:=3) (oi:=⟨some 39,_,_,_,_,_⟩) (v:=.int .i64 34) rfl (by kernel_rfl) (by kernel_rfl) (by kernel_rfl) (fun _ _ _ h=>h) (Or.inl ⟨by rfl,fun W _=>by go_simp⟩) hS ?_
    try simp only [Act.put,List.setIfInBounds_toArray,List.set_cons_zero,List.set_cons_succ]
    refine AnyH.only (i:=4) (o:=⟨none,_,_,_,_,_⟩) (by kernel_rfl) rfl (by rfl) (fun K hK=>?_)
    refine zka 40 (.tmp 6) (.tmp 36) rfl ((w.heap.size+1+1)) (zha zOb) rfl rfl hS.2 Tryd.zNa rfl ZONE ?_
    have hS3:Blk (World.setRow _ ((w.heap.size+1+1)) (zha zOb).toArray) w2.heap.size (zaa m u) 25∧Blk (World.setRow _ ((w.heap.size+1+1)) (zha zOb).toArray) (w.heap.size+1+1) (zha zOb) 40:=⟨hS.1.zla _ _ (by omega),hS.2.zna _⟩
    refine hK.out _ _ hS3 ?_
    clear hK K hS
    try simp only [Act.put]
    refine wpAnyH_take (i:=5) (oi:=⟨some 7,_,_,_,_,_⟩) (v:=.int .i64 (m).place) rfl (by kernel_rfl) (by kernel_rfl) (by kernel_rfl) (fun _ _ _ h=>h) (Or.inl ⟨by rfl,fun W _=>by go_simp⟩) hS3 ?_
    try simp only [Act.put,List.setIfInBounds_toArray,List.set_cons_zero,List.set_cons_succ]
    refine wpAnyH_take (i:=6) (oi:=⟨some 8,_,_,_,_,_⟩) (v:=.int .i64 34) rfl (by kernel_rfl) (by kernel_rfl) (by kernel_rfl) (fun _ _ _ h=>h) (Or.inl ⟨by rfl,fun W _=>by go_simp⟩) hS3 ?_
    try simp only [Act.put,List.setIfInBounds_toArray,List.set_cons_zero,List.set_cons_succ]
    refine wpAnyH_done (by kernel_rfl) ?_ _
    go_wp2_with fail
    refine zPb (cs:=zha zOb) Tryd.results24 rfl hS3.2 Tryd.underlying40 rfl Tryd.zNa rfl rfl rfl ?_
    rw [HRes.out]
    exact ⟨rfl,Below.row (HB4.out).drew (by omega) _⟩
 ·have HRes:=zh (zbk (tys:=tys) (n:=t) ha)
  go_upto_region 2 with fail
  refine wp_region_held_drew (S:=fun W=>Blk W (w.heap.size+1) (zaa t (kv)) 25∧Blk W (w.heap.size+1+1) (zha zOb) 40) (by kernel_rfl) ⟨N1.out,P1.out⟩ (fun hS=>?_)
  refine wpAnyH_take (i:=0) (oi:=⟨some 15,_,_,_,_,_⟩) (v:=.agg (zha zOb).toArray) rfl (by kernel_rfl) (by kernel_rfl) (by kernel_rfl) (fun _ _ _ h=>h) (Or.inl ⟨by rfl,fun W _=>by unfold zha zOb;go_simp⟩) hS ?_
  try simp only [Act.put,List.setIfInBounds_toArray,List.set_cons_zero,List.set_cons_succ]
  refine wpAnyH_take (i:=1) (oi:=⟨some 16,_,_,_,_,_⟩) (v:=.pointer (some ⟨(w.heap.size+1),3,none⟩)) rfl (by kernel_rfl) (by kernel_rfl) (by kernel_rfl) (fun _ _ _ h=>h) (Or.inl ⟨by rfl,fun W _=>by go_simp⟩) hS ?_
  try simp only [Act.put,List.setIfInBounds_toArray,List.set_cons_zero,List.set_cons_succ]
  refine wpAnyH_take (i:=2) (oi:=⟨some 17,_,_,_,_,_⟩) (v:=.int .i64 (t).place) rfl (by kernel_rfl) (by kernel_rfl) (by kernel_rfl) (fun _ _ _ h=>h) (Or.inl ⟨by rfl,fun W hW=>by have hcx:W.cell? ⟨(w.heap.size+1),3,none⟩=some (.int .i64 (t).place):=hW.1.cell 3;go_simp⟩) hS ?_
  try simp only [Act.put,List.setIfInBounds_toArray,List.set_cons_zero,List.set_cons_succ]
  refine AnyH.only (i:=3) (o:=⟨none,_,_,_,_,_⟩) (by kernel_rfl) rfl (by rfl) (fun K hK=>?_)
  refine zka 40 (.tmp 6) (.tmp 15) rfl ((w.heap.size+1+1)) (zha zOb) rfl rfl hS.2 Tryd.zNa rfl ZONE ?_
  have hS3:Blk (World.setRow _ ((w.heap.size+1+1)) (zha zOb).toArray) (w.heap.size+1) (zaa t (kv)) 25∧Blk (World.setRow _ ((w.heap.size+1+1)) (zha zOb).toArray) (w.heap.size+1+1) (zha zOb) 40:=⟨hS.1.zla _ _ (by omega),hS.2.zna _⟩
  refine hK.out _ _ hS3 ?_
  clear hK K hS
  try simp only [Act.put]
  refine wpAnyH_take (i:=4) (oi:=⟨some 7,_,_,_,_,_⟩) (v:=.int .i64 (t).place) rfl (by kernel_rfl) (by kernel_rfl) (by kernel_rfl) (fun _ _ _ h=>h) (Or.inl ⟨by rfl,fun W _=>by go_simp⟩) hS3 ?_
  try simp only [Act.put,List.setIfInBounds_toArray,List.set_cons_zero,List.set_cons_succ]
  refine wpAnyH_take (i:=5) (oi:=⟨some 8,_,_,_,_,_⟩) (v:=.int .i64 30) rfl (by kernel_rfl) (by kernel_rfl) (by kernel_rfl) (fun _ _ _ h=>h) (Or.inl ⟨by rfl,fun W _=>by go_simp⟩) hS3 ?_
  try simp only [Act.put,List.setIfInBounds_toArray,List.set_cons_zero,List.set_cons_succ]
  refine wpAnyH_done (by kernel_rfl) ?_ _
  go_wp2_with fail
  refine zPb (cs:=zha zOb) Tryd.results24 rfl hS3.2 Tryd.underlying40 rfl Tryd.zNa rfl rfl rfl ?_
  rw [HRes.out]
  exact ⟨rfl,Below.row (HB1.out).drew (by omega) _⟩
end Go.Proofs.YtdhmdfhnkppnmaaDoor
namespace Go.Proofs.YtdhmdfhnkppnmaaDoor
set_option maxRecDepth 100000
set_option maxHeartbeats 4000000
open Go.RowKit Go.Maps
def sg0:Sg:=⟨⟨#[]⟩,[],zOb⟩
def zqa (s:Sg) (pv:Value):List Value:=[.string s.name,pv,.string s.ret.name,.int .i64 s.ret.mode,.int .i64 s.ret.ty]
def SgV (s:Sg) (pv:Value):Value:=.agg #[.string s.name,pv,.string s.ret.name,.int .i64 s.ret.mode,.int .i64 s.ret.ty]
theorem zAf (s:Sg) {pv:Value} (h:pv.oneCell'=true):∀ u∈zqa s pv,u.oneCell'=true:=by
 intro u hu
 simp only [zqa,List.mem_cons,List.not_mem_nil,or_false] at hu
 rcases hu with rfl|rfl|rfl|rfl|rfl
 all_goals first|rfl|exact h
theorem Tryd.zZc:(Tryd.prog.info? 42).map (·.size)=some 5:=by kernel_rfl
def zZp (w:World) (r:E Sg) (e:Ending) (w':World):Prop :=
 match r with
 | .ok s=>∃ pv,e=.returned (.tuple #[SgV s pv,.int .i64 0,.int .i64 0])∧zHc w' s.params (fun b=>w.heap.size≤b) pv∧Below w.heap.size w w'
 | .error (q,c)=>e=.returned (.tuple #[SgV sg0 (.slice none 0 0),.int .i64 q,.int .i64 c])∧Below w.heap.size w w'
theorem Tryd.zRo:∃ i z,zBe Tryd.prog 37 40 3 32 i z:=by
 have h:(Tryd.prog.info? 40).map (fun i=>(i.zero,i.size,i.bytes))=some (some (.agg #[.string ⟨#[]⟩,.int .i64 0,.int .i64 0]),3,32):=by kernel_rfl
 obtain ⟨i0,hi,hz0,hz1,hz2⟩:=info_parts h
 exact ⟨i0,_,Tryd.underlying37,hi,hz0,hz1,hz2,rfl⟩
theorem zfi {tys:List Ty} {n:T} {l:List Prm} {q:Nat} {c:Int} (h:zOg tys n l=.error (q,c)):c≠0:=by
 unfold zOg at h
 cases h1:l.any (zxc n.text)
 ·rw [h1] at h
  cases h2:zEc tys (zza n 0) with
  | none=>rw [h2] at h;cases h;decide
  | some p =>
   rw [h2] at h
   simp only at h
   cases h3:zed tys p l
   ·rw [h3] at h;cases h
   ·rw [h3] at h;cases h;decide
 ·rw [h1] at h;cases h;decide
theorem zcl {tys:List Ty} {l:List Prm} {n:T} {r:List T} {e:Nat × Int} (h:zOg tys n l=.error e):zgd tys l (n :: r)=.error e:=by rw [zgd,h]
theorem zXm {tys:List Ty} {l:List Prm} {n:T} {r:List T} {p:Prm} (h:zOg tys n l=.ok p):zgd tys l (n :: r)=zgd tys (l++[p]) r:=by rw [zgd,h]
theorem zKi {tys:List Ty} {n:T} (h:8<(zJc n.kids).params.length):zSg tys n=.error (n.place,22):=by unfold zSg;simp [h]
theorem zbm {tys:List Ty} {n:T} (h:¬ 8<(zJc n.kids).params.length):zSg tys n=match zgd tys [] (zJc n.kids).params with
  | .error e=>.error e
  | .ok l=>match zEc tys (zJc n.kids).res with
   | none=>.error ((zJc n.kids).res.place,31)
   | some r=>.ok ⟨n.text,l,r⟩:=by unfold zSg;rw [decide_eq_false h];rfl
structure zWn (w2 W:World) (s:ByteArray) (m:T) (rv:Value) (l:List Prm) (pv:Value):Prop where
 b:Below w2.heap.size w2 W
 p:Blk W w2.heap.size (zaa m rv) 25
 x:Blk W (w2.heap.size+1) (zqa ⟨s,l,zOb⟩ pv) 42
 f:zHc W l (fun b=>w2.heap.size+1<b) pv
section
variable {w2 W W':World} {s:ByteArray} {m:T} {rv pv:Value} {l:List Prm}
theorem zWn.stay (h:zWn w2 W s m rv l pv) (hb:Below W.heap.size W W'):zWn w2 W' s m rv l pv :=
 ⟨h.b.trans (hb.mono (Nat.le_of_lt h.p.lt)),h.p.stays hb,h.x.stays hb,h.f.below hb⟩
theorem zWn.add (h:zWn w2 W s m rv l pv) (hg:W.grownBy W' pv.ownBlock) {l':List Prm} {pv':Value} (hf:zHc W' l' (fun b=>w2.heap.size+1<b) pv') :
  zWn w2 (W'.setCell ⟨w2.heap.size+1,1,none⟩ pv') s m rv l' pv':=by
 have hr:∀ k,pv.ownBlock=some k→w2.heap.size+1<k:=fun k hk=>h.f.2 k hk
 have hx:=h.x.grown hg (fun e=>by have:=hr _ e.symm;omega)
 have hp:=h.p.grown hg (fun e=>by have:=hr _ e.symm;omega)
 rw [setCell_eq_setRow W' (w2.heap.size+1) 1 _ _ (0,0) pv' hx]
 exact ⟨Below.row (h.b.grown hg (by have:=h.p.lt;omega) (fun k hk=>by have:=hr k hk;omega)) (by omega) _,hp.zla (w2.heap.size+1) _ (by omega),hx.zna (zqa ⟨s,l',zOb⟩ pv'),hf.setRow _ _ (fun b hb=>by omega)⟩
end
theorem zyn {w:World} {A:Option Addr} {cap M:Nat} {tys:List Ty} (ht:Tys w A tys) (hlen:tys.length≤cap∧cap≤maxLen) (hm:MapAt w M tys) {t:T} {S:Nat→Prop} {kv:Value} (hk:KAt 25 w t.kids S kv) (hkl:t.kids.length≤4096)
  (hz:(∀ p∈(zJc t.kids).params,(zza (zza p 0) 0).text.size≤maxLen)∧(zza (zJc t.kids).res 0).text.size≤maxLen) :
  Calls Tryd.prog 14 #[RV A tys.length cap M,zma t kv] w (zZp w (zSg tys t)):=by
 obtain ⟨i0,z0,I⟩:=Tryd.zRo
 obtain ⟨W0,hW0⟩:∃ W,((w.alloc (.cells (zWa A tys.length cap M).toArray 64)).alloc (.cells (zaa t kv).toArray 25)).alloc (.cells (zqa sg0 (.slice none 0 0)).toArray 42)=W:=⟨_,rfl⟩
 have HB0:=zh (show Below w.heap.size w W0 from hW0▸((((Below.refl _ _).alloc (Nat.le_refl _) _).alloc (by simp) _).alloc (by simp;omega) _))
 have b1:=zh (show Blk W0 w.heap.size (zWa A tys.length cap M) 64 from hW0▸(((Blk.new w _ _).alloc _).alloc _))
 have b2:=zh (show Blk W0 (w.heap.size+1) (zaa t kv) 25 from hW0▸((Blk.zIe w _ _ _).alloc _))
 have b3:=zh (show Blk W0 (w.heap.size+1+1) (zqa sg0 (.slice none 0 0)) 42 from hW0▸(by simpa using Blk.new ((w.alloc (.cells (zWa A tys.length cap M).toArray 64)).alloc (.cells (zaa t kv).toArray 25)) (zqa sg0 (.slice none 0 0)) 42))
 have ZONE:=zAf sg0 (pv:=.slice none 0 0) rfl
 have HT:=zh ht
 have HM:=zh hm
 have HZ:=zh hz
 have HPA:=zh (zck (hk.below HB0.out) hkl)
 unfold zWa zaa zqa sg0 zOb at hW0
 unfold zma at HPA ⊢
 unfold RV
 clear ht hm hk hz
 have n0:=b2.out
 go_enter Tryd.func14,Tryd.ntmps14
 go_upto_region 1 with fail
 try rw [hW0]
 clear hW0
 go_wp2_with ((with_reducible refine zva 25 (.tmp 3) ?_);refine zfa rfl 25 (.tmp 3) rfl (w.heap.size+1) (zaa t kv) rfl n0 Tryd.underlying25 rfl Tryd.zca ?_)
 refine HPA.out.mono ?_
 clear HPA
 rintro e w2 ⟨fv,rv,rfl,hfp,hfr,hb⟩
 generalize hfe:zJc t.kids=fp at *
 obtain ⟨ps,m⟩:=fp
 simp only at hfp hfr ⊢
 obtain ⟨W2,hW2⟩:∃ W,w2.alloc (.cells (zaa m rv).toArray 25)=W:=⟨_,rfl⟩
 have hb2:Below w2.heap.size w2 W2:=hW2▸(Below.refl _ _).alloc (Nat.le_refl _) _
 have HBW:=zh (HB0.out.trans (hb.mono HB0.out.size))
 have HB2:=zh hb2
 have R2:=zh (b1.out.stays hb)
 have N2:=zh (b2.out.stays hb)
 have Z2:=zh (b3.out.stays hb)
 have hz2:w.heap.size+1+1<w2.heap.size:=Z2.out.lt
 have Q2:=zh (show Blk W2 w2.heap.size (zaa m rv) 25 from hW2▸Blk.new w2 _ _)
 have HFP:=zh hfp
 have HFR:=zh hfr
 have hr1:=hfr.one
 have hpl:ps.length≤4096:=by
  have h1:=congrArg (fun f:Fp=>f.params.length) hfe
  have h2:=List.length_filter_le (fun x:T=>x.kind == 7) t.kids
  simp only [zJc] at h1
  omega
 obtain ⟨fa,fc,rfl⟩:=hfp.len
 have HFE:=zh hfe
 clear hb hb2 hfp hfr n0 hfe
 unfold zma
 by_cases h8:8<ps.length
 ·have HRes:=zh (zKi (tys:=tys) (n:=t) (by rw [HFE.out];exact h8))
  have h8i:(8:Int)<(ps.length:Int):=by omega
  go_wp2_with ((with_reducible refine zra 25 (.tmp 8) ?_);refine zga rfl 25 (.tmp 8) (.tmp 21) rfl (zaa m rv) (old:=zba) rfl rfl Tryd.zca rfl (zda _ _ hr1) ?_;rw [hW2])
  clear hW2
  have N3:=zh (N2.out.stays HB2.out)
  have Z3:=zh (Z2.out.stays HB2.out)
  have HB3:=zh (HBW.out.trans (HB2.out.mono HBW.out.size))
  go_upto_region 3 with fail
  refine wp_region_held_drew (S:=fun W=>Blk W (w.heap.size+1) (zaa t (kv)) 25∧Blk W (w.heap.size+1+1) (zqa sg0 (.slice none 0 0)) 42) (by kernel_rfl) ⟨N3.out,Z3.out⟩ (fun hS=>?_)
  refine wpAnyH_take (i:=0) (oi:=⟨some 25,_,_,_,_,_⟩) (v:=.agg (zqa sg0 (.slice none 0 0)).toArray) rfl (by kernel_rfl) (by kernel_rfl) (by kernel_rfl) (fun _ _ _ h=>h) (Or.inl ⟨by rfl,fun W _=>by unfold zqa sg0 zOb;go_simp⟩) hS ?_
  try simp only [Act.put,List.setIfInBounds_toArray,List.set_cons_zero,List.set_cons_succ]
  refine wpAnyH_take (i:=1) (oi:=⟨some 26,_,_,_,_,_⟩) (v:=.pointer (some ⟨(w.heap.size+1),3,none⟩)) rfl (by kernel_rfl) (by kernel_rfl) (by kernel_rfl) (fun _ _ _ h=>h) (Or.inl ⟨by rfl,fun W _=>by go_simp⟩) hS ?_
  try simp only [Act.put,List.setIfInBounds_toArray,List.set_cons_zero,List.set_cons_succ]
  refine wpAnyH_take (i:=2) (oi:=⟨some 27,_,_,_,_,_⟩) (v:=.int .i64 (t).place) rfl (by kernel_rfl) (by kernel_rfl) (by kernel_rfl) (fun _ _ _ h=>h) (Or.inl ⟨by rfl,fun W hW=>by have hcx:W.cell? ⟨(w.heap.size+1),3,none⟩=some (.int .i64 (t).place):=hW.1.cell 3;go_simp⟩) hS ?_
  try simp only [Act.put,List.setIfInBounds_toArray,List.set_cons_zero,List.set_cons_succ]
  refine AnyH.only (i:=3) (o:=⟨none,_,_,_,_,_⟩) (by kernel_rfl) rfl (by rfl) (fun K hK=>?_)
  refine zka 42 (.tmp 4) (.tmp 25) rfl ((w.heap.size+1+1)) (zqa sg0 (.slice none 0 0)) rfl rfl hS.2 Tryd.zZc rfl ZONE ?_
  have hS3:Blk (World.setRow _ ((w.heap.size+1+1)) (zqa sg0 (.slice none 0 0)).toArray) (w.heap.size+1) (zaa t (kv)) 25∧Blk (World.setRow _ ((w.heap.size+1+1)) (zqa sg0 (.slice none 0 0)).toArray) (w.heap.size+1+1) (zqa sg0 (.slice none 0 0)) 42:=⟨hS.1.zla _ _ (by omega),hS.2.zna _⟩
  refine hK.out _ _ hS3 ?_
  clear hK K hS
  try simp only [Act.put]
  refine wpAnyH_take (i:=4) (oi:=⟨some 5,_,_,_,_,_⟩) (v:=.int .i64 (t).place) rfl (by kernel_rfl) (by kernel_rfl) (by kernel_rfl) (fun _ _ _ h=>h) (Or.inl ⟨by rfl,fun W _=>by go_simp⟩) hS3 ?_
  try simp only [Act.put,List.setIfInBounds_toArray,List.set_cons_zero,List.set_cons_succ]
  refine wpAnyH_take (i:=5) (oi:=⟨some 6,_,_,_,_,_⟩) (v:=.int .i64 22) rfl (by kernel_rfl) (by kernel_rfl) (by kernel_rfl) (fun _ _ _ h=>h) (Or.inl ⟨by rfl,fun W _=>by go_simp⟩) hS3 ?_
  try simp only [Act.put,List.setIfInBounds_toArray,List.set_cons_zero,List.set_cons_succ]
  refine wpAnyH_done (by kernel_rfl) ?_ _
  go_wp2_with fail
  refine zPb (cs:=zqa sg0 (.slice none 0 0)) Tryd.results14 rfl hS3.2 Tryd.underlying42 rfl Tryd.zZc rfl rfl rfl ?_
  rw [HRes.out]
  exact ⟨rfl,Below.row (HB3.out).drew (by omega) _⟩
 ·have HGO:=zh (zbm (tys:=tys) (n:=t) (by rw [HFE.out];exact h8))
  rw [HFE.out] at HGO
  simp only at HGO
  have h8i:¬ (8:Int)<(ps.length:Int):=by omega
  have h8p:ps.length≤8:=by omega
  obtain ⟨W3,hW3⟩:∃ W,W2.alloc (.cells (zqa ⟨t.text,[],zOb⟩ (.slice none 0 0)).toArray 42)=W:=⟨_,rfl⟩
  have hsz2:W2.heap.size=w2.heap.size+1:=by rw [← hW2];simp
  have HS3:=zh (show zWn w2 W3 t.text m rv [] (.slice none 0 0) from hW3▸⟨HB2.out.alloc (by omega) _,Q2.out.alloc _,hsz2▸Blk.new W2 _ _,RAt.nil _ _⟩)
  have n21:W2.cell? ⟨w.heap.size+1,1,none⟩=some (.string t.text):=(N2.out.stays HB2.out).cell 1
  go_upto_region 4 with ((with_reducible refine zra 25 (.tmp 8) ?_);refine zga rfl 25 (.tmp 8) (.tmp 21) rfl (zaa m rv) (old:=zba) rfl rfl Tryd.zca rfl (zda _ _ hr1) ?_;rw [hW2])
  clear hW2
  have HSZ:=zh hsz2
  clear hsz2
  go_upto_region 5 with ((with_reducible refine zra 42 (.tmp 9) ?_);refine zga rfl 42 (.tmp 9) (.tmp 30) rfl (zqa ⟨t.text,[],zOb⟩ (.slice none 0 0)) (old:=zqa sg0 (.slice none 0 0)) rfl rfl Tryd.zZc rfl (zAf _ rfl) ?_;rw [hW3])
  rw [HSZ.out]
  clear hW3 n21
  go_wp2_with fail
  go_loopw [33] (fun i wr=>∃ k:Nat,k≤ps.length∧i=.int .i64 k∧∃ l pv,zWn w2 wr t.text m rv l pv∧l.length=k∧zgd tys [] ps=zgd tys l (ps.drop k)) (fun i _=>ps.length-(intOf i).toNat)
  case atStart=>exact ⟨0,by omega,rfl,[],_,HS3.out,rfl,by rw [List.drop_zero]⟩
  case round =>
   obtain ⟨k,hkk,rfl,l,pv,hst,hll,heq⟩:=hrel
   have HLL:=zh hll
   clear hll
   have HST:=zh hst
   have HBR:=zh (HBW.out.trans (hst.b.mono HBW.out.size))
   have R3:=zh (R2.out.stays hst.b)
   have N3:=zh (N2.out.stays hst.b)
   have Z3:=zh (Z2.out.stays hst.b)
   have hwr:w2.heap.size+1<wr.heap.size:=hst.x.lt
   by_cases hlt:k<ps.length
   ·obtain ⟨tk,htk⟩:∃ tk,ps[k]?=some tk:=⟨_,List.getElem?_eq_getElem hlt⟩
    obtain ⟨g,cp,hsl,hgl,hcap,hcm,hget⟩:=(HFP.out.form).resolve_left fun h=>by rw [h.2] at hlt;simp at hlt
    obtain ⟨rfl,rfl⟩:fa=some ⟨g,0,none⟩∧fc=cp:=by simpa using hsl
    obtain ⟨u,hr,hu⟩:=hget k tk htk
    have HR:=zh (zoa hr hst.b hgl)
    have HEQ:=zh (heq.trans (show _=zgd tys l (tk :: ps.drop (k+1)) by rw [List.drop_eq_getElem_cons hlt,(List.getElem?_eq_some_iff.1 htk).2]))
    obtain ⟨W4,hW4⟩:∃ W,wr.alloc (.cells (zaa tk u).toArray 25)=W:=⟨_,rfl⟩
    have hb1:Below wr.heap.size wr W4:=hW4▸(Below.refl _ _).alloc (Nat.le_refl _) _
    have HS4:=zh (hst.stay hb1)
    have HB4:=zh (HBR.out.trans (hb1.mono HBR.out.size))
    have HB5:=zh (show Blk W4 wr.heap.size (zaa tk u) 25 from hW4▸Blk.new wr _ _)
    have HU:=zh (hu.kat.below HS4.out.b)
    have hu1:=hu.one'
    have HPM:=zh (zjk (HT.out.below HB4.out) hlen (HM.out.below HB4.out) HU.out (HZ.out.1 tk (List.mem_of_getElem? htk)) HS4.out.f)
    obtain ⟨va,vc,rfl⟩:=hst.f.slice
    have x41:W4.cell? ⟨w2.heap.size+1,1,none⟩=some (.slice va l.length vc):=HS4.out.x.cell 1
    have hb5:=HB5.out
    have r4:=R3.out.stays hb1
    unfold RV zma at HPM
    clear hget hr hu hst hsl heq htk hb1
    go_wp2_with (first
     | ((with_reducible refine zva 25 (.tmp 35) ?_);refine wpList_load_mid rfl 25 (.tmp 35) rfl g (k * 5) rfl (zaa tk u) _ HR.out Tryd.underlying25 rfl Tryd.zca ?_)
     | ((with_reducible refine zra 25 (.tmp 11) ?_);refine zga rfl 25 (.tmp 11) (.tmp 36) rfl (zaa tk u) (old:=zba) rfl rfl Tryd.zca rfl (zda _ _ hu1) ?_;rw [hW4])
     | ((with_reducible refine zva 64 (.tmp 2) ?_);refine zfa rfl 64 (.tmp 2) rfl w.heap.size (zWa A tys.length cap M) rfl r4 Tryd.underlying64 rfl Tryd.zyg ?_)
     | ((with_reducible refine zva 25 (.tmp 11) ?_);refine zfa rfl 25 (.tmp 11) rfl wr.heap.size (zaa tk u) rfl hb5 Tryd.underlying25 rfl Tryd.zca ?_))
    refine HPM.out.mono ?_
    clear HPM hb5 r4 hW4 x41
    intro e w5 hp
    cases ho:zOg tys tk l with
    | error pc =>
     obtain ⟨q,c⟩:=pc
     rw [ho] at hp
     obtain ⟨rfl,hb⟩:=hp
     have HRes:=zh (show zSg tys t=.error (q,c) from by rw [HGO.out,HEQ.out,zcl ho])
     have hc0:=zfi ho
     have hc1:(c != 0)=true:=by simpa using hc0
     have HS5:=zh (HS4.out.stay hb)
     have HB5:=zh (HB4.out.trans (hb.mono HB4.out.size))
     obtain ⟨W6,hW6⟩:∃ W,w5.alloc (.cells (zha zOb).toArray 40)=W:=⟨_,rfl⟩
     have hb2:Below w5.heap.size w5 W6:=hW6▸(Below.refl _ _).alloc (Nat.le_refl _) _
     have z6:=Z2.out.stays (HS5.out.stay hb2).b
     have HB6:=zh (HB5.out.trans (hb2.mono HB5.out.size))
     have hZ:=ZONE
     clear hb hb2 ho hc0
     unfold zPi
     go_wp2_with (first
      | ((with_reducible refine zra 40 (.tmp 12) ?_);refine zga rfl 40 (.tmp 12) (.tmp 43) rfl (zha zOb) (old:=zha zOb) rfl rfl Tryd.zNa rfl (zRb _) ?_;rw [hW6])
      | ((with_reducible refine zra 42 (.tmp 4) ?_);refine zea rfl 42 (.tmp 4) (.tmp 48) rfl (w.heap.size+1+1) (zqa sg0 (.slice none 0 0)) rfl rfl z6 Tryd.zZc rfl hZ ?_))
     refine zPb (cs:=zqa sg0 (.slice none 0 0)) Tryd.results14 rfl (z6.zna (zqa sg0 (.slice none 0 0))) Tryd.underlying42 rfl Tryd.zZc rfl rfl rfl ?_
     rw [HRes.out]
     exact ⟨rfl,Below.row HB6.out (by omega) _⟩
    | ok p =>
     rw [ho] at hp
     obtain ⟨rfl,hb⟩:=hp
     have HN:=zh (HEQ.out.trans (zXm ho))
     have HS5:=zh (HS4.out.stay hb)
     obtain ⟨W6,hW6⟩:∃ W,w5.alloc (.cells (zha p).toArray 40)=W:=⟨_,rfl⟩
     have hb2:Below w5.heap.size w5 W6:=hW6▸(Below.refl _ _).alloc (Nat.le_refl _) _
     have HS6:=zh (HS5.out.stay hb2)
     have HX6:=zh (show Blk W6 w5.heap.size (zha p) 40 from hW6▸Blk.new w5 _ _)
     have HS7:=zh (HS6.out.stay ((Below.refl W6.heap.size W6).alloc (Nat.le_refl _) (.cells (zha p).toArray 40)))
     have HLT:=zh (RAt.lit (e:=40) (m:=3) (c:=zha) W6 [p] (zha p) 1 rfl (by simp) rfl (by decide) (fun _=>True) trivial)
     have x61:W6.cell? ⟨w2.heap.size+1,1,none⟩=some (.slice va l.length vc):=HS6.out.x.cell 1
     have x6:=HX6.out
     have hn3:(zha p).length=3:=rfl
     clear hb hb2 ho
     unfold zPi
     go_wp2_with (first
      | ((with_reducible refine zra 40 (.tmp 12) ?_);refine zga rfl 40 (.tmp 12) (.tmp 43) rfl (zha p) (old:=zha zOb) rfl rfl Tryd.zNa rfl (zRb _) ?_;rw [hW6])
      | ((with_reducible refine zva 40 (.tmp 12) ?_);refine zfa rfl 40 (.tmp 12) rfl w5.heap.size (zha p) rfl x6 Tryd.underlying40 rfl Tryd.zNa ?_)
      | (at_builtin;refine ztd zvf zRb (by omega) (by omega) rfl (.tmp 52) (.tmp 54) rfl I rfl HS7.out.f rfl HLT.out ?c3 ?c4 ?_))
     case c3=>exact HS7.out.x.lt
     case c4=>have:=HLL.out;simp;omega
     intro v' w8 hv' hg'
     have HS8:=zh (HS7.out.add hg' hv')
     have x8:=HS7.out.x.grown hg' (fun e=>by have:=HS7.out.f.2 _ e.symm;omega)
     have x81:w8.cell? ⟨w2.heap.size+1,1,none⟩=some (.slice va l.length vc):=x8.cell 1
     have f81:w8.frozen? ⟨w2.heap.size+1,1,none⟩=false:=(x8.there 1 1 (by simp [zqa]) 0 (by omega)).2
     obtain ⟨va2,vc2,rfl⟩:=hv'.slice
     rw [show (l++[p]).length=l.length+1 by simp] at HS8
     clear hv' hg' x8 x61 x6 hW6
     go_wp2
     go_roundw
     case rel=>exact ⟨k+1,by omega,by go_num,_,_,HS8.out,by have:=HLL.out;simp;omega,HN.out⟩
     case measure=>simp [intOf];omega
   ·obtain rfl:k=ps.length:=by omega
    have HRes:=zh (show zgd tys [] ps=.ok l by rw [heq,List.drop_length];rfl)
    have HHD:=zh (zjh (A:=A) (n:=tys.length) (cap:=cap) (HM.out.below HBR.out) (HFR.out.below HST.out.b) HZ.out.2)
    have p3:=HST.out.p
    have r3:=R3.out
    unfold RV zma at HHD
    clear heq hst
    go_wp2_with (first
     | ((with_reducible refine zva 64 (.tmp 2) ?_);refine zfa rfl 64 (.tmp 2) rfl w.heap.size (zWa A tys.length cap M) rfl r3 Tryd.underlying64 rfl Tryd.zyg ?_)
     | ((with_reducible refine zva 25 (.tmp 8) ?_);refine zfa rfl 25 (.tmp 8) rfl w2.heap.size (zaa m rv) rfl p3 Tryd.underlying25 rfl Tryd.zca ?_))
    refine HHD.out.mono ?_
    clear HHD p3 r3
    rintro e w5 ⟨rfl,hb⟩
    have HS5:=zh (HST.out.stay hb)
    have HB5:=zh (HBR.out.trans (hb.mono HBR.out.size))
    obtain ⟨W6,hW6⟩:∃ W,w5.alloc (.cells (zha ((zEc tys m).getD zOb)).toArray 40)=W:=⟨_,rfl⟩
    have hb2:Below w5.heap.size w5 W6:=hW6▸(Below.refl _ _).alloc (Nat.le_refl _) _
    have HS6:=zh (HS5.out.stay hb2)
    have HB6:=zh (HB5.out.trans (hb2.mono HB5.out.size))
    have Z6:=zh (Z2.out.stays HS6.out.b)
    have HX6:=zh (show Blk W6 w5.heap.size (zha ((zEc tys m).getD zOb)) 40 from hW6▸Blk.new w5 _ _)
    have hg5:w2.heap.size+1<w5.heap.size:=HS5.out.x.lt
    clear hb hb2
    cases hh:zEc tys m with
    | none =>
     have HR2:=zh (show zSg tys t=.error (m.place,31) from by rw [HGO.out,HRes.out];simp only [hh])
     rw [hh] at hW6
     simp only [zrp,Option.getD_none] at hW6 ⊢
     unfold zPi
     go_upto_region 15 with ((with_reducible refine zra 40 (.tmp 15) ?_);refine zga rfl 40 (.tmp 15) (.tmp 62) rfl (zha zOb) (old:=zha zOb) rfl rfl Tryd.zNa rfl (zRb _) ?_;rw [hW6])
     clear hW6
     have p6:=HS6.out.p
     go_upto_region 15 with fail
     refine wp_region_held_drew (S:=fun W=>Blk W w2.heap.size (zaa m rv) 25∧Blk W (w.heap.size+1+1) (zqa sg0 (.slice none 0 0)) 42) (by kernel_rfl) ⟨p6,Z6.out⟩ (fun hS=>?_)
     refine wpAnyH_take (i:=0) (oi:=⟨some 66,_,_,_,_,_⟩) (v:=.agg (zqa sg0 (.slice none 0 0)).toArray) rfl (by kernel_rfl) (by kernel_rfl) (by kernel_rfl) (fun _ _ _ h=>h) (Or.inl ⟨by rfl,fun W _=>by unfold zqa sg0 zOb;go_simp⟩) hS ?_
     try simp only [Act.put,List.setIfInBounds_toArray,List.set_cons_zero,List.set_cons_succ]
     refine wpAnyH_take (i:=1) (oi:=⟨some 67,_,_,_,_,_⟩) (v:=.pointer (some ⟨w2.heap.size,3,none⟩)) rfl (by kernel_rfl) (by kernel_rfl) (by kernel_rfl) (fun _ _ _ h=>h) (Or.inl ⟨by rfl,fun W _=>by go_simp⟩) hS ?_
     try simp only [Act.put,List.setIfInBounds_toArray,List.set_cons_zero,List.set_cons_succ]
     refine wpAnyH_take (i:=2) (oi:=⟨some 68,_,_,_,_,_⟩) (v:=.int .i64 (m).place) rfl (by kernel_rfl) (by kernel_rfl) (by kernel_rfl) (fun _ _ _ h=>h) (Or.inl ⟨by rfl,fun W hW=>by have hcx:W.cell? ⟨w2.heap.size,3,none⟩=some (.int .i64 (m).place):=hW.1.cell 3;go_simp⟩) hS ?_
     try simp only [Act.put,List.setIfInBounds_toArray,List.set_cons_zero,List.set_cons_succ]
     refine wpAnyH_take (i:=3) (oi:=⟨some 69,_,_,_,_,_⟩) (v:=.int .i64 31) rfl (by kernel_rfl) (by kernel_rfl) (by kernel_rfl) (fun _ _ _ h=>h) (Or.inl ⟨by rfl,fun W _=>by go_simp⟩) hS ?_
     try simp only [Act.put,List.setIfInBounds_toArray,List.set_cons_zero,List.set_cons_succ]
     refine AnyH.only (i:=4) (o:=⟨none,_,_,_,_,_⟩) (by kernel_rfl) rfl (by rfl) (fun K hK=>?_)
     refine zka 42 (.tmp 4) (.tmp 66) rfl ((w.heap.size+1+1)) (zqa sg0 (.slice none 0 0)) rfl rfl hS.2 Tryd.zZc rfl ZONE ?_
     have hS3:Blk (World.setRow _ ((w.heap.size+1+1)) (zqa sg0 (.slice none 0 0)).toArray) w2.heap.size (zaa m rv) 25∧Blk (World.setRow _ ((w.heap.size+1+1)) (zqa sg0 (.slice none 0 0)).toArray) (w.heap.size+1+1) (zqa sg0 (.slice none 0 0)) 42:=⟨hS.1.zla _ _ (by omega),hS.2.zna _⟩
     refine hK.out _ _ hS3 ?_
     clear hK K hS
     try simp only [Act.put]
     refine wpAnyH_take (i:=5) (oi:=⟨some 5,_,_,_,_,_⟩) (v:=.int .i64 (m).place) rfl (by kernel_rfl) (by kernel_rfl) (by kernel_rfl) (fun _ _ _ h=>h) (Or.inl ⟨by rfl,fun W _=>by go_simp⟩) hS3 ?_
     try simp only [Act.put,List.setIfInBounds_toArray,List.set_cons_zero,List.set_cons_succ]
     refine wpAnyH_take (i:=6) (oi:=⟨some 6,_,_,_,_,_⟩) (v:=.int .i64 31) rfl (by kernel_rfl) (by kernel_rfl) (by kernel_rfl) (fun _ _ _ h=>h) (Or.inl ⟨by rfl,fun W _=>by go_simp⟩) hS3 ?_
     try simp only [Act.put,List.setIfInBounds_toArray,List.set_cons_zero,List.set_cons_succ]
     refine wpAnyH_done (by kernel_rfl) ?_ _
     go_wp2_with fail
     refine zPb (cs:=zqa sg0 (.slice none 0 0)) Tryd.results14 rfl hS3.2 Tryd.underlying42 rfl Tryd.zZc rfl rfl rfl ?_
     rw [HR2.out]
     exact ⟨rfl,Below.row (HB6.out).drew (by omega) _⟩
    | some r =>
     have HR2:=zh (show zSg tys t=.ok ⟨t.text,l,r⟩ from by rw [HGO.out,HRes.out];simp only [hh])
     rw [hh] at hW6 HX6
     simp only [zrp,Option.getD_some] at hW6 HX6 ⊢
     have x6:=HX6.out
     have y6:=HS6.out.x
     obtain ⟨W7,hW7⟩:∃ W,W6.setRow (w2.heap.size+1) (zqa ⟨t.text,l,r⟩ pv).toArray=W:=⟨_,rfl⟩
     have HEQ:=zh ((zCc (zha r) 2 W6 (zqa ⟨t.text,l,zOb⟩ pv) y6).trans hW7)
     have y7:Blk W7 (w2.heap.size+1) (zqa ⟨t.text,l,r⟩ pv) 42:=hW7▸y6.zna _
     have z7:Blk W7 (w.heap.size+1+1) (zqa sg0 (.slice none 0 0)) 42:=hW7▸Z6.out.zla _ _ (by omega)
     have HB7:=zh (show Below w.heap.size w W7 from hW7▸Below.row HB6.out (by omega) _)
     have HF7:=zh (show zHc W7 l (fun b=>w2.heap.size+1<b) pv from hW7▸HS6.out.f.setRow _ _ (fun b hb=>by omega))
     have hone:=zAf ⟨t.text,l,r⟩ HS6.out.f.one
     clear hW7
     unfold zPi
     go_wp2_with (first
      | ((with_reducible refine zra 40 (.tmp 15) ?_);refine zga rfl 40 (.tmp 15) (.tmp 62) rfl (zha r) (old:=zha zOb) rfl rfl Tryd.zNa rfl (zRb _) ?_;rw [hW6])
      | ((with_reducible refine zva 40 (.tmp 15) ?_);refine zfa rfl 40 (.tmp 15) rfl w5.heap.size (zha r) rfl x6 Tryd.underlying40 rfl Tryd.zNa ?_)
      | ((with_reducible refine zra 40 (.tmp 71) ?_);refine wpList_store_mid rfl 40 (.tmp 71) (.tmp 70) rfl (w2.heap.size+1) 2 (zha r).toArray rfl rfl (y6.there 2 3 (by simp [zqa])) Tryd.zNa (all_oneCell_toArray (zRb _)) ?_;rw [List.toList_toArray,HEQ.out])
      | ((with_reducible refine zva 42 (.tmp 9) ?_);refine zfa rfl 42 (.tmp 9) rfl (w2.heap.size+1) (zqa ⟨t.text,l,r⟩ pv) rfl y7 Tryd.underlying42 rfl Tryd.zZc ?_)
      | ((with_reducible refine zra 42 (.tmp 4) ?_);refine zea rfl 42 (.tmp 4) (.tmp 72) rfl (w.heap.size+1+1) (zqa ⟨t.text,l,r⟩ pv) rfl rfl z7 Tryd.zZc rfl hone ?_))
     refine zPb (cs:=zqa ⟨t.text,l,r⟩ pv) Tryd.results14 rfl (z7.zna (zqa ⟨t.text,l,r⟩ pv)) Tryd.underlying42 rfl Tryd.zZc rfl rfl rfl ?_
     rw [HR2.out]
     exact ⟨pv,rfl,(HF7.out.setRow _ _ (fun b hb=>by omega)).mono (fun b hb _=>by omega),Below.row HB7.out (by omega) _⟩
end Go.Proofs.YtdhmdfhnkppnmaaDoor
