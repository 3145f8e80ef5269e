/- The contract of code.set: the instruction of a Set, by the kind of its expression. -/
import Derived.Test.YthdbmgijpelecaaGreatDoorM13
import Derived.Test.YthdbmgijpelecaaGreatDoorM14
namespace Go.Proofs.YthdbmgijpelecaaGreatDoor
set_option maxRecDepth 100000
set_option maxHeartbeats 2000000
open Go.RowKit
theorem AnyE.zof {P:Program} {ops:Array Oper} {Q:Exit→Act→World→Prop} {S:World→Prop} {id:Nat} {a:Act} {w W0:World} (hw:w.drew=W0) (hm:P.follows .mixedOrders=true) (hS:S W0) (h:S W0→AnyE P .any ops Q S ops.size (Array.replicate ops.size false) a W0):(Code.region id ops true).wp P Q a w :=
 AnyE.begin hm (by rw [hw];exact h hS)
theorem set_5 {w:World} {t:T} {S:Nat→Prop} {kv:Value} (hk:KAt 25 w t.kids S kv) {sf:ByteArray} {nf:Int} {pf:Nat} {ks:List T} (hf:zFa t 0=.mk 5 sf nf pf ks) :
  Calls Tryz.prog 125 #[zma t kv] w (zPe w (zfd t)):=by
 have hs:zfd t=⟨0,t.place,t.text,e0,⟨sf,nf⟩,tm0,[],0,false⟩:=by unfold zfd;rw [hf];rfl
 rw [hs]
 clear hs
 have HB:=zh (show Below w.heap.size w ((w.alloc (.cells (zaa t kv).toArray 25)).alloc (.cells (zea zcd (.slice none 0 0)).toArray 101)) from (((Below.refl _ _).alloc (Nat.le_refl _) _).alloc (by simp) _))
 have HN:=zh (show Blk ((w.alloc (.cells (zaa t kv).toArray 25)).alloc (.cells (zea zcd (.slice none 0 0)).toArray 101)) w.heap.size (zaa t kv) 25 from ((Blk.new w (zaa t kv) 25).alloc _))
 have HRes:=zh (Blk.zpc w (.cells (zaa t kv).toArray 25) (zea zcd (.slice none 0 0)) 101)
 have hko:=zmc (((hk.mono (S':=fun b=>b<w.heap.size) fun b _ hl=>hl).alloc (.cells (zaa t kv).toArray 25)).alloc (.cells (zea zcd (.slice none 0 0)).toArray 101)) 0
 rw [hf] at hko
 have HKO:=zh hko
 clear hk hko hf
 unfold zma
 go_enter Tryz.func125,Tryz.ntmps125
 go_wp2_with fail
 refine HKO.out.mono ?_
 rintro e w1 ⟨u,rfl,hu,hb⟩
 clear HKO
 have hn1:=HN.out.stays hb
 have hr1:=HRes.out.stays hb
 have hc1:=hn1.cell 1
 have hc3:=hn1.cell 3
 simp only [zaa,List.getElem?_cons_zero,List.getElem?_cons_succ] at hc1 hc3
 have hl1:=hr1.lt
 have hl0:=hn1.lt
 have hne0:w.heap.size≠w1.heap.size:=by omega
 have hne1:w.heap.size+1≠w1.heap.size:=by omega
 obtain ⟨ua,un,uc,rfl⟩:=hu.slice
 have HB1:=zh (HB.out.trans (hb.mono HB.out.size))
 have HR:=zh hr1
 have HU:=zh hu
 clear hn1 hr1 hb HB HN HRes hu
 unfold zma
 simp only [zRa,zXa,zBb,zJa]
 go_wp2_with fail
 refine (zri _ (.mk 5 sf nf pf ks) (.slice ua un uc)).mono ?_
 rintro e W1 ⟨rfl,hb⟩
 have HI1:=zh (show Blk W1 (w1.heap.size+1) (zea (⟨0,t.place,t.text,e0,tm0,tm0,[],0,false⟩:Ins) (.slice none 0 0)) 101 from (Blk.zpc w1 _ _ _).stays hb)
 have HI2:=zh (show Blk (W1.setCells (w1.heap.size+1) 4 [.string sf,.int .i64 nf]) (w1.heap.size+1) (zea (⟨0,t.place,t.text,e0,⟨sf,nf⟩,tm0,[],0,false⟩:Ins) (.slice none 0 0)) 101 from HI1.out.zoc 4 _ _)
 have HR2:=zh (show Blk (W1.setCells (w1.heap.size+1) 4 [.string sf,.int .i64 nf]) _ _ _ from Blk.zAc (((HR.out.alloc _).alloc _).stays hb) (by omega) 4 _ _)
 have HB2:=zh (show Below w.heap.size w (W1.setCells (w1.heap.size+1) 4 [.string sf,.int .i64 nf]) from Below.cells2 (((HB1.out.alloc (by omega) _).alloc (by simp;omega) _).trans (hb.mono (by simp;omega))) (by omega) 4 _ _)
 clear hb
 unfold TmV
 go_wp2_with (first
  | ((with_reducible refine zla 98 (.tmp 18) ?_);refine wpList_store_mid rfl 98 (.tmp 18) (.tmp 17) rfl (w1.heap.size+1) 4 #[.string sf,.int .i64 nf] rfl rfl (HI1.out.zGc 4 2 (show 4+2≤11 by omega)) Tryz.zcc (all_oneCell_toArray (zJb ⟨sf,nf⟩)) ?_)
  | ((with_reducible refine zra 101 (.tmp 4) ?_);refine zja rfl 101 (.tmp 4) rfl (w1.heap.size+1) (zea (⟨0,t.place,t.text,e0,⟨sf,nf⟩,tm0,[],0,false⟩:Ins) (.slice none 0 0)) rfl HI2.out Tryz.underlying101 rfl Tryz.zza ?_)
  | ((with_reducible refine zla 101 (.tmp 2) ?_);refine zca rfl 101 (.tmp 2) (.tmp 76) rfl (w.heap.size+1) (zea (⟨0,t.place,t.text,e0,⟨sf,nf⟩,tm0,[],0,false⟩:Ins) (.slice none 0 0)) rfl rfl HR2.out Tryz.zza rfl (zna _ _ rfl) ?_))
 exact zka (cs:=(zea (⟨0,t.place,t.text,e0,⟨sf,nf⟩,tm0,[],0,false⟩:Ins) (.slice none 0 0))) Tryz.results125 rfl HR2.out Tryz.underlying101 rfl Tryz.zza rfl ⟨_,rfl,zWa.nil _ _,Below.row HB2.out (by omega) _⟩
theorem zNt {w:World} {t:T} {S:Nat→Prop} {kv:Value} (hk:KAt 25 w t.kids S kv) {sf:ByteArray} {nf:Int} {pf:Nat} {ks:List T} (hf:zFa t 0=.mk 21 sf nf pf ks) :
  Calls Tryz.prog 125 #[zma t kv] w (zPe w (zfd t)):=by
 have hs:zfd t=⟨1,t.place,t.text,e0,zDa (zFa (.mk 21 sf nf pf ks) 0),zDa (zFa (.mk 21 sf nf pf ks) 1),[],0,false⟩:=by unfold zfd;rw [hf];rfl
 rw [hs]
 clear hs
 have HB:=zh (show Below w.heap.size w ((w.alloc (.cells (zaa t kv).toArray 25)).alloc (.cells (zea zcd (.slice none 0 0)).toArray 101)) from (((Below.refl _ _).alloc (Nat.le_refl _) _).alloc (by simp) _))
 have HN:=zh (show Blk ((w.alloc (.cells (zaa t kv).toArray 25)).alloc (.cells (zea zcd (.slice none 0 0)).toArray 101)) w.heap.size (zaa t kv) 25 from ((Blk.new w (zaa t kv) 25).alloc _))
 have HRes:=zh (Blk.zpc w (.cells (zaa t kv).toArray 25) (zea zcd (.slice none 0 0)) 101)
 have hko:=zmc (((hk.mono (S':=fun b=>b<w.heap.size) fun b _ hl=>hl).alloc (.cells (zaa t kv).toArray 25)).alloc (.cells (zea zcd (.slice none 0 0)).toArray 101)) 0
 rw [hf] at hko
 have HKO:=zh hko
 clear hk hko hf
 unfold zma
 go_enter Tryz.func125,Tryz.ntmps125
 go_wp2_with fail
 refine HKO.out.mono ?_
 rintro e w1 ⟨u,rfl,hu,hb⟩
 clear HKO
 have hn1:=HN.out.stays hb
 have hr1:=HRes.out.stays hb
 have hc1:=hn1.cell 1
 have hc3:=hn1.cell 3
 simp only [zaa,List.getElem?_cons_zero,List.getElem?_cons_succ] at hc1 hc3
 have hl1:=hr1.lt
 have hl0:=hn1.lt
 have hne0:w.heap.size≠w1.heap.size:=by omega
 have hne1:w.heap.size+1≠w1.heap.size:=by omega
 obtain ⟨ua,un,uc,rfl⟩:=hu.slice
 have HB1:=zh (HB.out.trans (hb.mono HB.out.size))
 have HR:=zh hr1
 have HU:=zh hu
 clear hn1 hr1 hb HB HN HRes hu
 unfold zma
 simp only [zRa,zXa,zBb,zJa]
 go_wp2_with fail
 obtain ⟨W0,hW0,HI,HF,HU0,HR0,HB0⟩:∃ W0:World,((w1.alloc (.cells (zaa (.mk 21 sf nf pf ks) (.slice ua un uc)).toArray 25)).alloc (.cells (zea (⟨0,t.place,t.text,e0,tm0,tm0,[],0,false⟩:Ins) (.slice none 0 0)).toArray 101)).drew=W0∧Hid (Blk W0 (w1.heap.size+1) (zea (⟨0,t.place,t.text,e0,tm0,tm0,[],0,false⟩:Ins) (.slice none 0 0)) 101)∧Hid (Blk W0 w1.heap.size (zaa (.mk 21 sf nf pf ks) (.slice ua un uc)) 25)∧Hid (KAt 25 W0 ks (fun b=>b<w.heap.size) (.slice ua un uc))∧Hid (Blk W0 (w.heap.size+1) (zea zcd (.slice none 0 0)) 101)∧Hid (Below w.heap.size w W0) :=
  ⟨_,rfl,zh (Blk.zpc w1 _ _ _).drew,zh ((Blk.new w1 _ _).alloc _).drew,zh ((HU.out.alloc _).alloc _).drew,zh ((HR.out.alloc _).alloc _).drew,zh (((HB1.out.alloc (by omega) _).alloc (by simp;omega) _).drew)⟩
 clear HU HR HB1 hc1 hc3
 refine AnyE.zof (S:=fun W=>Blk W w1.heap.size (zaa (.mk 21 sf nf pf ks) (.slice ua un uc)) 25) hW0 (by kernel_rfl) HF.out (fun hS=>?_)
 clear hW0
 refine AnyE.take (i:=0) (v:=.agg #[.int .i64 21,.string sf,.int .i64 nf,.int .i64 pf,.slice ua un uc]) rfl (by kernel_rfl) (by kernel_rfl) (by kernel_rfl) (by kernel_rfl) (fun _ _ _ h=>h) (yieldsIf_load_mid (cs:=zaa (.mk 21 sf nf pf ks) (.slice ua un uc)) (by rfl) 25 (.tmp 3) rfl (w1.heap.size) 0 rfl _ (fun W hW j v hj=>by rw [Nat.zero_add,hW.cell j];exact hj) Tryz.underlying25 rfl Tryz.zha) hS ?_
 refine AnyE.take (i:=2) (v:=.agg #[.int .i64 21,.string sf,.int .i64 nf,.int .i64 pf,.slice ua un uc]) rfl (by kernel_rfl) (by kernel_rfl) (by kernel_rfl) (by kernel_rfl) (fun _ _ _ h=>h) (yieldsIf_load_mid (cs:=zaa (.mk 21 sf nf pf ks) (.slice ua un uc)) (by rfl) 25 (.tmp 3) rfl (w1.heap.size) 0 rfl _ (fun W hW j v hj=>by rw [Nat.zero_add,hW.cell j];exact hj) Tryz.underlying25 rfl Tryz.zha) hS ?_
 refine AnyE.take (i:=4) (v:=.pointer (some ⟨w1.heap.size+1,0,none⟩)) rfl (by kernel_rfl) (by kernel_rfl) (by kernel_rfl) (by kernel_rfl) (fun _ _ _ h=>h) (Or.inl ⟨by rfl,fun W _=>by go_simp⟩) hS ?_
 refine AnyE.one (i:=1) (by kernel_rfl) rfl (by rfl) (fun K hK=>?_)
 go_simp
 refine (zWc (t:=(.mk 21 sf nf pf ks)) HU0.out 0).mono ?_
 rintro e W1 ⟨rfl,hb⟩
 have HI1:=zh (HI.out.stays hb)
 have HF1:=zh (HF.out.stays hb)
 have HU1:=zh (HU0.out.below hb)
 have HR1:=zh (HR0.out.stays hb)
 have HB1:=zh (HB0.out.trans (hb.mono HB0.out.size))
 clear hb
 unfold TmV
 refine hK.out _ _ (fun _=>HF1.out) ?_
 clear hK K
 refine AnyE.one (i:=3) (by kernel_rfl) rfl (by rfl) (fun K hK=>?_)
 go_simp
 refine (zWc (t:=(.mk 21 sf nf pf ks)) HU1.out 1).mono ?_
 rintro e W2 ⟨rfl,hb⟩
 have HI2:=zh (HI1.out.stays hb)
 have HF2:=zh (HF1.out.stays hb)
 have HU2:=zh (HU1.out.below hb)
 have HR2:=zh (HR1.out.stays hb)
 have HB2:=zh (HB1.out.trans (hb.mono HB1.out.size))
 clear hb
 unfold TmV
 refine hK.out _ _ (fun _=>HF2.out) ?_
 clear hK K
 refine AnyE.one (i:=5) (by kernel_rfl) rfl (by rfl) (fun K hK=>?_)
 have hcx:W2.cell? ⟨w1.heap.size+1,0,none⟩=some (.int .i64 0):=HI2.out.cell 0
 have hfx:=HI2.out.frozen 0
 go_simp
 clear hcx hfx
 have HI3:=zh (show Blk _ _ (zea (⟨1,t.place,t.text,e0,tm0,tm0,[],0,false⟩:Ins) (.slice none 0 0)) 101 from HI2.out.zxa 0 (.int .i64 1))
 have HF3:=zh (HF2.out.setOther ⟨w1.heap.size+1,0,none⟩ (.int .i64 1) (by show w1.heap.size≠w1.heap.size+1;omega))
 have HU3:=zh (HU2.out.keep (S':=fun b=>b<w.heap.size) (w':=W2.setCell ⟨w1.heap.size+1,0,none⟩ (.int .i64 1)) fun b hb hl=>⟨hb,Below.heap_setCell _ _ _ _ (by show b≠w1.heap.size+1;omega)⟩)
 have HR3:=zh (HR2.out.setOther ⟨w1.heap.size+1,0,none⟩ (.int .i64 1) (by show w.heap.size+1≠w1.heap.size+1;omega))
 have HB3:=zh (HB2.out.setCell (p:=⟨w1.heap.size+1,0,none⟩) (by show w.heap.size≤w1.heap.size+1;omega) (.int .i64 1))
 generalize W2.setCell ⟨w1.heap.size+1,0,none⟩ (.int .i64 1)=W3 at HI3 HF3 HU3 HR3 HB3 ⊢
 refine hK.out _ _ (fun _=>HF3.out) ?_
 clear hK K
 refine AnyE.one (i:=6) (by kernel_rfl) rfl (by rfl) (fun K hK=>?_)
 go_simp
 refine hK.out _ _ (fun _=>HF3.out) ?_
 clear hK K
 refine AnyE.one (i:=7) (by kernel_rfl) rfl (by rfl) (fun K hK=>?_)
 refine wp_store_mid 98 (.tmp 33) (.tmp 29) rfl (w1.heap.size+1) 4 #[.string (zDa (zFa (.mk 21 sf nf pf ks) 0)).name,.int .i64 (zDa (zFa (.mk 21 sf nf pf ks) 0)).num] rfl rfl (HI3.out.zGc 4 2 (show 4+2≤11 by omega)) Tryz.zcc (all_oneCell_toArray (zJb (zDa (zFa (.mk 21 sf nf pf ks) 0)))) ?_
 have HI4:=zh (show Blk (W3.setCells (w1.heap.size+1) 4 [.string (zDa (zFa (.mk 21 sf nf pf ks) 0)).name,.int .i64 (zDa (zFa (.mk 21 sf nf pf ks) 0)).num]) _ (zea (⟨1,t.place,t.text,e0,zDa (zFa (.mk 21 sf nf pf ks) 0),tm0,[],0,false⟩:Ins) (.slice none 0 0)) 101 from HI3.out.zoc 4 _ _)
 have HF4:=zh (show Blk (W3.setCells (w1.heap.size+1) 4 [.string (zDa (zFa (.mk 21 sf nf pf ks) 0)).name,.int .i64 (zDa (zFa (.mk 21 sf nf pf ks) 0)).num]) _ _ _ from HF3.out.zAc (by omega) 4 _ _)
 have HR4:=zh (show Blk (W3.setCells (w1.heap.size+1) 4 [.string (zDa (zFa (.mk 21 sf nf pf ks) 0)).name,.int .i64 (zDa (zFa (.mk 21 sf nf pf ks) 0)).num]) _ _ _ from HR3.out.zAc (by omega) 4 _ _)
 have HB4:=zh (show Below _ _ (W3.setCells (w1.heap.size+1) 4 [.string (zDa (zFa (.mk 21 sf nf pf ks) 0)).name,.int .i64 (zDa (zFa (.mk 21 sf nf pf ks) 0)).num]) from Below.cells2 HB3.out (by omega) 4 _ _)
 refine hK.out _ _ (fun _=>HF4.out) ?_
 clear hK K
 refine AnyE.one (i:=8) (by kernel_rfl) rfl (by rfl) (fun K hK=>?_)
 go_simp
 refine hK.out _ _ (fun _=>HF4.out) ?_
 clear hK K
 refine AnyE.one (i:=9) (by kernel_rfl) rfl (by rfl) (fun K hK=>?_)
 refine wp_store_mid 98 (.tmp 34) (.tmp 31) rfl (w1.heap.size+1) 6 #[.string (zDa (zFa (.mk 21 sf nf pf ks) 1)).name,.int .i64 (zDa (zFa (.mk 21 sf nf pf ks) 1)).num] rfl rfl (HI4.out.zGc 6 2 (show 6+2≤11 by omega)) Tryz.zcc (all_oneCell_toArray (zJb (zDa (zFa (.mk 21 sf nf pf ks) 1)))) ?_
 have HI5:=zh (show Blk ((W3.setCells (w1.heap.size+1) 4 [.string (zDa (zFa (.mk 21 sf nf pf ks) 0)).name,.int .i64 (zDa (zFa (.mk 21 sf nf pf ks) 0)).num]).setCells (w1.heap.size+1) 6 [.string (zDa (zFa (.mk 21 sf nf pf ks) 1)).name,.int .i64 (zDa (zFa (.mk 21 sf nf pf ks) 1)).num]) _ (zea (⟨1,t.place,t.text,e0,zDa (zFa (.mk 21 sf nf pf ks) 0),zDa (zFa (.mk 21 sf nf pf ks) 1),[],0,false⟩:Ins) (.slice none 0 0)) 101 from HI4.out.zoc 6 _ _)
 have HF5:=zh (show Blk ((W3.setCells (w1.heap.size+1) 4 [.string (zDa (zFa (.mk 21 sf nf pf ks) 0)).name,.int .i64 (zDa (zFa (.mk 21 sf nf pf ks) 0)).num]).setCells (w1.heap.size+1) 6 [.string (zDa (zFa (.mk 21 sf nf pf ks) 1)).name,.int .i64 (zDa (zFa (.mk 21 sf nf pf ks) 1)).num]) _ _ _ from HF4.out.zAc (by omega) 6 _ _)
 have HR5:=zh (show Blk ((W3.setCells (w1.heap.size+1) 4 [.string (zDa (zFa (.mk 21 sf nf pf ks) 0)).name,.int .i64 (zDa (zFa (.mk 21 sf nf pf ks) 0)).num]).setCells (w1.heap.size+1) 6 [.string (zDa (zFa (.mk 21 sf nf pf ks) 1)).name,.int .i64 (zDa (zFa (.mk 21 sf nf pf ks) 1)).num]) _ _ _ from HR4.out.zAc (by omega) 6 _ _)
 have HB5:=zh (show Below _ _ ((W3.setCells (w1.heap.size+1) 4 [.string (zDa (zFa (.mk 21 sf nf pf ks) 0)).name,.int .i64 (zDa (zFa (.mk 21 sf nf pf ks) 0)).num]).setCells (w1.heap.size+1) 6 [.string (zDa (zFa (.mk 21 sf nf pf ks) 1)).name,.int .i64 (zDa (zFa (.mk 21 sf nf pf ks) 1)).num]) from Below.cells2 HB4.out (by omega) 6 _ _)
 refine hK.out _ _ (fun h=>absurd rfl h) ?_
 clear hK K
 refine AnyE.done (by kernel_rfl) ?_ _
 go_wp2_with (first
  | ((with_reducible refine zra 101 (.tmp 4) ?_);refine zja rfl 101 (.tmp 4) rfl (w1.heap.size+1) (zea (⟨1,t.place,t.text,e0,zDa (zFa (.mk 21 sf nf pf ks) 0),zDa (zFa (.mk 21 sf nf pf ks) 1),[],0,false⟩:Ins) (.slice none 0 0)) rfl HI5.out Tryz.underlying101 rfl Tryz.zza ?_)
  | ((with_reducible refine zla 101 (.tmp 2) ?_);refine zca rfl 101 (.tmp 2) (.tmp 76) rfl (w.heap.size+1) (zea (⟨1,t.place,t.text,e0,zDa (zFa (.mk 21 sf nf pf ks) 0),zDa (zFa (.mk 21 sf nf pf ks) 1),[],0,false⟩:Ins) (.slice none 0 0)) rfl rfl HR5.out Tryz.zza rfl (zna _ _ rfl) ?_))
 exact zka (cs:=(zea (⟨1,t.place,t.text,e0,zDa (zFa (.mk 21 sf nf pf ks) 0),zDa (zFa (.mk 21 sf nf pf ks) 1),[],0,false⟩:Ins) (.slice none 0 0))) Tryz.results125 rfl HR5.out Tryz.underlying101 rfl Tryz.zza rfl ⟨_,rfl,zWa.nil _ _,Below.row HB5.out (by omega) _⟩
theorem zCt {w:World} {t:T} {S:Nat→Prop} {kv:Value} (hk:KAt 25 w t.kids S kv) {sf:ByteArray} {nf:Int} {pf:Nat} {ks:List T} (hf:zFa t 0=.mk 22 sf nf pf ks) :
  Calls Tryz.prog 125 #[zma t kv] w (zPe w (zfd t)):=by
 have hs:zfd t=⟨2,t.place,t.text,e0,zDa (zFa (.mk 22 sf nf pf ks) 0),zDa (zFa (.mk 22 sf nf pf ks) 1),[],0,false⟩:=by unfold zfd;rw [hf];rfl
 rw [hs]
 clear hs
 have HB:=zh (show Below w.heap.size w ((w.alloc (.cells (zaa t kv).toArray 25)).alloc (.cells (zea zcd (.slice none 0 0)).toArray 101)) from (((Below.refl _ _).alloc (Nat.le_refl _) _).alloc (by simp) _))
 have HN:=zh (show Blk ((w.alloc (.cells (zaa t kv).toArray 25)).alloc (.cells (zea zcd (.slice none 0 0)).toArray 101)) w.heap.size (zaa t kv) 25 from ((Blk.new w (zaa t kv) 25).alloc _))
 have HRes:=zh (Blk.zpc w (.cells (zaa t kv).toArray 25) (zea zcd (.slice none 0 0)) 101)
 have hko:=zmc (((hk.mono (S':=fun b=>b<w.heap.size) fun b _ hl=>hl).alloc (.cells (zaa t kv).toArray 25)).alloc (.cells (zea zcd (.slice none 0 0)).toArray 101)) 0
 rw [hf] at hko
 have HKO:=zh hko
 clear hk hko hf
 unfold zma
 go_enter Tryz.func125,Tryz.ntmps125
 go_wp2_with fail
 refine HKO.out.mono ?_
 rintro e w1 ⟨u,rfl,hu,hb⟩
 clear HKO
 have hn1:=HN.out.stays hb
 have hr1:=HRes.out.stays hb
 have hc1:=hn1.cell 1
 have hc3:=hn1.cell 3
 simp only [zaa,List.getElem?_cons_zero,List.getElem?_cons_succ] at hc1 hc3
 have hl1:=hr1.lt
 have hl0:=hn1.lt
 have hne0:w.heap.size≠w1.heap.size:=by omega
 have hne1:w.heap.size+1≠w1.heap.size:=by omega
 obtain ⟨ua,un,uc,rfl⟩:=hu.slice
 have HB1:=zh (HB.out.trans (hb.mono HB.out.size))
 have HR:=zh hr1
 have HU:=zh hu
 clear hn1 hr1 hb HB HN HRes hu
 unfold zma
 simp only [zRa,zXa,zBb,zJa]
 go_wp2_with fail
 obtain ⟨W0,hW0,HI,HF,HU0,HR0,HB0⟩:∃ W0:World,((w1.alloc (.cells (zaa (.mk 22 sf nf pf ks) (.slice ua un uc)).toArray 25)).alloc (.cells (zea (⟨0,t.place,t.text,e0,tm0,tm0,[],0,false⟩:Ins) (.slice none 0 0)).toArray 101)).drew=W0∧Hid (Blk W0 (w1.heap.size+1) (zea (⟨0,t.place,t.text,e0,tm0,tm0,[],0,false⟩:Ins) (.slice none 0 0)) 101)∧Hid (Blk W0 w1.heap.size (zaa (.mk 22 sf nf pf ks) (.slice ua un uc)) 25)∧Hid (KAt 25 W0 ks (fun b=>b<w.heap.size) (.slice ua un uc))∧Hid (Blk W0 (w.heap.size+1) (zea zcd (.slice none 0 0)) 101)∧Hid (Below w.heap.size w W0) :=
  ⟨_,rfl,zh (Blk.zpc w1 _ _ _).drew,zh ((Blk.new w1 _ _).alloc _).drew,zh ((HU.out.alloc _).alloc _).drew,zh ((HR.out.alloc _).alloc _).drew,zh (((HB1.out.alloc (by omega) _).alloc (by simp;omega) _).drew)⟩
 clear HU HR HB1 hc1 hc3
 refine AnyE.zof (S:=fun W=>Blk W w1.heap.size (zaa (.mk 22 sf nf pf ks) (.slice ua un uc)) 25) hW0 (by kernel_rfl) HF.out (fun hS=>?_)
 clear hW0
 refine AnyE.take (i:=0) (v:=.agg #[.int .i64 22,.string sf,.int .i64 nf,.int .i64 pf,.slice ua un uc]) rfl (by kernel_rfl) (by kernel_rfl) (by kernel_rfl) (by kernel_rfl) (fun _ _ _ h=>h) (yieldsIf_load_mid (cs:=zaa (.mk 22 sf nf pf ks) (.slice ua un uc)) (by rfl) 25 (.tmp 3) rfl (w1.heap.size) 0 rfl _ (fun W hW j v hj=>by rw [Nat.zero_add,hW.cell j];exact hj) Tryz.underlying25 rfl Tryz.zha) hS ?_
 refine AnyE.take (i:=2) (v:=.agg #[.int .i64 22,.string sf,.int .i64 nf,.int .i64 pf,.slice ua un uc]) rfl (by kernel_rfl) (by kernel_rfl) (by kernel_rfl) (by kernel_rfl) (fun _ _ _ h=>h) (yieldsIf_load_mid (cs:=zaa (.mk 22 sf nf pf ks) (.slice ua un uc)) (by rfl) 25 (.tmp 3) rfl (w1.heap.size) 0 rfl _ (fun W hW j v hj=>by rw [Nat.zero_add,hW.cell j];exact hj) Tryz.underlying25 rfl Tryz.zha) hS ?_
 refine AnyE.take (i:=4) (v:=.pointer (some ⟨w1.heap.size+1,0,none⟩)) rfl (by kernel_rfl) (by kernel_rfl) (by kernel_rfl) (by kernel_rfl) (fun _ _ _ h=>h) (Or.inl ⟨by rfl,fun W _=>by go_simp⟩) hS ?_
 refine AnyE.one (i:=1) (by kernel_rfl) rfl (by rfl) (fun K hK=>?_)
 go_simp
 refine (zWc (t:=(.mk 22 sf nf pf ks)) HU0.out 0).mono ?_
 rintro e W1 ⟨rfl,hb⟩
 have HI1:=zh (HI.out.stays hb)
 have HF1:=zh (HF.out.stays hb)
 have HU1:=zh (HU0.out.below hb)
 have HR1:=zh (HR0.out.stays hb)
 have HB1:=zh (HB0.out.trans (hb.mono HB0.out.size))
 clear hb
 unfold TmV
 refine hK.out _ _ (fun _=>HF1.out) ?_
 clear hK K
 refine AnyE.one (i:=3) (by kernel_rfl) rfl (by rfl) (fun K hK=>?_)
 go_simp
 refine (zWc (t:=(.mk 22 sf nf pf ks)) HU1.out 1).mono ?_
 rintro e W2 ⟨rfl,hb⟩
 have HI2:=zh (HI1.out.stays hb)
 have HF2:=zh (HF1.out.stays hb)
 have HU2:=zh (HU1.out.below hb)
 have HR2:=zh (HR1.out.stays hb)
 have HB2:=zh (HB1.out.trans (hb.mono HB1.out.size))
 clear hb
 unfold TmV
 refine hK.out _ _ (fun _=>HF2.out) ?_
 clear hK K
 refine AnyE.one (i:=5) (by kernel_rfl) rfl (by rfl) (fun K hK=>?_)
 have hcx:W2.cell? ⟨w1.heap.size+1,0,none⟩=some (.int .i64 0):=HI2.out.cell 0
 have hfx:=HI2.out.frozen 0
 go_simp
 clear hcx hfx
 have HI3:=zh (show Blk _ _ (zea (⟨2,t.place,t.text,e0,tm0,tm0,[],0,false⟩:Ins) (.slice none 0 0)) 101 from HI2.out.zxa 0 (.int .i64 2))
 have HF3:=zh (HF2.out.setOther ⟨w1.heap.size+1,0,none⟩ (.int .i64 2) (by show w1.heap.size≠w1.heap.size+1;omega))
 have HU3:=zh (HU2.out.keep (S':=fun b=>b<w.heap.size) (w':=W2.setCell ⟨w1.heap.size+1,0,none⟩ (.int .i64 2)) fun b hb hl=>⟨hb,Below.heap_setCell _ _ _ _ (by show b≠w1.heap.size+1;omega)⟩)
 have HR3:=zh (HR2.out.setOther ⟨w1.heap.size+1,0,none⟩ (.int .i64 2) (by show w.heap.size+1≠w1.heap.size+1;omega))
 have HB3:=zh (HB2.out.setCell (p:=⟨w1.heap.size+1,0,none⟩) (by show w.heap.size≤w1.heap.size+1;omega) (.int .i64 2))
 generalize W2.setCell ⟨w1.heap.size+1,0,none⟩ (.int .i64 2)=W3 at HI3 HF3 HU3 HR3 HB3 ⊢
 refine hK.out _ _ (fun _=>HF3.out) ?_
 clear hK K
 refine AnyE.one (i:=6) (by kernel_rfl) rfl (by rfl) (fun K hK=>?_)
 go_simp
 refine hK.out _ _ (fun _=>HF3.out) ?_
 clear hK K
 refine AnyE.one (i:=7) (by kernel_rfl) rfl (by rfl) (fun K hK=>?_)
 refine wp_store_mid 98 (.tmp 42) (.tmp 38) rfl (w1.heap.size+1) 4 #[.string (zDa (zFa (.mk 22 sf nf pf ks) 0)).name,.int .i64 (zDa (zFa (.mk 22 sf nf pf ks) 0)).num] rfl rfl (HI3.out.zGc 4 2 (show 4+2≤11 by omega)) Tryz.zcc (all_oneCell_toArray (zJb (zDa (zFa (.mk 22 sf nf pf ks) 0)))) ?_
 have HI4:=zh (show Blk (W3.setCells (w1.heap.size+1) 4 [.string (zDa (zFa (.mk 22 sf nf pf ks) 0)).name,.int .i64 (zDa (zFa (.mk 22 sf nf pf ks) 0)).num]) _ (zea (⟨2,t.place,t.text,e0,zDa (zFa (.mk 22 sf nf pf ks) 0),tm0,[],0,false⟩:Ins) (.slice none 0 0)) 101 from HI3.out.zoc 4 _ _)
 have HF4:=zh (show Blk (W3.setCells (w1.heap.size+1) 4 [.string (zDa (zFa (.mk 22 sf nf pf ks) 0)).name,.int .i64 (zDa (zFa (.mk 22 sf nf pf ks) 0)).num]) _ _ _ from HF3.out.zAc (by omega) 4 _ _)
 have HR4:=zh (show Blk (W3.setCells (w1.heap.size+1) 4 [.string (zDa (zFa (.mk 22 sf nf pf ks) 0)).name,.int .i64 (zDa (zFa (.mk 22 sf nf pf ks) 0)).num]) _ _ _ from HR3.out.zAc (by omega) 4 _ _)
 have HB4:=zh (show Below _ _ (W3.setCells (w1.heap.size+1) 4 [.string (zDa (zFa (.mk 22 sf nf pf ks) 0)).name,.int .i64 (zDa (zFa (.mk 22 sf nf pf ks) 0)).num]) from Below.cells2 HB3.out (by omega) 4 _ _)
 refine hK.out _ _ (fun _=>HF4.out) ?_
 clear hK K
 refine AnyE.one (i:=8) (by kernel_rfl) rfl (by rfl) (fun K hK=>?_)
 go_simp
 refine hK.out _ _ (fun _=>HF4.out) ?_
 clear hK K
 refine AnyE.one (i:=9) (by kernel_rfl) rfl (by rfl) (fun K hK=>?_)
 refine wp_store_mid 98 (.tmp 43) (.tmp 40) rfl (w1.heap.size+1) 6 #[.string (zDa (zFa (.mk 22 sf nf pf ks) 1)).name,.int .i64 (zDa (zFa (.mk 22 sf nf pf ks) 1)).num] rfl rfl (HI4.out.zGc 6 2 (show 6+2≤11 by omega)) Tryz.zcc (all_oneCell_toArray (zJb (zDa (zFa (.mk 22 sf nf pf ks) 1)))) ?_
 have HI5:=zh (show Blk ((W3.setCells (w1.heap.size+1) 4 [.string (zDa (zFa (.mk 22 sf nf pf ks) 0)).name,.int .i64 (zDa (zFa (.mk 22 sf nf pf ks) 0)).num]).setCells (w1.heap.size+1) 6 [.string (zDa (zFa (.mk 22 sf nf pf ks) 1)).name,.int .i64 (zDa (zFa (.mk 22 sf nf pf ks) 1)).num]) _ (zea (⟨2,t.place,t.text,e0,zDa (zFa (.mk 22 sf nf pf ks) 0),zDa (zFa (.mk 22 sf nf pf ks) 1),[],0,false⟩:Ins) (.slice none 0 0)) 101 from HI4.out.zoc 6 _ _)
 have HF5:=zh (show Blk ((W3.setCells (w1.heap.size+1) 4 [.string (zDa (zFa (.mk 22 sf nf pf ks) 0)).name,.int .i64 (zDa (zFa (.mk 22 sf nf pf ks) 0)).num]).setCells (w1.heap.size+1) 6 [.string (zDa (zFa (.mk 22 sf nf pf ks) 1)).name,.int .i64 (zDa (zFa (.mk 22 sf nf pf ks) 1)).num]) _ _ _ from HF4.out.zAc (by omega) 6 _ _)
 have HR5:=zh (show Blk ((W3.setCells (w1.heap.size+1) 4 [.string (zDa (zFa (.mk 22 sf nf pf ks) 0)).name,.int .i64 (zDa (zFa (.mk 22 sf nf pf ks) 0)).num]).setCells (w1.heap.size+1) 6 [.string (zDa (zFa (.mk 22 sf nf pf ks) 1)).name,.int .i64 (zDa (zFa (.mk 22 sf nf pf ks) 1)).num]) _ _ _ from HR4.out.zAc (by omega) 6 _ _)
 have HB5:=zh (show Below _ _ ((W3.setCells (w1.heap.size+1) 4 [.string (zDa (zFa (.mk 22 sf nf pf ks) 0)).name,.int .i64 (zDa (zFa (.mk 22 sf nf pf ks) 0)).num]).setCells (w1.heap.size+1) 6 [.string (zDa (zFa (.mk 22 sf nf pf ks) 1)).name,.int .i64 (zDa (zFa (.mk 22 sf nf pf ks) 1)).num]) from Below.cells2 HB4.out (by omega) 6 _ _)
 refine hK.out _ _ (fun h=>absurd rfl h) ?_
 clear hK K
 refine AnyE.done (by kernel_rfl) ?_ _
 go_wp2_with (first
  | ((with_reducible refine zra 101 (.tmp 4) ?_);refine zja rfl 101 (.tmp 4) rfl (w1.heap.size+1) (zea (⟨2,t.place,t.text,e0,zDa (zFa (.mk 22 sf nf pf ks) 0),zDa (zFa (.mk 22 sf nf pf ks) 1),[],0,false⟩:Ins) (.slice none 0 0)) rfl HI5.out Tryz.underlying101 rfl Tryz.zza ?_)
  | ((with_reducible refine zla 101 (.tmp 2) ?_);refine zca rfl 101 (.tmp 2) (.tmp 76) rfl (w.heap.size+1) (zea (⟨2,t.place,t.text,e0,zDa (zFa (.mk 22 sf nf pf ks) 0),zDa (zFa (.mk 22 sf nf pf ks) 1),[],0,false⟩:Ins) (.slice none 0 0)) rfl rfl HR5.out Tryz.zza rfl (zna _ _ rfl) ?_))
 exact zka (cs:=(zea (⟨2,t.place,t.text,e0,zDa (zFa (.mk 22 sf nf pf ks) 0),zDa (zFa (.mk 22 sf nf pf ks) 1),[],0,false⟩:Ins) (.slice none 0 0))) Tryz.results125 rfl HR5.out Tryz.underlying101 rfl Tryz.zza rfl ⟨_,rfl,zWa.nil _ _,Below.row HB5.out (by omega) _⟩
theorem zGt {w:World} {t:T} {S:Nat→Prop} {kv:Value} (hk:KAt 25 w t.kids S kv) {sf:ByteArray} {nf:Int} {pf:Nat} {ks:List T} (hf:zFa t 0=.mk 23 sf nf pf ks) :
  Calls Tryz.prog 125 #[zma t kv] w (zPe w (zfd t)):=by
 have hs:zfd t=⟨3,t.place,t.text,e0,⟨e0,nf⟩,tm0,[],0,false⟩:=by unfold zfd;rw [hf];rfl
 rw [hs]
 clear hs
 have HB:=zh (show Below w.heap.size w ((w.alloc (.cells (zaa t kv).toArray 25)).alloc (.cells (zea zcd (.slice none 0 0)).toArray 101)) from (((Below.refl _ _).alloc (Nat.le_refl _) _).alloc (by simp) _))
 have HN:=zh (show Blk ((w.alloc (.cells (zaa t kv).toArray 25)).alloc (.cells (zea zcd (.slice none 0 0)).toArray 101)) w.heap.size (zaa t kv) 25 from ((Blk.new w (zaa t kv) 25).alloc _))
 have HRes:=zh (Blk.zpc w (.cells (zaa t kv).toArray 25) (zea zcd (.slice none 0 0)) 101)
 have hko:=zmc (((hk.mono (S':=fun b=>b<w.heap.size) fun b _ hl=>hl).alloc (.cells (zaa t kv).toArray 25)).alloc (.cells (zea zcd (.slice none 0 0)).toArray 101)) 0
 rw [hf] at hko
 have HKO:=zh hko
 clear hk hko hf
 unfold zma
 go_enter Tryz.func125,Tryz.ntmps125
 go_wp2_with fail
 refine HKO.out.mono ?_
 rintro e w1 ⟨u,rfl,hu,hb⟩
 clear HKO
 have hn1:=HN.out.stays hb
 have hr1:=HRes.out.stays hb
 have hc1:=hn1.cell 1
 have hc3:=hn1.cell 3
 simp only [zaa,List.getElem?_cons_zero,List.getElem?_cons_succ] at hc1 hc3
 have hl1:=hr1.lt
 have hl0:=hn1.lt
 have hne0:w.heap.size≠w1.heap.size:=by omega
 have hne1:w.heap.size+1≠w1.heap.size:=by omega
 obtain ⟨ua,un,uc,rfl⟩:=hu.slice
 have HB1:=zh (HB.out.trans (hb.mono HB.out.size))
 have HR:=zh hr1
 have HU:=zh hu
 clear hn1 hr1 hb HB HN HRes hu
 unfold zma
 simp only [zRa,zXa,zBb,zJa]
 go_wp2_with fail
 obtain ⟨W0,hW0,HI,HF,HU0,HR0,HB0⟩:∃ W0:World,((w1.alloc (.cells (zaa (.mk 23 sf nf pf ks) (.slice ua un uc)).toArray 25)).alloc (.cells (zea (⟨0,t.place,t.text,e0,tm0,tm0,[],0,false⟩:Ins) (.slice none 0 0)).toArray 101)).drew=W0∧Hid (Blk W0 (w1.heap.size+1) (zea (⟨0,t.place,t.text,e0,tm0,tm0,[],0,false⟩:Ins) (.slice none 0 0)) 101)∧Hid (Blk W0 w1.heap.size (zaa (.mk 23 sf nf pf ks) (.slice ua un uc)) 25)∧Hid (KAt 25 W0 ks (fun b=>b<w.heap.size) (.slice ua un uc))∧Hid (Blk W0 (w.heap.size+1) (zea zcd (.slice none 0 0)) 101)∧Hid (Below w.heap.size w W0) :=
  ⟨_,rfl,zh (Blk.zpc w1 _ _ _).drew,zh ((Blk.new w1 _ _).alloc _).drew,zh ((HU.out.alloc _).alloc _).drew,zh ((HR.out.alloc _).alloc _).drew,zh (((HB1.out.alloc (by omega) _).alloc (by simp;omega) _).drew)⟩
 clear HU HR HB1 hc1 hc3
 refine AnyE.zof (S:=fun W=>Blk W w1.heap.size (zaa (.mk 23 sf nf pf ks) (.slice ua un uc)) 25) hW0 (by kernel_rfl) HF.out (fun hS=>?_)
 clear hW0
 refine AnyE.take (i:=0) (v:=.pointer (some ⟨w1.heap.size,2,none⟩)) rfl (by kernel_rfl) (by kernel_rfl) (by kernel_rfl) (by kernel_rfl) (fun _ _ _ h=>h) (Or.inl ⟨by rfl,fun W _=>by go_simp⟩) hS ?_
 refine AnyE.take (i:=1) (v:=.int .i64 nf) rfl (by kernel_rfl) (by kernel_rfl) (by kernel_rfl) (by kernel_rfl) (fun _ _ _ h=>h) (Or.inl ⟨by rfl,fun W hW=>by have hcx:W.cell? ⟨w1.heap.size,2,none⟩=some (.int .i64 nf):=hW.cell 2;go_simp⟩) hS ?_
 refine AnyE.take (i:=2) (v:=.agg #[.string ⟨#[]⟩,.int .i64 nf]) rfl (by kernel_rfl) (by kernel_rfl) (by kernel_rfl) (by kernel_rfl) (fun _ _ _ h=>h) (Or.inl ⟨by rfl,fun W _=>by go_simp⟩) hS ?_
 refine AnyE.take (i:=3) (v:=.pointer (some ⟨w1.heap.size+1,0,none⟩)) rfl (by kernel_rfl) (by kernel_rfl) (by kernel_rfl) (by kernel_rfl) (fun _ _ _ h=>h) (Or.inl ⟨by rfl,fun W _=>by go_simp⟩) hS ?_
 refine AnyE.one (i:=4) (by kernel_rfl) rfl (by rfl) (fun K hK=>?_)
 have hcx:W0.cell? ⟨w1.heap.size+1,0,none⟩=some (.int .i64 0):=HI.out.cell 0
 have hfx:=HI.out.frozen 0
 go_simp
 clear hcx hfx
 have HI1:=zh (show Blk _ _ (zea (⟨3,t.place,t.text,e0,tm0,tm0,[],0,false⟩:Ins) (.slice none 0 0)) 101 from HI.out.zxa 0 (.int .i64 3))
 have HF1:=zh (HF.out.setOther ⟨w1.heap.size+1,0,none⟩ (.int .i64 3) (by show w1.heap.size≠w1.heap.size+1;omega))
 have HU1:=zh (HU0.out.keep (S':=fun b=>b<w.heap.size) (w':=W0.setCell ⟨w1.heap.size+1,0,none⟩ (.int .i64 3)) fun b hb hl=>⟨hb,Below.heap_setCell _ _ _ _ (by show b≠w1.heap.size+1;omega)⟩)
 have HR1:=zh (HR0.out.setOther ⟨w1.heap.size+1,0,none⟩ (.int .i64 3) (by show w.heap.size+1≠w1.heap.size+1;omega))
 have HB1:=zh (HB0.out.setCell (p:=⟨w1.heap.size+1,0,none⟩) (by show w.heap.size≤w1.heap.size+1;omega) (.int .i64 3))
 generalize W0.setCell ⟨w1.heap.size+1,0,none⟩ (.int .i64 3)=W1 at HI1 HF1 HU1 HR1 HB1 ⊢
 refine hK.out _ _ (fun _=>HF1.out) ?_
 clear hK K
 refine AnyE.one (i:=5) (by kernel_rfl) rfl (by rfl) (fun K hK=>?_)
 go_simp
 refine hK.out _ _ (fun _=>HF1.out) ?_
 clear hK K
 refine AnyE.one (i:=6) (by kernel_rfl) rfl (by rfl) (fun K hK=>?_)
 refine wp_store_mid 98 (.tmp 50) (.tmp 48) rfl (w1.heap.size+1) 4 #[.string ((⟨e0,nf⟩:Tm)).name,.int .i64 ((⟨e0,nf⟩:Tm)).num] rfl rfl (HI1.out.zGc 4 2 (show 4+2≤11 by omega)) Tryz.zcc (all_oneCell_toArray (zJb ((⟨e0,nf⟩:Tm)))) ?_
 have HI2:=zh (show Blk (W1.setCells (w1.heap.size+1) 4 [.string ((⟨e0,nf⟩:Tm)).name,.int .i64 ((⟨e0,nf⟩:Tm)).num]) _ (zea (⟨3,t.place,t.text,e0,(⟨e0,nf⟩:Tm),tm0,[],0,false⟩:Ins) (.slice none 0 0)) 101 from HI1.out.zoc 4 _ _)
 have HF2:=zh (show Blk (W1.setCells (w1.heap.size+1) 4 [.string ((⟨e0,nf⟩:Tm)).name,.int .i64 ((⟨e0,nf⟩:Tm)).num]) _ _ _ from HF1.out.zAc (by omega) 4 _ _)
 have HR2:=zh (show Blk (W1.setCells (w1.heap.size+1) 4 [.string ((⟨e0,nf⟩:Tm)).name,.int .i64 ((⟨e0,nf⟩:Tm)).num]) _ _ _ from HR1.out.zAc (by omega) 4 _ _)
 have HB2:=zh (show Below _ _ (W1.setCells (w1.heap.size+1) 4 [.string ((⟨e0,nf⟩:Tm)).name,.int .i64 ((⟨e0,nf⟩:Tm)).num]) from Below.cells2 HB1.out (by omega) 4 _ _)
 refine hK.out _ _ (fun h=>absurd rfl h) ?_
 clear hK K
 refine AnyE.done (by kernel_rfl) ?_ _
 go_wp2_with (first
  | ((with_reducible refine zra 101 (.tmp 4) ?_);refine zja rfl 101 (.tmp 4) rfl (w1.heap.size+1) (zea (⟨3,t.place,t.text,e0,(⟨e0,nf⟩:Tm),tm0,[],0,false⟩:Ins) (.slice none 0 0)) rfl HI2.out Tryz.underlying101 rfl Tryz.zza ?_)
  | ((with_reducible refine zla 101 (.tmp 2) ?_);refine zca rfl 101 (.tmp 2) (.tmp 76) rfl (w.heap.size+1) (zea (⟨3,t.place,t.text,e0,(⟨e0,nf⟩:Tm),tm0,[],0,false⟩:Ins) (.slice none 0 0)) rfl rfl HR2.out Tryz.zza rfl (zna _ _ rfl) ?_))
 exact zka (cs:=(zea (⟨3,t.place,t.text,e0,(⟨e0,nf⟩:Tm),tm0,[],0,false⟩:Ins) (.slice none 0 0))) Tryz.results125 rfl HR2.out Tryz.underlying101 rfl Tryz.zza rfl ⟨_,rfl,zWa.nil _ _,Below.row HB2.out (by omega) _⟩
theorem zPt {w:World} {t:T} {S:Nat→Prop} {kv:Value} (hk:KAt 25 w t.kids S kv) {sf:ByteArray} {nf:Int} {pf:Nat} {ks:List T} (hf:zFa t 0=.mk 24 sf nf pf ks) :
  Calls Tryz.prog 125 #[zma t kv] w (zPe w (zfd t)):=by
 have hs:zfd t=⟨4,t.place,t.text,e0,⟨sf,0⟩,tm0,[],0,false⟩:=by unfold zfd;rw [hf];rfl
 rw [hs]
 clear hs
 have HB:=zh (show Below w.heap.size w ((w.alloc (.cells (zaa t kv).toArray 25)).alloc (.cells (zea zcd (.slice none 0 0)).toArray 101)) from (((Below.refl _ _).alloc (Nat.le_refl _) _).alloc (by simp) _))
 have HN:=zh (show Blk ((w.alloc (.cells (zaa t kv).toArray 25)).alloc (.cells (zea zcd (.slice none 0 0)).toArray 101)) w.heap.size (zaa t kv) 25 from ((Blk.new w (zaa t kv) 25).alloc _))
 have HRes:=zh (Blk.zpc w (.cells (zaa t kv).toArray 25) (zea zcd (.slice none 0 0)) 101)
 have hko:=zmc (((hk.mono (S':=fun b=>b<w.heap.size) fun b _ hl=>hl).alloc (.cells (zaa t kv).toArray 25)).alloc (.cells (zea zcd (.slice none 0 0)).toArray 101)) 0
 rw [hf] at hko
 have HKO:=zh hko
 clear hk hko hf
 unfold zma
 go_enter Tryz.func125,Tryz.ntmps125
 go_wp2_with fail
 refine HKO.out.mono ?_
 rintro e w1 ⟨u,rfl,hu,hb⟩
 clear HKO
 have hn1:=HN.out.stays hb
 have hr1:=HRes.out.stays hb
 have hc1:=hn1.cell 1
 have hc3:=hn1.cell 3
 simp only [zaa,List.getElem?_cons_zero,List.getElem?_cons_succ] at hc1 hc3
 have hl1:=hr1.lt
 have hl0:=hn1.lt
 have hne0:w.heap.size≠w1.heap.size:=by omega
 have hne1:w.heap.size+1≠w1.heap.size:=by omega
 obtain ⟨ua,un,uc,rfl⟩:=hu.slice
 have HB1:=zh (HB.out.trans (hb.mono HB.out.size))
 have HR:=zh hr1
 have HU:=zh hu
 clear hn1 hr1 hb HB HN HRes hu
 unfold zma
 simp only [zRa,zXa,zBb,zJa]
 go_wp2_with fail
 obtain ⟨W0,hW0,HI,HF,HU0,HR0,HB0⟩:∃ W0:World,((w1.alloc (.cells (zaa (.mk 24 sf nf pf ks) (.slice ua un uc)).toArray 25)).alloc (.cells (zea (⟨0,t.place,t.text,e0,tm0,tm0,[],0,false⟩:Ins) (.slice none 0 0)).toArray 101)).drew=W0∧Hid (Blk W0 (w1.heap.size+1) (zea (⟨0,t.place,t.text,e0,tm0,tm0,[],0,false⟩:Ins) (.slice none 0 0)) 101)∧Hid (Blk W0 w1.heap.size (zaa (.mk 24 sf nf pf ks) (.slice ua un uc)) 25)∧Hid (KAt 25 W0 ks (fun b=>b<w.heap.size) (.slice ua un uc))∧Hid (Blk W0 (w.heap.size+1) (zea zcd (.slice none 0 0)) 101)∧Hid (Below w.heap.size w W0) :=
  ⟨_,rfl,zh (Blk.zpc w1 _ _ _).drew,zh ((Blk.new w1 _ _).alloc _).drew,zh ((HU.out.alloc _).alloc _).drew,zh ((HR.out.alloc _).alloc _).drew,zh (((HB1.out.alloc (by omega) _).alloc (by simp;omega) _).drew)⟩
 clear HU HR HB1 hc1 hc3
 refine AnyE.zof (S:=fun W=>Blk W w1.heap.size (zaa (.mk 24 sf nf pf ks) (.slice ua un uc)) 25) hW0 (by kernel_rfl) HF.out (fun hS=>?_)
 clear hW0
 refine AnyE.take (i:=0) (v:=.pointer (some ⟨w1.heap.size,1,none⟩)) rfl (by kernel_rfl) (by kernel_rfl) (by kernel_rfl) (by kernel_rfl) (fun _ _ _ h=>h) (Or.inl ⟨by rfl,fun W _=>by go_simp⟩) hS ?_
 refine AnyE.take (i:=1) (v:=.string sf) rfl (by kernel_rfl) (by kernel_rfl) (by kernel_rfl) (by kernel_rfl) (fun _ _ _ h=>h) (Or.inl ⟨by rfl,fun W hW=>by have hcx:W.cell? ⟨w1.heap.size,1,none⟩=some (.string sf):=hW.cell 1;go_simp⟩) hS ?_
 refine AnyE.take (i:=2) (v:=.agg #[.string sf,.int .i64 0]) rfl (by kernel_rfl) (by kernel_rfl) (by kernel_rfl) (by kernel_rfl) (fun _ _ _ h=>h) (Or.inl ⟨by rfl,fun W _=>by go_simp⟩) hS ?_
 refine AnyE.take (i:=3) (v:=.pointer (some ⟨w1.heap.size+1,0,none⟩)) rfl (by kernel_rfl) (by kernel_rfl) (by kernel_rfl) (by kernel_rfl) (fun _ _ _ h=>h) (Or.inl ⟨by rfl,fun W _=>by go_simp⟩) hS ?_
 refine AnyE.one (i:=4) (by kernel_rfl) rfl (by rfl) (fun K hK=>?_)
 have hcx:W0.cell? ⟨w1.heap.size+1,0,none⟩=some (.int .i64 0):=HI.out.cell 0
 have hfx:=HI.out.frozen 0
 go_simp
 clear hcx hfx
 have HI1:=zh (show Blk _ _ (zea (⟨4,t.place,t.text,e0,tm0,tm0,[],0,false⟩:Ins) (.slice none 0 0)) 101 from HI.out.zxa 0 (.int .i64 4))
 have HF1:=zh (HF.out.setOther ⟨w1.heap.size+1,0,none⟩ (.int .i64 4) (by show w1.heap.size≠w1.heap.size+1;omega))
 have HU1:=zh (HU0.out.keep (S':=fun b=>b<w.heap.size) (w':=W0.setCell ⟨w1.heap.size+1,0,none⟩ (.int .i64 4)) fun b hb hl=>⟨hb,Below.heap_setCell _ _ _ _ (by show b≠w1.heap.size+1;omega)⟩)
 have HR1:=zh (HR0.out.setOther ⟨w1.heap.size+1,0,none⟩ (.int .i64 4) (by show w.heap.size+1≠w1.heap.size+1;omega))
 have HB1:=zh (HB0.out.setCell (p:=⟨w1.heap.size+1,0,none⟩) (by show w.heap.size≤w1.heap.size+1;omega) (.int .i64 4))
 generalize W0.setCell ⟨w1.heap.size+1,0,none⟩ (.int .i64 4)=W1 at HI1 HF1 HU1 HR1 HB1 ⊢
 refine hK.out _ _ (fun _=>HF1.out) ?_
 clear hK K
 refine AnyE.one (i:=5) (by kernel_rfl) rfl (by rfl) (fun K hK=>?_)
 go_simp
 refine hK.out _ _ (fun _=>HF1.out) ?_
 clear hK K
 refine AnyE.one (i:=6) (by kernel_rfl) rfl (by rfl) (fun K hK=>?_)
 refine wp_store_mid 98 (.tmp 57) (.tmp 55) rfl (w1.heap.size+1) 4 #[.string ((⟨sf,0⟩:Tm)).name,.int .i64 ((⟨sf,0⟩:Tm)).num] rfl rfl (HI1.out.zGc 4 2 (show 4+2≤11 by omega)) Tryz.zcc (all_oneCell_toArray (zJb ((⟨sf,0⟩:Tm)))) ?_
 have HI2:=zh (show Blk (W1.setCells (w1.heap.size+1) 4 [.string ((⟨sf,0⟩:Tm)).name,.int .i64 ((⟨sf,0⟩:Tm)).num]) _ (zea (⟨4,t.place,t.text,e0,(⟨sf,0⟩:Tm),tm0,[],0,false⟩:Ins) (.slice none 0 0)) 101 from HI1.out.zoc 4 _ _)
 have HF2:=zh (show Blk (W1.setCells (w1.heap.size+1) 4 [.string ((⟨sf,0⟩:Tm)).name,.int .i64 ((⟨sf,0⟩:Tm)).num]) _ _ _ from HF1.out.zAc (by omega) 4 _ _)
 have HR2:=zh (show Blk (W1.setCells (w1.heap.size+1) 4 [.string ((⟨sf,0⟩:Tm)).name,.int .i64 ((⟨sf,0⟩:Tm)).num]) _ _ _ from HR1.out.zAc (by omega) 4 _ _)
 have HB2:=zh (show Below _ _ (W1.setCells (w1.heap.size+1) 4 [.string ((⟨sf,0⟩:Tm)).name,.int .i64 ((⟨sf,0⟩:Tm)).num]) from Below.cells2 HB1.out (by omega) 4 _ _)
 refine hK.out _ _ (fun h=>absurd rfl h) ?_
 clear hK K
 refine AnyE.done (by kernel_rfl) ?_ _
 go_wp2_with (first
  | ((with_reducible refine zra 101 (.tmp 4) ?_);refine zja rfl 101 (.tmp 4) rfl (w1.heap.size+1) (zea (⟨4,t.place,t.text,e0,(⟨sf,0⟩:Tm),tm0,[],0,false⟩:Ins) (.slice none 0 0)) rfl HI2.out Tryz.underlying101 rfl Tryz.zza ?_)
  | ((with_reducible refine zla 101 (.tmp 2) ?_);refine zca rfl 101 (.tmp 2) (.tmp 76) rfl (w.heap.size+1) (zea (⟨4,t.place,t.text,e0,(⟨sf,0⟩:Tm),tm0,[],0,false⟩:Ins) (.slice none 0 0)) rfl rfl HR2.out Tryz.zza rfl (zna _ _ rfl) ?_))
 exact zka (cs:=(zea (⟨4,t.place,t.text,e0,(⟨sf,0⟩:Tm),tm0,[],0,false⟩:Ins) (.slice none 0 0))) Tryz.results125 rfl HR2.out Tryz.underlying101 rfl Tryz.zza rfl ⟨_,rfl,zWa.nil _ _,Below.row HB2.out (by omega) _⟩
theorem ziu {w:World} {t:T} {S:Nat→Prop} {kv:Value} (hk:KAt 25 w t.kids S kv) {sf:ByteArray} {nf:Int} {pf:Nat} {ks:List T} (hf:zFa t 0=.mk 25 sf nf pf ks) :
  Calls Tryz.prog 125 #[zma t kv] w (zPe w (zfd t)):=by
 have hs:zfd t=⟨5,t.place,t.text,sf,zDa (zFa (.mk 25 sf nf pf ks) 0),tm0,[],0,false⟩:=by unfold zfd;rw [hf];rfl
 rw [hs]
 clear hs
 have HB:=zh (show Below w.heap.size w ((w.alloc (.cells (zaa t kv).toArray 25)).alloc (.cells (zea zcd (.slice none 0 0)).toArray 101)) from (((Below.refl _ _).alloc (Nat.le_refl _) _).alloc (by simp) _))
 have HN:=zh (show Blk ((w.alloc (.cells (zaa t kv).toArray 25)).alloc (.cells (zea zcd (.slice none 0 0)).toArray 101)) w.heap.size (zaa t kv) 25 from ((Blk.new w (zaa t kv) 25).alloc _))
 have HRes:=zh (Blk.zpc w (.cells (zaa t kv).toArray 25) (zea zcd (.slice none 0 0)) 101)
 have hko:=zmc (((hk.mono (S':=fun b=>b<w.heap.size) fun b _ hl=>hl).alloc (.cells (zaa t kv).toArray 25)).alloc (.cells (zea zcd (.slice none 0 0)).toArray 101)) 0
 rw [hf] at hko
 have HKO:=zh hko
 clear hk hko hf
 unfold zma
 go_enter Tryz.func125,Tryz.ntmps125
 go_wp2_with fail
 refine HKO.out.mono ?_
 rintro e w1 ⟨u,rfl,hu,hb⟩
 clear HKO
 have hn1:=HN.out.stays hb
 have hr1:=HRes.out.stays hb
 have hc1:=hn1.cell 1
 have hc3:=hn1.cell 3
 simp only [zaa,List.getElem?_cons_zero,List.getElem?_cons_succ] at hc1 hc3
 have hl1:=hr1.lt
 have hl0:=hn1.lt
 have hne0:w.heap.size≠w1.heap.size:=by omega
 have hne1:w.heap.size+1≠w1.heap.size:=by omega
 obtain ⟨ua,un,uc,rfl⟩:=hu.slice
 have HB1:=zh (HB.out.trans (hb.mono HB.out.size))
 have HR:=zh hr1
 have HU:=zh hu
 clear hn1 hr1 hb HB HN HRes hu
 unfold zma
 simp only [zRa,zXa,zBb,zJa]
 go_wp2_with fail
 obtain ⟨W0,hW0,HI,HF,HU0,HR0,HB0⟩:∃ W0:World,((w1.alloc (.cells (zaa (.mk 25 sf nf pf ks) (.slice ua un uc)).toArray 25)).alloc (.cells (zea (⟨0,t.place,t.text,e0,tm0,tm0,[],0,false⟩:Ins) (.slice none 0 0)).toArray 101)).drew=W0∧Hid (Blk W0 (w1.heap.size+1) (zea (⟨0,t.place,t.text,e0,tm0,tm0,[],0,false⟩:Ins) (.slice none 0 0)) 101)∧Hid (Blk W0 w1.heap.size (zaa (.mk 25 sf nf pf ks) (.slice ua un uc)) 25)∧Hid (KAt 25 W0 ks (fun b=>b<w.heap.size) (.slice ua un uc))∧Hid (Blk W0 (w.heap.size+1) (zea zcd (.slice none 0 0)) 101)∧Hid (Below w.heap.size w W0) :=
  ⟨_,rfl,zh (Blk.zpc w1 _ _ _).drew,zh ((Blk.new w1 _ _).alloc _).drew,zh ((HU.out.alloc _).alloc _).drew,zh ((HR.out.alloc _).alloc _).drew,zh (((HB1.out.alloc (by omega) _).alloc (by simp;omega) _).drew)⟩
 clear HU HR HB1 hc1 hc3
 refine AnyE.zof (S:=fun W=>Blk W w1.heap.size (zaa (.mk 25 sf nf pf ks) (.slice ua un uc)) 25) hW0 (by kernel_rfl) HF.out (fun hS=>?_)
 clear hW0
 refine AnyE.take (i:=0) (v:=.pointer (some ⟨w1.heap.size,1,none⟩)) rfl (by kernel_rfl) (by kernel_rfl) (by kernel_rfl) (by kernel_rfl) (fun _ _ _ h=>h) (Or.inl ⟨by rfl,fun W _=>by go_simp⟩) hS ?_
 refine AnyE.take (i:=1) (v:=.string sf) rfl (by kernel_rfl) (by kernel_rfl) (by kernel_rfl) (by kernel_rfl) (fun _ _ _ h=>h) (Or.inl ⟨by rfl,fun W hW=>by have hcx:W.cell? ⟨w1.heap.size,1,none⟩=some (.string sf):=hW.cell 1;go_simp⟩) hS ?_
 refine AnyE.take (i:=2) (v:=.agg #[.int .i64 25,.string sf,.int .i64 nf,.int .i64 pf,.slice ua un uc]) rfl (by kernel_rfl) (by kernel_rfl) (by kernel_rfl) (by kernel_rfl) (fun _ _ _ h=>h) (yieldsIf_load_mid (cs:=zaa (.mk 25 sf nf pf ks) (.slice ua un uc)) (by rfl) 25 (.tmp 3) rfl (w1.heap.size) 0 rfl _ (fun W hW j v hj=>by rw [Nat.zero_add,hW.cell j];exact hj) Tryz.underlying25 rfl Tryz.zha) hS ?_
 refine AnyE.take (i:=4) (v:=.pointer (some ⟨w1.heap.size+1,0,none⟩)) rfl (by kernel_rfl) (by kernel_rfl) (by kernel_rfl) (by kernel_rfl) (fun _ _ _ h=>h) (Or.inl ⟨by rfl,fun W _=>by go_simp⟩) hS ?_
 refine AnyE.one (i:=3) (by kernel_rfl) rfl (by rfl) (fun K hK=>?_)
 go_simp
 refine (zWc (t:=(.mk 25 sf nf pf ks)) HU0.out 0).mono ?_
 rintro e W1 ⟨rfl,hb⟩
 have HI1:=zh (HI.out.stays hb)
 have HF1:=zh (HF.out.stays hb)
 have HU1:=zh (HU0.out.below hb)
 have HR1:=zh (HR0.out.stays hb)
 have HB1:=zh (HB0.out.trans (hb.mono HB0.out.size))
 clear hb
 unfold TmV
 refine hK.out _ _ (fun _=>HF1.out) ?_
 clear hK K
 refine AnyE.one (i:=5) (by kernel_rfl) rfl (by rfl) (fun K hK=>?_)
 have hcx:W1.cell? ⟨w1.heap.size+1,0,none⟩=some (.int .i64 0):=HI1.out.cell 0
 have hfx:=HI1.out.frozen 0
 go_simp
 clear hcx hfx
 have HI2:=zh (show Blk _ _ (zea (⟨5,t.place,t.text,e0,tm0,tm0,[],0,false⟩:Ins) (.slice none 0 0)) 101 from HI1.out.zxa 0 (.int .i64 5))
 have HF2:=zh (HF1.out.setOther ⟨w1.heap.size+1,0,none⟩ (.int .i64 5) (by show w1.heap.size≠w1.heap.size+1;omega))
 have HU2:=zh (HU1.out.keep (S':=fun b=>b<w.heap.size) (w':=W1.setCell ⟨w1.heap.size+1,0,none⟩ (.int .i64 5)) fun b hb hl=>⟨hb,Below.heap_setCell _ _ _ _ (by show b≠w1.heap.size+1;omega)⟩)
 have HR2:=zh (HR1.out.setOther ⟨w1.heap.size+1,0,none⟩ (.int .i64 5) (by show w.heap.size+1≠w1.heap.size+1;omega))
 have HB2:=zh (HB1.out.setCell (p:=⟨w1.heap.size+1,0,none⟩) (by show w.heap.size≤w1.heap.size+1;omega) (.int .i64 5))
 generalize W1.setCell ⟨w1.heap.size+1,0,none⟩ (.int .i64 5)=W2 at HI2 HF2 HU2 HR2 HB2 ⊢
 refine hK.out _ _ (fun _=>HF2.out) ?_
 clear hK K
 refine AnyE.one (i:=6) (by kernel_rfl) rfl (by rfl) (fun K hK=>?_)
 go_simp
 refine hK.out _ _ (fun _=>HF2.out) ?_
 clear hK K
 refine AnyE.one (i:=7) (by kernel_rfl) rfl (by rfl) (fun K hK=>?_)
 have hcx:W2.cell? ⟨w1.heap.size+1,3,none⟩=some (.string ⟨#[]⟩):=HI2.out.cell 3
 have hfx:=HI2.out.frozen 3
 go_simp
 clear hcx hfx
 have HI3:=zh (show Blk _ _ (zea (⟨5,t.place,t.text,sf,tm0,tm0,[],0,false⟩:Ins) (.slice none 0 0)) 101 from HI2.out.zxa 3 (.string sf))
 have HF3:=zh (HF2.out.setOther ⟨w1.heap.size+1,3,none⟩ (.string sf) (by show w1.heap.size≠w1.heap.size+1;omega))
 have HU3:=zh (HU2.out.keep (S':=fun b=>b<w.heap.size) (w':=W2.setCell ⟨w1.heap.size+1,3,none⟩ (.string sf)) fun b hb hl=>⟨hb,Below.heap_setCell _ _ _ _ (by show b≠w1.heap.size+1;omega)⟩)
 have HR3:=zh (HR2.out.setOther ⟨w1.heap.size+1,3,none⟩ (.string sf) (by show w.heap.size+1≠w1.heap.size+1;omega))
 have HB3:=zh (HB2.out.setCell (p:=⟨w1.heap.size+1,3,none⟩) (by show w.heap.size≤w1.heap.size+1;omega) (.string sf))
 generalize W2.setCell ⟨w1.heap.size+1,3,none⟩ (.string sf)=W3 at HI3 HF3 HU3 HR3 HB3 ⊢
 refine hK.out _ _ (fun _=>HF3.out) ?_
 clear hK K
 refine AnyE.one (i:=8) (by kernel_rfl) rfl (by rfl) (fun K hK=>?_)
 go_simp
 refine hK.out _ _ (fun _=>HF3.out) ?_
 clear hK K
 refine AnyE.one (i:=9) (by kernel_rfl) rfl (by rfl) (fun K hK=>?_)
 refine wp_store_mid 98 (.tmp 66) (.tmp 63) rfl (w1.heap.size+1) 4 #[.string (zDa (zFa (.mk 25 sf nf pf ks) 0)).name,.int .i64 (zDa (zFa (.mk 25 sf nf pf ks) 0)).num] rfl rfl (HI3.out.zGc 4 2 (show 4+2≤11 by omega)) Tryz.zcc (all_oneCell_toArray (zJb (zDa (zFa (.mk 25 sf nf pf ks) 0)))) ?_
 have HI4:=zh (show Blk (W3.setCells (w1.heap.size+1) 4 [.string (zDa (zFa (.mk 25 sf nf pf ks) 0)).name,.int .i64 (zDa (zFa (.mk 25 sf nf pf ks) 0)).num]) _ (zea (⟨5,t.place,t.text,sf,zDa (zFa (.mk 25 sf nf pf ks) 0),tm0,[],0,false⟩:Ins) (.slice none 0 0)) 101 from HI3.out.zoc 4 _ _)
 have HF4:=zh (show Blk (W3.setCells (w1.heap.size+1) 4 [.string (zDa (zFa (.mk 25 sf nf pf ks) 0)).name,.int .i64 (zDa (zFa (.mk 25 sf nf pf ks) 0)).num]) _ _ _ from HF3.out.zAc (by omega) 4 _ _)
 have HR4:=zh (show Blk (W3.setCells (w1.heap.size+1) 4 [.string (zDa (zFa (.mk 25 sf nf pf ks) 0)).name,.int .i64 (zDa (zFa (.mk 25 sf nf pf ks) 0)).num]) _ _ _ from HR3.out.zAc (by omega) 4 _ _)
 have HB4:=zh (show Below _ _ (W3.setCells (w1.heap.size+1) 4 [.string (zDa (zFa (.mk 25 sf nf pf ks) 0)).name,.int .i64 (zDa (zFa (.mk 25 sf nf pf ks) 0)).num]) from Below.cells2 HB3.out (by omega) 4 _ _)
 refine hK.out _ _ (fun h=>absurd rfl h) ?_
 clear hK K
 refine AnyE.done (by kernel_rfl) ?_ _
 go_wp2_with (first
  | ((with_reducible refine zra 101 (.tmp 4) ?_);refine zja rfl 101 (.tmp 4) rfl (w1.heap.size+1) (zea (⟨5,t.place,t.text,sf,zDa (zFa (.mk 25 sf nf pf ks) 0),tm0,[],0,false⟩:Ins) (.slice none 0 0)) rfl HI4.out Tryz.underlying101 rfl Tryz.zza ?_)
  | ((with_reducible refine zla 101 (.tmp 2) ?_);refine zca rfl 101 (.tmp 2) (.tmp 76) rfl (w.heap.size+1) (zea (⟨5,t.place,t.text,sf,zDa (zFa (.mk 25 sf nf pf ks) 0),tm0,[],0,false⟩:Ins) (.slice none 0 0)) rfl rfl HR4.out Tryz.zza rfl (zna _ _ rfl) ?_))
 exact zka (cs:=(zea (⟨5,t.place,t.text,sf,zDa (zFa (.mk 25 sf nf pf ks) 0),tm0,[],0,false⟩:Ins) (.slice none 0 0))) Tryz.results125 rfl HR4.out Tryz.underlying101 rfl Tryz.zza rfl ⟨_,rfl,zWa.nil _ _,Below.row HB4.out (by omega) _⟩
theorem zSt {w:World} {t:T} {S:Nat→Prop} {kv:Value} (hk:KAt 25 w t.kids S kv) {sf:ByteArray} {nf:Int} {pf:Nat} {ks:List T} (hf:zFa t 0=.mk 26 sf nf pf ks) :
  Calls Tryz.prog 125 #[zma t kv] w (zPe w (zfd t)):=by
 have hs:zfd t=⟨0,t.place,t.text,e0,⟨sf,0⟩,tm0,[],0,false⟩:=by unfold zfd;rw [hf];rfl
 rw [hs]
 clear hs
 have HB:=zh (show Below w.heap.size w ((w.alloc (.cells (zaa t kv).toArray 25)).alloc (.cells (zea zcd (.slice none 0 0)).toArray 101)) from (((Below.refl _ _).alloc (Nat.le_refl _) _).alloc (by simp) _))
 have HN:=zh (show Blk ((w.alloc (.cells (zaa t kv).toArray 25)).alloc (.cells (zea zcd (.slice none 0 0)).toArray 101)) w.heap.size (zaa t kv) 25 from ((Blk.new w (zaa t kv) 25).alloc _))
 have HRes:=zh (Blk.zpc w (.cells (zaa t kv).toArray 25) (zea zcd (.slice none 0 0)) 101)
 have hko:=zmc (((hk.mono (S':=fun b=>b<w.heap.size) fun b _ hl=>hl).alloc (.cells (zaa t kv).toArray 25)).alloc (.cells (zea zcd (.slice none 0 0)).toArray 101)) 0
 rw [hf] at hko
 have HKO:=zh hko
 clear hk hko hf
 unfold zma
 go_enter Tryz.func125,Tryz.ntmps125
 go_wp2_with fail
 refine HKO.out.mono ?_
 rintro e w1 ⟨u,rfl,hu,hb⟩
 clear HKO
 have hn1:=HN.out.stays hb
 have hr1:=HRes.out.stays hb
 have hc1:=hn1.cell 1
 have hc3:=hn1.cell 3
 simp only [zaa,List.getElem?_cons_zero,List.getElem?_cons_succ] at hc1 hc3
 have hl1:=hr1.lt
 have hl0:=hn1.lt
 have hne0:w.heap.size≠w1.heap.size:=by omega
 have hne1:w.heap.size+1≠w1.heap.size:=by omega
 obtain ⟨ua,un,uc,rfl⟩:=hu.slice
 have HB1:=zh (HB.out.trans (hb.mono HB.out.size))
 have HR:=zh hr1
 have HU:=zh hu
 clear hn1 hr1 hb HB HN HRes hu
 unfold zma
 simp only [zRa,zXa,zBb,zJa]
 go_wp2_with (first
  | ((with_reducible refine zla 101 (.tmp 2) ?_);refine zca rfl 101 (.tmp 2) (.tmp 76) rfl (w.heap.size+1) (zea (⟨0,t.place,t.text,e0,⟨sf,0⟩,tm0,[],0,false⟩:Ins) (.slice none 0 0)) rfl rfl ((HR.out.alloc _).alloc _) Tryz.zza rfl (zna _ _ rfl) ?_))
 exact zka (cs:=(zea (⟨0,t.place,t.text,e0,⟨sf,0⟩,tm0,[],0,false⟩:Ins) (.slice none 0 0))) Tryz.results125 rfl ((HR.out.alloc _).alloc _) Tryz.underlying101 rfl Tryz.zza rfl ⟨_,rfl,zWa.nil _ _,Below.row ((HB1.out.alloc (by omega) _).alloc (by simp;omega) _) (by omega) _⟩
theorem zYt {w:World} {t:T} {S:Nat→Prop} {kv:Value} (hk:KAt 25 w t.kids S kv) {sf:ByteArray} {nf:Int} {pf:Nat} {ks:List T} (hf:zFa t 0=.mk 27 sf nf pf ks) :
  Calls Tryz.prog 125 #[zma t kv] w (zPe w (zfd t)):=by
 have hs:zfd t=⟨0,t.place,t.text,e0,⟨sf,0⟩,tm0,[],0,false⟩:=by unfold zfd;rw [hf];rfl
 rw [hs]
 clear hs
 have HB:=zh (show Below w.heap.size w ((w.alloc (.cells (zaa t kv).toArray 25)).alloc (.cells (zea zcd (.slice none 0 0)).toArray 101)) from (((Below.refl _ _).alloc (Nat.le_refl _) _).alloc (by simp) _))
 have HN:=zh (show Blk ((w.alloc (.cells (zaa t kv).toArray 25)).alloc (.cells (zea zcd (.slice none 0 0)).toArray 101)) w.heap.size (zaa t kv) 25 from ((Blk.new w (zaa t kv) 25).alloc _))
 have HRes:=zh (Blk.zpc w (.cells (zaa t kv).toArray 25) (zea zcd (.slice none 0 0)) 101)
 have hko:=zmc (((hk.mono (S':=fun b=>b<w.heap.size) fun b _ hl=>hl).alloc (.cells (zaa t kv).toArray 25)).alloc (.cells (zea zcd (.slice none 0 0)).toArray 101)) 0
 rw [hf] at hko
 have HKO:=zh hko
 clear hk hko hf
 unfold zma
 go_enter Tryz.func125,Tryz.ntmps125
 go_wp2_with fail
 refine HKO.out.mono ?_
 rintro e w1 ⟨u,rfl,hu,hb⟩
 clear HKO
 have hn1:=HN.out.stays hb
 have hr1:=HRes.out.stays hb
 have hc1:=hn1.cell 1
 have hc3:=hn1.cell 3
 simp only [zaa,List.getElem?_cons_zero,List.getElem?_cons_succ] at hc1 hc3
 have hl1:=hr1.lt
 have hl0:=hn1.lt
 have hne0:w.heap.size≠w1.heap.size:=by omega
 have hne1:w.heap.size+1≠w1.heap.size:=by omega
 obtain ⟨ua,un,uc,rfl⟩:=hu.slice
 have HB1:=zh (HB.out.trans (hb.mono HB.out.size))
 have HR:=zh hr1
 have HU:=zh hu
 clear hn1 hr1 hb HB HN HRes hu
 unfold zma
 simp only [zRa,zXa,zBb,zJa]
 go_wp2_with (first
  | ((with_reducible refine zla 101 (.tmp 2) ?_);refine zca rfl 101 (.tmp 2) (.tmp 76) rfl (w.heap.size+1) (zea (⟨0,t.place,t.text,e0,⟨sf,0⟩,tm0,[],0,false⟩:Ins) (.slice none 0 0)) rfl rfl ((HR.out.alloc _).alloc _) Tryz.zza rfl (zna _ _ rfl) ?_))
 exact zka (cs:=(zea (⟨0,t.place,t.text,e0,⟨sf,0⟩,tm0,[],0,false⟩:Ins) (.slice none 0 0))) Tryz.results125 rfl ((HR.out.alloc _).alloc _) Tryz.underlying101 rfl Tryz.zza rfl ⟨_,rfl,zWa.nil _ _,Below.row ((HB1.out.alloc (by omega) _).alloc (by simp;omega) _) (by omega) _⟩
theorem zpu {w:World} {t:T} {S:Nat→Prop} {kv:Value} (hk:KAt 25 w t.kids S kv) {sf:ByteArray} {nf:Int} {pf:Nat} {ks:List T} (hf:zFa t 0=.mk 28 sf nf pf ks) (hl:ks.length≤50000) :
  Calls Tryz.prog 125 #[zma t kv] w (zPe w (zfd t)):=by
 have hs:zfd t=⟨12,t.place,t.text,sf,tm0,tm0,zed (.mk 28 sf nf pf ks),0,false⟩:=by unfold zfd;rw [hf];rfl
 rw [hs]
 clear hs
 have HB:=zh (show Below w.heap.size w ((w.alloc (.cells (zaa t kv).toArray 25)).alloc (.cells (zea zcd (.slice none 0 0)).toArray 101)) from (((Below.refl _ _).alloc (Nat.le_refl _) _).alloc (by simp) _))
 have HN:=zh (show Blk ((w.alloc (.cells (zaa t kv).toArray 25)).alloc (.cells (zea zcd (.slice none 0 0)).toArray 101)) w.heap.size (zaa t kv) 25 from ((Blk.new w (zaa t kv) 25).alloc _))
 have HRes:=zh (Blk.zpc w (.cells (zaa t kv).toArray 25) (zea zcd (.slice none 0 0)) 101)
 have hko:=zmc (((hk.mono (S':=fun b=>b<w.heap.size) fun b _ hl=>hl).alloc (.cells (zaa t kv).toArray 25)).alloc (.cells (zea zcd (.slice none 0 0)).toArray 101)) 0
 rw [hf] at hko
 have HKO:=zh hko
 clear hk hko hf
 unfold zma
 go_enter Tryz.func125,Tryz.ntmps125
 go_wp2_with fail
 refine HKO.out.mono ?_
 rintro e w1 ⟨u,rfl,hu,hb⟩
 clear HKO
 have hn1:=HN.out.stays hb
 have hr1:=HRes.out.stays hb
 have hc1:=hn1.cell 1
 have hc3:=hn1.cell 3
 simp only [zaa,List.getElem?_cons_zero,List.getElem?_cons_succ] at hc1 hc3
 have hl1:=hr1.lt
 have hl0:=hn1.lt
 have hne0:w.heap.size≠w1.heap.size:=by omega
 have hne1:w.heap.size+1≠w1.heap.size:=by omega
 obtain ⟨ua,un,uc,rfl⟩:=hu.slice
 have HB1:=zh (HB.out.trans (hb.mono HB.out.size))
 have HR:=zh hr1
 have HU:=zh hu
 clear hn1 hr1 hb HB HN HRes hu
 unfold zma
 simp only [zRa,zXa,zBb,zJa]
 go_wp2_with fail
 obtain ⟨W0,hW0,HI,HF,HU0,HR0,HB0⟩:∃ W0:World,((w1.alloc (.cells (zaa (.mk 28 sf nf pf ks) (.slice ua un uc)).toArray 25)).alloc (.cells (zea (⟨0,t.place,t.text,e0,tm0,tm0,[],0,false⟩:Ins) (.slice none 0 0)).toArray 101)).drew=W0∧Hid (Blk W0 (w1.heap.size+1) (zea (⟨0,t.place,t.text,e0,tm0,tm0,[],0,false⟩:Ins) (.slice none 0 0)) 101)∧Hid (Blk W0 w1.heap.size (zaa (.mk 28 sf nf pf ks) (.slice ua un uc)) 25)∧Hid (KAt 25 W0 ks (fun b=>b<w.heap.size) (.slice ua un uc))∧Hid (Blk W0 (w.heap.size+1) (zea zcd (.slice none 0 0)) 101)∧Hid (Below w.heap.size w W0) :=
  ⟨_,rfl,zh (Blk.zpc w1 _ _ _).drew,zh ((Blk.new w1 _ _).alloc _).drew,zh ((HU.out.alloc _).alloc _).drew,zh ((HR.out.alloc _).alloc _).drew,zh (((HB1.out.alloc (by omega) _).alloc (by simp;omega) _).drew)⟩
 clear HU HR HB1 hc1 hc3
 refine AnyE.zof (S:=fun W=>Blk W w1.heap.size (zaa (.mk 28 sf nf pf ks) (.slice ua un uc)) 25) hW0 (by kernel_rfl) HF.out (fun hS=>?_)
 clear hW0
 refine AnyE.take (i:=0) (v:=.pointer (some ⟨w1.heap.size,1,none⟩)) rfl (by kernel_rfl) (by kernel_rfl) (by kernel_rfl) (by kernel_rfl) (fun _ _ _ h=>h) (Or.inl ⟨by rfl,fun W _=>by go_simp⟩) hS ?_
 refine AnyE.take (i:=1) (v:=.string sf) rfl (by kernel_rfl) (by kernel_rfl) (by kernel_rfl) (by kernel_rfl) (fun _ _ _ h=>h) (Or.inl ⟨by rfl,fun W hW=>by have hcx:W.cell? ⟨w1.heap.size,1,none⟩=some (.string sf):=hW.cell 1;go_simp⟩) hS ?_
 refine AnyE.take (i:=2) (v:=.agg #[.int .i64 28,.string sf,.int .i64 nf,.int .i64 pf,.slice ua un uc]) rfl (by kernel_rfl) (by kernel_rfl) (by kernel_rfl) (by kernel_rfl) (fun _ _ _ h=>h) (yieldsIf_load_mid (cs:=zaa (.mk 28 sf nf pf ks) (.slice ua un uc)) (by rfl) 25 (.tmp 3) rfl (w1.heap.size) 0 rfl _ (fun W hW j v hj=>by rw [Nat.zero_add,hW.cell j];exact hj) Tryz.underlying25 rfl Tryz.zha) hS ?_
 refine AnyE.take (i:=4) (v:=.pointer (some ⟨w1.heap.size+1,0,none⟩)) rfl (by kernel_rfl) (by kernel_rfl) (by kernel_rfl) (by kernel_rfl) (fun _ _ _ h=>h) (Or.inl ⟨by rfl,fun W _=>by go_simp⟩) hS ?_
 refine AnyE.one (i:=3) (by kernel_rfl) rfl (by rfl) (fun K hK=>?_)
 go_simp
 refine (zAg (t:=(.mk 28 sf nf pf ks)) HU0.out hl).mono ?_
 rintro e W1 ⟨va,rfl,ha,hb⟩
 obtain ⟨aa,an,ac,rfl⟩:=ha.slice
 have hz:=HI.out.lt
 have HA1:=zh (ha.mono (S':=fun b=>w1.heap.size+1<b) fun b hb _=>by omega)
 clear ha hz
 have HI1:=zh (HI.out.stays hb)
 have HF1:=zh (HF.out.stays hb)
 have HU1:=zh (HU0.out.below hb)
 have HR1:=zh (HR0.out.stays hb)
 have HB1:=zh (HB0.out.trans (hb.mono HB0.out.size))
 clear hb
 refine hK.out _ _ (fun _=>HF1.out) ?_
 clear hK K
 refine AnyE.one (i:=5) (by kernel_rfl) rfl (by rfl) (fun K hK=>?_)
 have hcx:W1.cell? ⟨w1.heap.size+1,0,none⟩=some (.int .i64 0):=HI1.out.cell 0
 have hfx:=HI1.out.frozen 0
 go_simp
 clear hcx hfx
 have HI2:=zh (show Blk _ _ (zea (⟨12,t.place,t.text,e0,tm0,tm0,[],0,false⟩:Ins) (.slice none 0 0)) 101 from HI1.out.zxa 0 (.int .i64 12))
 have HF2:=zh (HF1.out.setOther ⟨w1.heap.size+1,0,none⟩ (.int .i64 12) (by show w1.heap.size≠w1.heap.size+1;omega))
 have HU2:=zh (HU1.out.keep (S':=fun b=>b<w.heap.size) (w':=W1.setCell ⟨w1.heap.size+1,0,none⟩ (.int .i64 12)) fun b hb hl=>⟨hb,Below.heap_setCell _ _ _ _ (by show b≠w1.heap.size+1;omega)⟩)
 have HR2:=zh (HR1.out.setOther ⟨w1.heap.size+1,0,none⟩ (.int .i64 12) (by show w.heap.size+1≠w1.heap.size+1;omega))
 have HB2:=zh (HB1.out.setCell (p:=⟨w1.heap.size+1,0,none⟩) (by show w.heap.size≤w1.heap.size+1;omega) (.int .i64 12))
 have HA2:=zh (HA1.out.setCell ⟨w1.heap.size+1,0,none⟩ (.int .i64 12) (fun b hb=>by show b≠w1.heap.size+1;omega))
 generalize W1.setCell ⟨w1.heap.size+1,0,none⟩ (.int .i64 12)=W2 at HI2 HF2 HU2 HR2 HB2 HA2 ⊢
 refine hK.out _ _ (fun _=>HF2.out) ?_
 clear hK K
 refine AnyE.one (i:=6) (by kernel_rfl) rfl (by rfl) (fun K hK=>?_)
 go_simp
 refine hK.out _ _ (fun _=>HF2.out) ?_
 clear hK K
 refine AnyE.one (i:=7) (by kernel_rfl) rfl (by rfl) (fun K hK=>?_)
 have hcx:W2.cell? ⟨w1.heap.size+1,3,none⟩=some (.string ⟨#[]⟩):=HI2.out.cell 3
 have hfx:=HI2.out.frozen 3
 go_simp
 clear hcx hfx
 have HI3:=zh (show Blk _ _ (zea (⟨12,t.place,t.text,sf,tm0,tm0,[],0,false⟩:Ins) (.slice none 0 0)) 101 from HI2.out.zxa 3 (.string sf))
 have HF3:=zh (HF2.out.setOther ⟨w1.heap.size+1,3,none⟩ (.string sf) (by show w1.heap.size≠w1.heap.size+1;omega))
 have HU3:=zh (HU2.out.keep (S':=fun b=>b<w.heap.size) (w':=W2.setCell ⟨w1.heap.size+1,3,none⟩ (.string sf)) fun b hb hl=>⟨hb,Below.heap_setCell _ _ _ _ (by show b≠w1.heap.size+1;omega)⟩)
 have HR3:=zh (HR2.out.setOther ⟨w1.heap.size+1,3,none⟩ (.string sf) (by show w.heap.size+1≠w1.heap.size+1;omega))
 have HB3:=zh (HB2.out.setCell (p:=⟨w1.heap.size+1,3,none⟩) (by show w.heap.size≤w1.heap.size+1;omega) (.string sf))
 have HA3:=zh (HA2.out.setCell ⟨w1.heap.size+1,3,none⟩ (.string sf) (fun b hb=>by show b≠w1.heap.size+1;omega))
 generalize W2.setCell ⟨w1.heap.size+1,3,none⟩ (.string sf)=W3 at HI3 HF3 HU3 HR3 HB3 HA3 ⊢
 refine hK.out _ _ (fun _=>HF3.out) ?_
 clear hK K
 refine AnyE.one (i:=8) (by kernel_rfl) rfl (by rfl) (fun K hK=>?_)
 go_simp
 refine hK.out _ _ (fun _=>HF3.out) ?_
 clear hK K
 refine AnyE.one (i:=9) (by kernel_rfl) rfl (by rfl) (fun K hK=>?_)
 have hcx:W3.cell? ⟨w1.heap.size+1,8,none⟩=some (.slice none 0 0):=HI3.out.cell 8
 have hfx:=HI3.out.frozen 8
 go_simp
 clear hcx hfx
 have HI4:=zh (show Blk _ _ (zea (⟨12,t.place,t.text,sf,tm0,tm0,zed (.mk 28 sf nf pf ks),0,false⟩:Ins) (.slice aa an ac)) 101 from HI3.out.zxa 8 (.slice aa an ac))
 have HF4:=zh (HF3.out.setOther ⟨w1.heap.size+1,8,none⟩ (.slice aa an ac) (by show w1.heap.size≠w1.heap.size+1;omega))
 have HU4:=zh (HU3.out.keep (S':=fun b=>b<w.heap.size) (w':=W3.setCell ⟨w1.heap.size+1,8,none⟩ (.slice aa an ac)) fun b hb hl=>⟨hb,Below.heap_setCell _ _ _ _ (by show b≠w1.heap.size+1;omega)⟩)
 have HR4:=zh (HR3.out.setOther ⟨w1.heap.size+1,8,none⟩ (.slice aa an ac) (by show w.heap.size+1≠w1.heap.size+1;omega))
 have HB4:=zh (HB3.out.setCell (p:=⟨w1.heap.size+1,8,none⟩) (by show w.heap.size≤w1.heap.size+1;omega) (.slice aa an ac))
 have HA4:=zh (HA3.out.setCell ⟨w1.heap.size+1,8,none⟩ (.slice aa an ac) (fun b hb=>by show b≠w1.heap.size+1;omega))
 generalize W3.setCell ⟨w1.heap.size+1,8,none⟩ (.slice aa an ac)=W4 at HI4 HF4 HU4 HR4 HB4 HA4 ⊢
 refine hK.out _ _ (fun h=>absurd rfl h) ?_
 clear hK K
 refine AnyE.done (by kernel_rfl) ?_ _
 go_wp2_with (first
  | ((with_reducible refine zra 101 (.tmp 4) ?_);refine zja rfl 101 (.tmp 4) rfl (w1.heap.size+1) (zea (⟨12,t.place,t.text,sf,tm0,tm0,zed (.mk 28 sf nf pf ks),0,false⟩:Ins) (.slice aa an ac)) rfl HI4.out Tryz.underlying101 rfl Tryz.zza ?_)
  | ((with_reducible refine zla 101 (.tmp 2) ?_);refine zca rfl 101 (.tmp 2) (.tmp 76) rfl (w.heap.size+1) (zea (⟨12,t.place,t.text,sf,tm0,tm0,zed (.mk 28 sf nf pf ks),0,false⟩:Ins) (.slice aa an ac)) rfl rfl HR4.out Tryz.zza rfl (zna _ _ rfl) ?_))
 exact zka (cs:=(zea (⟨12,t.place,t.text,sf,tm0,tm0,zed (.mk 28 sf nf pf ks),0,false⟩:Ins) (.slice aa an ac))) Tryz.results125 rfl HR4.out Tryz.underlying101 rfl Tryz.zza rfl ⟨_,rfl,((HA4.out.setRow _ _ (fun b hb=>by omega)).mono (fun b hb _=>by omega)),Below.row HB4.out (by omega) _⟩
theorem set_any {w:World} {t:T} {S:Nat→Prop} {kv:Value} (hk:KAt 25 w t.kids S kv) (hx:zEc (zFa t 0).kind) (hl:(zFa t 0).kids.length≤50000) :
  Calls Tryz.prog 125 #[zma t kv] w (zPe w (zfd t)):=by
 cases hf:zFa t 0 with
 | mk k s n p ks =>
  rw [hf] at hx hl
  have h:k=5∨k=21∨k=22∨k=23∨k=24∨k=25∨k=26∨k=27∨k=28:=by unfold zEc at hx;rw [zRa] at hx;omega
  rcases h with rfl|rfl|rfl|rfl|rfl|rfl|rfl|rfl|rfl
  ·exact set_5 hk hf
  ·exact zNt hk hf
  ·exact zCt hk hf
  ·exact zGt hk hf
  ·exact zPt hk hf
  ·exact ziu hk hf
  ·exact zSt hk hf
  ·exact zYt hk hf
  ·exact zpu hk hf hl
end Go.Proofs.YthdbmgijpelecaaGreatDoor
