/- The contract of code.simple: the instruction of a statement without a block or an expression, by its kind. -/
import Derived.Test.YthdbmgijpelecaaGreatDoorM15
namespace Go.Proofs.YthdbmgijpelecaaGreatDoor
set_option maxRecDepth 100000
set_option maxHeartbeats 2000000
open Go.RowKit
theorem zOc {P:Program} {fn:Func} {s u:Tmp} {ty t:TypeId} (h:fn.results=#[.cell s ty,.tmp u]) {a:Act} {W:World} {g:Nat} {cs:List Value} {d:TypeDesc} {R:Ending→World→Prop} {x:Value} (hs:a.tmps.getD s undef=.pointer (some ⟨g,0,none⟩))
  (hb:Blk W g cs t) (hu:P.underlying ty=some d) (hd:d.isRow=true) (hi:(P.info? ty).map (·.size)=some cs.length) (hx:a.tmps.getD u undef=x) (hdf:a.defers=[]) (hR:R (.returned (.tuple #[.agg cs.toArray,x])) W):bodyPost P fn R .ret a W:=by
 refine bodyPost_ret ?_ hdf hR
 have hl:=run_loadVar_mid (P:=P) W g 0 ty cs d (fun j v hj=>by rw [Nat.zero_add,hb.cell j];exact hj) hu hd hi
 have hs':a.tmps[s]?.getD undef=.pointer (some ⟨g,0,none⟩):=by rw [← hs];simp
 have hx':a.tmps[u]?.getD undef=x:=by rw [← hx];simp
 simp [results,h,hs',asAddr,hl,hx']
def zVc (w:World) (i:Ins) (e:Ending) (w':World):Prop:=∃ u,e=.returned (.tuple #[zmo i u,.bool true])∧zWa w' i.args (fun b=>w.heap.size≤b) u∧Below w.heap.size w w'
theorem zPk {w:World} {tx:ByteArray} {nm:Int} {p:Nat} {ks:List T} {S:Nat→Prop} {kv:Value} (hk:KAt 25 w ks S kv) :
  zae (.mk 11 tx nm p ks)=some (⟨6,p,e0,tx,zDa (zFa (.mk 11 tx nm p ks) 0),zDa (zFa (.mk 11 tx nm p ks) 1),[],0,false⟩:Ins)∧Calls Tryz.prog 126 #[zma (.mk 11 tx nm p ks) kv] w (zVc w (⟨6,p,e0,tx,zDa (zFa (.mk 11 tx nm p ks) 0),zDa (zFa (.mk 11 tx nm p ks) 1),[],0,false⟩:Ins)):=by
 refine ⟨rfl,?_⟩
 obtain ⟨ua,un,uc,rfl⟩:=hk.slice
 obtain ⟨W0,hW0,HI0,HF0,HU0,HR0,HB0⟩:∃ W0:World,(((w.alloc (.cells (zaa (.mk 11 tx nm p ks) (.slice ua un uc)).toArray 25)).alloc (.cells (zea zcd (.slice none 0 0)).toArray 101)).alloc (.cells (zea (⟨0,p,e0,e0,tm0,tm0,[],0,false⟩:Ins) (.slice none 0 0)).toArray 101)).drew=W0∧Hid (Blk W0 (w.heap.size+1+1) (zea (⟨0,p,e0,e0,tm0,tm0,[],0,false⟩:Ins) (.slice none 0 0)) 101)∧Hid (Blk W0 w.heap.size (zaa (.mk 11 tx nm p ks) (.slice ua un uc)) 25)∧Hid (KAt 25 W0 ks (fun b=>b<w.heap.size) (.slice ua un uc))∧Hid (Blk W0 (w.heap.size+1) (zea zcd (.slice none 0 0)) 101)∧Hid (Below w.heap.size w W0) :=
  ⟨_,rfl,zh (by have h:=Blk.zpc (w.alloc (.cells (zaa (.mk 11 tx nm p ks) (.slice ua un uc)).toArray 25)) (.cells (zea zcd (.slice none 0 0)).toArray 101) (zea (⟨0,p,e0,e0,tm0,tm0,[],0,false⟩:Ins) (.slice none 0 0)) 101;rw [show (w.alloc (.cells (zaa (.mk 11 tx nm p ks) (.slice ua un uc)).toArray 25)).heap.size=w.heap.size+1 by simp] at h;exact h.drew),
   zh (((Blk.new w _ _).alloc _).alloc _).drew,zh ((((hk.mono (S':=fun b=>b<w.heap.size) fun b _ hl=>hl).alloc _).alloc _).alloc _).drew,zh ((Blk.zpc w _ _ _).alloc _).drew,zh ((((Below.refl _ _).alloc (Nat.le_refl _) _).alloc (by simp) _).alloc (by simp;omega) _).drew⟩
 clear hk
 unfold zma
 simp only [zRa,zXa,zBb,zJa]
 go_enter Tryz.func126,Tryz.ntmps126
 go_wp2_with fail
 refine AnyE.zof (S:=fun W=>Blk W w.heap.size (zaa (.mk 11 tx nm p ks) (.slice ua un uc)) 25) hW0 (by kernel_rfl) HF0.out (fun hS=>?_)
 clear hW0
 refine AnyE.take (i:=0) (v:=.pointer (some ⟨w.heap.size,1,none⟩)) rfl (by kernel_rfl) (by kernel_rfl) (by kernel_rfl) (by kernel_rfl) (fun _ _ _ h=>h) (Or.inl ⟨by rfl,fun W _=>by go_simp⟩) hS ?_
 refine AnyE.take (i:=1) (v:=.string tx) rfl (by kernel_rfl) (by kernel_rfl) (by kernel_rfl) (by kernel_rfl) (fun _ _ _ h=>h) (Or.inl ⟨by rfl,fun W hW=>by have hcx:W.cell? ⟨w.heap.size,1,none⟩=some (.string tx):=hW.cell 1;go_simp⟩) hS ?_
 refine AnyE.take (i:=2) (v:=.agg #[.int .i64 11,.string tx,.int .i64 nm,.int .i64 p,.slice ua un uc]) rfl (by kernel_rfl) (by kernel_rfl) (by kernel_rfl) (by kernel_rfl) (fun _ _ _ h=>h) (yieldsIf_load_mid (cs:=(zaa (.mk 11 tx nm p ks) (.slice ua un uc))) (by rfl) 25 (.tmp 1) rfl (w.heap.size) 0 rfl _ (fun W hW j v hj=>by rw [Nat.zero_add,hW.cell j];exact hj) Tryz.underlying25 rfl Tryz.zha) hS ?_
 refine AnyE.take (i:=4) (v:=.agg #[.int .i64 11,.string tx,.int .i64 nm,.int .i64 p,.slice ua un uc]) rfl (by kernel_rfl) (by kernel_rfl) (by kernel_rfl) (by kernel_rfl) (fun _ _ _ h=>h) (yieldsIf_load_mid (cs:=(zaa (.mk 11 tx nm p ks) (.slice ua un uc))) (by rfl) 25 (.tmp 1) rfl (w.heap.size) 0 rfl _ (fun W hW j v hj=>by rw [Nat.zero_add,hW.cell j];exact hj) Tryz.underlying25 rfl Tryz.zha) hS ?_
 refine AnyE.take (i:=6) (v:=.pointer (some ⟨w.heap.size+1+1,0,none⟩)) rfl (by kernel_rfl) (by kernel_rfl) (by kernel_rfl) (by kernel_rfl) (fun _ _ _ h=>h) (Or.inl ⟨by rfl,fun W _=>by go_simp⟩) hS ?_
 refine AnyE.one (i:=3) (by kernel_rfl) rfl (by rfl) (fun K hK=>?_)
 go_simp
 refine (zWc (t:=(.mk 11 tx nm p ks)) HU0.out 0).mono ?_
 rintro e W1 ⟨rfl,hb⟩
 have HI1:=zh (HI0.out.stays hb)
 have HF1:=zh (HF0.out.stays hb)
 have HU1:=zh (HU0.out.below hb)
 have HR1:=zh (HR0.out.stays hb)
 have HB1:=zh (HB0.out.trans (hb.mono HB0.out.size))
 clear hb
 unfold TmV
 refine hK.out _ _ (fun _=>HF1.out) ?_
 clear hK K
 refine AnyE.one (i:=5) (by kernel_rfl) rfl (by rfl) (fun K hK=>?_)
 go_simp
 refine (zWc (t:=(.mk 11 tx nm p ks)) HU1.out 1).mono ?_
 rintro e W2 ⟨rfl,hb⟩
 have HI2:=zh (HI1.out.stays hb)
 have HF2:=zh (HF1.out.stays hb)
 have HU2:=zh (HU1.out.below hb)
 have HR2:=zh (HR1.out.stays hb)
 have HB2:=zh (HB1.out.trans (hb.mono HB1.out.size))
 clear hb
 unfold TmV
 refine hK.out _ _ (fun _=>HF2.out) ?_
 clear hK K
 refine AnyE.one (i:=7) (by kernel_rfl) rfl (by rfl) (fun K hK=>?_)
 have hcx:W2.cell? ⟨w.heap.size+1+1,0,none⟩=some (.int .i64 0):=HI2.out.cell 0
 have hfx:=HI2.out.frozen 0
 go_simp
 clear hcx hfx
 have HI3:=zh (show Blk _ _ (zea (⟨6,p,e0,e0,tm0,tm0,[],0,false⟩:Ins) (.slice none 0 0)) 101 from HI2.out.zxa 0 (.int .i64 6))
 have HF3:=zh (HF2.out.setOther ⟨w.heap.size+1+1,0,none⟩ (.int .i64 6) (by show w.heap.size≠w.heap.size+1+1;omega))
 have HU3:=zh (HU2.out.keep (S':=fun b=>b<w.heap.size) (w':=W2.setCell ⟨w.heap.size+1+1,0,none⟩ (.int .i64 6)) fun b hb hl=>⟨hb,Below.heap_setCell _ _ _ _ (by show b≠w.heap.size+1+1;omega)⟩)
 have HR3:=zh (HR2.out.setOther ⟨w.heap.size+1+1,0,none⟩ (.int .i64 6) (by show w.heap.size+1≠w.heap.size+1+1;omega))
 have HB3:=zh (HB2.out.setCell (p:=⟨w.heap.size+1+1,0,none⟩) (by show w.heap.size≤w.heap.size+1+1;omega) (.int .i64 6))
 generalize W2.setCell ⟨w.heap.size+1+1,0,none⟩ (.int .i64 6)=W3 at HI3 HF3 HU3 HR3 HB3 ⊢
 refine hK.out _ _ (fun _=>HF3.out) ?_
 clear hK K
 refine AnyE.one (i:=8) (by kernel_rfl) rfl (by rfl) (fun K hK=>?_)
 go_simp
 refine hK.out _ _ (fun _=>HF3.out) ?_
 clear hK K
 refine AnyE.one (i:=9) (by kernel_rfl) rfl (by rfl) (fun K hK=>?_)
 have hcx:W3.cell? ⟨w.heap.size+1+1,3,none⟩=some (.string ⟨#[]⟩):=HI3.out.cell 3
 have hfx:=HI3.out.frozen 3
 go_simp
 clear hcx hfx
 have HI4:=zh (show Blk _ _ (zea (⟨6,p,e0,tx,tm0,tm0,[],0,false⟩:Ins) (.slice none 0 0)) 101 from HI3.out.zxa 3 (.string tx))
 have HF4:=zh (HF3.out.setOther ⟨w.heap.size+1+1,3,none⟩ (.string tx) (by show w.heap.size≠w.heap.size+1+1;omega))
 have HU4:=zh (HU3.out.keep (S':=fun b=>b<w.heap.size) (w':=W3.setCell ⟨w.heap.size+1+1,3,none⟩ (.string tx)) fun b hb hl=>⟨hb,Below.heap_setCell _ _ _ _ (by show b≠w.heap.size+1+1;omega)⟩)
 have HR4:=zh (HR3.out.setOther ⟨w.heap.size+1+1,3,none⟩ (.string tx) (by show w.heap.size+1≠w.heap.size+1+1;omega))
 have HB4:=zh (HB3.out.setCell (p:=⟨w.heap.size+1+1,3,none⟩) (by show w.heap.size≤w.heap.size+1+1;omega) (.string tx))
 generalize W3.setCell ⟨w.heap.size+1+1,3,none⟩ (.string tx)=W4 at HI4 HF4 HU4 HR4 HB4 ⊢
 refine hK.out _ _ (fun _=>HF4.out) ?_
 clear hK K
 refine AnyE.one (i:=10) (by kernel_rfl) rfl (by rfl) (fun K hK=>?_)
 go_simp
 refine hK.out _ _ (fun _=>HF4.out) ?_
 clear hK K
 refine AnyE.one (i:=11) (by kernel_rfl) rfl (by rfl) (fun K hK=>?_)
 refine wp_store_mid 98 (.tmp 22) (.tmp 17) rfl (w.heap.size+1+1) 4 #[.string (zDa (zFa (.mk 11 tx nm p ks) 0)).name,.int .i64 (zDa (zFa (.mk 11 tx nm p ks) 0)).num] rfl rfl (HI4.out.zGc 4 2 (show 4+2≤11 by omega)) Tryz.zcc (all_oneCell_toArray (zJb (zDa (zFa (.mk 11 tx nm p ks) 0)))) ?_
 have HI5:=zh (show Blk (W4.setCells (w.heap.size+1+1) 4 [.string (zDa (zFa (.mk 11 tx nm p ks) 0)).name,.int .i64 (zDa (zFa (.mk 11 tx nm p ks) 0)).num]) _ (zea (⟨6,p,e0,tx,zDa (zFa (.mk 11 tx nm p ks) 0),tm0,[],0,false⟩:Ins) (.slice none 0 0)) 101 from HI4.out.zoc 4 _ _)
 have HF5:=zh (show Blk (W4.setCells (w.heap.size+1+1) 4 [.string (zDa (zFa (.mk 11 tx nm p ks) 0)).name,.int .i64 (zDa (zFa (.mk 11 tx nm p ks) 0)).num]) _ _ _ from HF4.out.zAc (by omega) 4 _ _)
 have HR5:=zh (show Blk (W4.setCells (w.heap.size+1+1) 4 [.string (zDa (zFa (.mk 11 tx nm p ks) 0)).name,.int .i64 (zDa (zFa (.mk 11 tx nm p ks) 0)).num]) _ _ _ from HR4.out.zAc (by omega) 4 _ _)
 have HB5:=zh (show Below _ _ (W4.setCells (w.heap.size+1+1) 4 [.string (zDa (zFa (.mk 11 tx nm p ks) 0)).name,.int .i64 (zDa (zFa (.mk 11 tx nm p ks) 0)).num]) from Below.cells2 HB4.out (by omega) 4 _ _)
 refine hK.out _ _ (fun _=>HF5.out) ?_
 clear hK K
 refine AnyE.one (i:=12) (by kernel_rfl) rfl (by rfl) (fun K hK=>?_)
 go_simp
 refine hK.out _ _ (fun _=>HF5.out) ?_
 clear hK K
 refine AnyE.one (i:=13) (by kernel_rfl) rfl (by rfl) (fun K hK=>?_)
 refine wp_store_mid 98 (.tmp 23) (.tmp 19) rfl (w.heap.size+1+1) 6 #[.string (zDa (zFa (.mk 11 tx nm p ks) 1)).name,.int .i64 (zDa (zFa (.mk 11 tx nm p ks) 1)).num] rfl rfl (HI5.out.zGc 6 2 (show 6+2≤11 by omega)) Tryz.zcc (all_oneCell_toArray (zJb (zDa (zFa (.mk 11 tx nm p ks) 1)))) ?_
 have HI6:=zh (show Blk ((W4.setCells (w.heap.size+1+1) 4 [.string (zDa (zFa (.mk 11 tx nm p ks) 0)).name,.int .i64 (zDa (zFa (.mk 11 tx nm p ks) 0)).num]).setCells (w.heap.size+1+1) 6 [.string (zDa (zFa (.mk 11 tx nm p ks) 1)).name,.int .i64 (zDa (zFa (.mk 11 tx nm p ks) 1)).num]) _ (zea (⟨6,p,e0,tx,zDa (zFa (.mk 11 tx nm p ks) 0),zDa (zFa (.mk 11 tx nm p ks) 1),[],0,false⟩:Ins) (.slice none 0 0)) 101 from HI5.out.zoc 6 _ _)
 have HF6:=zh (show Blk ((W4.setCells (w.heap.size+1+1) 4 [.string (zDa (zFa (.mk 11 tx nm p ks) 0)).name,.int .i64 (zDa (zFa (.mk 11 tx nm p ks) 0)).num]).setCells (w.heap.size+1+1) 6 [.string (zDa (zFa (.mk 11 tx nm p ks) 1)).name,.int .i64 (zDa (zFa (.mk 11 tx nm p ks) 1)).num]) _ _ _ from HF5.out.zAc (by omega) 6 _ _)
 have HR6:=zh (show Blk ((W4.setCells (w.heap.size+1+1) 4 [.string (zDa (zFa (.mk 11 tx nm p ks) 0)).name,.int .i64 (zDa (zFa (.mk 11 tx nm p ks) 0)).num]).setCells (w.heap.size+1+1) 6 [.string (zDa (zFa (.mk 11 tx nm p ks) 1)).name,.int .i64 (zDa (zFa (.mk 11 tx nm p ks) 1)).num]) _ _ _ from HR5.out.zAc (by omega) 6 _ _)
 have HB6:=zh (show Below _ _ ((W4.setCells (w.heap.size+1+1) 4 [.string (zDa (zFa (.mk 11 tx nm p ks) 0)).name,.int .i64 (zDa (zFa (.mk 11 tx nm p ks) 0)).num]).setCells (w.heap.size+1+1) 6 [.string (zDa (zFa (.mk 11 tx nm p ks) 1)).name,.int .i64 (zDa (zFa (.mk 11 tx nm p ks) 1)).num]) from Below.cells2 HB5.out (by omega) 6 _ _)
 refine hK.out _ _ (fun h=>absurd rfl h) ?_
 clear hK K
 refine AnyE.done (by kernel_rfl) ?_ _
 go_wp2_with (first
  | ((with_reducible refine zra 101 (.tmp 4) ?_);refine zja rfl 101 (.tmp 4) rfl (w.heap.size+1+1) (zea (⟨6,p,e0,tx,zDa (zFa (.mk 11 tx nm p ks) 0),zDa (zFa (.mk 11 tx nm p ks) 1),[],0,false⟩:Ins) (.slice none 0 0)) rfl HI6.out Tryz.underlying101 rfl Tryz.zza ?_)
  | ((with_reducible refine zla 101 (.tmp 2) ?_);refine zca rfl 101 (.tmp 2) (.tmp 84) rfl (w.heap.size+1) (zea (⟨6,p,e0,tx,zDa (zFa (.mk 11 tx nm p ks) 0),zDa (zFa (.mk 11 tx nm p ks) 1),[],0,false⟩:Ins) (.slice none 0 0)) rfl rfl HR6.out Tryz.zza rfl (zna _ _ rfl) ?_))
 exact zOc (cs:=(zea (⟨6,p,e0,tx,zDa (zFa (.mk 11 tx nm p ks) 0),zDa (zFa (.mk 11 tx nm p ks) 1),[],0,false⟩:Ins) (.slice none 0 0))) Tryz.results126 rfl (HR6.out.zvb _) Tryz.underlying101 rfl Tryz.zza rfl rfl ⟨_,rfl,zWa.nil _ _,Below.row HB6.out (by omega) _⟩
theorem zrl {w:World} {tx:ByteArray} {nm:Int} {p:Nat} {ks:List T} {S:Nat→Prop} {kv:Value} (hk:KAt 25 w ks S kv) :
  zae (.mk 12 tx nm p ks)=some (⟨7,p,e0,tx,tm0,tm0,[],0,false⟩:Ins)∧Calls Tryz.prog 126 #[zma (.mk 12 tx nm p ks) kv] w (zVc w (⟨7,p,e0,tx,tm0,tm0,[],0,false⟩:Ins)):=by
 refine ⟨rfl,?_⟩
 obtain ⟨ua,un,uc,rfl⟩:=hk.slice
 obtain ⟨W0,hW0,HI0,HF0,HU0,HR0,HB0⟩:∃ W0:World,(((w.alloc (.cells (zaa (.mk 12 tx nm p ks) (.slice ua un uc)).toArray 25)).alloc (.cells (zea zcd (.slice none 0 0)).toArray 101)).alloc (.cells (zea (⟨0,p,e0,e0,tm0,tm0,[],0,false⟩:Ins) (.slice none 0 0)).toArray 101)).drew=W0∧Hid (Blk W0 (w.heap.size+1+1) (zea (⟨0,p,e0,e0,tm0,tm0,[],0,false⟩:Ins) (.slice none 0 0)) 101)∧Hid (Blk W0 w.heap.size (zaa (.mk 12 tx nm p ks) (.slice ua un uc)) 25)∧Hid (KAt 25 W0 ks (fun b=>b<w.heap.size) (.slice ua un uc))∧Hid (Blk W0 (w.heap.size+1) (zea zcd (.slice none 0 0)) 101)∧Hid (Below w.heap.size w W0) :=
  ⟨_,rfl,zh (by have h:=Blk.zpc (w.alloc (.cells (zaa (.mk 12 tx nm p ks) (.slice ua un uc)).toArray 25)) (.cells (zea zcd (.slice none 0 0)).toArray 101) (zea (⟨0,p,e0,e0,tm0,tm0,[],0,false⟩:Ins) (.slice none 0 0)) 101;rw [show (w.alloc (.cells (zaa (.mk 12 tx nm p ks) (.slice ua un uc)).toArray 25)).heap.size=w.heap.size+1 by simp] at h;exact h.drew),
   zh (((Blk.new w _ _).alloc _).alloc _).drew,zh ((((hk.mono (S':=fun b=>b<w.heap.size) fun b _ hl=>hl).alloc _).alloc _).alloc _).drew,zh ((Blk.zpc w _ _ _).alloc _).drew,zh ((((Below.refl _ _).alloc (Nat.le_refl _) _).alloc (by simp) _).alloc (by simp;omega) _).drew⟩
 clear hk
 unfold zma
 simp only [zRa,zXa,zBb,zJa]
 go_enter Tryz.func126,Tryz.ntmps126
 go_wp2_with fail
 refine AnyE.zof (S:=fun W=>Blk W w.heap.size (zaa (.mk 12 tx nm p ks) (.slice ua un uc)) 25) hW0 (by kernel_rfl) HF0.out (fun hS=>?_)
 clear hW0
 refine AnyE.take (i:=0) (v:=.pointer (some ⟨w.heap.size,1,none⟩)) rfl (by kernel_rfl) (by kernel_rfl) (by kernel_rfl) (by kernel_rfl) (fun _ _ _ h=>h) (Or.inl ⟨by rfl,fun W _=>by go_simp⟩) hS ?_
 refine AnyE.take (i:=1) (v:=.string tx) rfl (by kernel_rfl) (by kernel_rfl) (by kernel_rfl) (by kernel_rfl) (fun _ _ _ h=>h) (Or.inl ⟨by rfl,fun W hW=>by have hcx:W.cell? ⟨w.heap.size,1,none⟩=some (.string tx):=hW.cell 1;go_simp⟩) hS ?_
 refine AnyE.take (i:=2) (v:=.pointer (some ⟨w.heap.size+1+1,0,none⟩)) rfl (by kernel_rfl) (by kernel_rfl) (by kernel_rfl) (by kernel_rfl) (fun _ _ _ h=>h) (Or.inl ⟨by rfl,fun W _=>by go_simp⟩) hS ?_
 refine AnyE.one (i:=3) (by kernel_rfl) rfl (by rfl) (fun K hK=>?_)
 have hcx:W0.cell? ⟨w.heap.size+1+1,0,none⟩=some (.int .i64 0):=HI0.out.cell 0
 have hfx:=HI0.out.frozen 0
 go_simp
 clear hcx hfx
 have HI1:=zh (show Blk _ _ (zea (⟨7,p,e0,e0,tm0,tm0,[],0,false⟩:Ins) (.slice none 0 0)) 101 from HI0.out.zxa 0 (.int .i64 7))
 have HF1:=zh (HF0.out.setOther ⟨w.heap.size+1+1,0,none⟩ (.int .i64 7) (by show w.heap.size≠w.heap.size+1+1;omega))
 have HU1:=zh (HU0.out.keep (S':=fun b=>b<w.heap.size) (w':=W0.setCell ⟨w.heap.size+1+1,0,none⟩ (.int .i64 7)) fun b hb hl=>⟨hb,Below.heap_setCell _ _ _ _ (by show b≠w.heap.size+1+1;omega)⟩)
 have HR1:=zh (HR0.out.setOther ⟨w.heap.size+1+1,0,none⟩ (.int .i64 7) (by show w.heap.size+1≠w.heap.size+1+1;omega))
 have HB1:=zh (HB0.out.setCell (p:=⟨w.heap.size+1+1,0,none⟩) (by show w.heap.size≤w.heap.size+1+1;omega) (.int .i64 7))
 generalize W0.setCell ⟨w.heap.size+1+1,0,none⟩ (.int .i64 7)=W1 at HI1 HF1 HU1 HR1 HB1 ⊢
 refine hK.out _ _ (fun _=>HF1.out) ?_
 clear hK K
 refine AnyE.one (i:=4) (by kernel_rfl) rfl (by rfl) (fun K hK=>?_)
 go_simp
 refine hK.out _ _ (fun _=>HF1.out) ?_
 clear hK K
 refine AnyE.one (i:=5) (by kernel_rfl) rfl (by rfl) (fun K hK=>?_)
 have hcx:W1.cell? ⟨w.heap.size+1+1,3,none⟩=some (.string ⟨#[]⟩):=HI1.out.cell 3
 have hfx:=HI1.out.frozen 3
 go_simp
 clear hcx hfx
 have HI2:=zh (show Blk _ _ (zea (⟨7,p,e0,tx,tm0,tm0,[],0,false⟩:Ins) (.slice none 0 0)) 101 from HI1.out.zxa 3 (.string tx))
 have HF2:=zh (HF1.out.setOther ⟨w.heap.size+1+1,3,none⟩ (.string tx) (by show w.heap.size≠w.heap.size+1+1;omega))
 have HU2:=zh (HU1.out.keep (S':=fun b=>b<w.heap.size) (w':=W1.setCell ⟨w.heap.size+1+1,3,none⟩ (.string tx)) fun b hb hl=>⟨hb,Below.heap_setCell _ _ _ _ (by show b≠w.heap.size+1+1;omega)⟩)
 have HR2:=zh (HR1.out.setOther ⟨w.heap.size+1+1,3,none⟩ (.string tx) (by show w.heap.size+1≠w.heap.size+1+1;omega))
 have HB2:=zh (HB1.out.setCell (p:=⟨w.heap.size+1+1,3,none⟩) (by show w.heap.size≤w.heap.size+1+1;omega) (.string tx))
 generalize W1.setCell ⟨w.heap.size+1+1,3,none⟩ (.string tx)=W2 at HI2 HF2 HU2 HR2 HB2 ⊢
 refine hK.out _ _ (fun h=>absurd rfl h) ?_
 clear hK K
 refine AnyE.done (by kernel_rfl) ?_ _
 go_wp2_with (first
  | ((with_reducible refine zra 101 (.tmp 4) ?_);refine zja rfl 101 (.tmp 4) rfl (w.heap.size+1+1) (zea (⟨7,p,e0,tx,tm0,tm0,[],0,false⟩:Ins) (.slice none 0 0)) rfl HI2.out Tryz.underlying101 rfl Tryz.zza ?_)
  | ((with_reducible refine zla 101 (.tmp 2) ?_);refine zca rfl 101 (.tmp 2) (.tmp 84) rfl (w.heap.size+1) (zea (⟨7,p,e0,tx,tm0,tm0,[],0,false⟩:Ins) (.slice none 0 0)) rfl rfl HR2.out Tryz.zza rfl (zna _ _ rfl) ?_))
 exact zOc (cs:=(zea (⟨7,p,e0,tx,tm0,tm0,[],0,false⟩:Ins) (.slice none 0 0))) Tryz.results126 rfl (HR2.out.zvb _) Tryz.underlying101 rfl Tryz.zza rfl rfl ⟨_,rfl,zWa.nil _ _,Below.row HB2.out (by omega) _⟩
theorem zIk {w:World} {tx:ByteArray} {nm:Int} {p:Nat} {ks:List T} {S:Nat→Prop} {kv:Value} (hk:KAt 25 w ks S kv) :
  zae (.mk 13 tx nm p ks)=some (⟨8,p,e0,tx,⟨e0,nm⟩,tm0,[],0,false⟩:Ins)∧Calls Tryz.prog 126 #[zma (.mk 13 tx nm p ks) kv] w (zVc w (⟨8,p,e0,tx,⟨e0,nm⟩,tm0,[],0,false⟩:Ins)):=by
 refine ⟨rfl,?_⟩
 obtain ⟨ua,un,uc,rfl⟩:=hk.slice
 obtain ⟨W0,hW0,HI0,HF0,HU0,HR0,HB0⟩:∃ W0:World,(((w.alloc (.cells (zaa (.mk 13 tx nm p ks) (.slice ua un uc)).toArray 25)).alloc (.cells (zea zcd (.slice none 0 0)).toArray 101)).alloc (.cells (zea (⟨0,p,e0,e0,tm0,tm0,[],0,false⟩:Ins) (.slice none 0 0)).toArray 101)).drew=W0∧Hid (Blk W0 (w.heap.size+1+1) (zea (⟨0,p,e0,e0,tm0,tm0,[],0,false⟩:Ins) (.slice none 0 0)) 101)∧Hid (Blk W0 w.heap.size (zaa (.mk 13 tx nm p ks) (.slice ua un uc)) 25)∧Hid (KAt 25 W0 ks (fun b=>b<w.heap.size) (.slice ua un uc))∧Hid (Blk W0 (w.heap.size+1) (zea zcd (.slice none 0 0)) 101)∧Hid (Below w.heap.size w W0) :=
  ⟨_,rfl,zh (by have h:=Blk.zpc (w.alloc (.cells (zaa (.mk 13 tx nm p ks) (.slice ua un uc)).toArray 25)) (.cells (zea zcd (.slice none 0 0)).toArray 101) (zea (⟨0,p,e0,e0,tm0,tm0,[],0,false⟩:Ins) (.slice none 0 0)) 101;rw [show (w.alloc (.cells (zaa (.mk 13 tx nm p ks) (.slice ua un uc)).toArray 25)).heap.size=w.heap.size+1 by simp] at h;exact h.drew),
   zh (((Blk.new w _ _).alloc _).alloc _).drew,zh ((((hk.mono (S':=fun b=>b<w.heap.size) fun b _ hl=>hl).alloc _).alloc _).alloc _).drew,zh ((Blk.zpc w _ _ _).alloc _).drew,zh ((((Below.refl _ _).alloc (Nat.le_refl _) _).alloc (by simp) _).alloc (by simp;omega) _).drew⟩
 clear hk
 unfold zma
 simp only [zRa,zXa,zBb,zJa]
 go_enter Tryz.func126,Tryz.ntmps126
 go_wp2_with fail
 refine AnyE.zof (S:=fun W=>Blk W w.heap.size (zaa (.mk 13 tx nm p ks) (.slice ua un uc)) 25) hW0 (by kernel_rfl) HF0.out (fun hS=>?_)
 clear hW0
 refine AnyE.take (i:=0) (v:=.pointer (some ⟨w.heap.size,1,none⟩)) rfl (by kernel_rfl) (by kernel_rfl) (by kernel_rfl) (by kernel_rfl) (fun _ _ _ h=>h) (Or.inl ⟨by rfl,fun W _=>by go_simp⟩) hS ?_
 refine AnyE.take (i:=1) (v:=.string tx) rfl (by kernel_rfl) (by kernel_rfl) (by kernel_rfl) (by kernel_rfl) (fun _ _ _ h=>h) (Or.inl ⟨by rfl,fun W hW=>by have hcx:W.cell? ⟨w.heap.size,1,none⟩=some (.string tx):=hW.cell 1;go_simp⟩) hS ?_
 refine AnyE.take (i:=2) (v:=.pointer (some ⟨w.heap.size,2,none⟩)) rfl (by kernel_rfl) (by kernel_rfl) (by kernel_rfl) (by kernel_rfl) (fun _ _ _ h=>h) (Or.inl ⟨by rfl,fun W _=>by go_simp⟩) hS ?_
 refine AnyE.take (i:=3) (v:=.int .i64 nm) rfl (by kernel_rfl) (by kernel_rfl) (by kernel_rfl) (by kernel_rfl) (fun _ _ _ h=>h) (Or.inl ⟨by rfl,fun W hW=>by have hcx:W.cell? ⟨w.heap.size,2,none⟩=some (.int .i64 nm):=hW.cell 2;go_simp⟩) hS ?_
 refine AnyE.take (i:=4) (v:=.agg #[.string ⟨#[]⟩,.int .i64 nm]) rfl (by kernel_rfl) (by kernel_rfl) (by kernel_rfl) (by kernel_rfl) (fun _ _ _ h=>h) (Or.inl ⟨by rfl,fun W _=>by go_simp⟩) hS ?_
 refine AnyE.take (i:=5) (v:=.pointer (some ⟨w.heap.size+1+1,0,none⟩)) rfl (by kernel_rfl) (by kernel_rfl) (by kernel_rfl) (by kernel_rfl) (fun _ _ _ h=>h) (Or.inl ⟨by rfl,fun W _=>by go_simp⟩) hS ?_
 refine AnyE.one (i:=6) (by kernel_rfl) rfl (by rfl) (fun K hK=>?_)
 have hcx:W0.cell? ⟨w.heap.size+1+1,0,none⟩=some (.int .i64 0):=HI0.out.cell 0
 have hfx:=HI0.out.frozen 0
 go_simp
 clear hcx hfx
 have HI1:=zh (show Blk _ _ (zea (⟨8,p,e0,e0,tm0,tm0,[],0,false⟩:Ins) (.slice none 0 0)) 101 from HI0.out.zxa 0 (.int .i64 8))
 have HF1:=zh (HF0.out.setOther ⟨w.heap.size+1+1,0,none⟩ (.int .i64 8) (by show w.heap.size≠w.heap.size+1+1;omega))
 have HU1:=zh (HU0.out.keep (S':=fun b=>b<w.heap.size) (w':=W0.setCell ⟨w.heap.size+1+1,0,none⟩ (.int .i64 8)) fun b hb hl=>⟨hb,Below.heap_setCell _ _ _ _ (by show b≠w.heap.size+1+1;omega)⟩)
 have HR1:=zh (HR0.out.setOther ⟨w.heap.size+1+1,0,none⟩ (.int .i64 8) (by show w.heap.size+1≠w.heap.size+1+1;omega))
 have HB1:=zh (HB0.out.setCell (p:=⟨w.heap.size+1+1,0,none⟩) (by show w.heap.size≤w.heap.size+1+1;omega) (.int .i64 8))
 generalize W0.setCell ⟨w.heap.size+1+1,0,none⟩ (.int .i64 8)=W1 at HI1 HF1 HU1 HR1 HB1 ⊢
 refine hK.out _ _ (fun _=>HF1.out) ?_
 clear hK K
 refine AnyE.one (i:=7) (by kernel_rfl) rfl (by rfl) (fun K hK=>?_)
 go_simp
 refine hK.out _ _ (fun _=>HF1.out) ?_
 clear hK K
 refine AnyE.one (i:=8) (by kernel_rfl) rfl (by rfl) (fun K hK=>?_)
 have hcx:W1.cell? ⟨w.heap.size+1+1,3,none⟩=some (.string ⟨#[]⟩):=HI1.out.cell 3
 have hfx:=HI1.out.frozen 3
 go_simp
 clear hcx hfx
 have HI2:=zh (show Blk _ _ (zea (⟨8,p,e0,tx,tm0,tm0,[],0,false⟩:Ins) (.slice none 0 0)) 101 from HI1.out.zxa 3 (.string tx))
 have HF2:=zh (HF1.out.setOther ⟨w.heap.size+1+1,3,none⟩ (.string tx) (by show w.heap.size≠w.heap.size+1+1;omega))
 have HU2:=zh (HU1.out.keep (S':=fun b=>b<w.heap.size) (w':=W1.setCell ⟨w.heap.size+1+1,3,none⟩ (.string tx)) fun b hb hl=>⟨hb,Below.heap_setCell _ _ _ _ (by show b≠w.heap.size+1+1;omega)⟩)
 have HR2:=zh (HR1.out.setOther ⟨w.heap.size+1+1,3,none⟩ (.string tx) (by show w.heap.size+1≠w.heap.size+1+1;omega))
 have HB2:=zh (HB1.out.setCell (p:=⟨w.heap.size+1+1,3,none⟩) (by show w.heap.size≤w.heap.size+1+1;omega) (.string tx))
 generalize W1.setCell ⟨w.heap.size+1+1,3,none⟩ (.string tx)=W2 at HI2 HF2 HU2 HR2 HB2 ⊢
 refine hK.out _ _ (fun _=>HF2.out) ?_
 clear hK K
 refine AnyE.one (i:=9) (by kernel_rfl) rfl (by rfl) (fun K hK=>?_)
 go_simp
 refine hK.out _ _ (fun _=>HF2.out) ?_
 clear hK K
 refine AnyE.one (i:=10) (by kernel_rfl) rfl (by rfl) (fun K hK=>?_)
 refine wp_store_mid 98 (.tmp 39) (.tmp 36) rfl (w.heap.size+1+1) 4 #[.string ((⟨e0,nm⟩:Tm)).name,.int .i64 ((⟨e0,nm⟩:Tm)).num] rfl rfl (HI2.out.zGc 4 2 (show 4+2≤11 by omega)) Tryz.zcc (all_oneCell_toArray (zJb ((⟨e0,nm⟩:Tm)))) ?_
 have HI3:=zh (show Blk (W2.setCells (w.heap.size+1+1) 4 [.string ((⟨e0,nm⟩:Tm)).name,.int .i64 ((⟨e0,nm⟩:Tm)).num]) _ (zea (⟨8,p,e0,tx,(⟨e0,nm⟩:Tm),tm0,[],0,false⟩:Ins) (.slice none 0 0)) 101 from HI2.out.zoc 4 _ _)
 have HF3:=zh (show Blk (W2.setCells (w.heap.size+1+1) 4 [.string ((⟨e0,nm⟩:Tm)).name,.int .i64 ((⟨e0,nm⟩:Tm)).num]) _ _ _ from HF2.out.zAc (by omega) 4 _ _)
 have HR3:=zh (show Blk (W2.setCells (w.heap.size+1+1) 4 [.string ((⟨e0,nm⟩:Tm)).name,.int .i64 ((⟨e0,nm⟩:Tm)).num]) _ _ _ from HR2.out.zAc (by omega) 4 _ _)
 have HB3:=zh (show Below _ _ (W2.setCells (w.heap.size+1+1) 4 [.string ((⟨e0,nm⟩:Tm)).name,.int .i64 ((⟨e0,nm⟩:Tm)).num]) from Below.cells2 HB2.out (by omega) 4 _ _)
 refine hK.out _ _ (fun h=>absurd rfl h) ?_
 clear hK K
 refine AnyE.done (by kernel_rfl) ?_ _
 go_wp2_with (first
  | ((with_reducible refine zra 101 (.tmp 4) ?_);refine zja rfl 101 (.tmp 4) rfl (w.heap.size+1+1) (zea (⟨8,p,e0,tx,(⟨e0,nm⟩:Tm),tm0,[],0,false⟩:Ins) (.slice none 0 0)) rfl HI3.out Tryz.underlying101 rfl Tryz.zza ?_)
  | ((with_reducible refine zla 101 (.tmp 2) ?_);refine zca rfl 101 (.tmp 2) (.tmp 84) rfl (w.heap.size+1) (zea (⟨8,p,e0,tx,(⟨e0,nm⟩:Tm),tm0,[],0,false⟩:Ins) (.slice none 0 0)) rfl rfl HR3.out Tryz.zza rfl (zna _ _ rfl) ?_))
 exact zOc (cs:=(zea (⟨8,p,e0,tx,(⟨e0,nm⟩:Tm),tm0,[],0,false⟩:Ins) (.slice none 0 0))) Tryz.results126 rfl (HR3.out.zvb _) Tryz.underlying101 rfl Tryz.zza rfl rfl ⟨_,rfl,zWa.nil _ _,Below.row HB3.out (by omega) _⟩
theorem zwl {w:World} {tx:ByteArray} {nm:Int} {p:Nat} {ks:List T} {S:Nat→Prop} {kv:Value} (hk:KAt 25 w ks S kv) :
  zae (.mk 14 tx nm p ks)=some (⟨9,p,e0,tx,⟨e0,nm⟩,tm0,[],0,false⟩:Ins)∧Calls Tryz.prog 126 #[zma (.mk 14 tx nm p ks) kv] w (zVc w (⟨9,p,e0,tx,⟨e0,nm⟩,tm0,[],0,false⟩:Ins)):=by
 refine ⟨rfl,?_⟩
 obtain ⟨ua,un,uc,rfl⟩:=hk.slice
 obtain ⟨W0,hW0,HI0,HF0,HU0,HR0,HB0⟩:∃ W0:World,(((w.alloc (.cells (zaa (.mk 14 tx nm p ks) (.slice ua un uc)).toArray 25)).alloc (.cells (zea zcd (.slice none 0 0)).toArray 101)).alloc (.cells (zea (⟨0,p,e0,e0,tm0,tm0,[],0,false⟩:Ins) (.slice none 0 0)).toArray 101)).drew=W0∧Hid (Blk W0 (w.heap.size+1+1) (zea (⟨0,p,e0,e0,tm0,tm0,[],0,false⟩:Ins) (.slice none 0 0)) 101)∧Hid (Blk W0 w.heap.size (zaa (.mk 14 tx nm p ks) (.slice ua un uc)) 25)∧Hid (KAt 25 W0 ks (fun b=>b<w.heap.size) (.slice ua un uc))∧Hid (Blk W0 (w.heap.size+1) (zea zcd (.slice none 0 0)) 101)∧Hid (Below w.heap.size w W0) :=
  ⟨_,rfl,zh (by have h:=Blk.zpc (w.alloc (.cells (zaa (.mk 14 tx nm p ks) (.slice ua un uc)).toArray 25)) (.cells (zea zcd (.slice none 0 0)).toArray 101) (zea (⟨0,p,e0,e0,tm0,tm0,[],0,false⟩:Ins) (.slice none 0 0)) 101;rw [show (w.alloc (.cells (zaa (.mk 14 tx nm p ks) (.slice ua un uc)).toArray 25)).heap.size=w.heap.size+1 by simp] at h;exact h.drew),
   zh (((Blk.new w _ _).alloc _).alloc _).drew,zh ((((hk.mono (S':=fun b=>b<w.heap.size) fun b _ hl=>hl).alloc _).alloc _).alloc _).drew,zh ((Blk.zpc w _ _ _).alloc _).drew,zh ((((Below.refl _ _).alloc (Nat.le_refl _) _).alloc (by simp) _).alloc (by simp;omega) _).drew⟩
 clear hk
 unfold zma
 simp only [zRa,zXa,zBb,zJa]
 go_enter Tryz.func126,Tryz.ntmps126
 go_wp2_with fail
 refine AnyE.zof (S:=fun W=>Blk W w.heap.size (zaa (.mk 14 tx nm p ks) (.slice ua un uc)) 25) hW0 (by kernel_rfl) HF0.out (fun hS=>?_)
 clear hW0
 refine AnyE.take (i:=0) (v:=.pointer (some ⟨w.heap.size,1,none⟩)) rfl (by kernel_rfl) (by kernel_rfl) (by kernel_rfl) (by kernel_rfl) (fun _ _ _ h=>h) (Or.inl ⟨by rfl,fun W _=>by go_simp⟩) hS ?_
 refine AnyE.take (i:=1) (v:=.string tx) rfl (by kernel_rfl) (by kernel_rfl) (by kernel_rfl) (by kernel_rfl) (fun _ _ _ h=>h) (Or.inl ⟨by rfl,fun W hW=>by have hcx:W.cell? ⟨w.heap.size,1,none⟩=some (.string tx):=hW.cell 1;go_simp⟩) hS ?_
 refine AnyE.take (i:=2) (v:=.pointer (some ⟨w.heap.size,2,none⟩)) rfl (by kernel_rfl) (by kernel_rfl) (by kernel_rfl) (by kernel_rfl) (fun _ _ _ h=>h) (Or.inl ⟨by rfl,fun W _=>by go_simp⟩) hS ?_
 refine AnyE.take (i:=3) (v:=.int .i64 nm) rfl (by kernel_rfl) (by kernel_rfl) (by kernel_rfl) (by kernel_rfl) (fun _ _ _ h=>h) (Or.inl ⟨by rfl,fun W hW=>by have hcx:W.cell? ⟨w.heap.size,2,none⟩=some (.int .i64 nm):=hW.cell 2;go_simp⟩) hS ?_
 refine AnyE.take (i:=4) (v:=.agg #[.string ⟨#[]⟩,.int .i64 nm]) rfl (by kernel_rfl) (by kernel_rfl) (by kernel_rfl) (by kernel_rfl) (fun _ _ _ h=>h) (Or.inl ⟨by rfl,fun W _=>by go_simp⟩) hS ?_
 refine AnyE.take (i:=5) (v:=.pointer (some ⟨w.heap.size+1+1,0,none⟩)) rfl (by kernel_rfl) (by kernel_rfl) (by kernel_rfl) (by kernel_rfl) (fun _ _ _ h=>h) (Or.inl ⟨by rfl,fun W _=>by go_simp⟩) hS ?_
 refine AnyE.one (i:=6) (by kernel_rfl) rfl (by rfl) (fun K hK=>?_)
 have hcx:W0.cell? ⟨w.heap.size+1+1,0,none⟩=some (.int .i64 0):=HI0.out.cell 0
 have hfx:=HI0.out.frozen 0
 go_simp
 clear hcx hfx
 have HI1:=zh (show Blk _ _ (zea (⟨9,p,e0,e0,tm0,tm0,[],0,false⟩:Ins) (.slice none 0 0)) 101 from HI0.out.zxa 0 (.int .i64 9))
 have HF1:=zh (HF0.out.setOther ⟨w.heap.size+1+1,0,none⟩ (.int .i64 9) (by show w.heap.size≠w.heap.size+1+1;omega))
 have HU1:=zh (HU0.out.keep (S':=fun b=>b<w.heap.size) (w':=W0.setCell ⟨w.heap.size+1+1,0,none⟩ (.int .i64 9)) fun b hb hl=>⟨hb,Below.heap_setCell _ _ _ _ (by show b≠w.heap.size+1+1;omega)⟩)
 have HR1:=zh (HR0.out.setOther ⟨w.heap.size+1+1,0,none⟩ (.int .i64 9) (by show w.heap.size+1≠w.heap.size+1+1;omega))
 have HB1:=zh (HB0.out.setCell (p:=⟨w.heap.size+1+1,0,none⟩) (by show w.heap.size≤w.heap.size+1+1;omega) (.int .i64 9))
 generalize W0.setCell ⟨w.heap.size+1+1,0,none⟩ (.int .i64 9)=W1 at HI1 HF1 HU1 HR1 HB1 ⊢
 refine hK.out _ _ (fun _=>HF1.out) ?_
 clear hK K
 refine AnyE.one (i:=7) (by kernel_rfl) rfl (by rfl) (fun K hK=>?_)
 go_simp
 refine hK.out _ _ (fun _=>HF1.out) ?_
 clear hK K
 refine AnyE.one (i:=8) (by kernel_rfl) rfl (by rfl) (fun K hK=>?_)
 have hcx:W1.cell? ⟨w.heap.size+1+1,3,none⟩=some (.string ⟨#[]⟩):=HI1.out.cell 3
 have hfx:=HI1.out.frozen 3
 go_simp
 clear hcx hfx
 have HI2:=zh (show Blk _ _ (zea (⟨9,p,e0,tx,tm0,tm0,[],0,false⟩:Ins) (.slice none 0 0)) 101 from HI1.out.zxa 3 (.string tx))
 have HF2:=zh (HF1.out.setOther ⟨w.heap.size+1+1,3,none⟩ (.string tx) (by show w.heap.size≠w.heap.size+1+1;omega))
 have HU2:=zh (HU1.out.keep (S':=fun b=>b<w.heap.size) (w':=W1.setCell ⟨w.heap.size+1+1,3,none⟩ (.string tx)) fun b hb hl=>⟨hb,Below.heap_setCell _ _ _ _ (by show b≠w.heap.size+1+1;omega)⟩)
 have HR2:=zh (HR1.out.setOther ⟨w.heap.size+1+1,3,none⟩ (.string tx) (by show w.heap.size+1≠w.heap.size+1+1;omega))
 have HB2:=zh (HB1.out.setCell (p:=⟨w.heap.size+1+1,3,none⟩) (by show w.heap.size≤w.heap.size+1+1;omega) (.string tx))
 generalize W1.setCell ⟨w.heap.size+1+1,3,none⟩ (.string tx)=W2 at HI2 HF2 HU2 HR2 HB2 ⊢
 refine hK.out _ _ (fun _=>HF2.out) ?_
 clear hK K
 refine AnyE.one (i:=9) (by kernel_rfl) rfl (by rfl) (fun K hK=>?_)
 go_simp
 refine hK.out _ _ (fun _=>HF2.out) ?_
 clear hK K
 refine AnyE.one (i:=10) (by kernel_rfl) rfl (by rfl) (fun K hK=>?_)
 refine wp_store_mid 98 (.tmp 49) (.tmp 46) rfl (w.heap.size+1+1) 4 #[.string ((⟨e0,nm⟩:Tm)).name,.int .i64 ((⟨e0,nm⟩:Tm)).num] rfl rfl (HI2.out.zGc 4 2 (show 4+2≤11 by omega)) Tryz.zcc (all_oneCell_toArray (zJb ((⟨e0,nm⟩:Tm)))) ?_
 have HI3:=zh (show Blk (W2.setCells (w.heap.size+1+1) 4 [.string ((⟨e0,nm⟩:Tm)).name,.int .i64 ((⟨e0,nm⟩:Tm)).num]) _ (zea (⟨9,p,e0,tx,(⟨e0,nm⟩:Tm),tm0,[],0,false⟩:Ins) (.slice none 0 0)) 101 from HI2.out.zoc 4 _ _)
 have HF3:=zh (show Blk (W2.setCells (w.heap.size+1+1) 4 [.string ((⟨e0,nm⟩:Tm)).name,.int .i64 ((⟨e0,nm⟩:Tm)).num]) _ _ _ from HF2.out.zAc (by omega) 4 _ _)
 have HR3:=zh (show Blk (W2.setCells (w.heap.size+1+1) 4 [.string ((⟨e0,nm⟩:Tm)).name,.int .i64 ((⟨e0,nm⟩:Tm)).num]) _ _ _ from HR2.out.zAc (by omega) 4 _ _)
 have HB3:=zh (show Below _ _ (W2.setCells (w.heap.size+1+1) 4 [.string ((⟨e0,nm⟩:Tm)).name,.int .i64 ((⟨e0,nm⟩:Tm)).num]) from Below.cells2 HB2.out (by omega) 4 _ _)
 refine hK.out _ _ (fun h=>absurd rfl h) ?_
 clear hK K
 refine AnyE.done (by kernel_rfl) ?_ _
 go_wp2_with (first
  | ((with_reducible refine zra 101 (.tmp 4) ?_);refine zja rfl 101 (.tmp 4) rfl (w.heap.size+1+1) (zea (⟨9,p,e0,tx,(⟨e0,nm⟩:Tm),tm0,[],0,false⟩:Ins) (.slice none 0 0)) rfl HI3.out Tryz.underlying101 rfl Tryz.zza ?_)
  | ((with_reducible refine zla 101 (.tmp 2) ?_);refine zca rfl 101 (.tmp 2) (.tmp 84) rfl (w.heap.size+1) (zea (⟨9,p,e0,tx,(⟨e0,nm⟩:Tm),tm0,[],0,false⟩:Ins) (.slice none 0 0)) rfl rfl HR3.out Tryz.zza rfl (zna _ _ rfl) ?_))
 exact zOc (cs:=(zea (⟨9,p,e0,tx,(⟨e0,nm⟩:Tm),tm0,[],0,false⟩:Ins) (.slice none 0 0))) Tryz.results126 rfl (HR3.out.zvb _) Tryz.underlying101 rfl Tryz.zza rfl rfl ⟨_,rfl,zWa.nil _ _,Below.row HB3.out (by omega) _⟩
theorem zel {w:World} {tx:ByteArray} {nm:Int} {p:Nat} {ks:List T} {S:Nat→Prop} {kv:Value} (hk:KAt 25 w ks S kv) (hn:∀ a n c,kv=.slice a n c→n=ks.length) :
  zae (.mk 17 tx nm p ks)=some (⟨14,p,e0,e0,zDa (zFa (.mk 17 tx nm p ks) 0),tm0,[],0,decide (0<ks.length)⟩:Ins)∧Calls Tryz.prog 126 #[zma (.mk 17 tx nm p ks) kv] w (zVc w (⟨14,p,e0,e0,zDa (zFa (.mk 17 tx nm p ks) 0),tm0,[],0,decide (0<ks.length)⟩:Ins)):=by
 refine ⟨rfl,?_⟩
 obtain ⟨ua,un,uc,rfl⟩:=hk.slice
 obtain rfl:un=ks.length:=hn _ _ _ rfl
 clear hn
 obtain ⟨W0,hW0,HI0,HF0,HU0,HR0,HB0⟩:∃ W0:World,(((w.alloc (.cells (zaa (.mk 17 tx nm p ks) (.slice ua ks.length uc)).toArray 25)).alloc (.cells (zea zcd (.slice none 0 0)).toArray 101)).alloc (.cells (zea (⟨0,p,e0,e0,tm0,tm0,[],0,false⟩:Ins) (.slice none 0 0)).toArray 101)).drew=W0∧Hid (Blk W0 (w.heap.size+1+1) (zea (⟨0,p,e0,e0,tm0,tm0,[],0,false⟩:Ins) (.slice none 0 0)) 101)∧Hid (Blk W0 w.heap.size (zaa (.mk 17 tx nm p ks) (.slice ua ks.length uc)) 25)∧Hid (KAt 25 W0 ks (fun b=>b<w.heap.size) (.slice ua ks.length uc))∧Hid (Blk W0 (w.heap.size+1) (zea zcd (.slice none 0 0)) 101)∧Hid (Below w.heap.size w W0) :=
  ⟨_,rfl,zh (by have h:=Blk.zpc (w.alloc (.cells (zaa (.mk 17 tx nm p ks) (.slice ua ks.length uc)).toArray 25)) (.cells (zea zcd (.slice none 0 0)).toArray 101) (zea (⟨0,p,e0,e0,tm0,tm0,[],0,false⟩:Ins) (.slice none 0 0)) 101;rw [show (w.alloc (.cells (zaa (.mk 17 tx nm p ks) (.slice ua ks.length uc)).toArray 25)).heap.size=w.heap.size+1 by simp] at h;exact h.drew),
   zh (((Blk.new w _ _).alloc _).alloc _).drew,zh ((((hk.mono (S':=fun b=>b<w.heap.size) fun b _ hl=>hl).alloc _).alloc _).alloc _).drew,zh ((Blk.zpc w _ _ _).alloc _).drew,zh ((((Below.refl _ _).alloc (Nat.le_refl _) _).alloc (by simp) _).alloc (by simp;omega) _).drew⟩
 clear hk
 unfold zma
 simp only [zRa,zXa,zBb,zJa]
 go_enter Tryz.func126,Tryz.ntmps126
 go_wp2_with fail
 refine AnyE.zof (S:=fun W=>Blk W w.heap.size (zaa (.mk 17 tx nm p ks) (.slice ua ks.length uc)) 25) hW0 (by kernel_rfl) HF0.out (fun hS=>?_)
 clear hW0
 refine AnyE.take (i:=0) (v:=.pointer (some ⟨w.heap.size,4,none⟩)) rfl (by kernel_rfl) (by kernel_rfl) (by kernel_rfl) (by kernel_rfl) (fun _ _ _ h=>h) (Or.inl ⟨by rfl,fun W _=>by go_simp⟩) hS ?_
 refine AnyE.take (i:=1) (v:=.slice ua ks.length uc) rfl (by kernel_rfl) (by kernel_rfl) (by kernel_rfl) (by kernel_rfl) (fun _ _ _ h=>h) (Or.inl ⟨by rfl,fun W hW=>by have hcx:W.cell? ⟨w.heap.size,4,none⟩=some (.slice ua ks.length uc):=hW.cell 4;go_simp⟩) hS ?_
 refine AnyE.take (i:=2) (v:=.int .i64 ks.length) rfl (by kernel_rfl) (by kernel_rfl) (by kernel_rfl) (by kernel_rfl) (fun _ _ _ h=>h) (Or.inl ⟨by rfl,fun W _=>by go_simp⟩) hS ?_
 refine AnyE.take (i:=3) (v:=.bool (decide (0<ks.length))) rfl (by kernel_rfl) (by kernel_rfl) (by kernel_rfl) (by kernel_rfl) (fun _ _ _ h=>h) (Or.inl ⟨by rfl,fun W _=>by go_simp⟩) hS ?_
 refine AnyE.take (i:=4) (v:=.agg #[.int .i64 17,.string tx,.int .i64 nm,.int .i64 p,.slice ua ks.length uc]) rfl (by kernel_rfl) (by kernel_rfl) (by kernel_rfl) (by kernel_rfl) (fun _ _ _ h=>h) (yieldsIf_load_mid (cs:=(zaa (.mk 17 tx nm p ks) (.slice ua ks.length uc))) (by rfl) 25 (.tmp 1) rfl (w.heap.size) 0 rfl _ (fun W hW j v hj=>by rw [Nat.zero_add,hW.cell j];exact hj) Tryz.underlying25 rfl Tryz.zha) hS ?_
 refine AnyE.take (i:=6) (v:=.pointer (some ⟨w.heap.size+1+1,0,none⟩)) rfl (by kernel_rfl) (by kernel_rfl) (by kernel_rfl) (by kernel_rfl) (fun _ _ _ h=>h) (Or.inl ⟨by rfl,fun W _=>by go_simp⟩) hS ?_
 refine AnyE.one (i:=5) (by kernel_rfl) rfl (by rfl) (fun K hK=>?_)
 go_simp
 refine (zWc (t:=(.mk 17 tx nm p ks)) HU0.out 0).mono ?_
 rintro e W1 ⟨rfl,hb⟩
 have HI1:=zh (HI0.out.stays hb)
 have HF1:=zh (HF0.out.stays hb)
 have HU1:=zh (HU0.out.below hb)
 have HR1:=zh (HR0.out.stays hb)
 have HB1:=zh (HB0.out.trans (hb.mono HB0.out.size))
 clear hb
 unfold TmV
 refine hK.out _ _ (fun _=>HF1.out) ?_
 clear hK K
 refine AnyE.one (i:=7) (by kernel_rfl) rfl (by rfl) (fun K hK=>?_)
 have hcx:W1.cell? ⟨w.heap.size+1+1,0,none⟩=some (.int .i64 0):=HI1.out.cell 0
 have hfx:=HI1.out.frozen 0
 go_simp
 clear hcx hfx
 have HI2:=zh (show Blk _ _ (zea (⟨14,p,e0,e0,tm0,tm0,[],0,false⟩:Ins) (.slice none 0 0)) 101 from HI1.out.zxa 0 (.int .i64 14))
 have HF2:=zh (HF1.out.setOther ⟨w.heap.size+1+1,0,none⟩ (.int .i64 14) (by show w.heap.size≠w.heap.size+1+1;omega))
 have HU2:=zh (HU1.out.keep (S':=fun b=>b<w.heap.size) (w':=W1.setCell ⟨w.heap.size+1+1,0,none⟩ (.int .i64 14)) fun b hb hl=>⟨hb,Below.heap_setCell _ _ _ _ (by show b≠w.heap.size+1+1;omega)⟩)
 have HR2:=zh (HR1.out.setOther ⟨w.heap.size+1+1,0,none⟩ (.int .i64 14) (by show w.heap.size+1≠w.heap.size+1+1;omega))
 have HB2:=zh (HB1.out.setCell (p:=⟨w.heap.size+1+1,0,none⟩) (by show w.heap.size≤w.heap.size+1+1;omega) (.int .i64 14))
 generalize W1.setCell ⟨w.heap.size+1+1,0,none⟩ (.int .i64 14)=W2 at HI2 HF2 HU2 HR2 HB2 ⊢
 refine hK.out _ _ (fun _=>HF2.out) ?_
 clear hK K
 refine AnyE.one (i:=8) (by kernel_rfl) rfl (by rfl) (fun K hK=>?_)
 go_simp
 refine hK.out _ _ (fun _=>HF2.out) ?_
 clear hK K
 refine AnyE.one (i:=9) (by kernel_rfl) rfl (by rfl) (fun K hK=>?_)
 have hcx:W2.cell? ⟨w.heap.size+1+1,10,none⟩=some (.bool false):=HI2.out.cell 10
 have hfx:=HI2.out.frozen 10
 go_simp
 clear hcx hfx
 have HI3:=zh (show Blk _ _ (zea (⟨14,p,e0,e0,tm0,tm0,[],0,decide (0<ks.length)⟩:Ins) (.slice none 0 0)) 101 from HI2.out.zxa 10 (.bool (decide (0<ks.length))))
 have HF3:=zh (HF2.out.setOther ⟨w.heap.size+1+1,10,none⟩ (.bool (decide (0<ks.length))) (by show w.heap.size≠w.heap.size+1+1;omega))
 have HU3:=zh (HU2.out.keep (S':=fun b=>b<w.heap.size) (w':=W2.setCell ⟨w.heap.size+1+1,10,none⟩ (.bool (decide (0<ks.length)))) fun b hb hl=>⟨hb,Below.heap_setCell _ _ _ _ (by show b≠w.heap.size+1+1;omega)⟩)
 have HR3:=zh (HR2.out.setOther ⟨w.heap.size+1+1,10,none⟩ (.bool (decide (0<ks.length))) (by show w.heap.size+1≠w.heap.size+1+1;omega))
 have HB3:=zh (HB2.out.setCell (p:=⟨w.heap.size+1+1,10,none⟩) (by show w.heap.size≤w.heap.size+1+1;omega) (.bool (decide (0<ks.length))))
 generalize W2.setCell ⟨w.heap.size+1+1,10,none⟩ (.bool (decide (0<ks.length)))=W3 at HI3 HF3 HU3 HR3 HB3 ⊢
 refine hK.out _ _ (fun _=>HF3.out) ?_
 clear hK K
 refine AnyE.one (i:=10) (by kernel_rfl) rfl (by rfl) (fun K hK=>?_)
 go_simp
 refine hK.out _ _ (fun _=>HF3.out) ?_
 clear hK K
 refine AnyE.one (i:=11) (by kernel_rfl) rfl (by rfl) (fun K hK=>?_)
 refine wp_store_mid 98 (.tmp 80) (.tmp 77) rfl (w.heap.size+1+1) 4 #[.string (zDa (zFa (.mk 17 tx nm p ks) 0)).name,.int .i64 (zDa (zFa (.mk 17 tx nm p ks) 0)).num] rfl rfl (HI3.out.zGc 4 2 (show 4+2≤11 by omega)) Tryz.zcc (all_oneCell_toArray (zJb (zDa (zFa (.mk 17 tx nm p ks) 0)))) ?_
 have HI4:=zh (show Blk (W3.setCells (w.heap.size+1+1) 4 [.string (zDa (zFa (.mk 17 tx nm p ks) 0)).name,.int .i64 (zDa (zFa (.mk 17 tx nm p ks) 0)).num]) _ (zea (⟨14,p,e0,e0,zDa (zFa (.mk 17 tx nm p ks) 0),tm0,[],0,decide (0<ks.length)⟩:Ins) (.slice none 0 0)) 101 from HI3.out.zoc 4 _ _)
 have HF4:=zh (show Blk (W3.setCells (w.heap.size+1+1) 4 [.string (zDa (zFa (.mk 17 tx nm p ks) 0)).name,.int .i64 (zDa (zFa (.mk 17 tx nm p ks) 0)).num]) _ _ _ from HF3.out.zAc (by omega) 4 _ _)
 have HR4:=zh (show Blk (W3.setCells (w.heap.size+1+1) 4 [.string (zDa (zFa (.mk 17 tx nm p ks) 0)).name,.int .i64 (zDa (zFa (.mk 17 tx nm p ks) 0)).num]) _ _ _ from HR3.out.zAc (by omega) 4 _ _)
 have HB4:=zh (show Below _ _ (W3.setCells (w.heap.size+1+1) 4 [.string (zDa (zFa (.mk 17 tx nm p ks) 0)).name,.int .i64 (zDa (zFa (.mk 17 tx nm p ks) 0)).num]) from Below.cells2 HB3.out (by omega) 4 _ _)
 refine hK.out _ _ (fun h=>absurd rfl h) ?_
 clear hK K
 refine AnyE.done (by kernel_rfl) ?_ _
 go_wp2_with (first
  | ((with_reducible refine zra 101 (.tmp 4) ?_);refine zja rfl 101 (.tmp 4) rfl (w.heap.size+1+1) (zea (⟨14,p,e0,e0,zDa (zFa (.mk 17 tx nm p ks) 0),tm0,[],0,decide (0<ks.length)⟩:Ins) (.slice none 0 0)) rfl HI4.out Tryz.underlying101 rfl Tryz.zza ?_)
  | ((with_reducible refine zla 101 (.tmp 2) ?_);refine zca rfl 101 (.tmp 2) (.tmp 84) rfl (w.heap.size+1) (zea (⟨14,p,e0,e0,zDa (zFa (.mk 17 tx nm p ks) 0),tm0,[],0,decide (0<ks.length)⟩:Ins) (.slice none 0 0)) rfl rfl HR4.out Tryz.zza rfl (zna _ _ rfl) ?_))
 exact zOc (cs:=(zea (⟨14,p,e0,e0,zDa (zFa (.mk 17 tx nm p ks) 0),tm0,[],0,decide (0<ks.length)⟩:Ins) (.slice none 0 0))) Tryz.results126 rfl (HR4.out.zvb _) Tryz.underlying101 rfl Tryz.zza rfl rfl ⟨_,rfl,zWa.nil _ _,Below.row HB4.out (by omega) _⟩
theorem zOk {w:World} {tx:ByteArray} {nm:Int} {p:Nat} {ks:List T} {S:Nat→Prop} {kv:Value} (hk:KAt 25 w ks S kv) :
  zae (.mk 18 tx nm p ks)=some (⟨15,p,e0,e0,tm0,tm0,[],0,false⟩:Ins)∧Calls Tryz.prog 126 #[zma (.mk 18 tx nm p ks) kv] w (zVc w (⟨15,p,e0,e0,tm0,tm0,[],0,false⟩:Ins)):=by
 refine ⟨rfl,?_⟩
 obtain ⟨ua,un,uc,rfl⟩:=hk.slice
 clear hk
 unfold zma
 simp only [zRa,zXa,zBb,zJa]
 go_enter Tryz.func126,Tryz.ntmps126
 go_wp2_with fail
 exact zOc (cs:=(zea (⟨15,p,e0,e0,tm0,tm0,[],0,false⟩:Ins) (.slice none 0 0))) Tryz.results126 rfl ((Blk.zpc w _ _ _).alloc _) Tryz.underlying101 rfl Tryz.zza rfl rfl ⟨_,rfl,zWa.nil _ _,(((Below.refl _ _).alloc (Nat.le_refl _) _).alloc (by simp) _).alloc (by simp;omega) _⟩
theorem zVk {w:World} {tx:ByteArray} {nm:Int} {p:Nat} {ks:List T} {S:Nat→Prop} {kv:Value} (hk:KAt 25 w ks S kv) (hl:ks.length≤50000) :
  zae (.mk 19 tx nm p ks)=some (⟨13,p,e0,tx,tm0,tm0,zed (.mk 19 tx nm p ks),0,false⟩:Ins)∧Calls Tryz.prog 126 #[zma (.mk 19 tx nm p ks) kv] w (zVc w (⟨13,p,e0,tx,tm0,tm0,zed (.mk 19 tx nm p ks),0,false⟩:Ins)):=by
 refine ⟨rfl,?_⟩
 obtain ⟨ua,un,uc,rfl⟩:=hk.slice
 obtain ⟨W0,hW0,HI0,HF0,HU0,HR0,HB0⟩:∃ W0:World,(((w.alloc (.cells (zaa (.mk 19 tx nm p ks) (.slice ua un uc)).toArray 25)).alloc (.cells (zea zcd (.slice none 0 0)).toArray 101)).alloc (.cells (zea (⟨0,p,e0,e0,tm0,tm0,[],0,false⟩:Ins) (.slice none 0 0)).toArray 101)).drew=W0∧Hid (Blk W0 (w.heap.size+1+1) (zea (⟨0,p,e0,e0,tm0,tm0,[],0,false⟩:Ins) (.slice none 0 0)) 101)∧Hid (Blk W0 w.heap.size (zaa (.mk 19 tx nm p ks) (.slice ua un uc)) 25)∧Hid (KAt 25 W0 ks (fun b=>b<w.heap.size) (.slice ua un uc))∧Hid (Blk W0 (w.heap.size+1) (zea zcd (.slice none 0 0)) 101)∧Hid (Below w.heap.size w W0) :=
  ⟨_,rfl,zh (by have h:=Blk.zpc (w.alloc (.cells (zaa (.mk 19 tx nm p ks) (.slice ua un uc)).toArray 25)) (.cells (zea zcd (.slice none 0 0)).toArray 101) (zea (⟨0,p,e0,e0,tm0,tm0,[],0,false⟩:Ins) (.slice none 0 0)) 101;rw [show (w.alloc (.cells (zaa (.mk 19 tx nm p ks) (.slice ua un uc)).toArray 25)).heap.size=w.heap.size+1 by simp] at h;exact h.drew),
   zh (((Blk.new w _ _).alloc _).alloc _).drew,zh ((((hk.mono (S':=fun b=>b<w.heap.size) fun b _ hl=>hl).alloc _).alloc _).alloc _).drew,zh ((Blk.zpc w _ _ _).alloc _).drew,zh ((((Below.refl _ _).alloc (Nat.le_refl _) _).alloc (by simp) _).alloc (by simp;omega) _).drew⟩
 clear hk
 unfold zma
 simp only [zRa,zXa,zBb,zJa]
 go_enter Tryz.func126,Tryz.ntmps126
 go_wp2_with fail
 refine AnyE.zof (S:=fun W=>Blk W w.heap.size (zaa (.mk 19 tx nm p ks) (.slice ua un uc)) 25) hW0 (by kernel_rfl) HF0.out (fun hS=>?_)
 clear hW0
 refine AnyE.take (i:=0) (v:=.pointer (some ⟨w.heap.size,1,none⟩)) rfl (by kernel_rfl) (by kernel_rfl) (by kernel_rfl) (by kernel_rfl) (fun _ _ _ h=>h) (Or.inl ⟨by rfl,fun W _=>by go_simp⟩) hS ?_
 refine AnyE.take (i:=1) (v:=.string tx) rfl (by kernel_rfl) (by kernel_rfl) (by kernel_rfl) (by kernel_rfl) (fun _ _ _ h=>h) (Or.inl ⟨by rfl,fun W hW=>by have hcx:W.cell? ⟨w.heap.size,1,none⟩=some (.string tx):=hW.cell 1;go_simp⟩) hS ?_
 refine AnyE.take (i:=2) (v:=.agg #[.int .i64 19,.string tx,.int .i64 nm,.int .i64 p,.slice ua un uc]) rfl (by kernel_rfl) (by kernel_rfl) (by kernel_rfl) (by kernel_rfl) (fun _ _ _ h=>h) (yieldsIf_load_mid (cs:=(zaa (.mk 19 tx nm p ks) (.slice ua un uc))) (by rfl) 25 (.tmp 1) rfl (w.heap.size) 0 rfl _ (fun W hW j v hj=>by rw [Nat.zero_add,hW.cell j];exact hj) Tryz.underlying25 rfl Tryz.zha) hS ?_
 refine AnyE.take (i:=4) (v:=.pointer (some ⟨w.heap.size+1+1,0,none⟩)) rfl (by kernel_rfl) (by kernel_rfl) (by kernel_rfl) (by kernel_rfl) (fun _ _ _ h=>h) (Or.inl ⟨by rfl,fun W _=>by go_simp⟩) hS ?_
 refine AnyE.one (i:=3) (by kernel_rfl) rfl (by rfl) (fun K hK=>?_)
 go_simp
 refine (zAg (t:=(.mk 19 tx nm p ks)) HU0.out hl).mono ?_
 rintro e W1 ⟨va,rfl,ha,hb⟩
 obtain ⟨aa,an,ac,rfl⟩:=ha.slice
 have hz:=HI0.out.lt
 have HA1:=zh (ha.mono (S':=fun b=>w.heap.size+1+1<b) fun b hb _=>by omega)
 clear ha hz
 have HI1:=zh (HI0.out.stays hb)
 have HF1:=zh (HF0.out.stays hb)
 have HU1:=zh (HU0.out.below hb)
 have HR1:=zh (HR0.out.stays hb)
 have HB1:=zh (HB0.out.trans (hb.mono HB0.out.size))
 clear hb
 refine hK.out _ _ (fun _=>HF1.out) ?_
 clear hK K
 refine AnyE.one (i:=5) (by kernel_rfl) rfl (by rfl) (fun K hK=>?_)
 have hcx:W1.cell? ⟨w.heap.size+1+1,0,none⟩=some (.int .i64 0):=HI1.out.cell 0
 have hfx:=HI1.out.frozen 0
 go_simp
 clear hcx hfx
 have HI2:=zh (show Blk _ _ (zea (⟨13,p,e0,e0,tm0,tm0,[],0,false⟩:Ins) (.slice none 0 0)) 101 from HI1.out.zxa 0 (.int .i64 13))
 have HF2:=zh (HF1.out.setOther ⟨w.heap.size+1+1,0,none⟩ (.int .i64 13) (by show w.heap.size≠w.heap.size+1+1;omega))
 have HU2:=zh (HU1.out.keep (S':=fun b=>b<w.heap.size) (w':=W1.setCell ⟨w.heap.size+1+1,0,none⟩ (.int .i64 13)) fun b hb hl=>⟨hb,Below.heap_setCell _ _ _ _ (by show b≠w.heap.size+1+1;omega)⟩)
 have HR2:=zh (HR1.out.setOther ⟨w.heap.size+1+1,0,none⟩ (.int .i64 13) (by show w.heap.size+1≠w.heap.size+1+1;omega))
 have HB2:=zh (HB1.out.setCell (p:=⟨w.heap.size+1+1,0,none⟩) (by show w.heap.size≤w.heap.size+1+1;omega) (.int .i64 13))
 have HA2:=zh (HA1.out.setCell ⟨w.heap.size+1+1,0,none⟩ (.int .i64 13) (fun b hb=>by show b≠w.heap.size+1+1;omega))
 generalize W1.setCell ⟨w.heap.size+1+1,0,none⟩ (.int .i64 13)=W2 at HI2 HF2 HU2 HR2 HB2 HA2 ⊢
 refine hK.out _ _ (fun _=>HF2.out) ?_
 clear hK K
 refine AnyE.one (i:=6) (by kernel_rfl) rfl (by rfl) (fun K hK=>?_)
 go_simp
 refine hK.out _ _ (fun _=>HF2.out) ?_
 clear hK K
 refine AnyE.one (i:=7) (by kernel_rfl) rfl (by rfl) (fun K hK=>?_)
 have hcx:W2.cell? ⟨w.heap.size+1+1,3,none⟩=some (.string ⟨#[]⟩):=HI2.out.cell 3
 have hfx:=HI2.out.frozen 3
 go_simp
 clear hcx hfx
 have HI3:=zh (show Blk _ _ (zea (⟨13,p,e0,tx,tm0,tm0,[],0,false⟩:Ins) (.slice none 0 0)) 101 from HI2.out.zxa 3 (.string tx))
 have HF3:=zh (HF2.out.setOther ⟨w.heap.size+1+1,3,none⟩ (.string tx) (by show w.heap.size≠w.heap.size+1+1;omega))
 have HU3:=zh (HU2.out.keep (S':=fun b=>b<w.heap.size) (w':=W2.setCell ⟨w.heap.size+1+1,3,none⟩ (.string tx)) fun b hb hl=>⟨hb,Below.heap_setCell _ _ _ _ (by show b≠w.heap.size+1+1;omega)⟩)
 have HR3:=zh (HR2.out.setOther ⟨w.heap.size+1+1,3,none⟩ (.string tx) (by show w.heap.size+1≠w.heap.size+1+1;omega))
 have HB3:=zh (HB2.out.setCell (p:=⟨w.heap.size+1+1,3,none⟩) (by show w.heap.size≤w.heap.size+1+1;omega) (.string tx))
 have HA3:=zh (HA2.out.setCell ⟨w.heap.size+1+1,3,none⟩ (.string tx) (fun b hb=>by show b≠w.heap.size+1+1;omega))
 generalize W2.setCell ⟨w.heap.size+1+1,3,none⟩ (.string tx)=W3 at HI3 HF3 HU3 HR3 HB3 HA3 ⊢
 refine hK.out _ _ (fun _=>HF3.out) ?_
 clear hK K
 refine AnyE.one (i:=8) (by kernel_rfl) rfl (by rfl) (fun K hK=>?_)
 go_simp
 refine hK.out _ _ (fun _=>HF3.out) ?_
 clear hK K
 refine AnyE.one (i:=9) (by kernel_rfl) rfl (by rfl) (fun K hK=>?_)
 have hcx:W3.cell? ⟨w.heap.size+1+1,8,none⟩=some (.slice none 0 0):=HI3.out.cell 8
 have hfx:=HI3.out.frozen 8
 go_simp
 clear hcx hfx
 have HI4:=zh (show Blk _ _ (zea (⟨13,p,e0,tx,tm0,tm0,zed (.mk 19 tx nm p ks),0,false⟩:Ins) (.slice aa an ac)) 101 from HI3.out.zxa 8 (.slice aa an ac))
 have HF4:=zh (HF3.out.setOther ⟨w.heap.size+1+1,8,none⟩ (.slice aa an ac) (by show w.heap.size≠w.heap.size+1+1;omega))
 have HU4:=zh (HU3.out.keep (S':=fun b=>b<w.heap.size) (w':=W3.setCell ⟨w.heap.size+1+1,8,none⟩ (.slice aa an ac)) fun b hb hl=>⟨hb,Below.heap_setCell _ _ _ _ (by show b≠w.heap.size+1+1;omega)⟩)
 have HR4:=zh (HR3.out.setOther ⟨w.heap.size+1+1,8,none⟩ (.slice aa an ac) (by show w.heap.size+1≠w.heap.size+1+1;omega))
 have HB4:=zh (HB3.out.setCell (p:=⟨w.heap.size+1+1,8,none⟩) (by show w.heap.size≤w.heap.size+1+1;omega) (.slice aa an ac))
 have HA4:=zh (HA3.out.setCell ⟨w.heap.size+1+1,8,none⟩ (.slice aa an ac) (fun b hb=>by show b≠w.heap.size+1+1;omega))
 generalize W3.setCell ⟨w.heap.size+1+1,8,none⟩ (.slice aa an ac)=W4 at HI4 HF4 HU4 HR4 HB4 HA4 ⊢
 refine hK.out _ _ (fun h=>absurd rfl h) ?_
 clear hK K
 refine AnyE.done (by kernel_rfl) ?_ _
 go_wp2_with (first
  | ((with_reducible refine zra 101 (.tmp 4) ?_);refine zja rfl 101 (.tmp 4) rfl (w.heap.size+1+1) (zea (⟨13,p,e0,tx,tm0,tm0,zed (.mk 19 tx nm p ks),0,false⟩:Ins) (.slice aa an ac)) rfl HI4.out Tryz.underlying101 rfl Tryz.zza ?_)
  | ((with_reducible refine zla 101 (.tmp 2) ?_);refine zca rfl 101 (.tmp 2) (.tmp 84) rfl (w.heap.size+1) (zea (⟨13,p,e0,tx,tm0,tm0,zed (.mk 19 tx nm p ks),0,false⟩:Ins) (.slice aa an ac)) rfl rfl HR4.out Tryz.zza rfl (zna _ _ rfl) ?_))
 exact zOc (cs:=(zea (⟨13,p,e0,tx,tm0,tm0,zed (.mk 19 tx nm p ks),0,false⟩:Ins) (.slice aa an ac))) Tryz.results126 rfl (HR4.out.zvb _) Tryz.underlying101 rfl Tryz.zza rfl rfl ⟨_,rfl,((HA4.out.setRow _ _ (fun b hb=>by omega)).mono (fun b hb _=>by omega)),Below.row HB4.out (by omega) _⟩
theorem zZk {w:World} {tx:ByteArray} {nm:Int} {p:Nat} {ks:List T} {S:Nat→Prop} {kv:Value} (hk:KAt 25 w ks S kv) {ck:Int} {cx:ByteArray} {cn:Int} {cp:Nat} {cks:List T} (hf:zFa (.mk 20 tx nm p ks) 0=.mk ck cx cn cp cks) (hl:cks.length≤50000) :
  zae (.mk 20 tx nm p ks)=some (⟨12,p,e0,cx,tm0,tm0,zed (.mk ck cx cn cp cks),0,false⟩:Ins)∧Calls Tryz.prog 126 #[zma (.mk 20 tx nm p ks) kv] w (zVc w (⟨12,p,e0,cx,tm0,tm0,zed (.mk ck cx cn cp cks),0,false⟩:Ins)):=by
 refine ⟨by unfold zae;rw [hf];rfl,?_⟩
 obtain ⟨ua,un,uc,rfl⟩:=hk.slice
 have hko:=zmc (t:=.mk 20 tx nm p ks) ((((hk.mono (S':=fun b=>b<w.heap.size) fun b _ hl=>hl).alloc (.cells (zaa (.mk 20 tx nm p ks) (.slice ua un uc)).toArray 25)).alloc (.cells (zea zcd (.slice none 0 0)).toArray 101)).alloc (.cells (zea (⟨0,p,e0,e0,tm0,tm0,[],0,false⟩:Ins) (.slice none 0 0)).toArray 101)) 0
 rw [hf] at hko
 have HKO:=zh hko
 have HB:=zh (show Below w.heap.size w (((w.alloc (.cells (zaa (.mk 20 tx nm p ks) (.slice ua un uc)).toArray 25)).alloc (.cells (zea zcd (.slice none 0 0)).toArray 101)).alloc (.cells (zea (⟨0,p,e0,e0,tm0,tm0,[],0,false⟩:Ins) (.slice none 0 0)).toArray 101)) from (((Below.refl _ _).alloc (Nat.le_refl _) _).alloc (by simp) _).alloc (by simp;omega) _)
 have HRes:=zh (show Blk (((w.alloc (.cells (zaa (.mk 20 tx nm p ks) (.slice ua un uc)).toArray 25)).alloc (.cells (zea zcd (.slice none 0 0)).toArray 101)).alloc (.cells (zea (⟨0,p,e0,e0,tm0,tm0,[],0,false⟩:Ins) (.slice none 0 0)).toArray 101)) (w.heap.size+1) (zea zcd (.slice none 0 0)) 101 from (Blk.zpc w _ _ _).alloc _)
 have HIns:=zh (show Blk (((w.alloc (.cells (zaa (.mk 20 tx nm p ks) (.slice ua un uc)).toArray 25)).alloc (.cells (zea zcd (.slice none 0 0)).toArray 101)).alloc (.cells (zea (⟨0,p,e0,e0,tm0,tm0,[],0,false⟩:Ins) (.slice none 0 0)).toArray 101)) (w.heap.size+1+1) (zea (⟨0,p,e0,e0,tm0,tm0,[],0,false⟩:Ins) (.slice none 0 0)) 101 from by
  have h:=Blk.zpc (w.alloc (.cells (zaa (.mk 20 tx nm p ks) (.slice ua un uc)).toArray 25)) (.cells (zea zcd (.slice none 0 0)).toArray 101) (zea (⟨0,p,e0,e0,tm0,tm0,[],0,false⟩:Ins) (.slice none 0 0)) 101
  rw [show (w.alloc (.cells (zaa (.mk 20 tx nm p ks) (.slice ua un uc)).toArray 25)).heap.size=w.heap.size+1 by simp] at h
  exact h)
 clear hk hko hf
 unfold zma
 simp only [zRa,zXa,zBb,zJa]
 go_enter Tryz.func126,Tryz.ntmps126
 go_wp2_with fail
 refine HKO.out.mono ?_
 rintro e w1 ⟨u,rfl,hu,hb⟩
 clear HKO
 obtain ⟨ca,cl,cc,rfl⟩:=hu.slice
 have HB1:=zh (HB.out.trans (hb.mono HB.out.size))
 have hz1:=(HIns.out.stays hb).lt
 obtain ⟨W0,hW0,HI0,HF0,HU0,HR0,HB0⟩:∃ W0:World,(w1.alloc (.cells (zaa (.mk ck cx cn cp cks) (.slice ca cl cc)).toArray 25)).drew=W0∧Hid (Blk W0 (w.heap.size+1+1) (zea (⟨0,p,e0,e0,tm0,tm0,[],0,false⟩:Ins) (.slice none 0 0)) 101)∧Hid (Blk W0 w1.heap.size (zaa (.mk ck cx cn cp cks) (.slice ca cl cc)) 25)∧Hid (KAt 25 W0 cks (fun b=>b<w.heap.size) (.slice ca cl cc))∧Hid (Blk W0 (w.heap.size+1) (zea zcd (.slice none 0 0)) 101)∧Hid (Below w.heap.size w W0) :=
  ⟨_,rfl,zh ((HIns.out.stays hb).alloc _).drew,zh (Blk.new w1 _ _).drew,zh (hu.alloc _).drew,zh ((HRes.out.stays hb).alloc _).drew,zh (HB1.out.alloc (by omega) _).drew⟩
 clear hu hb HB HRes HIns HB1
 unfold zma
 simp only [zRa,zXa,zBb,zJa]
 go_wp2_with fail
 refine AnyE.zof (S:=fun W=>Blk W w1.heap.size (zaa (.mk ck cx cn cp cks) (.slice ca cl cc)) 25) hW0 (by kernel_rfl) HF0.out (fun hS=>?_)
 clear hW0
 refine AnyE.take (i:=0) (v:=.pointer (some ⟨w1.heap.size,1,none⟩)) rfl (by kernel_rfl) (by kernel_rfl) (by kernel_rfl) (by kernel_rfl) (fun _ _ _ h=>h) (Or.inl ⟨by rfl,fun W _=>by go_simp⟩) hS ?_
 refine AnyE.take (i:=1) (v:=.string cx) rfl (by kernel_rfl) (by kernel_rfl) (by kernel_rfl) (by kernel_rfl) (fun _ _ _ h=>h) (Or.inl ⟨by rfl,fun W hW=>by have hcx:W.cell? ⟨w1.heap.size,1,none⟩=some (.string cx):=hW.cell 1;go_simp⟩) hS ?_
 refine AnyE.take (i:=2) (v:=.agg #[.int .i64 ck,.string cx,.int .i64 cn,.int .i64 cp,.slice ca cl cc]) rfl (by kernel_rfl) (by kernel_rfl) (by kernel_rfl) (by kernel_rfl) (fun _ _ _ h=>h) (yieldsIf_load_mid (cs:=(zaa (.mk ck cx cn cp cks) (.slice ca cl cc))) (by rfl) 25 (.tmp 5) rfl (w1.heap.size) 0 rfl _ (fun W hW j v hj=>by rw [Nat.zero_add,hW.cell j];exact hj) Tryz.underlying25 rfl Tryz.zha) hS ?_
 refine AnyE.take (i:=4) (v:=.pointer (some ⟨w.heap.size+1+1,0,none⟩)) rfl (by kernel_rfl) (by kernel_rfl) (by kernel_rfl) (by kernel_rfl) (fun _ _ _ h=>h) (Or.inl ⟨by rfl,fun W _=>by go_simp⟩) hS ?_
 refine AnyE.one (i:=3) (by kernel_rfl) rfl (by rfl) (fun K hK=>?_)
 go_simp
 refine (zAg (t:=(.mk ck cx cn cp cks)) HU0.out hl).mono ?_
 rintro e W1 ⟨va,rfl,ha,hb⟩
 obtain ⟨aa,an,ac,rfl⟩:=ha.slice
 have hz:=HI0.out.lt
 have HA1:=zh (ha.mono (S':=fun b=>w.heap.size+1+1<b) fun b hb _=>by omega)
 clear ha hz
 have HI1:=zh (HI0.out.stays hb)
 have HF1:=zh (HF0.out.stays hb)
 have HU1:=zh (HU0.out.below hb)
 have HR1:=zh (HR0.out.stays hb)
 have HB1:=zh (HB0.out.trans (hb.mono HB0.out.size))
 clear hb
 refine hK.out _ _ (fun _=>HF1.out) ?_
 clear hK K
 refine AnyE.one (i:=5) (by kernel_rfl) rfl (by rfl) (fun K hK=>?_)
 have hcx:W1.cell? ⟨w.heap.size+1+1,0,none⟩=some (.int .i64 0):=HI1.out.cell 0
 have hfx:=HI1.out.frozen 0
 go_simp
 clear hcx hfx
 have HI2:=zh (show Blk _ _ (zea (⟨12,p,e0,e0,tm0,tm0,[],0,false⟩:Ins) (.slice none 0 0)) 101 from HI1.out.zxa 0 (.int .i64 12))
 have HF2:=zh (HF1.out.setOther ⟨w.heap.size+1+1,0,none⟩ (.int .i64 12) (by show w1.heap.size≠w.heap.size+1+1;omega))
 have HU2:=zh (HU1.out.keep (S':=fun b=>b<w.heap.size) (w':=W1.setCell ⟨w.heap.size+1+1,0,none⟩ (.int .i64 12)) fun b hb hl=>⟨hb,Below.heap_setCell _ _ _ _ (by show b≠w.heap.size+1+1;omega)⟩)
 have HR2:=zh (HR1.out.setOther ⟨w.heap.size+1+1,0,none⟩ (.int .i64 12) (by show w.heap.size+1≠w.heap.size+1+1;omega))
 have HB2:=zh (HB1.out.setCell (p:=⟨w.heap.size+1+1,0,none⟩) (by show w.heap.size≤w.heap.size+1+1;omega) (.int .i64 12))
 have HA2:=zh (HA1.out.setCell ⟨w.heap.size+1+1,0,none⟩ (.int .i64 12) (fun b hb=>by show b≠w.heap.size+1+1;omega))
 generalize W1.setCell ⟨w.heap.size+1+1,0,none⟩ (.int .i64 12)=W2 at HI2 HF2 HU2 HR2 HB2 HA2 ⊢
 refine hK.out _ _ (fun _=>HF2.out) ?_
 clear hK K
 refine AnyE.one (i:=6) (by kernel_rfl) rfl (by rfl) (fun K hK=>?_)
 go_simp
 refine hK.out _ _ (fun _=>HF2.out) ?_
 clear hK K
 refine AnyE.one (i:=7) (by kernel_rfl) rfl (by rfl) (fun K hK=>?_)
 have hcx:W2.cell? ⟨w.heap.size+1+1,3,none⟩=some (.string ⟨#[]⟩):=HI2.out.cell 3
 have hfx:=HI2.out.frozen 3
 go_simp
 clear hcx hfx
 have HI3:=zh (show Blk _ _ (zea (⟨12,p,e0,cx,tm0,tm0,[],0,false⟩:Ins) (.slice none 0 0)) 101 from HI2.out.zxa 3 (.string cx))
 have HF3:=zh (HF2.out.setOther ⟨w.heap.size+1+1,3,none⟩ (.string cx) (by show w1.heap.size≠w.heap.size+1+1;omega))
 have HU3:=zh (HU2.out.keep (S':=fun b=>b<w.heap.size) (w':=W2.setCell ⟨w.heap.size+1+1,3,none⟩ (.string cx)) fun b hb hl=>⟨hb,Below.heap_setCell _ _ _ _ (by show b≠w.heap.size+1+1;omega)⟩)
 have HR3:=zh (HR2.out.setOther ⟨w.heap.size+1+1,3,none⟩ (.string cx) (by show w.heap.size+1≠w.heap.size+1+1;omega))
 have HB3:=zh (HB2.out.setCell (p:=⟨w.heap.size+1+1,3,none⟩) (by show w.heap.size≤w.heap.size+1+1;omega) (.string cx))
 have HA3:=zh (HA2.out.setCell ⟨w.heap.size+1+1,3,none⟩ (.string cx) (fun b hb=>by show b≠w.heap.size+1+1;omega))
 generalize W2.setCell ⟨w.heap.size+1+1,3,none⟩ (.string cx)=W3 at HI3 HF3 HU3 HR3 HB3 HA3 ⊢
 refine hK.out _ _ (fun _=>HF3.out) ?_
 clear hK K
 refine AnyE.one (i:=8) (by kernel_rfl) rfl (by rfl) (fun K hK=>?_)
 go_simp
 refine hK.out _ _ (fun _=>HF3.out) ?_
 clear hK K
 refine AnyE.one (i:=9) (by kernel_rfl) rfl (by rfl) (fun K hK=>?_)
 have hcx:W3.cell? ⟨w.heap.size+1+1,8,none⟩=some (.slice none 0 0):=HI3.out.cell 8
 have hfx:=HI3.out.frozen 8
 go_simp
 clear hcx hfx
 have HI4:=zh (show Blk _ _ (zea (⟨12,p,e0,cx,tm0,tm0,zed (.mk ck cx cn cp cks),0,false⟩:Ins) (.slice aa an ac)) 101 from HI3.out.zxa 8 (.slice aa an ac))
 have HF4:=zh (HF3.out.setOther ⟨w.heap.size+1+1,8,none⟩ (.slice aa an ac) (by show w1.heap.size≠w.heap.size+1+1;omega))
 have HU4:=zh (HU3.out.keep (S':=fun b=>b<w.heap.size) (w':=W3.setCell ⟨w.heap.size+1+1,8,none⟩ (.slice aa an ac)) fun b hb hl=>⟨hb,Below.heap_setCell _ _ _ _ (by show b≠w.heap.size+1+1;omega)⟩)
 have HR4:=zh (HR3.out.setOther ⟨w.heap.size+1+1,8,none⟩ (.slice aa an ac) (by show w.heap.size+1≠w.heap.size+1+1;omega))
 have HB4:=zh (HB3.out.setCell (p:=⟨w.heap.size+1+1,8,none⟩) (by show w.heap.size≤w.heap.size+1+1;omega) (.slice aa an ac))
 have HA4:=zh (HA3.out.setCell ⟨w.heap.size+1+1,8,none⟩ (.slice aa an ac) (fun b hb=>by show b≠w.heap.size+1+1;omega))
 generalize W3.setCell ⟨w.heap.size+1+1,8,none⟩ (.slice aa an ac)=W4 at HI4 HF4 HU4 HR4 HB4 HA4 ⊢
 refine hK.out _ _ (fun h=>absurd rfl h) ?_
 clear hK K
 refine AnyE.done (by kernel_rfl) ?_ _
 go_wp2_with (first
  | ((with_reducible refine zra 101 (.tmp 4) ?_);refine zja rfl 101 (.tmp 4) rfl (w.heap.size+1+1) (zea (⟨12,p,e0,cx,tm0,tm0,zed (.mk ck cx cn cp cks),0,false⟩:Ins) (.slice aa an ac)) rfl HI4.out Tryz.underlying101 rfl Tryz.zza ?_)
  | ((with_reducible refine zla 101 (.tmp 2) ?_);refine zca rfl 101 (.tmp 2) (.tmp 84) rfl (w.heap.size+1) (zea (⟨12,p,e0,cx,tm0,tm0,zed (.mk ck cx cn cp cks),0,false⟩:Ins) (.slice aa an ac)) rfl rfl HR4.out Tryz.zza rfl (zna _ _ rfl) ?_))
 exact zOc (cs:=(zea (⟨12,p,e0,cx,tm0,tm0,zed (.mk ck cx cn cp cks),0,false⟩:Ins) (.slice aa an ac))) Tryz.results126 rfl (HR4.out.zvb _) Tryz.underlying101 rfl Tryz.zza rfl rfl ⟨_,rfl,((HA4.out.setRow _ _ (fun b hb=>by omega)).mono (fun b hb _=>by omega)),Below.row HB4.out (by omega) _⟩
end Go.Proofs.YthdbmgijpelecaaGreatDoor
