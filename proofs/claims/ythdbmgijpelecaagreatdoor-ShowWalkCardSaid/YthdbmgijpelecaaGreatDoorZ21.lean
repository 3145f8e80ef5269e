/- The contract of show.isWhole on a node whose kids are as the table of layer 2 has them, by kind: it answers true. -/
import Derived.Test.YthdbmgijpelecaaGreatDoorZ18
namespace Go.Proofs.YthdbmgijpelecaaGreatDoor
set_option maxRecDepth 100000
set_option maxHeartbeats 4000000
open Go.RowKit
theorem zor {w:World} {s:ByteArray} {nm:Int} {p:Nat} {ks:List T} {S:Nat→Prop} {kv:Value} (hk:KAt 25 w ks S kv) (h:Fit 16 ks) (hz:ks.length≤1000000) :
  Calls Tryz.prog 58 #[.agg #[.int .i64 16,.string s,.int .i64 nm,.int .i64 p,kv]] w fun e w'=>e=.returned (.bool true)∧Below w.heap.size w w':=by
 have HF:=zh (zQi h)
 obtain ⟨W0,hW0,H0⟩:∃ W,w.alloc (.cells [.int .i64 16,.string s,.int .i64 nm,.int .i64 p,kv].toArray 25)=W∧Hid (Blk W w.heap.size [.int .i64 16,.string s,.int .i64 nm,.int .i64 p,kv] 25∧Below w.heap.size w W∧zeb W ks kv):=⟨_,rfl,zh ⟨Blk.new w _ _,(Below.refl _ _).alloc (Nat.le_refl _) _,(zeb.of hk).below ((Below.refl _ _).alloc (Nat.le_refl _) _)⟩⟩
 clear hk h
 go_enter Tryz.func58,Tryz.ntmps58
 go_wp2_with fail
 refine (one_any _ _ _).mono ?_
 rintro e w1 ⟨rfl,hb⟩
 have HX:=zh (show Blk w1 w.heap.size [.int .i64 16,.string s,.int .i64 nm,.int .i64 p,kv] 25∧Blk w1 W0.heap.size [.int .i64 5] 22∧zeb w1 ks kv∧Below w.heap.size w w1 from by
  have h0:=H0.out
  have hz0:=h0.2.1.size
  have ha:Below W0.heap.size W0 (W0.alloc (.cells [.int .i64 5].toArray 22)):=(Below.refl _ _).alloc (Nat.le_refl _) _
  exact ⟨(h0.1.stays ha).stays hb,(Blk.new W0 _ _).stays hb,(h0.2.2.below ha).below hb,h0.2.1.trans ((ha.trans (hb.mono ha.size)).mono hz0)⟩)
 clear hb
 obtain ⟨W3,hW3,HE⟩:∃ W,w1.alloc (.cells [.int .i64 1,.int .i64 1,.slice (some ⟨W0.heap.size,0,none⟩) 1 1].toArray 159)=W∧Hid (Wh w w.heap.size w1.heap.size W0.heap.size [.int .i64 16,.string s,.int .i64 nm,.int .i64 p,kv] ks kv W):=⟨_,rfl,zh ⟨HX.out.1.alloc _,Blk.new w1 _ _,HX.out.2.1.alloc _,HX.out.2.2.1.below ((Below.refl _ _).alloc (Nat.le_refl _) _),HX.out.2.2.2.alloc HX.out.2.2.2.size _⟩⟩
 have e0:W3.cell? ⟨w.heap.size,0,none⟩=some (.int .i64 16):=HE.out.q.cell 0
 go_wp2_with fail
 have HE4:=zh HE.out.drew
 clear HE
 refine wp_region_held_drew (S:=fun W=>Blk W w.heap.size [.int .i64 16,.string s,.int .i64 nm,.int .i64 p,kv] 25∧Blk W w1.heap.size [.int .i64 1,.int .i64 1,.slice (some ⟨W0.heap.size,0,none⟩) 1 1] 159) (by kernel_rfl) ⟨HE4.out.q,HE4.out.c⟩ (fun hS=>?_)
 generalize W3.drew=W4 at *
 refine wpAnyH_take (i:=0) (oi:=⟨some 100,_,_,_,_,_⟩) (v:=.pointer (some ⟨w.heap.size,4,none⟩)) rfl (by kernel_rfl) (by kernel_rfl) (by kernel_rfl) (fun _ _ _ h=>h) (Or.inl ⟨by rfl,fun W _=>by go_simp⟩) hS ?_
 try simp only [Act.put,List.setIfInBounds_toArray,List.set_cons_zero,List.set_cons_succ]
 refine wpAnyH_take (i:=1) (oi:=⟨some 101,_,_,_,_,_⟩) (v:=kv) rfl (by kernel_rfl) (by kernel_rfl) (by kernel_rfl) (fun _ _ _ h=>h) (Or.inl ⟨by rfl,fun W hW=>by have hcx:W.cell? ⟨w.heap.size,4,none⟩=some kv:=hW.1.cell 4;go_simp⟩) hS ?_
 try simp only [Act.put,List.setIfInBounds_toArray,List.set_cons_zero,List.set_cons_succ]
 refine wpAnyH_take (i:=2) (oi:=⟨some 102,_,_,_,_,_⟩) (v:=.agg #[.int .i64 1,.int .i64 1,.slice (some ⟨W0.heap.size,0,none⟩) 1 1]) rfl (by kernel_rfl) (by kernel_rfl) (by kernel_rfl) (fun _ _ _ h=>h) (yieldsIf_load_mid (cs:=[.int .i64 1,.int .i64 1,.slice (some ⟨W0.heap.size,0,none⟩) 1 1]) (by rfl) 159 (.tmp 3) rfl (w1.heap.size) (0) (by go_simp) _ (fun W hW j v hj=>by rw [Nat.zero_add,hW.2.cell j];exact hj) Tryz.underlying159 rfl Tryz.zge) hS ?_
 try simp only [Act.put,List.setIfInBounds_toArray,List.set_cons_zero,List.set_cons_succ]
 refine wpAnyH_take (i:=3) (oi:=⟨some 103,_,_,_,_,_⟩) (v:=.agg #[.int .i64 1,.int .i64 1,.slice (some ⟨W0.heap.size,0,none⟩) 1 1]) rfl (by kernel_rfl) (by kernel_rfl) (by kernel_rfl) (fun _ _ _ h=>h) (yieldsIf_load_mid (cs:=[.int .i64 1,.int .i64 1,.slice (some ⟨W0.heap.size,0,none⟩) 1 1]) (by rfl) 159 (.tmp 3) rfl (w1.heap.size) (0) (by go_simp) _ (fun W hW j v hj=>by rw [Nat.zero_add,hW.2.cell j];exact hj) Tryz.underlying159 rfl Tryz.zge) hS ?_
 try simp only [Act.put,List.setIfInBounds_toArray,List.set_cons_zero,List.set_cons_succ]
 clear hS
 refine AnyH.only (i:=4) (o:=⟨some 104,_,_,_,_,_⟩) (by kernel_rfl) rfl (by rfl) (fun K hK=>?_)
 go_simp
 have HE5:=zh (HE4.out.alloc (.cells [.int .i64 9].toArray 22))
 have HK0:=zh (Blk.new W4 [.int .i64 9] 22)
 refine hK.out _ _ ⟨HE5.out.q,HE5.out.c⟩ ?_
 clear hK K
 try simp only [Act.put,List.setIfInBounds_toArray,List.set_cons_zero,List.set_cons_succ]
 generalize W4.alloc (.cells [.int .i64 9].toArray 22)=W5 at *
 refine AnyH.only (i:=5) (o:=⟨some 105,_,_,_,_,_⟩) (by kernel_rfl) rfl (by rfl) (fun K hK=>?_)
 go_simp
 refine (one_any _ _ _).mono ?_
 rintro e W6 ⟨rfl,hb⟩
 have HE6:=zh (HE5.out.call hb)
 have HK0:=zh (HK0.out.stays hb)
 clear hb
 refine hK.out _ _ ⟨HE6.out.q,HE6.out.c⟩ ?_
 clear hK K
 try simp only [Act.put,List.setIfInBounds_toArray,List.set_cons_zero,List.set_cons_succ]
 refine AnyH.only (i:=6) (o:=⟨some 106,_,_,_,_,_⟩) (by kernel_rfl) rfl (by rfl) (fun K hK=>?_)
 go_simp
 have HE7:=zh (HE6.out.alloc (.cells [.int .i64 1,.int .i64 1,.slice (some ⟨W0.heap.size,0,none⟩) 1 1,.int .i64 1,.int .i64 1,.slice (some ⟨W0.heap.size,0,none⟩) 1 1,.int .i64 1,.int .i64 1,.slice (some ⟨W4.heap.size,0,none⟩) 1 1].toArray 159))
 have HK0:=zh (HK0.out.alloc (.cells [.int .i64 1,.int .i64 1,.slice (some ⟨W0.heap.size,0,none⟩) 1 1,.int .i64 1,.int .i64 1,.slice (some ⟨W0.heap.size,0,none⟩) 1 1,.int .i64 1,.int .i64 1,.slice (some ⟨W4.heap.size,0,none⟩) 1 1].toArray 159))
 have HPB:=zh (Blk.new W6 [.int .i64 1,.int .i64 1,.slice (some ⟨W0.heap.size,0,none⟩) 1 1,.int .i64 1,.int .i64 1,.slice (some ⟨W0.heap.size,0,none⟩) 1 1,.int .i64 1,.int .i64 1,.slice (some ⟨W4.heap.size,0,none⟩) 1 1] 159)
 refine hK.out _ _ ⟨HE7.out.q,HE7.out.c⟩ ?_
 clear hK K
 try simp only [Act.put,List.setIfInBounds_toArray,List.set_cons_zero,List.set_cons_succ]
 generalize W6.alloc (.cells [.int .i64 1,.int .i64 1,.slice (some ⟨W0.heap.size,0,none⟩) 1 1,.int .i64 1,.int .i64 1,.slice (some ⟨W0.heap.size,0,none⟩) 1 1,.int .i64 1,.int .i64 1,.slice (some ⟨W4.heap.size,0,none⟩) 1 1].toArray 159)=W7 at *
 refine AnyH.only (i:=7) (o:=⟨some 107,_,_,_,_,_⟩) (by kernel_rfl) rfl (by rfl) (fun K hK=>?_)
 go_simp
 refine (zMa (n:=3) HE7.out.k (zab.of [(⟨1,1,[5]⟩,W0.heap.size),(⟨1,1,[5]⟩,W0.heap.size),(⟨1,1,[9]⟩,W4.heap.size)] [.int .i64 1,.int .i64 1,.slice (some ⟨W0.heap.size,0,none⟩) 1 1,.int .i64 1,.int .i64 1,.slice (some ⟨W0.heap.size,0,none⟩) 1 1,.int .i64 1,.int .i64 1,.slice (some ⟨W4.heap.size,0,none⟩) 1 1] rfl HPB.out (zfa HE7.out.f (by decide) (zfa HE7.out.f (by decide) (zfa HK0.out (by decide) zta)))) rfl (by decide) hz HF.out).mono ?_
 rintro e W8 ⟨rfl,hb⟩
 have HE8:=zh (HE7.out.call hb)
 clear hb
 refine hK.out _ _ ⟨HE8.out.q,HE8.out.c⟩ ?_
 clear hK K
 try simp only [Act.put,List.setIfInBounds_toArray,List.set_cons_zero,List.set_cons_succ]
 have hS:Blk W8 w.heap.size [.int .i64 16,.string s,.int .i64 nm,.int .i64 p,kv] 25∧Blk W8 w1.heap.size [.int .i64 1,.int .i64 1,.slice (some ⟨W0.heap.size,0,none⟩) 1 1] 159:=⟨HE8.out.q,HE8.out.c⟩
 refine wpAnyH_take (i:=8) (oi:=⟨some 2,_,_,_,_,_⟩) (v:=.bool true) rfl (by kernel_rfl) (by kernel_rfl) (by kernel_rfl) (fun _ _ _ h=>h) (Or.inl ⟨by rfl,fun W _=>by go_simp⟩) hS ?_
 try simp only [Act.put,List.setIfInBounds_toArray,List.set_cons_zero,List.set_cons_succ]
 refine wpAnyH_done (by kernel_rfl) ?_ _
 clear hS
 go_wp2_with fail
 go_ret
 exact ⟨rfl,HE8.out.b⟩
theorem zNq {w:World} {s:ByteArray} {nm:Int} {p:Nat} {ks:List T} {S:Nat→Prop} {kv:Value} (hk:KAt 25 w ks S kv) (h:Fit 15 ks) (hz:ks.length≤1000000) :
  Calls Tryz.prog 58 #[.agg #[.int .i64 15,.string s,.int .i64 nm,.int .i64 p,kv]] w fun e w'=>e=.returned (.bool true)∧Below w.heap.size w w':=by
 have HF:=zh (ztj h)
 obtain ⟨W0,hW0,H0⟩:∃ W,w.alloc (.cells [.int .i64 15,.string s,.int .i64 nm,.int .i64 p,kv].toArray 25)=W∧Hid (Blk W w.heap.size [.int .i64 15,.string s,.int .i64 nm,.int .i64 p,kv] 25∧Below w.heap.size w W∧zeb W ks kv):=⟨_,rfl,zh ⟨Blk.new w _ _,(Below.refl _ _).alloc (Nat.le_refl _) _,(zeb.of hk).below ((Below.refl _ _).alloc (Nat.le_refl _) _)⟩⟩
 clear hk h
 go_enter Tryz.func58,Tryz.ntmps58
 go_wp2_with fail
 refine (one_any _ _ _).mono ?_
 rintro e w1 ⟨rfl,hb⟩
 have HX:=zh (show Blk w1 w.heap.size [.int .i64 15,.string s,.int .i64 nm,.int .i64 p,kv] 25∧Blk w1 W0.heap.size [.int .i64 5] 22∧zeb w1 ks kv∧Below w.heap.size w w1 from by
  have h0:=H0.out
  have hz0:=h0.2.1.size
  have ha:Below W0.heap.size W0 (W0.alloc (.cells [.int .i64 5].toArray 22)):=(Below.refl _ _).alloc (Nat.le_refl _) _
  exact ⟨(h0.1.stays ha).stays hb,(Blk.new W0 _ _).stays hb,(h0.2.2.below ha).below hb,h0.2.1.trans ((ha.trans (hb.mono ha.size)).mono hz0)⟩)
 clear hb
 obtain ⟨W3,hW3,HE⟩:∃ W,w1.alloc (.cells [.int .i64 1,.int .i64 1,.slice (some ⟨W0.heap.size,0,none⟩) 1 1].toArray 159)=W∧Hid (Wh w w.heap.size w1.heap.size W0.heap.size [.int .i64 15,.string s,.int .i64 nm,.int .i64 p,kv] ks kv W):=⟨_,rfl,zh ⟨HX.out.1.alloc _,Blk.new w1 _ _,HX.out.2.1.alloc _,HX.out.2.2.1.below ((Below.refl _ _).alloc (Nat.le_refl _) _),HX.out.2.2.2.alloc HX.out.2.2.2.size _⟩⟩
 have e0:W3.cell? ⟨w.heap.size,0,none⟩=some (.int .i64 15):=HE.out.q.cell 0
 go_wp2_with fail
 have HE4:=zh HE.out.drew
 clear HE
 refine wp_region_held_drew (S:=fun W=>Blk W w.heap.size [.int .i64 15,.string s,.int .i64 nm,.int .i64 p,kv] 25∧Blk W w1.heap.size [.int .i64 1,.int .i64 1,.slice (some ⟨W0.heap.size,0,none⟩) 1 1] 159) (by kernel_rfl) ⟨HE4.out.q,HE4.out.c⟩ (fun hS=>?_)
 generalize W3.drew=W4 at *
 refine wpAnyH_take (i:=0) (oi:=⟨some 88,_,_,_,_,_⟩) (v:=.pointer (some ⟨w.heap.size,4,none⟩)) rfl (by kernel_rfl) (by kernel_rfl) (by kernel_rfl) (fun _ _ _ h=>h) (Or.inl ⟨by rfl,fun W _=>by go_simp⟩) hS ?_
 try simp only [Act.put,List.setIfInBounds_toArray,List.set_cons_zero,List.set_cons_succ]
 refine wpAnyH_take (i:=1) (oi:=⟨some 89,_,_,_,_,_⟩) (v:=kv) rfl (by kernel_rfl) (by kernel_rfl) (by kernel_rfl) (fun _ _ _ h=>h) (Or.inl ⟨by rfl,fun W hW=>by have hcx:W.cell? ⟨w.heap.size,4,none⟩=some kv:=hW.1.cell 4;go_simp⟩) hS ?_
 try simp only [Act.put,List.setIfInBounds_toArray,List.set_cons_zero,List.set_cons_succ]
 refine wpAnyH_take (i:=2) (oi:=⟨some 90,_,_,_,_,_⟩) (v:=.agg #[.int .i64 1,.int .i64 1,.slice (some ⟨W0.heap.size,0,none⟩) 1 1]) rfl (by kernel_rfl) (by kernel_rfl) (by kernel_rfl) (fun _ _ _ h=>h) (yieldsIf_load_mid (cs:=[.int .i64 1,.int .i64 1,.slice (some ⟨W0.heap.size,0,none⟩) 1 1]) (by rfl) 159 (.tmp 3) rfl (w1.heap.size) (0) (by go_simp) _ (fun W hW j v hj=>by rw [Nat.zero_add,hW.2.cell j];exact hj) Tryz.underlying159 rfl Tryz.zge) hS ?_
 try simp only [Act.put,List.setIfInBounds_toArray,List.set_cons_zero,List.set_cons_succ]
 refine wpAnyH_take (i:=3) (oi:=⟨some 91,_,_,_,_,_⟩) (v:=.agg #[.int .i64 1,.int .i64 1,.slice (some ⟨W0.heap.size,0,none⟩) 1 1]) rfl (by kernel_rfl) (by kernel_rfl) (by kernel_rfl) (fun _ _ _ h=>h) (yieldsIf_load_mid (cs:=[.int .i64 1,.int .i64 1,.slice (some ⟨W0.heap.size,0,none⟩) 1 1]) (by rfl) 159 (.tmp 3) rfl (w1.heap.size) (0) (by go_simp) _ (fun W hW j v hj=>by rw [Nat.zero_add,hW.2.cell j];exact hj) Tryz.underlying159 rfl Tryz.zge) hS ?_
 try simp only [Act.put,List.setIfInBounds_toArray,List.set_cons_zero,List.set_cons_succ]
 clear hS
 refine AnyH.pair (i:=4) (k:=6) (o:=⟨some 92,_,_,_,_,_⟩) (u:=⟨some 94,_,_,_,_,_⟩) (by kernel_rfl) rfl rfl (by rfl) (by rfl) (fun K hK=>?_) (fun K hK=>?_)
 ·skip
  go_simp
  have HE5:=zh (HE4.out.alloc (.cells [.int .i64 9].toArray 22))
  have HK0:=zh (Blk.new W4 [.int .i64 9] 22)
  refine hK.out _ _ ⟨HE5.out.q,HE5.out.c⟩ ?_
  clear hK K
  try simp only [Act.put,List.setIfInBounds_toArray,List.set_cons_zero,List.set_cons_succ]
  generalize W4.alloc (.cells [.int .i64 9].toArray 22)=W5 at *
  refine AnyH.pair (i:=5) (k:=6) (o:=⟨some 93,_,_,_,_,_⟩) (u:=⟨some 94,_,_,_,_,_⟩) (by kernel_rfl) rfl rfl (by rfl) (by rfl) (fun K hK=>?_) (fun K hK=>?_)
  ·skip
   go_simp
   refine (one_any _ _ _).mono ?_
   rintro e W6 ⟨rfl,hb⟩
   have HE6:=zh (HE5.out.call hb)
   have HK0:=zh (HK0.out.stays hb)
   clear hb
   refine hK.out _ _ ⟨HE6.out.q,HE6.out.c⟩ ?_
   clear hK K
   try simp only [Act.put,List.setIfInBounds_toArray,List.set_cons_zero,List.set_cons_succ]
   refine AnyH.only (i:=6) (o:=⟨some 94,_,_,_,_,_⟩) (by kernel_rfl) rfl (by rfl) (fun K hK=>?_)
   go_simp
   have HE7:=zh (HE6.out.alloc (.cells [.int .i64 9].toArray 22))
   have HK0:=zh (HK0.out.alloc (.cells [.int .i64 9].toArray 22))
   have HK1:=zh (Blk.new W6 [.int .i64 9] 22)
   refine hK.out _ _ ⟨HE7.out.q,HE7.out.c⟩ ?_
   clear hK K
   try simp only [Act.put,List.setIfInBounds_toArray,List.set_cons_zero,List.set_cons_succ]
   generalize W6.alloc (.cells [.int .i64 9].toArray 22)=W7 at *
   refine AnyH.only (i:=7) (o:=⟨some 95,_,_,_,_,_⟩) (by kernel_rfl) rfl (by rfl) (fun K hK=>?_)
   go_simp
   refine (one_any _ _ _).mono ?_
   rintro e W8 ⟨rfl,hb⟩
   have HE8:=zh (HE7.out.call hb)
   have HK0:=zh (HK0.out.stays hb)
   have HK1:=zh (HK1.out.stays hb)
   clear hb
   refine hK.out _ _ ⟨HE8.out.q,HE8.out.c⟩ ?_
   clear hK K
   try simp only [Act.put,List.setIfInBounds_toArray,List.set_cons_zero,List.set_cons_succ]
   refine AnyH.only (i:=8) (o:=⟨some 96,_,_,_,_,_⟩) (by kernel_rfl) rfl (by rfl) (fun K hK=>?_)
   go_simp
   have HE9:=zh (HE8.out.alloc (.cells [.int .i64 1,.int .i64 1,.slice (some ⟨W0.heap.size,0,none⟩) 1 1,.int .i64 1,.int .i64 1,.slice (some ⟨W0.heap.size,0,none⟩) 1 1,.int .i64 1,.int .i64 1,.slice (some ⟨W4.heap.size,0,none⟩) 1 1,.int .i64 1,.int .i64 1,.slice (some ⟨W6.heap.size,0,none⟩) 1 1].toArray 159))
   have HK0:=zh (HK0.out.alloc (.cells [.int .i64 1,.int .i64 1,.slice (some ⟨W0.heap.size,0,none⟩) 1 1,.int .i64 1,.int .i64 1,.slice (some ⟨W0.heap.size,0,none⟩) 1 1,.int .i64 1,.int .i64 1,.slice (some ⟨W4.heap.size,0,none⟩) 1 1,.int .i64 1,.int .i64 1,.slice (some ⟨W6.heap.size,0,none⟩) 1 1].toArray 159))
   have HK1:=zh (HK1.out.alloc (.cells [.int .i64 1,.int .i64 1,.slice (some ⟨W0.heap.size,0,none⟩) 1 1,.int .i64 1,.int .i64 1,.slice (some ⟨W0.heap.size,0,none⟩) 1 1,.int .i64 1,.int .i64 1,.slice (some ⟨W4.heap.size,0,none⟩) 1 1,.int .i64 1,.int .i64 1,.slice (some ⟨W6.heap.size,0,none⟩) 1 1].toArray 159))
   have HPB:=zh (Blk.new W8 [.int .i64 1,.int .i64 1,.slice (some ⟨W0.heap.size,0,none⟩) 1 1,.int .i64 1,.int .i64 1,.slice (some ⟨W0.heap.size,0,none⟩) 1 1,.int .i64 1,.int .i64 1,.slice (some ⟨W4.heap.size,0,none⟩) 1 1,.int .i64 1,.int .i64 1,.slice (some ⟨W6.heap.size,0,none⟩) 1 1] 159)
   refine hK.out _ _ ⟨HE9.out.q,HE9.out.c⟩ ?_
   clear hK K
   try simp only [Act.put,List.setIfInBounds_toArray,List.set_cons_zero,List.set_cons_succ]
   generalize W8.alloc (.cells [.int .i64 1,.int .i64 1,.slice (some ⟨W0.heap.size,0,none⟩) 1 1,.int .i64 1,.int .i64 1,.slice (some ⟨W0.heap.size,0,none⟩) 1 1,.int .i64 1,.int .i64 1,.slice (some ⟨W4.heap.size,0,none⟩) 1 1,.int .i64 1,.int .i64 1,.slice (some ⟨W6.heap.size,0,none⟩) 1 1].toArray 159)=W9 at *
   refine AnyH.only (i:=9) (o:=⟨some 97,_,_,_,_,_⟩) (by kernel_rfl) rfl (by rfl) (fun K hK=>?_)
   go_simp
   refine (zMa (n:=4) HE9.out.k (zab.of [(⟨1,1,[5]⟩,W0.heap.size),(⟨1,1,[5]⟩,W0.heap.size),(⟨1,1,[9]⟩,W4.heap.size),(⟨1,1,[9]⟩,W6.heap.size)] [.int .i64 1,.int .i64 1,.slice (some ⟨W0.heap.size,0,none⟩) 1 1,.int .i64 1,.int .i64 1,.slice (some ⟨W0.heap.size,0,none⟩) 1 1,.int .i64 1,.int .i64 1,.slice (some ⟨W4.heap.size,0,none⟩) 1 1,.int .i64 1,.int .i64 1,.slice (some ⟨W6.heap.size,0,none⟩) 1 1] rfl HPB.out (zfa HE9.out.f (by decide) (zfa HE9.out.f (by decide) (zfa HK0.out (by decide) (zfa HK1.out (by decide) zta))))) rfl (by decide) hz HF.out).mono ?_
   rintro e W10 ⟨rfl,hb⟩
   have HE10:=zh (HE9.out.call hb)
   clear hb
   refine hK.out _ _ ⟨HE10.out.q,HE10.out.c⟩ ?_
   clear hK K
   try simp only [Act.put,List.setIfInBounds_toArray,List.set_cons_zero,List.set_cons_succ]
   have hS:Blk W10 w.heap.size [.int .i64 15,.string s,.int .i64 nm,.int .i64 p,kv] 25∧Blk W10 w1.heap.size [.int .i64 1,.int .i64 1,.slice (some ⟨W0.heap.size,0,none⟩) 1 1] 159:=⟨HE10.out.q,HE10.out.c⟩
   refine wpAnyH_take (i:=10) (oi:=⟨some 2,_,_,_,_,_⟩) (v:=.bool true) rfl (by kernel_rfl) (by kernel_rfl) (by kernel_rfl) (fun _ _ _ h=>h) (Or.inl ⟨by rfl,fun W _=>by go_simp⟩) hS ?_
   try simp only [Act.put,List.setIfInBounds_toArray,List.set_cons_zero,List.set_cons_succ]
   refine wpAnyH_done (by kernel_rfl) ?_ _
   clear hS
   go_wp2_with fail
   go_ret
   exact ⟨rfl,HE10.out.b⟩
  ·skip
   go_simp
   have HE6:=zh (HE5.out.alloc (.cells [.int .i64 9].toArray 22))
   have HK0:=zh (HK0.out.alloc (.cells [.int .i64 9].toArray 22))
   have HK1:=zh (Blk.new W5 [.int .i64 9] 22)
   refine hK.out _ _ ⟨HE6.out.q,HE6.out.c⟩ ?_
   clear hK K
   try simp only [Act.put,List.setIfInBounds_toArray,List.set_cons_zero,List.set_cons_succ]
   generalize W5.alloc (.cells [.int .i64 9].toArray 22)=W6 at *
   refine AnyH.only (i:=5) (o:=⟨some 93,_,_,_,_,_⟩) (by kernel_rfl) rfl (by rfl) (fun K hK=>?_)
   go_simp
   refine (one_any _ _ _).mono ?_
   rintro e W7 ⟨rfl,hb⟩
   have HE7:=zh (HE6.out.call hb)
   have HK0:=zh (HK0.out.stays hb)
   have HK1:=zh (HK1.out.stays hb)
   clear hb
   refine hK.out _ _ ⟨HE7.out.q,HE7.out.c⟩ ?_
   clear hK K
   try simp only [Act.put,List.setIfInBounds_toArray,List.set_cons_zero,List.set_cons_succ]
   refine AnyH.only (i:=7) (o:=⟨some 95,_,_,_,_,_⟩) (by kernel_rfl) rfl (by rfl) (fun K hK=>?_)
   go_simp
   refine (one_any _ _ _).mono ?_
   rintro e W8 ⟨rfl,hb⟩
   have HE8:=zh (HE7.out.call hb)
   have HK0:=zh (HK0.out.stays hb)
   have HK1:=zh (HK1.out.stays hb)
   clear hb
   refine hK.out _ _ ⟨HE8.out.q,HE8.out.c⟩ ?_
   clear hK K
   try simp only [Act.put,List.setIfInBounds_toArray,List.set_cons_zero,List.set_cons_succ]
   refine AnyH.only (i:=8) (o:=⟨some 96,_,_,_,_,_⟩) (by kernel_rfl) rfl (by rfl) (fun K hK=>?_)
   go_simp
   have HE9:=zh (HE8.out.alloc (.cells [.int .i64 1,.int .i64 1,.slice (some ⟨W0.heap.size,0,none⟩) 1 1,.int .i64 1,.int .i64 1,.slice (some ⟨W0.heap.size,0,none⟩) 1 1,.int .i64 1,.int .i64 1,.slice (some ⟨W4.heap.size,0,none⟩) 1 1,.int .i64 1,.int .i64 1,.slice (some ⟨W5.heap.size,0,none⟩) 1 1].toArray 159))
   have HK0:=zh (HK0.out.alloc (.cells [.int .i64 1,.int .i64 1,.slice (some ⟨W0.heap.size,0,none⟩) 1 1,.int .i64 1,.int .i64 1,.slice (some ⟨W0.heap.size,0,none⟩) 1 1,.int .i64 1,.int .i64 1,.slice (some ⟨W4.heap.size,0,none⟩) 1 1,.int .i64 1,.int .i64 1,.slice (some ⟨W5.heap.size,0,none⟩) 1 1].toArray 159))
   have HK1:=zh (HK1.out.alloc (.cells [.int .i64 1,.int .i64 1,.slice (some ⟨W0.heap.size,0,none⟩) 1 1,.int .i64 1,.int .i64 1,.slice (some ⟨W0.heap.size,0,none⟩) 1 1,.int .i64 1,.int .i64 1,.slice (some ⟨W4.heap.size,0,none⟩) 1 1,.int .i64 1,.int .i64 1,.slice (some ⟨W5.heap.size,0,none⟩) 1 1].toArray 159))
   have HPB:=zh (Blk.new W8 [.int .i64 1,.int .i64 1,.slice (some ⟨W0.heap.size,0,none⟩) 1 1,.int .i64 1,.int .i64 1,.slice (some ⟨W0.heap.size,0,none⟩) 1 1,.int .i64 1,.int .i64 1,.slice (some ⟨W4.heap.size,0,none⟩) 1 1,.int .i64 1,.int .i64 1,.slice (some ⟨W5.heap.size,0,none⟩) 1 1] 159)
   refine hK.out _ _ ⟨HE9.out.q,HE9.out.c⟩ ?_
   clear hK K
   try simp only [Act.put,List.setIfInBounds_toArray,List.set_cons_zero,List.set_cons_succ]
   generalize W8.alloc (.cells [.int .i64 1,.int .i64 1,.slice (some ⟨W0.heap.size,0,none⟩) 1 1,.int .i64 1,.int .i64 1,.slice (some ⟨W0.heap.size,0,none⟩) 1 1,.int .i64 1,.int .i64 1,.slice (some ⟨W4.heap.size,0,none⟩) 1 1,.int .i64 1,.int .i64 1,.slice (some ⟨W5.heap.size,0,none⟩) 1 1].toArray 159)=W9 at *
   refine AnyH.only (i:=9) (o:=⟨some 97,_,_,_,_,_⟩) (by kernel_rfl) rfl (by rfl) (fun K hK=>?_)
   go_simp
   refine (zMa (n:=4) HE9.out.k (zab.of [(⟨1,1,[5]⟩,W0.heap.size),(⟨1,1,[5]⟩,W0.heap.size),(⟨1,1,[9]⟩,W4.heap.size),(⟨1,1,[9]⟩,W5.heap.size)] [.int .i64 1,.int .i64 1,.slice (some ⟨W0.heap.size,0,none⟩) 1 1,.int .i64 1,.int .i64 1,.slice (some ⟨W0.heap.size,0,none⟩) 1 1,.int .i64 1,.int .i64 1,.slice (some ⟨W4.heap.size,0,none⟩) 1 1,.int .i64 1,.int .i64 1,.slice (some ⟨W5.heap.size,0,none⟩) 1 1] rfl HPB.out (zfa HE9.out.f (by decide) (zfa HE9.out.f (by decide) (zfa HK0.out (by decide) (zfa HK1.out (by decide) zta))))) rfl (by decide) hz HF.out).mono ?_
   rintro e W10 ⟨rfl,hb⟩
   have HE10:=zh (HE9.out.call hb)
   clear hb
   refine hK.out _ _ ⟨HE10.out.q,HE10.out.c⟩ ?_
   clear hK K
   try simp only [Act.put,List.setIfInBounds_toArray,List.set_cons_zero,List.set_cons_succ]
   have hS:Blk W10 w.heap.size [.int .i64 15,.string s,.int .i64 nm,.int .i64 p,kv] 25∧Blk W10 w1.heap.size [.int .i64 1,.int .i64 1,.slice (some ⟨W0.heap.size,0,none⟩) 1 1] 159:=⟨HE10.out.q,HE10.out.c⟩
   refine wpAnyH_take (i:=10) (oi:=⟨some 2,_,_,_,_,_⟩) (v:=.bool true) rfl (by kernel_rfl) (by kernel_rfl) (by kernel_rfl) (fun _ _ _ h=>h) (Or.inl ⟨by rfl,fun W _=>by go_simp⟩) hS ?_
   try simp only [Act.put,List.setIfInBounds_toArray,List.set_cons_zero,List.set_cons_succ]
   refine wpAnyH_done (by kernel_rfl) ?_ _
   clear hS
   go_wp2_with fail
   go_ret
   exact ⟨rfl,HE10.out.b⟩
 ·skip
  go_simp
  have HE5:=zh (HE4.out.alloc (.cells [.int .i64 9].toArray 22))
  have HK1:=zh (Blk.new W4 [.int .i64 9] 22)
  refine hK.out _ _ ⟨HE5.out.q,HE5.out.c⟩ ?_
  clear hK K
  try simp only [Act.put,List.setIfInBounds_toArray,List.set_cons_zero,List.set_cons_succ]
  generalize W4.alloc (.cells [.int .i64 9].toArray 22)=W5 at *
  refine AnyH.only (i:=4) (o:=⟨some 92,_,_,_,_,_⟩) (by kernel_rfl) rfl (by rfl) (fun K hK=>?_)
  go_simp
  have HE6:=zh (HE5.out.alloc (.cells [.int .i64 9].toArray 22))
  have HK1:=zh (HK1.out.alloc (.cells [.int .i64 9].toArray 22))
  have HK0:=zh (Blk.new W5 [.int .i64 9] 22)
  refine hK.out _ _ ⟨HE6.out.q,HE6.out.c⟩ ?_
  clear hK K
  try simp only [Act.put,List.setIfInBounds_toArray,List.set_cons_zero,List.set_cons_succ]
  generalize W5.alloc (.cells [.int .i64 9].toArray 22)=W6 at *
  refine AnyH.only (i:=5) (o:=⟨some 93,_,_,_,_,_⟩) (by kernel_rfl) rfl (by rfl) (fun K hK=>?_)
  go_simp
  refine (one_any _ _ _).mono ?_
  rintro e W7 ⟨rfl,hb⟩
  have HE7:=zh (HE6.out.call hb)
  have HK1:=zh (HK1.out.stays hb)
  have HK0:=zh (HK0.out.stays hb)
  clear hb
  refine hK.out _ _ ⟨HE7.out.q,HE7.out.c⟩ ?_
  clear hK K
  try simp only [Act.put,List.setIfInBounds_toArray,List.set_cons_zero,List.set_cons_succ]
  refine AnyH.only (i:=7) (o:=⟨some 95,_,_,_,_,_⟩) (by kernel_rfl) rfl (by rfl) (fun K hK=>?_)
  go_simp
  refine (one_any _ _ _).mono ?_
  rintro e W8 ⟨rfl,hb⟩
  have HE8:=zh (HE7.out.call hb)
  have HK1:=zh (HK1.out.stays hb)
  have HK0:=zh (HK0.out.stays hb)
  clear hb
  refine hK.out _ _ ⟨HE8.out.q,HE8.out.c⟩ ?_
  clear hK K
  try simp only [Act.put,List.setIfInBounds_toArray,List.set_cons_zero,List.set_cons_succ]
  refine AnyH.only (i:=8) (o:=⟨some 96,_,_,_,_,_⟩) (by kernel_rfl) rfl (by rfl) (fun K hK=>?_)
  go_simp
  have HE9:=zh (HE8.out.alloc (.cells [.int .i64 1,.int .i64 1,.slice (some ⟨W0.heap.size,0,none⟩) 1 1,.int .i64 1,.int .i64 1,.slice (some ⟨W0.heap.size,0,none⟩) 1 1,.int .i64 1,.int .i64 1,.slice (some ⟨W5.heap.size,0,none⟩) 1 1,.int .i64 1,.int .i64 1,.slice (some ⟨W4.heap.size,0,none⟩) 1 1].toArray 159))
  have HK1:=zh (HK1.out.alloc (.cells [.int .i64 1,.int .i64 1,.slice (some ⟨W0.heap.size,0,none⟩) 1 1,.int .i64 1,.int .i64 1,.slice (some ⟨W0.heap.size,0,none⟩) 1 1,.int .i64 1,.int .i64 1,.slice (some ⟨W5.heap.size,0,none⟩) 1 1,.int .i64 1,.int .i64 1,.slice (some ⟨W4.heap.size,0,none⟩) 1 1].toArray 159))
  have HK0:=zh (HK0.out.alloc (.cells [.int .i64 1,.int .i64 1,.slice (some ⟨W0.heap.size,0,none⟩) 1 1,.int .i64 1,.int .i64 1,.slice (some ⟨W0.heap.size,0,none⟩) 1 1,.int .i64 1,.int .i64 1,.slice (some ⟨W5.heap.size,0,none⟩) 1 1,.int .i64 1,.int .i64 1,.slice (some ⟨W4.heap.size,0,none⟩) 1 1].toArray 159))
  have HPB:=zh (Blk.new W8 [.int .i64 1,.int .i64 1,.slice (some ⟨W0.heap.size,0,none⟩) 1 1,.int .i64 1,.int .i64 1,.slice (some ⟨W0.heap.size,0,none⟩) 1 1,.int .i64 1,.int .i64 1,.slice (some ⟨W5.heap.size,0,none⟩) 1 1,.int .i64 1,.int .i64 1,.slice (some ⟨W4.heap.size,0,none⟩) 1 1] 159)
  refine hK.out _ _ ⟨HE9.out.q,HE9.out.c⟩ ?_
  clear hK K
  try simp only [Act.put,List.setIfInBounds_toArray,List.set_cons_zero,List.set_cons_succ]
  generalize W8.alloc (.cells [.int .i64 1,.int .i64 1,.slice (some ⟨W0.heap.size,0,none⟩) 1 1,.int .i64 1,.int .i64 1,.slice (some ⟨W0.heap.size,0,none⟩) 1 1,.int .i64 1,.int .i64 1,.slice (some ⟨W5.heap.size,0,none⟩) 1 1,.int .i64 1,.int .i64 1,.slice (some ⟨W4.heap.size,0,none⟩) 1 1].toArray 159)=W9 at *
  refine AnyH.only (i:=9) (o:=⟨some 97,_,_,_,_,_⟩) (by kernel_rfl) rfl (by rfl) (fun K hK=>?_)
  go_simp
  refine (zMa (n:=4) HE9.out.k (zab.of [(⟨1,1,[5]⟩,W0.heap.size),(⟨1,1,[5]⟩,W0.heap.size),(⟨1,1,[9]⟩,W5.heap.size),(⟨1,1,[9]⟩,W4.heap.size)] [.int .i64 1,.int .i64 1,.slice (some ⟨W0.heap.size,0,none⟩) 1 1,.int .i64 1,.int .i64 1,.slice (some ⟨W0.heap.size,0,none⟩) 1 1,.int .i64 1,.int .i64 1,.slice (some ⟨W5.heap.size,0,none⟩) 1 1,.int .i64 1,.int .i64 1,.slice (some ⟨W4.heap.size,0,none⟩) 1 1] rfl HPB.out (zfa HE9.out.f (by decide) (zfa HE9.out.f (by decide) (zfa HK0.out (by decide) (zfa HK1.out (by decide) zta))))) rfl (by decide) hz HF.out).mono ?_
  rintro e W10 ⟨rfl,hb⟩
  have HE10:=zh (HE9.out.call hb)
  clear hb
  refine hK.out _ _ ⟨HE10.out.q,HE10.out.c⟩ ?_
  clear hK K
  try simp only [Act.put,List.setIfInBounds_toArray,List.set_cons_zero,List.set_cons_succ]
  have hS:Blk W10 w.heap.size [.int .i64 15,.string s,.int .i64 nm,.int .i64 p,kv] 25∧Blk W10 w1.heap.size [.int .i64 1,.int .i64 1,.slice (some ⟨W0.heap.size,0,none⟩) 1 1] 159:=⟨HE10.out.q,HE10.out.c⟩
  refine wpAnyH_take (i:=10) (oi:=⟨some 2,_,_,_,_,_⟩) (v:=.bool true) rfl (by kernel_rfl) (by kernel_rfl) (by kernel_rfl) (fun _ _ _ h=>h) (Or.inl ⟨by rfl,fun W _=>by go_simp⟩) hS ?_
  try simp only [Act.put,List.setIfInBounds_toArray,List.set_cons_zero,List.set_cons_succ]
  refine wpAnyH_done (by kernel_rfl) ?_ _
  clear hS
  go_wp2_with fail
  go_ret
  exact ⟨rfl,HE10.out.b⟩
end Go.Proofs.YthdbmgijpelecaaGreatDoor
