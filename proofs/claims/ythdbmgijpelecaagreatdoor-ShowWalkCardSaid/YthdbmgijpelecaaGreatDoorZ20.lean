/- The contract of show.isWhole on a node whose kids are as the table of layer 2 has them, by kind: it answers true. -/
import Derived.Test.YthdbmgijpelecaaGreatDoorZ18
namespace Go.Proofs.YthdbmgijpelecaaGreatDoor
set_option maxRecDepth 100000
set_option maxHeartbeats 4000000
open Go.RowKit
theorem isw_2 {w:World} {s:ByteArray} {nm:Int} {p:Nat} {ks:List T} {S:Nat→Prop} {kv:Value} (hk:KAt 25 w ks S kv) (h:Fit 2 ks) (hz:ks.length≤1000000) :
  Calls Tryz.prog 58 #[.agg #[.int .i64 2,.string s,.int .i64 nm,.int .i64 p,kv]] w fun e w'=>e=.returned (.bool true)∧Below w.heap.size w w':=by
 have HF:=zh (zsd h (by omega))
 obtain ⟨W0,hW0,H0⟩:∃ W,w.alloc (.cells [.int .i64 2,.string s,.int .i64 nm,.int .i64 p,kv].toArray 25)=W∧Hid (Blk W w.heap.size [.int .i64 2,.string s,.int .i64 nm,.int .i64 p,kv] 25∧Below w.heap.size w W∧zeb W ks kv):=⟨_,rfl,zh ⟨Blk.new w _ _,(Below.refl _ _).alloc (Nat.le_refl _) _,(zeb.of hk).below ((Below.refl _ _).alloc (Nat.le_refl _) _)⟩⟩
 clear hk h
 go_enter Tryz.func58,Tryz.ntmps58
 go_wp2_with fail
 refine (one_any _ _ _).mono ?_
 rintro e w1 ⟨rfl,hb⟩
 have HX:=zh (show Blk w1 w.heap.size [.int .i64 2,.string s,.int .i64 nm,.int .i64 p,kv] 25∧Blk w1 W0.heap.size [.int .i64 5] 22∧zeb w1 ks kv∧Below w.heap.size w w1 from by
  have h0:=H0.out
  have hz0:=h0.2.1.size
  have ha:Below W0.heap.size W0 (W0.alloc (.cells [.int .i64 5].toArray 22)):=(Below.refl _ _).alloc (Nat.le_refl _) _
  exact ⟨(h0.1.stays ha).stays hb,(Blk.new W0 _ _).stays hb,(h0.2.2.below ha).below hb,h0.2.1.trans ((ha.trans (hb.mono ha.size)).mono hz0)⟩)
 clear hb
 obtain ⟨W3,hW3,HE⟩:∃ W,w1.alloc (.cells [.int .i64 1,.int .i64 1,.slice (some ⟨W0.heap.size,0,none⟩) 1 1].toArray 159)=W∧Hid (Wh w w.heap.size w1.heap.size W0.heap.size [.int .i64 2,.string s,.int .i64 nm,.int .i64 p,kv] ks kv W):=⟨_,rfl,zh ⟨HX.out.1.alloc _,Blk.new w1 _ _,HX.out.2.1.alloc _,HX.out.2.2.1.below ((Below.refl _ _).alloc (Nat.le_refl _) _),HX.out.2.2.2.alloc HX.out.2.2.2.size _⟩⟩
 have e0:W3.cell? ⟨w.heap.size,0,none⟩=some (.int .i64 2):=HE.out.q.cell 0
 go_wp2_with fail
 have HE4:=zh HE.out.drew
 clear HE
 refine wp_region_held_drew (S:=fun W=>Blk W w.heap.size [.int .i64 2,.string s,.int .i64 nm,.int .i64 p,kv] 25∧Blk W w1.heap.size [.int .i64 1,.int .i64 1,.slice (some ⟨W0.heap.size,0,none⟩) 1 1] 159) (by kernel_rfl) ⟨HE4.out.q,HE4.out.c⟩ (fun hS=>?_)
 generalize W3.drew=W4 at *
 refine wpAnyH_take (i:=0) (oi:=⟨some 33,_,_,_,_,_⟩) (v:=.pointer (some ⟨w.heap.size,4,none⟩)) rfl (by kernel_rfl) (by kernel_rfl) (by kernel_rfl) (fun _ _ _ h=>h) (Or.inl ⟨by rfl,fun W _=>by go_simp⟩) hS ?_
 try simp only [Act.put,List.setIfInBounds_toArray,List.set_cons_zero,List.set_cons_succ]
 refine wpAnyH_take (i:=1) (oi:=⟨some 34,_,_,_,_,_⟩) (v:=kv) rfl (by kernel_rfl) (by kernel_rfl) (by kernel_rfl) (fun _ _ _ h=>h) (Or.inl ⟨by rfl,fun W hW=>by have hcx:W.cell? ⟨w.heap.size,4,none⟩=some kv:=hW.1.cell 4;go_simp⟩) hS ?_
 try simp only [Act.put,List.setIfInBounds_toArray,List.set_cons_zero,List.set_cons_succ]
 clear hS
 refine AnyH.only (i:=2) (o:=⟨some 35,_,_,_,_,_⟩) (by kernel_rfl) rfl (by rfl) (fun K hK=>?_)
 go_simp
 have HE5:=zh (HE4.out.alloc (.cells [.int .i64 5].toArray 22))
 have HK0:=zh (Blk.new W4 [.int .i64 5] 22)
 refine hK.out _ _ ⟨HE5.out.q,HE5.out.c⟩ ?_
 clear hK K
 try simp only [Act.put,List.setIfInBounds_toArray,List.set_cons_zero,List.set_cons_succ]
 generalize W4.alloc (.cells [.int .i64 5].toArray 22)=W5 at *
 refine AnyH.only (i:=3) (o:=⟨some 36,_,_,_,_,_⟩) (by kernel_rfl) rfl (by rfl) (fun K hK=>?_)
 go_simp
 refine (zwi _ _ _).mono ?_
 rintro e W6 ⟨rfl,hb⟩
 have HE6:=zh (HE5.out.call hb)
 have HK0:=zh (HK0.out.stays hb)
 clear hb
 refine hK.out _ _ ⟨HE6.out.q,HE6.out.c⟩ ?_
 clear hK K
 try simp only [Act.put,List.setIfInBounds_toArray,List.set_cons_zero,List.set_cons_succ]
 refine AnyH.only (i:=4) (o:=⟨some 37,_,_,_,_,_⟩) (by kernel_rfl) rfl (by rfl) (fun K hK=>?_)
 go_simp
 have HE7:=zh (HE6.out.alloc (.cells [.int .i64 0,.int .i64 1,.slice (some ⟨W4.heap.size,0,none⟩) 1 1].toArray 159))
 have HK0:=zh (HK0.out.alloc (.cells [.int .i64 0,.int .i64 1,.slice (some ⟨W4.heap.size,0,none⟩) 1 1].toArray 159))
 have HPB:=zh (Blk.new W6 [.int .i64 0,.int .i64 1,.slice (some ⟨W4.heap.size,0,none⟩) 1 1] 159)
 refine hK.out _ _ ⟨HE7.out.q,HE7.out.c⟩ ?_
 clear hK K
 try simp only [Act.put,List.setIfInBounds_toArray,List.set_cons_zero,List.set_cons_succ]
 generalize W6.alloc (.cells [.int .i64 0,.int .i64 1,.slice (some ⟨W4.heap.size,0,none⟩) 1 1].toArray 159)=W7 at *
 refine AnyH.only (i:=5) (o:=⟨some 38,_,_,_,_,_⟩) (by kernel_rfl) rfl (by rfl) (fun K hK=>?_)
 go_simp
 refine (zMa (n:=1) HE7.out.k (zab.of [(⟨0,1,[5]⟩,W4.heap.size)] [.int .i64 0,.int .i64 1,.slice (some ⟨W4.heap.size,0,none⟩) 1 1] rfl HPB.out (zfa HK0.out (by decide) zta)) rfl (by decide) hz HF.out).mono ?_
 rintro e W8 ⟨rfl,hb⟩
 have HE8:=zh (HE7.out.call hb)
 clear hb
 refine hK.out _ _ ⟨HE8.out.q,HE8.out.c⟩ ?_
 clear hK K
 try simp only [Act.put,List.setIfInBounds_toArray,List.set_cons_zero,List.set_cons_succ]
 have hS:Blk W8 w.heap.size [.int .i64 2,.string s,.int .i64 nm,.int .i64 p,kv] 25∧Blk W8 w1.heap.size [.int .i64 1,.int .i64 1,.slice (some ⟨W0.heap.size,0,none⟩) 1 1] 159:=⟨HE8.out.q,HE8.out.c⟩
 refine wpAnyH_take (i:=6) (oi:=⟨some 2,_,_,_,_,_⟩) (v:=.bool true) rfl (by kernel_rfl) (by kernel_rfl) (by kernel_rfl) (fun _ _ _ h=>h) (Or.inl ⟨by rfl,fun W _=>by go_simp⟩) hS ?_
 try simp only [Act.put,List.setIfInBounds_toArray,List.set_cons_zero,List.set_cons_succ]
 refine wpAnyH_done (by kernel_rfl) ?_ _
 clear hS
 go_wp2_with fail
 go_ret
 exact ⟨rfl,HE8.out.b⟩
theorem isw_3 {w:World} {s:ByteArray} {nm:Int} {p:Nat} {ks:List T} {S:Nat→Prop} {kv:Value} (hk:KAt 25 w ks S kv) (h:Fit 3 ks) (hz:ks.length≤1000000) :
  Calls Tryz.prog 58 #[.agg #[.int .i64 3,.string s,.int .i64 nm,.int .i64 p,kv]] w fun e w'=>e=.returned (.bool true)∧Below w.heap.size w w':=by
 have HF:=zh (zsd h (by omega))
 obtain ⟨W0,hW0,H0⟩:∃ W,w.alloc (.cells [.int .i64 3,.string s,.int .i64 nm,.int .i64 p,kv].toArray 25)=W∧Hid (Blk W w.heap.size [.int .i64 3,.string s,.int .i64 nm,.int .i64 p,kv] 25∧Below w.heap.size w W∧zeb W ks kv):=⟨_,rfl,zh ⟨Blk.new w _ _,(Below.refl _ _).alloc (Nat.le_refl _) _,(zeb.of hk).below ((Below.refl _ _).alloc (Nat.le_refl _) _)⟩⟩
 clear hk h
 go_enter Tryz.func58,Tryz.ntmps58
 go_wp2_with fail
 refine (one_any _ _ _).mono ?_
 rintro e w1 ⟨rfl,hb⟩
 have HX:=zh (show Blk w1 w.heap.size [.int .i64 3,.string s,.int .i64 nm,.int .i64 p,kv] 25∧Blk w1 W0.heap.size [.int .i64 5] 22∧zeb w1 ks kv∧Below w.heap.size w w1 from by
  have h0:=H0.out
  have hz0:=h0.2.1.size
  have ha:Below W0.heap.size W0 (W0.alloc (.cells [.int .i64 5].toArray 22)):=(Below.refl _ _).alloc (Nat.le_refl _) _
  exact ⟨(h0.1.stays ha).stays hb,(Blk.new W0 _ _).stays hb,(h0.2.2.below ha).below hb,h0.2.1.trans ((ha.trans (hb.mono ha.size)).mono hz0)⟩)
 clear hb
 obtain ⟨W3,hW3,HE⟩:∃ W,w1.alloc (.cells [.int .i64 1,.int .i64 1,.slice (some ⟨W0.heap.size,0,none⟩) 1 1].toArray 159)=W∧Hid (Wh w w.heap.size w1.heap.size W0.heap.size [.int .i64 3,.string s,.int .i64 nm,.int .i64 p,kv] ks kv W):=⟨_,rfl,zh ⟨HX.out.1.alloc _,Blk.new w1 _ _,HX.out.2.1.alloc _,HX.out.2.2.1.below ((Below.refl _ _).alloc (Nat.le_refl _) _),HX.out.2.2.2.alloc HX.out.2.2.2.size _⟩⟩
 have e0:W3.cell? ⟨w.heap.size,0,none⟩=some (.int .i64 3):=HE.out.q.cell 0
 go_wp2_with fail
 have HE4:=zh HE.out.drew
 clear HE
 refine wp_region_held_drew (S:=fun W=>Blk W w.heap.size [.int .i64 3,.string s,.int .i64 nm,.int .i64 p,kv] 25∧Blk W w1.heap.size [.int .i64 1,.int .i64 1,.slice (some ⟨W0.heap.size,0,none⟩) 1 1] 159) (by kernel_rfl) ⟨HE4.out.q,HE4.out.c⟩ (fun hS=>?_)
 generalize W3.drew=W4 at *
 refine wpAnyH_take (i:=0) (oi:=⟨some 33,_,_,_,_,_⟩) (v:=.pointer (some ⟨w.heap.size,4,none⟩)) rfl (by kernel_rfl) (by kernel_rfl) (by kernel_rfl) (fun _ _ _ h=>h) (Or.inl ⟨by rfl,fun W _=>by go_simp⟩) hS ?_
 try simp only [Act.put,List.setIfInBounds_toArray,List.set_cons_zero,List.set_cons_succ]
 refine wpAnyH_take (i:=1) (oi:=⟨some 34,_,_,_,_,_⟩) (v:=kv) rfl (by kernel_rfl) (by kernel_rfl) (by kernel_rfl) (fun _ _ _ h=>h) (Or.inl ⟨by rfl,fun W hW=>by have hcx:W.cell? ⟨w.heap.size,4,none⟩=some kv:=hW.1.cell 4;go_simp⟩) hS ?_
 try simp only [Act.put,List.setIfInBounds_toArray,List.set_cons_zero,List.set_cons_succ]
 clear hS
 refine AnyH.only (i:=2) (o:=⟨some 35,_,_,_,_,_⟩) (by kernel_rfl) rfl (by rfl) (fun K hK=>?_)
 go_simp
 have HE5:=zh (HE4.out.alloc (.cells [.int .i64 5].toArray 22))
 have HK0:=zh (Blk.new W4 [.int .i64 5] 22)
 refine hK.out _ _ ⟨HE5.out.q,HE5.out.c⟩ ?_
 clear hK K
 try simp only [Act.put,List.setIfInBounds_toArray,List.set_cons_zero,List.set_cons_succ]
 generalize W4.alloc (.cells [.int .i64 5].toArray 22)=W5 at *
 refine AnyH.only (i:=3) (o:=⟨some 36,_,_,_,_,_⟩) (by kernel_rfl) rfl (by rfl) (fun K hK=>?_)
 go_simp
 refine (zwi _ _ _).mono ?_
 rintro e W6 ⟨rfl,hb⟩
 have HE6:=zh (HE5.out.call hb)
 have HK0:=zh (HK0.out.stays hb)
 clear hb
 refine hK.out _ _ ⟨HE6.out.q,HE6.out.c⟩ ?_
 clear hK K
 try simp only [Act.put,List.setIfInBounds_toArray,List.set_cons_zero,List.set_cons_succ]
 refine AnyH.only (i:=4) (o:=⟨some 37,_,_,_,_,_⟩) (by kernel_rfl) rfl (by rfl) (fun K hK=>?_)
 go_simp
 have HE7:=zh (HE6.out.alloc (.cells [.int .i64 0,.int .i64 1,.slice (some ⟨W4.heap.size,0,none⟩) 1 1].toArray 159))
 have HK0:=zh (HK0.out.alloc (.cells [.int .i64 0,.int .i64 1,.slice (some ⟨W4.heap.size,0,none⟩) 1 1].toArray 159))
 have HPB:=zh (Blk.new W6 [.int .i64 0,.int .i64 1,.slice (some ⟨W4.heap.size,0,none⟩) 1 1] 159)
 refine hK.out _ _ ⟨HE7.out.q,HE7.out.c⟩ ?_
 clear hK K
 try simp only [Act.put,List.setIfInBounds_toArray,List.set_cons_zero,List.set_cons_succ]
 generalize W6.alloc (.cells [.int .i64 0,.int .i64 1,.slice (some ⟨W4.heap.size,0,none⟩) 1 1].toArray 159)=W7 at *
 refine AnyH.only (i:=5) (o:=⟨some 38,_,_,_,_,_⟩) (by kernel_rfl) rfl (by rfl) (fun K hK=>?_)
 go_simp
 refine (zMa (n:=1) HE7.out.k (zab.of [(⟨0,1,[5]⟩,W4.heap.size)] [.int .i64 0,.int .i64 1,.slice (some ⟨W4.heap.size,0,none⟩) 1 1] rfl HPB.out (zfa HK0.out (by decide) zta)) rfl (by decide) hz HF.out).mono ?_
 rintro e W8 ⟨rfl,hb⟩
 have HE8:=zh (HE7.out.call hb)
 clear hb
 refine hK.out _ _ ⟨HE8.out.q,HE8.out.c⟩ ?_
 clear hK K
 try simp only [Act.put,List.setIfInBounds_toArray,List.set_cons_zero,List.set_cons_succ]
 have hS:Blk W8 w.heap.size [.int .i64 3,.string s,.int .i64 nm,.int .i64 p,kv] 25∧Blk W8 w1.heap.size [.int .i64 1,.int .i64 1,.slice (some ⟨W0.heap.size,0,none⟩) 1 1] 159:=⟨HE8.out.q,HE8.out.c⟩
 refine wpAnyH_take (i:=6) (oi:=⟨some 2,_,_,_,_,_⟩) (v:=.bool true) rfl (by kernel_rfl) (by kernel_rfl) (by kernel_rfl) (fun _ _ _ h=>h) (Or.inl ⟨by rfl,fun W _=>by go_simp⟩) hS ?_
 try simp only [Act.put,List.setIfInBounds_toArray,List.set_cons_zero,List.set_cons_succ]
 refine wpAnyH_done (by kernel_rfl) ?_ _
 clear hS
 go_wp2_with fail
 go_ret
 exact ⟨rfl,HE8.out.b⟩
theorem isw_8 {w:World} {s:ByteArray} {nm:Int} {p:Nat} {ks:List T} {S:Nat→Prop} {kv:Value} (hk:KAt 25 w ks S kv) (h:Fit 8 ks) (hz:ks.length≤1000000) :
  Calls Tryz.prog 58 #[.agg #[.int .i64 8,.string s,.int .i64 nm,.int .i64 p,kv]] w fun e w'=>e=.returned (.bool true)∧Below w.heap.size w w':=by
 have HF:=zh (zsd h (by omega))
 obtain ⟨W0,hW0,H0⟩:∃ W,w.alloc (.cells [.int .i64 8,.string s,.int .i64 nm,.int .i64 p,kv].toArray 25)=W∧Hid (Blk W w.heap.size [.int .i64 8,.string s,.int .i64 nm,.int .i64 p,kv] 25∧Below w.heap.size w W∧zeb W ks kv):=⟨_,rfl,zh ⟨Blk.new w _ _,(Below.refl _ _).alloc (Nat.le_refl _) _,(zeb.of hk).below ((Below.refl _ _).alloc (Nat.le_refl _) _)⟩⟩
 clear hk h
 go_enter Tryz.func58,Tryz.ntmps58
 go_wp2_with fail
 refine (one_any _ _ _).mono ?_
 rintro e w1 ⟨rfl,hb⟩
 have HX:=zh (show Blk w1 w.heap.size [.int .i64 8,.string s,.int .i64 nm,.int .i64 p,kv] 25∧Blk w1 W0.heap.size [.int .i64 5] 22∧zeb w1 ks kv∧Below w.heap.size w w1 from by
  have h0:=H0.out
  have hz0:=h0.2.1.size
  have ha:Below W0.heap.size W0 (W0.alloc (.cells [.int .i64 5].toArray 22)):=(Below.refl _ _).alloc (Nat.le_refl _) _
  exact ⟨(h0.1.stays ha).stays hb,(Blk.new W0 _ _).stays hb,(h0.2.2.below ha).below hb,h0.2.1.trans ((ha.trans (hb.mono ha.size)).mono hz0)⟩)
 clear hb
 obtain ⟨W3,hW3,HE⟩:∃ W,w1.alloc (.cells [.int .i64 1,.int .i64 1,.slice (some ⟨W0.heap.size,0,none⟩) 1 1].toArray 159)=W∧Hid (Wh w w.heap.size w1.heap.size W0.heap.size [.int .i64 8,.string s,.int .i64 nm,.int .i64 p,kv] ks kv W):=⟨_,rfl,zh ⟨HX.out.1.alloc _,Blk.new w1 _ _,HX.out.2.1.alloc _,HX.out.2.2.1.below ((Below.refl _ _).alloc (Nat.le_refl _) _),HX.out.2.2.2.alloc HX.out.2.2.2.size _⟩⟩
 have e0:W3.cell? ⟨w.heap.size,0,none⟩=some (.int .i64 8):=HE.out.q.cell 0
 go_wp2_with fail
 have HE4:=zh HE.out.drew
 clear HE
 refine wp_region_held_drew (S:=fun W=>Blk W w.heap.size [.int .i64 8,.string s,.int .i64 nm,.int .i64 p,kv] 25∧Blk W w1.heap.size [.int .i64 1,.int .i64 1,.slice (some ⟨W0.heap.size,0,none⟩) 1 1] 159) (by kernel_rfl) ⟨HE4.out.q,HE4.out.c⟩ (fun hS=>?_)
 generalize W3.drew=W4 at *
 refine wpAnyH_take (i:=0) (oi:=⟨some 33,_,_,_,_,_⟩) (v:=.pointer (some ⟨w.heap.size,4,none⟩)) rfl (by kernel_rfl) (by kernel_rfl) (by kernel_rfl) (fun _ _ _ h=>h) (Or.inl ⟨by rfl,fun W _=>by go_simp⟩) hS ?_
 try simp only [Act.put,List.setIfInBounds_toArray,List.set_cons_zero,List.set_cons_succ]
 refine wpAnyH_take (i:=1) (oi:=⟨some 34,_,_,_,_,_⟩) (v:=kv) rfl (by kernel_rfl) (by kernel_rfl) (by kernel_rfl) (fun _ _ _ h=>h) (Or.inl ⟨by rfl,fun W hW=>by have hcx:W.cell? ⟨w.heap.size,4,none⟩=some kv:=hW.1.cell 4;go_simp⟩) hS ?_
 try simp only [Act.put,List.setIfInBounds_toArray,List.set_cons_zero,List.set_cons_succ]
 clear hS
 refine AnyH.only (i:=2) (o:=⟨some 35,_,_,_,_,_⟩) (by kernel_rfl) rfl (by rfl) (fun K hK=>?_)
 go_simp
 have HE5:=zh (HE4.out.alloc (.cells [.int .i64 5].toArray 22))
 have HK0:=zh (Blk.new W4 [.int .i64 5] 22)
 refine hK.out _ _ ⟨HE5.out.q,HE5.out.c⟩ ?_
 clear hK K
 try simp only [Act.put,List.setIfInBounds_toArray,List.set_cons_zero,List.set_cons_succ]
 generalize W4.alloc (.cells [.int .i64 5].toArray 22)=W5 at *
 refine AnyH.only (i:=3) (o:=⟨some 36,_,_,_,_,_⟩) (by kernel_rfl) rfl (by rfl) (fun K hK=>?_)
 go_simp
 refine (zwi _ _ _).mono ?_
 rintro e W6 ⟨rfl,hb⟩
 have HE6:=zh (HE5.out.call hb)
 have HK0:=zh (HK0.out.stays hb)
 clear hb
 refine hK.out _ _ ⟨HE6.out.q,HE6.out.c⟩ ?_
 clear hK K
 try simp only [Act.put,List.setIfInBounds_toArray,List.set_cons_zero,List.set_cons_succ]
 refine AnyH.only (i:=4) (o:=⟨some 37,_,_,_,_,_⟩) (by kernel_rfl) rfl (by rfl) (fun K hK=>?_)
 go_simp
 have HE7:=zh (HE6.out.alloc (.cells [.int .i64 0,.int .i64 1,.slice (some ⟨W4.heap.size,0,none⟩) 1 1].toArray 159))
 have HK0:=zh (HK0.out.alloc (.cells [.int .i64 0,.int .i64 1,.slice (some ⟨W4.heap.size,0,none⟩) 1 1].toArray 159))
 have HPB:=zh (Blk.new W6 [.int .i64 0,.int .i64 1,.slice (some ⟨W4.heap.size,0,none⟩) 1 1] 159)
 refine hK.out _ _ ⟨HE7.out.q,HE7.out.c⟩ ?_
 clear hK K
 try simp only [Act.put,List.setIfInBounds_toArray,List.set_cons_zero,List.set_cons_succ]
 generalize W6.alloc (.cells [.int .i64 0,.int .i64 1,.slice (some ⟨W4.heap.size,0,none⟩) 1 1].toArray 159)=W7 at *
 refine AnyH.only (i:=5) (o:=⟨some 38,_,_,_,_,_⟩) (by kernel_rfl) rfl (by rfl) (fun K hK=>?_)
 go_simp
 refine (zMa (n:=1) HE7.out.k (zab.of [(⟨0,1,[5]⟩,W4.heap.size)] [.int .i64 0,.int .i64 1,.slice (some ⟨W4.heap.size,0,none⟩) 1 1] rfl HPB.out (zfa HK0.out (by decide) zta)) rfl (by decide) hz HF.out).mono ?_
 rintro e W8 ⟨rfl,hb⟩
 have HE8:=zh (HE7.out.call hb)
 clear hb
 refine hK.out _ _ ⟨HE8.out.q,HE8.out.c⟩ ?_
 clear hK K
 try simp only [Act.put,List.setIfInBounds_toArray,List.set_cons_zero,List.set_cons_succ]
 have hS:Blk W8 w.heap.size [.int .i64 8,.string s,.int .i64 nm,.int .i64 p,kv] 25∧Blk W8 w1.heap.size [.int .i64 1,.int .i64 1,.slice (some ⟨W0.heap.size,0,none⟩) 1 1] 159:=⟨HE8.out.q,HE8.out.c⟩
 refine wpAnyH_take (i:=6) (oi:=⟨some 2,_,_,_,_,_⟩) (v:=.bool true) rfl (by kernel_rfl) (by kernel_rfl) (by kernel_rfl) (fun _ _ _ h=>h) (Or.inl ⟨by rfl,fun W _=>by go_simp⟩) hS ?_
 try simp only [Act.put,List.setIfInBounds_toArray,List.set_cons_zero,List.set_cons_succ]
 refine wpAnyH_done (by kernel_rfl) ?_ _
 clear hS
 go_wp2_with fail
 go_ret
 exact ⟨rfl,HE8.out.b⟩
theorem zgr {w:World} {s:ByteArray} {nm:Int} {p:Nat} {ks:List T} {S:Nat→Prop} {kv:Value} (hk:KAt 25 w ks S kv) (h:Fit 17 ks) (hz:ks.length≤1000000) :
  Calls Tryz.prog 58 #[.agg #[.int .i64 17,.string s,.int .i64 nm,.int .i64 p,kv]] w fun e w'=>e=.returned (.bool true)∧Below w.heap.size w w':=by
 have HF:=zh (zsd h (by omega))
 obtain ⟨W0,hW0,H0⟩:∃ W,w.alloc (.cells [.int .i64 17,.string s,.int .i64 nm,.int .i64 p,kv].toArray 25)=W∧Hid (Blk W w.heap.size [.int .i64 17,.string s,.int .i64 nm,.int .i64 p,kv] 25∧Below w.heap.size w W∧zeb W ks kv):=⟨_,rfl,zh ⟨Blk.new w _ _,(Below.refl _ _).alloc (Nat.le_refl _) _,(zeb.of hk).below ((Below.refl _ _).alloc (Nat.le_refl _) _)⟩⟩
 clear hk h
 go_enter Tryz.func58,Tryz.ntmps58
 go_wp2_with fail
 refine (one_any _ _ _).mono ?_
 rintro e w1 ⟨rfl,hb⟩
 have HX:=zh (show Blk w1 w.heap.size [.int .i64 17,.string s,.int .i64 nm,.int .i64 p,kv] 25∧Blk w1 W0.heap.size [.int .i64 5] 22∧zeb w1 ks kv∧Below w.heap.size w w1 from by
  have h0:=H0.out
  have hz0:=h0.2.1.size
  have ha:Below W0.heap.size W0 (W0.alloc (.cells [.int .i64 5].toArray 22)):=(Below.refl _ _).alloc (Nat.le_refl _) _
  exact ⟨(h0.1.stays ha).stays hb,(Blk.new W0 _ _).stays hb,(h0.2.2.below ha).below hb,h0.2.1.trans ((ha.trans (hb.mono ha.size)).mono hz0)⟩)
 clear hb
 obtain ⟨W3,hW3,HE⟩:∃ W,w1.alloc (.cells [.int .i64 1,.int .i64 1,.slice (some ⟨W0.heap.size,0,none⟩) 1 1].toArray 159)=W∧Hid (Wh w w.heap.size w1.heap.size W0.heap.size [.int .i64 17,.string s,.int .i64 nm,.int .i64 p,kv] ks kv W):=⟨_,rfl,zh ⟨HX.out.1.alloc _,Blk.new w1 _ _,HX.out.2.1.alloc _,HX.out.2.2.1.below ((Below.refl _ _).alloc (Nat.le_refl _) _),HX.out.2.2.2.alloc HX.out.2.2.2.size _⟩⟩
 have e0:W3.cell? ⟨w.heap.size,0,none⟩=some (.int .i64 17):=HE.out.q.cell 0
 go_wp2_with fail
 have HE4:=zh HE.out.drew
 clear HE
 refine wp_region_held_drew (S:=fun W=>Blk W w.heap.size [.int .i64 17,.string s,.int .i64 nm,.int .i64 p,kv] 25∧Blk W w1.heap.size [.int .i64 1,.int .i64 1,.slice (some ⟨W0.heap.size,0,none⟩) 1 1] 159) (by kernel_rfl) ⟨HE4.out.q,HE4.out.c⟩ (fun hS=>?_)
 generalize W3.drew=W4 at *
 refine wpAnyH_take (i:=0) (oi:=⟨some 33,_,_,_,_,_⟩) (v:=.pointer (some ⟨w.heap.size,4,none⟩)) rfl (by kernel_rfl) (by kernel_rfl) (by kernel_rfl) (fun _ _ _ h=>h) (Or.inl ⟨by rfl,fun W _=>by go_simp⟩) hS ?_
 try simp only [Act.put,List.setIfInBounds_toArray,List.set_cons_zero,List.set_cons_succ]
 refine wpAnyH_take (i:=1) (oi:=⟨some 34,_,_,_,_,_⟩) (v:=kv) rfl (by kernel_rfl) (by kernel_rfl) (by kernel_rfl) (fun _ _ _ h=>h) (Or.inl ⟨by rfl,fun W hW=>by have hcx:W.cell? ⟨w.heap.size,4,none⟩=some kv:=hW.1.cell 4;go_simp⟩) hS ?_
 try simp only [Act.put,List.setIfInBounds_toArray,List.set_cons_zero,List.set_cons_succ]
 clear hS
 refine AnyH.only (i:=2) (o:=⟨some 35,_,_,_,_,_⟩) (by kernel_rfl) rfl (by rfl) (fun K hK=>?_)
 go_simp
 have HE5:=zh (HE4.out.alloc (.cells [.int .i64 5].toArray 22))
 have HK0:=zh (Blk.new W4 [.int .i64 5] 22)
 refine hK.out _ _ ⟨HE5.out.q,HE5.out.c⟩ ?_
 clear hK K
 try simp only [Act.put,List.setIfInBounds_toArray,List.set_cons_zero,List.set_cons_succ]
 generalize W4.alloc (.cells [.int .i64 5].toArray 22)=W5 at *
 refine AnyH.only (i:=3) (o:=⟨some 36,_,_,_,_,_⟩) (by kernel_rfl) rfl (by rfl) (fun K hK=>?_)
 go_simp
 refine (zwi _ _ _).mono ?_
 rintro e W6 ⟨rfl,hb⟩
 have HE6:=zh (HE5.out.call hb)
 have HK0:=zh (HK0.out.stays hb)
 clear hb
 refine hK.out _ _ ⟨HE6.out.q,HE6.out.c⟩ ?_
 clear hK K
 try simp only [Act.put,List.setIfInBounds_toArray,List.set_cons_zero,List.set_cons_succ]
 refine AnyH.only (i:=4) (o:=⟨some 37,_,_,_,_,_⟩) (by kernel_rfl) rfl (by rfl) (fun K hK=>?_)
 go_simp
 have HE7:=zh (HE6.out.alloc (.cells [.int .i64 0,.int .i64 1,.slice (some ⟨W4.heap.size,0,none⟩) 1 1].toArray 159))
 have HK0:=zh (HK0.out.alloc (.cells [.int .i64 0,.int .i64 1,.slice (some ⟨W4.heap.size,0,none⟩) 1 1].toArray 159))
 have HPB:=zh (Blk.new W6 [.int .i64 0,.int .i64 1,.slice (some ⟨W4.heap.size,0,none⟩) 1 1] 159)
 refine hK.out _ _ ⟨HE7.out.q,HE7.out.c⟩ ?_
 clear hK K
 try simp only [Act.put,List.setIfInBounds_toArray,List.set_cons_zero,List.set_cons_succ]
 generalize W6.alloc (.cells [.int .i64 0,.int .i64 1,.slice (some ⟨W4.heap.size,0,none⟩) 1 1].toArray 159)=W7 at *
 refine AnyH.only (i:=5) (o:=⟨some 38,_,_,_,_,_⟩) (by kernel_rfl) rfl (by rfl) (fun K hK=>?_)
 go_simp
 refine (zMa (n:=1) HE7.out.k (zab.of [(⟨0,1,[5]⟩,W4.heap.size)] [.int .i64 0,.int .i64 1,.slice (some ⟨W4.heap.size,0,none⟩) 1 1] rfl HPB.out (zfa HK0.out (by decide) zta)) rfl (by decide) hz HF.out).mono ?_
 rintro e W8 ⟨rfl,hb⟩
 have HE8:=zh (HE7.out.call hb)
 clear hb
 refine hK.out _ _ ⟨HE8.out.q,HE8.out.c⟩ ?_
 clear hK K
 try simp only [Act.put,List.setIfInBounds_toArray,List.set_cons_zero,List.set_cons_succ]
 have hS:Blk W8 w.heap.size [.int .i64 17,.string s,.int .i64 nm,.int .i64 p,kv] 25∧Blk W8 w1.heap.size [.int .i64 1,.int .i64 1,.slice (some ⟨W0.heap.size,0,none⟩) 1 1] 159:=⟨HE8.out.q,HE8.out.c⟩
 refine wpAnyH_take (i:=6) (oi:=⟨some 2,_,_,_,_,_⟩) (v:=.bool true) rfl (by kernel_rfl) (by kernel_rfl) (by kernel_rfl) (fun _ _ _ h=>h) (Or.inl ⟨by rfl,fun W _=>by go_simp⟩) hS ?_
 try simp only [Act.put,List.setIfInBounds_toArray,List.set_cons_zero,List.set_cons_succ]
 refine wpAnyH_done (by kernel_rfl) ?_ _
 clear hS
 go_wp2_with fail
 go_ret
 exact ⟨rfl,HE8.out.b⟩
theorem isw_0 {w:World} {s:ByteArray} {nm:Int} {p:Nat} {ks:List T} {S:Nat→Prop} {kv:Value} (hk:KAt 25 w ks S kv) (h:Fit 0 ks) (hz:ks.length≤1000000) :
  Calls Tryz.prog 58 #[.agg #[.int .i64 0,.string s,.int .i64 nm,.int .i64 p,kv]] w fun e w'=>e=.returned (.bool true)∧Below w.heap.size w w':=by
 have HF:=zh (zek h hz)
 obtain ⟨W0,hW0,H0⟩:∃ W,w.alloc (.cells [.int .i64 0,.string s,.int .i64 nm,.int .i64 p,kv].toArray 25)=W∧Hid (Blk W w.heap.size [.int .i64 0,.string s,.int .i64 nm,.int .i64 p,kv] 25∧Below w.heap.size w W∧zeb W ks kv):=⟨_,rfl,zh ⟨Blk.new w _ _,(Below.refl _ _).alloc (Nat.le_refl _) _,(zeb.of hk).below ((Below.refl _ _).alloc (Nat.le_refl _) _)⟩⟩
 clear hk h
 go_enter Tryz.func58,Tryz.ntmps58
 go_wp2_with fail
 refine (one_any _ _ _).mono ?_
 rintro e w1 ⟨rfl,hb⟩
 have HX:=zh (show Blk w1 w.heap.size [.int .i64 0,.string s,.int .i64 nm,.int .i64 p,kv] 25∧Blk w1 W0.heap.size [.int .i64 5] 22∧zeb w1 ks kv∧Below w.heap.size w w1 from by
  have h0:=H0.out
  have hz0:=h0.2.1.size
  have ha:Below W0.heap.size W0 (W0.alloc (.cells [.int .i64 5].toArray 22)):=(Below.refl _ _).alloc (Nat.le_refl _) _
  exact ⟨(h0.1.stays ha).stays hb,(Blk.new W0 _ _).stays hb,(h0.2.2.below ha).below hb,h0.2.1.trans ((ha.trans (hb.mono ha.size)).mono hz0)⟩)
 clear hb
 obtain ⟨W3,hW3,HE⟩:∃ W,w1.alloc (.cells [.int .i64 1,.int .i64 1,.slice (some ⟨W0.heap.size,0,none⟩) 1 1].toArray 159)=W∧Hid (Wh w w.heap.size w1.heap.size W0.heap.size [.int .i64 0,.string s,.int .i64 nm,.int .i64 p,kv] ks kv W):=⟨_,rfl,zh ⟨HX.out.1.alloc _,Blk.new w1 _ _,HX.out.2.1.alloc _,HX.out.2.2.1.below ((Below.refl _ _).alloc (Nat.le_refl _) _),HX.out.2.2.2.alloc HX.out.2.2.2.size _⟩⟩
 have e0:W3.cell? ⟨w.heap.size,0,none⟩=some (.int .i64 0):=HE.out.q.cell 0
 go_wp2_with fail
 have HE4:=zh HE.out.drew
 clear HE
 refine wp_region_held_drew (S:=fun W=>Blk W w.heap.size [.int .i64 0,.string s,.int .i64 nm,.int .i64 p,kv] 25∧Blk W w1.heap.size [.int .i64 1,.int .i64 1,.slice (some ⟨W0.heap.size,0,none⟩) 1 1] 159) (by kernel_rfl) ⟨HE4.out.q,HE4.out.c⟩ (fun hS=>?_)
 generalize W3.drew=W4 at *
 refine wpAnyH_take (i:=0) (oi:=⟨some 10,_,_,_,_,_⟩) (v:=.pointer (some ⟨w.heap.size,4,none⟩)) rfl (by kernel_rfl) (by kernel_rfl) (by kernel_rfl) (fun _ _ _ h=>h) (Or.inl ⟨by rfl,fun W _=>by go_simp⟩) hS ?_
 try simp only [Act.put,List.setIfInBounds_toArray,List.set_cons_zero,List.set_cons_succ]
 refine wpAnyH_take (i:=1) (oi:=⟨some 11,_,_,_,_,_⟩) (v:=kv) rfl (by kernel_rfl) (by kernel_rfl) (by kernel_rfl) (fun _ _ _ h=>h) (Or.inl ⟨by rfl,fun W hW=>by have hcx:W.cell? ⟨w.heap.size,4,none⟩=some kv:=hW.1.cell 4;go_simp⟩) hS ?_
 try simp only [Act.put,List.setIfInBounds_toArray,List.set_cons_zero,List.set_cons_succ]
 clear hS
 refine AnyH.only (i:=2) (o:=⟨some 12,_,_,_,_,_⟩) (by kernel_rfl) rfl (by rfl) (fun K hK=>?_)
 go_simp
 have HE5:=zh (HE4.out.alloc (.cells [.int .i64 1,.int .i64 6].toArray 22))
 have HK0:=zh (Blk.new W4 [.int .i64 1,.int .i64 6] 22)
 refine hK.out _ _ ⟨HE5.out.q,HE5.out.c⟩ ?_
 clear hK K
 try simp only [Act.put,List.setIfInBounds_toArray,List.set_cons_zero,List.set_cons_succ]
 generalize W4.alloc (.cells [.int .i64 1,.int .i64 6].toArray 22)=W5 at *
 refine AnyH.only (i:=3) (o:=⟨some 13,_,_,_,_,_⟩) (by kernel_rfl) rfl (by rfl) (fun K hK=>?_)
 go_simp
 refine (zCa _ _ _).mono ?_
 rintro e W6 ⟨rfl,hb⟩
 have HE6:=zh (HE5.out.call hb)
 have HK0:=zh (HK0.out.stays hb)
 clear hb
 refine hK.out _ _ ⟨HE6.out.q,HE6.out.c⟩ ?_
 clear hK K
 try simp only [Act.put,List.setIfInBounds_toArray,List.set_cons_zero,List.set_cons_succ]
 refine AnyH.only (i:=4) (o:=⟨some 14,_,_,_,_,_⟩) (by kernel_rfl) rfl (by rfl) (fun K hK=>?_)
 go_simp
 have HE7:=zh (HE6.out.alloc (.cells [.int .i64 0,.int .i64 9223372036854775807,.slice (some ⟨W4.heap.size,0,none⟩) 2 2].toArray 159))
 have HK0:=zh (HK0.out.alloc (.cells [.int .i64 0,.int .i64 9223372036854775807,.slice (some ⟨W4.heap.size,0,none⟩) 2 2].toArray 159))
 have HPB:=zh (Blk.new W6 [.int .i64 0,.int .i64 9223372036854775807,.slice (some ⟨W4.heap.size,0,none⟩) 2 2] 159)
 refine hK.out _ _ ⟨HE7.out.q,HE7.out.c⟩ ?_
 clear hK K
 try simp only [Act.put,List.setIfInBounds_toArray,List.set_cons_zero,List.set_cons_succ]
 generalize W6.alloc (.cells [.int .i64 0,.int .i64 9223372036854775807,.slice (some ⟨W4.heap.size,0,none⟩) 2 2].toArray 159)=W7 at *
 refine AnyH.only (i:=5) (o:=⟨some 15,_,_,_,_,_⟩) (by kernel_rfl) rfl (by rfl) (fun K hK=>?_)
 go_simp
 refine (zMa (n:=1) HE7.out.k (zab.of [(⟨0,9223372036854775807,[1,6]⟩,W4.heap.size)] [.int .i64 0,.int .i64 9223372036854775807,.slice (some ⟨W4.heap.size,0,none⟩) 2 2] rfl HPB.out (zfa HK0.out (by decide) zta)) rfl (by decide) hz HF.out).mono ?_
 rintro e W8 ⟨rfl,hb⟩
 have HE8:=zh (HE7.out.call hb)
 clear hb
 refine hK.out _ _ ⟨HE8.out.q,HE8.out.c⟩ ?_
 clear hK K
 try simp only [Act.put,List.setIfInBounds_toArray,List.set_cons_zero,List.set_cons_succ]
 have hS:Blk W8 w.heap.size [.int .i64 0,.string s,.int .i64 nm,.int .i64 p,kv] 25∧Blk W8 w1.heap.size [.int .i64 1,.int .i64 1,.slice (some ⟨W0.heap.size,0,none⟩) 1 1] 159:=⟨HE8.out.q,HE8.out.c⟩
 refine wpAnyH_take (i:=6) (oi:=⟨some 2,_,_,_,_,_⟩) (v:=.bool true) rfl (by kernel_rfl) (by kernel_rfl) (by kernel_rfl) (fun _ _ _ h=>h) (Or.inl ⟨by rfl,fun W _=>by go_simp⟩) hS ?_
 try simp only [Act.put,List.setIfInBounds_toArray,List.set_cons_zero,List.set_cons_succ]
 refine wpAnyH_done (by kernel_rfl) ?_ _
 clear hS
 go_wp2_with fail
 go_ret
 exact ⟨rfl,HE8.out.b⟩
theorem isw_7 {w:World} {s:ByteArray} {nm:Int} {p:Nat} {ks:List T} {S:Nat→Prop} {kv:Value} (hk:KAt 25 w ks S kv) (h:Fit 7 ks) (hz:ks.length≤1000000) :
  Calls Tryz.prog 58 #[.agg #[.int .i64 7,.string s,.int .i64 nm,.int .i64 p,kv]] w fun e w'=>e=.returned (.bool true)∧Below w.heap.size w w':=by
 have HF:=zh (zwj h)
 obtain ⟨W0,hW0,H0⟩:∃ W,w.alloc (.cells [.int .i64 7,.string s,.int .i64 nm,.int .i64 p,kv].toArray 25)=W∧Hid (Blk W w.heap.size [.int .i64 7,.string s,.int .i64 nm,.int .i64 p,kv] 25∧Below w.heap.size w W∧zeb W ks kv):=⟨_,rfl,zh ⟨Blk.new w _ _,(Below.refl _ _).alloc (Nat.le_refl _) _,(zeb.of hk).below ((Below.refl _ _).alloc (Nat.le_refl _) _)⟩⟩
 clear hk h
 go_enter Tryz.func58,Tryz.ntmps58
 go_wp2_with fail
 refine (one_any _ _ _).mono ?_
 rintro e w1 ⟨rfl,hb⟩
 have HX:=zh (show Blk w1 w.heap.size [.int .i64 7,.string s,.int .i64 nm,.int .i64 p,kv] 25∧Blk w1 W0.heap.size [.int .i64 5] 22∧zeb w1 ks kv∧Below w.heap.size w w1 from by
  have h0:=H0.out
  have hz0:=h0.2.1.size
  have ha:Below W0.heap.size W0 (W0.alloc (.cells [.int .i64 5].toArray 22)):=(Below.refl _ _).alloc (Nat.le_refl _) _
  exact ⟨(h0.1.stays ha).stays hb,(Blk.new W0 _ _).stays hb,(h0.2.2.below ha).below hb,h0.2.1.trans ((ha.trans (hb.mono ha.size)).mono hz0)⟩)
 clear hb
 obtain ⟨W3,hW3,HE⟩:∃ W,w1.alloc (.cells [.int .i64 1,.int .i64 1,.slice (some ⟨W0.heap.size,0,none⟩) 1 1].toArray 159)=W∧Hid (Wh w w.heap.size w1.heap.size W0.heap.size [.int .i64 7,.string s,.int .i64 nm,.int .i64 p,kv] ks kv W):=⟨_,rfl,zh ⟨HX.out.1.alloc _,Blk.new w1 _ _,HX.out.2.1.alloc _,HX.out.2.2.1.below ((Below.refl _ _).alloc (Nat.le_refl _) _),HX.out.2.2.2.alloc HX.out.2.2.2.size _⟩⟩
 have e0:W3.cell? ⟨w.heap.size,0,none⟩=some (.int .i64 7):=HE.out.q.cell 0
 go_wp2_with fail
 have HE4:=zh HE.out.drew
 clear HE
 refine wp_region_held_drew (S:=fun W=>Blk W w.heap.size [.int .i64 7,.string s,.int .i64 nm,.int .i64 p,kv] 25∧Blk W w1.heap.size [.int .i64 1,.int .i64 1,.slice (some ⟨W0.heap.size,0,none⟩) 1 1] 159) (by kernel_rfl) ⟨HE4.out.q,HE4.out.c⟩ (fun hS=>?_)
 generalize W3.drew=W4 at *
 refine wpAnyH_take (i:=0) (oi:=⟨some 64,_,_,_,_,_⟩) (v:=.pointer (some ⟨w.heap.size,4,none⟩)) rfl (by kernel_rfl) (by kernel_rfl) (by kernel_rfl) (fun _ _ _ h=>h) (Or.inl ⟨by rfl,fun W _=>by go_simp⟩) hS ?_
 try simp only [Act.put,List.setIfInBounds_toArray,List.set_cons_zero,List.set_cons_succ]
 refine wpAnyH_take (i:=1) (oi:=⟨some 65,_,_,_,_,_⟩) (v:=kv) rfl (by kernel_rfl) (by kernel_rfl) (by kernel_rfl) (fun _ _ _ h=>h) (Or.inl ⟨by rfl,fun W hW=>by have hcx:W.cell? ⟨w.heap.size,4,none⟩=some kv:=hW.1.cell 4;go_simp⟩) hS ?_
 try simp only [Act.put,List.setIfInBounds_toArray,List.set_cons_zero,List.set_cons_succ]
 clear hS
 refine AnyH.only (i:=2) (o:=⟨some 66,_,_,_,_,_⟩) (by kernel_rfl) rfl (by rfl) (fun K hK=>?_)
 go_simp
 have HE5:=zh (HE4.out.alloc (.cells [.int .i64 8].toArray 22))
 have HK0:=zh (Blk.new W4 [.int .i64 8] 22)
 refine hK.out _ _ ⟨HE5.out.q,HE5.out.c⟩ ?_
 clear hK K
 try simp only [Act.put,List.setIfInBounds_toArray,List.set_cons_zero,List.set_cons_succ]
 generalize W4.alloc (.cells [.int .i64 8].toArray 22)=W5 at *
 refine AnyH.only (i:=3) (o:=⟨some 67,_,_,_,_,_⟩) (by kernel_rfl) rfl (by rfl) (fun K hK=>?_)
 go_simp
 refine (one_any _ _ _).mono ?_
 rintro e W6 ⟨rfl,hb⟩
 have HE6:=zh (HE5.out.call hb)
 have HK0:=zh (HK0.out.stays hb)
 clear hb
 refine hK.out _ _ ⟨HE6.out.q,HE6.out.c⟩ ?_
 clear hK K
 try simp only [Act.put,List.setIfInBounds_toArray,List.set_cons_zero,List.set_cons_succ]
 refine AnyH.only (i:=4) (o:=⟨some 68,_,_,_,_,_⟩) (by kernel_rfl) rfl (by rfl) (fun K hK=>?_)
 go_simp
 have HE7:=zh (HE6.out.alloc (.cells [.int .i64 1,.int .i64 1,.slice (some ⟨W4.heap.size,0,none⟩) 1 1].toArray 159))
 have HK0:=zh (HK0.out.alloc (.cells [.int .i64 1,.int .i64 1,.slice (some ⟨W4.heap.size,0,none⟩) 1 1].toArray 159))
 have HPB:=zh (Blk.new W6 [.int .i64 1,.int .i64 1,.slice (some ⟨W4.heap.size,0,none⟩) 1 1] 159)
 refine hK.out _ _ ⟨HE7.out.q,HE7.out.c⟩ ?_
 clear hK K
 try simp only [Act.put,List.setIfInBounds_toArray,List.set_cons_zero,List.set_cons_succ]
 generalize W6.alloc (.cells [.int .i64 1,.int .i64 1,.slice (some ⟨W4.heap.size,0,none⟩) 1 1].toArray 159)=W7 at *
 refine AnyH.only (i:=5) (o:=⟨some 69,_,_,_,_,_⟩) (by kernel_rfl) rfl (by rfl) (fun K hK=>?_)
 go_simp
 refine (zMa (n:=1) HE7.out.k (zab.of [(⟨1,1,[8]⟩,W4.heap.size)] [.int .i64 1,.int .i64 1,.slice (some ⟨W4.heap.size,0,none⟩) 1 1] rfl HPB.out (zfa HK0.out (by decide) zta)) rfl (by decide) hz HF.out).mono ?_
 rintro e W8 ⟨rfl,hb⟩
 have HE8:=zh (HE7.out.call hb)
 clear hb
 refine hK.out _ _ ⟨HE8.out.q,HE8.out.c⟩ ?_
 clear hK K
 try simp only [Act.put,List.setIfInBounds_toArray,List.set_cons_zero,List.set_cons_succ]
 have hS:Blk W8 w.heap.size [.int .i64 7,.string s,.int .i64 nm,.int .i64 p,kv] 25∧Blk W8 w1.heap.size [.int .i64 1,.int .i64 1,.slice (some ⟨W0.heap.size,0,none⟩) 1 1] 159:=⟨HE8.out.q,HE8.out.c⟩
 refine wpAnyH_take (i:=6) (oi:=⟨some 2,_,_,_,_,_⟩) (v:=.bool true) rfl (by kernel_rfl) (by kernel_rfl) (by kernel_rfl) (fun _ _ _ h=>h) (Or.inl ⟨by rfl,fun W _=>by go_simp⟩) hS ?_
 try simp only [Act.put,List.setIfInBounds_toArray,List.set_cons_zero,List.set_cons_succ]
 refine wpAnyH_done (by kernel_rfl) ?_ _
 clear hS
 go_wp2_with fail
 go_ret
 exact ⟨rfl,HE8.out.b⟩
theorem isw_9 {w:World} {s:ByteArray} {nm:Int} {p:Nat} {ks:List T} {S:Nat→Prop} {kv:Value} (hk:KAt 25 w ks S kv) (h:Fit 9 ks) (hz:ks.length≤1000000) :
  Calls Tryz.prog 58 #[.agg #[.int .i64 9,.string s,.int .i64 nm,.int .i64 p,kv]] w fun e w'=>e=.returned (.bool true)∧Below w.heap.size w w':=by
 have HF:=zh (zPj h hz)
 obtain ⟨W0,hW0,H0⟩:∃ W,w.alloc (.cells [.int .i64 9,.string s,.int .i64 nm,.int .i64 p,kv].toArray 25)=W∧Hid (Blk W w.heap.size [.int .i64 9,.string s,.int .i64 nm,.int .i64 p,kv] 25∧Below w.heap.size w W∧zeb W ks kv):=⟨_,rfl,zh ⟨Blk.new w _ _,(Below.refl _ _).alloc (Nat.le_refl _) _,(zeb.of hk).below ((Below.refl _ _).alloc (Nat.le_refl _) _)⟩⟩
 clear hk h
 go_enter Tryz.func58,Tryz.ntmps58
 go_wp2_with fail
 refine (one_any _ _ _).mono ?_
 rintro e w1 ⟨rfl,hb⟩
 have HX:=zh (show Blk w1 w.heap.size [.int .i64 9,.string s,.int .i64 nm,.int .i64 p,kv] 25∧Blk w1 W0.heap.size [.int .i64 5] 22∧zeb w1 ks kv∧Below w.heap.size w w1 from by
  have h0:=H0.out
  have hz0:=h0.2.1.size
  have ha:Below W0.heap.size W0 (W0.alloc (.cells [.int .i64 5].toArray 22)):=(Below.refl _ _).alloc (Nat.le_refl _) _
  exact ⟨(h0.1.stays ha).stays hb,(Blk.new W0 _ _).stays hb,(h0.2.2.below ha).below hb,h0.2.1.trans ((ha.trans (hb.mono ha.size)).mono hz0)⟩)
 clear hb
 obtain ⟨W3,hW3,HE⟩:∃ W,w1.alloc (.cells [.int .i64 1,.int .i64 1,.slice (some ⟨W0.heap.size,0,none⟩) 1 1].toArray 159)=W∧Hid (Wh w w.heap.size w1.heap.size W0.heap.size [.int .i64 9,.string s,.int .i64 nm,.int .i64 p,kv] ks kv W):=⟨_,rfl,zh ⟨HX.out.1.alloc _,Blk.new w1 _ _,HX.out.2.1.alloc _,HX.out.2.2.1.below ((Below.refl _ _).alloc (Nat.le_refl _) _),HX.out.2.2.2.alloc HX.out.2.2.2.size _⟩⟩
 have e0:W3.cell? ⟨w.heap.size,0,none⟩=some (.int .i64 9):=HE.out.q.cell 0
 go_wp2_with fail
 have HE4:=zh HE.out.drew
 clear HE
 refine wp_region_held_drew (S:=fun W=>Blk W w.heap.size [.int .i64 9,.string s,.int .i64 nm,.int .i64 p,kv] 25∧Blk W w1.heap.size [.int .i64 1,.int .i64 1,.slice (some ⟨W0.heap.size,0,none⟩) 1 1] 159) (by kernel_rfl) ⟨HE4.out.q,HE4.out.c⟩ (fun hS=>?_)
 generalize W3.drew=W4 at *
 refine wpAnyH_take (i:=0) (oi:=⟨some 72,_,_,_,_,_⟩) (v:=.pointer (some ⟨w.heap.size,4,none⟩)) rfl (by kernel_rfl) (by kernel_rfl) (by kernel_rfl) (fun _ _ _ h=>h) (Or.inl ⟨by rfl,fun W _=>by go_simp⟩) hS ?_
 try simp only [Act.put,List.setIfInBounds_toArray,List.set_cons_zero,List.set_cons_succ]
 refine wpAnyH_take (i:=1) (oi:=⟨some 73,_,_,_,_,_⟩) (v:=kv) rfl (by kernel_rfl) (by kernel_rfl) (by kernel_rfl) (fun _ _ _ h=>h) (Or.inl ⟨by rfl,fun W hW=>by have hcx:W.cell? ⟨w.heap.size,4,none⟩=some kv:=hW.1.cell 4;go_simp⟩) hS ?_
 try simp only [Act.put,List.setIfInBounds_toArray,List.set_cons_zero,List.set_cons_succ]
 clear hS
 refine AnyH.only (i:=2) (o:=⟨some 74,_,_,_,_,_⟩) (by kernel_rfl) rfl (by rfl) (fun K hK=>?_)
 go_simp
 have HE5:=zh (HE4.out.alloc (.cells [.int .i64 10,.int .i64 11,.int .i64 12,.int .i64 13,.int .i64 14,.int .i64 15,.int .i64 16,.int .i64 17,.int .i64 18,.int .i64 19,.int .i64 20].toArray 22))
 have HK0:=zh (Blk.new W4 [.int .i64 10,.int .i64 11,.int .i64 12,.int .i64 13,.int .i64 14,.int .i64 15,.int .i64 16,.int .i64 17,.int .i64 18,.int .i64 19,.int .i64 20] 22)
 refine hK.out _ _ ⟨HE5.out.q,HE5.out.c⟩ ?_
 clear hK K
 try simp only [Act.put,List.setIfInBounds_toArray,List.set_cons_zero,List.set_cons_succ]
 generalize W4.alloc (.cells [.int .i64 10,.int .i64 11,.int .i64 12,.int .i64 13,.int .i64 14,.int .i64 15,.int .i64 16,.int .i64 17,.int .i64 18,.int .i64 19,.int .i64 20].toArray 22)=W5 at *
 refine AnyH.only (i:=3) (o:=⟨some 75,_,_,_,_,_⟩) (by kernel_rfl) rfl (by rfl) (fun K hK=>?_)
 go_simp
 refine (zCa _ _ _).mono ?_
 rintro e W6 ⟨rfl,hb⟩
 have HE6:=zh (HE5.out.call hb)
 have HK0:=zh (HK0.out.stays hb)
 clear hb
 refine hK.out _ _ ⟨HE6.out.q,HE6.out.c⟩ ?_
 clear hK K
 try simp only [Act.put,List.setIfInBounds_toArray,List.set_cons_zero,List.set_cons_succ]
 refine AnyH.only (i:=4) (o:=⟨some 76,_,_,_,_,_⟩) (by kernel_rfl) rfl (by rfl) (fun K hK=>?_)
 go_simp
 have HE7:=zh (HE6.out.alloc (.cells [.int .i64 0,.int .i64 9223372036854775807,.slice (some ⟨W4.heap.size,0,none⟩) 11 11].toArray 159))
 have HK0:=zh (HK0.out.alloc (.cells [.int .i64 0,.int .i64 9223372036854775807,.slice (some ⟨W4.heap.size,0,none⟩) 11 11].toArray 159))
 have HPB:=zh (Blk.new W6 [.int .i64 0,.int .i64 9223372036854775807,.slice (some ⟨W4.heap.size,0,none⟩) 11 11] 159)
 refine hK.out _ _ ⟨HE7.out.q,HE7.out.c⟩ ?_
 clear hK K
 try simp only [Act.put,List.setIfInBounds_toArray,List.set_cons_zero,List.set_cons_succ]
 generalize W6.alloc (.cells [.int .i64 0,.int .i64 9223372036854775807,.slice (some ⟨W4.heap.size,0,none⟩) 11 11].toArray 159)=W7 at *
 refine AnyH.only (i:=5) (o:=⟨some 77,_,_,_,_,_⟩) (by kernel_rfl) rfl (by rfl) (fun K hK=>?_)
 go_simp
 refine (zMa (n:=1) HE7.out.k (zab.of [(⟨0,9223372036854775807,[10,11,12,13,14,15,16,17,18,19,20]⟩,W4.heap.size)] [.int .i64 0,.int .i64 9223372036854775807,.slice (some ⟨W4.heap.size,0,none⟩) 11 11] rfl HPB.out (zfa HK0.out (by decide) zta)) rfl (by decide) hz HF.out).mono ?_
 rintro e W8 ⟨rfl,hb⟩
 have HE8:=zh (HE7.out.call hb)
 clear hb
 refine hK.out _ _ ⟨HE8.out.q,HE8.out.c⟩ ?_
 clear hK K
 try simp only [Act.put,List.setIfInBounds_toArray,List.set_cons_zero,List.set_cons_succ]
 have hS:Blk W8 w.heap.size [.int .i64 9,.string s,.int .i64 nm,.int .i64 p,kv] 25∧Blk W8 w1.heap.size [.int .i64 1,.int .i64 1,.slice (some ⟨W0.heap.size,0,none⟩) 1 1] 159:=⟨HE8.out.q,HE8.out.c⟩
 refine wpAnyH_take (i:=6) (oi:=⟨some 2,_,_,_,_,_⟩) (v:=.bool true) rfl (by kernel_rfl) (by kernel_rfl) (by kernel_rfl) (fun _ _ _ h=>h) (Or.inl ⟨by rfl,fun W _=>by go_simp⟩) hS ?_
 try simp only [Act.put,List.setIfInBounds_toArray,List.set_cons_zero,List.set_cons_succ]
 refine wpAnyH_done (by kernel_rfl) ?_ _
 clear hS
 go_wp2_with fail
 go_ret
 exact ⟨rfl,HE8.out.b⟩
theorem zRr {w:World} {s:ByteArray} {nm:Int} {p:Nat} {ks:List T} {S:Nat→Prop} {kv:Value} (hk:KAt 25 w ks S kv) (h:Fit 10 ks) (hz:ks.length≤1000000) :
  Calls Tryz.prog 58 #[.agg #[.int .i64 10,.string s,.int .i64 nm,.int .i64 p,kv]] w fun e w'=>e=.returned (.bool true)∧Below w.heap.size w w':=by
 have HF:=zh (zej h)
 obtain ⟨W0,hW0,H0⟩:∃ W,w.alloc (.cells [.int .i64 10,.string s,.int .i64 nm,.int .i64 p,kv].toArray 25)=W∧Hid (Blk W w.heap.size [.int .i64 10,.string s,.int .i64 nm,.int .i64 p,kv] 25∧Below w.heap.size w W∧zeb W ks kv):=⟨_,rfl,zh ⟨Blk.new w _ _,(Below.refl _ _).alloc (Nat.le_refl _) _,(zeb.of hk).below ((Below.refl _ _).alloc (Nat.le_refl _) _)⟩⟩
 clear hk h
 go_enter Tryz.func58,Tryz.ntmps58
 go_wp2_with fail
 refine (one_any _ _ _).mono ?_
 rintro e w1 ⟨rfl,hb⟩
 have HX:=zh (show Blk w1 w.heap.size [.int .i64 10,.string s,.int .i64 nm,.int .i64 p,kv] 25∧Blk w1 W0.heap.size [.int .i64 5] 22∧zeb w1 ks kv∧Below w.heap.size w w1 from by
  have h0:=H0.out
  have hz0:=h0.2.1.size
  have ha:Below W0.heap.size W0 (W0.alloc (.cells [.int .i64 5].toArray 22)):=(Below.refl _ _).alloc (Nat.le_refl _) _
  exact ⟨(h0.1.stays ha).stays hb,(Blk.new W0 _ _).stays hb,(h0.2.2.below ha).below hb,h0.2.1.trans ((ha.trans (hb.mono ha.size)).mono hz0)⟩)
 clear hb
 obtain ⟨W3,hW3,HE⟩:∃ W,w1.alloc (.cells [.int .i64 1,.int .i64 1,.slice (some ⟨W0.heap.size,0,none⟩) 1 1].toArray 159)=W∧Hid (Wh w w.heap.size w1.heap.size W0.heap.size [.int .i64 10,.string s,.int .i64 nm,.int .i64 p,kv] ks kv W):=⟨_,rfl,zh ⟨HX.out.1.alloc _,Blk.new w1 _ _,HX.out.2.1.alloc _,HX.out.2.2.1.below ((Below.refl _ _).alloc (Nat.le_refl _) _),HX.out.2.2.2.alloc HX.out.2.2.2.size _⟩⟩
 have e0:W3.cell? ⟨w.heap.size,0,none⟩=some (.int .i64 10):=HE.out.q.cell 0
 go_wp2_with fail
 have HE4:=zh HE.out.drew
 clear HE
 refine wp_region_held_drew (S:=fun W=>Blk W w.heap.size [.int .i64 10,.string s,.int .i64 nm,.int .i64 p,kv] 25∧Blk W w1.heap.size [.int .i64 1,.int .i64 1,.slice (some ⟨W0.heap.size,0,none⟩) 1 1] 159) (by kernel_rfl) ⟨HE4.out.q,HE4.out.c⟩ (fun hS=>?_)
 generalize W3.drew=W4 at *
 refine wpAnyH_take (i:=0) (oi:=⟨some 80,_,_,_,_,_⟩) (v:=.pointer (some ⟨w.heap.size,4,none⟩)) rfl (by kernel_rfl) (by kernel_rfl) (by kernel_rfl) (fun _ _ _ h=>h) (Or.inl ⟨by rfl,fun W _=>by go_simp⟩) hS ?_
 try simp only [Act.put,List.setIfInBounds_toArray,List.set_cons_zero,List.set_cons_succ]
 refine wpAnyH_take (i:=1) (oi:=⟨some 81,_,_,_,_,_⟩) (v:=kv) rfl (by kernel_rfl) (by kernel_rfl) (by kernel_rfl) (fun _ _ _ h=>h) (Or.inl ⟨by rfl,fun W hW=>by have hcx:W.cell? ⟨w.heap.size,4,none⟩=some kv:=hW.1.cell 4;go_simp⟩) hS ?_
 try simp only [Act.put,List.setIfInBounds_toArray,List.set_cons_zero,List.set_cons_succ]
 clear hS
 refine AnyH.only (i:=2) (o:=⟨some 82,_,_,_,_,_⟩) (by kernel_rfl) rfl (by rfl) (fun K hK=>?_)
 go_simp
 have HE5:=zh (HE4.out.alloc (.cells [.int .i64 5,.int .i64 21,.int .i64 22,.int .i64 23,.int .i64 24,.int .i64 25,.int .i64 26,.int .i64 27,.int .i64 28].toArray 22))
 have HK0:=zh (Blk.new W4 [.int .i64 5,.int .i64 21,.int .i64 22,.int .i64 23,.int .i64 24,.int .i64 25,.int .i64 26,.int .i64 27,.int .i64 28] 22)
 refine hK.out _ _ ⟨HE5.out.q,HE5.out.c⟩ ?_
 clear hK K
 try simp only [Act.put,List.setIfInBounds_toArray,List.set_cons_zero,List.set_cons_succ]
 generalize W4.alloc (.cells [.int .i64 5,.int .i64 21,.int .i64 22,.int .i64 23,.int .i64 24,.int .i64 25,.int .i64 26,.int .i64 27,.int .i64 28].toArray 22)=W5 at *
 refine AnyH.only (i:=3) (o:=⟨some 83,_,_,_,_,_⟩) (by kernel_rfl) rfl (by rfl) (fun K hK=>?_)
 go_simp
 refine (one_any _ _ _).mono ?_
 rintro e W6 ⟨rfl,hb⟩
 have HE6:=zh (HE5.out.call hb)
 have HK0:=zh (HK0.out.stays hb)
 clear hb
 refine hK.out _ _ ⟨HE6.out.q,HE6.out.c⟩ ?_
 clear hK K
 try simp only [Act.put,List.setIfInBounds_toArray,List.set_cons_zero,List.set_cons_succ]
 refine AnyH.only (i:=4) (o:=⟨some 84,_,_,_,_,_⟩) (by kernel_rfl) rfl (by rfl) (fun K hK=>?_)
 go_simp
 have HE7:=zh (HE6.out.alloc (.cells [.int .i64 1,.int .i64 1,.slice (some ⟨W4.heap.size,0,none⟩) 9 9].toArray 159))
 have HK0:=zh (HK0.out.alloc (.cells [.int .i64 1,.int .i64 1,.slice (some ⟨W4.heap.size,0,none⟩) 9 9].toArray 159))
 have HPB:=zh (Blk.new W6 [.int .i64 1,.int .i64 1,.slice (some ⟨W4.heap.size,0,none⟩) 9 9] 159)
 refine hK.out _ _ ⟨HE7.out.q,HE7.out.c⟩ ?_
 clear hK K
 try simp only [Act.put,List.setIfInBounds_toArray,List.set_cons_zero,List.set_cons_succ]
 generalize W6.alloc (.cells [.int .i64 1,.int .i64 1,.slice (some ⟨W4.heap.size,0,none⟩) 9 9].toArray 159)=W7 at *
 refine AnyH.only (i:=5) (o:=⟨some 85,_,_,_,_,_⟩) (by kernel_rfl) rfl (by rfl) (fun K hK=>?_)
 go_simp
 refine (zMa (n:=1) HE7.out.k (zab.of [(⟨1,1,[5,21,22,23,24,25,26,27,28]⟩,W4.heap.size)] [.int .i64 1,.int .i64 1,.slice (some ⟨W4.heap.size,0,none⟩) 9 9] rfl HPB.out (zfa HK0.out (by decide) zta)) rfl (by decide) hz HF.out).mono ?_
 rintro e W8 ⟨rfl,hb⟩
 have HE8:=zh (HE7.out.call hb)
 clear hb
 refine hK.out _ _ ⟨HE8.out.q,HE8.out.c⟩ ?_
 clear hK K
 try simp only [Act.put,List.setIfInBounds_toArray,List.set_cons_zero,List.set_cons_succ]
 have hS:Blk W8 w.heap.size [.int .i64 10,.string s,.int .i64 nm,.int .i64 p,kv] 25∧Blk W8 w1.heap.size [.int .i64 1,.int .i64 1,.slice (some ⟨W0.heap.size,0,none⟩) 1 1] 159:=⟨HE8.out.q,HE8.out.c⟩
 refine wpAnyH_take (i:=6) (oi:=⟨some 2,_,_,_,_,_⟩) (v:=.bool true) rfl (by kernel_rfl) (by kernel_rfl) (by kernel_rfl) (fun _ _ _ h=>h) (Or.inl ⟨by rfl,fun W _=>by go_simp⟩) hS ?_
 try simp only [Act.put,List.setIfInBounds_toArray,List.set_cons_zero,List.set_cons_succ]
 refine wpAnyH_done (by kernel_rfl) ?_ _
 clear hS
 go_wp2_with fail
 go_ret
 exact ⟨rfl,HE8.out.b⟩
theorem zEr {w:World} {s:ByteArray} {nm:Int} {p:Nat} {ks:List T} {S:Nat→Prop} {kv:Value} (hk:KAt 25 w ks S kv) (h:Fit 19 ks) (hz:ks.length≤1000000) :
  Calls Tryz.prog 58 #[.agg #[.int .i64 19,.string s,.int .i64 nm,.int .i64 p,kv]] w fun e w'=>e=.returned (.bool true)∧Below w.heap.size w w':=by
 have HF:=zh (zQe h (by omega) hz)
 obtain ⟨W0,hW0,H0⟩:∃ W,w.alloc (.cells [.int .i64 19,.string s,.int .i64 nm,.int .i64 p,kv].toArray 25)=W∧Hid (Blk W w.heap.size [.int .i64 19,.string s,.int .i64 nm,.int .i64 p,kv] 25∧Below w.heap.size w W∧zeb W ks kv):=⟨_,rfl,zh ⟨Blk.new w _ _,(Below.refl _ _).alloc (Nat.le_refl _) _,(zeb.of hk).below ((Below.refl _ _).alloc (Nat.le_refl _) _)⟩⟩
 clear hk h
 go_enter Tryz.func58,Tryz.ntmps58
 go_wp2_with fail
 refine (one_any _ _ _).mono ?_
 rintro e w1 ⟨rfl,hb⟩
 have HX:=zh (show Blk w1 w.heap.size [.int .i64 19,.string s,.int .i64 nm,.int .i64 p,kv] 25∧Blk w1 W0.heap.size [.int .i64 5] 22∧zeb w1 ks kv∧Below w.heap.size w w1 from by
  have h0:=H0.out
  have hz0:=h0.2.1.size
  have ha:Below W0.heap.size W0 (W0.alloc (.cells [.int .i64 5].toArray 22)):=(Below.refl _ _).alloc (Nat.le_refl _) _
  exact ⟨(h0.1.stays ha).stays hb,(Blk.new W0 _ _).stays hb,(h0.2.2.below ha).below hb,h0.2.1.trans ((ha.trans (hb.mono ha.size)).mono hz0)⟩)
 clear hb
 obtain ⟨W3,hW3,HE⟩:∃ W,w1.alloc (.cells [.int .i64 1,.int .i64 1,.slice (some ⟨W0.heap.size,0,none⟩) 1 1].toArray 159)=W∧Hid (Wh w w.heap.size w1.heap.size W0.heap.size [.int .i64 19,.string s,.int .i64 nm,.int .i64 p,kv] ks kv W):=⟨_,rfl,zh ⟨HX.out.1.alloc _,Blk.new w1 _ _,HX.out.2.1.alloc _,HX.out.2.2.1.below ((Below.refl _ _).alloc (Nat.le_refl _) _),HX.out.2.2.2.alloc HX.out.2.2.2.size _⟩⟩
 have e0:W3.cell? ⟨w.heap.size,0,none⟩=some (.int .i64 19):=HE.out.q.cell 0
 go_wp2_with fail
 have HE4:=zh HE.out.drew
 clear HE
 refine wp_region_held_drew (S:=fun W=>Blk W w.heap.size [.int .i64 19,.string s,.int .i64 nm,.int .i64 p,kv] 25∧Blk W w1.heap.size [.int .i64 1,.int .i64 1,.slice (some ⟨W0.heap.size,0,none⟩) 1 1] 159) (by kernel_rfl) ⟨HE4.out.q,HE4.out.c⟩ (fun hS=>?_)
 generalize W3.drew=W4 at *
 refine wpAnyH_take (i:=0) (oi:=⟨some 126,_,_,_,_,_⟩) (v:=.pointer (some ⟨w.heap.size,4,none⟩)) rfl (by kernel_rfl) (by kernel_rfl) (by kernel_rfl) (fun _ _ _ h=>h) (Or.inl ⟨by rfl,fun W _=>by go_simp⟩) hS ?_
 try simp only [Act.put,List.setIfInBounds_toArray,List.set_cons_zero,List.set_cons_succ]
 refine wpAnyH_take (i:=1) (oi:=⟨some 127,_,_,_,_,_⟩) (v:=kv) rfl (by kernel_rfl) (by kernel_rfl) (by kernel_rfl) (fun _ _ _ h=>h) (Or.inl ⟨by rfl,fun W hW=>by have hcx:W.cell? ⟨w.heap.size,4,none⟩=some kv:=hW.1.cell 4;go_simp⟩) hS ?_
 try simp only [Act.put,List.setIfInBounds_toArray,List.set_cons_zero,List.set_cons_succ]
 clear hS
 refine AnyH.only (i:=2) (o:=⟨some 128,_,_,_,_,_⟩) (by kernel_rfl) rfl (by rfl) (fun K hK=>?_)
 go_simp
 have HE5:=zh (HE4.out.alloc (.cells [.int .i64 5].toArray 22))
 have HK0:=zh (Blk.new W4 [.int .i64 5] 22)
 refine hK.out _ _ ⟨HE5.out.q,HE5.out.c⟩ ?_
 clear hK K
 try simp only [Act.put,List.setIfInBounds_toArray,List.set_cons_zero,List.set_cons_succ]
 generalize W4.alloc (.cells [.int .i64 5].toArray 22)=W5 at *
 refine AnyH.only (i:=3) (o:=⟨some 129,_,_,_,_,_⟩) (by kernel_rfl) rfl (by rfl) (fun K hK=>?_)
 go_simp
 refine (zCa _ _ _).mono ?_
 rintro e W6 ⟨rfl,hb⟩
 have HE6:=zh (HE5.out.call hb)
 have HK0:=zh (HK0.out.stays hb)
 clear hb
 refine hK.out _ _ ⟨HE6.out.q,HE6.out.c⟩ ?_
 clear hK K
 try simp only [Act.put,List.setIfInBounds_toArray,List.set_cons_zero,List.set_cons_succ]
 refine AnyH.only (i:=4) (o:=⟨some 130,_,_,_,_,_⟩) (by kernel_rfl) rfl (by rfl) (fun K hK=>?_)
 go_simp
 have HE7:=zh (HE6.out.alloc (.cells [.int .i64 0,.int .i64 9223372036854775807,.slice (some ⟨W4.heap.size,0,none⟩) 1 1].toArray 159))
 have HK0:=zh (HK0.out.alloc (.cells [.int .i64 0,.int .i64 9223372036854775807,.slice (some ⟨W4.heap.size,0,none⟩) 1 1].toArray 159))
 have HPB:=zh (Blk.new W6 [.int .i64 0,.int .i64 9223372036854775807,.slice (some ⟨W4.heap.size,0,none⟩) 1 1] 159)
 refine hK.out _ _ ⟨HE7.out.q,HE7.out.c⟩ ?_
 clear hK K
 try simp only [Act.put,List.setIfInBounds_toArray,List.set_cons_zero,List.set_cons_succ]
 generalize W6.alloc (.cells [.int .i64 0,.int .i64 9223372036854775807,.slice (some ⟨W4.heap.size,0,none⟩) 1 1].toArray 159)=W7 at *
 refine AnyH.only (i:=5) (o:=⟨some 131,_,_,_,_,_⟩) (by kernel_rfl) rfl (by rfl) (fun K hK=>?_)
 go_simp
 refine (zMa (n:=1) HE7.out.k (zab.of [(⟨0,9223372036854775807,[5]⟩,W4.heap.size)] [.int .i64 0,.int .i64 9223372036854775807,.slice (some ⟨W4.heap.size,0,none⟩) 1 1] rfl HPB.out (zfa HK0.out (by decide) zta)) rfl (by decide) hz HF.out).mono ?_
 rintro e W8 ⟨rfl,hb⟩
 have HE8:=zh (HE7.out.call hb)
 clear hb
 refine hK.out _ _ ⟨HE8.out.q,HE8.out.c⟩ ?_
 clear hK K
 try simp only [Act.put,List.setIfInBounds_toArray,List.set_cons_zero,List.set_cons_succ]
 have hS:Blk W8 w.heap.size [.int .i64 19,.string s,.int .i64 nm,.int .i64 p,kv] 25∧Blk W8 w1.heap.size [.int .i64 1,.int .i64 1,.slice (some ⟨W0.heap.size,0,none⟩) 1 1] 159:=⟨HE8.out.q,HE8.out.c⟩
 refine wpAnyH_take (i:=6) (oi:=⟨some 2,_,_,_,_,_⟩) (v:=.bool true) rfl (by kernel_rfl) (by kernel_rfl) (by kernel_rfl) (fun _ _ _ h=>h) (Or.inl ⟨by rfl,fun W _=>by go_simp⟩) hS ?_
 try simp only [Act.put,List.setIfInBounds_toArray,List.set_cons_zero,List.set_cons_succ]
 refine wpAnyH_done (by kernel_rfl) ?_ _
 clear hS
 go_wp2_with fail
 go_ret
 exact ⟨rfl,HE8.out.b⟩
theorem zqr {w:World} {s:ByteArray} {nm:Int} {p:Nat} {ks:List T} {S:Nat→Prop} {kv:Value} (hk:KAt 25 w ks S kv) (h:Fit 20 ks) (hz:ks.length≤1000000) :
  Calls Tryz.prog 58 #[.agg #[.int .i64 20,.string s,.int .i64 nm,.int .i64 p,kv]] w fun e w'=>e=.returned (.bool true)∧Below w.heap.size w w':=by
 have HF:=zh (zpj h)
 obtain ⟨W0,hW0,H0⟩:∃ W,w.alloc (.cells [.int .i64 20,.string s,.int .i64 nm,.int .i64 p,kv].toArray 25)=W∧Hid (Blk W w.heap.size [.int .i64 20,.string s,.int .i64 nm,.int .i64 p,kv] 25∧Below w.heap.size w W∧zeb W ks kv):=⟨_,rfl,zh ⟨Blk.new w _ _,(Below.refl _ _).alloc (Nat.le_refl _) _,(zeb.of hk).below ((Below.refl _ _).alloc (Nat.le_refl _) _)⟩⟩
 clear hk h
 go_enter Tryz.func58,Tryz.ntmps58
 go_wp2_with fail
 refine (one_any _ _ _).mono ?_
 rintro e w1 ⟨rfl,hb⟩
 have HX:=zh (show Blk w1 w.heap.size [.int .i64 20,.string s,.int .i64 nm,.int .i64 p,kv] 25∧Blk w1 W0.heap.size [.int .i64 5] 22∧zeb w1 ks kv∧Below w.heap.size w w1 from by
  have h0:=H0.out
  have hz0:=h0.2.1.size
  have ha:Below W0.heap.size W0 (W0.alloc (.cells [.int .i64 5].toArray 22)):=(Below.refl _ _).alloc (Nat.le_refl _) _
  exact ⟨(h0.1.stays ha).stays hb,(Blk.new W0 _ _).stays hb,(h0.2.2.below ha).below hb,h0.2.1.trans ((ha.trans (hb.mono ha.size)).mono hz0)⟩)
 clear hb
 obtain ⟨W3,hW3,HE⟩:∃ W,w1.alloc (.cells [.int .i64 1,.int .i64 1,.slice (some ⟨W0.heap.size,0,none⟩) 1 1].toArray 159)=W∧Hid (Wh w w.heap.size w1.heap.size W0.heap.size [.int .i64 20,.string s,.int .i64 nm,.int .i64 p,kv] ks kv W):=⟨_,rfl,zh ⟨HX.out.1.alloc _,Blk.new w1 _ _,HX.out.2.1.alloc _,HX.out.2.2.1.below ((Below.refl _ _).alloc (Nat.le_refl _) _),HX.out.2.2.2.alloc HX.out.2.2.2.size _⟩⟩
 have e0:W3.cell? ⟨w.heap.size,0,none⟩=some (.int .i64 20):=HE.out.q.cell 0
 go_wp2_with fail
 have HE4:=zh HE.out.drew
 clear HE
 refine wp_region_held_drew (S:=fun W=>Blk W w.heap.size [.int .i64 20,.string s,.int .i64 nm,.int .i64 p,kv] 25∧Blk W w1.heap.size [.int .i64 1,.int .i64 1,.slice (some ⟨W0.heap.size,0,none⟩) 1 1] 159) (by kernel_rfl) ⟨HE4.out.q,HE4.out.c⟩ (fun hS=>?_)
 generalize W3.drew=W4 at *
 refine wpAnyH_take (i:=0) (oi:=⟨some 110,_,_,_,_,_⟩) (v:=.pointer (some ⟨w.heap.size,4,none⟩)) rfl (by kernel_rfl) (by kernel_rfl) (by kernel_rfl) (fun _ _ _ h=>h) (Or.inl ⟨by rfl,fun W _=>by go_simp⟩) hS ?_
 try simp only [Act.put,List.setIfInBounds_toArray,List.set_cons_zero,List.set_cons_succ]
 refine wpAnyH_take (i:=1) (oi:=⟨some 111,_,_,_,_,_⟩) (v:=kv) rfl (by kernel_rfl) (by kernel_rfl) (by kernel_rfl) (fun _ _ _ h=>h) (Or.inl ⟨by rfl,fun W hW=>by have hcx:W.cell? ⟨w.heap.size,4,none⟩=some kv:=hW.1.cell 4;go_simp⟩) hS ?_
 try simp only [Act.put,List.setIfInBounds_toArray,List.set_cons_zero,List.set_cons_succ]
 clear hS
 refine AnyH.only (i:=2) (o:=⟨some 112,_,_,_,_,_⟩) (by kernel_rfl) rfl (by rfl) (fun K hK=>?_)
 go_simp
 have HE5:=zh (HE4.out.alloc (.cells [.int .i64 28].toArray 22))
 have HK0:=zh (Blk.new W4 [.int .i64 28] 22)
 refine hK.out _ _ ⟨HE5.out.q,HE5.out.c⟩ ?_
 clear hK K
 try simp only [Act.put,List.setIfInBounds_toArray,List.set_cons_zero,List.set_cons_succ]
 generalize W4.alloc (.cells [.int .i64 28].toArray 22)=W5 at *
 refine AnyH.only (i:=3) (o:=⟨some 113,_,_,_,_,_⟩) (by kernel_rfl) rfl (by rfl) (fun K hK=>?_)
 go_simp
 refine (one_any _ _ _).mono ?_
 rintro e W6 ⟨rfl,hb⟩
 have HE6:=zh (HE5.out.call hb)
 have HK0:=zh (HK0.out.stays hb)
 clear hb
 refine hK.out _ _ ⟨HE6.out.q,HE6.out.c⟩ ?_
 clear hK K
 try simp only [Act.put,List.setIfInBounds_toArray,List.set_cons_zero,List.set_cons_succ]
 refine AnyH.only (i:=4) (o:=⟨some 114,_,_,_,_,_⟩) (by kernel_rfl) rfl (by rfl) (fun K hK=>?_)
 go_simp
 have HE7:=zh (HE6.out.alloc (.cells [.int .i64 1,.int .i64 1,.slice (some ⟨W4.heap.size,0,none⟩) 1 1].toArray 159))
 have HK0:=zh (HK0.out.alloc (.cells [.int .i64 1,.int .i64 1,.slice (some ⟨W4.heap.size,0,none⟩) 1 1].toArray 159))
 have HPB:=zh (Blk.new W6 [.int .i64 1,.int .i64 1,.slice (some ⟨W4.heap.size,0,none⟩) 1 1] 159)
 refine hK.out _ _ ⟨HE7.out.q,HE7.out.c⟩ ?_
 clear hK K
 try simp only [Act.put,List.setIfInBounds_toArray,List.set_cons_zero,List.set_cons_succ]
 generalize W6.alloc (.cells [.int .i64 1,.int .i64 1,.slice (some ⟨W4.heap.size,0,none⟩) 1 1].toArray 159)=W7 at *
 refine AnyH.only (i:=5) (o:=⟨some 115,_,_,_,_,_⟩) (by kernel_rfl) rfl (by rfl) (fun K hK=>?_)
 go_simp
 refine (zMa (n:=1) HE7.out.k (zab.of [(⟨1,1,[28]⟩,W4.heap.size)] [.int .i64 1,.int .i64 1,.slice (some ⟨W4.heap.size,0,none⟩) 1 1] rfl HPB.out (zfa HK0.out (by decide) zta)) rfl (by decide) hz HF.out).mono ?_
 rintro e W8 ⟨rfl,hb⟩
 have HE8:=zh (HE7.out.call hb)
 clear hb
 refine hK.out _ _ ⟨HE8.out.q,HE8.out.c⟩ ?_
 clear hK K
 try simp only [Act.put,List.setIfInBounds_toArray,List.set_cons_zero,List.set_cons_succ]
 have hS:Blk W8 w.heap.size [.int .i64 20,.string s,.int .i64 nm,.int .i64 p,kv] 25∧Blk W8 w1.heap.size [.int .i64 1,.int .i64 1,.slice (some ⟨W0.heap.size,0,none⟩) 1 1] 159:=⟨HE8.out.q,HE8.out.c⟩
 refine wpAnyH_take (i:=6) (oi:=⟨some 2,_,_,_,_,_⟩) (v:=.bool true) rfl (by kernel_rfl) (by kernel_rfl) (by kernel_rfl) (fun _ _ _ h=>h) (Or.inl ⟨by rfl,fun W _=>by go_simp⟩) hS ?_
 try simp only [Act.put,List.setIfInBounds_toArray,List.set_cons_zero,List.set_cons_succ]
 refine wpAnyH_done (by kernel_rfl) ?_ _
 clear hS
 go_wp2_with fail
 go_ret
 exact ⟨rfl,HE8.out.b⟩
theorem zwr {w:World} {s:ByteArray} {nm:Int} {p:Nat} {ks:List T} {S:Nat→Prop} {kv:Value} (hk:KAt 25 w ks S kv) (h:Fit 28 ks) (hz:ks.length≤1000000) :
  Calls Tryz.prog 58 #[.agg #[.int .i64 28,.string s,.int .i64 nm,.int .i64 p,kv]] w fun e w'=>e=.returned (.bool true)∧Below w.heap.size w w':=by
 have HF:=zh (zQe h (by omega) hz)
 obtain ⟨W0,hW0,H0⟩:∃ W,w.alloc (.cells [.int .i64 28,.string s,.int .i64 nm,.int .i64 p,kv].toArray 25)=W∧Hid (Blk W w.heap.size [.int .i64 28,.string s,.int .i64 nm,.int .i64 p,kv] 25∧Below w.heap.size w W∧zeb W ks kv):=⟨_,rfl,zh ⟨Blk.new w _ _,(Below.refl _ _).alloc (Nat.le_refl _) _,(zeb.of hk).below ((Below.refl _ _).alloc (Nat.le_refl _) _)⟩⟩
 clear hk h
 go_enter Tryz.func58,Tryz.ntmps58
 go_wp2_with fail
 refine (one_any _ _ _).mono ?_
 rintro e w1 ⟨rfl,hb⟩
 have HX:=zh (show Blk w1 w.heap.size [.int .i64 28,.string s,.int .i64 nm,.int .i64 p,kv] 25∧Blk w1 W0.heap.size [.int .i64 5] 22∧zeb w1 ks kv∧Below w.heap.size w w1 from by
  have h0:=H0.out
  have hz0:=h0.2.1.size
  have ha:Below W0.heap.size W0 (W0.alloc (.cells [.int .i64 5].toArray 22)):=(Below.refl _ _).alloc (Nat.le_refl _) _
  exact ⟨(h0.1.stays ha).stays hb,(Blk.new W0 _ _).stays hb,(h0.2.2.below ha).below hb,h0.2.1.trans ((ha.trans (hb.mono ha.size)).mono hz0)⟩)
 clear hb
 obtain ⟨W3,hW3,HE⟩:∃ W,w1.alloc (.cells [.int .i64 1,.int .i64 1,.slice (some ⟨W0.heap.size,0,none⟩) 1 1].toArray 159)=W∧Hid (Wh w w.heap.size w1.heap.size W0.heap.size [.int .i64 28,.string s,.int .i64 nm,.int .i64 p,kv] ks kv W):=⟨_,rfl,zh ⟨HX.out.1.alloc _,Blk.new w1 _ _,HX.out.2.1.alloc _,HX.out.2.2.1.below ((Below.refl _ _).alloc (Nat.le_refl _) _),HX.out.2.2.2.alloc HX.out.2.2.2.size _⟩⟩
 have e0:W3.cell? ⟨w.heap.size,0,none⟩=some (.int .i64 28):=HE.out.q.cell 0
 go_wp2_with fail
 have HE4:=zh HE.out.drew
 clear HE
 refine wp_region_held_drew (S:=fun W=>Blk W w.heap.size [.int .i64 28,.string s,.int .i64 nm,.int .i64 p,kv] 25∧Blk W w1.heap.size [.int .i64 1,.int .i64 1,.slice (some ⟨W0.heap.size,0,none⟩) 1 1] 159) (by kernel_rfl) ⟨HE4.out.q,HE4.out.c⟩ (fun hS=>?_)
 generalize W3.drew=W4 at *
 refine wpAnyH_take (i:=0) (oi:=⟨some 126,_,_,_,_,_⟩) (v:=.pointer (some ⟨w.heap.size,4,none⟩)) rfl (by kernel_rfl) (by kernel_rfl) (by kernel_rfl) (fun _ _ _ h=>h) (Or.inl ⟨by rfl,fun W _=>by go_simp⟩) hS ?_
 try simp only [Act.put,List.setIfInBounds_toArray,List.set_cons_zero,List.set_cons_succ]
 refine wpAnyH_take (i:=1) (oi:=⟨some 127,_,_,_,_,_⟩) (v:=kv) rfl (by kernel_rfl) (by kernel_rfl) (by kernel_rfl) (fun _ _ _ h=>h) (Or.inl ⟨by rfl,fun W hW=>by have hcx:W.cell? ⟨w.heap.size,4,none⟩=some kv:=hW.1.cell 4;go_simp⟩) hS ?_
 try simp only [Act.put,List.setIfInBounds_toArray,List.set_cons_zero,List.set_cons_succ]
 clear hS
 refine AnyH.only (i:=2) (o:=⟨some 128,_,_,_,_,_⟩) (by kernel_rfl) rfl (by rfl) (fun K hK=>?_)
 go_simp
 have HE5:=zh (HE4.out.alloc (.cells [.int .i64 5].toArray 22))
 have HK0:=zh (Blk.new W4 [.int .i64 5] 22)
 refine hK.out _ _ ⟨HE5.out.q,HE5.out.c⟩ ?_
 clear hK K
 try simp only [Act.put,List.setIfInBounds_toArray,List.set_cons_zero,List.set_cons_succ]
 generalize W4.alloc (.cells [.int .i64 5].toArray 22)=W5 at *
 refine AnyH.only (i:=3) (o:=⟨some 129,_,_,_,_,_⟩) (by kernel_rfl) rfl (by rfl) (fun K hK=>?_)
 go_simp
 refine (zCa _ _ _).mono ?_
 rintro e W6 ⟨rfl,hb⟩
 have HE6:=zh (HE5.out.call hb)
 have HK0:=zh (HK0.out.stays hb)
 clear hb
 refine hK.out _ _ ⟨HE6.out.q,HE6.out.c⟩ ?_
 clear hK K
 try simp only [Act.put,List.setIfInBounds_toArray,List.set_cons_zero,List.set_cons_succ]
 refine AnyH.only (i:=4) (o:=⟨some 130,_,_,_,_,_⟩) (by kernel_rfl) rfl (by rfl) (fun K hK=>?_)
 go_simp
 have HE7:=zh (HE6.out.alloc (.cells [.int .i64 0,.int .i64 9223372036854775807,.slice (some ⟨W4.heap.size,0,none⟩) 1 1].toArray 159))
 have HK0:=zh (HK0.out.alloc (.cells [.int .i64 0,.int .i64 9223372036854775807,.slice (some ⟨W4.heap.size,0,none⟩) 1 1].toArray 159))
 have HPB:=zh (Blk.new W6 [.int .i64 0,.int .i64 9223372036854775807,.slice (some ⟨W4.heap.size,0,none⟩) 1 1] 159)
 refine hK.out _ _ ⟨HE7.out.q,HE7.out.c⟩ ?_
 clear hK K
 try simp only [Act.put,List.setIfInBounds_toArray,List.set_cons_zero,List.set_cons_succ]
 generalize W6.alloc (.cells [.int .i64 0,.int .i64 9223372036854775807,.slice (some ⟨W4.heap.size,0,none⟩) 1 1].toArray 159)=W7 at *
 refine AnyH.only (i:=5) (o:=⟨some 131,_,_,_,_,_⟩) (by kernel_rfl) rfl (by rfl) (fun K hK=>?_)
 go_simp
 refine (zMa (n:=1) HE7.out.k (zab.of [(⟨0,9223372036854775807,[5]⟩,W4.heap.size)] [.int .i64 0,.int .i64 9223372036854775807,.slice (some ⟨W4.heap.size,0,none⟩) 1 1] rfl HPB.out (zfa HK0.out (by decide) zta)) rfl (by decide) hz HF.out).mono ?_
 rintro e W8 ⟨rfl,hb⟩
 have HE8:=zh (HE7.out.call hb)
 clear hb
 refine hK.out _ _ ⟨HE8.out.q,HE8.out.c⟩ ?_
 clear hK K
 try simp only [Act.put,List.setIfInBounds_toArray,List.set_cons_zero,List.set_cons_succ]
 have hS:Blk W8 w.heap.size [.int .i64 28,.string s,.int .i64 nm,.int .i64 p,kv] 25∧Blk W8 w1.heap.size [.int .i64 1,.int .i64 1,.slice (some ⟨W0.heap.size,0,none⟩) 1 1] 159:=⟨HE8.out.q,HE8.out.c⟩
 refine wpAnyH_take (i:=6) (oi:=⟨some 2,_,_,_,_,_⟩) (v:=.bool true) rfl (by kernel_rfl) (by kernel_rfl) (by kernel_rfl) (fun _ _ _ h=>h) (Or.inl ⟨by rfl,fun W _=>by go_simp⟩) hS ?_
 try simp only [Act.put,List.setIfInBounds_toArray,List.set_cons_zero,List.set_cons_succ]
 refine wpAnyH_done (by kernel_rfl) ?_ _
 clear hS
 go_wp2_with fail
 go_ret
 exact ⟨rfl,HE8.out.b⟩
end Go.Proofs.YthdbmgijpelecaaGreatDoor
