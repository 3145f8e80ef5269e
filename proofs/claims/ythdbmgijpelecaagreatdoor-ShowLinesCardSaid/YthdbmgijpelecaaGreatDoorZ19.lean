/- The contract of show.isWhole on a node whose kids are as the table of layer 2 has them, by kind: it answers true. -/
import Derived.Test.YthdbmgijpelecaaGreatDoorZ18
namespace Go.Proofs.YthdbmgijpelecaaGreatDoor
set_option maxRecDepth 100000
set_option maxHeartbeats 4000000
open Go.RowKit
theorem isw_5 {w:World} {s:ByteArray} {nm:Int} {p:Nat} {ks:List T} {S:Nat→Prop} {kv:Value} (hk:KAt 25 w ks S kv) (h:Fit 5 ks) (hz:ks.length≤1000000) :
  Calls Tryz.prog 58 #[.agg #[.int .i64 5,.string s,.int .i64 nm,.int .i64 p,kv]] w fun e w'=>e=.returned (.bool true)∧Below w.heap.size w w':=by
 obtain rfl:ks=[]:=zbb h (by omega)
 obtain ⟨W0,hW0,H0⟩:∃ W,w.alloc (.cells [.int .i64 5,.string s,.int .i64 nm,.int .i64 p,kv].toArray 25)=W∧Hid (Blk W w.heap.size [.int .i64 5,.string s,.int .i64 nm,.int .i64 p,kv] 25∧Below w.heap.size w W∧zeb W [] kv):=⟨_,rfl,zh ⟨Blk.new w _ _,(Below.refl _ _).alloc (Nat.le_refl _) _,(zeb.of hk).below ((Below.refl _ _).alloc (Nat.le_refl _) _)⟩⟩
 clear hk h
 go_enter Tryz.func58,Tryz.ntmps58
 go_wp2_with fail
 refine (one_any _ _ _).mono ?_
 rintro e w1 ⟨rfl,hb⟩
 have HX:=zh (show Blk w1 w.heap.size [.int .i64 5,.string s,.int .i64 nm,.int .i64 p,kv] 25∧Blk w1 W0.heap.size [.int .i64 5] 22∧zeb w1 [] kv∧Below w.heap.size w w1 from by
  have h0:=H0.out
  have hz0:=h0.2.1.size
  have ha:Below W0.heap.size W0 (W0.alloc (.cells [.int .i64 5].toArray 22)):=(Below.refl _ _).alloc (Nat.le_refl _) _
  exact ⟨(h0.1.stays ha).stays hb,(Blk.new W0 _ _).stays hb,(h0.2.2.below ha).below hb,h0.2.1.trans ((ha.trans (hb.mono ha.size)).mono hz0)⟩)
 clear hb
 obtain ⟨W3,hW3,HE⟩:∃ W,w1.alloc (.cells [.int .i64 1,.int .i64 1,.slice (some ⟨W0.heap.size,0,none⟩) 1 1].toArray 159)=W∧Hid (Wh w w.heap.size w1.heap.size W0.heap.size [.int .i64 5,.string s,.int .i64 nm,.int .i64 p,kv] [] kv W):=⟨_,rfl,zh ⟨HX.out.1.alloc _,Blk.new w1 _ _,HX.out.2.1.alloc _,HX.out.2.2.1.below ((Below.refl _ _).alloc (Nat.le_refl _) _),HX.out.2.2.2.alloc HX.out.2.2.2.size _⟩⟩
 have e0:W3.cell? ⟨w.heap.size,0,none⟩=some (.int .i64 5):=HE.out.q.cell 0
 have e4:W3.cell? ⟨w.heap.size,4,none⟩=some kv:=HE.out.q.cell 4
 go_wp2_with fail
 refine (zyf HE.out.k).mono ?_
 rintro e w9 ⟨rfl,hb⟩
 have HB9:=zh (HE.out.b.trans (hb.mono HE.out.b.size))
 clear hb
 go_wp2_with fail
 go_ret
 exact ⟨rfl,HB9.out⟩
theorem zMr {w:World} {s:ByteArray} {nm:Int} {p:Nat} {ks:List T} {S:Nat→Prop} {kv:Value} (hk:KAt 25 w ks S kv) (h:Fit 12 ks) (hz:ks.length≤1000000) :
  Calls Tryz.prog 58 #[.agg #[.int .i64 12,.string s,.int .i64 nm,.int .i64 p,kv]] w fun e w'=>e=.returned (.bool true)∧Below w.heap.size w w':=by
 obtain rfl:ks=[]:=zbb h (by omega)
 obtain ⟨W0,hW0,H0⟩:∃ W,w.alloc (.cells [.int .i64 12,.string s,.int .i64 nm,.int .i64 p,kv].toArray 25)=W∧Hid (Blk W w.heap.size [.int .i64 12,.string s,.int .i64 nm,.int .i64 p,kv] 25∧Below w.heap.size w W∧zeb W [] kv):=⟨_,rfl,zh ⟨Blk.new w _ _,(Below.refl _ _).alloc (Nat.le_refl _) _,(zeb.of hk).below ((Below.refl _ _).alloc (Nat.le_refl _) _)⟩⟩
 clear hk h
 go_enter Tryz.func58,Tryz.ntmps58
 go_wp2_with fail
 refine (one_any _ _ _).mono ?_
 rintro e w1 ⟨rfl,hb⟩
 have HX:=zh (show Blk w1 w.heap.size [.int .i64 12,.string s,.int .i64 nm,.int .i64 p,kv] 25∧Blk w1 W0.heap.size [.int .i64 5] 22∧zeb w1 [] kv∧Below w.heap.size w w1 from by
  have h0:=H0.out
  have hz0:=h0.2.1.size
  have ha:Below W0.heap.size W0 (W0.alloc (.cells [.int .i64 5].toArray 22)):=(Below.refl _ _).alloc (Nat.le_refl _) _
  exact ⟨(h0.1.stays ha).stays hb,(Blk.new W0 _ _).stays hb,(h0.2.2.below ha).below hb,h0.2.1.trans ((ha.trans (hb.mono ha.size)).mono hz0)⟩)
 clear hb
 obtain ⟨W3,hW3,HE⟩:∃ W,w1.alloc (.cells [.int .i64 1,.int .i64 1,.slice (some ⟨W0.heap.size,0,none⟩) 1 1].toArray 159)=W∧Hid (Wh w w.heap.size w1.heap.size W0.heap.size [.int .i64 12,.string s,.int .i64 nm,.int .i64 p,kv] [] kv W):=⟨_,rfl,zh ⟨HX.out.1.alloc _,Blk.new w1 _ _,HX.out.2.1.alloc _,HX.out.2.2.1.below ((Below.refl _ _).alloc (Nat.le_refl _) _),HX.out.2.2.2.alloc HX.out.2.2.2.size _⟩⟩
 have e0:W3.cell? ⟨w.heap.size,0,none⟩=some (.int .i64 12):=HE.out.q.cell 0
 have e4:W3.cell? ⟨w.heap.size,4,none⟩=some kv:=HE.out.q.cell 4
 go_wp2_with fail
 refine (zyf HE.out.k).mono ?_
 rintro e w9 ⟨rfl,hb⟩
 have HB9:=zh (HE.out.b.trans (hb.mono HE.out.b.size))
 clear hb
 go_wp2_with fail
 go_ret
 exact ⟨rfl,HB9.out⟩
theorem zBr {w:World} {s:ByteArray} {nm:Int} {p:Nat} {ks:List T} {S:Nat→Prop} {kv:Value} (hk:KAt 25 w ks S kv) (h:Fit 13 ks) (hz:ks.length≤1000000) :
  Calls Tryz.prog 58 #[.agg #[.int .i64 13,.string s,.int .i64 nm,.int .i64 p,kv]] w fun e w'=>e=.returned (.bool true)∧Below w.heap.size w w':=by
 obtain rfl:ks=[]:=zbb h (by omega)
 obtain ⟨W0,hW0,H0⟩:∃ W,w.alloc (.cells [.int .i64 13,.string s,.int .i64 nm,.int .i64 p,kv].toArray 25)=W∧Hid (Blk W w.heap.size [.int .i64 13,.string s,.int .i64 nm,.int .i64 p,kv] 25∧Below w.heap.size w W∧zeb W [] kv):=⟨_,rfl,zh ⟨Blk.new w _ _,(Below.refl _ _).alloc (Nat.le_refl _) _,(zeb.of hk).below ((Below.refl _ _).alloc (Nat.le_refl _) _)⟩⟩
 clear hk h
 go_enter Tryz.func58,Tryz.ntmps58
 go_wp2_with fail
 refine (one_any _ _ _).mono ?_
 rintro e w1 ⟨rfl,hb⟩
 have HX:=zh (show Blk w1 w.heap.size [.int .i64 13,.string s,.int .i64 nm,.int .i64 p,kv] 25∧Blk w1 W0.heap.size [.int .i64 5] 22∧zeb w1 [] kv∧Below w.heap.size w w1 from by
  have h0:=H0.out
  have hz0:=h0.2.1.size
  have ha:Below W0.heap.size W0 (W0.alloc (.cells [.int .i64 5].toArray 22)):=(Below.refl _ _).alloc (Nat.le_refl _) _
  exact ⟨(h0.1.stays ha).stays hb,(Blk.new W0 _ _).stays hb,(h0.2.2.below ha).below hb,h0.2.1.trans ((ha.trans (hb.mono ha.size)).mono hz0)⟩)
 clear hb
 obtain ⟨W3,hW3,HE⟩:∃ W,w1.alloc (.cells [.int .i64 1,.int .i64 1,.slice (some ⟨W0.heap.size,0,none⟩) 1 1].toArray 159)=W∧Hid (Wh w w.heap.size w1.heap.size W0.heap.size [.int .i64 13,.string s,.int .i64 nm,.int .i64 p,kv] [] kv W):=⟨_,rfl,zh ⟨HX.out.1.alloc _,Blk.new w1 _ _,HX.out.2.1.alloc _,HX.out.2.2.1.below ((Below.refl _ _).alloc (Nat.le_refl _) _),HX.out.2.2.2.alloc HX.out.2.2.2.size _⟩⟩
 have e0:W3.cell? ⟨w.heap.size,0,none⟩=some (.int .i64 13):=HE.out.q.cell 0
 have e4:W3.cell? ⟨w.heap.size,4,none⟩=some kv:=HE.out.q.cell 4
 go_wp2_with fail
 refine (zyf HE.out.k).mono ?_
 rintro e w9 ⟨rfl,hb⟩
 have HB9:=zh (HE.out.b.trans (hb.mono HE.out.b.size))
 clear hb
 go_wp2_with fail
 go_ret
 exact ⟨rfl,HB9.out⟩
theorem zcr {w:World} {s:ByteArray} {nm:Int} {p:Nat} {ks:List T} {S:Nat→Prop} {kv:Value} (hk:KAt 25 w ks S kv) (h:Fit 14 ks) (hz:ks.length≤1000000) :
  Calls Tryz.prog 58 #[.agg #[.int .i64 14,.string s,.int .i64 nm,.int .i64 p,kv]] w fun e w'=>e=.returned (.bool true)∧Below w.heap.size w w':=by
 obtain rfl:ks=[]:=zbb h (by omega)
 obtain ⟨W0,hW0,H0⟩:∃ W,w.alloc (.cells [.int .i64 14,.string s,.int .i64 nm,.int .i64 p,kv].toArray 25)=W∧Hid (Blk W w.heap.size [.int .i64 14,.string s,.int .i64 nm,.int .i64 p,kv] 25∧Below w.heap.size w W∧zeb W [] kv):=⟨_,rfl,zh ⟨Blk.new w _ _,(Below.refl _ _).alloc (Nat.le_refl _) _,(zeb.of hk).below ((Below.refl _ _).alloc (Nat.le_refl _) _)⟩⟩
 clear hk h
 go_enter Tryz.func58,Tryz.ntmps58
 go_wp2_with fail
 refine (one_any _ _ _).mono ?_
 rintro e w1 ⟨rfl,hb⟩
 have HX:=zh (show Blk w1 w.heap.size [.int .i64 14,.string s,.int .i64 nm,.int .i64 p,kv] 25∧Blk w1 W0.heap.size [.int .i64 5] 22∧zeb w1 [] kv∧Below w.heap.size w w1 from by
  have h0:=H0.out
  have hz0:=h0.2.1.size
  have ha:Below W0.heap.size W0 (W0.alloc (.cells [.int .i64 5].toArray 22)):=(Below.refl _ _).alloc (Nat.le_refl _) _
  exact ⟨(h0.1.stays ha).stays hb,(Blk.new W0 _ _).stays hb,(h0.2.2.below ha).below hb,h0.2.1.trans ((ha.trans (hb.mono ha.size)).mono hz0)⟩)
 clear hb
 obtain ⟨W3,hW3,HE⟩:∃ W,w1.alloc (.cells [.int .i64 1,.int .i64 1,.slice (some ⟨W0.heap.size,0,none⟩) 1 1].toArray 159)=W∧Hid (Wh w w.heap.size w1.heap.size W0.heap.size [.int .i64 14,.string s,.int .i64 nm,.int .i64 p,kv] [] kv W):=⟨_,rfl,zh ⟨HX.out.1.alloc _,Blk.new w1 _ _,HX.out.2.1.alloc _,HX.out.2.2.1.below ((Below.refl _ _).alloc (Nat.le_refl _) _),HX.out.2.2.2.alloc HX.out.2.2.2.size _⟩⟩
 have e0:W3.cell? ⟨w.heap.size,0,none⟩=some (.int .i64 14):=HE.out.q.cell 0
 have e4:W3.cell? ⟨w.heap.size,4,none⟩=some kv:=HE.out.q.cell 4
 go_wp2_with fail
 refine (zyf HE.out.k).mono ?_
 rintro e w9 ⟨rfl,hb⟩
 have HB9:=zh (HE.out.b.trans (hb.mono HE.out.b.size))
 clear hb
 go_wp2_with fail
 go_ret
 exact ⟨rfl,HB9.out⟩
theorem zzr {w:World} {s:ByteArray} {nm:Int} {p:Nat} {ks:List T} {S:Nat→Prop} {kv:Value} (hk:KAt 25 w ks S kv) (h:Fit 18 ks) (hz:ks.length≤1000000) :
  Calls Tryz.prog 58 #[.agg #[.int .i64 18,.string s,.int .i64 nm,.int .i64 p,kv]] w fun e w'=>e=.returned (.bool true)∧Below w.heap.size w w':=by
 obtain rfl:ks=[]:=zbb h (by omega)
 obtain ⟨W0,hW0,H0⟩:∃ W,w.alloc (.cells [.int .i64 18,.string s,.int .i64 nm,.int .i64 p,kv].toArray 25)=W∧Hid (Blk W w.heap.size [.int .i64 18,.string s,.int .i64 nm,.int .i64 p,kv] 25∧Below w.heap.size w W∧zeb W [] kv):=⟨_,rfl,zh ⟨Blk.new w _ _,(Below.refl _ _).alloc (Nat.le_refl _) _,(zeb.of hk).below ((Below.refl _ _).alloc (Nat.le_refl _) _)⟩⟩
 clear hk h
 go_enter Tryz.func58,Tryz.ntmps58
 go_wp2_with fail
 refine (one_any _ _ _).mono ?_
 rintro e w1 ⟨rfl,hb⟩
 have HX:=zh (show Blk w1 w.heap.size [.int .i64 18,.string s,.int .i64 nm,.int .i64 p,kv] 25∧Blk w1 W0.heap.size [.int .i64 5] 22∧zeb w1 [] kv∧Below w.heap.size w w1 from by
  have h0:=H0.out
  have hz0:=h0.2.1.size
  have ha:Below W0.heap.size W0 (W0.alloc (.cells [.int .i64 5].toArray 22)):=(Below.refl _ _).alloc (Nat.le_refl _) _
  exact ⟨(h0.1.stays ha).stays hb,(Blk.new W0 _ _).stays hb,(h0.2.2.below ha).below hb,h0.2.1.trans ((ha.trans (hb.mono ha.size)).mono hz0)⟩)
 clear hb
 obtain ⟨W3,hW3,HE⟩:∃ W,w1.alloc (.cells [.int .i64 1,.int .i64 1,.slice (some ⟨W0.heap.size,0,none⟩) 1 1].toArray 159)=W∧Hid (Wh w w.heap.size w1.heap.size W0.heap.size [.int .i64 18,.string s,.int .i64 nm,.int .i64 p,kv] [] kv W):=⟨_,rfl,zh ⟨HX.out.1.alloc _,Blk.new w1 _ _,HX.out.2.1.alloc _,HX.out.2.2.1.below ((Below.refl _ _).alloc (Nat.le_refl _) _),HX.out.2.2.2.alloc HX.out.2.2.2.size _⟩⟩
 have e0:W3.cell? ⟨w.heap.size,0,none⟩=some (.int .i64 18):=HE.out.q.cell 0
 have e4:W3.cell? ⟨w.heap.size,4,none⟩=some kv:=HE.out.q.cell 4
 go_wp2_with fail
 refine (zyf HE.out.k).mono ?_
 rintro e w9 ⟨rfl,hb⟩
 have HB9:=zh (HE.out.b.trans (hb.mono HE.out.b.size))
 clear hb
 go_wp2_with fail
 go_ret
 exact ⟨rfl,HB9.out⟩
theorem zfr {w:World} {s:ByteArray} {nm:Int} {p:Nat} {ks:List T} {S:Nat→Prop} {kv:Value} (hk:KAt 25 w ks S kv) (h:Fit 23 ks) (hz:ks.length≤1000000) :
  Calls Tryz.prog 58 #[.agg #[.int .i64 23,.string s,.int .i64 nm,.int .i64 p,kv]] w fun e w'=>e=.returned (.bool true)∧Below w.heap.size w w':=by
 obtain rfl:ks=[]:=zbb h (by omega)
 obtain ⟨W0,hW0,H0⟩:∃ W,w.alloc (.cells [.int .i64 23,.string s,.int .i64 nm,.int .i64 p,kv].toArray 25)=W∧Hid (Blk W w.heap.size [.int .i64 23,.string s,.int .i64 nm,.int .i64 p,kv] 25∧Below w.heap.size w W∧zeb W [] kv):=⟨_,rfl,zh ⟨Blk.new w _ _,(Below.refl _ _).alloc (Nat.le_refl _) _,(zeb.of hk).below ((Below.refl _ _).alloc (Nat.le_refl _) _)⟩⟩
 clear hk h
 go_enter Tryz.func58,Tryz.ntmps58
 go_wp2_with fail
 refine (one_any _ _ _).mono ?_
 rintro e w1 ⟨rfl,hb⟩
 have HX:=zh (show Blk w1 w.heap.size [.int .i64 23,.string s,.int .i64 nm,.int .i64 p,kv] 25∧Blk w1 W0.heap.size [.int .i64 5] 22∧zeb w1 [] kv∧Below w.heap.size w w1 from by
  have h0:=H0.out
  have hz0:=h0.2.1.size
  have ha:Below W0.heap.size W0 (W0.alloc (.cells [.int .i64 5].toArray 22)):=(Below.refl _ _).alloc (Nat.le_refl _) _
  exact ⟨(h0.1.stays ha).stays hb,(Blk.new W0 _ _).stays hb,(h0.2.2.below ha).below hb,h0.2.1.trans ((ha.trans (hb.mono ha.size)).mono hz0)⟩)
 clear hb
 obtain ⟨W3,hW3,HE⟩:∃ W,w1.alloc (.cells [.int .i64 1,.int .i64 1,.slice (some ⟨W0.heap.size,0,none⟩) 1 1].toArray 159)=W∧Hid (Wh w w.heap.size w1.heap.size W0.heap.size [.int .i64 23,.string s,.int .i64 nm,.int .i64 p,kv] [] kv W):=⟨_,rfl,zh ⟨HX.out.1.alloc _,Blk.new w1 _ _,HX.out.2.1.alloc _,HX.out.2.2.1.below ((Below.refl _ _).alloc (Nat.le_refl _) _),HX.out.2.2.2.alloc HX.out.2.2.2.size _⟩⟩
 have e0:W3.cell? ⟨w.heap.size,0,none⟩=some (.int .i64 23):=HE.out.q.cell 0
 have e4:W3.cell? ⟨w.heap.size,4,none⟩=some kv:=HE.out.q.cell 4
 go_wp2_with fail
 refine (zyf HE.out.k).mono ?_
 rintro e w9 ⟨rfl,hb⟩
 have HB9:=zh (HE.out.b.trans (hb.mono HE.out.b.size))
 clear hb
 go_wp2_with fail
 go_ret
 exact ⟨rfl,HB9.out⟩
theorem zGq {w:World} {s:ByteArray} {nm:Int} {p:Nat} {ks:List T} {S:Nat→Prop} {kv:Value} (hk:KAt 25 w ks S kv) (h:Fit 24 ks) (hz:ks.length≤1000000) :
  Calls Tryz.prog 58 #[.agg #[.int .i64 24,.string s,.int .i64 nm,.int .i64 p,kv]] w fun e w'=>e=.returned (.bool true)∧Below w.heap.size w w':=by
 obtain rfl:ks=[]:=zbb h (by omega)
 obtain ⟨W0,hW0,H0⟩:∃ W,w.alloc (.cells [.int .i64 24,.string s,.int .i64 nm,.int .i64 p,kv].toArray 25)=W∧Hid (Blk W w.heap.size [.int .i64 24,.string s,.int .i64 nm,.int .i64 p,kv] 25∧Below w.heap.size w W∧zeb W [] kv):=⟨_,rfl,zh ⟨Blk.new w _ _,(Below.refl _ _).alloc (Nat.le_refl _) _,(zeb.of hk).below ((Below.refl _ _).alloc (Nat.le_refl _) _)⟩⟩
 clear hk h
 go_enter Tryz.func58,Tryz.ntmps58
 go_wp2_with fail
 refine (one_any _ _ _).mono ?_
 rintro e w1 ⟨rfl,hb⟩
 have HX:=zh (show Blk w1 w.heap.size [.int .i64 24,.string s,.int .i64 nm,.int .i64 p,kv] 25∧Blk w1 W0.heap.size [.int .i64 5] 22∧zeb w1 [] kv∧Below w.heap.size w w1 from by
  have h0:=H0.out
  have hz0:=h0.2.1.size
  have ha:Below W0.heap.size W0 (W0.alloc (.cells [.int .i64 5].toArray 22)):=(Below.refl _ _).alloc (Nat.le_refl _) _
  exact ⟨(h0.1.stays ha).stays hb,(Blk.new W0 _ _).stays hb,(h0.2.2.below ha).below hb,h0.2.1.trans ((ha.trans (hb.mono ha.size)).mono hz0)⟩)
 clear hb
 obtain ⟨W3,hW3,HE⟩:∃ W,w1.alloc (.cells [.int .i64 1,.int .i64 1,.slice (some ⟨W0.heap.size,0,none⟩) 1 1].toArray 159)=W∧Hid (Wh w w.heap.size w1.heap.size W0.heap.size [.int .i64 24,.string s,.int .i64 nm,.int .i64 p,kv] [] kv W):=⟨_,rfl,zh ⟨HX.out.1.alloc _,Blk.new w1 _ _,HX.out.2.1.alloc _,HX.out.2.2.1.below ((Below.refl _ _).alloc (Nat.le_refl _) _),HX.out.2.2.2.alloc HX.out.2.2.2.size _⟩⟩
 have e0:W3.cell? ⟨w.heap.size,0,none⟩=some (.int .i64 24):=HE.out.q.cell 0
 have e4:W3.cell? ⟨w.heap.size,4,none⟩=some kv:=HE.out.q.cell 4
 go_wp2_with fail
 refine (zyf HE.out.k).mono ?_
 rintro e w9 ⟨rfl,hb⟩
 have HB9:=zh (HE.out.b.trans (hb.mono HE.out.b.size))
 clear hb
 go_wp2_with fail
 go_ret
 exact ⟨rfl,HB9.out⟩
theorem zHr {w:World} {s:ByteArray} {nm:Int} {p:Nat} {ks:List T} {S:Nat→Prop} {kv:Value} (hk:KAt 25 w ks S kv) (h:Fit 26 ks) (hz:ks.length≤1000000) :
  Calls Tryz.prog 58 #[.agg #[.int .i64 26,.string s,.int .i64 nm,.int .i64 p,kv]] w fun e w'=>e=.returned (.bool true)∧Below w.heap.size w w':=by
 obtain rfl:ks=[]:=zbb h (by omega)
 obtain ⟨W0,hW0,H0⟩:∃ W,w.alloc (.cells [.int .i64 26,.string s,.int .i64 nm,.int .i64 p,kv].toArray 25)=W∧Hid (Blk W w.heap.size [.int .i64 26,.string s,.int .i64 nm,.int .i64 p,kv] 25∧Below w.heap.size w W∧zeb W [] kv):=⟨_,rfl,zh ⟨Blk.new w _ _,(Below.refl _ _).alloc (Nat.le_refl _) _,(zeb.of hk).below ((Below.refl _ _).alloc (Nat.le_refl _) _)⟩⟩
 clear hk h
 go_enter Tryz.func58,Tryz.ntmps58
 go_wp2_with fail
 refine (one_any _ _ _).mono ?_
 rintro e w1 ⟨rfl,hb⟩
 have HX:=zh (show Blk w1 w.heap.size [.int .i64 26,.string s,.int .i64 nm,.int .i64 p,kv] 25∧Blk w1 W0.heap.size [.int .i64 5] 22∧zeb w1 [] kv∧Below w.heap.size w w1 from by
  have h0:=H0.out
  have hz0:=h0.2.1.size
  have ha:Below W0.heap.size W0 (W0.alloc (.cells [.int .i64 5].toArray 22)):=(Below.refl _ _).alloc (Nat.le_refl _) _
  exact ⟨(h0.1.stays ha).stays hb,(Blk.new W0 _ _).stays hb,(h0.2.2.below ha).below hb,h0.2.1.trans ((ha.trans (hb.mono ha.size)).mono hz0)⟩)
 clear hb
 obtain ⟨W3,hW3,HE⟩:∃ W,w1.alloc (.cells [.int .i64 1,.int .i64 1,.slice (some ⟨W0.heap.size,0,none⟩) 1 1].toArray 159)=W∧Hid (Wh w w.heap.size w1.heap.size W0.heap.size [.int .i64 26,.string s,.int .i64 nm,.int .i64 p,kv] [] kv W):=⟨_,rfl,zh ⟨HX.out.1.alloc _,Blk.new w1 _ _,HX.out.2.1.alloc _,HX.out.2.2.1.below ((Below.refl _ _).alloc (Nat.le_refl _) _),HX.out.2.2.2.alloc HX.out.2.2.2.size _⟩⟩
 have e0:W3.cell? ⟨w.heap.size,0,none⟩=some (.int .i64 26):=HE.out.q.cell 0
 have e4:W3.cell? ⟨w.heap.size,4,none⟩=some kv:=HE.out.q.cell 4
 go_wp2_with fail
 refine (zyf HE.out.k).mono ?_
 rintro e w9 ⟨rfl,hb⟩
 have HB9:=zh (HE.out.b.trans (hb.mono HE.out.b.size))
 clear hb
 go_wp2_with fail
 go_ret
 exact ⟨rfl,HB9.out⟩
theorem zsq {w:World} {s:ByteArray} {nm:Int} {p:Nat} {ks:List T} {S:Nat→Prop} {kv:Value} (hk:KAt 25 w ks S kv) (h:Fit 27 ks) (hz:ks.length≤1000000) :
  Calls Tryz.prog 58 #[.agg #[.int .i64 27,.string s,.int .i64 nm,.int .i64 p,kv]] w fun e w'=>e=.returned (.bool true)∧Below w.heap.size w w':=by
 obtain rfl:ks=[]:=zbb h (by omega)
 obtain ⟨W0,hW0,H0⟩:∃ W,w.alloc (.cells [.int .i64 27,.string s,.int .i64 nm,.int .i64 p,kv].toArray 25)=W∧Hid (Blk W w.heap.size [.int .i64 27,.string s,.int .i64 nm,.int .i64 p,kv] 25∧Below w.heap.size w W∧zeb W [] kv):=⟨_,rfl,zh ⟨Blk.new w _ _,(Below.refl _ _).alloc (Nat.le_refl _) _,(zeb.of hk).below ((Below.refl _ _).alloc (Nat.le_refl _) _)⟩⟩
 clear hk h
 go_enter Tryz.func58,Tryz.ntmps58
 go_wp2_with fail
 refine (one_any _ _ _).mono ?_
 rintro e w1 ⟨rfl,hb⟩
 have HX:=zh (show Blk w1 w.heap.size [.int .i64 27,.string s,.int .i64 nm,.int .i64 p,kv] 25∧Blk w1 W0.heap.size [.int .i64 5] 22∧zeb w1 [] kv∧Below w.heap.size w w1 from by
  have h0:=H0.out
  have hz0:=h0.2.1.size
  have ha:Below W0.heap.size W0 (W0.alloc (.cells [.int .i64 5].toArray 22)):=(Below.refl _ _).alloc (Nat.le_refl _) _
  exact ⟨(h0.1.stays ha).stays hb,(Blk.new W0 _ _).stays hb,(h0.2.2.below ha).below hb,h0.2.1.trans ((ha.trans (hb.mono ha.size)).mono hz0)⟩)
 clear hb
 obtain ⟨W3,hW3,HE⟩:∃ W,w1.alloc (.cells [.int .i64 1,.int .i64 1,.slice (some ⟨W0.heap.size,0,none⟩) 1 1].toArray 159)=W∧Hid (Wh w w.heap.size w1.heap.size W0.heap.size [.int .i64 27,.string s,.int .i64 nm,.int .i64 p,kv] [] kv W):=⟨_,rfl,zh ⟨HX.out.1.alloc _,Blk.new w1 _ _,HX.out.2.1.alloc _,HX.out.2.2.1.below ((Below.refl _ _).alloc (Nat.le_refl _) _),HX.out.2.2.2.alloc HX.out.2.2.2.size _⟩⟩
 have e0:W3.cell? ⟨w.heap.size,0,none⟩=some (.int .i64 27):=HE.out.q.cell 0
 have e4:W3.cell? ⟨w.heap.size,4,none⟩=some kv:=HE.out.q.cell 4
 go_wp2_with fail
 refine (zyf HE.out.k).mono ?_
 rintro e w9 ⟨rfl,hb⟩
 have HB9:=zh (HE.out.b.trans (hb.mono HE.out.b.size))
 clear hb
 go_wp2_with fail
 go_ret
 exact ⟨rfl,HB9.out⟩
theorem isw_4 {w:World} {s:ByteArray} {nm:Int} {p:Nat} {ks:List T} {S:Nat→Prop} {kv:Value} (hk:KAt 25 w ks S kv) (h:Fit 4 ks) (hz:ks.length≤1000000) :
  Calls Tryz.prog 58 #[.agg #[.int .i64 4,.string s,.int .i64 nm,.int .i64 p,kv]] w fun e w'=>e=.returned (.bool true)∧Below w.heap.size w w':=by
 have HF:=zh (zod h (by omega))
 obtain ⟨W0,hW0,H0⟩:∃ W,w.alloc (.cells [.int .i64 4,.string s,.int .i64 nm,.int .i64 p,kv].toArray 25)=W∧Hid (Blk W w.heap.size [.int .i64 4,.string s,.int .i64 nm,.int .i64 p,kv] 25∧Below w.heap.size w W∧zeb W ks kv):=⟨_,rfl,zh ⟨Blk.new w _ _,(Below.refl _ _).alloc (Nat.le_refl _) _,(zeb.of hk).below ((Below.refl _ _).alloc (Nat.le_refl _) _)⟩⟩
 clear hk h
 go_enter Tryz.func58,Tryz.ntmps58
 go_wp2_with fail
 refine (one_any _ _ _).mono ?_
 rintro e w1 ⟨rfl,hb⟩
 have HX:=zh (show Blk w1 w.heap.size [.int .i64 4,.string s,.int .i64 nm,.int .i64 p,kv] 25∧Blk w1 W0.heap.size [.int .i64 5] 22∧zeb w1 ks kv∧Below w.heap.size w w1 from by
  have h0:=H0.out
  have hz0:=h0.2.1.size
  have ha:Below W0.heap.size W0 (W0.alloc (.cells [.int .i64 5].toArray 22)):=(Below.refl _ _).alloc (Nat.le_refl _) _
  exact ⟨(h0.1.stays ha).stays hb,(Blk.new W0 _ _).stays hb,(h0.2.2.below ha).below hb,h0.2.1.trans ((ha.trans (hb.mono ha.size)).mono hz0)⟩)
 clear hb
 obtain ⟨W3,hW3,HE⟩:∃ W,w1.alloc (.cells [.int .i64 1,.int .i64 1,.slice (some ⟨W0.heap.size,0,none⟩) 1 1].toArray 159)=W∧Hid (Wh w w.heap.size w1.heap.size W0.heap.size [.int .i64 4,.string s,.int .i64 nm,.int .i64 p,kv] ks kv W):=⟨_,rfl,zh ⟨HX.out.1.alloc _,Blk.new w1 _ _,HX.out.2.1.alloc _,HX.out.2.2.1.below ((Below.refl _ _).alloc (Nat.le_refl _) _),HX.out.2.2.2.alloc HX.out.2.2.2.size _⟩⟩
 have e0:W3.cell? ⟨w.heap.size,0,none⟩=some (.int .i64 4):=HE.out.q.cell 0
 have e4:W3.cell? ⟨w.heap.size,4,none⟩=some kv:=HE.out.q.cell 4
 have c0:W3.cell? ⟨w1.heap.size,0,none⟩=some (.int .i64 1):=HE.out.c.cell 0
 have c1:W3.cell? ⟨w1.heap.size,1,none⟩=some (.int .i64 1):=HE.out.c.cell 1
 have c2:W3.cell? ⟨w1.heap.size,2,none⟩=some (.slice (some ⟨W0.heap.size,0,none⟩) 1 1):=HE.out.c.cell 2
 go_wp2_with fail
 have HE2:=zh (HE.out.alloc (.cells [.int .i64 1,.int .i64 1,.slice (some ⟨W0.heap.size,0,none⟩) 1 1,.int .i64 1,.int .i64 1,.slice (some ⟨W0.heap.size,0,none⟩) 1 1].toArray 159))
 refine (zMa (n:=2) HE2.out.k (zab.of [(⟨1,1,[5]⟩,W0.heap.size),(⟨1,1,[5]⟩,W0.heap.size)] [.int .i64 1,.int .i64 1,.slice (some ⟨W0.heap.size,0,none⟩) 1 1,.int .i64 1,.int .i64 1,.slice (some ⟨W0.heap.size,0,none⟩) 1 1] rfl (Blk.new W3 _ _) (zfa HE2.out.f (by decide) (zfa HE2.out.f (by decide) zta))) rfl (by decide) hz HF.out).mono ?_
 rintro e w9 ⟨rfl,hb⟩
 have HB9:=zh (HE2.out.b.trans (hb.mono HE2.out.b.size))
 clear hb
 go_wp2_with fail
 go_ret
 exact ⟨rfl,HB9.out⟩
theorem zGr {w:World} {s:ByteArray} {nm:Int} {p:Nat} {ks:List T} {S:Nat→Prop} {kv:Value} (hk:KAt 25 w ks S kv) (h:Fit 11 ks) (hz:ks.length≤1000000) :
  Calls Tryz.prog 58 #[.agg #[.int .i64 11,.string s,.int .i64 nm,.int .i64 p,kv]] w fun e w'=>e=.returned (.bool true)∧Below w.heap.size w w':=by
 have HF:=zh (zod h (by omega))
 obtain ⟨W0,hW0,H0⟩:∃ W,w.alloc (.cells [.int .i64 11,.string s,.int .i64 nm,.int .i64 p,kv].toArray 25)=W∧Hid (Blk W w.heap.size [.int .i64 11,.string s,.int .i64 nm,.int .i64 p,kv] 25∧Below w.heap.size w W∧zeb W ks kv):=⟨_,rfl,zh ⟨Blk.new w _ _,(Below.refl _ _).alloc (Nat.le_refl _) _,(zeb.of hk).below ((Below.refl _ _).alloc (Nat.le_refl _) _)⟩⟩
 clear hk h
 go_enter Tryz.func58,Tryz.ntmps58
 go_wp2_with fail
 refine (one_any _ _ _).mono ?_
 rintro e w1 ⟨rfl,hb⟩
 have HX:=zh (show Blk w1 w.heap.size [.int .i64 11,.string s,.int .i64 nm,.int .i64 p,kv] 25∧Blk w1 W0.heap.size [.int .i64 5] 22∧zeb w1 ks kv∧Below w.heap.size w w1 from by
  have h0:=H0.out
  have hz0:=h0.2.1.size
  have ha:Below W0.heap.size W0 (W0.alloc (.cells [.int .i64 5].toArray 22)):=(Below.refl _ _).alloc (Nat.le_refl _) _
  exact ⟨(h0.1.stays ha).stays hb,(Blk.new W0 _ _).stays hb,(h0.2.2.below ha).below hb,h0.2.1.trans ((ha.trans (hb.mono ha.size)).mono hz0)⟩)
 clear hb
 obtain ⟨W3,hW3,HE⟩:∃ W,w1.alloc (.cells [.int .i64 1,.int .i64 1,.slice (some ⟨W0.heap.size,0,none⟩) 1 1].toArray 159)=W∧Hid (Wh w w.heap.size w1.heap.size W0.heap.size [.int .i64 11,.string s,.int .i64 nm,.int .i64 p,kv] ks kv W):=⟨_,rfl,zh ⟨HX.out.1.alloc _,Blk.new w1 _ _,HX.out.2.1.alloc _,HX.out.2.2.1.below ((Below.refl _ _).alloc (Nat.le_refl _) _),HX.out.2.2.2.alloc HX.out.2.2.2.size _⟩⟩
 have e0:W3.cell? ⟨w.heap.size,0,none⟩=some (.int .i64 11):=HE.out.q.cell 0
 have e4:W3.cell? ⟨w.heap.size,4,none⟩=some kv:=HE.out.q.cell 4
 have c0:W3.cell? ⟨w1.heap.size,0,none⟩=some (.int .i64 1):=HE.out.c.cell 0
 have c1:W3.cell? ⟨w1.heap.size,1,none⟩=some (.int .i64 1):=HE.out.c.cell 1
 have c2:W3.cell? ⟨w1.heap.size,2,none⟩=some (.slice (some ⟨W0.heap.size,0,none⟩) 1 1):=HE.out.c.cell 2
 go_wp2_with fail
 have HE2:=zh (HE.out.alloc (.cells [.int .i64 1,.int .i64 1,.slice (some ⟨W0.heap.size,0,none⟩) 1 1,.int .i64 1,.int .i64 1,.slice (some ⟨W0.heap.size,0,none⟩) 1 1].toArray 159))
 refine (zMa (n:=2) HE2.out.k (zab.of [(⟨1,1,[5]⟩,W0.heap.size),(⟨1,1,[5]⟩,W0.heap.size)] [.int .i64 1,.int .i64 1,.slice (some ⟨W0.heap.size,0,none⟩) 1 1,.int .i64 1,.int .i64 1,.slice (some ⟨W0.heap.size,0,none⟩) 1 1] rfl (Blk.new W3 _ _) (zfa HE2.out.f (by decide) (zfa HE2.out.f (by decide) zta))) rfl (by decide) hz HF.out).mono ?_
 rintro e w9 ⟨rfl,hb⟩
 have HB9:=zh (HE2.out.b.trans (hb.mono HE2.out.b.size))
 clear hb
 go_wp2_with fail
 go_ret
 exact ⟨rfl,HB9.out⟩
theorem zzq {w:World} {s:ByteArray} {nm:Int} {p:Nat} {ks:List T} {S:Nat→Prop} {kv:Value} (hk:KAt 25 w ks S kv) (h:Fit 21 ks) (hz:ks.length≤1000000) :
  Calls Tryz.prog 58 #[.agg #[.int .i64 21,.string s,.int .i64 nm,.int .i64 p,kv]] w fun e w'=>e=.returned (.bool true)∧Below w.heap.size w w':=by
 have HF:=zh (zod h (by omega))
 obtain ⟨W0,hW0,H0⟩:∃ W,w.alloc (.cells [.int .i64 21,.string s,.int .i64 nm,.int .i64 p,kv].toArray 25)=W∧Hid (Blk W w.heap.size [.int .i64 21,.string s,.int .i64 nm,.int .i64 p,kv] 25∧Below w.heap.size w W∧zeb W ks kv):=⟨_,rfl,zh ⟨Blk.new w _ _,(Below.refl _ _).alloc (Nat.le_refl _) _,(zeb.of hk).below ((Below.refl _ _).alloc (Nat.le_refl _) _)⟩⟩
 clear hk h
 go_enter Tryz.func58,Tryz.ntmps58
 go_wp2_with fail
 refine (one_any _ _ _).mono ?_
 rintro e w1 ⟨rfl,hb⟩
 have HX:=zh (show Blk w1 w.heap.size [.int .i64 21,.string s,.int .i64 nm,.int .i64 p,kv] 25∧Blk w1 W0.heap.size [.int .i64 5] 22∧zeb w1 ks kv∧Below w.heap.size w w1 from by
  have h0:=H0.out
  have hz0:=h0.2.1.size
  have ha:Below W0.heap.size W0 (W0.alloc (.cells [.int .i64 5].toArray 22)):=(Below.refl _ _).alloc (Nat.le_refl _) _
  exact ⟨(h0.1.stays ha).stays hb,(Blk.new W0 _ _).stays hb,(h0.2.2.below ha).below hb,h0.2.1.trans ((ha.trans (hb.mono ha.size)).mono hz0)⟩)
 clear hb
 obtain ⟨W3,hW3,HE⟩:∃ W,w1.alloc (.cells [.int .i64 1,.int .i64 1,.slice (some ⟨W0.heap.size,0,none⟩) 1 1].toArray 159)=W∧Hid (Wh w w.heap.size w1.heap.size W0.heap.size [.int .i64 21,.string s,.int .i64 nm,.int .i64 p,kv] ks kv W):=⟨_,rfl,zh ⟨HX.out.1.alloc _,Blk.new w1 _ _,HX.out.2.1.alloc _,HX.out.2.2.1.below ((Below.refl _ _).alloc (Nat.le_refl _) _),HX.out.2.2.2.alloc HX.out.2.2.2.size _⟩⟩
 have e0:W3.cell? ⟨w.heap.size,0,none⟩=some (.int .i64 21):=HE.out.q.cell 0
 have e4:W3.cell? ⟨w.heap.size,4,none⟩=some kv:=HE.out.q.cell 4
 have c0:W3.cell? ⟨w1.heap.size,0,none⟩=some (.int .i64 1):=HE.out.c.cell 0
 have c1:W3.cell? ⟨w1.heap.size,1,none⟩=some (.int .i64 1):=HE.out.c.cell 1
 have c2:W3.cell? ⟨w1.heap.size,2,none⟩=some (.slice (some ⟨W0.heap.size,0,none⟩) 1 1):=HE.out.c.cell 2
 go_wp2_with fail
 have HE2:=zh (HE.out.alloc (.cells [.int .i64 1,.int .i64 1,.slice (some ⟨W0.heap.size,0,none⟩) 1 1,.int .i64 1,.int .i64 1,.slice (some ⟨W0.heap.size,0,none⟩) 1 1].toArray 159))
 refine (zMa (n:=2) HE2.out.k (zab.of [(⟨1,1,[5]⟩,W0.heap.size),(⟨1,1,[5]⟩,W0.heap.size)] [.int .i64 1,.int .i64 1,.slice (some ⟨W0.heap.size,0,none⟩) 1 1,.int .i64 1,.int .i64 1,.slice (some ⟨W0.heap.size,0,none⟩) 1 1] rfl (Blk.new W3 _ _) (zfa HE2.out.f (by decide) (zfa HE2.out.f (by decide) zta))) rfl (by decide) hz HF.out).mono ?_
 rintro e w9 ⟨rfl,hb⟩
 have HB9:=zh (HE2.out.b.trans (hb.mono HE2.out.b.size))
 clear hb
 go_wp2_with fail
 go_ret
 exact ⟨rfl,HB9.out⟩
theorem zTq {w:World} {s:ByteArray} {nm:Int} {p:Nat} {ks:List T} {S:Nat→Prop} {kv:Value} (hk:KAt 25 w ks S kv) (h:Fit 22 ks) (hz:ks.length≤1000000) :
  Calls Tryz.prog 58 #[.agg #[.int .i64 22,.string s,.int .i64 nm,.int .i64 p,kv]] w fun e w'=>e=.returned (.bool true)∧Below w.heap.size w w':=by
 have HF:=zh (zod h (by omega))
 obtain ⟨W0,hW0,H0⟩:∃ W,w.alloc (.cells [.int .i64 22,.string s,.int .i64 nm,.int .i64 p,kv].toArray 25)=W∧Hid (Blk W w.heap.size [.int .i64 22,.string s,.int .i64 nm,.int .i64 p,kv] 25∧Below w.heap.size w W∧zeb W ks kv):=⟨_,rfl,zh ⟨Blk.new w _ _,(Below.refl _ _).alloc (Nat.le_refl _) _,(zeb.of hk).below ((Below.refl _ _).alloc (Nat.le_refl _) _)⟩⟩
 clear hk h
 go_enter Tryz.func58,Tryz.ntmps58
 go_wp2_with fail
 refine (one_any _ _ _).mono ?_
 rintro e w1 ⟨rfl,hb⟩
 have HX:=zh (show Blk w1 w.heap.size [.int .i64 22,.string s,.int .i64 nm,.int .i64 p,kv] 25∧Blk w1 W0.heap.size [.int .i64 5] 22∧zeb w1 ks kv∧Below w.heap.size w w1 from by
  have h0:=H0.out
  have hz0:=h0.2.1.size
  have ha:Below W0.heap.size W0 (W0.alloc (.cells [.int .i64 5].toArray 22)):=(Below.refl _ _).alloc (Nat.le_refl _) _
  exact ⟨(h0.1.stays ha).stays hb,(Blk.new W0 _ _).stays hb,(h0.2.2.below ha).below hb,h0.2.1.trans ((ha.trans (hb.mono ha.size)).mono hz0)⟩)
 clear hb
 obtain ⟨W3,hW3,HE⟩:∃ W,w1.alloc (.cells [.int .i64 1,.int .i64 1,.slice (some ⟨W0.heap.size,0,none⟩) 1 1].toArray 159)=W∧Hid (Wh w w.heap.size w1.heap.size W0.heap.size [.int .i64 22,.string s,.int .i64 nm,.int .i64 p,kv] ks kv W):=⟨_,rfl,zh ⟨HX.out.1.alloc _,Blk.new w1 _ _,HX.out.2.1.alloc _,HX.out.2.2.1.below ((Below.refl _ _).alloc (Nat.le_refl _) _),HX.out.2.2.2.alloc HX.out.2.2.2.size _⟩⟩
 have e0:W3.cell? ⟨w.heap.size,0,none⟩=some (.int .i64 22):=HE.out.q.cell 0
 have e4:W3.cell? ⟨w.heap.size,4,none⟩=some kv:=HE.out.q.cell 4
 have c0:W3.cell? ⟨w1.heap.size,0,none⟩=some (.int .i64 1):=HE.out.c.cell 0
 have c1:W3.cell? ⟨w1.heap.size,1,none⟩=some (.int .i64 1):=HE.out.c.cell 1
 have c2:W3.cell? ⟨w1.heap.size,2,none⟩=some (.slice (some ⟨W0.heap.size,0,none⟩) 1 1):=HE.out.c.cell 2
 go_wp2_with fail
 have HE2:=zh (HE.out.alloc (.cells [.int .i64 1,.int .i64 1,.slice (some ⟨W0.heap.size,0,none⟩) 1 1,.int .i64 1,.int .i64 1,.slice (some ⟨W0.heap.size,0,none⟩) 1 1].toArray 159))
 refine (zMa (n:=2) HE2.out.k (zab.of [(⟨1,1,[5]⟩,W0.heap.size),(⟨1,1,[5]⟩,W0.heap.size)] [.int .i64 1,.int .i64 1,.slice (some ⟨W0.heap.size,0,none⟩) 1 1,.int .i64 1,.int .i64 1,.slice (some ⟨W0.heap.size,0,none⟩) 1 1] rfl (Blk.new W3 _ _) (zfa HE2.out.f (by decide) (zfa HE2.out.f (by decide) zta))) rfl (by decide) hz HF.out).mono ?_
 rintro e w9 ⟨rfl,hb⟩
 have HB9:=zh (HE2.out.b.trans (hb.mono HE2.out.b.size))
 clear hb
 go_wp2_with fail
 go_ret
 exact ⟨rfl,HB9.out⟩
theorem zyq {w:World} {s:ByteArray} {nm:Int} {p:Nat} {ks:List T} {S:Nat→Prop} {kv:Value} (hk:KAt 25 w ks S kv) (h:Fit 25 ks) (hz:ks.length≤1000000) :
  Calls Tryz.prog 58 #[.agg #[.int .i64 25,.string s,.int .i64 nm,.int .i64 p,kv]] w fun e w'=>e=.returned (.bool true)∧Below w.heap.size w w':=by
 have HF:=zh (zKi h)
 obtain ⟨W0,hW0,H0⟩:∃ W,w.alloc (.cells [.int .i64 25,.string s,.int .i64 nm,.int .i64 p,kv].toArray 25)=W∧Hid (Blk W w.heap.size [.int .i64 25,.string s,.int .i64 nm,.int .i64 p,kv] 25∧Below w.heap.size w W∧zeb W ks kv):=⟨_,rfl,zh ⟨Blk.new w _ _,(Below.refl _ _).alloc (Nat.le_refl _) _,(zeb.of hk).below ((Below.refl _ _).alloc (Nat.le_refl _) _)⟩⟩
 clear hk h
 go_enter Tryz.func58,Tryz.ntmps58
 go_wp2_with fail
 refine (one_any _ _ _).mono ?_
 rintro e w1 ⟨rfl,hb⟩
 have HX:=zh (show Blk w1 w.heap.size [.int .i64 25,.string s,.int .i64 nm,.int .i64 p,kv] 25∧Blk w1 W0.heap.size [.int .i64 5] 22∧zeb w1 ks kv∧Below w.heap.size w w1 from by
  have h0:=H0.out
  have hz0:=h0.2.1.size
  have ha:Below W0.heap.size W0 (W0.alloc (.cells [.int .i64 5].toArray 22)):=(Below.refl _ _).alloc (Nat.le_refl _) _
  exact ⟨(h0.1.stays ha).stays hb,(Blk.new W0 _ _).stays hb,(h0.2.2.below ha).below hb,h0.2.1.trans ((ha.trans (hb.mono ha.size)).mono hz0)⟩)
 clear hb
 obtain ⟨W3,hW3,HE⟩:∃ W,w1.alloc (.cells [.int .i64 1,.int .i64 1,.slice (some ⟨W0.heap.size,0,none⟩) 1 1].toArray 159)=W∧Hid (Wh w w.heap.size w1.heap.size W0.heap.size [.int .i64 25,.string s,.int .i64 nm,.int .i64 p,kv] ks kv W):=⟨_,rfl,zh ⟨HX.out.1.alloc _,Blk.new w1 _ _,HX.out.2.1.alloc _,HX.out.2.2.1.below ((Below.refl _ _).alloc (Nat.le_refl _) _),HX.out.2.2.2.alloc HX.out.2.2.2.size _⟩⟩
 have e0:W3.cell? ⟨w.heap.size,0,none⟩=some (.int .i64 25):=HE.out.q.cell 0
 have e4:W3.cell? ⟨w.heap.size,4,none⟩=some kv:=HE.out.q.cell 4
 have c0:W3.cell? ⟨w1.heap.size,0,none⟩=some (.int .i64 1):=HE.out.c.cell 0
 have c1:W3.cell? ⟨w1.heap.size,1,none⟩=some (.int .i64 1):=HE.out.c.cell 1
 have c2:W3.cell? ⟨w1.heap.size,2,none⟩=some (.slice (some ⟨W0.heap.size,0,none⟩) 1 1):=HE.out.c.cell 2
 go_wp2_with fail
 have HE2:=zh (HE.out.alloc (.cells [.int .i64 1,.int .i64 1,.slice (some ⟨W0.heap.size,0,none⟩) 1 1].toArray 159))
 refine (zMa (n:=1) HE2.out.k (zab.of [(⟨1,1,[5]⟩,W0.heap.size)] [.int .i64 1,.int .i64 1,.slice (some ⟨W0.heap.size,0,none⟩) 1 1] rfl (Blk.new W3 _ _) (zfa HE2.out.f (by decide) zta)) rfl (by decide) hz HF.out).mono ?_
 rintro e w9 ⟨rfl,hb⟩
 have HB9:=zh (HE2.out.b.trans (hb.mono HE2.out.b.size))
 clear hb
 go_wp2_with fail
 go_ret
 exact ⟨rfl,HB9.out⟩
end Go.Proofs.YthdbmgijpelecaaGreatDoor
