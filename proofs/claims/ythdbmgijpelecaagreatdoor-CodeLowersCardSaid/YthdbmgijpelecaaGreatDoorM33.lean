/- The contract of lychgateref07.plain: the document's instruction of a statement without a block, by its kind. -/
import Derived.Test.YthdbmgijpelecaaGreatDoorM32
namespace Go.Proofs.YthdbmgijpelecaaGreatDoor
set_option maxRecDepth 100000
set_option maxHeartbeats 1000000
open Go.RowKit
structure zzk (w:World) (b3:Nat) (kc:List Value) (i:Ins) (x:Value) (W:World):Prop where
 n:Blk W w.heap.size kc 34
 r:∃ old,Blk W (w.heap.size+1) old 106∧old.length=11
 i:Blk W b3 (zea i x) 106
 b:Below w.heap.size w W
 l:w.heap.size+1<b3
section
variable {w W W':World} {b3:Nat} {x:Value} {kc:List Value} {i:Ins}
theorem zzk.call (h:zzk w b3 kc i x W) (hb:Below W.heap.size W W'):zzk w b3 kc i x W':=by
 obtain ⟨hk,⟨old,h1,h2⟩,hi,hb0,hl⟩:=h
 exact ⟨hk.stays hb,⟨old,h1.stays hb,h2⟩,hi.stays hb,hb0.trans (hb.mono hb0.size),hl⟩
theorem zzk.cell (h:zzk w b3 kc i x W) (o:Nat) (v:Value) {j:Ins} {y:Value} (he:(zea i x).set o v=zea j y):zzk w b3 kc j y (W.setCell ⟨b3,o,none⟩ v):=by
 obtain ⟨hk,⟨old,h1,h2⟩,hi,hb0,hl⟩:=h
 exact ⟨hk.setOther _ _ (by show w.heap.size≠b3;omega),⟨old,h1.setOther _ _ (by show w.heap.size+1≠b3;omega),h2⟩,he▸hi.zxa o v,hb0.setCell (by show w.heap.size≤b3;omega) v,hl⟩
theorem zzk.two (h:zzk w b3 kc i x W) (o:Nat) (v v':Value) {j:Ins} (he:((zea i x).set o v).set (o+1) v'=zea j x):zzk w b3 kc j x (W.setCells (b3) o [v,v']):=by
 obtain ⟨hk,⟨old,h1,h2⟩,hi,hb0,hl⟩:=h
 exact ⟨hk.zAc (by omega) o v v',⟨old,h1.zAc (by omega) o v v',h2⟩,he▸hi.zoc o v v',Below.cells2 hb0 (by omega) o v v',hl⟩
end
theorem zmp {w:World} {S:Nat→Prop} {kv:Value} {sf:ByteArray} {nf:Int} {pf:Nat} {ks:List T} (hk:KAt 34 w ks S kv) :
  Calls Tryz.prog 85 #[zma (.mk 12 sf nf pf ks) kv] w (zRb w (⟨7,pf,e0,sf,tm0,tm0,[],0,false⟩:Ins)):=by
 obtain ⟨ka,kn,kc,rfl⟩:=hk.slice
 have HK:=zh hk
 obtain ⟨W2,hW2,HN2,HI2,HB2,hz2⟩:∃ W,(w.alloc (.cells [.int .i64 12,.string sf,.int .i64 nf,.int .i64 pf,.slice ka kn kc].toArray 34)).alloc (.cells [.int .i64 0,.int .i64 0,.string ⟨#[]⟩,.string ⟨#[]⟩,.string ⟨#[]⟩,.int .i64 0,.string ⟨#[]⟩,.int .i64 0,.slice none 0 0,.int .i64 0,.bool false].toArray 106)=W∧Hid (Blk W w.heap.size [.int .i64 12,.string sf,.int .i64 nf,.int .i64 pf,.slice ka kn kc] 34)∧Hid (Blk W (w.heap.size+1) [.int .i64 0,.int .i64 0,.string ⟨#[]⟩,.string ⟨#[]⟩,.string ⟨#[]⟩,.int .i64 0,.string ⟨#[]⟩,.int .i64 0,.slice none 0 0,.int .i64 0,.bool false] 106)∧Hid (Below w.heap.size w W)∧W.heap.size=w.heap.size+1+1 :=
  ⟨_,rfl,zh ((Blk.new w _ _).alloc _),zh (Blk.zpc w _ _ _),zh (((Below.refl _ _).alloc (Nat.le_refl _) _).alloc (by simp) _),by simp⟩
 obtain ⟨W3,hW3⟩:∃ W,W2.alloc (.cells [.int .i64 0,.int .i64 pf,.string ⟨#[]⟩,.string sf,.string ⟨#[]⟩,.int .i64 0,.string ⟨#[]⟩,.int .i64 0,.slice none 0 0,.int .i64 0,.bool false].toArray 106)=W:=⟨_,rfl⟩
 have hb3:Below W2.heap.size W2 W3:=hW3▸(Below.refl _ _).alloc (Nat.le_refl _) _
 have HS:=zh (show zzk w W2.heap.size [.int .i64 12,.string sf,.int .i64 nf,.int .i64 pf,.slice ka kn kc] (⟨0,pf,e0,sf,tm0,tm0,[],0,false⟩:Ins) (.slice none 0 0) W3 from
  ⟨HN2.out.stays hb3,⟨_,HI2.out.stays hb3,rfl⟩,show Blk W3 W2.heap.size _ 106 from hW3▸Blk.new W2 [.int .i64 0,.int .i64 pf,.string ⟨#[]⟩,.string sf,.string ⟨#[]⟩,.int .i64 0,.string ⟨#[]⟩,.int .i64 0,.slice none 0 0,.int .i64 0,.bool false] 106,HB2.out.trans (hb3.mono HB2.out.size),by omega⟩)
 have x1:W2.cell? ⟨w.heap.size,1,none⟩=some (.string sf):=HN2.out.cell 1
 have x3:W2.cell? ⟨w.heap.size,3,none⟩=some (.int .i64 pf):=HN2.out.cell 3
 have z0:W3.cell? ⟨w.heap.size,0,none⟩=some (.int .i64 12):=HS.out.n.cell 0
 have c0:W3.cell? ⟨W2.heap.size,0,none⟩=some (.int .i64 0):=HS.out.i.cell 0
 have f0:=HS.out.i.frozen 0
 clear hk hb3 hz2
 unfold zma
 simp only [zRa,zXa,zBb,zJa]
 have HS5:=zh (HS.out.cell 0 (.int .i64 7) (j:=(⟨7,pf,e0,sf,tm0,tm0,[],0,false⟩:Ins)) (y:=.slice none 0 0) rfl)
 obtain ⟨old,ho,hol⟩:=HS5.out.r
 have HO:=zh ho
 have HOL:=zh hol
 clear ho hol
 go_enter Tryz.func85,Tryz.ntmps85
 go_wp2_with (first
  | ((with_reducible refine zla 106 (.tmp 3) ?_);refine zga rfl 106 (.tmp 3) (.tmp 8) rfl [.int .i64 0,.int .i64 pf,.string ⟨#[]⟩,.string sf,.string ⟨#[]⟩,.int .i64 0,.string ⟨#[]⟩,.int .i64 0,.slice none 0 0,.int .i64 0,.bool false] (old:=zea zFf (.slice none 0 0)) rfl rfl Tryz.zua rfl (zna (⟨0,pf,e0,sf,tm0,tm0,[],0,false⟩:Ins) (.slice none 0 0) rfl) ?_)
  | ((with_reducible refine zra 106 (.tmp 3) ?_);refine zja rfl 106 (.tmp 3) rfl W2.heap.size (zea (⟨7,pf,e0,sf,tm0,tm0,[],0,false⟩:Ins) (.slice none 0 0)) rfl HS5.out.i Tryz.underlying106 rfl Tryz.zua ?_)
  | ((with_reducible refine zla 106 (.tmp 2) ?_);refine zca rfl 106 (.tmp 2) (.tmp 89) rfl (w.heap.size+1) (zea (⟨7,pf,e0,sf,tm0,tm0,[],0,false⟩:Ins) (.slice none 0 0)) rfl rfl HO.out Tryz.zua HOL.out (zna (⟨7,pf,e0,sf,tm0,tm0,[],0,false⟩:Ins) (.slice none 0 0) rfl) ?_))
 exact zka (cs:=zea (⟨7,pf,e0,sf,tm0,tm0,[],0,false⟩:Ins) (.slice none 0 0)) Tryz.results85 rfl HO.out Tryz.underlying106 rfl Tryz.zua rfl ⟨_,rfl,zEa.nil _ _,Below.row HS5.out.b (by omega) _⟩
theorem zKo {w:World} {S:Nat→Prop} {kv:Value} {sf:ByteArray} {nf:Int} {pf:Nat} {ks:List T} (hk:KAt 34 w ks S kv) :
  Calls Tryz.prog 85 #[zma (.mk 13 sf nf pf ks) kv] w (zRb w (⟨8,pf,e0,sf,⟨e0,nf⟩,tm0,[],0,false⟩:Ins)):=by
 obtain ⟨ka,kn,kc,rfl⟩:=hk.slice
 have HK:=zh hk
 obtain ⟨W2,hW2,HN2,HI2,HB2,hz2⟩:∃ W,(w.alloc (.cells [.int .i64 13,.string sf,.int .i64 nf,.int .i64 pf,.slice ka kn kc].toArray 34)).alloc (.cells [.int .i64 0,.int .i64 0,.string ⟨#[]⟩,.string ⟨#[]⟩,.string ⟨#[]⟩,.int .i64 0,.string ⟨#[]⟩,.int .i64 0,.slice none 0 0,.int .i64 0,.bool false].toArray 106)=W∧Hid (Blk W w.heap.size [.int .i64 13,.string sf,.int .i64 nf,.int .i64 pf,.slice ka kn kc] 34)∧Hid (Blk W (w.heap.size+1) [.int .i64 0,.int .i64 0,.string ⟨#[]⟩,.string ⟨#[]⟩,.string ⟨#[]⟩,.int .i64 0,.string ⟨#[]⟩,.int .i64 0,.slice none 0 0,.int .i64 0,.bool false] 106)∧Hid (Below w.heap.size w W)∧W.heap.size=w.heap.size+1+1 :=
  ⟨_,rfl,zh ((Blk.new w _ _).alloc _),zh (Blk.zpc w _ _ _),zh (((Below.refl _ _).alloc (Nat.le_refl _) _).alloc (by simp) _),by simp⟩
 obtain ⟨W3,hW3⟩:∃ W,W2.alloc (.cells [.int .i64 0,.int .i64 pf,.string ⟨#[]⟩,.string sf,.string ⟨#[]⟩,.int .i64 0,.string ⟨#[]⟩,.int .i64 0,.slice none 0 0,.int .i64 0,.bool false].toArray 106)=W:=⟨_,rfl⟩
 have hb3:Below W2.heap.size W2 W3:=hW3▸(Below.refl _ _).alloc (Nat.le_refl _) _
 have HS:=zh (show zzk w W2.heap.size [.int .i64 13,.string sf,.int .i64 nf,.int .i64 pf,.slice ka kn kc] (⟨0,pf,e0,sf,tm0,tm0,[],0,false⟩:Ins) (.slice none 0 0) W3 from
  ⟨HN2.out.stays hb3,⟨_,HI2.out.stays hb3,rfl⟩,show Blk W3 W2.heap.size _ 106 from hW3▸Blk.new W2 [.int .i64 0,.int .i64 pf,.string ⟨#[]⟩,.string sf,.string ⟨#[]⟩,.int .i64 0,.string ⟨#[]⟩,.int .i64 0,.slice none 0 0,.int .i64 0,.bool false] 106,HB2.out.trans (hb3.mono HB2.out.size),by omega⟩)
 have x1:W2.cell? ⟨w.heap.size,1,none⟩=some (.string sf):=HN2.out.cell 1
 have x3:W2.cell? ⟨w.heap.size,3,none⟩=some (.int .i64 pf):=HN2.out.cell 3
 have z0:W3.cell? ⟨w.heap.size,0,none⟩=some (.int .i64 13):=HS.out.n.cell 0
 have c0:W3.cell? ⟨W2.heap.size,0,none⟩=some (.int .i64 0):=HS.out.i.cell 0
 have f0:=HS.out.i.frozen 0
 clear hk hb3 hz2
 unfold zma
 simp only [zRa,zXa,zBb,zJa]
 have HS5:=zh (HS.out.cell 0 (.int .i64 8) (j:=(⟨8,pf,e0,sf,tm0,tm0,[],0,false⟩:Ins)) (y:=.slice none 0 0) rfl)
 have q2:(W3.setCell ⟨W2.heap.size,0,none⟩ (.int .i64 8)).cell? ⟨w.heap.size,2,none⟩=some (.int .i64 nf):=HS5.out.n.cell 2
 have HS6:=zh (HS5.out.two 4 (.string ⟨#[]⟩) (.int .i64 nf) (j:=(⟨8,pf,e0,sf,⟨e0,nf⟩,tm0,[],0,false⟩:Ins)) rfl)
 obtain ⟨old,ho,hol⟩:=HS6.out.r
 have HO:=zh ho
 have HOL:=zh hol
 clear ho hol
 go_enter Tryz.func85,Tryz.ntmps85
 go_wp2_with (first
  | ((with_reducible refine zla 106 (.tmp 3) ?_);refine zga rfl 106 (.tmp 3) (.tmp 8) rfl [.int .i64 0,.int .i64 pf,.string ⟨#[]⟩,.string sf,.string ⟨#[]⟩,.int .i64 0,.string ⟨#[]⟩,.int .i64 0,.slice none 0 0,.int .i64 0,.bool false] (old:=zea zFf (.slice none 0 0)) rfl rfl Tryz.zua rfl (zna (⟨0,pf,e0,sf,tm0,tm0,[],0,false⟩:Ins) (.slice none 0 0) rfl) ?_)
  | ((with_reducible refine zla 103 (.tmp 39) ?_);refine wpList_store_mid rfl 103 (.tmp 39) (.tmp 38) rfl W2.heap.size 4 #[.string ⟨#[]⟩,.int .i64 nf] rfl rfl (HS5.out.i.zGc 4 2 (show 4+2≤11 by omega)) Tryz.zlb (all_oneCell_toArray (zGd ⟨e0,nf⟩)) ?_)
  | ((with_reducible refine zra 106 (.tmp 3) ?_);refine zja rfl 106 (.tmp 3) rfl W2.heap.size (zea (⟨8,pf,e0,sf,⟨e0,nf⟩,tm0,[],0,false⟩:Ins) (.slice none 0 0)) rfl HS6.out.i Tryz.underlying106 rfl Tryz.zua ?_)
  | ((with_reducible refine zla 106 (.tmp 2) ?_);refine zca rfl 106 (.tmp 2) (.tmp 89) rfl (w.heap.size+1) (zea (⟨8,pf,e0,sf,⟨e0,nf⟩,tm0,[],0,false⟩:Ins) (.slice none 0 0)) rfl rfl HO.out Tryz.zua HOL.out (zna (⟨8,pf,e0,sf,⟨e0,nf⟩,tm0,[],0,false⟩:Ins) (.slice none 0 0) rfl) ?_))
 exact zka (cs:=zea (⟨8,pf,e0,sf,⟨e0,nf⟩,tm0,[],0,false⟩:Ins) (.slice none 0 0)) Tryz.results85 rfl HO.out Tryz.underlying106 rfl Tryz.zua rfl ⟨_,rfl,zEa.nil _ _,Below.row HS6.out.b (by omega) _⟩
theorem zuo {w:World} {S:Nat→Prop} {kv:Value} {sf:ByteArray} {nf:Int} {pf:Nat} {ks:List T} (hk:KAt 34 w ks S kv) :
  Calls Tryz.prog 85 #[zma (.mk 14 sf nf pf ks) kv] w (zRb w (⟨9,pf,e0,sf,⟨e0,nf⟩,tm0,[],0,false⟩:Ins)):=by
 obtain ⟨ka,kn,kc,rfl⟩:=hk.slice
 have HK:=zh hk
 obtain ⟨W2,hW2,HN2,HI2,HB2,hz2⟩:∃ W,(w.alloc (.cells [.int .i64 14,.string sf,.int .i64 nf,.int .i64 pf,.slice ka kn kc].toArray 34)).alloc (.cells [.int .i64 0,.int .i64 0,.string ⟨#[]⟩,.string ⟨#[]⟩,.string ⟨#[]⟩,.int .i64 0,.string ⟨#[]⟩,.int .i64 0,.slice none 0 0,.int .i64 0,.bool false].toArray 106)=W∧Hid (Blk W w.heap.size [.int .i64 14,.string sf,.int .i64 nf,.int .i64 pf,.slice ka kn kc] 34)∧Hid (Blk W (w.heap.size+1) [.int .i64 0,.int .i64 0,.string ⟨#[]⟩,.string ⟨#[]⟩,.string ⟨#[]⟩,.int .i64 0,.string ⟨#[]⟩,.int .i64 0,.slice none 0 0,.int .i64 0,.bool false] 106)∧Hid (Below w.heap.size w W)∧W.heap.size=w.heap.size+1+1 :=
  ⟨_,rfl,zh ((Blk.new w _ _).alloc _),zh (Blk.zpc w _ _ _),zh (((Below.refl _ _).alloc (Nat.le_refl _) _).alloc (by simp) _),by simp⟩
 obtain ⟨W3,hW3⟩:∃ W,W2.alloc (.cells [.int .i64 0,.int .i64 pf,.string ⟨#[]⟩,.string sf,.string ⟨#[]⟩,.int .i64 0,.string ⟨#[]⟩,.int .i64 0,.slice none 0 0,.int .i64 0,.bool false].toArray 106)=W:=⟨_,rfl⟩
 have hb3:Below W2.heap.size W2 W3:=hW3▸(Below.refl _ _).alloc (Nat.le_refl _) _
 have HS:=zh (show zzk w W2.heap.size [.int .i64 14,.string sf,.int .i64 nf,.int .i64 pf,.slice ka kn kc] (⟨0,pf,e0,sf,tm0,tm0,[],0,false⟩:Ins) (.slice none 0 0) W3 from
  ⟨HN2.out.stays hb3,⟨_,HI2.out.stays hb3,rfl⟩,show Blk W3 W2.heap.size _ 106 from hW3▸Blk.new W2 [.int .i64 0,.int .i64 pf,.string ⟨#[]⟩,.string sf,.string ⟨#[]⟩,.int .i64 0,.string ⟨#[]⟩,.int .i64 0,.slice none 0 0,.int .i64 0,.bool false] 106,HB2.out.trans (hb3.mono HB2.out.size),by omega⟩)
 have x1:W2.cell? ⟨w.heap.size,1,none⟩=some (.string sf):=HN2.out.cell 1
 have x3:W2.cell? ⟨w.heap.size,3,none⟩=some (.int .i64 pf):=HN2.out.cell 3
 have z0:W3.cell? ⟨w.heap.size,0,none⟩=some (.int .i64 14):=HS.out.n.cell 0
 have c0:W3.cell? ⟨W2.heap.size,0,none⟩=some (.int .i64 0):=HS.out.i.cell 0
 have f0:=HS.out.i.frozen 0
 clear hk hb3 hz2
 unfold zma
 simp only [zRa,zXa,zBb,zJa]
 have HS5:=zh (HS.out.cell 0 (.int .i64 9) (j:=(⟨9,pf,e0,sf,tm0,tm0,[],0,false⟩:Ins)) (y:=.slice none 0 0) rfl)
 have q2:(W3.setCell ⟨W2.heap.size,0,none⟩ (.int .i64 9)).cell? ⟨w.heap.size,2,none⟩=some (.int .i64 nf):=HS5.out.n.cell 2
 have HS6:=zh (HS5.out.two 4 (.string ⟨#[]⟩) (.int .i64 nf) (j:=(⟨9,pf,e0,sf,⟨e0,nf⟩,tm0,[],0,false⟩:Ins)) rfl)
 obtain ⟨old,ho,hol⟩:=HS6.out.r
 have HO:=zh ho
 have HOL:=zh hol
 clear ho hol
 go_enter Tryz.func85,Tryz.ntmps85
 go_wp2_with (first
  | ((with_reducible refine zla 106 (.tmp 3) ?_);refine zga rfl 106 (.tmp 3) (.tmp 8) rfl [.int .i64 0,.int .i64 pf,.string ⟨#[]⟩,.string sf,.string ⟨#[]⟩,.int .i64 0,.string ⟨#[]⟩,.int .i64 0,.slice none 0 0,.int .i64 0,.bool false] (old:=zea zFf (.slice none 0 0)) rfl rfl Tryz.zua rfl (zna (⟨0,pf,e0,sf,tm0,tm0,[],0,false⟩:Ins) (.slice none 0 0) rfl) ?_)
  | ((with_reducible refine zla 103 (.tmp 46) ?_);refine wpList_store_mid rfl 103 (.tmp 46) (.tmp 45) rfl W2.heap.size 4 #[.string ⟨#[]⟩,.int .i64 nf] rfl rfl (HS5.out.i.zGc 4 2 (show 4+2≤11 by omega)) Tryz.zlb (all_oneCell_toArray (zGd ⟨e0,nf⟩)) ?_)
  | ((with_reducible refine zra 106 (.tmp 3) ?_);refine zja rfl 106 (.tmp 3) rfl W2.heap.size (zea (⟨9,pf,e0,sf,⟨e0,nf⟩,tm0,[],0,false⟩:Ins) (.slice none 0 0)) rfl HS6.out.i Tryz.underlying106 rfl Tryz.zua ?_)
  | ((with_reducible refine zla 106 (.tmp 2) ?_);refine zca rfl 106 (.tmp 2) (.tmp 89) rfl (w.heap.size+1) (zea (⟨9,pf,e0,sf,⟨e0,nf⟩,tm0,[],0,false⟩:Ins) (.slice none 0 0)) rfl rfl HO.out Tryz.zua HOL.out (zna (⟨9,pf,e0,sf,⟨e0,nf⟩,tm0,[],0,false⟩:Ins) (.slice none 0 0) rfl) ?_))
 exact zka (cs:=zea (⟨9,pf,e0,sf,⟨e0,nf⟩,tm0,[],0,false⟩:Ins) (.slice none 0 0)) Tryz.results85 rfl HO.out Tryz.underlying106 rfl Tryz.zua rfl ⟨_,rfl,zEa.nil _ _,Below.row HS6.out.b (by omega) _⟩
theorem zDp {w:World} {S:Nat→Prop} {kv:Value} {sf:ByteArray} {nf:Int} {pf:Nat} {ks:List T} (hk:KAt 34 w ks S kv) :
  Calls Tryz.prog 85 #[zma (.mk 18 sf nf pf ks) kv] w (zRb w (⟨15,pf,e0,e0,tm0,tm0,[],0,false⟩:Ins)):=by
 obtain ⟨ka,kn,kc,rfl⟩:=hk.slice
 have HK:=zh hk
 obtain ⟨W2,hW2,HN2,HI2,HB2,hz2⟩:∃ W,(w.alloc (.cells [.int .i64 18,.string sf,.int .i64 nf,.int .i64 pf,.slice ka kn kc].toArray 34)).alloc (.cells [.int .i64 0,.int .i64 0,.string ⟨#[]⟩,.string ⟨#[]⟩,.string ⟨#[]⟩,.int .i64 0,.string ⟨#[]⟩,.int .i64 0,.slice none 0 0,.int .i64 0,.bool false].toArray 106)=W∧Hid (Blk W w.heap.size [.int .i64 18,.string sf,.int .i64 nf,.int .i64 pf,.slice ka kn kc] 34)∧Hid (Blk W (w.heap.size+1) [.int .i64 0,.int .i64 0,.string ⟨#[]⟩,.string ⟨#[]⟩,.string ⟨#[]⟩,.int .i64 0,.string ⟨#[]⟩,.int .i64 0,.slice none 0 0,.int .i64 0,.bool false] 106)∧Hid (Below w.heap.size w W)∧W.heap.size=w.heap.size+1+1 :=
  ⟨_,rfl,zh ((Blk.new w _ _).alloc _),zh (Blk.zpc w _ _ _),zh (((Below.refl _ _).alloc (Nat.le_refl _) _).alloc (by simp) _),by simp⟩
 obtain ⟨W3,hW3⟩:∃ W,W2.alloc (.cells [.int .i64 0,.int .i64 pf,.string ⟨#[]⟩,.string sf,.string ⟨#[]⟩,.int .i64 0,.string ⟨#[]⟩,.int .i64 0,.slice none 0 0,.int .i64 0,.bool false].toArray 106)=W:=⟨_,rfl⟩
 have hb3:Below W2.heap.size W2 W3:=hW3▸(Below.refl _ _).alloc (Nat.le_refl _) _
 have HS:=zh (show zzk w W2.heap.size [.int .i64 18,.string sf,.int .i64 nf,.int .i64 pf,.slice ka kn kc] (⟨0,pf,e0,sf,tm0,tm0,[],0,false⟩:Ins) (.slice none 0 0) W3 from
  ⟨HN2.out.stays hb3,⟨_,HI2.out.stays hb3,rfl⟩,show Blk W3 W2.heap.size _ 106 from hW3▸Blk.new W2 [.int .i64 0,.int .i64 pf,.string ⟨#[]⟩,.string sf,.string ⟨#[]⟩,.int .i64 0,.string ⟨#[]⟩,.int .i64 0,.slice none 0 0,.int .i64 0,.bool false] 106,HB2.out.trans (hb3.mono HB2.out.size),by omega⟩)
 have x1:W2.cell? ⟨w.heap.size,1,none⟩=some (.string sf):=HN2.out.cell 1
 have x3:W2.cell? ⟨w.heap.size,3,none⟩=some (.int .i64 pf):=HN2.out.cell 3
 have z0:W3.cell? ⟨w.heap.size,0,none⟩=some (.int .i64 18):=HS.out.n.cell 0
 have c0:W3.cell? ⟨W2.heap.size,0,none⟩=some (.int .i64 0):=HS.out.i.cell 0
 have f0:=HS.out.i.frozen 0
 clear hk hb3 hz2
 unfold zma
 simp only [zRa,zXa,zBb,zJa]
 have HS5:=zh (HS.out.cell 0 (.int .i64 15) (j:=(⟨15,pf,e0,sf,tm0,tm0,[],0,false⟩:Ins)) (y:=.slice none 0 0) rfl)
 have c3:(W3.setCell ⟨W2.heap.size,0,none⟩ (.int .i64 15)).cell? ⟨W2.heap.size,3,none⟩=some (.string sf):=HS5.out.i.cell 3
 have f3:=HS5.out.i.frozen 3
 have HS6:=zh (HS5.out.cell 3 (.string ⟨#[]⟩) (j:=(⟨15,pf,e0,e0,tm0,tm0,[],0,false⟩:Ins)) (y:=.slice none 0 0) rfl)
 obtain ⟨old,ho,hol⟩:=HS6.out.r
 have HO:=zh ho
 have HOL:=zh hol
 clear ho hol
 go_enter Tryz.func85,Tryz.ntmps85
 go_wp2_with (first
  | ((with_reducible refine zla 106 (.tmp 3) ?_);refine zga rfl 106 (.tmp 3) (.tmp 8) rfl [.int .i64 0,.int .i64 pf,.string ⟨#[]⟩,.string sf,.string ⟨#[]⟩,.int .i64 0,.string ⟨#[]⟩,.int .i64 0,.slice none 0 0,.int .i64 0,.bool false] (old:=zea zFf (.slice none 0 0)) rfl rfl Tryz.zua rfl (zna (⟨0,pf,e0,sf,tm0,tm0,[],0,false⟩:Ins) (.slice none 0 0) rfl) ?_)
  | ((with_reducible refine zra 106 (.tmp 3) ?_);refine zja rfl 106 (.tmp 3) rfl W2.heap.size (zea (⟨15,pf,e0,e0,tm0,tm0,[],0,false⟩:Ins) (.slice none 0 0)) rfl HS6.out.i Tryz.underlying106 rfl Tryz.zua ?_)
  | ((with_reducible refine zla 106 (.tmp 2) ?_);refine zca rfl 106 (.tmp 2) (.tmp 89) rfl (w.heap.size+1) (zea (⟨15,pf,e0,e0,tm0,tm0,[],0,false⟩:Ins) (.slice none 0 0)) rfl rfl HO.out Tryz.zua HOL.out (zna (⟨15,pf,e0,e0,tm0,tm0,[],0,false⟩:Ins) (.slice none 0 0) rfl) ?_))
 exact zka (cs:=zea (⟨15,pf,e0,e0,tm0,tm0,[],0,false⟩:Ins) (.slice none 0 0)) Tryz.results85 rfl HO.out Tryz.underlying106 rfl Tryz.zua rfl ⟨_,rfl,zEa.nil _ _,Below.row HS6.out.b (by omega) _⟩
theorem ztp {w:World} {S:Nat→Prop} {kv:Value} {sf:ByteArray} {nf:Int} {pf:Nat} {k0 k1:T} (hk:KAt 34 w [k0,k1] S kv) :
  Calls Tryz.prog 85 #[zma (.mk 11 sf nf pf [k0,k1]) kv] w (zRb w (⟨6,pf,e0,sf,zDa k0,zDa k1,[],0,false⟩:Ins)):=by
 rcases hk.form with ⟨_,hnil⟩|⟨g2,cap2,rfl,hg2,hcap2,hcm2,hget2⟩
 ·cases hnil
 have e2:2≤cap2:=hcap2
 obtain ⟨ua,hra,hta⟩:=hget2 0 k0 rfl
 have HR0:=zh (show w.rangeAt g2 0 (zaa k0 ua) from hra)
 have HT0:=zh hta
 clear hra hta
 obtain ⟨ub,hrb,_⟩:=hget2 1 k1 rfl
 have HR1:=zh (show w.rangeAt g2 5 (zaa k1 ub) from hrb)
 clear hrb
 clear hget2 hcap2
 unfold maxLen at hcm2
 have HK:=zh hk
 obtain ⟨W2,hW2,HN2,HI2,HB2,hz2⟩:∃ W,(w.alloc (.cells [.int .i64 11,.string sf,.int .i64 nf,.int .i64 pf,.slice (some ⟨g2,0,none⟩) 2 cap2].toArray 34)).alloc (.cells [.int .i64 0,.int .i64 0,.string ⟨#[]⟩,.string ⟨#[]⟩,.string ⟨#[]⟩,.int .i64 0,.string ⟨#[]⟩,.int .i64 0,.slice none 0 0,.int .i64 0,.bool false].toArray 106)=W∧Hid (Blk W w.heap.size [.int .i64 11,.string sf,.int .i64 nf,.int .i64 pf,.slice (some ⟨g2,0,none⟩) 2 cap2] 34)∧Hid (Blk W (w.heap.size+1) [.int .i64 0,.int .i64 0,.string ⟨#[]⟩,.string ⟨#[]⟩,.string ⟨#[]⟩,.int .i64 0,.string ⟨#[]⟩,.int .i64 0,.slice none 0 0,.int .i64 0,.bool false] 106)∧Hid (Below w.heap.size w W)∧W.heap.size=w.heap.size+1+1 :=
  ⟨_,rfl,zh ((Blk.new w _ _).alloc _),zh (Blk.zpc w _ _ _),zh (((Below.refl _ _).alloc (Nat.le_refl _) _).alloc (by simp) _),by simp⟩
 obtain ⟨W3,hW3⟩:∃ W,W2.alloc (.cells [.int .i64 0,.int .i64 pf,.string ⟨#[]⟩,.string sf,.string ⟨#[]⟩,.int .i64 0,.string ⟨#[]⟩,.int .i64 0,.slice none 0 0,.int .i64 0,.bool false].toArray 106)=W:=⟨_,rfl⟩
 have hb3:Below W2.heap.size W2 W3:=hW3▸(Below.refl _ _).alloc (Nat.le_refl _) _
 have HS:=zh (show zzk w W2.heap.size [.int .i64 11,.string sf,.int .i64 nf,.int .i64 pf,.slice (some ⟨g2,0,none⟩) 2 cap2] (⟨0,pf,e0,sf,tm0,tm0,[],0,false⟩:Ins) (.slice none 0 0) W3 from
  ⟨HN2.out.stays hb3,⟨_,HI2.out.stays hb3,rfl⟩,show Blk W3 W2.heap.size _ 106 from hW3▸Blk.new W2 [.int .i64 0,.int .i64 pf,.string ⟨#[]⟩,.string sf,.string ⟨#[]⟩,.int .i64 0,.string ⟨#[]⟩,.int .i64 0,.slice none 0 0,.int .i64 0,.bool false] 106,HB2.out.trans (hb3.mono HB2.out.size),by omega⟩)
 have x1:W2.cell? ⟨w.heap.size,1,none⟩=some (.string sf):=HN2.out.cell 1
 have x3:W2.cell? ⟨w.heap.size,3,none⟩=some (.int .i64 pf):=HN2.out.cell 3
 have z0:W3.cell? ⟨w.heap.size,0,none⟩=some (.int .i64 11):=HS.out.n.cell 0
 have c0:W3.cell? ⟨W2.heap.size,0,none⟩=some (.int .i64 0):=HS.out.i.cell 0
 have f0:=HS.out.i.frozen 0
 clear hk hb3 hz2
 unfold zma
 simp only [zRa,zXa,zBb,zJa]
 have HS5:=zh (HS.out.cell 0 (.int .i64 6) (j:=(⟨6,pf,e0,sf,tm0,tm0,[],0,false⟩:Ins)) (y:=.slice none 0 0) rfl)
 have q4:(W3.setCell ⟨W2.heap.size,0,none⟩ (.int .i64 6)).cell? ⟨w.heap.size,4,none⟩=some (.slice (some ⟨g2,0,none⟩) 2 cap2):=HS5.out.n.cell 4
 have HRA:=zh (show (W3.setCell ⟨W2.heap.size,0,none⟩ (.int .i64 6)).rangeAt g2 0 (zaa k0 ua) from zpa HR0.out HS5.out.b hg2)
 go_enter Tryz.func85,Tryz.ntmps85
 go_wp2_with (first
  | ((with_reducible refine zla 106 (.tmp 3) ?_);refine zga rfl 106 (.tmp 3) (.tmp 8) rfl [.int .i64 0,.int .i64 pf,.string ⟨#[]⟩,.string sf,.string ⟨#[]⟩,.int .i64 0,.string ⟨#[]⟩,.int .i64 0,.slice none 0 0,.int .i64 0,.bool false] (old:=zea zFf (.slice none 0 0)) rfl rfl Tryz.zua rfl (zna (⟨0,pf,e0,sf,tm0,tm0,[],0,false⟩:Ins) (.slice none 0 0) rfl) ?_)
  | ((with_reducible refine zra 34 (.tmp 20) ?_);refine wpList_load_mid rfl 34 (.tmp 20) rfl g2 0 rfl (zaa k0 ua) _ HRA.out Tryz.underlying34 rfl Tryz.zGa ?_))
 refine (zuf _ k0 ua).mono ?_
 rintro e w1 ⟨rfl,hb1⟩
 have HS6:=zh (HS5.out.call hb1)
 have HS7:=zh (HS6.out.two 4 (.string k0.text) (.int .i64 k0.num) (j:=(⟨6,pf,e0,sf,zDa k0,tm0,[],0,false⟩:Ins)) rfl)
 have m4:(w1.setCells W2.heap.size 4 [.string k0.text,.int .i64 k0.num]).cell? ⟨w.heap.size,4,none⟩=some (.slice (some ⟨g2,0,none⟩) 2 cap2):=HS7.out.n.cell 4
 have HRC:=zh (show (w1.setCells W2.heap.size 4 [.string k0.text,.int .i64 k0.num]).rangeAt g2 5 (zaa k1 ub) from zpa HR1.out HS7.out.b hg2)
 clear hb1
 go_wp2_with (first
  | ((with_reducible refine zla 103 (.tmp 23) ?_);refine wpList_store_mid rfl 103 (.tmp 23) (.tmp 22) rfl W2.heap.size 4 #[.string k0.text,.int .i64 k0.num] rfl rfl (HS6.out.i.zGc 4 2 (show 4+2≤11 by omega)) Tryz.zlb (all_oneCell_toArray (zGd (zDa k0))) ?_)
  | ((with_reducible refine zra 34 (.tmp 26) ?_);refine wpList_load_mid rfl 34 (.tmp 26) rfl g2 5 rfl (zaa k1 ub) _ HRC.out Tryz.underlying34 rfl Tryz.zGa ?_))
 refine (zuf _ k1 ub).mono ?_
 rintro e w2 ⟨rfl,hb2⟩
 have HS8:=zh (HS7.out.call hb2)
 have HS9:=zh (HS8.out.two 6 (.string k1.text) (.int .i64 k1.num) (j:=(⟨6,pf,e0,sf,zDa k0,zDa k1,[],0,false⟩:Ins)) rfl)
 clear hb2
 obtain ⟨old,ho,hol⟩:=HS9.out.r
 have HO:=zh ho
 have HOL:=zh hol
 clear ho hol
 go_wp2_with (first
  | ((with_reducible refine zla 103 (.tmp 29) ?_);refine wpList_store_mid rfl 103 (.tmp 29) (.tmp 28) rfl W2.heap.size 6 #[.string k1.text,.int .i64 k1.num] rfl rfl (HS8.out.i.zGc 6 2 (show 6+2≤11 by omega)) Tryz.zlb (all_oneCell_toArray (zGd (zDa k1))) ?_)
  | ((with_reducible refine zra 106 (.tmp 3) ?_);refine zja rfl 106 (.tmp 3) rfl W2.heap.size (zea (⟨6,pf,e0,sf,zDa k0,zDa k1,[],0,false⟩:Ins) (.slice none 0 0)) rfl HS9.out.i Tryz.underlying106 rfl Tryz.zua ?_)
  | ((with_reducible refine zla 106 (.tmp 2) ?_);refine zca rfl 106 (.tmp 2) (.tmp 89) rfl (w.heap.size+1) (zea (⟨6,pf,e0,sf,zDa k0,zDa k1,[],0,false⟩:Ins) (.slice none 0 0)) rfl rfl HO.out Tryz.zua HOL.out (zna (⟨6,pf,e0,sf,zDa k0,zDa k1,[],0,false⟩:Ins) (.slice none 0 0) rfl) ?_))
 exact zka (cs:=zea (⟨6,pf,e0,sf,zDa k0,zDa k1,[],0,false⟩:Ins) (.slice none 0 0)) Tryz.results85 rfl HO.out Tryz.underlying106 rfl Tryz.zua rfl ⟨_,rfl,zEa.nil _ _,Below.row HS9.out.b (by omega) _⟩
theorem zfq {w:World} {S:Nat→Prop} {kv:Value} {sf:ByteArray} {nf:Int} {pf:Nat} {ks:List T} (hk:KAt 34 w ks S kv) (hl:ks.length≤5000) :
  Calls Tryz.prog 85 #[zma (.mk 19 sf nf pf ks) kv] w (zRb w (⟨13,pf,e0,sf,tm0,tm0,ks.map zDa,0,false⟩:Ins)):=by
 obtain ⟨ka,kn,kc,rfl⟩:=hk.slice
 have HK:=zh hk
 obtain ⟨W2,hW2,HN2,HI2,HB2,hz2⟩:∃ W,(w.alloc (.cells [.int .i64 19,.string sf,.int .i64 nf,.int .i64 pf,.slice ka kn kc].toArray 34)).alloc (.cells [.int .i64 0,.int .i64 0,.string ⟨#[]⟩,.string ⟨#[]⟩,.string ⟨#[]⟩,.int .i64 0,.string ⟨#[]⟩,.int .i64 0,.slice none 0 0,.int .i64 0,.bool false].toArray 106)=W∧Hid (Blk W w.heap.size [.int .i64 19,.string sf,.int .i64 nf,.int .i64 pf,.slice ka kn kc] 34)∧Hid (Blk W (w.heap.size+1) [.int .i64 0,.int .i64 0,.string ⟨#[]⟩,.string ⟨#[]⟩,.string ⟨#[]⟩,.int .i64 0,.string ⟨#[]⟩,.int .i64 0,.slice none 0 0,.int .i64 0,.bool false] 106)∧Hid (Below w.heap.size w W)∧W.heap.size=w.heap.size+1+1 :=
  ⟨_,rfl,zh ((Blk.new w _ _).alloc _),zh (Blk.zpc w _ _ _),zh (((Below.refl _ _).alloc (Nat.le_refl _) _).alloc (by simp) _),by simp⟩
 obtain ⟨W3,hW3⟩:∃ W,W2.alloc (.cells [.int .i64 0,.int .i64 pf,.string ⟨#[]⟩,.string sf,.string ⟨#[]⟩,.int .i64 0,.string ⟨#[]⟩,.int .i64 0,.slice none 0 0,.int .i64 0,.bool false].toArray 106)=W:=⟨_,rfl⟩
 have hb3:Below W2.heap.size W2 W3:=hW3▸(Below.refl _ _).alloc (Nat.le_refl _) _
 have HS:=zh (show zzk w W2.heap.size [.int .i64 19,.string sf,.int .i64 nf,.int .i64 pf,.slice ka kn kc] (⟨0,pf,e0,sf,tm0,tm0,[],0,false⟩:Ins) (.slice none 0 0) W3 from
  ⟨HN2.out.stays hb3,⟨_,HI2.out.stays hb3,rfl⟩,show Blk W3 W2.heap.size _ 106 from hW3▸Blk.new W2 [.int .i64 0,.int .i64 pf,.string ⟨#[]⟩,.string sf,.string ⟨#[]⟩,.int .i64 0,.string ⟨#[]⟩,.int .i64 0,.slice none 0 0,.int .i64 0,.bool false] 106,HB2.out.trans (hb3.mono HB2.out.size),by omega⟩)
 have x1:W2.cell? ⟨w.heap.size,1,none⟩=some (.string sf):=HN2.out.cell 1
 have x3:W2.cell? ⟨w.heap.size,3,none⟩=some (.int .i64 pf):=HN2.out.cell 3
 have z0:W3.cell? ⟨w.heap.size,0,none⟩=some (.int .i64 19):=HS.out.n.cell 0
 have c0:W3.cell? ⟨W2.heap.size,0,none⟩=some (.int .i64 0):=HS.out.i.cell 0
 have f0:=HS.out.i.frozen 0
 clear hk hb3 hz2
 unfold zma
 simp only [zRa,zXa,zBb,zJa]
 have HS5:=zh (HS.out.cell 0 (.int .i64 13) (j:=(⟨13,pf,e0,sf,tm0,tm0,[],0,false⟩:Ins)) (y:=.slice none 0 0) rfl)
 have q4:(W3.setCell ⟨W2.heap.size,0,none⟩ (.int .i64 13)).cell? ⟨w.heap.size,4,none⟩=some (.slice ka kn kc):=HS5.out.n.cell 4
 have HKU:=zh (HK.out.below HS5.out.b)
 go_enter Tryz.func85,Tryz.ntmps85
 go_wp2_with (first
  | ((with_reducible refine zla 106 (.tmp 3) ?_);refine zga rfl 106 (.tmp 3) (.tmp 8) rfl [.int .i64 0,.int .i64 pf,.string ⟨#[]⟩,.string sf,.string ⟨#[]⟩,.int .i64 0,.string ⟨#[]⟩,.int .i64 0,.slice none 0 0,.int .i64 0,.bool false] (old:=zea zFf (.slice none 0 0)) rfl rfl Tryz.zua rfl (zna (⟨0,pf,e0,sf,tm0,tm0,[],0,false⟩:Ins) (.slice none 0 0) rfl) ?_))
 refine (zWi HKU.out hl).mono ?_
 rintro e w1 ⟨v,rfl,ha,hb1⟩
 have hz:=HS5.out.i.lt
 have HS8:=zh (HS5.out.call hb1)
 have HS9:=zh (HS8.out.cell 8 v (j:=(⟨13,pf,e0,sf,tm0,tm0,ks.map zDa,0,false⟩:Ins)) (y:=v) rfl)
 have HA:=zh ((ha.mono (S':=fun b=>W2.heap.size<b) fun b hb _=>by omega).setCell ⟨W2.heap.size,8,none⟩ v (fun b hb=>by show b≠W2.heap.size;omega))
 have c8:w1.cell? ⟨W2.heap.size,8,none⟩=some (.slice none 0 0):=HS8.out.i.cell 8
 have f8:=HS8.out.i.frozen 8
 obtain ⟨va,vn,vc,rfl⟩:=ha.slice
 have hl9:=HS9.out.l
 clear ha hb1
 obtain ⟨old,ho,hol⟩:=HS9.out.r
 have HO:=zh ho
 have HOL:=zh hol
 clear ho hol
 go_wp2_with (first
  | ((with_reducible refine zra 106 (.tmp 3) ?_);refine zja rfl 106 (.tmp 3) rfl W2.heap.size (zea (⟨13,pf,e0,sf,tm0,tm0,ks.map zDa,0,false⟩:Ins) (.slice va vn vc)) rfl HS9.out.i Tryz.underlying106 rfl Tryz.zua ?_)
  | ((with_reducible refine zla 106 (.tmp 2) ?_);refine zca rfl 106 (.tmp 2) (.tmp 89) rfl (w.heap.size+1) (zea (⟨13,pf,e0,sf,tm0,tm0,ks.map zDa,0,false⟩:Ins) (.slice va vn vc)) rfl rfl HO.out Tryz.zua HOL.out (zna (⟨13,pf,e0,sf,tm0,tm0,ks.map zDa,0,false⟩:Ins) (.slice va vn vc) rfl) ?_))
 exact zka (cs:=zea (⟨13,pf,e0,sf,tm0,tm0,ks.map zDa,0,false⟩:Ins) (.slice va vn vc)) Tryz.results85 rfl HO.out Tryz.underlying106 rfl Tryz.zua rfl ⟨_,rfl,(HA.out.setRow _ _ (fun b hb=>by omega)).mono (fun b hb _=>by omega),Below.row HS9.out.b (by omega) _⟩
theorem zHo {w:World} {S:Nat→Prop} {kv:Value} {sf:ByteArray} {nf:Int} {pf:Nat} {k0:T} (hk:KAt 34 w [k0] S kv) (hl:k0.kids.length≤5000) :
  Calls Tryz.prog 85 #[zma (.mk 20 sf nf pf [k0]) kv] w (zRb w (⟨12,pf,e0,k0.text,tm0,tm0,k0.kids.map zDa,0,false⟩:Ins)):=by
 rcases hk.form with ⟨_,hnil⟩|⟨g2,cap2,rfl,hg2,hcap2,hcm2,hget2⟩
 ·cases hnil
 have e2:1≤cap2:=hcap2
 obtain ⟨ua,hra,hta⟩:=hget2 0 k0 rfl
 have HR0:=zh (show w.rangeAt g2 0 (zaa k0 ua) from hra)
 have HT0:=zh hta
 clear hra hta
 clear hget2 hcap2
 unfold maxLen at hcm2
 have HK:=zh hk
 obtain ⟨W2,hW2,HN2,HI2,HB2,hz2⟩:∃ W,(w.alloc (.cells [.int .i64 20,.string sf,.int .i64 nf,.int .i64 pf,.slice (some ⟨g2,0,none⟩) 1 cap2].toArray 34)).alloc (.cells [.int .i64 0,.int .i64 0,.string ⟨#[]⟩,.string ⟨#[]⟩,.string ⟨#[]⟩,.int .i64 0,.string ⟨#[]⟩,.int .i64 0,.slice none 0 0,.int .i64 0,.bool false].toArray 106)=W∧Hid (Blk W w.heap.size [.int .i64 20,.string sf,.int .i64 nf,.int .i64 pf,.slice (some ⟨g2,0,none⟩) 1 cap2] 34)∧Hid (Blk W (w.heap.size+1) [.int .i64 0,.int .i64 0,.string ⟨#[]⟩,.string ⟨#[]⟩,.string ⟨#[]⟩,.int .i64 0,.string ⟨#[]⟩,.int .i64 0,.slice none 0 0,.int .i64 0,.bool false] 106)∧Hid (Below w.heap.size w W)∧W.heap.size=w.heap.size+1+1 :=
  ⟨_,rfl,zh ((Blk.new w _ _).alloc _),zh (Blk.zpc w _ _ _),zh (((Below.refl _ _).alloc (Nat.le_refl _) _).alloc (by simp) _),by simp⟩
 obtain ⟨W3,hW3⟩:∃ W,W2.alloc (.cells [.int .i64 0,.int .i64 pf,.string ⟨#[]⟩,.string sf,.string ⟨#[]⟩,.int .i64 0,.string ⟨#[]⟩,.int .i64 0,.slice none 0 0,.int .i64 0,.bool false].toArray 106)=W:=⟨_,rfl⟩
 have hb3:Below W2.heap.size W2 W3:=hW3▸(Below.refl _ _).alloc (Nat.le_refl _) _
 have HS:=zh (show zzk w W2.heap.size [.int .i64 20,.string sf,.int .i64 nf,.int .i64 pf,.slice (some ⟨g2,0,none⟩) 1 cap2] (⟨0,pf,e0,sf,tm0,tm0,[],0,false⟩:Ins) (.slice none 0 0) W3 from
  ⟨HN2.out.stays hb3,⟨_,HI2.out.stays hb3,rfl⟩,show Blk W3 W2.heap.size _ 106 from hW3▸Blk.new W2 [.int .i64 0,.int .i64 pf,.string ⟨#[]⟩,.string sf,.string ⟨#[]⟩,.int .i64 0,.string ⟨#[]⟩,.int .i64 0,.slice none 0 0,.int .i64 0,.bool false] 106,HB2.out.trans (hb3.mono HB2.out.size),by omega⟩)
 have x1:W2.cell? ⟨w.heap.size,1,none⟩=some (.string sf):=HN2.out.cell 1
 have x3:W2.cell? ⟨w.heap.size,3,none⟩=some (.int .i64 pf):=HN2.out.cell 3
 have z0:W3.cell? ⟨w.heap.size,0,none⟩=some (.int .i64 20):=HS.out.n.cell 0
 have c0:W3.cell? ⟨W2.heap.size,0,none⟩=some (.int .i64 0):=HS.out.i.cell 0
 have f0:=HS.out.i.frozen 0
 clear hk hb3 hz2
 unfold zma
 simp only [zRa,zXa,zBb,zJa]
 have HS5:=zh (HS.out.cell 0 (.int .i64 12) (j:=(⟨12,pf,e0,sf,tm0,tm0,[],0,false⟩:Ins)) (y:=.slice none 0 0) rfl)
 have q4:(W3.setCell ⟨W2.heap.size,0,none⟩ (.int .i64 12)).cell? ⟨w.heap.size,4,none⟩=some (.slice (some ⟨g2,0,none⟩) 1 cap2):=HS5.out.n.cell 4
 have c3:(W3.setCell ⟨W2.heap.size,0,none⟩ (.int .i64 12)).cell? ⟨W2.heap.size,3,none⟩=some (.string sf):=HS5.out.i.cell 3
 have f3:=HS5.out.i.frozen 3
 have r1:(W3.setCell ⟨W2.heap.size,0,none⟩ (.int .i64 12)).cell? ⟨g2,1,none⟩=some (.string k0.text):=(zpa HR0.out HS5.out.b hg2) 1 _ rfl
 have HS6:=zh (HS5.out.cell 3 (.string k0.text) (j:=(⟨12,pf,e0,k0.text,tm0,tm0,[],0,false⟩:Ins)) (y:=.slice none 0 0) rfl)
 have m4:((W3.setCell ⟨W2.heap.size,0,none⟩ (.int .i64 12)).setCell ⟨W2.heap.size,3,none⟩ (.string k0.text)).cell? ⟨w.heap.size,4,none⟩=some (.slice (some ⟨g2,0,none⟩) 1 cap2):=HS6.out.n.cell 4
 have r4:((W3.setCell ⟨W2.heap.size,0,none⟩ (.int .i64 12)).setCell ⟨W2.heap.size,3,none⟩ (.string k0.text)).cell? ⟨g2,4,none⟩=some ua:=(zpa HR0.out HS6.out.b hg2) 4 _ rfl
 have HKU:=zh (HT0.out.kat.below HS6.out.b)
 go_enter Tryz.func85,Tryz.ntmps85
 go_wp2_with (first
  | ((with_reducible refine zla 106 (.tmp 3) ?_);refine zga rfl 106 (.tmp 3) (.tmp 8) rfl [.int .i64 0,.int .i64 pf,.string ⟨#[]⟩,.string sf,.string ⟨#[]⟩,.int .i64 0,.string ⟨#[]⟩,.int .i64 0,.slice none 0 0,.int .i64 0,.bool false] (old:=zea zFf (.slice none 0 0)) rfl rfl Tryz.zua rfl (zna (⟨0,pf,e0,sf,tm0,tm0,[],0,false⟩:Ins) (.slice none 0 0) rfl) ?_))
 refine (zWi HKU.out hl).mono ?_
 rintro e w1 ⟨v,rfl,ha,hb1⟩
 have hz:=HS6.out.i.lt
 have HS8:=zh (HS6.out.call hb1)
 have HS9:=zh (HS8.out.cell 8 v (j:=(⟨12,pf,e0,k0.text,tm0,tm0,k0.kids.map zDa,0,false⟩:Ins)) (y:=v) rfl)
 have HA:=zh ((ha.mono (S':=fun b=>W2.heap.size<b) fun b hb _=>by omega).setCell ⟨W2.heap.size,8,none⟩ v (fun b hb=>by show b≠W2.heap.size;omega))
 have c8:w1.cell? ⟨W2.heap.size,8,none⟩=some (.slice none 0 0):=HS8.out.i.cell 8
 have f8:=HS8.out.i.frozen 8
 obtain ⟨va,vn,vc,rfl⟩:=ha.slice
 have hl9:=HS9.out.l
 clear ha hb1
 obtain ⟨old,ho,hol⟩:=HS9.out.r
 have HO:=zh ho
 have HOL:=zh hol
 clear ho hol
 go_wp2_with (first
  | ((with_reducible refine zra 106 (.tmp 3) ?_);refine zja rfl 106 (.tmp 3) rfl W2.heap.size (zea (⟨12,pf,e0,k0.text,tm0,tm0,k0.kids.map zDa,0,false⟩:Ins) (.slice va vn vc)) rfl HS9.out.i Tryz.underlying106 rfl Tryz.zua ?_)
  | ((with_reducible refine zla 106 (.tmp 2) ?_);refine zca rfl 106 (.tmp 2) (.tmp 89) rfl (w.heap.size+1) (zea (⟨12,pf,e0,k0.text,tm0,tm0,k0.kids.map zDa,0,false⟩:Ins) (.slice va vn vc)) rfl rfl HO.out Tryz.zua HOL.out (zna (⟨12,pf,e0,k0.text,tm0,tm0,k0.kids.map zDa,0,false⟩:Ins) (.slice va vn vc) rfl) ?_))
 exact zka (cs:=zea (⟨12,pf,e0,k0.text,tm0,tm0,k0.kids.map zDa,0,false⟩:Ins) (.slice va vn vc)) Tryz.results85 rfl HO.out Tryz.underlying106 rfl Tryz.zua rfl ⟨_,rfl,(HA.out.setRow _ _ (fun b hb=>by omega)).mono (fun b hb _=>by omega),Below.row HS9.out.b (by omega) _⟩
theorem zqn {w:World} {S:Nat→Prop} {kv:Value} {sf:ByteArray} {nf:Int} {pf:Nat}  (hk:KAt 34 w [] S kv) :
  Calls Tryz.prog 85 #[zma (.mk 17 sf nf pf []) kv] w (zRb w (⟨14,pf,e0,e0,tm0,tm0,[],0,false⟩:Ins)):=by
 obtain ⟨ka,kc,rfl⟩:∃ ka kc,kv=.slice ka 0 kc:=by rcases hk.form with ⟨h,_⟩|⟨_,_,h,_⟩<;>exact ⟨_,_,h⟩
 have HK:=zh hk
 obtain ⟨W2,hW2,HN2,HI2,HB2,hz2⟩:∃ W,(w.alloc (.cells [.int .i64 17,.string sf,.int .i64 nf,.int .i64 pf,.slice ka 0 kc].toArray 34)).alloc (.cells [.int .i64 0,.int .i64 0,.string ⟨#[]⟩,.string ⟨#[]⟩,.string ⟨#[]⟩,.int .i64 0,.string ⟨#[]⟩,.int .i64 0,.slice none 0 0,.int .i64 0,.bool false].toArray 106)=W∧Hid (Blk W w.heap.size [.int .i64 17,.string sf,.int .i64 nf,.int .i64 pf,.slice ka 0 kc] 34)∧Hid (Blk W (w.heap.size+1) [.int .i64 0,.int .i64 0,.string ⟨#[]⟩,.string ⟨#[]⟩,.string ⟨#[]⟩,.int .i64 0,.string ⟨#[]⟩,.int .i64 0,.slice none 0 0,.int .i64 0,.bool false] 106)∧Hid (Below w.heap.size w W)∧W.heap.size=w.heap.size+1+1 :=
  ⟨_,rfl,zh ((Blk.new w _ _).alloc _),zh (Blk.zpc w _ _ _),zh (((Below.refl _ _).alloc (Nat.le_refl _) _).alloc (by simp) _),by simp⟩
 obtain ⟨W3,hW3⟩:∃ W,W2.alloc (.cells [.int .i64 0,.int .i64 pf,.string ⟨#[]⟩,.string sf,.string ⟨#[]⟩,.int .i64 0,.string ⟨#[]⟩,.int .i64 0,.slice none 0 0,.int .i64 0,.bool false].toArray 106)=W:=⟨_,rfl⟩
 have hb3:Below W2.heap.size W2 W3:=hW3▸(Below.refl _ _).alloc (Nat.le_refl _) _
 have HS:=zh (show zzk w W2.heap.size [.int .i64 17,.string sf,.int .i64 nf,.int .i64 pf,.slice ka 0 kc] (⟨0,pf,e0,sf,tm0,tm0,[],0,false⟩:Ins) (.slice none 0 0) W3 from
  ⟨HN2.out.stays hb3,⟨_,HI2.out.stays hb3,rfl⟩,show Blk W3 W2.heap.size _ 106 from hW3▸Blk.new W2 [.int .i64 0,.int .i64 pf,.string ⟨#[]⟩,.string sf,.string ⟨#[]⟩,.int .i64 0,.string ⟨#[]⟩,.int .i64 0,.slice none 0 0,.int .i64 0,.bool false] 106,HB2.out.trans (hb3.mono HB2.out.size),by omega⟩)
 have x1:W2.cell? ⟨w.heap.size,1,none⟩=some (.string sf):=HN2.out.cell 1
 have x3:W2.cell? ⟨w.heap.size,3,none⟩=some (.int .i64 pf):=HN2.out.cell 3
 have z0:W3.cell? ⟨w.heap.size,0,none⟩=some (.int .i64 17):=HS.out.n.cell 0
 have c0:W3.cell? ⟨W2.heap.size,0,none⟩=some (.int .i64 0):=HS.out.i.cell 0
 have f0:=HS.out.i.frozen 0
 clear hk hb3 hz2
 unfold zma
 simp only [zRa,zXa,zBb,zJa]
 have HS5:=zh (HS.out.cell 0 (.int .i64 14) (j:=(⟨14,pf,e0,sf,tm0,tm0,[],0,false⟩:Ins)) (y:=.slice none 0 0) rfl)
 have c3:(W3.setCell ⟨W2.heap.size,0,none⟩ (.int .i64 14)).cell? ⟨W2.heap.size,3,none⟩=some (.string sf):=HS5.out.i.cell 3
 have f3:=HS5.out.i.frozen 3
 have HS6:=zh (HS5.out.cell 3 (.string ⟨#[]⟩) (j:=(⟨14,pf,e0,e0,tm0,tm0,[],0,false⟩:Ins)) (y:=.slice none 0 0) rfl)
 have q4:((W3.setCell ⟨W2.heap.size,0,none⟩ (.int .i64 14)).setCell ⟨W2.heap.size,3,none⟩ (.string ⟨#[]⟩)).cell? ⟨w.heap.size,4,none⟩=some (.slice ka 0 kc):=HS6.out.n.cell 4
 obtain ⟨old,ho,hol⟩:=HS6.out.r
 have HO:=zh ho
 have HOL:=zh hol
 clear ho hol
 go_enter Tryz.func85,Tryz.ntmps85
 go_wp2_with (first
  | ((with_reducible refine zla 106 (.tmp 3) ?_);refine zga rfl 106 (.tmp 3) (.tmp 8) rfl [.int .i64 0,.int .i64 pf,.string ⟨#[]⟩,.string sf,.string ⟨#[]⟩,.int .i64 0,.string ⟨#[]⟩,.int .i64 0,.slice none 0 0,.int .i64 0,.bool false] (old:=zea zFf (.slice none 0 0)) rfl rfl Tryz.zua rfl (zna (⟨0,pf,e0,sf,tm0,tm0,[],0,false⟩:Ins) (.slice none 0 0) rfl) ?_)
  | ((with_reducible refine zra 106 (.tmp 3) ?_);refine zja rfl 106 (.tmp 3) rfl W2.heap.size (zea (⟨14,pf,e0,e0,tm0,tm0,[],0,false⟩:Ins) (.slice none 0 0)) rfl HS6.out.i Tryz.underlying106 rfl Tryz.zua ?_)
  | ((with_reducible refine zla 106 (.tmp 2) ?_);refine zca rfl 106 (.tmp 2) (.tmp 89) rfl (w.heap.size+1) (zea (⟨14,pf,e0,e0,tm0,tm0,[],0,false⟩:Ins) (.slice none 0 0)) rfl rfl HO.out Tryz.zua HOL.out (zna (⟨14,pf,e0,e0,tm0,tm0,[],0,false⟩:Ins) (.slice none 0 0) rfl) ?_))
 exact zka (cs:=zea (⟨14,pf,e0,e0,tm0,tm0,[],0,false⟩:Ins) (.slice none 0 0)) Tryz.results85 rfl HO.out Tryz.underlying106 rfl Tryz.zua rfl ⟨_,rfl,zEa.nil _ _,Below.row HS6.out.b (by omega) _⟩
theorem zDo {w:World} {S:Nat→Prop} {kv:Value} {sf:ByteArray} {nf:Int} {pf:Nat} {k0:T} (hk:KAt 34 w [k0] S kv) :
  Calls Tryz.prog 85 #[zma (.mk 17 sf nf pf [k0]) kv] w (zRb w (⟨14,pf,e0,e0,zDa k0,tm0,[],0,true⟩:Ins)):=by
 rcases hk.form with ⟨_,hnil⟩|⟨g2,cap2,rfl,hg2,hcap2,hcm2,hget2⟩
 ·cases hnil
 have e2:1≤cap2:=hcap2
 obtain ⟨ua,hra,hta⟩:=hget2 0 k0 rfl
 have HR0:=zh (show w.rangeAt g2 0 (zaa k0 ua) from hra)
 have HT0:=zh hta
 clear hra hta
 clear hget2 hcap2
 unfold maxLen at hcm2
 have HK:=zh hk
 obtain ⟨W2,hW2,HN2,HI2,HB2,hz2⟩:∃ W,(w.alloc (.cells [.int .i64 17,.string sf,.int .i64 nf,.int .i64 pf,.slice (some ⟨g2,0,none⟩) 1 cap2].toArray 34)).alloc (.cells [.int .i64 0,.int .i64 0,.string ⟨#[]⟩,.string ⟨#[]⟩,.string ⟨#[]⟩,.int .i64 0,.string ⟨#[]⟩,.int .i64 0,.slice none 0 0,.int .i64 0,.bool false].toArray 106)=W∧Hid (Blk W w.heap.size [.int .i64 17,.string sf,.int .i64 nf,.int .i64 pf,.slice (some ⟨g2,0,none⟩) 1 cap2] 34)∧Hid (Blk W (w.heap.size+1) [.int .i64 0,.int .i64 0,.string ⟨#[]⟩,.string ⟨#[]⟩,.string ⟨#[]⟩,.int .i64 0,.string ⟨#[]⟩,.int .i64 0,.slice none 0 0,.int .i64 0,.bool false] 106)∧Hid (Below w.heap.size w W)∧W.heap.size=w.heap.size+1+1 :=
  ⟨_,rfl,zh ((Blk.new w _ _).alloc _),zh (Blk.zpc w _ _ _),zh (((Below.refl _ _).alloc (Nat.le_refl _) _).alloc (by simp) _),by simp⟩
 obtain ⟨W3,hW3⟩:∃ W,W2.alloc (.cells [.int .i64 0,.int .i64 pf,.string ⟨#[]⟩,.string sf,.string ⟨#[]⟩,.int .i64 0,.string ⟨#[]⟩,.int .i64 0,.slice none 0 0,.int .i64 0,.bool false].toArray 106)=W:=⟨_,rfl⟩
 have hb3:Below W2.heap.size W2 W3:=hW3▸(Below.refl _ _).alloc (Nat.le_refl _) _
 have HS:=zh (show zzk w W2.heap.size [.int .i64 17,.string sf,.int .i64 nf,.int .i64 pf,.slice (some ⟨g2,0,none⟩) 1 cap2] (⟨0,pf,e0,sf,tm0,tm0,[],0,false⟩:Ins) (.slice none 0 0) W3 from
  ⟨HN2.out.stays hb3,⟨_,HI2.out.stays hb3,rfl⟩,show Blk W3 W2.heap.size _ 106 from hW3▸Blk.new W2 [.int .i64 0,.int .i64 pf,.string ⟨#[]⟩,.string sf,.string ⟨#[]⟩,.int .i64 0,.string ⟨#[]⟩,.int .i64 0,.slice none 0 0,.int .i64 0,.bool false] 106,HB2.out.trans (hb3.mono HB2.out.size),by omega⟩)
 have x1:W2.cell? ⟨w.heap.size,1,none⟩=some (.string sf):=HN2.out.cell 1
 have x3:W2.cell? ⟨w.heap.size,3,none⟩=some (.int .i64 pf):=HN2.out.cell 3
 have z0:W3.cell? ⟨w.heap.size,0,none⟩=some (.int .i64 17):=HS.out.n.cell 0
 have c0:W3.cell? ⟨W2.heap.size,0,none⟩=some (.int .i64 0):=HS.out.i.cell 0
 have f0:=HS.out.i.frozen 0
 clear hk hb3 hz2
 unfold zma
 simp only [zRa,zXa,zBb,zJa]
 have HS5:=zh (HS.out.cell 0 (.int .i64 14) (j:=(⟨14,pf,e0,sf,tm0,tm0,[],0,false⟩:Ins)) (y:=.slice none 0 0) rfl)
 have c3:(W3.setCell ⟨W2.heap.size,0,none⟩ (.int .i64 14)).cell? ⟨W2.heap.size,3,none⟩=some (.string sf):=HS5.out.i.cell 3
 have f3:=HS5.out.i.frozen 3
 have HS6:=zh (HS5.out.cell 3 (.string ⟨#[]⟩) (j:=(⟨14,pf,e0,e0,tm0,tm0,[],0,false⟩:Ins)) (y:=.slice none 0 0) rfl)
 have q4:((W3.setCell ⟨W2.heap.size,0,none⟩ (.int .i64 14)).setCell ⟨W2.heap.size,3,none⟩ (.string ⟨#[]⟩)).cell? ⟨w.heap.size,4,none⟩=some (.slice (some ⟨g2,0,none⟩) 1 cap2):=HS6.out.n.cell 4
 have c10:((W3.setCell ⟨W2.heap.size,0,none⟩ (.int .i64 14)).setCell ⟨W2.heap.size,3,none⟩ (.string ⟨#[]⟩)).cell? ⟨W2.heap.size,10,none⟩=some (.bool false):=HS6.out.i.cell 10
 have f10:=HS6.out.i.frozen 10
 have HS7:=zh (HS6.out.cell 10 (.bool true) (j:=(⟨14,pf,e0,e0,tm0,tm0,[],0,true⟩:Ins)) (y:=.slice none 0 0) rfl)
 have m4:(((W3.setCell ⟨W2.heap.size,0,none⟩ (.int .i64 14)).setCell ⟨W2.heap.size,3,none⟩ (.string ⟨#[]⟩)).setCell ⟨W2.heap.size,10,none⟩ (.bool true)).cell? ⟨w.heap.size,4,none⟩=some (.slice (some ⟨g2,0,none⟩) 1 cap2):=HS7.out.n.cell 4
 have HRA:=zh (show (((W3.setCell ⟨W2.heap.size,0,none⟩ (.int .i64 14)).setCell ⟨W2.heap.size,3,none⟩ (.string ⟨#[]⟩)).setCell ⟨W2.heap.size,10,none⟩ (.bool true)).rangeAt g2 0 (zaa k0 ua) from zpa HR0.out HS7.out.b hg2)
 go_enter Tryz.func85,Tryz.ntmps85
 go_wp2_with (first
  | ((with_reducible refine zla 106 (.tmp 3) ?_);refine zga rfl 106 (.tmp 3) (.tmp 8) rfl [.int .i64 0,.int .i64 pf,.string ⟨#[]⟩,.string sf,.string ⟨#[]⟩,.int .i64 0,.string ⟨#[]⟩,.int .i64 0,.slice none 0 0,.int .i64 0,.bool false] (old:=zea zFf (.slice none 0 0)) rfl rfl Tryz.zua rfl (zna (⟨0,pf,e0,sf,tm0,tm0,[],0,false⟩:Ins) (.slice none 0 0) rfl) ?_)
  | ((with_reducible refine zra 34 (.tmp 81) ?_);refine wpList_load_mid rfl 34 (.tmp 81) rfl g2 0 rfl (zaa k0 ua) _ HRA.out Tryz.underlying34 rfl Tryz.zGa ?_))
 refine (zuf _ k0 ua).mono ?_
 rintro e w1 ⟨rfl,hb1⟩
 have HS8:=zh (HS7.out.call hb1)
 have HS9:=zh (HS8.out.two 4 (.string k0.text) (.int .i64 k0.num) (j:=(⟨14,pf,e0,e0,zDa k0,tm0,[],0,true⟩:Ins)) rfl)
 clear hb1
 obtain ⟨old,ho,hol⟩:=HS9.out.r
 have HO:=zh ho
 have HOL:=zh hol
 clear ho hol
 go_wp2_with (first
  | ((with_reducible refine zla 103 (.tmp 84) ?_);refine wpList_store_mid rfl 103 (.tmp 84) (.tmp 83) rfl W2.heap.size 4 #[.string k0.text,.int .i64 k0.num] rfl rfl (HS8.out.i.zGc 4 2 (show 4+2≤11 by omega)) Tryz.zlb (all_oneCell_toArray (zGd (zDa k0))) ?_)
  | ((with_reducible refine zra 106 (.tmp 3) ?_);refine zja rfl 106 (.tmp 3) rfl W2.heap.size (zea (⟨14,pf,e0,e0,zDa k0,tm0,[],0,true⟩:Ins) (.slice none 0 0)) rfl HS9.out.i Tryz.underlying106 rfl Tryz.zua ?_)
  | ((with_reducible refine zla 106 (.tmp 2) ?_);refine zca rfl 106 (.tmp 2) (.tmp 89) rfl (w.heap.size+1) (zea (⟨14,pf,e0,e0,zDa k0,tm0,[],0,true⟩:Ins) (.slice none 0 0)) rfl rfl HO.out Tryz.zua HOL.out (zna (⟨14,pf,e0,e0,zDa k0,tm0,[],0,true⟩:Ins) (.slice none 0 0) rfl) ?_))
 exact zka (cs:=zea (⟨14,pf,e0,e0,zDa k0,tm0,[],0,true⟩:Ins) (.slice none 0 0)) Tryz.results85 rfl HO.out Tryz.underlying106 rfl Tryz.zua rfl ⟨_,rfl,zEa.nil _ _,Below.row HS9.out.b (by omega) _⟩
theorem zcp {w:World} {S:Nat→Prop} {kv:Value} {sf:ByteArray} {nf:Int} {pf:Nat} {e:T} (hk:KAt 34 w [e] S kv) (hx:zEc e.kind) (hl:e.kids.length≤5000) (h2:e.kind=21∨e.kind=22→1<e.kids.length) (h1:e.kind=25→0<e.kids.length) :
  Calls Tryz.prog 85 #[zma (.mk 10 sf nf pf [e]) kv] w (zRb w (zfd (.mk 10 sf nf pf [e]))):=by
 obtain ⟨ka,kn,kc,rfl⟩:=hk.slice
 have HK:=zh hk
 obtain ⟨W2,hW2,HN2,HI2,HB2,hz2⟩:∃ W,(w.alloc (.cells [.int .i64 10,.string sf,.int .i64 nf,.int .i64 pf,.slice ka kn kc].toArray 34)).alloc (.cells [.int .i64 0,.int .i64 0,.string ⟨#[]⟩,.string ⟨#[]⟩,.string ⟨#[]⟩,.int .i64 0,.string ⟨#[]⟩,.int .i64 0,.slice none 0 0,.int .i64 0,.bool false].toArray 106)=W∧Hid (Blk W w.heap.size [.int .i64 10,.string sf,.int .i64 nf,.int .i64 pf,.slice ka kn kc] 34)∧Hid (Blk W (w.heap.size+1) [.int .i64 0,.int .i64 0,.string ⟨#[]⟩,.string ⟨#[]⟩,.string ⟨#[]⟩,.int .i64 0,.string ⟨#[]⟩,.int .i64 0,.slice none 0 0,.int .i64 0,.bool false] 106)∧Hid (Below w.heap.size w W)∧W.heap.size=w.heap.size+1+1 :=
  ⟨_,rfl,zh ((Blk.new w _ _).alloc _),zh (Blk.zpc w _ _ _),zh (((Below.refl _ _).alloc (Nat.le_refl _) _).alloc (by simp) _),by simp⟩
 obtain ⟨W3,hW3⟩:∃ W,W2.alloc (.cells [.int .i64 0,.int .i64 pf,.string ⟨#[]⟩,.string sf,.string ⟨#[]⟩,.int .i64 0,.string ⟨#[]⟩,.int .i64 0,.slice none 0 0,.int .i64 0,.bool false].toArray 106)=W:=⟨_,rfl⟩
 have hb3:Below W2.heap.size W2 W3:=hW3▸(Below.refl _ _).alloc (Nat.le_refl _) _
 have HS:=zh (show zzk w W2.heap.size [.int .i64 10,.string sf,.int .i64 nf,.int .i64 pf,.slice ka kn kc] (⟨0,pf,e0,sf,tm0,tm0,[],0,false⟩:Ins) (.slice none 0 0) W3 from
  ⟨HN2.out.stays hb3,⟨_,HI2.out.stays hb3,rfl⟩,show Blk W3 W2.heap.size _ 106 from hW3▸Blk.new W2 [.int .i64 0,.int .i64 pf,.string ⟨#[]⟩,.string sf,.string ⟨#[]⟩,.int .i64 0,.string ⟨#[]⟩,.int .i64 0,.slice none 0 0,.int .i64 0,.bool false] 106,HB2.out.trans (hb3.mono HB2.out.size),by omega⟩)
 have x1:W2.cell? ⟨w.heap.size,1,none⟩=some (.string sf):=HN2.out.cell 1
 have x3:W2.cell? ⟨w.heap.size,3,none⟩=some (.int .i64 pf):=HN2.out.cell 3
 have z0:W3.cell? ⟨w.heap.size,0,none⟩=some (.int .i64 10):=HS.out.n.cell 0
 have c0:W3.cell? ⟨W2.heap.size,0,none⟩=some (.int .i64 0):=HS.out.i.cell 0
 have f0:=HS.out.i.frozen 0
 clear hk hb3 hz2
 unfold zma
 simp only [zRa,zXa,zBb,zJa]
 have HR0:=zh (zCr (t:=.mk 10 sf nf pf [e]) (HK.out.below HS.out.b) rfl hx hl h2 h1)
 obtain ⟨old,ho,hol⟩:=HS.out.r
 have HO:=zh ho
 have HOL:=zh hol
 clear ho hol
 go_enter Tryz.func85,Tryz.ntmps85
 go_wp2_with (first
  | ((with_reducible refine zla 106 (.tmp 3) ?_);refine zga rfl 106 (.tmp 3) (.tmp 8) rfl [.int .i64 0,.int .i64 pf,.string ⟨#[]⟩,.string sf,.string ⟨#[]⟩,.int .i64 0,.string ⟨#[]⟩,.int .i64 0,.slice none 0 0,.int .i64 0,.bool false] (old:=zea zFf (.slice none 0 0)) rfl rfl Tryz.zua rfl (zna (⟨0,pf,e0,sf,tm0,tm0,[],0,false⟩:Ins) (.slice none 0 0) rfl) ?_)
  | ((with_reducible refine zra 34 (.tmp 1) ?_);refine zja rfl 34 (.tmp 1) rfl w.heap.size [.int .i64 10,.string sf,.int .i64 nf,.int .i64 pf,.slice ka kn kc] rfl HS.out.n Tryz.underlying34 rfl Tryz.zGa ?_))
 refine HR0.out.mono ?_
 rintro e1 w1 ⟨u,rfl,ha,hb1⟩
 have HS1:=zh (HS.out.call hb1)
 have HA:=zh ha
 have hu1:=ha.one
 have hz:=HS.out.i.lt
 have hl9:=HS.out.l
 have HO1:=zh (HO.out.stays hb1)
 clear ha hb1
 go_wp2_with (first
  | ((with_reducible refine zla 106 (.tmp 2) ?_);refine zca rfl 106 (.tmp 2) (.tmp 14) rfl (w.heap.size+1) (zea (zfd (.mk 10 sf nf pf [e])) u) rfl rfl HO1.out Tryz.zua HOL.out (zna _ u hu1) ?_))
 exact zka (cs:=zea (zfd (.mk 10 sf nf pf [e])) u) Tryz.results85 rfl HO1.out Tryz.underlying106 rfl Tryz.zua rfl ⟨_,rfl,(HA.out.setRow _ _ (fun b hb=>by omega)).mono (fun b hb _=>by omega),Below.row HS1.out.b (by omega) _⟩
end Go.Proofs.YthdbmgijpelecaaGreatDoor
