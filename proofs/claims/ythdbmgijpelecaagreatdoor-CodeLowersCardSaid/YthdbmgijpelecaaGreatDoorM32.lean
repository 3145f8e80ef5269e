/- The contract of lychgateref07.set: the document's instruction of a Set, by the kind of its expression. -/
import Derived.Test.YthdbmgijpelecaaGreatDoorM31
import Derived.Test.YthdbmgijpelecaaGreatDoorM13
namespace Go.Proofs.YthdbmgijpelecaaGreatDoor
set_option maxRecDepth 100000
set_option maxHeartbeats 1000000
open Go.RowKit
def zFf:Ins:=zir 0 0
theorem Tryz.zua:(Tryz.prog.info? 106).map (·.size)=some 11:=by kernel_rfl
theorem zGd (t:Tm):∀ v∈zab t,v.oneCell'=true:=fun y hy=>by simp [zab] at hy;rcases hy with rfl|rfl<;>rfl
def zRb (w:World) (i:Ins) (e:Ending) (w':World):Prop:=∃ u,e=.returned (zmo i u)∧zEa w' i.args (fun b=>w.heap.size≤b) u∧Below w.heap.size w w'
structure zLf (w:World) (b1 b2 b3:Nat) (kc:List Value) (i:Ins) (x:Value) (W:World):Prop where
 r:∃ old,Blk W b1 old 106∧old.length=11
 k:Blk W b2 kc 34
 i:Blk W b3 (zea i x) 106
 b:Below w.heap.size w W
 l:w.heap.size≤b1∧b1<b2∧b2<b3
section
variable {w W W':World} {b1 b2 b3:Nat} {x:Value} {kc:List Value} {i:Ins}
theorem zLf.call (h:zLf w b1 b2 b3 kc i x W) (hb:Below W.heap.size W W'):zLf w b1 b2 b3 kc i x W':=by
 obtain ⟨⟨old,h1,h2⟩,hk,hi,hb0,hl⟩:=h
 exact ⟨⟨old,h1.stays hb,h2⟩,hk.stays hb,hi.stays hb,hb0.trans (hb.mono hb0.size),hl⟩
theorem zLf.cell (h:zLf w b1 b2 b3 kc i x W) (o:Nat) (v:Value) {j:Ins} {y:Value} (he:(zea i x).set o v=zea j y):zLf w b1 b2 b3 kc j y (W.setCell ⟨b3,o,none⟩ v):=by
 obtain ⟨⟨old,h1,h2⟩,hk,hi,hb0,hl⟩:=h
 exact ⟨⟨old,h1.setOther _ _ (by show b1≠b3;omega),h2⟩,hk.setOther _ _ (by show b2≠b3;omega),he▸hi.zxa o v,hb0.setCell (by show w.heap.size≤b3;omega) v,hl⟩
theorem zLf.two (h:zLf w b1 b2 b3 kc i x W) (o:Nat) (v v':Value) {j:Ins} (he:((zea i x).set o v).set (o+1) v'=zea j x):zLf w b1 b2 b3 kc j x (W.setCells b3 o [v,v']):=by
 obtain ⟨⟨old,h1,h2⟩,hk,hi,hb0,hl⟩:=h
 exact ⟨⟨old,h1.zAc (by omega) o v v',h2⟩,hk.zAc (by omega) o v v',he▸hi.zoc o v v',Below.cells2 hb0 (by omega) o v v',hl⟩
end
theorem zhu {w:World} {t:T} {S:Nat→Prop} {kv:Value} (hk:KAt 34 w t.kids S kv) {sf:ByteArray} {nf:Int} {pf:Nat} {ks:List T} (hkid:t.kids=[.mk 5 sf nf pf ks]) :
  Calls Tryz.prog 127 #[zma t kv] w (zRb w (zfd t)):=by
 have hs:zfd t=(⟨0,t.place,t.text,e0,⟨sf,nf⟩,tm0,[],0,false⟩:Ins):=by unfold zfd zFa;rw [hkid];rfl
 rw [hs]
 clear hs
 rw [hkid] at hk
 rcases hk.form with ⟨_,hnil⟩|⟨g,cap,rfl,hg,hcap,hcm,hget⟩
 ·cases hnil
 obtain ⟨u,hr,hT⟩:=hget 0 _ rfl
 have HR:=zh (show w.rangeAt g 0 [.int .i64 5,.string sf,.int .i64 nf,.int .i64 pf,u] from hr)
 have HTK:=zh hT
 have hu1:u.oneCell'=true:=hT.kat.one
 obtain ⟨W2,hW2,HN2,HI2,HR2,HB2,hz2⟩:∃ W,(w.alloc (.cells [.int .i64 t.kind,.string t.text,.int .i64 t.num,.int .i64 t.place,.slice (some ⟨g,0,none⟩) 1 cap].toArray 34)).alloc (.cells [.int .i64 0,.int .i64 0,.string ⟨#[]⟩,.string ⟨#[]⟩,.string ⟨#[]⟩,.int .i64 0,.string ⟨#[]⟩,.int .i64 0,.slice none 0 0,.int .i64 0,.bool false].toArray 106)=W∧Hid (Blk W w.heap.size [.int .i64 t.kind,.string t.text,.int .i64 t.num,.int .i64 t.place,.slice (some ⟨g,0,none⟩) 1 cap] 34)∧Hid (Blk W (w.heap.size+1) [.int .i64 0,.int .i64 0,.string ⟨#[]⟩,.string ⟨#[]⟩,.string ⟨#[]⟩,.int .i64 0,.string ⟨#[]⟩,.int .i64 0,.slice none 0 0,.int .i64 0,.bool false] 106)∧Hid (W.rangeAt g 0 [.int .i64 5,.string sf,.int .i64 nf,.int .i64 pf,u])∧Hid (Below w.heap.size w W)∧W.heap.size=w.heap.size+1+1 :=
  ⟨_,rfl,zh ((Blk.new w _ _).alloc _),zh (Blk.zpc w _ _ _),zh (zpa HR.out (((Below.refl _ _).alloc (Nat.le_refl _) _).alloc (by simp) _) hg),zh (((Below.refl _ _).alloc (Nat.le_refl _) _).alloc (by simp) _),by simp⟩
 have HZ2:=zh hz2
 obtain ⟨W3,hW3⟩:∃ W,W2.alloc (.cells [.int .i64 5,.string sf,.int .i64 nf,.int .i64 pf,u].toArray 34)=W:=⟨_,rfl⟩
 have hb3:Below W2.heap.size W2 W3:=hW3▸(Below.refl _ _).alloc (Nat.le_refl _) _
 have hz3:W3.heap.size=W2.heap.size+1:=by rw [← hW3];simp
 have HK3:=zh (show Blk W3 W2.heap.size [.int .i64 5,.string sf,.int .i64 nf,.int .i64 pf,u] 34 from hW3▸Blk.new W2 _ _)
 have HN3:=zh (HN2.out.stays hb3)
 obtain ⟨W4,hW4⟩:∃ W,W3.alloc (.cells [.int .i64 0,.int .i64 t.place,.string t.text,.string ⟨#[]⟩,.string sf,.int .i64 nf,.string ⟨#[]⟩,.int .i64 0,.slice none 0 0,.int .i64 0,.bool false].toArray 106)=W:=⟨_,rfl⟩
 have hb4:Below W3.heap.size W3 W4:=hW4▸(Below.refl _ _).alloc (Nat.le_refl _) _
 have HS:=zh (show zLf w (w.heap.size+1) W2.heap.size W3.heap.size [.int .i64 5,.string sf,.int .i64 nf,.int .i64 pf,u] (⟨0,t.place,t.text,e0,⟨sf,nf⟩,tm0,[],0,false⟩:Ins) (.slice none 0 0) W4 from
  ⟨⟨_,(HI2.out.stays hb3).stays hb4,rfl⟩,HK3.out.stays hb4,show Blk W4 W3.heap.size _ 106 from hW4▸Blk.new W3 [.int .i64 0,.int .i64 t.place,.string t.text,.string ⟨#[]⟩,.string sf,.int .i64 nf,.string ⟨#[]⟩,.int .i64 0,.slice none 0 0,.int .i64 0,.bool false] 106,HB2.out.trans ((hb3.trans (hb4.mono hb3.size)).mono HB2.out.size),by omega,by omega,by omega⟩)
 have x1:W3.cell? ⟨w.heap.size,1,none⟩=some (.string t.text):=HN3.out.cell 1
 have x3:W3.cell? ⟨w.heap.size,3,none⟩=some (.int .i64 t.place):=HN3.out.cell 3
 have x4:W2.cell? ⟨w.heap.size,4,none⟩=some (.slice (some ⟨g,0,none⟩) 1 cap):=HN2.out.cell 4
 have y1:W3.cell? ⟨W2.heap.size,1,none⟩=some (.string sf):=HK3.out.cell 1
 have y2:W3.cell? ⟨W2.heap.size,2,none⟩=some (.int .i64 nf):=HK3.out.cell 2
 have z0:W4.cell? ⟨W2.heap.size,0,none⟩=some (.int .i64 5):=HS.out.k.cell 0
 have z1:W4.cell? ⟨W2.heap.size,1,none⟩=some (.string sf):=HS.out.k.cell 1
 have z2:W4.cell? ⟨W2.heap.size,2,none⟩=some (.int .i64 nf):=HS.out.k.cell 2
 clear hk hget hr hT hkid hz2 hz3 hb3 hb4
 unfold maxLen at hcm
 unfold zma
 have e1:(1:Nat)≤cap:=hcap
 obtain ⟨old,ho,hol⟩:=HS.out.r
 have HO:=zh ho
 have HOL:=zh hol
 clear ho hol
 go_enter Tryz.func127,Tryz.ntmps127
 go_wp2_with (first
  | ((with_reducible refine zra 34 (.tmp 7) ?_);refine wpList_load_mid rfl 34 (.tmp 7) rfl g 0 rfl [.int .i64 5,.string sf,.int .i64 nf,.int .i64 pf,u] _ HR2.out Tryz.underlying34 rfl Tryz.zGa ?_)
  | ((with_reducible refine zla 34 (.tmp 3) ?_);refine zga rfl 34 (.tmp 3) (.tmp 8) rfl [.int .i64 5,.string sf,.int .i64 nf,.int .i64 pf,u] (old:=zba) rfl rfl Tryz.zGa rfl (zda (T.mk 5 sf nf pf ks) _ hu1) ?_)
  | ((with_reducible refine zla 106 (.tmp 4) ?_);refine zga rfl 106 (.tmp 4) (.tmp 18) rfl [.int .i64 0,.int .i64 t.place,.string t.text,.string ⟨#[]⟩,.string sf,.int .i64 nf,.string ⟨#[]⟩,.int .i64 0,.slice none 0 0,.int .i64 0,.bool false] (old:=zea zFf (.slice none 0 0)) rfl rfl Tryz.zua rfl (zna (⟨0,t.place,t.text,e0,⟨sf,nf⟩,tm0,[],0,false⟩:Ins) (.slice none 0 0) rfl) ?_)
  | ((with_reducible refine zra 106 (.tmp 4) ?_);refine zja rfl 106 (.tmp 4) rfl W3.heap.size (zea (⟨0,t.place,t.text,e0,⟨sf,nf⟩,tm0,[],0,false⟩:Ins) (.slice none 0 0)) rfl HS.out.i Tryz.underlying106 rfl Tryz.zua ?_)
  | ((with_reducible refine zla 106 (.tmp 2) ?_);refine zca rfl 106 (.tmp 2) (.tmp 96) rfl (w.heap.size+1) (zea (⟨0,t.place,t.text,e0,⟨sf,nf⟩,tm0,[],0,false⟩:Ins) (.slice none 0 0)) rfl rfl HO.out Tryz.zua HOL.out (zna (⟨0,t.place,t.text,e0,⟨sf,nf⟩,tm0,[],0,false⟩:Ins) (.slice none 0 0) rfl) ?_))
 exact zka (cs:=zea (⟨0,t.place,t.text,e0,⟨sf,nf⟩,tm0,[],0,false⟩:Ins) (.slice none 0 0)) Tryz.results127 rfl HO.out Tryz.underlying106 rfl Tryz.zua rfl ⟨_,rfl,zEa.nil _ _,Below.row HS.out.b (by omega) _⟩
theorem zct {w:World} {t:T} {S:Nat→Prop} {kv:Value} (hk:KAt 34 w t.kids S kv) {sf:ByteArray} {nf:Int} {pf:Nat} {ks:List T} (hkid:t.kids=[.mk 26 sf nf pf ks]) :
  Calls Tryz.prog 127 #[zma t kv] w (zRb w (zfd t)):=by
 have hs:zfd t=(⟨0,t.place,t.text,e0,⟨sf,0⟩,tm0,[],0,false⟩:Ins):=by unfold zfd zFa;rw [hkid];rfl
 rw [hs]
 clear hs
 rw [hkid] at hk
 rcases hk.form with ⟨_,hnil⟩|⟨g,cap,rfl,hg,hcap,hcm,hget⟩
 ·cases hnil
 obtain ⟨u,hr,hT⟩:=hget 0 _ rfl
 have HR:=zh (show w.rangeAt g 0 [.int .i64 26,.string sf,.int .i64 nf,.int .i64 pf,u] from hr)
 have HTK:=zh hT
 have hu1:u.oneCell'=true:=hT.kat.one
 obtain ⟨W2,hW2,HN2,HI2,HR2,HB2,hz2⟩:∃ W,(w.alloc (.cells [.int .i64 t.kind,.string t.text,.int .i64 t.num,.int .i64 t.place,.slice (some ⟨g,0,none⟩) 1 cap].toArray 34)).alloc (.cells [.int .i64 0,.int .i64 0,.string ⟨#[]⟩,.string ⟨#[]⟩,.string ⟨#[]⟩,.int .i64 0,.string ⟨#[]⟩,.int .i64 0,.slice none 0 0,.int .i64 0,.bool false].toArray 106)=W∧Hid (Blk W w.heap.size [.int .i64 t.kind,.string t.text,.int .i64 t.num,.int .i64 t.place,.slice (some ⟨g,0,none⟩) 1 cap] 34)∧Hid (Blk W (w.heap.size+1) [.int .i64 0,.int .i64 0,.string ⟨#[]⟩,.string ⟨#[]⟩,.string ⟨#[]⟩,.int .i64 0,.string ⟨#[]⟩,.int .i64 0,.slice none 0 0,.int .i64 0,.bool false] 106)∧Hid (W.rangeAt g 0 [.int .i64 26,.string sf,.int .i64 nf,.int .i64 pf,u])∧Hid (Below w.heap.size w W)∧W.heap.size=w.heap.size+1+1 :=
  ⟨_,rfl,zh ((Blk.new w _ _).alloc _),zh (Blk.zpc w _ _ _),zh (zpa HR.out (((Below.refl _ _).alloc (Nat.le_refl _) _).alloc (by simp) _) hg),zh (((Below.refl _ _).alloc (Nat.le_refl _) _).alloc (by simp) _),by simp⟩
 have HZ2:=zh hz2
 obtain ⟨W3,hW3⟩:∃ W,W2.alloc (.cells [.int .i64 26,.string sf,.int .i64 nf,.int .i64 pf,u].toArray 34)=W:=⟨_,rfl⟩
 have hb3:Below W2.heap.size W2 W3:=hW3▸(Below.refl _ _).alloc (Nat.le_refl _) _
 have hz3:W3.heap.size=W2.heap.size+1:=by rw [← hW3];simp
 have HK3:=zh (show Blk W3 W2.heap.size [.int .i64 26,.string sf,.int .i64 nf,.int .i64 pf,u] 34 from hW3▸Blk.new W2 _ _)
 have HN3:=zh (HN2.out.stays hb3)
 obtain ⟨W4,hW4⟩:∃ W,W3.alloc (.cells [.int .i64 0,.int .i64 t.place,.string t.text,.string ⟨#[]⟩,.string sf,.int .i64 nf,.string ⟨#[]⟩,.int .i64 0,.slice none 0 0,.int .i64 0,.bool false].toArray 106)=W:=⟨_,rfl⟩
 have hb4:Below W3.heap.size W3 W4:=hW4▸(Below.refl _ _).alloc (Nat.le_refl _) _
 have HS:=zh (show zLf w (w.heap.size+1) W2.heap.size W3.heap.size [.int .i64 26,.string sf,.int .i64 nf,.int .i64 pf,u] (⟨0,t.place,t.text,e0,⟨sf,nf⟩,tm0,[],0,false⟩:Ins) (.slice none 0 0) W4 from
  ⟨⟨_,(HI2.out.stays hb3).stays hb4,rfl⟩,HK3.out.stays hb4,show Blk W4 W3.heap.size _ 106 from hW4▸Blk.new W3 [.int .i64 0,.int .i64 t.place,.string t.text,.string ⟨#[]⟩,.string sf,.int .i64 nf,.string ⟨#[]⟩,.int .i64 0,.slice none 0 0,.int .i64 0,.bool false] 106,HB2.out.trans ((hb3.trans (hb4.mono hb3.size)).mono HB2.out.size),by omega,by omega,by omega⟩)
 have x1:W3.cell? ⟨w.heap.size,1,none⟩=some (.string t.text):=HN3.out.cell 1
 have x3:W3.cell? ⟨w.heap.size,3,none⟩=some (.int .i64 t.place):=HN3.out.cell 3
 have x4:W2.cell? ⟨w.heap.size,4,none⟩=some (.slice (some ⟨g,0,none⟩) 1 cap):=HN2.out.cell 4
 have y1:W3.cell? ⟨W2.heap.size,1,none⟩=some (.string sf):=HK3.out.cell 1
 have y2:W3.cell? ⟨W2.heap.size,2,none⟩=some (.int .i64 nf):=HK3.out.cell 2
 have z0:W4.cell? ⟨W2.heap.size,0,none⟩=some (.int .i64 26):=HS.out.k.cell 0
 have z1:W4.cell? ⟨W2.heap.size,1,none⟩=some (.string sf):=HS.out.k.cell 1
 have z2:W4.cell? ⟨W2.heap.size,2,none⟩=some (.int .i64 nf):=HS.out.k.cell 2
 clear hk hget hr hT hkid hz2 hz3 hb3 hb4
 unfold maxLen at hcm
 unfold zma
 have e1:(1:Nat)≤cap:=hcap
 have HS6:=zh (HS.out.two 4 (.string sf) (.int .i64 0) (j:=(⟨0,t.place,t.text,e0,⟨sf,0⟩,tm0,[],0,false⟩:Ins)) rfl)
 obtain ⟨old,ho,hol⟩:=HS6.out.r
 have HO:=zh ho
 have HOL:=zh hol
 clear ho hol
 go_enter Tryz.func127,Tryz.ntmps127
 go_wp2_with (first
  | ((with_reducible refine zra 34 (.tmp 7) ?_);refine wpList_load_mid rfl 34 (.tmp 7) rfl g 0 rfl [.int .i64 26,.string sf,.int .i64 nf,.int .i64 pf,u] _ HR2.out Tryz.underlying34 rfl Tryz.zGa ?_)
  | ((with_reducible refine zla 34 (.tmp 3) ?_);refine zga rfl 34 (.tmp 3) (.tmp 8) rfl [.int .i64 26,.string sf,.int .i64 nf,.int .i64 pf,u] (old:=zba) rfl rfl Tryz.zGa rfl (zda (T.mk 26 sf nf pf ks) _ hu1) ?_)
  | ((with_reducible refine zla 106 (.tmp 4) ?_);refine zga rfl 106 (.tmp 4) (.tmp 18) rfl [.int .i64 0,.int .i64 t.place,.string t.text,.string ⟨#[]⟩,.string sf,.int .i64 nf,.string ⟨#[]⟩,.int .i64 0,.slice none 0 0,.int .i64 0,.bool false] (old:=zea zFf (.slice none 0 0)) rfl rfl Tryz.zua rfl (zna (⟨0,t.place,t.text,e0,⟨sf,nf⟩,tm0,[],0,false⟩:Ins) (.slice none 0 0) rfl) ?_)
  | ((with_reducible refine zla 103 (.tmp 27) ?_);refine wpList_store_mid rfl 103 (.tmp 27) (.tmp 26) rfl W3.heap.size 4 #[.string sf,.int .i64 0] rfl rfl (HS.out.i.zGc 4 2 (show 4+2≤11 by omega)) Tryz.zlb (all_oneCell_toArray (zGd ⟨sf,0⟩)) ?_)
  | ((with_reducible refine zra 106 (.tmp 4) ?_);refine zja rfl 106 (.tmp 4) rfl W3.heap.size (zea (⟨0,t.place,t.text,e0,⟨sf,0⟩,tm0,[],0,false⟩:Ins) (.slice none 0 0)) rfl HS6.out.i Tryz.underlying106 rfl Tryz.zua ?_)
  | ((with_reducible refine zla 106 (.tmp 2) ?_);refine zca rfl 106 (.tmp 2) (.tmp 96) rfl (w.heap.size+1) (zea (⟨0,t.place,t.text,e0,⟨sf,0⟩,tm0,[],0,false⟩:Ins) (.slice none 0 0)) rfl rfl HO.out Tryz.zua HOL.out (zna (⟨0,t.place,t.text,e0,⟨sf,0⟩,tm0,[],0,false⟩:Ins) (.slice none 0 0) rfl) ?_))
 exact zka (cs:=zea (⟨0,t.place,t.text,e0,⟨sf,0⟩,tm0,[],0,false⟩:Ins) (.slice none 0 0)) Tryz.results127 rfl HO.out Tryz.underlying106 rfl Tryz.zua rfl ⟨_,rfl,zEa.nil _ _,Below.row HS6.out.b (by omega) _⟩
theorem zmt {w:World} {t:T} {S:Nat→Prop} {kv:Value} (hk:KAt 34 w t.kids S kv) {sf:ByteArray} {nf:Int} {pf:Nat} {ks:List T} (hkid:t.kids=[.mk 27 sf nf pf ks]) :
  Calls Tryz.prog 127 #[zma t kv] w (zRb w (zfd t)):=by
 have hs:zfd t=(⟨0,t.place,t.text,e0,⟨sf,0⟩,tm0,[],0,false⟩:Ins):=by unfold zfd zFa;rw [hkid];rfl
 rw [hs]
 clear hs
 rw [hkid] at hk
 rcases hk.form with ⟨_,hnil⟩|⟨g,cap,rfl,hg,hcap,hcm,hget⟩
 ·cases hnil
 obtain ⟨u,hr,hT⟩:=hget 0 _ rfl
 have HR:=zh (show w.rangeAt g 0 [.int .i64 27,.string sf,.int .i64 nf,.int .i64 pf,u] from hr)
 have HTK:=zh hT
 have hu1:u.oneCell'=true:=hT.kat.one
 obtain ⟨W2,hW2,HN2,HI2,HR2,HB2,hz2⟩:∃ W,(w.alloc (.cells [.int .i64 t.kind,.string t.text,.int .i64 t.num,.int .i64 t.place,.slice (some ⟨g,0,none⟩) 1 cap].toArray 34)).alloc (.cells [.int .i64 0,.int .i64 0,.string ⟨#[]⟩,.string ⟨#[]⟩,.string ⟨#[]⟩,.int .i64 0,.string ⟨#[]⟩,.int .i64 0,.slice none 0 0,.int .i64 0,.bool false].toArray 106)=W∧Hid (Blk W w.heap.size [.int .i64 t.kind,.string t.text,.int .i64 t.num,.int .i64 t.place,.slice (some ⟨g,0,none⟩) 1 cap] 34)∧Hid (Blk W (w.heap.size+1) [.int .i64 0,.int .i64 0,.string ⟨#[]⟩,.string ⟨#[]⟩,.string ⟨#[]⟩,.int .i64 0,.string ⟨#[]⟩,.int .i64 0,.slice none 0 0,.int .i64 0,.bool false] 106)∧Hid (W.rangeAt g 0 [.int .i64 27,.string sf,.int .i64 nf,.int .i64 pf,u])∧Hid (Below w.heap.size w W)∧W.heap.size=w.heap.size+1+1 :=
  ⟨_,rfl,zh ((Blk.new w _ _).alloc _),zh (Blk.zpc w _ _ _),zh (zpa HR.out (((Below.refl _ _).alloc (Nat.le_refl _) _).alloc (by simp) _) hg),zh (((Below.refl _ _).alloc (Nat.le_refl _) _).alloc (by simp) _),by simp⟩
 have HZ2:=zh hz2
 obtain ⟨W3,hW3⟩:∃ W,W2.alloc (.cells [.int .i64 27,.string sf,.int .i64 nf,.int .i64 pf,u].toArray 34)=W:=⟨_,rfl⟩
 have hb3:Below W2.heap.size W2 W3:=hW3▸(Below.refl _ _).alloc (Nat.le_refl _) _
 have hz3:W3.heap.size=W2.heap.size+1:=by rw [← hW3];simp
 have HK3:=zh (show Blk W3 W2.heap.size [.int .i64 27,.string sf,.int .i64 nf,.int .i64 pf,u] 34 from hW3▸Blk.new W2 _ _)
 have HN3:=zh (HN2.out.stays hb3)
 obtain ⟨W4,hW4⟩:∃ W,W3.alloc (.cells [.int .i64 0,.int .i64 t.place,.string t.text,.string ⟨#[]⟩,.string sf,.int .i64 nf,.string ⟨#[]⟩,.int .i64 0,.slice none 0 0,.int .i64 0,.bool false].toArray 106)=W:=⟨_,rfl⟩
 have hb4:Below W3.heap.size W3 W4:=hW4▸(Below.refl _ _).alloc (Nat.le_refl _) _
 have HS:=zh (show zLf w (w.heap.size+1) W2.heap.size W3.heap.size [.int .i64 27,.string sf,.int .i64 nf,.int .i64 pf,u] (⟨0,t.place,t.text,e0,⟨sf,nf⟩,tm0,[],0,false⟩:Ins) (.slice none 0 0) W4 from
  ⟨⟨_,(HI2.out.stays hb3).stays hb4,rfl⟩,HK3.out.stays hb4,show Blk W4 W3.heap.size _ 106 from hW4▸Blk.new W3 [.int .i64 0,.int .i64 t.place,.string t.text,.string ⟨#[]⟩,.string sf,.int .i64 nf,.string ⟨#[]⟩,.int .i64 0,.slice none 0 0,.int .i64 0,.bool false] 106,HB2.out.trans ((hb3.trans (hb4.mono hb3.size)).mono HB2.out.size),by omega,by omega,by omega⟩)
 have x1:W3.cell? ⟨w.heap.size,1,none⟩=some (.string t.text):=HN3.out.cell 1
 have x3:W3.cell? ⟨w.heap.size,3,none⟩=some (.int .i64 t.place):=HN3.out.cell 3
 have x4:W2.cell? ⟨w.heap.size,4,none⟩=some (.slice (some ⟨g,0,none⟩) 1 cap):=HN2.out.cell 4
 have y1:W3.cell? ⟨W2.heap.size,1,none⟩=some (.string sf):=HK3.out.cell 1
 have y2:W3.cell? ⟨W2.heap.size,2,none⟩=some (.int .i64 nf):=HK3.out.cell 2
 have z0:W4.cell? ⟨W2.heap.size,0,none⟩=some (.int .i64 27):=HS.out.k.cell 0
 have z1:W4.cell? ⟨W2.heap.size,1,none⟩=some (.string sf):=HS.out.k.cell 1
 have z2:W4.cell? ⟨W2.heap.size,2,none⟩=some (.int .i64 nf):=HS.out.k.cell 2
 clear hk hget hr hT hkid hz2 hz3 hb3 hb4
 unfold maxLen at hcm
 unfold zma
 have e1:(1:Nat)≤cap:=hcap
 have HS6:=zh (HS.out.two 4 (.string sf) (.int .i64 0) (j:=(⟨0,t.place,t.text,e0,⟨sf,0⟩,tm0,[],0,false⟩:Ins)) rfl)
 obtain ⟨old,ho,hol⟩:=HS6.out.r
 have HO:=zh ho
 have HOL:=zh hol
 clear ho hol
 go_enter Tryz.func127,Tryz.ntmps127
 go_wp2_with (first
  | ((with_reducible refine zra 34 (.tmp 7) ?_);refine wpList_load_mid rfl 34 (.tmp 7) rfl g 0 rfl [.int .i64 27,.string sf,.int .i64 nf,.int .i64 pf,u] _ HR2.out Tryz.underlying34 rfl Tryz.zGa ?_)
  | ((with_reducible refine zla 34 (.tmp 3) ?_);refine zga rfl 34 (.tmp 3) (.tmp 8) rfl [.int .i64 27,.string sf,.int .i64 nf,.int .i64 pf,u] (old:=zba) rfl rfl Tryz.zGa rfl (zda (T.mk 27 sf nf pf ks) _ hu1) ?_)
  | ((with_reducible refine zla 106 (.tmp 4) ?_);refine zga rfl 106 (.tmp 4) (.tmp 18) rfl [.int .i64 0,.int .i64 t.place,.string t.text,.string ⟨#[]⟩,.string sf,.int .i64 nf,.string ⟨#[]⟩,.int .i64 0,.slice none 0 0,.int .i64 0,.bool false] (old:=zea zFf (.slice none 0 0)) rfl rfl Tryz.zua rfl (zna (⟨0,t.place,t.text,e0,⟨sf,nf⟩,tm0,[],0,false⟩:Ins) (.slice none 0 0) rfl) ?_)
  | ((with_reducible refine zla 103 (.tmp 27) ?_);refine wpList_store_mid rfl 103 (.tmp 27) (.tmp 26) rfl W3.heap.size 4 #[.string sf,.int .i64 0] rfl rfl (HS.out.i.zGc 4 2 (show 4+2≤11 by omega)) Tryz.zlb (all_oneCell_toArray (zGd ⟨sf,0⟩)) ?_)
  | ((with_reducible refine zra 106 (.tmp 4) ?_);refine zja rfl 106 (.tmp 4) rfl W3.heap.size (zea (⟨0,t.place,t.text,e0,⟨sf,0⟩,tm0,[],0,false⟩:Ins) (.slice none 0 0)) rfl HS6.out.i Tryz.underlying106 rfl Tryz.zua ?_)
  | ((with_reducible refine zla 106 (.tmp 2) ?_);refine zca rfl 106 (.tmp 2) (.tmp 96) rfl (w.heap.size+1) (zea (⟨0,t.place,t.text,e0,⟨sf,0⟩,tm0,[],0,false⟩:Ins) (.slice none 0 0)) rfl rfl HO.out Tryz.zua HOL.out (zna (⟨0,t.place,t.text,e0,⟨sf,0⟩,tm0,[],0,false⟩:Ins) (.slice none 0 0) rfl) ?_))
 exact zka (cs:=zea (⟨0,t.place,t.text,e0,⟨sf,0⟩,tm0,[],0,false⟩:Ins) (.slice none 0 0)) Tryz.results127 rfl HO.out Tryz.underlying106 rfl Tryz.zua rfl ⟨_,rfl,zEa.nil _ _,Below.row HS6.out.b (by omega) _⟩
theorem znt {w:World} {t:T} {S:Nat→Prop} {kv:Value} (hk:KAt 34 w t.kids S kv) {sf:ByteArray} {nf:Int} {pf:Nat} {ks:List T} (hkid:t.kids=[.mk 23 sf nf pf ks]) :
  Calls Tryz.prog 127 #[zma t kv] w (zRb w (zfd t)):=by
 have hs:zfd t=(⟨3,t.place,t.text,e0,⟨e0,nf⟩,tm0,[],0,false⟩:Ins):=by unfold zfd zFa;rw [hkid];rfl
 rw [hs]
 clear hs
 rw [hkid] at hk
 rcases hk.form with ⟨_,hnil⟩|⟨g,cap,rfl,hg,hcap,hcm,hget⟩
 ·cases hnil
 obtain ⟨u,hr,hT⟩:=hget 0 _ rfl
 have HR:=zh (show w.rangeAt g 0 [.int .i64 23,.string sf,.int .i64 nf,.int .i64 pf,u] from hr)
 have HTK:=zh hT
 have hu1:u.oneCell'=true:=hT.kat.one
 obtain ⟨W2,hW2,HN2,HI2,HR2,HB2,hz2⟩:∃ W,(w.alloc (.cells [.int .i64 t.kind,.string t.text,.int .i64 t.num,.int .i64 t.place,.slice (some ⟨g,0,none⟩) 1 cap].toArray 34)).alloc (.cells [.int .i64 0,.int .i64 0,.string ⟨#[]⟩,.string ⟨#[]⟩,.string ⟨#[]⟩,.int .i64 0,.string ⟨#[]⟩,.int .i64 0,.slice none 0 0,.int .i64 0,.bool false].toArray 106)=W∧Hid (Blk W w.heap.size [.int .i64 t.kind,.string t.text,.int .i64 t.num,.int .i64 t.place,.slice (some ⟨g,0,none⟩) 1 cap] 34)∧Hid (Blk W (w.heap.size+1) [.int .i64 0,.int .i64 0,.string ⟨#[]⟩,.string ⟨#[]⟩,.string ⟨#[]⟩,.int .i64 0,.string ⟨#[]⟩,.int .i64 0,.slice none 0 0,.int .i64 0,.bool false] 106)∧Hid (W.rangeAt g 0 [.int .i64 23,.string sf,.int .i64 nf,.int .i64 pf,u])∧Hid (Below w.heap.size w W)∧W.heap.size=w.heap.size+1+1 :=
  ⟨_,rfl,zh ((Blk.new w _ _).alloc _),zh (Blk.zpc w _ _ _),zh (zpa HR.out (((Below.refl _ _).alloc (Nat.le_refl _) _).alloc (by simp) _) hg),zh (((Below.refl _ _).alloc (Nat.le_refl _) _).alloc (by simp) _),by simp⟩
 have HZ2:=zh hz2
 obtain ⟨W3,hW3⟩:∃ W,W2.alloc (.cells [.int .i64 23,.string sf,.int .i64 nf,.int .i64 pf,u].toArray 34)=W:=⟨_,rfl⟩
 have hb3:Below W2.heap.size W2 W3:=hW3▸(Below.refl _ _).alloc (Nat.le_refl _) _
 have hz3:W3.heap.size=W2.heap.size+1:=by rw [← hW3];simp
 have HK3:=zh (show Blk W3 W2.heap.size [.int .i64 23,.string sf,.int .i64 nf,.int .i64 pf,u] 34 from hW3▸Blk.new W2 _ _)
 have HN3:=zh (HN2.out.stays hb3)
 obtain ⟨W4,hW4⟩:∃ W,W3.alloc (.cells [.int .i64 0,.int .i64 t.place,.string t.text,.string ⟨#[]⟩,.string sf,.int .i64 nf,.string ⟨#[]⟩,.int .i64 0,.slice none 0 0,.int .i64 0,.bool false].toArray 106)=W:=⟨_,rfl⟩
 have hb4:Below W3.heap.size W3 W4:=hW4▸(Below.refl _ _).alloc (Nat.le_refl _) _
 have HS:=zh (show zLf w (w.heap.size+1) W2.heap.size W3.heap.size [.int .i64 23,.string sf,.int .i64 nf,.int .i64 pf,u] (⟨0,t.place,t.text,e0,⟨sf,nf⟩,tm0,[],0,false⟩:Ins) (.slice none 0 0) W4 from
  ⟨⟨_,(HI2.out.stays hb3).stays hb4,rfl⟩,HK3.out.stays hb4,show Blk W4 W3.heap.size _ 106 from hW4▸Blk.new W3 [.int .i64 0,.int .i64 t.place,.string t.text,.string ⟨#[]⟩,.string sf,.int .i64 nf,.string ⟨#[]⟩,.int .i64 0,.slice none 0 0,.int .i64 0,.bool false] 106,HB2.out.trans ((hb3.trans (hb4.mono hb3.size)).mono HB2.out.size),by omega,by omega,by omega⟩)
 have x1:W3.cell? ⟨w.heap.size,1,none⟩=some (.string t.text):=HN3.out.cell 1
 have x3:W3.cell? ⟨w.heap.size,3,none⟩=some (.int .i64 t.place):=HN3.out.cell 3
 have x4:W2.cell? ⟨w.heap.size,4,none⟩=some (.slice (some ⟨g,0,none⟩) 1 cap):=HN2.out.cell 4
 have y1:W3.cell? ⟨W2.heap.size,1,none⟩=some (.string sf):=HK3.out.cell 1
 have y2:W3.cell? ⟨W2.heap.size,2,none⟩=some (.int .i64 nf):=HK3.out.cell 2
 have z0:W4.cell? ⟨W2.heap.size,0,none⟩=some (.int .i64 23):=HS.out.k.cell 0
 have z1:W4.cell? ⟨W2.heap.size,1,none⟩=some (.string sf):=HS.out.k.cell 1
 have z2:W4.cell? ⟨W2.heap.size,2,none⟩=some (.int .i64 nf):=HS.out.k.cell 2
 clear hk hget hr hT hkid hz2 hz3 hb3 hb4
 unfold maxLen at hcm
 unfold zma
 have e1:(1:Nat)≤cap:=hcap
 have c0:W4.cell? ⟨W3.heap.size,0,none⟩=some (.int .i64 0):=HS.out.i.cell 0
 have f0:=HS.out.i.frozen 0
 have HS5:=zh (HS.out.cell 0 (.int .i64 3) (j:=(⟨3,t.place,t.text,e0,⟨sf,nf⟩,tm0,[],0,false⟩:Ins)) (y:=.slice none 0 0) rfl)
 have q1:(W4.setCell ⟨W3.heap.size,0,none⟩ (.int .i64 3)).cell? ⟨W2.heap.size,1,none⟩=some (.string sf):=HS5.out.k.cell 1
 have q2:(W4.setCell ⟨W3.heap.size,0,none⟩ (.int .i64 3)).cell? ⟨W2.heap.size,2,none⟩=some (.int .i64 nf):=HS5.out.k.cell 2
 have HS6:=zh (HS5.out.two 4 (.string ⟨#[]⟩) (.int .i64 nf) (j:=(⟨3,t.place,t.text,e0,⟨e0,nf⟩,tm0,[],0,false⟩:Ins)) rfl)
 obtain ⟨old,ho,hol⟩:=HS6.out.r
 have HO:=zh ho
 have HOL:=zh hol
 clear ho hol
 go_enter Tryz.func127,Tryz.ntmps127
 go_wp2_with (first
  | ((with_reducible refine zra 34 (.tmp 7) ?_);refine wpList_load_mid rfl 34 (.tmp 7) rfl g 0 rfl [.int .i64 23,.string sf,.int .i64 nf,.int .i64 pf,u] _ HR2.out Tryz.underlying34 rfl Tryz.zGa ?_)
  | ((with_reducible refine zla 34 (.tmp 3) ?_);refine zga rfl 34 (.tmp 3) (.tmp 8) rfl [.int .i64 23,.string sf,.int .i64 nf,.int .i64 pf,u] (old:=zba) rfl rfl Tryz.zGa rfl (zda (T.mk 23 sf nf pf ks) _ hu1) ?_)
  | ((with_reducible refine zla 106 (.tmp 4) ?_);refine zga rfl 106 (.tmp 4) (.tmp 18) rfl [.int .i64 0,.int .i64 t.place,.string t.text,.string ⟨#[]⟩,.string sf,.int .i64 nf,.string ⟨#[]⟩,.int .i64 0,.slice none 0 0,.int .i64 0,.bool false] (old:=zea zFf (.slice none 0 0)) rfl rfl Tryz.zua rfl (zna (⟨0,t.place,t.text,e0,⟨sf,nf⟩,tm0,[],0,false⟩:Ins) (.slice none 0 0) rfl) ?_)
  | ((with_reducible refine zla 103 (.tmp 64) ?_);refine wpList_store_mid rfl 103 (.tmp 64) (.tmp 63) rfl W3.heap.size 4 #[.string ⟨#[]⟩,.int .i64 nf] rfl rfl (HS5.out.i.zGc 4 2 (show 4+2≤11 by omega)) Tryz.zlb (all_oneCell_toArray (zGd ⟨e0,nf⟩)) ?_)
  | ((with_reducible refine zra 106 (.tmp 4) ?_);refine zja rfl 106 (.tmp 4) rfl W3.heap.size (zea (⟨3,t.place,t.text,e0,⟨e0,nf⟩,tm0,[],0,false⟩:Ins) (.slice none 0 0)) rfl HS6.out.i Tryz.underlying106 rfl Tryz.zua ?_)
  | ((with_reducible refine zla 106 (.tmp 2) ?_);refine zca rfl 106 (.tmp 2) (.tmp 96) rfl (w.heap.size+1) (zea (⟨3,t.place,t.text,e0,⟨e0,nf⟩,tm0,[],0,false⟩:Ins) (.slice none 0 0)) rfl rfl HO.out Tryz.zua HOL.out (zna (⟨3,t.place,t.text,e0,⟨e0,nf⟩,tm0,[],0,false⟩:Ins) (.slice none 0 0) rfl) ?_))
 exact zka (cs:=zea (⟨3,t.place,t.text,e0,⟨e0,nf⟩,tm0,[],0,false⟩:Ins) (.slice none 0 0)) Tryz.results127 rfl HO.out Tryz.underlying106 rfl Tryz.zua rfl ⟨_,rfl,zEa.nil _ _,Below.row HS6.out.b (by omega) _⟩
theorem ztt {w:World} {t:T} {S:Nat→Prop} {kv:Value} (hk:KAt 34 w t.kids S kv) {sf:ByteArray} {nf:Int} {pf:Nat} {ks:List T} (hkid:t.kids=[.mk 24 sf nf pf ks]) :
  Calls Tryz.prog 127 #[zma t kv] w (zRb w (zfd t)):=by
 have hs:zfd t=(⟨4,t.place,t.text,e0,⟨sf,0⟩,tm0,[],0,false⟩:Ins):=by unfold zfd zFa;rw [hkid];rfl
 rw [hs]
 clear hs
 rw [hkid] at hk
 rcases hk.form with ⟨_,hnil⟩|⟨g,cap,rfl,hg,hcap,hcm,hget⟩
 ·cases hnil
 obtain ⟨u,hr,hT⟩:=hget 0 _ rfl
 have HR:=zh (show w.rangeAt g 0 [.int .i64 24,.string sf,.int .i64 nf,.int .i64 pf,u] from hr)
 have HTK:=zh hT
 have hu1:u.oneCell'=true:=hT.kat.one
 obtain ⟨W2,hW2,HN2,HI2,HR2,HB2,hz2⟩:∃ W,(w.alloc (.cells [.int .i64 t.kind,.string t.text,.int .i64 t.num,.int .i64 t.place,.slice (some ⟨g,0,none⟩) 1 cap].toArray 34)).alloc (.cells [.int .i64 0,.int .i64 0,.string ⟨#[]⟩,.string ⟨#[]⟩,.string ⟨#[]⟩,.int .i64 0,.string ⟨#[]⟩,.int .i64 0,.slice none 0 0,.int .i64 0,.bool false].toArray 106)=W∧Hid (Blk W w.heap.size [.int .i64 t.kind,.string t.text,.int .i64 t.num,.int .i64 t.place,.slice (some ⟨g,0,none⟩) 1 cap] 34)∧Hid (Blk W (w.heap.size+1) [.int .i64 0,.int .i64 0,.string ⟨#[]⟩,.string ⟨#[]⟩,.string ⟨#[]⟩,.int .i64 0,.string ⟨#[]⟩,.int .i64 0,.slice none 0 0,.int .i64 0,.bool false] 106)∧Hid (W.rangeAt g 0 [.int .i64 24,.string sf,.int .i64 nf,.int .i64 pf,u])∧Hid (Below w.heap.size w W)∧W.heap.size=w.heap.size+1+1 :=
  ⟨_,rfl,zh ((Blk.new w _ _).alloc _),zh (Blk.zpc w _ _ _),zh (zpa HR.out (((Below.refl _ _).alloc (Nat.le_refl _) _).alloc (by simp) _) hg),zh (((Below.refl _ _).alloc (Nat.le_refl _) _).alloc (by simp) _),by simp⟩
 have HZ2:=zh hz2
 obtain ⟨W3,hW3⟩:∃ W,W2.alloc (.cells [.int .i64 24,.string sf,.int .i64 nf,.int .i64 pf,u].toArray 34)=W:=⟨_,rfl⟩
 have hb3:Below W2.heap.size W2 W3:=hW3▸(Below.refl _ _).alloc (Nat.le_refl _) _
 have hz3:W3.heap.size=W2.heap.size+1:=by rw [← hW3];simp
 have HK3:=zh (show Blk W3 W2.heap.size [.int .i64 24,.string sf,.int .i64 nf,.int .i64 pf,u] 34 from hW3▸Blk.new W2 _ _)
 have HN3:=zh (HN2.out.stays hb3)
 obtain ⟨W4,hW4⟩:∃ W,W3.alloc (.cells [.int .i64 0,.int .i64 t.place,.string t.text,.string ⟨#[]⟩,.string sf,.int .i64 nf,.string ⟨#[]⟩,.int .i64 0,.slice none 0 0,.int .i64 0,.bool false].toArray 106)=W:=⟨_,rfl⟩
 have hb4:Below W3.heap.size W3 W4:=hW4▸(Below.refl _ _).alloc (Nat.le_refl _) _
 have HS:=zh (show zLf w (w.heap.size+1) W2.heap.size W3.heap.size [.int .i64 24,.string sf,.int .i64 nf,.int .i64 pf,u] (⟨0,t.place,t.text,e0,⟨sf,nf⟩,tm0,[],0,false⟩:Ins) (.slice none 0 0) W4 from
  ⟨⟨_,(HI2.out.stays hb3).stays hb4,rfl⟩,HK3.out.stays hb4,show Blk W4 W3.heap.size _ 106 from hW4▸Blk.new W3 [.int .i64 0,.int .i64 t.place,.string t.text,.string ⟨#[]⟩,.string sf,.int .i64 nf,.string ⟨#[]⟩,.int .i64 0,.slice none 0 0,.int .i64 0,.bool false] 106,HB2.out.trans ((hb3.trans (hb4.mono hb3.size)).mono HB2.out.size),by omega,by omega,by omega⟩)
 have x1:W3.cell? ⟨w.heap.size,1,none⟩=some (.string t.text):=HN3.out.cell 1
 have x3:W3.cell? ⟨w.heap.size,3,none⟩=some (.int .i64 t.place):=HN3.out.cell 3
 have x4:W2.cell? ⟨w.heap.size,4,none⟩=some (.slice (some ⟨g,0,none⟩) 1 cap):=HN2.out.cell 4
 have y1:W3.cell? ⟨W2.heap.size,1,none⟩=some (.string sf):=HK3.out.cell 1
 have y2:W3.cell? ⟨W2.heap.size,2,none⟩=some (.int .i64 nf):=HK3.out.cell 2
 have z0:W4.cell? ⟨W2.heap.size,0,none⟩=some (.int .i64 24):=HS.out.k.cell 0
 have z1:W4.cell? ⟨W2.heap.size,1,none⟩=some (.string sf):=HS.out.k.cell 1
 have z2:W4.cell? ⟨W2.heap.size,2,none⟩=some (.int .i64 nf):=HS.out.k.cell 2
 clear hk hget hr hT hkid hz2 hz3 hb3 hb4
 unfold maxLen at hcm
 unfold zma
 have e1:(1:Nat)≤cap:=hcap
 have c0:W4.cell? ⟨W3.heap.size,0,none⟩=some (.int .i64 0):=HS.out.i.cell 0
 have f0:=HS.out.i.frozen 0
 have HS5:=zh (HS.out.cell 0 (.int .i64 4) (j:=(⟨4,t.place,t.text,e0,⟨sf,nf⟩,tm0,[],0,false⟩:Ins)) (y:=.slice none 0 0) rfl)
 have q1:(W4.setCell ⟨W3.heap.size,0,none⟩ (.int .i64 4)).cell? ⟨W2.heap.size,1,none⟩=some (.string sf):=HS5.out.k.cell 1
 have q2:(W4.setCell ⟨W3.heap.size,0,none⟩ (.int .i64 4)).cell? ⟨W2.heap.size,2,none⟩=some (.int .i64 nf):=HS5.out.k.cell 2
 have HS6:=zh (HS5.out.two 4 (.string sf) (.int .i64 0) (j:=(⟨4,t.place,t.text,e0,⟨sf,0⟩,tm0,[],0,false⟩:Ins)) rfl)
 obtain ⟨old,ho,hol⟩:=HS6.out.r
 have HO:=zh ho
 have HOL:=zh hol
 clear ho hol
 go_enter Tryz.func127,Tryz.ntmps127
 go_wp2_with (first
  | ((with_reducible refine zra 34 (.tmp 7) ?_);refine wpList_load_mid rfl 34 (.tmp 7) rfl g 0 rfl [.int .i64 24,.string sf,.int .i64 nf,.int .i64 pf,u] _ HR2.out Tryz.underlying34 rfl Tryz.zGa ?_)
  | ((with_reducible refine zla 34 (.tmp 3) ?_);refine zga rfl 34 (.tmp 3) (.tmp 8) rfl [.int .i64 24,.string sf,.int .i64 nf,.int .i64 pf,u] (old:=zba) rfl rfl Tryz.zGa rfl (zda (T.mk 24 sf nf pf ks) _ hu1) ?_)
  | ((with_reducible refine zla 106 (.tmp 4) ?_);refine zga rfl 106 (.tmp 4) (.tmp 18) rfl [.int .i64 0,.int .i64 t.place,.string t.text,.string ⟨#[]⟩,.string sf,.int .i64 nf,.string ⟨#[]⟩,.int .i64 0,.slice none 0 0,.int .i64 0,.bool false] (old:=zea zFf (.slice none 0 0)) rfl rfl Tryz.zua rfl (zna (⟨0,t.place,t.text,e0,⟨sf,nf⟩,tm0,[],0,false⟩:Ins) (.slice none 0 0) rfl) ?_)
  | ((with_reducible refine zla 103 (.tmp 71) ?_);refine wpList_store_mid rfl 103 (.tmp 71) (.tmp 70) rfl W3.heap.size 4 #[.string sf,.int .i64 0] rfl rfl (HS5.out.i.zGc 4 2 (show 4+2≤11 by omega)) Tryz.zlb (all_oneCell_toArray (zGd ⟨sf,0⟩)) ?_)
  | ((with_reducible refine zra 106 (.tmp 4) ?_);refine zja rfl 106 (.tmp 4) rfl W3.heap.size (zea (⟨4,t.place,t.text,e0,⟨sf,0⟩,tm0,[],0,false⟩:Ins) (.slice none 0 0)) rfl HS6.out.i Tryz.underlying106 rfl Tryz.zua ?_)
  | ((with_reducible refine zla 106 (.tmp 2) ?_);refine zca rfl 106 (.tmp 2) (.tmp 96) rfl (w.heap.size+1) (zea (⟨4,t.place,t.text,e0,⟨sf,0⟩,tm0,[],0,false⟩:Ins) (.slice none 0 0)) rfl rfl HO.out Tryz.zua HOL.out (zna (⟨4,t.place,t.text,e0,⟨sf,0⟩,tm0,[],0,false⟩:Ins) (.slice none 0 0) rfl) ?_))
 exact zka (cs:=zea (⟨4,t.place,t.text,e0,⟨sf,0⟩,tm0,[],0,false⟩:Ins) (.slice none 0 0)) Tryz.results127 rfl HO.out Tryz.underlying106 rfl Tryz.zua rfl ⟨_,rfl,zEa.nil _ _,Below.row HS6.out.b (by omega) _⟩
theorem zat {w:World} {t:T} {S:Nat→Prop} {kv:Value} (hk:KAt 34 w t.kids S kv) {sf:ByteArray} {nf:Int} {pf:Nat} {ks:List T} (hkid:t.kids=[.mk 21 sf nf pf ks]) {k0 k1:T} (h0:ks[0]?=some k0) (h1:ks[1]?=some k1) :
  Calls Tryz.prog 127 #[zma t kv] w (zRb w (zfd t)):=by
 have hs:zfd t=(⟨1,t.place,t.text,e0,zDa k0,zDa k1,[],0,false⟩:Ins):=by
  have e0':ks.getD 0 znb=k0:=by {rw [List.getD_eq_getElem?_getD,h0];rfl}
  have e1':ks.getD 1 znb=k1:=by {rw [List.getD_eq_getElem?_getD,h1];rfl}
  unfold zfd zFa;rw [hkid,← e0',← e1'];rfl
 rw [hs]
 clear hs
 rw [hkid] at hk
 rcases hk.form with ⟨_,hnil⟩|⟨g,cap,rfl,hg,hcap,hcm,hget⟩
 ·cases hnil
 obtain ⟨u,hr,hT⟩:=hget 0 _ rfl
 have HR:=zh (show w.rangeAt g 0 [.int .i64 21,.string sf,.int .i64 nf,.int .i64 pf,u] from hr)
 have HTK:=zh hT
 have hu1:u.oneCell'=true:=hT.kat.one
 obtain ⟨W2,hW2,HN2,HI2,HR2,HB2,hz2⟩:∃ W,(w.alloc (.cells [.int .i64 t.kind,.string t.text,.int .i64 t.num,.int .i64 t.place,.slice (some ⟨g,0,none⟩) 1 cap].toArray 34)).alloc (.cells [.int .i64 0,.int .i64 0,.string ⟨#[]⟩,.string ⟨#[]⟩,.string ⟨#[]⟩,.int .i64 0,.string ⟨#[]⟩,.int .i64 0,.slice none 0 0,.int .i64 0,.bool false].toArray 106)=W∧Hid (Blk W w.heap.size [.int .i64 t.kind,.string t.text,.int .i64 t.num,.int .i64 t.place,.slice (some ⟨g,0,none⟩) 1 cap] 34)∧Hid (Blk W (w.heap.size+1) [.int .i64 0,.int .i64 0,.string ⟨#[]⟩,.string ⟨#[]⟩,.string ⟨#[]⟩,.int .i64 0,.string ⟨#[]⟩,.int .i64 0,.slice none 0 0,.int .i64 0,.bool false] 106)∧Hid (W.rangeAt g 0 [.int .i64 21,.string sf,.int .i64 nf,.int .i64 pf,u])∧Hid (Below w.heap.size w W)∧W.heap.size=w.heap.size+1+1 :=
  ⟨_,rfl,zh ((Blk.new w _ _).alloc _),zh (Blk.zpc w _ _ _),zh (zpa HR.out (((Below.refl _ _).alloc (Nat.le_refl _) _).alloc (by simp) _) hg),zh (((Below.refl _ _).alloc (Nat.le_refl _) _).alloc (by simp) _),by simp⟩
 have HZ2:=zh hz2
 obtain ⟨W3,hW3⟩:∃ W,W2.alloc (.cells [.int .i64 21,.string sf,.int .i64 nf,.int .i64 pf,u].toArray 34)=W:=⟨_,rfl⟩
 have hb3:Below W2.heap.size W2 W3:=hW3▸(Below.refl _ _).alloc (Nat.le_refl _) _
 have hz3:W3.heap.size=W2.heap.size+1:=by rw [← hW3];simp
 have HK3:=zh (show Blk W3 W2.heap.size [.int .i64 21,.string sf,.int .i64 nf,.int .i64 pf,u] 34 from hW3▸Blk.new W2 _ _)
 have HN3:=zh (HN2.out.stays hb3)
 obtain ⟨W4,hW4⟩:∃ W,W3.alloc (.cells [.int .i64 0,.int .i64 t.place,.string t.text,.string ⟨#[]⟩,.string sf,.int .i64 nf,.string ⟨#[]⟩,.int .i64 0,.slice none 0 0,.int .i64 0,.bool false].toArray 106)=W:=⟨_,rfl⟩
 have hb4:Below W3.heap.size W3 W4:=hW4▸(Below.refl _ _).alloc (Nat.le_refl _) _
 have HS:=zh (show zLf w (w.heap.size+1) W2.heap.size W3.heap.size [.int .i64 21,.string sf,.int .i64 nf,.int .i64 pf,u] (⟨0,t.place,t.text,e0,⟨sf,nf⟩,tm0,[],0,false⟩:Ins) (.slice none 0 0) W4 from
  ⟨⟨_,(HI2.out.stays hb3).stays hb4,rfl⟩,HK3.out.stays hb4,show Blk W4 W3.heap.size _ 106 from hW4▸Blk.new W3 [.int .i64 0,.int .i64 t.place,.string t.text,.string ⟨#[]⟩,.string sf,.int .i64 nf,.string ⟨#[]⟩,.int .i64 0,.slice none 0 0,.int .i64 0,.bool false] 106,HB2.out.trans ((hb3.trans (hb4.mono hb3.size)).mono HB2.out.size),by omega,by omega,by omega⟩)
 have x1:W3.cell? ⟨w.heap.size,1,none⟩=some (.string t.text):=HN3.out.cell 1
 have x3:W3.cell? ⟨w.heap.size,3,none⟩=some (.int .i64 t.place):=HN3.out.cell 3
 have x4:W2.cell? ⟨w.heap.size,4,none⟩=some (.slice (some ⟨g,0,none⟩) 1 cap):=HN2.out.cell 4
 have y1:W3.cell? ⟨W2.heap.size,1,none⟩=some (.string sf):=HK3.out.cell 1
 have y2:W3.cell? ⟨W2.heap.size,2,none⟩=some (.int .i64 nf):=HK3.out.cell 2
 have z0:W4.cell? ⟨W2.heap.size,0,none⟩=some (.int .i64 21):=HS.out.k.cell 0
 have z1:W4.cell? ⟨W2.heap.size,1,none⟩=some (.string sf):=HS.out.k.cell 1
 have z2:W4.cell? ⟨W2.heap.size,2,none⟩=some (.int .i64 nf):=HS.out.k.cell 2
 clear hk hget hr hT hkid hz2 hz3 hb3 hb4
 unfold maxLen at hcm
 unfold zma
 have e1:(1:Nat)≤cap:=hcap
 rcases (show KAt 34 w ks S u from HTK.out.kat).form with ⟨_,hnil⟩|⟨g2,cap2,hu0,hg2,hcap2,hcm2,hget2⟩
 ·rw [hnil] at h0;cases h0
 have HU0:=zh hu0
 clear hu0
 have l0:0<ks.length:=(List.getElem?_eq_some_iff.1 h0).1
 obtain ⟨ua,hra,_⟩:=hget2 0 k0 h0
 have l1:1<ks.length:=(List.getElem?_eq_some_iff.1 h1).1
 obtain ⟨ub,hrb,_⟩:=hget2 1 k1 h1
 have c0:W4.cell? ⟨W3.heap.size,0,none⟩=some (.int .i64 0):=HS.out.i.cell 0
 have f0:=HS.out.i.frozen 0
 have HS5:=zh (HS.out.cell 0 (.int .i64 1) (j:=(⟨1,t.place,t.text,e0,⟨sf,nf⟩,tm0,[],0,false⟩:Ins)) (y:=.slice none 0 0) rfl)
 have q4:(W4.setCell ⟨W3.heap.size,0,none⟩ (.int .i64 1)).cell? ⟨W2.heap.size,4,none⟩=some (.slice (some ⟨g2,0,none⟩) ks.length cap2):=by rw [← HU0.out];exact HS5.out.k.cell 4
 have HRA:=zh (show (W4.setCell ⟨W3.heap.size,0,none⟩ (.int .i64 1)).rangeAt g2 0 (zaa k0 ua) from zpa hra HS5.out.b hg2)
 have HRB:=zh hrb
 clear hra hrb hget2
 go_enter Tryz.func127,Tryz.ntmps127
 go_wp2_with (first
  | ((with_reducible refine zra 34 (.tmp 7) ?_);refine wpList_load_mid rfl 34 (.tmp 7) rfl g 0 rfl [.int .i64 21,.string sf,.int .i64 nf,.int .i64 pf,u] _ HR2.out Tryz.underlying34 rfl Tryz.zGa ?_)
  | ((with_reducible refine zla 34 (.tmp 3) ?_);refine zga rfl 34 (.tmp 3) (.tmp 8) rfl [.int .i64 21,.string sf,.int .i64 nf,.int .i64 pf,u] (old:=zba) rfl rfl Tryz.zGa rfl (zda (T.mk 21 sf nf pf ks) _ hu1) ?_)
  | ((with_reducible refine zla 106 (.tmp 4) ?_);refine zga rfl 106 (.tmp 4) (.tmp 18) rfl [.int .i64 0,.int .i64 t.place,.string t.text,.string ⟨#[]⟩,.string sf,.int .i64 nf,.string ⟨#[]⟩,.int .i64 0,.slice none 0 0,.int .i64 0,.bool false] (old:=zea zFf (.slice none 0 0)) rfl rfl Tryz.zua rfl (zna (⟨0,t.place,t.text,e0,⟨sf,nf⟩,tm0,[],0,false⟩:Ins) (.slice none 0 0) rfl) ?_)
  | ((with_reducible refine zra 34 (.tmp 33) ?_);refine wpList_load_mid rfl 34 (.tmp 33) rfl g2 0 rfl (zaa k0 ua) _ HRA.out Tryz.underlying34 rfl Tryz.zGa ?_))
 refine (zuf _ k0 ua).mono ?_
 rintro e w1 ⟨rfl,hb1⟩
 have HS6:=zh (HS5.out.call hb1)
 have HS7:=zh (HS6.out.two 4 (.string k0.text) (.int .i64 k0.num) (j:=(⟨1,t.place,t.text,e0,zDa k0,tm0,[],0,false⟩:Ins)) rfl)
 have m4:(w1.setCells W3.heap.size 4 [.string k0.text,.int .i64 k0.num]).cell? ⟨W2.heap.size,4,none⟩=some (.slice (some ⟨g2,0,none⟩) ks.length cap2):=by rw [← HU0.out];exact HS7.out.k.cell 4
 have HRC:=zh (show (w1.setCells W3.heap.size 4 [.string k0.text,.int .i64 k0.num]).rangeAt g2 5 (zaa k1 ub) from zpa HRB.out HS7.out.b hg2)
 clear hb1
 go_wp2_with (first
  | ((with_reducible refine zla 103 (.tmp 36) ?_);refine wpList_store_mid rfl 103 (.tmp 36) (.tmp 35) rfl W3.heap.size 4 #[.string k0.text,.int .i64 k0.num] rfl rfl (HS6.out.i.zGc 4 2 (show 4+2≤11 by omega)) Tryz.zlb (all_oneCell_toArray (zGd (zDa k0))) ?_)
  | ((with_reducible refine zra 34 (.tmp 39) ?_);refine wpList_load_mid rfl 34 (.tmp 39) rfl g2 5 rfl (zaa k1 ub) _ HRC.out Tryz.underlying34 rfl Tryz.zGa ?_))
 refine (zuf _ k1 ub).mono ?_
 rintro e w2 ⟨rfl,hb2⟩
 have HS8:=zh (HS7.out.call hb2)
 have HS9:=zh (HS8.out.two 6 (.string k1.text) (.int .i64 k1.num) (j:=(⟨1,t.place,t.text,e0,zDa k0,zDa k1,[],0,false⟩:Ins)) rfl)
 clear hb2
 obtain ⟨old,ho,hol⟩:=HS9.out.r
 have HO:=zh ho
 have HOL:=zh hol
 clear ho hol
 go_wp2_with (first
  | ((with_reducible refine zla 103 (.tmp 42) ?_);refine wpList_store_mid rfl 103 (.tmp 42) (.tmp 41) rfl W3.heap.size 6 #[.string k1.text,.int .i64 k1.num] rfl rfl (HS8.out.i.zGc 6 2 (show 6+2≤11 by omega)) Tryz.zlb (all_oneCell_toArray (zGd (zDa k1))) ?_)
  | ((with_reducible refine zra 106 (.tmp 4) ?_);refine zja rfl 106 (.tmp 4) rfl W3.heap.size (zea (⟨1,t.place,t.text,e0,zDa k0,zDa k1,[],0,false⟩:Ins) (.slice none 0 0)) rfl HS9.out.i Tryz.underlying106 rfl Tryz.zua ?_)
  | ((with_reducible refine zla 106 (.tmp 2) ?_);refine zca rfl 106 (.tmp 2) (.tmp 96) rfl (w.heap.size+1) (zea (⟨1,t.place,t.text,e0,zDa k0,zDa k1,[],0,false⟩:Ins) (.slice none 0 0)) rfl rfl HO.out Tryz.zua HOL.out (zna (⟨1,t.place,t.text,e0,zDa k0,zDa k1,[],0,false⟩:Ins) (.slice none 0 0) rfl) ?_))
 exact zka (cs:=zea (⟨1,t.place,t.text,e0,zDa k0,zDa k1,[],0,false⟩:Ins) (.slice none 0 0)) Tryz.results127 rfl HO.out Tryz.underlying106 rfl Tryz.zua rfl ⟨_,rfl,zEa.nil _ _,Below.row HS9.out.b (by omega) _⟩
theorem zos {w:World} {t:T} {S:Nat→Prop} {kv:Value} (hk:KAt 34 w t.kids S kv) {sf:ByteArray} {nf:Int} {pf:Nat} {ks:List T} (hkid:t.kids=[.mk 22 sf nf pf ks]) {k0 k1:T} (h0:ks[0]?=some k0) (h1:ks[1]?=some k1) :
  Calls Tryz.prog 127 #[zma t kv] w (zRb w (zfd t)):=by
 have hs:zfd t=(⟨2,t.place,t.text,e0,zDa k0,zDa k1,[],0,false⟩:Ins):=by
  have e0':ks.getD 0 znb=k0:=by {rw [List.getD_eq_getElem?_getD,h0];rfl}
  have e1':ks.getD 1 znb=k1:=by {rw [List.getD_eq_getElem?_getD,h1];rfl}
  unfold zfd zFa;rw [hkid,← e0',← e1'];rfl
 rw [hs]
 clear hs
 rw [hkid] at hk
 rcases hk.form with ⟨_,hnil⟩|⟨g,cap,rfl,hg,hcap,hcm,hget⟩
 ·cases hnil
 obtain ⟨u,hr,hT⟩:=hget 0 _ rfl
 have HR:=zh (show w.rangeAt g 0 [.int .i64 22,.string sf,.int .i64 nf,.int .i64 pf,u] from hr)
 have HTK:=zh hT
 have hu1:u.oneCell'=true:=hT.kat.one
 obtain ⟨W2,hW2,HN2,HI2,HR2,HB2,hz2⟩:∃ W,(w.alloc (.cells [.int .i64 t.kind,.string t.text,.int .i64 t.num,.int .i64 t.place,.slice (some ⟨g,0,none⟩) 1 cap].toArray 34)).alloc (.cells [.int .i64 0,.int .i64 0,.string ⟨#[]⟩,.string ⟨#[]⟩,.string ⟨#[]⟩,.int .i64 0,.string ⟨#[]⟩,.int .i64 0,.slice none 0 0,.int .i64 0,.bool false].toArray 106)=W∧Hid (Blk W w.heap.size [.int .i64 t.kind,.string t.text,.int .i64 t.num,.int .i64 t.place,.slice (some ⟨g,0,none⟩) 1 cap] 34)∧Hid (Blk W (w.heap.size+1) [.int .i64 0,.int .i64 0,.string ⟨#[]⟩,.string ⟨#[]⟩,.string ⟨#[]⟩,.int .i64 0,.string ⟨#[]⟩,.int .i64 0,.slice none 0 0,.int .i64 0,.bool false] 106)∧Hid (W.rangeAt g 0 [.int .i64 22,.string sf,.int .i64 nf,.int .i64 pf,u])∧Hid (Below w.heap.size w W)∧W.heap.size=w.heap.size+1+1 :=
  ⟨_,rfl,zh ((Blk.new w _ _).alloc _),zh (Blk.zpc w _ _ _),zh (zpa HR.out (((Below.refl _ _).alloc (Nat.le_refl _) _).alloc (by simp) _) hg),zh (((Below.refl _ _).alloc (Nat.le_refl _) _).alloc (by simp) _),by simp⟩
 have HZ2:=zh hz2
 obtain ⟨W3,hW3⟩:∃ W,W2.alloc (.cells [.int .i64 22,.string sf,.int .i64 nf,.int .i64 pf,u].toArray 34)=W:=⟨_,rfl⟩
 have hb3:Below W2.heap.size W2 W3:=hW3▸(Below.refl _ _).alloc (Nat.le_refl _) _
 have hz3:W3.heap.size=W2.heap.size+1:=by rw [← hW3];simp
 have HK3:=zh (show Blk W3 W2.heap.size [.int .i64 22,.string sf,.int .i64 nf,.int .i64 pf,u] 34 from hW3▸Blk.new W2 _ _)
 have HN3:=zh (HN2.out.stays hb3)
 obtain ⟨W4,hW4⟩:∃ W,W3.alloc (.cells [.int .i64 0,.int .i64 t.place,.string t.text,.string ⟨#[]⟩,.string sf,.int .i64 nf,.string ⟨#[]⟩,.int .i64 0,.slice none 0 0,.int .i64 0,.bool false].toArray 106)=W:=⟨_,rfl⟩
 have hb4:Below W3.heap.size W3 W4:=hW4▸(Below.refl _ _).alloc (Nat.le_refl _) _
 have HS:=zh (show zLf w (w.heap.size+1) W2.heap.size W3.heap.size [.int .i64 22,.string sf,.int .i64 nf,.int .i64 pf,u] (⟨0,t.place,t.text,e0,⟨sf,nf⟩,tm0,[],0,false⟩:Ins) (.slice none 0 0) W4 from
  ⟨⟨_,(HI2.out.stays hb3).stays hb4,rfl⟩,HK3.out.stays hb4,show Blk W4 W3.heap.size _ 106 from hW4▸Blk.new W3 [.int .i64 0,.int .i64 t.place,.string t.text,.string ⟨#[]⟩,.string sf,.int .i64 nf,.string ⟨#[]⟩,.int .i64 0,.slice none 0 0,.int .i64 0,.bool false] 106,HB2.out.trans ((hb3.trans (hb4.mono hb3.size)).mono HB2.out.size),by omega,by omega,by omega⟩)
 have x1:W3.cell? ⟨w.heap.size,1,none⟩=some (.string t.text):=HN3.out.cell 1
 have x3:W3.cell? ⟨w.heap.size,3,none⟩=some (.int .i64 t.place):=HN3.out.cell 3
 have x4:W2.cell? ⟨w.heap.size,4,none⟩=some (.slice (some ⟨g,0,none⟩) 1 cap):=HN2.out.cell 4
 have y1:W3.cell? ⟨W2.heap.size,1,none⟩=some (.string sf):=HK3.out.cell 1
 have y2:W3.cell? ⟨W2.heap.size,2,none⟩=some (.int .i64 nf):=HK3.out.cell 2
 have z0:W4.cell? ⟨W2.heap.size,0,none⟩=some (.int .i64 22):=HS.out.k.cell 0
 have z1:W4.cell? ⟨W2.heap.size,1,none⟩=some (.string sf):=HS.out.k.cell 1
 have z2:W4.cell? ⟨W2.heap.size,2,none⟩=some (.int .i64 nf):=HS.out.k.cell 2
 clear hk hget hr hT hkid hz2 hz3 hb3 hb4
 unfold maxLen at hcm
 unfold zma
 have e1:(1:Nat)≤cap:=hcap
 rcases (show KAt 34 w ks S u from HTK.out.kat).form with ⟨_,hnil⟩|⟨g2,cap2,hu0,hg2,hcap2,hcm2,hget2⟩
 ·rw [hnil] at h0;cases h0
 have HU0:=zh hu0
 clear hu0
 have l0:0<ks.length:=(List.getElem?_eq_some_iff.1 h0).1
 obtain ⟨ua,hra,_⟩:=hget2 0 k0 h0
 have l1:1<ks.length:=(List.getElem?_eq_some_iff.1 h1).1
 obtain ⟨ub,hrb,_⟩:=hget2 1 k1 h1
 have c0:W4.cell? ⟨W3.heap.size,0,none⟩=some (.int .i64 0):=HS.out.i.cell 0
 have f0:=HS.out.i.frozen 0
 have HS5:=zh (HS.out.cell 0 (.int .i64 2) (j:=(⟨2,t.place,t.text,e0,⟨sf,nf⟩,tm0,[],0,false⟩:Ins)) (y:=.slice none 0 0) rfl)
 have q4:(W4.setCell ⟨W3.heap.size,0,none⟩ (.int .i64 2)).cell? ⟨W2.heap.size,4,none⟩=some (.slice (some ⟨g2,0,none⟩) ks.length cap2):=by rw [← HU0.out];exact HS5.out.k.cell 4
 have HRA:=zh (show (W4.setCell ⟨W3.heap.size,0,none⟩ (.int .i64 2)).rangeAt g2 0 (zaa k0 ua) from zpa hra HS5.out.b hg2)
 have HRB:=zh hrb
 clear hra hrb hget2
 go_enter Tryz.func127,Tryz.ntmps127
 go_wp2_with (first
  | ((with_reducible refine zra 34 (.tmp 7) ?_);refine wpList_load_mid rfl 34 (.tmp 7) rfl g 0 rfl [.int .i64 22,.string sf,.int .i64 nf,.int .i64 pf,u] _ HR2.out Tryz.underlying34 rfl Tryz.zGa ?_)
  | ((with_reducible refine zla 34 (.tmp 3) ?_);refine zga rfl 34 (.tmp 3) (.tmp 8) rfl [.int .i64 22,.string sf,.int .i64 nf,.int .i64 pf,u] (old:=zba) rfl rfl Tryz.zGa rfl (zda (T.mk 22 sf nf pf ks) _ hu1) ?_)
  | ((with_reducible refine zla 106 (.tmp 4) ?_);refine zga rfl 106 (.tmp 4) (.tmp 18) rfl [.int .i64 0,.int .i64 t.place,.string t.text,.string ⟨#[]⟩,.string sf,.int .i64 nf,.string ⟨#[]⟩,.int .i64 0,.slice none 0 0,.int .i64 0,.bool false] (old:=zea zFf (.slice none 0 0)) rfl rfl Tryz.zua rfl (zna (⟨0,t.place,t.text,e0,⟨sf,nf⟩,tm0,[],0,false⟩:Ins) (.slice none 0 0) rfl) ?_)
  | ((with_reducible refine zra 34 (.tmp 48) ?_);refine wpList_load_mid rfl 34 (.tmp 48) rfl g2 0 rfl (zaa k0 ua) _ HRA.out Tryz.underlying34 rfl Tryz.zGa ?_))
 refine (zuf _ k0 ua).mono ?_
 rintro e w1 ⟨rfl,hb1⟩
 have HS6:=zh (HS5.out.call hb1)
 have HS7:=zh (HS6.out.two 4 (.string k0.text) (.int .i64 k0.num) (j:=(⟨2,t.place,t.text,e0,zDa k0,tm0,[],0,false⟩:Ins)) rfl)
 have m4:(w1.setCells W3.heap.size 4 [.string k0.text,.int .i64 k0.num]).cell? ⟨W2.heap.size,4,none⟩=some (.slice (some ⟨g2,0,none⟩) ks.length cap2):=by rw [← HU0.out];exact HS7.out.k.cell 4
 have HRC:=zh (show (w1.setCells W3.heap.size 4 [.string k0.text,.int .i64 k0.num]).rangeAt g2 5 (zaa k1 ub) from zpa HRB.out HS7.out.b hg2)
 clear hb1
 go_wp2_with (first
  | ((with_reducible refine zla 103 (.tmp 51) ?_);refine wpList_store_mid rfl 103 (.tmp 51) (.tmp 50) rfl W3.heap.size 4 #[.string k0.text,.int .i64 k0.num] rfl rfl (HS6.out.i.zGc 4 2 (show 4+2≤11 by omega)) Tryz.zlb (all_oneCell_toArray (zGd (zDa k0))) ?_)
  | ((with_reducible refine zra 34 (.tmp 54) ?_);refine wpList_load_mid rfl 34 (.tmp 54) rfl g2 5 rfl (zaa k1 ub) _ HRC.out Tryz.underlying34 rfl Tryz.zGa ?_))
 refine (zuf _ k1 ub).mono ?_
 rintro e w2 ⟨rfl,hb2⟩
 have HS8:=zh (HS7.out.call hb2)
 have HS9:=zh (HS8.out.two 6 (.string k1.text) (.int .i64 k1.num) (j:=(⟨2,t.place,t.text,e0,zDa k0,zDa k1,[],0,false⟩:Ins)) rfl)
 clear hb2
 obtain ⟨old,ho,hol⟩:=HS9.out.r
 have HO:=zh ho
 have HOL:=zh hol
 clear ho hol
 go_wp2_with (first
  | ((with_reducible refine zla 103 (.tmp 57) ?_);refine wpList_store_mid rfl 103 (.tmp 57) (.tmp 56) rfl W3.heap.size 6 #[.string k1.text,.int .i64 k1.num] rfl rfl (HS8.out.i.zGc 6 2 (show 6+2≤11 by omega)) Tryz.zlb (all_oneCell_toArray (zGd (zDa k1))) ?_)
  | ((with_reducible refine zra 106 (.tmp 4) ?_);refine zja rfl 106 (.tmp 4) rfl W3.heap.size (zea (⟨2,t.place,t.text,e0,zDa k0,zDa k1,[],0,false⟩:Ins) (.slice none 0 0)) rfl HS9.out.i Tryz.underlying106 rfl Tryz.zua ?_)
  | ((with_reducible refine zla 106 (.tmp 2) ?_);refine zca rfl 106 (.tmp 2) (.tmp 96) rfl (w.heap.size+1) (zea (⟨2,t.place,t.text,e0,zDa k0,zDa k1,[],0,false⟩:Ins) (.slice none 0 0)) rfl rfl HO.out Tryz.zua HOL.out (zna (⟨2,t.place,t.text,e0,zDa k0,zDa k1,[],0,false⟩:Ins) (.slice none 0 0) rfl) ?_))
 exact zka (cs:=zea (⟨2,t.place,t.text,e0,zDa k0,zDa k1,[],0,false⟩:Ins) (.slice none 0 0)) Tryz.results127 rfl HO.out Tryz.underlying106 rfl Tryz.zua rfl ⟨_,rfl,zEa.nil _ _,Below.row HS9.out.b (by omega) _⟩
theorem zss {w:World} {t:T} {S:Nat→Prop} {kv:Value} (hk:KAt 34 w t.kids S kv) {sf:ByteArray} {nf:Int} {pf:Nat} {ks:List T} (hkid:t.kids=[.mk 25 sf nf pf ks]) {k0:T} (h0:ks[0]?=some k0) :
  Calls Tryz.prog 127 #[zma t kv] w (zRb w (zfd t)):=by
 have hs:zfd t=(⟨5,t.place,t.text,sf,zDa k0,tm0,[],0,false⟩:Ins):=by
  have e0':ks.getD 0 znb=k0:=by {rw [List.getD_eq_getElem?_getD,h0];rfl}
  unfold zfd zFa;rw [hkid,← e0'];rfl
 rw [hs]
 clear hs
 rw [hkid] at hk
 rcases hk.form with ⟨_,hnil⟩|⟨g,cap,rfl,hg,hcap,hcm,hget⟩
 ·cases hnil
 obtain ⟨u,hr,hT⟩:=hget 0 _ rfl
 have HR:=zh (show w.rangeAt g 0 [.int .i64 25,.string sf,.int .i64 nf,.int .i64 pf,u] from hr)
 have HTK:=zh hT
 have hu1:u.oneCell'=true:=hT.kat.one
 obtain ⟨W2,hW2,HN2,HI2,HR2,HB2,hz2⟩:∃ W,(w.alloc (.cells [.int .i64 t.kind,.string t.text,.int .i64 t.num,.int .i64 t.place,.slice (some ⟨g,0,none⟩) 1 cap].toArray 34)).alloc (.cells [.int .i64 0,.int .i64 0,.string ⟨#[]⟩,.string ⟨#[]⟩,.string ⟨#[]⟩,.int .i64 0,.string ⟨#[]⟩,.int .i64 0,.slice none 0 0,.int .i64 0,.bool false].toArray 106)=W∧Hid (Blk W w.heap.size [.int .i64 t.kind,.string t.text,.int .i64 t.num,.int .i64 t.place,.slice (some ⟨g,0,none⟩) 1 cap] 34)∧Hid (Blk W (w.heap.size+1) [.int .i64 0,.int .i64 0,.string ⟨#[]⟩,.string ⟨#[]⟩,.string ⟨#[]⟩,.int .i64 0,.string ⟨#[]⟩,.int .i64 0,.slice none 0 0,.int .i64 0,.bool false] 106)∧Hid (W.rangeAt g 0 [.int .i64 25,.string sf,.int .i64 nf,.int .i64 pf,u])∧Hid (Below w.heap.size w W)∧W.heap.size=w.heap.size+1+1 :=
  ⟨_,rfl,zh ((Blk.new w _ _).alloc _),zh (Blk.zpc w _ _ _),zh (zpa HR.out (((Below.refl _ _).alloc (Nat.le_refl _) _).alloc (by simp) _) hg),zh (((Below.refl _ _).alloc (Nat.le_refl _) _).alloc (by simp) _),by simp⟩
 have HZ2:=zh hz2
 obtain ⟨W3,hW3⟩:∃ W,W2.alloc (.cells [.int .i64 25,.string sf,.int .i64 nf,.int .i64 pf,u].toArray 34)=W:=⟨_,rfl⟩
 have hb3:Below W2.heap.size W2 W3:=hW3▸(Below.refl _ _).alloc (Nat.le_refl _) _
 have hz3:W3.heap.size=W2.heap.size+1:=by rw [← hW3];simp
 have HK3:=zh (show Blk W3 W2.heap.size [.int .i64 25,.string sf,.int .i64 nf,.int .i64 pf,u] 34 from hW3▸Blk.new W2 _ _)
 have HN3:=zh (HN2.out.stays hb3)
 obtain ⟨W4,hW4⟩:∃ W,W3.alloc (.cells [.int .i64 0,.int .i64 t.place,.string t.text,.string ⟨#[]⟩,.string sf,.int .i64 nf,.string ⟨#[]⟩,.int .i64 0,.slice none 0 0,.int .i64 0,.bool false].toArray 106)=W:=⟨_,rfl⟩
 have hb4:Below W3.heap.size W3 W4:=hW4▸(Below.refl _ _).alloc (Nat.le_refl _) _
 have HS:=zh (show zLf w (w.heap.size+1) W2.heap.size W3.heap.size [.int .i64 25,.string sf,.int .i64 nf,.int .i64 pf,u] (⟨0,t.place,t.text,e0,⟨sf,nf⟩,tm0,[],0,false⟩:Ins) (.slice none 0 0) W4 from
  ⟨⟨_,(HI2.out.stays hb3).stays hb4,rfl⟩,HK3.out.stays hb4,show Blk W4 W3.heap.size _ 106 from hW4▸Blk.new W3 [.int .i64 0,.int .i64 t.place,.string t.text,.string ⟨#[]⟩,.string sf,.int .i64 nf,.string ⟨#[]⟩,.int .i64 0,.slice none 0 0,.int .i64 0,.bool false] 106,HB2.out.trans ((hb3.trans (hb4.mono hb3.size)).mono HB2.out.size),by omega,by omega,by omega⟩)
 have x1:W3.cell? ⟨w.heap.size,1,none⟩=some (.string t.text):=HN3.out.cell 1
 have x3:W3.cell? ⟨w.heap.size,3,none⟩=some (.int .i64 t.place):=HN3.out.cell 3
 have x4:W2.cell? ⟨w.heap.size,4,none⟩=some (.slice (some ⟨g,0,none⟩) 1 cap):=HN2.out.cell 4
 have y1:W3.cell? ⟨W2.heap.size,1,none⟩=some (.string sf):=HK3.out.cell 1
 have y2:W3.cell? ⟨W2.heap.size,2,none⟩=some (.int .i64 nf):=HK3.out.cell 2
 have z0:W4.cell? ⟨W2.heap.size,0,none⟩=some (.int .i64 25):=HS.out.k.cell 0
 have z1:W4.cell? ⟨W2.heap.size,1,none⟩=some (.string sf):=HS.out.k.cell 1
 have z2:W4.cell? ⟨W2.heap.size,2,none⟩=some (.int .i64 nf):=HS.out.k.cell 2
 clear hk hget hr hT hkid hz2 hz3 hb3 hb4
 unfold maxLen at hcm
 unfold zma
 have e1:(1:Nat)≤cap:=hcap
 rcases (show KAt 34 w ks S u from HTK.out.kat).form with ⟨_,hnil⟩|⟨g2,cap2,hu0,hg2,hcap2,hcm2,hget2⟩
 ·rw [hnil] at h0;cases h0
 have HU0:=zh hu0
 clear hu0
 have l0:0<ks.length:=(List.getElem?_eq_some_iff.1 h0).1
 obtain ⟨ua,hra,_⟩:=hget2 0 k0 h0
 have c0:W4.cell? ⟨W3.heap.size,0,none⟩=some (.int .i64 0):=HS.out.i.cell 0
 have f0:=HS.out.i.frozen 0
 have HS5:=zh (HS.out.cell 0 (.int .i64 5) (j:=(⟨5,t.place,t.text,e0,⟨sf,nf⟩,tm0,[],0,false⟩:Ins)) (y:=.slice none 0 0) rfl)
 have c3:(W4.setCell ⟨W3.heap.size,0,none⟩ (.int .i64 5)).cell? ⟨W3.heap.size,3,none⟩=some (.string ⟨#[]⟩):=HS5.out.i.cell 3
 have f3:=HS5.out.i.frozen 3
 have q1:(W4.setCell ⟨W3.heap.size,0,none⟩ (.int .i64 5)).cell? ⟨W2.heap.size,1,none⟩=some (.string sf):=HS5.out.k.cell 1
 have HS6:=zh (HS5.out.cell 3 (.string sf) (j:=(⟨5,t.place,t.text,sf,⟨sf,nf⟩,tm0,[],0,false⟩:Ins)) (y:=.slice none 0 0) rfl)
 have q4:((W4.setCell ⟨W3.heap.size,0,none⟩ (.int .i64 5)).setCell ⟨W3.heap.size,3,none⟩ (.string sf)).cell? ⟨W2.heap.size,4,none⟩=some (.slice (some ⟨g2,0,none⟩) ks.length cap2):=by rw [← HU0.out];exact HS6.out.k.cell 4
 have HRA:=zh (show ((W4.setCell ⟨W3.heap.size,0,none⟩ (.int .i64 5)).setCell ⟨W3.heap.size,3,none⟩ (.string sf)).rangeAt g2 0 (zaa k0 ua) from zpa hra HS6.out.b hg2)
 clear hra hget2
 go_enter Tryz.func127,Tryz.ntmps127
 go_wp2_with (first
  | ((with_reducible refine zra 34 (.tmp 7) ?_);refine wpList_load_mid rfl 34 (.tmp 7) rfl g 0 rfl [.int .i64 25,.string sf,.int .i64 nf,.int .i64 pf,u] _ HR2.out Tryz.underlying34 rfl Tryz.zGa ?_)
  | ((with_reducible refine zla 34 (.tmp 3) ?_);refine zga rfl 34 (.tmp 3) (.tmp 8) rfl [.int .i64 25,.string sf,.int .i64 nf,.int .i64 pf,u] (old:=zba) rfl rfl Tryz.zGa rfl (zda (T.mk 25 sf nf pf ks) _ hu1) ?_)
  | ((with_reducible refine zla 106 (.tmp 4) ?_);refine zga rfl 106 (.tmp 4) (.tmp 18) rfl [.int .i64 0,.int .i64 t.place,.string t.text,.string ⟨#[]⟩,.string sf,.int .i64 nf,.string ⟨#[]⟩,.int .i64 0,.slice none 0 0,.int .i64 0,.bool false] (old:=zea zFf (.slice none 0 0)) rfl rfl Tryz.zua rfl (zna (⟨0,t.place,t.text,e0,⟨sf,nf⟩,tm0,[],0,false⟩:Ins) (.slice none 0 0) rfl) ?_)
  | ((with_reducible refine zra 34 (.tmp 80) ?_);refine wpList_load_mid rfl 34 (.tmp 80) rfl g2 0 rfl (zaa k0 ua) _ HRA.out Tryz.underlying34 rfl Tryz.zGa ?_))
 refine (zuf _ k0 ua).mono ?_
 rintro e w1 ⟨rfl,hb1⟩
 have HS7:=zh (HS6.out.call hb1)
 have HS9:=zh (HS7.out.two 4 (.string k0.text) (.int .i64 k0.num) (j:=(⟨5,t.place,t.text,sf,zDa k0,tm0,[],0,false⟩:Ins)) rfl)
 clear hb1
 obtain ⟨old,ho,hol⟩:=HS9.out.r
 have HO:=zh ho
 have HOL:=zh hol
 clear ho hol
 go_wp2_with (first
  | ((with_reducible refine zla 103 (.tmp 83) ?_);refine wpList_store_mid rfl 103 (.tmp 83) (.tmp 82) rfl W3.heap.size 4 #[.string k0.text,.int .i64 k0.num] rfl rfl (HS7.out.i.zGc 4 2 (show 4+2≤11 by omega)) Tryz.zlb (all_oneCell_toArray (zGd (zDa k0))) ?_)
  | ((with_reducible refine zra 106 (.tmp 4) ?_);refine zja rfl 106 (.tmp 4) rfl W3.heap.size (zea (⟨5,t.place,t.text,sf,zDa k0,tm0,[],0,false⟩:Ins) (.slice none 0 0)) rfl HS9.out.i Tryz.underlying106 rfl Tryz.zua ?_)
  | ((with_reducible refine zla 106 (.tmp 2) ?_);refine zca rfl 106 (.tmp 2) (.tmp 96) rfl (w.heap.size+1) (zea (⟨5,t.place,t.text,sf,zDa k0,tm0,[],0,false⟩:Ins) (.slice none 0 0)) rfl rfl HO.out Tryz.zua HOL.out (zna (⟨5,t.place,t.text,sf,zDa k0,tm0,[],0,false⟩:Ins) (.slice none 0 0) rfl) ?_))
 exact zka (cs:=zea (⟨5,t.place,t.text,sf,zDa k0,tm0,[],0,false⟩:Ins) (.slice none 0 0)) Tryz.results127 rfl HO.out Tryz.underlying106 rfl Tryz.zua rfl ⟨_,rfl,zEa.nil _ _,Below.row HS9.out.b (by omega) _⟩
theorem zUs {w:World} {t:T} {S:Nat→Prop} {kv:Value} (hk:KAt 34 w t.kids S kv) {sf:ByteArray} {nf:Int} {pf:Nat} {ks:List T} (hkid:t.kids=[.mk 28 sf nf pf ks]) (hl:ks.length≤5000) :
  Calls Tryz.prog 127 #[zma t kv] w (zRb w (zfd t)):=by
 have hs:zfd t=(⟨12,t.place,t.text,sf,tm0,tm0,ks.map zDa,0,false⟩:Ins):=by unfold zfd zFa;rw [hkid];rfl
 rw [hs]
 clear hs
 rw [hkid] at hk
 rcases hk.form with ⟨_,hnil⟩|⟨g,cap,rfl,hg,hcap,hcm,hget⟩
 ·cases hnil
 obtain ⟨u,hr,hT⟩:=hget 0 _ rfl
 have HR:=zh (show w.rangeAt g 0 [.int .i64 28,.string sf,.int .i64 nf,.int .i64 pf,u] from hr)
 have HTK:=zh hT
 have hu1:u.oneCell'=true:=hT.kat.one
 obtain ⟨W2,hW2,HN2,HI2,HR2,HB2,hz2⟩:∃ W,(w.alloc (.cells [.int .i64 t.kind,.string t.text,.int .i64 t.num,.int .i64 t.place,.slice (some ⟨g,0,none⟩) 1 cap].toArray 34)).alloc (.cells [.int .i64 0,.int .i64 0,.string ⟨#[]⟩,.string ⟨#[]⟩,.string ⟨#[]⟩,.int .i64 0,.string ⟨#[]⟩,.int .i64 0,.slice none 0 0,.int .i64 0,.bool false].toArray 106)=W∧Hid (Blk W w.heap.size [.int .i64 t.kind,.string t.text,.int .i64 t.num,.int .i64 t.place,.slice (some ⟨g,0,none⟩) 1 cap] 34)∧Hid (Blk W (w.heap.size+1) [.int .i64 0,.int .i64 0,.string ⟨#[]⟩,.string ⟨#[]⟩,.string ⟨#[]⟩,.int .i64 0,.string ⟨#[]⟩,.int .i64 0,.slice none 0 0,.int .i64 0,.bool false] 106)∧Hid (W.rangeAt g 0 [.int .i64 28,.string sf,.int .i64 nf,.int .i64 pf,u])∧Hid (Below w.heap.size w W)∧W.heap.size=w.heap.size+1+1 :=
  ⟨_,rfl,zh ((Blk.new w _ _).alloc _),zh (Blk.zpc w _ _ _),zh (zpa HR.out (((Below.refl _ _).alloc (Nat.le_refl _) _).alloc (by simp) _) hg),zh (((Below.refl _ _).alloc (Nat.le_refl _) _).alloc (by simp) _),by simp⟩
 have HZ2:=zh hz2
 obtain ⟨W3,hW3⟩:∃ W,W2.alloc (.cells [.int .i64 28,.string sf,.int .i64 nf,.int .i64 pf,u].toArray 34)=W:=⟨_,rfl⟩
 have hb3:Below W2.heap.size W2 W3:=hW3▸(Below.refl _ _).alloc (Nat.le_refl _) _
 have hz3:W3.heap.size=W2.heap.size+1:=by rw [← hW3];simp
 have HK3:=zh (show Blk W3 W2.heap.size [.int .i64 28,.string sf,.int .i64 nf,.int .i64 pf,u] 34 from hW3▸Blk.new W2 _ _)
 have HN3:=zh (HN2.out.stays hb3)
 obtain ⟨W4,hW4⟩:∃ W,W3.alloc (.cells [.int .i64 0,.int .i64 t.place,.string t.text,.string ⟨#[]⟩,.string sf,.int .i64 nf,.string ⟨#[]⟩,.int .i64 0,.slice none 0 0,.int .i64 0,.bool false].toArray 106)=W:=⟨_,rfl⟩
 have hb4:Below W3.heap.size W3 W4:=hW4▸(Below.refl _ _).alloc (Nat.le_refl _) _
 have HS:=zh (show zLf w (w.heap.size+1) W2.heap.size W3.heap.size [.int .i64 28,.string sf,.int .i64 nf,.int .i64 pf,u] (⟨0,t.place,t.text,e0,⟨sf,nf⟩,tm0,[],0,false⟩:Ins) (.slice none 0 0) W4 from
  ⟨⟨_,(HI2.out.stays hb3).stays hb4,rfl⟩,HK3.out.stays hb4,show Blk W4 W3.heap.size _ 106 from hW4▸Blk.new W3 [.int .i64 0,.int .i64 t.place,.string t.text,.string ⟨#[]⟩,.string sf,.int .i64 nf,.string ⟨#[]⟩,.int .i64 0,.slice none 0 0,.int .i64 0,.bool false] 106,HB2.out.trans ((hb3.trans (hb4.mono hb3.size)).mono HB2.out.size),by omega,by omega,by omega⟩)
 have x1:W3.cell? ⟨w.heap.size,1,none⟩=some (.string t.text):=HN3.out.cell 1
 have x3:W3.cell? ⟨w.heap.size,3,none⟩=some (.int .i64 t.place):=HN3.out.cell 3
 have x4:W2.cell? ⟨w.heap.size,4,none⟩=some (.slice (some ⟨g,0,none⟩) 1 cap):=HN2.out.cell 4
 have y1:W3.cell? ⟨W2.heap.size,1,none⟩=some (.string sf):=HK3.out.cell 1
 have y2:W3.cell? ⟨W2.heap.size,2,none⟩=some (.int .i64 nf):=HK3.out.cell 2
 have z0:W4.cell? ⟨W2.heap.size,0,none⟩=some (.int .i64 28):=HS.out.k.cell 0
 have z1:W4.cell? ⟨W2.heap.size,1,none⟩=some (.string sf):=HS.out.k.cell 1
 have z2:W4.cell? ⟨W2.heap.size,2,none⟩=some (.int .i64 nf):=HS.out.k.cell 2
 clear hk hget hr hT hkid hz2 hz3 hb3 hb4
 unfold maxLen at hcm
 unfold zma
 have e1:(1:Nat)≤cap:=hcap
 have c0:W4.cell? ⟨W3.heap.size,0,none⟩=some (.int .i64 0):=HS.out.i.cell 0
 have f0:=HS.out.i.frozen 0
 have HS5:=zh (HS.out.cell 0 (.int .i64 12) (j:=(⟨12,t.place,t.text,e0,⟨sf,nf⟩,tm0,[],0,false⟩:Ins)) (y:=.slice none 0 0) rfl)
 have c3:(W4.setCell ⟨W3.heap.size,0,none⟩ (.int .i64 12)).cell? ⟨W3.heap.size,3,none⟩=some (.string ⟨#[]⟩):=HS5.out.i.cell 3
 have f3:=HS5.out.i.frozen 3
 have q1:(W4.setCell ⟨W3.heap.size,0,none⟩ (.int .i64 12)).cell? ⟨W2.heap.size,1,none⟩=some (.string sf):=HS5.out.k.cell 1
 have HS6:=zh (HS5.out.cell 3 (.string sf) (j:=(⟨12,t.place,t.text,sf,⟨sf,nf⟩,tm0,[],0,false⟩:Ins)) (y:=.slice none 0 0) rfl)
 have HS7:=zh (HS6.out.two 4 (.string ⟨#[]⟩) (.int .i64 0) (j:=(⟨12,t.place,t.text,sf,tm0,tm0,[],0,false⟩:Ins)) rfl)
 have q4:(((W4.setCell ⟨W3.heap.size,0,none⟩ (.int .i64 12)).setCell ⟨W3.heap.size,3,none⟩ (.string sf)).setCells W3.heap.size 4 [.string ⟨#[]⟩,.int .i64 0]).cell? ⟨W2.heap.size,4,none⟩=some u:=HS7.out.k.cell 4
 have HKU:=zh ((show KAt 34 w ks S u from HTK.out.kat).below HS7.out.b)
 go_enter Tryz.func127,Tryz.ntmps127
 go_wp2_with (first
  | ((with_reducible refine zra 34 (.tmp 7) ?_);refine wpList_load_mid rfl 34 (.tmp 7) rfl g 0 rfl [.int .i64 28,.string sf,.int .i64 nf,.int .i64 pf,u] _ HR2.out Tryz.underlying34 rfl Tryz.zGa ?_)
  | ((with_reducible refine zla 34 (.tmp 3) ?_);refine zga rfl 34 (.tmp 3) (.tmp 8) rfl [.int .i64 28,.string sf,.int .i64 nf,.int .i64 pf,u] (old:=zba) rfl rfl Tryz.zGa rfl (zda (T.mk 28 sf nf pf ks) _ hu1) ?_)
  | ((with_reducible refine zla 106 (.tmp 4) ?_);refine zga rfl 106 (.tmp 4) (.tmp 18) rfl [.int .i64 0,.int .i64 t.place,.string t.text,.string ⟨#[]⟩,.string sf,.int .i64 nf,.string ⟨#[]⟩,.int .i64 0,.slice none 0 0,.int .i64 0,.bool false] (old:=zea zFf (.slice none 0 0)) rfl rfl Tryz.zua rfl (zna (⟨0,t.place,t.text,e0,⟨sf,nf⟩,tm0,[],0,false⟩:Ins) (.slice none 0 0) rfl) ?_)
  | ((with_reducible refine zla 103 (.tmp 91) ?_);refine wpList_store_mid rfl 103 (.tmp 91) (.tmp 90) rfl W3.heap.size 4 #[.string ⟨#[]⟩,.int .i64 0] rfl rfl (HS6.out.i.zGc 4 2 (show 4+2≤11 by omega)) Tryz.zlb (all_oneCell_toArray (zGd tm0)) ?_))
 refine (zWi HKU.out hl).mono ?_
 rintro e w1 ⟨v,rfl,ha,hb1⟩
 have hz:=HS7.out.i.lt
 have HS8:=zh (HS7.out.call hb1)
 have hv1:=ha.one
 have HS9:=zh (HS8.out.cell 8 v (j:=(⟨12,t.place,t.text,sf,tm0,tm0,ks.map zDa,0,false⟩:Ins)) (y:=v) rfl)
 have HA:=zh ((ha.mono (S':=fun b=>W3.heap.size<b) fun b hb _=>by omega).setCell ⟨W3.heap.size,8,none⟩ v (fun b hb=>by show b≠W3.heap.size;omega))
 have c8:w1.cell? ⟨W3.heap.size,8,none⟩=some (.slice none 0 0):=HS8.out.i.cell 8
 have f8:=HS8.out.i.frozen 8
 obtain ⟨va,vn,vc,rfl⟩:=ha.slice
 have hl9:=HS9.out.l
 clear ha hb1
 obtain ⟨old,ho,hol⟩:=HS9.out.r
 have HO:=zh ho
 have HOL:=zh hol
 clear ho hol
 go_wp2_with (first
  | ((with_reducible refine zra 106 (.tmp 4) ?_);refine zja rfl 106 (.tmp 4) rfl W3.heap.size (zea (⟨12,t.place,t.text,sf,tm0,tm0,ks.map zDa,0,false⟩:Ins) (.slice va vn vc)) rfl HS9.out.i Tryz.underlying106 rfl Tryz.zua ?_)
  | ((with_reducible refine zla 106 (.tmp 2) ?_);refine zca rfl 106 (.tmp 2) (.tmp 96) rfl (w.heap.size+1) (zea (⟨12,t.place,t.text,sf,tm0,tm0,ks.map zDa,0,false⟩:Ins) (.slice va vn vc)) rfl rfl HO.out Tryz.zua HOL.out (zna (⟨12,t.place,t.text,sf,tm0,tm0,ks.map zDa,0,false⟩:Ins) (.slice va vn vc) rfl) ?_))
 exact zka (cs:=zea (⟨12,t.place,t.text,sf,tm0,tm0,ks.map zDa,0,false⟩:Ins) (.slice va vn vc)) Tryz.results127 rfl HO.out Tryz.underlying106 rfl Tryz.zua rfl ⟨_,rfl,(HA.out.setRow _ _ (fun b hb=>by omega)).mono (fun b hb _=>by omega),Below.row HS9.out.b (by omega) _⟩
theorem zCr {w:World} {t e:T} {S:Nat→Prop} {kv:Value} (hk:KAt 34 w t.kids S kv) (he:t.kids=[e]) (hx:zEc e.kind) (hl:e.kids.length≤5000) (h2:e.kind=21∨e.kind=22→1<e.kids.length) (h1:e.kind=25→0<e.kids.length) :
  Calls Tryz.prog 127 #[zma t kv] w (zRb w (zfd t)):=by
 cases e with
 | mk k s n p ks =>
  have hx':zEc k:=hx
  have hl':ks.length≤5000:=hl
  have h2':k=21∨k=22→1<ks.length:=h2
  have h1':k=25→0<ks.length:=h1
  clear hx hl h2 h1
  have h:k=5∨k=21∨k=22∨k=23∨k=24∨k=25∨k=26∨k=27∨k=28:=by unfold zEc at hx';omega
  rcases h with rfl|rfl|rfl|rfl|rfl|rfl|rfl|rfl|rfl
  ·exact zhu hk he
  ·have h:=h2' (.inl rfl);exact zat hk he (List.getElem?_eq_getElem (by omega)) (List.getElem?_eq_getElem h)
  ·have h:=h2' (.inr rfl);exact zos hk he (List.getElem?_eq_getElem (by omega)) (List.getElem?_eq_getElem h)
  ·exact znt hk he
  ·exact ztt hk he
  ·exact zss hk he (List.getElem?_eq_getElem (h1' rfl))
  ·exact zct hk he
  ·exact zmt hk he
  ·exact zUs hk he hl'
end Go.Proofs.YthdbmgijpelecaaGreatDoor
