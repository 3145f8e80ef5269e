/- The contract of show.show on a node, by kind, given that it is known for smaller trees. -/
import Derived.Test.YtbfgdpcgdmabpaaGreatDoorY18
import Derived.Test.YtbfgdpcgdmabpaaGreatDoorY22
import Derived.Test.YtbfgdpcgdmabpaaGreatDoorY23
import Derived.Test.YtbfgdpcgdmabpaaGreatDoorY24
import Derived.Test.YtbfgdpcgdmabpaaGreatDoorY32
import Derived.Test.YtbfgdpcgdmabpaaGreatDoorY29
import Derived.Test.YtbfgdpcgdmabpaaGreatDoorY31
import Derived.Test.YtbfgdpcgdmabpaaGreatDoorY16
import Derived.Test.YtbfgdpcgdmabpaaGreatDoorY25
import Derived.Deep.LoopGhost
namespace Go.Proofs.YtbfgdpcgdmabpaaGreatDoor
set_option maxRecDepth 100000
set_option maxHeartbeats 2000000
open Go.RowKit
theorem zAs {n:Nat} (ih:zlc n) {s:ByteArray} {nm:Int} {p:Nat} {a b:T} {B g:Nat} {l:List UInt8} {d:Nat} {kv:Value} {w:World} (hz:(T.mk 21 s nm p [a,b]).size≤n+1) (hst:ztd B g l d w) (hpt:zZe B w) (hk:KAt 25 w [a,b] (fun b=>b<B) kv) (hw:(T.mk 21 s nm p [a,b]).whole) (hs:(T.mk 21 s nm p [a,b]).small) (h5:(T.mk 21 s nm p [a,b]).size≤5000) (hl:l.length+(shw d (T.mk 21 s nm p [a,b])).length≤140737488355328) :
  Calls Tryz.prog 22 #[.pointer (some ⟨g,0,none⟩),.agg #[.int .i64 21,.string s,.int .i64 nm,.int .i64 p,kv]] w (zMa B g (l++shw d (T.mk 21 s nm p [a,b])) d w):=by
 have hX:shw d (T.mk 21 s nm p [a,b])=shw d a++([32,43,32]++shw d b):=by rw [zZa,if_neg (by omega),zPa,zPa,zib];first|rfl|(simp [zXa];done)|(simp [zXa,zOb];done)
 rw [hX] at hl ⊢
 have HFT:=zh (zjb.1 hw).1
 have HZ:=zh (show [a,b].length≤5000 from by rw [size_mk] at h5;have:=zdb [a,b];omega)
 have HNB:=zh (zob.1 hs).1.2
 have HKD:=zh (zxc ih hz h5 hw hs B g w.heap.size (w.heap.size+1) kv)
 have HL:=zh hl
 have hB:B≤w.heap.size:=by have:=hst.lt;have:=hst.ge;omega
 obtain ⟨W1,hW1,HN⟩:∃ W,(w.alloc (.cells [.pointer (some ⟨g,0,none⟩)].toArray 70)).alloc (.cells [.int .i64 21,.string s,.int .i64 nm,.int .i64 p,kv].toArray 25)=W∧Hid (Wn B g w.heap.size (w.heap.size+1) (T.mk 21 s nm p [a,b]) kv l d W∧Below B w W∧Oth g w W) :=
  ⟨_,rfl,zh ⟨⟨(hst.alloc _).alloc _,(Blk.new w _ _).alloc _,Blk.zCe w _ _ _,(hk.alloc _).alloc _,hpt.step (((Below.refl B w).alloc hB _).alloc (by simp;omega) _)⟩,((Below.refl B w).alloc hB _).alloc (by simp;omega) _,((Oth.refl g w).alloc _).alloc _⟩⟩
 have b0:W1.cell? ⟨w.heap.size,0,none⟩=some (.pointer (some ⟨g,0,none⟩)):=HN.out.1.p.cell 0
 have n0:W1.cell? ⟨w.heap.size+1,0,none⟩=some (.int .i64 21):=HN.out.1.n.cell 0
 have n1:W1.cell? ⟨w.heap.size+1,1,none⟩=some (.string s):=HN.out.1.n.cell 1
 have n2:W1.cell? ⟨w.heap.size+1,2,none⟩=some (.int .i64 nm):=HN.out.1.n.cell 2
 have n3:W1.cell? ⟨w.heap.size+1,3,none⟩=some (.int .i64 p):=HN.out.1.n.cell 3
 have n4:W1.cell? ⟨w.heap.size+1,4,none⟩=some kv:=HN.out.1.n.cell 4
 clear hX hl hst hpt hk hw hs ih hz h5 hB
 go_enter Tryz.func22,Tryz.ntmps22
 go_wp2_with fail
 refine (zLu (show KAt 25 W1 [a,b] (fun b=>b<B) kv from HN.out.1.k) HFT.out (by have:=HZ.out;omega)).mono ?_
 rintro e w2 ⟨rfl,hb⟩
 have HN2:=zh (HN.out.1.step (HN.out.1.st.below hb) (hb.mono HN.out.1.bz) (Oth.of_below hb))
 have HB2:=zh (HN.out.2.1.trans (hb.mono HN.out.1.bz))
 have HO2:=zh (HN.out.2.2.trans (Oth.of_below hb))
 have b0':w2.cell? ⟨w.heap.size,0,none⟩=some (.pointer (some ⟨g,0,none⟩)):=HN2.out.p.cell 0
 have n0':w2.cell? ⟨w.heap.size+1,0,none⟩=some (.int .i64 21):=HN2.out.n.cell 0
 have n1':w2.cell? ⟨w.heap.size+1,1,none⟩=some (.string s):=HN2.out.n.cell 1
 have n2':w2.cell? ⟨w.heap.size+1,2,none⟩=some (.int .i64 nm):=HN2.out.n.cell 2
 have n3':w2.cell? ⟨w.heap.size+1,3,none⟩=some (.int .i64 p):=HN2.out.n.cell 3
 have n4':w2.cell? ⟨w.heap.size+1,4,none⟩=some kv:=HN2.out.n.cell 4
 clear hb
 go_wp2_with fail
 refine (zxu HN2.out HKD.out rfl rfl HL.out).mono ?_
 rintro e w3 ⟨rfl,h3,hb3,ho3⟩
 have HP:=zh (show zMa B g (l++(shw d a++([32,43,32]++shw d b))) d w (.returned (.tuple #[])) w3 from ⟨rfl,h3,HB2.out.trans hb3,HO2.out.trans ho3⟩)
 clear h3 hb3 ho3
 go_wp2_with fail
 go_end0
 exact HP.out
theorem zEt {n:Nat} (ih:zlc n) {s:ByteArray} {nm:Int} {p:Nat} {a b:T} {B g:Nat} {l:List UInt8} {d:Nat} {kv:Value} {w:World} (hz:(T.mk 22 s nm p [a,b]).size≤n+1) (hst:ztd B g l d w) (hpt:zZe B w) (hk:KAt 25 w [a,b] (fun b=>b<B) kv) (hw:(T.mk 22 s nm p [a,b]).whole) (hs:(T.mk 22 s nm p [a,b]).small) (h5:(T.mk 22 s nm p [a,b]).size≤5000) (hl:l.length+(shw d (T.mk 22 s nm p [a,b])).length≤140737488355328) :
  Calls Tryz.prog 22 #[.pointer (some ⟨g,0,none⟩),.agg #[.int .i64 22,.string s,.int .i64 nm,.int .i64 p,kv]] w (zMa B g (l++shw d (T.mk 22 s nm p [a,b])) d w):=by
 have hX:shw d (T.mk 22 s nm p [a,b])=shw d a++([32,45,32]++shw d b):=by rw [zZa,if_neg (by omega),zPa,zPa,zib];first|rfl|(simp [zXa];done)|(simp [zXa,zOb];done)
 rw [hX] at hl ⊢
 have HFT:=zh (zjb.1 hw).1
 have HZ:=zh (show [a,b].length≤5000 from by rw [size_mk] at h5;have:=zdb [a,b];omega)
 have HNB:=zh (zob.1 hs).1.2
 have HKD:=zh (zxc ih hz h5 hw hs B g w.heap.size (w.heap.size+1) kv)
 have HL:=zh hl
 have hB:B≤w.heap.size:=by have:=hst.lt;have:=hst.ge;omega
 obtain ⟨W1,hW1,HN⟩:∃ W,(w.alloc (.cells [.pointer (some ⟨g,0,none⟩)].toArray 70)).alloc (.cells [.int .i64 22,.string s,.int .i64 nm,.int .i64 p,kv].toArray 25)=W∧Hid (Wn B g w.heap.size (w.heap.size+1) (T.mk 22 s nm p [a,b]) kv l d W∧Below B w W∧Oth g w W) :=
  ⟨_,rfl,zh ⟨⟨(hst.alloc _).alloc _,(Blk.new w _ _).alloc _,Blk.zCe w _ _ _,(hk.alloc _).alloc _,hpt.step (((Below.refl B w).alloc hB _).alloc (by simp;omega) _)⟩,((Below.refl B w).alloc hB _).alloc (by simp;omega) _,((Oth.refl g w).alloc _).alloc _⟩⟩
 have b0:W1.cell? ⟨w.heap.size,0,none⟩=some (.pointer (some ⟨g,0,none⟩)):=HN.out.1.p.cell 0
 have n0:W1.cell? ⟨w.heap.size+1,0,none⟩=some (.int .i64 22):=HN.out.1.n.cell 0
 have n1:W1.cell? ⟨w.heap.size+1,1,none⟩=some (.string s):=HN.out.1.n.cell 1
 have n2:W1.cell? ⟨w.heap.size+1,2,none⟩=some (.int .i64 nm):=HN.out.1.n.cell 2
 have n3:W1.cell? ⟨w.heap.size+1,3,none⟩=some (.int .i64 p):=HN.out.1.n.cell 3
 have n4:W1.cell? ⟨w.heap.size+1,4,none⟩=some kv:=HN.out.1.n.cell 4
 clear hX hl hst hpt hk hw hs ih hz h5 hB
 go_enter Tryz.func22,Tryz.ntmps22
 go_wp2_with fail
 refine (zdw (show KAt 25 W1 [a,b] (fun b=>b<B) kv from HN.out.1.k) HFT.out (by have:=HZ.out;omega)).mono ?_
 rintro e w2 ⟨rfl,hb⟩
 have HN2:=zh (HN.out.1.step (HN.out.1.st.below hb) (hb.mono HN.out.1.bz) (Oth.of_below hb))
 have HB2:=zh (HN.out.2.1.trans (hb.mono HN.out.1.bz))
 have HO2:=zh (HN.out.2.2.trans (Oth.of_below hb))
 have b0':w2.cell? ⟨w.heap.size,0,none⟩=some (.pointer (some ⟨g,0,none⟩)):=HN2.out.p.cell 0
 have n0':w2.cell? ⟨w.heap.size+1,0,none⟩=some (.int .i64 22):=HN2.out.n.cell 0
 have n1':w2.cell? ⟨w.heap.size+1,1,none⟩=some (.string s):=HN2.out.n.cell 1
 have n2':w2.cell? ⟨w.heap.size+1,2,none⟩=some (.int .i64 nm):=HN2.out.n.cell 2
 have n3':w2.cell? ⟨w.heap.size+1,3,none⟩=some (.int .i64 p):=HN2.out.n.cell 3
 have n4':w2.cell? ⟨w.heap.size+1,4,none⟩=some kv:=HN2.out.n.cell 4
 clear hb
 go_wp2_with fail
 refine (zit HN2.out HKD.out rfl rfl HL.out).mono ?_
 rintro e w3 ⟨rfl,h3,hb3,ho3⟩
 have HP:=zh (show zMa B g (l++(shw d a++([32,45,32]++shw d b))) d w (.returned (.tuple #[])) w3 from ⟨rfl,h3,HB2.out.trans hb3,HO2.out.trans ho3⟩)
 clear h3 hb3 ho3
 go_wp2_with fail
 go_end0
 exact HP.out
theorem zss {n:Nat} (ih:zlc n) {s:ByteArray} {nm:Int} {p:Nat} {ks:List T} {B g:Nat} {l:List UInt8} {d:Nat} {kv:Value} {w:World} (hz:(T.mk 23 s nm p ks).size≤n+1) (hst:ztd B g l d w) (hpt:zZe B w) (hk:KAt 25 w ks (fun b=>b<B) kv) (hw:(T.mk 23 s nm p ks).whole) (hs:(T.mk 23 s nm p ks).small) (h5:(T.mk 23 s nm p ks).size≤5000) (hl:l.length+(shw d (T.mk 23 s nm p ks)).length≤140737488355328) :
  Calls Tryz.prog 22 #[.pointer (some ⟨g,0,none⟩),.agg #[.int .i64 23,.string s,.int .i64 nm,.int .i64 p,kv]] w (zMa B g (l++shw d (T.mk 23 s nm p ks)) d w):=by
 have hX:shw d (T.mk 23 s nm p ks)=[110,101,119,32]++dec nm:=by rw [zZa,if_neg (by omega)];first|rfl|(simp [zXa];done)|(simp [zXa,zOb];done)
 rw [hX] at hl ⊢
 have HFT:=zh (zjb.1 hw).1
 have HZ:=zh (show ks.length≤5000 from by rw [size_mk] at h5;have:=zdb ks;omega)
 have HNB:=zh (zob.1 hs).1.2
 have HKD:=zh (zxc ih hz h5 hw hs B g w.heap.size (w.heap.size+1) kv)
 have HL:=zh hl
 have hB:B≤w.heap.size:=by have:=hst.lt;have:=hst.ge;omega
 obtain ⟨W1,hW1,HN⟩:∃ W,(w.alloc (.cells [.pointer (some ⟨g,0,none⟩)].toArray 70)).alloc (.cells [.int .i64 23,.string s,.int .i64 nm,.int .i64 p,kv].toArray 25)=W∧Hid (Wn B g w.heap.size (w.heap.size+1) (T.mk 23 s nm p ks) kv l d W∧Below B w W∧Oth g w W) :=
  ⟨_,rfl,zh ⟨⟨(hst.alloc _).alloc _,(Blk.new w _ _).alloc _,Blk.zCe w _ _ _,(hk.alloc _).alloc _,hpt.step (((Below.refl B w).alloc hB _).alloc (by simp;omega) _)⟩,((Below.refl B w).alloc hB _).alloc (by simp;omega) _,((Oth.refl g w).alloc _).alloc _⟩⟩
 have b0:W1.cell? ⟨w.heap.size,0,none⟩=some (.pointer (some ⟨g,0,none⟩)):=HN.out.1.p.cell 0
 have n0:W1.cell? ⟨w.heap.size+1,0,none⟩=some (.int .i64 23):=HN.out.1.n.cell 0
 have n1:W1.cell? ⟨w.heap.size+1,1,none⟩=some (.string s):=HN.out.1.n.cell 1
 have n2:W1.cell? ⟨w.heap.size+1,2,none⟩=some (.int .i64 nm):=HN.out.1.n.cell 2
 have n3:W1.cell? ⟨w.heap.size+1,3,none⟩=some (.int .i64 p):=HN.out.1.n.cell 3
 have n4:W1.cell? ⟨w.heap.size+1,4,none⟩=some kv:=HN.out.1.n.cell 4
 clear hX hl hst hpt hk hw hs ih hz h5 hB
 go_enter Tryz.func22,Tryz.ntmps22
 go_wp2_with fail
 refine (zkv (show KAt 25 W1 ks (fun b=>b<B) kv from HN.out.1.k) HFT.out (by have:=HZ.out;omega)).mono ?_
 rintro e w2 ⟨rfl,hb⟩
 have HN2:=zh (HN.out.1.step (HN.out.1.st.below hb) (hb.mono HN.out.1.bz) (Oth.of_below hb))
 have HB2:=zh (HN.out.2.1.trans (hb.mono HN.out.1.bz))
 have HO2:=zh (HN.out.2.2.trans (Oth.of_below hb))
 have b0':w2.cell? ⟨w.heap.size,0,none⟩=some (.pointer (some ⟨g,0,none⟩)):=HN2.out.p.cell 0
 have n0':w2.cell? ⟨w.heap.size+1,0,none⟩=some (.int .i64 23):=HN2.out.n.cell 0
 have n1':w2.cell? ⟨w.heap.size+1,1,none⟩=some (.string s):=HN2.out.n.cell 1
 have n2':w2.cell? ⟨w.heap.size+1,2,none⟩=some (.int .i64 nm):=HN2.out.n.cell 2
 have n3':w2.cell? ⟨w.heap.size+1,3,none⟩=some (.int .i64 p):=HN2.out.n.cell 3
 have n4':w2.cell? ⟨w.heap.size+1,4,none⟩=some kv:=HN2.out.n.cell 4
 clear hb
 go_wp2_with fail
 refine (zQs HN2.out HKD.out HNB.out HL.out).mono ?_
 rintro e w3 ⟨rfl,h3,hb3,ho3⟩
 have HP:=zh (show zMa B g (l++([110,101,119,32]++dec nm)) d w (.returned (.tuple #[])) w3 from ⟨rfl,h3,HB2.out.trans hb3,HO2.out.trans ho3⟩)
 clear h3 hb3 ho3
 go_wp2_with fail
 go_end0
 exact HP.out
theorem zus {n:Nat} (ih:zlc n) {s:ByteArray} {nm:Int} {p:Nat} {ks:List T} {B g:Nat} {l:List UInt8} {d:Nat} {kv:Value} {w:World} (hz:(T.mk 24 s nm p ks).size≤n+1) (hst:ztd B g l d w) (hpt:zZe B w) (hk:KAt 25 w ks (fun b=>b<B) kv) (hw:(T.mk 24 s nm p ks).whole) (hs:(T.mk 24 s nm p ks).small) (h5:(T.mk 24 s nm p ks).size≤5000) (hl:l.length+(shw d (T.mk 24 s nm p ks)).length≤140737488355328) :
  Calls Tryz.prog 22 #[.pointer (some ⟨g,0,none⟩),.agg #[.int .i64 24,.string s,.int .i64 nm,.int .i64 p,kv]] w (zMa B g (l++shw d (T.mk 24 s nm p ks)) d w):=by
 have hX:shw d (T.mk 24 s nm p ks)=[97,114,114,97,121,32]++tb s:=by rw [zZa,if_neg (by omega)];first|rfl|(simp [zXa];done)|(simp [zXa,zOb];done)
 rw [hX] at hl ⊢
 have HFT:=zh (zjb.1 hw).1
 have HZ:=zh (show ks.length≤5000 from by rw [size_mk] at h5;have:=zdb ks;omega)
 have HNB:=zh (zob.1 hs).1.2
 have HKD:=zh (zxc ih hz h5 hw hs B g w.heap.size (w.heap.size+1) kv)
 have HL:=zh hl
 have hB:B≤w.heap.size:=by have:=hst.lt;have:=hst.ge;omega
 obtain ⟨W1,hW1,HN⟩:∃ W,(w.alloc (.cells [.pointer (some ⟨g,0,none⟩)].toArray 70)).alloc (.cells [.int .i64 24,.string s,.int .i64 nm,.int .i64 p,kv].toArray 25)=W∧Hid (Wn B g w.heap.size (w.heap.size+1) (T.mk 24 s nm p ks) kv l d W∧Below B w W∧Oth g w W) :=
  ⟨_,rfl,zh ⟨⟨(hst.alloc _).alloc _,(Blk.new w _ _).alloc _,Blk.zCe w _ _ _,(hk.alloc _).alloc _,hpt.step (((Below.refl B w).alloc hB _).alloc (by simp;omega) _)⟩,((Below.refl B w).alloc hB _).alloc (by simp;omega) _,((Oth.refl g w).alloc _).alloc _⟩⟩
 have b0:W1.cell? ⟨w.heap.size,0,none⟩=some (.pointer (some ⟨g,0,none⟩)):=HN.out.1.p.cell 0
 have n0:W1.cell? ⟨w.heap.size+1,0,none⟩=some (.int .i64 24):=HN.out.1.n.cell 0
 have n1:W1.cell? ⟨w.heap.size+1,1,none⟩=some (.string s):=HN.out.1.n.cell 1
 have n2:W1.cell? ⟨w.heap.size+1,2,none⟩=some (.int .i64 nm):=HN.out.1.n.cell 2
 have n3:W1.cell? ⟨w.heap.size+1,3,none⟩=some (.int .i64 p):=HN.out.1.n.cell 3
 have n4:W1.cell? ⟨w.heap.size+1,4,none⟩=some kv:=HN.out.1.n.cell 4
 clear hX hl hst hpt hk hw hs ih hz h5 hB
 go_enter Tryz.func22,Tryz.ntmps22
 go_wp2_with fail
 refine (zow (show KAt 25 W1 ks (fun b=>b<B) kv from HN.out.1.k) HFT.out (by have:=HZ.out;omega)).mono ?_
 rintro e w2 ⟨rfl,hb⟩
 have HN2:=zh (HN.out.1.step (HN.out.1.st.below hb) (hb.mono HN.out.1.bz) (Oth.of_below hb))
 have HB2:=zh (HN.out.2.1.trans (hb.mono HN.out.1.bz))
 have HO2:=zh (HN.out.2.2.trans (Oth.of_below hb))
 have b0':w2.cell? ⟨w.heap.size,0,none⟩=some (.pointer (some ⟨g,0,none⟩)):=HN2.out.p.cell 0
 have n0':w2.cell? ⟨w.heap.size+1,0,none⟩=some (.int .i64 24):=HN2.out.n.cell 0
 have n1':w2.cell? ⟨w.heap.size+1,1,none⟩=some (.string s):=HN2.out.n.cell 1
 have n2':w2.cell? ⟨w.heap.size+1,2,none⟩=some (.int .i64 nm):=HN2.out.n.cell 2
 have n3':w2.cell? ⟨w.heap.size+1,3,none⟩=some (.int .i64 p):=HN2.out.n.cell 3
 have n4':w2.cell? ⟨w.heap.size+1,4,none⟩=some kv:=HN2.out.n.cell 4
 clear hb
 go_wp2_with fail
 refine (zjt HN2.out HKD.out  HL.out).mono ?_
 rintro e w3 ⟨rfl,h3,hb3,ho3⟩
 have HP:=zh (show zMa B g (l++([97,114,114,97,121,32]++tb s)) d w (.returned (.tuple #[])) w3 from ⟨rfl,h3,HB2.out.trans hb3,HO2.out.trans ho3⟩)
 clear h3 hb3 ho3
 go_wp2_with fail
 go_end0
 exact HP.out
theorem zou {n:Nat} (ih:zlc n) {s:ByteArray} {nm:Int} {p:Nat} {a:T} {B g:Nat} {l:List UInt8} {d:Nat} {kv:Value} {w:World} (hz:(T.mk 25 s nm p [a]).size≤n+1) (hst:ztd B g l d w) (hpt:zZe B w) (hk:KAt 25 w [a] (fun b=>b<B) kv) (hw:(T.mk 25 s nm p [a]).whole) (hs:(T.mk 25 s nm p [a]).small) (h5:(T.mk 25 s nm p [a]).size≤5000) (hl:l.length+(shw d (T.mk 25 s nm p [a])).length≤140737488355328) :
  Calls Tryz.prog 22 #[.pointer (some ⟨g,0,none⟩),.agg #[.int .i64 25,.string s,.int .i64 nm,.int .i64 p,kv]] w (zMa B g (l++shw d (T.mk 25 s nm p [a])) d w):=by
 have hX:shw d (T.mk 25 s nm p [a])=tb s++([91]++(shw d a++[93])):=by rw [zZa,if_neg (by omega),zPa,zib];first|rfl|(simp [zXa];done)|(simp [zXa,zOb];done)
 rw [hX] at hl ⊢
 have HFT:=zh (zjb.1 hw).1
 have HZ:=zh (show [a].length≤5000 from by rw [size_mk] at h5;have:=zdb [a];omega)
 have HNB:=zh (zob.1 hs).1.2
 have HKD:=zh (zxc ih hz h5 hw hs B g w.heap.size (w.heap.size+1) kv)
 have HL:=zh hl
 have hB:B≤w.heap.size:=by have:=hst.lt;have:=hst.ge;omega
 obtain ⟨W1,hW1,HN⟩:∃ W,(w.alloc (.cells [.pointer (some ⟨g,0,none⟩)].toArray 70)).alloc (.cells [.int .i64 25,.string s,.int .i64 nm,.int .i64 p,kv].toArray 25)=W∧Hid (Wn B g w.heap.size (w.heap.size+1) (T.mk 25 s nm p [a]) kv l d W∧Below B w W∧Oth g w W) :=
  ⟨_,rfl,zh ⟨⟨(hst.alloc _).alloc _,(Blk.new w _ _).alloc _,Blk.zCe w _ _ _,(hk.alloc _).alloc _,hpt.step (((Below.refl B w).alloc hB _).alloc (by simp;omega) _)⟩,((Below.refl B w).alloc hB _).alloc (by simp;omega) _,((Oth.refl g w).alloc _).alloc _⟩⟩
 have b0:W1.cell? ⟨w.heap.size,0,none⟩=some (.pointer (some ⟨g,0,none⟩)):=HN.out.1.p.cell 0
 have n0:W1.cell? ⟨w.heap.size+1,0,none⟩=some (.int .i64 25):=HN.out.1.n.cell 0
 have n1:W1.cell? ⟨w.heap.size+1,1,none⟩=some (.string s):=HN.out.1.n.cell 1
 have n2:W1.cell? ⟨w.heap.size+1,2,none⟩=some (.int .i64 nm):=HN.out.1.n.cell 2
 have n3:W1.cell? ⟨w.heap.size+1,3,none⟩=some (.int .i64 p):=HN.out.1.n.cell 3
 have n4:W1.cell? ⟨w.heap.size+1,4,none⟩=some kv:=HN.out.1.n.cell 4
 clear hX hl hst hpt hk hw hs ih hz h5 hB
 go_enter Tryz.func22,Tryz.ntmps22
 go_wp2_with fail
 refine (zRw (show KAt 25 W1 [a] (fun b=>b<B) kv from HN.out.1.k) HFT.out (by have:=HZ.out;omega)).mono ?_
 rintro e w2 ⟨rfl,hb⟩
 have HN2:=zh (HN.out.1.step (HN.out.1.st.below hb) (hb.mono HN.out.1.bz) (Oth.of_below hb))
 have HB2:=zh (HN.out.2.1.trans (hb.mono HN.out.1.bz))
 have HO2:=zh (HN.out.2.2.trans (Oth.of_below hb))
 have b0':w2.cell? ⟨w.heap.size,0,none⟩=some (.pointer (some ⟨g,0,none⟩)):=HN2.out.p.cell 0
 have n0':w2.cell? ⟨w.heap.size+1,0,none⟩=some (.int .i64 25):=HN2.out.n.cell 0
 have n1':w2.cell? ⟨w.heap.size+1,1,none⟩=some (.string s):=HN2.out.n.cell 1
 have n2':w2.cell? ⟨w.heap.size+1,2,none⟩=some (.int .i64 nm):=HN2.out.n.cell 2
 have n3':w2.cell? ⟨w.heap.size+1,3,none⟩=some (.int .i64 p):=HN2.out.n.cell 3
 have n4':w2.cell? ⟨w.heap.size+1,4,none⟩=some kv:=HN2.out.n.cell 4
 clear hb
 go_wp2_with fail
 refine (zEu HN2.out HKD.out rfl HL.out).mono ?_
 rintro e w3 ⟨rfl,h3,hb3,ho3⟩
 have HP:=zh (show zMa B g (l++(tb s++([91]++(shw d a++[93])))) d w (.returned (.tuple #[])) w3 from ⟨rfl,h3,HB2.out.trans hb3,HO2.out.trans ho3⟩)
 clear h3 hb3 ho3
 go_wp2_with fail
 go_end0
 exact HP.out
theorem zft {n:Nat} (ih:zlc n) {s:ByteArray} {nm:Int} {p:Nat} {ks:List T} {B g:Nat} {l:List UInt8} {d:Nat} {kv:Value} {w:World} (hz:(T.mk 26 s nm p ks).size≤n+1) (hst:ztd B g l d w) (hpt:zZe B w) (hk:KAt 25 w ks (fun b=>b<B) kv) (hw:(T.mk 26 s nm p ks).whole) (hs:(T.mk 26 s nm p ks).small) (h5:(T.mk 26 s nm p ks).size≤5000) (hl:l.length+(shw d (T.mk 26 s nm p ks)).length≤140737488355328) :
  Calls Tryz.prog 22 #[.pointer (some ⟨g,0,none⟩),.agg #[.int .i64 26,.string s,.int .i64 nm,.int .i64 p,kv]] w (zMa B g (l++shw d (T.mk 26 s nm p ks)) d w):=by
 have hX:shw d (T.mk 26 s nm p ks)=[38]++tb s:=by rw [zZa,if_neg (by omega)];first|rfl|(simp [zXa];done)|(simp [zXa,zOb];done)
 rw [hX] at hl ⊢
 have HFT:=zh (zjb.1 hw).1
 have HZ:=zh (show ks.length≤5000 from by rw [size_mk] at h5;have:=zdb ks;omega)
 have HNB:=zh (zob.1 hs).1.2
 have HKD:=zh (zxc ih hz h5 hw hs B g w.heap.size (w.heap.size+1) kv)
 have HL:=zh hl
 have hB:B≤w.heap.size:=by have:=hst.lt;have:=hst.ge;omega
 obtain ⟨W1,hW1,HN⟩:∃ W,(w.alloc (.cells [.pointer (some ⟨g,0,none⟩)].toArray 70)).alloc (.cells [.int .i64 26,.string s,.int .i64 nm,.int .i64 p,kv].toArray 25)=W∧Hid (Wn B g w.heap.size (w.heap.size+1) (T.mk 26 s nm p ks) kv l d W∧Below B w W∧Oth g w W) :=
  ⟨_,rfl,zh ⟨⟨(hst.alloc _).alloc _,(Blk.new w _ _).alloc _,Blk.zCe w _ _ _,(hk.alloc _).alloc _,hpt.step (((Below.refl B w).alloc hB _).alloc (by simp;omega) _)⟩,((Below.refl B w).alloc hB _).alloc (by simp;omega) _,((Oth.refl g w).alloc _).alloc _⟩⟩
 have b0:W1.cell? ⟨w.heap.size,0,none⟩=some (.pointer (some ⟨g,0,none⟩)):=HN.out.1.p.cell 0
 have n0:W1.cell? ⟨w.heap.size+1,0,none⟩=some (.int .i64 26):=HN.out.1.n.cell 0
 have n1:W1.cell? ⟨w.heap.size+1,1,none⟩=some (.string s):=HN.out.1.n.cell 1
 have n2:W1.cell? ⟨w.heap.size+1,2,none⟩=some (.int .i64 nm):=HN.out.1.n.cell 2
 have n3:W1.cell? ⟨w.heap.size+1,3,none⟩=some (.int .i64 p):=HN.out.1.n.cell 3
 have n4:W1.cell? ⟨w.heap.size+1,4,none⟩=some kv:=HN.out.1.n.cell 4
 clear hX hl hst hpt hk hw hs ih hz h5 hB
 go_enter Tryz.func22,Tryz.ntmps22
 go_wp2_with fail
 refine (zdv (show KAt 25 W1 ks (fun b=>b<B) kv from HN.out.1.k) HFT.out (by have:=HZ.out;omega)).mono ?_
 rintro e w2 ⟨rfl,hb⟩
 have HN2:=zh (HN.out.1.step (HN.out.1.st.below hb) (hb.mono HN.out.1.bz) (Oth.of_below hb))
 have HB2:=zh (HN.out.2.1.trans (hb.mono HN.out.1.bz))
 have HO2:=zh (HN.out.2.2.trans (Oth.of_below hb))
 have b0':w2.cell? ⟨w.heap.size,0,none⟩=some (.pointer (some ⟨g,0,none⟩)):=HN2.out.p.cell 0
 have n0':w2.cell? ⟨w.heap.size+1,0,none⟩=some (.int .i64 26):=HN2.out.n.cell 0
 have n1':w2.cell? ⟨w.heap.size+1,1,none⟩=some (.string s):=HN2.out.n.cell 1
 have n2':w2.cell? ⟨w.heap.size+1,2,none⟩=some (.int .i64 nm):=HN2.out.n.cell 2
 have n3':w2.cell? ⟨w.heap.size+1,3,none⟩=some (.int .i64 p):=HN2.out.n.cell 3
 have n4':w2.cell? ⟨w.heap.size+1,4,none⟩=some kv:=HN2.out.n.cell 4
 clear hb
 go_wp2_with fail
 refine (zCt HN2.out HKD.out  HL.out).mono ?_
 rintro e w3 ⟨rfl,h3,hb3,ho3⟩
 have HP:=zh (show zMa B g (l++([38]++tb s)) d w (.returned (.tuple #[])) w3 from ⟨rfl,h3,HB2.out.trans hb3,HO2.out.trans ho3⟩)
 clear h3 hb3 ho3
 go_wp2_with fail
 go_end0
 exact HP.out
theorem zQt {n:Nat} (ih:zlc n) {s:ByteArray} {nm:Int} {p:Nat} {ks:List T} {B g:Nat} {l:List UInt8} {d:Nat} {kv:Value} {w:World} (hz:(T.mk 27 s nm p ks).size≤n+1) (hst:ztd B g l d w) (hpt:zZe B w) (hk:KAt 25 w ks (fun b=>b<B) kv) (hw:(T.mk 27 s nm p ks).whole) (hs:(T.mk 27 s nm p ks).small) (h5:(T.mk 27 s nm p ks).size≤5000) (hl:l.length+(shw d (T.mk 27 s nm p ks)).length≤140737488355328) :
  Calls Tryz.prog 22 #[.pointer (some ⟨g,0,none⟩),.agg #[.int .i64 27,.string s,.int .i64 nm,.int .i64 p,kv]] w (zMa B g (l++shw d (T.mk 27 s nm p ks)) d w):=by
 have hX:shw d (T.mk 27 s nm p ks)=[38,109,117,116,32]++tb s:=by rw [zZa,if_neg (by omega)];first|rfl|(simp [zXa];done)|(simp [zXa,zOb];done)
 rw [hX] at hl ⊢
 have HFT:=zh (zjb.1 hw).1
 have HZ:=zh (show ks.length≤5000 from by rw [size_mk] at h5;have:=zdb ks;omega)
 have HNB:=zh (zob.1 hs).1.2
 have HKD:=zh (zxc ih hz h5 hw hs B g w.heap.size (w.heap.size+1) kv)
 have HL:=zh hl
 have hB:B≤w.heap.size:=by have:=hst.lt;have:=hst.ge;omega
 obtain ⟨W1,hW1,HN⟩:∃ W,(w.alloc (.cells [.pointer (some ⟨g,0,none⟩)].toArray 70)).alloc (.cells [.int .i64 27,.string s,.int .i64 nm,.int .i64 p,kv].toArray 25)=W∧Hid (Wn B g w.heap.size (w.heap.size+1) (T.mk 27 s nm p ks) kv l d W∧Below B w W∧Oth g w W) :=
  ⟨_,rfl,zh ⟨⟨(hst.alloc _).alloc _,(Blk.new w _ _).alloc _,Blk.zCe w _ _ _,(hk.alloc _).alloc _,hpt.step (((Below.refl B w).alloc hB _).alloc (by simp;omega) _)⟩,((Below.refl B w).alloc hB _).alloc (by simp;omega) _,((Oth.refl g w).alloc _).alloc _⟩⟩
 have b0:W1.cell? ⟨w.heap.size,0,none⟩=some (.pointer (some ⟨g,0,none⟩)):=HN.out.1.p.cell 0
 have n0:W1.cell? ⟨w.heap.size+1,0,none⟩=some (.int .i64 27):=HN.out.1.n.cell 0
 have n1:W1.cell? ⟨w.heap.size+1,1,none⟩=some (.string s):=HN.out.1.n.cell 1
 have n2:W1.cell? ⟨w.heap.size+1,2,none⟩=some (.int .i64 nm):=HN.out.1.n.cell 2
 have n3:W1.cell? ⟨w.heap.size+1,3,none⟩=some (.int .i64 p):=HN.out.1.n.cell 3
 have n4:W1.cell? ⟨w.heap.size+1,4,none⟩=some kv:=HN.out.1.n.cell 4
 clear hX hl hst hpt hk hw hs ih hz h5 hB
 go_enter Tryz.func22,Tryz.ntmps22
 go_wp2_with fail
 refine (zPv (show KAt 25 W1 ks (fun b=>b<B) kv from HN.out.1.k) HFT.out (by have:=HZ.out;omega)).mono ?_
 rintro e w2 ⟨rfl,hb⟩
 have HN2:=zh (HN.out.1.step (HN.out.1.st.below hb) (hb.mono HN.out.1.bz) (Oth.of_below hb))
 have HB2:=zh (HN.out.2.1.trans (hb.mono HN.out.1.bz))
 have HO2:=zh (HN.out.2.2.trans (Oth.of_below hb))
 have b0':w2.cell? ⟨w.heap.size,0,none⟩=some (.pointer (some ⟨g,0,none⟩)):=HN2.out.p.cell 0
 have n0':w2.cell? ⟨w.heap.size+1,0,none⟩=some (.int .i64 27):=HN2.out.n.cell 0
 have n1':w2.cell? ⟨w.heap.size+1,1,none⟩=some (.string s):=HN2.out.n.cell 1
 have n2':w2.cell? ⟨w.heap.size+1,2,none⟩=some (.int .i64 nm):=HN2.out.n.cell 2
 have n3':w2.cell? ⟨w.heap.size+1,3,none⟩=some (.int .i64 p):=HN2.out.n.cell 3
 have n4':w2.cell? ⟨w.heap.size+1,4,none⟩=some kv:=HN2.out.n.cell 4
 clear hb
 go_wp2_with fail
 refine (zCu HN2.out HKD.out  HL.out).mono ?_
 rintro e w3 ⟨rfl,h3,hb3,ho3⟩
 have HP:=zh (show zMa B g (l++([38,109,117,116,32]++tb s)) d w (.returned (.tuple #[])) w3 from ⟨rfl,h3,HB2.out.trans hb3,HO2.out.trans ho3⟩)
 clear h3 hb3 ho3
 go_wp2_with fail
 go_end0
 exact HP.out
theorem zcu {n:Nat} (ih:zlc n) {s:ByteArray} {nm:Int} {p:Nat} {ks:List T} {B g:Nat} {l:List UInt8} {d:Nat} {kv:Value} {w:World} (hz:(T.mk 28 s nm p ks).size≤n+1) (hst:ztd B g l d w) (hpt:zZe B w) (hk:KAt 25 w ks (fun b=>b<B) kv) (hw:(T.mk 28 s nm p ks).whole) (hs:(T.mk 28 s nm p ks).small) (h5:(T.mk 28 s nm p ks).size≤5000) (hl:l.length+(shw d (T.mk 28 s nm p ks)).length≤140737488355328) :
  Calls Tryz.prog 22 #[.pointer (some ⟨g,0,none⟩),.agg #[.int .i64 28,.string s,.int .i64 nm,.int .i64 p,kv]] w (zMa B g (l++shw d (T.mk 28 s nm p ks)) d w):=by
 have hX:shw d (T.mk 28 s nm p ks)=zRc (tb s) (zpb d ks):=by rw [zZa,if_neg (by omega)];first|rfl|(simp [zXa];done)|(simp [zXa,zOb];done)
 rw [hX] at hl ⊢
 have HFT:=zh (zjb.1 hw).1
 have HZ:=zh (show ks.length≤5000 from by rw [size_mk] at h5;have:=zdb ks;omega)
 have HNB:=zh (zob.1 hs).1.2
 have HKD:=zh (zxc ih hz h5 hw hs B g w.heap.size (w.heap.size+1) kv)
 have HL:=zh hl
 have hB:B≤w.heap.size:=by have:=hst.lt;have:=hst.ge;omega
 obtain ⟨W1,hW1,HN⟩:∃ W,(w.alloc (.cells [.pointer (some ⟨g,0,none⟩)].toArray 70)).alloc (.cells [.int .i64 28,.string s,.int .i64 nm,.int .i64 p,kv].toArray 25)=W∧Hid (Wn B g w.heap.size (w.heap.size+1) (T.mk 28 s nm p ks) kv l d W∧Below B w W∧Oth g w W) :=
  ⟨_,rfl,zh ⟨⟨(hst.alloc _).alloc _,(Blk.new w _ _).alloc _,Blk.zCe w _ _ _,(hk.alloc _).alloc _,hpt.step (((Below.refl B w).alloc hB _).alloc (by simp;omega) _)⟩,((Below.refl B w).alloc hB _).alloc (by simp;omega) _,((Oth.refl g w).alloc _).alloc _⟩⟩
 have b0:W1.cell? ⟨w.heap.size,0,none⟩=some (.pointer (some ⟨g,0,none⟩)):=HN.out.1.p.cell 0
 have n0:W1.cell? ⟨w.heap.size+1,0,none⟩=some (.int .i64 28):=HN.out.1.n.cell 0
 have n1:W1.cell? ⟨w.heap.size+1,1,none⟩=some (.string s):=HN.out.1.n.cell 1
 have n2:W1.cell? ⟨w.heap.size+1,2,none⟩=some (.int .i64 nm):=HN.out.1.n.cell 2
 have n3:W1.cell? ⟨w.heap.size+1,3,none⟩=some (.int .i64 p):=HN.out.1.n.cell 3
 have n4:W1.cell? ⟨w.heap.size+1,4,none⟩=some kv:=HN.out.1.n.cell 4
 clear hX hl hst hpt hk hw hs ih hz h5 hB
 go_enter Tryz.func22,Tryz.ntmps22
 go_wp2_with fail
 refine (zww (show KAt 25 W1 ks (fun b=>b<B) kv from HN.out.1.k) HFT.out (by have:=HZ.out;omega)).mono ?_
 rintro e w2 ⟨rfl,hb⟩
 have HN2:=zh (HN.out.1.step (HN.out.1.st.below hb) (hb.mono HN.out.1.bz) (Oth.of_below hb))
 have HB2:=zh (HN.out.2.1.trans (hb.mono HN.out.1.bz))
 have HO2:=zh (HN.out.2.2.trans (Oth.of_below hb))
 have b0':w2.cell? ⟨w.heap.size,0,none⟩=some (.pointer (some ⟨g,0,none⟩)):=HN2.out.p.cell 0
 have n0':w2.cell? ⟨w.heap.size+1,0,none⟩=some (.int .i64 28):=HN2.out.n.cell 0
 have n1':w2.cell? ⟨w.heap.size+1,1,none⟩=some (.string s):=HN2.out.n.cell 1
 have n2':w2.cell? ⟨w.heap.size+1,2,none⟩=some (.int .i64 nm):=HN2.out.n.cell 2
 have n3':w2.cell? ⟨w.heap.size+1,3,none⟩=some (.int .i64 p):=HN2.out.n.cell 3
 have n4':w2.cell? ⟨w.heap.size+1,4,none⟩=some kv:=HN2.out.n.cell 4
 clear hb
 go_wp2_with fail
 refine (zPs HN2.out HKD.out (by have:=HZ.out;omega) HL.out).mono ?_
 rintro e w3 ⟨rfl,h3,hb3,ho3⟩
 have HP:=zh (show zMa B g (l++(zRc (tb s) (zpb d ks))) d w (.returned (.tuple #[])) w3 from ⟨rfl,h3,HB2.out.trans hb3,HO2.out.trans ho3⟩)
 clear h3 hb3 ho3
 go_wp2_with fail
 go_end0
 exact HP.out
end Go.Proofs.YtbfgdpcgdmabpaaGreatDoor
namespace Go.Proofs.YtbfgdpcgdmabpaaGreatDoor
set_option maxRecDepth 100000
set_option maxHeartbeats 2000000
open Go.RowKit
theorem zUm:∀ n:Nat,zlc n
 | 0=>by
  intro t B g l d kv w hz
  cases t
  rw [size_mk] at hz
  omega
 | n+1=>by
  have ih:=zUm n
  rintro ⟨k,s,nm,p,ks⟩ B g l d kv w hz hst hpt hk hw hs h5 hl
  have hf:=(zjb.1 hw).1
  cases hf with
  | unit e _=>subst e;exact zMw ih hz hst hpt hk hw hs h5 hl
  | type e _ _ _=>subst e;exact zYv ih hz hst hpt hk hw hs h5 hl
  | none e =>
   rcases e with rfl|rfl|rfl|rfl
   ·exact zas ih hz hst hpt hk hw hs h5 hl
   ·exact zZr ih hz hst hpt hk hw hs h5 hl
   ·exact zSr ih hz hst hpt hk hw hs h5 hl
   ·exact zPo ih hz hst hpt hk hw hs h5 hl
  | one e _ =>
   rcases e with rfl|rfl|rfl|rfl
   ·exact zas ih hz hst hpt hk hw hs h5 hl
   ·exact zZr ih hz hst hpt hk hw hs h5 hl
   ·exact zSr ih hz hst hpt hk hw hs h5 hl
   ·exact zPo ih hz hst hpt hk hw hs h5 hl
  | two e _ _ =>
   rcases e with rfl|rfl|rfl|rfl
   ·exact zYu ih hz hst hpt hk hw hs h5 hl
   ·exact zOs ih hz hst hpt hk hw hs h5 hl
   ·exact zAs ih hz hst hpt hk hw hs h5 hl
   ·exact zEt ih hz hst hpt hk hw hs h5 hl
  | fn e _ _ _=>subst e;exact zhw ih hz hst hpt hk hw hs h5 hl
  | param e _=>subst e;exact zhv ih hz hst hpt hk hw hs h5 hl
  | block e _=>subst e;exact zev ih hz hst hpt hk hw hs h5 hl
  | set e _=>subst e;exact zbu ih hz hst hpt hk hw hs h5 hl
  | cond e _ _ _ _=>subst e;exact zgt ih hz hst hpt hk hw hs h5 hl
  | loop e _ _ _=>subst e;exact zHs ih hz hst hpt hk hw hs h5 hl
  | call1 e _=>subst e;exact zeu ih hz hst hpt hk hw hs h5 hl
  | load e _=>subst e;exact zou ih hz hst hpt hk hw hs h5 hl
  | call e _ =>
   rcases e with rfl|rfl
   ·exact zst ih hz hst hpt hk hw hs h5 hl
   ·exact zcu ih hz hst hpt hk hw hs h5 hl
  | leaf e =>
   rcases e with rfl|rfl|rfl|rfl|rfl|rfl|rfl|rfl|rfl
   ·exact zJw ih hz hst hpt hk hw hs h5 hl
   ·exact ziu ih hz hst hpt hk hw hs h5 hl
   ·exact zOt ih hz hst hpt hk hw hs h5 hl
   ·exact znt ih hz hst hpt hk hw hs h5 hl
   ·exact zSs ih hz hst hpt hk hw hs h5 hl
   ·exact zss ih hz hst hpt hk hw hs h5 hl
   ·exact zus ih hz hst hpt hk hw hs h5 hl
   ·exact zft ih hz hst hpt hk hw hs h5 hl
   ·exact zQt ih hz hst hpt hk hw hs h5 hl
def Pow (w:World):Prop:=zZe w.heap.size w
theorem zGg {w:World} {t:T} {S:Nat→Prop} {kv:Value} (hk:KAt 25 w t.kids S kv) (hp:Pow w) (hw:t.whole) (hs:t.small) (hz:t.size≤5000) :
  Calls Tryz.prog 9 #[.agg #[.int .i64 t.kind,.string t.text,.int .i64 t.num,.int .i64 t.place,kv]] w fun e w'=>e=.returned (.string ⟨(shw 0 t).toArray⟩)∧Below w.heap.size w w':=by
 have HK:=zh (show KAt 25 w t.kids (fun b=>b<w.heap.size) kv from hk.keep fun b _ hl=>⟨hl,rfl⟩)
 have HW:=zh hw
 have HS:=zh hs
 have HBD:=zh (zvi (d:=0) hs hw hz (by omega))
 obtain ⟨W1,hW1,H1⟩:∃ W,(w.alloc (.cells [.int .i64 t.kind,.string t.text,.int .i64 t.num,.int .i64 t.place,kv].toArray 25)).alloc (.cells [.pointer none,.slice none 0 0,.int .i64 0].toArray 76)=W∧Hid (ztd w.heap.size (w.heap.size+1) [] 0 W∧Below w.heap.size w W∧zZe w.heap.size W∧KAt 25 W t.kids (fun b=>b<w.heap.size) kv∧Blk W w.heap.size (zaa t kv) 25):=by
  have hb:Below w.heap.size w ((w.alloc (.cells [.int .i64 t.kind,.string t.text,.int .i64 t.num,.int .i64 t.place,kv].toArray 25)).alloc (.cells [.pointer none,.slice none 0 0,.int .i64 0].toArray 76)):=((Below.refl _ _).alloc (Nat.le_refl _) _).alloc (by simp) _
  exact ⟨_,rfl,zh ⟨.inl ⟨by omega,.slice none 0 0,Blk.zCe w _ _ _,World.ownsRow_nil _ _ _ _,fun _=>rfl⟩,hb,hp.step hb,HK.out.below hb,(Blk.new w (zaa t kv) 25).alloc _⟩⟩
 have n0:W1.cell? ⟨w.heap.size,0,none⟩=some (.int .i64 t.kind):=H1.out.2.2.2.2.cell 0
 have n1:W1.cell? ⟨w.heap.size,1,none⟩=some (.string t.text):=H1.out.2.2.2.2.cell 1
 have n2:W1.cell? ⟨w.heap.size,2,none⟩=some (.int .i64 t.num):=H1.out.2.2.2.2.cell 2
 have n3:W1.cell? ⟨w.heap.size,3,none⟩=some (.int .i64 t.place):=H1.out.2.2.2.2.cell 3
 have n4:W1.cell? ⟨w.heap.size,4,none⟩=some kv:=H1.out.2.2.2.2.cell 4
 clear hk hw hs hp
 go_enter Tryz.func9,Tryz.ntmps9
 go_wp2_with fail
 refine (zUm t.size t w.heap.size (w.heap.size+1) [] 0 kv W1 (Nat.le_refl _) H1.out.1 H1.out.2.2.1 H1.out.2.2.2.1 HW.out HS.out hz (by have:=HBD.out;simp;omega)).mono ?_
 rintro e w2 ⟨rfl,h2,hb2,ho2⟩
 have H2:=zh h2
 have HB2:=zh (H1.out.2.1.trans hb2)
 clear h2 hb2 ho2
 go_wp2_with fail
 refine (zEn H2.out).mono ?_
 rintro e w3 ⟨rfl,hb3⟩
 have HB3:=zh (HB2.out.trans hb3)
 clear hb3
 go_wp2_with fail
 go_ret
 exact ⟨rfl,HB3.out⟩
end Go.Proofs.YtbfgdpcgdmabpaaGreatDoor
namespace Go.Proofs.YtbfgdpcgdmabpaaGreatDoor
set_option maxRecDepth 100000
set_option maxHeartbeats 1000000
open Go.RowKit
def zRk (p:Nat × Nat) (c:UInt8):Nat × Nat:=if c=10 then (p.1+1,1) else (p.1,p.2+1)
def lc (l:List UInt8):Nat × Nat:=l.foldl zRk (1,1)
theorem zOl (l:List UInt8) (c:UInt8):lc (l++[c])=zRk (lc l) c:=by unfold lc;rw [List.foldl_append];rfl
theorem zem {P:List UInt8→Prop} (h0:P []) (hs:∀ l c,P l→P (l++[c])):∀ (n:Nat) (l:List UInt8),l.length=n→P l
 | 0,l,h=>by rw [List.eq_nil_of_length_eq_zero h];exact h0
 | n+1,l,h=>by
  have hne:l≠[]:=by intro e;rw [e] at h;simp at h
  rw [← List.dropLast_concat_getLast hne]
  exact hs _ _ (zem h0 hs n _ (by rw [List.length_dropLast];omega))
theorem zOq (l:List UInt8):(lc l).1=Lib.countByte l 10+1:=by
 refine zem (P:=fun l=>(lc l).1=Lib.countByte l 10+1) rfl (fun l c ih=>?_) _ l rfl
 ·show (lc (l++[c])).1=Lib.countByte (l++[c]) 10+1
  rw [zOl]
  unfold zRk Lib.countByte at *
  rw [List.count_append]
  split
  ·rename_i h;subst h;simp only [ih];simp
  ·rename_i h
   simp only [ih]
   rw [List.count_cons_of_ne h]
   simp
theorem lc_le (l:List UInt8):(lc l).1≤l.length+1∧(lc l).2≤l.length+1:=by
 refine zem (P:=fun l=>(lc l).1≤l.length+1∧(lc l).2≤l.length+1) ⟨Nat.le_refl _,Nat.le_refl _⟩ (fun l c ih=>?_) _ l rfl
 ·show (lc (l++[c])).1≤(l++[c]).length+1∧(lc (l++[c])).2≤(l++[c]).length+1
  rw [zOl,List.length_append]
  unfold zRk
  split<;>simp only [List.length_cons,List.length_nil]<;>omega
theorem zIp (t:ByteArray):∀ k,k≤t.size→((lc (t.data.toList.take k)).2:Int)=k-Lib.lastIdx t 10 k
 | 0,_=>rfl
 | k+1,h=>by
  have hlt:k<t.data.toList.length:=by simp;omega
  have ih:=zIp t k (by omega)
  have hb:t.data[k]! = t.data.toList[k]:=by
   rw [getElem!_pos t.data k (by simpa using hlt)]
   simp
  rw [List.take_succ_eq_append_getElem hlt,zOl]
  unfold zRk
  by_cases hc:t.data.toList[k]=10
  ·rw [if_pos hc,Lib.lastIdx_hit t 10 k (by rw [hb,hc];rfl)]
   show ((1:Nat):Int)=_
   omega
  ·rw [if_neg hc,Lib.lastIdx_miss t 10 k (by rw [hb];intro e;exact hc (by
                                        have:(t.data.toList[k]).toNat=10:=by omega
                                        exact UInt8.toNat_inj.1 this))]
   show ((((lc (t.data.toList.take k)).2+1:Nat)):Int)=_
   omega
def zjj (s:ByteArray) (k:Nat):Nat × Nat:=lc (s.data.toList.take k)
theorem zwm (s:ByteArray) (k:Nat) (_:k≤s.size):(s.extract 0 k).data.toList=s.data.toList.take k:=by
 rw [ByteArray.data_extract]
 simp
theorem zIn (s:ByteArray) (k:Nat) (h:k≤s.size):((Lib.countByte (s.extract 0 k).data.toList 10:Nat):Int)+1=((zjj s k).1:Int)∧(k:Int)-Lib.lastIndexByte (s.extract 0 k) 10=((zjj s k).2:Int):=by
 have hz:(s.extract 0 k).size=k:=by simp;omega
 refine ⟨by rw [zwm s k h];have:=zOq (s.data.toList.take k);unfold zjj;omega,?_⟩
 have h2:=zIp (s.extract 0 k) k (by omega)
 rw [zwm s k h,List.take_take,Nat.min_self] at h2
 unfold zjj
 rw [h2]
 unfold Lib.lastIndexByte
 rw [hz]
def zqn (s:ByteArray) (at':Int):Int × Int:=if at'<0∨(s.size:Int)<at' then (0,0) else ((((zjj s at'.toNat).1:Nat):Int),(((zjj s at'.toNat).2:Nat):Int))
theorem zXm {s:ByteArray} {a:Int} (h:a<0∨(s.size:Int)<a):zqn s a=(0,0):=if_pos h
theorem zgo {s:ByteArray} {k:Nat} (h:k≤s.size):zqn s (k:Int)=((((zjj s k).1:Nat):Int),(((zjj s k).2:Nat):Int)):=by
 unfold zqn
 rw [if_neg (by omega)]
 rfl
theorem zrr (s:ByteArray) (a:Int) (w:World) (hs:s.size≤140737488351232) :
  Calls Tryz.prog 21 #[.string s,.int .i64 a] w fun e w'=>e=.returned (.tuple #[.int .i64 (zqn s a).1,.int .i64 (zqn s a).2])∧Below w.heap.size w w':=by
 by_cases h1:a<0
 ·have HA:=zh (zXm (s:=s) (.inl h1))
  rw [HA.out]
  go_enter Tryz.func21,Tryz.ntmps21
  go_wp2_with fail
  go_ret2
  exact ⟨rfl,Below.refl _ _⟩
 by_cases h2:(s.size:Int)<a
 ·have HA:=zh (zXm (s:=s) (.inr h2))
  rw [HA.out]
  go_enter Tryz.func21,Tryz.ntmps21
  go_wp2_with fail
  go_ret2
  exact ⟨rfl,Below.refl _ _⟩
 obtain ⟨k,rfl⟩:∃ k:Nat,a=(k:Int):=⟨a.toNat,by omega⟩
 have hk:k≤s.size:=by omega
 obtain ⟨h3,h4⟩:=zIn s k hk
 obtain ⟨h5,h6⟩:=lc_le (s.data.toList.take k)
 have hl:(s.data.toList.take k).length≤s.size:=by simp;omega
 have HA:=zh (zgo hk)
 rw [HA.out]
 have HZ:=zh (show (s.extract 0 k).size<4611686018427387904 from by simp;omega)
 obtain ⟨c,hc⟩:∃ c:Nat,Lib.countByte (s.extract 0 k).data.toList 10=c:=⟨_,rfl⟩
 obtain ⟨i,hi⟩:∃ i:Int,Lib.lastIndexByte (s.extract 0 k) 10=i:=⟨_,rfl⟩
 rw [hc] at h3
 rw [hi] at h4
 have HC:=zh hc
 have HI:=zh hi
 have H3:=zh h3
 have H4:=zh h4
 have hw3:IntKind.i64.wrap ((c:Int)+1)=(c:Int)+1:=IntWalk.i64_in _ (by unfold zjj at h3;omega)
 have hw4:IntKind.i64.wrap ((k:Int)-i)=(k:Int)-i:=IntWalk.i64_in _ (by unfold zjj at h4;omega)
 clear h3 h4 h5 h6 hl hc hi
 go_enter Tryz.func21,Tryz.ntmps21
 go_wp2_with fail
 refine (Tryz.strings_Count_one _ 10 w).mono ?_
 rintro e w1 ⟨rfl,rfl⟩
 rw [HC.out]
 go_wp2_with fail
 refine (Tryz.strings_LastIndexByte _ 10 HZ.out _).mono ?_
 rintro e w2 ⟨rfl,rfl⟩
 rw [HI.out]
 go_wp2_with fail
 go_ret2
 exact ⟨by rw [← H3.out,← H4.out];rfl,Below.refl _ _⟩
end Go.Proofs.YtbfgdpcgdmabpaaGreatDoor
namespace Go.Proofs.YtbfgdpcgdmabpaaGreatDoor
set_option maxRecDepth 100000
set_option maxHeartbeats 2000000
open Go.RowKit
def s03:ByteArray:=⟨#[102,110,32,102,40,41,123,120,61,45,49,59,125]⟩
def l03:ByteArray:=⟨#[97,10,98,99]⟩
theorem zBp:(zvb s03).2=(0,0):=by kernel_rfl
theorem zEr:(⟨(shw 0 (zvb s03).1).toArray⟩:ByteArray)=⟨#[102,110,32,102,40,41,32,123,10,32,32,32,32,120,32,61,32,45,49,59,10,125,10]⟩:=by kernel_rfl
theorem zNq:(zvb s03).1.size=6:=by kernel_rfl
theorem zCs:zqn l03 3=(2,2):=by kernel_rfl
theorem zPp:∃ t,zvb s03=(t,0,0)∧t.whole∧t.small∧t.size≤5000∧(⟨(shw 0 t).toArray⟩:ByteArray)=⟨#[102,110,32,102,40,41,32,123,10,32,32,32,32,120,32,61,32,45,49,59,10,125,10]⟩ :=
 ⟨(zvb s03).1,Prod.ext rfl zBp,(zDe s03).2,zJe s03,by rw [zNq];decide,zEr⟩
theorem zef (w:World) (ht:Tabs w) (hp:Pow w) :
  Calls Tryz.prog 8 #[] w fun e w'=>e=.returned (.bool true)∧Below w.heap.size w w':=by
 obtain ⟨t,h0,hw,hs,hz,hsh⟩:=zPp
 have HW:=zh hw
 have HS:=zh hs
 have HZ:=zh hz
 have HSH:=zh hsh
 have HP:=zh hp
 have H0:=zh h0
 clear hw hs hz hsh hp h0
 go_enter Tryz.func8,Tryz.ntmps8
 go_wp2_with fail
 refine (parse_any s03 w (by unfold maxLen;decide) ht).mono ?_
 rw [H0.out]
 rintro e w1 ⟨kv,rfl,hk,hb⟩
 obtain ⟨W1,hW1,H1⟩:∃ W,w1.alloc (.cells [.int .i64 t.kind,.string t.text,.int .i64 t.num,.int .i64 t.place,kv].toArray 25)=W∧Hid (W.heap.size=w1.heap.size+1∧Below w.heap.size w W∧Pow W∧KAt 25 W t.kids (fun b=>b<w1.heap.size) kv∧Blk W w1.heap.size (zaa t kv) 25) :=
  ⟨_,rfl,zh ⟨by simp,hb.alloc hb.size _,⟨Nat.lt_of_lt_of_le HP.out.1 (hb.alloc hb.size _).size,(HP.out.step (hb.alloc hb.size _)).2⟩,(hk.keep fun b _ hl=>⟨hl,rfl⟩:KAt 25 w1 t.kids (fun b=>b<w1.heap.size) kv).alloc _,Blk.new w1 _ _⟩⟩
 have HO:=zh hk.one
 clear hk hb ht
 unfold zmb
 go_wp2_with ((with_reducible refine zlb 25 (.tmp 1) ?_);refine zcb rfl 25 (.tmp 1) (.tmp 8) rfl [.int .i64 t.kind,.string t.text,.int .i64 t.num,.int .i64 t.place,kv] (old:=zga) rfl rfl Tryz.zla rfl (zoa t _ HO.out) ?_)
 refine (zrr l03 3 _ (by decide)).mono ?_
 rw [zCs]
 rintro e w2 ⟨rfl,hb2⟩
 have H2:=zh (show Below w.heap.size w w2∧Pow w2∧KAt 25 w2 t.kids (fun b=>b<w1.heap.size) kv∧Blk w2 w1.heap.size (zaa t kv) 25 from by
  exact ⟨H1.out.2.1.trans (hb2.mono H1.out.2.1.size),⟨Nat.lt_of_lt_of_le H1.out.2.2.1.1 hb2.size,(H1.out.2.2.1.step hb2).2⟩,H1.out.2.2.2.1.below hb2,H1.out.2.2.2.2.below hb2⟩)
 have n0:w2.cell? ⟨w1.heap.size,0,none⟩=some (.int .i64 t.kind):=H2.out.2.2.2.cell 0
 have n1:w2.cell? ⟨w1.heap.size,1,none⟩=some (.string t.text):=H2.out.2.2.2.cell 1
 have n2:w2.cell? ⟨w1.heap.size,2,none⟩=some (.int .i64 t.num):=H2.out.2.2.2.cell 2
 have n3:w2.cell? ⟨w1.heap.size,3,none⟩=some (.int .i64 t.place):=H2.out.2.2.2.cell 3
 have n4:w2.cell? ⟨w1.heap.size,4,none⟩=some kv:=H2.out.2.2.2.cell 4
 clear hb2
 go_wp2_with fail
 refine (zGg H2.out.2.2.1 H2.out.2.1 HW.out HS.out HZ.out).mono ?_
 rw [HSH.out]
 rintro e w3 ⟨rfl,hb3⟩
 have HB3:=zh (H2.out.1.trans (hb3.mono H2.out.1.size))
 clear hb3
 go_wp2_with fail
 go_ret
 exact ⟨rfl,HB3.out⟩
end Go.Proofs.YtbfgdpcgdmabpaaGreatDoor
