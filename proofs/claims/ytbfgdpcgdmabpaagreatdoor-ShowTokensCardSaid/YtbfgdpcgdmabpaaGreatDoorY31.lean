/- The contract of show.show on a node, by kind, given that it is known for smaller trees. -/
import Derived.Test.YtbfgdpcgdmabpaaGreatDoorY18
import Derived.Test.YtbfgdpcgdmabpaaGreatDoorY22
import Derived.Test.YtbfgdpcgdmabpaaGreatDoorY23
import Derived.Test.YtbfgdpcgdmabpaaGreatDoorY24
import Derived.Test.YtbfgdpcgdmabpaaGreatDoorY30
namespace Go.Proofs.YtbfgdpcgdmabpaaGreatDoor
set_option maxRecDepth 100000
set_option maxHeartbeats 2000000
open Go.RowKit
theorem zev {n:Nat} (ih:zlc n) {s:ByteArray} {nm:Int} {p:Nat} {ks:List T} {B g:Nat} {l:List UInt8} {d:Nat} {kv:Value} {w:World} (hz:(T.mk 9 s nm p ks).size≤n+1) (hst:ztd B g l d w) (hpt:zZe B w) (hk:KAt 25 w ks (fun b=>b<B) kv) (hw:(T.mk 9 s nm p ks).whole) (hs:(T.mk 9 s nm p ks).small) (h5:(T.mk 9 s nm p ks).size≤5000) (hl:l.length+(shw d (T.mk 9 s nm p ks)).length≤140737488355328) :
  Calls Tryz.prog 22 #[.pointer (some ⟨g,0,none⟩),.agg #[.int .i64 9,.string s,.int .i64 nm,.int .i64 p,kv]] w (zMa B g (l++shw d (T.mk 9 s nm p ks)) d w):=by
 have hX:shw d (T.mk 9 s nm p ks)=zid d (zpb (d+1) ks):=by rw [zZa,if_pos rfl]
 rw [hX] at hl ⊢
 have HFT:=zh (zjb.1 hw).1
 have HZ:=zh (show ks.length≤5000 from by rw [size_mk] at h5;have:=zdb ks;omega)
 have HNB:=zh (zob.1 hs).1.2
 have HKD:=zh (zxc ih hz h5 hw hs B g w.heap.size (w.heap.size+1) kv)
 have HL:=zh hl
 have hB:B≤w.heap.size:=by have:=hst.lt;have:=hst.ge;omega
 obtain ⟨W1,hW1,HN⟩:∃ W,(w.alloc (.cells [.pointer (some ⟨g,0,none⟩)].toArray 70)).alloc (.cells [.int .i64 9,.string s,.int .i64 nm,.int .i64 p,kv].toArray 25)=W∧Hid (Wn B g w.heap.size (w.heap.size+1) (T.mk 9 s nm p ks) kv l d W∧Below B w W∧Oth g w W) :=
  ⟨_,rfl,zh ⟨⟨(hst.alloc _).alloc _,(Blk.new w _ _).alloc _,Blk.zCe w _ _ _,(hk.alloc _).alloc _,hpt.step (((Below.refl B w).alloc hB _).alloc (by simp;omega) _)⟩,((Below.refl B w).alloc hB _).alloc (by simp;omega) _,((Oth.refl g w).alloc _).alloc _⟩⟩
 have b0:W1.cell? ⟨w.heap.size,0,none⟩=some (.pointer (some ⟨g,0,none⟩)):=HN.out.1.p.cell 0
 have n0:W1.cell? ⟨w.heap.size+1,0,none⟩=some (.int .i64 9):=HN.out.1.n.cell 0
 have n1:W1.cell? ⟨w.heap.size+1,1,none⟩=some (.string s):=HN.out.1.n.cell 1
 have n2:W1.cell? ⟨w.heap.size+1,2,none⟩=some (.int .i64 nm):=HN.out.1.n.cell 2
 have n3:W1.cell? ⟨w.heap.size+1,3,none⟩=some (.int .i64 p):=HN.out.1.n.cell 3
 have n4:W1.cell? ⟨w.heap.size+1,4,none⟩=some kv:=HN.out.1.n.cell 4
 clear hX hl hst hpt hk hw hs ih hz h5 hB
 go_enter Tryz.func22,Tryz.ntmps22
 go_wp2_with fail
 refine (isw_9 (show KAt 25 W1 ks (fun b=>b<B) kv from HN.out.1.k) HFT.out (by have:=HZ.out;omega)).mono ?_
 rintro e w2 ⟨rfl,hb⟩
 have HN2:=zh (HN.out.1.step (HN.out.1.st.below hb) (hb.mono HN.out.1.bz) (Oth.of_below hb))
 have HB2:=zh (HN.out.2.1.trans (hb.mono HN.out.1.bz))
 have HO2:=zh (HN.out.2.2.trans (Oth.of_below hb))
 have b0':w2.cell? ⟨w.heap.size,0,none⟩=some (.pointer (some ⟨g,0,none⟩)):=HN2.out.p.cell 0
 have n0':w2.cell? ⟨w.heap.size+1,0,none⟩=some (.int .i64 9):=HN2.out.n.cell 0
 have n1':w2.cell? ⟨w.heap.size+1,1,none⟩=some (.string s):=HN2.out.n.cell 1
 have n2':w2.cell? ⟨w.heap.size+1,2,none⟩=some (.int .i64 nm):=HN2.out.n.cell 2
 have n3':w2.cell? ⟨w.heap.size+1,3,none⟩=some (.int .i64 p):=HN2.out.n.cell 3
 have n4':w2.cell? ⟨w.heap.size+1,4,none⟩=some kv:=HN2.out.n.cell 4
 clear hb
 go_wp2_with fail
 refine (zpt HN2.out HKD.out (by have:=HZ.out;omega) HL.out).mono ?_
 rintro e w3 ⟨rfl,h3,hb3,ho3⟩
 have HP:=zh (show zMa B g (l++(zid d (zpb (d+1) ks))) d w (.returned (.tuple #[])) w3 from ⟨rfl,h3,HB2.out.trans hb3,HO2.out.trans ho3⟩)
 clear h3 hb3 ho3
 go_wp2_with fail
 go_end0
 exact HP.out
theorem zbu {n:Nat} (ih:zlc n) {s:ByteArray} {nm:Int} {p:Nat} {a:T} {B g:Nat} {l:List UInt8} {d:Nat} {kv:Value} {w:World} (hz:(T.mk 10 s nm p [a]).size≤n+1) (hst:ztd B g l d w) (hpt:zZe B w) (hk:KAt 25 w [a] (fun b=>b<B) kv) (hw:(T.mk 10 s nm p [a]).whole) (hs:(T.mk 10 s nm p [a]).small) (h5:(T.mk 10 s nm p [a]).size≤5000) (hl:l.length+(shw d (T.mk 10 s nm p [a])).length≤140737488355328) :
  Calls Tryz.prog 22 #[.pointer (some ⟨g,0,none⟩),.agg #[.int .i64 10,.string s,.int .i64 nm,.int .i64 p,kv]] w (zMa B g (l++shw d (T.mk 10 s nm p [a])) d w):=by
 have hX:shw d (T.mk 10 s nm p [a])=(tb s++([32,61,32]++shw d a))++[59]:=by rw [zZa,if_neg (by omega),zPa,zib];first|rfl|(simp [zXa];done)|(simp [zXa,zOb];done)
 rw [hX] at hl ⊢
 have HFT:=zh (zjb.1 hw).1
 have HZ:=zh (show [a].length≤5000 from by rw [size_mk] at h5;have:=zdb [a];omega)
 have HNB:=zh (zob.1 hs).1.2
 have HKD:=zh (zxc ih hz h5 hw hs B g w.heap.size (w.heap.size+1) kv)
 have HL:=zh hl
 have hB:B≤w.heap.size:=by have:=hst.lt;have:=hst.ge;omega
 obtain ⟨W1,hW1,HN⟩:∃ W,(w.alloc (.cells [.pointer (some ⟨g,0,none⟩)].toArray 70)).alloc (.cells [.int .i64 10,.string s,.int .i64 nm,.int .i64 p,kv].toArray 25)=W∧Hid (Wn B g w.heap.size (w.heap.size+1) (T.mk 10 s nm p [a]) kv l d W∧Below B w W∧Oth g w W) :=
  ⟨_,rfl,zh ⟨⟨(hst.alloc _).alloc _,(Blk.new w _ _).alloc _,Blk.zCe w _ _ _,(hk.alloc _).alloc _,hpt.step (((Below.refl B w).alloc hB _).alloc (by simp;omega) _)⟩,((Below.refl B w).alloc hB _).alloc (by simp;omega) _,((Oth.refl g w).alloc _).alloc _⟩⟩
 have b0:W1.cell? ⟨w.heap.size,0,none⟩=some (.pointer (some ⟨g,0,none⟩)):=HN.out.1.p.cell 0
 have n0:W1.cell? ⟨w.heap.size+1,0,none⟩=some (.int .i64 10):=HN.out.1.n.cell 0
 have n1:W1.cell? ⟨w.heap.size+1,1,none⟩=some (.string s):=HN.out.1.n.cell 1
 have n2:W1.cell? ⟨w.heap.size+1,2,none⟩=some (.int .i64 nm):=HN.out.1.n.cell 2
 have n3:W1.cell? ⟨w.heap.size+1,3,none⟩=some (.int .i64 p):=HN.out.1.n.cell 3
 have n4:W1.cell? ⟨w.heap.size+1,4,none⟩=some kv:=HN.out.1.n.cell 4
 clear hX hl hst hpt hk hw hs ih hz h5 hB
 go_enter Tryz.func22,Tryz.ntmps22
 go_wp2_with fail
 refine (zmv (show KAt 25 W1 [a] (fun b=>b<B) kv from HN.out.1.k) HFT.out (by have:=HZ.out;omega)).mono ?_
 rintro e w2 ⟨rfl,hb⟩
 have HN2:=zh (HN.out.1.step (HN.out.1.st.below hb) (hb.mono HN.out.1.bz) (Oth.of_below hb))
 have HB2:=zh (HN.out.2.1.trans (hb.mono HN.out.1.bz))
 have HO2:=zh (HN.out.2.2.trans (Oth.of_below hb))
 have b0':w2.cell? ⟨w.heap.size,0,none⟩=some (.pointer (some ⟨g,0,none⟩)):=HN2.out.p.cell 0
 have n0':w2.cell? ⟨w.heap.size+1,0,none⟩=some (.int .i64 10):=HN2.out.n.cell 0
 have n1':w2.cell? ⟨w.heap.size+1,1,none⟩=some (.string s):=HN2.out.n.cell 1
 have n2':w2.cell? ⟨w.heap.size+1,2,none⟩=some (.int .i64 nm):=HN2.out.n.cell 2
 have n3':w2.cell? ⟨w.heap.size+1,3,none⟩=some (.int .i64 p):=HN2.out.n.cell 3
 have n4':w2.cell? ⟨w.heap.size+1,4,none⟩=some kv:=HN2.out.n.cell 4
 clear hb
 go_wp2_with fail
 refine (zar HN2.out HKD.out rfl HL.out).mono ?_
 rintro e w3 ⟨rfl,h3,hb3,ho3⟩
 have HP:=zh (show zMa B g (l++((tb s++([32,61,32]++shw d a))++[59])) d w (.returned (.tuple #[])) w3 from ⟨rfl,h3,HB2.out.trans hb3,HO2.out.trans ho3⟩)
 clear h3 hb3 ho3
 go_wp2_with fail
 go_end0
 exact HP.out
theorem zOs {n:Nat} (ih:zlc n) {s:ByteArray} {nm:Int} {p:Nat} {a b:T} {B g:Nat} {l:List UInt8} {d:Nat} {kv:Value} {w:World} (hz:(T.mk 11 s nm p [a,b]).size≤n+1) (hst:ztd B g l d w) (hpt:zZe B w) (hk:KAt 25 w [a,b] (fun b=>b<B) kv) (hw:(T.mk 11 s nm p [a,b]).whole) (hs:(T.mk 11 s nm p [a,b]).small) (h5:(T.mk 11 s nm p [a,b]).size≤5000) (hl:l.length+(shw d (T.mk 11 s nm p [a,b])).length≤140737488355328) :
  Calls Tryz.prog 22 #[.pointer (some ⟨g,0,none⟩),.agg #[.int .i64 11,.string s,.int .i64 nm,.int .i64 p,kv]] w (zMa B g (l++shw d (T.mk 11 s nm p [a,b])) d w):=by
 have hX:shw d (T.mk 11 s nm p [a,b])=(tb s++([91]++(shw d a++([93,32,61,32]++shw d b))))++[59]:=by rw [zZa,if_neg (by omega),zPa,zPa,zib];first|rfl|(simp [zXa];done)|(simp [zXa,zOb];done)
 rw [hX] at hl ⊢
 have HFT:=zh (zjb.1 hw).1
 have HZ:=zh (show [a,b].length≤5000 from by rw [size_mk] at h5;have:=zdb [a,b];omega)
 have HNB:=zh (zob.1 hs).1.2
 have HKD:=zh (zxc ih hz h5 hw hs B g w.heap.size (w.heap.size+1) kv)
 have HL:=zh hl
 have hB:B≤w.heap.size:=by have:=hst.lt;have:=hst.ge;omega
 obtain ⟨W1,hW1,HN⟩:∃ W,(w.alloc (.cells [.pointer (some ⟨g,0,none⟩)].toArray 70)).alloc (.cells [.int .i64 11,.string s,.int .i64 nm,.int .i64 p,kv].toArray 25)=W∧Hid (Wn B g w.heap.size (w.heap.size+1) (T.mk 11 s nm p [a,b]) kv l d W∧Below B w W∧Oth g w W) :=
  ⟨_,rfl,zh ⟨⟨(hst.alloc _).alloc _,(Blk.new w _ _).alloc _,Blk.zCe w _ _ _,(hk.alloc _).alloc _,hpt.step (((Below.refl B w).alloc hB _).alloc (by simp;omega) _)⟩,((Below.refl B w).alloc hB _).alloc (by simp;omega) _,((Oth.refl g w).alloc _).alloc _⟩⟩
 have b0:W1.cell? ⟨w.heap.size,0,none⟩=some (.pointer (some ⟨g,0,none⟩)):=HN.out.1.p.cell 0
 have n0:W1.cell? ⟨w.heap.size+1,0,none⟩=some (.int .i64 11):=HN.out.1.n.cell 0
 have n1:W1.cell? ⟨w.heap.size+1,1,none⟩=some (.string s):=HN.out.1.n.cell 1
 have n2:W1.cell? ⟨w.heap.size+1,2,none⟩=some (.int .i64 nm):=HN.out.1.n.cell 2
 have n3:W1.cell? ⟨w.heap.size+1,3,none⟩=some (.int .i64 p):=HN.out.1.n.cell 3
 have n4:W1.cell? ⟨w.heap.size+1,4,none⟩=some kv:=HN.out.1.n.cell 4
 clear hX hl hst hpt hk hw hs ih hz h5 hB
 go_enter Tryz.func22,Tryz.ntmps22
 go_wp2_with fail
 refine (zvv (show KAt 25 W1 [a,b] (fun b=>b<B) kv from HN.out.1.k) HFT.out (by have:=HZ.out;omega)).mono ?_
 rintro e w2 ⟨rfl,hb⟩
 have HN2:=zh (HN.out.1.step (HN.out.1.st.below hb) (hb.mono HN.out.1.bz) (Oth.of_below hb))
 have HB2:=zh (HN.out.2.1.trans (hb.mono HN.out.1.bz))
 have HO2:=zh (HN.out.2.2.trans (Oth.of_below hb))
 have b0':w2.cell? ⟨w.heap.size,0,none⟩=some (.pointer (some ⟨g,0,none⟩)):=HN2.out.p.cell 0
 have n0':w2.cell? ⟨w.heap.size+1,0,none⟩=some (.int .i64 11):=HN2.out.n.cell 0
 have n1':w2.cell? ⟨w.heap.size+1,1,none⟩=some (.string s):=HN2.out.n.cell 1
 have n2':w2.cell? ⟨w.heap.size+1,2,none⟩=some (.int .i64 nm):=HN2.out.n.cell 2
 have n3':w2.cell? ⟨w.heap.size+1,3,none⟩=some (.int .i64 p):=HN2.out.n.cell 3
 have n4':w2.cell? ⟨w.heap.size+1,4,none⟩=some kv:=HN2.out.n.cell 4
 clear hb
 go_wp2_with fail
 refine (zQq HN2.out HKD.out rfl rfl HL.out).mono ?_
 rintro e w3 ⟨rfl,h3,hb3,ho3⟩
 have HP:=zh (show zMa B g (l++((tb s++([91]++(shw d a++([93,32,61,32]++shw d b))))++[59])) d w (.returned (.tuple #[])) w3 from ⟨rfl,h3,HB2.out.trans hb3,HO2.out.trans ho3⟩)
 clear h3 hb3 ho3
 go_wp2_with fail
 go_end0
 exact HP.out
theorem ziu {n:Nat} (ih:zlc n) {s:ByteArray} {nm:Int} {p:Nat} {ks:List T} {B g:Nat} {l:List UInt8} {d:Nat} {kv:Value} {w:World} (hz:(T.mk 12 s nm p ks).size≤n+1) (hst:ztd B g l d w) (hpt:zZe B w) (hk:KAt 25 w ks (fun b=>b<B) kv) (hw:(T.mk 12 s nm p ks).whole) (hs:(T.mk 12 s nm p ks).small) (h5:(T.mk 12 s nm p ks).size≤5000) (hl:l.length+(shw d (T.mk 12 s nm p ks)).length≤140737488355328) :
  Calls Tryz.prog 22 #[.pointer (some ⟨g,0,none⟩),.agg #[.int .i64 12,.string s,.int .i64 nm,.int .i64 p,kv]] w (zMa B g (l++shw d (T.mk 12 s nm p ks)) d w):=by
 have hX:shw d (T.mk 12 s nm p ks)=([102,114,101,101,32]++tb s)++[59]:=by rw [zZa,if_neg (by omega)];first|rfl|(simp [zXa];done)|(simp [zXa,zOb];done)
 rw [hX] at hl ⊢
 have HFT:=zh (zjb.1 hw).1
 have HZ:=zh (show ks.length≤5000 from by rw [size_mk] at h5;have:=zdb ks;omega)
 have HNB:=zh (zob.1 hs).1.2
 have HKD:=zh (zxc ih hz h5 hw hs B g w.heap.size (w.heap.size+1) kv)
 have HL:=zh hl
 have hB:B≤w.heap.size:=by have:=hst.lt;have:=hst.ge;omega
 obtain ⟨W1,hW1,HN⟩:∃ W,(w.alloc (.cells [.pointer (some ⟨g,0,none⟩)].toArray 70)).alloc (.cells [.int .i64 12,.string s,.int .i64 nm,.int .i64 p,kv].toArray 25)=W∧Hid (Wn B g w.heap.size (w.heap.size+1) (T.mk 12 s nm p ks) kv l d W∧Below B w W∧Oth g w W) :=
  ⟨_,rfl,zh ⟨⟨(hst.alloc _).alloc _,(Blk.new w _ _).alloc _,Blk.zCe w _ _ _,(hk.alloc _).alloc _,hpt.step (((Below.refl B w).alloc hB _).alloc (by simp;omega) _)⟩,((Below.refl B w).alloc hB _).alloc (by simp;omega) _,((Oth.refl g w).alloc _).alloc _⟩⟩
 have b0:W1.cell? ⟨w.heap.size,0,none⟩=some (.pointer (some ⟨g,0,none⟩)):=HN.out.1.p.cell 0
 have n0:W1.cell? ⟨w.heap.size+1,0,none⟩=some (.int .i64 12):=HN.out.1.n.cell 0
 have n1:W1.cell? ⟨w.heap.size+1,1,none⟩=some (.string s):=HN.out.1.n.cell 1
 have n2:W1.cell? ⟨w.heap.size+1,2,none⟩=some (.int .i64 nm):=HN.out.1.n.cell 2
 have n3:W1.cell? ⟨w.heap.size+1,3,none⟩=some (.int .i64 p):=HN.out.1.n.cell 3
 have n4:W1.cell? ⟨w.heap.size+1,4,none⟩=some kv:=HN.out.1.n.cell 4
 clear hX hl hst hpt hk hw hs ih hz h5 hB
 go_enter Tryz.func22,Tryz.ntmps22
 go_wp2_with fail
 refine (zKu (show KAt 25 W1 ks (fun b=>b<B) kv from HN.out.1.k) HFT.out (by have:=HZ.out;omega)).mono ?_
 rintro e w2 ⟨rfl,hb⟩
 have HN2:=zh (HN.out.1.step (HN.out.1.st.below hb) (hb.mono HN.out.1.bz) (Oth.of_below hb))
 have HB2:=zh (HN.out.2.1.trans (hb.mono HN.out.1.bz))
 have HO2:=zh (HN.out.2.2.trans (Oth.of_below hb))
 have b0':w2.cell? ⟨w.heap.size,0,none⟩=some (.pointer (some ⟨g,0,none⟩)):=HN2.out.p.cell 0
 have n0':w2.cell? ⟨w.heap.size+1,0,none⟩=some (.int .i64 12):=HN2.out.n.cell 0
 have n1':w2.cell? ⟨w.heap.size+1,1,none⟩=some (.string s):=HN2.out.n.cell 1
 have n2':w2.cell? ⟨w.heap.size+1,2,none⟩=some (.int .i64 nm):=HN2.out.n.cell 2
 have n3':w2.cell? ⟨w.heap.size+1,3,none⟩=some (.int .i64 p):=HN2.out.n.cell 3
 have n4':w2.cell? ⟨w.heap.size+1,4,none⟩=some kv:=HN2.out.n.cell 4
 clear hb
 go_wp2_with fail
 refine (zer HN2.out HKD.out  HL.out).mono ?_
 rintro e w3 ⟨rfl,h3,hb3,ho3⟩
 have HP:=zh (show zMa B g (l++(([102,114,101,101,32]++tb s)++[59])) d w (.returned (.tuple #[])) w3 from ⟨rfl,h3,HB2.out.trans hb3,HO2.out.trans ho3⟩)
 clear h3 hb3 ho3
 go_wp2_with fail
 go_end0
 exact HP.out
theorem zOt {n:Nat} (ih:zlc n) {s:ByteArray} {nm:Int} {p:Nat} {ks:List T} {B g:Nat} {l:List UInt8} {d:Nat} {kv:Value} {w:World} (hz:(T.mk 13 s nm p ks).size≤n+1) (hst:ztd B g l d w) (hpt:zZe B w) (hk:KAt 25 w ks (fun b=>b<B) kv) (hw:(T.mk 13 s nm p ks).whole) (hs:(T.mk 13 s nm p ks).small) (h5:(T.mk 13 s nm p ks).size≤5000) (hl:l.length+(shw d (T.mk 13 s nm p ks)).length≤140737488355328) :
  Calls Tryz.prog 22 #[.pointer (some ⟨g,0,none⟩),.agg #[.int .i64 13,.string s,.int .i64 nm,.int .i64 p,kv]] w (zMa B g (l++shw d (T.mk 13 s nm p ks)) d w):=by
 have hX:shw d (T.mk 13 s nm p ks)=([108,111,99,107,32]++(tb s++([91]++(dec nm++[93]))))++[59]:=by rw [zZa,if_neg (by omega)];first|rfl|(simp [zXa];done)|(simp [zXa,zOb];done)
 rw [hX] at hl ⊢
 have HFT:=zh (zjb.1 hw).1
 have HZ:=zh (show ks.length≤5000 from by rw [size_mk] at h5;have:=zdb ks;omega)
 have HNB:=zh (zob.1 hs).1.2
 have HKD:=zh (zxc ih hz h5 hw hs B g w.heap.size (w.heap.size+1) kv)
 have HL:=zh hl
 have hB:B≤w.heap.size:=by have:=hst.lt;have:=hst.ge;omega
 obtain ⟨W1,hW1,HN⟩:∃ W,(w.alloc (.cells [.pointer (some ⟨g,0,none⟩)].toArray 70)).alloc (.cells [.int .i64 13,.string s,.int .i64 nm,.int .i64 p,kv].toArray 25)=W∧Hid (Wn B g w.heap.size (w.heap.size+1) (T.mk 13 s nm p ks) kv l d W∧Below B w W∧Oth g w W) :=
  ⟨_,rfl,zh ⟨⟨(hst.alloc _).alloc _,(Blk.new w _ _).alloc _,Blk.zCe w _ _ _,(hk.alloc _).alloc _,hpt.step (((Below.refl B w).alloc hB _).alloc (by simp;omega) _)⟩,((Below.refl B w).alloc hB _).alloc (by simp;omega) _,((Oth.refl g w).alloc _).alloc _⟩⟩
 have b0:W1.cell? ⟨w.heap.size,0,none⟩=some (.pointer (some ⟨g,0,none⟩)):=HN.out.1.p.cell 0
 have n0:W1.cell? ⟨w.heap.size+1,0,none⟩=some (.int .i64 13):=HN.out.1.n.cell 0
 have n1:W1.cell? ⟨w.heap.size+1,1,none⟩=some (.string s):=HN.out.1.n.cell 1
 have n2:W1.cell? ⟨w.heap.size+1,2,none⟩=some (.int .i64 nm):=HN.out.1.n.cell 2
 have n3:W1.cell? ⟨w.heap.size+1,3,none⟩=some (.int .i64 p):=HN.out.1.n.cell 3
 have n4:W1.cell? ⟨w.heap.size+1,4,none⟩=some kv:=HN.out.1.n.cell 4
 clear hX hl hst hpt hk hw hs ih hz h5 hB
 go_enter Tryz.func22,Tryz.ntmps22
 go_wp2_with fail
 refine (zAv (show KAt 25 W1 ks (fun b=>b<B) kv from HN.out.1.k) HFT.out (by have:=HZ.out;omega)).mono ?_
 rintro e w2 ⟨rfl,hb⟩
 have HN2:=zh (HN.out.1.step (HN.out.1.st.below hb) (hb.mono HN.out.1.bz) (Oth.of_below hb))
 have HB2:=zh (HN.out.2.1.trans (hb.mono HN.out.1.bz))
 have HO2:=zh (HN.out.2.2.trans (Oth.of_below hb))
 have b0':w2.cell? ⟨w.heap.size,0,none⟩=some (.pointer (some ⟨g,0,none⟩)):=HN2.out.p.cell 0
 have n0':w2.cell? ⟨w.heap.size+1,0,none⟩=some (.int .i64 13):=HN2.out.n.cell 0
 have n1':w2.cell? ⟨w.heap.size+1,1,none⟩=some (.string s):=HN2.out.n.cell 1
 have n2':w2.cell? ⟨w.heap.size+1,2,none⟩=some (.int .i64 nm):=HN2.out.n.cell 2
 have n3':w2.cell? ⟨w.heap.size+1,3,none⟩=some (.int .i64 p):=HN2.out.n.cell 3
 have n4':w2.cell? ⟨w.heap.size+1,4,none⟩=some kv:=HN2.out.n.cell 4
 clear hb
 go_wp2_with fail
 refine (zGr HN2.out HKD.out HNB.out HL.out).mono ?_
 rintro e w3 ⟨rfl,h3,hb3,ho3⟩
 have HP:=zh (show zMa B g (l++(([108,111,99,107,32]++(tb s++([91]++(dec nm++[93]))))++[59])) d w (.returned (.tuple #[])) w3 from ⟨rfl,h3,HB2.out.trans hb3,HO2.out.trans ho3⟩)
 clear h3 hb3 ho3
 go_wp2_with fail
 go_end0
 exact HP.out
theorem znt {n:Nat} (ih:zlc n) {s:ByteArray} {nm:Int} {p:Nat} {ks:List T} {B g:Nat} {l:List UInt8} {d:Nat} {kv:Value} {w:World} (hz:(T.mk 14 s nm p ks).size≤n+1) (hst:ztd B g l d w) (hpt:zZe B w) (hk:KAt 25 w ks (fun b=>b<B) kv) (hw:(T.mk 14 s nm p ks).whole) (hs:(T.mk 14 s nm p ks).small) (h5:(T.mk 14 s nm p ks).size≤5000) (hl:l.length+(shw d (T.mk 14 s nm p ks)).length≤140737488355328) :
  Calls Tryz.prog 22 #[.pointer (some ⟨g,0,none⟩),.agg #[.int .i64 14,.string s,.int .i64 nm,.int .i64 p,kv]] w (zMa B g (l++shw d (T.mk 14 s nm p ks)) d w):=by
 have hX:shw d (T.mk 14 s nm p ks)=([117,110,108,111,99,107,32]++(tb s++([91]++(dec nm++[93]))))++[59]:=by rw [zZa,if_neg (by omega)];first|rfl|(simp [zXa];done)|(simp [zXa,zOb];done)
 rw [hX] at hl ⊢
 have HFT:=zh (zjb.1 hw).1
 have HZ:=zh (show ks.length≤5000 from by rw [size_mk] at h5;have:=zdb ks;omega)
 have HNB:=zh (zob.1 hs).1.2
 have HKD:=zh (zxc ih hz h5 hw hs B g w.heap.size (w.heap.size+1) kv)
 have HL:=zh hl
 have hB:B≤w.heap.size:=by have:=hst.lt;have:=hst.ge;omega
 obtain ⟨W1,hW1,HN⟩:∃ W,(w.alloc (.cells [.pointer (some ⟨g,0,none⟩)].toArray 70)).alloc (.cells [.int .i64 14,.string s,.int .i64 nm,.int .i64 p,kv].toArray 25)=W∧Hid (Wn B g w.heap.size (w.heap.size+1) (T.mk 14 s nm p ks) kv l d W∧Below B w W∧Oth g w W) :=
  ⟨_,rfl,zh ⟨⟨(hst.alloc _).alloc _,(Blk.new w _ _).alloc _,Blk.zCe w _ _ _,(hk.alloc _).alloc _,hpt.step (((Below.refl B w).alloc hB _).alloc (by simp;omega) _)⟩,((Below.refl B w).alloc hB _).alloc (by simp;omega) _,((Oth.refl g w).alloc _).alloc _⟩⟩
 have b0:W1.cell? ⟨w.heap.size,0,none⟩=some (.pointer (some ⟨g,0,none⟩)):=HN.out.1.p.cell 0
 have n0:W1.cell? ⟨w.heap.size+1,0,none⟩=some (.int .i64 14):=HN.out.1.n.cell 0
 have n1:W1.cell? ⟨w.heap.size+1,1,none⟩=some (.string s):=HN.out.1.n.cell 1
 have n2:W1.cell? ⟨w.heap.size+1,2,none⟩=some (.int .i64 nm):=HN.out.1.n.cell 2
 have n3:W1.cell? ⟨w.heap.size+1,3,none⟩=some (.int .i64 p):=HN.out.1.n.cell 3
 have n4:W1.cell? ⟨w.heap.size+1,4,none⟩=some kv:=HN.out.1.n.cell 4
 clear hX hl hst hpt hk hw hs ih hz h5 hB
 go_enter Tryz.func22,Tryz.ntmps22
 go_wp2_with fail
 refine (zJv (show KAt 25 W1 ks (fun b=>b<B) kv from HN.out.1.k) HFT.out (by have:=HZ.out;omega)).mono ?_
 rintro e w2 ⟨rfl,hb⟩
 have HN2:=zh (HN.out.1.step (HN.out.1.st.below hb) (hb.mono HN.out.1.bz) (Oth.of_below hb))
 have HB2:=zh (HN.out.2.1.trans (hb.mono HN.out.1.bz))
 have HO2:=zh (HN.out.2.2.trans (Oth.of_below hb))
 have b0':w2.cell? ⟨w.heap.size,0,none⟩=some (.pointer (some ⟨g,0,none⟩)):=HN2.out.p.cell 0
 have n0':w2.cell? ⟨w.heap.size+1,0,none⟩=some (.int .i64 14):=HN2.out.n.cell 0
 have n1':w2.cell? ⟨w.heap.size+1,1,none⟩=some (.string s):=HN2.out.n.cell 1
 have n2':w2.cell? ⟨w.heap.size+1,2,none⟩=some (.int .i64 nm):=HN2.out.n.cell 2
 have n3':w2.cell? ⟨w.heap.size+1,3,none⟩=some (.int .i64 p):=HN2.out.n.cell 3
 have n4':w2.cell? ⟨w.heap.size+1,4,none⟩=some kv:=HN2.out.n.cell 4
 clear hb
 go_wp2_with fail
 refine (zlr HN2.out HKD.out HNB.out HL.out).mono ?_
 rintro e w3 ⟨rfl,h3,hb3,ho3⟩
 have HP:=zh (show zMa B g (l++(([117,110,108,111,99,107,32]++(tb s++([91]++(dec nm++[93]))))++[59])) d w (.returned (.tuple #[])) w3 from ⟨rfl,h3,HB2.out.trans hb3,HO2.out.trans ho3⟩)
 clear h3 hb3 ho3
 go_wp2_with fail
 go_end0
 exact HP.out
theorem zgt {n:Nat} (ih:zlc n) {s:ByteArray} {nm:Int} {p:Nat} {a b c e:T} {B g:Nat} {l:List UInt8} {d:Nat} {kv:Value} {w:World} (hz:(T.mk 15 s nm p [a,b,c,e]).size≤n+1) (hst:ztd B g l d w) (hpt:zZe B w) (hk:KAt 25 w [a,b,c,e] (fun b=>b<B) kv) (hw:(T.mk 15 s nm p [a,b,c,e]).whole) (hs:(T.mk 15 s nm p [a,b,c,e]).small) (h5:(T.mk 15 s nm p [a,b,c,e]).size≤5000) (hl:l.length+(shw d (T.mk 15 s nm p [a,b,c,e])).length≤140737488355328) :
  Calls Tryz.prog 22 #[.pointer (some ⟨g,0,none⟩),.agg #[.int .i64 15,.string s,.int .i64 nm,.int .i64 p,kv]] w (zMa B g (l++shw d (T.mk 15 s nm p [a,b,c,e])) d w):=by
 have hX:shw d (T.mk 15 s nm p [a,b,c,e])=zUg (tb s) [a,b,c,e] (zpb d [a,b,c,e]):=by rw [zZa,if_neg (by omega)];first|rfl|(simp [zXa];done)|(simp [zXa,zOb];done)
 rw [hX] at hl ⊢
 have HFT:=zh (zjb.1 hw).1
 have HZ:=zh (show [a,b,c,e].length≤5000 from by rw [size_mk] at h5;have:=zdb [a,b,c,e];omega)
 have HNB:=zh (zob.1 hs).1.2
 have HKD:=zh (zxc ih hz h5 hw hs B g w.heap.size (w.heap.size+1) kv)
 have HL:=zh hl
 have hB:B≤w.heap.size:=by have:=hst.lt;have:=hst.ge;omega
 obtain ⟨W1,hW1,HN⟩:∃ W,(w.alloc (.cells [.pointer (some ⟨g,0,none⟩)].toArray 70)).alloc (.cells [.int .i64 15,.string s,.int .i64 nm,.int .i64 p,kv].toArray 25)=W∧Hid (Wn B g w.heap.size (w.heap.size+1) (T.mk 15 s nm p [a,b,c,e]) kv l d W∧Below B w W∧Oth g w W) :=
  ⟨_,rfl,zh ⟨⟨(hst.alloc _).alloc _,(Blk.new w _ _).alloc _,Blk.zCe w _ _ _,(hk.alloc _).alloc _,hpt.step (((Below.refl B w).alloc hB _).alloc (by simp;omega) _)⟩,((Below.refl B w).alloc hB _).alloc (by simp;omega) _,((Oth.refl g w).alloc _).alloc _⟩⟩
 have b0:W1.cell? ⟨w.heap.size,0,none⟩=some (.pointer (some ⟨g,0,none⟩)):=HN.out.1.p.cell 0
 have n0:W1.cell? ⟨w.heap.size+1,0,none⟩=some (.int .i64 15):=HN.out.1.n.cell 0
 have n1:W1.cell? ⟨w.heap.size+1,1,none⟩=some (.string s):=HN.out.1.n.cell 1
 have n2:W1.cell? ⟨w.heap.size+1,2,none⟩=some (.int .i64 nm):=HN.out.1.n.cell 2
 have n3:W1.cell? ⟨w.heap.size+1,3,none⟩=some (.int .i64 p):=HN.out.1.n.cell 3
 have n4:W1.cell? ⟨w.heap.size+1,4,none⟩=some kv:=HN.out.1.n.cell 4
 clear hX hl hst hpt hk hw hs ih hz h5 hB
 go_enter Tryz.func22,Tryz.ntmps22
 go_wp2_with fail
 refine (ztv (show KAt 25 W1 [a,b,c,e] (fun b=>b<B) kv from HN.out.1.k) HFT.out (by have:=HZ.out;omega)).mono ?_
 rintro e w2 ⟨rfl,hb⟩
 have HN2:=zh (HN.out.1.step (HN.out.1.st.below hb) (hb.mono HN.out.1.bz) (Oth.of_below hb))
 have HB2:=zh (HN.out.2.1.trans (hb.mono HN.out.1.bz))
 have HO2:=zh (HN.out.2.2.trans (Oth.of_below hb))
 have b0':w2.cell? ⟨w.heap.size,0,none⟩=some (.pointer (some ⟨g,0,none⟩)):=HN2.out.p.cell 0
 have n0':w2.cell? ⟨w.heap.size+1,0,none⟩=some (.int .i64 15):=HN2.out.n.cell 0
 have n1':w2.cell? ⟨w.heap.size+1,1,none⟩=some (.string s):=HN2.out.n.cell 1
 have n2':w2.cell? ⟨w.heap.size+1,2,none⟩=some (.int .i64 nm):=HN2.out.n.cell 2
 have n3':w2.cell? ⟨w.heap.size+1,3,none⟩=some (.int .i64 p):=HN2.out.n.cell 3
 have n4':w2.cell? ⟨w.heap.size+1,4,none⟩=some kv:=HN2.out.n.cell 4
 clear hb
 go_wp2_with fail
 refine (zHq HN2.out HKD.out  HL.out).mono ?_
 rintro e w3 ⟨rfl,h3,hb3,ho3⟩
 have HP:=zh (show zMa B g (l++(zUg (tb s) [a,b,c,e] (zpb d [a,b,c,e]))) d w (.returned (.tuple #[])) w3 from ⟨rfl,h3,HB2.out.trans hb3,HO2.out.trans ho3⟩)
 clear h3 hb3 ho3
 go_wp2_with fail
 go_end0
 exact HP.out
theorem zHs {n:Nat} (ih:zlc n) {s:ByteArray} {nm:Int} {p:Nat} {a b c:T} {B g:Nat} {l:List UInt8} {d:Nat} {kv:Value} {w:World} (hz:(T.mk 16 s nm p [a,b,c]).size≤n+1) (hst:ztd B g l d w) (hpt:zZe B w) (hk:KAt 25 w [a,b,c] (fun b=>b<B) kv) (hw:(T.mk 16 s nm p [a,b,c]).whole) (hs:(T.mk 16 s nm p [a,b,c]).small) (h5:(T.mk 16 s nm p [a,b,c]).size≤5000) (hl:l.length+(shw d (T.mk 16 s nm p [a,b,c])).length≤140737488355328) :
  Calls Tryz.prog 22 #[.pointer (some ⟨g,0,none⟩),.agg #[.int .i64 16,.string s,.int .i64 nm,.int .i64 p,kv]] w (zMa B g (l++shw d (T.mk 16 s nm p [a,b,c])) d w):=by
 have hX:shw d (T.mk 16 s nm p [a,b,c])=[119,104,105,108,101,32]++((shw d a++([32]++(tb s++([32]++shw d b))))++([32]++shw d c)):=by rw [zZa,if_neg (by omega),zPa,zPa,zPa,zib];first|rfl|(simp [zXa];done)|(simp [zXa,zOb];done)
 rw [hX] at hl ⊢
 have HFT:=zh (zjb.1 hw).1
 have HZ:=zh (show [a,b,c].length≤5000 from by rw [size_mk] at h5;have:=zdb [a,b,c];omega)
 have HNB:=zh (zob.1 hs).1.2
 have HKD:=zh (zxc ih hz h5 hw hs B g w.heap.size (w.heap.size+1) kv)
 have HL:=zh hl
 have hB:B≤w.heap.size:=by have:=hst.lt;have:=hst.ge;omega
 obtain ⟨W1,hW1,HN⟩:∃ W,(w.alloc (.cells [.pointer (some ⟨g,0,none⟩)].toArray 70)).alloc (.cells [.int .i64 16,.string s,.int .i64 nm,.int .i64 p,kv].toArray 25)=W∧Hid (Wn B g w.heap.size (w.heap.size+1) (T.mk 16 s nm p [a,b,c]) kv l d W∧Below B w W∧Oth g w W) :=
  ⟨_,rfl,zh ⟨⟨(hst.alloc _).alloc _,(Blk.new w _ _).alloc _,Blk.zCe w _ _ _,(hk.alloc _).alloc _,hpt.step (((Below.refl B w).alloc hB _).alloc (by simp;omega) _)⟩,((Below.refl B w).alloc hB _).alloc (by simp;omega) _,((Oth.refl g w).alloc _).alloc _⟩⟩
 have b0:W1.cell? ⟨w.heap.size,0,none⟩=some (.pointer (some ⟨g,0,none⟩)):=HN.out.1.p.cell 0
 have n0:W1.cell? ⟨w.heap.size+1,0,none⟩=some (.int .i64 16):=HN.out.1.n.cell 0
 have n1:W1.cell? ⟨w.heap.size+1,1,none⟩=some (.string s):=HN.out.1.n.cell 1
 have n2:W1.cell? ⟨w.heap.size+1,2,none⟩=some (.int .i64 nm):=HN.out.1.n.cell 2
 have n3:W1.cell? ⟨w.heap.size+1,3,none⟩=some (.int .i64 p):=HN.out.1.n.cell 3
 have n4:W1.cell? ⟨w.heap.size+1,4,none⟩=some kv:=HN.out.1.n.cell 4
 clear hX hl hst hpt hk hw hs ih hz h5 hB
 go_enter Tryz.func22,Tryz.ntmps22
 go_wp2_with fail
 refine (zRu (show KAt 25 W1 [a,b,c] (fun b=>b<B) kv from HN.out.1.k) HFT.out (by have:=HZ.out;omega)).mono ?_
 rintro e w2 ⟨rfl,hb⟩
 have HN2:=zh (HN.out.1.step (HN.out.1.st.below hb) (hb.mono HN.out.1.bz) (Oth.of_below hb))
 have HB2:=zh (HN.out.2.1.trans (hb.mono HN.out.1.bz))
 have HO2:=zh (HN.out.2.2.trans (Oth.of_below hb))
 have b0':w2.cell? ⟨w.heap.size,0,none⟩=some (.pointer (some ⟨g,0,none⟩)):=HN2.out.p.cell 0
 have n0':w2.cell? ⟨w.heap.size+1,0,none⟩=some (.int .i64 16):=HN2.out.n.cell 0
 have n1':w2.cell? ⟨w.heap.size+1,1,none⟩=some (.string s):=HN2.out.n.cell 1
 have n2':w2.cell? ⟨w.heap.size+1,2,none⟩=some (.int .i64 nm):=HN2.out.n.cell 2
 have n3':w2.cell? ⟨w.heap.size+1,3,none⟩=some (.int .i64 p):=HN2.out.n.cell 3
 have n4':w2.cell? ⟨w.heap.size+1,4,none⟩=some kv:=HN2.out.n.cell 4
 clear hb
 go_wp2_with fail
 refine (zwq HN2.out HKD.out rfl rfl rfl HL.out).mono ?_
 rintro e w3 ⟨rfl,h3,hb3,ho3⟩
 have HP:=zh (show zMa B g (l++([119,104,105,108,101,32]++((shw d a++([32]++(tb s++([32]++shw d b))))++([32]++shw d c)))) d w (.returned (.tuple #[])) w3 from ⟨rfl,h3,HB2.out.trans hb3,HO2.out.trans ho3⟩)
 clear h3 hb3 ho3
 go_wp2_with fail
 go_end0
 exact HP.out
theorem zPo {n:Nat} (ih:zlc n) {s:ByteArray} {nm:Int} {p:Nat} {ks:List T} {B g:Nat} {l:List UInt8} {d:Nat} {kv:Value} {w:World} (hz:(T.mk 17 s nm p ks).size≤n+1) (hst:ztd B g l d w) (hpt:zZe B w) (hk:KAt 25 w ks (fun b=>b<B) kv) (hw:(T.mk 17 s nm p ks).whole) (hs:(T.mk 17 s nm p ks).small) (h5:(T.mk 17 s nm p ks).size≤5000) (hl:l.length+(shw d (T.mk 17 s nm p ks)).length≤140737488355328) :
  Calls Tryz.prog 22 #[.pointer (some ⟨g,0,none⟩),.agg #[.int .i64 17,.string s,.int .i64 nm,.int .i64 p,kv]] w (zMa B g (l++shw d (T.mk 17 s nm p ks)) d w):=by
 have hX:shw d (T.mk 17 s nm p ks)=([114,101,116,117,114,110]++maybe [32] [] (zpb d ks))++[59]:=by rw [zZa,if_neg (by omega)];first|rfl|(simp [zXa];done)|(simp [zXa,zOb];done)
 rw [hX] at hl ⊢
 have HFT:=zh (zjb.1 hw).1
 have HZ:=zh (show ks.length≤5000 from by rw [size_mk] at h5;have:=zdb ks;omega)
 have HNB:=zh (zob.1 hs).1.2
 have HKD:=zh (zxc ih hz h5 hw hs B g w.heap.size (w.heap.size+1) kv)
 have HL:=zh hl
 have hB:B≤w.heap.size:=by have:=hst.lt;have:=hst.ge;omega
 obtain ⟨W1,hW1,HN⟩:∃ W,(w.alloc (.cells [.pointer (some ⟨g,0,none⟩)].toArray 70)).alloc (.cells [.int .i64 17,.string s,.int .i64 nm,.int .i64 p,kv].toArray 25)=W∧Hid (Wn B g w.heap.size (w.heap.size+1) (T.mk 17 s nm p ks) kv l d W∧Below B w W∧Oth g w W) :=
  ⟨_,rfl,zh ⟨⟨(hst.alloc _).alloc _,(Blk.new w _ _).alloc _,Blk.zCe w _ _ _,(hk.alloc _).alloc _,hpt.step (((Below.refl B w).alloc hB _).alloc (by simp;omega) _)⟩,((Below.refl B w).alloc hB _).alloc (by simp;omega) _,((Oth.refl g w).alloc _).alloc _⟩⟩
 have b0:W1.cell? ⟨w.heap.size,0,none⟩=some (.pointer (some ⟨g,0,none⟩)):=HN.out.1.p.cell 0
 have n0:W1.cell? ⟨w.heap.size+1,0,none⟩=some (.int .i64 17):=HN.out.1.n.cell 0
 have n1:W1.cell? ⟨w.heap.size+1,1,none⟩=some (.string s):=HN.out.1.n.cell 1
 have n2:W1.cell? ⟨w.heap.size+1,2,none⟩=some (.int .i64 nm):=HN.out.1.n.cell 2
 have n3:W1.cell? ⟨w.heap.size+1,3,none⟩=some (.int .i64 p):=HN.out.1.n.cell 3
 have n4:W1.cell? ⟨w.heap.size+1,4,none⟩=some kv:=HN.out.1.n.cell 4
 clear hX hl hst hpt hk hw hs ih hz h5 hB
 go_enter Tryz.func22,Tryz.ntmps22
 go_wp2_with fail
 refine (zFv (show KAt 25 W1 ks (fun b=>b<B) kv from HN.out.1.k) HFT.out (by have:=HZ.out;omega)).mono ?_
 rintro e w2 ⟨rfl,hb⟩
 have HN2:=zh (HN.out.1.step (HN.out.1.st.below hb) (hb.mono HN.out.1.bz) (Oth.of_below hb))
 have HB2:=zh (HN.out.2.1.trans (hb.mono HN.out.1.bz))
 have HO2:=zh (HN.out.2.2.trans (Oth.of_below hb))
 have b0':w2.cell? ⟨w.heap.size,0,none⟩=some (.pointer (some ⟨g,0,none⟩)):=HN2.out.p.cell 0
 have n0':w2.cell? ⟨w.heap.size+1,0,none⟩=some (.int .i64 17):=HN2.out.n.cell 0
 have n1':w2.cell? ⟨w.heap.size+1,1,none⟩=some (.string s):=HN2.out.n.cell 1
 have n2':w2.cell? ⟨w.heap.size+1,2,none⟩=some (.int .i64 nm):=HN2.out.n.cell 2
 have n3':w2.cell? ⟨w.heap.size+1,3,none⟩=some (.int .i64 p):=HN2.out.n.cell 3
 have n4':w2.cell? ⟨w.heap.size+1,4,none⟩=some kv:=HN2.out.n.cell 4
 clear hb
 go_wp2_with fail
 refine (zvq HN2.out HKD.out (by have:=HZ.out;omega) HL.out).mono ?_
 rintro e w3 ⟨rfl,h3,hb3,ho3⟩
 have HP:=zh (show zMa B g (l++(([114,101,116,117,114,110]++maybe [32] [] (zpb d ks))++[59])) d w (.returned (.tuple #[])) w3 from ⟨rfl,h3,HB2.out.trans hb3,HO2.out.trans ho3⟩)
 clear h3 hb3 ho3
 go_wp2_with fail
 go_end0
 exact HP.out
theorem zSs {n:Nat} (ih:zlc n) {s:ByteArray} {nm:Int} {p:Nat} {ks:List T} {B g:Nat} {l:List UInt8} {d:Nat} {kv:Value} {w:World} (hz:(T.mk 18 s nm p ks).size≤n+1) (hst:ztd B g l d w) (hpt:zZe B w) (hk:KAt 25 w ks (fun b=>b<B) kv) (hw:(T.mk 18 s nm p ks).whole) (hs:(T.mk 18 s nm p ks).small) (h5:(T.mk 18 s nm p ks).size≤5000) (hl:l.length+(shw d (T.mk 18 s nm p ks)).length≤140737488355328) :
  Calls Tryz.prog 22 #[.pointer (some ⟨g,0,none⟩),.agg #[.int .i64 18,.string s,.int .i64 nm,.int .i64 p,kv]] w (zMa B g (l++shw d (T.mk 18 s nm p ks)) d w):=by
 have hX:shw d (T.mk 18 s nm p ks)=([97,98,111,114,116])++[59]:=by rw [zZa,if_neg (by omega)];first|rfl|(simp [zXa];done)|(simp [zXa,zOb];done)
 rw [hX] at hl ⊢
 have HFT:=zh (zjb.1 hw).1
 have HZ:=zh (show ks.length≤5000 from by rw [size_mk] at h5;have:=zdb ks;omega)
 have HNB:=zh (zob.1 hs).1.2
 have HKD:=zh (zxc ih hz h5 hw hs B g w.heap.size (w.heap.size+1) kv)
 have HL:=zh hl
 have hB:B≤w.heap.size:=by have:=hst.lt;have:=hst.ge;omega
 obtain ⟨W1,hW1,HN⟩:∃ W,(w.alloc (.cells [.pointer (some ⟨g,0,none⟩)].toArray 70)).alloc (.cells [.int .i64 18,.string s,.int .i64 nm,.int .i64 p,kv].toArray 25)=W∧Hid (Wn B g w.heap.size (w.heap.size+1) (T.mk 18 s nm p ks) kv l d W∧Below B w W∧Oth g w W) :=
  ⟨_,rfl,zh ⟨⟨(hst.alloc _).alloc _,(Blk.new w _ _).alloc _,Blk.zCe w _ _ _,(hk.alloc _).alloc _,hpt.step (((Below.refl B w).alloc hB _).alloc (by simp;omega) _)⟩,((Below.refl B w).alloc hB _).alloc (by simp;omega) _,((Oth.refl g w).alloc _).alloc _⟩⟩
 have b0:W1.cell? ⟨w.heap.size,0,none⟩=some (.pointer (some ⟨g,0,none⟩)):=HN.out.1.p.cell 0
 have n0:W1.cell? ⟨w.heap.size+1,0,none⟩=some (.int .i64 18):=HN.out.1.n.cell 0
 have n1:W1.cell? ⟨w.heap.size+1,1,none⟩=some (.string s):=HN.out.1.n.cell 1
 have n2:W1.cell? ⟨w.heap.size+1,2,none⟩=some (.int .i64 nm):=HN.out.1.n.cell 2
 have n3:W1.cell? ⟨w.heap.size+1,3,none⟩=some (.int .i64 p):=HN.out.1.n.cell 3
 have n4:W1.cell? ⟨w.heap.size+1,4,none⟩=some kv:=HN.out.1.n.cell 4
 clear hX hl hst hpt hk hw hs ih hz h5 hB
 go_enter Tryz.func22,Tryz.ntmps22
 go_wp2_with fail
 refine (zsv (show KAt 25 W1 ks (fun b=>b<B) kv from HN.out.1.k) HFT.out (by have:=HZ.out;omega)).mono ?_
 rintro e w2 ⟨rfl,hb⟩
 have HN2:=zh (HN.out.1.step (HN.out.1.st.below hb) (hb.mono HN.out.1.bz) (Oth.of_below hb))
 have HB2:=zh (HN.out.2.1.trans (hb.mono HN.out.1.bz))
 have HO2:=zh (HN.out.2.2.trans (Oth.of_below hb))
 have b0':w2.cell? ⟨w.heap.size,0,none⟩=some (.pointer (some ⟨g,0,none⟩)):=HN2.out.p.cell 0
 have n0':w2.cell? ⟨w.heap.size+1,0,none⟩=some (.int .i64 18):=HN2.out.n.cell 0
 have n1':w2.cell? ⟨w.heap.size+1,1,none⟩=some (.string s):=HN2.out.n.cell 1
 have n2':w2.cell? ⟨w.heap.size+1,2,none⟩=some (.int .i64 nm):=HN2.out.n.cell 2
 have n3':w2.cell? ⟨w.heap.size+1,3,none⟩=some (.int .i64 p):=HN2.out.n.cell 3
 have n4':w2.cell? ⟨w.heap.size+1,4,none⟩=some kv:=HN2.out.n.cell 4
 clear hb
 go_wp2_with fail
 refine (zHr HN2.out HKD.out  HL.out).mono ?_
 rintro e w3 ⟨rfl,h3,hb3,ho3⟩
 have HP:=zh (show zMa B g (l++(([97,98,111,114,116])++[59])) d w (.returned (.tuple #[])) w3 from ⟨rfl,h3,HB2.out.trans hb3,HO2.out.trans ho3⟩)
 clear h3 hb3 ho3
 go_wp2_with fail
 go_end0
 exact HP.out
theorem zst {n:Nat} (ih:zlc n) {s:ByteArray} {nm:Int} {p:Nat} {ks:List T} {B g:Nat} {l:List UInt8} {d:Nat} {kv:Value} {w:World} (hz:(T.mk 19 s nm p ks).size≤n+1) (hst:ztd B g l d w) (hpt:zZe B w) (hk:KAt 25 w ks (fun b=>b<B) kv) (hw:(T.mk 19 s nm p ks).whole) (hs:(T.mk 19 s nm p ks).small) (h5:(T.mk 19 s nm p ks).size≤5000) (hl:l.length+(shw d (T.mk 19 s nm p ks)).length≤140737488355328) :
  Calls Tryz.prog 22 #[.pointer (some ⟨g,0,none⟩),.agg #[.int .i64 19,.string s,.int .i64 nm,.int .i64 p,kv]] w (zMa B g (l++shw d (T.mk 19 s nm p ks)) d w):=by
 have hX:shw d (T.mk 19 s nm p ks)=([102,111,114,107,32]++zRc (tb s) (zpb d ks))++[59]:=by rw [zZa,if_neg (by omega)];first|rfl|(simp [zXa];done)|(simp [zXa,zOb];done)
 rw [hX] at hl ⊢
 have HFT:=zh (zjb.1 hw).1
 have HZ:=zh (show ks.length≤5000 from by rw [size_mk] at h5;have:=zdb ks;omega)
 have HNB:=zh (zob.1 hs).1.2
 have HKD:=zh (zxc ih hz h5 hw hs B g w.heap.size (w.heap.size+1) kv)
 have HL:=zh hl
 have hB:B≤w.heap.size:=by have:=hst.lt;have:=hst.ge;omega
 obtain ⟨W1,hW1,HN⟩:∃ W,(w.alloc (.cells [.pointer (some ⟨g,0,none⟩)].toArray 70)).alloc (.cells [.int .i64 19,.string s,.int .i64 nm,.int .i64 p,kv].toArray 25)=W∧Hid (Wn B g w.heap.size (w.heap.size+1) (T.mk 19 s nm p ks) kv l d W∧Below B w W∧Oth g w W) :=
  ⟨_,rfl,zh ⟨⟨(hst.alloc _).alloc _,(Blk.new w _ _).alloc _,Blk.zCe w _ _ _,(hk.alloc _).alloc _,hpt.step (((Below.refl B w).alloc hB _).alloc (by simp;omega) _)⟩,((Below.refl B w).alloc hB _).alloc (by simp;omega) _,((Oth.refl g w).alloc _).alloc _⟩⟩
 have b0:W1.cell? ⟨w.heap.size,0,none⟩=some (.pointer (some ⟨g,0,none⟩)):=HN.out.1.p.cell 0
 have n0:W1.cell? ⟨w.heap.size+1,0,none⟩=some (.int .i64 19):=HN.out.1.n.cell 0
 have n1:W1.cell? ⟨w.heap.size+1,1,none⟩=some (.string s):=HN.out.1.n.cell 1
 have n2:W1.cell? ⟨w.heap.size+1,2,none⟩=some (.int .i64 nm):=HN.out.1.n.cell 2
 have n3:W1.cell? ⟨w.heap.size+1,3,none⟩=some (.int .i64 p):=HN.out.1.n.cell 3
 have n4:W1.cell? ⟨w.heap.size+1,4,none⟩=some kv:=HN.out.1.n.cell 4
 clear hX hl hst hpt hk hw hs ih hz h5 hB
 go_enter Tryz.func22,Tryz.ntmps22
 go_wp2_with fail
 refine (zrv (show KAt 25 W1 ks (fun b=>b<B) kv from HN.out.1.k) HFT.out (by have:=HZ.out;omega)).mono ?_
 rintro e w2 ⟨rfl,hb⟩
 have HN2:=zh (HN.out.1.step (HN.out.1.st.below hb) (hb.mono HN.out.1.bz) (Oth.of_below hb))
 have HB2:=zh (HN.out.2.1.trans (hb.mono HN.out.1.bz))
 have HO2:=zh (HN.out.2.2.trans (Oth.of_below hb))
 have b0':w2.cell? ⟨w.heap.size,0,none⟩=some (.pointer (some ⟨g,0,none⟩)):=HN2.out.p.cell 0
 have n0':w2.cell? ⟨w.heap.size+1,0,none⟩=some (.int .i64 19):=HN2.out.n.cell 0
 have n1':w2.cell? ⟨w.heap.size+1,1,none⟩=some (.string s):=HN2.out.n.cell 1
 have n2':w2.cell? ⟨w.heap.size+1,2,none⟩=some (.int .i64 nm):=HN2.out.n.cell 2
 have n3':w2.cell? ⟨w.heap.size+1,3,none⟩=some (.int .i64 p):=HN2.out.n.cell 3
 have n4':w2.cell? ⟨w.heap.size+1,4,none⟩=some kv:=HN2.out.n.cell 4
 clear hb
 go_wp2_with fail
 refine (zgr HN2.out HKD.out (by have:=HZ.out;omega) HL.out).mono ?_
 rintro e w3 ⟨rfl,h3,hb3,ho3⟩
 have HP:=zh (show zMa B g (l++(([102,111,114,107,32]++zRc (tb s) (zpb d ks))++[59])) d w (.returned (.tuple #[])) w3 from ⟨rfl,h3,HB2.out.trans hb3,HO2.out.trans ho3⟩)
 clear h3 hb3 ho3
 go_wp2_with fail
 go_end0
 exact HP.out
theorem zeu {n:Nat} (ih:zlc n) {s:ByteArray} {nm:Int} {p:Nat} {a:T} {B g:Nat} {l:List UInt8} {d:Nat} {kv:Value} {w:World} (hz:(T.mk 20 s nm p [a]).size≤n+1) (hst:ztd B g l d w) (hpt:zZe B w) (hk:KAt 25 w [a] (fun b=>b<B) kv) (hw:(T.mk 20 s nm p [a]).whole) (hs:(T.mk 20 s nm p [a]).small) (h5:(T.mk 20 s nm p [a]).size≤5000) (hl:l.length+(shw d (T.mk 20 s nm p [a])).length≤140737488355328) :
  Calls Tryz.prog 22 #[.pointer (some ⟨g,0,none⟩),.agg #[.int .i64 20,.string s,.int .i64 nm,.int .i64 p,kv]] w (zMa B g (l++shw d (T.mk 20 s nm p [a])) d w):=by
 have hX:shw d (T.mk 20 s nm p [a])=(shw d a)++[59]:=by rw [zZa,if_neg (by omega),zPa,zib];first|rfl|(simp [zXa];done)|(simp [zXa,zOb];done)
 rw [hX] at hl ⊢
 have HFT:=zh (zjb.1 hw).1
 have HZ:=zh (show [a].length≤5000 from by rw [size_mk] at h5;have:=zdb [a];omega)
 have HNB:=zh (zob.1 hs).1.2
 have HKD:=zh (zxc ih hz h5 hw hs B g w.heap.size (w.heap.size+1) kv)
 have HL:=zh hl
 have hB:B≤w.heap.size:=by have:=hst.lt;have:=hst.ge;omega
 obtain ⟨W1,hW1,HN⟩:∃ W,(w.alloc (.cells [.pointer (some ⟨g,0,none⟩)].toArray 70)).alloc (.cells [.int .i64 20,.string s,.int .i64 nm,.int .i64 p,kv].toArray 25)=W∧Hid (Wn B g w.heap.size (w.heap.size+1) (T.mk 20 s nm p [a]) kv l d W∧Below B w W∧Oth g w W) :=
  ⟨_,rfl,zh ⟨⟨(hst.alloc _).alloc _,(Blk.new w _ _).alloc _,Blk.zCe w _ _ _,(hk.alloc _).alloc _,hpt.step (((Below.refl B w).alloc hB _).alloc (by simp;omega) _)⟩,((Below.refl B w).alloc hB _).alloc (by simp;omega) _,((Oth.refl g w).alloc _).alloc _⟩⟩
 have b0:W1.cell? ⟨w.heap.size,0,none⟩=some (.pointer (some ⟨g,0,none⟩)):=HN.out.1.p.cell 0
 have n0:W1.cell? ⟨w.heap.size+1,0,none⟩=some (.int .i64 20):=HN.out.1.n.cell 0
 have n1:W1.cell? ⟨w.heap.size+1,1,none⟩=some (.string s):=HN.out.1.n.cell 1
 have n2:W1.cell? ⟨w.heap.size+1,2,none⟩=some (.int .i64 nm):=HN.out.1.n.cell 2
 have n3:W1.cell? ⟨w.heap.size+1,3,none⟩=some (.int .i64 p):=HN.out.1.n.cell 3
 have n4:W1.cell? ⟨w.heap.size+1,4,none⟩=some kv:=HN.out.1.n.cell 4
 clear hX hl hst hpt hk hw hs ih hz h5 hB
 go_enter Tryz.func22,Tryz.ntmps22
 go_wp2_with fail
 refine (zBv (show KAt 25 W1 [a] (fun b=>b<B) kv from HN.out.1.k) HFT.out (by have:=HZ.out;omega)).mono ?_
 rintro e w2 ⟨rfl,hb⟩
 have HN2:=zh (HN.out.1.step (HN.out.1.st.below hb) (hb.mono HN.out.1.bz) (Oth.of_below hb))
 have HB2:=zh (HN.out.2.1.trans (hb.mono HN.out.1.bz))
 have HO2:=zh (HN.out.2.2.trans (Oth.of_below hb))
 have b0':w2.cell? ⟨w.heap.size,0,none⟩=some (.pointer (some ⟨g,0,none⟩)):=HN2.out.p.cell 0
 have n0':w2.cell? ⟨w.heap.size+1,0,none⟩=some (.int .i64 20):=HN2.out.n.cell 0
 have n1':w2.cell? ⟨w.heap.size+1,1,none⟩=some (.string s):=HN2.out.n.cell 1
 have n2':w2.cell? ⟨w.heap.size+1,2,none⟩=some (.int .i64 nm):=HN2.out.n.cell 2
 have n3':w2.cell? ⟨w.heap.size+1,3,none⟩=some (.int .i64 p):=HN2.out.n.cell 3
 have n4':w2.cell? ⟨w.heap.size+1,4,none⟩=some kv:=HN2.out.n.cell 4
 clear hb
 go_wp2_with fail
 refine (zsq HN2.out HKD.out rfl HL.out).mono ?_
 rintro e w3 ⟨rfl,h3,hb3,ho3⟩
 have HP:=zh (show zMa B g (l++((shw d a)++[59])) d w (.returned (.tuple #[])) w3 from ⟨rfl,h3,HB2.out.trans hb3,HO2.out.trans ho3⟩)
 clear h3 hb3 ho3
 go_wp2_with fail
 go_end0
 exact HP.out
end Go.Proofs.YtbfgdpcgdmabpaaGreatDoor
