/- The contract of show.show on a node, by kind, given that it is known for smaller trees. -/
import Derived.Test.YthdbmgijpelecaaGreatDoorZ16
import Derived.Test.YthdbmgijpelecaaGreatDoorZ19
import Derived.Test.YthdbmgijpelecaaGreatDoorZ20
import Derived.Test.YthdbmgijpelecaaGreatDoorZ21
import Derived.Test.YthdbmgijpelecaaGreatDoorZ22
import Derived.Test.YthdbmgijpelecaaGreatDoorZ23
import Derived.Test.YthdbmgijpelecaaGreatDoorZ31
import Derived.Test.YthdbmgijpelecaaGreatDoorZ28
import Derived.Test.YthdbmgijpelecaaGreatDoorZ30
import Derived.Test.YthdbmgijpelecaaGreatDoorZ02
import Derived.Test.YthdbmgijpelecaaGreatDoorZ13
import Derived.LaidSub
import Derived.Test.YthdbmgijpelecaaGreatDoorZ25
namespace Go.Proofs.YthdbmgijpelecaaGreatDoor
set_option maxRecDepth 100000
set_option maxHeartbeats 2000000
open Go.RowKit
theorem zSo {n:Nat} (ih:ztb n) {s:ByteArray} {nm:Int} {p:Nat} {a b:T} {B g:Nat} {l:List UInt8} {d:Nat} {kv:Value} {w:World} (hz:(T.mk 21 s nm p [a,b]).size≤n+1) (hst:zsc B g l d w) (hpt:zPd B w) (hk:KAt 25 w [a,b] (fun b=>b<B) kv) (hw:(T.mk 21 s nm p [a,b]).whole) (hs:(T.mk 21 s nm p [a,b]).small) (h5:(T.mk 21 s nm p [a,b]).size≤5000) (hl:l.length+(shw d (T.mk 21 s nm p [a,b])).length≤140737488355328) :
  Calls Tryz.prog 31 #[.pointer (some ⟨g,0,none⟩),.agg #[.int .i64 21,.string s,.int .i64 nm,.int .i64 p,kv]] w (zka B g (l++shw d (T.mk 21 s nm p [a,b])) d w):=by
 have hX:shw d (T.mk 21 s nm p [a,b])=shw d a++([32,43,32]++shw d b):=by rw [zva,if_neg (by omega),zya,zya,zSa];first|rfl|(simp [zpa];done)|(simp [zpa,zrb];done)
 rw [hX] at hl ⊢
 have HFT:=zh (zAa.1 hw).1
 have HZ:=zh (show [a,b].length≤5000 from by rw [size_mk] at h5;have:=zua [a,b];omega)
 have HNB:=zh (zGa.1 hs).1.2
 have HKD:=zh (zCb ih hz h5 hw hs B g w.heap.size (w.heap.size+1) kv)
 have HL:=zh hl
 have hB:B≤w.heap.size:=by have:=hst.lt;have:=hst.ge;omega
 obtain ⟨W1,hW1,HN⟩:∃ W,(w.alloc (.cells [.pointer (some ⟨g,0,none⟩)].toArray 72)).alloc (.cells [.int .i64 21,.string s,.int .i64 nm,.int .i64 p,kv].toArray 25)=W∧Hid (Wn B g w.heap.size (w.heap.size+1) (T.mk 21 s nm p [a,b]) kv l d W∧Below B w W∧Oth g w W) :=
  ⟨_,rfl,zh ⟨⟨(hst.alloc _).alloc _,(Blk.new w _ _).alloc _,Blk.zFd w _ _ _,(hk.alloc _).alloc _,hpt.step (((Below.refl B w).alloc hB _).alloc (by simp;omega) _)⟩,((Below.refl B w).alloc hB _).alloc (by simp;omega) _,((Oth.refl g w).alloc _).alloc _⟩⟩
 have b0:W1.cell? ⟨w.heap.size,0,none⟩=some (.pointer (some ⟨g,0,none⟩)):=HN.out.1.p.cell 0
 have n0:W1.cell? ⟨w.heap.size+1,0,none⟩=some (.int .i64 21):=HN.out.1.n.cell 0
 have n1:W1.cell? ⟨w.heap.size+1,1,none⟩=some (.string s):=HN.out.1.n.cell 1
 have n2:W1.cell? ⟨w.heap.size+1,2,none⟩=some (.int .i64 nm):=HN.out.1.n.cell 2
 have n3:W1.cell? ⟨w.heap.size+1,3,none⟩=some (.int .i64 p):=HN.out.1.n.cell 3
 have n4:W1.cell? ⟨w.heap.size+1,4,none⟩=some kv:=HN.out.1.n.cell 4
 clear hX hl hst hpt hk hw hs ih hz h5 hB
 go_enter Tryz.func31,Tryz.ntmps31
 go_wp2_with fail
 refine (zzq (show KAt 25 W1 [a,b] (fun b=>b<B) kv from HN.out.1.k) HFT.out (by have:=HZ.out;omega)).mono ?_
 rintro e w2 ⟨rfl,hb⟩
 have HN2:=zh (HN.out.1.step (HN.out.1.st.below hb) (hb.mono HN.out.1.bz) (Oth.of_below hb))
 have HB2:=zh (HN.out.2.1.trans (hb.mono HN.out.1.bz))
 have HO2:=zh (HN.out.2.2.trans (Oth.of_below hb))
 have b0':w2.cell? ⟨w.heap.size,0,none⟩=some (.pointer (some ⟨g,0,none⟩)):=HN2.out.p.cell 0
 have n0':w2.cell? ⟨w.heap.size+1,0,none⟩=some (.int .i64 21):=HN2.out.n.cell 0
 have n1':w2.cell? ⟨w.heap.size+1,1,none⟩=some (.string s):=HN2.out.n.cell 1
 have n2':w2.cell? ⟨w.heap.size+1,2,none⟩=some (.int .i64 nm):=HN2.out.n.cell 2
 have n3':w2.cell? ⟨w.heap.size+1,3,none⟩=some (.int .i64 p):=HN2.out.n.cell 3
 have n4':w2.cell? ⟨w.heap.size+1,4,none⟩=some kv:=HN2.out.n.cell 4
 clear hb
 go_wp2_with fail
 refine (zOo HN2.out HKD.out rfl rfl HL.out).mono ?_
 rintro e w3 ⟨rfl,h3,hb3,ho3⟩
 have HP:=zh (show zka B g (l++(shw d a++([32,43,32]++shw d b))) d w (.returned (.tuple #[])) w3 from ⟨rfl,h3,HB2.out.trans hb3,HO2.out.trans ho3⟩)
 clear h3 hb3 ho3
 go_wp2_with fail
 go_end0
 exact HP.out
theorem zup {n:Nat} (ih:ztb n) {s:ByteArray} {nm:Int} {p:Nat} {a b:T} {B g:Nat} {l:List UInt8} {d:Nat} {kv:Value} {w:World} (hz:(T.mk 22 s nm p [a,b]).size≤n+1) (hst:zsc B g l d w) (hpt:zPd B w) (hk:KAt 25 w [a,b] (fun b=>b<B) kv) (hw:(T.mk 22 s nm p [a,b]).whole) (hs:(T.mk 22 s nm p [a,b]).small) (h5:(T.mk 22 s nm p [a,b]).size≤5000) (hl:l.length+(shw d (T.mk 22 s nm p [a,b])).length≤140737488355328) :
  Calls Tryz.prog 31 #[.pointer (some ⟨g,0,none⟩),.agg #[.int .i64 22,.string s,.int .i64 nm,.int .i64 p,kv]] w (zka B g (l++shw d (T.mk 22 s nm p [a,b])) d w):=by
 have hX:shw d (T.mk 22 s nm p [a,b])=shw d a++([32,45,32]++shw d b):=by rw [zva,if_neg (by omega),zya,zya,zSa];first|rfl|(simp [zpa];done)|(simp [zpa,zrb];done)
 rw [hX] at hl ⊢
 have HFT:=zh (zAa.1 hw).1
 have HZ:=zh (show [a,b].length≤5000 from by rw [size_mk] at h5;have:=zua [a,b];omega)
 have HNB:=zh (zGa.1 hs).1.2
 have HKD:=zh (zCb ih hz h5 hw hs B g w.heap.size (w.heap.size+1) kv)
 have HL:=zh hl
 have hB:B≤w.heap.size:=by have:=hst.lt;have:=hst.ge;omega
 obtain ⟨W1,hW1,HN⟩:∃ W,(w.alloc (.cells [.pointer (some ⟨g,0,none⟩)].toArray 72)).alloc (.cells [.int .i64 22,.string s,.int .i64 nm,.int .i64 p,kv].toArray 25)=W∧Hid (Wn B g w.heap.size (w.heap.size+1) (T.mk 22 s nm p [a,b]) kv l d W∧Below B w W∧Oth g w W) :=
  ⟨_,rfl,zh ⟨⟨(hst.alloc _).alloc _,(Blk.new w _ _).alloc _,Blk.zFd w _ _ _,(hk.alloc _).alloc _,hpt.step (((Below.refl B w).alloc hB _).alloc (by simp;omega) _)⟩,((Below.refl B w).alloc hB _).alloc (by simp;omega) _,((Oth.refl g w).alloc _).alloc _⟩⟩
 have b0:W1.cell? ⟨w.heap.size,0,none⟩=some (.pointer (some ⟨g,0,none⟩)):=HN.out.1.p.cell 0
 have n0:W1.cell? ⟨w.heap.size+1,0,none⟩=some (.int .i64 22):=HN.out.1.n.cell 0
 have n1:W1.cell? ⟨w.heap.size+1,1,none⟩=some (.string s):=HN.out.1.n.cell 1
 have n2:W1.cell? ⟨w.heap.size+1,2,none⟩=some (.int .i64 nm):=HN.out.1.n.cell 2
 have n3:W1.cell? ⟨w.heap.size+1,3,none⟩=some (.int .i64 p):=HN.out.1.n.cell 3
 have n4:W1.cell? ⟨w.heap.size+1,4,none⟩=some kv:=HN.out.1.n.cell 4
 clear hX hl hst hpt hk hw hs ih hz h5 hB
 go_enter Tryz.func31,Tryz.ntmps31
 go_wp2_with fail
 refine (zTq (show KAt 25 W1 [a,b] (fun b=>b<B) kv from HN.out.1.k) HFT.out (by have:=HZ.out;omega)).mono ?_
 rintro e w2 ⟨rfl,hb⟩
 have HN2:=zh (HN.out.1.step (HN.out.1.st.below hb) (hb.mono HN.out.1.bz) (Oth.of_below hb))
 have HB2:=zh (HN.out.2.1.trans (hb.mono HN.out.1.bz))
 have HO2:=zh (HN.out.2.2.trans (Oth.of_below hb))
 have b0':w2.cell? ⟨w.heap.size,0,none⟩=some (.pointer (some ⟨g,0,none⟩)):=HN2.out.p.cell 0
 have n0':w2.cell? ⟨w.heap.size+1,0,none⟩=some (.int .i64 22):=HN2.out.n.cell 0
 have n1':w2.cell? ⟨w.heap.size+1,1,none⟩=some (.string s):=HN2.out.n.cell 1
 have n2':w2.cell? ⟨w.heap.size+1,2,none⟩=some (.int .i64 nm):=HN2.out.n.cell 2
 have n3':w2.cell? ⟨w.heap.size+1,3,none⟩=some (.int .i64 p):=HN2.out.n.cell 3
 have n4':w2.cell? ⟨w.heap.size+1,4,none⟩=some kv:=HN2.out.n.cell 4
 clear hb
 go_wp2_with fail
 refine (zZo HN2.out HKD.out rfl rfl HL.out).mono ?_
 rintro e w3 ⟨rfl,h3,hb3,ho3⟩
 have HP:=zh (show zka B g (l++(shw d a++([32,45,32]++shw d b))) d w (.returned (.tuple #[])) w3 from ⟨rfl,h3,HB2.out.trans hb3,HO2.out.trans ho3⟩)
 clear h3 hb3 ho3
 go_wp2_with fail
 go_end0
 exact HP.out
theorem zJo {n:Nat} (ih:ztb n) {s:ByteArray} {nm:Int} {p:Nat} {ks:List T} {B g:Nat} {l:List UInt8} {d:Nat} {kv:Value} {w:World} (hz:(T.mk 23 s nm p ks).size≤n+1) (hst:zsc B g l d w) (hpt:zPd B w) (hk:KAt 25 w ks (fun b=>b<B) kv) (hw:(T.mk 23 s nm p ks).whole) (hs:(T.mk 23 s nm p ks).small) (h5:(T.mk 23 s nm p ks).size≤5000) (hl:l.length+(shw d (T.mk 23 s nm p ks)).length≤140737488355328) :
  Calls Tryz.prog 31 #[.pointer (some ⟨g,0,none⟩),.agg #[.int .i64 23,.string s,.int .i64 nm,.int .i64 p,kv]] w (zka B g (l++shw d (T.mk 23 s nm p ks)) d w):=by
 have hX:shw d (T.mk 23 s nm p ks)=[110,101,119,32]++dec nm:=by rw [zva,if_neg (by omega)];first|rfl|(simp [zpa];done)|(simp [zpa,zrb];done)
 rw [hX] at hl ⊢
 have HFT:=zh (zAa.1 hw).1
 have HZ:=zh (show ks.length≤5000 from by rw [size_mk] at h5;have:=zua ks;omega)
 have HNB:=zh (zGa.1 hs).1.2
 have HKD:=zh (zCb ih hz h5 hw hs B g w.heap.size (w.heap.size+1) kv)
 have HL:=zh hl
 have hB:B≤w.heap.size:=by have:=hst.lt;have:=hst.ge;omega
 obtain ⟨W1,hW1,HN⟩:∃ W,(w.alloc (.cells [.pointer (some ⟨g,0,none⟩)].toArray 72)).alloc (.cells [.int .i64 23,.string s,.int .i64 nm,.int .i64 p,kv].toArray 25)=W∧Hid (Wn B g w.heap.size (w.heap.size+1) (T.mk 23 s nm p ks) kv l d W∧Below B w W∧Oth g w W) :=
  ⟨_,rfl,zh ⟨⟨(hst.alloc _).alloc _,(Blk.new w _ _).alloc _,Blk.zFd w _ _ _,(hk.alloc _).alloc _,hpt.step (((Below.refl B w).alloc hB _).alloc (by simp;omega) _)⟩,((Below.refl B w).alloc hB _).alloc (by simp;omega) _,((Oth.refl g w).alloc _).alloc _⟩⟩
 have b0:W1.cell? ⟨w.heap.size,0,none⟩=some (.pointer (some ⟨g,0,none⟩)):=HN.out.1.p.cell 0
 have n0:W1.cell? ⟨w.heap.size+1,0,none⟩=some (.int .i64 23):=HN.out.1.n.cell 0
 have n1:W1.cell? ⟨w.heap.size+1,1,none⟩=some (.string s):=HN.out.1.n.cell 1
 have n2:W1.cell? ⟨w.heap.size+1,2,none⟩=some (.int .i64 nm):=HN.out.1.n.cell 2
 have n3:W1.cell? ⟨w.heap.size+1,3,none⟩=some (.int .i64 p):=HN.out.1.n.cell 3
 have n4:W1.cell? ⟨w.heap.size+1,4,none⟩=some kv:=HN.out.1.n.cell 4
 clear hX hl hst hpt hk hw hs ih hz h5 hB
 go_enter Tryz.func31,Tryz.ntmps31
 go_wp2_with fail
 refine (zfr (show KAt 25 W1 ks (fun b=>b<B) kv from HN.out.1.k) HFT.out (by have:=HZ.out;omega)).mono ?_
 rintro e w2 ⟨rfl,hb⟩
 have HN2:=zh (HN.out.1.step (HN.out.1.st.below hb) (hb.mono HN.out.1.bz) (Oth.of_below hb))
 have HB2:=zh (HN.out.2.1.trans (hb.mono HN.out.1.bz))
 have HO2:=zh (HN.out.2.2.trans (Oth.of_below hb))
 have b0':w2.cell? ⟨w.heap.size,0,none⟩=some (.pointer (some ⟨g,0,none⟩)):=HN2.out.p.cell 0
 have n0':w2.cell? ⟨w.heap.size+1,0,none⟩=some (.int .i64 23):=HN2.out.n.cell 0
 have n1':w2.cell? ⟨w.heap.size+1,1,none⟩=some (.string s):=HN2.out.n.cell 1
 have n2':w2.cell? ⟨w.heap.size+1,2,none⟩=some (.int .i64 nm):=HN2.out.n.cell 2
 have n3':w2.cell? ⟨w.heap.size+1,3,none⟩=some (.int .i64 p):=HN2.out.n.cell 3
 have n4':w2.cell? ⟨w.heap.size+1,4,none⟩=some kv:=HN2.out.n.cell 4
 clear hb
 go_wp2_with fail
 refine (zdp HN2.out HKD.out HNB.out HL.out).mono ?_
 rintro e w3 ⟨rfl,h3,hb3,ho3⟩
 have HP:=zh (show zka B g (l++([110,101,119,32]++dec nm)) d w (.returned (.tuple #[])) w3 from ⟨rfl,h3,HB2.out.trans hb3,HO2.out.trans ho3⟩)
 clear h3 hb3 ho3
 go_wp2_with fail
 go_end0
 exact HP.out
theorem zop {n:Nat} (ih:ztb n) {s:ByteArray} {nm:Int} {p:Nat} {ks:List T} {B g:Nat} {l:List UInt8} {d:Nat} {kv:Value} {w:World} (hz:(T.mk 24 s nm p ks).size≤n+1) (hst:zsc B g l d w) (hpt:zPd B w) (hk:KAt 25 w ks (fun b=>b<B) kv) (hw:(T.mk 24 s nm p ks).whole) (hs:(T.mk 24 s nm p ks).small) (h5:(T.mk 24 s nm p ks).size≤5000) (hl:l.length+(shw d (T.mk 24 s nm p ks)).length≤140737488355328) :
  Calls Tryz.prog 31 #[.pointer (some ⟨g,0,none⟩),.agg #[.int .i64 24,.string s,.int .i64 nm,.int .i64 p,kv]] w (zka B g (l++shw d (T.mk 24 s nm p ks)) d w):=by
 have hX:shw d (T.mk 24 s nm p ks)=[97,114,114,97,121,32]++tb s:=by rw [zva,if_neg (by omega)];first|rfl|(simp [zpa];done)|(simp [zpa,zrb];done)
 rw [hX] at hl ⊢
 have HFT:=zh (zAa.1 hw).1
 have HZ:=zh (show ks.length≤5000 from by rw [size_mk] at h5;have:=zua ks;omega)
 have HNB:=zh (zGa.1 hs).1.2
 have HKD:=zh (zCb ih hz h5 hw hs B g w.heap.size (w.heap.size+1) kv)
 have HL:=zh hl
 have hB:B≤w.heap.size:=by have:=hst.lt;have:=hst.ge;omega
 obtain ⟨W1,hW1,HN⟩:∃ W,(w.alloc (.cells [.pointer (some ⟨g,0,none⟩)].toArray 72)).alloc (.cells [.int .i64 24,.string s,.int .i64 nm,.int .i64 p,kv].toArray 25)=W∧Hid (Wn B g w.heap.size (w.heap.size+1) (T.mk 24 s nm p ks) kv l d W∧Below B w W∧Oth g w W) :=
  ⟨_,rfl,zh ⟨⟨(hst.alloc _).alloc _,(Blk.new w _ _).alloc _,Blk.zFd w _ _ _,(hk.alloc _).alloc _,hpt.step (((Below.refl B w).alloc hB _).alloc (by simp;omega) _)⟩,((Below.refl B w).alloc hB _).alloc (by simp;omega) _,((Oth.refl g w).alloc _).alloc _⟩⟩
 have b0:W1.cell? ⟨w.heap.size,0,none⟩=some (.pointer (some ⟨g,0,none⟩)):=HN.out.1.p.cell 0
 have n0:W1.cell? ⟨w.heap.size+1,0,none⟩=some (.int .i64 24):=HN.out.1.n.cell 0
 have n1:W1.cell? ⟨w.heap.size+1,1,none⟩=some (.string s):=HN.out.1.n.cell 1
 have n2:W1.cell? ⟨w.heap.size+1,2,none⟩=some (.int .i64 nm):=HN.out.1.n.cell 2
 have n3:W1.cell? ⟨w.heap.size+1,3,none⟩=some (.int .i64 p):=HN.out.1.n.cell 3
 have n4:W1.cell? ⟨w.heap.size+1,4,none⟩=some kv:=HN.out.1.n.cell 4
 clear hX hl hst hpt hk hw hs ih hz h5 hB
 go_enter Tryz.func31,Tryz.ntmps31
 go_wp2_with fail
 refine (zGq (show KAt 25 W1 ks (fun b=>b<B) kv from HN.out.1.k) HFT.out (by have:=HZ.out;omega)).mono ?_
 rintro e w2 ⟨rfl,hb⟩
 have HN2:=zh (HN.out.1.step (HN.out.1.st.below hb) (hb.mono HN.out.1.bz) (Oth.of_below hb))
 have HB2:=zh (HN.out.2.1.trans (hb.mono HN.out.1.bz))
 have HO2:=zh (HN.out.2.2.trans (Oth.of_below hb))
 have b0':w2.cell? ⟨w.heap.size,0,none⟩=some (.pointer (some ⟨g,0,none⟩)):=HN2.out.p.cell 0
 have n0':w2.cell? ⟨w.heap.size+1,0,none⟩=some (.int .i64 24):=HN2.out.n.cell 0
 have n1':w2.cell? ⟨w.heap.size+1,1,none⟩=some (.string s):=HN2.out.n.cell 1
 have n2':w2.cell? ⟨w.heap.size+1,2,none⟩=some (.int .i64 nm):=HN2.out.n.cell 2
 have n3':w2.cell? ⟨w.heap.size+1,3,none⟩=some (.int .i64 p):=HN2.out.n.cell 3
 have n4':w2.cell? ⟨w.heap.size+1,4,none⟩=some kv:=HN2.out.n.cell 4
 clear hb
 go_wp2_with fail
 refine (zPo HN2.out HKD.out  HL.out).mono ?_
 rintro e w3 ⟨rfl,h3,hb3,ho3⟩
 have HP:=zh (show zka B g (l++([97,114,114,97,121,32]++tb s)) d w (.returned (.tuple #[])) w3 from ⟨rfl,h3,HB2.out.trans hb3,HO2.out.trans ho3⟩)
 clear h3 hb3 ho3
 go_wp2_with fail
 go_end0
 exact HP.out
theorem zLo {n:Nat} (ih:ztb n) {s:ByteArray} {nm:Int} {p:Nat} {a:T} {B g:Nat} {l:List UInt8} {d:Nat} {kv:Value} {w:World} (hz:(T.mk 25 s nm p [a]).size≤n+1) (hst:zsc B g l d w) (hpt:zPd B w) (hk:KAt 25 w [a] (fun b=>b<B) kv) (hw:(T.mk 25 s nm p [a]).whole) (hs:(T.mk 25 s nm p [a]).small) (h5:(T.mk 25 s nm p [a]).size≤5000) (hl:l.length+(shw d (T.mk 25 s nm p [a])).length≤140737488355328) :
  Calls Tryz.prog 31 #[.pointer (some ⟨g,0,none⟩),.agg #[.int .i64 25,.string s,.int .i64 nm,.int .i64 p,kv]] w (zka B g (l++shw d (T.mk 25 s nm p [a])) d w):=by
 have hX:shw d (T.mk 25 s nm p [a])=tb s++([91]++(shw d a++[93])):=by rw [zva,if_neg (by omega),zya,zSa];first|rfl|(simp [zpa];done)|(simp [zpa,zrb];done)
 rw [hX] at hl ⊢
 have HFT:=zh (zAa.1 hw).1
 have HZ:=zh (show [a].length≤5000 from by rw [size_mk] at h5;have:=zua [a];omega)
 have HNB:=zh (zGa.1 hs).1.2
 have HKD:=zh (zCb ih hz h5 hw hs B g w.heap.size (w.heap.size+1) kv)
 have HL:=zh hl
 have hB:B≤w.heap.size:=by have:=hst.lt;have:=hst.ge;omega
 obtain ⟨W1,hW1,HN⟩:∃ W,(w.alloc (.cells [.pointer (some ⟨g,0,none⟩)].toArray 72)).alloc (.cells [.int .i64 25,.string s,.int .i64 nm,.int .i64 p,kv].toArray 25)=W∧Hid (Wn B g w.heap.size (w.heap.size+1) (T.mk 25 s nm p [a]) kv l d W∧Below B w W∧Oth g w W) :=
  ⟨_,rfl,zh ⟨⟨(hst.alloc _).alloc _,(Blk.new w _ _).alloc _,Blk.zFd w _ _ _,(hk.alloc _).alloc _,hpt.step (((Below.refl B w).alloc hB _).alloc (by simp;omega) _)⟩,((Below.refl B w).alloc hB _).alloc (by simp;omega) _,((Oth.refl g w).alloc _).alloc _⟩⟩
 have b0:W1.cell? ⟨w.heap.size,0,none⟩=some (.pointer (some ⟨g,0,none⟩)):=HN.out.1.p.cell 0
 have n0:W1.cell? ⟨w.heap.size+1,0,none⟩=some (.int .i64 25):=HN.out.1.n.cell 0
 have n1:W1.cell? ⟨w.heap.size+1,1,none⟩=some (.string s):=HN.out.1.n.cell 1
 have n2:W1.cell? ⟨w.heap.size+1,2,none⟩=some (.int .i64 nm):=HN.out.1.n.cell 2
 have n3:W1.cell? ⟨w.heap.size+1,3,none⟩=some (.int .i64 p):=HN.out.1.n.cell 3
 have n4:W1.cell? ⟨w.heap.size+1,4,none⟩=some kv:=HN.out.1.n.cell 4
 clear hX hl hst hpt hk hw hs ih hz h5 hB
 go_enter Tryz.func31,Tryz.ntmps31
 go_wp2_with fail
 refine (zyq (show KAt 25 W1 [a] (fun b=>b<B) kv from HN.out.1.k) HFT.out (by have:=HZ.out;omega)).mono ?_
 rintro e w2 ⟨rfl,hb⟩
 have HN2:=zh (HN.out.1.step (HN.out.1.st.below hb) (hb.mono HN.out.1.bz) (Oth.of_below hb))
 have HB2:=zh (HN.out.2.1.trans (hb.mono HN.out.1.bz))
 have HO2:=zh (HN.out.2.2.trans (Oth.of_below hb))
 have b0':w2.cell? ⟨w.heap.size,0,none⟩=some (.pointer (some ⟨g,0,none⟩)):=HN2.out.p.cell 0
 have n0':w2.cell? ⟨w.heap.size+1,0,none⟩=some (.int .i64 25):=HN2.out.n.cell 0
 have n1':w2.cell? ⟨w.heap.size+1,1,none⟩=some (.string s):=HN2.out.n.cell 1
 have n2':w2.cell? ⟨w.heap.size+1,2,none⟩=some (.int .i64 nm):=HN2.out.n.cell 2
 have n3':w2.cell? ⟨w.heap.size+1,3,none⟩=some (.int .i64 p):=HN2.out.n.cell 3
 have n4':w2.cell? ⟨w.heap.size+1,4,none⟩=some kv:=HN2.out.n.cell 4
 clear hb
 go_wp2_with fail
 refine (znq HN2.out HKD.out rfl HL.out).mono ?_
 rintro e w3 ⟨rfl,h3,hb3,ho3⟩
 have HP:=zh (show zka B g (l++(tb s++([91]++(shw d a++[93])))) d w (.returned (.tuple #[])) w3 from ⟨rfl,h3,HB2.out.trans hb3,HO2.out.trans ho3⟩)
 clear h3 hb3 ho3
 go_wp2_with fail
 go_end0
 exact HP.out
theorem zlq {n:Nat} (ih:ztb n) {s:ByteArray} {nm:Int} {p:Nat} {ks:List T} {B g:Nat} {l:List UInt8} {d:Nat} {kv:Value} {w:World} (hz:(T.mk 26 s nm p ks).size≤n+1) (hst:zsc B g l d w) (hpt:zPd B w) (hk:KAt 25 w ks (fun b=>b<B) kv) (hw:(T.mk 26 s nm p ks).whole) (hs:(T.mk 26 s nm p ks).small) (h5:(T.mk 26 s nm p ks).size≤5000) (hl:l.length+(shw d (T.mk 26 s nm p ks)).length≤140737488355328) :
  Calls Tryz.prog 31 #[.pointer (some ⟨g,0,none⟩),.agg #[.int .i64 26,.string s,.int .i64 nm,.int .i64 p,kv]] w (zka B g (l++shw d (T.mk 26 s nm p ks)) d w):=by
 have hX:shw d (T.mk 26 s nm p ks)=[38]++tb s:=by rw [zva,if_neg (by omega)];first|rfl|(simp [zpa];done)|(simp [zpa,zrb];done)
 rw [hX] at hl ⊢
 have HFT:=zh (zAa.1 hw).1
 have HZ:=zh (show ks.length≤5000 from by rw [size_mk] at h5;have:=zua ks;omega)
 have HNB:=zh (zGa.1 hs).1.2
 have HKD:=zh (zCb ih hz h5 hw hs B g w.heap.size (w.heap.size+1) kv)
 have HL:=zh hl
 have hB:B≤w.heap.size:=by have:=hst.lt;have:=hst.ge;omega
 obtain ⟨W1,hW1,HN⟩:∃ W,(w.alloc (.cells [.pointer (some ⟨g,0,none⟩)].toArray 72)).alloc (.cells [.int .i64 26,.string s,.int .i64 nm,.int .i64 p,kv].toArray 25)=W∧Hid (Wn B g w.heap.size (w.heap.size+1) (T.mk 26 s nm p ks) kv l d W∧Below B w W∧Oth g w W) :=
  ⟨_,rfl,zh ⟨⟨(hst.alloc _).alloc _,(Blk.new w _ _).alloc _,Blk.zFd w _ _ _,(hk.alloc _).alloc _,hpt.step (((Below.refl B w).alloc hB _).alloc (by simp;omega) _)⟩,((Below.refl B w).alloc hB _).alloc (by simp;omega) _,((Oth.refl g w).alloc _).alloc _⟩⟩
 have b0:W1.cell? ⟨w.heap.size,0,none⟩=some (.pointer (some ⟨g,0,none⟩)):=HN.out.1.p.cell 0
 have n0:W1.cell? ⟨w.heap.size+1,0,none⟩=some (.int .i64 26):=HN.out.1.n.cell 0
 have n1:W1.cell? ⟨w.heap.size+1,1,none⟩=some (.string s):=HN.out.1.n.cell 1
 have n2:W1.cell? ⟨w.heap.size+1,2,none⟩=some (.int .i64 nm):=HN.out.1.n.cell 2
 have n3:W1.cell? ⟨w.heap.size+1,3,none⟩=some (.int .i64 p):=HN.out.1.n.cell 3
 have n4:W1.cell? ⟨w.heap.size+1,4,none⟩=some kv:=HN.out.1.n.cell 4
 clear hX hl hst hpt hk hw hs ih hz h5 hB
 go_enter Tryz.func31,Tryz.ntmps31
 go_wp2_with fail
 refine (zHr (show KAt 25 W1 ks (fun b=>b<B) kv from HN.out.1.k) HFT.out (by have:=HZ.out;omega)).mono ?_
 rintro e w2 ⟨rfl,hb⟩
 have HN2:=zh (HN.out.1.step (HN.out.1.st.below hb) (hb.mono HN.out.1.bz) (Oth.of_below hb))
 have HB2:=zh (HN.out.2.1.trans (hb.mono HN.out.1.bz))
 have HO2:=zh (HN.out.2.2.trans (Oth.of_below hb))
 have b0':w2.cell? ⟨w.heap.size,0,none⟩=some (.pointer (some ⟨g,0,none⟩)):=HN2.out.p.cell 0
 have n0':w2.cell? ⟨w.heap.size+1,0,none⟩=some (.int .i64 26):=HN2.out.n.cell 0
 have n1':w2.cell? ⟨w.heap.size+1,1,none⟩=some (.string s):=HN2.out.n.cell 1
 have n2':w2.cell? ⟨w.heap.size+1,2,none⟩=some (.int .i64 nm):=HN2.out.n.cell 2
 have n3':w2.cell? ⟨w.heap.size+1,3,none⟩=some (.int .i64 p):=HN2.out.n.cell 3
 have n4':w2.cell? ⟨w.heap.size+1,4,none⟩=some kv:=HN2.out.n.cell 4
 clear hb
 go_wp2_with fail
 refine (zkq HN2.out HKD.out  HL.out).mono ?_
 rintro e w3 ⟨rfl,h3,hb3,ho3⟩
 have HP:=zh (show zka B g (l++([38]++tb s)) d w (.returned (.tuple #[])) w3 from ⟨rfl,h3,HB2.out.trans hb3,HO2.out.trans ho3⟩)
 clear h3 hb3 ho3
 go_wp2_with fail
 go_end0
 exact HP.out
theorem zGp {n:Nat} (ih:ztb n) {s:ByteArray} {nm:Int} {p:Nat} {ks:List T} {B g:Nat} {l:List UInt8} {d:Nat} {kv:Value} {w:World} (hz:(T.mk 27 s nm p ks).size≤n+1) (hst:zsc B g l d w) (hpt:zPd B w) (hk:KAt 25 w ks (fun b=>b<B) kv) (hw:(T.mk 27 s nm p ks).whole) (hs:(T.mk 27 s nm p ks).small) (h5:(T.mk 27 s nm p ks).size≤5000) (hl:l.length+(shw d (T.mk 27 s nm p ks)).length≤140737488355328) :
  Calls Tryz.prog 31 #[.pointer (some ⟨g,0,none⟩),.agg #[.int .i64 27,.string s,.int .i64 nm,.int .i64 p,kv]] w (zka B g (l++shw d (T.mk 27 s nm p ks)) d w):=by
 have hX:shw d (T.mk 27 s nm p ks)=[38,109,117,116,32]++tb s:=by rw [zva,if_neg (by omega)];first|rfl|(simp [zpa];done)|(simp [zpa,zrb];done)
 rw [hX] at hl ⊢
 have HFT:=zh (zAa.1 hw).1
 have HZ:=zh (show ks.length≤5000 from by rw [size_mk] at h5;have:=zua ks;omega)
 have HNB:=zh (zGa.1 hs).1.2
 have HKD:=zh (zCb ih hz h5 hw hs B g w.heap.size (w.heap.size+1) kv)
 have HL:=zh hl
 have hB:B≤w.heap.size:=by have:=hst.lt;have:=hst.ge;omega
 obtain ⟨W1,hW1,HN⟩:∃ W,(w.alloc (.cells [.pointer (some ⟨g,0,none⟩)].toArray 72)).alloc (.cells [.int .i64 27,.string s,.int .i64 nm,.int .i64 p,kv].toArray 25)=W∧Hid (Wn B g w.heap.size (w.heap.size+1) (T.mk 27 s nm p ks) kv l d W∧Below B w W∧Oth g w W) :=
  ⟨_,rfl,zh ⟨⟨(hst.alloc _).alloc _,(Blk.new w _ _).alloc _,Blk.zFd w _ _ _,(hk.alloc _).alloc _,hpt.step (((Below.refl B w).alloc hB _).alloc (by simp;omega) _)⟩,((Below.refl B w).alloc hB _).alloc (by simp;omega) _,((Oth.refl g w).alloc _).alloc _⟩⟩
 have b0:W1.cell? ⟨w.heap.size,0,none⟩=some (.pointer (some ⟨g,0,none⟩)):=HN.out.1.p.cell 0
 have n0:W1.cell? ⟨w.heap.size+1,0,none⟩=some (.int .i64 27):=HN.out.1.n.cell 0
 have n1:W1.cell? ⟨w.heap.size+1,1,none⟩=some (.string s):=HN.out.1.n.cell 1
 have n2:W1.cell? ⟨w.heap.size+1,2,none⟩=some (.int .i64 nm):=HN.out.1.n.cell 2
 have n3:W1.cell? ⟨w.heap.size+1,3,none⟩=some (.int .i64 p):=HN.out.1.n.cell 3
 have n4:W1.cell? ⟨w.heap.size+1,4,none⟩=some kv:=HN.out.1.n.cell 4
 clear hX hl hst hpt hk hw hs ih hz h5 hB
 go_enter Tryz.func31,Tryz.ntmps31
 go_wp2_with fail
 refine (zsq (show KAt 25 W1 ks (fun b=>b<B) kv from HN.out.1.k) HFT.out (by have:=HZ.out;omega)).mono ?_
 rintro e w2 ⟨rfl,hb⟩
 have HN2:=zh (HN.out.1.step (HN.out.1.st.below hb) (hb.mono HN.out.1.bz) (Oth.of_below hb))
 have HB2:=zh (HN.out.2.1.trans (hb.mono HN.out.1.bz))
 have HO2:=zh (HN.out.2.2.trans (Oth.of_below hb))
 have b0':w2.cell? ⟨w.heap.size,0,none⟩=some (.pointer (some ⟨g,0,none⟩)):=HN2.out.p.cell 0
 have n0':w2.cell? ⟨w.heap.size+1,0,none⟩=some (.int .i64 27):=HN2.out.n.cell 0
 have n1':w2.cell? ⟨w.heap.size+1,1,none⟩=some (.string s):=HN2.out.n.cell 1
 have n2':w2.cell? ⟨w.heap.size+1,2,none⟩=some (.int .i64 nm):=HN2.out.n.cell 2
 have n3':w2.cell? ⟨w.heap.size+1,3,none⟩=some (.int .i64 p):=HN2.out.n.cell 3
 have n4':w2.cell? ⟨w.heap.size+1,4,none⟩=some kv:=HN2.out.n.cell 4
 clear hb
 go_wp2_with fail
 refine (zmp HN2.out HKD.out  HL.out).mono ?_
 rintro e w3 ⟨rfl,h3,hb3,ho3⟩
 have HP:=zh (show zka B g (l++([38,109,117,116,32]++tb s)) d w (.returned (.tuple #[])) w3 from ⟨rfl,h3,HB2.out.trans hb3,HO2.out.trans ho3⟩)
 clear h3 hb3 ho3
 go_wp2_with fail
 go_end0
 exact HP.out
theorem zXo {n:Nat} (ih:ztb n) {s:ByteArray} {nm:Int} {p:Nat} {ks:List T} {B g:Nat} {l:List UInt8} {d:Nat} {kv:Value} {w:World} (hz:(T.mk 28 s nm p ks).size≤n+1) (hst:zsc B g l d w) (hpt:zPd B w) (hk:KAt 25 w ks (fun b=>b<B) kv) (hw:(T.mk 28 s nm p ks).whole) (hs:(T.mk 28 s nm p ks).small) (h5:(T.mk 28 s nm p ks).size≤5000) (hl:l.length+(shw d (T.mk 28 s nm p ks)).length≤140737488355328) :
  Calls Tryz.prog 31 #[.pointer (some ⟨g,0,none⟩),.agg #[.int .i64 28,.string s,.int .i64 nm,.int .i64 p,kv]] w (zka B g (l++shw d (T.mk 28 s nm p ks)) d w):=by
 have hX:shw d (T.mk 28 s nm p ks)=zUb (tb s) (zQa d ks):=by rw [zva,if_neg (by omega)];first|rfl|(simp [zpa];done)|(simp [zpa,zrb];done)
 rw [hX] at hl ⊢
 have HFT:=zh (zAa.1 hw).1
 have HZ:=zh (show ks.length≤5000 from by rw [size_mk] at h5;have:=zua ks;omega)
 have HNB:=zh (zGa.1 hs).1.2
 have HKD:=zh (zCb ih hz h5 hw hs B g w.heap.size (w.heap.size+1) kv)
 have HL:=zh hl
 have hB:B≤w.heap.size:=by have:=hst.lt;have:=hst.ge;omega
 obtain ⟨W1,hW1,HN⟩:∃ W,(w.alloc (.cells [.pointer (some ⟨g,0,none⟩)].toArray 72)).alloc (.cells [.int .i64 28,.string s,.int .i64 nm,.int .i64 p,kv].toArray 25)=W∧Hid (Wn B g w.heap.size (w.heap.size+1) (T.mk 28 s nm p ks) kv l d W∧Below B w W∧Oth g w W) :=
  ⟨_,rfl,zh ⟨⟨(hst.alloc _).alloc _,(Blk.new w _ _).alloc _,Blk.zFd w _ _ _,(hk.alloc _).alloc _,hpt.step (((Below.refl B w).alloc hB _).alloc (by simp;omega) _)⟩,((Below.refl B w).alloc hB _).alloc (by simp;omega) _,((Oth.refl g w).alloc _).alloc _⟩⟩
 have b0:W1.cell? ⟨w.heap.size,0,none⟩=some (.pointer (some ⟨g,0,none⟩)):=HN.out.1.p.cell 0
 have n0:W1.cell? ⟨w.heap.size+1,0,none⟩=some (.int .i64 28):=HN.out.1.n.cell 0
 have n1:W1.cell? ⟨w.heap.size+1,1,none⟩=some (.string s):=HN.out.1.n.cell 1
 have n2:W1.cell? ⟨w.heap.size+1,2,none⟩=some (.int .i64 nm):=HN.out.1.n.cell 2
 have n3:W1.cell? ⟨w.heap.size+1,3,none⟩=some (.int .i64 p):=HN.out.1.n.cell 3
 have n4:W1.cell? ⟨w.heap.size+1,4,none⟩=some kv:=HN.out.1.n.cell 4
 clear hX hl hst hpt hk hw hs ih hz h5 hB
 go_enter Tryz.func31,Tryz.ntmps31
 go_wp2_with fail
 refine (zwr (show KAt 25 W1 ks (fun b=>b<B) kv from HN.out.1.k) HFT.out (by have:=HZ.out;omega)).mono ?_
 rintro e w2 ⟨rfl,hb⟩
 have HN2:=zh (HN.out.1.step (HN.out.1.st.below hb) (hb.mono HN.out.1.bz) (Oth.of_below hb))
 have HB2:=zh (HN.out.2.1.trans (hb.mono HN.out.1.bz))
 have HO2:=zh (HN.out.2.2.trans (Oth.of_below hb))
 have b0':w2.cell? ⟨w.heap.size,0,none⟩=some (.pointer (some ⟨g,0,none⟩)):=HN2.out.p.cell 0
 have n0':w2.cell? ⟨w.heap.size+1,0,none⟩=some (.int .i64 28):=HN2.out.n.cell 0
 have n1':w2.cell? ⟨w.heap.size+1,1,none⟩=some (.string s):=HN2.out.n.cell 1
 have n2':w2.cell? ⟨w.heap.size+1,2,none⟩=some (.int .i64 nm):=HN2.out.n.cell 2
 have n3':w2.cell? ⟨w.heap.size+1,3,none⟩=some (.int .i64 p):=HN2.out.n.cell 3
 have n4':w2.cell? ⟨w.heap.size+1,4,none⟩=some kv:=HN2.out.n.cell 4
 clear hb
 go_wp2_with fail
 refine (zbp HN2.out HKD.out (by have:=HZ.out;omega) HL.out).mono ?_
 rintro e w3 ⟨rfl,h3,hb3,ho3⟩
 have HP:=zh (show zka B g (l++(zUb (tb s) (zQa d ks))) d w (.returned (.tuple #[])) w3 from ⟨rfl,h3,HB2.out.trans hb3,HO2.out.trans ho3⟩)
 clear h3 hb3 ho3
 go_wp2_with fail
 go_end0
 exact HP.out
end Go.Proofs.YthdbmgijpelecaaGreatDoor
namespace Go.Proofs.YthdbmgijpelecaaGreatDoor
set_option maxRecDepth 100000
set_option maxHeartbeats 2000000
open Go.RowKit
theorem zlk:∀ n:Nat,ztb n
 | 0=>by
  intro t B g l d kv w hz
  cases t
  rw [size_mk] at hz
  omega
 | n+1=>by
  have ih:=zlk n
  rintro ⟨k,s,nm,p,ks⟩ B g l d kv w hz hst hpt hk hw hs h5 hl
  have hf:=(zAa.1 hw).1
  cases hf with
  | unit e _=>subst e;exact zJq ih hz hst hpt hk hw hs h5 hl
  | type e _ _ _=>subst e;exact zAq ih hz hst hpt hk hw hs h5 hl
  | none e =>
   rcases e with rfl|rfl|rfl|rfl
   ·exact zxo ih hz hst hpt hk hw hs h5 hl
   ·exact zro ih hz hst hpt hk hw hs h5 hl
   ·exact zmo ih hz hst hpt hk hw hs h5 hl
   ·exact zHl ih hz hst hpt hk hw hs h5 hl
  | one e _ =>
   rcases e with rfl|rfl|rfl|rfl
   ·exact zxo ih hz hst hpt hk hw hs h5 hl
   ·exact zro ih hz hst hpt hk hw hs h5 hl
   ·exact zmo ih hz hst hpt hk hw hs h5 hl
   ·exact zHl ih hz hst hpt hk hw hs h5 hl
  | two e _ _ =>
   rcases e with rfl|rfl|rfl|rfl
   ·exact zNr ih hz hst hpt hk hw hs h5 hl
   ·exact zQo ih hz hst hpt hk hw hs h5 hl
   ·exact zSo ih hz hst hpt hk hw hs h5 hl
   ·exact zup ih hz hst hpt hk hw hs h5 hl
  | fn e _ _ _=>subst e;exact zMq ih hz hst hpt hk hw hs h5 hl
  | param e _=>subst e;exact zZq ih hz hst hpt hk hw hs h5 hl
  | block e _=>subst e;exact zFq ih hz hst hpt hk hw hs h5 hl
  | set e _=>subst e;exact zZp ih hz hst hpt hk hw hs h5 hl
  | cond e _ _ _ _=>subst e;exact zQp ih hz hst hpt hk hw hs h5 hl
  | loop e _ _ _=>subst e;exact zjq ih hz hst hpt hk hw hs h5 hl
  | call1 e _=>subst e;exact zFo ih hz hst hpt hk hw hs h5 hl
  | load e _=>subst e;exact zLo ih hz hst hpt hk hw hs h5 hl
  | call e _ =>
   rcases e with rfl|rfl
   ·exact zBp ih hz hst hpt hk hw hs h5 hl
   ·exact zXo ih hz hst hpt hk hw hs h5 hl
  | leaf e =>
   rcases e with rfl|rfl|rfl|rfl|rfl|rfl|rfl|rfl|rfl
   ·exact zpr ih hz hst hpt hk hw hs h5 hl
   ·exact zkp ih hz hst hpt hk hw hs h5 hl
   ·exact zfq ih hz hst hpt hk hw hs h5 hl
   ·exact zPp ih hz hst hpt hk hw hs h5 hl
   ·exact zXp ih hz hst hpt hk hw hs h5 hl
   ·exact zJo ih hz hst hpt hk hw hs h5 hl
   ·exact zop ih hz hst hpt hk hw hs h5 hl
   ·exact zlq ih hz hst hpt hk hw hs h5 hl
   ·exact zGp ih hz hst hpt hk hw hs h5 hl
def Pow (w:World):Prop:=zPd w.heap.size w
theorem zqk {w:World} {t:T} {S:Nat→Prop} {kv:Value} (hk:KAt 25 w t.kids S kv) (hp:Pow w) (hw:t.whole) (hs:t.small) (hz:t.size≤5000) :
  Calls Tryz.prog 13 #[.agg #[.int .i64 t.kind,.string t.text,.int .i64 t.num,.int .i64 t.place,kv]] w fun e w'=>e=.returned (.string ⟨(shw 0 t).toArray⟩)∧Below w.heap.size w w':=by
 have HK:=zh (show KAt 25 w t.kids (fun b=>b<w.heap.size) kv from hk.keep fun b _ hl=>⟨hl,rfl⟩)
 have HW:=zh hw
 have HS:=zh hs
 have HBD:=zh (zRi (d:=0) hs hw hz (by omega))
 obtain ⟨W1,hW1,H1⟩:∃ W,(w.alloc (.cells [.int .i64 t.kind,.string t.text,.int .i64 t.num,.int .i64 t.place,kv].toArray 25)).alloc (.cells [.pointer none,.slice none 0 0,.int .i64 0].toArray 78)=W∧Hid (zsc w.heap.size (w.heap.size+1) [] 0 W∧Below w.heap.size w W∧zPd w.heap.size W∧KAt 25 W t.kids (fun b=>b<w.heap.size) kv∧Blk W w.heap.size (zaa t kv) 25):=by
  have hb:Below w.heap.size w ((w.alloc (.cells [.int .i64 t.kind,.string t.text,.int .i64 t.num,.int .i64 t.place,kv].toArray 25)).alloc (.cells [.pointer none,.slice none 0 0,.int .i64 0].toArray 78)):=((Below.refl _ _).alloc (Nat.le_refl _) _).alloc (by simp) _
  exact ⟨_,rfl,zh ⟨.inl ⟨by omega,.slice none 0 0,Blk.zFd w _ _ _,World.ownsRow_nil _ _ _ _,fun _=>rfl⟩,hb,hp.step hb,HK.out.below hb,(Blk.new w (zaa t kv) 25).alloc _⟩⟩
 have n0:W1.cell? ⟨w.heap.size,0,none⟩=some (.int .i64 t.kind):=H1.out.2.2.2.2.cell 0
 have n1:W1.cell? ⟨w.heap.size,1,none⟩=some (.string t.text):=H1.out.2.2.2.2.cell 1
 have n2:W1.cell? ⟨w.heap.size,2,none⟩=some (.int .i64 t.num):=H1.out.2.2.2.2.cell 2
 have n3:W1.cell? ⟨w.heap.size,3,none⟩=some (.int .i64 t.place):=H1.out.2.2.2.2.cell 3
 have n4:W1.cell? ⟨w.heap.size,4,none⟩=some kv:=H1.out.2.2.2.2.cell 4
 clear hk hw hs hp
 go_enter Tryz.func13,Tryz.ntmps13
 go_wp2_with fail
 refine (zlk t.size t w.heap.size (w.heap.size+1) [] 0 kv W1 (Nat.le_refl _) H1.out.1 H1.out.2.2.1 H1.out.2.2.2.1 HW.out HS.out hz (by have:=HBD.out;simp;omega)).mono ?_
 rintro e w2 ⟨rfl,h2,hb2,ho2⟩
 have H2:=zh h2
 have HB2:=zh (H1.out.2.1.trans hb2)
 clear h2 hb2 ho2
 go_wp2_with fail
 refine (zil H2.out).mono ?_
 rintro e w3 ⟨rfl,hb3⟩
 have HB3:=zh (HB2.out.trans hb3)
 clear hb3
 go_wp2_with fail
 go_ret
 exact ⟨rfl,HB3.out⟩
end Go.Proofs.YthdbmgijpelecaaGreatDoor
namespace Go.Proofs.YthdbmgijpelecaaGreatDoor
set_option maxRecDepth 100000
open Go.ChangeShapes Go.WideShapes Go.ChangeAt Go.ChangeMaps Go.RowKit
def zVi:List (String × DataW Unit):=[("math/bits.deBruijn32tab", Rows.laid_math_bits_deBruijn32tab),("math/bits.deBruijn64tab", Rows.laid_math_bits_deBruijn64tab),("internal/strconv.uint64pow10", Rows.laid_internal_strconv_uint64pow10),("lychgate/lex.keys", Rows.laid_lychgate_lex_keys),("lychgate/lex.blanks", Rows.laid_lychgate_lex_blanks),("lychgate/lex.pairs", Rows.laid_lychgate_lex_pairs)]
def zlr (x:String × DataW Unit):Bool:=x.1 == "lychgate/lex.keys" || x.1 == "lychgate/lex.blanks" || x.1 == "lychgate/lex.pairs"
def zmr (x:String × DataW Unit):Bool:=x.1 == "internal/strconv.uint64pow10"
theorem zvm:zVi.filter zlr=zkr:=by kernel_rfl
theorem zEl:zVi.filter zmr=[("internal/strconv.uint64pow10", Lib.tabData .u64 Lib.pow10Tab)]:=by kernel_rfl
theorem zhf {W:World} (h:laidMetH Tryz.prog zVi W):Tabs W:=by
 have h1:=h.filter zlr
 rw [zvm] at h1
 exact zlj h1
theorem tPow:(Tryz.prog.globals[4]?).map (·.type)=some 210:=by kernel_rfl
theorem cU64:Tryz.prog.cellsOf 171=1:=by kernel_rfl
theorem cPow:Tryz.prog.cellsOf 210=20:=by kernel_rfl
theorem zgg {W:World} (h:laidMetH Tryz.prog zVi W):Pow W:=by
 have h1:=h.filter zmr
 rw [zEl,MakeChecks.laidMetH_plain _ _ _ (by kernel_rfl)] at h1
 have h2:=Lib.tabIs_of_head gPow tPow Tryz.underlying210 Tryz.underlying171 cU64 cPow h1
 exact ⟨cell_lt (h2.cell gPow 0 (by decide)),h2⟩
theorem Pow.later {W W':World} (h:Pow W) (hb:Below W.heap.size W W'):Pow W':=⟨Nat.lt_of_lt_of_le h.1 hb.size,(zPd.step h hb).2⟩
def zXr:DataW Unit→Value
 | .lit (.int k z)=>.int k z
 | _=>.bool false
def zqi:DataW Unit→Array Value
 | .agg ds=>(ds.map zXr).toArray
 | _=>#[]
noncomputable def laidWorld6 (os:Os):World :=
 { laidWorld os with heap:=(((laidWorld os).heap.modify 5 (laying (zqi Rows.laid_math_bits_deBruijn32tab))).modify 6 (laying (zqi Rows.laid_math_bits_deBruijn64tab))).modify 4 (laying (zqi Rows.laid_internal_strconv_uint64pow10)) }
theorem zOe (os:Os):laidMet Tryz.prog zVi ((laidWorld6 os).forCall (fun _ _=>0) ⟨#[],#[.string ⟨#[]⟩],[]⟩).memory :=
 laidMet_of_run' 8 (by kernel_rfl) (by kernel_rfl)
theorem zNf (os:Os):laidMet Tryz.prog zVi ((laidWorld6 os).forCall (fun _ _=>0) ⟨#[],#[.string ⟨#[]⟩,.int .i64 0],[]⟩).memory :=
 laidMet_of_run' 8 (by kernel_rfl) (by kernel_rfl)
theorem zUe {H:Type} {enc:TypeId × Value→H} {f:FuncId} {fn:Func} {sp:ChangeSpec} {ts:List TypeId} (hp:fn.params=#[9]) (hr:fn.resultTypes=#[4]) (hvars:sp.vars=[])
  (hfn:∀ d:DataW H,sp.fn H [d]={ results:=[.lit (.bool true)],args:=[d] })
  (walk:∀ (s:ByteArray) (w:World),s.size≤maxLen→s.size≤140737488351232→Tabs w→Pow w→Calls Tryz.prog f #[.string s] w fun e w'=>e=.returned (.bool true)∧Below w.heap.size w w')
  (W:World) (base:Nat) (args:Array Value) (ds gs:List (DataW H)) (before:List MemPlace)
  (hval:∀ (j:Nat) t v,fn.params[j]?=some t→args[j]?=some v→Value.okWide Tryz.prog W .any base t v)
  (hW:DataW.Whole enc Tryz.prog fn.params.toList sp.vars false W args.toList ds gs before) (hreach:(DataW.weightsEach Tryz.prog (fn.params.toList++ts) (ds++gs)).all (·≤reachBytes)=true) (hL:laidMetH Tryz.prog zVi W) :
  Calls Tryz.prog f args W fun e W'=>∃ v,e=.returned v∧sp.post enc Tryz.prog fn false true false false W args v W':=by
 have hW':=hW
 obtain ⟨p,q,hA0,hV,rfl,hfz,hnd⟩:=hW
 rw [hvars] at hV
 have hA:DataW.TrodAll enc Tryz.prog W 0 (fun _=>true) true fn.params.toList args.toList ds p:=hA0
 rw [hp] at hA hval hreach
 obtain ⟨v0,vs0,d0,ds0,p0,q0,hargs,rfl,rfl,h0,r0⟩:=trodAll_cons hA
 obtain ⟨rfl,rfl,rfl⟩:=trodAll_nil r0
 obtain rfl:args=#[v0]:=by cases args;simp_all
 obtain ⟨rfl,rfl⟩:=trodVars_none hV
 obtain ⟨s,rfl,rfl,rfl,hs⟩:=open_string Tryz.underlying9 (hval 0 9 v0 (by simp) (by simp)) h0
 clear hA0
 have hla:s.size≤140737488351232:=by
  have:=sized_string hreach (j:=0) (t:=9) (bytes:=s.data.toList) rfl rfl
  rw [Array.length_toList] at this
  exact this
 refine (walk s W hs hla (zhf hL) (zgg hL)).mono fun e W' ⟨he,hb⟩=>⟨_,he,?_⟩
 exact zOl (by rw [hp]) hr hvars (hfn _) hs hW' hb
theorem zPf {H:Type} {enc:TypeId × Value→H} {f:FuncId} {fn:Func} {sp:ChangeSpec} {ts:List TypeId} (hp:fn.params=#[9,3]) (hr:fn.resultTypes=#[4]) (hvars:sp.vars=[])
  (hfn:∀ d1 d2:DataW H,sp.fn H [d1,d2]={ results:=[.lit (.bool true)],args:=[d1,d2] })
  (walk:∀ (a:ByteArray) (n:Int) (w:World),a.size≤maxLen→a.size≤140737488351232→(Lit.int .i64 n).wf=true→Tabs w→Pow w→Calls Tryz.prog f #[.string a,.int .i64 n] w fun e w'=>e=.returned (.bool true)∧Below w.heap.size w w')
  (W:World) (base:Nat) (args:Array Value) (ds gs:List (DataW H)) (before:List MemPlace)
  (hval:∀ (j:Nat) t v,fn.params[j]?=some t→args[j]?=some v→Value.okWide Tryz.prog W .any base t v)
  (hW:DataW.Whole enc Tryz.prog fn.params.toList sp.vars false W args.toList ds gs before) (hreach:(DataW.weightsEach Tryz.prog (fn.params.toList++ts) (ds++gs)).all (·≤reachBytes)=true) (hL:laidMetH Tryz.prog zVi W) :
  Calls Tryz.prog f args W fun e W'=>∃ v,e=.returned v∧sp.post enc Tryz.prog fn false true false false W args v W':=by
 have hW':=hW
 obtain ⟨p,q,hA0,hV,rfl,hfz,hnd⟩:=hW
 rw [hvars] at hV
 have hA:DataW.TrodAll enc Tryz.prog W 0 (fun _=>true) true fn.params.toList args.toList ds p:=hA0
 rw [hp] at hA hval hreach
 obtain ⟨v0,vs0,d0,ds0,p0,q0,hargs,rfl,rfl,h0,r0⟩:=trodAll_cons hA
 obtain ⟨v1,vs1,d1,ds1,p1,q1,hargs1,rfl,rfl,h1,r1⟩:=trodAll_cons r0
 obtain ⟨rfl,rfl,rfl⟩:=trodAll_nil r1
 obtain rfl:args=#[v0,v1]:=by cases args;simp_all
 obtain ⟨rfl,rfl⟩:=trodVars_none hV
 obtain ⟨a,rfl,rfl,rfl,hsa⟩:=open_string Tryz.underlying9 (hval 0 9 v0 rfl rfl) h0
 obtain ⟨n,rfl,rfl,rfl,hn⟩:=open_int Tryz.underlying3 (hval 1 3 v1 rfl rfl) h1
 clear hA0
 have hla:a.size≤140737488351232:=by
  have:=sized_string hreach (j:=0) (t:=9) (bytes:=a.data.toList) rfl rfl
  rw [Array.length_toList] at this
  exact this
 refine (walk a n W hsa hla hn (zhf hL) (zgg hL)).mono fun e W' ⟨he,hb⟩=>⟨_,he,?_⟩
 refine ⟨_,_,_,[],[],[],hW',?_,?_,?_,hb.frame _,fun h=>by cases h⟩
 ·rw [List.append_nil,hfn,hr]
  exact trodAll_cons_mk (shut_bool Tryz.underlying4 _) trodAll_mk0
 ·rw [List.append_nil,hfn,hp]
  exact trodAll_cons_mk (shut_string Tryz.underlying9 hsa) (trodAll_cons_mk (shut_int Tryz.underlying3 hn) trodAll_mk0)
 ·rw [List.append_nil,hfn,hvars]
  rfl
end Go.Proofs.YthdbmgijpelecaaGreatDoor
namespace Go.Proofs.YthdbmgijpelecaaGreatDoor
open Go.RowKit
def zbq (p:Bool) (l:List UInt8) (q:Bool):Prop :=
 (∀ j (h:j<l.length),l[j]≠63∧l[j]≠9)∧(∀ j (h:j+1<l.length),l[j+1]=10→l[j]≠10)∧(p=true→∀ h:0<l.length,l[0]≠10)∧(∀ h:l≠[],q=(l.getLast h == 10))∧(l=[]→q=p)
theorem zkn {p q:Bool} {c:UInt8} (h:stp p c=some q):c≠63∧c≠9∧q=(c == 10)∧(p=true→c≠10):=by
 unfold stp at h
 split at h
 ·cases h
 ·rename_i h1
  simp only [not_or] at h1
  split at h
  ·rename_i h2
   subst h2
   cases p
   ·cases h
    exact ⟨h1.1,h1.2,rfl,fun h=>by cases h⟩
   ·cases h
  ·rename_i h2
   cases h
   exact ⟨h1.1,h1.2,(beq_eq_false_iff_ne.2 h2).symm,fun _=>h2⟩
theorem zUn:∀ (l:List UInt8) (p q:Bool),rn p l=some q→zbq p l q
 | [],p,q,h=>by
  cases h
  exact ⟨fun j h=>absurd h (by simp),fun j h=>absurd h (by simp),fun _ h=>absurd h (by simp),fun h=>absurd rfl h,fun _=>rfl⟩
 | c :: l,p,q,h=>by
  have h':((stp p c).bind fun r=>rn r l)=some q:=h
  obtain ⟨r,h1,h2⟩:=Option.bind_eq_some_iff.1 h'
  obtain ⟨a1,a2,a3,a4⟩:=zkn h1
  obtain ⟨b1,b2,b3,b4,b5⟩:=zUn l r q h2
  refine ⟨fun j hj=>?_,fun j hj=>?_,fun hp _=>a4 hp,fun hne=>?_,fun e=>by cases e⟩
  ·cases j with
   | zero=>exact ⟨a1,a2⟩
   | succ j=>exact b1 j (by simpa using hj)
  ·cases j with
   | zero =>
    intro e e2
    refine b3 ?_ (by simpa using hj) e
    rw [a3]
    exact beq_iff_eq.2 e2
   | succ j=>exact b2 j (by simpa using hj)
  ·by_cases hl:l=[]
   ·subst hl
    rw [b5 rfl,a3]
    rfl
   ·rw [b4 hl,List.getLast_cons hl]
theorem zbg.empty {t:T} (h:zbg t) (hk:t.kids=[]):shw 0 t=[]:=by
 obtain ⟨xs,rfl,hx⟩:=h
 have:xs=[]:=hk
 subst this
 rfl
theorem zkm {b z:UInt8} (h:b≠z):((b.toNat:Int) == (z.toNat:Int))=false:=by
 refine beq_eq_false_iff_ne.2 fun e=>h ?_
 have h2:b.toNat=z.toNat:=by omega
 exact UInt8.toNat_inj.1 h2
theorem zMg (l:List UInt8):(⟨l.toArray⟩:ByteArray).size=l.length:=by
 show l.toArray.size=_
 simp
theorem zbg.bytes {t:T} (h:zbg t) {b:ByteArray} (hb:(⟨(shw 0 t).toArray⟩:ByteArray)=b) :
  (∀ j (h:j<b.size),((b[j].toNat:Int) == 63)=false∧((b[j].toNat:Int) == 9)=false)∧(∀ j (h:j+1<b.size),b[j+1]=10→((b[j].toNat:Int) == 10)=false) ∧
   (t.kids=[]→b=⟨#[]⟩)∧(t.kids≠[]→∃ m,b.size=m+1∧∀ h:m<b.size,((b[m].toNat:Int) == 10)=true):=by
 subst hb
 have ht:=h.text
 have hg:∀ j (h:j<(⟨(shw 0 t).toArray⟩:ByteArray).size),(⟨(shw 0 t).toArray⟩:ByteArray)[j]=(shw 0 t)[j]'(by rw [zMg] at h;exact h):=fun j h=>by
  show (shw 0 t).toArray[j]'h=_
  simp
 refine ⟨fun j hj=>?_,fun j hj=>?_,fun hk=>by rw [h.empty hk],fun hk=>?_⟩
 ·have hok:∃ q,rn false (shw 0 t)=some q:=by rw [ht];split<;>exact ⟨_,rfl⟩
  obtain ⟨q,hq⟩:=hok
  rw [hg]
  have:=(zUn _ _ _ hq).1 j (by rw [zMg] at hj;exact hj)
  exact ⟨zkm this.1,zkm this.2⟩
 ·have hok:∃ q,rn false (shw 0 t)=some q:=by rw [ht];split<;>exact ⟨_,rfl⟩
  obtain ⟨q,hq⟩:=hok
  rw [hg,hg]
  intro e
  exact zkm (z:=10) ((zUn _ _ _ hq).2.1 j (by rw [zMg] at hj;exact hj) e)
 ·rw [if_neg hk] at ht
  have hne:shw 0 t≠[]:=fun e=>by rw [e] at ht;cases ht
  have h4:=(zUn _ _ _ ht).2.2.2.1 hne
  have hl:0<(shw 0 t).length:=List.length_pos_iff.2 hne
  refine ⟨(shw 0 t).length-1,by rw [zMg];omega,fun hm=>?_⟩
  rw [hg,← List.getLast_eq_getElem hne,beq_iff_eq.1 h4.symm]
  rfl
end Go.Proofs.YthdbmgijpelecaaGreatDoor
