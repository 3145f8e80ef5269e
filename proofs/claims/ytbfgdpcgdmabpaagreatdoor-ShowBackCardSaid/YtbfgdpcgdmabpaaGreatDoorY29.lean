/- The contract of show.show on a node, by kind, given that it is known for smaller trees. -/
import Derived.Test.YtbfgdpcgdmabpaaGreatDoorY18
import Derived.Test.YtbfgdpcgdmabpaaGreatDoorY22
import Derived.Test.YtbfgdpcgdmabpaaGreatDoorY23
import Derived.Test.YtbfgdpcgdmabpaaGreatDoorY24
import Derived.Test.YtbfgdpcgdmabpaaGreatDoorY28
namespace Go.Proofs.YtbfgdpcgdmabpaaGreatDoor
set_option maxRecDepth 100000
set_option maxHeartbeats 2000000
open Go.RowKit
theorem zDn (s:List UInt8) (a:T) (ts:List T) (x:List UInt8) (xs:List (List UInt8)):zKf s (a :: ts) (x :: xs)=[116,121,112,101,32]++(s++([32]++(x++(zTc (zEa ts) ([32,123,32]++(commas (xs.take (zEa ts))++[32,125]))++(zTc (ts.length-zEa ts) ([32,119,104,101,114,101,32]++commas (xs.drop (zEa ts)))++[59]))))):=by
 show [116,121,112,101,32]++(s++([32]++(x++((if 0<zEa ts then [32,123,32]++(commas (xs.take (zEa ts))++[32,125]) else [])++((if zEa ts<ts.length then [32,119,104,101,114,101,32]++commas (xs.drop (zEa ts)) else [])++[59])))))=_
 unfold zTc
 by_cases h1:zEa ts=0
 ·rw [if_neg (show ¬ 0<zEa ts from by omega),if_pos h1]
  by_cases h2:ts.length-zEa ts=0
  ·rw [if_neg (show ¬ zEa ts<ts.length from by omega),if_pos h2]
  ·rw [if_pos (show zEa ts<ts.length from by omega),if_neg h2]
 ·rw [if_pos (show 0<zEa ts from by omega),if_neg h1]
  by_cases h2:ts.length-zEa ts=0
  ·rw [if_neg (show ¬ zEa ts<ts.length from by omega),if_pos h2]
  ·rw [if_pos (show zEa ts<ts.length from by omega),if_neg h2]
theorem zMw {n:Nat} (ih:zlc n) {s:ByteArray} {nm:Int} {p:Nat} {ks:List T} {B g:Nat} {l:List UInt8} {d:Nat} {kv:Value} {w:World} (hz:(T.mk 0 s nm p ks).size≤n+1) (hst:ztd B g l d w) (hpt:zZe B w) (hk:KAt 25 w ks (fun b=>b<B) kv) (hw:(T.mk 0 s nm p ks).whole) (hs:(T.mk 0 s nm p ks).small) (h5:(T.mk 0 s nm p ks).size≤5000) (hl:l.length+(shw d (T.mk 0 s nm p ks)).length≤140737488355328) :
  Calls Tryz.prog 22 #[.pointer (some ⟨g,0,none⟩),.agg #[.int .i64 0,.string s,.int .i64 nm,.int .i64 p,kv]] w (zMa B g (l++shw d (T.mk 0 s nm p ks)) d w):=by
 have hX:shw d (T.mk 0 s nm p ks)=rows ziq (zpb d ks):=by rw [zZa,if_neg (by omega)];first|rfl|(simp [zXa];done)|(simp [zXa,zOb];done)
 rw [hX] at hl ⊢
 have HFT:=zh (zjb.1 hw).1
 have HZ:=zh (show ks.length≤5000 from by rw [size_mk] at h5;have:=zdb ks;omega)
 have HNB:=zh (zob.1 hs).1.2
 have HKD:=zh (zxc ih hz h5 hw hs B g w.heap.size (w.heap.size+1) kv)
 have HL:=zh hl
 have hB:B≤w.heap.size:=by have:=hst.lt;have:=hst.ge;omega
 obtain ⟨W1,hW1,HN⟩:∃ W,(w.alloc (.cells [.pointer (some ⟨g,0,none⟩)].toArray 70)).alloc (.cells [.int .i64 0,.string s,.int .i64 nm,.int .i64 p,kv].toArray 25)=W∧Hid (Wn B g w.heap.size (w.heap.size+1) (T.mk 0 s nm p ks) kv l d W∧Below B w W∧Oth g w W) :=
  ⟨_,rfl,zh ⟨⟨(hst.alloc _).alloc _,(Blk.new w _ _).alloc _,Blk.zCe w _ _ _,(hk.alloc _).alloc _,hpt.step (((Below.refl B w).alloc hB _).alloc (by simp;omega) _)⟩,((Below.refl B w).alloc hB _).alloc (by simp;omega) _,((Oth.refl g w).alloc _).alloc _⟩⟩
 have b0:W1.cell? ⟨w.heap.size,0,none⟩=some (.pointer (some ⟨g,0,none⟩)):=HN.out.1.p.cell 0
 have n0:W1.cell? ⟨w.heap.size+1,0,none⟩=some (.int .i64 0):=HN.out.1.n.cell 0
 have n1:W1.cell? ⟨w.heap.size+1,1,none⟩=some (.string s):=HN.out.1.n.cell 1
 have n2:W1.cell? ⟨w.heap.size+1,2,none⟩=some (.int .i64 nm):=HN.out.1.n.cell 2
 have n3:W1.cell? ⟨w.heap.size+1,3,none⟩=some (.int .i64 p):=HN.out.1.n.cell 3
 have n4:W1.cell? ⟨w.heap.size+1,4,none⟩=some kv:=HN.out.1.n.cell 4
 clear hX hl hst hpt hk hw hs ih hz h5 hB
 go_enter Tryz.func22,Tryz.ntmps22
 go_wp2_with fail
 refine (isw_0 (show KAt 25 W1 ks (fun b=>b<B) kv from HN.out.1.k) HFT.out (by have:=HZ.out;omega)).mono ?_
 rintro e w2 ⟨rfl,hb⟩
 have HN2:=zh (HN.out.1.step (HN.out.1.st.below hb) (hb.mono HN.out.1.bz) (Oth.of_below hb))
 have HB2:=zh (HN.out.2.1.trans (hb.mono HN.out.1.bz))
 have HO2:=zh (HN.out.2.2.trans (Oth.of_below hb))
 have b0':w2.cell? ⟨w.heap.size,0,none⟩=some (.pointer (some ⟨g,0,none⟩)):=HN2.out.p.cell 0
 have n0':w2.cell? ⟨w.heap.size+1,0,none⟩=some (.int .i64 0):=HN2.out.n.cell 0
 have n1':w2.cell? ⟨w.heap.size+1,1,none⟩=some (.string s):=HN2.out.n.cell 1
 have n2':w2.cell? ⟨w.heap.size+1,2,none⟩=some (.int .i64 nm):=HN2.out.n.cell 2
 have n3':w2.cell? ⟨w.heap.size+1,3,none⟩=some (.int .i64 p):=HN2.out.n.cell 3
 have n4':w2.cell? ⟨w.heap.size+1,4,none⟩=some kv:=HN2.out.n.cell 4
 clear hb
 go_wp2_with fail
 refine (zAw HN2.out HKD.out (by have:=HZ.out;omega) HL.out).mono ?_
 rintro e w3 ⟨rfl,h3,hb3,ho3⟩
 have HP:=zh (show zMa B g (l++(rows ziq (zpb d ks))) d w (.returned (.tuple #[])) w3 from ⟨rfl,h3,HB2.out.trans hb3,HO2.out.trans ho3⟩)
 clear h3 hb3 ho3
 go_wp2_with fail
 go_end0
 exact HP.out
theorem zYv {n:Nat} (ih:zlc n) {s:ByteArray} {nm:Int} {p:Nat} {a:T} {ts:List T} {B g:Nat} {l:List UInt8} {d:Nat} {kv:Value} {w:World} (hz:(T.mk 1 s nm p (a :: ts)).size≤n+1) (hst:ztd B g l d w) (hpt:zZe B w) (hk:KAt 25 w (a :: ts) (fun b=>b<B) kv) (hw:(T.mk 1 s nm p (a :: ts)).whole) (hs:(T.mk 1 s nm p (a :: ts)).small) (h5:(T.mk 1 s nm p (a :: ts)).size≤5000) (hl:l.length+(shw d (T.mk 1 s nm p (a :: ts))).length≤140737488355328) :
  Calls Tryz.prog 22 #[.pointer (some ⟨g,0,none⟩),.agg #[.int .i64 1,.string s,.int .i64 nm,.int .i64 p,kv]] w (zMa B g (l++shw d (T.mk 1 s nm p (a :: ts))) d w):=by
 have hX:shw d (T.mk 1 s nm p (a :: ts))=[116,121,112,101,32]++(tb s++([32]++(shw d a++(zTc (zEa ts) ([32,123,32]++(commas ((zpb d ts).take (zEa ts))++[32,125]))++(zTc (ts.length-zEa ts) ([32,119,104,101,114,101,32]++commas ((zpb d ts).drop (zEa ts)))++[59]))))):=by rw [zZa,if_neg (by omega),zPa];exact zDn _ _ _ _ _
 rw [hX] at hl ⊢
 have HFT:=zh (zjb.1 hw).1
 have HZ:=zh (show (a :: ts).length≤5000 from by rw [size_mk] at h5;have:=zdb (a :: ts);omega)
 have HNB:=zh (zob.1 hs).1.2
 have HKD:=zh (zxc ih hz h5 hw hs B g w.heap.size (w.heap.size+1) kv)
 have HL:=zh hl
 have hB:B≤w.heap.size:=by have:=hst.lt;have:=hst.ge;omega
 obtain ⟨W1,hW1,HN⟩:∃ W,(w.alloc (.cells [.pointer (some ⟨g,0,none⟩)].toArray 70)).alloc (.cells [.int .i64 1,.string s,.int .i64 nm,.int .i64 p,kv].toArray 25)=W∧Hid (Wn B g w.heap.size (w.heap.size+1) (T.mk 1 s nm p (a :: ts)) kv l d W∧Below B w W∧Oth g w W) :=
  ⟨_,rfl,zh ⟨⟨(hst.alloc _).alloc _,(Blk.new w _ _).alloc _,Blk.zCe w _ _ _,(hk.alloc _).alloc _,hpt.step (((Below.refl B w).alloc hB _).alloc (by simp;omega) _)⟩,((Below.refl B w).alloc hB _).alloc (by simp;omega) _,((Oth.refl g w).alloc _).alloc _⟩⟩
 have b0:W1.cell? ⟨w.heap.size,0,none⟩=some (.pointer (some ⟨g,0,none⟩)):=HN.out.1.p.cell 0
 have n0:W1.cell? ⟨w.heap.size+1,0,none⟩=some (.int .i64 1):=HN.out.1.n.cell 0
 have n1:W1.cell? ⟨w.heap.size+1,1,none⟩=some (.string s):=HN.out.1.n.cell 1
 have n2:W1.cell? ⟨w.heap.size+1,2,none⟩=some (.int .i64 nm):=HN.out.1.n.cell 2
 have n3:W1.cell? ⟨w.heap.size+1,3,none⟩=some (.int .i64 p):=HN.out.1.n.cell 3
 have n4:W1.cell? ⟨w.heap.size+1,4,none⟩=some kv:=HN.out.1.n.cell 4
 clear hX hl hst hpt hk hw hs ih hz h5 hB
 go_enter Tryz.func22,Tryz.ntmps22
 go_wp2_with fail
 refine (isw_1 (show KAt 25 W1 (a :: ts) (fun b=>b<B) kv from HN.out.1.k) HFT.out (by have:=HZ.out;omega)).mono ?_
 rintro e w2 ⟨rfl,hb⟩
 have HN2:=zh (HN.out.1.step (HN.out.1.st.below hb) (hb.mono HN.out.1.bz) (Oth.of_below hb))
 have HB2:=zh (HN.out.2.1.trans (hb.mono HN.out.1.bz))
 have HO2:=zh (HN.out.2.2.trans (Oth.of_below hb))
 have b0':w2.cell? ⟨w.heap.size,0,none⟩=some (.pointer (some ⟨g,0,none⟩)):=HN2.out.p.cell 0
 have n0':w2.cell? ⟨w.heap.size+1,0,none⟩=some (.int .i64 1):=HN2.out.n.cell 0
 have n1':w2.cell? ⟨w.heap.size+1,1,none⟩=some (.string s):=HN2.out.n.cell 1
 have n2':w2.cell? ⟨w.heap.size+1,2,none⟩=some (.int .i64 nm):=HN2.out.n.cell 2
 have n3':w2.cell? ⟨w.heap.size+1,3,none⟩=some (.int .i64 p):=HN2.out.n.cell 3
 have n4':w2.cell? ⟨w.heap.size+1,4,none⟩=some kv:=HN2.out.n.cell 4
 clear hb
 go_wp2_with fail
 refine (zJu HN2.out HKD.out (by have:=HZ.out;simp at this;omega) HL.out).mono ?_
 rintro e w3 ⟨rfl,h3,hb3,ho3⟩
 have HP:=zh (show zMa B g (l++([116,121,112,101,32]++(tb s++([32]++(shw d a++(zTc (zEa ts) ([32,123,32]++(commas ((zpb d ts).take (zEa ts))++[32,125]))++(zTc (ts.length-zEa ts) ([32,119,104,101,114,101,32]++commas ((zpb d ts).drop (zEa ts)))++[59]))))))) d w (.returned (.tuple #[])) w3 from ⟨rfl,h3,HB2.out.trans hb3,HO2.out.trans ho3⟩)
 clear h3 hb3 ho3
 go_wp2_with fail
 go_end0
 exact HP.out
theorem zas {n:Nat} (ih:zlc n) {s:ByteArray} {nm:Int} {p:Nat} {ks:List T} {B g:Nat} {l:List UInt8} {d:Nat} {kv:Value} {w:World} (hz:(T.mk 2 s nm p ks).size≤n+1) (hst:ztd B g l d w) (hpt:zZe B w) (hk:KAt 25 w ks (fun b=>b<B) kv) (hw:(T.mk 2 s nm p ks).whole) (hs:(T.mk 2 s nm p ks).small) (h5:(T.mk 2 s nm p ks).size≤5000) (hl:l.length+(shw d (T.mk 2 s nm p ks)).length≤140737488355328) :
  Calls Tryz.prog 22 #[.pointer (some ⟨g,0,none⟩),.agg #[.int .i64 2,.string s,.int .i64 nm,.int .i64 p,kv]] w (zMa B g (l++shw d (T.mk 2 s nm p ks)) d w):=by
 have hX:shw d (T.mk 2 s nm p ks)=tb s++maybe [32] [] (zpb d ks):=by rw [zZa,if_neg (by omega)];first|rfl|(simp [zXa];done)|(simp [zXa,zOb];done)
 rw [hX] at hl ⊢
 have HFT:=zh (zjb.1 hw).1
 have HZ:=zh (show ks.length≤5000 from by rw [size_mk] at h5;have:=zdb ks;omega)
 have HNB:=zh (zob.1 hs).1.2
 have HKD:=zh (zxc ih hz h5 hw hs B g w.heap.size (w.heap.size+1) kv)
 have HL:=zh hl
 have hB:B≤w.heap.size:=by have:=hst.lt;have:=hst.ge;omega
 obtain ⟨W1,hW1,HN⟩:∃ W,(w.alloc (.cells [.pointer (some ⟨g,0,none⟩)].toArray 70)).alloc (.cells [.int .i64 2,.string s,.int .i64 nm,.int .i64 p,kv].toArray 25)=W∧Hid (Wn B g w.heap.size (w.heap.size+1) (T.mk 2 s nm p ks) kv l d W∧Below B w W∧Oth g w W) :=
  ⟨_,rfl,zh ⟨⟨(hst.alloc _).alloc _,(Blk.new w _ _).alloc _,Blk.zCe w _ _ _,(hk.alloc _).alloc _,hpt.step (((Below.refl B w).alloc hB _).alloc (by simp;omega) _)⟩,((Below.refl B w).alloc hB _).alloc (by simp;omega) _,((Oth.refl g w).alloc _).alloc _⟩⟩
 have b0:W1.cell? ⟨w.heap.size,0,none⟩=some (.pointer (some ⟨g,0,none⟩)):=HN.out.1.p.cell 0
 have n0:W1.cell? ⟨w.heap.size+1,0,none⟩=some (.int .i64 2):=HN.out.1.n.cell 0
 have n1:W1.cell? ⟨w.heap.size+1,1,none⟩=some (.string s):=HN.out.1.n.cell 1
 have n2:W1.cell? ⟨w.heap.size+1,2,none⟩=some (.int .i64 nm):=HN.out.1.n.cell 2
 have n3:W1.cell? ⟨w.heap.size+1,3,none⟩=some (.int .i64 p):=HN.out.1.n.cell 3
 have n4:W1.cell? ⟨w.heap.size+1,4,none⟩=some kv:=HN.out.1.n.cell 4
 clear hX hl hst hpt hk hw hs ih hz h5 hB
 go_enter Tryz.func22,Tryz.ntmps22
 go_wp2_with fail
 refine (isw_2 (show KAt 25 W1 ks (fun b=>b<B) kv from HN.out.1.k) HFT.out (by have:=HZ.out;omega)).mono ?_
 rintro e w2 ⟨rfl,hb⟩
 have HN2:=zh (HN.out.1.step (HN.out.1.st.below hb) (hb.mono HN.out.1.bz) (Oth.of_below hb))
 have HB2:=zh (HN.out.2.1.trans (hb.mono HN.out.1.bz))
 have HO2:=zh (HN.out.2.2.trans (Oth.of_below hb))
 have b0':w2.cell? ⟨w.heap.size,0,none⟩=some (.pointer (some ⟨g,0,none⟩)):=HN2.out.p.cell 0
 have n0':w2.cell? ⟨w.heap.size+1,0,none⟩=some (.int .i64 2):=HN2.out.n.cell 0
 have n1':w2.cell? ⟨w.heap.size+1,1,none⟩=some (.string s):=HN2.out.n.cell 1
 have n2':w2.cell? ⟨w.heap.size+1,2,none⟩=some (.int .i64 nm):=HN2.out.n.cell 2
 have n3':w2.cell? ⟨w.heap.size+1,3,none⟩=some (.int .i64 p):=HN2.out.n.cell 3
 have n4':w2.cell? ⟨w.heap.size+1,4,none⟩=some kv:=HN2.out.n.cell 4
 clear hb
 go_wp2_with fail
 refine (zfx HN2.out HKD.out (by have:=HZ.out;omega) HL.out).mono ?_
 rintro e w3 ⟨rfl,h3,hb3,ho3⟩
 have HP:=zh (show zMa B g (l++(tb s++maybe [32] [] (zpb d ks))) d w (.returned (.tuple #[])) w3 from ⟨rfl,h3,HB2.out.trans hb3,HO2.out.trans ho3⟩)
 clear h3 hb3 ho3
 go_wp2_with fail
 go_end0
 exact HP.out
theorem zZr {n:Nat} (ih:zlc n) {s:ByteArray} {nm:Int} {p:Nat} {ks:List T} {B g:Nat} {l:List UInt8} {d:Nat} {kv:Value} {w:World} (hz:(T.mk 3 s nm p ks).size≤n+1) (hst:ztd B g l d w) (hpt:zZe B w) (hk:KAt 25 w ks (fun b=>b<B) kv) (hw:(T.mk 3 s nm p ks).whole) (hs:(T.mk 3 s nm p ks).small) (h5:(T.mk 3 s nm p ks).size≤5000) (hl:l.length+(shw d (T.mk 3 s nm p ks)).length≤140737488355328) :
  Calls Tryz.prog 22 #[.pointer (some ⟨g,0,none⟩),.agg #[.int .i64 3,.string s,.int .i64 nm,.int .i64 p,kv]] w (zMa B g (l++shw d (T.mk 3 s nm p ks)) d w):=by
 have hX:shw d (T.mk 3 s nm p ks)=tb s++maybe [91] [93] (zpb d ks):=by rw [zZa,if_neg (by omega)];first|rfl|(simp [zXa];done)|(simp [zXa,zOb];done)
 rw [hX] at hl ⊢
 have HFT:=zh (zjb.1 hw).1
 have HZ:=zh (show ks.length≤5000 from by rw [size_mk] at h5;have:=zdb ks;omega)
 have HNB:=zh (zob.1 hs).1.2
 have HKD:=zh (zxc ih hz h5 hw hs B g w.heap.size (w.heap.size+1) kv)
 have HL:=zh hl
 have hB:B≤w.heap.size:=by have:=hst.lt;have:=hst.ge;omega
 obtain ⟨W1,hW1,HN⟩:∃ W,(w.alloc (.cells [.pointer (some ⟨g,0,none⟩)].toArray 70)).alloc (.cells [.int .i64 3,.string s,.int .i64 nm,.int .i64 p,kv].toArray 25)=W∧Hid (Wn B g w.heap.size (w.heap.size+1) (T.mk 3 s nm p ks) kv l d W∧Below B w W∧Oth g w W) :=
  ⟨_,rfl,zh ⟨⟨(hst.alloc _).alloc _,(Blk.new w _ _).alloc _,Blk.zCe w _ _ _,(hk.alloc _).alloc _,hpt.step (((Below.refl B w).alloc hB _).alloc (by simp;omega) _)⟩,((Below.refl B w).alloc hB _).alloc (by simp;omega) _,((Oth.refl g w).alloc _).alloc _⟩⟩
 have b0:W1.cell? ⟨w.heap.size,0,none⟩=some (.pointer (some ⟨g,0,none⟩)):=HN.out.1.p.cell 0
 have n0:W1.cell? ⟨w.heap.size+1,0,none⟩=some (.int .i64 3):=HN.out.1.n.cell 0
 have n1:W1.cell? ⟨w.heap.size+1,1,none⟩=some (.string s):=HN.out.1.n.cell 1
 have n2:W1.cell? ⟨w.heap.size+1,2,none⟩=some (.int .i64 nm):=HN.out.1.n.cell 2
 have n3:W1.cell? ⟨w.heap.size+1,3,none⟩=some (.int .i64 p):=HN.out.1.n.cell 3
 have n4:W1.cell? ⟨w.heap.size+1,4,none⟩=some kv:=HN.out.1.n.cell 4
 clear hX hl hst hpt hk hw hs ih hz h5 hB
 go_enter Tryz.func22,Tryz.ntmps22
 go_wp2_with fail
 refine (isw_3 (show KAt 25 W1 ks (fun b=>b<B) kv from HN.out.1.k) HFT.out (by have:=HZ.out;omega)).mono ?_
 rintro e w2 ⟨rfl,hb⟩
 have HN2:=zh (HN.out.1.step (HN.out.1.st.below hb) (hb.mono HN.out.1.bz) (Oth.of_below hb))
 have HB2:=zh (HN.out.2.1.trans (hb.mono HN.out.1.bz))
 have HO2:=zh (HN.out.2.2.trans (Oth.of_below hb))
 have b0':w2.cell? ⟨w.heap.size,0,none⟩=some (.pointer (some ⟨g,0,none⟩)):=HN2.out.p.cell 0
 have n0':w2.cell? ⟨w.heap.size+1,0,none⟩=some (.int .i64 3):=HN2.out.n.cell 0
 have n1':w2.cell? ⟨w.heap.size+1,1,none⟩=some (.string s):=HN2.out.n.cell 1
 have n2':w2.cell? ⟨w.heap.size+1,2,none⟩=some (.int .i64 nm):=HN2.out.n.cell 2
 have n3':w2.cell? ⟨w.heap.size+1,3,none⟩=some (.int .i64 p):=HN2.out.n.cell 3
 have n4':w2.cell? ⟨w.heap.size+1,4,none⟩=some kv:=HN2.out.n.cell 4
 clear hb
 go_wp2_with fail
 refine (zgw HN2.out HKD.out (by have:=HZ.out;omega) HL.out).mono ?_
 rintro e w3 ⟨rfl,h3,hb3,ho3⟩
 have HP:=zh (show zMa B g (l++(tb s++maybe [91] [93] (zpb d ks))) d w (.returned (.tuple #[])) w3 from ⟨rfl,h3,HB2.out.trans hb3,HO2.out.trans ho3⟩)
 clear h3 hb3 ho3
 go_wp2_with fail
 go_end0
 exact HP.out
theorem zYu {n:Nat} (ih:zlc n) {s:ByteArray} {nm:Int} {p:Nat} {a b:T} {B g:Nat} {l:List UInt8} {d:Nat} {kv:Value} {w:World} (hz:(T.mk 4 s nm p [a,b]).size≤n+1) (hst:ztd B g l d w) (hpt:zZe B w) (hk:KAt 25 w [a,b] (fun b=>b<B) kv) (hw:(T.mk 4 s nm p [a,b]).whole) (hs:(T.mk 4 s nm p [a,b]).small) (h5:(T.mk 4 s nm p [a,b]).size≤5000) (hl:l.length+(shw d (T.mk 4 s nm p [a,b])).length≤140737488355328) :
  Calls Tryz.prog 22 #[.pointer (some ⟨g,0,none⟩),.agg #[.int .i64 4,.string s,.int .i64 nm,.int .i64 p,kv]] w (zMa B g (l++shw d (T.mk 4 s nm p [a,b])) d w):=by
 have hX:shw d (T.mk 4 s nm p [a,b])=shw d a++([32]++(tb s++([32]++shw d b))):=by rw [zZa,if_neg (by omega),zPa,zPa,zib];first|rfl|(simp [zXa];done)|(simp [zXa,zOb];done)
 rw [hX] at hl ⊢
 have HFT:=zh (zjb.1 hw).1
 have HZ:=zh (show [a,b].length≤5000 from by rw [size_mk] at h5;have:=zdb [a,b];omega)
 have HNB:=zh (zob.1 hs).1.2
 have HKD:=zh (zxc ih hz h5 hw hs B g w.heap.size (w.heap.size+1) kv)
 have HL:=zh hl
 have hB:B≤w.heap.size:=by have:=hst.lt;have:=hst.ge;omega
 obtain ⟨W1,hW1,HN⟩:∃ W,(w.alloc (.cells [.pointer (some ⟨g,0,none⟩)].toArray 70)).alloc (.cells [.int .i64 4,.string s,.int .i64 nm,.int .i64 p,kv].toArray 25)=W∧Hid (Wn B g w.heap.size (w.heap.size+1) (T.mk 4 s nm p [a,b]) kv l d W∧Below B w W∧Oth g w W) :=
  ⟨_,rfl,zh ⟨⟨(hst.alloc _).alloc _,(Blk.new w _ _).alloc _,Blk.zCe w _ _ _,(hk.alloc _).alloc _,hpt.step (((Below.refl B w).alloc hB _).alloc (by simp;omega) _)⟩,((Below.refl B w).alloc hB _).alloc (by simp;omega) _,((Oth.refl g w).alloc _).alloc _⟩⟩
 have b0:W1.cell? ⟨w.heap.size,0,none⟩=some (.pointer (some ⟨g,0,none⟩)):=HN.out.1.p.cell 0
 have n0:W1.cell? ⟨w.heap.size+1,0,none⟩=some (.int .i64 4):=HN.out.1.n.cell 0
 have n1:W1.cell? ⟨w.heap.size+1,1,none⟩=some (.string s):=HN.out.1.n.cell 1
 have n2:W1.cell? ⟨w.heap.size+1,2,none⟩=some (.int .i64 nm):=HN.out.1.n.cell 2
 have n3:W1.cell? ⟨w.heap.size+1,3,none⟩=some (.int .i64 p):=HN.out.1.n.cell 3
 have n4:W1.cell? ⟨w.heap.size+1,4,none⟩=some kv:=HN.out.1.n.cell 4
 clear hX hl hst hpt hk hw hs ih hz h5 hB
 go_enter Tryz.func22,Tryz.ntmps22
 go_wp2_with fail
 refine (isw_4 (show KAt 25 W1 [a,b] (fun b=>b<B) kv from HN.out.1.k) HFT.out (by have:=HZ.out;omega)).mono ?_
 rintro e w2 ⟨rfl,hb⟩
 have HN2:=zh (HN.out.1.step (HN.out.1.st.below hb) (hb.mono HN.out.1.bz) (Oth.of_below hb))
 have HB2:=zh (HN.out.2.1.trans (hb.mono HN.out.1.bz))
 have HO2:=zh (HN.out.2.2.trans (Oth.of_below hb))
 have b0':w2.cell? ⟨w.heap.size,0,none⟩=some (.pointer (some ⟨g,0,none⟩)):=HN2.out.p.cell 0
 have n0':w2.cell? ⟨w.heap.size+1,0,none⟩=some (.int .i64 4):=HN2.out.n.cell 0
 have n1':w2.cell? ⟨w.heap.size+1,1,none⟩=some (.string s):=HN2.out.n.cell 1
 have n2':w2.cell? ⟨w.heap.size+1,2,none⟩=some (.int .i64 nm):=HN2.out.n.cell 2
 have n3':w2.cell? ⟨w.heap.size+1,3,none⟩=some (.int .i64 p):=HN2.out.n.cell 3
 have n4':w2.cell? ⟨w.heap.size+1,4,none⟩=some kv:=HN2.out.n.cell 4
 clear hb
 go_wp2_with fail
 refine (zHw HN2.out HKD.out rfl rfl HL.out).mono ?_
 rintro e w3 ⟨rfl,h3,hb3,ho3⟩
 have HP:=zh (show zMa B g (l++(shw d a++([32]++(tb s++([32]++shw d b))))) d w (.returned (.tuple #[])) w3 from ⟨rfl,h3,HB2.out.trans hb3,HO2.out.trans ho3⟩)
 clear h3 hb3 ho3
 go_wp2_with fail
 go_end0
 exact HP.out
theorem zJw {n:Nat} (ih:zlc n) {s:ByteArray} {nm:Int} {p:Nat} {ks:List T} {B g:Nat} {l:List UInt8} {d:Nat} {kv:Value} {w:World} (hz:(T.mk 5 s nm p ks).size≤n+1) (hst:ztd B g l d w) (hpt:zZe B w) (hk:KAt 25 w ks (fun b=>b<B) kv) (hw:(T.mk 5 s nm p ks).whole) (hs:(T.mk 5 s nm p ks).small) (h5:(T.mk 5 s nm p ks).size≤5000) (hl:l.length+(shw d (T.mk 5 s nm p ks)).length≤140737488355328) :
  Calls Tryz.prog 22 #[.pointer (some ⟨g,0,none⟩),.agg #[.int .i64 5,.string s,.int .i64 nm,.int .i64 p,kv]] w (zMa B g (l++shw d (T.mk 5 s nm p ks)) d w):=by
 have hX:shw d (T.mk 5 s nm p ks)=zTb (tb s) nm:=by rw [zZa,if_neg (by omega)];first|rfl|(simp [zXa];done)|(simp [zXa,zOb];done)
 rw [hX] at hl ⊢
 have HFT:=zh (zjb.1 hw).1
 have HZ:=zh (show ks.length≤5000 from by rw [size_mk] at h5;have:=zdb ks;omega)
 have HNB:=zh (zob.1 hs).1.2
 have HKD:=zh (zxc ih hz h5 hw hs B g w.heap.size (w.heap.size+1) kv)
 have HL:=zh hl
 have hB:B≤w.heap.size:=by have:=hst.lt;have:=hst.ge;omega
 obtain ⟨W1,hW1,HN⟩:∃ W,(w.alloc (.cells [.pointer (some ⟨g,0,none⟩)].toArray 70)).alloc (.cells [.int .i64 5,.string s,.int .i64 nm,.int .i64 p,kv].toArray 25)=W∧Hid (Wn B g w.heap.size (w.heap.size+1) (T.mk 5 s nm p ks) kv l d W∧Below B w W∧Oth g w W) :=
  ⟨_,rfl,zh ⟨⟨(hst.alloc _).alloc _,(Blk.new w _ _).alloc _,Blk.zCe w _ _ _,(hk.alloc _).alloc _,hpt.step (((Below.refl B w).alloc hB _).alloc (by simp;omega) _)⟩,((Below.refl B w).alloc hB _).alloc (by simp;omega) _,((Oth.refl g w).alloc _).alloc _⟩⟩
 have b0:W1.cell? ⟨w.heap.size,0,none⟩=some (.pointer (some ⟨g,0,none⟩)):=HN.out.1.p.cell 0
 have n0:W1.cell? ⟨w.heap.size+1,0,none⟩=some (.int .i64 5):=HN.out.1.n.cell 0
 have n1:W1.cell? ⟨w.heap.size+1,1,none⟩=some (.string s):=HN.out.1.n.cell 1
 have n2:W1.cell? ⟨w.heap.size+1,2,none⟩=some (.int .i64 nm):=HN.out.1.n.cell 2
 have n3:W1.cell? ⟨w.heap.size+1,3,none⟩=some (.int .i64 p):=HN.out.1.n.cell 3
 have n4:W1.cell? ⟨w.heap.size+1,4,none⟩=some kv:=HN.out.1.n.cell 4
 clear hX hl hst hpt hk hw hs ih hz h5 hB
 go_enter Tryz.func22,Tryz.ntmps22
 go_wp2_with fail
 refine (isw_5 (show KAt 25 W1 ks (fun b=>b<B) kv from HN.out.1.k) HFT.out (by have:=HZ.out;omega)).mono ?_
 rintro e w2 ⟨rfl,hb⟩
 have HN2:=zh (HN.out.1.step (HN.out.1.st.below hb) (hb.mono HN.out.1.bz) (Oth.of_below hb))
 have HB2:=zh (HN.out.2.1.trans (hb.mono HN.out.1.bz))
 have HO2:=zh (HN.out.2.2.trans (Oth.of_below hb))
 have b0':w2.cell? ⟨w.heap.size,0,none⟩=some (.pointer (some ⟨g,0,none⟩)):=HN2.out.p.cell 0
 have n0':w2.cell? ⟨w.heap.size+1,0,none⟩=some (.int .i64 5):=HN2.out.n.cell 0
 have n1':w2.cell? ⟨w.heap.size+1,1,none⟩=some (.string s):=HN2.out.n.cell 1
 have n2':w2.cell? ⟨w.heap.size+1,2,none⟩=some (.int .i64 nm):=HN2.out.n.cell 2
 have n3':w2.cell? ⟨w.heap.size+1,3,none⟩=some (.int .i64 p):=HN2.out.n.cell 3
 have n4':w2.cell? ⟨w.heap.size+1,4,none⟩=some kv:=HN2.out.n.cell 4
 clear hb
 go_wp2_with fail
 refine (zXu HN2.out HKD.out HNB.out HL.out).mono ?_
 rintro e w3 ⟨rfl,h3,hb3,ho3⟩
 have HP:=zh (show zMa B g (l++(zTb (tb s) nm)) d w (.returned (.tuple #[])) w3 from ⟨rfl,h3,HB2.out.trans hb3,HO2.out.trans ho3⟩)
 clear h3 hb3 ho3
 go_wp2_with fail
 go_end0
 exact HP.out
theorem zhw {n:Nat} (ih:zlc n) {s:ByteArray} {nm:Int} {p:Nat} {xs:List T} {r b:T} {B g:Nat} {l:List UInt8} {d:Nat} {kv:Value} {w:World} (hz:(T.mk 6 s nm p (xs++[r,b])).size≤n+1) (hst:ztd B g l d w) (hpt:zZe B w) (hk:KAt 25 w (xs++[r,b]) (fun b=>b<B) kv) (hw:(T.mk 6 s nm p (xs++[r,b])).whole) (hs:(T.mk 6 s nm p (xs++[r,b])).small) (h5:(T.mk 6 s nm p (xs++[r,b])).size≤5000) (hl:l.length+(shw d (T.mk 6 s nm p (xs++[r,b]))).length≤140737488355328) :
  Calls Tryz.prog 22 #[.pointer (some ⟨g,0,none⟩),.agg #[.int .i64 6,.string s,.int .i64 nm,.int .i64 p,kv]] w (zMa B g (l++shw d (T.mk 6 s nm p (xs++[r,b]))) d w):=by
 have hX:shw d (T.mk 6 s nm p (xs++[r,b]))=[102,110,32]++(tb s++([40]++(commas (zpb d xs)++([41]++(zTc r.text.size ([32,45,62,32]++shw d r)++([32]++shw d b)))))):=by rw [zZa,if_neg (by omega),show zpb d (xs++[r,b])=zpb d xs++[shw d r,shw d b] from by rw [zhd,List.map_append,← zhd];rfl];exact zPr _ _ _ _ _ _ _ (zEc d xs)
 rw [hX] at hl ⊢
 have HFT:=zh (zjb.1 hw).1
 have HZ:=zh (show (xs++[r,b]).length≤5000 from by rw [size_mk] at h5;have:=zdb (xs++[r,b]);omega)
 have HNB:=zh (zob.1 hs).1.2
 have HKD:=zh (zxc ih hz h5 hw hs B g w.heap.size (w.heap.size+1) kv)
 have HL:=zh hl
 have hB:B≤w.heap.size:=by have:=hst.lt;have:=hst.ge;omega
 obtain ⟨W1,hW1,HN⟩:∃ W,(w.alloc (.cells [.pointer (some ⟨g,0,none⟩)].toArray 70)).alloc (.cells [.int .i64 6,.string s,.int .i64 nm,.int .i64 p,kv].toArray 25)=W∧Hid (Wn B g w.heap.size (w.heap.size+1) (T.mk 6 s nm p (xs++[r,b])) kv l d W∧Below B w W∧Oth g w W) :=
  ⟨_,rfl,zh ⟨⟨(hst.alloc _).alloc _,(Blk.new w _ _).alloc _,Blk.zCe w _ _ _,(hk.alloc _).alloc _,hpt.step (((Below.refl B w).alloc hB _).alloc (by simp;omega) _)⟩,((Below.refl B w).alloc hB _).alloc (by simp;omega) _,((Oth.refl g w).alloc _).alloc _⟩⟩
 have b0:W1.cell? ⟨w.heap.size,0,none⟩=some (.pointer (some ⟨g,0,none⟩)):=HN.out.1.p.cell 0
 have n0:W1.cell? ⟨w.heap.size+1,0,none⟩=some (.int .i64 6):=HN.out.1.n.cell 0
 have n1:W1.cell? ⟨w.heap.size+1,1,none⟩=some (.string s):=HN.out.1.n.cell 1
 have n2:W1.cell? ⟨w.heap.size+1,2,none⟩=some (.int .i64 nm):=HN.out.1.n.cell 2
 have n3:W1.cell? ⟨w.heap.size+1,3,none⟩=some (.int .i64 p):=HN.out.1.n.cell 3
 have n4:W1.cell? ⟨w.heap.size+1,4,none⟩=some kv:=HN.out.1.n.cell 4
 clear hX hl hst hpt hk hw hs ih hz h5 hB
 go_enter Tryz.func22,Tryz.ntmps22
 go_wp2_with fail
 refine (isw_6 (show KAt 25 W1 (xs++[r,b]) (fun b=>b<B) kv from HN.out.1.k) HFT.out (by have:=HZ.out;omega)).mono ?_
 rintro e w2 ⟨rfl,hb⟩
 have HN2:=zh (HN.out.1.step (HN.out.1.st.below hb) (hb.mono HN.out.1.bz) (Oth.of_below hb))
 have HB2:=zh (HN.out.2.1.trans (hb.mono HN.out.1.bz))
 have HO2:=zh (HN.out.2.2.trans (Oth.of_below hb))
 have b0':w2.cell? ⟨w.heap.size,0,none⟩=some (.pointer (some ⟨g,0,none⟩)):=HN2.out.p.cell 0
 have n0':w2.cell? ⟨w.heap.size+1,0,none⟩=some (.int .i64 6):=HN2.out.n.cell 0
 have n1':w2.cell? ⟨w.heap.size+1,1,none⟩=some (.string s):=HN2.out.n.cell 1
 have n2':w2.cell? ⟨w.heap.size+1,2,none⟩=some (.int .i64 nm):=HN2.out.n.cell 2
 have n3':w2.cell? ⟨w.heap.size+1,3,none⟩=some (.int .i64 p):=HN2.out.n.cell 3
 have n4':w2.cell? ⟨w.heap.size+1,4,none⟩=some kv:=HN2.out.n.cell 4
 clear hb
 go_wp2_with fail
 refine (zSu HN2.out HKD.out (by have:=HZ.out;simp at this;omega) HL.out).mono ?_
 rintro e w3 ⟨rfl,h3,hb3,ho3⟩
 have HP:=zh (show zMa B g (l++([102,110,32]++(tb s++([40]++(commas (zpb d xs)++([41]++(zTc r.text.size ([32,45,62,32]++shw d r)++([32]++shw d b)))))))) d w (.returned (.tuple #[])) w3 from ⟨rfl,h3,HB2.out.trans hb3,HO2.out.trans ho3⟩)
 clear h3 hb3 ho3
 go_wp2_with fail
 go_end0
 exact HP.out
theorem zhv {n:Nat} (ih:zlc n) {s:ByteArray} {nm:Int} {p:Nat} {a:T} {B g:Nat} {l:List UInt8} {d:Nat} {kv:Value} {w:World} (hz:(T.mk 7 s nm p [a]).size≤n+1) (hst:ztd B g l d w) (hpt:zZe B w) (hk:KAt 25 w [a] (fun b=>b<B) kv) (hw:(T.mk 7 s nm p [a]).whole) (hs:(T.mk 7 s nm p [a]).small) (h5:(T.mk 7 s nm p [a]).size≤5000) (hl:l.length+(shw d (T.mk 7 s nm p [a])).length≤140737488355328) :
  Calls Tryz.prog 22 #[.pointer (some ⟨g,0,none⟩),.agg #[.int .i64 7,.string s,.int .i64 nm,.int .i64 p,kv]] w (zMa B g (l++shw d (T.mk 7 s nm p [a])) d w):=by
 have hX:shw d (T.mk 7 s nm p [a])=tb s++([58,32]++shw d a):=by rw [zZa,if_neg (by omega),zPa,zib];first|rfl|(simp [zXa];done)|(simp [zXa,zOb];done)
 rw [hX] at hl ⊢
 have HFT:=zh (zjb.1 hw).1
 have HZ:=zh (show [a].length≤5000 from by rw [size_mk] at h5;have:=zdb [a];omega)
 have HNB:=zh (zob.1 hs).1.2
 have HKD:=zh (zxc ih hz h5 hw hs B g w.heap.size (w.heap.size+1) kv)
 have HL:=zh hl
 have hB:B≤w.heap.size:=by have:=hst.lt;have:=hst.ge;omega
 obtain ⟨W1,hW1,HN⟩:∃ W,(w.alloc (.cells [.pointer (some ⟨g,0,none⟩)].toArray 70)).alloc (.cells [.int .i64 7,.string s,.int .i64 nm,.int .i64 p,kv].toArray 25)=W∧Hid (Wn B g w.heap.size (w.heap.size+1) (T.mk 7 s nm p [a]) kv l d W∧Below B w W∧Oth g w W) :=
  ⟨_,rfl,zh ⟨⟨(hst.alloc _).alloc _,(Blk.new w _ _).alloc _,Blk.zCe w _ _ _,(hk.alloc _).alloc _,hpt.step (((Below.refl B w).alloc hB _).alloc (by simp;omega) _)⟩,((Below.refl B w).alloc hB _).alloc (by simp;omega) _,((Oth.refl g w).alloc _).alloc _⟩⟩
 have b0:W1.cell? ⟨w.heap.size,0,none⟩=some (.pointer (some ⟨g,0,none⟩)):=HN.out.1.p.cell 0
 have n0:W1.cell? ⟨w.heap.size+1,0,none⟩=some (.int .i64 7):=HN.out.1.n.cell 0
 have n1:W1.cell? ⟨w.heap.size+1,1,none⟩=some (.string s):=HN.out.1.n.cell 1
 have n2:W1.cell? ⟨w.heap.size+1,2,none⟩=some (.int .i64 nm):=HN.out.1.n.cell 2
 have n3:W1.cell? ⟨w.heap.size+1,3,none⟩=some (.int .i64 p):=HN.out.1.n.cell 3
 have n4:W1.cell? ⟨w.heap.size+1,4,none⟩=some kv:=HN.out.1.n.cell 4
 clear hX hl hst hpt hk hw hs ih hz h5 hB
 go_enter Tryz.func22,Tryz.ntmps22
 go_wp2_with fail
 refine (isw_7 (show KAt 25 W1 [a] (fun b=>b<B) kv from HN.out.1.k) HFT.out (by have:=HZ.out;omega)).mono ?_
 rintro e w2 ⟨rfl,hb⟩
 have HN2:=zh (HN.out.1.step (HN.out.1.st.below hb) (hb.mono HN.out.1.bz) (Oth.of_below hb))
 have HB2:=zh (HN.out.2.1.trans (hb.mono HN.out.1.bz))
 have HO2:=zh (HN.out.2.2.trans (Oth.of_below hb))
 have b0':w2.cell? ⟨w.heap.size,0,none⟩=some (.pointer (some ⟨g,0,none⟩)):=HN2.out.p.cell 0
 have n0':w2.cell? ⟨w.heap.size+1,0,none⟩=some (.int .i64 7):=HN2.out.n.cell 0
 have n1':w2.cell? ⟨w.heap.size+1,1,none⟩=some (.string s):=HN2.out.n.cell 1
 have n2':w2.cell? ⟨w.heap.size+1,2,none⟩=some (.int .i64 nm):=HN2.out.n.cell 2
 have n3':w2.cell? ⟨w.heap.size+1,3,none⟩=some (.int .i64 p):=HN2.out.n.cell 3
 have n4':w2.cell? ⟨w.heap.size+1,4,none⟩=some kv:=HN2.out.n.cell 4
 clear hb
 go_wp2_with fail
 refine (zfw HN2.out HKD.out rfl HL.out).mono ?_
 rintro e w3 ⟨rfl,h3,hb3,ho3⟩
 have HP:=zh (show zMa B g (l++(tb s++([58,32]++shw d a))) d w (.returned (.tuple #[])) w3 from ⟨rfl,h3,HB2.out.trans hb3,HO2.out.trans ho3⟩)
 clear h3 hb3 ho3
 go_wp2_with fail
 go_end0
 exact HP.out
theorem zSr {n:Nat} (ih:zlc n) {s:ByteArray} {nm:Int} {p:Nat} {ks:List T} {B g:Nat} {l:List UInt8} {d:Nat} {kv:Value} {w:World} (hz:(T.mk 8 s nm p ks).size≤n+1) (hst:ztd B g l d w) (hpt:zZe B w) (hk:KAt 25 w ks (fun b=>b<B) kv) (hw:(T.mk 8 s nm p ks).whole) (hs:(T.mk 8 s nm p ks).small) (h5:(T.mk 8 s nm p ks).size≤5000) (hl:l.length+(shw d (T.mk 8 s nm p ks)).length≤140737488355328) :
  Calls Tryz.prog 22 #[.pointer (some ⟨g,0,none⟩),.agg #[.int .i64 8,.string s,.int .i64 nm,.int .i64 p,kv]] w (zMa B g (l++shw d (T.mk 8 s nm p ks)) d w):=by
 have hX:shw d (T.mk 8 s nm p ks)=zDc (tb s) (zpb d ks):=by rw [zZa,if_neg (by omega)];first|rfl|(simp [zXa];done)|(simp [zXa,zOb];done)
 rw [hX] at hl ⊢
 have HFT:=zh (zjb.1 hw).1
 have HZ:=zh (show ks.length≤5000 from by rw [size_mk] at h5;have:=zdb ks;omega)
 have HNB:=zh (zob.1 hs).1.2
 have HKD:=zh (zxc ih hz h5 hw hs B g w.heap.size (w.heap.size+1) kv)
 have HL:=zh hl
 have hB:B≤w.heap.size:=by have:=hst.lt;have:=hst.ge;omega
 obtain ⟨W1,hW1,HN⟩:∃ W,(w.alloc (.cells [.pointer (some ⟨g,0,none⟩)].toArray 70)).alloc (.cells [.int .i64 8,.string s,.int .i64 nm,.int .i64 p,kv].toArray 25)=W∧Hid (Wn B g w.heap.size (w.heap.size+1) (T.mk 8 s nm p ks) kv l d W∧Below B w W∧Oth g w W) :=
  ⟨_,rfl,zh ⟨⟨(hst.alloc _).alloc _,(Blk.new w _ _).alloc _,Blk.zCe w _ _ _,(hk.alloc _).alloc _,hpt.step (((Below.refl B w).alloc hB _).alloc (by simp;omega) _)⟩,((Below.refl B w).alloc hB _).alloc (by simp;omega) _,((Oth.refl g w).alloc _).alloc _⟩⟩
 have b0:W1.cell? ⟨w.heap.size,0,none⟩=some (.pointer (some ⟨g,0,none⟩)):=HN.out.1.p.cell 0
 have n0:W1.cell? ⟨w.heap.size+1,0,none⟩=some (.int .i64 8):=HN.out.1.n.cell 0
 have n1:W1.cell? ⟨w.heap.size+1,1,none⟩=some (.string s):=HN.out.1.n.cell 1
 have n2:W1.cell? ⟨w.heap.size+1,2,none⟩=some (.int .i64 nm):=HN.out.1.n.cell 2
 have n3:W1.cell? ⟨w.heap.size+1,3,none⟩=some (.int .i64 p):=HN.out.1.n.cell 3
 have n4:W1.cell? ⟨w.heap.size+1,4,none⟩=some kv:=HN.out.1.n.cell 4
 clear hX hl hst hpt hk hw hs ih hz h5 hB
 go_enter Tryz.func22,Tryz.ntmps22
 go_wp2_with fail
 refine (isw_8 (show KAt 25 W1 ks (fun b=>b<B) kv from HN.out.1.k) HFT.out (by have:=HZ.out;omega)).mono ?_
 rintro e w2 ⟨rfl,hb⟩
 have HN2:=zh (HN.out.1.step (HN.out.1.st.below hb) (hb.mono HN.out.1.bz) (Oth.of_below hb))
 have HB2:=zh (HN.out.2.1.trans (hb.mono HN.out.1.bz))
 have HO2:=zh (HN.out.2.2.trans (Oth.of_below hb))
 have b0':w2.cell? ⟨w.heap.size,0,none⟩=some (.pointer (some ⟨g,0,none⟩)):=HN2.out.p.cell 0
 have n0':w2.cell? ⟨w.heap.size+1,0,none⟩=some (.int .i64 8):=HN2.out.n.cell 0
 have n1':w2.cell? ⟨w.heap.size+1,1,none⟩=some (.string s):=HN2.out.n.cell 1
 have n2':w2.cell? ⟨w.heap.size+1,2,none⟩=some (.int .i64 nm):=HN2.out.n.cell 2
 have n3':w2.cell? ⟨w.heap.size+1,3,none⟩=some (.int .i64 p):=HN2.out.n.cell 3
 have n4':w2.cell? ⟨w.heap.size+1,4,none⟩=some kv:=HN2.out.n.cell 4
 clear hb
 go_wp2_with fail
 refine (zWu HN2.out HKD.out (by have:=HZ.out;omega) HL.out).mono ?_
 rintro e w3 ⟨rfl,h3,hb3,ho3⟩
 have HP:=zh (show zMa B g (l++(zDc (tb s) (zpb d ks))) d w (.returned (.tuple #[])) w3 from ⟨rfl,h3,HB2.out.trans hb3,HO2.out.trans ho3⟩)
 clear h3 hb3 ho3
 go_wp2_with fail
 go_end0
 exact HP.out
end Go.Proofs.YtbfgdpcgdmabpaaGreatDoor
