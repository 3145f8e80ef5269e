/- The document's own Fit on a node whose kids are as the table of layer 2 has them, by kind: it answers true. -/
import Derived.Test.YtbfgdpcgdmabpaaGreatDoorZ34
import Derived.Test.YtbfgdpcgdmabpaaGreatDoorZ20
namespace Go.Proofs.YtbfgdpcgdmabpaaGreatDoor
set_option maxRecDepth 100000
set_option maxHeartbeats 400000
open Go.RowKit
theorem zHk {k:Int} {ks:List T} (h:Fit k ks) (hk:k=4∨k=11∨k=21∨k=22):∃ a b,ks=[a,b]∧a.kind=5∧b.kind=5:=by
 cases h with
 | two e ha hb=>exact ⟨_,_,rfl,ha,hb⟩
 | unit e|type e|none e|one e|fn e|param e|block e|set e|cond e|loop e|call1 e|load e|call e|leaf e=>omega
theorem zAo {k:Int} {ks:List T} (h:Fit k ks) (hk:k=7):∃ a,ks=[a]∧a.kind=8:=by
 cases h with
 | param e ha=>exact ⟨_,rfl,ha⟩
 | unit e|type e|none e|one e|two e|fn e|block e|set e|cond e|loop e|call1 e|load e|call e|leaf e=>omega
theorem rf_if {k:Int} {ks:List T} (h:Fit k ks) (hk:k=15):∃ a b c d,ks=[a,b,c,d]∧a.kind=5∧b.kind=5∧c.kind=9∧d.kind=9:=by
 cases h with
 | cond e ha hb hc hd=>exact ⟨_,_,_,_,rfl,ha,hb,hc,hd⟩
 | unit e|type e|none e|one e|two e|fn e|param e|block e|set e|loop e|call1 e|load e|call e|leaf e=>omega
theorem zNo {k:Int} {ks:List T} (h:Fit k ks) (hk:k=16):∃ a b c,ks=[a,b,c]∧a.kind=5∧b.kind=5∧c.kind=9:=by
 cases h with
 | loop e ha hb hc=>exact ⟨_,_,_,rfl,ha,hb,hc⟩
 | unit e|type e|none e|one e|two e|fn e|param e|block e|set e|cond e|call1 e|load e|call e|leaf e=>omega
theorem rf_do {k:Int} {ks:List T} (h:Fit k ks) (hk:k=20):∃ a,ks=[a]∧a.kind=28:=by
 cases h with
 | call1 e ha=>exact ⟨_,rfl,ha⟩
 | unit e|type e|none e|one e|two e|fn e|param e|block e|set e|cond e|loop e|load e|call e|leaf e=>omega
theorem zxq {k:Int} {ks:List T} (h:Fit k ks) (hk:k=25):∃ a,ks=[a]∧a.kind=5:=by
 cases h with
 | load e ha=>exact ⟨_,rfl,ha⟩
 | unit e|type e|none e|one e|two e|fn e|param e|block e|set e|cond e|loop e|call1 e|call e|leaf e=>omega
theorem zsm {k:Int} {ks:List T} (h:Fit k ks) (hk:k=19∨k=28):zPa (fun x=>x=5) ks:=by
 cases h with
 | call e ha=>exact ha
 | unit e|type e|none e|one e|two e|fn e|param e|block e|set e|cond e|loop e|call1 e|load e|leaf e=>omega
theorem zvs {k:Int} {ks:List T} (h:Fit k ks) (hk:k=10):∃ a,ks=[a]∧zTc a.kind:=by
 cases h with
 | set e ha=>exact ⟨_,rfl,ha⟩
 | unit e|type e|none e|one e|two e|fn e|param e|block e|cond e|loop e|call1 e|load e|call e|leaf e=>omega
theorem ztq {k:Int} {ks:List T} (h:Fit k ks) (hk:k=0):zPa (fun x=>x=1∨x=6) ks:=by
 cases h with
 | unit e ha=>exact ha
 | type e|none e|one e|two e|fn e|param e|block e|set e|cond e|loop e|call1 e|load e|call e|leaf e=>omega
theorem zPn {k:Int} {ks:List T} (h:Fit k ks) (hk:k=9):zPa zvb ks:=by
 cases h with
 | block e ha=>exact ha
 | unit e|type e|none e|one e|two e|fn e|param e|set e|cond e|loop e|call1 e|load e|call e|leaf e=>omega
theorem rf_fn {k:Int} {ks:List T} (h:Fit k ks) (hk:k=6):∃ xs r b,ks=xs++[r,b]∧zPa (fun x=>x=7) xs∧r.kind=8∧b.kind=9:=by
 cases h with
 | fn e hx hr hb=>exact ⟨_,_,_,rfl,hx,hr,hb⟩
 | unit e|type e|none e|one e|two e|param e|block e|set e|cond e|loop e|call1 e|load e|call e|leaf e=>omega
theorem zvr {k:Int} {ks:List T} (h:Fit k ks) (hk:k=1):∃ a ys zs,ks=a :: (ys++zs)∧a.kind=2∧zPa (fun x=>x=3) ys∧zPa (fun x=>x=4) zs:=by
 cases h with
 | type e ha hy hz=>exact ⟨_,_,_,rfl,ha,hy,hz⟩
 | unit e|none e|one e|two e|fn e|param e|block e|set e|cond e|loop e|call1 e|load e|call e|leaf e=>omega
theorem zEk {k:Int} {ks:List T} (h:Fit k ks) (hk:k=2∨k=3∨k=8∨k=17):ks.length≤1∧zPa (fun x=>x=5) ks:=by
 cases h with
 | none e=>exact ⟨Nat.zero_le _,zPa.nil⟩
 | one e ha=>exact ⟨Nat.le_refl _,zPa.cons ha zPa.nil⟩
 | unit e|type e|two e|fn e|param e|block e|set e|cond e|loop e|call1 e|load e|call e|leaf e=>omega
theorem zWa {w:World} {ks:List T} {kv:Value} (k:Int) (s:ByteArray) (nm p:Int) (h:Win w ks kv):∃ W,w.alloc (.cells [.int .i64 k,.string s,.int .i64 nm,.int .i64 p,kv].toArray 34)=W∧Hid (Below w.heap.size w W)∧Hid (Win W ks kv) ∧
  W.cell? ⟨w.heap.size,0,none⟩=some (.int .i64 k)∧W.cell? ⟨w.heap.size,1,none⟩=some (.string s)∧W.cell? ⟨w.heap.size,2,none⟩=some (.int .i64 nm)∧W.cell? ⟨w.heap.size,3,none⟩=some (.int .i64 p)∧W.cell? ⟨w.heap.size,4,none⟩=some kv :=
 have hb:Below w.heap.size w (w.alloc (.cells [.int .i64 k,.string s,.int .i64 nm,.int .i64 p,kv].toArray 34)):=(Below.refl _ _).alloc (Nat.le_refl _) _
 have B:=Blk.new w [.int .i64 k,.string s,.int .i64 nm,.int .i64 p,kv] 34
 ⟨_,rfl,zh hb,zh (h.below hb),B.cell 0,B.cell 1,B.cell 2,B.cell 3,B.cell 4⟩
theorem zpd (W:World) (xs:List Int) (n:Nat) (hn:xs.length=n):Ints (W.alloc (.cells (xs.map (Value.int .i64)).toArray 3)) xs (.slice (some ⟨W.heap.size,0,none⟩) n n):=by
 subst hn
 refine ⟨W.heap.size,_,rfl,by simp,fun i x hx=>?_⟩
 rw [(Blk.new W (xs.map (Value.int .i64)) 3).cell i,List.getElem?_map,hx]
 rfl
theorem zqs {w:World} {ks:List T} {kv:Value} {s:ByteArray} {nm p:Int} (h:Win w ks kv) (hf:Fit 5 ks) :
  Calls Tryz.prog 50 #[.agg #[.int .i64 5,.string s,.int .i64 nm,.int .i64 p,kv]] w fun e w'=>e=.returned (.bool true)∧Below w.heap.size w w':=by
 obtain rfl:ks=[]:=zta hf (by omega)
 obtain ⟨W,hW,HB,H3,n0,n1,n2,n3,n4⟩:=zWa 5 s nm p h
 obtain ⟨pa,cap,hkv,⟨h1,hcap,hcap2⟩,h2,h3⟩:=h
 replace hkv:kv=.slice pa 0 cap:=hkv
 subst hkv
 clear hcap hcap2 h1 h2 h3 hf
 go_enter Tryz.func50,Tryz.ntmps50
 go_wp2_with fail
 go_ret
 exact ⟨rfl,HB.out⟩
theorem zfr {w:World} {ks:List T} {kv:Value} {s:ByteArray} {nm p:Int} (h:Win w ks kv) (hf:Fit 12 ks) :
  Calls Tryz.prog 50 #[.agg #[.int .i64 12,.string s,.int .i64 nm,.int .i64 p,kv]] w fun e w'=>e=.returned (.bool true)∧Below w.heap.size w w':=by
 obtain rfl:ks=[]:=zta hf (by omega)
 obtain ⟨W,hW,HB,H3,n0,n1,n2,n3,n4⟩:=zWa 12 s nm p h
 obtain ⟨pa,cap,hkv,⟨h1,hcap,hcap2⟩,h2,h3⟩:=h
 replace hkv:kv=.slice pa 0 cap:=hkv
 subst hkv
 clear hcap hcap2 h1 h2 h3 hf
 go_enter Tryz.func50,Tryz.ntmps50
 go_wp2_with fail
 go_ret
 exact ⟨rfl,HB.out⟩
theorem zRq {w:World} {ks:List T} {kv:Value} {s:ByteArray} {nm p:Int} (h:Win w ks kv) (hf:Fit 13 ks) :
  Calls Tryz.prog 50 #[.agg #[.int .i64 13,.string s,.int .i64 nm,.int .i64 p,kv]] w fun e w'=>e=.returned (.bool true)∧Below w.heap.size w w':=by
 obtain rfl:ks=[]:=zta hf (by omega)
 obtain ⟨W,hW,HB,H3,n0,n1,n2,n3,n4⟩:=zWa 13 s nm p h
 obtain ⟨pa,cap,hkv,⟨h1,hcap,hcap2⟩,h2,h3⟩:=h
 replace hkv:kv=.slice pa 0 cap:=hkv
 subst hkv
 clear hcap hcap2 h1 h2 h3 hf
 go_enter Tryz.func50,Tryz.ntmps50
 go_wp2_with fail
 go_ret
 exact ⟨rfl,HB.out⟩
theorem zWq {w:World} {ks:List T} {kv:Value} {s:ByteArray} {nm p:Int} (h:Win w ks kv) (hf:Fit 14 ks) :
  Calls Tryz.prog 50 #[.agg #[.int .i64 14,.string s,.int .i64 nm,.int .i64 p,kv]] w fun e w'=>e=.returned (.bool true)∧Below w.heap.size w w':=by
 obtain rfl:ks=[]:=zta hf (by omega)
 obtain ⟨W,hW,HB,H3,n0,n1,n2,n3,n4⟩:=zWa 14 s nm p h
 obtain ⟨pa,cap,hkv,⟨h1,hcap,hcap2⟩,h2,h3⟩:=h
 replace hkv:kv=.slice pa 0 cap:=hkv
 subst hkv
 clear hcap hcap2 h1 h2 h3 hf
 go_enter Tryz.func50,Tryz.ntmps50
 go_wp2_with fail
 go_ret
 exact ⟨rfl,HB.out⟩
theorem zkq {w:World} {ks:List T} {kv:Value} {s:ByteArray} {nm p:Int} (h:Win w ks kv) (hf:Fit 18 ks) :
  Calls Tryz.prog 50 #[.agg #[.int .i64 18,.string s,.int .i64 nm,.int .i64 p,kv]] w fun e w'=>e=.returned (.bool true)∧Below w.heap.size w w':=by
 obtain rfl:ks=[]:=zta hf (by omega)
 obtain ⟨W,hW,HB,H3,n0,n1,n2,n3,n4⟩:=zWa 18 s nm p h
 obtain ⟨pa,cap,hkv,⟨h1,hcap,hcap2⟩,h2,h3⟩:=h
 replace hkv:kv=.slice pa 0 cap:=hkv
 subst hkv
 clear hcap hcap2 h1 h2 h3 hf
 go_enter Tryz.func50,Tryz.ntmps50
 go_wp2_with fail
 go_ret
 exact ⟨rfl,HB.out⟩
theorem zPp {w:World} {ks:List T} {kv:Value} {s:ByteArray} {nm p:Int} (h:Win w ks kv) (hf:Fit 23 ks) :
  Calls Tryz.prog 50 #[.agg #[.int .i64 23,.string s,.int .i64 nm,.int .i64 p,kv]] w fun e w'=>e=.returned (.bool true)∧Below w.heap.size w w':=by
 obtain rfl:ks=[]:=zta hf (by omega)
 obtain ⟨W,hW,HB,H3,n0,n1,n2,n3,n4⟩:=zWa 23 s nm p h
 obtain ⟨pa,cap,hkv,⟨h1,hcap,hcap2⟩,h2,h3⟩:=h
 replace hkv:kv=.slice pa 0 cap:=hkv
 subst hkv
 clear hcap hcap2 h1 h2 h3 hf
 go_enter Tryz.func50,Tryz.ntmps50
 go_wp2_with fail
 go_ret
 exact ⟨rfl,HB.out⟩
theorem zKq {w:World} {ks:List T} {kv:Value} {s:ByteArray} {nm p:Int} (h:Win w ks kv) (hf:Fit 24 ks) :
  Calls Tryz.prog 50 #[.agg #[.int .i64 24,.string s,.int .i64 nm,.int .i64 p,kv]] w fun e w'=>e=.returned (.bool true)∧Below w.heap.size w w':=by
 obtain rfl:ks=[]:=zta hf (by omega)
 obtain ⟨W,hW,HB,H3,n0,n1,n2,n3,n4⟩:=zWa 24 s nm p h
 obtain ⟨pa,cap,hkv,⟨h1,hcap,hcap2⟩,h2,h3⟩:=h
 replace hkv:kv=.slice pa 0 cap:=hkv
 subst hkv
 clear hcap hcap2 h1 h2 h3 hf
 go_enter Tryz.func50,Tryz.ntmps50
 go_wp2_with fail
 go_ret
 exact ⟨rfl,HB.out⟩
theorem zir {w:World} {ks:List T} {kv:Value} {s:ByteArray} {nm p:Int} (h:Win w ks kv) (hf:Fit 26 ks) :
  Calls Tryz.prog 50 #[.agg #[.int .i64 26,.string s,.int .i64 nm,.int .i64 p,kv]] w fun e w'=>e=.returned (.bool true)∧Below w.heap.size w w':=by
 obtain rfl:ks=[]:=zta hf (by omega)
 obtain ⟨W,hW,HB,H3,n0,n1,n2,n3,n4⟩:=zWa 26 s nm p h
 obtain ⟨pa,cap,hkv,⟨h1,hcap,hcap2⟩,h2,h3⟩:=h
 replace hkv:kv=.slice pa 0 cap:=hkv
 subst hkv
 clear hcap hcap2 h1 h2 h3 hf
 go_enter Tryz.func50,Tryz.ntmps50
 go_wp2_with fail
 go_ret
 exact ⟨rfl,HB.out⟩
theorem zSp {w:World} {ks:List T} {kv:Value} {s:ByteArray} {nm p:Int} (h:Win w ks kv) (hf:Fit 27 ks) :
  Calls Tryz.prog 50 #[.agg #[.int .i64 27,.string s,.int .i64 nm,.int .i64 p,kv]] w fun e w'=>e=.returned (.bool true)∧Below w.heap.size w w':=by
 obtain rfl:ks=[]:=zta hf (by omega)
 obtain ⟨W,hW,HB,H3,n0,n1,n2,n3,n4⟩:=zWa 27 s nm p h
 obtain ⟨pa,cap,hkv,⟨h1,hcap,hcap2⟩,h2,h3⟩:=h
 replace hkv:kv=.slice pa 0 cap:=hkv
 subst hkv
 clear hcap hcap2 h1 h2 h3 hf
 go_enter Tryz.func50,Tryz.ntmps50
 go_wp2_with fail
 go_ret
 exact ⟨rfl,HB.out⟩
theorem zrt {w:World} {ks:List T} {kv:Value} {s:ByteArray} {nm p:Int} (h:Win w ks kv) (hf:Fit 4 ks) :
  Calls Tryz.prog 50 #[.agg #[.int .i64 4,.string s,.int .i64 nm,.int .i64 p,kv]] w fun e w'=>e=.returned (.bool true)∧Below w.heap.size w w':=by
 obtain ⟨a,b,rfl,ha,hb⟩:=zHk hf (by omega)
 obtain ⟨W,hW,HB,H3,n0,n1,n2,n3,n4⟩:=zWa 4 s nm p h
 have HK:=zh (show [a,b].map T.kind=[5,5] by simp [*])
 obtain ⟨pa,cap,hkv,⟨h1,hcap,hcap2⟩,h2,h3⟩:=h
 replace hkv:kv=.slice pa 2 cap:=hkv
 subst hkv
 clear hcap hcap2 h1 h2 h3 hf
 go_enter Tryz.func50,Tryz.ntmps50
 go_wp2_with fail
 refine (zfc (H3.out.below ((Below.refl _ _).alloc (Nat.le_refl _) _)) (zpd W [5,5] 2 rfl) HK.out).mono ?_
 rintro e w2 ⟨rfl,hb2⟩
 have HB2:=zh ((HB.out.alloc HB.out.size _).trans (hb2.mono (by have:=HB.out.size;simp;omega)))
 clear hb2
 go_wp2_with fail
 go_ret
 exact ⟨rfl,HB2.out⟩
theorem zYq {w:World} {ks:List T} {kv:Value} {s:ByteArray} {nm p:Int} (h:Win w ks kv) (hf:Fit 11 ks) :
  Calls Tryz.prog 50 #[.agg #[.int .i64 11,.string s,.int .i64 nm,.int .i64 p,kv]] w fun e w'=>e=.returned (.bool true)∧Below w.heap.size w w':=by
 obtain ⟨a,b,rfl,ha,hb⟩:=zHk hf (by omega)
 obtain ⟨W,hW,HB,H3,n0,n1,n2,n3,n4⟩:=zWa 11 s nm p h
 have HK:=zh (show [a,b].map T.kind=[5,5] by simp [*])
 obtain ⟨pa,cap,hkv,⟨h1,hcap,hcap2⟩,h2,h3⟩:=h
 replace hkv:kv=.slice pa 2 cap:=hkv
 subst hkv
 clear hcap hcap2 h1 h2 h3 hf
 go_enter Tryz.func50,Tryz.ntmps50
 go_wp2_with fail
 refine (zfc (H3.out.below ((Below.refl _ _).alloc (Nat.le_refl _) _)) (zpd W [5,5] 2 rfl) HK.out).mono ?_
 rintro e w2 ⟨rfl,hb2⟩
 have HB2:=zh ((HB.out.alloc HB.out.size _).trans (hb2.mono (by have:=HB.out.size;simp;omega)))
 clear hb2
 go_wp2_with fail
 go_ret
 exact ⟨rfl,HB2.out⟩
theorem zJq {w:World} {ks:List T} {kv:Value} {s:ByteArray} {nm p:Int} (h:Win w ks kv) (hf:Fit 21 ks) :
  Calls Tryz.prog 50 #[.agg #[.int .i64 21,.string s,.int .i64 nm,.int .i64 p,kv]] w fun e w'=>e=.returned (.bool true)∧Below w.heap.size w w':=by
 obtain ⟨a,b,rfl,ha,hb⟩:=zHk hf (by omega)
 obtain ⟨W,hW,HB,H3,n0,n1,n2,n3,n4⟩:=zWa 21 s nm p h
 have HK:=zh (show [a,b].map T.kind=[5,5] by simp [*])
 obtain ⟨pa,cap,hkv,⟨h1,hcap,hcap2⟩,h2,h3⟩:=h
 replace hkv:kv=.slice pa 2 cap:=hkv
 subst hkv
 clear hcap hcap2 h1 h2 h3 hf
 go_enter Tryz.func50,Tryz.ntmps50
 go_wp2_with fail
 refine (zfc (H3.out.below ((Below.refl _ _).alloc (Nat.le_refl _) _)) (zpd W [5,5] 2 rfl) HK.out).mono ?_
 rintro e w2 ⟨rfl,hb2⟩
 have HB2:=zh ((HB.out.alloc HB.out.size _).trans (hb2.mono (by have:=HB.out.size;simp;omega)))
 clear hb2
 go_wp2_with fail
 go_ret
 exact ⟨rfl,HB2.out⟩
theorem zeq {w:World} {ks:List T} {kv:Value} {s:ByteArray} {nm p:Int} (h:Win w ks kv) (hf:Fit 22 ks) :
  Calls Tryz.prog 50 #[.agg #[.int .i64 22,.string s,.int .i64 nm,.int .i64 p,kv]] w fun e w'=>e=.returned (.bool true)∧Below w.heap.size w w':=by
 obtain ⟨a,b,rfl,ha,hb⟩:=zHk hf (by omega)
 obtain ⟨W,hW,HB,H3,n0,n1,n2,n3,n4⟩:=zWa 22 s nm p h
 have HK:=zh (show [a,b].map T.kind=[5,5] by simp [*])
 obtain ⟨pa,cap,hkv,⟨h1,hcap,hcap2⟩,h2,h3⟩:=h
 replace hkv:kv=.slice pa 2 cap:=hkv
 subst hkv
 clear hcap hcap2 h1 h2 h3 hf
 go_enter Tryz.func50,Tryz.ntmps50
 go_wp2_with fail
 refine (zfc (H3.out.below ((Below.refl _ _).alloc (Nat.le_refl _) _)) (zpd W [5,5] 2 rfl) HK.out).mono ?_
 rintro e w2 ⟨rfl,hb2⟩
 have HB2:=zh ((HB.out.alloc HB.out.size _).trans (hb2.mono (by have:=HB.out.size;simp;omega)))
 clear hb2
 go_wp2_with fail
 go_ret
 exact ⟨rfl,HB2.out⟩
theorem zOt {w:World} {ks:List T} {kv:Value} {s:ByteArray} {nm p:Int} (h:Win w ks kv) (hf:Fit 7 ks) :
  Calls Tryz.prog 50 #[.agg #[.int .i64 7,.string s,.int .i64 nm,.int .i64 p,kv]] w fun e w'=>e=.returned (.bool true)∧Below w.heap.size w w':=by
 obtain ⟨a,rfl,ha⟩:=zAo hf rfl
 obtain ⟨W,hW,HB,H3,n0,n1,n2,n3,n4⟩:=zWa 7 s nm p h
 have HK:=zh (show [a].map T.kind=[8] by simp [*])
 obtain ⟨pa,cap,hkv,⟨h1,hcap,hcap2⟩,h2,h3⟩:=h
 replace hkv:kv=.slice pa 1 cap:=hkv
 subst hkv
 clear hcap hcap2 h1 h2 h3 hf
 go_enter Tryz.func50,Tryz.ntmps50
 go_wp2_with fail
 refine (zfc (H3.out.below ((Below.refl _ _).alloc (Nat.le_refl _) _)) (zpd W [8] 1 rfl) HK.out).mono ?_
 rintro e w2 ⟨rfl,hb2⟩
 have HB2:=zh ((HB.out.alloc HB.out.size _).trans (hb2.mono (by have:=HB.out.size;simp;omega)))
 clear hb2
 go_wp2_with fail
 go_ret
 exact ⟨rfl,HB2.out⟩
theorem zKp {w:World} {ks:List T} {kv:Value} {s:ByteArray} {nm p:Int} (h:Win w ks kv) (hf:Fit 15 ks) :
  Calls Tryz.prog 50 #[.agg #[.int .i64 15,.string s,.int .i64 nm,.int .i64 p,kv]] w fun e w'=>e=.returned (.bool true)∧Below w.heap.size w w':=by
 obtain ⟨a,b,c,d,rfl,ha,hb,hc,hd⟩:=rf_if hf rfl
 obtain ⟨W,hW,HB,H3,n0,n1,n2,n3,n4⟩:=zWa 15 s nm p h
 have HK:=zh (show [a,b,c,d].map T.kind=[5,5,9,9] by simp [*])
 obtain ⟨pa,cap,hkv,⟨h1,hcap,hcap2⟩,h2,h3⟩:=h
 replace hkv:kv=.slice pa 4 cap:=hkv
 subst hkv
 clear hcap hcap2 h1 h2 h3 hf
 go_enter Tryz.func50,Tryz.ntmps50
 go_wp2_with fail
 refine (zfc (H3.out.below ((Below.refl _ _).alloc (Nat.le_refl _) _)) (zpd W [5,5,9,9] 4 rfl) HK.out).mono ?_
 rintro e w2 ⟨rfl,hb2⟩
 have HB2:=zh ((HB.out.alloc HB.out.size _).trans (hb2.mono (by have:=HB.out.size;simp;omega)))
 clear hb2
 go_wp2_with fail
 go_ret
 exact ⟨rfl,HB2.out⟩
theorem zor {w:World} {ks:List T} {kv:Value} {s:ByteArray} {nm p:Int} (h:Win w ks kv) (hf:Fit 16 ks) :
  Calls Tryz.prog 50 #[.agg #[.int .i64 16,.string s,.int .i64 nm,.int .i64 p,kv]] w fun e w'=>e=.returned (.bool true)∧Below w.heap.size w w':=by
 obtain ⟨a,b,c,rfl,ha,hb,hc⟩:=zNo hf rfl
 obtain ⟨W,hW,HB,H3,n0,n1,n2,n3,n4⟩:=zWa 16 s nm p h
 have HK:=zh (show [a,b,c].map T.kind=[5,5,9] by simp [*])
 obtain ⟨pa,cap,hkv,⟨h1,hcap,hcap2⟩,h2,h3⟩:=h
 replace hkv:kv=.slice pa 3 cap:=hkv
 subst hkv
 clear hcap hcap2 h1 h2 h3 hf
 go_enter Tryz.func50,Tryz.ntmps50
 go_wp2_with fail
 refine (zfc (H3.out.below ((Below.refl _ _).alloc (Nat.le_refl _) _)) (zpd W [5,5,9] 3 rfl) HK.out).mono ?_
 rintro e w2 ⟨rfl,hb2⟩
 have HB2:=zh ((HB.out.alloc HB.out.size _).trans (hb2.mono (by have:=HB.out.size;simp;omega)))
 clear hb2
 go_wp2_with fail
 go_ret
 exact ⟨rfl,HB2.out⟩
theorem zlr {w:World} {ks:List T} {kv:Value} {s:ByteArray} {nm p:Int} (h:Win w ks kv) (hf:Fit 20 ks) :
  Calls Tryz.prog 50 #[.agg #[.int .i64 20,.string s,.int .i64 nm,.int .i64 p,kv]] w fun e w'=>e=.returned (.bool true)∧Below w.heap.size w w':=by
 obtain ⟨a,rfl,ha⟩:=rf_do hf rfl
 obtain ⟨W,hW,HB,H3,n0,n1,n2,n3,n4⟩:=zWa 20 s nm p h
 have HK:=zh (show [a].map T.kind=[28] by simp [*])
 obtain ⟨pa,cap,hkv,⟨h1,hcap,hcap2⟩,h2,h3⟩:=h
 replace hkv:kv=.slice pa 1 cap:=hkv
 subst hkv
 clear hcap hcap2 h1 h2 h3 hf
 go_enter Tryz.func50,Tryz.ntmps50
 go_wp2_with fail
 refine (zfc (H3.out.below ((Below.refl _ _).alloc (Nat.le_refl _) _)) (zpd W [28] 1 rfl) HK.out).mono ?_
 rintro e w2 ⟨rfl,hb2⟩
 have HB2:=zh ((HB.out.alloc HB.out.size _).trans (hb2.mono (by have:=HB.out.size;simp;omega)))
 clear hb2
 go_wp2_with fail
 go_ret
 exact ⟨rfl,HB2.out⟩
theorem zXp {w:World} {ks:List T} {kv:Value} {s:ByteArray} {nm p:Int} (h:Win w ks kv) (hf:Fit 25 ks) :
  Calls Tryz.prog 50 #[.agg #[.int .i64 25,.string s,.int .i64 nm,.int .i64 p,kv]] w fun e w'=>e=.returned (.bool true)∧Below w.heap.size w w':=by
 obtain ⟨a,rfl,ha⟩:=zxq hf rfl
 obtain ⟨W,hW,HB,H3,n0,n1,n2,n3,n4⟩:=zWa 25 s nm p h
 have HK:=zh (show [a].map T.kind=[5] by simp [*])
 obtain ⟨pa,cap,hkv,⟨h1,hcap,hcap2⟩,h2,h3⟩:=h
 replace hkv:kv=.slice pa 1 cap:=hkv
 subst hkv
 clear hcap hcap2 h1 h2 h3 hf
 go_enter Tryz.func50,Tryz.ntmps50
 go_wp2_with fail
 refine (zfc (H3.out.below ((Below.refl _ _).alloc (Nat.le_refl _) _)) (zpd W [5] 1 rfl) HK.out).mono ?_
 rintro e w2 ⟨rfl,hb2⟩
 have HB2:=zh ((HB.out.alloc HB.out.size _).trans (hb2.mono (by have:=HB.out.size;simp;omega)))
 clear hb2
 go_wp2_with fail
 go_ret
 exact ⟨rfl,HB2.out⟩
theorem zBr {w:World} {ks:List T} {kv:Value} {s:ByteArray} {nm p:Int} (h:Win w ks kv) (hf:Fit 19 ks) :
  Calls Tryz.prog 50 #[.agg #[.int .i64 19,.string s,.int .i64 nm,.int .i64 p,kv]] w fun e w'=>e=.returned (.bool true)∧Below w.heap.size w w':=by
 have HK:=zh (zsm hf (by omega))
 obtain ⟨W,hW,HB,H3,n0,n1,n2,n3,n4⟩:=zWa 19 s nm p h
 obtain ⟨pa,cap,hkv,⟨h1,hcap,hcap2⟩,h2,h3⟩:=h
 obtain ⟨n,hn⟩:∃ n,ks.length=n:=⟨_,rfl⟩
 rw [hn] at hkv h1
 subst hkv
 clear hcap hcap2 hn h2 h3 hf
 go_enter Tryz.func50,Tryz.ntmps50
 go_wp2_with fail
 refine (ztd H3.out HK.out).mono ?_
 rintro e w2 ⟨rfl,hb2⟩
 have HB2:=zh (HB.out.trans (hb2.mono HB.out.size))
 clear hb2
 go_wp2_with fail
 go_ret
 exact ⟨rfl,HB2.out⟩
theorem zcr {w:World} {ks:List T} {kv:Value} {s:ByteArray} {nm p:Int} (h:Win w ks kv) (hf:Fit 28 ks) :
  Calls Tryz.prog 50 #[.agg #[.int .i64 28,.string s,.int .i64 nm,.int .i64 p,kv]] w fun e w'=>e=.returned (.bool true)∧Below w.heap.size w w':=by
 have HK:=zh (zsm hf (by omega))
 obtain ⟨W,hW,HB,H3,n0,n1,n2,n3,n4⟩:=zWa 28 s nm p h
 obtain ⟨pa,cap,hkv,⟨h1,hcap,hcap2⟩,h2,h3⟩:=h
 obtain ⟨n,hn⟩:∃ n,ks.length=n:=⟨_,rfl⟩
 rw [hn] at hkv h1
 subst hkv
 clear hcap hcap2 hn h2 h3 hf
 go_enter Tryz.func50,Tryz.ntmps50
 go_wp2_with fail
 refine (ztd H3.out HK.out).mono ?_
 rintro e w2 ⟨rfl,hb2⟩
 have HB2:=zh (HB.out.trans (hb2.mono HB.out.size))
 clear hb2
 go_wp2_with fail
 go_ret
 exact ⟨rfl,HB2.out⟩
theorem zfp {w:World} {ks:List T} {kv:Value} {s:ByteArray} {nm p:Int} (h:Win w ks kv) (hf:Fit 2 ks) :
  Calls Tryz.prog 50 #[.agg #[.int .i64 2,.string s,.int .i64 nm,.int .i64 p,kv]] w fun e w'=>e=.returned (.bool true)∧Below w.heap.size w w':=by
 obtain ⟨hle,hk⟩:=zEk hf (by omega)
 have HK:=zh hk
 obtain ⟨W,hW,HB,H3,n0,n1,n2,n3,n4⟩:=zWa 2 s nm p h
 obtain ⟨pa,cap,hkv,⟨h1,hcap,hcap2⟩,h2,h3⟩:=h
 obtain ⟨n,hn⟩:∃ n,ks.length=n:=⟨_,rfl⟩
 rw [hn] at hkv h1 hle
 subst hkv
 have hlt:(n:Int)-1<1:=by omega
 clear hcap hcap2 hn h2 h3 hf hk
 go_enter Tryz.func50,Tryz.ntmps50
 go_wp2_with fail
 refine (ztd H3.out HK.out).mono ?_
 rintro e w2 ⟨rfl,hb2⟩
 have HB2:=zh (HB.out.trans (hb2.mono HB.out.size))
 clear hb2
 go_wp2_with fail
 go_ret
 exact ⟨rfl,HB2.out⟩
theorem zCp {w:World} {ks:List T} {kv:Value} {s:ByteArray} {nm p:Int} (h:Win w ks kv) (hf:Fit 3 ks) :
  Calls Tryz.prog 50 #[.agg #[.int .i64 3,.string s,.int .i64 nm,.int .i64 p,kv]] w fun e w'=>e=.returned (.bool true)∧Below w.heap.size w w':=by
 obtain ⟨hle,hk⟩:=zEk hf (by omega)
 have HK:=zh hk
 obtain ⟨W,hW,HB,H3,n0,n1,n2,n3,n4⟩:=zWa 3 s nm p h
 obtain ⟨pa,cap,hkv,⟨h1,hcap,hcap2⟩,h2,h3⟩:=h
 obtain ⟨n,hn⟩:∃ n,ks.length=n:=⟨_,rfl⟩
 rw [hn] at hkv h1 hle
 subst hkv
 have hlt:(n:Int)-1<1:=by omega
 clear hcap hcap2 hn h2 h3 hf hk
 go_enter Tryz.func50,Tryz.ntmps50
 go_wp2_with fail
 refine (ztd H3.out HK.out).mono ?_
 rintro e w2 ⟨rfl,hb2⟩
 have HB2:=zh (HB.out.trans (hb2.mono HB.out.size))
 clear hb2
 go_wp2_with fail
 go_ret
 exact ⟨rfl,HB2.out⟩
theorem zhp {w:World} {ks:List T} {kv:Value} {s:ByteArray} {nm p:Int} (h:Win w ks kv) (hf:Fit 8 ks) :
  Calls Tryz.prog 50 #[.agg #[.int .i64 8,.string s,.int .i64 nm,.int .i64 p,kv]] w fun e w'=>e=.returned (.bool true)∧Below w.heap.size w w':=by
 obtain ⟨hle,hk⟩:=zEk hf (by omega)
 have HK:=zh hk
 obtain ⟨W,hW,HB,H3,n0,n1,n2,n3,n4⟩:=zWa 8 s nm p h
 obtain ⟨pa,cap,hkv,⟨h1,hcap,hcap2⟩,h2,h3⟩:=h
 obtain ⟨n,hn⟩:∃ n,ks.length=n:=⟨_,rfl⟩
 rw [hn] at hkv h1 hle
 subst hkv
 have hlt:(n:Int)-1<1:=by omega
 clear hcap hcap2 hn h2 h3 hf hk
 go_enter Tryz.func50,Tryz.ntmps50
 go_wp2_with fail
 refine (ztd H3.out HK.out).mono ?_
 rintro e w2 ⟨rfl,hb2⟩
 have HB2:=zh (HB.out.trans (hb2.mono HB.out.size))
 clear hb2
 go_wp2_with fail
 go_ret
 exact ⟨rfl,HB2.out⟩
theorem zmn {w:World} {ks:List T} {kv:Value} {s:ByteArray} {nm p:Int} (h:Win w ks kv) (hf:Fit 17 ks) :
  Calls Tryz.prog 50 #[.agg #[.int .i64 17,.string s,.int .i64 nm,.int .i64 p,kv]] w fun e w'=>e=.returned (.bool true)∧Below w.heap.size w w':=by
 obtain ⟨hle,hk⟩:=zEk hf (by omega)
 have HK:=zh hk
 obtain ⟨W,hW,HB,H3,n0,n1,n2,n3,n4⟩:=zWa 17 s nm p h
 obtain ⟨pa,cap,hkv,⟨h1,hcap,hcap2⟩,h2,h3⟩:=h
 obtain ⟨n,hn⟩:∃ n,ks.length=n:=⟨_,rfl⟩
 rw [hn] at hkv h1 hle
 subst hkv
 have hlt:(n:Int)-1<1:=by omega
 clear hcap hcap2 hn h2 h3 hf hk
 go_enter Tryz.func50,Tryz.ntmps50
 go_wp2_with fail
 refine (ztd H3.out HK.out).mono ?_
 rintro e w2 ⟨rfl,hb2⟩
 have HB2:=zh (HB.out.trans (hb2.mono HB.out.size))
 clear hb2
 go_wp2_with fail
 go_ret
 exact ⟨rfl,HB2.out⟩
theorem zbq {w:World} {ks:List T} {kv:Value} {s:ByteArray} {nm p:Int} (h:Win w ks kv) (hf:Fit 10 ks) :
  Calls Tryz.prog 50 #[.agg #[.int .i64 10,.string s,.int .i64 nm,.int .i64 p,kv]] w fun e w'=>e=.returned (.bool true)∧Below w.heap.size w w':=by
 obtain ⟨a,rfl,ha⟩:=zvs hf rfl
 obtain ⟨W,hW,HB,H3,n0,n1,n2,n3,n4⟩:=zWa 10 s nm p h
 obtain ⟨pa,cap,hkv,⟨h1,hcap,hcap2⟩,h2,h3⟩:=h
 replace hkv:kv=.slice pa 1 cap:=hkv
 subst hkv
 obtain ⟨pa',cap',hv,_,h2,h3⟩:=H3.out
 replace hv:Value.slice pa 1 cap=.slice pa' 1 cap':=hv
 cases hv
 cases pa with
 | none=>exact absurd (h2 rfl) (by simp)
 | some ad =>
 obtain ⟨g,o,rfl,hg,hr⟩:=h3 ad rfl
 obtain ⟨u,h4,_⟩:=hr 0 a rfl
 have m0:W.cell? ⟨g,o,none⟩=some (.int .i64 a.kind):=h4 0 _ rfl
 clear hcap hcap2 hr h4 h1 h2 h3 hf
 generalize a.kind=K at m0 ha
 rcases ha with rfl|⟨hk1,hk2⟩
 ·go_enter Tryz.func50,Tryz.ntmps50
  go_wp2_with fail
  go_ret
  exact ⟨rfl,HB.out⟩
 have hk5:(K == 5)=false:=beq_eq_false_iff_ne.2 (by omega)
 go_enter Tryz.func50,Tryz.ntmps50
 go_wp2_with fail
 go_ret
 exact ⟨rfl,HB.out⟩
theorem zZr {w:World} {ks:List T} {kv:Value} {s:ByteArray} {nm p:Int} (h:Win w ks kv) (hf:Fit 0 ks) :
  Calls Tryz.prog 50 #[.agg #[.int .i64 0,.string s,.int .i64 nm,.int .i64 p,kv]] w fun e w'=>e=.returned (.bool true)∧Below w.heap.size w w':=by
 have HK:=zh (ztq hf rfl)
 obtain ⟨W,hW,HB,H3,n0,n1,n2,n3,n4⟩:=zWa 0 s nm p h
 obtain ⟨pa,cap,hkv,⟨h1,hcap,hcap2⟩,h2,h3⟩:=h
 obtain ⟨n,hn⟩:∃ n,ks.length=n:=⟨_,rfl⟩
 rw [hn] at hkv h1
 subst hkv
 have HN:=zh hn
 clear hcap hcap2 hn h2 h3 hf
 go_enter Tryz.func50,Tryz.ntmps50
 go_wp2_with fail
 go_loopg [4] n (fun gk i wr=>zzn n W gk i wr)
 case atStart=>exact ⟨0,by omega,by omega,rfl,rfl⟩
 case round =>
  obtain ⟨j,hj,hgj,rfl,hw⟩:=hrel
  subst hw
  by_cases hlt:j<n
  ·have hjl:j<ks.length:=by rw [HN.out];exact hlt
   have hle:(j:Int)≤(n:Int)-1:=by omega
   obtain ⟨pa',cap',hv,_,h2,h3⟩:=H3.out
   rw [HN.out] at hv
   cases hv
   cases pa with
   | none =>
    have:=h2 rfl
    subst this
    exact absurd hjl (by simp)
   | some ad =>
    obtain ⟨g,o,rfl,hg,hr⟩:=h3 ad rfl
    obtain ⟨u,h4,_⟩:=hr j ks[j] (List.getElem?_eq_getElem hjl)
    have m0:W.cell? ⟨g,o+j * 5,none⟩=some (.int .i64 (ks[j]).kind):=h4 0 _ rfl
    have hkj:=HK.out _ (List.getElem_mem hjl)
    clear hr h4 h2 h3
    generalize (ks[j]).kind=K at m0 hkj
    rcases hkj with rfl|rfl
    ·skip
     go_wp2_with fail
     go_roundg (gk-1)
     case measure=>omega
     case rel=>exact ⟨j+1,by omega,by omega,by go_num,rfl⟩
    ·skip
     go_wp2_with fail
     go_roundg (gk-1)
     case measure=>omega
     case rel=>exact ⟨j+1,by omega,by omega,by go_num,rfl⟩
  ·have hle:¬ (j:Int)≤(n:Int)-1:=by omega
   go_wp2_with fail
   go_ret
   exact ⟨rfl,HB.out⟩
theorem zLs {w:World} {ks:List T} {kv:Value} {s:ByteArray} {nm p:Int} (h:Win w ks kv) (hf:Fit 9 ks) :
  Calls Tryz.prog 50 #[.agg #[.int .i64 9,.string s,.int .i64 nm,.int .i64 p,kv]] w fun e w'=>e=.returned (.bool true)∧Below w.heap.size w w':=by
 have HK:=zh (zPn hf rfl)
 obtain ⟨W,hW,HB,H3,n0,n1,n2,n3,n4⟩:=zWa 9 s nm p h
 obtain ⟨pa,cap,hkv,⟨h1,hcap,hcap2⟩,h2,h3⟩:=h
 obtain ⟨n,hn⟩:∃ n,ks.length=n:=⟨_,rfl⟩
 rw [hn] at hkv h1
 subst hkv
 have HN:=zh hn
 clear hcap hcap2 hn h2 h3 hf
 go_enter Tryz.func50,Tryz.ntmps50
 go_wp2_with fail
 go_loopg [9] n (fun gk i wr=>zzn n W gk i wr)
 case atStart=>exact ⟨0,by omega,by omega,rfl,rfl⟩
 case round =>
  obtain ⟨j,hj,hgj,rfl,hw⟩:=hrel
  subst hw
  by_cases hlt:j<n
  ·have hjl:j<ks.length:=by rw [HN.out];exact hlt
   have hle:(j:Int)≤(n:Int)-1:=by omega
   obtain ⟨pa',cap',hv,_,h2,h3⟩:=H3.out
   rw [HN.out] at hv
   cases hv
   cases pa with
   | none =>
    have:=h2 rfl
    subst this
    exact absurd hjl (by simp)
   | some ad =>
    obtain ⟨g,o,rfl,hg,hr⟩:=h3 ad rfl
    obtain ⟨u,h4,_⟩:=hr j ks[j] (List.getElem?_eq_getElem hjl)
    have m0:W.cell? ⟨g,o+j * 5,none⟩=some (.int .i64 (ks[j]).kind):=h4 0 _ rfl
    have hkj:=HK.out _ (List.getElem_mem hjl)
    clear hr h4 h2 h3
    generalize (ks[j]).kind=K at m0 hkj
    obtain ⟨hk1,hk2⟩:=hkj
    ·have hk3:¬ K<10:=by omega
     have hk4:¬ 20<K:=by omega
     go_wp2_with fail
     go_roundg (gk-1)
     case measure=>omega
     case rel=>exact ⟨j+1,by omega,by omega,by go_num,rfl⟩
  ·have hle:¬ (j:Int)≤(n:Int)-1:=by omega
   go_wp2_with fail
   go_ret
   exact ⟨rfl,HB.out⟩
theorem zms {w:World} {ks:List T} {kv:Value} {s:ByteArray} {nm p:Int} (h:Win w ks kv) (hf:Fit 6 ks) :
  Calls Tryz.prog 50 #[.agg #[.int .i64 6,.string s,.int .i64 nm,.int .i64 p,kv]] w fun e w'=>e=.returned (.bool true)∧Below w.heap.size w w':=by
 obtain ⟨xs,r,b,rfl,hx,hrk,hbk⟩:=rf_fn hf rfl
 obtain ⟨W,hW,HB,H3,n0,n1,n2,n3,n4⟩:=zWa 6 s nm p h
 obtain ⟨m,hm⟩:∃ m,xs.length=m:=⟨_,rfl⟩
 have hl:(xs++[r,b]).length=m+2:=by simp [hm]
 obtain ⟨pa,cap,hkv,⟨h1,hcap,hcap2⟩,h2,h3⟩:=h
 rw [hl] at hkv h1 hcap
 subst hkv
 obtain ⟨pa',cap',hv,_,h2,h3⟩:=H3.out
 rw [hl] at hv
 cases hv
 cases pa with
 | none=>exact absurd (h2 rfl) (by simp)
 | some ad =>
 obtain ⟨g,o,rfl,hg,hr⟩:=h3 ad rfl
 obtain ⟨u,h4,_⟩:=hr m r (by rw [← hm,List.getElem?_append_right (Nat.le_refl _)];simp)
 obtain ⟨u',h5,_⟩:=hr (m+1) b (by rw [← hm,List.getElem?_append_right (by omega)];simp)
 have m0:W.cell? ⟨g,o+m * 5,none⟩=some (.int .i64 8):=by rw [← hrk];exact h4 0 _ rfl
 have m1:W.cell? ⟨g,o+(m+1) * 5,none⟩=some (.int .i64 9):=by rw [← hbk];exact h5 0 _ rfl
 have hX:Win W xs (.slice (some ⟨g,o,none⟩) m (cap)):=by
  rw [← hm]
  refine ⟨_,_,rfl,⟨by omega,by omega,hcap2⟩,fun h=>(by cases h),fun a ha=>?_⟩
  cases ha
  exact ⟨g,o,rfl,hg,fun k t ht=>hr k t (by rw [List.getElem?_append_left (List.getElem?_eq_some_iff.1 ht).1];exact ht)⟩
 have HX:=zh hX
 have HK:=zh hx
 have hm1:m≤999998:=by omega
 have hc1:m+2≤cap:=hcap
 have hc2:cap≤9223372036854775807:=by have:=hcap2;unfold maxLen at this;omega
 clear hcap hcap2
 clear h1 h2 h3 h4 h5 hr hf hX hx hm hl hrk hbk
 go_enter Tryz.func50,Tryz.ntmps50
 go_wp2_with fail
 refine (ztd HX.out HK.out).mono ?_
 rintro e w2 ⟨rfl,hb2⟩
 have HB2:=zh (HB.out.trans (hb2.mono HB.out.size))
 have p0:w2.cell? ⟨g,o+m * 5,none⟩=some (.int .i64 8):=(hb2.cell (p:=⟨g,o+m * 5,none⟩) hg).trans m0
 have p1:w2.cell? ⟨g,o+(m+1) * 5,none⟩=some (.int .i64 9):=(hb2.cell (p:=⟨g,o+(m+1) * 5,none⟩) hg).trans m1
 have p4:w2.cell? ⟨w.heap.size,4,none⟩=some (.slice (some ⟨g,o,none⟩) (m+2) cap):=(hb2.cell (p:=⟨w.heap.size,4,none⟩) (cell_lt n4)).trans n4
 clear hb2
 go_wp2_with fail
 go_ret
 exact ⟨rfl,HB2.out⟩
theorem zkd:∀ (ys zs:List T),zPa (fun x=>x=3) ys→zPa (fun x=>x=4) zs→zfa (ys++zs)=ys.length
 | [],[],_,_=>rfl
 | [],z :: zs,_,hz=>by
  rw [List.nil_append,zfa,if_neg (by have:=hz z (by simp);omega)]
  rfl
 | y :: ys,zs,hy,hz=>by
  rw [List.cons_append,zfa,if_pos (hy y (by simp)),zkd ys zs (fun t ht=>hy t (by simp [ht])) hz]
  rfl
theorem zgs {w:World} {ks:List T} {kv:Value} {s:ByteArray} {nm p:Int} (h:Win w ks kv) (hf:Fit 1 ks) :
  Calls Tryz.prog 50 #[.agg #[.int .i64 1,.string s,.int .i64 nm,.int .i64 p,kv]] w fun e w'=>e=.returned (.bool true)∧Below w.heap.size w w':=by
 obtain ⟨a,ys,zs,rfl,hak,hy,hz⟩:=zvr hf rfl
 obtain ⟨W,hW,HB,H3,n0,n1,n2,n3,n4⟩:=zWa 1 s nm p h
 have HF:=zh (zkd ys zs hy hz)
 obtain ⟨m,hm⟩:∃ m,ys.length=m:=⟨_,rfl⟩
 obtain ⟨q,hq⟩:∃ q,zs.length=q:=⟨_,rfl⟩
 have hl:(a :: (ys++zs)).length=m+q+1:=by simp [hm,hq]
 obtain ⟨pa,cap,hkv,⟨h1,hcap,hcap2⟩,h2,h3⟩:=h
 rw [hl] at hkv h1 hcap
 subst hkv
 obtain ⟨pa',cap',hv,_,h2,h3⟩:=H3.out
 rw [hl] at hv
 cases hv
 cases pa with
 | none=>exact absurd (h2 rfl) (by simp)
 | some ad =>
 obtain ⟨g,o,rfl,hg,hr⟩:=h3 ad rfl
 obtain ⟨u,h4,_⟩:=hr 0 a rfl
 have m0:W.cell? ⟨g,o,none⟩=some (.int .i64 2):=by rw [← hak];exact h4 0 _ rfl
 obtain ⟨pz,hpz,hX⟩:∃ pz,(if cap-(1+m)=0 then some (⟨g,o,none⟩:Addr) else some ⟨g,o+(1+m) * 5,none⟩)=pz∧Win W zs (.slice pz q (cap-(1+m))):=by
  refine ⟨_,rfl,?_⟩
  rw [← hq]
  refine ⟨_,_,rfl,⟨by omega,by omega,by omega⟩,fun h=>(by split at h<;>cases h),fun ad had=>?_⟩
  split at had
  ·cases had
   refine ⟨g,o,rfl,hg,fun k t ht=>?_⟩
   have:=(List.getElem?_eq_some_iff.1 ht).1
   omega
  ·cases had
   refine ⟨g,o+(1+m) * 5,rfl,hg,fun k t ht=>?_⟩
   obtain ⟨u2,h6,h7⟩:=hr (1+m+k) t (by rw [show 1+m+k=(m+k)+1 by omega,List.getElem?_cons_succ,List.getElem?_append_right (by omega),show m+k-ys.length=k by omega];exact ht)
   exact ⟨u2,by rw [show o+(1+m) * 5+k * 5=o+(1+m+k) * 5 by omega];exact h6,h7⟩
 have HX:=zh hX
 have HPZ:=zh hpz
 have HK:=zh hz
 have hm1:m+q≤999999:=by omega
 have hc1:m+q+1≤cap:=hcap
 have hc2:cap≤9223372036854775807:=by have:=hcap2;unfold maxLen at this;omega
 have HM:=zh hm
 clear hcap hcap2 h1 h2 h3 h4 hr hf hX hy hz hm hq hl hak hpz
 go_enter Tryz.func50,Tryz.ntmps50
 go_wp2_with fail
 refine (zWg H3.out).mono ?_
 rw [HF.out,HM.out]
 rintro e w2 ⟨rfl,hb2⟩
 have HB2:=zh (HB.out.trans (hb2.mono HB.out.size))
 have p0:w2.cell? ⟨g,o,none⟩=some (.int .i64 2):=(hb2.cell (p:=⟨g,o,none⟩) hg).trans m0
 have p4:w2.cell? ⟨w.heap.size,4,none⟩=some (.slice (some ⟨g,o,none⟩) (m+q+1) cap):=(hb2.cell (p:=⟨w.heap.size,4,none⟩) (cell_lt n4)).trans n4
 have HX2:=zh (HX.out.below hb2)
 have hg2:=Nat.lt_of_lt_of_le hg hb2.size
 clear hb2
 go_wp2_with fail
 ·rename_i hcq
  have hx:=HX2.out
  rw [← HPZ.out,if_pos (by omega),show cap-(1+m)=0 by omega] at hx
  refine (ztd (by rw [show m+q+1-(1+m)=q by omega];exact hx) HK.out).mono ?_
  rintro e w3 ⟨rfl,hb3⟩
  have HB3:=zh (HB2.out.trans (hb3.mono HB2.out.size))
  have q0:w3.cell? ⟨g,o,none⟩=some (.int .i64 2):=(hb3.cell (p:=⟨g,o,none⟩) hg2).trans p0
  have q4:w3.cell? ⟨w.heap.size,4,none⟩=some (.slice (some ⟨g,o,none⟩) (m+q+1) cap):=(hb3.cell (p:=⟨w.heap.size,4,none⟩) (cell_lt p4)).trans p4
  clear hb3
  go_wp2_with fail
  go_ret
  exact ⟨rfl,HB3.out⟩
 ·rename_i hcq
  have hx:=HX2.out
  rw [← HPZ.out,if_neg (by omega)] at hx
  refine (ztd (by rw [show m+q+1-(1+m)=q by omega];exact hx) HK.out).mono ?_
  rintro e w3 ⟨rfl,hb3⟩
  have HB3:=zh (HB2.out.trans (hb3.mono HB2.out.size))
  have q0:w3.cell? ⟨g,o,none⟩=some (.int .i64 2):=(hb3.cell (p:=⟨g,o,none⟩) hg2).trans p0
  have q4:w3.cell? ⟨w.heap.size,4,none⟩=some (.slice (some ⟨g,o,none⟩) (m+q+1) cap):=(hb3.cell (p:=⟨w.heap.size,4,none⟩) (cell_lt p4)).trans p4
  clear hb3
  go_wp2_with fail
  go_ret
  exact ⟨rfl,HB3.out⟩
theorem zKo {w:World} {k:Int} {ks:List T} {kv:Value} {s:ByteArray} {nm p:Int} (h:Win w ks kv) (hf:Fit k ks) :
  Calls Tryz.prog 50 #[.agg #[.int .i64 k,.string s,.int .i64 nm,.int .i64 p,kv]] w fun e w'=>e=.returned (.bool true)∧Below w.heap.size w w':=by
 have hf0:=hf
 cases hf with
 | unit e=>subst e;exact zZr h hf0
 | type e=>subst e;exact zgs h hf0
 | none e =>
  rcases e with rfl|rfl|rfl|rfl
  ·exact zfp h hf0
  ·exact zCp h hf0
  ·exact zhp h hf0
  ·exact zmn h hf0
 | one e =>
  rcases e with rfl|rfl|rfl|rfl
  ·exact zfp h hf0
  ·exact zCp h hf0
  ·exact zhp h hf0
  ·exact zmn h hf0
 | two e =>
  rcases e with rfl|rfl|rfl|rfl
  ·exact zrt h hf0
  ·exact zYq h hf0
  ·exact zJq h hf0
  ·exact zeq h hf0
 | fn e=>subst e;exact zms h hf0
 | param e=>subst e;exact zOt h hf0
 | block e=>subst e;exact zLs h hf0
 | set e=>subst e;exact zbq h hf0
 | cond e=>subst e;exact zKp h hf0
 | loop e=>subst e;exact zor h hf0
 | call1 e=>subst e;exact zlr h hf0
 | load e=>subst e;exact zXp h hf0
 | call e =>
  rcases e with rfl|rfl
  ·exact zBr h hf0
  ·exact zcr h hf0
 | leaf e =>
  rcases e with rfl|rfl|rfl|rfl|rfl|rfl|rfl|rfl|rfl
  ·exact zqs h hf0
  ·exact zfr h hf0
  ·exact zRq h hf0
  ·exact zWq h hf0
  ·exact zkq h hf0
  ·exact zPp h hf0
  ·exact zKq h hf0
  ·exact zir h hf0
  ·exact zSp h hf0
end Go.Proofs.YtbfgdpcgdmabpaaGreatDoor
namespace Go.Proofs.YtbfgdpcgdmabpaaGreatDoor
set_option maxRecDepth 100000
set_option maxHeartbeats 1000000
open Go.RowKit
theorem Tryz.zvc:(Tryz.prog.info? 34).map (·.size)=some 5:=by kernel_rfl
def zYb (d:Nat) (t:T):Prop:=∀ (W:World) (u:Value),KAt 34 W t.kids (fun b=>b<W.heap.size) u →
 Calls Tryz.prog 24 #[zKa t u,.int .i64 d] W fun e W'=>e=.returned (.string (st (shw d t)))∧Below W.heap.size W W'
theorem zUj (xs:List (List UInt8)) (j:Nat) (h:j<xs.length):commas (xs.take (j+1))=if j=0 then xs[j] else commas (xs.take j)++([44,32]++xs[j]):=by
 rw [List.take_succ_eq_append_getElem h]
 split
 ·subst j
  rw [List.take_zero,List.nil_append,zdi]
 ·exact zlh _ _ (by intro e;have h2:=congrArg List.length e;rw [List.length_take,List.length_nil] at h2;omega)
theorem zmf {w:World} {ts:List T} {v:Value} {d:Nat} (h:Win w ts v) (ih:∀ t∈ts,zYb d t) (hz:(commas (zBa d ts)).length≤1000000000) :
  Calls Tryz.prog 54 #[v,.int .i64 d] w fun e w'=>e=.returned (.string (st (commas (zBa d ts))))∧Below w.heap.size w w':=by
 have HW:=zh h
 obtain ⟨pa,cap,rfl,⟨h1,hcap,hcap2⟩,h2,h3⟩:=h
 clear hcap hcap2 h2 h3
 obtain ⟨n,hn⟩:∃ n,ts.length=n:=⟨_,rfl⟩
 rw [hn] at h1 ⊢
 have HN:=zh hn
 have HI:=zh ih
 have HZ:=zh hz
 clear hn ih hz
 go_enter Tryz.func54,Tryz.ntmps54
 go_wp2_with fail
 go_loopg [5,6] n (fun gk s i wr=>∃ j:Nat,j≤n∧n≤j+gk∧i=.int .i64 j∧s=.string (st (commas ((zBa d ts).take j)))∧Hid (Below w.heap.size w wr))
 case atStart=>exact ⟨0,by omega,by omega,rfl,by simp [commas,st],zh (Below.refl _ _)⟩
 case round =>
  obtain ⟨j,hj,hgj,rfl,rfl,HR⟩:=hrel
  by_cases hlt:j<n
  ·have hjl:j<ts.length:=by rw [HN.out];exact hlt
   obtain ⟨pa',cap',hv,_,h2,h3⟩:=HW.out.below HR.out
   rw [HN.out] at hv
   cases hv
   cases pa with
   | none =>
    have:=h2 rfl
    subst this
    exact absurd hjl (by simp)
   | some a =>
    obtain ⟨g,o,rfl,hg,hr⟩:=h3 a rfl
    obtain ⟨u,h4,h5⟩:=hr j ts[j] (List.getElem?_eq_getElem hjl)
    have H4:=zh h4
    have H5:=zh (HI.out ts[j] (List.getElem_mem hjl) wr u h5)
    have hxl:j<(zBa d ts).length:=by rw [zNa];exact hjl
    have hxe:(zBa d ts)[j]=shw d ts[j]:=by simp only [zWb,List.getElem_map]
    have HC:=zh (zUj (zBa d ts) j hxl)
    have hz1:(st (commas ((zBa d ts).take j))).size≤140737488351232:=by have h6:=zUd (zBa d ts) j;have h7:=HZ.out;rw [zIb];omega
    have hz2:(st (shw d ts[j])).size≤140737488351232:=by
     have h6:=zUd (zBa d ts) (j+1)
     have h7:=HZ.out
     have h8:=congrArg List.length HC.out
     rw [hxe] at h8
     rw [zIb]
     split at h8
     ·omega
     ·simp only [List.length_append] at h8;omega
    rw [hxe] at HC
    have HL:=zh (show j=0→commas ((zBa d ts).take j)=[] from fun e=>by subst e;rfl)
    clear hr h4 h5 h2 h3 hxl hxe
    generalize ts[j]=t at *
    generalize commas ((zBa d ts).take j)=l at *
    by_cases hj0:j=0
    ·subst hj0
     go_wp2_with ((with_reducible refine zdb 34 (.tmp 20) ?_);refine wpList_load_mid rfl 34 (.tmp 20) rfl g (o+0 * 5) rfl (zaa t u) _ H4.out Tryz.underlying34 rfl Tryz.zvc ?_)
     refine H5.out.mono ?_
     rintro e w3 ⟨rfl,hb3⟩
     have HB3:=zh (HR.out.trans (hb3.mono HR.out.size))
     clear hb3
     go_wp2_with fail
     go_roundg (gk-1)
     case measure=>omega
     case rel=>exact ⟨0+1,by omega,by omega,by go_num,by rw [HC.out,if_pos trivial,HL.out trivial,zwe];rfl,HB3⟩
    ·have hjp:0<j:=by omega
     go_wp2_with ((with_reducible refine zdb 34 (.tmp 20) ?_);refine wpList_load_mid rfl 34 (.tmp 20) rfl g (o+j * 5) rfl (zaa t u) _ H4.out Tryz.underlying34 rfl Tryz.zvc ?_)
     refine H5.out.mono ?_
     rintro e w3 ⟨rfl,hb3⟩
     have HB3:=zh (HR.out.trans (hb3.mono HR.out.size))
     clear hb3
     go_wp2_with fail
     go_roundg (gk-1)
     case measure=>omega
     case rel=>exact ⟨j+1,by omega,by omega,by go_num,by rw [HC.out,if_neg hj0];show Value.string (st l++st [44,32]++st (shw d t))=_;rw [zwe,zwe,List.append_assoc],HB3⟩
  ·obtain rfl:j=n:=by omega
   go_wp2_with fail
   go_ret
   exact ⟨by rw [← HN.out,← zNa d ts,List.take_length];rfl,HR.out⟩
end Go.Proofs.YtbfgdpcgdmabpaaGreatDoor
namespace Go.Proofs.YtbfgdpcgdmabpaaGreatDoor
set_option maxRecDepth 100000
set_option maxHeartbeats 400000
open Go.RowKit
theorem zPj {w:World} {kv:Value} {d:Nat} {k nm p:Int} {s:ByteArray} (h:Win w [] kv) :
  Calls Tryz.prog 51 #[.agg #[.int .i64 k,.string s,.int .i64 nm,.int .i64 p,kv],.int .i64 d] w fun e w'=>e=.returned (.string (st []))∧Below w.heap.size w w':=by
 obtain ⟨W,hW,HB,H3,n0,n1,n2,n3,n4⟩:=zWa k s nm p h
 obtain ⟨pa,cap,hkv,⟨h1,hcap,hcap2⟩,h2,h3⟩:=h
 replace hkv:kv=.slice pa 0 cap:=hkv
 subst hkv
 clear hcap hcap2 h1 h2 h3
 go_enter Tryz.func51,Tryz.ntmps51
 go_wp2_with fail
 go_ret
 exact ⟨rfl,HB.out⟩
theorem zKj {w:World} {a:T} {ts:List T} {kv:Value} {d:Nat} {k nm p:Int} {s:ByteArray} (h:Win w (a :: ts) kv) (ih:zYb d a) :
  Calls Tryz.prog 51 #[.agg #[.int .i64 k,.string s,.int .i64 nm,.int .i64 p,kv],.int .i64 d] w fun e w'=>e=.returned (.string (st (shw d a)))∧Below w.heap.size w w':=by
 obtain ⟨W,hW,HB,H3,n0,n1,n2,n3,n4⟩:=zWa k s nm p h
 obtain ⟨q,hq⟩:∃ q,ts.length=q:=⟨_,rfl⟩
 have hl:(a :: ts).length=q+1:=by simp [hq]
 obtain ⟨pa,cap,hkv,⟨h1,hcap,hcap2⟩,h2,h3⟩:=h
 rw [hl] at hkv h1
 subst hkv
 obtain ⟨pa',cap',hv,_,h2,h3⟩:=H3.out
 rw [hl] at hv
 cases hv
 cases pa with
 | none=>exact absurd (h2 rfl) (by simp)
 | some ad =>
 obtain ⟨g,o,rfl,hg,hr⟩:=h3 ad rfl
 obtain ⟨u,h4,h5⟩:=hr 0 a rfl
 have H4:=zh (show W.rangeAt g o (zaa a u) from by rw [Nat.zero_mul,Nat.add_zero] at h4;exact h4)
 have H5:=zh (ih W u h5)
 clear hcap hcap2 h2 h3 h4 h5 hr hq hl ih
 go_enter Tryz.func51,Tryz.ntmps51
 go_wp2_with ((with_reducible refine zdb 34 (.tmp 11) ?_);refine wpList_load_mid rfl 34 (.tmp 11) rfl g o rfl (zaa a u) _ H4.out Tryz.underlying34 rfl Tryz.zvc ?_)
 refine H5.out.mono ?_
 rintro e w2 ⟨rfl,hb2⟩
 have HB2:=zh (HB.out.trans (hb2.mono HB.out.size))
 clear hb2
 go_wp2_with fail
 go_ret
 exact ⟨rfl,HB2.out⟩
end Go.Proofs.YtbfgdpcgdmabpaaGreatDoor
