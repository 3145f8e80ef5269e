/- The contracts of the writer's indent, maybeKid, compare and call. -/
import Derived.Test.YtbfgdpcgdmabpaaGreatDoorY17
import Derived.Shelf.Small.Strs
import Derived.Shelf.Strconv.Itoa0
import Derived.Shelf.Strconv.Itoa1
import Derived.Shelf.LaysM
import Derived.Shelf.Strconv.Itoa2
import Derived.Shelf.Strconv.Itoa3
import Derived.Shelf.Strconv.Itoa4
import Derived.Shelf.Strings.Search1
import Derived.Shelf.Strings.Search2
import Derived.Shelf.Strings.Search3
import Derived.Shelf.Strings.Count
import Derived.Shelf.Strings.Shaped
import Derived.Shelf.Strings.LastIndex
import Derived.Test.YtbfgdpcgdmabpaaGreatDoorRows
import Derived.Test.YtbfgdpcgdmabpaaGreatDoorY04
import Derived.Test.YtbfgdpcgdmabpaaGreatDoorY14
import Derived.Lib.AppendIntMem
namespace Go.Proofs.YtbfgdpcgdmabpaaGreatDoor
set_option maxRecDepth 100000
set_option maxHeartbeats 2000000
open Go.RowKit
theorem KAt.len {e:TypeId} {w:World} {ks:List T} {S:Nat→Prop} {v:Value} (h:KAt e w ks S v):∃ a c,v=.slice a ks.length c:=by
 rcases h.form with ⟨rfl,rfl⟩|⟨g,cap,rfl,_⟩
 ·exact ⟨_,_,rfl⟩
 ·exact ⟨_,_,rfl⟩
theorem lists {B g c1 c2:Nat} {t:T} {kv:Value} {l:List UInt8} {d:Nat} {w:World} (h:Wn B g c1 c2 t kv l d w) (hk:zWb B g c1 c2 t kv) (a b:Nat) (ai bi:Int) (ha:ai=(a:Int)) (hbi:bi=(b:Int)) (hab:a≤b) (hb:b≤t.kids.length) (hz:b≤1000000)
  (xs:List (List UInt8)) (hx:xs=((zpb d t.kids).drop a).take (b-a)) (hl:l.length+(commas xs).length≤140737488355328) :
  Calls Tryz.prog 121 #[.pointer (some ⟨g,0,none⟩),.int .i64 ai,.int .i64 bi,.func (.func 44) #[] #[.pointer (some ⟨c1,0,none⟩),.pointer (some ⟨c2,0,none⟩)]] w (zMa B g (l++commas xs) d w):=by
 subst ha hbi
 exact zMn h hk a b hab hb hz xs hx hl
def InRel (W0:World) (B g:Nat) (l:List UInt8) (d:Nat) (gh:Nat) (i:Value) (wr:World):Prop :=
 ∃ j:Nat,j≤d∧d≤j+gh∧i=.int .i64 j∧ztd B g (l++blanks j) d wr∧Below B W0 wr∧Oth g W0 wr
theorem zuj {B g:Nat} {l:List UInt8} {d:Nat} {w:World} (h:ztd B g l d w) (hd:d≤100000000000000) (hl:l.length+(blanks d).length≤140737488355328) :
  Calls Tryz.prog 122 #[.pointer (some ⟨g,0,none⟩)] w (zMa B g (l++blanks d) d w):=by
 have H:=zh h
 have e0:=h.depth
 have HBL:=zh (show ∀ j,(blanks j).length=4 * j from fun j=>by unfold blanks;rw [List.length_replicate])
 rw [HBL.out] at hl
 clear h
 go_enter Tryz.func122,Tryz.ntmps122
 go_wp2_with fail
 go_loopg [6] d (fun gk i wr=>InRel w B g l d gk i wr)
 case atStart=>exact ⟨0,by omega,by omega,rfl,by simpa [blanks] using H.out,Below.refl _ _,Oth.refl _ _⟩
 case round =>
  obtain ⟨j,hj,hgj,rfl,hn,hbw,ho⟩:=hrel
  have HN:=zh hn
  have HB:=zh hbw
  have HO:=zh ho
  clear hn hbw ho
  by_cases hlt:j<d
  ·go_wp2_with fail
   refine (puts HN.out [⟨#[32,32,32,32]⟩] 1 _ _ rfl rfl rfl (by omega) (by rw [zqk,ztf];simp only [List.length_append,List.length_cons,List.length_nil,HBL.out];omega)).mono ?_
   rintro e w1 ⟨rfl,h1,hb1,ho1⟩
   have HN1:=zh h1
   have HB1:=zh (HB.out.trans hb1)
   have HO1:=zh (HO.out.trans ho1)
   clear h1 hb1 ho1
   go_wp2_with fail
   go_roundg (gk-1)
   case measure=>omega
   case rel=>exact ⟨j+1,by omega,by omega,by go_num,by rw [zMl];have h:=HN1.out;rw [zqk,ztf] at h;simpa only [List.append_assoc] using h,HB1.out,HO1.out⟩
  ·obtain rfl:j=d:=by omega
   go_wp2_with fail
   go_end0
   exact ⟨rfl,HN.out,HB.out,HO.out⟩
theorem zUf {B g c1 c2:Nat} {kk:Int} {s:ByteArray} {nm:Int} {p:Nat} {ks:List T} {kv:Value} {l:List UInt8} {d:Nat} {w:World} {a b:ByteArray} (h:Wn B g c1 c2 (T.mk kk s nm p ks) kv l d w) (hk:zWb B g c1 c2 (T.mk kk s nm p ks) kv) (hz:ks.length≤1000000) (hl:l.length+(maybe (tb a) (tb b) (zpb d ks)).length≤140737488355328) :
  Calls Tryz.prog 87 #[.pointer (some ⟨g,0,none⟩),.agg #[.int .i64 kk,.string s,.int .i64 nm,.int .i64 p,kv],.string a,.string b,.func (.func 44) #[] #[.pointer (some ⟨c1,0,none⟩),.pointer (some ⟨c2,0,none⟩)]] w (zMa B g (l++(maybe (tb a) (tb b) (zpb d ks))) d w):=by
 obtain ⟨ka,kc,hkv⟩:=h.k.len
 have HKV:=zh hkv
 clear hkv
 have HZ:=zh hz
 cases ks with
 | nil =>
  have HK:=zh hk
  have HL:=zh hl
  obtain ⟨W0,hW0,HM0⟩:∃ W,w.alloc (.cells [.int .i64 kk,.string s,.int .i64 nm,.int .i64 p,kv].toArray 25)=W∧Hid (Wm w B g c1 c2 w.heap.size _ _ l d W):=⟨_,rfl,zh (Wm.start h)⟩
  have e0_4:W0.cell? ⟨w.heap.size,4,none⟩=some (.slice ka 0 kc):=by have h:W0.cell? ⟨w.heap.size,4,none⟩=some kv:=HM0.out.q.cell 4;rw [HKV.out] at h;exact h
  clear h hk hl
  go_enter Tryz.func87,Tryz.ntmps87
  go_wp2_with fail
  go_end0
  have h:=HM0.out.post
  rw [zib]
  simpa [maybe] using h
 | cons u r =>
  rw [zPa] at hl ⊢
  unfold maybe at hl ⊢
  have hlen:(0:Int)<((r.length+1:Nat):Int):=by omega
  have HK:=zh hk
  have HL:=zh hl
  obtain ⟨W0,hW0,HM0⟩:∃ W,w.alloc (.cells [.int .i64 kk,.string s,.int .i64 nm,.int .i64 p,kv].toArray 25)=W∧Hid (Wm w B g c1 c2 w.heap.size _ _ l d W):=⟨_,rfl,zh (Wm.start h)⟩
  have e0_4:W0.cell? ⟨w.heap.size,4,none⟩=some (.slice ka (r.length+1) kc):=by have h:W0.cell? ⟨w.heap.size,4,none⟩=some kv:=HM0.out.q.cell 4;rw [HKV.out] at h;exact h
  clear h hk hl
  go_enter Tryz.func87,Tryz.ntmps87
  go_wp2_with fail
  refine (puts HM0.out.n.st [a] 1 _ _ rfl rfl rfl (by omega) (by have hl:=HL.out;simp [cat,tb] at hl ⊢;omega)).mono ?_
  rintro e w1 ⟨rfl,hs,hb,ho⟩
  have HM1:=zh (HM0.out.step hs hb ho)
  clear hs hb ho
  have e1_4:w1.cell? ⟨w.heap.size,4,none⟩=some (.slice ka (r.length+1) kc):=by have h:w1.cell? ⟨w.heap.size,4,none⟩=some kv:=HM1.out.q.cell 4;rw [HKV.out] at h;exact h
  go_wp2_with fail
  refine (HK.out.get _ 0 _ (by omega) HM1.out.n rfl (by have hl:=HL.out;simp [cat,tb] at hl ⊢;omega)).mono ?_
  rintro e w2 ⟨rfl,hs,hb,ho⟩
  have HM2:=zh (HM1.out.step hs hb ho)
  clear hs hb ho
  have e2_4:w2.cell? ⟨w.heap.size,4,none⟩=some (.slice ka (r.length+1) kc):=by have h:w2.cell? ⟨w.heap.size,4,none⟩=some kv:=HM2.out.q.cell 4;rw [HKV.out] at h;exact h
  go_wp2_with fail
  refine (puts HM2.out.n.st [b] 1 _ _ rfl rfl rfl (by omega) (by have hl:=HL.out;simp [cat,tb] at hl ⊢;omega)).mono ?_
  rintro e w3 ⟨rfl,hs,hb,ho⟩
  have HM3:=zh (HM2.out.step hs hb ho)
  clear hs hb ho
  have e3_4:w3.cell? ⟨w.heap.size,4,none⟩=some (.slice ka (r.length+1) kc):=by have h:w3.cell? ⟨w.heap.size,4,none⟩=some kv:=HM3.out.q.cell 4;rw [HKV.out] at h;exact h
  go_wp2_with fail
  go_end0
  have h:=HM3.out.post
  simpa [cat,tb] using h
theorem zqh {B g c1 c2:Nat} {kk:Int} {s:ByteArray} {nm:Int} {p:Nat} {ks:List T} {kv:Value} {l:List UInt8} {d:Nat} {w:World} {u v:T} (h:Wn B g c1 c2 (T.mk kk s nm p ks) kv l d w) (hk:zWb B g c1 c2 (T.mk kk s nm p ks) kv) (h0:ks[0]?=some u) (h1:ks[1]?=some v) (hl:l.length+(shw d u++([32]++(tb s++([32]++shw d v)))).length≤140737488355328) :
  Calls Tryz.prog 88 #[.pointer (some ⟨g,0,none⟩),.agg #[.int .i64 kk,.string s,.int .i64 nm,.int .i64 p,kv],.func (.func 44) #[] #[.pointer (some ⟨c1,0,none⟩),.pointer (some ⟨c2,0,none⟩)]] w (zMa B g (l++(shw d u++([32]++(tb s++([32]++shw d v))))) d w):=by
 have HK:=zh hk
 have HL:=zh hl
 obtain ⟨W0,hW0,HM0⟩:∃ W,w.alloc (.cells [.int .i64 kk,.string s,.int .i64 nm,.int .i64 p,kv].toArray 25)=W∧Hid (Wm w B g c1 c2 w.heap.size _ _ l d W):=⟨_,rfl,zh (Wm.start h)⟩
 have e0_1:W0.cell? ⟨w.heap.size,1,none⟩=some (.string s):=HM0.out.q.cell 1
 clear h hk hl
 go_enter Tryz.func88,Tryz.ntmps88
 go_wp2_with fail
 refine (HK.out.get _ 0 _ (by omega) HM0.out.n h0 (by have hl:=HL.out;simp at hl ⊢;omega)).mono ?_
 rintro e w1 ⟨rfl,hs,hb,ho⟩
 have HM1:=zh (HM0.out.step hs hb ho)
 clear hs hb ho
 have e1_1:w1.cell? ⟨w.heap.size,1,none⟩=some (.string s):=HM1.out.q.cell 1
 go_wp2_with fail
 refine (puts HM1.out.n.st [⟨#[32]⟩,s,⟨#[32]⟩] 3 _ _ rfl rfl rfl (by omega) (by have hl:=HL.out;simp [cat,tb] at hl ⊢;omega)).mono ?_
 rintro e w2 ⟨rfl,hs,hb,ho⟩
 have HM2:=zh (HM1.out.step hs hb ho)
 clear hs hb ho
 have e2_1:w2.cell? ⟨w.heap.size,1,none⟩=some (.string s):=HM2.out.q.cell 1
 go_wp2_with fail
 refine (HK.out.get _ 1 _ (by omega) HM2.out.n h1 (by have hl:=HL.out;simp [cat,tb] at hl ⊢;omega)).mono ?_
 rintro e w3 ⟨rfl,hs,hb,ho⟩
 have HM3:=zh (HM2.out.step hs hb ho)
 clear hs hb ho
 have e3_1:w3.cell? ⟨w.heap.size,1,none⟩=some (.string s):=HM3.out.q.cell 1
 go_wp2_with fail
 go_end0
 have h:=HM3.out.post
 simpa [cat,tb] using h
theorem zho {B g c1 c2:Nat} {kk:Int} {s:ByteArray} {nm:Int} {p:Nat} {ks:List T} {kv:Value} {l:List UInt8} {d:Nat} {w:World} (h:Wn B g c1 c2 (T.mk kk s nm p ks) kv l d w) (hk:zWb B g c1 c2 (T.mk kk s nm p ks) kv) (hz:ks.length≤1000000) (hl:l.length+(zRc (tb s) (zpb d ks)).length≤140737488355328) :
  Calls Tryz.prog 96 #[.pointer (some ⟨g,0,none⟩),.agg #[.int .i64 kk,.string s,.int .i64 nm,.int .i64 p,kv],.func (.func 44) #[] #[.pointer (some ⟨c1,0,none⟩),.pointer (some ⟨c2,0,none⟩)]] w (zMa B g (l++(zRc (tb s) (zpb d ks))) d w):=by
 obtain ⟨ka,kc,hkv⟩:=h.k.len
 have HKV:=zh hkv
 clear hkv
 have HZ:=zh (show ks.length≤1000000 from hz)
 unfold zRc at hl ⊢
 have HX:=zh (show zpb d ks=((zpb d (T.mk kk s nm p ks).kids).drop 0).take (ks.length-0) from by rw [List.drop_zero,Nat.sub_zero];exact (List.take_of_length_le (by rw [zEc];exact Nat.le_refl _)).symm)
 clear hz
 have HK:=zh hk
 have HL:=zh hl
 obtain ⟨W0,hW0,HM0⟩:∃ W,w.alloc (.cells [.int .i64 kk,.string s,.int .i64 nm,.int .i64 p,kv].toArray 25)=W∧Hid (Wm w B g c1 c2 w.heap.size _ _ l d W):=⟨_,rfl,zh (Wm.start h)⟩
 have e0_1:W0.cell? ⟨w.heap.size,1,none⟩=some (.string s):=HM0.out.q.cell 1
 have e0_4:W0.cell? ⟨w.heap.size,4,none⟩=some (.slice ka ks.length kc):=by have h:W0.cell? ⟨w.heap.size,4,none⟩=some kv:=HM0.out.q.cell 4;rw [HKV.out] at h;exact h
 clear h hk hl
 go_enter Tryz.func96,Tryz.ntmps96
 go_wp2_with fail
 refine (puts HM0.out.n.st [s,⟨#[40]⟩] 2 _ _ rfl rfl rfl (by omega) (by have hl:=HL.out;simp [cat,tb] at hl ⊢;omega)).mono ?_
 rintro e w1 ⟨rfl,hs,hb,ho⟩
 have HM1:=zh (HM0.out.step hs hb ho)
 clear hs hb ho
 have e1_1:w1.cell? ⟨w.heap.size,1,none⟩=some (.string s):=HM1.out.q.cell 1
 have e1_4:w1.cell? ⟨w.heap.size,4,none⟩=some (.slice ka ks.length kc):=by have h:w1.cell? ⟨w.heap.size,4,none⟩=some kv:=HM1.out.q.cell 4;rw [HKV.out] at h;exact h
 go_wp2_with fail
 refine (lists HM1.out.n HK.out 0 ks.length _ _ rfl rfl (Nat.zero_le _) (Nat.le_refl _) HZ.out (zpb d ks) HX.out (by have hl:=HL.out;simp [cat,tb] at hl ⊢;omega)).mono ?_
 rintro e w2 ⟨rfl,hs,hb,ho⟩
 have HM2:=zh (HM1.out.step hs hb ho)
 clear hs hb ho
 have e2_1:w2.cell? ⟨w.heap.size,1,none⟩=some (.string s):=HM2.out.q.cell 1
 have e2_4:w2.cell? ⟨w.heap.size,4,none⟩=some (.slice ka ks.length kc):=by have h:w2.cell? ⟨w.heap.size,4,none⟩=some kv:=HM2.out.q.cell 4;rw [HKV.out] at h;exact h
 go_wp2_with fail
 refine (puts HM2.out.n.st [⟨#[41]⟩] 1 _ _ rfl rfl rfl (by omega) (by have hl:=HL.out;simp [cat,tb] at hl ⊢;omega)).mono ?_
 rintro e w3 ⟨rfl,hs,hb,ho⟩
 have HM3:=zh (HM2.out.step hs hb ho)
 clear hs hb ho
 have e3_1:w3.cell? ⟨w.heap.size,1,none⟩=some (.string s):=HM3.out.q.cell 1
 have e3_4:w3.cell? ⟨w.heap.size,4,none⟩=some (.slice ka ks.length kc):=by have h:w3.cell? ⟨w.heap.size,4,none⟩=some kv:=HM3.out.q.cell 4;rw [HKV.out] at h;exact h
 go_wp2_with fail
 go_end0
 have h:=HM3.out.post
 simpa [cat,tb] using h
end Go.Proofs.YtbfgdpcgdmabpaaGreatDoor
namespace Go.Proofs.YtbfgdpcgdmabpaaGreatDoor
set_option maxRecDepth 100000
set_option maxHeartbeats 2000000
open Go.RowKit
theorem Wn.zEq {B g c1 c2:Nat} {t:T} {kv:Value} {l:List UInt8} {d:Nat} {W:World} (h:Wn B g c1 c2 t kv l d W) {gk n cap:Nat} (hkv:kv=.slice (some ⟨gk,0,none⟩) n cap) {i:Nat} {u:T} (hu:t.kids[i]?=some u) :
  ∃ a c,W.rangeAt gk (i * 5) (zaa u (.slice a u.kids.length c)):=by
 rcases h.k.form with ⟨_,hn⟩|⟨g2,cap2,hv,_,_,_,hget⟩
 ·rw [hn] at hu;simp at hu
 ·obtain ⟨x,hr,ht⟩:=hget i u hu
  obtain ⟨a,c,rfl⟩:=ht.kat.len
  rw [hkv] at hv
  injection hv with hv _ _
  have:gk=g2:=by simpa using hv
  subst this
  exact ⟨a,c,hr⟩
theorem Wn.zup {B g c1 c2:Nat} {t:T} {kv:Value} {l:List UInt8} {d:Nat} {W:World} (h:Wn B g c1 c2 t kv l d W) {u:T} {i:Nat} (hu:t.kids[i]?=some u) :
  ∃ gk cap,kv=.slice (some ⟨gk,0,none⟩) t.kids.length cap∧t.kids.length≤cap∧cap≤maxLen:=by
 rcases h.k.form with ⟨_,hn⟩|⟨g2,cap2,hv,_,hc,hm,_⟩
 ·rw [hn] at hu;simp at hu
 ·exact ⟨g2,cap2,hv,hc,hm⟩
def zTc (n:Nat) (x:List UInt8):List UInt8:=if n=0 then [] else x
theorem zDm (x:List UInt8):zTc 0 x=[]:=rfl
theorem zwc {n:Nat} (h:¬ n=0) (x:List UInt8):zTc n x=x:=if_neg h
theorem zCk (s:ByteArray):tb s=s.toList:=(ByteArray.toList_eq s).symm
theorem zLp (d:Nat) (a b:T):zpb d [a,b]=[shw d a,shw d b]:=by rw [zPa,zPa,zib]
theorem zvt {B g c1 c2:Nat} {kk:Int} {s:ByteArray} {nm:Int} {p:Nat} {ks:List T} {kv:Value} {l:List UInt8} {d:Nat} {w:World} (h:Wn B g c1 c2 (T.mk kk s nm p ks) kv l d w) (hk:zWb B g c1 c2 (T.mk kk s nm p ks) kv) (hz:ks.length≤1000000) (hl:l.length+(zDc (tb s) (zpb d ks)).length≤140737488355328) :
  Calls Tryz.prog 91 #[.pointer (some ⟨g,0,none⟩),.agg #[.int .i64 kk,.string s,.int .i64 nm,.int .i64 p,kv],.func (.func 44) #[] #[.pointer (some ⟨c1,0,none⟩),.pointer (some ⟨c2,0,none⟩)]] w (zMa B g (l++(zDc (tb s) (zpb d ks))) d w):=by
 have HZ:=zh hz
 clear hz
 have HT:=zh (zCk s)
 by_cases b1:s.toList=[111,119,110]∨s.toList=[38,109,117,116]
 ·have hX:zDc (tb s) (zpb d ks)=tb s++([32]++maybe [] [] (zpb d ks)):=by unfold zDc;rw [if_pos (by rw [HT.out];exact b1)]
  rw [hX] at hl ⊢
  clear hX
  have HK:=zh hk
  have HL:=zh hl
  obtain ⟨W0,hW0,HM0⟩:∃ W,w.alloc (.cells [.int .i64 kk,.string s,.int .i64 nm,.int .i64 p,kv].toArray 25)=W∧Hid (Wm w B g c1 c2 w.heap.size _ _ l d W):=⟨_,rfl,zh (Wm.start h)⟩
  have e0_0:W0.cell? ⟨w.heap.size,0,none⟩=some (.int .i64 kk):=HM0.out.q.cell 0
  have e0_1:W0.cell? ⟨w.heap.size,1,none⟩=some (.string s):=HM0.out.q.cell 1
  have e0_2:W0.cell? ⟨w.heap.size,2,none⟩=some (.int .i64 nm):=HM0.out.q.cell 2
  have e0_3:W0.cell? ⟨w.heap.size,3,none⟩=some (.int .i64 p):=HM0.out.q.cell 3
  have e0_4:W0.cell? ⟨w.heap.size,4,none⟩=some (kv):=HM0.out.q.cell 4
  clear h hk hl
  rcases b1 with b1|b1
  ·have t1:(s.toList == [111,119,110])=true:=by rw [b1];rfl
   clear b1
   go_enter Tryz.func91,Tryz.ntmps91
   go_wp2_with fail
   refine (puts HM0.out.n.st [s] 1 _ _ rfl rfl rfl (by omega) (by have hl:=HL.out;simp [cat,tb] at hl ⊢;omega)).mono ?_
   rintro e w1 ⟨rfl,hs,hb,ho⟩
   have HM1:=zh (HM0.out.step hs hb ho)
   clear hs hb ho
   have e1_0:w1.cell? ⟨w.heap.size,0,none⟩=some (.int .i64 kk):=HM1.out.q.cell 0
   have e1_1:w1.cell? ⟨w.heap.size,1,none⟩=some (.string s):=HM1.out.q.cell 1
   have e1_2:w1.cell? ⟨w.heap.size,2,none⟩=some (.int .i64 nm):=HM1.out.q.cell 2
   have e1_3:w1.cell? ⟨w.heap.size,3,none⟩=some (.int .i64 p):=HM1.out.q.cell 3
   have e1_4:w1.cell? ⟨w.heap.size,4,none⟩=some (kv):=HM1.out.q.cell 4
   go_wp2_with fail
   refine (puts HM1.out.n.st [⟨#[32]⟩] 1 _ _ rfl rfl rfl (by omega) (by have hl:=HL.out;simp [cat,tb] at hl ⊢;omega)).mono ?_
   rintro e w2 ⟨rfl,hs,hb,ho⟩
   have HM2:=zh (HM1.out.step hs hb ho)
   clear hs hb ho
   have e2_0:w2.cell? ⟨w.heap.size,0,none⟩=some (.int .i64 kk):=HM2.out.q.cell 0
   have e2_1:w2.cell? ⟨w.heap.size,1,none⟩=some (.string s):=HM2.out.q.cell 1
   have e2_2:w2.cell? ⟨w.heap.size,2,none⟩=some (.int .i64 nm):=HM2.out.q.cell 2
   have e2_3:w2.cell? ⟨w.heap.size,3,none⟩=some (.int .i64 p):=HM2.out.q.cell 3
   have e2_4:w2.cell? ⟨w.heap.size,4,none⟩=some (kv):=HM2.out.q.cell 4
   go_wp2_with fail
   refine (zUf (a:=⟨#[]⟩) (b:=⟨#[]⟩) HM2.out.n HK.out HZ.out (by have hl:=HL.out;simp [cat,tb] at hl ⊢;omega)).mono ?_
   rintro e w3 ⟨rfl,hs,hb,ho⟩
   have HM3:=zh (HM2.out.step hs hb ho)
   clear hs hb ho
   have e3_0:w3.cell? ⟨w.heap.size,0,none⟩=some (.int .i64 kk):=HM3.out.q.cell 0
   have e3_1:w3.cell? ⟨w.heap.size,1,none⟩=some (.string s):=HM3.out.q.cell 1
   have e3_2:w3.cell? ⟨w.heap.size,2,none⟩=some (.int .i64 nm):=HM3.out.q.cell 2
   have e3_3:w3.cell? ⟨w.heap.size,3,none⟩=some (.int .i64 p):=HM3.out.q.cell 3
   have e3_4:w3.cell? ⟨w.heap.size,4,none⟩=some (kv):=HM3.out.q.cell 4
   go_wp2_with fail
   go_end0
   have h:=HM3.out.post
   simpa [cat,tb] using h
  ·have t1:(s.toList == [111,119,110])=false:=by rw [b1];rfl
   have t2:(s.toList == [38,109,117,116])=true:=by rw [b1];rfl
   clear b1
   go_enter Tryz.func91,Tryz.ntmps91
   go_wp2_with fail
   refine (puts HM0.out.n.st [s] 1 _ _ rfl rfl rfl (by omega) (by have hl:=HL.out;simp [cat,tb] at hl ⊢;omega)).mono ?_
   rintro e w1 ⟨rfl,hs,hb,ho⟩
   have HM1:=zh (HM0.out.step hs hb ho)
   clear hs hb ho
   have e1_0:w1.cell? ⟨w.heap.size,0,none⟩=some (.int .i64 kk):=HM1.out.q.cell 0
   have e1_1:w1.cell? ⟨w.heap.size,1,none⟩=some (.string s):=HM1.out.q.cell 1
   have e1_2:w1.cell? ⟨w.heap.size,2,none⟩=some (.int .i64 nm):=HM1.out.q.cell 2
   have e1_3:w1.cell? ⟨w.heap.size,3,none⟩=some (.int .i64 p):=HM1.out.q.cell 3
   have e1_4:w1.cell? ⟨w.heap.size,4,none⟩=some (kv):=HM1.out.q.cell 4
   go_wp2_with fail
   refine (puts HM1.out.n.st [⟨#[32]⟩] 1 _ _ rfl rfl rfl (by omega) (by have hl:=HL.out;simp [cat,tb] at hl ⊢;omega)).mono ?_
   rintro e w2 ⟨rfl,hs,hb,ho⟩
   have HM2:=zh (HM1.out.step hs hb ho)
   clear hs hb ho
   have e2_0:w2.cell? ⟨w.heap.size,0,none⟩=some (.int .i64 kk):=HM2.out.q.cell 0
   have e2_1:w2.cell? ⟨w.heap.size,1,none⟩=some (.string s):=HM2.out.q.cell 1
   have e2_2:w2.cell? ⟨w.heap.size,2,none⟩=some (.int .i64 nm):=HM2.out.q.cell 2
   have e2_3:w2.cell? ⟨w.heap.size,3,none⟩=some (.int .i64 p):=HM2.out.q.cell 3
   have e2_4:w2.cell? ⟨w.heap.size,4,none⟩=some (kv):=HM2.out.q.cell 4
   go_wp2_with fail
   refine (zUf (a:=⟨#[]⟩) (b:=⟨#[]⟩) HM2.out.n HK.out HZ.out (by have hl:=HL.out;simp [cat,tb] at hl ⊢;omega)).mono ?_
   rintro e w3 ⟨rfl,hs,hb,ho⟩
   have HM3:=zh (HM2.out.step hs hb ho)
   clear hs hb ho
   have e3_0:w3.cell? ⟨w.heap.size,0,none⟩=some (.int .i64 kk):=HM3.out.q.cell 0
   have e3_1:w3.cell? ⟨w.heap.size,1,none⟩=some (.string s):=HM3.out.q.cell 1
   have e3_2:w3.cell? ⟨w.heap.size,2,none⟩=some (.int .i64 nm):=HM3.out.q.cell 2
   have e3_3:w3.cell? ⟨w.heap.size,3,none⟩=some (.int .i64 p):=HM3.out.q.cell 3
   have e3_4:w3.cell? ⟨w.heap.size,4,none⟩=some (kv):=HM3.out.q.cell 4
   go_wp2_with fail
   go_end0
   have h:=HM3.out.post
   simpa [cat,tb] using h
 ·have t1:(s.toList == [111,119,110])=false:=beq_eq_false_iff_ne.2 fun e=>b1 (.inl e)
  have t2:(s.toList == [38,109,117,116])=false:=beq_eq_false_iff_ne.2 fun e=>b1 (.inr e)
  by_cases b3:s.toList=[38]
  ·have hX:zDc (tb s) (zpb d ks)=tb s++maybe [] [] (zpb d ks):=by unfold zDc;rw [if_neg (by rw [HT.out];exact b1),if_pos (by rw [HT.out];exact b3)]
   rw [hX] at hl ⊢
   have t3:(s.toList == [38])=true:=by rw [b3];rfl
   clear hX b1 b3
   have HK:=zh hk
   have HL:=zh hl
   obtain ⟨W0,hW0,HM0⟩:∃ W,w.alloc (.cells [.int .i64 kk,.string s,.int .i64 nm,.int .i64 p,kv].toArray 25)=W∧Hid (Wm w B g c1 c2 w.heap.size _ _ l d W):=⟨_,rfl,zh (Wm.start h)⟩
   have e0_0:W0.cell? ⟨w.heap.size,0,none⟩=some (.int .i64 kk):=HM0.out.q.cell 0
   have e0_1:W0.cell? ⟨w.heap.size,1,none⟩=some (.string s):=HM0.out.q.cell 1
   have e0_2:W0.cell? ⟨w.heap.size,2,none⟩=some (.int .i64 nm):=HM0.out.q.cell 2
   have e0_3:W0.cell? ⟨w.heap.size,3,none⟩=some (.int .i64 p):=HM0.out.q.cell 3
   have e0_4:W0.cell? ⟨w.heap.size,4,none⟩=some (kv):=HM0.out.q.cell 4
   clear h hk hl
   go_enter Tryz.func91,Tryz.ntmps91
   go_wp2_with fail
   refine (puts HM0.out.n.st [s] 1 _ _ rfl rfl rfl (by omega) (by have hl:=HL.out;simp [cat,tb] at hl ⊢;omega)).mono ?_
   rintro e w1 ⟨rfl,hs,hb,ho⟩
   have HM1:=zh (HM0.out.step hs hb ho)
   clear hs hb ho
   have e1_0:w1.cell? ⟨w.heap.size,0,none⟩=some (.int .i64 kk):=HM1.out.q.cell 0
   have e1_1:w1.cell? ⟨w.heap.size,1,none⟩=some (.string s):=HM1.out.q.cell 1
   have e1_2:w1.cell? ⟨w.heap.size,2,none⟩=some (.int .i64 nm):=HM1.out.q.cell 2
   have e1_3:w1.cell? ⟨w.heap.size,3,none⟩=some (.int .i64 p):=HM1.out.q.cell 3
   have e1_4:w1.cell? ⟨w.heap.size,4,none⟩=some (kv):=HM1.out.q.cell 4
   go_wp2_with fail
   refine (zUf (a:=⟨#[]⟩) (b:=⟨#[]⟩) HM1.out.n HK.out HZ.out (by have hl:=HL.out;simp [cat,tb] at hl ⊢;omega)).mono ?_
   rintro e w2 ⟨rfl,hs,hb,ho⟩
   have HM2:=zh (HM1.out.step hs hb ho)
   clear hs hb ho
   have e2_0:w2.cell? ⟨w.heap.size,0,none⟩=some (.int .i64 kk):=HM2.out.q.cell 0
   have e2_1:w2.cell? ⟨w.heap.size,1,none⟩=some (.string s):=HM2.out.q.cell 1
   have e2_2:w2.cell? ⟨w.heap.size,2,none⟩=some (.int .i64 nm):=HM2.out.q.cell 2
   have e2_3:w2.cell? ⟨w.heap.size,3,none⟩=some (.int .i64 p):=HM2.out.q.cell 3
   have e2_4:w2.cell? ⟨w.heap.size,4,none⟩=some (kv):=HM2.out.q.cell 4
   go_wp2_with fail
   go_end0
   have h:=HM2.out.post
   simpa [cat,tb] using h
  ·have hX:zDc (tb s) (zpb d ks)=tb s:=by unfold zDc;rw [if_neg (by rw [HT.out];exact b1),if_neg (by rw [HT.out];exact b3)]
   rw [hX] at hl ⊢
   have t3:(s.toList == [38])=false:=beq_eq_false_iff_ne.2 b3
   clear hX b1 b3
   have HK:=zh hk
   have HL:=zh hl
   obtain ⟨W0,hW0,HM0⟩:∃ W,w.alloc (.cells [.int .i64 kk,.string s,.int .i64 nm,.int .i64 p,kv].toArray 25)=W∧Hid (Wm w B g c1 c2 w.heap.size _ _ l d W):=⟨_,rfl,zh (Wm.start h)⟩
   have e0_0:W0.cell? ⟨w.heap.size,0,none⟩=some (.int .i64 kk):=HM0.out.q.cell 0
   have e0_1:W0.cell? ⟨w.heap.size,1,none⟩=some (.string s):=HM0.out.q.cell 1
   have e0_2:W0.cell? ⟨w.heap.size,2,none⟩=some (.int .i64 nm):=HM0.out.q.cell 2
   have e0_3:W0.cell? ⟨w.heap.size,3,none⟩=some (.int .i64 p):=HM0.out.q.cell 3
   have e0_4:W0.cell? ⟨w.heap.size,4,none⟩=some (kv):=HM0.out.q.cell 4
   clear h hk hl
   go_enter Tryz.func91,Tryz.ntmps91
   go_wp2_with fail
   refine (puts HM0.out.n.st [s] 1 _ _ rfl rfl rfl (by omega) (by have hl:=HL.out;simp [cat,tb] at hl ⊢;omega)).mono ?_
   rintro e w1 ⟨rfl,hs,hb,ho⟩
   have HM1:=zh (HM0.out.step hs hb ho)
   clear hs hb ho
   have e1_0:w1.cell? ⟨w.heap.size,0,none⟩=some (.int .i64 kk):=HM1.out.q.cell 0
   have e1_1:w1.cell? ⟨w.heap.size,1,none⟩=some (.string s):=HM1.out.q.cell 1
   have e1_2:w1.cell? ⟨w.heap.size,2,none⟩=some (.int .i64 nm):=HM1.out.q.cell 2
   have e1_3:w1.cell? ⟨w.heap.size,3,none⟩=some (.int .i64 p):=HM1.out.q.cell 3
   have e1_4:w1.cell? ⟨w.heap.size,4,none⟩=some (kv):=HM1.out.q.cell 4
   go_wp2_with fail
   go_end0
   have h:=HM1.out.post
   simpa [cat,tb] using h
theorem sh_if {B g c1 c2:Nat} {kk:Int} {s:ByteArray} {nm:Int} {p:Nat} {kv:Value} {l:List UInt8} {d:Nat} {w:World} {a b c e:T} (h:Wn B g c1 c2 (T.mk kk s nm p [a,b,c,e]) kv l d w) (hk:zWb B g c1 c2 (T.mk kk s nm p [a,b,c,e]) kv) (hl:l.length+(zUg (tb s) [a,b,c,e] (zpb d [a,b,c,e])).length≤140737488355328) :
  Calls Tryz.prog 93 #[.pointer (some ⟨g,0,none⟩),.agg #[.int .i64 kk,.string s,.int .i64 nm,.int .i64 p,kv],.func (.func 44) #[] #[.pointer (some ⟨c1,0,none⟩),.pointer (some ⟨c2,0,none⟩)]] w (zMa B g (l++(zUg (tb s) [a,b,c,e] (zpb d [a,b,c,e]))) d w):=by
 have hX:zUg (tb s) [a,b,c,e] (zpb d [a,b,c,e])=[105,102,32]++((shw d a++([32]++(tb s++([32]++shw d b))))++([32]++(shw d c++zTc e.kids.length ([32,101,108,115,101,32]++shw d e)))):=by rw [zPa,zPa,zLp];rfl
 rw [hX] at hl ⊢
 clear hX
 obtain ⟨gk,cap,hkv,hcap,hcm⟩:=h.zup (i:=3) (u:=e) rfl
 have hcap4:4≤cap:=hcap
 have HKV:=zh (show kv=.slice (some ⟨gk,0,none⟩) 4 cap from hkv)
 clear hkv hcap hcm
 have HK:=zh hk
 have HL:=zh hl
 obtain ⟨W0,hW0,HM0⟩:∃ W,w.alloc (.cells [.int .i64 kk,.string s,.int .i64 nm,.int .i64 p,kv].toArray 25)=W∧Hid (Wm w B g c1 c2 w.heap.size _ _ l d W):=⟨_,rfl,zh (Wm.start h)⟩
 have e0_0:W0.cell? ⟨w.heap.size,0,none⟩=some (.int .i64 kk):=HM0.out.q.cell 0
 have e0_1:W0.cell? ⟨w.heap.size,1,none⟩=some (.string s):=HM0.out.q.cell 1
 have e0_2:W0.cell? ⟨w.heap.size,2,none⟩=some (.int .i64 nm):=HM0.out.q.cell 2
 have e0_3:W0.cell? ⟨w.heap.size,3,none⟩=some (.int .i64 p):=HM0.out.q.cell 3
 have e0_4:W0.cell? ⟨w.heap.size,4,none⟩=some (kv):=HM0.out.q.cell 4
 clear h hk hl
 go_enter Tryz.func93,Tryz.ntmps93
 go_wp2_with fail
 refine (puts HM0.out.n.st [⟨#[105,102,32]⟩] 1 _ _ rfl rfl rfl (by omega) (by have hl:=HL.out;simp [cat,tb] at hl ⊢;omega)).mono ?_
 rintro e w1 ⟨rfl,hs,hb,ho⟩
 have HM1:=zh (HM0.out.step hs hb ho)
 clear hs hb ho
 have e1_0:w1.cell? ⟨w.heap.size,0,none⟩=some (.int .i64 kk):=HM1.out.q.cell 0
 have e1_1:w1.cell? ⟨w.heap.size,1,none⟩=some (.string s):=HM1.out.q.cell 1
 have e1_2:w1.cell? ⟨w.heap.size,2,none⟩=some (.int .i64 nm):=HM1.out.q.cell 2
 have e1_3:w1.cell? ⟨w.heap.size,3,none⟩=some (.int .i64 p):=HM1.out.q.cell 3
 have e1_4:w1.cell? ⟨w.heap.size,4,none⟩=some (kv):=HM1.out.q.cell 4
 go_wp2_with fail
 refine (zqh (u:=a) (v:=b) HM1.out.n HK.out rfl rfl (by have hl:=HL.out;simp [cat,tb] at hl ⊢;omega)).mono ?_
 rintro e w2 ⟨rfl,hs,hb,ho⟩
 have HM2:=zh (HM1.out.step hs hb ho)
 clear hs hb ho
 have e2_0:w2.cell? ⟨w.heap.size,0,none⟩=some (.int .i64 kk):=HM2.out.q.cell 0
 have e2_1:w2.cell? ⟨w.heap.size,1,none⟩=some (.string s):=HM2.out.q.cell 1
 have e2_2:w2.cell? ⟨w.heap.size,2,none⟩=some (.int .i64 nm):=HM2.out.q.cell 2
 have e2_3:w2.cell? ⟨w.heap.size,3,none⟩=some (.int .i64 p):=HM2.out.q.cell 3
 have e2_4:w2.cell? ⟨w.heap.size,4,none⟩=some (kv):=HM2.out.q.cell 4
 go_wp2_with fail
 refine (puts HM2.out.n.st [⟨#[32]⟩] 1 _ _ rfl rfl rfl (by omega) (by have hl:=HL.out;simp [cat,tb] at hl ⊢;omega)).mono ?_
 rintro e w3 ⟨rfl,hs,hb,ho⟩
 have HM3:=zh (HM2.out.step hs hb ho)
 clear hs hb ho
 have e3_0:w3.cell? ⟨w.heap.size,0,none⟩=some (.int .i64 kk):=HM3.out.q.cell 0
 have e3_1:w3.cell? ⟨w.heap.size,1,none⟩=some (.string s):=HM3.out.q.cell 1
 have e3_2:w3.cell? ⟨w.heap.size,2,none⟩=some (.int .i64 nm):=HM3.out.q.cell 2
 have e3_3:w3.cell? ⟨w.heap.size,3,none⟩=some (.int .i64 p):=HM3.out.q.cell 3
 have e3_4:w3.cell? ⟨w.heap.size,4,none⟩=some (kv):=HM3.out.q.cell 4
 go_wp2_with fail
 refine (HK.out.get _ 2 _ (by omega) HM3.out.n (show ([a,b,c,e]:List T)[2]?=some c from rfl) (by have hl:=HL.out;simp [cat,tb] at hl ⊢;omega)).mono ?_
 rintro e w4 ⟨rfl,hs,hb,ho⟩
 have HM4:=zh (HM3.out.step hs hb ho)
 clear hs hb ho
 have e4_1:w4.cell? ⟨w.heap.size,1,none⟩=some (.string s):=HM4.out.q.cell 1
 have e4_4:w4.cell? ⟨w.heap.size,4,none⟩=some (.slice (some ⟨gk,0,none⟩) 4 cap):=by have h:w4.cell? ⟨w.heap.size,4,none⟩=some kv:=HM4.out.q.cell 4;rw [HKV.out] at h;exact h
 obtain ⟨xa,xc,hr⟩:=HM4.out.n.zEq HKV.out (i:=3) (u:=e) rfl
 have ec:w4.cell? ⟨gk,19,none⟩=some (.slice xa e.kids.length xc):=hr 4 _ rfl
 have HE:=zh (Nat.eq_zero_or_pos e.kids.length)
 clear hr
 rcases HE.out with he|he
 ·have HZ:=zh he
  rw [he] at ec
  clear he
  go_wp2_with fail
  go_end0
  have h:=HM4.out.post
  rw [HZ.out,zDm]
  simpa [cat,tb] using h
 ·have hne:¬ e.kids.length=0:=by omega
  have he0:(0:Int)<(e.kids.length:Int):=by omega
  have HL2:=zh (show l.length+(shw d a).length+(shw d b).length+(shw d c).length+(shw d e).length+s.size+12≤140737488355328 from by have hl:=HL.out;rw [zwc hne] at hl;simp [tb] at hl;omega)
  have HNE:=zh hne
  clear hne he
  go_wp2_with fail
  refine (puts HM4.out.n.st [⟨#[32,101,108,115,101,32]⟩] 1 _ _ rfl rfl rfl (by omega) (by have hl:=HL2.out;simp [cat,tb];omega)).mono ?_
  rintro e w5 ⟨rfl,hs,hb,ho⟩
  have HM5:=zh (HM4.out.step hs hb ho)
  clear hs hb ho
  have e5_1:w5.cell? ⟨w.heap.size,1,none⟩=some (.string s):=HM5.out.q.cell 1
  have e5_4:w5.cell? ⟨w.heap.size,4,none⟩=some (.slice (some ⟨gk,0,none⟩) 4 cap):=by have h:w5.cell? ⟨w.heap.size,4,none⟩=some kv:=HM5.out.q.cell 4;rw [HKV.out] at h;exact h
  go_wp2_with fail
  refine (HK.out.get _ 3 _ (by omega) HM5.out.n (show ([a,b,c,e]:List T)[3]?=some e from rfl) (by have hl:=HL2.out;simp [cat,tb];omega)).mono ?_
  rintro e w6 ⟨rfl,hs,hb,ho⟩
  have HM6:=zh (HM5.out.step hs hb ho)
  clear hs hb ho
  have e6_1:w6.cell? ⟨w.heap.size,1,none⟩=some (.string s):=HM6.out.q.cell 1
  have e6_4:w6.cell? ⟨w.heap.size,4,none⟩=some (.slice (some ⟨gk,0,none⟩) 4 cap):=by have h:w6.cell? ⟨w.heap.size,4,none⟩=some kv:=HM6.out.q.cell 4;rw [HKV.out] at h;exact h
  go_wp2_with fail
  go_end0
  have h:=HM6.out.post
  rw [zwc HNE.out]
  simpa [cat,tb] using h
end Go.Proofs.YtbfgdpcgdmabpaaGreatDoor
namespace Go.Proofs.YtbfgdpcgdmabpaaGreatDoor
set_option maxRecDepth 100000
set_option maxHeartbeats 2000000
open Go.RowKit
theorem Wm.depth {W0:World} {B g c1 c2 q:Nat} {t:T} {kv:Value} {l:List UInt8} {d:Nat} {W:World} (h:Wm W0 B g c1 c2 q t kv l d W) (d':Nat) (v:Value) (hv:v=.int .i64 (d':Int)):Wm W0 B g c1 c2 q t kv l d' (W.setCell ⟨g,2,none⟩ v):=by
 subst hv
 exact h.step (h.n.st.zye d') ((Below.refl B W).setCell (p:=⟨g,2,none⟩) h.n.st.ge _) ((Oth.refl g W).zSo 2 _)
theorem ztd.frozen {B g:Nat} {l:List UInt8} {d:Nat} {W:World} (h:ztd B g l d W) (o:Nat):W.frozen? ⟨g,o,none⟩=false:=by
 obtain ⟨cs,hb⟩:=h.blk
 exact hb.frozen o
def rows (f:List UInt8→List UInt8) (xs:List (List UInt8)):List UInt8:=xs.flatMap f
theorem zwk (f:List UInt8→List UInt8) (xs:List (List UInt8)) (k:Nat) (x:List UInt8) (h:xs[k]?=some x):rows f (xs.take (k+1))=rows f (xs.take k)++f x:=by
 have hlt:=(List.getElem?_eq_some_iff.1 h).1
 unfold rows
 rw [List.take_succ_eq_append_getElem hlt,List.flatMap_append,(List.getElem?_eq_some_iff.1 h).2]
 simp
theorem zxp (f:List UInt8→List UInt8) (xs:List (List UInt8)) (k:Nat):(rows f (xs.take k)).length≤(rows f xs).length:=by
 have h:rows f xs=rows f (xs.take k)++rows f (xs.drop k):=by unfold rows;rw [← List.flatMap_append,List.take_append_drop]
 rw [h,List.length_append]
 omega
def rowB (d:Nat) (x:List UInt8):List UInt8:=blanks (d+1)++(x++[10])
theorem zRg (d:Nat) (xs:List (List UInt8)):zid d xs=[123,10]++(rows (rowB d) xs++(blanks d++[125])):=rfl
theorem zXq (d:Nat) (x:List UInt8):(rowB d x).length=(blanks (d+1)).length+(x.length+1):=by unfold rowB;simp
def zav (W0:World) (B g c1 c2 q:Nat) (t:T) (kv:Value) (l:List UInt8) (d:Nat) (f:List UInt8→List UInt8) (xs:List (List UInt8)) (gh:Nat) (i:Value) (wr:World):Prop :=
 ∃ k:Nat,k≤t.kids.length∧t.kids.length≤k+gh∧i=.int .i64 k∧Wm W0 B g c1 c2 q t kv (l++rows f (xs.take k)) d wr
theorem zzq {B g c1 c2:Nat} {kk:Int} {s:ByteArray} {nm:Int} {p:Nat} {ks:List T} {kv:Value} {l:List UInt8} {d:Nat} {w:World} (h:Wn B g c1 c2 (T.mk kk s nm p ks) kv l d w) (hk:zWb B g c1 c2 (T.mk kk s nm p ks) kv) (hz:ks.length≤1000000) (hl:l.length+(zid d (zpb (d+1) ks)).length≤140737488355328) :
  Calls Tryz.prog 92 #[.pointer (some ⟨g,0,none⟩),.agg #[.int .i64 kk,.string s,.int .i64 nm,.int .i64 p,kv],.func (.func 44) #[] #[.pointer (some ⟨c1,0,none⟩),.pointer (some ⟨c2,0,none⟩)]] w (zMa B g (l++(zid d (zpb (d+1) ks))) d w):=by
 have hd:d≤40000000000000:=by rw [zRg] at hl;simp only [List.length_append,show (blanks d).length=4 * d from by unfold blanks;rw [List.length_replicate]] at hl;omega
 obtain ⟨ka,kc,hkv⟩:=h.k.len
 have HKV:=zh hkv
 have HZ:=zh hz
 rw [zRg] at hl ⊢
 have hg:=h.st.lt
 have hgq:w.heap.size≠g:=by omega
 clear hkv hz
 have HK:=zh hk
 have HL:=zh hl
 obtain ⟨W0,hW0,HM0⟩:∃ W,w.alloc (.cells [.int .i64 kk,.string s,.int .i64 nm,.int .i64 p,kv].toArray 25)=W∧Hid (Wm w B g c1 c2 w.heap.size _ _ l d W):=⟨_,rfl,zh (Wm.start h)⟩
 have e0_4:W0.cell? ⟨w.heap.size,4,none⟩=some (.slice ka ks.length kc):=by have h:W0.cell? ⟨w.heap.size,4,none⟩=some kv:=HM0.out.q.cell 4;rw [HKV.out] at h;exact h
 clear h hk hl
 go_enter Tryz.func92,Tryz.ntmps92
 go_wp2_with fail
 refine (puts HM0.out.n.st [⟨#[123,10]⟩] 1 _ _ rfl rfl rfl (by omega) (by have hl:=HL.out;simp [cat,tb] at hl ⊢;omega)).mono ?_
 rintro e w1 ⟨rfl,hs,hb,ho⟩
 have HM1:=zh (HM0.out.step hs hb ho)
 clear hs hb ho
 have e1_4:w1.cell? ⟨w.heap.size,4,none⟩=some (.slice ka ks.length kc):=by have h:w1.cell? ⟨w.heap.size,4,none⟩=some kv:=HM1.out.q.cell 4;rw [HKV.out] at h;exact h
 have eD:w1.cell? ⟨g,2,none⟩=some (.int .i64 d):=HM1.out.n.st.depth
 have eF:w1.frozen? ⟨g,2,none⟩=false:=HM1.out.n.st.frozen 2
 have hwd:IntKind.i64.wrap ((d:Int)+1)=(d:Int)+1:=IntWalk.i64_in _ (by omega)
 have HM2:=zh (HM1.out.depth (d+1) (.int .i64 ((d:Int)+1)) (by simp))
 have HQ2:=zh (show (w1.setCell ⟨g,2,none⟩ (.int .i64 ((d:Int)+1))).cell? ⟨w.heap.size,4,none⟩=some (.slice ka ks.length kc) from by have h:(w1.setCell ⟨g,2,none⟩ (.int .i64 ((d:Int)+1))).cell? ⟨w.heap.size,4,none⟩=some kv:=HM2.out.q.cell 4;rw [HKV.out] at h;exact h)
 have hq2:=HQ2.out
 have hz:=HZ.out
 go_wp2_with fail
 go_loopg [20] ks.length (fun gk i wr=>zav w B g c1 c2 w.heap.size (T.mk kk s nm p ks) kv (l++[123,10]) (d+1) (rowB d) (zpb (d+1) ks) gk i wr)
 case atStart=>exact ⟨0,by omega,by show ks.length≤_;omega,rfl,by have h:=HM2.out;simpa [cat,tb,rows] using h⟩
 case round =>
  obtain ⟨k,hk,hgk,rfl,hm⟩:=hrel
  have hk':k≤ks.length:=hk
  have hgk':ks.length≤k+gk:=hgk
  have HM:=zh hm
  clear hm hk hgk hq2
  by_cases hlt:k<ks.length
  ·obtain ⟨u,hu⟩:∃ u,ks[k]?=some u:=⟨ks[k],List.getElem?_eq_getElem hlt⟩
   have hR:=zwk (rowB d) (zpb (d+1) ks) k _ (zSj (d+1) ks k u hu)
   have hle:=zxp (rowB d) (zpb (d+1) ks) (k+1)
   rw [hR,List.length_append,zXq] at hle
   have HR:=zh hR
   have HU:=zh hu
   have HLE:=zh hle
   clear hu hR hle
   go_wp2_with fail
   refine (zuj HM.out.n.st (by omega) (by have hl:=HL.out;have hle:=HLE.out;simp at hl ⊢;omega)).mono ?_
   rintro e wa ⟨rfl,hs,hb,ho⟩
   have HMa:=zh (HM.out.step hs hb ho)
   clear hs hb ho
   go_wp2_with fail
   refine (HK.out.get _ k _ (by omega) HMa.out.n HU.out (by have hl:=HL.out;have hle:=HLE.out;simp at hl ⊢;omega)).mono ?_
   rintro e wb ⟨rfl,hs,hb,ho⟩
   have HMb:=zh (HMa.out.step hs hb ho)
   clear hs hb ho
   go_wp2_with fail
   refine (puts HMb.out.n.st [⟨#[10]⟩] 1 _ _ rfl rfl rfl (by omega) (by have hl:=HL.out;have hle:=HLE.out;simp [cat,tb] at hl ⊢;omega)).mono ?_
   rintro e wc ⟨rfl,hs,hb,ho⟩
   have HMc:=zh (HMb.out.step hs hb ho)
   clear hs hb ho
   go_wp2_with fail
   go_roundg (gk-1)
   case measure=>omega
   case rel=>exact ⟨k+1,by show _≤ks.length;omega,by show ks.length≤_;omega,by go_num,by rw [HR.out,show rowB d (shw (d+1) u)=blanks (d+1)++(shw (d+1) u++[10]) from rfl];have h:=HMc.out;simpa [cat,tb,List.append_assoc] using h⟩
  ·have hkk:k=ks.length:=by omega
   subst hkk
   have HM3:=zh (show Wm w B g c1 c2 w.heap.size (T.mk kk s nm p ks) kv (l++[123,10]++rows (rowB d) (zpb (d+1) ks)) (d+1) wr from by have h:=HM.out;rw [List.take_of_length_le (by rw [zEc];exact Nat.le_refl _)] at h;exact h)
   have eD3:wr.cell? ⟨g,2,none⟩=some (.int .i64 ((d:Int)+1)):=by have h:=HM3.out.n.st.depth;simpa using h
   have eF3:wr.frozen? ⟨g,2,none⟩=false:=HM3.out.n.st.frozen 2
   have HM4:=zh (HM3.out.depth d (.int .i64 (d:Int)) rfl)
   have hwd2:IntKind.i64.wrap ((d:Int)+1-1)=(d:Int):=by rw [show (d:Int)+1-1=(d:Int) from by omega];exact IntWalk.i64_in _ (by omega)
   have hwd3:IntKind.i64.wrap (d:Int)=(d:Int):=IntWalk.i64_in _ (by omega)
   clear HM
   go_wp2_with fail
   refine (zuj HM4.out.n.st (by omega) (by have hl:=HL.out;simp at hl ⊢;omega)).mono ?_
   rintro e wa ⟨rfl,hs,hb,ho⟩
   have HM5:=zh (HM4.out.step hs hb ho)
   clear hs hb ho
   go_wp2_with fail
   refine (puts HM5.out.n.st [⟨#[125]⟩] 1 _ _ rfl rfl rfl (by omega) (by have hl:=HL.out;simp [cat,tb] at hl ⊢;omega)).mono ?_
   rintro e wb ⟨rfl,hs,hb,ho⟩
   have HM6:=zh (HM5.out.step hs hb ho)
   clear hs hb ho
   go_wp2_with fail
   go_end0
   have h:=HM6.out.post
   simpa [cat,tb,List.append_assoc] using h
end Go.Proofs.YtbfgdpcgdmabpaaGreatDoor
namespace Go.Proofs.YtbfgdpcgdmabpaaGreatDoor
open Go.Shelf
open Go.RowKit in
open Go.Lib in
open Go.Lib in
open Go.Lib in
open Go.Lib in
open Go.RowKit Go.Sort Go.Lib in
open Go.RowKit Go.Sort Go.Lib in
open Go.RowKit Go.Sort Go.Lib in
def Tryz.zxk:Go.Shelf.Ren:=⟨fun|173=>95|246=>123|283=>153|284=>154|285=>155|286=>156|129=>170|317=>169|318=>171|319=>172|320=>173|337=>181|338=>182|n=>n,fun|2=>2|3=>3|9=>9|4=>4|171=>193|0=>0|53=>163|37=>72|5=>5|173=>196|212=>207|51=>203|20=>20|213=>208|46=>189|232=>219|233=>220|n=>n,fun|17=>4|18=>5|19=>6|n=>n⟩
theorem Tryz.laysM173:Go.Proofs.LaysM.n173 Tryz.prog Tryz.zxk:={
 mixed:=by kernel_rfl
 f129:=Tryz.func170.trans (congrArg some (by kernel_rfl))
 f173:=Tryz.func95.trans (congrArg some (by kernel_rfl))
 f246:=Tryz.func123.trans (congrArg some (by kernel_rfl))
 f283:=Tryz.func153.trans (congrArg some (by kernel_rfl))
 f284:=Tryz.func154.trans (congrArg some (by kernel_rfl))
 f285:=Tryz.func155.trans (congrArg some (by kernel_rfl))
 f286:=Tryz.func156.trans (congrArg some (by kernel_rfl))
 f317:=Tryz.func169.trans (congrArg some (by kernel_rfl))
 f318:=Tryz.func171.trans (congrArg some (by kernel_rfl))
 f319:=Tryz.func172.trans (congrArg some (by kernel_rfl))
 f320:=Tryz.func173.trans (congrArg some (by kernel_rfl))
 f337:=Tryz.func181.trans (congrArg some (by kernel_rfl))
 f338:=Tryz.func182.trans (congrArg some (by kernel_rfl))
 t0:=Tryz.underlying0
 a0:=Tryz.isAgg0
 z0:=Tryz.sizeOf0
 v0:=Tryz.zeroValue0
 t2:=Tryz.underlying2
 a2:=Tryz.isAgg2
 z2:=Tryz.sizeOf2
 v2:=Tryz.zeroValue2
 t3:=Tryz.underlying3
 a3:=Tryz.isAgg3
 z3:=Tryz.sizeOf3
 v3:=Tryz.zeroValue3
 t4:=Tryz.underlying4
 a4:=Tryz.isAgg4
 z4:=Tryz.sizeOf4
 v4:=Tryz.zeroValue4
 t5:=Tryz.underlying5
 a5:=Tryz.isAgg5
 z5:=Tryz.sizeOf5
 v5:=Tryz.zeroValue5
 t9:=Tryz.underlying9
 a9:=Tryz.isAgg9
 z9:=Tryz.sizeOf9
 v9:=Tryz.zeroValue9
 t20:=Tryz.underlying20
 a20:=Tryz.isAgg20
 z20:=Tryz.sizeOf20
 v20:=Tryz.zeroValue20
 t37:=Tryz.underlying72
 a37:=Tryz.isAgg72
 z37:=Tryz.sizeOf72
 v37:=Tryz.zeroValue72
 t46:=Tryz.underlying189
 a46:=Tryz.isAgg189
 z46:=Tryz.sizeOf189
 v46:=Tryz.zeroValue189
 t51:=Tryz.underlying203
 a51:=Tryz.isAgg203
 z51:=Tryz.sizeOf203
 v51:=Tryz.zeroValue203
 t53:=Tryz.underlying163
 a53:=Tryz.isAgg163
 z53:=Tryz.sizeOf163
 v53:=Tryz.zeroValue163
 t171:=Tryz.underlying193
 a171:=Tryz.isAgg193
 z171:=Tryz.sizeOf193
 v171:=Tryz.zeroValue193
 t173:=Tryz.underlying196
 a173:=Tryz.isAgg196
 z173:=Tryz.sizeOf196
 v173:=Tryz.zeroValue196
 t212:=Tryz.underlying207
 a212:=Tryz.isAgg207
 z212:=Tryz.sizeOf207
 v212:=Tryz.zeroValue207
 t213:=Tryz.underlying208
 a213:=Tryz.isAgg208
 z213:=Tryz.sizeOf208
 t232:=Tryz.underlying219
 a232:=Tryz.isAgg219
 z232:=Tryz.sizeOf219
 v232:=Tryz.zeroValue219
 t233:=Tryz.underlying220
 a233:=Tryz.isAgg220
 z233:=Tryz.sizeOf220
 v233:=Tryz.zeroValue220
 g17:=by kernel_rfl
 g18:=by kernel_rfl
 g19:=by kernel_rfl
 i0:=by kernel_rfl
 i2:=by kernel_rfl
 i3:=by kernel_rfl
 i4:=by kernel_rfl
 i5:=by kernel_rfl
 i9:=by kernel_rfl
 i20:=by kernel_rfl
 i37:=by kernel_rfl
 i46:=by kernel_rfl
 i51:=by kernel_rfl
 i53:=by kernel_rfl
 i171:=by kernel_rfl
 i173:=by kernel_rfl
 i212:=by kernel_rfl
 i232:=by kernel_rfl
 i233:=by kernel_rfl
 m17:=by kernel_rfl
 m18:=by kernel_rfl
 m19:=by kernel_rfl }
open Go.RowKit Go.Sort Go.Lib in
theorem Tryz.strconv_FormatInt_10 (n:Int) (h0:-9223372036854775808≤n) (h1:n≤9223372036854775807) (w:World) (htab:Lib.TabIs Tryz.prog w "internal/strconv.uint64pow10" .u64 Lib.pow10Tab) :
  Calls Tryz.prog 95 #[.int .i64 n,.int .i64 10] w fun e w'=>e=.returned (.string ⟨(Lib.itoa n).toArray⟩)∧∃ k os,w'=grow (w.drewN k) os:=Any.strconv_FormatInt_10 Tryz.laysM173 n h0 h1 w htab
open Go.RowKit Go.Sort Go.Lib in
open Go.RowKit Go.Lib in
open Go.RowKit Go.Lib in
open Go.RowKit Go.Lib in
open Go.RowKit Go.Lib in
open Go.RowKit Go.Lib in
open Go.RowKit Go.Lib in
open Go.RowKit Go.Lib in
open Go.RowKit Go.Lib in
def Tryz.zUl:Go.Shelf.Ren:=⟨fun|138=>42|195=>77|218=>78|143=>79|219=>118|217=>134|225=>148|224=>149|267=>150|266=>162|314=>168|n=>n,fun|9=>9|3=>3|4=>4|5=>5|0=>0|46=>189|146=>204|51=>203|n=>n,fun|1=>2|n=>n⟩
theorem Tryz.lays138:Go.Proofs.Lays.n138 Tryz.prog Tryz.zUl:={
 mixed:=by kernel_rfl
 f138:=Tryz.func42.trans (congrArg some (by kernel_rfl))
 f143:=Tryz.func79.trans (congrArg some (by kernel_rfl))
 f195:=Tryz.func77.trans (congrArg some (by kernel_rfl))
 f217:=Tryz.func134.trans (congrArg some (by kernel_rfl))
 f218:=Tryz.func78.trans (congrArg some (by kernel_rfl))
 f219:=Tryz.func118.trans (congrArg some (by kernel_rfl))
 f224:=Tryz.func149.trans (congrArg some (by kernel_rfl))
 f225:=Tryz.func148.trans (congrArg some (by kernel_rfl))
 f266:=Tryz.func162.trans (congrArg some (by kernel_rfl))
 f267:=Tryz.func150.trans (congrArg some (by kernel_rfl))
 f314:=Tryz.func168.trans (congrArg some (by kernel_rfl))
 t0:=Tryz.underlying0
 a0:=Tryz.isAgg0
 z0:=Tryz.sizeOf0
 v0:=Tryz.zeroValue0
 t3:=Tryz.underlying3
 a3:=Tryz.isAgg3
 z3:=Tryz.sizeOf3
 v3:=Tryz.zeroValue3
 t4:=Tryz.underlying4
 a4:=Tryz.isAgg4
 z4:=Tryz.sizeOf4
 v4:=Tryz.zeroValue4
 t5:=Tryz.underlying5
 a5:=Tryz.isAgg5
 z5:=Tryz.sizeOf5
 v5:=Tryz.zeroValue5
 t9:=Tryz.underlying9
 a9:=Tryz.isAgg9
 z9:=Tryz.sizeOf9
 v9:=Tryz.zeroValue9
 t46:=Tryz.underlying189
 a46:=Tryz.isAgg189
 z46:=Tryz.sizeOf189
 v46:=Tryz.zeroValue189
 t51:=Tryz.underlying203
 a51:=Tryz.isAgg203
 z51:=Tryz.sizeOf203
 v51:=Tryz.zeroValue203
 t146:=Tryz.underlying204
 a146:=Tryz.isAgg204
 z146:=Tryz.sizeOf204
 v146:=Tryz.zeroValue204
 g1:=by kernel_rfl }
open Go.RowKit Go.Lib in
theorem Tryz.strings_Count_one (s:ByteArray) (c:UInt8) (w:World) :
  Calls Tryz.prog 42 #[.string s,.string ⟨#[c]⟩] w fun e w'=>e=.returned (.int .i64 (Lib.countByte s.data.toList c))∧w'=w:=Any.strings_Count_one Tryz.lays138 s c w
open Go.RowKit Go.Lib in
open Go.RowKit Go.Lib in
open Go.RowKit Go.Lib in
open Go.RowKit Go.Lib in
open Go.RowKit Go.Lib in
def Tryz.zPl:Go.Shelf.Ren:=⟨fun|149=>43|222=>80|n=>n,fun|9=>9|5=>5|3=>3|4=>4|n=>n,fun|n=>n⟩
theorem Tryz.lays149:Go.Proofs.Lays.n149 Tryz.prog Tryz.zPl:={
 mixed:=by kernel_rfl
 f149:=Tryz.func43.trans (congrArg some (by kernel_rfl))
 f222:=Tryz.func80.trans (congrArg some (by kernel_rfl))
 t3:=Tryz.underlying3
 a3:=Tryz.isAgg3
 z3:=Tryz.sizeOf3
 v3:=Tryz.zeroValue3
 t4:=Tryz.underlying4
 a4:=Tryz.isAgg4
 z4:=Tryz.sizeOf4
 v4:=Tryz.zeroValue4
 t5:=Tryz.underlying5
 a5:=Tryz.isAgg5
 z5:=Tryz.sizeOf5
 v5:=Tryz.zeroValue5
 t9:=Tryz.underlying9
 a9:=Tryz.isAgg9
 z9:=Tryz.sizeOf9
 v9:=Tryz.zeroValue9 }
open Go.RowKit Go.Lib in
theorem Tryz.strings_LastIndexByte (s:ByteArray) (c:Int) (hs:s.size<4611686018427387904) (w:World) :
  Calls Tryz.prog 43 #[.string s,.int .u8 c] w fun e w'=>e=.returned (.int .i64 (Lib.lastIndexByte s c))∧w'=w:=Any.strings_LastIndexByte Tryz.lays149 s c hs w
end Go.Proofs.YtbfgdpcgdmabpaaGreatDoor
namespace Go.Proofs.YtbfgdpcgdmabpaaGreatDoor
open Go.RowKit
theorem zrg {B:Nat} {w:World} (h:zZe B w) (n:Int) (hn:-1099511627776≤n∧n≤1099511627776) :
  Calls Tryz.prog 95 #[.int .i64 n,.int .i64 10] w fun e w'=>e=.returned (.string ⟨(dec n).toArray⟩)∧Below w.heap.size w w':=by
 refine (Tryz.strconv_FormatInt_10 n (by omega) (by omega) w h.2).mono ?_
 rintro e w' ⟨rfl,k,os,rfl⟩
 refine ⟨rfl,?_⟩
 exact Lib.below_grow _ _ (Nat.le_refl _) _ _
end Go.Proofs.YtbfgdpcgdmabpaaGreatDoor
