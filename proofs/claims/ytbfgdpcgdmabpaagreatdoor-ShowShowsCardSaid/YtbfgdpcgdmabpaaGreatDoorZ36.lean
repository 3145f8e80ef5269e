/- The document's own show: what its walk keeps (the node in memory, its kids), the first two kids' texts, the text as it is put together. -/
import Derived.Test.YtbfgdpcgdmabpaaGreatDoorZ35
import Derived.Test.YtbfgdpcgdmabpaaGreatDoorZ17
namespace Go.Proofs.YtbfgdpcgdmabpaaGreatDoor
open Go.RowKit
theorem Win.ofK {w:World} {ks:List T} {S:Nat→Prop} {v:Value} (h:KAt 34 w ks S v) (hS:∀ b,S b→b<w.heap.size) (hz:ks.length≤1000000):Win w ks v:=by
 rcases h.form with ⟨rfl,rfl⟩|⟨g,cap,rfl,hg,hc,hm,hget⟩
 ·exact ⟨none,0,rfl,⟨by simp,by simp,by unfold maxLen;omega⟩,(fun _=>rfl),(fun a ha=>by cases ha)⟩
 ·refine ⟨_,cap,rfl,⟨hz,hc,hm⟩,(fun h=>by cases h),fun a ha=>?_⟩
  cases ha
  refine ⟨g,0,rfl,hg,fun k t hk=>?_⟩
  obtain ⟨u,hu,ht⟩:=hget k t hk
  exact ⟨u,by rw [Nat.zero_add];exact hu,(ht.mono fun b hb _=>hS b hb).kat⟩
theorem Win.get {w:World} {ts:List T} {g o n cap:Nat} {i:Nat} {t:T} (h:Win w ts (.slice (some ⟨g,o,none⟩) n cap)) (hi:ts[i]?=some t):∃ u,w.rangeAt g (o+i * 5) (zaa t u)∧KAt 34 w t.kids (fun b=>b<w.heap.size) u:=by
 obtain ⟨pa,cap',hv,_,_,h3⟩:=h
 have e:=congrArg (fun v=>match v with|Value.slice p _ _=>p|_=>none) hv
 obtain ⟨g',o',e',_,hr⟩:=h3 ⟨g,o,none⟩ e.symm
 cases e'
 exact hr i t hi
theorem Win.part {w:World} {ts:List T} {g o n cap:Nat} (h:Win w ts (.slice (some ⟨g,o,none⟩) n cap)) (a m:Nat) (cap2:Nat) (hm:m≤cap2) (hc2:cap2≤maxLen) (us:List T) (hu:us.length=m) (he:∀ i t,us[i]?=some t→ts[a+i]?=some t) (hz:m≤1000000):Win w us (.slice (some ⟨g,o+a * 5,none⟩) m cap2):=by
 obtain ⟨pa,cap',hv,_,_,h3⟩:=h
 have e:=congrArg (fun v=>match v with|Value.slice p _ _=>p|_=>none) hv
 obtain ⟨g',o',e',hg,hr⟩:=h3 ⟨g,o,none⟩ e.symm
 cases e'
 subst hu
 refine ⟨_,_,rfl,⟨hz,hm,hc2⟩,fun h=>(by cases h),fun b hb=>?_⟩
 cases hb
 refine ⟨g,o+a * 5,rfl,hg,fun k t ht=>?_⟩
 have:=hr (a+k) t (he k t ht)
 rwa [show o+a * 5+k * 5=o+(a+k) * 5 from by omega]
structure RB (w:World) (g:Nat) (k:Int) (s:ByteArray) (nm p:Int) (ks:List T) (kv:Value) (W:World):Prop where
 blk:Blk W g [.int .i64 k,.string s,.int .i64 nm,.int .i64 p,kv] 34
 win:Win W ks kv
 below:Below w.heap.size w W
theorem RB.call {w:World} {g:Nat} {k:Int} {s:ByteArray} {nm p:Int} {ks:List T} {kv:Value} {W W':World} (h:RB w g k s nm p ks kv W) (hb:Below W.heap.size W W'):RB w g k s nm p ks kv W' :=
 ⟨h.blk.stays hb,h.win.below hb,h.below.trans (hb.mono h.below.size)⟩
theorem RB.cells {w:World} {g:Nat} {k:Int} {s:ByteArray} {nm p:Int} {ks:List T} {kv:Value} {W:World} (h:RB w g k s nm p ks kv W):W.cell? ⟨g,0,none⟩=some (.int .i64 k)∧W.cell? ⟨g,1,none⟩=some (.string s)∧W.cell? ⟨g,2,none⟩=some (.int .i64 nm)∧W.cell? ⟨g,3,none⟩=some (.int .i64 p)∧W.cell? ⟨g,4,none⟩=some kv :=
 ⟨h.blk.cell 0,h.blk.cell 1,h.blk.cell 2,h.blk.cell 3,h.blk.cell 4⟩
theorem zls {w:World} {ks:List T} {kv:Value} (k:Int) (s:ByteArray) (nm p:Int) (h:Win w ks kv):∃ W,w.alloc (.cells [.int .i64 k,.string s,.int .i64 nm,.int .i64 p,kv].toArray 34)=W∧Hid (RB w w.heap.size k s nm p ks kv W) :=
 have hb:Below w.heap.size w (w.alloc (.cells [.int .i64 k,.string s,.int .i64 nm,.int .i64 p,kv].toArray 34)):=(Below.refl _ _).alloc (Nat.le_refl _) _
 ⟨_,rfl,zh ⟨Blk.new w _ _,h.below hb,hb⟩⟩
def zDp (d:Nat) (ks:List T):List UInt8:=(zBa d ks).getD 0 []
def zSr (d:Nat) (ks:List T):List UInt8:=(zBa d ks).getD 1 []
theorem zml {w:World} {ks:List T} {kv:Value} {d:Nat} {k nm p:Int} {s:ByteArray} (h:Win w ks kv) (ih:∀ a∈ks,zYb d a) :
  Calls Tryz.prog 51 #[.agg #[.int .i64 k,.string s,.int .i64 nm,.int .i64 p,kv],.int .i64 d] w fun e w'=>e=.returned (.string (st (zDp d ks)))∧Below w.heap.size w w':=by
 cases ks with
 | nil=>exact (show st (zDp d [])=st [] by unfold zDp;rw [zLa];rfl)▸zPj h
 | cons a ts=>exact (show st (zDp d (a :: ts))=st (shw d a) by unfold zDp;rw [zpa];rfl)▸zKj h (ih a (by simp))
theorem zqd {W:World} {ts:List T} {g o n cap i d:Nat} {t:T} (h:Win W ts (.slice (some ⟨g,o,none⟩) n cap)) (hi:ts[i]?=some t) (hs:zYb d t):∃ u,Hid (W.rangeAt g (o+i * 5) (zaa t u))∧Hid (Calls Tryz.prog 24 #[zKa t u,.int .i64 d] W fun e W'=>e=.returned (.string (st (shw d t)))∧Below W.heap.size W W'):=by
 obtain ⟨u,h1,h2⟩:=h.get hi
 exact ⟨u,zh h1,zh (hs W u h2)⟩
theorem zwp (a:Array UInt8):(⟨a⟩:ByteArray)=st a.toList:=rfl
theorem st_tb (s:ByteArray):st (tb s)=s:=by
 apply ByteArray.ext
 show s.data.toList.toArray=s.data
 simp
end Go.Proofs.YtbfgdpcgdmabpaaGreatDoor
namespace Go.Proofs.YtbfgdpcgdmabpaaGreatDoor
open Go.RowKit
structure RC (d:Nat) (ks:List T):Prop where
 hd:d≤5000
 len:ks.length≤5000
 kid:∀ d',d'≤d+1→∀ a∈ks,zYb d' a
 sum:∀ d',d'≤d+1→zRe (zBa d' ks)+2 * ks.length≤900000000
theorem zMk:∀ (xs:List (List UInt8)) (i:Nat),(xs.getD i []).length≤zRe xs
 | [],i=>by simp
 | x :: xs,0=>by rw [ztc];simp
 | x :: xs,i+1=>by rw [ztc];have:=zMk xs i;simpa using Nat.le_trans this (by omega)
theorem RC.txt {d:Nat} {ks:List T} (h:RC d ks) (i:Nat) (d':Nat) (hd:d'≤d+1):(st ((zBa d' ks).getD i [])).size≤140737488351232:=by
 have h1:=zMk (zBa d' ks) i
 have h2:=h.sum d' hd
 rw [zIb]
 omega
theorem zJn {d:Nat} {k:Int} {s:ByteArray} {nm:Int} {p:Nat} {ks:List T} (hc:RC d ks)
  (h:∀ (W0 W:World) (pa:Option Addr) (m cap:Nat) (A B:List UInt8),Hid (zDp d ks=A)→Hid (zSr d ks=B)→(st A).size≤140737488351232→(st B).size≤140737488351232→Hid (RC d ks)→Hid (ks.length=m)→m≤cap→cap≤9223372036854775807→(pa=none→ks=[])→(∀ a,pa=some a→∃ g o,a=⟨g,o,none⟩) →
   W0.alloc (.cells [.int .i64 k,.string s,.int .i64 nm,.int .i64 p,.slice pa m cap].toArray 34)=W→Hid (RB W0 W0.heap.size k s nm p ks (.slice pa m cap) W) →
   Calls Tryz.prog 24 #[.agg #[.int .i64 k,.string s,.int .i64 nm,.int .i64 p,.slice pa m cap],.int .i64 d] W0 fun e W'=>e=.returned (.string (st (shw d (T.mk k s nm p ks))))∧Below W0.heap.size W0 W'):zYb d (T.mk k s nm p ks):=by
 intro W0 kv hk
 have hw:=Win.ofK hk (fun b h=>h) (by have:=hc.len;show ks.length≤_;omega)
 obtain ⟨W,hW,HR⟩:=zls k s nm p hw
 have hw2:=hw
 obtain ⟨pa,cap,rfl,⟨h1,hcap,hcap2⟩,h2,h3⟩:=hw2
 exact h W0 W pa _ cap _ _ (zh rfl) (zh rfl) (hc.txt 0 d (by omega)) (hc.txt 1 d (by omega)) (zh hc) (zh rfl) hcap (by unfold maxLen at hcap2;omega) h2 (fun a ha=>by obtain ⟨g,o,e,_⟩:=h3 a ha;exact ⟨g,o,e⟩) hW HR
theorem zrk {ks:List T} {m:Nat} {pa:Option Addr} (hm:ks.length=m) (h0:0<m) (ha:pa=none→ks=[]) (hb:∀ a,pa=some a→∃ g o,a=⟨g,o,none⟩):∃ g o,pa=some ⟨g,o,none⟩:=by
 cases pa with
 | none=>rw [ha rfl] at hm;simp at hm;omega
 | some a =>
  obtain ⟨g,o,rfl⟩:=hb a rfl
  exact ⟨g,o,rfl⟩
theorem zLj {ks:List T} {m i:Nat} (hm:ks.length=m) (h1:i<m):∃ t,ks[i]?=some t:=⟨ks[i]'(by omega),List.getElem?_eq_getElem (by omega)⟩
theorem zMt {d:Nat} {ks:List T} {t:T} {B:List UInt8} (ht:ks[1]?=some t) (hB:zSr d ks=B):shw d t=B:=by
 rw [← hB]
 exact (zoj d ks 1 t ht).symm
theorem zxs {d:Nat} {ks:List T} {m:Nat} {B:List UInt8} (hm:ks.length=m) (h1:¬ 1<m) (hB:zSr d ks=B):B=[]:=by
 rw [← hB]
 unfold zSr
 rw [List.getD_eq_getElem?_getD,List.getElem?_eq_none (by rw [zNa];omega)]
 rfl
theorem zkm (n:Int) (h:-1099511627776≤n∧n≤1099511627776):(st (dec n)).size≤140737488351232:=by
 rw [zIb]
 have:=Lib.itoa_length_le n (by omega) (by omega)
 unfold dec
 omega
theorem zNc (s:ByteArray):∃ l,s=st l:=⟨tb s,(st_tb s).symm⟩
theorem zfs (l:List UInt8):tb (st l)=l:=by simp [tb,st]
theorem zOo {k:Int} {ks:List T} (h:Fit k ks) (hk:k=2∨k=3∨k=8∨k=17):ks=[]∨∃ a,ks=[a]:=by
 cases h with
 | none e=>exact .inl rfl
 | one e=>exact .inr ⟨_,rfl⟩
 | unit e|type e|two e|fn e|param e|block e|set e|cond e|loop e|call1 e|load e|call e|leaf e=>omega
theorem zmm (l:List UInt8):(st l).toList=l:=by rw [Go.Lib.toList_data];simp [st]
theorem st_eq (l x:List UInt8):((st l).toList == x)=(l == x):=by rw [zmm]
theorem zDl (l:List UInt8):(l=[38]∧((st l).toList == [38])=true)∨(l=[38,109,117,116]∧((st l).toList == [38])=false∧((st l).toList == [38,109,117,116])=true) ∨
  (l=[111,119,110]∧((st l).toList == [38])=false∧((st l).toList == [38,109,117,116])=false∧((st l).toList == [111,119,110])=true) ∨
  ((l≠[38]∧l≠[38,109,117,116]∧l≠[111,119,110])∧((st l).toList == [38])=false∧((st l).toList == [38,109,117,116])=false∧((st l).toList == [111,119,110])=false):=by
 simp only [st_eq]
 by_cases h1:l=[38]
 ·subst h1;exact .inl ⟨rfl,rfl⟩
 by_cases h2:l=[38,109,117,116]
 ·subst h2;exact .inr (.inl ⟨rfl,rfl,rfl⟩)
 by_cases h3:l=[111,119,110]
 ·subst h3;exact .inr (.inr (.inl ⟨rfl,rfl,rfl,rfl⟩))
 ·exact .inr (.inr (.inr ⟨⟨h1,h2,h3⟩,by simpa using h1,by simpa using h2,by simpa using h3⟩))
theorem zIk (l:List UInt8):(st l).toList.isEmpty=l.isEmpty:=by rw [zmm]
theorem zyl (l:List UInt8) (nm:Int):(l=[]∧(st l).toList.isEmpty=true)∨(0<nm∧l≠[]∧(st l).toList.isEmpty=false)∨(nm<0∧l≠[]∧(st l).toList.isEmpty=false)∨(nm=0∧l≠[]∧(st l).toList.isEmpty=false):=by
 simp only [zIk]
 cases l with
 | nil=>exact .inl ⟨rfl,rfl⟩
 | cons a r =>
  rcases Int.lt_trichotomy nm 0 with h|h|h
  ·exact .inr (.inr (.inl ⟨h,by simp,rfl⟩))
  ·exact .inr (.inr (.inr ⟨h,by simp,rfl⟩))
  ·exact .inr (.inl ⟨h,by simp,rfl⟩)
theorem zIp (n:Int):1≤(st (dec n)).size:=by
 rw [zIb]
 unfold dec
 by_cases h:n<0
 ·obtain ⟨u,rfl⟩:∃ u:Nat,n=-(u:Int):=⟨n.natAbs,by omega⟩
  rw [Lib.itoa_neg u (by omega)]
  simp
 ·obtain ⟨u,rfl⟩:∃ u:Nat,n=u:=⟨n.toNat,by omega⟩
  rw [Lib.itoa_nonneg,Lib.decDigits]
  split<;>simp
theorem st_dl (l:List UInt8):(st l).data.toList=l:=by simp [st]
theorem zmr (x:List UInt8):List.take (x.length-1) x.tail=x.tail:=List.take_of_length_le (by simp)
def zGl (x:List UInt8):List UInt8:=x++[10]
def zMj (d:Nat) (x:List UInt8):List UInt8:=blanks (d+1)++(x++[10])
end Go.Proofs.YtbfgdpcgdmabpaaGreatDoor
