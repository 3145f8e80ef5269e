/- The contract of lychgateref07.Lower on a function's tree. The plain account of layer 8: how two trees are linked; codes in a slice in memory; the map of names. Nothing of the program is walked here. Plain facts on the code of a whole function: how many instructions, where its jumps go. Nothing of the program is walked here. -/
import Derived.Test.YthdbmgijpelecaaGreatDoorM35
import Derived.Test.YthdbmgijpelecaaGreatDoorM19
import Derived.Test.YthdbmgijpelecaaGreatDoorM17
import Derived.Maps.OwnSet
import Derived.Maps.OwnOps
namespace Go.Proofs.YthdbmgijpelecaaGreatDoor
set_option maxRecDepth 100000
set_option maxHeartbeats 2000000
section
open Go.RowKit
theorem Tryz.zCi:(Tryz.prog.info? 51).map (·.size)=some 3:=by kernel_rfl
def zCk (w:World) (c:Cod) (e:Ending) (w':World):Prop:=∃ pv lv,e=.returned (zzq c pv lv)∧(zXb w' c.params (fun b=>w.heap.size≤b) pv∧zSa w' c.list (fun b=>w.heap.size≤b) lv)∧Below w.heap.size w w'
theorem zAh:∀ {xs:List T},zjb (·=7) xs→(xs.filter fun k=>k.kind == 7)=xs
 | [],_=>rfl
 | x :: xs,h=>by
  have h1:x.kind=7:=h x (by simp)
  have h2:zjb (·=7) xs:=fun t ht=>h t (by simp [ht])
  rw [List.filter_cons,if_pos (by rw [h1];rfl),zAh h2]
theorem zpn {xs:List T} {r b:T} (h:zjb (·=7) xs) (hr:r.kind=8) (hb:b.kind=9):zqd (xs++[r,b])=xs.map T.text:=by
 unfold zqd
 rw [List.filter_append,zAh h,List.filter_cons,if_neg (by rw [hr];decide),List.filter_cons,if_neg (by rw [hb];decide)]
 simp
theorem zOm {t:T} (hw:t.whole) (h6:t.kind=6):∃ xs r b,t.kids=xs++[r,b]∧zvd t=⟨t.text,xs.map T.text,zBa 5000 0 b.kids++[zoo b]⟩∧zjb zZa b.kids∧zYb b.kids∧sizes b.kids+1≤t.size:=by
 cases t with
 | mk k tx nm p ks =>
  have h6':k=6:=h6
  subst h6'
  obtain ⟨hf,hws⟩:=zOd.1 hw
  cases hf with
  | @fn xs r b _ hx hr hb =>
   have hbw:=zOb (zMd hws (show b∈xs++[r,b] by simp)) hb
   refine ⟨xs,r,b,rfl,?_,hbw.1,hbw.2,?_⟩
   ·have hl:zTh (.mk 6 tx nm p (xs++[r,b]))=b:=by
     unfold zTh
     have h0:(T.mk 6 tx nm p (xs++[r,b])).kids.isEmpty=false:=by show (xs++[r,b]).isEmpty=false;cases xs<;>rfl
     rw [h0]
     show zFa (.mk 6 tx nm p (xs++[r,b])) ((xs++[r,b]).length-1)=b
     rw [zUl (by show (xs++[r,b]).length-1<(xs++[r,b]).length;simp)]
     show (xs++[r,b])[(xs++[r,b]).length-1]=b
     simp
    show (⟨tx,zqd (xs++[r,b]),zBa 5000 0 (zTh (.mk 6 tx nm p (xs++[r,b]))).kids++[zoo (zTh (.mk 6 tx nm p (xs++[r,b])))]⟩:Cod)=_
    rw [hl,zpn hx hr hb]
    rfl
   ·rw [size_mk,zyc,zoa,zoa,zwa]
    have:b.size=1+sizes b.kids:=by cases b;rw [size_mk];rfl
    omega
  | unit e|type e|none e|one e|two e|param e|block e|set e|cond e|loop e|call1 e|load e|call e|leaf e=>omega
theorem zxk {P:Program} {w:World} {o:Oper} {a:Act} {K:Act→World→Prop} {Q:Exit→Act→World→Prop} (s x:Operand) {t:TypeId} (ho:o.op=.call { callee:=.builtin .append,args:=#[s,x],argTypes:=#[t,t] })
  {i:TypeInfo} {z:Value} {by':Nat} (I:zAe P t 9 1 by' i z) (hby:by'≤1000) {ss:List ByteArray} {u:ByteArray} {S:Nat→Prop} {v:Value} (hs:a.eval s=v) (hk:zXb w ss S v) (hS:S w.heap.size) {ad:Addr} {c:Nat} (hx:a.eval x=.slice (some ad) 1 c) (hnew:w.cell? (ad.add 0)=some (.string u))
  (hb:ss.length+1≤100000)
  (h:∀ v' w',zXb w' (ss++[u]) S v'→w.grownBy w' v.ownBlock→K (a.put o.dst v') w'):o.wp P a w K Q:=by
 obtain ⟨hown,hSv⟩:=hk
 have hbb:(ss.length+1) * by'≤140737488355328:=Nat.le_trans (Nat.mul_le_mul hb hby) (by omega)
 have hnews:∀ j y,([Value.string u]:List Value)[j]?=some y→w.cell? (ad.add j)=some y:=fun j y hj=>by
  cases j with
  | zero=>simp at hj;subst hj;exact hnew
  | succ j=>simp at hj
 have h1:∀ y∈([Value.string u]:List Value),y.oneCell'=true:=fun y hy=>by simp at hy;subst hy;rfl
 obtain ⟨v',w',hr,ho',hg',_⟩:=run_append_own (P:=P) w 0 t o.type 9 i z 1 by' I.ht I.hi I.hz I.size I.bytes I.zs (by decide) v ss.length (strCells ss) hown ad 1 c [Value.string u] rfl hnews h1 (by unfold maxLen;omega) hbb (Nat.zero_le _)
 have hbk:=zZd (ty:=o.type) I.ht I.hi I.hz I.size I.bytes hown (by omega) (by rfl) hnews h1 (by unfold maxLen;omega) hbb hr
 unfold Oper.wp execOp
 simp only [ho,resolve,invoke,builtin,Sem.run_bind,Sem.run_pure,Result.andThen_ok,List.map_toArray,List.map_cons,List.map_nil,hs,hx]
 rw [hr]
 refine h v' w' ⟨?_,?_⟩ hg'
 ·rw [List.length_append]
  show w'.ownsRow 0 _ 1 v' (ss.length+1) (strCells (ss++[u]))
  unfold strCells
  rw [List.map_append]
  exact ho'
 ·intro g hg
  rcases hbk with h|h
  ·exact hSv g (h▸hg)
  ·rw [h] at hg;cases hg;exact hS
structure zCd (w:World) (hd:List Value) (nm:ByteArray) (ps:List ByteArray) (is:List Ins) (SP:Nat→Prop) (pv lv:Value) (W:World):Prop where
 n:Blk W w.heap.size hd 34
 r:∃ old,Blk W (w.heap.size+1) old 51∧old.length=3
 c:Blk W (w.heap.size+1+1) [.string nm,pv,lv] 51
 s:zXb W ps SP pv
 sp:∀ b,SP b→w.heap.size+1+1<b
 i:zSa W is (fun b=>w.heap.size+1+1<b∧¬ SP b) lv
 b:Below w.heap.size w W
section
variable {w W W':World} {hd:List Value} {nm:ByteArray} {ps qs:List ByteArray} {is js:List Ins} {SP:Nat→Prop} {pv qv lv mv:Value}
theorem zCd.call (h:zCd w hd nm ps is SP pv lv W) (hb:Below W.heap.size W W'):zCd w hd nm ps is SP pv lv W':=by
 obtain ⟨old,h1,h2⟩:=h.r
 exact ⟨h.n.stays hb,⟨old,h1.stays hb,h2⟩,h.c.stays hb,h.s.below hb,h.sp,h.i.below hb,h.b.trans (hb.mono h.b.size)⟩
theorem zCd.alloc (h:zCd w hd nm ps is SP pv lv W) (x:Obj):zCd w hd nm ps is SP pv lv (W.alloc x):=h.call ((Below.refl _ _).alloc (Nat.le_refl _) _)
theorem zCd.drew (h:zCd w hd nm ps is SP pv lv W):zCd w hd nm ps is SP pv lv W.drew:=h.call (Below.refl _ _).drew
theorem zCd.lt2 (h:zCd w hd nm ps is SP pv lv W):w.heap.size+1+1<W.heap.size:=h.c.lt
theorem zCd.putP (h:zCd w hd nm ps [] (fun b=>w.heap.size+1+1<b) pv (.slice none 0 0) W) (hg:W.grownBy W' pv.ownBlock) (hs:zXb W' qs (fun b=>w.heap.size+1+1<b) qv):zCd w hd nm qs [] (fun b=>w.heap.size+1+1<b) qv (.slice none 0 0) (W'.setCell ⟨w.heap.size+1+1,1,none⟩ qv):=by
 have ne:∀ k,k≤w.heap.size+1+1→some k≠pv.ownBlock:=fun k hk e=>by have:=h.s.2 k e.symm;omega
 obtain ⟨old,h1,h2⟩:=h.r
 exact ⟨(h.n.grown hg (ne _ (by omega))).setOther _ _ (by show w.heap.size≠w.heap.size+1+1;omega),⟨old,(h1.grown hg (ne _ (by omega))).setOther _ _ (by show w.heap.size+1≠w.heap.size+1+1;omega),h2⟩,
  (h.c.grown hg (ne _ (by omega))).zxa 1 qv,hs.setCell _ _ (fun b hb=>by show b≠w.heap.size+1+1;omega),fun _ hb=>hb,zSa.nil _ _,(h.b.grown hg h.b.size (fun b hb=>by have:=h.s.2 b hb;omega)).setCell (by show w.heap.size≤w.heap.size+1+1;omega) qv⟩
theorem zCd.putL (h:zCd w hd nm ps [] (fun b=>w.heap.size+1+1<b) pv (.slice none 0 0) W) (hb:Below W.heap.size W W') (hl:zSa W' is (fun b=>W.heap.size≤b) lv):zCd w hd nm ps is (fun b=>w.heap.size+1+1<b∧b<W.heap.size) pv lv (W'.setCell ⟨w.heap.size+1+1,2,none⟩ lv):=by
 have hz:=h.lt2
 have h':=h.call hb
 obtain ⟨old,h1,h2⟩:=h'.r
 exact ⟨h'.n.setOther _ _ (by show w.heap.size≠w.heap.size+1+1;omega),⟨old,h1.setOther _ _ (by show w.heap.size+1≠w.heap.size+1+1;omega),h2⟩,h'.c.zxa 2 lv,
  (h.s.keep (S':=fun b=>w.heap.size+1+1<b∧b<W.heap.size) fun b hb1 hl1=>⟨⟨hb1,hl1⟩,hb.block b hl1⟩).setCell _ _ (fun b hb=>by show b≠w.heap.size+1+1;omega),fun _ hb=>hb.1,
  (hl.mono (S':=fun b=>w.heap.size+1+1<b∧¬ (w.heap.size+1+1<b∧b<W.heap.size)) fun b hb1 _=>by omega).setCell _ _ (fun b hb=>by show b≠w.heap.size+1+1;omega),h'.b.setCell (by show w.heap.size≤w.heap.size+1+1;omega) lv⟩
theorem zCd.fresh {z:Nat} (h:zCd w hd nm ps is (fun b=>w.heap.size+1+1<b∧b<z) pv lv W) (hz:z≤W.heap.size):w.heap.size+1+1<W.heap.size∧¬ (w.heap.size+1+1<W.heap.size∧W.heap.size<z):=⟨h.lt2,fun e=>by omega⟩
theorem zCd.grow (h:zCd w hd nm ps is SP pv lv W) (hI:zSa W' js (fun b=>w.heap.size+1+1<b∧¬ SP b) mv) (hg:W.grownBy W' lv.ownBlock):Blk W' (w.heap.size+1+1) [.string nm,pv,lv] 51∧zCd w hd nm ps js SP pv mv (W'.setCell ⟨w.heap.size+1+1,2,none⟩ mv):=by
 have ne:∀ k,k≤w.heap.size+1+1→some k≠lv.ownBlock:=fun k hk e=>by have:=(h.i.zbe e.symm).1.1;omega
 obtain ⟨old,h1,h2⟩:=h.r
 refine ⟨h.c.grown hg (ne _ (Nat.le_refl _)),(h.n.grown hg (ne _ (by omega))).setOther _ _ (by show w.heap.size≠w.heap.size+1+1;omega),⟨old,(h1.grown hg (ne _ (by omega))).setOther _ _ (by show w.heap.size+1≠w.heap.size+1+1;omega),h2⟩,
  (h.c.grown hg (ne _ (by omega))).zxa 2 mv,(h.s.keep (S':=SP) fun b hb hl=>⟨hb,hg.block b hl fun e=>(h.i.zbe e.symm).1.2 hb⟩).setCell _ _ (fun b hb=>by have:=h.sp b hb;show b≠w.heap.size+1+1;omega),h.sp,
  hI.setCell _ _ (fun b hb=>by show b≠w.heap.size+1+1;omega),(h.b.grown hg h.b.size (fun b hb=>by have:=(h.i.zbe hb).1.1;omega)).setCell (by show w.heap.size≤w.heap.size+1+1;omega) mv⟩
def RLS (w:World) (hd:List Value) (nm:ByteArray) (pv lv:Value) (W:World):Prop:=Blk W w.heap.size hd 34∧Blk W (w.heap.size+1+1) [.string nm,pv,lv] 51∧Below w.heap.size w W
theorem zCd.rls (h:zCd w hd nm ps is SP pv lv W):RLS w hd nm pv lv W:=⟨h.n,h.c,h.b⟩
theorem zCd.rlsP (h:zCd w hd nm ps is (fun b=>w.heap.size+1+1<b) pv lv W) (hg:W.grownBy W' pv.ownBlock):RLS w hd nm pv lv W':=by
 have ne:∀ k,k≤w.heap.size+1+1→some k≠pv.ownBlock:=fun k hk e=>by have:=h.s.2 k e.symm;omega
 exact ⟨h.n.grown hg (ne _ (by omega)),h.c.grown hg (ne _ (by omega)),h.b.grown hg h.b.size (fun b hb=>by have:=h.s.2 b hb;omega)⟩
theorem zCd.rlsL (h:zCd w hd nm ps is SP pv lv W) (hg:W.grownBy W' lv.ownBlock):RLS w hd nm pv lv W':=by
 have ne:∀ k,k≤w.heap.size+1+1→some k≠lv.ownBlock:=fun k hk e=>by have:=(h.i.zbe e.symm).1.1;omega
 exact ⟨h.n.grown hg (ne _ (by omega)),h.c.grown hg (ne _ (by omega)),h.b.grown hg h.b.size (fun b hb=>by have:=(h.i.zbe hb).1.1;omega)⟩
theorem zCd.done (h:zCd w hd nm ps is SP pv lv W) {cs:Array Value}:zXb (W.setRow (w.heap.size+1) cs) ps (fun b=>w.heap.size≤b) pv∧zSa (W.setRow (w.heap.size+1) cs) is (fun b=>w.heap.size≤b) lv :=
 ⟨h.s.keep fun b hb _=>⟨by have:=h.sp b hb;omega,setRow_other _ _ _ _ (by have:=h.sp b hb;omega)⟩,h.i.keep fun b hb _=>⟨by omega,setRow_other _ _ _ _ (by omega)⟩⟩
end
def RLRel (w:World) (hd:List Value) (nm:ByteArray) (xs:List T) (g:Nat) (i:Value) (wr:World):Prop :=
 ∃ (k:Nat) (pv:Value),k≤xs.length∧xs.length≤k+g∧i=.int .i64 k∧zCd w hd nm ((xs.take k).map T.text) [] (fun b=>w.heap.size+1+1<b) pv (.slice none 0 0) wr
theorem zTp {w:World} {tx:ByteArray} {nm:Int} {p:Nat} {ks:List T} {S:Nat→Prop} {kv:Value} (hk:KAt 34 w ks S kv) (hw:(T.mk 6 tx nm p ks).whole) (hs:(T.mk 6 tx nm p ks).size≤5000) :
  Calls Tryz.prog 23 #[zma (.mk 6 tx nm p ks) kv] w (zCk w (zvd (.mk 6 tx nm p ks))):=by
 obtain ⟨xs,r,b,hks,hlow,hbk,hbw,hbs⟩:=zOm hw rfl
 have hks':ks=xs++[r,b]:=hks
 rw [hlow]
 have hsz:ks.length≤5000:=by have:=zMc ks;rw [size_mk] at hs;omega
 rcases hk.form with ⟨rfl,hnil⟩|⟨g,cap,rfl,hg,hcap,hcm,hget⟩
 ·rw [hnil] at hks';simp at hks'
 have hlen:ks.length=xs.length+2:=by rw [hks'];simp
 obtain ⟨X,hX⟩:∃ X,X=xs.length:=⟨_,rfl⟩
 obtain ⟨N,hN⟩:∃ N,N=ks.length:=⟨_,rfl⟩
 rw [← hN] at hlen hsz hcap hk ⊢
 rw [← hX] at hlen
 obtain ⟨la,hla,hla1,hla2⟩:∃ la:Nat,la=X+1∧IntKind.i64.wrap ((N:Int)-1)=(la:Int)∧IntKind.i64.wrap ((la:Int)-1)=(X:Int) :=
  ⟨X+1,rfl,by rw [IntWalk.i64_in _ (by omega)];omega,by rw [IntWalk.i64_in _ (by omega)];omega⟩
 have hlaN:la<N:=by omega
 have HKX:Hid (∀ k t,xs[k]?=some t→∃ u,w.rangeAt g (k * 5) (zaa t u)):=zh fun k t h=>by
  have h1:ks[k]?=some t:=by rw [hks',List.getElem?_append_left (List.getElem?_eq_some_iff.1 h).1];exact h
  obtain ⟨u,hr,_⟩:=hget k t h1
  exact ⟨u,hr⟩
 obtain ⟨ub,hrb,htb⟩:=hget la b (by rw [hks',List.getElem?_append_right (by omega),hla,hX];simp)
 have HRB:=zh hrb
 have HTB:=zh htb
 have HBK:=zh hbk
 have HBW:=zh hbw
 have HBS:=zh (show sizes b.kids≤4999 by omega)
 have HG:=zh hg
 have HX:=zh hX
 have HLA:=zh hla
 have HLN:=zh hlen
 have HSZ:=zh hsz
 have HBY:=zh (show 16≤1000 by omega)
 have HBI:=zh (show 136≤1000 by omega)
 obtain ⟨i0,z0,I⟩:=Tryz.zwo
 obtain ⟨it,zt,IT⟩:=Tryz.zGm
 obtain ⟨W3,hW3,HST⟩:∃ W,((w.alloc (.cells (zaa (.mk 6 tx nm p ks) (.slice (some ⟨g,0,none⟩) N cap)).toArray 34)).alloc (.cells [.string ⟨#[]⟩,.slice none 0 0,.slice none 0 0].toArray 51)).alloc (.cells [.string tx,.slice none 0 0,.slice none 0 0].toArray 51)=W∧Hid (zCd w (zaa (.mk 6 tx nm p ks) (.slice (some ⟨g,0,none⟩) N cap)) tx [] [] (fun b=>w.heap.size+1+1<b) (.slice none 0 0) (.slice none 0 0) W) :=
  ⟨_,rfl,zh ⟨((Blk.new w _ _).alloc _).alloc _,⟨_,(Blk.zpc w _ _ _).alloc _,rfl⟩,by
    have h:=Blk.zpc (w.alloc (.cells (zaa (.mk 6 tx nm p ks) (.slice (some ⟨g,0,none⟩) N cap)).toArray 34)) (.cells [.string ⟨#[]⟩,.slice none 0 0,.slice none 0 0].toArray 51) [.string tx,.slice none 0 0,.slice none 0 0] 51
    rw [show (w.alloc (.cells (zaa (.mk 6 tx nm p ks) (.slice (some ⟨g,0,none⟩) N cap)).toArray 34)).heap.size=w.heap.size+1 by simp] at h
    exact h,zXb.nil _ _,fun _ h=>h,zSa.nil _ _,(((Below.refl _ _).alloc (Nat.le_refl _) _).alloc (by simp) _).alloc (by simp;omega) _⟩⟩
 obtain ⟨HD,hHD⟩:∃ HD,HD=zaa (.mk 6 tx nm p ks) (.slice (some ⟨g,0,none⟩) N cap):=⟨_,rfl⟩
 rw [← hHD] at HST
 have HHD:=zh hHD
 clear hHD hks hks' hlow hbk hbw hbs hrb htb hget hk hw hs hlen hsz hla hX hg hN
 unfold maxLen at hcm
 unfold zma
 simp only [zRa,zXa,zBb,zJa]
 go_enter Tryz.func23,Tryz.ntmps23
 go_wp2_with fail
 go_loopg [5] X (fun gk i wr=>RLRel w HD tx xs gk i wr)
 case atStart=>exact ⟨0,.slice none 0 0,by omega,by have:=HX.out;omega,rfl,by have h:=HST.out;rw [← hW3] at h;exact h⟩
 case round =>
  obtain ⟨k,pv,hk,hgk,rfl,hst⟩:=hrel
  have HP:=zh hst
  obtain ⟨pa,pn,pc,rfl⟩:∃ a n c,pv=.slice a n c:=by obtain ⟨a,c,h⟩:=hst.s.slice;exact ⟨a,_,c,h⟩
  have n4:wr.cell? ⟨w.heap.size,4,none⟩=some (.slice (some ⟨g,0,none⟩) N cap):=by have h:=hst.n.cell 4;rw [HHD.out] at h;exact h
  have hX:=HX.out
  have c1:wr.cell? ⟨w.heap.size+1+1,1,none⟩=some (.slice pa pn pc):=hst.c.cell 1
  have hbel:=hst.b
  clear hst
  by_cases hlt:k<X
  ·have hkN:k<N:=by have:=HLN.out;omega
   obtain ⟨t,ht⟩:∃ t,xs[k]?=some t:=⟨xs[k]'(by omega),List.getElem?_eq_getElem _⟩
   obtain ⟨u,hr⟩:=HKX.out k t ht
   have htk:xs.take (k+1)=xs.take k++[t]:=by rw [List.take_add_one,ht];rfl
   have HTK:=zh htk
   have HRK:=zh hr
   have HJL:=zh (show (k+1≤xs.length∧xs.length≤k+1+(gk-1))∧gk-1<gk by omega)
   have HPL:Hid (((xs.take k).map T.text).length+1≤100000):=zh (by have:=HLN.out;have:=HSZ.out;simp;omega)
   clear ht hr htk hbel
   go_wp2_with fail
   have HS0:=zh HP.out.drew
   refine AnyE.zyh (S:=RLS w HD tx (.slice pa pn pc) (.slice none 0 0)) rfl (by kernel_rfl) HS0.out.rls (fun hS=>?_)
   refine AnyE.take (i:=0) (v:=.pointer (some ⟨(w.heap.size+1+1),1,none⟩)) rfl (by kernel_rfl) (by kernel_rfl) (by kernel_rfl) (by kernel_rfl) (fun _ _ _ h=>h) (Or.inl ⟨by rfl,fun W _=>by go_simp⟩) hS ?_
   refine AnyE.take (i:=1) (v:=.slice pa pn pc) rfl (by kernel_rfl) (by kernel_rfl) (by kernel_rfl) (by kernel_rfl) (fun _ _ _ h=>h) (Or.inl ⟨by rfl,fun W hW=>by have hcx:W.cell? ⟨(w.heap.size+1+1),1,none⟩=some (.slice pa pn pc):=hW.2.1.cell 1;go_simp⟩) hS ?_
   refine AnyE.take (i:=2) (v:=.pointer (some ⟨w.heap.size,4,none⟩)) rfl (by kernel_rfl) (by kernel_rfl) (by kernel_rfl) (by kernel_rfl) (fun _ _ _ h=>h) (Or.inl ⟨by rfl,fun W _=>by go_simp⟩) hS ?_
   refine AnyE.take (i:=3) (v:=.slice (some ⟨g,0,none⟩) N cap) rfl (by kernel_rfl) (by kernel_rfl) (by kernel_rfl) (by kernel_rfl) (fun _ _ _ h=>h) (Or.inl ⟨by rfl,fun W hW=>by have hcx:W.cell? ⟨w.heap.size,4,none⟩=some (.slice (some ⟨g,0,none⟩) N cap):=(by have h:=hW.1.cell 4;rw [HHD.out] at h;exact h);go_simp⟩) hS ?_
   refine AnyE.take (i:=4) (v:=.int .i64 k) rfl (by kernel_rfl) (by kernel_rfl) (by kernel_rfl) (by kernel_rfl) (fun _ _ _ h=>h) (Or.inl ⟨by rfl,fun W _=>by go_simp⟩) hS ?_
   refine AnyE.take (i:=5) (v:=.pointer (some ⟨g,k * 5,none⟩)) rfl (by kernel_rfl) (by kernel_rfl) (by kernel_rfl) (by kernel_rfl) (fun _ _ _ h=>h) (Or.inl ⟨by rfl,fun W _=>by go_simp⟩) hS ?_
   refine AnyE.take (i:=6) (v:=.pointer (some ⟨g,k * 5+1,none⟩)) rfl (by kernel_rfl) (by kernel_rfl) (by kernel_rfl) (by kernel_rfl) (fun _ _ _ h=>h) (Or.inl ⟨by rfl,fun W _=>by go_simp⟩) hS ?_
   refine AnyE.take (i:=7) (v:=.string t.text) rfl (by kernel_rfl) (by kernel_rfl) (by kernel_rfl) (by kernel_rfl) (fun _ _ _ h=>h) (Or.inl ⟨by rfl,fun W hW=>by have hcx:W.cell? ⟨g,k * 5+1,none⟩=some (.string t.text):=zpa HRK.out hW.2.2 HG.out 1 _ rfl;go_simp⟩) hS ?_
   clear hS
   refine AnyE.one (i:=8) (by kernel_rfl) rfl (by rfl) (fun K hK=>?_)
   go_simp
   have HP1:=zh (HS0.out.alloc (.cells #[.string t.text] 9))
   refine hK.out _ _ (fun _=>HP1.out.rls) ?_
   clear hK K
   refine AnyE.one (i:=9) (by kernel_rfl) rfl (by rfl) (fun K hK=>?_)
   refine zxk (u:=t.text) (.tmp 20) (.tmp 27) rfl I HBY.out rfl HP1.out.s HP1.out.lt2 rfl (by go_simp) HPL.out ?_
   intro v' w' hs' hg'
   obtain ⟨a',n',c',rfl⟩:∃ a n c,v'=.slice a n c:=by obtain ⟨a,c,h⟩:=hs'.slice;exact ⟨a,_,c,h⟩
   have HSW:=zh (HP1.out.rlsP hg')
   have HP2:=zh (HP1.out.putP hg' hs')
   clear hs' hg'
   refine hK.out _ _ (fun _=>HSW.out) ?_
   clear hK K
   refine AnyE.one (i:=10) (by kernel_rfl) rfl (by rfl) (fun K hK=>?_)
   go_simp
   refine hK.out _ _ (fun _=>HSW.out) ?_
   clear hK K
   refine AnyE.one (i:=11) (by kernel_rfl) rfl (by rfl) (fun K hK=>?_)
   have hcx:w'.cell? ⟨w.heap.size+1+1,1,none⟩=some (.slice pa pn pc):=HSW.out.2.1.cell 1
   have hfx:=HSW.out.2.1.frozen 1
   go_simp
   refine hK.out _ _ (fun h=>absurd rfl h) ?_
   clear hK K
   refine AnyE.done (by kernel_rfl) ?_ _
   clear hcx hfx
   go_wp2_with fail
   go_roundg (gk-1)
   case measure=>exact HJL.out.2
   case rel =>
    refine ⟨k+1,.slice a' n' c',HJL.out.1.1,HJL.out.1.2,by go_num,?_⟩
    rw [HTK.out,List.map_append]
    exact HP2.out
  ·have hE:xs.take k=xs:=List.take_of_length_le (by omega)
   rw [hE] at HP
   have HRB1:=zh (zpa HRB.out hbel HG.out)
   have HTB1:=zh (HTB.out.below hbel)
   clear hE hbel
   go_wp2_with (first
    | ((with_reducible refine zra 34 (.tmp 33) ?_);refine wpList_load_mid rfl 34 (.tmp 33) rfl g (la * 5) rfl (zaa b ub) _ HRB1.out Tryz.underlying34 rfl Tryz.zGa ?_))
   refine (zFj 5000 wr b S ub 0 HTB1.out.kat HBK.out HBW.out (by have:=HBS.out;omega) (by have:=HBS.out;omega) (by have:=HBS.out;omega)).mono ?_
   rintro e w1 ⟨lv,rfl,hl,hb1⟩
   obtain ⟨va,vn,vc,rfl⟩:=hl.slice3
   have HP1:=zh (HP.out.call hb1)
   have k2:w1.cell? ⟨w.heap.size+1+1,2,none⟩=some (.slice none 0 0):=HP1.out.c.cell 2
   have hf2:=HP1.out.c.frozen 2
   have HP2:=zh (HP.out.putL hb1 hl)
   have HLL:Hid ((zBa 5000 0 b.kids).length+1≤100000):=zh (by
    have h1:=zmb 5000 b.kids (by have:=HBS.out;omega) HBK.out HBW.out 0
    have h2:=count_le.counts_le b.kids
    have:=HBS.out
    omega)
   have HP3:=zh (HP2.out.drew.alloc (.cells (zea (zoo b) (.slice none 0 0)).toArray 106))
   have HN3:=zh (show Blk _ (w1.setCell ⟨w.heap.size+1+1,2,none⟩ (.slice va vn vc)).drew.heap.size (zea (zoo b) (.slice none 0 0)) 106 from Blk.new _ _ _)
   have HFZ:=zh (show wr.heap.size≤((w1.setCell ⟨w.heap.size+1+1,2,none⟩ (.slice va vn vc)).drew.alloc (.cells (zea (zoo b) (.slice none 0 0)).toArray 106)).heap.size by have:=hb1.size;simp [World.drew];omega)
   clear hl hb1 HP1 c1 n4
   go_wp2_with fail
   generalize w1.setCell ⟨w.heap.size+1+1,2,none⟩ (.slice va vn vc)=W2 at *
   refine AnyE.zyh (S:=RLS w HD tx (.slice pa pn pc) (.slice va vn vc)) rfl (by kernel_rfl) HP2.out.drew.rls (fun hS=>?_)
   refine AnyE.take (i:=0) (v:=.pointer (some ⟨(w.heap.size+1+1),2,none⟩)) rfl (by kernel_rfl) (by kernel_rfl) (by kernel_rfl) (by kernel_rfl) (fun _ _ _ h=>h) (Or.inl ⟨by rfl,fun W _=>by go_simp⟩) hS ?_
   refine AnyE.take (i:=1) (v:=.slice va vn vc) rfl (by kernel_rfl) (by kernel_rfl) (by kernel_rfl) (by kernel_rfl) (fun _ _ _ h=>h) (Or.inl ⟨by rfl,fun W hW=>by have hcx:W.cell? ⟨(w.heap.size+1+1),2,none⟩=some (.slice va vn vc):=hW.2.1.cell 2;go_simp⟩) hS ?_
   refine AnyE.take (i:=2) (v:=.pointer (some ⟨w.heap.size,4,none⟩)) rfl (by kernel_rfl) (by kernel_rfl) (by kernel_rfl) (by kernel_rfl) (fun _ _ _ h=>h) (Or.inl ⟨by rfl,fun W _=>by go_simp⟩) hS ?_
   refine AnyE.take (i:=3) (v:=.slice (some ⟨g,0,none⟩) N cap) rfl (by kernel_rfl) (by kernel_rfl) (by kernel_rfl) (by kernel_rfl) (fun _ _ _ h=>h) (Or.inl ⟨by rfl,fun W hW=>by have hcx:W.cell? ⟨w.heap.size,4,none⟩=some (.slice (some ⟨g,0,none⟩) N cap):=(by have h:=hW.1.cell 4;rw [HHD.out] at h;exact h);go_simp⟩) hS ?_
   refine AnyE.take (i:=4) (v:=.int .i64 la) rfl (by kernel_rfl) (by kernel_rfl) (by kernel_rfl) (by kernel_rfl) (fun _ _ _ h=>h) (Or.inl ⟨by rfl,fun W _=>by go_simp⟩) hS ?_
   refine AnyE.take (i:=5) (v:=.pointer (some ⟨g,la * 5,none⟩)) rfl (by kernel_rfl) (by kernel_rfl) (by kernel_rfl) (by kernel_rfl) (fun _ _ _ h=>h) (Or.inl ⟨by rfl,fun W _=>by go_simp⟩) hS ?_
   refine AnyE.take (i:=6) (v:=.pointer (some ⟨g,la * 5+3,none⟩)) rfl (by kernel_rfl) (by kernel_rfl) (by kernel_rfl) (by kernel_rfl) (fun _ _ _ h=>h) (Or.inl ⟨by rfl,fun W _=>by go_simp⟩) hS ?_
   refine AnyE.take (i:=7) (v:=.int .i64 b.place) rfl (by kernel_rfl) (by kernel_rfl) (by kernel_rfl) (by kernel_rfl) (fun _ _ _ h=>h) (Or.inl ⟨by rfl,fun W hW=>by have hcx:W.cell? ⟨g,la * 5+3,none⟩=some (.int .i64 b.place):=zpa HRB.out hW.2.2 HG.out 3 _ rfl;go_simp⟩) hS ?_
   refine AnyE.take (i:=8) (v:=.agg #[.int .i64 14,.int .i64 b.place,.string ⟨#[]⟩,.string ⟨#[]⟩,.string ⟨#[]⟩,.int .i64 0,.string ⟨#[]⟩,.int .i64 0,.slice none 0 0,.int .i64 0,.bool false]) rfl (by kernel_rfl) (by kernel_rfl) (by kernel_rfl) (by kernel_rfl) (fun _ _ _ h=>h) (Or.inl ⟨by rfl,fun W _=>by go_simp⟩) hS ?_
   clear hS
   refine AnyE.one (i:=9) (by kernel_rfl) rfl (by rfl) (fun K hK=>?_)
   go_simp
   refine hK.out _ _ (fun _=>HP3.out.rls) ?_
   clear hK K
   refine AnyE.one (i:=10) (by kernel_rfl) rfl (by rfl) (fun K hK=>?_)
   refine zsg (j:=zoo b) (u:=.slice none 0 0) (.tmp 38) (.tmp 46) rfl IT HBI.out rfl HP3.out.i (zEa.nil _ _) (HP3.out.fresh HFZ.out) rfl (fun k y hk=>by rw [Addr.add_mid,Nat.zero_add];exact (HN3.out.cell k).trans hk) HLL.out ?_
   intro v4 w4 hI hg4 hbk
   obtain ⟨ra,rn,rc,rfl⟩:=hI.slice3
   have HSW:=zh (HP3.out.rlsL hg4)
   have HP5:=zh (HP3.out.grow hI hg4).2
   clear hI hg4 hbk
   refine hK.out _ _ (fun _=>HSW.out) ?_
   clear hK K
   refine AnyE.one (i:=11) (by kernel_rfl) rfl (by rfl) (fun K hK=>?_)
   go_simp
   refine hK.out _ _ (fun _=>HSW.out) ?_
   clear hK K
   refine AnyE.one (i:=12) (by kernel_rfl) rfl (by rfl) (fun K hK=>?_)
   have hcx:w4.cell? ⟨w.heap.size+1+1,2,none⟩=some (.slice va vn vc):=HSW.out.2.1.cell 2
   have hfx:=HSW.out.2.1.frozen 2
   go_simp
   refine hK.out _ _ (fun h=>absurd rfl h) ?_
   clear hK K
   refine AnyE.done (by kernel_rfl) ?_ _
   obtain ⟨old,ho,hol⟩:=HP5.out.r
   have HO:=zh ho
   have HOL:=zh hol
   clear ho hol hcx hfx
   go_wp2_with (first
    | ((with_reducible refine zra 51 (.tmp 3) ?_);refine zja rfl 51 (.tmp 3) rfl (w.heap.size+1+1) ([.string tx,.slice pa pn pc,.slice ra rn rc]) rfl HP5.out.c Tryz.underlying51 rfl Tryz.zCi ?_)
    | ((with_reducible refine zla 51 (.tmp 2) ?_);refine zca rfl 51 (.tmp 2) (.tmp 49) rfl (w.heap.size+1) [.string tx,.slice pa pn pc,.slice ra rn rc] rfl rfl HO.out Tryz.zCi HOL.out (by intro x hx;simp only [List.mem_cons,List.not_mem_nil,or_false] at hx;rcases hx with rfl|rfl|rfl<;>rfl) ?_))
   exact zka (cs:=[.string tx,.slice pa pn pc,.slice ra rn rc]) Tryz.results23 rfl HO.out Tryz.underlying51 rfl Tryz.zCi rfl ⟨_,_,rfl,HP5.out.done,Below.row HP5.out.b (by omega) _⟩
theorem zCn {w:World} {t:T} {S:Nat→Prop} {kv:Value} (hk:KAt 34 w t.kids S kv) (hw:t.whole) (h6:t.kind=6) (hs:t.size≤5000) :
  Calls Tryz.prog 23 #[zma t kv] w (zCk w (zvd t)):=by
 cases t with
 | mk k tx nm p ks =>
  obtain rfl:k=6:=h6
  exact zTp hk hw hs
end
section
open Go.RowKit Go.Maps
def zlt:List Cod→ByteArray→Option Nat
 | [],_=>none
 | c :: cs,s=>bif c.name.toList == s.toList then some 0 else (zlt cs s).map (·+1)
def zxl:List Cod→List (Value × Value)→List Value
 | c :: cs,u :: us=>zhb c u.1 u.2++zxl cs us
 | _,_=>[]
def zmd (w:World):List Cod→(Nat→Prop)→List (Value × Value)→Prop
 | [],_,us=>us=[]
 | c :: cs,S,us=>∃ u us',us=u :: us'∧zQh w c S u.1 u.2∧zmd w cs S us'
def zUe (w:World) (cs:List Cod) (S:Nat→Prop) (v:Value):Prop :=
 ∃ us,w.ownsRow 0 47 3 v cs.length (zxl cs us)∧(∀ g,v.ownBlock=some g→S g)∧zmd w cs (fun b=>S b∧v.ownBlock≠some b) us
theorem zQh.keep {w w':World} {c:Cod} {S S':Nat→Prop} {p l:Value} (h:zQh w c S p l) (hk:∀ b,S b→b<w.heap.size→S' b∧w'.heap[b]?=w.heap[b]?):zQh w' c S' p l:=⟨h.1.keep hk,h.2.keep hk⟩
theorem zQh.one {w:World} {c:Cod} {S:Nat→Prop} {p l:Value} (h:zQh w c S p l):∀ u∈zhb c p l,u.oneCell'=true:=by
 obtain ⟨_,_,rfl⟩:=h.1.slice
 obtain ⟨_,_,rfl⟩:=h.2.slice
 intro u hu
 simp only [zhb,List.mem_cons,List.not_mem_nil,or_false] at hu
 rcases hu with rfl|rfl|rfl<;>rfl
theorem zmd.keep {w w':World}:∀ (cs:List Cod) {S S':Nat→Prop} {us:List (Value × Value)},zmd w cs S us→(∀ b,S b→b<w.heap.size→S' b∧w'.heap[b]?=w.heap[b]?)→zmd w' cs S' us
 | [],_,_,_,h,_=>h
 | c :: cs,S,S',us,h,hk=>by
  obtain ⟨u,us',e,ha,hs⟩:=h
  exact ⟨u,us',e,ha.keep hk,zmd.keep cs hs hk⟩
theorem zUe.keep {w w':World} {cs:List Cod} {S S':Nat→Prop} {v:Value} (h:zUe w cs S v) (hk:∀ b,S b→b<w.heap.size→S' b∧w'.heap[b]?=w.heap[b]?):zUe w' cs S' v:=by
 obtain ⟨us,ho,hS,ha⟩:=h
 exact ⟨us,znd ho fun g hg=>(hk g (hS g hg) (ho.lt g hg).2).2,fun g hg=>(hk g (hS g hg) (ho.lt g hg).2).1,zmd.keep cs ha fun b hb hl=>⟨⟨(hk b hb.1 hl).1,hb.2⟩,(hk b hb.1 hl).2⟩⟩
theorem zUe.below {w w':World} {cs:List Cod} {S:Nat→Prop} {v:Value} (h:zUe w cs S v) (hk:Below w.heap.size w w'):zUe w' cs S v:=h.keep fun b hb hl=>⟨hb,hk.block b hl⟩
theorem zUe.drew {w:World} {cs:List Cod} {S:Nat→Prop} {v:Value} (h:zUe w cs S v):zUe w.drew cs S v:=h.keep fun _ hb _=>⟨hb,rfl⟩
theorem zUe.nil (w:World) (S:Nat→Prop):zUe w [] S (.slice none 0 0):=⟨[],World.ownsRow_nil _ _ _ _,(fun g h=>by simp [Value.ownBlock] at h),rfl⟩
theorem zmd.length {w:World}:∀ {cs:List Cod} {S:Nat→Prop} {us:List (Value × Value)},zmd w cs S us→us.length=cs.length
 | [],_,_,h=>by rw [show _=[] from h];rfl
 | c :: cs,_,_,h=>by obtain ⟨u,us',rfl,_,h'⟩:=h;simp [zmd.length h']
theorem zmd.snoc {w:World}:∀ {cs:List Cod} {c:Cod} {S:Nat→Prop} {us:List (Value × Value)} {u:Value × Value},zmd w cs S us→zQh w c S u.1 u.2→zmd w (cs++[c]) S (us++[u])
 | [],c,_,us,u,h,h'=>by rw [show us=[] from h];exact ⟨u,[],rfl,h',rfl⟩
 | a :: cs,c,_,_,u,h,h'=>by
  obtain ⟨v,us',rfl,ha,hs⟩:=h
  exact ⟨v,us'++[u],rfl,ha,zmd.snoc hs h'⟩
theorem zMj:∀ (cs:List Cod) (us:List (Value × Value)) (k:Nat) (c:Cod) (u:Value × Value) (j:Nat),cs[k]?=some c→us[k]?=some u→j<3→(zxl cs us)[k * 3+j]?=(zhb c u.1 u.2)[j]?
 | [],_,k,t,u,j,h,_,_=>by simp at h
 | _ :: _,[],k,t,u,j,_,h,_=>by simp at h
 | a :: ks,b :: vs,0,t,u,j,h,h',hj=>by
  obtain rfl:a=t:=by simpa using h
  obtain rfl:b=u:=by simpa using h'
  rw [zxl,Nat.zero_mul,Nat.zero_add,List.getElem?_append_left (by simpa [zhb] using hj)]
 | a :: ks,b :: vs,k+1,t,u,j,h,h',hj=>by
  rw [zxl,List.getElem?_append_right (by simp [zhb];omega)]
  have e:(k+1) * 3+j-(zhb a b.1 b.2).length=k * 3+j:=by simp [zhb];omega
  rw [e]
  exact zMj ks vs k t u j (by simpa using h) (by simpa using h') hj
theorem zmd.get {w:World}:∀ {cs:List Cod} {S:Nat→Prop} {us:List (Value × Value)},zmd w cs S us→∀ {k:Nat} {c:Cod},cs[k]?=some c→∃ u,us[k]?=some u∧zQh w c S u.1 u.2
 | [],_,_,_,k,t,h=>by simp at h
 | a :: ts,S,vs,h,0,t,hk=>by
  obtain ⟨v,vs',rfl,ht,_⟩:=h
  obtain rfl:a=t:=by simpa using hk
  exact ⟨v,rfl,ht⟩
 | a :: ts,S,vs,h,k+1,t,hk=>by
  obtain ⟨v,vs',rfl,_,hts⟩:=h
  obtain ⟨u,hu,ht⟩:=zmd.get hts (k:=k) (c:=t) (by simpa using hk)
  exact ⟨u,by simpa using hu,ht⟩
theorem zUe.slice {w:World} {cs:List Cod} {S:Nat→Prop} {v:Value} (h:zUe w cs S v):∃ a c,v=.slice a cs.length c:=by
 obtain ⟨_,ho,_⟩:=h
 rcases ho.2 with ⟨rfl,h0⟩|⟨g,cap,_,rfl,_⟩
 ·exact ⟨_,_,by rw [h0]⟩
 ·exact ⟨_,_,rfl⟩
theorem zUe.form {w:World} {cs:List Cod} {S:Nat→Prop} {v:Value} (h:zUe w cs S v):(v=.slice none 0 0∧cs=[])∨∃ g cap,v=.slice (some ⟨g,0,none⟩) cs.length cap∧(S g∧g<w.heap.size)∧cs.length≤cap∧cap≤maxLen ∧
  ∀ k c,cs[k]?=some c→∃ p l,w.rangeAt g (k * 3) (zhb c p l)∧zQh w c S p l:=by
 obtain ⟨us,ho,hS,hts⟩:=h
 have ho':=ho
 rcases ho.2 with ⟨rfl,h0⟩|⟨g,cap,cur,rfl,hb,hg,hnc,hcm,hcs,htake⟩
 ·exact .inl ⟨rfl,List.eq_nil_of_length_eq_zero h0⟩
 ·refine .inr ⟨g,cap,rfl,⟨hS g rfl,(Array.getElem?_eq_some_iff.1 hg).1⟩,hnc,hcm,fun k c hk=>?_⟩
  obtain ⟨u,hu,ht⟩:=hts.get hk
  refine ⟨u.1,u.2,fun j x hj=>?_,ht.keep fun b hb hl=>⟨hb.1,rfl⟩⟩
  have hj5:j<3:=by have:=(List.getElem?_eq_some_iff.1 hj).1;simpa [zhb] using this
  have hlt:k<cs.length:=(List.getElem?_eq_some_iff.1 hk).1
  rw [ho'.cellAt (k * 3+j) (by omega),zMj cs us k c u j hk hu hj5]
  exact hj
def keyL (s:ByteArray):Lit:=.string s.data.toList
def MapAt (w:World) (b:Nat) (cs:List Cod):Prop :=
 ∃ (n:Nat) (D:DataW Unit),w.ownsMap Tryz.prog 9 (plainElem Tryz.prog 3) b n D∧n≤cs.length∧IsMap D∧∀ s:ByteArray,Maps.has D (keyL s)=(zlt cs s).isSome∧∀ k,zlt cs s=some k→D.atKey (keyL s) (.lit (.int .i64 0))=.lit (.int .i64 k)
theorem MapAt.kept {w w':World} {b:Nat} {cs:List Cod} {row:Option Nat} (h:MapAt w b cs) (hg:w.grownBy w' row) (hne:some b≠row):MapAt w' b cs:=by
 obtain ⟨n,D,h1,h2,h3,h4⟩:=h
 exact ⟨n,D,h1.kept hg hne,h2,h3,h4⟩
theorem MapAt.lt {w:World} {b:Nat} {cs:List Cod} (h:MapAt w b cs):b<w.heap.size:=by
 obtain ⟨n,D,h1,_⟩:=h
 exact h1.lt
theorem MapAt.below {w w':World} {b:Nat} {cs:List Cod} (h:MapAt w b cs) (hb:Below w.heap.size w w'):MapAt w' b cs :=
 h.kept (row:=none) ⟨hb.os,hb.tape,hb.output,hb.size,fun k hk _=>hb.block k hk⟩ (by simp)
end
section
open Go.RowKit
theorem zks {t:T} (hw:t.whole) (h6:t.kind=6):∃ xs r b,t.kids=xs++[r,b]∧zjb (·=7) xs∧zYb xs∧(r.kind=8∧r.whole)∧(b.kind=9∧b.whole)∧sizes b.kids+1≤sizes t.kids∧zvd t=⟨t.text,zqd t.kids,zBa 5000 0 b.kids++[zoo b]⟩:=by
 obtain ⟨h1,hws⟩:=zFe.1 hw
 rw [h6] at h1
 generalize hk:t.kids=ks at *
 cases h1 with
 | @fn xs r b _ hx hr h9 =>
  have hsz:sizes (xs++[r,b])=sizes xs+(r.size+(b.size+0)):=by rw [zyc,zoa,zoa,zwa]
  have hbs:b.size=1+sizes b.kids:=by cases b;rw [size_mk];rfl
  have hlast:zTh t=b:=by
   unfold zTh zFa
   rw [hk]
   have h0:(xs++[r,b]).isEmpty=false:=by cases xs<;>rfl
   rw [h0]
   show (xs++[r,b]).getD ((xs++[r,b]).length-1) znb=b
   simp
  refine ⟨xs,r,b,rfl,hx,?_,⟨hr,zMd hws (by simp)⟩,⟨h9,zMd hws (by simp)⟩,by omega,?_⟩
  ·clear hk hx hsz hlast
   induction xs with
   | nil=>exact ztc
   | cons a l ih=>rw [List.cons_append] at hws;exact zHa.2 ⟨(zHa.1 hws).1,ih (zHa.1 hws).2⟩
  ·unfold zvd
   rw [h6,hlast,hk]
   rfl
 | unit e|type e|none e|one e|two e|param e|block e|set e|cond e|loop e|call1 e|load e|call e|leaf e=>omega
theorem zPr {t:T} (hw:t.whole) (h6:t.kind=6) (hs:t.size≤5000):(zvd t).list.length=t.count+1:=by
 obtain ⟨xs,r,b,he,hx,hwx,hr,hb,hsz,hl⟩:=zks hw h6
 have hts:t.size=1+sizes t.kids:=by cases t;rw [size_mk];rfl
 have hbk:=zOb hb.2 hb.1
 rw [hl,count_eq,h6,he,zWg,zdb,zdb,zAb,zdh hwx hx,zmg hr.2 (by omega),count_eq b,hb.1,zid (k:=6) (by omega),zid (k:=9) (by omega)]
 show (zBa 5000 0 b.kids++[zoo b]).length=_
 rw [List.length_append,zmb 5000 b.kids (by omega) hbk.1 hbk.2 0]
 simp
end
end Go.Proofs.YthdbmgijpelecaaGreatDoor
