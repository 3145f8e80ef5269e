/- The contract of code.Lower on a whole tree. The fields of a code's value, and a list of instructions as a row in memory. Nothing of the program is walked here. The contract of lychgatelaw07.wakes in a world that holds the tables of lex: it returns true, and changes nothing that was in memory. A region that draws its order, all of whose operations leave a condition S as it is: where one operation alone may come up, it is walked. Nothing of the program is walked here. From the walk of a law of two arguments (two texts; a text and a number) to what its row asks of a call. -/
import Derived.Test.YthdbmgijpelecaaGreatDoorM18
import Derived.Test.YthdbmgijpelecaaGreatDoorM12
import Derived.Test.YthdbmgijpelecaaGreatDoorM03
import Derived.Test.YthdbmgijpelecaaGreatDoorM02
namespace Go.Proofs.YthdbmgijpelecaaGreatDoor
set_option maxRecDepth 100000
set_option maxHeartbeats 2000000
section
open Go.RowKit
def zzq (c:Cod) (pv lv:Value):Value:=.agg #[.string c.name,pv,lv]
def zhb (c:Cod) (pv lv:Value):List Value:=[.string c.name,pv,lv]
theorem Tryz.zCf:(Tryz.prog.info? 47).map (·.size)=some 3:=by kernel_rfl
def strCells (ss:List ByteArray):List Value:=ss.map Value.string
def zXb (w:World) (ss:List ByteArray) (S:Nat→Prop) (v:Value):Prop:=w.ownsRow 0 9 1 v ss.length (strCells ss)∧∀ g,v.ownBlock=some g→S g
def zQh (w:World) (c:Cod) (S:Nat→Prop) (pv lv:Value):Prop:=zXb w c.params S pv∧zGb w c.list S lv
def zzi (w:World) (c:Cod) (e:Ending) (w':World):Prop:=∃ pv lv,e=.returned (zzq c pv lv)∧zQh w' c (fun b=>w.heap.size≤b) pv lv∧Below w.heap.size w w'
theorem zXb.nil (w:World) (S:Nat→Prop):zXb w [] S (.slice none 0 0):=⟨World.ownsRow_nil _ _ _ _,fun g h=>by simp [Value.ownBlock] at h⟩
theorem zXb.keep {w w':World} {ss:List ByteArray} {S S':Nat→Prop} {v:Value} (h:zXb w ss S v) (hk:∀ b,S b→b<w.heap.size→S' b∧w'.heap[b]?=w.heap[b]?):zXb w' ss S' v :=
 ⟨znd h.1 fun g hg=>(hk g (h.2 g hg) (h.1.lt g hg).2).2,fun g hg=>(hk g (h.2 g hg) (h.1.lt g hg).2).1⟩
theorem zXb.below {w w':World} {ss:List ByteArray} {S:Nat→Prop} {v:Value} (h:zXb w ss S v) (hk:Below w.heap.size w w'):zXb w' ss S v:=h.keep fun b hb hl=>⟨hb,hk.block b hl⟩
theorem zXb.alloc {w:World} {ss:List ByteArray} {S:Nat→Prop} {v:Value} (h:zXb w ss S v) (o:Obj):zXb (w.alloc o) ss S v:=h.keep fun b hb hl=>⟨hb,Below.heap_alloc w o b hl⟩
theorem zXb.setCell {w:World} {ss:List ByteArray} {S:Nat→Prop} {v:Value} (h:zXb w ss S v) (a:Addr) (x:Value) (hS:∀ b,S b→b≠a.block):zXb (w.setCell a x) ss S v:=h.keep fun b hb _=>⟨hb,Below.heap_setCell w a x b (hS b hb)⟩
theorem zXb.slice {w:World} {ss:List ByteArray} {S:Nat→Prop} {v:Value} (h:zXb w ss S v):∃ a c,v=.slice a ss.length c:=by
 rcases h.1.2 with ⟨rfl,h0⟩|⟨g,cap,_,rfl,_⟩
 ·exact ⟨_,_,by rw [h0]⟩
 ·exact ⟨_,_,rfl⟩
theorem Tryz.zwo:∃ i z,zAe Tryz.prog 44 9 1 16 i z:=by
 have h:(Tryz.prog.info? 9).map (fun i=>(i.zero,i.size,i.bytes))=some (some (.string ⟨#[]⟩),1,16):=by kernel_rfl
 obtain ⟨i0,hi,hz0,hz1,hz2⟩:=info_parts h
 exact ⟨i0,_,Tryz.underlying44,hi,hz0,hz1,hz2,rfl⟩
theorem zkh {P:Program} {w:World} {ops:Array Oper} {rest:List Oper} {o:Oper} {a:Act} {Q:Exit→Act→World→Prop} (hgd:o.guard=none) (s x:Operand) {t:TypeId} (ho:o.op=.call { callee:=.builtin .append,args:=#[s,x],argTypes:=#[t,t] })
  {i:TypeInfo} {z:Value} {by':Nat} (I:zAe P t 9 1 by' i z) (hby:by'≤1000) {ss:List ByteArray} {u:ByteArray} {S:Nat→Prop} {v:Value} (hs:a.eval s=v) (hk:zXb w ss S v) (hS:S w.heap.size) {ad:Addr} {c:Nat} (hx:a.eval x=.slice (some ad) 1 c) (hnew:w.cell? (ad.add 0)=some (.string u))
  (hb:ss.length+1≤100000)
  (h:∀ v' w',zXb w' (ss++[u]) S v'→w.grownBy w' v.ownBlock→wpList P ops Q rest (a.put o.dst v') w'):wpList P ops Q (o :: rest) a w:=by
 obtain ⟨hown,hSv⟩:=hk
 have hbb:(ss.length+1) * by'≤140737488355328:=Nat.le_trans (Nat.mul_le_mul hb hby) (by omega)
 have hnews:∀ j y,([Value.string u]:List Value)[j]?=some y→w.cell? (ad.add j)=some y:=fun j y hj=>by
  cases j with
  | zero=>simp at hj;subst hj;exact hnew
  | succ j=>simp at hj
 have h1:∀ y∈([Value.string u]:List Value),y.oneCell'=true:=fun y hy=>by simp at hy;subst hy;rfl
 obtain ⟨v',w',hr,ho',hg',_⟩:=run_append_own (P:=P) w 0 t o.type 9 i z 1 by' I.ht I.hi I.hz I.size I.bytes I.zs (by decide) v ss.length (strCells ss) hown ad 1 c [Value.string u] rfl hnews h1 (by unfold maxLen;omega) hbb (Nat.zero_le _)
 have hbk:=zZd (ty:=o.type) I.ht I.hi I.hz I.size I.bytes hown (by omega) (by rfl) hnews h1 (by unfold maxLen;omega) hbb hr
 refine wpList_plain hgd fun _ hK=>?_
 unfold Oper.wp execOp
 simp only [ho,resolve,invoke,builtin,Sem.run_bind,Sem.run_pure,Result.andThen_ok,List.map_toArray,List.map_cons,List.map_nil,hs,hx]
 rw [hr]
 refine hK _ _ (h v' w' ⟨?_,?_⟩ hg')
 ·rw [List.length_append]
  show w'.ownsRow 0 _ 1 v' (ss.length+1) (strCells (ss++[u]))
  unfold strCells
  rw [List.map_append]
  exact ho'
 ·intro g hg
  rcases hbk with h|h
  ·exact hSv g (h▸hg)
  ·rw [h] at hg;cases hg;exact hS
theorem zIh (ks:List T) (t:T):zqd (ks++[t])=zqd ks++(bif t.kind == 7 then [t.text] else []):=by
 unfold zqd
 rw [List.filter_append,List.map_append]
 congr 1
 cases h:(t.kind == 7) with
 | true=>simp [List.filter,h]
 | false=>simp [List.filter,h]
theorem zim (ks:List T):(zqd ks).length≤ks.length:=by
 unfold zqd
 rw [List.length_map]
 exact List.length_filter_le _ _
theorem zZq {w:World} {t:T} {S:Nat→Prop} {kv:Value} {i:Int} {n:Nat} (hi:i=(n:Int)) (hk:KAt 25 w t.kids S kv) :
  Calls Tryz.prog 43 #[zma t kv,.int .i64 i] w (zMi w (zFa t n) S):=by
 subst hi
 exact zmc hk n
structure zGk (w:World) (nc:List Value) (tx:ByteArray) (ps:List ByteArray) (pv:Value) (W:World):Prop where
 n:Blk W w.heap.size nc 25
 r:Blk W (w.heap.size+1) (zhb zFk (.slice none 0 0) (.slice none 0 0)) 47
 c:Blk W (w.heap.size+1+1) [.string tx,pv,.slice none 0 0] 47
 s:zXb W ps (fun b=>w.heap.size+1+1<b) pv
 b:Below w.heap.size w W
theorem zGk.alloc {w:World} {nc:List Value} {tx:ByteArray} {ps:List ByteArray} {pv:Value} {W:World} (h:zGk w nc tx ps pv W) (o:Obj):zGk w nc tx ps pv (W.alloc o):=⟨h.n.alloc _,h.r.alloc _,h.c.alloc _,h.s.alloc _,h.b.alloc h.b.size _⟩
theorem zGk.below {w:World} {nc:List Value} {tx:ByteArray} {ps:List ByteArray} {pv:Value} {W W':World} (h:zGk w nc tx ps pv W) (hb:Below W.heap.size W W'):zGk w nc tx ps pv W':=⟨h.n.stays hb,h.r.stays hb,h.c.stays hb,h.s.below hb,h.b.trans (hb.mono h.b.size)⟩
theorem zGk.put {w:World} {nc:List Value} {tx:ByteArray} {ps ps':List ByteArray} {pv pv':Value} {W W':World} (h:zGk w nc tx ps pv W) (hg:W.grownBy W' pv.ownBlock) (hs:zXb W' ps' (fun b=>w.heap.size+1+1<b) pv'):zGk w nc tx ps' pv' (W'.setCell ⟨w.heap.size+1+1,1,none⟩ pv'):=by
 have hne:∀ k,k≤w.heap.size+1+1→some k≠pv.ownBlock:=fun k hk e=>by have:=h.s.2 k e.symm;omega
 have hb:Below w.heap.size w W':=⟨hg.os.trans h.b.os,hg.tape.trans h.b.tape,hg.output.trans h.b.output,Nat.le_trans h.b.size hg.size,fun k hk=>(hg.block k (Nat.lt_of_lt_of_le hk h.b.size) (hne k (by omega))).trans (h.b.block k hk)⟩
 exact ⟨(h.n.grown hg (hne _ (by omega))).setOther _ _ (by show w.heap.size≠w.heap.size+1+1;omega),(h.r.grown hg (hne _ (by omega))).setOther _ _ (by show w.heap.size+1≠w.heap.size+1+1;omega),
  (h.c.grown hg (hne _ (Nat.le_refl _))).zxa 1 pv',hs.setCell _ _ (fun b hb=>by show b≠w.heap.size+1+1;omega),hb.setCell (by show w.heap.size≤w.heap.size+1+1;omega) _⟩
theorem zGk.lay {w:World} {nc:List Value} {tx:ByteArray} {ps:List ByteArray} {pv:Value} {W W':World} {lb:Nat} {is:List Ins} {V:Value} (h:zGk w nc tx ps pv W) (hL:Lay lb W (.slice none 0 0) is W' V) (hlb:w.heap.size+1+1<lb) (hpv:pv.ownBlock≠some lb):zGk w nc tx ps pv W':=by
 have hno:∀ k:Nat,(Value.slice none 0 0).ownBlock≠some k:=fun k e=>by simp [Value.ownBlock] at e
 refine ⟨hL.stays h.n (by omega) (hno _),hL.stays h.r (by omega) (hno _),hL.stays h.c (by omega) (hno _),?_,⟨hL.kp.os.trans h.b.os,hL.kp.tape.trans h.b.tape,hL.kp.output.trans h.b.output,Nat.le_trans h.b.size hL.kp.size,fun k hk=>(hL.kp.block k (Nat.lt_of_lt_of_le hk h.b.size) (by omega) (hno _)).trans (h.b.block k hk)⟩⟩
 refine ⟨znd h.s.1 fun g hg=>hL.kp.block g (h.s.1.lt g hg).2 (fun e=>hpv (by rw [hg,e])) (hno _),h.s.2⟩
theorem zGk.done {w:World} {nc:List Value} {tx:ByteArray} {ps:List ByteArray} {pv:Value} {W:World} {lb:Nat} {is:List Ins} {V:Value} (h:zGk w nc tx ps pv W) (hI:zGb W is (fun b=>lb<b) V) (hlb:w.heap.size+1+1<lb) (cs:Array Value) :
  zQh ((W.setCell ⟨w.heap.size+1+1,2,none⟩ V).setRow (w.heap.size+1) cs) ⟨tx,ps,is⟩ (fun b=>w.heap.size≤b) pv V∧Below w.heap.size w ((W.setCell ⟨w.heap.size+1+1,2,none⟩ V).setRow (w.heap.size+1) cs):=by
 have hk:∀ b,w.heap.size+1+1<b→((W.setCell ⟨w.heap.size+1+1,2,none⟩ V).setRow (w.heap.size+1) cs).heap[b]?=W.heap[b]?:=fun b hb=>(setRow_other _ _ _ _ (by omega)).trans (Below.heap_setCell _ _ _ _ (by show b≠w.heap.size+1+1;omega))
 exact ⟨⟨h.s.keep fun b hb _=>⟨by omega,hk b hb⟩,hI.keep fun b hb _=>⟨by omega,hk b (by omega)⟩⟩,Below.row (h.b.setCell (by show w.heap.size≤w.heap.size+1+1;omega) _) (by omega) _⟩
def zau (w:World) (nc:List Value) (tx:ByteArray) (ks:List T) (g:Nat) (i:Value) (wr:World):Prop :=
 ∃ (k:Nat) (pv:Value),k≤ks.length∧ks.length≤k+g∧i=.int .i64 k∧zGk w nc tx (zqd (ks.take k)) pv wr
theorem zIp (w:World) (t:T) (kv:Value) (h6:(t.kind == 6)=false) :
  Calls Tryz.prog 22 #[zma t kv] w (zzi w (zvd t)):=by
 have hl:zvd t=zFk:=by unfold zvd;rw [h6];rfl
 rw [hl]
 have h6':(t.kind != 6)=true:=by simp at h6 ⊢;exact h6
 have HE:=zh (show Below w.heap.size w ((w.alloc (.cells (zaa t kv).toArray 25)).alloc (.cells (zhb zFk (.slice none 0 0) (.slice none 0 0)).toArray 47)) from ((Below.refl _ _).alloc (Nat.le_refl _) _).alloc (by simp) _)
 have HR:=zh (Blk.zpc w (.cells (zaa t kv).toArray 25) (zhb zFk (.slice none 0 0) (.slice none 0 0)) 47)
 clear hl
 unfold zma
 go_enter Tryz.func22,Tryz.ntmps22
 go_wp2_with fail
 exact bodyPost_ret (zFd (cs:=zhb zFk (.slice none 0 0) (.slice none 0 0)) Tryz.results22 rfl HR.out Tryz.underlying47 rfl Tryz.zCf) rfl ⟨_,_,rfl,⟨zXb.nil _ _,zGb.nil _ _⟩,HE.out⟩
theorem zWq {w:World} {tx:ByteArray} {nm:Int} {p:Nat} {ks:List T} {S:Nat→Prop} {kv:Value} (hk:KAt 25 w ks S kv) (hw:(T.mk 6 tx nm p ks).whole) (hs:sizes ks≤4990) :
  Calls Tryz.prog 22 #[zma (.mk 6 tx nm p ks) kv] w (zzi w (zvd (.mk 6 tx nm p ks))):=by
 have hkl:=zMc ks
 rcases hk.form with ⟨rfl,hnil⟩|⟨g,cap,rfl,hg,hcap,hcm,_⟩
 ·exfalso
  have h1:=(zOd.1 hw).1
  rw [hnil] at h1
  generalize hz:([]:List T)=l at h1
  cases h1 with
  | fn _ _ _ _=>exact absurd (congrArg List.length hz) (by simp)
  | unit e|type e|none e|one e|two e|param e|block e|set e|cond e|loop e|call1 e|load e|call e|leaf e=>omega
 ·have HK0:=zh (hk.mono (S':=fun b=>b<w.heap.size) fun b _ hl=>hl)
  have HGET:Hid (∀ W:World,KAt 25 W ks (fun b=>b<w.heap.size) (.slice (some ⟨g,0,none⟩) ks.length cap)→∀ (k:Nat) (t:T),ks[k]?=some t→∃ u,W.rangeAt g (k * 5) (zaa t u)∧TAt 25 W t (fun b=>b<w.heap.size) u):=zh (by
   intro W hK k t hk
   rcases hK.form with ⟨h1,_⟩|⟨g',cap',h1,_,_,_,hget⟩
   ·cases h1
   ·cases h1
    exact hget k t hk)
  have HCAP:=zh hcap
  have HS:=zh hs
  have HKL:=zh hkl
  obtain ⟨tb,hlast,hb9,hlen2⟩:∃ tb,zFa (.mk 6 tx nm p ks) (ks.length-1)=tb∧(tb.kind=9∧tb.whole∧sizes tb.kids+1≤sizes ks)∧2≤ks.length:=by
   obtain ⟨h1,hws⟩:=zOd.1 hw
   cases h1 with
   | @fn xs r b _ _ _ h9 =>
    have hsz:sizes (xs++[r,b])=sizes xs+(r.size+(b.size+0)):=by rw [zyc,zoa,zoa,zwa]
    have hbs:b.size=1+sizes b.kids:=by cases b;rw [size_mk];rfl
    refine ⟨b,?_,⟨h9,zMd hws (by simp),by omega⟩,by simp⟩
    rw [zUl (by show (xs++[r,b]).length-1<(xs++[r,b]).length;simp)]
    show (xs++[r,b])[(xs++[r,b]).length-1]=b
    simp
   | unit e|type e|none e|one e|two e|param e|block e|set e|cond e|loop e|call1 e|load e|call e|leaf e=>omega
  have HLAST:=zh hlast
  have HB9:=zh hb9
  have HLEN2:=zh hlen2
  have HW:=zh hw
  clear hlast hb9 hlen2
  obtain ⟨nc,hnc⟩:∃ nc,nc=zaa (.mk 6 tx nm p ks) (.slice (some ⟨g,0,none⟩) ks.length cap):=⟨_,rfl⟩
  have HNC:=zh hnc
  have HST:Hid (zau w nc tx ks ks.length (.int .i64 0) (((w.alloc (.cells (zaa (.mk 6 tx nm p ks) (.slice (some ⟨g,0,none⟩) ks.length cap)).toArray 25)).alloc (.cells (zhb zFk (.slice none 0 0) (.slice none 0 0)).toArray 47)).alloc (.cells [.string tx,.slice none 0 0,.slice none 0 0].toArray 47))):=zh (by
   refine ⟨0,.slice none 0 0,by omega,by omega,rfl,?_,?_,?_,zXb.nil _ _,?_⟩
   ·rw [hnc];exact ((Blk.new w _ _).alloc _).alloc _
   ·exact (Blk.zpc w _ _ _).alloc _
   ·have h:=Blk.zpc (w.alloc (.cells (zaa (.mk 6 tx nm p ks) (.slice (some ⟨g,0,none⟩) ks.length cap)).toArray 25)) (.cells (zhb zFk (.slice none 0 0) (.slice none 0 0)).toArray 47) [.string tx,.slice none 0 0,.slice none 0 0] 47
    rw [show (w.alloc (.cells (zaa (.mk 6 tx nm p ks) (.slice (some ⟨g,0,none⟩) ks.length cap)).toArray 25)).heap.size=w.heap.size+1 by simp] at h
    exact h
   ·exact (((Below.refl _ _).alloc (Nat.le_refl _) _).alloc (by simp) _).alloc (by simp;omega) _)
  clear hk hcap hw hs hkl hnc hg
  unfold maxLen at hcm
  obtain ⟨i0,z0,I⟩:=Tryz.zwo
  unfold zma
  simp only [zRa,zXa,zBb,zJa]
  go_enter Tryz.func22,Tryz.ntmps22
  go_wp2_with fail
  go_loopg [18] ks.length (fun gh i wr=>zau w nc tx ks gh i wr)
  case atStart=>exact HST.out
  case round =>
   obtain ⟨k,pv,hk,hgk,rfl,hP⟩:=hrel
   clear HST
   have hzw:=hP.c.lt
   have HP:=zh hP
   obtain ⟨pa,pn,pc,rfl⟩:∃ a n c,pv=.slice a n c:=by obtain ⟨a,c,h⟩:=hP.s.slice;exact ⟨a,_,c,h⟩
   by_cases hlt:k<ks.length
   ·have hne:=List.getElem?_eq_getElem hlt
    obtain ⟨u,hr,hT⟩:=HGET.out wr (HK0.out.keep fun b hb hl=>⟨hb,hP.b.block b hb⟩) k ks[k] hne
    have htk:ks.take (k+1)=ks.take k++[ks[k]]:=List.take_succ_eq_append_getElem hlt
    generalize ks[k]=tk at hr hT hne htk
    have HTK:=zh htk
    have HOne:=zh hT.kat.one
    have HBY:=zh (show 16≤1000 by omega)
    have hcap:=HCAP.out
    have HPL:=zh (show (zqd (ks.take k)).length≤5000 from by have h1:=zim (ks.take k);have h2:=HKL.out;have h3:=HS.out;simp at h1;omega)
    have hc1:=(hP.c).cell 1
    simp only [List.getElem?_cons_zero,List.getElem?_cons_succ] at hc1
    have hfc:=hP.c.frozen 1
    obtain ⟨kk,kt,kn,kp,kks⟩:=tk
    have HR':=zh (show wr.rangeAt g (k * 5) [.int .i64 kk,.string kt,.int .i64 kn,.int .i64 kp,u] from hr)
    have HPA:=zh (hP.alloc (.cells [.int .i64 kk,.string kt,.int .i64 kn,.int .i64 kp,u].toArray 25))
    have hne1:w.heap.size+1+1≠wr.heap.size:=by omega
    have hne2:w.heap.size+1+1≠wr.heap.size+1:=by omega
    clear hr hT hne htk hP
    by_cases h7:kk=7
    ·subst h7
     go_wp2_with (first
      | ((with_reducible refine zra 25 (.tmp 20) ?_);refine wpList_load_mid rfl 25 (.tmp 20) rfl g (k * 5) rfl [.int .i64 7,.string kt,.int .i64 kn,.int .i64 kp,u] _ HR'.out Tryz.underlying25 rfl Tryz.zha ?_)
      | ((with_reducible refine zla 25 (.tmp 5) ?_);refine zga rfl 25 (.tmp 5) (.tmp 21) rfl [.int .i64 7,.string kt,.int .i64 kn,.int .i64 kp,u] (old:=zba) rfl rfl Tryz.zha rfl (zda (.mk 7 kt kn kp kks) _ HOne.out) ?_)
      | (at_builtin;refine zkh (u:=kt) rfl (.tmp 26) (.tmp 29) rfl I HBY.out rfl (HPA.out.s.alloc (.cells #[.string kt] 9)) ?c2 rfl ?c3 ?c4 ?_))
     case c2=>simp;omega
     case c3=>go_simp
     case c4=>have:=HPL.out;omega
     intro v' w' hs' hg'
     obtain ⟨a',n',c',rfl⟩:∃ a n c,v'=.slice a n c:=by obtain ⟨a,c,h⟩:=hs'.slice;exact ⟨a,_,c,h⟩
     have hne3:some (w.heap.size+1+1)≠(Value.slice pa pn pc).ownBlock:=fun e=>by have:=HP.out.s.2 _ e.symm;omega
     have hcB:=(HPA.out.alloc (.cells #[.string kt] 9)).c.grown hg' hne3
     have hcx:=hcB.cell 1
     simp only [List.getElem?_cons_zero,List.getElem?_cons_succ] at hcx
     have hfx:=hcB.frozen 1
     have HP2:=zh ((HPA.out.alloc (.cells #[.string kt] 9)).put hg' hs')
     clear hs' hg' hcB hc1 hfc hne3
     go_wp2_with fail
     go_roundg (gk-1)
     case measure=>omega
     case rel =>
      refine ⟨k+1,.slice a' n' c',by omega,by omega,by go_num,?_⟩
      rw [HTK.out,zIh]
      exact HP2.out
    ·have h7':(kk == 7)=false:=by simpa using h7
     go_wp2_with (first
      | ((with_reducible refine zra 25 (.tmp 20) ?_);refine wpList_load_mid rfl 25 (.tmp 20) rfl g (k * 5) rfl [.int .i64 kk,.string kt,.int .i64 kn,.int .i64 kp,u] _ HR'.out Tryz.underlying25 rfl Tryz.zha ?_)
      | ((with_reducible refine zla 25 (.tmp 5) ?_);refine zga rfl 25 (.tmp 5) (.tmp 21) rfl [.int .i64 kk,.string kt,.int .i64 kn,.int .i64 kp,u] (old:=zba) rfl rfl Tryz.zha rfl (zda (.mk kk kt kn kp kks) _ HOne.out) ?_))
     go_roundg (gk-1)
     case measure=>omega
     case rel =>
      refine ⟨k+1,.slice pa pn pc,by omega,by omega,by go_num,?_⟩
      rw [HTK.out,zIh]
      show zGk w nc tx (zqd (ks.take k)++(bif kk == 7 then [kt] else [])) _ _
      rw [h7']
      simpa using HPA.out
   ·have hP2:zGk w nc tx (zqd ks) (.slice pa pn pc) wr:=by have:=hP;rwa [List.take_of_length_le (by omega)] at this
    have HP2:=zh hP2
    have HNB:=zh (show Blk wr w.heap.size (zaa (.mk 6 tx nm p ks) (.slice (some ⟨g,0,none⟩) ks.length cap)) 25 by have:=hP2.n;rwa [HNC.out] at this)
    have hn4:=HNB.out.cell 4
    simp only [zaa,List.getElem?_cons_zero,List.getElem?_cons_succ] at hn4
    have hlw:=HNB.out.lt
    clear hP hP2
    go_wp2_with (first
     | ((with_reducible refine zra 25 (.tmp 1) ?_);refine zja rfl 25 (.tmp 1) rfl w.heap.size (zaa (.mk 6 tx nm p ks) (.slice (some ⟨g,0,none⟩) ks.length cap)) rfl HNB.out Tryz.underlying25 rfl Tryz.zha ?_))
    refine (zZq (t:=.mk 6 tx nm p ks) (n:=ks.length-1) (by have:=HKL.out;have:=HS.out;have:=HLEN2.out;unfold wrap64;omega) (S:=fun b=>b<w.heap.size) (HK0.out.keep fun b hb hl=>⟨hb,HP2.out.b.block b hb⟩)).mono ?_
    rintro e w1 ⟨ub,rfl,hub,hb1⟩
    have HP3:=zh (HP2.out.below hb1)
    have hl3:=HP3.out.c.lt
    clear hb1 HP2 HNB hn4 hlw
    rw [HLAST.out] at hub ⊢
    obtain ⟨ba,bn,bc,rfl⟩:=hub.slice
    obtain ⟨w2,hw2,HP4,HLB,HBN,HKB,HZ⟩:∃ w2:World,(w1.alloc (.cells (zaa tb (.slice ba bn bc)).toArray 25)).alloc (.cells #[.slice none 0 0] 110)=w2∧Hid (zGk w nc tx (zqd ks) (.slice pa pn pc) w2)∧Hid (Blk w2 (w1.heap.size+1) [.slice none 0 0] 110)∧Hid (Blk w2 w1.heap.size (zaa tb (.slice ba bn bc)) 25)∧Hid (KAt 25 w2 tb.kids (fun b=>b<w1.heap.size+1) (.slice ba bn bc))∧Hid ((Value.slice pa pn pc).ownBlock≠some (w1.heap.size+1)) :=
     ⟨_,rfl,zh ((HP3.out.alloc _).alloc _),zh (Blk.zpc w1 _ _ _),zh ((Blk.new w1 _ _).alloc _),zh (((hub.alloc _).alloc _).mono fun b hb _=>by omega),zh fun e=>by have:=(HP3.out.s.1.lt _ e).2;omega⟩
    clear hub
    unfold zma
    go_wp2_with fail
    refine zeh w2 hw2 ?_
    clear hw2
    refine (zTk 5000 _ _ _ _ tb _ HLB.out (zGb.nil _ _) HKB.out (zOb HB9.out.2.1 HB9.out.1).1 (zOb HB9.out.2.1 HB9.out.1).2 (by have:=HB9.out.2.2;have:=HS.out;omega) (by have:=HB9.out.2.2;have:=HS.out;simp;omega)).mono ?_
    rintro e w3 ⟨rfl,V3,hl3'⟩
    have HL3:=zh hl3'
    have HBN3:=zh (hl3'.stays HBN.out (by omega) (by simp [Value.ownBlock]))
    have hbn:=HBN3.out.cell 3
    simp only [zaa,List.getElem?_cons_zero,List.getElem?_cons_succ] at hbn
    have hlt3:=HBN3.out.lt
    have HLN:=zh (zmb 5000 tb.kids (by have:=HB9.out.2.2;have:=HS.out;omega) (zOb HB9.out.2.1 HB9.out.1).1 (zOb HB9.out.2.1 HB9.out.1).2 0)
    have HCL:=zh (count_le.counts_le tb.kids)
    clear hl3'
    go_wp2_with fail
    refine (put_any (j:=zoo tb) HL3.out.blk HL3.out.ins (zWa.nil _ _) (by have h1:(zBa 5000 0 tb.kids).length=counts tb.kids:=HLN.out;have:=HCL.out;have:=HB9.out.2.2;have:=HS.out;simp;omega)).mono ?_
    rintro e w4 ⟨rfl,V4,hl4⟩
    have hL4:=HL3.out.trans hl4
    have HI4:=zh hL4.ins
    have HP5:=zh (HP4.out.lay hL4 (by omega) HZ.out)
    obtain ⟨va,vn,vc,rfl⟩:∃ a n c,V4=.slice a n c:=by obtain ⟨a,c,h⟩:=hL4.ins.slice;exact ⟨a,_,c,h⟩
    have hll:=hL4.blk.cell 0
    have hlt4:=hL4.blk.lt
    have hcl:=HP5.out.c.cell 2
    have hfl:=HP5.out.c.frozen 2
    have hlc:=HP5.out.c.lt
    simp only [List.getElem?_cons_zero,List.getElem?_cons_succ] at hll hcl
    have HC6:=zh (show Blk (w4.setCell ⟨w.heap.size+1+1,2,none⟩ (.slice va vn vc)) (w.heap.size+1+1) [.string tx,.slice pa pn pc,.slice va vn vc] 47 from HP5.out.c.zxa 2 _)
    have HR6:=zh (show Blk (w4.setCell ⟨w.heap.size+1+1,2,none⟩ (.slice va vn vc)) (w.heap.size+1) (zhb zFk (.slice none 0 0) (.slice none 0 0)) 47 from HP5.out.r.setOther _ _ (by show w.heap.size+1≠w.heap.size+1+1;omega))
    clear hl4 hL4 hbn
    go_wp2_with (first
     | ((with_reducible refine zra 47 (.tmp 3) ?_);refine zja rfl 47 (.tmp 3) rfl (w.heap.size+1+1) [.string tx,.slice pa pn pc,.slice va vn vc] rfl HC6.out Tryz.underlying47 rfl Tryz.zCf ?_)
     | ((with_reducible refine zla 47 (.tmp 2) ?_);refine zca rfl 47 (.tmp 2) (.tmp 54) rfl (w.heap.size+1) [.string tx,.slice pa pn pc,.slice va vn vc] rfl rfl HR6.out Tryz.zCf rfl (by intro x hx;simp only [List.mem_cons,List.not_mem_nil,or_false] at hx;rcases hx with rfl|rfl|rfl<;>rfl) ?_))
    have hlow:zvd (.mk 6 tx nm p ks)=⟨tx,zqd ks,zBa 5000 0 tb.kids++[zoo tb]⟩:=by
     have hle:zTh (.mk 6 tx nm p ks)=tb:=by
      unfold zTh
      have:((T.mk 6 tx nm p ks).kids.isEmpty)=false:=by
       have:=HLEN2.out
       show ks.isEmpty=false
       cases ks with
       | nil=>simp at this
       | cons a l=>rfl
      rw [this]
      exact HLAST.out
     show (⟨tx,zqd ks,zBa 5000 0 (zTh (.mk 6 tx nm p ks)).kids++[zoo (zTh (.mk 6 tx nm p ks))]⟩:Cod)=_
     rw [hle]
    rw [hlow]
    have hd:=HP5.out.done HI4.out (by omega) [Value.string tx,.slice pa pn pc,.slice va vn vc].toArray
    exact zka (cs:=[.string tx,.slice pa pn pc,.slice va vn vc]) Tryz.results22 rfl HR6.out Tryz.underlying47 rfl Tryz.zCf rfl ⟨_,_,rfl,hd.1,hd.2⟩
theorem zni {w:World} {t:T} {S:Nat→Prop} {kv:Value} (hk:KAt 25 w t.kids S kv) (hw:t.whole) (hs:t.size≤4990) :
  Calls Tryz.prog 22 #[zma t kv] w (zzi w (zvd t)):=by
 cases h6:(t.kind == 6) with
 | false=>exact zIp w t kv h6
 | true =>
  cases t with
  | mk k tx nm p ks =>
   have e:k=6:=by rw [zRa] at h6;simpa using h6
   subst e
   rw [size_mk] at hs
   exact zWq hk hw (by omega)
end
section
open Go.RowKit
theorem zKs (a b c:Value) (w:World):(Instr.field 47 (.agg #[a,b,c]) 2).run Tryz.prog w=.ok c w:=zWd Tryz.underlying47 rfl (zil Tryz.underlying45 rfl) rfl w
theorem zGb.form {w:World} {is:List Ins} {S:Nat→Prop} {v:Value} (h:zGb w is S v):(v=.slice none 0 0∧is=[])∨∃ g cap,v=.slice (some ⟨g,0,none⟩) is.length cap∧g<w.heap.size∧is.length≤cap∧cap≤maxLen ∧
  ∀ k i,is[k]?=some i→∃ u,w.rangeAt g (k * 11) (zea i u)∧zWa w i.args S u:=by
 obtain ⟨vs,ho,hS,hts⟩:=h
 have ho':=ho
 rcases ho.2 with ⟨rfl,h0⟩|⟨g,cap,cur,rfl,hb,hg,hnc,hcm,hcs,htake⟩
 ·exact .inl ⟨rfl,List.eq_nil_of_length_eq_zero h0⟩
 ·refine .inr ⟨g,cap,rfl,(Array.getElem?_eq_some_iff.1 hg).1,hnc,hcm,fun k i hk=>?_⟩
  obtain ⟨u,hu,ht⟩:=hts.get hk
  refine ⟨u,fun j x hj=>?_,ht.mono fun b hb _=>hb.1⟩
  have hj5:j<11:=by have:=(List.getElem?_eq_some_iff.1 hj).1;simpa [zea] using this
  have hlt:k<is.length:=(List.getElem?_eq_some_iff.1 hk).1
  rw [ho'.cellAt (k * 11+j) (by omega),zdg is vs k i u j hk hu hj5]
  exact hj
end
section
open Go.RowKit
def s7:ByteArray:=⟨#[102,110,32,102,40,41,32,123,32,105,102,32,120,32,60,32,49,32,123,32,121,32,61,32,50,59,32,125,32,122,32,61,32,51,59,32,125]⟩
def fn7:T:=.mk 6 (bs [102]) 0 0 [.mk 8 e0 0 7 [],.mk 9 e0 0 7 [.mk 15 (bs [60]) 0 9 [.mk 5 (bs [120]) 0 12 [],.mk 5 e0 1 16 [],.mk 9 e0 0 18 [.mk 10 (bs [121]) 0 20 [.mk 5 e0 2 24 []]],.mk 9 e0 0 9 []],.mk 10 (bs [122]) 0 29 [.mk 5 e0 3 33 []]]]
def tree7:T:=.mk 0 e0 0 0 [fn7]
theorem zum:zFb s7=(tree7,0,0):=by kernel_rfl
def ins7:List Ins:=[⟨10,9,bs [60],e0,⟨bs [120],0⟩,⟨e0,1⟩,[],3,false⟩,⟨0,20,bs [121],e0,⟨e0,2⟩,tm0,[],0,false⟩,⟨11,9,e0,e0,tm0,tm0,[],3,false⟩,⟨0,29,bs [122],e0,⟨e0,3⟩,tm0,[],0,false⟩,⟨14,7,e0,e0,tm0,tm0,[],0,false⟩]
theorem low_7:zvd fn7=⟨bs [102],[],ins7⟩:=by kernel_rfl
theorem zIs:tree7.whole:=by have h:=(zwi s7).2;rw [zum] at h;exact h
theorem zIj (w:World) (ht:Tabs w) :
  Calls Tryz.prog 20 #[] w fun e w'=>e=.returned (.bool true)∧Below w.heap.size w w':=by
 have HT:=zh ht
 go_enter Tryz.func20,Tryz.ntmps20
 go_wp2_with fail
 refine (parse_any s7 w (by unfold maxLen;decide) ht).mono ?_
 rw [zum]
 rintro e w1 ⟨kv,rfl,hk,hb⟩
 have hk1:KAt 25 w1 [fn7] (fun b=>w.heap.size≤b) kv:=hk
 obtain ⟨g1,c1,rfl,hg1,hc1,hm1,hget1⟩:=hk1.some1 (k:=0) rfl
 obtain ⟨u6,r6,hT6⟩:=hget1 0 fn7 rfl
 have HB:=zh hb
 have HO:=zh hk1.one
 have HLW:=zh (zni (w:=w1.alloc (.cells [.int .i64 0,.string e0,.int .i64 0,.int .i64 0,.slice (some ⟨g1,0,none⟩) 1 c1].toArray 25)) (hT6.alloc _).kat (zHa.1 (zFe.1 zIs).2).1 (by decide))
 have hf2:=zKs
 have hlow:=low_7
 clear hk hk1 hb hget1 hT6 ht
 have HR6:=zh (show (w1.alloc (.cells [.int .i64 0,.string e0,.int .i64 0,.int .i64 0,.slice (some ⟨g1,0,none⟩) 1 c1].toArray 25)).rangeAt g1 0 (zaa fn7 u6) from zpa r6 ((Below.refl _ _).alloc (Nat.le_refl _) _) hg1)
 have HB1:=zh (HB.out.alloc HB.out.size (.cells [.int .i64 0,.string e0,.int .i64 0,.int .i64 0,.slice (some ⟨g1,0,none⟩) 1 c1].toArray 25))
 unfold zma
 go_wp2_with (first
  | ((with_reducible refine zla 25 (.tmp 1) ?_);refine zga rfl 25 (.tmp 1) (.tmp 7) rfl [.int .i64 0,.string e0,.int .i64 0,.int .i64 0,.slice (some ⟨g1,0,none⟩) 1 c1] (old:=zba) rfl rfl Tryz.zha rfl (zda tree7 _ rfl) ?_)
  | ((with_reducible refine zra 25 (.tmp 20) ?_);refine wpList_load_mid rfl 25 (.tmp 20) rfl g1 0 rfl (zaa fn7 u6) _ HR6.out Tryz.underlying25 rfl Tryz.zha ?_))
 refine HLW.out.mono ?_
 rintro e w2 ⟨pv,lv,rfl,hc,hb2⟩
 rw [hlow] at hc
 have HB2:=zh (HB1.out.trans (hb2.mono HB1.out.size))
 rcases hc.2.form with ⟨_,hnil⟩|⟨g,cap,rfl,hg,hcap,hcm,hget⟩
 ·exact absurd hnil (by unfold ins7;simp)
 obtain ⟨ua,ra,_⟩:=hget 0 _ rfl
 obtain ⟨uc,rc,_⟩:=hget 2 _ rfl
 obtain ⟨ud,rd,_⟩:=hget 3 _ rfl
 obtain ⟨ue,re,_⟩:=hget 4 _ rfl
 have m0:w2.cell? ⟨g,0,none⟩=some (.int .i64 10):=ra 0 _ rfl
 have m1:w2.cell? ⟨g,9,none⟩=some (.int .i64 3):=ra 9 _ rfl
 have m2:w2.cell? ⟨g,22,none⟩=some (.int .i64 11):=rc 0 _ rfl
 have m3:w2.cell? ⟨g,31,none⟩=some (.int .i64 3):=rc 9 _ rfl
 have m4:w2.cell? ⟨g,35,none⟩=some (.string ⟨#[122]⟩):=rd 2 _ rfl
 have m5:w2.cell? ⟨g,44,none⟩=some (.int .i64 14):=re 0 _ rfl
 have hl5:ins7.length=5:=rfl
 have hz2:=hb2.size
 rw [hl5] at hcap ⊢
 clear hget ra rc rd re hc hb2
 unfold zzq
 unfold maxLen at hcm
 go_wp2_with fail
 go_ret
 exact ⟨rfl,HB2.out⟩
end
section
open Go.RowKit
section
variable {P:Program} {ops:Array Oper} {Q:Exit→Act→World→Prop} {md:Region.Mode} {S:World→Prop}
theorem AnyH.only {i:Nat} {o:Oper} {fuel:Nat} {listed:Array Bool} {a:Act} {w:World} (hr:Region.ready md ops listed=[i]) (ho:ops[i]?=some o) (hw:Region.wanted o (yielded ops a.tmps)=true)
  (h:∀ K:Act→World→Prop,Shut (∀ a w,S w→wpAnyH P md ops Q S fuel (listed.setIfInBounds i true) a w→K a w)→o.wp P a w K Q):wpAnyH P md ops Q S (fuel+1) listed a w:=by
 refine ⟨(fun h0=>by rw [hr] at h0;cases h0),fun j hj=>?_⟩
 rw [hr] at hj
 obtain rfl:j=i:=by simpa using hj
 refine wpOp_step ho fun K' hK=>?_
 rw [if_pos hw]
 exact h K' fun a w hS hA=>hK a w ⟨hS,hA⟩
end
end
section
open Go.ChangeShapes Go.WideShapes Go.ChangeAt Go.ChangeMaps Go.RowKit
end
end Go.Proofs.YthdbmgijpelecaaGreatDoor
