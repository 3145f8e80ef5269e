/- How many arguments an instruction has: no more than the tree that it is made of has nodes. Nothing of the program is walked here. -/
import Derived.Test.YthdbmgijpelecaaGreatDoorM36
namespace Go.Proofs.YthdbmgijpelecaaGreatDoor
set_option maxRecDepth 100000
set_option maxHeartbeats 2000000
open Go.RowKit
theorem zOj (t:T) (i:Nat):sizes (zFa t i).kids+1≤t.size:=by
 unfold zFa
 rw [List.getD_eq_getElem?_getD]
 have ht:t.size=1+sizes t.kids:=by cases t;rw [size_mk];rfl
 cases h:t.kids[i]? with
 | none =>
  show sizes znb.kids+1≤t.size
  have:sizes znb.kids=0:=zwa
  omega
 | some u =>
  show sizes u.kids+1≤t.size
  have h1:=zXf h
  have hu:u.size=1+sizes u.kids:=by cases u;rw [size_mk];rfl
  omega
theorem zYl (t:T):(zed t).length≤sizes t.kids:=by unfold zed;rw [List.length_map];exact zMc t.kids
theorem zef {b:Bool} {x y:Ins} {n:Nat} (hx:x.args.length≤n) (hy:y.args.length≤n):(bif b then x else y).args.length≤n:=by cases b<;>assumption
theorem zPp (t:T):(zfd t).args.length≤t.size:=by
 have h:=zYl (zFa t 0)
 have h2:=zOj t 0
 unfold zfd
 exact zef (Nat.zero_le _) (zef (Nat.zero_le _) (zef (Nat.zero_le _) (zef (Nat.zero_le _) (zef (Nat.zero_le _) (zef (Nat.zero_le _) (zef (Nat.zero_le _) (zef (by show (zed (zFa t 0)).length≤_;omega) (Nat.zero_le _))))))))
theorem zol (t:T):∀ i∈(zae t).toList,i.args.length≤t.size:=by
 have h:=zYl (zFa t 0)
 have h2:=zOj t 0
 have h3:=zYl t
 have ht:t.size=1+sizes t.kids:=by cases t;rw [size_mk];rfl
 intro i hi
 unfold zae at hi
 generalize (t.kind == 11)=b1 at hi
 generalize (t.kind == 12)=b2 at hi
 generalize (t.kind == 13)=b3 at hi
 generalize (t.kind == 14)=b4 at hi
 generalize (t.kind == 20)=b5 at hi
 generalize (t.kind == 19)=b6 at hi
 generalize (t.kind == 17)=b7 at hi
 generalize (t.kind == 18)=b8 at hi
 cases b1 with
 | true=>obtain rfl:=List.mem_singleton.1 hi;show (0:Nat)≤_;omega
 | false =>
 cases b2 with
 | true=>obtain rfl:=List.mem_singleton.1 hi;show (0:Nat)≤_;omega
 | false =>
 cases b3 with
 | true=>obtain rfl:=List.mem_singleton.1 hi;show (0:Nat)≤_;omega
 | false =>
 cases b4 with
 | true=>obtain rfl:=List.mem_singleton.1 hi;show (0:Nat)≤_;omega
 | false =>
 cases b5 with
 | true=>obtain rfl:=List.mem_singleton.1 hi;show (zed (zFa t 0)).length≤_;omega
 | false =>
 cases b6 with
 | true=>obtain rfl:=List.mem_singleton.1 hi;show (zed t).length≤_;omega
 | false =>
 cases b7 with
 | true=>obtain rfl:=List.mem_singleton.1 hi;show (0:Nat)≤_;omega
 | false =>
 cases b8 with
 | true=>obtain rfl:=List.mem_singleton.1 hi;show (0:Nat)≤_;omega
 | false=>simp at hi
theorem zjn {blk:Nat→List T→List Ins} (hb:∀ c ks,∀ i∈blk c ks,i.args.length≤sizes ks) (c:Nat) (t:T):∀ i∈zfe blk c t,i.args.length≤t.size:=by
 have k2:=zOj t 2
 have k3:=zOj t 3
 have hw:∀ c n,n=2∨n=3→∀ i∈blk c (zFa t n).kids,i.args.length≤t.size:=fun c n hn i hi=>by
  have:=hb c _ i hi
  rcases hn with rfl|rfl<;>omega
 intro i hi
 unfold zfe at hi
 generalize (t.kind == 15)=b1 at hi
 generalize (t.kind == 16)=b2 at hi
 generalize (t.kind == 10)=b3 at hi
 cases b1 with
 | true =>
  rw [cond_true] at hi
  rcases List.mem_cons.1 hi with rfl|hi
  ·show (0:Nat)≤_;omega
  rcases List.mem_append.1 hi with hi|hi
  ·exact hw _ _ (.inl rfl) i hi
  rcases List.mem_cons.1 hi with rfl|hi
  ·show (0:Nat)≤_;omega
  exact hw _ _ (.inr rfl) i hi
 | false =>
 rw [cond_false] at hi
 cases b2 with
 | true =>
  rw [cond_true] at hi
  rcases List.mem_cons.1 hi with rfl|hi
  ·show (0:Nat)≤_;omega
  rcases List.mem_append.1 hi with hi|hi
  ·exact hw _ _ (.inl rfl) i hi
  obtain rfl:=List.mem_singleton.1 hi
  show (0:Nat)≤_
  omega
 | false =>
 rw [cond_false] at hi
 cases b3 with
 | true=>obtain rfl:=List.mem_singleton.1 hi;exact zPp t
 | false=>exact zol t i hi
theorem zPi {blk:Nat→List T→List Ins} (hb:∀ c ks,∀ i∈blk c ks,i.args.length≤sizes ks):∀ (ks:List T) (c:Nat),∀ i∈zQa blk c ks,i.args.length≤sizes ks
 | [],c,i,hi=>by simp [zQa] at hi
 | t :: ks,c,i,hi=>by
  rw [zQa] at hi
  rw [zoa]
  rcases List.mem_append.1 hi with hi|hi
  ·have:=zjn hb c t i hi;omega
  ·have:=zPi hb ks _ i hi;omega
theorem zOi:∀ (n c:Nat) (ks:List T),∀ i∈zBa n c ks,i.args.length≤sizes ks
 | 0,c,ks,i,hi=>by simp [zBa] at hi
 | n+1,c,ks,i,hi=>zPi (zOi n) ks c i hi
theorem zXk:∀ t:T,t.count≤2 * t.size
 | .mk k s n p ks=>by
  rw [count_eq,size_mk]
  have h:counts ks≤2 * sizes ks:=icounts_le ks
  have h2:zre k≤2:=by
   unfold zre
   cases (k == 15 || k == 16) with
   | true=>exact Nat.le_refl _
   | false =>
    cases (decide (10≤k) && decide (k≤20)) with
    | true=>exact Nat.le_succ _
    | false=>exact Nat.zero_le _
  show zre k+counts ks≤_
  omega
where icounts_le:∀ ks:List T,counts ks≤2 * sizes ks
 | []=>by rw [zAb];omega
 | t :: ts=>by
  rw [zdb,zoa]
  have:=zXk t
  have:=icounts_le ts
  omega
theorem zWl {t:T} (hw:t.whole) (h6:t.kind=6) (hs:t.size≤4096):(∀ i∈(zvd t).list,i.args.length≤1000000)∧(zvd t).params.length≤1000000∧(zvd t).list.length≤1000000:=by
 have hc:=zPr hw h6 (by omega)
 have hcc:=zXk t
 obtain ⟨xs,r,b,hk,hl,_,_,hsz⟩:=zOm hw h6
 have ht:t.size=1+sizes t.kids:=by cases t;rw [size_mk];rfl
 refine ⟨fun i hi=>?_,?_,by omega⟩
 ·rw [hl] at hi
  rcases List.mem_append.1 hi with hi|hi
  ·have:=zOi _ _ _ i hi;omega
  ·obtain rfl:=List.mem_singleton.1 hi
   show (0:Nat)≤_
   omega
 ·rw [hl]
  show (xs.map T.text).length≤_
  have:=zMc t.kids
  rw [hk,List.length_append] at this
  rw [List.length_map]
  rw [hk] at ht
  omega
theorem zWj:∀ x∈zhb zFk (.slice none 0 0) (.slice none 0 0),x.oneCell'=true:=by
 intro x hx
 simp only [zhb,List.mem_cons,List.not_mem_nil,or_false] at hx
 rcases hx with rfl|rfl|rfl<;>rfl
theorem zUk {w:World} {c:Cod} {S:Nat→Prop} {pv lv:Value} (h:zQh w c S pv lv):∀ x∈zhb c pv lv,x.oneCell'=true:=by
 obtain ⟨a,c1,rfl⟩:=h.1.slice
 obtain ⟨b,c2,rfl⟩:=h.2.slice
 intro x hx
 simp only [zhb,List.mem_cons,List.not_mem_nil,or_false] at hx
 rcases hx with rfl|rfl|rfl<;>rfl
theorem zCp {w:World} {k:Int} {x:ByteArray} {n:Int} {p:Nat} {ks:List T} {S:Nat→Prop} {kv:Value} (hk:KAt 25 w ks S kv) (hw:(T.mk k x n p ks).whole) (hs:(T.mk k x n p ks).size≤4990) :
  Calls Tryz.prog 22 #[.agg #[.int .i64 k,.string x,.int .i64 n,.int .i64 p,kv]] w (zzi w (zvd (T.mk k x n p ks))):=zni (t:=T.mk k x n p ks) hk hw hs
theorem zTq {w:World} {t:T} {S:Nat→Prop} {kv:Value} (hk:KAt 25 w t.kids S kv) (hw:t.whole) (hs:t.size≤4990) :
  Calls Tryz.prog 22 #[.agg (zaa t kv).toArray] w (zzi w (zvd t)):=zni hk hw hs
theorem zlo {w:World} {x:ByteArray} {n:Int} {p:Nat} {ks:List T} {S:Nat→Prop} {kv:Value} (hk:KAt 34 w ks S kv) (hw:(T.mk 6 x n p ks).whole) (hs:(T.mk 6 x n p ks).size≤5000) :
  Calls Tryz.prog 23 #[.agg #[.int .i64 6,.string x,.int .i64 n,.int .i64 p,kv]] w (zCk w (zvd (T.mk 6 x n p ks))):=zCn (t:=T.mk 6 x n p ks) hk hw rfl hs
theorem zLn (w:World) (t:T) (kv:Value) (h6:(t.kind == 6)=false) :
  Calls Tryz.prog 22 #[zma t kv] w fun e w'=>e=.returned (zzq zFk (.slice none 0 0) (.slice none 0 0))∧Below w.heap.size w w':=by
 have h6':(t.kind != 6)=true:=by simp at h6 ⊢;exact h6
 have HE:=zh (show Below w.heap.size w ((w.alloc (.cells (zaa t kv).toArray 25)).alloc (.cells (zhb zFk (.slice none 0 0) (.slice none 0 0)).toArray 47)) from ((Below.refl _ _).alloc (Nat.le_refl _) _).alloc (by simp) _)
 have HR:=zh (Blk.zpc w (.cells (zaa t kv).toArray 25) (zhb zFk (.slice none 0 0) (.slice none 0 0)) 47)
 unfold zma
 go_enter Tryz.func22,Tryz.ntmps22
 go_wp2_with fail
 exact bodyPost_ret (zFd (cs:=zhb zFk (.slice none 0 0) (.slice none 0 0)) Tryz.results22 rfl HR.out Tryz.underlying47 rfl Tryz.zCf) rfl ⟨rfl,HE.out⟩
theorem zXo (w:World) (t:T) (kv:Value) (h6:(t.kind == 6)=false) :
  Calls Tryz.prog 22 #[.agg (zaa t kv).toArray] w fun e w'=>e=.returned (zzq zFk (.slice none 0 0) (.slice none 0 0))∧Below w.heap.size w w':=zLn w t kv h6
end Go.Proofs.YthdbmgijpelecaaGreatDoor
