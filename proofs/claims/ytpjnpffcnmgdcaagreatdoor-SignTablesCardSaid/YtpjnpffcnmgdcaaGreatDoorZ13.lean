/- The document's parser (lychgateref02) in memory while it reads (RSt), and the contracts of the functions that look at the next token. What the contracts of functions that build nodes of lychgateref02 share. Nothing of the program is walked here. The contracts of lychgateref02.must, number and name, from a good state and from one that has a fault. The contract of lychgateref02.name: a NAME as a Term. The contract of lychgateref02.more: what may follow a NAME in a term. -/
import Derived.Test.YtpjnpffcnmgdcaaGreatDoorZ04
import Derived.Test.YtpjnpffcnmgdcaaGreatDoorZ12
import Derived.Deep.QuietTactic
import Derived.BigQuiet
import Derived.Test.YtpjnpffcnmgdcaaGreatDoorZ03
import Derived.Test.YtpjnpffcnmgdcaaGreatDoorZ08
namespace Go.Proofs.YtpjnpffcnmgdcaaGreatDoor
set_option maxRecDepth 100000
set_option maxHeartbeats 4000000
section
open Go.RowKit
def zOa (s:ByteArray):Bool:=zSb.contains s.data.toList || zBe s.data.toList || (s.size == 1 && zKc (s.data.toList.getD 0 0))
def zTo (t:Tok):Prop:=zOa t.text=true→t.kind=2∨t.kind=4
structure RSt (E:Env) (w:World) (l:List Tok) (d:Nat) (f:Int) (q:Nat):Prop where
 le:l.length≤E.ts.length
 suf:l=E.ts.drop (E.ts.length-l.length)
 blk:Blk w E.pb [.slice (some ⟨E.tb,0,none⟩) E.ts.length E.cap,.int .i64 ((E.ts.length-l.length:Nat):Int),.int .i64 d,.int .i64 f,.int .i64 q] 90
 row:zGi w E.tb E.ts
 ne:E.tb≠E.pb
 tlt:E.tb<w.heap.size
 ends:Ends l
 ok:∀ t∈E.ts,zbk t
 key:∀ t∈E.ts,zTo t
 len:E.ts.length≤16385
 capb:E.ts.length≤E.cap
 deep:d≤8
section
variable {E:Env} {w w':World} {l:List Tok} {d:Nat} {f:Int} {q:Nat}
theorem RSt.plt (h:RSt E w l d f q):E.pb<w.heap.size:=h.blk.lt
theorem RSt.head (h:RSt E w l d f q):0<l.length∧E.ts[E.ts.length-l.length]?=some (hdT l):=by
 obtain ⟨t,r,rfl⟩:=h.ends.ne
 refine ⟨by simp,?_⟩
 have h1:(E.ts.drop (E.ts.length-(t :: r).length))[0]?=some t:=by rw [← h.suf];rfl
 rw [List.getElem?_drop] at h1
 exact h1
theorem RSt.tok (h:RSt E w l d f q) :
  w.cell? ⟨E.tb,(E.ts.length-l.length) * 4,none⟩=some (.int .i64 (hdT l).kind)∧w.cell? ⟨E.tb,(E.ts.length-l.length) * 4+1,none⟩=some (.string (hdT l).text) ∧
  w.cell? ⟨E.tb,(E.ts.length-l.length) * 4+2,none⟩=some (.int .i64 (hdT l).num)∧w.cell? ⟨E.tb,(E.ts.length-l.length) * 4+3,none⟩=some (.int .i64 (hdT l).place) :=
 h.row _ _ h.head.2
theorem RSt.zTf (h:RSt E w l d f q):zbk (hdT l):=h.ok _ (List.mem_of_getElem? h.head.2)
theorem RSt.zPh (h:RSt E w l d f q):zTo (hdT l):=h.key _ (List.mem_of_getElem? h.head.2)
theorem RSt.same (h:RSt E w l d f q) (hs:w.heap.size≤w'.heap.size) (hp:w'.heap[E.pb]?=w.heap[E.pb]?) (ht:w'.heap[E.tb]?=w.heap[E.tb]?):RSt E w' l d f q :=
 ⟨h.le,h.suf,hp.trans h.blk,h.row.same ht,h.ne,Nat.lt_of_lt_of_le h.tlt hs,h.ends,h.ok,h.key,h.len,h.capb,h.deep⟩
theorem RSt.below (h:RSt E w l d f q) (hb:Below w.heap.size w w'):RSt E w' l d f q:=h.same hb.size (hb.block _ h.plt) (hb.block _ h.tlt)
theorem RSt.alloc (h:RSt E w l d f q) (o:Obj):RSt E (w.alloc o) l d f q:=h.same (by simp) (Below.heap_alloc w o _ h.plt) (Below.heap_alloc w o _ h.tlt)
theorem RSt.zbu (h:RSt E w l d f q) (he:Ends l.tail):RSt E (w.setCell ⟨E.pb,1,none⟩ (.int .i64 (((E.ts.length-l.length:Nat):Int)+1))) l.tail d f q:=by
 have h1:=h.head.1
 have h2:=h.le
 have e1:E.ts.length-l.tail.length=E.ts.length-l.length+1:=by rw [List.length_tail];omega
 refine ⟨by rw [List.length_tail];omega,?_,?_,h.row.same (Below.heap_setCell _ _ _ _ h.ne),h.ne,by simpa [World.setCell] using h.tlt,he,h.ok,h.key,h.len,h.capb,h.deep⟩
 ·rw [e1,← List.drop_drop,← h.suf]
  cases l<;>rfl
 ·have h3:=h.blk.zNa 1 (.int .i64 (((E.ts.length-l.length:Nat):Int)+1))
  rw [e1]
  exact h3
theorem RSt.setF (h:RSt E w l d f q) (f':Int):RSt E (w.setCell ⟨E.pb,3,none⟩ (.int .i64 f')) l d f' q :=
 ⟨h.le,h.suf,h.blk.zNa 3 _,h.row.same (Below.heap_setCell _ _ _ _ h.ne),h.ne,by simpa [World.setCell] using h.tlt,h.ends,h.ok,h.key,h.len,h.capb,h.deep⟩
theorem RSt.setQ (h:RSt E w l d f q) (q':Nat):RSt E (w.setCell ⟨E.pb,4,none⟩ (.int .i64 q')) l d f q' :=
 ⟨h.le,h.suf,h.blk.zNa 4 _,h.row.same (Below.heap_setCell _ _ _ _ h.ne),h.ne,by simpa [World.setCell] using h.tlt,h.ends,h.ok,h.key,h.len,h.capb,h.deep⟩
end
theorem zBg {t:Tok} {s:ByteArray} (hk:zTo t) (hs:zOa s=true) (h:isT t s=true):t.kind=2∨t.kind=4:=by
 have h1:=beq_iff_eq.1 (show (t.text.toList == s.toList)=true from h)
 rw [ByteArray.toList_eq,ByteArray.toList_eq] at h1
 unfold zTo at hk
 rw [zfl h1] at hk
 exact hk hs
theorem zlc {B:Nat} {a w:World} (h:Below B a w) (n:Nat):Below B a (w.drewN n):=⟨h.os,h.tape,h.output,h.size,h.block⟩
theorem zTl {E:Env} {w:World} {l:List Tok} {d:Nat} {f:Int} {q:Nat} (h:RSt E w l d f q) (s:ByteArray) (hs:zOa s=true) :
  Calls Tryz.prog 36 #[.pointer (some ⟨E.pb,0,none⟩),.string s] w fun e w'=>e=.returned (.bool (f == 0 && isT (hdT l) s))∧Below w.heap.size w w':=by
 have c0:w.cell? ⟨E.pb,0,none⟩=some (.slice (some ⟨E.tb,0,none⟩) E.ts.length E.cap):=h.blk.cell 0
 have c1:w.cell? ⟨E.pb,1,none⟩=some (.int .i64 ((E.ts.length-l.length:Nat):Int)):=h.blk.cell 1
 have c3:w.cell? ⟨E.pb,3,none⟩=some (.int .i64 f):=h.blk.cell 3
 obtain ⟨t0,t1,t2,t3⟩:=h.tok
 have hk:E.ts.length-l.length<E.ts.length:=by have:=h.head.1;have:=h.le;omega
 have hlen:=h.len
 have hcap:=h.capb
 have hway:(f == 0)=false∨((f == 0)=true∧(hdT l).kind=2)∨((f == 0)=true∧(hdT l).kind=4)∨((f == 0)=true∧((((hdT l).kind:Int) == 2)=false∧(((hdT l).kind:Int) == 4)=false)∧isT (hdT l) s=false):=by
  cases hf:(f == 0) with
  | false=>exact .inl rfl
  | true =>
   by_cases h2:(hdT l).kind=2
   ·exact .inr (.inl ⟨rfl,h2⟩)
   ·by_cases h4:(hdT l).kind=4
    ·exact .inr (.inr (.inl ⟨rfl,h4⟩))
    ·refine .inr (.inr (.inr ⟨rfl,⟨by simp;omega,by simp;omega⟩,?_⟩))
     cases hi:isT (hdT l) s with
     | false=>rfl
     | true=>rcases zBg h.zPh hs hi with h'|h'<;>omega
 have ix1:(0:Int)≤((E.ts.length-l.length:Nat):Int):=by omega
 have ix2:(((E.ts.length-l.length:Nat):Int))<(E.ts.length:Int):=by omega
 generalize E.ts.length-l.length=k at *
 generalize hT:hdT l=t at *
 clear h hT
 rcases hway with hf|⟨hf,h2⟩|⟨hf,h2⟩|⟨hf,⟨h2,h4⟩,hi⟩
 ·rw [hf]
  go_enter Tryz.func36,Tryz.ntmps36
  go_wp2
  go_quiet (fail)
  go_wp2
  go_quiet (fail)
  go_wp2
  go_ret
  exact ⟨rfl,zlc (zlc (Below.refl _ _) _) _⟩
 ·have e2:((t.kind:Int) == 2)=true:=by rw [h2];rfl
  have HF:=zh hf
  cases hi:(t.text.toList == s.toList) with
  | true =>
   have HI:=zh hi
   go_enter Tryz.func36,Tryz.ntmps36
   go_wp2
   go_quiet (fail)
   go_wp2
   go_quiet (fail)
   go_wp2
   go_ret
   exact ⟨zcc (by unfold isT;rw [HF.out,HI.out];rfl),zlc (zlc (Below.refl _ _) _) _⟩
  | false =>
   have HI:=zh hi
   go_enter Tryz.func36,Tryz.ntmps36
   go_wp2
   go_quiet (fail)
   go_wp2
   go_quiet (fail)
   go_wp2
   go_ret
   exact ⟨zcc (by unfold isT;rw [HF.out,HI.out];rfl),zlc (zlc (Below.refl _ _) _) _⟩
 ·have e2:((t.kind:Int) == 2)=false:=by rw [h2];rfl
  have e4:((t.kind:Int) == 4)=true:=by rw [h2];rfl
  have HF:=zh hf
  cases hi:(t.text.toList == s.toList) with
  | true =>
   have HI:=zh hi
   go_enter Tryz.func36,Tryz.ntmps36
   go_wp2
   go_quiet (fail)
   go_wp2
   go_quiet (fail)
   go_wp2
   go_ret
   exact ⟨zcc (by unfold isT;rw [HF.out,HI.out];rfl),zlc (zlc (Below.refl _ _) _) _⟩
  | false =>
   have HI:=zh hi
   go_enter Tryz.func36,Tryz.ntmps36
   go_wp2
   go_quiet (fail)
   go_wp2
   go_quiet (fail)
   go_wp2
   go_ret
   exact ⟨zcc (by unfold isT;rw [HF.out,HI.out];rfl),zlc (zlc (Below.refl _ _) _) _⟩
 ·have HF:=zh hf
  have HI:=zh hi
  clear hi
  go_enter Tryz.func36,Tryz.ntmps36
  go_wp2
  go_quiet (fail)
  go_wp2
  go_quiet (fail)
  go_wp2
  go_ret
  exact ⟨zcc (by rw [HF.out,HI.out];rfl),zlc (zlc (Below.refl _ _) _) _⟩
theorem zgc {E:Env} {w:World} {l:List Tok} {d:Nat} {f:Int} {q:Nat} (h:RSt E w l d f q) (s:ByteArray) (hs:zOa s=true) (hc:(f == 0 && isT (hdT l) s)=false) :
  Calls Tryz.prog 18 #[.pointer (some ⟨E.pb,0,none⟩),.string s] w fun e w'=>e=.returned (.bool false)∧Below w.heap.size w w':=by
 have HC:=zh hc
 clear hc
 go_enter Tryz.func18,Tryz.ntmps18
 go_wp2_with fail
 refine (zTl h s hs).mono ?_
 rintro e w1 ⟨rfl,hb⟩
 rw [HC.out]
 have HB:=zh hb
 clear hb h
 go_wp2
 go_ret
 exact ⟨rfl,HB.out⟩
theorem zrd {E:Env} {w:World} {l:List Tok} {d:Nat} {q:Nat} (h:RSt E w l d 0 q) (s:ByteArray) (hs:zOa s=true) (hp:0<s.size) (hi:isT (hdT l) s=true) :
  Calls Tryz.prog 18 #[.pointer (some ⟨E.pb,0,none⟩),.string s] w fun e w'=>e=.returned (.bool true)∧RSt E w' l.tail d 0 q∧Kp E.pb w w':=by
 have HI:=zh (show (((0:Int) == 0) && isT (hdT l) s)=true by rw [hi];rfl)
 have HE:=zh (h.ends.zId hi hp)
 have H:=zh h
 have hlen:=h.len
 clear hi
 go_enter Tryz.func18,Tryz.ntmps18
 go_wp2_with fail
 refine (zTl h s hs).mono ?_
 rintro e w1 ⟨rfl,hb⟩
 rw [HI.out]
 have HS:=zh (H.out.below hb)
 have HK:=zh (Kp.of_below (pb:=E.pb) hb)
 clear hb h
 have c1:w1.cell? ⟨E.pb,1,none⟩=some (.int .i64 ((E.ts.length-l.length:Nat):Int)):=HS.out.blk.cell 1
 have cf:=HS.out.blk.frozen 1
 have HN:=zh (HS.out.zbu HE.out)
 have HKN:=zh (HK.out.zeh 1 (.int .i64 (((E.ts.length-l.length:Nat):Int)+1)))
 have hkb:E.ts.length-l.length≤16385:=by omega
 generalize E.ts.length-l.length=k at *
 go_wp2
 go_ret
 exact ⟨rfl,HN.out,HKN.out⟩
theorem zEf {E:Env} {w:World} {l:List Tok} {d:Nat} {f:Int} {q:Nat} (h:RSt E w l d f q) (hf:(f == 0)=false) (c:Int) :
  Calls Tryz.prog 39 #[.pointer (some ⟨E.pb,0,none⟩),.int .i64 c] w fun e w'=>e=.returned (.tuple #[])∧w=w':=by
 have c3:w.cell? ⟨E.pb,3,none⟩=some (.int .i64 f):=h.blk.cell 3
 clear h
 go_enter Tryz.func39,Tryz.ntmps39
 go_wp2
 go_end0
 exact ⟨rfl,rfl⟩
theorem zKf {E:Env} {w:World} {l:List Tok} {d:Nat} {q:Nat} (h:RSt E w l d 0 q) (c:Int) :
  Calls Tryz.prog 39 #[.pointer (some ⟨E.pb,0,none⟩),.int .i64 c] w fun e w'=>e=.returned (.tuple #[])∧RSt E w' l d c (hdT l).place∧Kp E.pb w w':=by
 have HN:=zh ((h.setF c).setQ (hdT l).place)
 have HKN:=zh (((Kp.refl E.pb w).zeh 3 (.int .i64 c)).zeh 4 (.int .i64 (hdT l).place))
 have hne:=h.ne
 have H1:=zh (h.setF c)
 have c3:w.cell? ⟨E.pb,3,none⟩=some (.int .i64 0):=h.blk.cell 3
 have f3:=h.blk.frozen 3
 have hk:E.ts.length-l.length<E.ts.length:=by have:=h.head.1;have:=h.le;omega
 have hlen:=h.len
 have hcap:=h.capb
 have ix1:(0:Int)≤((E.ts.length-l.length:Nat):Int):=by omega
 have ix2:(((E.ts.length-l.length:Nat):Int))<(E.ts.length:Int):=by omega
 clear h
 go_enter Tryz.func39,Tryz.ntmps39
 go_wp2
 generalize hw1:w.setCell ⟨E.pb,3,none⟩ (.int .i64 c)=w1 at HN HKN H1 ⊢
 have d0:w1.cell? ⟨E.pb,0,none⟩=some (.slice (some ⟨E.tb,0,none⟩) E.ts.length E.cap):=H1.out.blk.cell 0
 have d1:w1.cell? ⟨E.pb,1,none⟩=some (.int .i64 ((E.ts.length-l.length:Nat):Int)):=H1.out.blk.cell 1
 have d4:w1.cell? ⟨E.pb,4,none⟩=some (.int .i64 q):=H1.out.blk.cell 4
 have f4:=H1.out.blk.frozen 4
 obtain ⟨t0,t1,t2,t3⟩:=H1.out.tok
 clear hw1 c3 f3
 generalize E.ts.length-l.length=k at *
 go_region
 all_goals go_end0
 all_goals exact ⟨rfl,⟨HN.out.le,HN.out.suf,HN.out.blk,HN.out.row,HN.out.ne,HN.out.tlt,HN.out.ends,HN.out.ok,HN.out.key,HN.out.len,HN.out.capb,HN.out.deep⟩,⟨HKN.out.os,HKN.out.tape,HKN.out.output,HKN.out.size,HKN.out.block⟩⟩
end
section
open Go.RowKit
theorem Tryz.zPc:∃ i z,zjf Tryz.prog 34 36 i z:=by
 have h:(Tryz.prog.info? 36).map (fun i=>(i.zero,i.size,i.bytes))=some (some (.agg #[.int .i64 0,.string ⟨#[]⟩,.int .i64 0,.int .i64 0,.slice none 0 0]),5,64):=by kernel_rfl
 obtain ⟨i0,hi,hz0,hz1,hz2⟩:=info_parts h
 exact ⟨i0,_,Tryz.underlying34,hi,hz0,hz1,hz2,rfl⟩
theorem Tryz.zha:(Tryz.prog.info? 36).map (·.size)=some 5:=by kernel_rfl
theorem zae {B:Nat} {a w:World} (h:Below B a w) {g:Nat} (hg:B≤g) (cs:Array Value):Below B a (w.setRow g cs) :=
 ⟨h.os,h.tape,h.output,by simpa [World.setRow] using h.size,fun k hk=>(setRow_other w g k cs (by omega)).trans (h.block k hk)⟩
theorem Blk.below {w w':World} {g:Nat} {cs:List Value} {t:TypeId} (h:Blk w g cs t) (hb:Below w.heap.size w w'):Blk w' g cs t:=(hb.block g h.lt).trans h
def zAu (w:World) (t:T) (e:Ending) (w':World):Prop:=∃ v,e=.returned (zna t v)∧KAt 36 w' t.kids (fun b=>w.heap.size≤b) v∧Below w.heap.size w w'
structure zrf (w:World) (t:T) (ks:List T) (v:Value) (W:World):Prop where
 below:Below w.heap.size w W
 res:Blk W (w.heap.size+1) zba 36
 loc:Blk W (w.heap.size+2) (zaa (.mk t.kind t.text t.num t.place ks) v) 36
 kids:KAt 36 W ks (fun b=>w.heap.size+2<b) v
section
variable {w W W':World} {t:T} {ks:List T} {v:Value}
theorem zrf.alloc (h:zrf w t ks v W) (o:Obj):zrf w t ks v (W.alloc o):=⟨h.below.alloc h.below.size o,h.res.alloc o,h.loc.alloc o,h.kids.alloc o⟩
theorem zrf.drew (h:zrf w t ks v W):zrf w t ks v W.drew:=⟨h.below.drew,h.res.drew,h.loc.drew,h.kids.drew⟩
theorem zrf.call (h:zrf w t ks v W) (hb:Below W.heap.size W W'):zrf w t ks v W':=⟨h.below.trans (hb.mono h.below.size),h.res.below hb,h.loc.below hb,h.kids.below hb⟩
theorem zrf.lt (h:zrf w t ks v W):w.heap.size+2<W.heap.size:=h.loc.lt
theorem zrf.fresh (h:zrf w t ks v W) {a:T} {u:Value} (hu:KAt 36 W' a.kids (fun b=>W.heap.size≤b) u):TAt 36 W' a (fun b=>w.heap.size+2<b∧v.ownBlock≠some b) u :=
 TAt.zHa (hu.mono fun b hb _=>by
  have h1:=h.lt
  refine ⟨by omega,fun hv=>?_⟩
  obtain ⟨_,ho,_⟩:=h.kids
  have:=(ho.lt b hv).2
  omega)
theorem zrf.after (h:zrf w t ks v W) {ts:List T} {v':Value} (hK:KAt 36 W' (ks++ts) (fun b=>w.heap.size+2<b) v') (hg:W.grownBy W' v.ownBlock) :
  zrf w t (ks++ts) v' (W'.setCell ⟨w.heap.size+2,4,none⟩ v')∧Blk W' (w.heap.size+2) (zaa (.mk t.kind t.text t.num t.place ks) v) 36:=by
 have hrow:∀ k,v.ownBlock=some k→w.heap.size+2<k:=fun k hk=>by obtain ⟨_,_,hS,_⟩:=h.kids;exact hS k hk
 have h1:Blk W' (w.heap.size+2) (zaa (.mk t.kind t.text t.num t.place ks) v) 36:=h.loc.grown hg (fun e=>by have:=hrow _ e.symm;omega)
 have h2:Blk W' (w.heap.size+1) zba 36:=h.res.grown hg (fun e=>by have:=hrow _ e.symm;omega)
 refine ⟨⟨(h.below.grown hg h.below.size (fun k hk=>by have:=hrow k hk;omega)).setCell (by show w.heap.size≤w.heap.size+2;omega) _,h2.setOther _ _ (by show w.heap.size+1≠w.heap.size+2;omega),h1.zNa 4 v',hK.setCell _ _ (fun b hb=>by show b≠w.heap.size+2;omega)⟩,h1⟩
theorem zrf.post (h:zrf w t t.kids v W):zAu w t (.returned (.agg (zaa t v).toArray)) (W.setRow (w.heap.size+1) (zaa t v).toArray) :=
 ⟨v,rfl,(h.kids.setRow _ _ (fun b hb=>by omega)).mono (fun b hb _=>by omega),zae h.below (by omega) _⟩
end
end
section
open Go.RowKit
theorem zGd {l:List Tok} {s:ByteArray} {b:Bool} (hi:isT (hdT l) s=b):(((0:Int) == 0) && isT (hdT l) s)=b:=by rw [hi];cases b<;>rfl
theorem zYh {f:Int} (hf:(f == 0)=false) (b:Bool):(f == 0 && b)=false:=by rw [hf];rfl
theorem zvi {E:Env} {w:World} {l:List Tok} {d:Nat} {q:Nat} (h:RSt E w l d 0 q) (s:ByteArray) (hs:zOa s=true) (hp:0<s.size) (hi:isT (hdT l) s=true) :
  Calls Tryz.prog 20 #[.pointer (some ⟨E.pb,0,none⟩),.string s] w fun e w'=>e=.returned (.tuple #[])∧RSt E w' l.tail d 0 q∧Kp E.pb w w':=by
 go_enter Tryz.func20,Tryz.ntmps20
 go_wp2_with fail
 refine (zrd h s hs hp hi).mono ?_
 rintro e w1 ⟨rfl,h1,hk⟩
 have H1:=zh h1
 have HK:=zh hk
 clear h1 hk h hi
 go_wp2
 go_end0
 exact ⟨rfl,H1.out,HK.out⟩
theorem znn {E:Env} {w:World} {l:List Tok} {d:Nat} {q:Nat} (h:RSt E w l d 0 q) (s:ByteArray) (hs:zOa s=true) (hi:isT (hdT l) s=false) :
  Calls Tryz.prog 20 #[.pointer (some ⟨E.pb,0,none⟩),.string s] w fun e w'=>e=.returned (.tuple #[])∧RSt E w' l d 20 (hdT l).place∧Kp E.pb w w':=by
 go_enter Tryz.func20,Tryz.ntmps20
 go_wp2_with fail
 refine (zgc h s hs (zGd hi)).mono ?_
 rintro e w1 ⟨rfl,hb⟩
 have H1:=zh (h.below hb)
 have HK:=zh (Kp.of_below (pb:=E.pb) hb)
 clear hb h hi
 go_wp2_with fail
 refine (zKf H1.out 20).mono ?_
 rintro e w2 ⟨rfl,h2,hk2⟩
 have H2:=zh h2
 have HK2:=zh (HK.out.trans hk2)
 clear h2 hk2
 go_wp2
 go_end0
 exact ⟨rfl,H2.out,HK2.out⟩
theorem zXo {E:Env} {w:World} {l:List Tok} {d:Nat} {f:Int} {q:Nat} (h:RSt E w l d f q) (hf:(f == 0)=false) (s:ByteArray) (hs:zOa s=true) :
  Calls Tryz.prog 20 #[.pointer (some ⟨E.pb,0,none⟩),.string s] w fun e w'=>e=.returned (.tuple #[])∧Below w.heap.size w w':=by
 have HF:=zh hf
 clear hf
 go_enter Tryz.func20,Tryz.ntmps20
 go_wp2_with fail
 refine (zgc h s hs (zYh HF.out _)).mono ?_
 rintro e w1 ⟨rfl,hb⟩
 have H1:=zh (h.below hb)
 have HB:=zh hb
 clear hb h
 go_wp2_with fail
 refine (zEf H1.out HF.out 20).mono ?_
 rintro e w2 ⟨rfl,rfl⟩
 go_wp2
 go_end0
 exact ⟨rfl,HB.out⟩
theorem RSt.drew {E:Env} {w:World} {l:List Tok} {d:Nat} {f:Int} {q:Nat} (h:RSt E w l d f q):RSt E w.drew l d f q:=h.same (Nat.le_refl _) rfl rfl
theorem zPe {E:Env} {w:World} {l:List Tok} {d:Nat} {q:Nat} (h:RSt E w l d 0 q) (hk3:((hdT l).kind == 3)=true) :
  Calls Tryz.prog 95 #[.pointer (some ⟨E.pb,0,none⟩)] w fun e w'=>e=.returned (.int .i64 (hdT l).num)∧RSt E w' l.tail d 0 q∧Kp E.pb w w':=by
 have hk:(hdT l).kind=3:=beq_iff_eq.1 hk3
 have HN:=zh (h.zbu (h.ends.tail (by omega)))
 have HKN:=zh ((Kp.refl E.pb w).zeh 1 (.int .i64 (((E.ts.length-l.length:Nat):Int)+1)))
 have c0:w.cell? ⟨E.pb,0,none⟩=some (.slice (some ⟨E.tb,0,none⟩) E.ts.length E.cap):=h.blk.cell 0
 have c1:w.cell? ⟨E.pb,1,none⟩=some (.int .i64 ((E.ts.length-l.length:Nat):Int)):=h.blk.cell 1
 have c3:w.cell? ⟨E.pb,3,none⟩=some (.int .i64 0):=h.blk.cell 3
 have cf:=h.blk.frozen 1
 obtain ⟨t0,t1,t2,t3⟩:=h.tok
 have hkl:E.ts.length-l.length<E.ts.length:=by have:=h.head.1;have:=h.le;omega
 have hlen:=h.len
 have hcap:=h.capb
 have hplt:=h.plt
 have htlt:=h.tlt
 have ix1:(0:Int)≤((E.ts.length-l.length:Nat):Int):=by omega
 have ix2:(((E.ts.length-l.length:Nat):Int))<(E.ts.length:Int):=by omega
 rw [hk] at t0
 generalize E.ts.length-l.length=k at *
 clear h hk3 hk
 go_enter Tryz.func95,Tryz.ntmps95
 go_wp2
 go_region
 go_wp2
 go_ret
 exact ⟨rfl,(HN.out.alloc _).drew,(HKN.out.alloc _).drew⟩
theorem zLf {E:Env} {w:World} {l:List Tok} {d:Nat} {q:Nat} (h:RSt E w l d 0 q) (hk3:((hdT l).kind == 3)=false) :
  Calls Tryz.prog 95 #[.pointer (some ⟨E.pb,0,none⟩)] w fun e w'=>e=.returned (.int .i64 0)∧RSt E w' l d 20 (hdT l).place∧Kp E.pb w w':=by
 have hk:(((hdT l).kind:Int) != 3)=true:=by simp at hk3 ⊢;omega
 have H:=zh h
 have c0:w.cell? ⟨E.pb,0,none⟩=some (.slice (some ⟨E.tb,0,none⟩) E.ts.length E.cap):=h.blk.cell 0
 have c1:w.cell? ⟨E.pb,1,none⟩=some (.int .i64 ((E.ts.length-l.length:Nat):Int)):=h.blk.cell 1
 have c3:w.cell? ⟨E.pb,3,none⟩=some (.int .i64 0):=h.blk.cell 3
 have cf:=h.blk.frozen 1
 obtain ⟨t0,t1,t2,t3⟩:=h.tok
 have hkl:E.ts.length-l.length<E.ts.length:=by have:=h.head.1;have:=h.le;omega
 have hlen:=h.len
 have hcap:=h.capb
 have hplt:=h.plt
 have htlt:=h.tlt
 have ix1:(0:Int)≤((E.ts.length-l.length:Nat):Int):=by omega
 have ix2:(((E.ts.length-l.length:Nat):Int))<(E.ts.length:Int):=by omega
 generalize E.ts.length-l.length=k at *
 clear h hk3
 go_enter Tryz.func95,Tryz.ntmps95
 go_wp2
 go_region
 go_wp2_with fail
 refine (zKf ((H.out.alloc _).drew) 20).mono ?_
 rintro e w2 ⟨rfl,h2,hk2⟩
 have H2:=zh h2
 have HK2:=zh ((((Kp.refl E.pb w).alloc _).drew).trans hk2)
 clear h2 hk2
 go_wp2
 go_ret
 exact ⟨rfl,H2.out,HK2.out⟩
theorem zWh {E:Env} {w:World} {l:List Tok} {d:Nat} {f:Int} {q:Nat} (h:RSt E w l d f q) (hf:(f == 0)=false) :
  Calls Tryz.prog 95 #[.pointer (some ⟨E.pb,0,none⟩)] w fun e w'=>e=.returned (.int .i64 0)∧Below w.heap.size w w':=by
 have hn:(f != 0)=true:=by simp at hf ⊢;exact hf
 have H:=zh h
 have HF:=zh hf
 have c0:w.cell? ⟨E.pb,0,none⟩=some (.slice (some ⟨E.tb,0,none⟩) E.ts.length E.cap):=h.blk.cell 0
 have c1:w.cell? ⟨E.pb,1,none⟩=some (.int .i64 ((E.ts.length-l.length:Nat):Int)):=h.blk.cell 1
 have c3:w.cell? ⟨E.pb,3,none⟩=some (.int .i64 f):=h.blk.cell 3
 have cf:=h.blk.frozen 1
 obtain ⟨t0,t1,t2,t3⟩:=h.tok
 have hkl:E.ts.length-l.length<E.ts.length:=by have:=h.head.1;have:=h.le;omega
 have hlen:=h.len
 have hcap:=h.capb
 have hplt:=h.plt
 have htlt:=h.tlt
 have ix1:(0:Int)≤((E.ts.length-l.length:Nat):Int):=by omega
 have ix2:(((E.ts.length-l.length:Nat):Int))<(E.ts.length:Int):=by omega
 generalize E.ts.length-l.length=k at *
 clear h
 go_enter Tryz.func95,Tryz.ntmps95
 go_wp2
 go_region
 go_wp2_with fail
 refine (zEf ((H.out.alloc _).drew) HF.out 20).mono ?_
 rintro e w2 ⟨rfl,rfl⟩
 go_wp2
 go_ret
 exact ⟨rfl,((Below.refl _ _).alloc (Nat.le_refl _) _).drew⟩
end
section
open Go.RowKit
def zcj (E:Env) (w:World) (d q:Nat) (l:List Tok) (r:R T) (e:Ending) (w':World):Prop :=
 match r with
 | .ok (t,l')=>∃ v,e=.returned (zna t v)∧KAt 36 w' t.kids (fun b=>w.heap.size≤b) v∧RSt E w' l' d 0 q∧Kp E.pb w w'∧l'.length≤l.length
 | .error (p,c)=>∃ t v lf,e=.returned (zna t v)∧KAt 36 w' t.kids (fun b=>w.heap.size≤b) v∧t.kids.length≤40000∧RSt E w' lf d c p∧Kp E.pb w w'∧(c == 0)=false
def zur (w:World) (e:Ending) (w':World):Prop:=∃ t v,e=.returned (zna t v)∧KAt 36 w' t.kids (fun b=>w.heap.size≤b) v∧t.kids.length≤4∧Below w.heap.size w w'
theorem zhk {E:Env} {w:World} {l:List Tok} {d:Nat} {q:Nat} (h:RSt E w l d 0 q) (hk1:((hdT l).kind == 1)=true) :
  Calls Tryz.prog 37 #[.pointer (some ⟨E.pb,0,none⟩)] w fun e w'=>e=.returned (zna (.mk 5 (hdT l).text 0 (hdT l).place []) (.slice none 0 0))∧RSt E w' l.tail d 0 q∧Kp E.pb w w':=by
 have hk:(hdT l).kind=1:=beq_iff_eq.1 hk1
 have HN:=zh (h.zbu (h.ends.tail (by omega)))
 have HKN:=zh ((Kp.refl E.pb w).zeh 1 (.int .i64 (((E.ts.length-l.length:Nat):Int)+1)))
 have c0:w.cell? ⟨E.pb,0,none⟩=some (.slice (some ⟨E.tb,0,none⟩) E.ts.length E.cap):=h.blk.cell 0
 have c1:w.cell? ⟨E.pb,1,none⟩=some (.int .i64 ((E.ts.length-l.length:Nat):Int)):=h.blk.cell 1
 have c3:w.cell? ⟨E.pb,3,none⟩=some (.int .i64 0):=h.blk.cell 3
 have cf:=h.blk.frozen 1
 obtain ⟨t0,t1,t2,t3⟩:=h.tok
 have hkl:E.ts.length-l.length<E.ts.length:=by have:=h.head.1;have:=h.le;omega
 have hlen:=h.len
 have hcap:=h.capb
 have hplt:=h.plt
 have htlt:=h.tlt
 have ix1:(0:Int)≤((E.ts.length-l.length:Nat):Int):=by omega
 have ix2:(((E.ts.length-l.length:Nat):Int))<(E.ts.length:Int):=by omega
 rw [hk] at t0
 generalize E.ts.length-l.length=k at *
 clear h hk1 hk
 go_enter Tryz.func37,Tryz.ntmps37
 go_wp2
 go_region
 go_wp2_with fail
 exact bodyPost_ret (v:=zna (.mk 5 (hdT l).text 0 (hdT l).place []) (.slice none 0 0)) (by simp [results,Tryz.results37,go_sem,zna,T.kind,T.text,T.num,T.place]) rfl ⟨rfl,((HN.out.alloc _).alloc _).drew,((HKN.out.alloc _).alloc _).drew⟩
theorem znk {E:Env} {w:World} {l:List Tok} {d:Nat} {q:Nat} (h:RSt E w l d 0 q) (hk1:((hdT l).kind == 1)=false) :
  Calls Tryz.prog 37 #[.pointer (some ⟨E.pb,0,none⟩)] w fun e w'=>e=.returned (zna zdb (.slice none 0 0))∧RSt E w' l d 20 (hdT l).place∧Kp E.pb w w':=by
 have hk:(((hdT l).kind:Int) != 1)=true:=by simp at hk1 ⊢;omega
 have H:=zh h
 have c0:w.cell? ⟨E.pb,0,none⟩=some (.slice (some ⟨E.tb,0,none⟩) E.ts.length E.cap):=h.blk.cell 0
 have c1:w.cell? ⟨E.pb,1,none⟩=some (.int .i64 ((E.ts.length-l.length:Nat):Int)):=h.blk.cell 1
 have c3:w.cell? ⟨E.pb,3,none⟩=some (.int .i64 0):=h.blk.cell 3
 have cf:=h.blk.frozen 1
 obtain ⟨t0,t1,t2,t3⟩:=h.tok
 have hkl:E.ts.length-l.length<E.ts.length:=by have:=h.head.1;have:=h.le;omega
 have hlen:=h.len
 have hcap:=h.capb
 have hplt:=h.plt
 have htlt:=h.tlt
 have ix1:(0:Int)≤((E.ts.length-l.length:Nat):Int):=by omega
 have ix2:(((E.ts.length-l.length:Nat):Int))<(E.ts.length:Int):=by omega
 generalize E.ts.length-l.length=k at *
 clear h hk1
 go_enter Tryz.func37,Tryz.ntmps37
 go_wp2
 go_region
 go_wp2_with fail
 refine (zKf (((H.out.alloc _).alloc _).drew) 20).mono ?_
 rintro e w2 ⟨rfl,h2,hk2⟩
 have H2:=zh h2
 have HK2:=zh (((((Kp.refl E.pb w).alloc _).alloc _).drew).trans hk2)
 have HB2:=zh ((((Blk.new w zba 36).alloc _).drew).kp hk2 (by omega))
 clear h2 hk2
 go_wp2_with ((with_reducible refine zla 36 (.tmp 2) ?_);refine zda rfl 36 (.tmp 2) (.tmp 26) rfl w.heap.size zba rfl rfl HB2.out Tryz.zha rfl (zca zdb _ rfl) ?_)
 exact zma (cs:=zba) Tryz.results37 rfl HB2.out Tryz.underlying36 rfl Tryz.zha rfl ⟨rfl,H2.out.same (by simp [World.setRow]) (setRow_other _ _ _ _ (by omega)) (setRow_other _ _ _ _ (by omega)),HK2.out.setRow (Nat.le_refl _) _⟩
theorem zii {E:Env} {w:World} {l:List Tok} {d:Nat} {f:Int} {q:Nat} (h:RSt E w l d f q) (hf:(f == 0)=false) :
  Calls Tryz.prog 37 #[.pointer (some ⟨E.pb,0,none⟩)] w fun e w'=>e=.returned (zna zdb (.slice none 0 0))∧Below w.heap.size w w':=by
 have hn:(f != 0)=true:=by simp at hf ⊢;exact hf
 have H:=zh h
 have HF:=zh hf
 have c0:w.cell? ⟨E.pb,0,none⟩=some (.slice (some ⟨E.tb,0,none⟩) E.ts.length E.cap):=h.blk.cell 0
 have c1:w.cell? ⟨E.pb,1,none⟩=some (.int .i64 ((E.ts.length-l.length:Nat):Int)):=h.blk.cell 1
 have c3:w.cell? ⟨E.pb,3,none⟩=some (.int .i64 f):=h.blk.cell 3
 have cf:=h.blk.frozen 1
 obtain ⟨t0,t1,t2,t3⟩:=h.tok
 have hkl:E.ts.length-l.length<E.ts.length:=by have:=h.head.1;have:=h.le;omega
 have hlen:=h.len
 have hcap:=h.capb
 have hplt:=h.plt
 have htlt:=h.tlt
 have ix1:(0:Int)≤((E.ts.length-l.length:Nat):Int):=by omega
 have ix2:(((E.ts.length-l.length:Nat):Int))<(E.ts.length:Int):=by omega
 generalize E.ts.length-l.length=k at *
 clear h
 go_enter Tryz.func37,Tryz.ntmps37
 go_wp2
 go_region
 go_wp2_with fail
 refine (zEf (((H.out.alloc _).alloc _).drew) HF.out 20).mono ?_
 rintro e w2 ⟨rfl,rfl⟩
 go_wp2_with fail
 exact bodyPost_ret (v:=zna (zdb) (.slice none 0 0)) (by simp [results,Tryz.results37,go_sem,zna,T.kind,T.text,T.num,T.place,zdb,e0]) rfl ⟨rfl,(((Below.refl _ _).alloc (Nat.le_refl _) _).alloc (by simp) _).drew⟩
end
section
open Go.RowKit
def zif (t:T) (l:List Tok):R T:=zKl (sumP l) (.ok (t,l)) fun _ f=>bd (zEa l.tail) fun v l2=>.ok (t.zkb (f * v),l2)
theorem zVc (t:T) (v:Int):(t.zkb v).kids=t.kids:=by cases t;rfl
theorem zlm:zOa (bs [43])=true:=by kernel_rfl
theorem zHg:zOa (bs [45])=true:=by kernel_rfl
theorem zsi {E:Env} {w:World} {l:List Tok} {d:Nat} {f:Int} {q:Nat} (h:RSt E w l d f q) (hf:(f == 0)=false) (t:T) (ht:t.kids=[]) :
  Calls Tryz.prog 98 #[.pointer (some ⟨E.pb,0,none⟩),zna t (.slice none 0 0)] w (zur w):=by
 have HT:=zh ht
 have HF:=zh hf
 clear ht hf
 have HW0:=zh (((Below.refl w.heap.size w).alloc (Nat.le_refl _) (.cells (zaa t (.slice none 0 0)).toArray 36)).alloc (by simp) (.cells zba.toArray 36))
 have H0:=zh ((h.alloc (.cells (zaa t (.slice none 0 0)).toArray 36)).alloc (.cells zba.toArray 36))
 have HX0:=zh ((Blk.new w (zaa t (.slice none 0 0)) 36).alloc (.cells zba.toArray 36))
 have HB0:=zh (Blk.zTe w (.cells (zaa t (.slice none 0 0)).toArray 36) zba 36)
 have HK0:=zh (((Kp.refl E.pb w).alloc (.cells (zaa t (.slice none 0 0)).toArray 36)).alloc (.cells zba.toArray 36))
 have hplt:=h.plt
 have htlt:=h.tlt
 clear h
 unfold zna
 go_enter Tryz.func98,Tryz.ntmps98
 go_wp2_with fail
 refine (zgc H0.out (bs [43]) zlm (zYh HF.out _)).mono ?_
 rintro e w1 ⟨rfl,hb⟩
 have H1:=zh (H0.out.below hb)
 have HX1:=zh (HX0.out.below hb)
 have HB1:=zh (HB0.out.below hb)
 have HK1:=zh (HK0.out.trans (Kp.of_below hb))
 have hz1:=HB1.out.lt
 have HW1:=zh (HW0.out.trans (hb.mono HW0.out.size))
 clear hb
 go_wp2_with fail
 refine (zgc H1.out (bs [45]) zHg (zYh HF.out _)).mono ?_
 rintro e w2 ⟨rfl,hb⟩
 have H2:=zh (H1.out.below hb)
 have HX2:=zh (HX1.out.below hb)
 have HB2:=zh (HB1.out.below hb)
 have HK2:=zh (HK1.out.trans (Kp.of_below hb))
 have hz2:=HB2.out.lt
 have HW2:=zh (HW1.out.trans (hb.mono HW1.out.size))
 clear hb
 go_wp2_with (first
  | ((with_reducible refine zqa 36 (.tmp 3) ?_);refine zfa rfl 36 (.tmp 3) rfl w.heap.size t (.slice none 0 0) rfl HX2.out Tryz.underlying36 rfl Tryz.zha ?_)
  | ((with_reducible refine zla 36 (.tmp 4) ?_);refine zda rfl 36 (.tmp 4) (.tmp 23) rfl (w.heap.size+1) (zaa t (.slice none 0 0)) rfl rfl HB2.out Tryz.zha rfl (zca _ _ rfl) ?_))
 exact zma (cs:=zaa t (.slice none 0 0)) Tryz.results98 rfl HB2.out Tryz.underlying36 rfl Tryz.zha rfl (⟨t,(.slice none 0 0),rfl,by rw [HT.out];exact KAt.nil _ _ _,by rw [HT.out];simp,zae HW2.out (by omega) _⟩)
theorem zKk {E:Env} {w:World} {l:List Tok} {d:Nat} {q:Nat} (h:RSt E w l d 0 q) (t:T) (ht:t.kids=[]) :
  Calls Tryz.prog 98 #[.pointer (some ⟨E.pb,0,none⟩),zna t (.slice none 0 0)] w (zcj E w d q l (zif t l)):=by
 have HT:=zh ht
 clear ht
 have hnum0:(hdT l.tail).num≤1099511627776:=by
  rcases Nat.eq_zero_or_pos l.tail.length with h0|h0
  ·rw [List.eq_nil_of_length_eq_zero h0];simp [hdT,zVa]
  ·refine (h.ok _ ?_).num
   have e1:hdT l.tail∈l.tail:=by cases hl:l.tail with
    | nil=>rw [hl] at h0;simp at h0
    | cons a b=>simp [hdT]
   exact List.mem_of_mem_drop (i:=E.ts.length-l.length) (by rw [← h.suf];exact List.mem_of_mem_tail e1)
 cases h43:isT (hdT l) (bs [43]) with
 | false =>
  cases h45:isT (hdT l) (bs [45]) with
  | false =>
   have HP:=zh (show zif t l=.ok (t,l) by unfold zif sumP;rw [h43,h45];rfl)
   have H43:=zh h43
   have H45:=zh h45
   clear h43 h45
   have H0:=zh ((h.alloc (.cells (zaa t (.slice none 0 0)).toArray 36)).alloc (.cells zba.toArray 36))
   have HX0:=zh ((Blk.new w (zaa t (.slice none 0 0)) 36).alloc (.cells zba.toArray 36))
   have HB0:=zh (Blk.zTe w (.cells (zaa t (.slice none 0 0)).toArray 36) zba 36)
   have HK0:=zh (((Kp.refl E.pb w).alloc (.cells (zaa t (.slice none 0 0)).toArray 36)).alloc (.cells zba.toArray 36))
   have hplt:=h.plt
   have htlt:=h.tlt
   clear h
   unfold zna
   go_enter Tryz.func98,Tryz.ntmps98
   go_wp2_with fail
   refine (zgc H0.out (bs [43]) zlm (zGd H43.out)).mono ?_
   rintro e w1 ⟨rfl,hb⟩
   have H1:=zh (H0.out.below hb)
   have HX1:=zh (HX0.out.below hb)
   have HB1:=zh (HB0.out.below hb)
   have HK1:=zh (HK0.out.trans (Kp.of_below hb))
   have hz1:=HB1.out.lt
   clear hb
   go_wp2_with fail
   refine (zgc H1.out (bs [45]) zHg (zGd H45.out)).mono ?_
   rintro e w2 ⟨rfl,hb⟩
   have H2:=zh (H1.out.below hb)
   have HX2:=zh (HX1.out.below hb)
   have HB2:=zh (HB1.out.below hb)
   have HK2:=zh (HK1.out.trans (Kp.of_below hb))
   have hz2:=HB2.out.lt
   clear hb
   go_wp2_with (first
    | ((with_reducible refine zqa 36 (.tmp 3) ?_);refine zfa rfl 36 (.tmp 3) rfl w.heap.size t (.slice none 0 0) rfl HX2.out Tryz.underlying36 rfl Tryz.zha ?_)
    | ((with_reducible refine zla 36 (.tmp 4) ?_);refine zda rfl 36 (.tmp 4) (.tmp 23) rfl (w.heap.size+1) (zaa t (.slice none 0 0)) rfl rfl HB2.out Tryz.zha rfl (zca _ _ rfl) ?_))
   exact zma (cs:=zaa t (.slice none 0 0)) Tryz.results98 rfl HB2.out Tryz.underlying36 rfl Tryz.zha rfl (by rw [HP.out];exact ⟨_,rfl,by rw [HT.out];exact KAt.nil _ _ _,H2.out.same (by simp [World.setRow]) (setRow_other _ _ _ _ (by omega)) (setRow_other _ _ _ _ (by omega)),HK2.out.setRow (by omega) _,Nat.le_refl _⟩)
  | true =>
   cases hk3:((hdT l.tail).kind == 3) with
   | true =>
    have HP:=zh (show zif t l=.ok (t.zkb (-((hdT l.tail).num:Int)),l.tail.tail) by unfold zif sumP;rw [h43,h45];show bd (zEa l.tail) _=_;rw [zpa (show zEa l.tail=.ok (((hdT l.tail).num:Int),l.tail.tail) by unfold zEa zkd;rw [hk3];rfl)];simp)
    have HK3:=zh hk3
    have H43:=zh h43
    have H45:=zh h45
    clear hk3 h43 h45
    have H0:=zh ((h.alloc (.cells (zaa t (.slice none 0 0)).toArray 36)).alloc (.cells zba.toArray 36))
    have HX0:=zh ((Blk.new w (zaa t (.slice none 0 0)) 36).alloc (.cells zba.toArray 36))
    have HB0:=zh (Blk.zTe w (.cells (zaa t (.slice none 0 0)).toArray 36) zba 36)
    have HK0:=zh (((Kp.refl E.pb w).alloc (.cells (zaa t (.slice none 0 0)).toArray 36)).alloc (.cells zba.toArray 36))
    have hplt:=h.plt
    have htlt:=h.tlt
    have hnum:=hnum0
    clear h
    unfold zna
    go_enter Tryz.func98,Tryz.ntmps98
    go_wp2_with fail
    refine (zgc H0.out (bs [43]) zlm (zGd H43.out)).mono ?_
    rintro e w1 ⟨rfl,hb⟩
    have H1:=zh (H0.out.below hb)
    have HX1:=zh (HX0.out.below hb)
    have HB1:=zh (HB0.out.below hb)
    have HK1:=zh (HK0.out.trans (Kp.of_below hb))
    have hz1:=HB1.out.lt
    clear hb
    go_wp2_with fail
    refine (zrd H1.out (bs [45]) zHg (by decide) H45.out).mono ?_
    rintro e w2 ⟨rfl,hs,hk⟩
    have H2:=zh hs
    have HX2:=zh (HX1.out.kp hk (by omega))
    have HB2:=zh (HB1.out.kp hk (by omega))
    have HK2:=zh (HK1.out.trans hk)
    have hz2:=HB2.out.lt
    clear hs hk
    go_wp2_with fail
    refine (zPe H2.out HK3.out).mono ?_
    rintro e w9 ⟨rfl,hs,hk⟩
    have H9:=zh hs
    have HX9:=zh (HX2.out.kp hk (by omega))
    have HB9:=zh (HB2.out.kp hk (by omega))
    have HK9:=zh (HK2.out.trans hk)
    have hz9:=HB9.out.lt
    clear hs hk
    have hcell:w9.cell? ⟨w.heap.size,2,none⟩=some (.int .i64 t.num):=HX9.out.cell 2
    have hfroz:=HX9.out.frozen 2
    have hng:=show IntKind.i64.wrap (-((hdT l.tail).num:Int))=-((hdT l.tail).num:Int) from IntWalk.i64_in _ (by have:=hnum;omega)
    go_wp2_with (first
     | ((with_reducible refine zqa 36 (.tmp 3) ?_);refine zfa rfl 36 (.tmp 3) rfl w.heap.size (t.zkb (-((hdT l.tail).num:Int))) (.slice none 0 0) rfl (show Blk _ w.heap.size (zaa (t.zkb (-((hdT l.tail).num:Int))) (.slice none 0 0)) 36 by rw [← zWb];exact HX9.out.zNa 2 _) Tryz.underlying36 rfl Tryz.zha ?_)
     | ((with_reducible refine zla 36 (.tmp 4) ?_);refine zda rfl 36 (.tmp 4) (.tmp 23) rfl (w.heap.size+1) (zaa (t.zkb (-((hdT l.tail).num:Int))) (.slice none 0 0)) rfl rfl (HB9.out.setOther ⟨w.heap.size,2,none⟩ _ (by show w.heap.size+1≠w.heap.size;omega)) Tryz.zha rfl (zca _ _ rfl) ?_))
    exact zma (cs:=zaa (t.zkb (-((hdT l.tail).num:Int))) (.slice none 0 0)) Tryz.results98 rfl (HB9.out.setOther ⟨w.heap.size,2,none⟩ _ (by show w.heap.size+1≠w.heap.size;omega)) Tryz.underlying36 rfl Tryz.zha rfl (by rw [HP.out];exact ⟨_,rfl,by rw [zVc,HT.out];exact KAt.nil _ _ _,H9.out.same (by simp [World.setRow,World.setCell]) ((setRow_other _ _ _ _ (by omega)).trans (Below.heap_setCell _ _ _ _ (by show _≠w.heap.size;omega))) ((setRow_other _ _ _ _ (by omega)).trans (Below.heap_setCell _ _ _ _ (by show _≠w.heap.size;omega))),(HK9.out.zLc (p:=⟨w.heap.size,2,none⟩) (Nat.le_refl _) _).setRow (by omega) _,by simp only [List.length_tail];omega⟩)
   | false =>
    have HP:=zh (show zif t l=.error ((hdT l.tail).place,20) by unfold zif sumP;rw [h43,h45];show bd (zEa l.tail) _=_;exact zya (show zEa l.tail=.error ((hdT l.tail).place,20) by unfold zEa zkd;rw [hk3];rfl) _)
    have HK3:=zh hk3
    have H43:=zh h43
    have H45:=zh h45
    clear hk3 h43 h45
    have H0:=zh ((h.alloc (.cells (zaa t (.slice none 0 0)).toArray 36)).alloc (.cells zba.toArray 36))
    have HX0:=zh ((Blk.new w (zaa t (.slice none 0 0)) 36).alloc (.cells zba.toArray 36))
    have HB0:=zh (Blk.zTe w (.cells (zaa t (.slice none 0 0)).toArray 36) zba 36)
    have HK0:=zh (((Kp.refl E.pb w).alloc (.cells (zaa t (.slice none 0 0)).toArray 36)).alloc (.cells zba.toArray 36))
    have hplt:=h.plt
    have htlt:=h.tlt
    have hnum:=hnum0
    clear h
    unfold zna
    go_enter Tryz.func98,Tryz.ntmps98
    go_wp2_with fail
    refine (zgc H0.out (bs [43]) zlm (zGd H43.out)).mono ?_
    rintro e w1 ⟨rfl,hb⟩
    have H1:=zh (H0.out.below hb)
    have HX1:=zh (HX0.out.below hb)
    have HB1:=zh (HB0.out.below hb)
    have HK1:=zh (HK0.out.trans (Kp.of_below hb))
    have hz1:=HB1.out.lt
    clear hb
    go_wp2_with fail
    refine (zrd H1.out (bs [45]) zHg (by decide) H45.out).mono ?_
    rintro e w2 ⟨rfl,hs,hk⟩
    have H2:=zh hs
    have HX2:=zh (HX1.out.kp hk (by omega))
    have HB2:=zh (HB1.out.kp hk (by omega))
    have HK2:=zh (HK1.out.trans hk)
    have hz2:=HB2.out.lt
    clear hs hk
    go_wp2_with fail
    refine (zLf H2.out HK3.out).mono ?_
    rintro e w9 ⟨rfl,hs,hk⟩
    have H9:=zh hs
    have HX9:=zh (HX2.out.kp hk (by omega))
    have HB9:=zh (HB2.out.kp hk (by omega))
    have HK9:=zh (HK2.out.trans hk)
    have hz9:=HB9.out.lt
    clear hs hk
    have hcell:w9.cell? ⟨w.heap.size,2,none⟩=some (.int .i64 t.num):=HX9.out.cell 2
    have hfroz:=HX9.out.frozen 2
    have hng:=trivial
    go_wp2_with (first
     | ((with_reducible refine zqa 36 (.tmp 3) ?_);refine zfa rfl 36 (.tmp 3) rfl w.heap.size (t.zkb (0)) (.slice none 0 0) rfl (show Blk _ w.heap.size (zaa (t.zkb (0)) (.slice none 0 0)) 36 by rw [← zWb];exact HX9.out.zNa 2 _) Tryz.underlying36 rfl Tryz.zha ?_)
     | ((with_reducible refine zla 36 (.tmp 4) ?_);refine zda rfl 36 (.tmp 4) (.tmp 23) rfl (w.heap.size+1) (zaa (t.zkb (0)) (.slice none 0 0)) rfl rfl (HB9.out.setOther ⟨w.heap.size,2,none⟩ _ (by show w.heap.size+1≠w.heap.size;omega)) Tryz.zha rfl (zca _ _ rfl) ?_))
    exact zma (cs:=zaa (t.zkb (0)) (.slice none 0 0)) Tryz.results98 rfl (HB9.out.setOther ⟨w.heap.size,2,none⟩ _ (by show w.heap.size+1≠w.heap.size;omega)) Tryz.underlying36 rfl Tryz.zha rfl (by rw [HP.out];exact ⟨_,_,_,rfl,by rw [zVc,HT.out];exact KAt.nil _ _ _,by rw [zVc,HT.out];simp,H9.out.same (by simp [World.setRow,World.setCell]) ((setRow_other _ _ _ _ (by omega)).trans (Below.heap_setCell _ _ _ _ (by show _≠w.heap.size;omega))) ((setRow_other _ _ _ _ (by omega)).trans (Below.heap_setCell _ _ _ _ (by show _≠w.heap.size;omega))),(HK9.out.zLc (p:=⟨w.heap.size,2,none⟩) (Nat.le_refl _) _).setRow (by omega) _,by decide⟩)
 | true =>
  cases hk3:((hdT l.tail).kind == 3) with
  | true =>
   have HP:=zh (show zif t l=.ok (t.zkb (((hdT l.tail).num:Int)),l.tail.tail) by unfold zif sumP;rw [h43];show bd (zEa l.tail) _=_;rw [zpa (show zEa l.tail=.ok (((hdT l.tail).num:Int),l.tail.tail) by unfold zEa zkd;rw [hk3];rfl)];simp)
   have HK3:=zh hk3
   have H43:=zh h43
   clear hk3 h43
   have H0:=zh ((h.alloc (.cells (zaa t (.slice none 0 0)).toArray 36)).alloc (.cells zba.toArray 36))
   have HX0:=zh ((Blk.new w (zaa t (.slice none 0 0)) 36).alloc (.cells zba.toArray 36))
   have HB0:=zh (Blk.zTe w (.cells (zaa t (.slice none 0 0)).toArray 36) zba 36)
   have HK0:=zh (((Kp.refl E.pb w).alloc (.cells (zaa t (.slice none 0 0)).toArray 36)).alloc (.cells zba.toArray 36))
   have hplt:=h.plt
   have htlt:=h.tlt
   have hnum:=hnum0
   clear h
   unfold zna
   go_enter Tryz.func98,Tryz.ntmps98
   go_wp2_with fail
   refine (zrd H0.out (bs [43]) zlm (by decide) H43.out).mono ?_
   rintro e w2 ⟨rfl,hs,hk⟩
   have H2:=zh hs
   have HX2:=zh (HX0.out.kp hk (by omega))
   have HB2:=zh (HB0.out.kp hk (by omega))
   have HK2:=zh (HK0.out.trans hk)
   have hz2:=HB2.out.lt
   clear hs hk
   go_wp2_with fail
   refine (zPe H2.out HK3.out).mono ?_
   rintro e w9 ⟨rfl,hs,hk⟩
   have H9:=zh hs
   have HX9:=zh (HX2.out.kp hk (by omega))
   have HB9:=zh (HB2.out.kp hk (by omega))
   have HK9:=zh (HK2.out.trans hk)
   have hz9:=HB9.out.lt
   clear hs hk
   have hcell:w9.cell? ⟨w.heap.size,2,none⟩=some (.int .i64 t.num):=HX9.out.cell 2
   have hfroz:=HX9.out.frozen 2
   have hng:=trivial
   go_wp2_with (first
    | ((with_reducible refine zqa 36 (.tmp 3) ?_);refine zfa rfl 36 (.tmp 3) rfl w.heap.size (t.zkb (((hdT l.tail).num:Int))) (.slice none 0 0) rfl (show Blk _ w.heap.size (zaa (t.zkb (((hdT l.tail).num:Int))) (.slice none 0 0)) 36 by rw [← zWb];exact HX9.out.zNa 2 _) Tryz.underlying36 rfl Tryz.zha ?_)
    | ((with_reducible refine zla 36 (.tmp 4) ?_);refine zda rfl 36 (.tmp 4) (.tmp 14) rfl (w.heap.size+1) (zaa (t.zkb (((hdT l.tail).num:Int))) (.slice none 0 0)) rfl rfl (HB9.out.setOther ⟨w.heap.size,2,none⟩ _ (by show w.heap.size+1≠w.heap.size;omega)) Tryz.zha rfl (zca _ _ rfl) ?_))
   exact zma (cs:=zaa (t.zkb (((hdT l.tail).num:Int))) (.slice none 0 0)) Tryz.results98 rfl (HB9.out.setOther ⟨w.heap.size,2,none⟩ _ (by show w.heap.size+1≠w.heap.size;omega)) Tryz.underlying36 rfl Tryz.zha rfl (by rw [HP.out];exact ⟨_,rfl,by rw [zVc,HT.out];exact KAt.nil _ _ _,H9.out.same (by simp [World.setRow,World.setCell]) ((setRow_other _ _ _ _ (by omega)).trans (Below.heap_setCell _ _ _ _ (by show _≠w.heap.size;omega))) ((setRow_other _ _ _ _ (by omega)).trans (Below.heap_setCell _ _ _ _ (by show _≠w.heap.size;omega))),(HK9.out.zLc (p:=⟨w.heap.size,2,none⟩) (Nat.le_refl _) _).setRow (by omega) _,by simp only [List.length_tail];omega⟩)
  | false =>
   have HP:=zh (show zif t l=.error ((hdT l.tail).place,20) by unfold zif sumP;rw [h43];show bd (zEa l.tail) _=_;exact zya (show zEa l.tail=.error ((hdT l.tail).place,20) by unfold zEa zkd;rw [hk3];rfl) _)
   have HK3:=zh hk3
   have H43:=zh h43
   clear hk3 h43
   have H0:=zh ((h.alloc (.cells (zaa t (.slice none 0 0)).toArray 36)).alloc (.cells zba.toArray 36))
   have HX0:=zh ((Blk.new w (zaa t (.slice none 0 0)) 36).alloc (.cells zba.toArray 36))
   have HB0:=zh (Blk.zTe w (.cells (zaa t (.slice none 0 0)).toArray 36) zba 36)
   have HK0:=zh (((Kp.refl E.pb w).alloc (.cells (zaa t (.slice none 0 0)).toArray 36)).alloc (.cells zba.toArray 36))
   have hplt:=h.plt
   have htlt:=h.tlt
   have hnum:=hnum0
   clear h
   unfold zna
   go_enter Tryz.func98,Tryz.ntmps98
   go_wp2_with fail
   refine (zrd H0.out (bs [43]) zlm (by decide) H43.out).mono ?_
   rintro e w2 ⟨rfl,hs,hk⟩
   have H2:=zh hs
   have HX2:=zh (HX0.out.kp hk (by omega))
   have HB2:=zh (HB0.out.kp hk (by omega))
   have HK2:=zh (HK0.out.trans hk)
   have hz2:=HB2.out.lt
   clear hs hk
   go_wp2_with fail
   refine (zLf H2.out HK3.out).mono ?_
   rintro e w9 ⟨rfl,hs,hk⟩
   have H9:=zh hs
   have HX9:=zh (HX2.out.kp hk (by omega))
   have HB9:=zh (HB2.out.kp hk (by omega))
   have HK9:=zh (HK2.out.trans hk)
   have hz9:=HB9.out.lt
   clear hs hk
   have hcell:w9.cell? ⟨w.heap.size,2,none⟩=some (.int .i64 t.num):=HX9.out.cell 2
   have hfroz:=HX9.out.frozen 2
   have hng:=trivial
   go_wp2_with (first
    | ((with_reducible refine zqa 36 (.tmp 3) ?_);refine zfa rfl 36 (.tmp 3) rfl w.heap.size (t.zkb (0)) (.slice none 0 0) rfl (show Blk _ w.heap.size (zaa (t.zkb (0)) (.slice none 0 0)) 36 by rw [← zWb];exact HX9.out.zNa 2 _) Tryz.underlying36 rfl Tryz.zha ?_)
    | ((with_reducible refine zla 36 (.tmp 4) ?_);refine zda rfl 36 (.tmp 4) (.tmp 14) rfl (w.heap.size+1) (zaa (t.zkb (0)) (.slice none 0 0)) rfl rfl (HB9.out.setOther ⟨w.heap.size,2,none⟩ _ (by show w.heap.size+1≠w.heap.size;omega)) Tryz.zha rfl (zca _ _ rfl) ?_))
   exact zma (cs:=zaa (t.zkb (0)) (.slice none 0 0)) Tryz.results98 rfl (HB9.out.setOther ⟨w.heap.size,2,none⟩ _ (by show w.heap.size+1≠w.heap.size;omega)) Tryz.underlying36 rfl Tryz.zha rfl (by rw [HP.out];exact ⟨_,_,_,rfl,by rw [zVc,HT.out];exact KAt.nil _ _ _,by rw [zVc,HT.out];simp,H9.out.same (by simp [World.setRow,World.setCell]) ((setRow_other _ _ _ _ (by omega)).trans (Below.heap_setCell _ _ _ _ (by show _≠w.heap.size;omega))) ((setRow_other _ _ _ _ (by omega)).trans (Below.heap_setCell _ _ _ _ (by show _≠w.heap.size;omega))),(HK9.out.zLc (p:=⟨w.heap.size,2,none⟩) (Nat.le_refl _) _).setRow (by omega) _,by decide⟩)
end
end Go.Proofs.YtpjnpffcnmgdcaaGreatDoor
