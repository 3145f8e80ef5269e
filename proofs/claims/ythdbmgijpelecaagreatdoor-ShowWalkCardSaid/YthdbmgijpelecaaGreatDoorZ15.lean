/- What the grammar says of a tree that was read: each node's text, number and kids, as exactly as the reader of tokens makes them. Nothing of the program is walked here. -/
import Derived.Test.YthdbmgijpelecaaGreatDoorZ14
import Derived.Test.YthdbmgijpelecaaGreatDoorZ13
import Derived.Test.YthdbmgijpelecaaGreatDoorZ03
import Derived.Lib.LaidTab
namespace Go.Proofs.YthdbmgijpelecaaGreatDoor
open Go.RowKit
def NmT (t:T):Prop:=∃ s p,t=.mk 5 s 0 p []∧zKa s=true
def TmT (t:T):Prop:=∃ s n p,t=.mk 5 s n p []∧(-1099511627776≤n∧n≤1099511627776)∧(s=e0∨zKa s=true)
def zqo (s:ByteArray):Prop:=s=bs [60]∨s=bs [60,61]∨s=bs [61,61]
def zTj (t:T):Prop:=∃ s p a b,t=.mk 4 s 0 p [a,b]∧zqo s∧TmT a∧TmT b
def zzh (t:T):Prop:=(∃ s p,t=.mk 3 s 0 p []∧zKa s=true)∨∃ s p a,t=.mk 3 s 0 p [a]∧zKa s=true∧NmT a
def zol (t:T):Prop:=(∃ s p,t=.mk 2 s 0 p []∧(s=bs [111,119,110]∨s=bs [99,101,108,108]))∨∃ s p a,t=.mk 2 s 0 p [a]∧(s=bs [99,111,117,110,116,101,100]∨s=bs [108,111,99,107]∨s=bs [103,117,97,114,100])∧NmT a
def zkh (t:T):Prop:=(∃ p,t=.mk 8 (bs [105,110,116]) 0 p [])∨∃ p a,t=.mk 8 (bs [111,119,110]) 0 p [a]∧NmT a
def zSk (t:T):Prop:=(∃ p a,t=.mk 8 (bs [38]) 0 p [a]∧NmT a)∨(∃ p a,t=.mk 8 (bs [38,109,117,116]) 0 p [a]∧NmT a)∨zkh t
def zUg (t:T):Prop:=∃ s p a,t=.mk 7 s 0 p [a]∧zKa s=true∧zSk a
def zGj (t:T):Prop:=∃ s p a ys zs,t=.mk 1 s 0 p (a :: (ys++zs))∧zKa s=true∧zol a∧(∀ y∈ys,zzh y)∧∀ z∈zs,zTj z
def zxj (t:T):Prop:=∃ s p xs,t=.mk 28 s 0 p xs∧zKa s=true∧∀ x∈xs,TmT x
inductive zBf:T→Prop
 | term {t:T}:TmT t→zBf t
 | sum {k:Int} {p:Nat} {a b:T}:k=21∨k=22→NmT a→NmT b→zBf (.mk k e0 0 p [a,b])
 | new {v:Int} {p:Nat}:0≤v→v≤1099511627776→zBf (.mk 23 e0 v p [])
 | word {k:Int} {s:ByteArray} {p:Nat}:k=24∨k=26∨k=27→zKa s=true→zBf (.mk k s 0 p [])
 | load {s:ByteArray} {p:Nat} {a:T}:zKa s=true→TmT a→zBf (.mk 25 s 0 p [a])
 | call {t:T}:zxj t→zBf t
inductive zhd (B:T→Prop):T→Prop
 | set {s:ByteArray} {p:Nat} {x:T}:zKa s=true→zBf x→zhd B (.mk 10 s 0 p [x])
 | store {s:ByteArray} {p:Nat} {a b:T}:zKa s=true→TmT a→TmT b→zhd B (.mk 11 s 0 p [a,b])
 | free {s:ByteArray} {p:Nat}:zKa s=true→zhd B (.mk 12 s 0 p [])
 | lock {k:Int} {s:ByteArray} {v:Int} {p:Nat}:k=13∨k=14→zKa s=true→0≤v→v≤1099511627776→zhd B (.mk k s v p [])
 | cond {s:ByteArray} {p:Nat} {a b c d:T}:zqo s→TmT a→TmT b→B c→(B d∨∃ q,d=.mk 9 e0 0 q [])→zhd B (.mk 15 s 0 p [a,b,c,d])
 | loop {s:ByteArray} {p:Nat} {a b c:T}:zqo s→TmT a→TmT b→B c→zhd B (.mk 16 s 0 p [a,b,c])
 | ret0 {p:Nat}:zhd B (.mk 17 e0 0 p [])
 | ret1 {p:Nat} {a:T}:TmT a→zhd B (.mk 17 e0 0 p [a])
 | abort {p:Nat}:zhd B (.mk 18 e0 0 p [])
 | fork {s:ByteArray} {p:Nat} {xs:List T}:zKa s=true→(∀ x∈xs,TmT x)→zhd B (.mk 19 s 0 p xs)
 | call {p:Nat} {c:T}:zxj c→zhd B (.mk 20 e0 0 p [c])
def zwf:Nat→T→Prop
 | 0,_=>False
 | n+1,t=>∃ p xs,t=.mk 9 e0 0 p xs∧∀ x∈xs,zhd (zwf n) x
def zHf (t:T):Prop:=zkh t∨∃ p,t=.mk 8 e0 0 p []
def FnT (t:T):Prop:=∃ s p xs r b,t=.mk 6 s 0 p (xs++[r,b])∧zKa s=true∧(∀ x∈xs,zUg x)∧zHf r∧zwf 8 b
def zll (t:T):Prop:=zGj t∨FnT t
def zbg (t:T):Prop:=∃ xs,t=.mk 0 e0 0 0 xs∧∀ x∈xs,zll x
def Gm (G:T→Prop) (t:T) (l:List Tok):Prop:=G t∧TG l
def GmL (G:T→Prop) (ts:List T) (l:List Tok):Prop:=(∀ t∈ts,G t)∧TG l
theorem Gm.or {G G':T→Prop} {r:R T} (h:Ok (Gm G) r) (hg:∀ t,G t→G' t):Ok (Gm G') r:=h.mono fun _ _ h=>⟨hg _ h.1,h.2⟩
theorem zNe {t:Tok} {l:List UInt8} (h:isT t (bs l)=true):t.text=bs l:=by
 unfold isT at h
 rw [ByteArray.toList_eq,ByteArray.toList_eq,beq_iff_eq] at h
 have h2:t.text.data=(bs l).data:=Array.toList_inj.1 h
 cases ht:t.text with
 | mk d=>rw [ht] at h2;exact congrArg ByteArray.mk h2
theorem zBe {G:T→Prop}:∀ t∈([]:List T),G t:=by intro t h;simp at h
theorem zWc {G:T→Prop} {a:T} {ts:List T} (h:G a) (hs:∀ t∈ts,G t):∀ t∈a :: ts,G t:=by
 intro u hu
 rcases List.mem_cons.1 hu with rfl|hu
 ·exact h
 ·exact hs u hu
theorem zec {l:List Tok} (h:TG l):Ok (Gm NmT) (zsa l):=by
 unfold zsa
 exact (zgc h).bd fun s l1 h1=>Ok.ok ⟨⟨_,_,rfl,h1.1⟩,h1.2⟩
theorem zeg {l:List Tok} (h:TG l):Ok (Gm TmT) (zEa l):=by
 unfold zEa
 exact Ok.cond (fun _=>(ztc h.tail).bd fun v l1 h1=>Ok.ok ⟨⟨_,_,_,rfl,by have:=h1.1;omega,.inl rfl⟩,h1.2⟩) (fun _=>(ztc h).bd fun v l1 h1=>Ok.ok ⟨⟨_,_,_,rfl,by have:=h1.1;omega,.inl rfl⟩,h1.2⟩)
theorem NmT.tm {t:T} (h:NmT t):TmT t:=by
 obtain ⟨s,p,rfl,hs⟩:=h
 exact ⟨s,0,p,rfl,by omega,.inr hs⟩
theorem NmT.zhc {t:T} (h:NmT t) {v:Int} (hv:-1099511627776≤v∧v≤1099511627776):TmT (t.zhc v):=by
 obtain ⟨s,p,rfl,hs⟩:=h
 exact ⟨s,v,p,rfl,hv,.inr hs⟩
theorem zSr {l:List Tok} {k x v:Int} (h:sumP l=some (k,x)) (hv:0≤v∧v≤1099511627776):-1099511627776≤x * v∧x * v≤1099511627776:=by
 rcases zUp h with ⟨_,rfl⟩|⟨_,rfl⟩<;>omega
theorem zbh {l:List Tok} (h:TG l):Ok (Gm TmT) (zQb l):=by
 unfold zQb
 exact Ok.cond (fun _=>(zec h).bd fun n l1 h1=>Ok.sum (fun _=>Ok.ok ⟨h1.1.tm,h1.2⟩) fun k x hs=>(ztc h1.2.tail).bd fun v l2 h2=>Ok.ok ⟨h1.1.zhc (zSr hs h2.1),h2.2⟩) (fun _=>zeg h)
theorem zQm {G:T→Prop} {item:List Tok→R T} (hi:∀ {l},TG l→Ok (Gm G) (item l)):∀ (n:Nat) {l:List Tok},TG l→Ok (GmL G) (zLe item n l)
 | 0,l,_=>Ok.err
 | n+1,l,h=>by
  rw [zLe]
  exact Ok.cond (fun _=>(hi h.tail).bd fun a l1 h1=>(zQm hi n h1.2).bd fun xs l2 h2=>Ok.ok ⟨zWc h1.1 h2.1,h2.2⟩) (fun _=>Ok.ok ⟨zBe,h⟩)
theorem zRl {G:T→Prop} {item:List Tok→R T} (hi:∀ {l},TG l→Ok (Gm G) (item l)) {l:List Tok} (h:TG l):Ok (GmL G) (zHd item l):=by
 unfold zHd
 exact (hi h).bd fun a l1 h1=>(zQm hi _ h1.2).bd fun xs l2 h2=>Ok.ok ⟨zWc h1.1 h2.1,h2.2⟩
theorem zfi {G:T→Prop} {item:List Tok→R T} (hi:∀ {l},TG l→Ok (Gm G) (item l)) {l:List Tok} (h:TG l):Ok (GmL G) (zjb item l):=by
 unfold zjb
 exact (zwa h).bd fun _ l1 h1=>Ok.cond (fun _=>Ok.ok ⟨zBe,h1.2.tail⟩) (fun _=>(zRl hi h1.2).bd fun xs l2 h2=>(zwa h2.2).bd fun _ l3 h3=>Ok.ok ⟨h2.1,h3.2⟩)
theorem zVm {l:List Tok} (h:TG l):Ok (Gm TmT) (zqc l):=by
 unfold zqc
 exact (zwa h).bd fun _ l1 h1=>(zbh h1.2).bd fun a l2 h2=>(zwa h2.2).bd fun _ l3 h3=>Ok.ok ⟨h2.1,h3.2⟩
theorem zto {n:T} (hn:NmT n) {l:List Tok} (h:TG l):Ok (Gm zxj) (zae n l):=by
 unfold zae
 obtain ⟨s,p,rfl,hs⟩:=hn
 exact (zfi zbh h).bd fun xs l1 h1=>Ok.ok ⟨⟨_,_,xs,rfl,hs,h1.1⟩,h1.2⟩
theorem ref_m (p:Nat) {l:List Tok} (h:TG l):Ok (Gm zBf) (zti p l):=by
 unfold zti
 exact Ok.cond (fun _=>(zgc h.tail).bd fun s l1 h1=>Ok.ok ⟨.word (by omega) h1.1,h1.2⟩) (fun _=>(zgc h).bd fun s l1 h1=>Ok.ok ⟨.word (by omega) h1.1,h1.2⟩)
theorem zXk {l:List Tok} (h:TG l):Ok (Gm zBf) (zza l):=by
 unfold zza
 refine (zec h).bd fun n l1 h1=>Ok.cond (fun _=>(zVm h1.2).bd fun a l2 h2=>Ok.ok ⟨?_,h2.2⟩) fun _=>Ok.cond (fun _=>Gm.or (zto h1.1 h1.2) fun _ h=>.call h) fun _=>Ok.sum (fun _=>Ok.ok ⟨.term h1.1.tm,h1.2⟩) fun k x hs =>
  Ok.cond (fun _=>(zec h1.2.tail).bd fun m l2 h2=>Ok.ok ⟨?_,h2.2⟩) (fun _=>(ztc h1.2.tail).bd fun v l2 h2=>Ok.ok ⟨.term (h1.1.zhc (zSr hs h2.1)),h2.2⟩)
 ·obtain ⟨s,p,rfl,hs⟩:=h1.1
  exact .load hs h2.1
 ·exact .sum (zyk hs) h1.1 h2.1
theorem zBq {l:List Tok} (h:TG l):Ok (Gm zBf) (zyc l):=by
 unfold zyc
 exact Ok.cond (fun _=>(ztc h.tail).bd fun v l1 h1=>Ok.ok ⟨.new h1.1.1 h1.1.2,h1.2⟩) fun _=>Ok.cond (fun _=>(zgc h.tail).bd fun s l1 h1=>Ok.ok ⟨.word (by omega) h1.1,h1.2⟩) fun _ =>
  Ok.cond (fun _=>ref_m _ h.tail) fun _=>Ok.cond (fun _=>zXk h) fun _=>Gm.or (zeg h) fun _ h=>.term h
def CpT (k:Int) (p:Nat) (t:T):Prop:=∃ s a b,t=.mk k s 0 p [a,b]∧zqo s∧TmT a∧TmT b
theorem zqh (k:Int) (p:Nat) {l:List Tok} (h:TG l):Ok (Gm (CpT k p)) (zUa k p l):=by
 unfold zUa
 refine (zbh h).bd fun a l1 h1=>(zwa h1.2).bd fun c l2 h2=>(zbh h2.2).bd fun b l3 h3=>Ok.ok ⟨⟨_,a,b,rfl,?_,h1.1,h3.1⟩,h3.2⟩
 have h4:=h2.1
 simp only [List.any_cons,List.any_nil,Bool.or_false,Bool.or_eq_true] at h4
 rcases h4 with h4|h4|h4
 ·exact .inl (zNe h4)
 ·exact .inr (.inl (zNe h4))
 ·exact .inr (.inr (zNe h4))
theorem zIr {l:List Tok} (h:TG l):Ok (Gm zTj) (zwe l):=by
 unfold zwe
 exact (zqh 4 _ h).mono fun t l' ⟨⟨s,a,b,e,hc,ha,hb⟩,h'⟩=>⟨⟨s,_,a,b,e,hc,ha,hb⟩,h'⟩
theorem ziq {l:List Tok} (h:TG l):Ok (Gm zzh) (zfc l):=by
 unfold zfc
 exact (zgc h).bd fun s l1 h1=>Ok.cond (fun _=>(zec h1.2.tail).bd fun a l2 h2=>(zwa h2.2).bd fun _ l3 h3=>Ok.ok ⟨.inr ⟨s,_,a,rfl,h1.1,h2.1⟩,h3.2⟩) (fun _=>Ok.ok ⟨.inl ⟨s,_,rfl,h1.1⟩,h1.2⟩)
theorem zsr {l:List Tok} (h:TG l):Ok (Gm zol) (zNd l):=by
 unfold zNd
 refine (zwa h).bd fun t l1 h1=>Ok.cond (fun hc=>Ok.ok ⟨.inl ⟨_,_,rfl,?_⟩,h1.2⟩) (fun hc=>(zec h1.2).bd fun a l2 h2=>Ok.ok ⟨.inr ⟨_,_,a,rfl,?_,h2.1⟩,h2.2⟩)
 ·rcases Bool.or_eq_true _ _ |>.mp hc with h4|h4
  ·exact .inl (zNe h4)
  ·exact .inr (zNe h4)
 ·have h4:=h1.1
  simp only [List.any_cons,List.any_nil,Bool.or_false,Bool.or_eq_true] at h4
  rw [Bool.or_eq_false_iff] at hc
  rcases h4 with h4|h4|h4|h4|h4
  ·rw [hc.1] at h4;cases h4
  ·rw [hc.2] at h4;cases h4
  ·exact .inl (zNe h4)
  ·exact .inr (.inl (zNe h4))
  ·exact .inr (.inr (zNe h4))
theorem zZg {l:List Tok} (h:TG l):Ok (Gm zkh) (zLa l):=by
 unfold zLa
 refine (zwa h).bd fun t l1 h1=>Ok.cond (fun hc=>(zec h1.2).bd fun a l2 h2=>Ok.ok ⟨.inr ⟨t.place,a,?_,h2.1⟩,h2.2⟩) (fun hc=>Ok.ok ⟨.inl ⟨t.place,?_⟩,h1.2⟩)
 ·rw [zNe hc]
 ·have h4:=h1.1
  simp only [List.any_cons,List.any_nil,Bool.or_false,Bool.or_eq_true] at h4
  rcases h4 with h4|h4
  ·rw [zNe h4]
  ·rw [hc] at h4;cases h4
theorem zvr {l:List Tok} (h:TG l):Ok (Gm zSk) (zBd l):=by
 unfold zBd
 exact Ok.cond (fun _=>Ok.cond (fun _=>(zec h.tail.tail).bd fun a l2 h2=>Ok.ok ⟨.inr (.inl ⟨_,a,rfl,h2.1⟩),h2.2⟩) (fun _=>(zec h.tail).bd fun a l2 h2=>Ok.ok ⟨.inl ⟨_,a,rfl,h2.1⟩,h2.2⟩)) (fun _=>Gm.or (zZg h) fun _ h=>.inr (.inr h))
theorem zwp {l:List Tok} (h:TG l):Ok (Gm zUg) (zzc l):=by
 unfold zzc
 exact (zgc h).bd fun s l1 h1=>(zwa h1.2).bd fun _ l2 h2=>(zvr h2.2).bd fun a l3 h3=>Ok.ok ⟨⟨s,_,a,rfl,h1.1,h3.1⟩,h3.2⟩
theorem zao {l:List Tok} (h:TG l):Ok (GmL zzh) (zTc l):=by
 unfold zTc
 exact Ok.cond (fun _=>(zRl ziq h.tail).bd fun xs l1 h1=>(zwa h1.2).bd fun _ l2 h2=>Ok.ok ⟨h1.1,h2.2⟩) (fun _=>Ok.ok ⟨zBe,h⟩)
theorem zRp {l:List Tok} (h:TG l):Ok (GmL zTj) (zbd l):=by
 unfold zbd
 exact Ok.cond (fun _=>zRl zIr h.tail) (fun _=>Ok.ok ⟨zBe,h⟩)
theorem zLq (p:Nat) {l:List Tok} (h:TG l):Ok (Gm zGj) (zMb p l):=by
 unfold zMb
 exact (zgc h).bd fun s l1 h1=>(zsr h1.2).bd fun a l2 h2=>(zao h2.2).bd fun ys l3 h3=>(zRp h3.2).bd fun zs l4 h4=>(zwa h4.2).bd fun _ l5 h5=>Ok.ok ⟨⟨s,p,a,ys,zs,rfl,h1.1,h2.1,h3.1,h4.1⟩,h5.2⟩
theorem zCo {B:T→Prop} {k:Int} (hk:k=13∨k=14) (p:Nat) {l:List Tok} (h:TG l):Ok (Gm (zhd B)) (zAd k p l):=by
 unfold zAd
 exact (zgc h).bd fun s l1 h1=>(zwa h1.2).bd fun _ l2 h2=>(ztc h2.2).bd fun v l3 h3=>(zwa h3.2).bd fun _ l4 h4=>Ok.ok ⟨.lock hk h1.1 h3.1.1 h3.1.2,h4.2⟩
theorem zJn {B:T→Prop} (p:Nat) {l:List Tok} (h:TG l):Ok (Gm (zhd B)) (zYb p l):=by
 unfold zYb
 exact Ok.cond (fun _=>Ok.ok ⟨.ret0,h⟩) (fun _=>(zbh h).bd fun a l1 h1=>Ok.ok ⟨.ret1 h1.1,h1.2⟩)
theorem zOp {B:T→Prop} {l:List Tok} (h:TG l):Ok (Gm (zhd B)) (zxb l):=by
 unfold zxb
 refine (zec h).bd fun n l1 h1=>?_
 obtain ⟨⟨s,p,rfl,hs⟩,ht⟩:=h1
 exact Ok.cond (fun _=>(zto ⟨s,p,rfl,hs⟩ ht).bd fun c l2 h2=>Ok.ok ⟨.call h2.1,h2.2⟩) fun _ =>
  Ok.cond (fun _=>(zVm ht).bd fun i l2 h2=>(zwa h2.2).bd fun _ l3 h3=>(zbh h3.2).bd fun b l4 h4=>Ok.ok ⟨.store hs h2.1 h4.1,h4.2⟩) fun _ =>
  (zwa ht).bd fun _ l2 h2=>(zBq h2.2).bd fun x l3 h3=>Ok.ok ⟨.set hs h3.1,h3.2⟩
theorem zzn {B:T→Prop} {l:List Tok} (h:TG l):Ok (Gm (zhd B)) (zIa l):=by
 unfold zIa
 exact Ok.cond (fun _=>zOp h) fun _=>Ok.cond (fun _=>(zgc h.tail).bd fun s l1 h1=>Ok.ok ⟨.free h1.1,h1.2⟩) fun _=>Ok.cond (fun _=>zCo (.inl rfl) _ h.tail) fun _=>Ok.cond (fun _=>zCo (.inr rfl) _ h.tail) fun _ =>
  Ok.cond (fun _=>zJn _ h.tail) fun _=>Ok.cond (fun _=>Ok.ok ⟨.abort,h.tail⟩) fun _=>Ok.cond (fun _=>(zgc h.tail).bd fun s l1 h1=>(zfi zbh h1.2).bd fun xs l2 h2=>Ok.ok ⟨.fork h1.1 h2.1,h2.2⟩) fun _=>Ok.err
theorem zSq {B:T→Prop} {blk:List Tok→R T} (hb:∀ {l},TG l→Ok (Gm B) (blk l)) (p:Nat) {l:List Tok} (h:TG l):Ok (Gm fun d=>B d∨∃ q,d=.mk 9 e0 0 q []) (zUf blk p l):=by
 unfold zUf
 exact Ok.cond (fun _=>Gm.or (hb h.tail) fun _ h=>.inl h) (fun _=>Ok.ok ⟨.inr ⟨p,rfl⟩,h⟩)
theorem if_m {B:T→Prop} {blk:List Tok→R T} (hb:∀ {l},TG l→Ok (Gm B) (blk l)) (p:Nat) {l:List Tok} (h:TG l):Ok (Gm (zhd B)) (ifP blk p l):=by
 unfold ifP
 refine (zqh 15 p h).bd fun n l1 h1=>(hb h1.2).bd fun c l2 h2=>(zSq hb p h2.2).bd fun d l3 h3=>Ok.ok ⟨?_,h3.2⟩
 obtain ⟨s,a,b,rfl,hc,ha,hb'⟩:=h1.1
 exact .cond hc ha hb' h2.1 h3.1
theorem zWo {B:T→Prop} {blk:List Tok→R T} (hb:∀ {l},TG l→Ok (Gm B) (blk l)) (p:Nat) {l:List Tok} (h:TG l):Ok (Gm (zhd B)) (zke blk p l):=by
 unfold zke
 refine (zqh 16 p h).bd fun n l1 h1=>(hb h1.2).bd fun c l2 h2=>Ok.ok ⟨?_,h2.2⟩
 obtain ⟨s,a,b,rfl,hc,ha,hb'⟩:=h1.1
 exact .loop hc ha hb' h2.1
theorem zuq {B:T→Prop} {blk:List Tok→R T} (hb:∀ {l},TG l→Ok (Gm B) (blk l)) {l:List Tok} (h:TG l):Ok (Gm (zhd B)) (zHc blk l):=by
 unfold zHc
 exact Ok.cond (fun _=>if_m hb _ h.tail) fun _=>Ok.cond (fun _=>zWo hb _ h.tail) fun _=>(zzn h).bd fun n l1 h1=>(zwa h1.2).bd fun _ l2 h2=>Ok.ok ⟨h1.1,h2.2⟩
theorem zxk {G:T→Prop} {item:List Tok→R T} (hi:∀ {l},TG l→Ok (Gm G) (item l)):∀ (n:Nat) {l:List Tok},TG l→Ok (GmL G) (zPc item n l)
 | 0,l,_=>Ok.err
 | n+1,l,h=>by
  rw [zPc]
  exact Ok.cond (fun _=>Ok.ok ⟨zBe,h.tail⟩) (fun _=>(hi h).bd fun a l1 h1=>(zxk hi n h1.2).bd fun xs l2 h2=>Ok.ok ⟨zWc h1.1 h2.1,h2.2⟩)
theorem zgm:∀ (n:Nat) {l:List Tok},TG l→Ok (Gm (zwf n)) (zhb n l)
 | 0,l,h=>by
  rw [zhb]
  exact (zwa h).bd fun _ _ _=>Ok.err
 | n+1,l,h=>by
  rw [zhb]
  exact (zwa h).bd fun t l1 h1=>(zxk (zuq (zgm n)) _ h1.2).bd fun xs l2 h2=>Ok.ok ⟨⟨_,xs,rfl,h2.1⟩,h2.2⟩
theorem zMn {l:List Tok} (h:TG l):Ok (Gm zHf) (zRc l):=by
 unfold zRc
 exact Ok.cond (fun _=>Gm.or (zZg h.tail) fun _ h=>.inl h) (fun _=>Ok.ok ⟨.inr ⟨_,rfl⟩,h⟩)
theorem fn_m (p:Nat) {l:List Tok} (h:TG l):Ok (Gm FnT) (fnP p l):=by
 unfold fnP
 exact (zgc h).bd fun s l1 h1=>(zfi zwp h1.2).bd fun xs l2 h2=>(zMn h2.2).bd fun r l3 h3=>(zgm 8 h3.2).bd fun b l4 h4=>Ok.ok ⟨⟨s,p,xs,r,b,rfl,h1.1,h2.1,h3.1,h4.1⟩,h4.2⟩
theorem zbr {l:List Tok} (h:TG l):Ok (Gm zll) (zGd l):=by
 unfold zGd
 exact (zwa h).bd fun t l1 h1=>Ok.cond (fun _=>Gm.or (zLq _ h1.2) fun _ h=>.inl h) (fun _=>Gm.or (fn_m _ h1.2) fun _ h=>.inr h)
theorem zhm:∀ (n:Nat) {l:List Tok},TG l→Ok (GmL zll) (zVd n l)
 | 0,l,_=>Ok.err
 | n+1,l,h=>by
  rw [zVd]
  exact Ok.cond (fun _=>Ok.ok ⟨zBe,h⟩) (fun _=>(zbr h).bd fun a l1 h1=>(zhm n h1.2).bd fun xs l2 h2=>Ok.ok ⟨zWc h1.1 h2.1,h2.2⟩)
theorem zDq {l:List Tok} (h:TG l):Ok (Gm zbg) (zqd l):=by
 unfold zqd
 exact (zhm _ h).bd fun xs l1 h1=>Ok.ok ⟨⟨xs,rfl,h1.1⟩,h1.2⟩
theorem zAh:zbg zWb:=⟨[],rfl,zBe⟩
theorem zbi (s:ByteArray):zbg (zlb s).1:=by
 unfold zlb
 cases hl:zLc s with
 | error e=>exact zAh
 | ok ts =>
  simp only
  unfold zpc
  cases hu:zqd ts with
  | error e=>exact zAh
  | ok q =>
   obtain ⟨t,l⟩:=q
   simp only
   by_cases hs:4096<t.size
   ·rw [if_pos hs];exact zAh
   ·rw [if_neg hs];exact (zDq (zcj hl) _ _ hu).1
end Go.Proofs.YthdbmgijpelecaaGreatDoor
namespace Go.Proofs.YthdbmgijpelecaaGreatDoor
open Go.RowKit
def zZj (s:ByteArray) (n:Int):Prop:=s.size≤16∧-1099511627776≤n∧n≤1099511627776
mutual
def T.small:T→Prop
 | .mk _ s n _ ks=>zZj s n∧smalls ks
def smalls:List T→Prop
 | []=>True
 | t :: ts=>t.small∧smalls ts
end
theorem zGa {k:Int} {s:ByteArray} {n:Int} {p:Nat} {ks:List T}:(T.mk k s n p ks).small↔zZj s n∧smalls ks:=by rw [T.small]
theorem zYh:smalls []:=by rw [smalls];trivial
theorem zbf {t:T} {ts:List T}:smalls (t :: ts)↔t.small∧smalls ts:=by rw [smalls]
theorem zUh:∀ {ts:List T},(∀ t∈ts,t.small)→smalls ts
 | [],_=>zYh
 | t :: ts,h=>zbf.2 ⟨h t (by simp),zUh fun u hu=>h u (by simp [hu])⟩
theorem zTh:∀ {ts:List T} {t:T},smalls ts→t∈ts→t.small
 | a :: ts,t,h,hm=>by
  rw [zbf] at h
  rcases List.mem_cons.1 hm with rfl|hm
  ·exact h.1
  ·exact zTh h.2 hm
theorem zNj {s:ByteArray} (h:zKa s=true):s.size≤16:=by
 unfold zKa at h
 simp only [Bool.and_eq_true,decide_eq_true_eq] at h
 exact h.1.1.1.2
theorem zib {k:Int} {s:ByteArray} {n:Int} {p:Nat} (h:zZj s n):(T.mk k s n p []).small:=zGa.2 ⟨h,zYh⟩
theorem zTa {k:Int} {s:ByteArray} {n:Int} {p:Nat} {ks:List T} (h:zZj s n) (hk:∀ t∈ks,t.small):(T.mk k s n p ks).small:=zGa.2 ⟨h,zUh hk⟩
theorem zCd {G:T→Prop} {a:T} (h:G a):∀ t∈[a],G t:=zWc h zBe
theorem zLf {G:T→Prop} {a b:T} (h:G a) (h':G b):∀ t∈[a,b],G t:=zWc h (zCd h')
theorem zxd {s:ByteArray} (h:s.size≤16):zZj s 0:=⟨h,by omega,by omega⟩
theorem zSc {s:ByteArray} (h:zKa s=true):zZj s 0:=zxd (zNj h)
theorem zde:zZj e0 0:=zxd (by decide)
theorem NmT.small {t:T} (h:NmT t):t.small:=by
 obtain ⟨s,p,rfl,hs⟩:=h
 exact zib (zSc hs)
theorem TmT.small {t:T} (h:TmT t):t.small:=by
 obtain ⟨s,n,p,rfl,hn,rfl|hs⟩:=h
 ·exact zib ⟨by decide,hn⟩
 ·exact zib ⟨zNj hs,hn⟩
theorem zqo.le {s:ByteArray} (h:zqo s):s.size≤16:=by rcases h with rfl|rfl|rfl<;>decide
theorem zTj.small {t:T} (h:zTj t):t.small:=by
 obtain ⟨s,p,a,b,rfl,hc,ha,hb⟩:=h
 exact zTa (zxd hc.le) (zLf ha.small hb.small)
theorem zzh.small {t:T} (h:zzh t):t.small:=by
 rcases h with ⟨s,p,rfl,hs⟩|⟨s,p,a,rfl,hs,ha⟩
 ·exact zib (zSc hs)
 ·exact zTa (zSc hs) (zCd ha.small)
theorem zol.small {t:T} (h:zol t):t.small:=by
 rcases h with ⟨s,p,rfl,hs⟩|⟨s,p,a,rfl,hs,ha⟩
 ·rcases hs with rfl|rfl<;>exact zib (zxd (by decide))
 ·rcases hs with rfl|rfl|rfl<;>exact zTa (zxd (by decide)) (zCd ha.small)
theorem zkh.small {t:T} (h:zkh t):t.small:=by
 rcases h with ⟨p,rfl⟩|⟨p,a,rfl,ha⟩
 ·exact zib (zxd (by decide))
 ·exact zTa (zxd (by decide)) (zCd ha.small)
theorem zSk.small {t:T} (h:zSk t):t.small:=by
 rcases h with ⟨p,a,rfl,ha⟩|⟨p,a,rfl,ha⟩|h
 ·exact zTa (zxd (by decide)) (zCd ha.small)
 ·exact zTa (zxd (by decide)) (zCd ha.small)
 ·exact h.small
theorem zUg.small {t:T} (h:zUg t):t.small:=by
 obtain ⟨s,p,a,rfl,hs,ha⟩:=h
 exact zTa (zSc hs) (zCd ha.small)
theorem zGj.small {t:T} (h:zGj t):t.small:=by
 obtain ⟨s,p,a,ys,zs,rfl,hs,ha,hy,hz⟩:=h
 refine zTa (zSc hs) (zWc ha.small fun u hu=>?_)
 rcases List.mem_append.1 hu with hu|hu
 ·exact (hy u hu).small
 ·exact (hz u hu).small
theorem zxj.small {t:T} (h:zxj t):t.small:=by
 obtain ⟨s,p,xs,rfl,hs,hx⟩:=h
 exact zTa (zSc hs) fun u hu=>(hx u hu).small
theorem zBf.small {t:T} (h:zBf t):t.small:=by
 cases h with
 | term h=>exact h.small
 | sum _ ha hb=>exact zTa zde (zLf ha.small hb.small)
 | new h0 h1=>exact zib ⟨by decide,by omega,h1⟩
 | word _ h=>exact zib (zSc h)
 | load h ha=>exact zTa (zSc h) (zCd ha.small)
 | call h=>exact h.small
theorem zhd.small {B:T→Prop} (hB:∀ t,B t→t.small) {t:T} (h:zhd B t):t.small:=by
 cases h with
 | set h hx=>exact zTa (zSc h) (zCd hx.small)
 | store h ha hb=>exact zTa (zSc h) (zLf ha.small hb.small)
 | free h=>exact zib (zSc h)
 | lock _ h h0 h1=>exact zib ⟨zNj h,by omega,h1⟩
 | cond hc ha hb hC hD =>
  refine zTa (zxd hc.le) (zWc ha.small (zWc hb.small (zLf (hB _ hC) ?_)))
  rcases hD with hD|⟨q,rfl⟩
  ·exact hB _ hD
  ·exact zib zde
 | loop hc ha hb hC=>exact zTa (zxd hc.le) (zWc ha.small (zLf hb.small (hB _ hC)))
 | ret0=>exact zib zde
 | ret1 ha=>exact zTa zde (zCd ha.small)
 | abort=>exact zib zde
 | fork h hx=>exact zTa (zSc h) fun u hu=>(hx u hu).small
 | call h=>exact zTa zde (zCd h.small)
theorem zwf.small:∀ {n:Nat} {t:T},zwf n t→t.small
 | n+1,t,h=>by
  obtain ⟨p,xs,rfl,hx⟩:=h
  exact zTa zde fun u hu=>zhd.small (fun _ h=>zwf.small h) (hx u hu)
theorem zHf.small {t:T} (h:zHf t):t.small:=by
 rcases h with h|⟨p,rfl⟩
 ·exact h.small
 ·exact zib zde
theorem FnT.small {t:T} (h:FnT t):t.small:=by
 obtain ⟨s,p,xs,r,b,rfl,hs,hx,hr,hb⟩:=h
 refine zTa (zSc hs) fun u hu=>?_
 rcases List.mem_append.1 hu with hu|hu
 ·exact (hx u hu).small
 ·exact zLf hr.small hb.small u hu
theorem zbg.small {t:T} (h:zbg t):t.small:=by
 obtain ⟨xs,rfl,hx⟩:=h
 exact zTa zde fun u hu=>(hx u hu).elim zGj.small FnT.small
theorem zxh (s:ByteArray):(zlb s).1.small:=(zbi s).small
def zzg (xs:List (List UInt8)):Nat:=(xs.map List.length).sum
theorem zVn:zzg []=0:=rfl
theorem zOd (x:List UInt8) (xs:List (List UInt8)):zzg (x :: xs)=x.length+zzg xs:=by unfold zzg;simp
theorem zHe:∀ xs:List (List UInt8),(commas xs).length≤zzg xs+2 * xs.length
 | []=>by simp [commas]
 | a :: r=>by
  have h:∀ r:List (List UInt8),(r.flatMap fun x=>[44,32]++x).length=zzg r+2 * r.length:=by
   intro r
   induction r with
   | nil=>rfl
   | cons b r ih=>rw [List.flatMap_cons,List.length_append,ih,zOd];simp;omega
  simp only [commas,List.length_append,h,zOd,List.length_cons]
  omega
theorem zpk:∀ xs:List (List UInt8),(xs.getD 0 []).length+(xs.getD 1 []).length+(xs.getD 2 []).length+(xs.getD 3 []).length≤zzg xs
 | []=>by simp
 | [a]=>by simp [zzg]
 | [a,b]=>by simp [zzg]
 | [a,b,c]=>by simp [zzg];omega
 | a :: b :: c :: d :: r=>by simp [zOd];omega
theorem take_len (xs:List (List UInt8)) (k:Nat):zzg (xs.take k)+zzg (xs.drop k)=zzg xs:=by
 unfold zzg
 rw [← List.sum_append,← List.map_append,List.take_append_drop]
theorem zDm (a b:List UInt8) (xs:List (List UInt8)):(maybe a b xs).length≤a.length+b.length+zzg xs:=by
 cases xs with
 | nil=>simp [maybe]
 | cons x r=>simp [maybe,zOd];omega
theorem zji (f:List UInt8→List UInt8) (c:Nat) (hf:∀ x,(f x).length≤x.length+c):∀ xs:List (List UInt8),(xs.flatMap f).length≤zzg xs+c * xs.length
 | []=>by simp
 | a :: r=>by
  have h1:=zji f c hf r
  have h2:=hf a
  rw [List.flatMap_cons,List.length_append,zOd,List.length_cons,Nat.mul_succ]
  omega
theorem zBl {n:Int} (h:-1099511627776≤n∧n≤1099511627776):(dec n).length≤21:=Lib.itoa_length_le n (by omega) (by omega)
theorem getD_drop (xs:List (List UInt8)) (k:Nat):(xs.getD k []).length+(xs.getD (k+1) []).length≤zzg (xs.drop k):=by
 have h:=zpk (xs.drop k)
 simp only [List.getD_eq_getElem?_getD,List.getElem?_drop,Nat.add_zero] at h ⊢
 omega
theorem len_ite {c:Prop} [Decidable c] {a b:List UInt8} {n:Nat} (ha:c→a.length≤n) (hb:¬ c→b.length≤n):(if c then a else b).length≤n:=by
 by_cases h:c
 ·rw [if_pos h];exact ha h
 ·rw [if_neg h];exact hb h
theorem zun {k:Int} {s:List UInt8} {n:Int} {ks:List T} {xs:List (List UInt8)} (hs:s.length≤16) (hn:-1099511627776≤n∧n≤1099511627776) (h6:k=6→2≤ks.length):(zpa k s n ks xs).length≤100+zzg xs+2 * xs.length:=by
 have h4:=zpk xs
 have hd:=zBl hn
 have hc:=zHe xs
 have hm:=fun a b=>zDm a b xs
 have hcmp:(zrb s xs).length≤18+(xs.getD 0 []).length+(xs.getD 1 []).length:=by unfold zrb;simp only [List.length_append,List.length_cons,List.length_nil];omega
 have hcall:(zUb s xs).length≤18+zzg xs+2 * xs.length:=by unfold zUb;simp only [List.length_append,List.length_cons,List.length_nil];omega
 unfold zpa
 refine len_ite (fun hk=>?_) (fun _=>?_)
 ·have:=zji (fun x=>x++[10]) 1 (fun x=>by simp) xs;omega
 refine len_ite (fun hk=>?_) (fun _=>?_)
 ·unfold zJg
  have h1:zzg xs=(xs.getD 0 []).length+zzg xs.tail:=by cases xs<;>simp [zzg]
  have h2:=take_len xs.tail (zha ks.tail)
  have h3:=zHe (xs.tail.take (zha ks.tail))
  have h5:=zHe (xs.tail.drop (zha ks.tail))
  have h6:(xs.tail.take (zha ks.tail)).length+(xs.tail.drop (zha ks.tail)).length≤xs.length:=by simp only [List.length_take,List.length_drop,List.length_tail];omega
  split<;>split<;>simp only [List.length_append,List.length_cons,List.length_nil]<;>omega
 refine len_ite (fun hk=>?_) (fun _=>?_)
 ·have:=hm [32] [];simp only [List.length_append,List.length_cons,List.length_nil] at *;omega
 refine len_ite (fun hk=>?_) (fun _=>?_)
 ·have:=hm [91] [93];simp only [List.length_append,List.length_cons,List.length_nil] at *;omega
 refine len_ite (fun hk=>?_) (fun _=>?_)
 ·omega
 refine len_ite (fun hk=>?_) (fun _=>?_)
 ·unfold zJb
  split
  ·omega
  ·split
   ·simp only [List.length_append,List.length_cons,List.length_nil];omega
   ·split
    ·simp only [List.length_append,List.length_cons,List.length_nil,List.length_drop];omega
    ·omega
 refine len_ite (fun hk=>?_) (fun _=>?_)
 ·have h2l:=h6 hk
  unfold zLl
  have h2:=take_len xs (ks.length-2)
  have h3:=zHe (xs.take (ks.length-2))
  have h5:=getD_drop xs (ks.length-2)
  have h6:(xs.take (ks.length-2)).length≤xs.length:=by simp only [List.length_take];omega
  have h7:(if (ks.getD (ks.length-2) zWb).text.size=0 then [] else [32,45,62,32]++xs.getD (ks.length-2) []).length≤4+(xs.getD (ks.length-2) []).length:=by split<;>simp only [List.length_append,List.length_cons,List.length_nil]<;>omega
  rw [show ks.length-1=ks.length-2+1 from by omega]
  simp only [List.length_append,List.length_cons,List.length_nil] at *;omega
 refine len_ite (fun hk=>?_) (fun _=>?_)
 ·simp only [List.length_append,List.length_cons,List.length_nil];omega
 refine len_ite (fun hk=>?_) (fun _=>?_)
 ·unfold zHb
  have:=hm [] []
  split
  ·simp only [List.length_append,List.length_cons,List.length_nil] at *;omega
  ·split
   ·simp only [List.length_append,List.length_nil] at *;omega
   ·omega
 refine len_ite (fun hk=>?_) (fun _=>?_)
 ·simp only [List.length_append,List.length_cons,List.length_nil];omega
 refine len_ite (fun hk=>?_) (fun _=>?_)
 ·simp only [List.length_append,List.length_cons,List.length_nil];omega
 refine len_ite (fun hk=>?_) (fun _=>?_)
 ·simp only [List.length_append,List.length_cons,List.length_nil];omega
 refine len_ite (fun hk=>?_) (fun _=>?_)
 ·simp only [List.length_append,List.length_cons,List.length_nil];omega
 refine len_ite (fun hk=>?_) (fun _=>?_)
 ·simp only [List.length_append,List.length_cons,List.length_nil];omega
 refine len_ite (fun hk=>?_) (fun _=>?_)
 ·unfold zSg
  have h7:(if (ks.getD 3 zWb).kids.length=0 then [] else [32,101,108,115,101,32]++xs.getD 3 []).length≤6+(xs.getD 3 []).length:=by split<;>simp only [List.length_append,List.length_cons,List.length_nil]<;>omega
  simp only [List.length_append,List.length_cons,List.length_nil] at *;omega
 refine len_ite (fun hk=>?_) (fun _=>?_)
 ·simp only [List.length_append,List.length_cons,List.length_nil];omega
 refine len_ite (fun hk=>?_) (fun _=>?_)
 ·have:=hm [32] [];simp only [List.length_append,List.length_cons,List.length_nil] at *;omega
 refine len_ite (fun hk=>?_) (fun _=>?_)
 ·simp only [List.length_cons,List.length_nil];omega
 refine len_ite (fun hk=>?_) (fun _=>?_)
 ·simp only [List.length_append,List.length_cons,List.length_nil];omega
 refine len_ite (fun hk=>?_) (fun _=>?_)
 ·simp only [List.length_append,List.length_cons,List.length_nil];omega
 refine len_ite (fun hk=>?_) (fun _=>?_)
 ·simp only [List.length_append,List.length_cons,List.length_nil];omega
 refine len_ite (fun hk=>?_) (fun _=>?_)
 ·simp only [List.length_append,List.length_cons,List.length_nil];omega
 refine len_ite (fun hk=>?_) (fun _=>?_)
 ·simp only [List.length_append,List.length_cons,List.length_nil];omega
 refine len_ite (fun hk=>?_) (fun _=>?_)
 ·simp only [List.length_append,List.length_cons,List.length_nil];omega
 refine len_ite (fun hk=>?_) (fun _=>?_)
 ·simp only [List.length_append,List.length_cons,List.length_nil];omega
 refine len_ite (fun hk=>?_) (fun _=>?_)
 ·simp only [List.length_append,List.length_cons,List.length_nil];omega
 refine len_ite (fun hk=>?_) (fun _=>?_)
 ·simp only [List.length_append,List.length_cons,List.length_nil];omega
 omega
theorem zCp {ks:List T} (h:Fit 6 ks):2≤ks.length:=by
 cases h<;>first|omega|(simp;done)|simp at *
theorem zAm (d:Nat) (xs:List (List UInt8)):(zdc d xs).length≤3+4 * d+zzg xs+(4 * d+5) * xs.length:=by
 unfold zdc blanks
 have h:=zji (fun x=>List.replicate (4 * (d+1)) 32++(x++[10])) (4 * d+5) (fun x=>by simp only [List.length_append,List.length_replicate,List.length_cons,List.length_nil];omega) xs
 simp only [List.length_append,List.length_replicate,List.length_cons,List.length_nil] at *
 omega
mutual
theorem zUl (D:Nat):∀ (t:T) (d:Nat),t.small→t.whole→d+t.size≤D→(shw d t).length+(4 * D+10)≤t.size * (8 * D+200)
 | .mk k s n p ks,d,hs,hw,hd=>by
  rw [zGa] at hs
  rw [zAa] at hw
  rw [size_mk] at hd ⊢
  have h9:=zzk D ks (if k=9 then d+1 else d) hs.2 hw.2 (by split<;>omega)
  have hl:=zac (if k=9 then d+1 else d) ks
  have hk:=zua ks
  rw [zva]
  have hmul:(1+sizes ks) * (8 * D+200)=8 * D+200+sizes ks * (8 * D+200):=by rw [Nat.add_mul];omega
  rw [hmul]
  have hmul2:ks.length * (4 * D+10)=ks.length * (4 * D+10):=rfl
  split
  ·rename_i h
   rw [if_pos h] at h9 hl
   have hb:=zAm d (zQa (d+1) ks)
   rw [hl] at hb
   have:(4 * d+5) * ks.length≤ks.length * (4 * D+10):=by rw [Nat.mul_comm];exact Nat.mul_le_mul_left _ (by omega)
   omega
  ·rename_i h
   rw [if_neg h] at h9 hl
   have hb:=zun (k:=k) (s:=tb s) (n:=n) (ks:=ks) (xs:=zQa d ks) (by unfold tb;have:=hs.1.1;simpa using this) hs.1.2 (fun h=>by subst h;exact zCp hw.1)
   rw [hl] at hb
   have:2 * ks.length≤ks.length * (4 * D+10):=by rw [Nat.mul_comm];exact Nat.mul_le_mul_left _ (by omega)
   omega
theorem zzk (D:Nat):∀ (ts:List T) (d:Nat),smalls ts→zQc ts→d+sizes ts≤D→zzg (zQa d ts)+ts.length * (4 * D+10)≤sizes ts * (8 * D+200)
 | [],d,_,_,_=>by rw [zSa,zVn];simp
 | t :: ts,d,hs,hw,hd=>by
  rw [zbf] at hs
  rw [zYa] at hw
  rw [zoa] at hd ⊢
  have h1:=zUl D t d hs.1 hw.1 (by omega)
  have h2:=zzk D ts d hs.2 hw.2 (by omega)
  have h3:(t.size+sizes ts) * (8 * D+200)=t.size * (8 * D+200)+sizes ts * (8 * D+200):=Nat.add_mul _ _ _
  have h4:(ts.length+1) * (4 * D+10)=ts.length * (4 * D+10)+(4 * D+10):=Nat.succ_mul _ _
  rw [zya,zOd,List.length_cons,h3,h4]
  omega
end
theorem zRi {t:T} {d:Nat} (hs:t.small) (hw:t.whole) (hz:t.size≤5000) (hd:d≤5000):(shw d t).length≤1000000000:=by
 have h:=zUl 10000 t d hs hw (by omega)
 have:t.size * (8 * 10000+200)≤5000 * (8 * 10000+200):=Nat.mul_le_mul_right _ hz
 omega
end Go.Proofs.YthdbmgijpelecaaGreatDoor
namespace Go.Proofs.YthdbmgijpelecaaGreatDoor
set_option maxRecDepth 100000
set_option maxHeartbeats 2000000
open Go.RowKit
def zPd (B:Nat) (W:World):Prop:=4<B∧Lib.TabIs Tryz.prog W "internal/strconv.uint64pow10" .u64 Lib.pow10Tab
theorem gPow:Tryz.prog.globalNamed "internal/strconv.uint64pow10" = some 4:=by kernel_rfl
theorem zPd.keep {B:Nat} {W W':World} (h:zPd B W) (hb:W'.heap[4]?=W.heap[4]?):zPd B W':=by
 refine ⟨h.1,?_⟩
 have h2:=h.2
 unfold Lib.TabIs World.var? at h2 ⊢
 rw [gPow] at h2 ⊢
 simp only [Option.bind_some] at h2 ⊢
 rw [hb]
 exact h2
theorem zPd.step {B:Nat} {W W':World} (h:zPd B W) (hb:Below B W W'):zPd B W':=h.keep (hb.block _ h.1)
structure Wn (B g c1 c2:Nat) (t:T) (kv:Value) (l:List UInt8) (d:Nat) (W:World):Prop where
 st:zsc B g l d W
 p:Blk W c1 [.pointer (some ⟨g,0,none⟩)] 72
 n:Blk W c2 (zaa t kv) 25
 k:KAt 25 W t.kids (fun b=>b<B) kv
 t:zPd B W
theorem Wn.step {B g c1 c2:Nat} {t:T} {kv:Value} {l l':List UInt8} {d d':Nat} {W W':World} (h:Wn B g c1 c2 t kv l d W) (hs:zsc B g l' d' W') (hb:Below B W W') (ho:Oth g W W'):Wn B g c1 c2 t kv l' d' W' :=
 ⟨hs,h.p.oth ho (h.st.apart h.p (by decide)) (by decide),h.n.oth ho (h.st.apart h.n (by decide)) (by decide),h.k.keep fun b hB _=>⟨hB,hb.block b hB⟩,h.t.step hb⟩
theorem Wn.alloc {B g c1 c2:Nat} {t:T} {kv:Value} {l:List UInt8} {d:Nat} {W:World} (h:Wn B g c1 c2 t kv l d W) (o:Obj):Wn B g c1 c2 t kv l d (W.alloc o) :=
 ⟨h.st.alloc o,h.p.alloc o,h.n.alloc o,h.k.alloc o,h.t.step ((Below.refl B W).alloc (by have:=h.st.lt;have:=h.st.ge;omega) o)⟩
theorem Wn.bz {B g c1 c2:Nat} {t:T} {kv:Value} {l:List UInt8} {d:Nat} {W:World} (h:Wn B g c1 c2 t kv l d W):B≤W.heap.size:=by have:=h.st.lt;have:=h.st.ge;omega
def zfb (B g c1 c2:Nat) (t:T) (kv:Value):Prop:=∀ (W:World) (l:List UInt8) (d i:Nat) (u:T),Wn B g c1 c2 t kv l d W→t.kids[i]?=some u→l.length+(shw d u).length≤140737488355328 →
 Calls Tryz.prog 57 #[.int .i64 i,.pointer (some ⟨c1,0,none⟩),.pointer (some ⟨c2,0,none⟩)] W (zka B g (l++shw d u) d W)
theorem zfb.get {B g c1 c2:Nat} {t:T} {kv:Value} (h:zfb B g c1 c2 t kv) (W:World) {l:List UInt8} {d:Nat} (i:Nat) {u:T} (n:Int) (hn:n=(i:Int)) (h1:Wn B g c1 c2 t kv l d W) (h2:t.kids[i]?=some u) (h3:l.length+(shw d u).length≤140737488355328) :
  Calls Tryz.prog 57 #[.int .i64 n,.pointer (some ⟨c1,0,none⟩),.pointer (some ⟨c2,0,none⟩)] W (zka B g (l++shw d u) d W):=by
 subst hn
 exact h W l d i u h1 h2 h3
structure Wm (W0:World) (B g c1 c2 q:Nat) (t:T) (kv:Value) (l:List UInt8) (d:Nat) (W:World):Prop where
 n:Wn B g c1 c2 t kv l d W
 q:Blk W q (zaa t kv) 25
 b:Below B W0 W
 o:Oth g W0 W
theorem Wm.start {W0:World} {B g c1 c2:Nat} {t:T} {kv:Value} {l:List UInt8} {d:Nat} (h:Wn B g c1 c2 t kv l d W0):Wm W0 B g c1 c2 W0.heap.size t kv l d (W0.alloc (.cells (zaa t kv).toArray 25)) :=
 ⟨h.alloc _,Blk.new W0 _ _,(Below.refl _ _).alloc h.bz _,(Oth.refl _ _).alloc _⟩
theorem Wm.step {W0:World} {B g c1 c2 q:Nat} {t:T} {kv:Value} {l l':List UInt8} {d d':Nat} {W W':World} (h:Wm W0 B g c1 c2 q t kv l d W) (hs:zsc B g l' d' W') (hb:Below B W W') (ho:Oth g W W'):Wm W0 B g c1 c2 q t kv l' d' W' :=
 ⟨h.n.step hs hb ho,h.q.oth ho (h.n.st.apart h.q (by decide)) (by decide),h.b.trans hb,h.o.trans ho⟩
theorem Wm.alloc {W0:World} {B g c1 c2 q:Nat} {t:T} {kv:Value} {l:List UInt8} {d:Nat} {W:World} (h:Wm W0 B g c1 c2 q t kv l d W) (o:Obj):Wm W0 B g c1 c2 q t kv l d (W.alloc o) :=
 ⟨h.n.alloc o,h.q.alloc o,h.b.alloc h.n.bz o,h.o.alloc o⟩
theorem Wm.post {W0:World} {B g c1 c2 q:Nat} {t:T} {kv:Value} {l:List UInt8} {d:Nat} {W:World} (h:Wm W0 B g c1 c2 q t kv l d W):zka B g l d W0 (.returned (.tuple #[])) W:=⟨rfl,h.n.st,h.b,h.o⟩
theorem puts {B g:Nat} {l:List UInt8} {d:Nat} {W:World} (h:zsc B g l d W) (ss:List ByteArray) (n:Nat) (cs:List Value) (q:Nat) (hq:q=W.heap.size) (hn:ss.length=n) (hc:ss.map Value.string=cs) (hz:n≤1000000) (hl:l.length+(cat ss).length≤140737488355328) :
  Calls Tryz.prog 59 #[.pointer (some ⟨g,0,none⟩),.slice (some ⟨q,0,none⟩) n n] (W.alloc (.cells cs.toArray 9)) (zka B g (l++cat ss) d W):=by
 subst hq hn hc
 refine (zsn (h.alloc _) ss (Blk.new W _ _) hl (Nat.le_refl _) hz).mono ?_
 rintro e w' ⟨rfl,h1,h2,h3⟩
 have hB:B≤W.heap.size:=by have:=h.lt;have:=h.ge;omega
 exact ⟨rfl,h1,((Below.refl B W).alloc hB _).trans h2,((Oth.refl g W).alloc _).trans h3⟩
theorem zii (a:ByteArray):cat [a]=tb a:=by simp [cat]
theorem zvj (a b c:ByteArray):cat [a,b,c]=tb a++(tb b++tb c):=by simp [cat]
theorem zZd (a:Array UInt8):tb ⟨a⟩=a.toList:=rfl
theorem zwg (xs:List (List UInt8)) (j:Nat) (x:List UInt8) (h:xs[j]?=some x):commas (xs.take (j+1))=if j=0 then x else commas (xs.take j)++([44,32]++x):=by
 have hlt:=(List.getElem?_eq_some_iff.1 h).1
 rw [List.take_succ_eq_append_getElem hlt,(List.getElem?_eq_some_iff.1 h).2]
 split
 ·rename_i h0;subst h0;rw [List.take_zero,List.nil_append,zPk]
 ·exact zQj _ _ (by intro e;have:=congrArg List.length e;rw [List.length_take] at this;simp only [List.length_nil] at this;omega)
theorem zKh (xs:List (List UInt8)) (j:Nat):(commas (xs.take j)).length≤(commas xs).length:=by
 cases xs with
 | nil=>simp [commas]
 | cons a r =>
  cases j with
  | zero=>simp [commas]
  | succ j =>
   rw [List.take_succ_cons]
   simp only [commas,List.length_append]
   have:r.flatMap (fun x=>[44,32]++x)=(r.take j).flatMap (fun x=>[44,32]++x)++(r.drop j).flatMap (fun x=>[44,32]++x):=by rw [← List.flatMap_append,List.take_append_drop]
   rw [this,List.length_append]
   omega
def LiRel (W0:World) (B g c1 c2:Nat) (t:T) (kv:Value) (l:List UInt8) (d a:Nat) (xs:List (List UInt8)) (gh:Nat) (i:Value) (wr:World):Prop :=
 ∃ j:Nat,j≤xs.length∧xs.length≤j+gh∧i=.int .i64 ((a+j:Nat):Int)∧Wn B g c1 c2 t kv (l++commas (xs.take j)) d wr∧Below B W0 wr∧Oth g W0 wr
theorem zjl {B g c1 c2:Nat} {t:T} {kv:Value} {l:List UInt8} {d:Nat} {w:World} (h:Wn B g c1 c2 t kv l d w) (hk:zfb B g c1 c2 t kv) (a b:Nat) (hab:a≤b) (hb:b≤t.kids.length) (hz:b≤1000000)
  (xs:List (List UInt8)) (hx:xs=((zQa d t.kids).drop a).take (b-a)) (hl:l.length+(commas xs).length≤140737488355328) :
  Calls Tryz.prog 138 #[.pointer (some ⟨g,0,none⟩),.int .i64 a,.int .i64 b,.func (.func 57) #[] #[.pointer (some ⟨c1,0,none⟩),.pointer (some ⟨c2,0,none⟩)]] w (zka B g (l++commas xs) d w):=by
 have hxl:xs.length=b-a:=by rw [hx,List.length_take,List.length_drop,zac];omega
 have HX:=zh (show ∀ j u,j<xs.length→t.kids[a+j]?=some u→xs[j]?=some (shw d u) from fun j u hj hu=>by
  rw [hx,List.getElem?_take,if_pos (by omega),List.getElem?_drop]
  exact zFi d _ _ _ hu)
 have H:=zh h
 have HK:=zh hk
 clear h hk hx
 go_enter Tryz.func138,Tryz.ntmps138
 go_wp2_with fail
 go_loopg [8] (b-a) (fun gk i wr=>LiRel w B g c1 c2 t kv l d a xs gk i wr)
 case atStart=>exact ⟨0,by omega,by omega,by simp,by simpa [commas] using H.out,Below.refl _ _,Oth.refl _ _⟩
 case round =>
  obtain ⟨j,hj,hgj,rfl,hn,hbw,ho⟩:=hrel
  have HN:=zh hn
  have HB:=zh hbw
  have HO:=zh ho
  clear hn hbw ho
  by_cases hlt:j<xs.length
  ·obtain ⟨u,hu⟩:∃ u,t.kids[a+j]?=some u:=⟨t.kids[a+j],List.getElem?_eq_getElem (by omega)⟩
   have hT:=zwg xs j _ (HX.out j u hlt hu)
   have hle:=zKh xs (j+1)
   have HU:=zh hu
   clear hu
   by_cases h0:j=0
   ·subst h0
    rw [if_pos rfl] at hT
    have HT:=zh hT
    rw [hT] at hle
    clear hT
    go_wp2_with fail
    refine (HK.out.get wr (a+0) _ (by omega) HN.out HU.out (by simp [commas];omega)).mono ?_
    rintro e w2 ⟨rfl,h2,hb2,ho2⟩
    have HN2:=zh (HN.out.step h2 hb2 ho2)
    have HB2:=zh (HB.out.trans hb2)
    have HO2:=zh (HO.out.trans ho2)
    clear h2 hb2 ho2
    go_wp2_with fail
    go_roundg (gk-1)
    case measure=>omega
    case rel=>exact ⟨1,by omega,by omega,by go_num,by rw [HT.out];simpa [commas] using HN2.out,HB2.out,HO2.out⟩
   ·rw [if_neg h0] at hT
    have HT:=zh hT
    rw [hT] at hle
    simp only [List.length_append,List.length_cons,List.length_nil] at hle
    clear hT
    go_wp2_with fail
    refine (puts HN.out.st [⟨#[44,32]⟩] 1 _ _ rfl rfl rfl (by omega) (by rw [zii,zZd];simp only [List.length_append,List.length_cons,List.length_nil];omega)).mono ?_
    rintro e w1 ⟨rfl,h1,hb1,ho1⟩
    have HN1:=zh (HN.out.step h1 hb1 ho1)
    have HB1:=zh (HB.out.trans hb1)
    have HO1:=zh (HO.out.trans ho1)
    clear h1 hb1 ho1
    go_wp2_with fail
    refine (HK.out.get w1 (a+j) _ (by omega) HN1.out HU.out (by rw [zii,zZd];simp only [List.length_append,List.length_cons,List.length_nil];omega)).mono ?_
    rintro e w2 ⟨rfl,h2,hb2,ho2⟩
    have HN2:=zh (HN1.out.step h2 hb2 ho2)
    have HB2:=zh (HB1.out.trans hb2)
    have HO2:=zh (HO1.out.trans ho2)
    clear h2 hb2 ho2
    go_wp2_with fail
    go_roundg (gk-1)
    case measure=>omega
    case rel=>exact ⟨j+1,by omega,by omega,by go_num,by rw [HT.out];have h:=HN2.out;rw [zii,zZd] at h;simpa only [List.append_assoc] using h,HB2.out,HO2.out⟩
  ·have hjj:j=xs.length:=by omega
   go_wp2_with fail
   go_end0
   refine ⟨rfl,?_,HB.out,HO.out⟩
   have h:=HN.out.st
   rw [hjj,List.take_length] at h
   exact h
end Go.Proofs.YthdbmgijpelecaaGreatDoor
