/- Every tree that was read is whole: each node's kids are of the kinds that the table of layer 2 has for it. Nothing of the program is walked here. What the grammar says of a tree that was read: each node's text, number and kids, as exactly as the reader of tokens makes them. Nothing of the program is walked here. -/
import Derived.Test.YtbfgdpcgdmabpaaGreatDoorZ04
import Derived.Test.YtbfgdpcgdmabpaaGreatDoorZ14
import Derived.Test.YtbfgdpcgdmabpaaGreatDoorZ05
namespace Go.Proofs.YtbfgdpcgdmabpaaGreatDoor
section
open Go.RowKit
def zvb (k:Int):Prop:=10≤k∧k≤20
def zTc (k:Int):Prop:=k=5∨(21≤k∧k≤28)
def zPa (K:Int→Prop) (ts:List T):Prop:=∀ t∈ts,K t.kind
theorem zPa.nil {K:Int→Prop}:zPa K []:=by intro t h;simp at h
theorem zPa.cons {K:Int→Prop} {t:T} {ts:List T} (h:K t.kind) (hs:zPa K ts):zPa K (t :: ts):=by
 intro u hu
 rcases List.mem_cons.1 hu with rfl|hu
 ·exact h
 ·exact hs u hu
inductive Fit:Int→List T→Prop
 | unit {k:Int} {ks:List T}:k=0→zPa (fun x=>x=1∨x=6) ks→Fit k ks
 | type {k:Int} {a:T} {ys zs:List T}:k=1→a.kind=2→zPa (·=3) ys→zPa (·=4) zs→Fit k (a :: (ys++zs))
 | none {k:Int}:k=2∨k=3∨k=8∨k=17→Fit k []
 | one {k:Int} {a:T}:k=2∨k=3∨k=8∨k=17→a.kind=5→Fit k [a]
 | two {k:Int} {a b:T}:k=4∨k=11∨k=21∨k=22→a.kind=5→b.kind=5→Fit k [a,b]
 | fn {k:Int} {xs:List T} {r b:T}:k=6→zPa (·=7) xs→r.kind=8→b.kind=9→Fit k (xs++[r,b])
 | param {k:Int} {a:T}:k=7→a.kind=8→Fit k [a]
 | block {k:Int} {ks:List T}:k=9→zPa zvb ks→Fit k ks
 | set {k:Int} {a:T}:k=10→zTc a.kind→Fit k [a]
 | cond {k:Int} {a b c d:T}:k=15→a.kind=5→b.kind=5→c.kind=9→d.kind=9→Fit k [a,b,c,d]
 | loop {k:Int} {a b c:T}:k=16→a.kind=5→b.kind=5→c.kind=9→Fit k [a,b,c]
 | call1 {k:Int} {a:T}:k=20→a.kind=28→Fit k [a]
 | load {k:Int} {a:T}:k=25→a.kind=5→Fit k [a]
 | call {k:Int} {ks:List T}:k=19∨k=28→zPa (·=5) ks→Fit k ks
 | leaf {k:Int}:k=5∨k=12∨k=13∨k=14∨k=18∨k=23∨k=24∨k=26∨k=27→Fit k []
mutual
def T.whole:T→Prop
 | .mk k _ _ _ ks=>Fit k ks∧zPc ks
def zPc:List T→Prop
 | []=>True
 | t :: ts=>t.whole∧zPc ts
end
theorem zxa {k:Int} {s:ByteArray} {n:Int} {p:Nat} {ks:List T}:(T.mk k s n p ks).whole↔Fit k ks∧zPc ks:=by rw [T.whole]
theorem zco {t:T}:t.whole↔Fit t.kind t.kids∧zPc t.kids:=by cases t;rw [T.whole];exact Iff.rfl
theorem zSb:zPc []:=by rw [zPc];trivial
theorem zZa {t:T} {ts:List T}:zPc (t :: ts)↔t.whole∧zPc ts:=by rw [zPc]
theorem zMh {t:T} (h:t.whole):zPc [t]:=zZa.2 ⟨h,zSb⟩
theorem zxd {t u:T} (h:t.whole) (h':u.whole):zPc [t,u]:=zZa.2 ⟨h,zMh h'⟩
theorem zie:∀ {a b:List T},zPc a→zPc b→zPc (a++b)
 | [],_,_,h=>h
 | t :: ts,b,h,h'=>by rw [zZa] at h;exact zZa.2 ⟨h.1,zie h.2 h'⟩
theorem zOf:∀ {ks:List T} {t:T},zPc ks→t∈ks→t.whole
 | a :: ks,t,h,hm=>by
  rw [zZa] at h
  rcases List.mem_cons.1 hm with rfl|hm
  ·exact h.1
  ·exact zOf h.2 hm
def W1 (K:Int→Prop) (t:T) (_:List Tok):Prop:=K t.kind∧t.whole
def WL (K:Int→Prop) (ts:List T) (_:List Tok):Prop:=zPa K ts∧zPc ts
def Any {α:Type} (_:α) (_:List Tok):Prop:=True
theorem zTb {α:Type} (r:R α):Ok Any r:=fun _ _ _=>trivial
theorem W1.or {K K':Int→Prop} {r:R T} (h:Ok (W1 K) r) (hk:∀ k,K k→K' k):Ok (W1 K') r:=h.mono fun _ _ h=>⟨hk _ h.1,h.2⟩
theorem zAd {K:Int→Prop} {k:Int} {s:ByteArray} {n:Int} {p:Nat} {l:List Tok} (hf:Fit k []) (hk:K k):W1 K (.mk k s n p []) l:=⟨hk,zxa.2 ⟨hf,zSb⟩⟩
theorem zFh {K:Int→Prop} {k:Int} {s:ByteArray} {n:Int} {p:Nat} {a:T} {l:List Tok} (hf:Fit k [a]) (ha:a.whole) (hk:K k):W1 K (.mk k s n p [a]) l:=⟨hk,zxa.2 ⟨hf,zMh ha⟩⟩
theorem zyg {K:Int→Prop} {k:Int} {s:ByteArray} {n:Int} {p:Nat} {ks:List T} {l:List Tok} (hf:Fit k ks) (ha:zPc ks) (hk:K k):W1 K (.mk k s n p ks) l:=⟨hk,zxa.2 ⟨hf,ha⟩⟩
theorem zOk {K:Int→Prop} {t:T} (v:Int) {l:List Tok} (h:K t.kind∧t.whole):W1 K (t.zkc v) l:=by
 cases t
 exact ⟨h.1,zxa.2 (zxa.1 h.2)⟩
theorem zDc (l:List Tok):Ok (W1 (·=5)) (zra l):=by
 unfold zra
 exact (zTb _).bd fun s l1 _=>Ok.ok (zAd (.leaf (by omega)) rfl)
theorem zpg (l:List Tok):Ok (W1 (·=5)) (zGa l):=by
 unfold zGa
 exact Ok.cond (fun _=>(zTb _).bd fun s l1 _=>Ok.ok (zAd (.leaf (by omega)) rfl)) (fun _=>(zTb _).bd fun s l1 _=>Ok.ok (zAd (.leaf (by omega)) rfl))
theorem zoh (l:List Tok):Ok (W1 (·=5)) (zOb l):=by
 unfold zOb
 exact Ok.cond (fun _=>(zDc l).bd fun n l1 h=>Ok.sum (fun _=>Ok.ok h) fun k x _=>(zTb _).bd fun v l2 _=>Ok.ok (zOk _ h)) (fun _=>zpg l)
theorem zBn {K:Int→Prop} {item:List Tok→R T} (hi:∀ l,Ok (W1 K) (item l)):∀ (n:Nat) (l:List Tok),Ok (WL K) (zUe item n l)
 | 0,l=>Ok.err
 | n+1,l=>by
  rw [zUe]
  exact Ok.cond (fun _=>(hi _).bd fun a l1 h=>(zBn hi n l1).bd fun xs l2 h2=>Ok.ok ⟨.cons h.1 h2.1,zZa.2 ⟨h.2,h2.2⟩⟩) (fun _=>Ok.ok ⟨.nil,zSb⟩)
theorem zTl {K:Int→Prop} {item:List Tok→R T} (hi:∀ l,Ok (W1 K) (item l)) (l:List Tok):Ok (WL K) (zKd item l):=by
 unfold zKd
 exact (hi l).bd fun a l1 h=>(zBn hi _ l1).bd fun xs l2 h2=>Ok.ok ⟨.cons h.1 h2.1,zZa.2 ⟨h.2,h2.2⟩⟩
theorem zui {K:Int→Prop} {item:List Tok→R T} (hi:∀ l,Ok (W1 K) (item l)) (l:List Tok):Ok (WL K) (zkb item l):=by
 unfold zkb
 exact (zTb _).bd fun _ l1 _=>Ok.cond (fun _=>Ok.ok ⟨.nil,zSb⟩) (fun _=>(zTl hi l1).bd fun xs l2 h2=>(zTb _).bd fun _ l3 _=>Ok.ok h2)
theorem zFm (l:List Tok):Ok (W1 (·=5)) (zqc l):=by
 unfold zqc
 exact (zTb _).bd fun _ l1 _=>(zoh l1).bd fun a l2 h2=>(zTb _).bd fun _ l3 _=>Ok.ok h2
theorem zpp (n:T) (l:List Tok):Ok (W1 (·=28)) (zle n l):=by
 unfold zle
 exact (zui zoh l).bd fun xs l1 h=>Ok.ok (zyg (.call (.inr rfl) h.1) h.2 rfl)
theorem ref_w (p:Nat) (l:List Tok):Ok (W1 zTc) (zfi p l):=by
 unfold zfi
 exact Ok.cond (fun _=>(zTb _).bd fun s l1 _=>Ok.ok (zAd (.leaf (by omega)) (by unfold zTc;omega))) (fun _=>(zTb _).bd fun s l1 _=>Ok.ok (zAd (.leaf (by omega)) (by unfold zTc;omega)))
theorem zBk {l:List Tok} {k x:Int} (h:sumP l=some (k,x)):k=21∨k=22:=by
 unfold sumP at h
 cases h1:isT (hdT l) (bs [43]) with
 | true=>rw [h1] at h;simp at h;omega
 | false =>
  rw [h1] at h
  cases h2:isT (hdT l) (bs [45]) with
  | true=>rw [h2] at h;simp at h;omega
  | false=>rw [h2] at h;simp at h
theorem zvl (l:List Tok):Ok (W1 zTc) (zAa l):=by
 unfold zAa
 refine (zDc l).bd fun n l1 h=>Ok.cond (fun _=>(zFm l1).bd fun a l2 h2=>Ok.ok (zFh (.load rfl h2.1) h2.2 (by unfold zTc;omega))) fun _=>Ok.cond (fun _=>W1.or (zpp n l1) (fun k hk=>by unfold zTc;omega)) fun _=>Ok.sum (fun _=>Ok.ok ⟨.inl h.1,h.2⟩) fun k x hs=>Ok.cond (fun _=>(zDc _).bd fun m l2 h2=>Ok.ok ?_) (fun _=>(zTb _).bd fun v l2 _=>Ok.ok (zOk _ ⟨.inl h.1,h.2⟩))
 have hk:=zBk hs
 exact zyg (.two (by omega) h.1 h2.1) (zxd h.2 h2.2) (by unfold zTc;omega)
theorem zht (l:List Tok):Ok (W1 zTc) (zzc l):=by
 unfold zzc
 exact Ok.cond (fun _=>(zTb _).bd fun v l1 _=>Ok.ok (zAd (.leaf (by omega)) (by unfold zTc;omega))) fun _=>Ok.cond (fun _=>(zTb _).bd fun s l1 _=>Ok.ok (zAd (.leaf (by omega)) (by unfold zTc;omega))) fun _=>Ok.cond (fun _=>ref_w _ _) fun _=>Ok.cond (fun _=>zvl l) fun _=>W1.or (zpg l) (fun k hk=>.inl hk)
def Cp (k:Int) (t:T) (_:List Tok):Prop:=∃ s n p a b,t=.mk k s n p [a,b]∧(a.kind=5∧a.whole)∧b.kind=5∧b.whole
theorem zzh (k:Int) (p:Nat) (l:List Tok):Ok (Cp k) (zVa k p l):=by
 unfold zVa
 exact (zoh l).bd fun a l1 h1=>(zTb _).bd fun c l2 _=>(zoh l2).bd fun b l3 h3=>Ok.ok ⟨_,_,_,a,b,rfl,h1,h3⟩
theorem zos (l:List Tok):Ok (W1 (·=4)) (zCe l):=by
 unfold zCe
 exact (zzh 4 _ l).mono fun t l' ⟨s,n,p,a,b,e,ha,hb⟩=>by subst e;exact zyg (.two (.inl rfl) ha.1 hb.1) (zxd ha.2 hb.2) rfl
theorem zNp (l:List Tok):Ok (W1 (·=3)) (zjc l):=by
 unfold zjc
 exact (zTb _).bd fun s l1 _=>Ok.cond (fun hc=>(zDc _).bd fun a l2 h2=>(zTb _).bd fun _ l3 _=>Ok.ok (zFh (.one (by omega) h2.1) h2.2 rfl)) (fun _=>Ok.ok (zAd (.none (by omega)) rfl))
theorem zKt (l:List Tok):Ok (W1 (·=2)) (zTd l):=by
 unfold zTd
 exact (zTb _).bd fun t l1 _=>Ok.cond (fun _=>Ok.ok (zAd (.none (by omega)) rfl)) (fun _=>(zDc l1).bd fun a l2 h2=>Ok.ok (zFh (.one (by omega) h2.1) h2.2 rfl))
theorem zdh (l:List Tok):Ok (W1 (·=8)) (zMa l):=by
 unfold zMa
 exact (zTb _).bd fun t l1 _=>Ok.cond (fun _=>(zDc l1).bd fun a l2 h2=>Ok.ok (zFh (.one (by omega) h2.1) h2.2 rfl)) (fun _=>Ok.ok (zAd (.none (by omega)) rfl))
theorem zct (l:List Tok):Ok (W1 (·=8)) (zGd l):=by
 unfold zGd
 exact Ok.cond (fun hc=>Ok.cond (fun _=>(zDc _).bd fun a l2 h2=>Ok.ok (zFh (.one (by omega) h2.1) h2.2 rfl)) (fun _=>(zDc _).bd fun a l2 h2=>Ok.ok (zFh (.one (by omega) h2.1) h2.2 rfl))) (fun _=>zdh l)
theorem zLr (l:List Tok):Ok (W1 (·=7)) (zBc l):=by
 unfold zBc
 exact (zTb _).bd fun s l1 _=>(zTb _).bd fun _ l2 _=>(zct l2).bd fun a l3 h3=>Ok.ok (zFh (.param rfl h3.1) h3.2 rfl)
theorem zXo (l:List Tok):Ok (WL (·=3)) (zUc l):=by
 unfold zUc
 exact Ok.cond (fun _=>(zTl zNp _).bd fun xs l1 h=>(zTb _).bd fun _ l2 _=>Ok.ok h) (fun _=>Ok.ok ⟨.nil,zSb⟩)
theorem zwq (l:List Tok):Ok (WL (·=4)) (zbd l):=by
 unfold zbd
 exact Ok.cond (fun _=>zTl zos _) (fun _=>Ok.ok ⟨.nil,zSb⟩)
theorem zpt (p:Nat) (l:List Tok):Ok (W1 (·=1)) (zMb p l):=by
 unfold zMb
 exact (zTb _).bd fun s l1 _=>(zKt l1).bd fun a l2 h2=>(zXo l2).bd fun ys l3 h3=>(zwq l3).bd fun zs l4 h4=>(zTb _).bd fun _ l5 _=>Ok.ok (zyg (.type rfl h2.1 h3.1 h4.1) (zZa.2 ⟨h2.2,zie h3.2 h4.2⟩) rfl)
theorem zFp {k:Int} (hk:k=13∨k=14) (p:Nat) (l:List Tok):Ok (W1 zvb) (zHd k p l):=by
 unfold zHd
 exact (zTb _).bd fun s l1 _=>(zTb _).bd fun _ l2 _=>(zTb _).bd fun v l3 _=>(zTb _).bd fun _ l4 _=>Ok.ok (zAd (.leaf (by omega)) (by unfold zvb;omega))
theorem zVn (p:Nat) (l:List Tok):Ok (W1 zvb) (zZb p l):=by
 unfold zZb
 exact Ok.cond (fun _=>Ok.ok (zAd (.none (by omega)) (by unfold zvb;omega))) (fun _=>(zoh l).bd fun a l1 h=>Ok.ok (zFh (.one (by omega) h.1) h.2 (by unfold zvb;omega)))
theorem zur (l:List Tok):Ok (W1 zvb) (zxb l):=by
 unfold zxb
 exact (zTb _).bd fun n l1 _=>Ok.cond (fun _=>(zpp n l1).bd fun c l2 h2=>Ok.ok (zFh (.call1 rfl h2.1) h2.2 (by unfold zvb;omega))) fun _=>Ok.cond (fun _=>(zFm l1).bd fun i l2 h2=>(zTb _).bd fun _ l3 _=>(zoh l3).bd fun b l4 h4=>Ok.ok (zyg (.two (by omega) h2.1 h4.1) (zxd h2.2 h4.2) (by unfold zvb;omega))) fun _=>(zTb _).bd fun _ l2 _=>(zht l2).bd fun x l3 h3=>Ok.ok (zFh (.set rfl h3.1) h3.2 (by unfold zvb;omega))
theorem zPo (l:List Tok):Ok (W1 zvb) (zHa l):=by
 unfold zHa
 exact Ok.cond (fun _=>zur l) fun _=>Ok.cond (fun _=>(zTb _).bd fun s l1 _=>Ok.ok (zAd (.leaf (by omega)) (by unfold zvb;omega))) fun _=>Ok.cond (fun _=>zFp (.inl rfl) _ _) fun _=>Ok.cond (fun _=>zFp (.inr rfl) _ _) fun _=>Ok.cond (fun hc=>zVn _ _) fun _=>Ok.cond (fun hc=>Ok.ok (zAd (.leaf (by omega)) (by unfold zvb;omega))) fun _=>Ok.cond (fun _=>(zTb _).bd fun s l1 _=>(zui zoh l1).bd fun xs l2 h2=>Ok.ok (zyg (.call (.inl rfl) h2.1) h2.2 (by unfold zvb;omega))) fun _=>Ok.err
theorem zGt {blk:List Tok→R T} (hb:∀ l,Ok (W1 (·=9)) (blk l)) (p:Nat) (l:List Tok):Ok (W1 (·=9)) (zSf blk p l):=by
 unfold zSf
 exact Ok.cond (fun _=>hb _) (fun _=>Ok.ok (zyg (.block rfl .nil) zSb rfl))
theorem if_w {blk:List Tok→R T} (hb:∀ l,Ok (W1 (·=9)) (blk l)) (p:Nat) (l:List Tok):Ok (W1 zvb) (ifP blk p l):=by
 unfold ifP
 refine (zzh 15 p l).bd fun n l1 ⟨s,v,q,a,b,e,ha,hb'⟩=>(hb l1).bd fun c l2 h2=>(zGt hb p l2).bd fun d l3 h3=>Ok.ok ?_
 subst e
 exact zyg (.cond rfl ha.1 hb'.1 h2.1 h3.1) (zZa.2 ⟨ha.2,zZa.2 ⟨hb'.2,zxd h2.2 h3.2⟩⟩) (by unfold zvb;omega)
theorem zxr {blk:List Tok→R T} (hb:∀ l,Ok (W1 (·=9)) (blk l)) (p:Nat) (l:List Tok):Ok (W1 zvb) (zqe blk p l):=by
 unfold zqe
 refine (zzh 16 p l).bd fun n l1 ⟨s,v,q,a,b,e,ha,hb'⟩=>(hb l1).bd fun c l2 h2=>Ok.ok ?_
 subst e
 exact zyg (.loop rfl ha.1 hb'.1 h2.1) (zZa.2 ⟨ha.2,zxd hb'.2 h2.2⟩) (by unfold zvb;omega)
theorem zHt {blk:List Tok→R T} (hb:∀ l,Ok (W1 (·=9)) (blk l)) (l:List Tok):Ok (W1 zvb) (zEc blk l):=by
 unfold zEc
 exact Ok.cond (fun _=>if_w hb _ _) fun _=>Ok.cond (fun _=>zxr hb _ _) fun _=>(zPo l).bd fun n l1 h1=>(zTb _).bd fun _ l2 _=>Ok.ok h1
theorem zSk {item:List Tok→R T} (hi:∀ l,Ok (W1 zvb) (item l)):∀ (n:Nat) (l:List Tok),Ok (WL zvb) (zOc item n l)
 | 0,l=>Ok.err
 | n+1,l=>by
  rw [zOc]
  exact Ok.cond (fun _=>Ok.ok ⟨.nil,zSb⟩) (fun _=>(hi _).bd fun a l1 h=>(zSk hi n l1).bd fun xs l2 h2=>Ok.ok ⟨.cons h.1 h2.1,zZa.2 ⟨h.2,h2.2⟩⟩)
theorem zZm:∀ (n:Nat) (l:List Tok),Ok (W1 (·=9)) (zhb n l)
 | 0,l=>by
  rw [zhb]
  exact (zTb _).bd fun _ _ _=>Ok.err
 | n+1,l=>by
  rw [zhb]
  exact (zTb _).bd fun t l1 _=>(zSk (zHt (zZm n)) _ l1).bd fun xs l2 h=>Ok.ok (zyg (.block rfl h.1) h.2 rfl)
theorem zgo (l:List Tok):Ok (W1 (·=8)) (zWc l):=by
 unfold zWc
 exact Ok.cond (fun _=>zdh _) (fun _=>Ok.ok (zAd (.none (by omega)) rfl))
theorem fn_w (p:Nat) (l:List Tok):Ok (W1 (·=6)) (fnP p l):=by
 unfold fnP
 exact (zTb _).bd fun s l1 _=>(zui zLr l1).bd fun xs l2 h2=>(zgo l2).bd fun r l3 h3=>(zZm 8 l3).bd fun b l4 h4=>Ok.ok (zyg (.fn rfl h2.1 h3.1 h4.1) (zie h2.2 (zxd h3.2 h4.2)) rfl)
theorem zzt (l:List Tok):Ok (W1 (fun x=>x=1∨x=6)) (zLd l):=by
 unfold zLd
 exact (zTb _).bd fun t l1 _=>Ok.cond (fun _=>W1.or (zpt _ _) fun _ h=>.inl h) (fun _=>W1.or (fn_w _ _) fun _ h=>.inr h)
theorem zym:∀ (n:Nat) (l:List Tok),Ok (WL (fun x=>x=1∨x=6)) (zbe n l)
 | 0,l=>Ok.err
 | n+1,l=>by
  rw [zbe]
  exact Ok.cond (fun _=>Ok.ok ⟨.nil,zSb⟩) (fun _=>(zzt _).bd fun a l1 h=>(zym n l1).bd fun xs l2 h2=>Ok.ok ⟨.cons h.1 h2.1,zZa.2 ⟨h.2,h2.2⟩⟩)
theorem zbs (l:List Tok):Ok (W1 (·=0)) (zwd l):=by
 unfold zwd
 exact (zym _ l).bd fun xs l1 h=>Ok.ok (zyg (.unit rfl h.1) h.2 rfl)
theorem zeg:zRb.whole:=zxa.2 ⟨.unit rfl .nil,zSb⟩
theorem zPg (l:List Tok):(zoc l).1.kind=0∧(zoc l).1.whole:=by
 unfold zoc
 cases hu:zwd l with
 | error q=>exact ⟨rfl,zeg⟩
 | ok q =>
  have h:=zbs l q.1 q.2 hu
  show ((if 4096<q.1.size then (zRb,0,22) else (q.1,0,0)):T × Nat × Int).1.kind=0∧T.whole ((if 4096<q.1.size then (zRb,0,22) else (q.1,0,0)):T × Nat × Int).1
  split
  ·exact ⟨rfl,zeg⟩
  ·exact h
theorem zeh (s:ByteArray):(zqb s).1.kind=0∧(zqb s).1.whole:=by
 unfold zqb
 cases zJc s with
 | error q=>exact ⟨rfl,zeg⟩
 | ok ts=>exact zPg ts
end
section
open Go.RowKit
def NmT (t:T):Prop:=∃ s p,t=.mk 5 s 0 p []∧zJa s=true
def TmT (t:T):Prop:=∃ s n p,t=.mk 5 s n p []∧(-1099511627776≤n∧n≤1099511627776)∧(s=e0∨zJa s=true)
def zvp (s:ByteArray):Prop:=s=bs [60]∨s=bs [60,61]∨s=bs [61,61]
def zbk (t:T):Prop:=∃ s p a b,t=.mk 4 s 0 p [a,b]∧zvp s∧TmT a∧TmT b
def zMg (t:T):Prop:=(∃ s p,t=.mk 3 s 0 p []∧zJa s=true)∨∃ s p a,t=.mk 3 s 0 p [a]∧zJa s=true∧NmT a
def zZk (t:T):Prop:=(∃ s p,t=.mk 2 s 0 p []∧(s=bs [111,119,110]∨s=bs [99,101,108,108]))∨∃ s p a,t=.mk 2 s 0 p [a]∧(s=bs [99,111,117,110,116,101,100]∨s=bs [108,111,99,107]∨s=bs [103,117,97,114,100])∧NmT a
def zsh (t:T):Prop:=(∃ p,t=.mk 8 (bs [105,110,116]) 0 p [])∨∃ p a,t=.mk 8 (bs [111,119,110]) 0 p [a]∧NmT a
def zFl (t:T):Prop:=(∃ p a,t=.mk 8 (bs [38]) 0 p [a]∧NmT a)∨(∃ p a,t=.mk 8 (bs [38,109,117,116]) 0 p [a]∧NmT a)∨zsh t
def zTg (t:T):Prop:=∃ s p a,t=.mk 7 s 0 p [a]∧zJa s=true∧zFl a
def zWj (t:T):Prop:=∃ s p a ys zs,t=.mk 1 s 0 p (a :: (ys++zs))∧zJa s=true∧zZk a∧(∀ y∈ys,zMg y)∧∀ z∈zs,zbk z
def zhk (t:T):Prop:=∃ s p xs,t=.mk 28 s 0 p xs∧zJa s=true∧∀ x∈xs,TmT x
inductive zFf:T→Prop
 | term {t:T}:TmT t→zFf t
 | sum {k:Int} {p:Nat} {a b:T}:k=21∨k=22→NmT a→NmT b→zFf (.mk k e0 0 p [a,b])
 | new {v:Int} {p:Nat}:0≤v→v≤1099511627776→zFf (.mk 23 e0 v p [])
 | word {k:Int} {s:ByteArray} {p:Nat}:k=24∨k=26∨k=27→zJa s=true→zFf (.mk k s 0 p [])
 | load {s:ByteArray} {p:Nat} {a:T}:zJa s=true→TmT a→zFf (.mk 25 s 0 p [a])
 | call {t:T}:zhk t→zFf t
inductive zfd (B:T→Prop):T→Prop
 | set {s:ByteArray} {p:Nat} {x:T}:zJa s=true→zFf x→zfd B (.mk 10 s 0 p [x])
 | store {s:ByteArray} {p:Nat} {a b:T}:zJa s=true→TmT a→TmT b→zfd B (.mk 11 s 0 p [a,b])
 | free {s:ByteArray} {p:Nat}:zJa s=true→zfd B (.mk 12 s 0 p [])
 | lock {k:Int} {s:ByteArray} {v:Int} {p:Nat}:k=13∨k=14→zJa s=true→0≤v→v≤1099511627776→zfd B (.mk k s v p [])
 | cond {s:ByteArray} {p:Nat} {a b c d:T}:zvp s→TmT a→TmT b→B c→(B d∨∃ q,d=.mk 9 e0 0 q [])→zfd B (.mk 15 s 0 p [a,b,c,d])
 | loop {s:ByteArray} {p:Nat} {a b c:T}:zvp s→TmT a→TmT b→B c→zfd B (.mk 16 s 0 p [a,b,c])
 | ret0 {p:Nat}:zfd B (.mk 17 e0 0 p [])
 | ret1 {p:Nat} {a:T}:TmT a→zfd B (.mk 17 e0 0 p [a])
 | abort {p:Nat}:zfd B (.mk 18 e0 0 p [])
 | fork {s:ByteArray} {p:Nat} {xs:List T}:zJa s=true→(∀ x∈xs,TmT x)→zfd B (.mk 19 s 0 p xs)
 | call {p:Nat} {c:T}:zhk c→zfd B (.mk 20 e0 0 p [c])
def zAf:Nat→T→Prop
 | 0,_=>False
 | n+1,t=>∃ p xs,t=.mk 9 e0 0 p xs∧∀ x∈xs,zfd (zAf n) x
def zWf (t:T):Prop:=zsh t∨∃ p,t=.mk 8 e0 0 p []
def FnT (t:T):Prop:=∃ s p xs r b,t=.mk 6 s 0 p (xs++[r,b])∧zJa s=true∧(∀ x∈xs,zTg x)∧zWf r∧zAf 8 b
def zhl (t:T):Prop:=zWj t∨FnT t
def zCj (t:T):Prop:=∃ xs,t=.mk 0 e0 0 0 xs∧∀ x∈xs,zhl x
def Gm (G:T→Prop) (t:T) (l:List Tok):Prop:=G t∧TG l
def GmL (G:T→Prop) (ts:List T) (l:List Tok):Prop:=(∀ t∈ts,G t)∧TG l
theorem Gm.or {G G':T→Prop} {r:R T} (h:Ok (Gm G) r) (hg:∀ t,G t→G' t):Ok (Gm G') r:=h.mono fun _ _ h=>⟨hg _ h.1,h.2⟩
theorem zYe {t:Tok} {l:List UInt8} (h:isT t (bs l)=true):t.text=bs l:=by
 unfold isT at h
 rw [ByteArray.toList_eq,ByteArray.toList_eq,beq_iff_eq] at h
 have h2:t.text.data=(bs l).data:=Array.toList_inj.1 h
 cases ht:t.text with
 | mk d=>rw [ht] at h2;exact congrArg ByteArray.mk h2
theorem zve {G:T→Prop}:∀ t∈([]:List T),G t:=by intro t h;simp at h
theorem zXc {G:T→Prop} {a:T} {ts:List T} (h:G a) (hs:∀ t∈ts,G t):∀ t∈a :: ts,G t:=by
 intro u hu
 rcases List.mem_cons.1 hu with rfl|hu
 ·exact h
 ·exact hs u hu
theorem zec {l:List Tok} (h:TG l):Ok (Gm NmT) (zra l):=by
 unfold zra
 exact (zic h).bd fun s l1 h1=>Ok.ok ⟨⟨_,_,rfl,h1.1⟩,h1.2⟩
theorem zog {l:List Tok} (h:TG l):Ok (Gm TmT) (zGa l):=by
 unfold zGa
 exact Ok.cond (fun _=>(zwc h.tail).bd fun v l1 h1=>Ok.ok ⟨⟨_,_,_,rfl,by have:=h1.1;omega,.inl rfl⟩,h1.2⟩) (fun _=>(zwc h).bd fun v l1 h1=>Ok.ok ⟨⟨_,_,_,rfl,by have:=h1.1;omega,.inl rfl⟩,h1.2⟩)
theorem NmT.tm {t:T} (h:NmT t):TmT t:=by
 obtain ⟨s,p,rfl,hs⟩:=h
 exact ⟨s,0,p,rfl,by omega,.inr hs⟩
theorem NmT.zkc {t:T} (h:NmT t) {v:Int} (hv:-1099511627776≤v∧v≤1099511627776):TmT (t.zkc v):=by
 obtain ⟨s,p,rfl,hs⟩:=h
 exact ⟨s,v,p,rfl,hv,.inr hs⟩
theorem zDs {l:List Tok} {k x v:Int} (h:sumP l=some (k,x)) (hv:0≤v∧v≤1099511627776):-1099511627776≤x * v∧x * v≤1099511627776:=by
 rcases zpr h with ⟨_,rfl⟩|⟨_,rfl⟩<;>omega
theorem zRg {l:List Tok} (h:TG l):Ok (Gm TmT) (zOb l):=by
 unfold zOb
 exact Ok.cond (fun _=>(zec h).bd fun n l1 h1=>Ok.sum (fun _=>Ok.ok ⟨h1.1.tm,h1.2⟩) fun k x hs=>(zwc h1.2.tail).bd fun v l2 h2=>Ok.ok ⟨h1.1.zkc (zDs hs h2.1),h2.2⟩) (fun _=>zog h)
theorem zUm {G:T→Prop} {item:List Tok→R T} (hi:∀ {l},TG l→Ok (Gm G) (item l)):∀ (n:Nat) {l:List Tok},TG l→Ok (GmL G) (zUe item n l)
 | 0,l,_=>Ok.err
 | n+1,l,h=>by
  rw [zUe]
  exact Ok.cond (fun _=>(hi h.tail).bd fun a l1 h1=>(zUm hi n h1.2).bd fun xs l2 h2=>Ok.ok ⟨zXc h1.1 h2.1,h2.2⟩) (fun _=>Ok.ok ⟨zve,h⟩)
theorem zgm {G:T→Prop} {item:List Tok→R T} (hi:∀ {l},TG l→Ok (Gm G) (item l)) {l:List Tok} (h:TG l):Ok (GmL G) (zKd item l):=by
 unfold zKd
 exact (hi h).bd fun a l1 h1=>(zUm hi _ h1.2).bd fun xs l2 h2=>Ok.ok ⟨zXc h1.1 h2.1,h2.2⟩
theorem zji {G:T→Prop} {item:List Tok→R T} (hi:∀ {l},TG l→Ok (Gm G) (item l)) {l:List Tok} (h:TG l):Ok (GmL G) (zkb item l):=by
 unfold zkb
 exact (zza h).bd fun _ l1 h1=>Ok.cond (fun _=>Ok.ok ⟨zve,h1.2.tail⟩) (fun _=>(zgm hi h1.2).bd fun xs l2 h2=>(zza h2.2).bd fun _ l3 h3=>Ok.ok ⟨h2.1,h3.2⟩)
theorem zMm {l:List Tok} (h:TG l):Ok (Gm TmT) (zqc l):=by
 unfold zqc
 exact (zza h).bd fun _ l1 h1=>(zRg h1.2).bd fun a l2 h2=>(zza h2.2).bd fun _ l3 h3=>Ok.ok ⟨h2.1,h3.2⟩
theorem zyp {n:T} (hn:NmT n) {l:List Tok} (h:TG l):Ok (Gm zhk) (zle n l):=by
 unfold zle
 obtain ⟨s,p,rfl,hs⟩:=hn
 exact (zji zRg h).bd fun xs l1 h1=>Ok.ok ⟨⟨_,_,xs,rfl,hs,h1.1⟩,h1.2⟩
theorem ref_m (p:Nat) {l:List Tok} (h:TG l):Ok (Gm zFf) (zfi p l):=by
 unfold zfi
 exact Ok.cond (fun _=>(zic h.tail).bd fun s l1 h1=>Ok.ok ⟨.word (by omega) h1.1,h1.2⟩) (fun _=>(zic h).bd fun s l1 h1=>Ok.ok ⟨.word (by omega) h1.1,h1.2⟩)
theorem zAl {l:List Tok} (h:TG l):Ok (Gm zFf) (zAa l):=by
 unfold zAa
 refine (zec h).bd fun n l1 h1=>Ok.cond (fun _=>(zMm h1.2).bd fun a l2 h2=>Ok.ok ⟨?_,h2.2⟩) fun _=>Ok.cond (fun _=>Gm.or (zyp h1.1 h1.2) fun _ h=>.call h) fun _=>Ok.sum (fun _=>Ok.ok ⟨.term h1.1.tm,h1.2⟩) fun k x hs =>
  Ok.cond (fun _=>(zec h1.2.tail).bd fun m l2 h2=>Ok.ok ⟨?_,h2.2⟩) (fun _=>(zwc h1.2.tail).bd fun v l2 h2=>Ok.ok ⟨.term (h1.1.zkc (zDs hs h2.1)),h2.2⟩)
 ·obtain ⟨s,p,rfl,hs⟩:=h1.1
  exact .load hs h2.1
 ·exact .sum (zBk hs) h1.1 h2.1
theorem zIt {l:List Tok} (h:TG l):Ok (Gm zFf) (zzc l):=by
 unfold zzc
 exact Ok.cond (fun _=>(zwc h.tail).bd fun v l1 h1=>Ok.ok ⟨.new h1.1.1 h1.1.2,h1.2⟩) fun _=>Ok.cond (fun _=>(zic h.tail).bd fun s l1 h1=>Ok.ok ⟨.word (by omega) h1.1,h1.2⟩) fun _ =>
  Ok.cond (fun _=>ref_m _ h.tail) fun _=>Ok.cond (fun _=>zAl h) fun _=>Gm.or (zog h) fun _ h=>.term h
def CpT (k:Int) (p:Nat) (t:T):Prop:=∃ s a b,t=.mk k s 0 p [a,b]∧zvp s∧TmT a∧TmT b
theorem zkh (k:Int) (p:Nat) {l:List Tok} (h:TG l):Ok (Gm (CpT k p)) (zVa k p l):=by
 unfold zVa
 refine (zRg h).bd fun a l1 h1=>(zza h1.2).bd fun c l2 h2=>(zRg h2.2).bd fun b l3 h3=>Ok.ok ⟨⟨_,a,b,rfl,?_,h1.1,h3.1⟩,h3.2⟩
 have h4:=h2.1
 simp only [List.any_cons,List.any_nil,Bool.or_false,Bool.or_eq_true] at h4
 rcases h4 with h4|h4|h4
 ·exact .inl (zYe h4)
 ·exact .inr (.inl (zYe h4))
 ·exact .inr (.inr (zYe h4))
theorem zXs {l:List Tok} (h:TG l):Ok (Gm zbk) (zCe l):=by
 unfold zCe
 exact (zkh 4 _ h).mono fun t l' ⟨⟨s,a,b,e,hc,ha,hb⟩,h'⟩=>⟨⟨s,_,a,b,e,hc,ha,hb⟩,h'⟩
theorem zJr {l:List Tok} (h:TG l):Ok (Gm zMg) (zjc l):=by
 unfold zjc
 exact (zic h).bd fun s l1 h1=>Ok.cond (fun _=>(zec h1.2.tail).bd fun a l2 h2=>(zza h2.2).bd fun _ l3 h3=>Ok.ok ⟨.inr ⟨s,_,a,rfl,h1.1,h2.1⟩,h3.2⟩) (fun _=>Ok.ok ⟨.inl ⟨s,_,rfl,h1.1⟩,h1.2⟩)
theorem zhs {l:List Tok} (h:TG l):Ok (Gm zZk) (zTd l):=by
 unfold zTd
 refine (zza h).bd fun t l1 h1=>Ok.cond (fun hc=>Ok.ok ⟨.inl ⟨_,_,rfl,?_⟩,h1.2⟩) (fun hc=>(zec h1.2).bd fun a l2 h2=>Ok.ok ⟨.inr ⟨_,_,a,rfl,?_,h2.1⟩,h2.2⟩)
 ·rcases Bool.or_eq_true _ _ |>.mp hc with h4|h4
  ·exact .inl (zYe h4)
  ·exact .inr (zYe h4)
 ·have h4:=h1.1
  simp only [List.any_cons,List.any_nil,Bool.or_false,Bool.or_eq_true] at h4
  rw [Bool.or_eq_false_iff] at hc
  rcases h4 with h4|h4|h4|h4|h4
  ·rw [hc.1] at h4;cases h4
  ·rw [hc.2] at h4;cases h4
  ·exact .inl (zYe h4)
  ·exact .inr (.inl (zYe h4))
  ·exact .inr (.inr (zYe h4))
theorem zth {l:List Tok} (h:TG l):Ok (Gm zsh) (zMa l):=by
 unfold zMa
 refine (zza h).bd fun t l1 h1=>Ok.cond (fun hc=>(zec h1.2).bd fun a l2 h2=>Ok.ok ⟨.inr ⟨t.place,a,?_,h2.1⟩,h2.2⟩) (fun hc=>Ok.ok ⟨.inl ⟨t.place,?_⟩,h1.2⟩)
 ·rw [zYe hc]
 ·have h4:=h1.1
  simp only [List.any_cons,List.any_nil,Bool.or_false,Bool.or_eq_true] at h4
  rcases h4 with h4|h4
  ·rw [zYe h4]
  ·rw [hc] at h4;cases h4
theorem zat {l:List Tok} (h:TG l):Ok (Gm zFl) (zGd l):=by
 unfold zGd
 exact Ok.cond (fun _=>Ok.cond (fun _=>(zec h.tail.tail).bd fun a l2 h2=>Ok.ok ⟨.inr (.inl ⟨_,a,rfl,h2.1⟩),h2.2⟩) (fun _=>(zec h.tail).bd fun a l2 h2=>Ok.ok ⟨.inl ⟨_,a,rfl,h2.1⟩,h2.2⟩)) (fun _=>Gm.or (zth h) fun _ h=>.inr (.inr h))
theorem zpq {l:List Tok} (h:TG l):Ok (Gm zTg) (zBc l):=by
 unfold zBc
 exact (zic h).bd fun s l1 h1=>(zza h1.2).bd fun _ l2 h2=>(zat h2.2).bd fun a l3 h3=>Ok.ok ⟨⟨s,_,a,rfl,h1.1,h3.1⟩,h3.2⟩
theorem zUo {l:List Tok} (h:TG l):Ok (GmL zMg) (zUc l):=by
 unfold zUc
 exact Ok.cond (fun _=>(zgm zJr h.tail).bd fun xs l1 h1=>(zza h1.2).bd fun _ l2 h2=>Ok.ok ⟨h1.1,h2.2⟩) (fun _=>Ok.ok ⟨zve,h⟩)
theorem zyr {l:List Tok} (h:TG l):Ok (GmL zbk) (zbd l):=by
 unfold zbd
 exact Ok.cond (fun _=>zgm zXs h.tail) (fun _=>Ok.ok ⟨zve,h⟩)
theorem zVs (p:Nat) {l:List Tok} (h:TG l):Ok (Gm zWj) (zMb p l):=by
 unfold zMb
 exact (zic h).bd fun s l1 h1=>(zhs h1.2).bd fun a l2 h2=>(zUo h2.2).bd fun ys l3 h3=>(zyr h3.2).bd fun zs l4 h4=>(zza h4.2).bd fun _ l5 h5=>Ok.ok ⟨⟨s,p,a,ys,zs,rfl,h1.1,h2.1,h3.1,h4.1⟩,h5.2⟩
theorem zxp {B:T→Prop} {k:Int} (hk:k=13∨k=14) (p:Nat) {l:List Tok} (h:TG l):Ok (Gm (zfd B)) (zHd k p l):=by
 unfold zHd
 exact (zic h).bd fun s l1 h1=>(zza h1.2).bd fun _ l2 h2=>(zwc h2.2).bd fun v l3 h3=>(zza h3.2).bd fun _ l4 h4=>Ok.ok ⟨.lock hk h1.1 h3.1.1 h3.1.2,h4.2⟩
theorem zjo {B:T→Prop} (p:Nat) {l:List Tok} (h:TG l):Ok (Gm (zfd B)) (zZb p l):=by
 unfold zZb
 exact Ok.cond (fun _=>Ok.ok ⟨.ret0,h⟩) (fun _=>(zRg h).bd fun a l1 h1=>Ok.ok ⟨.ret1 h1.1,h1.2⟩)
theorem zQq {B:T→Prop} {l:List Tok} (h:TG l):Ok (Gm (zfd B)) (zxb l):=by
 unfold zxb
 refine (zec h).bd fun n l1 h1=>?_
 obtain ⟨⟨s,p,rfl,hs⟩,ht⟩:=h1
 exact Ok.cond (fun _=>(zyp ⟨s,p,rfl,hs⟩ ht).bd fun c l2 h2=>Ok.ok ⟨.call h2.1,h2.2⟩) fun _ =>
  Ok.cond (fun _=>(zMm ht).bd fun i l2 h2=>(zza h2.2).bd fun _ l3 h3=>(zRg h3.2).bd fun b l4 h4=>Ok.ok ⟨.store hs h2.1 h4.1,h4.2⟩) fun _ =>
  (zza ht).bd fun _ l2 h2=>(zIt h2.2).bd fun x l3 h3=>Ok.ok ⟨.set hs h3.1,h3.2⟩
theorem zmo {B:T→Prop} {l:List Tok} (h:TG l):Ok (Gm (zfd B)) (zHa l):=by
 unfold zHa
 exact Ok.cond (fun _=>zQq h) fun _=>Ok.cond (fun _=>(zic h.tail).bd fun s l1 h1=>Ok.ok ⟨.free h1.1,h1.2⟩) fun _=>Ok.cond (fun _=>zxp (.inl rfl) _ h.tail) fun _=>Ok.cond (fun _=>zxp (.inr rfl) _ h.tail) fun _ =>
  Ok.cond (fun _=>zjo _ h.tail) fun _=>Ok.cond (fun _=>Ok.ok ⟨.abort,h.tail⟩) fun _=>Ok.cond (fun _=>(zic h.tail).bd fun s l1 h1=>(zji zRg h1.2).bd fun xs l2 h2=>Ok.ok ⟨.fork h1.1 h2.1,h2.2⟩) fun _=>Ok.err
theorem zut {B:T→Prop} {blk:List Tok→R T} (hb:∀ {l},TG l→Ok (Gm B) (blk l)) (p:Nat) {l:List Tok} (h:TG l):Ok (Gm fun d=>B d∨∃ q,d=.mk 9 e0 0 q []) (zSf blk p l):=by
 unfold zSf
 exact Ok.cond (fun _=>Gm.or (hb h.tail) fun _ h=>.inl h) (fun _=>Ok.ok ⟨.inr ⟨p,rfl⟩,h⟩)
theorem if_m {B:T→Prop} {blk:List Tok→R T} (hb:∀ {l},TG l→Ok (Gm B) (blk l)) (p:Nat) {l:List Tok} (h:TG l):Ok (Gm (zfd B)) (ifP blk p l):=by
 unfold ifP
 refine (zkh 15 p h).bd fun n l1 h1=>(hb h1.2).bd fun c l2 h2=>(zut hb p h2.2).bd fun d l3 h3=>Ok.ok ⟨?_,h3.2⟩
 obtain ⟨s,a,b,rfl,hc,ha,hb'⟩:=h1.1
 exact .cond hc ha hb' h2.1 h3.1
theorem zgr {B:T→Prop} {blk:List Tok→R T} (hb:∀ {l},TG l→Ok (Gm B) (blk l)) (p:Nat) {l:List Tok} (h:TG l):Ok (Gm (zfd B)) (zqe blk p l):=by
 unfold zqe
 refine (zkh 16 p h).bd fun n l1 h1=>(hb h1.2).bd fun c l2 h2=>Ok.ok ⟨?_,h2.2⟩
 obtain ⟨s,a,b,rfl,hc,ha,hb'⟩:=h1.1
 exact .loop hc ha hb' h2.1
theorem zyt {B:T→Prop} {blk:List Tok→R T} (hb:∀ {l},TG l→Ok (Gm B) (blk l)) {l:List Tok} (h:TG l):Ok (Gm (zfd B)) (zEc blk l):=by
 unfold zEc
 exact Ok.cond (fun _=>if_m hb _ h.tail) fun _=>Ok.cond (fun _=>zgr hb _ h.tail) fun _=>(zmo h).bd fun n l1 h1=>(zza h1.2).bd fun _ l2 h2=>Ok.ok ⟨h1.1,h2.2⟩
theorem zXk {G:T→Prop} {item:List Tok→R T} (hi:∀ {l},TG l→Ok (Gm G) (item l)):∀ (n:Nat) {l:List Tok},TG l→Ok (GmL G) (zOc item n l)
 | 0,l,_=>Ok.err
 | n+1,l,h=>by
  rw [zOc]
  exact Ok.cond (fun _=>Ok.ok ⟨zve,h.tail⟩) (fun _=>(hi h).bd fun a l1 h1=>(zXk hi n h1.2).bd fun xs l2 h2=>Ok.ok ⟨zXc h1.1 h2.1,h2.2⟩)
theorem zcn:∀ (n:Nat) {l:List Tok},TG l→Ok (Gm (zAf n)) (zhb n l)
 | 0,l,h=>by
  rw [zhb]
  exact (zza h).bd fun _ _ _=>Ok.err
 | n+1,l,h=>by
  rw [zhb]
  exact (zza h).bd fun t l1 h1=>(zXk (zyt (zcn n)) _ h1.2).bd fun xs l2 h2=>Ok.ok ⟨⟨_,xs,rfl,h2.1⟩,h2.2⟩
theorem zRo {l:List Tok} (h:TG l):Ok (Gm zWf) (zWc l):=by
 unfold zWc
 exact Ok.cond (fun _=>Gm.or (zth h.tail) fun _ h=>.inl h) (fun _=>Ok.ok ⟨.inr ⟨_,rfl⟩,h⟩)
theorem fn_m (p:Nat) {l:List Tok} (h:TG l):Ok (Gm FnT) (fnP p l):=by
 unfold fnP
 exact (zic h).bd fun s l1 h1=>(zji zpq h1.2).bd fun xs l2 h2=>(zRo h2.2).bd fun r l3 h3=>(zcn 8 h3.2).bd fun b l4 h4=>Ok.ok ⟨⟨s,p,xs,r,b,rfl,h1.1,h2.1,h3.1,h4.1⟩,h4.2⟩
theorem zet {l:List Tok} (h:TG l):Ok (Gm zhl) (zLd l):=by
 unfold zLd
 exact (zza h).bd fun t l1 h1=>Ok.cond (fun _=>Gm.or (zVs _ h1.2) fun _ h=>.inl h) (fun _=>Gm.or (fn_m _ h1.2) fun _ h=>.inr h)
theorem znn:∀ (n:Nat) {l:List Tok},TG l→Ok (GmL zhl) (zbe n l)
 | 0,l,_=>Ok.err
 | n+1,l,h=>by
  rw [zbe]
  exact Ok.cond (fun _=>Ok.ok ⟨zve,h⟩) (fun _=>(zet h).bd fun a l1 h1=>(znn n h1.2).bd fun xs l2 h2=>Ok.ok ⟨zXc h1.1 h2.1,h2.2⟩)
theorem zLt {l:List Tok} (h:TG l):Ok (Gm zCj) (zwd l):=by
 unfold zwd
 exact (znn _ h).bd fun xs l1 h1=>Ok.ok ⟨⟨xs,rfl,h1.1⟩,h1.2⟩
theorem zhh:zCj zRb:=⟨[],rfl,zve⟩
theorem zLl (s:ByteArray):zCj (zqb s).1:=by
 unfold zqb
 cases hl:zJc s with
 | error e=>exact zhh
 | ok ts =>
  simp only
  unfold zoc
  cases hu:zwd ts with
  | error e=>exact zhh
  | ok q =>
   obtain ⟨t,l⟩:=q
   simp only
   by_cases hs:4096<t.size
   ·rw [if_pos hs];exact zhh
   ·rw [if_neg hs];exact (zLt (zUi hl) _ _ hu).1
end
end Go.Proofs.YtbfgdpcgdmabpaaGreatDoor
namespace Go.Proofs.YtbfgdpcgdmabpaaGreatDoor
open Go.RowKit
theorem Below.row {B:Nat} {a w:World} (h:Below B a w) {g:Nat} (hg:B≤g) (cs:Array Value):Below B a (w.setRow g cs) :=
 ⟨h.os,h.tape,h.output,by simpa [World.setRow] using h.size,fun k hk=>(setRow_other w g k cs (by omega)).trans (h.block k hk)⟩
theorem Blk.stays {w w':World} {g:Nat} {cs:List Value} {t:TypeId} (h:Blk w g cs t) (hb:Below w.heap.size w w'):Blk w' g cs t:=(hb.block g h.lt).trans h
def zDr (t:Tm):List Value:=[.string t.name,.int .i64 t.num]
def zLk:List Tm→List Value
 | []=>[]
 | t :: ts=>zDr t++zLk ts
def zno (i:Ins) (v:Value):List Value :=
 [.int .i64 i.op,.int .i64 i.place,.string i.x,.string i.y,.string i.a.name,.int .i64 i.a.num,.string i.b.name,.int .i64 i.b.num,v,.int .i64 i.to,.bool i.has]
def zbp:List Ins→List Value→List Value
 | i :: is,v :: vs=>zno i v++zbp is vs
 | _,_=>[]
def zBb (w:World) (ts:List Tm) (S:Nat→Prop) (v:Value):Prop :=
 w.ownsRow 0 110 2 v ts.length (zLk ts)∧∀ g,v.ownBlock=some g→S g
def zVb (w:World):List Ins→(Nat→Prop)→List Value→Prop
 | [],_,vs=>vs=[]
 | i :: is,S,vs=>∃ v vs',vs=v :: vs'∧zBb w i.args S v∧zVb w is S vs'
def zVc (w:World) (is:List Ins) (S:Nat→Prop) (v:Value):Prop :=
 ∃ vs,w.ownsRow 0 113 11 v is.length (zbp is vs)∧(∀ g,v.ownBlock=some g→S g)∧zVb w is (fun b=>S b∧v.ownBlock≠some b) vs
theorem zBb.nil (w:World) (S:Nat→Prop):zBb w [] S (.slice none 0 0) :=
 ⟨World.ownsRow_nil _ _ _ _,fun g h=>by simp [Value.ownBlock] at h⟩
theorem zBb.one {w:World} {ts:List Tm} {S:Nat→Prop} {v:Value} (h:zBb w ts S v):v.oneCell'=true:=by
 rcases h.1.2 with ⟨rfl,_⟩|⟨_,_,_,rfl,_⟩<;>rfl
theorem zBb.slice {w:World} {ts:List Tm} {S:Nat→Prop} {v:Value} (h:zBb w ts S v):∃ a n c,v=.slice a n c:=by
 rcases h.1.2 with ⟨rfl,_⟩|⟨_,_,_,rfl,_⟩<;>exact ⟨_,_,_,rfl⟩
theorem zQd {w w':World} {o:Nat} {e:TypeId} {m n:Nat} {v:Value} {xs:List Value} (h:w.ownsRow o e m v n xs) (hk:∀ g,v.ownBlock=some g→w'.heap[g]?=w.heap[g]?):w'.ownsRow o e m v n xs:=by
 refine ⟨h.1,?_⟩
 rcases h.2 with hn|⟨g,cap,cur,rfl,hb,hg,rest⟩
 ·exact .inl hn
 ·exact .inr ⟨g,cap,cur,rfl,hb,(hk g rfl).trans hg,rest⟩
theorem zBb.keep {w w':World} {ts:List Tm} {S S':Nat→Prop} {v:Value} (h:zBb w ts S v) (hk:∀ b,S b→b<w.heap.size→S' b∧w'.heap[b]?=w.heap[b]?):zBb w' ts S' v :=
 ⟨zQd h.1 fun g hg=>(hk g (h.2 g hg) (h.1.lt g hg).2).2,fun g hg=>(hk g (h.2 g hg) (h.1.lt g hg).2).1⟩
theorem zVb.keep {w w':World}:∀ (is:List Ins) {S S':Nat→Prop} {vs:List Value},zVb w is S vs→(∀ b,S b→b<w.heap.size→S' b∧w'.heap[b]?=w.heap[b]?)→zVb w' is S' vs
 | [],_,_,_,h,_=>h
 | i :: is,S,S',vs,h,hk=>by
  obtain ⟨v,vs',e,ha,hs⟩:=h
  exact ⟨v,vs',e,ha.keep hk,zVb.keep is hs hk⟩
theorem zVc.keep {w w':World} {is:List Ins} {S S':Nat→Prop} {v:Value} (h:zVc w is S v) (hk:∀ b,S b→b<w.heap.size→S' b∧w'.heap[b]?=w.heap[b]?):zVc w' is S' v:=by
 obtain ⟨vs,ho,hS,ha⟩:=h
 exact ⟨vs,zQd ho fun g hg=>(hk g (hS g hg) (ho.lt g hg).2).2,fun g hg=>(hk g (hS g hg) (ho.lt g hg).2).1,zVb.keep is ha fun b hb hl=>⟨⟨(hk b hb.1 hl).1,hb.2⟩,(hk b hb.1 hl).2⟩⟩
theorem zVb.length {w:World}:∀ {is:List Ins} {S:Nat→Prop} {vs:List Value},zVb w is S vs→vs.length=is.length
 | [],_,_,h=>by rw [show _=[] from h];rfl
 | i :: is,_,_,h=>by obtain ⟨v,vs',rfl,_,h'⟩:=h;simp [zVb.length h']
theorem zVb.append {w:World}:∀ {is js:List Ins} {S:Nat→Prop} {vs us:List Value},zVb w is S vs→zVb w js S us→zVb w (is++js) S (vs++us)
 | [],_,_,vs,_,h,h'=>by rw [show vs=[] from h];exact h'
 | i :: is,js,_,_,us,h,h'=>by
  obtain ⟨v,vs',rfl,ha,hs⟩:=h
  exact ⟨v,vs'++us,rfl,ha,zVb.append hs h'⟩
theorem zVc.nil (w:World) (S:Nat→Prop):zVc w [] S (.slice none 0 0) :=
 ⟨[],World.ownsRow_nil _ _ _ _,(fun g h=>by simp [Value.ownBlock] at h),rfl⟩
section
variable {w w':World} {is:List Ins} {ts:List Tm} {S S':Nat→Prop} {v:Value}
theorem zVc.mono (h:zVc w is S v) (hS:∀ b,S b→b<w.heap.size→S' b):zVc w is S' v:=h.keep fun b hb hl=>⟨hS b hb hl,rfl⟩
theorem zVc.below (h:zVc w is S v) (hk:Below w.heap.size w w'):zVc w' is S v:=h.keep fun b hb hl=>⟨hb,hk.block b hl⟩
theorem zVc.alloc (h:zVc w is S v) (o:Obj):zVc (w.alloc o) is S v:=h.keep fun b hb hl=>⟨hb,Below.heap_alloc w o b hl⟩
theorem zVc.drew (h:zVc w is S v):zVc w.drew is S v:=h.keep fun _ hb _=>⟨hb,rfl⟩
theorem zVc.setRow (h:zVc w is S v) (g:Nat) (cs:Array Value) (hS:∀ b,S b→b≠g):zVc (w.setRow g cs) is S v:=h.keep fun b hb _=>⟨hb,setRow_other w g b cs (hS b hb)⟩
theorem zVc.setCell (h:zVc w is S v) (a:Addr) (x:Value) (hS:∀ b,S b→b≠a.block):zVc (w.setCell a x) is S v:=h.keep fun b hb _=>⟨hb,Below.heap_setCell w a x b (hS b hb)⟩
theorem zBb.mono (h:zBb w ts S v) (hS:∀ b,S b→b<w.heap.size→S' b):zBb w ts S' v:=h.keep fun b hb hl=>⟨hS b hb hl,rfl⟩
theorem zBb.below (h:zBb w ts S v) (hk:Below w.heap.size w w'):zBb w' ts S v:=h.keep fun b hb hl=>⟨hb,hk.block b hl⟩
theorem zBb.alloc (h:zBb w ts S v) (o:Obj):zBb (w.alloc o) ts S v:=h.keep fun b hb hl=>⟨hb,Below.heap_alloc w o b hl⟩
theorem zBb.drew (h:zBb w ts S v):zBb w.drew ts S v:=h.keep fun _ hb _=>⟨hb,rfl⟩
theorem zBb.setRow (h:zBb w ts S v) (g:Nat) (cs:Array Value) (hS:∀ b,S b→b≠g):zBb (w.setRow g cs) ts S v:=h.keep fun b hb _=>⟨hb,setRow_other w g b cs (hS b hb)⟩
theorem zBb.setCell (h:zBb w ts S v) (a:Addr) (x:Value) (hS:∀ b,S b→b≠a.block):zBb (w.setCell a x) ts S v:=h.keep fun b hb _=>⟨hb,Below.heap_setCell w a x b (hS b hb)⟩
end
theorem zVc.slice {w:World} {is:List Ins} {S:Nat→Prop} {v:Value} (h:zVc w is S v):∃ a c,v=.slice a is.length c:=by
 obtain ⟨_,ho,_⟩:=h
 rcases ho.2 with ⟨rfl,h0⟩|⟨g,cap,_,rfl,_⟩
 ·exact ⟨_,_,by rw [h0]⟩
 ·exact ⟨_,_,rfl⟩
theorem zVc.one {w:World} {is:List Ins} {S:Nat→Prop} {v:Value} (h:zVc w is S v):v.oneCell'=true:=by
 obtain ⟨_,_,rfl⟩:=h.slice
 rfl
theorem zVb.get {w:World}:∀ {is:List Ins} {S:Nat→Prop} {vs:List Value},zVb w is S vs→∀ {k:Nat} {i:Ins},is[k]?=some i→∃ u,vs[k]?=some u∧zBb w i.args S u
 | [],_,_,_,k,t,h=>by simp at h
 | a :: ts,S,vs,h,0,t,hk=>by
  obtain ⟨v,vs',rfl,ht,_⟩:=h
  obtain rfl:a=t:=by simpa using hk
  exact ⟨v,rfl,ht⟩
 | a :: ts,S,vs,h,k+1,t,hk=>by
  obtain ⟨v,vs',rfl,_,hts⟩:=h
  obtain ⟨u,hu,ht⟩:=zVb.get hts (k:=k) (i:=t) (by simpa using hk)
  exact ⟨u,by simpa using hu,ht⟩
end Go.Proofs.YtbfgdpcgdmabpaaGreatDoor
