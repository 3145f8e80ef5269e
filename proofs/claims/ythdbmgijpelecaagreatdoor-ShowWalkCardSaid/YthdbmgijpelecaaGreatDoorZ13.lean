/- Every tree that was read is whole: each node's kids are of the kinds that the table of layer 2 has for it. Nothing of the program is walked here. -/
import Derived.Test.YthdbmgijpelecaaGreatDoorZ03
import Derived.Test.YthdbmgijpelecaaGreatDoorZ12
import Derived.Test.YthdbmgijpelecaaGreatDoorZ02
import Derived.Lib.ItoaLen
namespace Go.Proofs.YthdbmgijpelecaaGreatDoor
open Go.RowKit
def zzb (k:Int):Prop:=10≤k∧k≤20
def zed (k:Int):Prop:=k=5∨(21≤k∧k≤28)
def zwc (K:Int→Prop) (ts:List T):Prop:=∀ t∈ts,K t.kind
theorem zwc.nil {K:Int→Prop}:zwc K []:=by intro t h;simp at h
theorem zwc.cons {K:Int→Prop} {t:T} {ts:List T} (h:K t.kind) (hs:zwc K ts):zwc K (t :: ts):=by
 intro u hu
 rcases List.mem_cons.1 hu with rfl|hu
 ·exact h
 ·exact hs u hu
inductive Fit:Int→List T→Prop
 | unit {k:Int} {ks:List T}:k=0→zwc (fun x=>x=1∨x=6) ks→Fit k ks
 | type {k:Int} {a:T} {ys zs:List T}:k=1→a.kind=2→zwc (·=3) ys→zwc (·=4) zs→Fit k (a :: (ys++zs))
 | none {k:Int}:k=2∨k=3∨k=8∨k=17→Fit k []
 | one {k:Int} {a:T}:k=2∨k=3∨k=8∨k=17→a.kind=5→Fit k [a]
 | two {k:Int} {a b:T}:k=4∨k=11∨k=21∨k=22→a.kind=5→b.kind=5→Fit k [a,b]
 | fn {k:Int} {xs:List T} {r b:T}:k=6→zwc (·=7) xs→r.kind=8→b.kind=9→Fit k (xs++[r,b])
 | param {k:Int} {a:T}:k=7→a.kind=8→Fit k [a]
 | block {k:Int} {ks:List T}:k=9→zwc zzb ks→Fit k ks
 | set {k:Int} {a:T}:k=10→zed a.kind→Fit k [a]
 | cond {k:Int} {a b c d:T}:k=15→a.kind=5→b.kind=5→c.kind=9→d.kind=9→Fit k [a,b,c,d]
 | loop {k:Int} {a b c:T}:k=16→a.kind=5→b.kind=5→c.kind=9→Fit k [a,b,c]
 | call1 {k:Int} {a:T}:k=20→a.kind=28→Fit k [a]
 | load {k:Int} {a:T}:k=25→a.kind=5→Fit k [a]
 | call {k:Int} {ks:List T}:k=19∨k=28→zwc (·=5) ks→Fit k ks
 | leaf {k:Int}:k=5∨k=12∨k=13∨k=14∨k=18∨k=23∨k=24∨k=26∨k=27→Fit k []
mutual
def T.whole:T→Prop
 | .mk k _ _ _ ks=>Fit k ks∧zQc ks
def zQc:List T→Prop
 | []=>True
 | t :: ts=>t.whole∧zQc ts
end
theorem zAa {k:Int} {s:ByteArray} {n:Int} {p:Nat} {ks:List T}:(T.mk k s n p ks).whole↔Fit k ks∧zQc ks:=by rw [T.whole]
theorem zHn {t:T}:t.whole↔Fit t.kind t.kids∧zQc t.kids:=by cases t;rw [T.whole];exact Iff.rfl
theorem zSb:zQc []:=by rw [zQc];trivial
theorem zYa {t:T} {ts:List T}:zQc (t :: ts)↔t.whole∧zQc ts:=by rw [zQc]
theorem zci {t:T} (h:t.whole):zQc [t]:=zYa.2 ⟨h,zSb⟩
theorem zvd {t u:T} (h:t.whole) (h':u.whole):zQc [t,u]:=zYa.2 ⟨h,zci h'⟩
theorem zXd:∀ {a b:List T},zQc a→zQc b→zQc (a++b)
 | [],_,_,h=>h
 | t :: ts,b,h,h'=>by rw [zYa] at h;exact zYa.2 ⟨h.1,zXd h.2 h'⟩
theorem zWh:∀ {ks:List T} {t:T},zQc ks→t∈ks→t.whole
 | a :: ks,t,h,hm=>by
  rw [zYa] at h
  rcases List.mem_cons.1 hm with rfl|hm
  ·exact h.1
  ·exact zWh h.2 hm
def W1 (K:Int→Prop) (t:T) (_:List Tok):Prop:=K t.kind∧t.whole
def WL (K:Int→Prop) (ts:List T) (_:List Tok):Prop:=zwc K ts∧zQc ts
def Any {α:Type} (_:α) (_:List Tok):Prop:=True
theorem zTb {α:Type} (r:R α):Ok Any r:=fun _ _ _=>trivial
theorem W1.or {K K':Int→Prop} {r:R T} (h:Ok (W1 K) r) (hk:∀ k,K k→K' k):Ok (W1 K') r:=h.mono fun _ _ h=>⟨hk _ h.1,h.2⟩
theorem zDd {K:Int→Prop} {k:Int} {s:ByteArray} {n:Int} {p:Nat} {l:List Tok} (hf:Fit k []) (hk:K k):W1 K (.mk k s n p []) l:=⟨hk,zAa.2 ⟨hf,zSb⟩⟩
theorem zCh {K:Int→Prop} {k:Int} {s:ByteArray} {n:Int} {p:Nat} {a:T} {l:List Tok} (hf:Fit k [a]) (ha:a.whole) (hk:K k):W1 K (.mk k s n p [a]) l:=⟨hk,zAa.2 ⟨hf,zci ha⟩⟩
theorem zvg {K:Int→Prop} {k:Int} {s:ByteArray} {n:Int} {p:Nat} {ks:List T} {l:List Tok} (hf:Fit k ks) (ha:zQc ks) (hk:K k):W1 K (.mk k s n p ks) l:=⟨hk,zAa.2 ⟨hf,ha⟩⟩
theorem zhk {K:Int→Prop} {t:T} (v:Int) {l:List Tok} (h:K t.kind∧t.whole):W1 K (t.zhc v) l:=by
 cases t
 exact ⟨h.1,zAa.2 (zAa.1 h.2)⟩
theorem zBc (l:List Tok):Ok (W1 (·=5)) (zsa l):=by
 unfold zsa
 exact (zTb _).bd fun s l1 _=>Ok.ok (zDd (.leaf (by omega)) rfl)
theorem zhg (l:List Tok):Ok (W1 (·=5)) (zEa l):=by
 unfold zEa
 exact Ok.cond (fun _=>(zTb _).bd fun s l1 _=>Ok.ok (zDd (.leaf (by omega)) rfl)) (fun _=>(zTb _).bd fun s l1 _=>Ok.ok (zDd (.leaf (by omega)) rfl))
theorem zrh (l:List Tok):Ok (W1 (·=5)) (zQb l):=by
 unfold zQb
 exact Ok.cond (fun _=>(zBc l).bd fun n l1 h=>Ok.sum (fun _=>Ok.ok h) fun k x _=>(zTb _).bd fun v l2 _=>Ok.ok (zhk _ h)) (fun _=>zhg l)
theorem zXl {K:Int→Prop} {item:List Tok→R T} (hi:∀ l,Ok (W1 K) (item l)):∀ (n:Nat) (l:List Tok),Ok (WL K) (zLe item n l)
 | 0,l=>Ok.err
 | n+1,l=>by
  rw [zLe]
  exact Ok.cond (fun _=>(hi _).bd fun a l1 h=>(zXl hi n l1).bd fun xs l2 h2=>Ok.ok ⟨.cons h.1 h2.1,zYa.2 ⟨h.2,h2.2⟩⟩) (fun _=>Ok.ok ⟨.nil,zSb⟩)
theorem zyl {K:Int→Prop} {item:List Tok→R T} (hi:∀ l,Ok (W1 K) (item l)) (l:List Tok):Ok (WL K) (zHd item l):=by
 unfold zHd
 exact (hi l).bd fun a l1 h=>(zXl hi _ l1).bd fun xs l2 h2=>Ok.ok ⟨.cons h.1 h2.1,zYa.2 ⟨h.2,h2.2⟩⟩
theorem zoi {K:Int→Prop} {item:List Tok→R T} (hi:∀ l,Ok (W1 K) (item l)) (l:List Tok):Ok (WL K) (zjb item l):=by
 unfold zjb
 exact (zTb _).bd fun _ l1 _=>Ok.cond (fun _=>Ok.ok ⟨.nil,zSb⟩) (fun _=>(zyl hi l1).bd fun xs l2 h2=>(zTb _).bd fun _ l3 _=>Ok.ok h2)
theorem zQl (l:List Tok):Ok (W1 (·=5)) (zqc l):=by
 unfold zqc
 exact (zTb _).bd fun _ l1 _=>(zrh l1).bd fun a l2 h2=>(zTb _).bd fun _ l3 _=>Ok.ok h2
theorem zvo (n:T) (l:List Tok):Ok (W1 (·=28)) (zae n l):=by
 unfold zae
 exact (zoi zrh l).bd fun xs l1 h=>Ok.ok (zvg (.call (.inr rfl) h.1) h.2 rfl)
theorem ref_w (p:Nat) (l:List Tok):Ok (W1 zed) (zti p l):=by
 unfold zti
 exact Ok.cond (fun _=>(zTb _).bd fun s l1 _=>Ok.ok (zDd (.leaf (by omega)) (by unfold zed;omega))) (fun _=>(zTb _).bd fun s l1 _=>Ok.ok (zDd (.leaf (by omega)) (by unfold zed;omega)))
theorem zyk {l:List Tok} {k x:Int} (h:sumP l=some (k,x)):k=21∨k=22:=by
 unfold sumP at h
 cases h1:isT (hdT l) (bs [43]) with
 | true=>rw [h1] at h;simp at h;omega
 | false =>
  rw [h1] at h
  cases h2:isT (hdT l) (bs [45]) with
  | true=>rw [h2] at h;simp at h;omega
  | false=>rw [h2] at h;simp at h
theorem zcl (l:List Tok):Ok (W1 zed) (zza l):=by
 unfold zza
 refine (zBc l).bd fun n l1 h=>Ok.cond (fun _=>(zQl l1).bd fun a l2 h2=>Ok.ok (zCh (.load rfl h2.1) h2.2 (by unfold zed;omega))) fun _=>Ok.cond (fun _=>W1.or (zvo n l1) (fun k hk=>by unfold zed;omega)) fun _=>Ok.sum (fun _=>Ok.ok ⟨.inl h.1,h.2⟩) fun k x hs=>Ok.cond (fun _=>(zBc _).bd fun m l2 h2=>Ok.ok ?_) (fun _=>(zTb _).bd fun v l2 _=>Ok.ok (zhk _ ⟨.inl h.1,h.2⟩))
 have hk:=zyk hs
 exact zvg (.two (by omega) h.1 h2.1) (zvd h.2 h2.2) (by unfold zed;omega)
theorem zWr (l:List Tok):Ok (W1 zed) (zyc l):=by
 unfold zyc
 exact Ok.cond (fun _=>(zTb _).bd fun v l1 _=>Ok.ok (zDd (.leaf (by omega)) (by unfold zed;omega))) fun _=>Ok.cond (fun _=>(zTb _).bd fun s l1 _=>Ok.ok (zDd (.leaf (by omega)) (by unfold zed;omega))) fun _=>Ok.cond (fun _=>ref_w _ _) fun _=>Ok.cond (fun _=>zcl l) fun _=>W1.or (zhg l) (fun k hk=>.inl hk)
def Cp (k:Int) (t:T) (_:List Tok):Prop:=∃ s n p a b,t=.mk k s n p [a,b]∧(a.kind=5∧a.whole)∧b.kind=5∧b.whole
theorem zQg (k:Int) (p:Nat) (l:List Tok):Ok (Cp k) (zUa k p l):=by
 unfold zUa
 exact (zrh l).bd fun a l1 h1=>(zTb _).bd fun c l2 _=>(zrh l2).bd fun b l3 h3=>Ok.ok ⟨_,_,_,a,b,rfl,h1,h3⟩
theorem zDr (l:List Tok):Ok (W1 (·=4)) (zwe l):=by
 unfold zwe
 exact (zQg 4 _ l).mono fun t l' ⟨s,n,p,a,b,e,ha,hb⟩=>by subst e;exact zvg (.two (.inl rfl) ha.1 hb.1) (zvd ha.2 hb.2) rfl
theorem zaq (l:List Tok):Ok (W1 (·=3)) (zfc l):=by
 unfold zfc
 exact (zTb _).bd fun s l1 _=>Ok.cond (fun hc=>(zBc _).bd fun a l2 h2=>(zTb _).bd fun _ l3 _=>Ok.ok (zCh (.one (by omega) h2.1) h2.2 rfl)) (fun _=>Ok.ok (zDd (.none (by omega)) rfl))
theorem zUq (l:List Tok):Ok (W1 (·=2)) (zNd l):=by
 unfold zNd
 exact (zTb _).bd fun t l1 _=>Ok.cond (fun _=>Ok.ok (zDd (.none (by omega)) rfl)) (fun _=>(zBc l1).bd fun a l2 h2=>Ok.ok (zCh (.one (by omega) h2.1) h2.2 rfl))
theorem zvh (l:List Tok):Ok (W1 (·=8)) (zLa l):=by
 unfold zLa
 exact (zTb _).bd fun t l1 _=>Ok.cond (fun _=>(zBc l1).bd fun a l2 h2=>Ok.ok (zCh (.one (by omega) h2.1) h2.2 rfl)) (fun _=>Ok.ok (zDd (.none (by omega)) rfl))
theorem zrr (l:List Tok):Ok (W1 (·=8)) (zBd l):=by
 unfold zBd
 exact Ok.cond (fun hc=>Ok.cond (fun _=>(zBc _).bd fun a l2 h2=>Ok.ok (zCh (.one (by omega) h2.1) h2.2 rfl)) (fun _=>(zBc _).bd fun a l2 h2=>Ok.ok (zCh (.one (by omega) h2.1) h2.2 rfl))) (fun _=>zvh l)
theorem zGo (l:List Tok):Ok (W1 (·=7)) (zzc l):=by
 unfold zzc
 exact (zTb _).bd fun s l1 _=>(zTb _).bd fun _ l2 _=>(zrr l2).bd fun a l3 h3=>Ok.ok (zCh (.param rfl h3.1) h3.2 rfl)
theorem zcn (l:List Tok):Ok (WL (·=3)) (zTc l):=by
 unfold zTc
 exact Ok.cond (fun _=>(zyl zaq _).bd fun xs l1 h=>(zTb _).bd fun _ l2 _=>Ok.ok h) (fun _=>Ok.ok ⟨.nil,zSb⟩)
theorem znp (l:List Tok):Ok (WL (·=4)) (zbd l):=by
 unfold zbd
 exact Ok.cond (fun _=>zyl zDr _) (fun _=>Ok.ok ⟨.nil,zSb⟩)
theorem ztr (p:Nat) (l:List Tok):Ok (W1 (·=1)) (zMb p l):=by
 unfold zMb
 exact (zTb _).bd fun s l1 _=>(zUq l1).bd fun a l2 h2=>(zcn l2).bd fun ys l3 h3=>(znp l3).bd fun zs l4 h4=>(zTb _).bd fun _ l5 _=>Ok.ok (zvg (.type rfl h2.1 h3.1 h4.1) (zYa.2 ⟨h2.2,zXd h3.2 h4.2⟩) rfl)
theorem zzo {k:Int} (hk:k=13∨k=14) (p:Nat) (l:List Tok):Ok (W1 zzb) (zAd k p l):=by
 unfold zAd
 exact (zTb _).bd fun s l1 _=>(zTb _).bd fun _ l2 _=>(zTb _).bd fun v l3 _=>(zTb _).bd fun _ l4 _=>Ok.ok (zDd (.leaf (by omega)) (by unfold zzb;omega))
theorem zln (p:Nat) (l:List Tok):Ok (W1 zzb) (zYb p l):=by
 unfold zYb
 exact Ok.cond (fun _=>Ok.ok (zDd (.none (by omega)) (by unfold zzb;omega))) (fun _=>(zrh l).bd fun a l1 h=>Ok.ok (zCh (.one (by omega) h.1) h.2 (by unfold zzb;omega)))
theorem zEo (l:List Tok):Ok (W1 zzb) (zxb l):=by
 unfold zxb
 exact (zTb _).bd fun n l1 _=>Ok.cond (fun _=>(zvo n l1).bd fun c l2 h2=>Ok.ok (zCh (.call1 rfl h2.1) h2.2 (by unfold zzb;omega))) fun _=>Ok.cond (fun _=>(zQl l1).bd fun i l2 h2=>(zTb _).bd fun _ l3 _=>(zrh l3).bd fun b l4 h4=>Ok.ok (zvg (.two (by omega) h2.1 h4.1) (zvd h2.2 h4.2) (by unfold zzb;omega))) fun _=>(zTb _).bd fun _ l2 _=>(zWr l2).bd fun x l3 h3=>Ok.ok (zCh (.set rfl h3.1) h3.2 (by unfold zzb;omega))
theorem zSn (l:List Tok):Ok (W1 zzb) (zIa l):=by
 unfold zIa
 exact Ok.cond (fun _=>zEo l) fun _=>Ok.cond (fun _=>(zTb _).bd fun s l1 _=>Ok.ok (zDd (.leaf (by omega)) (by unfold zzb;omega))) fun _=>Ok.cond (fun _=>zzo (.inl rfl) _ _) fun _=>Ok.cond (fun _=>zzo (.inr rfl) _ _) fun _=>Ok.cond (fun hc=>zln _ _) fun _=>Ok.cond (fun hc=>Ok.ok (zDd (.leaf (by omega)) (by unfold zzb;omega))) fun _=>Ok.cond (fun _=>(zTb _).bd fun s l1 _=>(zoi zrh l1).bd fun xs l2 h2=>Ok.ok (zvg (.call (.inl rfl) h2.1) h2.2 (by unfold zzb;omega))) fun _=>Ok.err
theorem zJr {blk:List Tok→R T} (hb:∀ l,Ok (W1 (·=9)) (blk l)) (p:Nat) (l:List Tok):Ok (W1 (·=9)) (zUf blk p l):=by
 unfold zUf
 exact Ok.cond (fun _=>hb _) (fun _=>Ok.ok (zvg (.block rfl .nil) zSb rfl))
theorem if_w {blk:List Tok→R T} (hb:∀ l,Ok (W1 (·=9)) (blk l)) (p:Nat) (l:List Tok):Ok (W1 zzb) (ifP blk p l):=by
 unfold ifP
 refine (zQg 15 p l).bd fun n l1 ⟨s,v,q,a,b,e,ha,hb'⟩=>(hb l1).bd fun c l2 h2=>(zJr hb p l2).bd fun d l3 h3=>Ok.ok ?_
 subst e
 exact zvg (.cond rfl ha.1 hb'.1 h2.1 h3.1) (zYa.2 ⟨ha.2,zYa.2 ⟨hb'.2,zvd h2.2 h3.2⟩⟩) (by unfold zzb;omega)
theorem zqq {blk:List Tok→R T} (hb:∀ l,Ok (W1 (·=9)) (blk l)) (p:Nat) (l:List Tok):Ok (W1 zzb) (zke blk p l):=by
 unfold zke
 refine (zQg 16 p l).bd fun n l1 ⟨s,v,q,a,b,e,ha,hb'⟩=>(hb l1).bd fun c l2 h2=>Ok.ok ?_
 subst e
 exact zvg (.loop rfl ha.1 hb'.1 h2.1) (zYa.2 ⟨ha.2,zvd hb'.2 h2.2⟩) (by unfold zzb;omega)
theorem zWq {blk:List Tok→R T} (hb:∀ l,Ok (W1 (·=9)) (blk l)) (l:List Tok):Ok (W1 zzb) (zHc blk l):=by
 unfold zHc
 exact Ok.cond (fun _=>if_w hb _ _) fun _=>Ok.cond (fun _=>zqq hb _ _) fun _=>(zSn l).bd fun n l1 h1=>(zTb _).bd fun _ l2 _=>Ok.ok h1
theorem zuk {item:List Tok→R T} (hi:∀ l,Ok (W1 zzb) (item l)):∀ (n:Nat) (l:List Tok),Ok (WL zzb) (zPc item n l)
 | 0,l=>Ok.err
 | n+1,l=>by
  rw [zPc]
  exact Ok.cond (fun _=>Ok.ok ⟨.nil,zSb⟩) (fun _=>(hi _).bd fun a l1 h=>(zuk hi n l1).bd fun xs l2 h2=>Ok.ok ⟨.cons h.1 h2.1,zYa.2 ⟨h.2,h2.2⟩⟩)
theorem zSl:∀ (n:Nat) (l:List Tok),Ok (W1 (·=9)) (zhb n l)
 | 0,l=>by
  rw [zhb]
  exact (zTb _).bd fun _ _ _=>Ok.err
 | n+1,l=>by
  rw [zhb]
  exact (zTb _).bd fun t l1 _=>(zuk (zWq (zSl n)) _ l1).bd fun xs l2 h=>Ok.ok (zvg (.block rfl h.1) h.2 rfl)
theorem zio (l:List Tok):Ok (W1 (·=8)) (zRc l):=by
 unfold zRc
 exact Ok.cond (fun _=>zvh _) (fun _=>Ok.ok (zDd (.none (by omega)) rfl))
theorem fn_w (p:Nat) (l:List Tok):Ok (W1 (·=6)) (fnP p l):=by
 unfold fnP
 exact (zTb _).bd fun s l1 _=>(zoi zGo l1).bd fun xs l2 h2=>(zio l2).bd fun r l3 h3=>(zSl 8 l3).bd fun b l4 h4=>Ok.ok (zvg (.fn rfl h2.1 h3.1 h4.1) (zXd h2.2 (zvd h3.2 h4.2)) rfl)
theorem zXq (l:List Tok):Ok (W1 (fun x=>x=1∨x=6)) (zGd l):=by
 unfold zGd
 exact (zTb _).bd fun t l1 _=>Ok.cond (fun _=>W1.or (ztr _ _) fun _ h=>.inl h) (fun _=>W1.or (fn_w _ _) fun _ h=>.inr h)
theorem zGm:∀ (n:Nat) (l:List Tok),Ok (WL (fun x=>x=1∨x=6)) (zVd n l)
 | 0,l=>Ok.err
 | n+1,l=>by
  rw [zVd]
  exact Ok.cond (fun _=>Ok.ok ⟨.nil,zSb⟩) (fun _=>(zXq _).bd fun a l1 h=>(zGm n l1).bd fun xs l2 h2=>Ok.ok ⟨.cons h.1 h2.1,zYa.2 ⟨h.2,h2.2⟩⟩)
theorem zIq (l:List Tok):Ok (W1 (·=0)) (zqd l):=by
 unfold zqd
 exact (zGm _ l).bd fun xs l1 h=>Ok.ok (zvg (.unit rfl h.1) h.2 rfl)
theorem zdg:zWb.whole:=zAa.2 ⟨.unit rfl .nil,zSb⟩
theorem zjh (l:List Tok):(zpc l).1.kind=0∧(zpc l).1.whole:=by
 unfold zpc
 cases hu:zqd l with
 | error q=>exact ⟨rfl,zdg⟩
 | ok q =>
  have h:=zIq l q.1 q.2 hu
  show ((if 4096<q.1.size then (zWb,0,22) else (q.1,0,0)):T × Nat × Int).1.kind=0∧T.whole ((if 4096<q.1.size then (zWb,0,22) else (q.1,0,0)):T × Nat × Int).1
  split
  ·exact ⟨rfl,zdg⟩
  ·exact h
theorem zHg (s:ByteArray):(zlb s).1.kind=0∧(zlb s).1.whole:=by
 unfold zlb
 cases zLc s with
 | error q=>exact ⟨rfl,zdg⟩
 | ok ts=>exact zjh ts
end Go.Proofs.YthdbmgijpelecaaGreatDoor
namespace Go.Proofs.YthdbmgijpelecaaGreatDoor
open Go.RowKit
end Go.Proofs.YthdbmgijpelecaaGreatDoor
namespace Go.Proofs.YthdbmgijpelecaaGreatDoor
open Go.RowKit
end Go.Proofs.YthdbmgijpelecaaGreatDoor
namespace Go.Proofs.YthdbmgijpelecaaGreatDoor
section
open Go.RowKit
structure LKp (pb:Nat) (row:Option Nat) (w w':World):Prop where
 os:w'.os=w.os
 tape:w'.tape=w.tape
 output:w'.output=w.output
 size:w.heap.size≤w'.heap.size
 block:∀ k,k<w.heap.size→k≠pb→row≠some k→w'.heap[k]?=w.heap[k]?
structure Lay (pb:Nat) (w:World) (v:Value) (is:List Ins) (W:World) (V:Value):Prop where
 kp:LKp pb v.ownBlock w W
 blk:Blk W pb [V] 110
 ins:zPb W is (fun b=>pb<b) V
 row:V.ownBlock=v.ownBlock∨∀ k,V.ownBlock=some k→w.heap.size≤k
 lo:pb<w.heap.size
 vlo:∀ k,v.ownBlock=some k→pb<k∧k<w.heap.size
theorem zPb.zko {w:World} {is:List Ins} {S:Nat→Prop} {v:Value} (h:zPb w is S v) {k:Nat} (hk:v.ownBlock=some k):S k∧k<w.heap.size:=by
 obtain ⟨_,ho,hS,_⟩:=h
 exact ⟨hS k hk,(ho.lt k hk).2⟩
section
variable {pb:Nat} {w W W':World} {v V V':Value} {is is':List Ins}
theorem Lay.start (hb:Blk w pb [v] 110) (hi:zPb w is (fun b=>pb<b) v):Lay pb w v is w v :=
 ⟨⟨rfl,rfl,rfl,Nat.le_refl _,fun _ _ _ _=>rfl⟩,hb,hi,.inl rfl,hb.lt,fun _ hk=>hi.zko hk⟩
theorem Lay.trans (h:Lay pb w v is W V) (h':Lay pb W V is' W' V'):Lay pb w v is' W' V':=by
 refine ⟨⟨h'.kp.os.trans h.kp.os,h'.kp.tape.trans h.kp.tape,h'.kp.output.trans h.kp.output,Nat.le_trans h.kp.size h'.kp.size,fun k hk hn hr=>?_⟩,h'.blk,h'.ins,?_,h.lo,h.vlo⟩
 ·refine (h'.kp.block k (Nat.lt_of_lt_of_le hk h.kp.size) hn fun hV=>?_).trans (h.kp.block k hk hn hr)
  rcases h.row with hq|hq
  ·exact hr (hq▸hV)
  ·have:=hq k hV;omega
 ·rcases h'.row with hq|hq
  ·rcases h.row with hp|hp
   ·exact .inl (hq.trans hp)
   ·exact .inr fun k hk=>hp k (hq▸hk)
  ·exact .inr fun k hk=>Nat.le_trans h.kp.size (hq k hk)
theorem Lay.stays (h:Lay pb w v is W V) {g:Nat} {cs:List Value} {t:TypeId} (hb:Blk w g cs t) (hn:g≠pb) (hv:v.ownBlock≠some g):Blk W g cs t:=(h.kp.block g hb.lt hn hv).trans hb
theorem Lay.kat (h:Lay pb w v is W V) {e:TypeId} {ks:List T} {kv:Value} (hk:KAt e w ks (fun b=>b<pb) kv):KAt e W ks (fun b=>b<pb) kv :=
 hk.keep fun b hb hl=>⟨hb,h.kp.block b hl (by omega) fun hq=>by have:=h.vlo b hq;omega⟩
theorem LKp.of_below {row:Option Nat} (h:Below w.heap.size w W):LKp pb row w W:=⟨h.os,h.tape,h.output,h.size,fun k hk _ _=>h.block k hk⟩
theorem Lay.below (h:Lay pb w v is W V) (hb:Below W.heap.size W W'):Lay pb w v is W' V :=
 h.trans ⟨.of_below hb,h.blk.stays hb,h.ins.below hb,.inl rfl,h.blk.lt,fun _ hk=>h.ins.zko hk⟩
theorem Lay.back {w0:World} (h:Lay pb w v is W V) (hb:Below w0.heap.size w0 w) (hlo:pb<w0.heap.size) (hv:∀ k,v.ownBlock=some k→k<w0.heap.size):Lay pb w0 v is W V :=
 ⟨⟨h.kp.os.trans hb.os,h.kp.tape.trans hb.tape,h.kp.output.trans hb.output,Nat.le_trans hb.size h.kp.size,fun k hk hn hr=>(h.kp.block k (Nat.lt_of_lt_of_le hk hb.size) hn hr).trans (hb.block k hk)⟩,
  h.blk,h.ins,h.row.imp id fun hq k hk=>Nat.le_trans hb.size (hq k hk),hlo,fun k hk=>⟨(h.vlo k hk).1,hv k hk⟩⟩
end
theorem zPb.zcg {w:World} {is:List Ins} {S:Nat→Prop} {a:Addr} {n c k:Nat} {i:Ins} (h:zPb w is S (.slice (some a) n c)) (hk:is[k]?=some i) (to:Nat) :
  ∃ g,a=⟨g,0,none⟩∧(w.cell? ⟨g,k * 11+9,none⟩=some (.int .i64 i.to)∧w.frozen? ⟨g,k * 11+9,none⟩=false)∧zPb (w.setCell ⟨g,k * 11+9,none⟩ (.int .i64 to)) (is.set k (i.zcg to)) S (.slice (some a) n c):=by
 obtain ⟨vs,ho,hS,ha⟩:=h
 have hlt:k<is.length:=(List.getElem?_eq_some_iff.1 hk).1
 obtain ⟨u,hu,_⟩:=ha.get hk
 rcases ho.2 with ⟨hn,_⟩|⟨g,cap,cur,hv,hb,hg,hnc,hcm,hcs,htake⟩
 ·cases hn
 ·simp only [Value.slice.injEq,Option.some.injEq] at hv
  obtain ⟨rfl,rfl,rfl⟩:=hv
  refine ⟨g,rfl,⟨?_,ho.frozenAt _⟩,vs,?_,hS,?_⟩
  ·rw [ho.cellAt (k * 11+9) (by omega),zTf is vs k i u 9 hk hu (by omega)]
   rfl
  ·rw [List.length_set,← zfg is vs k i to ha.length hk]
   exact (ho.stored (k * 11+9) (.int .i64 to)).1
  ·exact zwb.keep _ (ha.zcg hk) fun b hb _=>⟨hb,Below.heap_setCell _ _ _ _ (fun e=>hb.2 (by rw [e];rfl))⟩
theorem Lay.zcg {pb:Nat} {w W:World} {v:Value} {is:List Ins} {a:Addr} {n c k:Nat} {i:Ins} (h:Lay pb w v is W (.slice (some a) n c)) (hk:is[k]?=some i) (to:Nat) :
  ∃ g,a=⟨g,0,none⟩∧(W.cell? ⟨g,k * 11+9,none⟩=some (.int .i64 i.to)∧W.frozen? ⟨g,k * 11+9,none⟩=false)∧(pb<g∧g<W.heap.size)∧Lay pb w v (is.set k (i.zcg to)) (W.setCell ⟨g,k * 11+9,none⟩ (.int .i64 to)) (.slice (some a) n c):=by
 obtain ⟨g,rfl,hc,hi⟩:=h.ins.zcg hk to
 have hg:=h.ins.zko (k:=g) rfl
 have hg1:pb<g:=hg.1
 refine ⟨g,rfl,hc,hg,h.trans ⟨⟨rfl,rfl,rfl,by simp [World.setCell],fun b _ _ hr=>Below.heap_setCell _ _ _ _ (fun e=>hr (by rw [e];rfl))⟩,h.blk.setOther _ _ (by show pb≠g;omega),hi,.inl rfl,h.blk.lt,fun _ hk=>h.ins.zko hk⟩⟩
end
section
open Go.RowKit
end
section
open Go.RowKit
mutual
def T.count:T→Nat
 | .mk k _ _ _ ks=>(bif k == 15 || k == 16 then 2 else bif decide (10≤k) && decide (k≤20) then 1 else 0)+counts ks
def counts:List T→Nat
 | []=>0
 | t :: ts=>t.count+counts ts
end
def JOk (c h:Nat) (B:List Ins):Prop:=∀ i x,B[i]?=some x →
 (x.op=10→c+i<x.to∧x.to≤h)∧(x.op=11→x.to≤h∧x.to≠c+i∧(x.to<c+i→c≤x.to∧∃ y,B[x.to-c]?=some y∧y.op=10))∧(x.op≠10→x.op≠11→x.to=0)
theorem JOk.nil {c h:Nat}:JOk c h []:=by intro i x hx;simp at hx
theorem JOk.mono {c h h':Nat} {B:List Ins} (hb:JOk c h B) (hh:h≤h'):JOk c h' B:=fun i x hx=>by
 obtain ⟨h1,h2,h3⟩:=hb i x hx
 exact ⟨fun e=>⟨(h1 e).1,by have:=(h1 e).2;omega⟩,fun e=>⟨by have:=(h2 e).1;omega,(h2 e).2⟩,h3⟩
theorem JOk.append {c h:Nat} {A B:List Ins} (ha:JOk c h A) (hb:JOk (c+A.length) h B):JOk c h (A++B):=by
 intro i x hx
 rcases Nat.lt_or_ge i A.length with hi|hi
 ·rw [List.getElem?_append_left hi] at hx
  obtain ⟨h1,h2,h3⟩:=ha i x hx
  refine ⟨h1,fun e=>⟨(h2 e).1,(h2 e).2.1,fun hlt=>?_⟩,h3⟩
  obtain ⟨h4,y,hy,ho⟩:=(h2 e).2.2 hlt
  exact ⟨h4,y,by rw [List.getElem?_append_left (by omega)];exact hy,ho⟩
 ·rw [List.getElem?_append_right hi] at hx
  obtain ⟨h1,h2,h3⟩:=hb _ x hx
  refine ⟨fun e=>⟨by have:=(h1 e).1;omega,(h1 e).2⟩,fun e=>⟨(h2 e).1,by have:=(h2 e).2.1;omega,fun hlt=>?_⟩,h3⟩
  obtain ⟨h4,y,hy,ho⟩:=(h2 e).2.2 (by omega)
  exact ⟨by omega,y,by rw [List.getElem?_append_right (by omega),show x.to-c-A.length=x.to-(c+A.length) by omega];exact hy,ho⟩
theorem JOk.one {c h:Nat} {x:Ins} (h1:x.op=10→c<x.to∧x.to≤h) (h2:x.op=11→c<x.to∧x.to≤h) (h3:x.op≠10→x.op≠11→x.to=0):JOk c h [x]:=by
 intro i y hy
 cases i with
 | zero =>
  obtain rfl:x=y:=by simpa using hy
  exact ⟨h1,fun e=>⟨(h2 e).2,by have:=(h2 e).1;omega,fun hlt=>by have:=(h2 e).1;omega⟩,h3⟩
 | succ i=>simp at hy
theorem JOk.back {c h:Nat} {x j:Ins} {A:List Ins} (ha:JOk c h (x :: A)) (hx:x.op=10) (hj:j.op=11) (ht:j.to=c) (hc:c≤h):JOk c h (x :: A++[j]):=by
 intro i y hy
 rcases Nat.lt_or_ge i (x :: A).length with hi|hi
 ·rw [List.getElem?_append_left hi] at hy
  obtain ⟨h1,h2,h3⟩:=ha i y hy
  refine ⟨h1,fun e=>⟨(h2 e).1,(h2 e).2.1,fun hlt=>?_⟩,h3⟩
  obtain ⟨h4,z,hz,ho⟩:=(h2 e).2.2 hlt
  exact ⟨h4,z,by rw [List.getElem?_append_left (by omega)];exact hz,ho⟩
 ·rw [List.getElem?_append_right hi] at hy
  have hi0:0<i:=by simp at hi;omega
  cases hq:i-(x :: A).length with
  | zero =>
   rw [hq] at hy
   obtain rfl:j=y:=by simpa using hy
   refine ⟨fun e=>(by omega),fun _=>⟨by omega,by omega,fun _=>⟨by omega,x,?_,hx⟩⟩,fun _ e=>absurd hj e⟩
   rw [ht,Nat.sub_self]
   rfl
  | succ q=>rw [hq] at hy;simp at hy
end
end Go.Proofs.YthdbmgijpelecaaGreatDoor
namespace Go.Proofs.YthdbmgijpelecaaGreatDoor
section
open Go.RowKit
theorem Lay.told {pb:Nat} {w W:World} {v V:Value} {is:List Ins} {k:Nat} {i:Ins} (h:Lay pb w v is W V) (hk:is[k]?=some i) (to:Nat) :
  ∃ g n c,n=is.length∧V=.slice (some ⟨g,0,none⟩) n c∧(W.cell? ⟨g,k * 11+9,none⟩=some (.int .i64 i.to)∧W.frozen? ⟨g,k * 11+9,none⟩=false)∧(pb<g∧g<W.heap.size)∧Lay pb w v (is.set k (i.zcg to)) (W.setCell ⟨g,k * 11+9,none⟩ (.int .i64 to)) V:=by
 have h0:=h.ins
 obtain ⟨vs,ho,_⟩:=h0
 rcases ho.2 with ⟨_,h1⟩|⟨g,cap,cur,hv,_⟩
 ·have:k<is.length:=(List.getElem?_eq_some_iff.1 hk).1
  omega
 ·subst hv
  obtain ⟨g',e,h2,h3,h4⟩:=h.zcg hk to
  cases e
  exact ⟨g,_,_,rfl,rfl,h2,h3,h4⟩
end
section
open Go.RowKit
end
section
open Go.RowKit
end
end Go.Proofs.YthdbmgijpelecaaGreatDoor
namespace Go.Proofs.YthdbmgijpelecaaGreatDoor
section
open Go.RowKit
def zmn (c:Cod) (pv lv:Value):List Value:=[.string c.name,pv,lv]
def strCells (ss:List ByteArray):List Value:=ss.map Value.string
def zKc (w:World) (ss:List ByteArray) (S:Nat→Prop) (v:Value):Prop:=w.ownsRow 0 9 1 v ss.length (strCells ss)∧∀ g,v.ownBlock=some g→S g
def CodAt (w:World) (c:Cod) (S:Nat→Prop) (pv lv:Value):Prop:=zKc w c.params S pv∧zPb w c.list S lv
theorem zKc.nil (w:World) (S:Nat→Prop):zKc w [] S (.slice none 0 0):=⟨World.ownsRow_nil _ _ _ _,fun g h=>by simp [Value.ownBlock] at h⟩
theorem zKc.keep {w w':World} {ss:List ByteArray} {S S':Nat→Prop} {v:Value} (h:zKc w ss S v) (hk:∀ b,S b→b<w.heap.size→S' b∧w'.heap[b]?=w.heap[b]?):zKc w' ss S' v :=
 ⟨zCc h.1 fun g hg=>(hk g (h.2 g hg) (h.1.lt g hg).2).2,fun g hg=>(hk g (h.2 g hg) (h.1.lt g hg).2).1⟩
theorem zKc.below {w w':World} {ss:List ByteArray} {S:Nat→Prop} {v:Value} (h:zKc w ss S v) (hk:Below w.heap.size w w'):zKc w' ss S v:=h.keep fun b hb hl=>⟨hb,hk.block b hl⟩
theorem zKc.alloc {w:World} {ss:List ByteArray} {S:Nat→Prop} {v:Value} (h:zKc w ss S v) (o:Obj):zKc (w.alloc o) ss S v:=h.keep fun b hb hl=>⟨hb,Below.heap_alloc w o b hl⟩
theorem zKc.setCell {w:World} {ss:List ByteArray} {S:Nat→Prop} {v:Value} (h:zKc w ss S v) (a:Addr) (x:Value) (hS:∀ b,S b→b≠a.block):zKc (w.setCell a x) ss S v:=h.keep fun b hb _=>⟨hb,Below.heap_setCell w a x b (hS b hb)⟩
theorem zKc.slice {w:World} {ss:List ByteArray} {S:Nat→Prop} {v:Value} (h:zKc w ss S v):∃ a c,v=.slice a ss.length c:=by
 rcases h.1.2 with ⟨rfl,h0⟩|⟨g,cap,_,rfl,_⟩
 ·exact ⟨_,_,by rw [h0]⟩
 ·exact ⟨_,_,rfl⟩
structure zwk (w:World) (nc:List Value) (tx:ByteArray) (ps:List ByteArray) (pv:Value) (W:World):Prop where
 n:Blk W w.heap.size nc 25
 r:Blk W (w.heap.size+1) (zmn cod0 (.slice none 0 0) (.slice none 0 0)) 47
 c:Blk W (w.heap.size+1+1) [.string tx,pv,.slice none 0 0] 47
 s:zKc W ps (fun b=>w.heap.size+1+1<b) pv
 b:Below w.heap.size w W
theorem zwk.alloc {w:World} {nc:List Value} {tx:ByteArray} {ps:List ByteArray} {pv:Value} {W:World} (h:zwk w nc tx ps pv W) (o:Obj):zwk w nc tx ps pv (W.alloc o):=⟨h.n.alloc _,h.r.alloc _,h.c.alloc _,h.s.alloc _,h.b.alloc h.b.size _⟩
theorem zwk.below {w:World} {nc:List Value} {tx:ByteArray} {ps:List ByteArray} {pv:Value} {W W':World} (h:zwk w nc tx ps pv W) (hb:Below W.heap.size W W'):zwk w nc tx ps pv W':=⟨h.n.stays hb,h.r.stays hb,h.c.stays hb,h.s.below hb,h.b.trans (hb.mono h.b.size)⟩
theorem zwk.put {w:World} {nc:List Value} {tx:ByteArray} {ps ps':List ByteArray} {pv pv':Value} {W W':World} (h:zwk w nc tx ps pv W) (hg:W.grownBy W' pv.ownBlock) (hs:zKc W' ps' (fun b=>w.heap.size+1+1<b) pv'):zwk w nc tx ps' pv' (W'.setCell ⟨w.heap.size+1+1,1,none⟩ pv'):=by
 have hne:∀ k,k≤w.heap.size+1+1→some k≠pv.ownBlock:=fun k hk e=>by have:=h.s.2 k e.symm;omega
 have hb:Below w.heap.size w W':=⟨hg.os.trans h.b.os,hg.tape.trans h.b.tape,hg.output.trans h.b.output,Nat.le_trans h.b.size hg.size,fun k hk=>(hg.block k (Nat.lt_of_lt_of_le hk h.b.size) (hne k (by omega))).trans (h.b.block k hk)⟩
 exact ⟨(h.n.grown hg (hne _ (by omega))).setOther _ _ (by show w.heap.size≠w.heap.size+1+1;omega),(h.r.grown hg (hne _ (by omega))).setOther _ _ (by show w.heap.size+1≠w.heap.size+1+1;omega),
  (h.c.grown hg (hne _ (Nat.le_refl _))).zjc 1 pv',hs.setCell _ _ (fun b hb=>by show b≠w.heap.size+1+1;omega),hb.setCell (by show w.heap.size≤w.heap.size+1+1;omega) _⟩
theorem zwk.lay {w:World} {nc:List Value} {tx:ByteArray} {ps:List ByteArray} {pv:Value} {W W':World} {lb:Nat} {is:List Ins} {V:Value} (h:zwk w nc tx ps pv W) (hL:Lay lb W (.slice none 0 0) is W' V) (hlb:w.heap.size+1+1<lb) (hpv:pv.ownBlock≠some lb):zwk w nc tx ps pv W':=by
 have hno:∀ k:Nat,(Value.slice none 0 0).ownBlock≠some k:=fun k e=>by simp [Value.ownBlock] at e
 refine ⟨hL.stays h.n (by omega) (hno _),hL.stays h.r (by omega) (hno _),hL.stays h.c (by omega) (hno _),?_,⟨hL.kp.os.trans h.b.os,hL.kp.tape.trans h.b.tape,hL.kp.output.trans h.b.output,Nat.le_trans h.b.size hL.kp.size,fun k hk=>(hL.kp.block k (Nat.lt_of_lt_of_le hk h.b.size) (by omega) (hno _)).trans (h.b.block k hk)⟩⟩
 refine ⟨zCc h.s.1 fun g hg=>hL.kp.block g (h.s.1.lt g hg).2 (fun e=>hpv (by rw [hg,e])) (hno _),h.s.2⟩
theorem zwk.done {w:World} {nc:List Value} {tx:ByteArray} {ps:List ByteArray} {pv:Value} {W:World} {lb:Nat} {is:List Ins} {V:Value} (h:zwk w nc tx ps pv W) (hI:zPb W is (fun b=>lb<b) V) (hlb:w.heap.size+1+1<lb) (cs:Array Value) :
  CodAt ((W.setCell ⟨w.heap.size+1+1,2,none⟩ V).setRow (w.heap.size+1) cs) ⟨tx,ps,is⟩ (fun b=>w.heap.size≤b) pv V∧Below w.heap.size w ((W.setCell ⟨w.heap.size+1+1,2,none⟩ V).setRow (w.heap.size+1) cs):=by
 have hk:∀ b,w.heap.size+1+1<b→((W.setCell ⟨w.heap.size+1+1,2,none⟩ V).setRow (w.heap.size+1) cs).heap[b]?=W.heap[b]?:=fun b hb=>(setRow_other _ _ _ _ (by omega)).trans (Below.heap_setCell _ _ _ _ (by show b≠w.heap.size+1+1;omega))
 exact ⟨⟨h.s.keep fun b hb _=>⟨by omega,hk b hb⟩,hI.keep fun b hb _=>⟨by omega,hk b (by omega)⟩⟩,Below.row (h.b.setCell (by show w.heap.size≤w.heap.size+1+1;omega) _) (by omega) _⟩
end
section
open Go.RowKit
theorem zPb.form {w:World} {is:List Ins} {S:Nat→Prop} {v:Value} (h:zPb w is S v):(v=.slice none 0 0∧is=[])∨∃ g cap,v=.slice (some ⟨g,0,none⟩) is.length cap∧g<w.heap.size∧is.length≤cap∧cap≤maxLen ∧
  ∀ k i,is[k]?=some i→∃ u,w.rangeAt g (k * 11) (zXb i u)∧zyb w i.args S u:=by
 obtain ⟨vs,ho,hS,hts⟩:=h
 have ho':=ho
 rcases ho.2 with ⟨rfl,h0⟩|⟨g,cap,cur,rfl,hb,hg,hnc,hcm,hcs,htake⟩
 ·exact .inl ⟨rfl,List.eq_nil_of_length_eq_zero h0⟩
 ·refine .inr ⟨g,cap,rfl,(Array.getElem?_eq_some_iff.1 hg).1,hnc,hcm,fun k i hk=>?_⟩
  obtain ⟨u,hu,ht⟩:=hts.get hk
  refine ⟨u,fun j x hj=>?_,ht.mono fun b hb _=>hb.1⟩
  have hj5:j<11:=by have:=(List.getElem?_eq_some_iff.1 hj).1;simpa [zXb] using this
  have hlt:k<is.length:=(List.getElem?_eq_some_iff.1 hk).1
  rw [ho'.cellAt (k * 11+j) (by omega),zTf is vs k i u j hk hu hj5]
  exact hj
end
section
open Go.RowKit
end
section
open Go.RowKit
section
variable {P:Program} {ops:Array Oper} {Q:Exit→Act→World→Prop} {md:Region.Mode} {S:World→Prop}
theorem AnyH.only {i:Nat} {o:Oper} {fuel:Nat} {listed:Array Bool} {a:Act} {w:World} (hr:Region.ready md ops listed=[i]) (ho:ops[i]?=some o) (hw:Region.wanted o (yielded ops a.tmps)=true)
  (h:∀ K:Act→World→Prop,Shut (∀ a w,S w→wpAnyH P md ops Q S fuel (listed.setIfInBounds i true) a w→K a w)→o.wp P a w K Q):wpAnyH P md ops Q S (fuel+1) listed a w:=by
 refine ⟨(fun h0=>by rw [hr] at h0;cases h0),fun j hj=>?_⟩
 rw [hr] at hj
 obtain rfl:j=i:=by simpa using hj
 refine wpOp_step ho fun K' hK=>?_
 rw [if_pos hw]
 exact h K' fun a w hS hA=>hK a w ⟨hS,hA⟩
end
end
section
open Go.ChangeShapes Go.WideShapes Go.ChangeAt Go.ChangeMaps Go.RowKit
end
end Go.Proofs.YthdbmgijpelecaaGreatDoor
namespace Go.Proofs.YthdbmgijpelecaaGreatDoor
open Go.RowKit
def tb (s:ByteArray):List UInt8:=s.data.toList
def dec (n:Int):List UInt8:=Lib.itoa n
def blanks (d:Nat):List UInt8:=List.replicate (4 * d) 32
def commas:List (List UInt8)→List UInt8
 | []=>[]
 | a :: r=>a++r.flatMap fun x=>[44,32]++x
def zha:List T→Nat
 | []=>0
 | t :: ts=>if t.kind=3 then zha ts+1 else 0
def maybe (a b:List UInt8):List (List UInt8)→List UInt8
 | []=>[]
 | x :: _=>a++(x++b)
def zrb (s:List UInt8) (xs:List (List UInt8)):List UInt8:=xs.getD 0 []++([32]++(s++([32]++xs.getD 1 [])))
def zUb (s:List UInt8) (xs:List (List UInt8)):List UInt8:=s++([40]++(commas xs++[41]))
def zJb (s:List UInt8) (n:Int):List UInt8 :=
 if s=[] then dec n else if 0<n then s++([32,43,32]++dec n) else if n<0 then s++([32,45,32]++(dec n).drop 1) else s
def zJg (s:List UInt8) (ks:List T) (xs:List (List UInt8)):List UInt8 :=
 [116,121,112,101,32]++(s++([32]++(xs.getD 0 [] ++
  ((if 0<zha ks.tail then [32,123,32]++(commas (xs.tail.take (zha ks.tail))++[32,125]) else []) ++
  ((if zha ks.tail<ks.tail.length then [32,119,104,101,114,101,32]++commas (xs.tail.drop (zha ks.tail)) else [])++[59])))))
def zLl (s:List UInt8) (ks:List T) (xs:List (List UInt8)):List UInt8 :=
 [102,110,32]++(s++([40]++(commas (xs.take (ks.length-2))++([41] ++
  ((if (ks.getD (ks.length-2) zWb).text.size=0 then [] else [32,45,62,32]++xs.getD (ks.length-2) [])++([32]++xs.getD (ks.length-1) []))))))
def zHb (s:List UInt8) (xs:List (List UInt8)):List UInt8 :=
 if s=[111,119,110]∨s=[38,109,117,116] then s++([32]++maybe [] [] xs) else if s=[38] then s++maybe [] [] xs else s
def zdc (d:Nat) (xs:List (List UInt8)):List UInt8 :=
 [123,10]++(xs.flatMap (fun x=>blanks (d+1)++(x++[10]))++(blanks d++[125]))
def zSg (s:List UInt8) (ks:List T) (xs:List (List UInt8)):List UInt8 :=
 [105,102,32]++(zrb s xs++([32]++(xs.getD 2 []++(if (ks.getD 3 zWb).kids.length=0 then [] else [32,101,108,115,101,32]++xs.getD 3 []))))
def zpa (k:Int) (s:List UInt8) (n:Int) (ks:List T) (xs:List (List UInt8)):List UInt8 :=
 if k=0 then xs.flatMap (fun x=>x++[10])
 else if k=1 then zJg s ks xs
 else if k=2 then s++maybe [32] [] xs
 else if k=3 then s++maybe [91] [93] xs
 else if k=4 then zrb s xs
 else if k=5 then zJb s n
 else if k=6 then zLl s ks xs
 else if k=7 then s++([58,32]++xs.getD 0 [])
 else if k=8 then zHb s xs
 else if k=10 then s++([32,61,32]++(xs.getD 0 []++[59]))
 else if k=11 then s++([91]++(xs.getD 0 []++([93,32,61,32]++(xs.getD 1 []++[59]))))
 else if k=12 then [102,114,101,101,32]++(s++[59])
 else if k=13 then [108,111,99,107,32]++(s++([91]++(dec n++[93,59])))
 else if k=14 then [117,110,108,111,99,107,32]++(s++([91]++(dec n++[93,59])))
 else if k=15 then zSg s ks xs
 else if k=16 then [119,104,105,108,101,32]++(zrb s xs++([32]++xs.getD 2 []))
 else if k=17 then [114,101,116,117,114,110]++(maybe [32] [] xs++[59])
 else if k=18 then [97,98,111,114,116,59]
 else if k=19 then [102,111,114,107,32]++(zUb s xs++[59])
 else if k=20 then xs.getD 0 []++[59]
 else if k=21 then xs.getD 0 []++([32,43,32]++xs.getD 1 [])
 else if k=22 then xs.getD 0 []++([32,45,32]++xs.getD 1 [])
 else if k=23 then [110,101,119,32]++dec n
 else if k=24 then [97,114,114,97,121,32]++s
 else if k=25 then s++([91]++(xs.getD 0 []++[93]))
 else if k=26 then [38]++s
 else if k=27 then [38,109,117,116,32]++s
 else zUb s xs
mutual
def shw (d:Nat):T→List UInt8
 | .mk k s n _ ks=>if k=9 then zdc d (zQa (d+1) ks) else zpa k (tb s) n ks (zQa d ks)
def zQa (d:Nat):List T→List (List UInt8)
 | []=>[]
 | t :: ts=>shw d t :: zQa d ts
end
theorem zva (d:Nat) (k:Int) (s:ByteArray) (n:Int) (p:Nat) (ks:List T):shw d (.mk k s n p ks)=if k=9 then zdc d (zQa (d+1) ks) else zpa k (tb s) n ks (zQa d ks):=by rw [shw]
theorem zSa (d:Nat):zQa d []=[]:=by rw [zQa]
theorem zya (d:Nat) (t:T) (ts:List T):zQa d (t :: ts)=shw d t :: zQa d ts:=by rw [zQa]
theorem zvc (d:Nat):∀ ts:List T,zQa d ts=ts.map (shw d)
 | []=>by rw [zSa];rfl
 | t :: ts=>by rw [zya,zvc d ts];rfl
theorem zac (d:Nat) (ts:List T):(zQa d ts).length=ts.length:=by rw [zvc,List.length_map]
theorem zFi (d:Nat) (ts:List T) (i:Nat) (t:T) (h:ts[i]?=some t):(zQa d ts)[i]?=some (shw d t):=by rw [zvc,List.getElem?_map,h];rfl
theorem zQj (xs:List (List UInt8)) (x:List UInt8) (h:xs≠[]):commas (xs++[x])=commas xs++([44,32]++x):=by
 cases xs with
 | nil=>exact absurd rfl h
 | cons a r=>simp only [List.cons_append,commas,List.flatMap_append,List.flatMap_cons,List.flatMap_nil,List.append_nil,List.append_assoc]
theorem zPk (x:List UInt8):commas [x]=x:=by simp [commas]
theorem zHj (d:Nat):blanks (d+1)=blanks d++[32,32,32,32]:=by
 unfold blanks
 rw [show 4 * (d+1)=4 * d+4 from by omega,← List.replicate_append_replicate]
 rfl
end Go.Proofs.YthdbmgijpelecaaGreatDoor
