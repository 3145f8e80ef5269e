/- Every tree that was read is whole: each node's kids are of the kinds that the table of layer 2 has for it. Nothing of the program is walked here. What the grammar says of a tree that was read: each node's text, number and kids, as exactly as the reader of tokens makes them. Nothing of the program is walked here. -/
import Derived.Test.YtbfgdpcgdmabpaaGreatDoorY04
import Derived.Test.YtbfgdpcgdmabpaaGreatDoorY14
import Derived.Test.YtbfgdpcgdmabpaaGreatDoorY05
namespace Go.Proofs.YtbfgdpcgdmabpaaGreatDoor
section
open Go.RowKit
def ztc (k:Int):Prop:=10≤k∧k≤20
def zse (k:Int):Prop:=k=5∨(21≤k∧k≤28)
def zxd (K:Int→Prop) (ts:List T):Prop:=∀ t∈ts,K t.kind
theorem zxd.nil {K:Int→Prop}:zxd K []:=by intro t h;simp at h
theorem zxd.cons {K:Int→Prop} {t:T} {ts:List T} (h:K t.kind) (hs:zxd K ts):zxd K (t :: ts):=by
 intro u hu
 rcases List.mem_cons.1 hu with rfl|hu
 ·exact h
 ·exact hs u hu
inductive Fit:Int→List T→Prop
 | unit {k:Int} {ks:List T}:k=0→zxd (fun x=>x=1∨x=6) ks→Fit k ks
 | type {k:Int} {a:T} {ys zs:List T}:k=1→a.kind=2→zxd (·=3) ys→zxd (·=4) zs→Fit k (a :: (ys++zs))
 | none {k:Int}:k=2∨k=3∨k=8∨k=17→Fit k []
 | one {k:Int} {a:T}:k=2∨k=3∨k=8∨k=17→a.kind=5→Fit k [a]
 | two {k:Int} {a b:T}:k=4∨k=11∨k=21∨k=22→a.kind=5→b.kind=5→Fit k [a,b]
 | fn {k:Int} {xs:List T} {r b:T}:k=6→zxd (·=7) xs→r.kind=8→b.kind=9→Fit k (xs++[r,b])
 | param {k:Int} {a:T}:k=7→a.kind=8→Fit k [a]
 | block {k:Int} {ks:List T}:k=9→zxd ztc ks→Fit k ks
 | set {k:Int} {a:T}:k=10→zse a.kind→Fit k [a]
 | cond {k:Int} {a b c d:T}:k=15→a.kind=5→b.kind=5→c.kind=9→d.kind=9→Fit k [a,b,c,d]
 | loop {k:Int} {a b c:T}:k=16→a.kind=5→b.kind=5→c.kind=9→Fit k [a,b,c]
 | call1 {k:Int} {a:T}:k=20→a.kind=28→Fit k [a]
 | load {k:Int} {a:T}:k=25→a.kind=5→Fit k [a]
 | call {k:Int} {ks:List T}:k=19∨k=28→zxd (·=5) ks→Fit k ks
 | leaf {k:Int}:k=5∨k=12∨k=13∨k=14∨k=18∨k=23∨k=24∨k=26∨k=27→Fit k []
mutual
def T.whole:T→Prop
 | .mk k _ _ _ ks=>Fit k ks∧zSd ks
def zSd:List T→Prop
 | []=>True
 | t :: ts=>t.whole∧zSd ts
end
theorem zjb {k:Int} {s:ByteArray} {n:Int} {p:Nat} {ks:List T}:(T.mk k s n p ks).whole↔Fit k ks∧zSd ks:=by rw [T.whole]
theorem zlq {t:T}:t.whole↔Fit t.kind t.kids∧zSd t.kids:=by cases t;rw [T.whole];exact Iff.rfl
theorem zVc:zSd []:=by rw [zSd];trivial
theorem zLb {t:T} {ts:List T}:zSd (t :: ts)↔t.whole∧zSd ts:=by rw [zSd]
theorem zGj {t:T} (h:t.whole):zSd [t]:=zLb.2 ⟨h,zVc⟩
theorem zAe {t u:T} (h:t.whole) (h':u.whole):zSd [t,u]:=zLb.2 ⟨h,zGj h'⟩
theorem zxf:∀ {a b:List T},zSd a→zSd b→zSd (a++b)
 | [],_,_,h=>h
 | t :: ts,b,h,h'=>by rw [zLb] at h;exact zLb.2 ⟨h.1,zxf h.2 h'⟩
theorem zDj:∀ {ks:List T} {t:T},zSd ks→t∈ks→t.whole
 | a :: ks,t,h,hm=>by
  rw [zLb] at h
  rcases List.mem_cons.1 hm with rfl|hm
  ·exact h.1
  ·exact zDj h.2 hm
def W1 (K:Int→Prop) (t:T) (_:List Tok):Prop:=K t.kind∧t.whole
def WL (K:Int→Prop) (ts:List T) (_:List Tok):Prop:=zxd K ts∧zSd ts
def Any {α:Type} (_:α) (_:List Tok):Prop:=True
theorem zbd {α:Type} (r:R α):Ok Any r:=fun _ _ _=>trivial
theorem W1.or {K K':Int→Prop} {r:R T} (h:Ok (W1 K) r) (hk:∀ k,K k→K' k):Ok (W1 K') r:=h.mono fun _ _ h=>⟨hk _ h.1,h.2⟩
theorem zKe {K:Int→Prop} {k:Int} {s:ByteArray} {n:Int} {p:Nat} {l:List Tok} (hf:Fit k []) (hk:K k):W1 K (.mk k s n p []) l:=⟨hk,zjb.2 ⟨hf,zVc⟩⟩
theorem zij {K:Int→Prop} {k:Int} {s:ByteArray} {n:Int} {p:Nat} {a:T} {l:List Tok} (hf:Fit k [a]) (ha:a.whole) (hk:K k):W1 K (.mk k s n p [a]) l:=⟨hk,zjb.2 ⟨hf,zGj ha⟩⟩
theorem zWh {K:Int→Prop} {k:Int} {s:ByteArray} {n:Int} {p:Nat} {ks:List T} {l:List Tok} (hf:Fit k ks) (ha:zSd ks) (hk:K k):W1 K (.mk k s n p ks) l:=⟨hk,zjb.2 ⟨hf,ha⟩⟩
theorem zQm {K:Int→Prop} {t:T} (v:Int) {l:List Tok} (h:K t.kind∧t.whole):W1 K (t.zAc v) l:=by
 cases t
 exact ⟨h.1,zjb.2 (zjb.1 h.2)⟩
theorem zDd (l:List Tok):Ok (W1 (·=5)) (zYa l):=by
 unfold zYa
 exact (zbd _).bd fun s l1 _=>Ok.ok (zKe (.leaf (by omega)) rfl)
theorem zzh (l:List Tok):Ok (W1 (·=5)) (zWa l):=by
 unfold zWa
 exact Ok.cond (fun _=>(zbd _).bd fun s l1 _=>Ok.ok (zKe (.leaf (by omega)) rfl)) (fun _=>(zbd _).bd fun s l1 _=>Ok.ok (zKe (.leaf (by omega)) rfl))
theorem zoi (l:List Tok):Ok (W1 (·=5)) (zZb l):=by
 unfold zZb
 exact Ok.cond (fun _=>(zDd l).bd fun n l1 h=>Ok.sum (fun _=>Ok.ok h) fun k x _=>(zbd _).bd fun v l2 _=>Ok.ok (zQm _ h)) (fun _=>zzh l)
theorem zLo {K:Int→Prop} {item:List Tok→R T} (hi:∀ l,Ok (W1 K) (item l)):∀ (n:Nat) (l:List Tok),Ok (WL K) (zbe item n l)
 | 0,l=>Ok.err
 | n+1,l=>by
  rw [zbe]
  exact Ok.cond (fun _=>(hi _).bd fun a l1 h=>(zLo hi n l1).bd fun xs l2 h2=>Ok.ok ⟨.cons h.1 h2.1,zLb.2 ⟨h.2,h2.2⟩⟩) (fun _=>Ok.ok ⟨.nil,zVc⟩)
theorem zsp {K:Int→Prop} {item:List Tok→R T} (hi:∀ l,Ok (W1 K) (item l)) (l:List Tok):Ok (WL K) (zsd item l):=by
 unfold zsd
 exact (hi l).bd fun a l1 h=>(zLo hi _ l1).bd fun xs l2 h2=>Ok.ok ⟨.cons h.1 h2.1,zLb.2 ⟨h.2,h2.2⟩⟩
theorem zjk {K:Int→Prop} {item:List Tok→R T} (hi:∀ l,Ok (W1 K) (item l)) (l:List Tok):Ok (WL K) (zwb item l):=by
 unfold zwb
 exact (zbd _).bd fun _ l1 _=>Ok.cond (fun _=>Ok.ok ⟨.nil,zVc⟩) (fun _=>(zsp hi l1).bd fun xs l2 h2=>(zbd _).bd fun _ l3 _=>Ok.ok h2)
theorem zOo (l:List Tok):Ok (W1 (·=5)) (zMc l):=by
 unfold zMc
 exact (zbd _).bd fun _ l1 _=>(zoi l1).bd fun a l2 h2=>(zbd _).bd fun _ l3 _=>Ok.ok h2
theorem zYr (n:T) (l:List Tok):Ok (W1 (·=28)) (zne n l):=by
 unfold zne
 exact (zjk zoi l).bd fun xs l1 h=>Ok.ok (zWh (.call (.inr rfl) h.1) h.2 rfl)
theorem ref_w (p:Nat) (l:List Tok):Ok (W1 zse) (zQh p l):=by
 unfold zQh
 exact Ok.cond (fun _=>(zbd _).bd fun s l1 _=>Ok.ok (zKe (.leaf (by omega)) (by unfold zse;omega))) (fun _=>(zbd _).bd fun s l1 _=>Ok.ok (zKe (.leaf (by omega)) (by unfold zse;omega)))
theorem zFm {l:List Tok} {k x:Int} (h:sumP l=some (k,x)):k=21∨k=22:=by
 unfold sumP at h
 cases h1:isT (hdT l) (bs [43]) with
 | true=>rw [h1] at h;simp at h;omega
 | false =>
  rw [h1] at h
  cases h2:isT (hdT l) (bs [45]) with
  | true=>rw [h2] at h;simp at h;omega
  | false=>rw [h2] at h;simp at h
theorem zvn (l:List Tok):Ok (W1 zse) (zUa l):=by
 unfold zUa
 refine (zDd l).bd fun n l1 h=>Ok.cond (fun _=>(zOo l1).bd fun a l2 h2=>Ok.ok (zij (.load rfl h2.1) h2.2 (by unfold zse;omega))) fun _=>Ok.cond (fun _=>W1.or (zYr n l1) (fun k hk=>by unfold zse;omega)) fun _=>Ok.sum (fun _=>Ok.ok ⟨.inl h.1,h.2⟩) fun k x hs=>Ok.cond (fun _=>(zDd _).bd fun m l2 h2=>Ok.ok ?_) (fun _=>(zbd _).bd fun v l2 _=>Ok.ok (zQm _ ⟨.inl h.1,h.2⟩))
 have hk:=zFm hs
 exact zWh (.two (by omega) h.1 h2.1) (zAe h.2 h2.2) (by unfold zse;omega)
theorem zIw (l:List Tok):Ok (W1 zse) (zbc l):=by
 unfold zbc
 exact Ok.cond (fun _=>(zbd _).bd fun v l1 _=>Ok.ok (zKe (.leaf (by omega)) (by unfold zse;omega))) fun _=>Ok.cond (fun _=>(zbd _).bd fun s l1 _=>Ok.ok (zKe (.leaf (by omega)) (by unfold zse;omega))) fun _=>Ok.cond (fun _=>ref_w _ _) fun _=>Ok.cond (fun _=>zvn l) fun _=>W1.or (zzh l) (fun k hk=>.inl hk)
def Cp (k:Int) (t:T) (_:List Tok):Prop:=∃ s n p a b,t=.mk k s n p [a,b]∧(a.kind=5∧a.whole)∧b.kind=5∧b.whole
theorem zZi (k:Int) (p:Nat) (l:List Tok):Ok (Cp k) (zrb k p l):=by
 unfold zrb
 exact (zoi l).bd fun a l1 h1=>(zbd _).bd fun c l2 _=>(zoi l2).bd fun b l3 h3=>Ok.ok ⟨_,_,_,a,b,rfl,h1,h3⟩
theorem zZu (l:List Tok):Ok (W1 (·=4)) (zre l):=by
 unfold zre
 exact (zZi 4 _ l).mono fun t l' ⟨s,n,p,a,b,e,ha,hb⟩=>by subst e;exact zWh (.two (.inl rfl) ha.1 hb.1) (zAe ha.2 hb.2) rfl
theorem zJs (l:List Tok):Ok (W1 (·=3)) (zjc l):=by
 unfold zjc
 exact (zbd _).bd fun s l1 _=>Ok.cond (fun hc=>(zDd _).bd fun a l2 h2=>(zbd _).bd fun _ l3 _=>Ok.ok (zij (.one (by omega) h2.1) h2.2 rfl)) (fun _=>Ok.ok (zKe (.none (by omega)) rfl))
theorem zUv (l:List Tok):Ok (W1 (·=2)) (zld l):=by
 unfold zld
 exact (zbd _).bd fun t l1 _=>Ok.cond (fun _=>Ok.ok (zKe (.none (by omega)) rfl)) (fun _=>(zDd l1).bd fun a l2 h2=>Ok.ok (zij (.one (by omega) h2.1) h2.2 rfl))
theorem zki (l:List Tok):Ok (W1 (·=8)) (zeb l):=by
 unfold zeb
 exact (zbd _).bd fun t l1 _=>Ok.cond (fun _=>(zDd l1).bd fun a l2 h2=>Ok.ok (zij (.one (by omega) h2.1) h2.2 rfl)) (fun _=>Ok.ok (zKe (.none (by omega)) rfl))
theorem zMu (l:List Tok):Ok (W1 (·=8)) (zwd l):=by
 unfold zwd
 exact Ok.cond (fun hc=>Ok.cond (fun _=>(zDd _).bd fun a l2 h2=>Ok.ok (zij (.one (by omega) h2.1) h2.2 rfl)) (fun _=>(zDd _).bd fun a l2 h2=>Ok.ok (zij (.one (by omega) h2.1) h2.2 rfl))) (fun _=>zki l)
theorem zat (l:List Tok):Ok (W1 (·=7)) (zBc l):=by
 unfold zBc
 exact (zbd _).bd fun s l1 _=>(zbd _).bd fun _ l2 _=>(zMu l2).bd fun a l3 h3=>Ok.ok (zij (.param rfl h3.1) h3.2 rfl)
theorem zDr (l:List Tok):Ok (WL (·=3)) (zoc l):=by
 unfold zoc
 exact Ok.cond (fun _=>(zsp zJs _).bd fun xs l1 h=>(zbd _).bd fun _ l2 _=>Ok.ok h) (fun _=>Ok.ok ⟨.nil,zVc⟩)
theorem zrt (l:List Tok):Ok (WL (·=4)) (zPc l):=by
 unfold zPc
 exact Ok.cond (fun _=>zsp zZu _) (fun _=>Ok.ok ⟨.nil,zVc⟩)
theorem zPw (p:Nat) (l:List Tok):Ok (W1 (·=1)) (zqc p l):=by
 unfold zqc
 exact (zbd _).bd fun s l1 _=>(zUv l1).bd fun a l2 h2=>(zDr l2).bd fun ys l3 h3=>(zrt l3).bd fun zs l4 h4=>(zbd _).bd fun _ l5 _=>Ok.ok (zWh (.type rfl h2.1 h3.1 h4.1) (zLb.2 ⟨h2.2,zxf h3.2 h4.2⟩) rfl)
theorem zps {k:Int} (hk:k=13∨k=14) (p:Nat) (l:List Tok):Ok (W1 ztc) (zGd k p l):=by
 unfold zGd
 exact (zbd _).bd fun s l1 _=>(zbd _).bd fun _ l2 _=>(zbd _).bd fun v l3 _=>(zbd _).bd fun _ l4 _=>Ok.ok (zKe (.leaf (by omega)) (by unfold ztc;omega))
theorem zdr (p:Nat) (l:List Tok):Ok (W1 ztc) (zdc p l):=by
 unfold zdc
 exact Ok.cond (fun _=>Ok.ok (zKe (.none (by omega)) (by unfold ztc;omega))) (fun _=>(zoi l).bd fun a l1 h=>Ok.ok (zij (.one (by omega) h.1) h.2 (by unfold ztc;omega)))
theorem zHt (l:List Tok):Ok (W1 ztc) (zHb l):=by
 unfold zHb
 exact (zbd _).bd fun n l1 _=>Ok.cond (fun _=>(zYr n l1).bd fun c l2 h2=>Ok.ok (zij (.call1 rfl h2.1) h2.2 (by unfold ztc;omega))) fun _=>Ok.cond (fun _=>(zOo l1).bd fun i l2 h2=>(zbd _).bd fun _ l3 _=>(zoi l3).bd fun b l4 h4=>Ok.ok (zWh (.two (by omega) h2.1 h4.1) (zAe h2.2 h4.2) (by unfold ztc;omega))) fun _=>(zbd _).bd fun _ l2 _=>(zIw l2).bd fun x l3 h3=>Ok.ok (zij (.set rfl h3.1) h3.2 (by unfold ztc;omega))
theorem zir (l:List Tok):Ok (W1 ztc) (zbb l):=by
 unfold zbb
 exact Ok.cond (fun _=>zHt l) fun _=>Ok.cond (fun _=>(zbd _).bd fun s l1 _=>Ok.ok (zKe (.leaf (by omega)) (by unfold ztc;omega))) fun _=>Ok.cond (fun _=>zps (.inl rfl) _ _) fun _=>Ok.cond (fun _=>zps (.inr rfl) _ _) fun _=>Ok.cond (fun hc=>zdr _ _) fun _=>Ok.cond (fun hc=>Ok.ok (zKe (.leaf (by omega)) (by unfold ztc;omega))) fun _=>Ok.cond (fun _=>(zbd _).bd fun s l1 _=>(zjk zoi l1).bd fun xs l2 h2=>Ok.ok (zWh (.call (.inl rfl) h2.1) h2.2 (by unfold ztc;omega))) fun _=>Ok.err
theorem zxw {blk:List Tok→R T} (hb:∀ l,Ok (W1 (·=9)) (blk l)) (p:Nat) (l:List Tok):Ok (W1 (·=9)) (zbf blk p l):=by
 unfold zbf
 exact Ok.cond (fun _=>hb _) (fun _=>Ok.ok (zWh (.block rfl .nil) zVc rfl))
theorem if_w {blk:List Tok→R T} (hb:∀ l,Ok (W1 (·=9)) (blk l)) (p:Nat) (l:List Tok):Ok (W1 ztc) (ifP blk p l):=by
 unfold ifP
 refine (zZi 15 p l).bd fun n l1 ⟨s,v,q,a,b,e,ha,hb'⟩=>(hb l1).bd fun c l2 h2=>(zxw hb p l2).bd fun d l3 h3=>Ok.ok ?_
 subst e
 exact zWh (.cond rfl ha.1 hb'.1 h2.1 h3.1) (zLb.2 ⟨ha.2,zLb.2 ⟨hb'.2,zAe h2.2 h3.2⟩⟩) (by unfold ztc;omega)
theorem zlt {blk:List Tok→R T} (hb:∀ l,Ok (W1 (·=9)) (blk l)) (p:Nat) (l:List Tok):Ok (W1 ztc) (zVd blk p l):=by
 unfold zVd
 refine (zZi 16 p l).bd fun n l1 ⟨s,v,q,a,b,e,ha,hb'⟩=>(hb l1).bd fun c l2 h2=>Ok.ok ?_
 subst e
 exact zWh (.loop rfl ha.1 hb'.1 h2.1) (zLb.2 ⟨ha.2,zAe hb'.2 h2.2⟩) (by unfold ztc;omega)
theorem zTv {blk:List Tok→R T} (hb:∀ l,Ok (W1 (·=9)) (blk l)) (l:List Tok):Ok (W1 ztc) (zPb blk l):=by
 unfold zPb
 exact Ok.cond (fun _=>if_w hb _ _) fun _=>Ok.cond (fun _=>zlt hb _ _) fun _=>(zir l).bd fun n l1 h1=>(zbd _).bd fun _ l2 _=>Ok.ok h1
theorem zen {item:List Tok→R T} (hi:∀ l,Ok (W1 ztc) (item l)):∀ (n:Nat) (l:List Tok),Ok (WL ztc) (zsc item n l)
 | 0,l=>Ok.err
 | n+1,l=>by
  rw [zsc]
  exact Ok.cond (fun _=>Ok.ok ⟨.nil,zVc⟩) (fun _=>(hi _).bd fun a l1 h=>(zen hi n l1).bd fun xs l2 h2=>Ok.ok ⟨.cons h.1 h2.1,zLb.2 ⟨h.2,h2.2⟩⟩)
theorem zHp:∀ (n:Nat) (l:List Tok),Ok (W1 (·=9)) (zsb n l)
 | 0,l=>by
  rw [zsb]
  exact (zbd _).bd fun _ _ _=>Ok.err
 | n+1,l=>by
  rw [zsb]
  exact (zbd _).bd fun t l1 _=>(zen (zTv (zHp n)) _ l1).bd fun xs l2 h=>Ok.ok (zWh (.block rfl h.1) h.2 rfl)
theorem zUq (l:List Tok):Ok (W1 (·=8)) (zmc l):=by
 unfold zmc
 exact Ok.cond (fun _=>zki _) (fun _=>Ok.ok (zKe (.none (by omega)) rfl))
theorem fn_w (p:Nat) (l:List Tok):Ok (W1 (·=6)) (fnP p l):=by
 unfold fnP
 exact (zbd _).bd fun s l1 _=>(zjk zat l1).bd fun xs l2 h2=>(zUq l2).bd fun r l3 h3=>(zHp 8 l3).bd fun b l4 h4=>Ok.ok (zWh (.fn rfl h2.1 h3.1 h4.1) (zxf h2.2 (zAe h3.2 h4.2)) rfl)
theorem zuw (l:List Tok):Ok (W1 (fun x=>x=1∨x=6)) (zHd l):=by
 unfold zHd
 exact (zbd _).bd fun t l1 _=>Ok.cond (fun _=>W1.or (zPw _ _) fun _ h=>.inl h) (fun _=>W1.or (fn_w _ _) fun _ h=>.inr h)
theorem zCo:∀ (n:Nat) (l:List Tok),Ok (WL (fun x=>x=1∨x=6)) (zRd n l)
 | 0,l=>Ok.err
 | n+1,l=>by
  rw [zRd]
  exact Ok.cond (fun _=>Ok.ok ⟨.nil,zVc⟩) (fun _=>(zuw _).bd fun a l1 h=>(zCo n l1).bd fun xs l2 h2=>Ok.ok ⟨.cons h.1 h2.1,zLb.2 ⟨h.2,h2.2⟩⟩)
theorem zVw (l:List Tok):Ok (W1 (·=0)) (zgd l):=by
 unfold zgd
 exact (zCo _ l).bd fun xs l1 h=>Ok.ok (zWh (.unit rfl h.1) h.2 rfl)
theorem zeh:zNc.whole:=zjb.2 ⟨.unit rfl .nil,zVc⟩
theorem zcj (l:List Tok):(zUc l).1.kind=0∧(zUc l).1.whole:=by
 unfold zUc
 cases hu:zgd l with
 | error q=>exact ⟨rfl,zeh⟩
 | ok q =>
  have h:=zVw l q.1 q.2 hu
  show ((if 4096<q.1.size then (zNc,0,22) else (q.1,0,0)):T × Nat × Int).1.kind=0∧T.whole ((if 4096<q.1.size then (zNc,0,22) else (q.1,0,0)):T × Nat × Int).1
  split
  ·exact ⟨rfl,zeh⟩
  ·exact h
theorem zDe (s:ByteArray):(zvb s).1.kind=0∧(zvb s).1.whole:=by
 unfold zvb
 cases zqd s with
 | error q=>exact ⟨rfl,zeh⟩
 | ok ts=>exact zcj ts
end
section
open Go.RowKit
def NmT (t:T):Prop:=∃ s p,t=.mk 5 s 0 p []∧zOa s=true
def TmT (t:T):Prop:=∃ s n p,t=.mk 5 s n p []∧(-1099511627776≤n∧n≤1099511627776)∧(s=e0∨zOa s=true)
def zjq (s:ByteArray):Prop:=s=bs [60]∨s=bs [60,61]∨s=bs [61,61]
def zrk (t:T):Prop:=∃ s p a b,t=.mk 4 s 0 p [a,b]∧zjq s∧TmT a∧TmT b
def zTg (t:T):Prop:=(∃ s p,t=.mk 3 s 0 p []∧zOa s=true)∨∃ s p a,t=.mk 3 s 0 p [a]∧zOa s=true∧NmT a
def zcm (t:T):Prop:=(∃ s p,t=.mk 2 s 0 p []∧(s=bs [111,119,110]∨s=bs [99,101,108,108]))∨∃ s p a,t=.mk 2 s 0 p [a]∧(s=bs [99,111,117,110,116,101,100]∨s=bs [108,111,99,107]∨s=bs [103,117,97,114,100])∧NmT a
def zKh (t:T):Prop:=(∃ p,t=.mk 8 (bs [105,110,116]) 0 p [])∨∃ p a,t=.mk 8 (bs [111,119,110]) 0 p [a]∧NmT a
def zjm (t:T):Prop:=(∃ p a,t=.mk 8 (bs [38]) 0 p [a]∧NmT a)∨(∃ p a,t=.mk 8 (bs [38,109,117,116]) 0 p [a]∧NmT a)∨zKh t
def zPh (t:T):Prop:=∃ s p a,t=.mk 7 s 0 p [a]∧zOa s=true∧zjm a
def zZk (t:T):Prop:=∃ s p a ys zs,t=.mk 1 s 0 p (a :: (ys++zs))∧zOa s=true∧zcm a∧(∀ y∈ys,zTg y)∧∀ z∈zs,zrk z
def zKk (t:T):Prop:=∃ s p xs,t=.mk 28 s 0 p xs∧zOa s=true∧∀ x∈xs,TmT x
inductive zsg:T→Prop
 | term {t:T}:TmT t→zsg t
 | sum {k:Int} {p:Nat} {a b:T}:k=21∨k=22→NmT a→NmT b→zsg (.mk k e0 0 p [a,b])
 | new {v:Int} {p:Nat}:0≤v→v≤1099511627776→zsg (.mk 23 e0 v p [])
 | word {k:Int} {s:ByteArray} {p:Nat}:k=24∨k=26∨k=27→zOa s=true→zsg (.mk k s 0 p [])
 | load {s:ByteArray} {p:Nat} {a:T}:zOa s=true→TmT a→zsg (.mk 25 s 0 p [a])
 | call {t:T}:zKk t→zsg t
inductive zWd (B:T→Prop):T→Prop
 | set {s:ByteArray} {p:Nat} {x:T}:zOa s=true→zsg x→zWd B (.mk 10 s 0 p [x])
 | store {s:ByteArray} {p:Nat} {a b:T}:zOa s=true→TmT a→TmT b→zWd B (.mk 11 s 0 p [a,b])
 | free {s:ByteArray} {p:Nat}:zOa s=true→zWd B (.mk 12 s 0 p [])
 | lock {k:Int} {s:ByteArray} {v:Int} {p:Nat}:k=13∨k=14→zOa s=true→0≤v→v≤1099511627776→zWd B (.mk k s v p [])
 | cond {s:ByteArray} {p:Nat} {a b c d:T}:zjq s→TmT a→TmT b→B c→(B d∨∃ q,d=.mk 9 e0 0 q [])→zWd B (.mk 15 s 0 p [a,b,c,d])
 | loop {s:ByteArray} {p:Nat} {a b c:T}:zjq s→TmT a→TmT b→B c→zWd B (.mk 16 s 0 p [a,b,c])
 | ret0 {p:Nat}:zWd B (.mk 17 e0 0 p [])
 | ret1 {p:Nat} {a:T}:TmT a→zWd B (.mk 17 e0 0 p [a])
 | abort {p:Nat}:zWd B (.mk 18 e0 0 p [])
 | fork {s:ByteArray} {p:Nat} {xs:List T}:zOa s=true→(∀ x∈xs,TmT x)→zWd B (.mk 19 s 0 p xs)
 | call {p:Nat} {c:T}:zKk c→zWd B (.mk 20 e0 0 p [c])
def zPe:Nat→T→Prop
 | 0,_=>False
 | n+1,t=>∃ p xs,t=.mk 9 e0 0 p xs∧∀ x∈xs,zWd (zPe n) x
def zhh (t:T):Prop:=zKh t∨∃ p,t=.mk 8 e0 0 p []
def FnT (t:T):Prop:=∃ s p xs r b,t=.mk 6 s 0 p (xs++[r,b])∧zOa s=true∧(∀ x∈xs,zPh x)∧zhh r∧zPe 8 b
def zbl (t:T):Prop:=zZk t∨FnT t
def zqg (t:T):Prop:=∃ xs,t=.mk 0 e0 0 0 xs∧∀ x∈xs,zbl x
def Gm (G:T→Prop) (t:T) (l:List Tok):Prop:=G t∧TG l
def GmL (G:T→Prop) (ts:List T) (l:List Tok):Prop:=(∀ t∈ts,G t)∧TG l
theorem Gm.or {G G':T→Prop} {r:R T} (h:Ok (Gm G) r) (hg:∀ t,G t→G' t):Ok (Gm G') r:=h.mono fun _ _ h=>⟨hg _ h.1,h.2⟩
theorem zBf {t:Tok} {l:List UInt8} (h:isT t (bs l)=true):t.text=bs l:=by
 unfold isT at h
 rw [ByteArray.toList_eq,ByteArray.toList_eq,beq_iff_eq] at h
 have h2:t.text.data=(bs l).data:=Array.toList_inj.1 h
 cases ht:t.text with
 | mk d=>rw [ht] at h2;exact congrArg ByteArray.mk h2
theorem zQf {G:T→Prop}:∀ t∈([]:List T),G t:=by intro t h;simp at h
theorem zge {G:T→Prop} {a:T} {ts:List T} (h:G a) (hs:∀ t∈ts,G t):∀ t∈a :: ts,G t:=by
 intro u hu
 rcases List.mem_cons.1 hu with rfl|hu
 ·exact h
 ·exact hs u hu
theorem zkd {l:List Tok} (h:TG l):Ok (Gm NmT) (zYa l):=by
 unfold zYa
 exact (znd h).bd fun s l1 h1=>Ok.ok ⟨⟨_,_,rfl,h1.1⟩,h1.2⟩
theorem zGh {l:List Tok} (h:TG l):Ok (Gm TmT) (zWa l):=by
 unfold zWa
 exact Ok.cond (fun _=>(zyd h.tail).bd fun v l1 h1=>Ok.ok ⟨⟨_,_,_,rfl,by have:=h1.1;omega,.inl rfl⟩,h1.2⟩) (fun _=>(zyd h).bd fun v l1 h1=>Ok.ok ⟨⟨_,_,_,rfl,by have:=h1.1;omega,.inl rfl⟩,h1.2⟩)
theorem NmT.tm {t:T} (h:NmT t):TmT t:=by
 obtain ⟨s,p,rfl,hs⟩:=h
 exact ⟨s,0,p,rfl,by omega,.inr hs⟩
theorem NmT.zAc {t:T} (h:NmT t) {v:Int} (hv:-1099511627776≤v∧v≤1099511627776):TmT (t.zAc v):=by
 obtain ⟨s,p,rfl,hs⟩:=h
 exact ⟨s,v,p,rfl,hv,.inr hs⟩
theorem zRv {l:List Tok} {k x v:Int} (h:sumP l=some (k,x)) (hv:0≤v∧v≤1099511627776):-1099511627776≤x * v∧x * v≤1099511627776:=by
 rcases zqs h with ⟨_,rfl⟩|⟨_,rfl⟩<;>omega
theorem zPi {l:List Tok} (h:TG l):Ok (Gm TmT) (zZb l):=by
 unfold zZb
 exact Ok.cond (fun _=>(zkd h).bd fun n l1 h1=>Ok.sum (fun _=>Ok.ok ⟨h1.1.tm,h1.2⟩) fun k x hs=>(zyd h1.2.tail).bd fun v l2 h2=>Ok.ok ⟨h1.1.zAc (zRv hs h2.1),h2.2⟩) (fun _=>zGh h)
theorem zTp {G:T→Prop} {item:List Tok→R T} (hi:∀ {l},TG l→Ok (Gm G) (item l)):∀ (n:Nat) {l:List Tok},TG l→Ok (GmL G) (zbe item n l)
 | 0,l,_=>Ok.err
 | n+1,l,h=>by
  rw [zbe]
  exact Ok.cond (fun _=>(hi h.tail).bd fun a l1 h1=>(zTp hi n h1.2).bd fun xs l2 h2=>Ok.ok ⟨zge h1.1 h2.1,h2.2⟩) (fun _=>Ok.ok ⟨zQf,h⟩)
theorem zhq {G:T→Prop} {item:List Tok→R T} (hi:∀ {l},TG l→Ok (Gm G) (item l)) {l:List Tok} (h:TG l):Ok (GmL G) (zsd item l):=by
 unfold zsd
 exact (hi h).bd fun a l1 h1=>(zTp hi _ h1.2).bd fun xs l2 h2=>Ok.ok ⟨zge h1.1 h2.1,h2.2⟩
theorem zhk {G:T→Prop} {item:List Tok→R T} (hi:∀ {l},TG l→Ok (Gm G) (item l)) {l:List Tok} (h:TG l):Ok (GmL G) (zwb item l):=by
 unfold zwb
 exact (zhb h).bd fun _ l1 h1=>Ok.cond (fun _=>Ok.ok ⟨zQf,h1.2.tail⟩) (fun _=>(zhq hi h1.2).bd fun xs l2 h2=>(zhb h2.2).bd fun _ l3 h3=>Ok.ok ⟨h2.1,h3.2⟩)
theorem zKo {l:List Tok} (h:TG l):Ok (Gm TmT) (zMc l):=by
 unfold zMc
 exact (zhb h).bd fun _ l1 h1=>(zPi h1.2).bd fun a l2 h2=>(zhb h2.2).bd fun _ l3 h3=>Ok.ok ⟨h2.1,h3.2⟩
theorem zhs {n:T} (hn:NmT n) {l:List Tok} (h:TG l):Ok (Gm zKk) (zne n l):=by
 unfold zne
 obtain ⟨s,p,rfl,hs⟩:=hn
 exact (zhk zPi h).bd fun xs l1 h1=>Ok.ok ⟨⟨_,_,xs,rfl,hs,h1.1⟩,h1.2⟩
theorem ref_m (p:Nat) {l:List Tok} (h:TG l):Ok (Gm zsg) (zQh p l):=by
 unfold zQh
 exact Ok.cond (fun _=>(znd h.tail).bd fun s l1 h1=>Ok.ok ⟨.word (by omega) h1.1,h1.2⟩) (fun _=>(znd h).bd fun s l1 h1=>Ok.ok ⟨.word (by omega) h1.1,h1.2⟩)
theorem znn {l:List Tok} (h:TG l):Ok (Gm zsg) (zUa l):=by
 unfold zUa
 refine (zkd h).bd fun n l1 h1=>Ok.cond (fun _=>(zKo h1.2).bd fun a l2 h2=>Ok.ok ⟨?_,h2.2⟩) fun _=>Ok.cond (fun _=>Gm.or (zhs h1.1 h1.2) fun _ h=>.call h) fun _=>Ok.sum (fun _=>Ok.ok ⟨.term h1.1.tm,h1.2⟩) fun k x hs =>
  Ok.cond (fun _=>(zkd h1.2.tail).bd fun m l2 h2=>Ok.ok ⟨?_,h2.2⟩) (fun _=>(zyd h1.2.tail).bd fun v l2 h2=>Ok.ok ⟨.term (h1.1.zAc (zRv hs h2.1)),h2.2⟩)
 ·obtain ⟨s,p,rfl,hs⟩:=h1.1
  exact .load hs h2.1
 ·exact .sum (zFm hs) h1.1 h2.1
theorem zcv {l:List Tok} (h:TG l):Ok (Gm zsg) (zbc l):=by
 unfold zbc
 exact Ok.cond (fun _=>(zyd h.tail).bd fun v l1 h1=>Ok.ok ⟨.new h1.1.1 h1.1.2,h1.2⟩) fun _=>Ok.cond (fun _=>(znd h.tail).bd fun s l1 h1=>Ok.ok ⟨.word (by omega) h1.1,h1.2⟩) fun _ =>
  Ok.cond (fun _=>ref_m _ h.tail) fun _=>Ok.cond (fun _=>znn h) fun _=>Gm.or (zGh h) fun _ h=>.term h
def CpT (k:Int) (p:Nat) (t:T):Prop:=∃ s a b,t=.mk k s 0 p [a,b]∧zjq s∧TmT a∧TmT b
theorem zRi (k:Int) (p:Nat) {l:List Tok} (h:TG l):Ok (Gm (CpT k p)) (zrb k p l):=by
 unfold zrb
 refine (zPi h).bd fun a l1 h1=>(zhb h1.2).bd fun c l2 h2=>(zPi h2.2).bd fun b l3 h3=>Ok.ok ⟨⟨_,a,b,rfl,?_,h1.1,h3.1⟩,h3.2⟩
 have h4:=h2.1
 simp only [List.any_cons,List.any_nil,Bool.or_false,Bool.or_eq_true] at h4
 rcases h4 with h4|h4|h4
 ·exact .inl (zBf h4)
 ·exact .inr (.inl (zBf h4))
 ·exact .inr (.inr (zBf h4))
theorem zdx {l:List Tok} (h:TG l):Ok (Gm zrk) (zre l):=by
 unfold zre
 exact (zRi 4 _ h).mono fun t l' ⟨⟨s,a,b,e,hc,ha,hb⟩,h'⟩=>⟨⟨s,_,a,b,e,hc,ha,hb⟩,h'⟩
theorem zpu {l:List Tok} (h:TG l):Ok (Gm zTg) (zjc l):=by
 unfold zjc
 exact (znd h).bd fun s l1 h1=>Ok.cond (fun _=>(zkd h1.2.tail).bd fun a l2 h2=>(zhb h2.2).bd fun _ l3 h3=>Ok.ok ⟨.inr ⟨s,_,a,rfl,h1.1,h2.1⟩,h3.2⟩) (fun _=>Ok.ok ⟨.inl ⟨s,_,rfl,h1.1⟩,h1.2⟩)
theorem zOw {l:List Tok} (h:TG l):Ok (Gm zcm) (zld l):=by
 unfold zld
 refine (zhb h).bd fun t l1 h1=>Ok.cond (fun hc=>Ok.ok ⟨.inl ⟨_,_,rfl,?_⟩,h1.2⟩) (fun hc=>(zkd h1.2).bd fun a l2 h2=>Ok.ok ⟨.inr ⟨_,_,a,rfl,?_,h2.1⟩,h2.2⟩)
 ·rcases Bool.or_eq_true _ _ |>.mp hc with h4|h4
  ·exact .inl (zBf h4)
  ·exact .inr (zBf h4)
 ·have h4:=h1.1
  simp only [List.any_cons,List.any_nil,Bool.or_false,Bool.or_eq_true] at h4
  rw [Bool.or_eq_false_iff] at hc
  rcases h4 with h4|h4|h4|h4|h4
  ·rw [hc.1] at h4;cases h4
  ·rw [hc.2] at h4;cases h4
  ·exact .inl (zBf h4)
  ·exact .inr (.inl (zBf h4))
  ·exact .inr (.inr (zBf h4))
theorem zYi {l:List Tok} (h:TG l):Ok (Gm zKh) (zeb l):=by
 unfold zeb
 refine (zhb h).bd fun t l1 h1=>Ok.cond (fun hc=>(zkd h1.2).bd fun a l2 h2=>Ok.ok ⟨.inr ⟨t.place,a,?_,h2.1⟩,h2.2⟩) (fun hc=>Ok.ok ⟨.inl ⟨t.place,?_⟩,h1.2⟩)
 ·rw [zBf hc]
 ·have h4:=h1.1
  simp only [List.any_cons,List.any_nil,Bool.or_false,Bool.or_eq_true] at h4
  rcases h4 with h4|h4
  ·rw [zBf h4]
  ·rw [hc] at h4;cases h4
theorem zkw {l:List Tok} (h:TG l):Ok (Gm zjm) (zwd l):=by
 unfold zwd
 exact Ok.cond (fun _=>Ok.cond (fun _=>(zkd h.tail.tail).bd fun a l2 h2=>Ok.ok ⟨.inr (.inl ⟨_,a,rfl,h2.1⟩),h2.2⟩) (fun _=>(zkd h.tail).bd fun a l2 h2=>Ok.ok ⟨.inl ⟨_,a,rfl,h2.1⟩,h2.2⟩)) (fun _=>Gm.or (zYi h) fun _ h=>.inr (.inr h))
theorem zZs {l:List Tok} (h:TG l):Ok (Gm zPh) (zBc l):=by
 unfold zBc
 exact (znd h).bd fun s l1 h1=>(zhb h1.2).bd fun _ l2 h2=>(zkw h2.2).bd fun a l3 h3=>Ok.ok ⟨⟨s,_,a,rfl,h1.1,h3.1⟩,h3.2⟩
theorem zDq {l:List Tok} (h:TG l):Ok (GmL zTg) (zoc l):=by
 unfold zoc
 exact Ok.cond (fun _=>(zhq zpu h.tail).bd fun xs l1 h1=>(zhb h1.2).bd fun _ l2 h2=>Ok.ok ⟨h1.1,h2.2⟩) (fun _=>Ok.ok ⟨zQf,h⟩)
theorem zzu {l:List Tok} (h:TG l):Ok (GmL zrk) (zPc l):=by
 unfold zPc
 exact Ok.cond (fun _=>zhq zdx h.tail) (fun _=>Ok.ok ⟨zQf,h⟩)
theorem zwv (p:Nat) {l:List Tok} (h:TG l):Ok (Gm zZk) (zqc p l):=by
 unfold zqc
 exact (znd h).bd fun s l1 h1=>(zOw h1.2).bd fun a l2 h2=>(zDq h2.2).bd fun ys l3 h3=>(zzu h3.2).bd fun zs l4 h4=>(zhb h4.2).bd fun _ l5 h5=>Ok.ok ⟨⟨s,p,a,ys,zs,rfl,h1.1,h2.1,h3.1,h4.1⟩,h5.2⟩
theorem zUr {B:T→Prop} {k:Int} (hk:k=13∨k=14) (p:Nat) {l:List Tok} (h:TG l):Ok (Gm (zWd B)) (zGd k p l):=by
 unfold zGd
 exact (znd h).bd fun s l1 h1=>(zhb h1.2).bd fun _ l2 h2=>(zyd h2.2).bd fun v l3 h3=>(zhb h3.2).bd fun _ l4 h4=>Ok.ok ⟨.lock hk h1.1 h3.1.1 h3.1.2,h4.2⟩
theorem zpr {B:T→Prop} (p:Nat) {l:List Tok} (h:TG l):Ok (Gm (zWd B)) (zdc p l):=by
 unfold zdc
 exact Ok.cond (fun _=>Ok.ok ⟨.ret0,h⟩) (fun _=>(zPi h).bd fun a l1 h1=>Ok.ok ⟨.ret1 h1.1,h1.2⟩)
theorem zTs {B:T→Prop} {l:List Tok} (h:TG l):Ok (Gm (zWd B)) (zHb l):=by
 unfold zHb
 refine (zkd h).bd fun n l1 h1=>?_
 obtain ⟨⟨s,p,rfl,hs⟩,ht⟩:=h1
 exact Ok.cond (fun _=>(zhs ⟨s,p,rfl,hs⟩ ht).bd fun c l2 h2=>Ok.ok ⟨.call h2.1,h2.2⟩) fun _ =>
  Ok.cond (fun _=>(zKo ht).bd fun i l2 h2=>(zhb h2.2).bd fun _ l3 h3=>(zPi h3.2).bd fun b l4 h4=>Ok.ok ⟨.store hs h2.1 h4.1,h4.2⟩) fun _ =>
  (zhb ht).bd fun _ l2 h2=>(zcv h2.2).bd fun x l3 h3=>Ok.ok ⟨.set hs h3.1,h3.2⟩
theorem znq {B:T→Prop} {l:List Tok} (h:TG l):Ok (Gm (zWd B)) (zbb l):=by
 unfold zbb
 exact Ok.cond (fun _=>zTs h) fun _=>Ok.cond (fun _=>(znd h.tail).bd fun s l1 h1=>Ok.ok ⟨.free h1.1,h1.2⟩) fun _=>Ok.cond (fun _=>zUr (.inl rfl) _ h.tail) fun _=>Ok.cond (fun _=>zUr (.inr rfl) _ h.tail) fun _ =>
  Ok.cond (fun _=>zpr _ h.tail) fun _=>Ok.cond (fun _=>Ok.ok ⟨.abort,h.tail⟩) fun _=>Ok.cond (fun _=>(znd h.tail).bd fun s l1 h1=>(zhk zPi h1.2).bd fun xs l2 h2=>Ok.ok ⟨.fork h1.1 h2.1,h2.2⟩) fun _=>Ok.err
theorem zEw {B:T→Prop} {blk:List Tok→R T} (hb:∀ {l},TG l→Ok (Gm B) (blk l)) (p:Nat) {l:List Tok} (h:TG l):Ok (Gm fun d=>B d∨∃ q,d=.mk 9 e0 0 q []) (zbf blk p l):=by
 unfold zbf
 exact Ok.cond (fun _=>Gm.or (hb h.tail) fun _ h=>.inl h) (fun _=>Ok.ok ⟨.inr ⟨p,rfl⟩,h⟩)
theorem if_m {B:T→Prop} {blk:List Tok→R T} (hb:∀ {l},TG l→Ok (Gm B) (blk l)) (p:Nat) {l:List Tok} (h:TG l):Ok (Gm (zWd B)) (ifP blk p l):=by
 unfold ifP
 refine (zRi 15 p h).bd fun n l1 h1=>(hb h1.2).bd fun c l2 h2=>(zEw hb p h2.2).bd fun d l3 h3=>Ok.ok ⟨?_,h3.2⟩
 obtain ⟨s,a,b,rfl,hc,ha,hb'⟩:=h1.1
 exact .cond hc ha hb' h2.1 h3.1
theorem zsu {B:T→Prop} {blk:List Tok→R T} (hb:∀ {l},TG l→Ok (Gm B) (blk l)) (p:Nat) {l:List Tok} (h:TG l):Ok (Gm (zWd B)) (zVd blk p l):=by
 unfold zVd
 refine (zRi 16 p h).bd fun n l1 h1=>(hb h1.2).bd fun c l2 h2=>Ok.ok ⟨?_,h2.2⟩
 obtain ⟨s,a,b,rfl,hc,ha,hb'⟩:=h1.1
 exact .loop hc ha hb' h2.1
theorem zSv {B:T→Prop} {blk:List Tok→R T} (hb:∀ {l},TG l→Ok (Gm B) (blk l)) {l:List Tok} (h:TG l):Ok (Gm (zWd B)) (zPb blk l):=by
 unfold zPb
 exact Ok.cond (fun _=>if_m hb _ h.tail) fun _=>Ok.cond (fun _=>zsu hb _ h.tail) fun _=>(znq h).bd fun n l1 h1=>(zhb h1.2).bd fun _ l2 h2=>Ok.ok ⟨h1.1,h2.2⟩
theorem zHm {G:T→Prop} {item:List Tok→R T} (hi:∀ {l},TG l→Ok (Gm G) (item l)):∀ (n:Nat) {l:List Tok},TG l→Ok (GmL G) (zsc item n l)
 | 0,l,_=>Ok.err
 | n+1,l,h=>by
  rw [zsc]
  exact Ok.cond (fun _=>Ok.ok ⟨zQf,h.tail⟩) (fun _=>(hi h).bd fun a l1 h1=>(zHm hi n h1.2).bd fun xs l2 h2=>Ok.ok ⟨zge h1.1 h2.1,h2.2⟩)
theorem zHo:∀ (n:Nat) {l:List Tok},TG l→Ok (Gm (zPe n)) (zsb n l)
 | 0,l,h=>by
  rw [zsb]
  exact (zhb h).bd fun _ _ _=>Ok.err
 | n+1,l,h=>by
  rw [zsb]
  exact (zhb h).bd fun t l1 h1=>(zHm (zSv (zHo n)) _ h1.2).bd fun xs l2 h2=>Ok.ok ⟨⟨_,xs,rfl,h2.1⟩,h2.2⟩
theorem zPq {l:List Tok} (h:TG l):Ok (Gm zhh) (zmc l):=by
 unfold zmc
 exact Ok.cond (fun _=>Gm.or (zYi h.tail) fun _ h=>.inl h) (fun _=>Ok.ok ⟨.inr ⟨_,rfl⟩,h⟩)
theorem fn_m (p:Nat) {l:List Tok} (h:TG l):Ok (Gm FnT) (fnP p l):=by
 unfold fnP
 exact (znd h).bd fun s l1 h1=>(zhk zZs h1.2).bd fun xs l2 h2=>(zPq h2.2).bd fun r l3 h3=>(zHo 8 h3.2).bd fun b l4 h4=>Ok.ok ⟨⟨s,p,xs,r,b,rfl,h1.1,h2.1,h3.1,h4.1⟩,h4.2⟩
theorem zsw {l:List Tok} (h:TG l):Ok (Gm zbl) (zHd l):=by
 unfold zHd
 exact (zhb h).bd fun t l1 h1=>Ok.cond (fun _=>Gm.or (zwv _ h1.2) fun _ h=>.inl h) (fun _=>Gm.or (fn_m _ h1.2) fun _ h=>.inr h)
theorem zXp:∀ (n:Nat) {l:List Tok},TG l→Ok (GmL zbl) (zRd n l)
 | 0,l,_=>Ok.err
 | n+1,l,h=>by
  rw [zRd]
  exact Ok.cond (fun _=>Ok.ok ⟨zQf,h⟩) (fun _=>(zsw h).bd fun a l1 h1=>(zXp n h1.2).bd fun xs l2 h2=>Ok.ok ⟨zge h1.1 h2.1,h2.2⟩)
theorem zlv {l:List Tok} (h:TG l):Ok (Gm zqg) (zgd l):=by
 unfold zgd
 exact (zXp _ h).bd fun xs l1 h1=>Ok.ok ⟨⟨xs,rfl,h1.1⟩,h1.2⟩
theorem zaj:zqg zNc:=⟨[],rfl,zQf⟩
theorem zSf (s:ByteArray):zqg (zvb s).1:=by
 unfold zvb
 cases hl:zqd s with
 | error e=>exact zaj
 | ok ts =>
  simp only
  unfold zUc
  cases hu:zgd ts with
  | error e=>exact zaj
  | ok q =>
   obtain ⟨t,l⟩:=q
   simp only
   by_cases hs:4096<t.size
   ·rw [if_pos hs];exact zaj
   ·rw [if_neg hs];exact (zlv (zIk hl) _ _ hu).1
end
end Go.Proofs.YtbfgdpcgdmabpaaGreatDoor
namespace Go.Proofs.YtbfgdpcgdmabpaaGreatDoor
open Go.RowKit
theorem Below.row {B:Nat} {a w:World} (h:Below B a w) {g:Nat} (hg:B≤g) (cs:Array Value):Below B a (w.setRow g cs) :=
 ⟨h.os,h.tape,h.output,by simpa [World.setRow] using h.size,fun k hk=>(setRow_other w g k cs (by omega)).trans (h.block k hk)⟩
theorem Blk.stays {w w':World} {g:Nat} {cs:List Value} {t:TypeId} (h:Blk w g cs t) (hb:Below w.heap.size w w'):Blk w' g cs t:=(hb.block g h.lt).trans h
def zvs (t:Tm):List Value:=[.string t.name,.int .i64 t.num]
def zMm:List Tm→List Value
 | []=>[]
 | t :: ts=>zvs t++zMm ts
def zwr (i:Ins) (v:Value):List Value :=
 [.int .i64 i.op,.int .i64 i.place,.string i.x,.string i.y,.string i.a.name,.int .i64 i.a.num,.string i.b.name,.int .i64 i.b.num,v,.int .i64 i.to,.bool i.has]
def zcs:List Ins→List Value→List Value
 | i :: is,v :: vs=>zwr i v++zcs is vs
 | _,_=>[]
def zyc (w:World) (ts:List Tm) (S:Nat→Prop) (v:Value):Prop :=
 w.ownsRow 0 110 2 v ts.length (zMm ts)∧∀ g,v.ownBlock=some g→S g
def zad (w:World):List Ins→(Nat→Prop)→List Value→Prop
 | [],_,vs=>vs=[]
 | i :: is,S,vs=>∃ v vs',vs=v :: vs'∧zyc w i.args S v∧zad w is S vs'
def zde (w:World) (is:List Ins) (S:Nat→Prop) (v:Value):Prop :=
 ∃ vs,w.ownsRow 0 113 11 v is.length (zcs is vs)∧(∀ g,v.ownBlock=some g→S g)∧zad w is (fun b=>S b∧v.ownBlock≠some b) vs
theorem zyc.nil (w:World) (S:Nat→Prop):zyc w [] S (.slice none 0 0) :=
 ⟨World.ownsRow_nil _ _ _ _,fun g h=>by simp [Value.ownBlock] at h⟩
theorem zyc.one {w:World} {ts:List Tm} {S:Nat→Prop} {v:Value} (h:zyc w ts S v):v.oneCell'=true:=by
 rcases h.1.2 with ⟨rfl,_⟩|⟨_,_,_,rfl,_⟩<;>rfl
theorem zyc.slice {w:World} {ts:List Tm} {S:Nat→Prop} {v:Value} (h:zyc w ts S v):∃ a n c,v=.slice a n c:=by
 rcases h.1.2 with ⟨rfl,_⟩|⟨_,_,_,rfl,_⟩<;>exact ⟨_,_,_,rfl⟩
theorem zQe {w w':World} {o:Nat} {e:TypeId} {m n:Nat} {v:Value} {xs:List Value} (h:w.ownsRow o e m v n xs) (hk:∀ g,v.ownBlock=some g→w'.heap[g]?=w.heap[g]?):w'.ownsRow o e m v n xs:=by
 refine ⟨h.1,?_⟩
 rcases h.2 with hn|⟨g,cap,cur,rfl,hb,hg,rest⟩
 ·exact .inl hn
 ·exact .inr ⟨g,cap,cur,rfl,hb,(hk g rfl).trans hg,rest⟩
theorem zyc.keep {w w':World} {ts:List Tm} {S S':Nat→Prop} {v:Value} (h:zyc w ts S v) (hk:∀ b,S b→b<w.heap.size→S' b∧w'.heap[b]?=w.heap[b]?):zyc w' ts S' v :=
 ⟨zQe h.1 fun g hg=>(hk g (h.2 g hg) (h.1.lt g hg).2).2,fun g hg=>(hk g (h.2 g hg) (h.1.lt g hg).2).1⟩
theorem zad.keep {w w':World}:∀ (is:List Ins) {S S':Nat→Prop} {vs:List Value},zad w is S vs→(∀ b,S b→b<w.heap.size→S' b∧w'.heap[b]?=w.heap[b]?)→zad w' is S' vs
 | [],_,_,_,h,_=>h
 | i :: is,S,S',vs,h,hk=>by
  obtain ⟨v,vs',e,ha,hs⟩:=h
  exact ⟨v,vs',e,ha.keep hk,zad.keep is hs hk⟩
theorem zde.keep {w w':World} {is:List Ins} {S S':Nat→Prop} {v:Value} (h:zde w is S v) (hk:∀ b,S b→b<w.heap.size→S' b∧w'.heap[b]?=w.heap[b]?):zde w' is S' v:=by
 obtain ⟨vs,ho,hS,ha⟩:=h
 exact ⟨vs,zQe ho fun g hg=>(hk g (hS g hg) (ho.lt g hg).2).2,fun g hg=>(hk g (hS g hg) (ho.lt g hg).2).1,zad.keep is ha fun b hb hl=>⟨⟨(hk b hb.1 hl).1,hb.2⟩,(hk b hb.1 hl).2⟩⟩
theorem zad.length {w:World}:∀ {is:List Ins} {S:Nat→Prop} {vs:List Value},zad w is S vs→vs.length=is.length
 | [],_,_,h=>by rw [show _=[] from h];rfl
 | i :: is,_,_,h=>by obtain ⟨v,vs',rfl,_,h'⟩:=h;simp [zad.length h']
theorem zad.append {w:World}:∀ {is js:List Ins} {S:Nat→Prop} {vs us:List Value},zad w is S vs→zad w js S us→zad w (is++js) S (vs++us)
 | [],_,_,vs,_,h,h'=>by rw [show vs=[] from h];exact h'
 | i :: is,js,_,_,us,h,h'=>by
  obtain ⟨v,vs',rfl,ha,hs⟩:=h
  exact ⟨v,vs'++us,rfl,ha,zad.append hs h'⟩
theorem zde.nil (w:World) (S:Nat→Prop):zde w [] S (.slice none 0 0) :=
 ⟨[],World.ownsRow_nil _ _ _ _,(fun g h=>by simp [Value.ownBlock] at h),rfl⟩
section
variable {w w':World} {is:List Ins} {ts:List Tm} {S S':Nat→Prop} {v:Value}
theorem zde.mono (h:zde w is S v) (hS:∀ b,S b→b<w.heap.size→S' b):zde w is S' v:=h.keep fun b hb hl=>⟨hS b hb hl,rfl⟩
theorem zde.below (h:zde w is S v) (hk:Below w.heap.size w w'):zde w' is S v:=h.keep fun b hb hl=>⟨hb,hk.block b hl⟩
theorem zde.alloc (h:zde w is S v) (o:Obj):zde (w.alloc o) is S v:=h.keep fun b hb hl=>⟨hb,Below.heap_alloc w o b hl⟩
theorem zde.drew (h:zde w is S v):zde w.drew is S v:=h.keep fun _ hb _=>⟨hb,rfl⟩
theorem zde.setRow (h:zde w is S v) (g:Nat) (cs:Array Value) (hS:∀ b,S b→b≠g):zde (w.setRow g cs) is S v:=h.keep fun b hb _=>⟨hb,setRow_other w g b cs (hS b hb)⟩
theorem zde.setCell (h:zde w is S v) (a:Addr) (x:Value) (hS:∀ b,S b→b≠a.block):zde (w.setCell a x) is S v:=h.keep fun b hb _=>⟨hb,Below.heap_setCell w a x b (hS b hb)⟩
theorem zyc.mono (h:zyc w ts S v) (hS:∀ b,S b→b<w.heap.size→S' b):zyc w ts S' v:=h.keep fun b hb hl=>⟨hS b hb hl,rfl⟩
theorem zyc.below (h:zyc w ts S v) (hk:Below w.heap.size w w'):zyc w' ts S v:=h.keep fun b hb hl=>⟨hb,hk.block b hl⟩
theorem zyc.alloc (h:zyc w ts S v) (o:Obj):zyc (w.alloc o) ts S v:=h.keep fun b hb hl=>⟨hb,Below.heap_alloc w o b hl⟩
theorem zyc.drew (h:zyc w ts S v):zyc w.drew ts S v:=h.keep fun _ hb _=>⟨hb,rfl⟩
theorem zyc.setRow (h:zyc w ts S v) (g:Nat) (cs:Array Value) (hS:∀ b,S b→b≠g):zyc (w.setRow g cs) ts S v:=h.keep fun b hb _=>⟨hb,setRow_other w g b cs (hS b hb)⟩
theorem zyc.setCell (h:zyc w ts S v) (a:Addr) (x:Value) (hS:∀ b,S b→b≠a.block):zyc (w.setCell a x) ts S v:=h.keep fun b hb _=>⟨hb,Below.heap_setCell w a x b (hS b hb)⟩
end
theorem zde.slice {w:World} {is:List Ins} {S:Nat→Prop} {v:Value} (h:zde w is S v):∃ a c,v=.slice a is.length c:=by
 obtain ⟨_,ho,_⟩:=h
 rcases ho.2 with ⟨rfl,h0⟩|⟨g,cap,_,rfl,_⟩
 ·exact ⟨_,_,by rw [h0]⟩
 ·exact ⟨_,_,rfl⟩
theorem zde.one {w:World} {is:List Ins} {S:Nat→Prop} {v:Value} (h:zde w is S v):v.oneCell'=true:=by
 obtain ⟨_,_,rfl⟩:=h.slice
 rfl
theorem zad.get {w:World}:∀ {is:List Ins} {S:Nat→Prop} {vs:List Value},zad w is S vs→∀ {k:Nat} {i:Ins},is[k]?=some i→∃ u,vs[k]?=some u∧zyc w i.args S u
 | [],_,_,_,k,t,h=>by simp at h
 | a :: ts,S,vs,h,0,t,hk=>by
  obtain ⟨v,vs',rfl,ht,_⟩:=h
  obtain rfl:a=t:=by simpa using hk
  exact ⟨v,rfl,ht⟩
 | a :: ts,S,vs,h,k+1,t,hk=>by
  obtain ⟨v,vs',rfl,_,hts⟩:=h
  obtain ⟨u,hu,ht⟩:=zad.get hts (k:=k) (i:=t) (by simpa using hk)
  exact ⟨u,by simpa using hu,ht⟩
end Go.Proofs.YtbfgdpcgdmabpaaGreatDoor
