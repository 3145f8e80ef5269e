/- Every tree that was read is whole: each node's kids are of the kinds that the table of layer 2 has for it. Nothing of the program is walked here. -/
import Derived.Test.YthdbmgijpelecaaGreatDoorM03
namespace Go.Proofs.YthdbmgijpelecaaGreatDoor
open Go.RowKit
def zZa (k:Int):Prop:=10≤k∧k≤20
def zEc (k:Int):Prop:=k=5∨(21≤k∧k≤28)
def zjb (K:Int→Prop) (ts:List T):Prop:=∀ t∈ts,K t.kind
theorem zjb.nil {K:Int→Prop}:zjb K []:=by intro t h;simp at h
theorem zjb.cons {K:Int→Prop} {t:T} {ts:List T} (h:K t.kind) (hs:zjb K ts):zjb K (t :: ts):=by
 intro u hu
 rcases List.mem_cons.1 hu with rfl|hu
 ·exact h
 ·exact hs u hu
inductive Fit:Int→List T→Prop
 | unit {k:Int} {ks:List T}:k=0→zjb (fun x=>x=1∨x=6) ks→Fit k ks
 | type {k:Int} {a:T} {ys zs:List T}:k=1→a.kind=2→zjb (·=3) ys→zjb (·=4) zs→Fit k (a :: (ys++zs))
 | none {k:Int}:k=2∨k=3∨k=8∨k=17→Fit k []
 | one {k:Int} {a:T}:k=2∨k=3∨k=8∨k=17→a.kind=5→Fit k [a]
 | two {k:Int} {a b:T}:k=4∨k=11∨k=21∨k=22→a.kind=5→b.kind=5→Fit k [a,b]
 | fn {k:Int} {xs:List T} {r b:T}:k=6→zjb (·=7) xs→r.kind=8→b.kind=9→Fit k (xs++[r,b])
 | param {k:Int} {a:T}:k=7→a.kind=8→Fit k [a]
 | block {k:Int} {ks:List T}:k=9→zjb zZa ks→Fit k ks
 | set {k:Int} {a:T}:k=10→zEc a.kind→Fit k [a]
 | cond {k:Int} {a b c d:T}:k=15→a.kind=5→b.kind=5→c.kind=9→d.kind=9→Fit k [a,b,c,d]
 | loop {k:Int} {a b c:T}:k=16→a.kind=5→b.kind=5→c.kind=9→Fit k [a,b,c]
 | call1 {k:Int} {a:T}:k=20→a.kind=28→Fit k [a]
 | load {k:Int} {a:T}:k=25→a.kind=5→Fit k [a]
 | call {k:Int} {ks:List T}:k=19∨k=28→zjb (·=5) ks→Fit k ks
 | leaf {k:Int}:k=5∨k=12∨k=13∨k=14∨k=18∨k=23∨k=24∨k=26∨k=27→Fit k []
mutual
def T.whole:T→Prop
 | .mk k _ _ _ ks=>Fit k ks∧zYb ks
def zYb:List T→Prop
 | []=>True
 | t :: ts=>t.whole∧zYb ts
end
theorem zOd {k:Int} {s:ByteArray} {n:Int} {p:Nat} {ks:List T}:(T.mk k s n p ks).whole↔Fit k ks∧zYb ks:=by rw [T.whole]
theorem zFe {t:T}:t.whole↔Fit t.kind t.kids∧zYb t.kids:=by cases t;rw [T.whole];exact Iff.rfl
theorem ztc:zYb []:=by rw [zYb];trivial
theorem zHa {t:T} {ts:List T}:zYb (t :: ts)↔t.whole∧zYb ts:=by rw [zYb]
theorem zAj {t:T} (h:t.whole):zYb [t]:=zHa.2 ⟨h,ztc⟩
theorem zGe {t u:T} (h:t.whole) (h':u.whole):zYb [t,u]:=zHa.2 ⟨h,zAj h'⟩
theorem zAf:∀ {a b:List T},zYb a→zYb b→zYb (a++b)
 | [],_,_,h=>h
 | t :: ts,b,h,h'=>by rw [zHa] at h;exact zHa.2 ⟨h.1,zAf h.2 h'⟩
theorem zMd:∀ {ks:List T} {t:T},zYb ks→t∈ks→t.whole
 | a :: ks,t,h,hm=>by
  rw [zHa] at h
  rcases List.mem_cons.1 hm with rfl|hm
  ·exact h.1
  ·exact zMd h.2 hm
def W1 (K:Int→Prop) (t:T) (_:List Tok):Prop:=K t.kind∧t.whole
def WL (K:Int→Prop) (ts:List T) (_:List Tok):Prop:=zjb K ts∧zYb ts
def Any {α:Type} (_:α) (_:List Tok):Prop:=True
theorem zZc {α:Type} (r:R α):Ok Any r:=fun _ _ _=>trivial
theorem W1.or {K K':Int→Prop} {r:R T} (h:Ok (W1 K) r) (hk:∀ k,K k→K' k):Ok (W1 K') r:=h.mono fun _ _ h=>⟨hk _ h.1,h.2⟩
theorem zLe {K:Int→Prop} {k:Int} {s:ByteArray} {n:Int} {p:Nat} {l:List Tok} (hf:Fit k []) (hk:K k):W1 K (.mk k s n p []) l:=⟨hk,zOd.2 ⟨hf,ztc⟩⟩
theorem zrj {K:Int→Prop} {k:Int} {s:ByteArray} {n:Int} {p:Nat} {a:T} {l:List Tok} (hf:Fit k [a]) (ha:a.whole) (hk:K k):W1 K (.mk k s n p [a]) l:=⟨hk,zOd.2 ⟨hf,zAj ha⟩⟩
theorem zPh {K:Int→Prop} {k:Int} {s:ByteArray} {n:Int} {p:Nat} {ks:List T} {l:List Tok} (hf:Fit k ks) (ha:zYb ks) (hk:K k):W1 K (.mk k s n p ks) l:=⟨hk,zOd.2 ⟨hf,ha⟩⟩
theorem zym {K:Int→Prop} {t:T} (v:Int) {l:List Tok} (h:K t.kind∧t.whole):W1 K (t.zDb v) l:=by
 cases t
 exact ⟨h.1,zOd.2 (zOd.1 h.2)⟩
theorem zLd (l:List Tok):Ok (W1 (·=5)) (zqa l):=by
 unfold zqa
 exact (zZc _).bd fun s l1 _=>Ok.ok (zLe (.leaf (by omega)) rfl)
theorem zNh (l:List Tok):Ok (W1 (·=5)) (zOa l):=by
 unfold zOa
 exact Ok.cond (fun _=>(zZc _).bd fun s l1 _=>Ok.ok (zLe (.leaf (by omega)) rfl)) (fun _=>(zZc _).bd fun s l1 _=>Ok.ok (zLe (.leaf (by omega)) rfl))
theorem zij (l:List Tok):Ok (W1 (·=5)) (zib l):=by
 unfold zib
 exact Ok.cond (fun _=>(zLd l).bd fun n l1 h=>Ok.sum (fun _=>Ok.ok h) fun k x _=>(zZc _).bd fun v l2 _=>Ok.ok (zym _ h)) (fun _=>zNh l)
theorem zkp {K:Int→Prop} {item:List Tok→R T} (hi:∀ l,Ok (W1 K) (item l)):∀ (n:Nat) (l:List Tok),Ok (WL K) (zpe item n l)
 | 0,l=>Ok.err
 | n+1,l=>by
  rw [zpe]
  exact Ok.cond (fun _=>(hi _).bd fun a l1 h=>(zkp hi n l1).bd fun xs l2 h2=>Ok.ok ⟨.cons h.1 h2.1,zHa.2 ⟨h.2,h2.2⟩⟩) (fun _=>Ok.ok ⟨.nil,ztc⟩)
theorem zSo {K:Int→Prop} {item:List Tok→R T} (hi:∀ l,Ok (W1 K) (item l)) (l:List Tok):Ok (WL K) (zte item l):=by
 unfold zte
 exact (hi l).bd fun a l1 h=>(zkp hi _ l1).bd fun xs l2 h2=>Ok.ok ⟨.cons h.1 h2.1,zHa.2 ⟨h.2,h2.2⟩⟩
theorem zmk {K:Int→Prop} {item:List Tok→R T} (hi:∀ l,Ok (W1 K) (item l)) (l:List Tok):Ok (WL K) (zxb item l):=by
 unfold zxb
 exact (zZc _).bd fun _ l1 _=>Ok.cond (fun _=>Ok.ok ⟨.nil,ztc⟩) (fun _=>(zSo hi l1).bd fun xs l2 h2=>(zZc _).bd fun _ l3 _=>Ok.ok h2)
theorem zVp (l:List Tok):Ok (W1 (·=5)) (zDd l):=by
 unfold zDd
 exact (zZc _).bd fun _ l1 _=>(zij l1).bd fun a l2 h2=>(zZc _).bd fun _ l3 _=>Ok.ok h2
theorem zhs (n:T) (l:List Tok):Ok (W1 (·=28)) (zKf n l):=by
 unfold zKf
 exact (zmk zij l).bd fun xs l1 h=>Ok.ok (zPh (.call (.inr rfl) h.1) h.2 rfl)
theorem ref_w (p:Nat) (l:List Tok):Ok (W1 zEc) (zEk p l):=by
 unfold zEk
 exact Ok.cond (fun _=>(zZc _).bd fun s l1 _=>Ok.ok (zLe (.leaf (by omega)) (by unfold zEc;omega))) (fun _=>(zZc _).bd fun s l1 _=>Ok.ok (zLe (.leaf (by omega)) (by unfold zEc;omega)))
theorem zRq {l:List Tok} {k x:Int} (h:sumP l=some (k,x)):k=21∨k=22:=by
 unfold sumP at h
 cases h1:isT (hdT l) (bs [43]) with
 | true=>rw [h1] at h;simp at h;omega
 | false =>
  rw [h1] at h
  cases h2:isT (hdT l) (bs [45]) with
  | true=>rw [h2] at h;simp at h;omega
  | false=>rw [h2] at h;simp at h
theorem zEn (l:List Tok):Ok (W1 zEc) (zPa l):=by
 unfold zPa
 refine (zLd l).bd fun n l1 h=>Ok.cond (fun _=>(zVp l1).bd fun a l2 h2=>Ok.ok (zrj (.load rfl h2.1) h2.2 (by unfold zEc;omega))) fun _=>Ok.cond (fun _=>W1.or (zhs n l1) (fun k hk=>by unfold zEc;omega)) fun _=>Ok.sum (fun _=>Ok.ok ⟨.inl h.1,h.2⟩) fun k x hs=>Ok.cond (fun _=>(zLd _).bd fun m l2 h2=>Ok.ok ?_) (fun _=>(zZc _).bd fun v l2 _=>Ok.ok (zym _ ⟨.inl h.1,h.2⟩))
 have hk:=zRq hs
 exact zPh (.two (by omega) h.1 h2.1) (zGe h.2 h2.2) (by unfold zEc;omega)
theorem zuu (l:List Tok):Ok (W1 zEc) (zIc l):=by
 unfold zIc
 exact Ok.cond (fun _=>(zZc _).bd fun v l1 _=>Ok.ok (zLe (.leaf (by omega)) (by unfold zEc;omega))) fun _=>Ok.cond (fun _=>(zZc _).bd fun s l1 _=>Ok.ok (zLe (.leaf (by omega)) (by unfold zEc;omega))) fun _=>Ok.cond (fun _=>ref_w _ _) fun _=>Ok.cond (fun _=>zEn l) fun _=>W1.or (zNh l) (fun k hk=>.inl hk)
def Cp (k:Int) (t:T) (_:List Tok):Prop:=∃ s n p a b,t=.mk k s n p [a,b]∧(a.kind=5∧a.whole)∧b.kind=5∧b.whole
theorem zUi (k:Int) (p:Nat) (l:List Tok):Ok (Cp k) (zyb k p l):=by
 unfold zyb
 exact (zij l).bd fun a l1 h1=>(zZc _).bd fun c l2 _=>(zij l2).bd fun b l3 h3=>Ok.ok ⟨_,_,_,a,b,rfl,h1,h3⟩
theorem zJt (l:List Tok):Ok (W1 (·=4)) (zye l):=by
 unfold zye
 exact (zUi 4 _ l).mono fun t l' ⟨s,n,p,a,b,e,ha,hb⟩=>by subst e;exact zPh (.two (.inl rfl) ha.1 hb.1) (zGe ha.2 hb.2) rfl
theorem zms (l:List Tok):Ok (W1 (·=3)) (zPc l):=by
 unfold zPc
 exact (zZc _).bd fun s l1 _=>Ok.cond (fun hc=>(zLd _).bd fun a l2 h2=>(zZc _).bd fun _ l3 _=>Ok.ok (zrj (.one (by omega) h2.1) h2.2 rfl)) (fun _=>Ok.ok (zLe (.none (by omega)) rfl))
theorem zLt (l:List Tok):Ok (W1 (·=2)) (zoe l):=by
 unfold zoe
 exact (zZc _).bd fun t l1 _=>Ok.cond (fun _=>Ok.ok (zLe (.none (by omega)) rfl)) (fun _=>(zLd l1).bd fun a l2 h2=>Ok.ok (zrj (.one (by omega) h2.1) h2.2 rfl))
theorem zSi (l:List Tok):Ok (W1 (·=8)) (zVa l):=by
 unfold zVa
 exact (zZc _).bd fun t l1 _=>Ok.cond (fun _=>(zLd l1).bd fun a l2 h2=>Ok.ok (zrj (.one (by omega) h2.1) h2.2 rfl)) (fun _=>Ok.ok (zLe (.none (by omega)) rfl))
theorem zqu (l:List Tok):Ok (W1 (·=8)) (zId l):=by
 unfold zId
 exact Ok.cond (fun hc=>Ok.cond (fun _=>(zLd _).bd fun a l2 h2=>Ok.ok (zrj (.one (by omega) h2.1) h2.2 rfl)) (fun _=>(zLd _).bd fun a l2 h2=>Ok.ok (zrj (.one (by omega) h2.1) h2.2 rfl))) (fun _=>zSi l)
theorem zDs (l:List Tok):Ok (W1 (·=7)) (zdd l):=by
 unfold zdd
 exact (zZc _).bd fun s l1 _=>(zZc _).bd fun _ l2 _=>(zqu l2).bd fun a l3 h3=>Ok.ok (zrj (.param rfl h3.1) h3.2 rfl)
theorem zLr (l:List Tok):Ok (WL (·=3)) (zHd l):=by
 unfold zHd
 exact Ok.cond (fun _=>(zSo zms _).bd fun xs l1 h=>(zZc _).bd fun _ l2 _=>Ok.ok h) (fun _=>Ok.ok ⟨.nil,ztc⟩)
theorem zVs (l:List Tok):Ok (WL (·=4)) (zVd l):=by
 unfold zVd
 exact Ok.cond (fun _=>zSo zJt _) (fun _=>Ok.ok ⟨.nil,ztc⟩)
theorem zHt (p:Nat) (l:List Tok):Ok (W1 (·=1)) (zNc p l):=by
 unfold zNc
 exact (zZc _).bd fun s l1 _=>(zLt l1).bd fun a l2 h2=>(zLr l2).bd fun ys l3 h3=>(zVs l3).bd fun zs l4 h4=>(zZc _).bd fun _ l5 _=>Ok.ok (zPh (.type rfl h2.1 h3.1 h4.1) (zHa.2 ⟨h2.2,zAf h3.2 h4.2⟩) rfl)
theorem zfs {k:Int} (hk:k=13∨k=14) (p:Nat) (l:List Tok):Ok (W1 zZa) (zze k p l):=by
 unfold zze
 exact (zZc _).bd fun s l1 _=>(zZc _).bd fun _ l2 _=>(zZc _).bd fun v l3 _=>(zZc _).bd fun _ l4 _=>Ok.ok (zLe (.leaf (by omega)) (by unfold zZa;omega))
theorem zIq (p:Nat) (l:List Tok):Ok (W1 zZa) (zYc p l):=by
 unfold zYc
 exact Ok.cond (fun _=>Ok.ok (zLe (.none (by omega)) (by unfold zZa;omega))) (fun _=>(zij l).bd fun a l1 h=>Ok.ok (zrj (.one (by omega) h.1) h.2 (by unfold zZa;omega)))
theorem zys (l:List Tok):Ok (W1 zZa) (zSb l):=by
 unfold zSb
 exact (zZc _).bd fun n l1 _=>Ok.cond (fun _=>(zhs n l1).bd fun c l2 h2=>Ok.ok (zrj (.call1 rfl h2.1) h2.2 (by unfold zZa;omega))) fun _=>Ok.cond (fun _=>(zVp l1).bd fun i l2 h2=>(zZc _).bd fun _ l3 _=>(zij l3).bd fun b l4 h4=>Ok.ok (zPh (.two (by omega) h2.1 h4.1) (zGe h2.2 h4.2) (by unfold zZa;omega))) fun _=>(zZc _).bd fun _ l2 _=>(zuu l2).bd fun x l3 h3=>Ok.ok (zrj (.set rfl h3.1) h3.2 (by unfold zZa;omega))
theorem zwr (l:List Tok):Ok (W1 zZa) (zbb l):=by
 unfold zbb
 exact Ok.cond (fun _=>zys l) fun _=>Ok.cond (fun _=>(zZc _).bd fun s l1 _=>Ok.ok (zLe (.leaf (by omega)) (by unfold zZa;omega))) fun _=>Ok.cond (fun _=>zfs (.inl rfl) _ _) fun _=>Ok.cond (fun _=>zfs (.inr rfl) _ _) fun _=>Ok.cond (fun hc=>zIq _ _) fun _=>Ok.cond (fun hc=>Ok.ok (zLe (.leaf (by omega)) (by unfold zZa;omega))) fun _=>Ok.cond (fun _=>(zZc _).bd fun s l1 _=>(zmk zij l1).bd fun xs l2 h2=>Ok.ok (zPh (.call (.inl rfl) h2.1) h2.2 (by unfold zZa;omega))) fun _=>Ok.err
theorem zyu {blk:List Tok→R T} (hb:∀ l,Ok (W1 (·=9)) (blk l)) (p:Nat) (l:List Tok):Ok (W1 (·=9)) (zJg blk p l):=by
 unfold zJg
 exact Ok.cond (fun _=>hb _) (fun _=>Ok.ok (zPh (.block rfl .nil) ztc rfl))
theorem if_w {blk:List Tok→R T} (hb:∀ l,Ok (W1 (·=9)) (blk l)) (p:Nat) (l:List Tok):Ok (W1 zZa) (ifP blk p l):=by
 unfold ifP
 refine (zUi 15 p l).bd fun n l1 ⟨s,v,q,a,b,e,ha,hb'⟩=>(hb l1).bd fun c l2 h2=>(zyu hb p l2).bd fun d l3 h3=>Ok.ok ?_
 subst e
 exact zPh (.cond rfl ha.1 hb'.1 h2.1 h3.1) (zHa.2 ⟨ha.2,zHa.2 ⟨hb'.2,zGe h2.2 h3.2⟩⟩) (by unfold zZa;omega)
theorem zSs {blk:List Tok→R T} (hb:∀ l,Ok (W1 (·=9)) (blk l)) (p:Nat) (l:List Tok):Ok (W1 zZa) (zug blk p l):=by
 unfold zug
 refine (zUi 16 p l).bd fun n l1 ⟨s,v,q,a,b,e,ha,hb'⟩=>(hb l1).bd fun c l2 h2=>Ok.ok ?_
 subst e
 exact zPh (.loop rfl ha.1 hb'.1 h2.1) (zHa.2 ⟨ha.2,zGe hb'.2 h2.2⟩) (by unfold zZa;omega)
theorem zUt {blk:List Tok→R T} (hb:∀ l,Ok (W1 (·=9)) (blk l)) (l:List Tok):Ok (W1 zZa) (zfc blk l):=by
 unfold zfc
 exact Ok.cond (fun _=>if_w hb _ _) fun _=>Ok.cond (fun _=>zSs hb _ _) fun _=>(zwr l).bd fun n l1 h1=>(zZc _).bd fun _ l2 _=>Ok.ok h1
theorem zdn {item:List Tok→R T} (hi:∀ l,Ok (W1 zZa) (item l)):∀ (n:Nat) (l:List Tok),Ok (WL zZa) (zkc item n l)
 | 0,l=>Ok.err
 | n+1,l=>by
  rw [zkc]
  exact Ok.cond (fun _=>Ok.ok ⟨.nil,ztc⟩) (fun _=>(hi _).bd fun a l1 h=>(zdn hi n l1).bd fun xs l2 h2=>Ok.ok ⟨.cons h.1 h2.1,zHa.2 ⟨h.2,h2.2⟩⟩)
theorem zMo:∀ (n:Nat) (l:List Tok),Ok (W1 (·=9)) (zob n l)
 | 0,l=>by
  rw [zob]
  exact (zZc _).bd fun _ _ _=>Ok.err
 | n+1,l=>by
  rw [zob]
  exact (zZc _).bd fun t l1 _=>(zdn (zUt (zMo n)) _ l1).bd fun xs l2 h=>Ok.ok (zPh (.block rfl h.1) h.2 rfl)
theorem zkr (l:List Tok):Ok (W1 (·=8)) (zad l):=by
 unfold zad
 exact Ok.cond (fun _=>zSi _) (fun _=>Ok.ok (zLe (.none (by omega)) rfl))
theorem fn_w (p:Nat) (l:List Tok):Ok (W1 (·=6)) (fnP p l):=by
 unfold fnP
 exact (zZc _).bd fun s l1 _=>(zmk zDs l1).bd fun xs l2 h2=>(zkr l2).bd fun r l3 h3=>(zMo 8 l3).bd fun b l4 h4=>Ok.ok (zPh (.fn rfl h2.1 h3.1 h4.1) (zAf h2.2 (zGe h3.2 h4.2)) rfl)
theorem zwu (l:List Tok):Ok (W1 (fun x=>x=1∨x=6)) (zce l):=by
 unfold zce
 exact (zZc _).bd fun t l1 _=>Ok.cond (fun _=>W1.or (zHt _ _) fun _ h=>.inl h) (fun _=>W1.or (fn_w _ _) fun _ h=>.inr h)
theorem zJp:∀ (n:Nat) (l:List Tok),Ok (WL (fun x=>x=1∨x=6)) (zJd n l)
 | 0,l=>Ok.err
 | n+1,l=>by
  rw [zJd]
  exact Ok.cond (fun _=>Ok.ok ⟨.nil,ztc⟩) (fun _=>(zwu _).bd fun a l1 h=>(zJp n l1).bd fun xs l2 h2=>Ok.ok ⟨.cons h.1 h2.1,zHa.2 ⟨h.2,h2.2⟩⟩)
theorem zdu (l:List Tok):Ok (W1 (·=0)) (zxe l):=by
 unfold zxe
 exact (zJp _ l).bd fun xs l1 h=>Ok.ok (zPh (.unit rfl h.1) h.2 rfl)
theorem zsh:znb.whole:=zOd.2 ⟨.unit rfl .nil,ztc⟩
theorem zji (l:List Tok):(zTc l).1.kind=0∧(zTc l).1.whole:=by
 unfold zTc
 cases hu:zxe l with
 | error q=>exact ⟨rfl,zsh⟩
 | ok q =>
  have h:=zdu l q.1 q.2 hu
  show ((if 4096<q.1.size then (znb,0,22) else (q.1,0,0)):T × Nat × Int).1.kind=0∧T.whole ((if 4096<q.1.size then (znb,0,22) else (q.1,0,0)):T × Nat × Int).1
  split
  ·exact ⟨rfl,zsh⟩
  ·exact h
theorem zwi (s:ByteArray):(zFb s).1.kind=0∧(zFb s).1.whole:=by
 unfold zFb
 cases zHc s with
 | error q=>exact ⟨rfl,zsh⟩
 | ok ts=>exact zji ts
end Go.Proofs.YthdbmgijpelecaaGreatDoor
