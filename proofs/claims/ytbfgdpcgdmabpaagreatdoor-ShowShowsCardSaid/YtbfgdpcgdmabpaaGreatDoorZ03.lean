/- How great a tree is that was read: no greater than twice the tokens that it was read from. Nothing of the program is walked here. The contract of lex.Tokens in a world that holds the tables of lex: it returns what the plain account says, in new memory, and changes nothing that was there. -/
import Derived.Test.YtbfgdpcgdmabpaaGreatDoorZ02
import Derived.Deep.LoopGhost
import Derived.WalkMore
namespace Go.Proofs.YtbfgdpcgdmabpaaGreatDoor
set_option maxHeartbeats 1000000
section
open Go.RowKit
def Ok {α:Type} (G:α→List Tok→Prop) (r:R α):Prop:=∀ a l,r=.ok (a,l)→G a l
section
variable {α β:Type} {G:α→List Tok→Prop} {H:β→List Tok→Prop}
theorem Ok.bd {r:R α} {f:α→List Tok→R β} (hr:Ok G r) (hf:∀ a l,G a l→Ok H (f a l)):Ok H (bd r f):=by
 intro b l h
 cases hq:r with
 | error e=>rw [zka hq] at h;cases h
 | ok q =>
  obtain ⟨a,l1⟩:=q
  rw [zha hq] at h
  exact hf a l1 (hr a l1 hq) b l h
theorem Ok.cond {b:Bool} {x y:R α} (hx:b=true→Ok G x) (hy:b=false→Ok G y):Ok G (bif b then x else y):=by
 cases b
 ·exact hy rfl
 ·exact hx rfl
theorem Ok.ok {a:α} {l:List Tok} (h:G a l):Ok G (.ok (a,l)):=by intro b l' e;cases e;exact h
theorem Ok.err {e:Nat × Int}:Ok G (.error e:R α):=by intro b l' h;cases h
theorem Ok.mono {G':α→List Tok→Prop} {r:R α} (h:Ok G r) (hg:∀ a l,G a l→G' a l):Ok G' r:=fun a l e=>hg a l (h a l e)
end
theorem Ok.sum {G:T→List Tok→Prop} {s:Option (Int × Int)} {a:R T} {f:Int→Int→R T} (ha:s=none→Ok G a) (hf:∀ k x,s=some (k,x)→Ok G (f k x)):Ok G (zTs s a f):=by
 cases s with
 | none=>exact ha rfl
 | some q=>exact hf q.1 q.2 rfl
def Sz (c:Nat) (l:List Tok) (t:T) (l':List Tok):Prop:=t.size+2 * l'.length≤2 * l.length+c
def SzL (c:Nat) (l:List Tok) (ts:List T) (l':List Tok):Prop:=sizes ts+2 * l'.length≤2 * l.length+c
def Sh {α:Type} (l:List Tok) (_:α) (l':List Tok):Prop:=l'.length+1≤l.length
theorem size_mk (k:Int) (s:ByteArray) (n:Int) (p:Nat) (ks:List T):(T.mk k s n p ks).size=1+sizes ks:=by rw [T.size]
theorem zla:sizes []=0:=by rw [sizes]
theorem zna (t:T) (ts:List T):sizes (t :: ts)=t.size+sizes ts:=by rw [sizes]
theorem zCc:∀ a b:List T,sizes (a++b)=sizes a+sizes b
 | [],b=>by simp [zla]
 | t :: ts,b=>by rw [List.cons_append,zna,zna,zCc ts b];omega
theorem znh (v:Int) (t:T):(t.zkc v).size=t.size:=by cases t;simp [T.zkc,size_mk]
theorem zQg (t b:T):(t.snoc b).size=t.size+b.size:=by cases t;simp [T.snoc,size_mk,zCc,zna,zla];omega
theorem zUg {l:List Tok} {s:ByteArray} (h:isT (hdT l) s=true) (hs:0<s.size):0<l.length:=by
 cases l with
 | nil =>
  have h1:=beq_iff_eq.1 (show ((zNb.text).toList == s.toList)=true from h)
  rw [ByteArray.toList_eq,ByteArray.toList_eq] at h1
  have h2:=congrArg List.length h1
  simp [zNb] at h2
  have:s.data.size=s.size:=rfl
  omega
 | cons t r=>simp
theorem zlo {l:List Tok} {k:Nat} (h:((hdT l).kind == k)=true) (hk:0<k):0<l.length:=by
 cases l with
 | nil=>have:=beq_iff_eq.1 h;simp [hdT,zNb] at this;omega
 | cons t r=>simp
theorem zab {ss:List ByteArray} (l:List Tok) (hs:∀ s∈ss,0<s.size):Ok (Sh l) (zqa ss l):=by
 unfold zqa
 refine Ok.cond (fun h=>Ok.ok ?_) (fun _=>Ok.err)
 obtain ⟨s,hm,h1⟩:=List.any_eq_true.1 h
 have:=zUg h1 (hs s hm)
 unfold Sh
 simp only [List.length_tail]
 omega
theorem zDm {k:Nat} (hk:0<k) (l:List Tok):Ok (Sh l) (zNf k l):=by
 unfold zNf
 refine Ok.cond (fun h=>Ok.ok ?_) (fun _=>Ok.err)
 have:=zlo h hk
 unfold Sh
 simp only [List.length_tail]
 omega
theorem zgd (l:List Tok):Ok (Sh l) (zFc l):=by unfold zFc;exact (zDm (by omega) l).bd fun _ _ h=>Ok.ok h
theorem zZd (l:List Tok):Ok (Sh l) (zJb l):=by unfold zJb;exact (zDm (by omega) l).bd fun _ _ h=>Ok.ok h
theorem zbc (l:List Tok):Ok (Sz 0 l) (zra l):=by
 unfold zra
 exact (zgd l).bd fun s l1 h=>Ok.ok (by unfold Sz Sh at *;rw [size_mk,zla];omega)
theorem zsf (l:List Tok):Ok (Sz 0 l) (zGa l):=by
 unfold zGa
 refine Ok.cond (fun _=>(zZd _).bd fun s l1 h=>Ok.ok ?_) (fun _=>(zZd _).bd fun s l1 h=>Ok.ok ?_)
 ·unfold Sz Sh at *;rw [size_mk,zla];simp only [List.length_tail] at h;omega
 ·unfold Sz Sh at *;rw [size_mk,zla];omega
theorem zxe (l:List Tok):Ok (Sz 0 l) (zOb l):=by
 unfold zOb
 refine Ok.cond (fun _=>(zbc l).bd fun n l1 h=>Ok.sum (fun _=>Ok.ok h) fun k x _=>(zZd _).bd fun v l2 h2=>Ok.ok ?_) (fun _=>zsf l)
 unfold Sz Sh at *;rw [znh];simp only [List.length_tail] at h2;omega
theorem zwk {item:List Tok→R T} (hi:∀ l,Ok (Sz 0 l) (item l)):∀ (n:Nat) (l:List Tok),Ok (SzL 0 l) (zUe item n l)
 | 0,l=>Ok.err
 | n+1,l=>by
  rw [zUe]
  refine Ok.cond (fun _=>(hi _).bd fun a l1 h=>(zwk hi n l1).bd fun xs l2 h2=>Ok.ok ?_) (fun _=>Ok.ok (by unfold SzL;rw [zla];omega))
  unfold SzL Sz at *;rw [zna];simp only [List.length_tail] at h;omega
theorem zOj {item:List Tok→R T} (hi:∀ l,Ok (Sz 0 l) (item l)) (l:List Tok):Ok (SzL 0 l) (zKd item l):=by
 unfold zKd
 refine (hi l).bd fun a l1 h=>(zwk hi _ l1).bd fun xs l2 h2=>Ok.ok ?_
 unfold SzL Sz at *;rw [zna];omega
theorem zJf {item:List Tok→R T} (hi:∀ l,Ok (Sz 0 l) (item l)) (l:List Tok):Ok (fun xs l'=>sizes xs+2 * l'.length+2≤2 * l.length) (zkb item l):=by
 unfold zkb
 refine (zab l (by decide)).bd fun _ l1 h=>Ok.cond (fun _=>Ok.ok ?_) (fun _=>(zOj hi l1).bd fun xs l2 h2=>(zab l2 (by decide)).bd fun _ l3 h3=>Ok.ok ?_)
 ·unfold Sh at *;rw [zla];simp only [List.length_tail];omega
 ·unfold SzL Sh at *;omega
theorem ztk (l:List Tok):Ok (fun a l'=>a.size+2 * l'.length+4≤2 * l.length) (zqc l):=by
 unfold zqc
 refine (zab l (by decide)).bd fun _ l1 h=>(zxe l1).bd fun a l2 h2=>(zab l2 (by decide)).bd fun _ l3 h3=>Ok.ok ?_
 unfold Sz Sh at *;omega
theorem zJp {l:List Tok} {q:Int × Int} (h:sumP l=some q):0<l.length:=by
 unfold sumP at h
 cases h1:isT (hdT l) (bs [43]) with
 | true=>exact zUg h1 (by decide)
 | false =>
  rw [h1] at h
  cases h2:isT (hdT l) (bs [45]) with
  | true=>exact zUg h2 (by decide)
  | false=>rw [h2] at h;cases h
theorem zjq (n:T) (l:List Tok):Ok (Sz 0 l) (zle n l):=by
 unfold zle
 refine (zJf zxe l).bd fun xs l1 h=>Ok.ok ?_
 unfold Sz;rw [size_mk];omega
theorem zgt (p:Nat) (l:List Tok):Ok (Sz 0 l) (zfi p l):=by
 unfold zfi
 refine Ok.cond (fun _=>(zgd _).bd fun s l1 h=>Ok.ok ?_) (fun _=>(zgd _).bd fun s l1 h=>Ok.ok ?_)
 ·unfold Sz Sh at *;rw [size_mk,zla];simp only [List.length_tail] at h;omega
 ·unfold Sz Sh at *;rw [size_mk,zla];omega
theorem zFj (l:List Tok):Ok (Sz 0 l) (zAa l):=by
 unfold zAa
 refine (zbc l).bd fun n l1 h=>Ok.cond (fun _=>(ztk l1).bd fun a l2 h2=>Ok.ok ?_) fun _=>Ok.cond (fun _=>(zjq n l1).mono fun a l2 h2=>?_) fun _=>Ok.sum (fun _=>Ok.ok h) fun k x hs=>Ok.cond (fun _=>(zbc _).bd fun m l2 h2=>Ok.ok ?_) (fun _=>(zZd _).bd fun v l2 h2=>Ok.ok ?_)
 ·unfold Sz at *;rw [size_mk,zna,zla];omega
 ·unfold Sz at *;omega
 ·have:=zJp hs
  unfold Sz at *;rw [size_mk,zna,zna,zla];simp only [List.length_tail] at h2;omega
 ·unfold Sz Sh at *;rw [znh];simp only [List.length_tail] at h2;omega
theorem zlq (l:List Tok):Ok (Sz 0 l) (zzc l):=by
 unfold zzc
 refine Ok.cond (fun _=>(zZd _).bd fun v l1 h=>Ok.ok ?_) fun _=>Ok.cond (fun _=>(zgd _).bd fun s l1 h=>Ok.ok ?_) fun _=>Ok.cond (fun _=>(zgt _ _).mono fun a l1 h=>?_) fun _=>Ok.cond (fun _=>zFj l) fun _=>zsf l
 ·unfold Sz Sh at *;rw [size_mk,zla];simp only [List.length_tail] at h;omega
 ·unfold Sz Sh at *;rw [size_mk,zla];simp only [List.length_tail] at h;omega
 ·unfold Sz at *;simp only [List.length_tail] at h;omega
theorem zYf (k:Int) (p:Nat) (l:List Tok):Ok (fun t l'=>t.size+2 * l'.length+1≤2 * l.length) (zVa k p l):=by
 unfold zVa
 refine (zxe l).bd fun a l1 h1=>(zab l1 (by decide)).bd fun c l2 h2=>(zxe l2).bd fun b l3 h3=>Ok.ok ?_
 unfold Sz Sh at *;rw [size_mk,zna,zna,zla];omega
theorem zWp (l:List Tok):Ok (Sz 0 l) (zCe l):=by
 unfold zCe
 exact (zYf 4 _ l).mono fun t l' h=>by unfold Sz;omega
theorem zio (l:List Tok):Ok (Sz 0 l) (zjc l):=by
 unfold zjc
 refine (zgd l).bd fun s l1 h=>Ok.cond (fun hc=>(zbc _).bd fun a l2 h2=>(zab l2 (by decide)).bd fun _ l3 h3=>Ok.ok ?_) (fun _=>Ok.ok ?_)
 ·unfold Sz Sh at *;rw [size_mk,zna,zla];simp only [List.length_tail] at h2;omega
 ·unfold Sz Sh at *;rw [size_mk,zla];omega
theorem ziq (l:List Tok):Ok (Sz 0 l) (zTd l):=by
 unfold zTd
 refine (zab l (by decide)).bd fun t l1 h=>Ok.cond (fun _=>Ok.ok ?_) (fun _=>(zbc l1).bd fun a l2 h2=>Ok.ok ?_)
 ·unfold Sz Sh at *;rw [size_mk,zla];omega
 ·unfold Sz Sh at *;rw [size_mk,zna,zla];omega
theorem ztg (l:List Tok):Ok (Sz 0 l) (zMa l):=by
 unfold zMa
 refine (zab l (by decide)).bd fun t l1 h=>Ok.cond (fun _=>(zbc l1).bd fun a l2 h2=>Ok.ok ?_) (fun _=>Ok.ok ?_)
 ·unfold Sz Sh at *;rw [size_mk,zna,zla];omega
 ·unfold Sz Sh at *;rw [size_mk,zla];omega
theorem zuq (l:List Tok):Ok (Sz 0 l) (zGd l):=by
 unfold zGd
 refine Ok.cond (fun hc=>Ok.cond (fun _=>(zbc _).bd fun a l2 h2=>Ok.ok ?_) (fun _=>(zbc _).bd fun a l2 h2=>Ok.ok ?_)) (fun _=>ztg l)
 ·have:=zUg hc (by decide)
  unfold Sz at *;rw [size_mk,zna,zla];simp only [List.length_tail] at h2;omega
 ·have:=zUg hc (by decide)
  unfold Sz at *;rw [size_mk,zna,zla];simp only [List.length_tail] at h2;omega
theorem zoo (l:List Tok):Ok (Sz 0 l) (zBc l):=by
 unfold zBc
 refine (zgd l).bd fun s l1 h=>(zab l1 (by decide)).bd fun _ l2 h2=>(zuq l2).bd fun a l3 h3=>Ok.ok ?_
 unfold Sz Sh at *;rw [size_mk,zna,zla];omega
theorem ztm (l:List Tok):Ok (SzL 0 l) (zUc l):=by
 unfold zUc
 refine Ok.cond (fun _=>(zOj zio _).bd fun xs l1 h=>(zab l1 (by decide)).bd fun _ l2 h2=>Ok.ok ?_) (fun _=>Ok.ok ?_)
 ·unfold SzL Sh at *;simp only [List.length_tail] at h;omega
 ·unfold SzL;rw [zla];omega
theorem zZn (l:List Tok):Ok (SzL 0 l) (zbd l):=by
 unfold zbd
 refine Ok.cond (fun _=>(zOj zWp _).mono fun xs l1 h=>?_) (fun _=>Ok.ok ?_)
 ·unfold SzL at *;simp only [List.length_tail] at h;omega
 ·unfold SzL;rw [zla];omega
theorem zyq (p:Nat) (l:List Tok):Ok (Sz 0 l) (zMb p l):=by
 unfold zMb
 refine (zgd l).bd fun s l1 h=>(ziq l1).bd fun a l2 h2=>(ztm l2).bd fun ys l3 h3=>(zZn l3).bd fun zs l4 h4=>(zab l4 (by decide)).bd fun _ l5 h5=>Ok.ok ?_
 unfold Sz SzL Sh at *;rw [size_mk,zna,zCc];omega
theorem zEn (k:Int) (p:Nat) (l:List Tok):Ok (Sz 0 l) (zHd k p l):=by
 unfold zHd
 refine (zgd l).bd fun s l1 h=>(zab l1 (by decide)).bd fun _ l2 h2=>(zZd l2).bd fun v l3 h3=>(zab l3 (by decide)).bd fun _ l4 h4=>Ok.ok ?_
 unfold Sz Sh at *;rw [size_mk,zla];omega
theorem zGm (p:Nat) (l:List Tok):Ok (Sz 1 l) (zZb p l):=by
 unfold zZb
 refine Ok.cond (fun _=>Ok.ok ?_) (fun _=>(zxe l).bd fun a l1 h=>Ok.ok ?_)
 ·unfold Sz;rw [size_mk,zla];omega
 ·unfold Sz at *;rw [size_mk,zna,zla];omega
theorem zOl (l:List Tok):Ok (fun n l'=>n.size=1∧l'.length+1≤l.length) (zra l):=by
 unfold zra
 exact (zgd l).bd fun s l1 h=>Ok.ok ⟨by rw [size_mk,zla],h⟩
theorem zSj (n:T) (l:List Tok):Ok (fun t l'=>t.size+2 * l'.length+1≤2 * l.length) (zle n l):=by
 unfold zle
 refine (zJf zxe l).bd fun xs l1 h=>Ok.ok ?_
 rw [size_mk];omega
theorem zDo (l:List Tok):Ok (Sz 0 l) (zxb l):=by
 unfold zxb
 refine (zOl l).bd fun n l1 h=>Ok.cond (fun _=>(zSj n l1).bd fun c l2 h2=>Ok.ok ?_) fun _=>Ok.cond (fun _=>(ztk l1).bd fun i l2 h2=>(zab l2 (by decide)).bd fun _ l3 h3=>(zxe l3).bd fun b l4 h4=>Ok.ok ?_) fun _=>(zab l1 (by decide)).bd fun _ l2 h2=>(zlq l2).bd fun x l3 h3=>Ok.ok ?_
 ·unfold Sz;rw [size_mk,zna,zla];omega
 ·unfold Sz Sh at *;rw [size_mk,zna,zna,zla];omega
 ·unfold Sz Sh at *;rw [size_mk,zna,zla];omega
theorem zKm (l:List Tok):Ok (Sz 0 l) (zHa l):=by
 unfold zHa
 refine Ok.cond (fun _=>zDo l) fun _=>Ok.cond (fun _=>(zgd _).bd fun s l1 h=>Ok.ok ?_) fun _=>Ok.cond (fun _=>(zEn _ _ _).mono fun a l1 h=>?_) fun _=>Ok.cond (fun _=>(zEn _ _ _).mono fun a l1 h=>?_) fun _=>Ok.cond (fun hc=>(zGm _ _).mono fun a l1 h=>?_) fun _=>Ok.cond (fun hc=>Ok.ok ?_) fun _=>Ok.cond (fun _=>(zgd _).bd fun s l1 h=>(zJf zxe l1).bd fun xs l2 h2=>Ok.ok ?_) fun _=>Ok.err
 ·unfold Sz Sh at *;rw [size_mk,zla];simp only [List.length_tail] at h;omega
 ·unfold Sz at *;simp only [List.length_tail] at h;omega
 ·unfold Sz at *;simp only [List.length_tail] at h;omega
 ·have:=zUg hc (by decide)
  unfold Sz at *;simp only [List.length_tail] at h;omega
 ·have:=zUg hc (by decide)
  unfold Sz;rw [size_mk,zla];simp only [List.length_tail];omega
 ·unfold Sz Sh at *;rw [size_mk];simp only [List.length_tail] at h;omega
theorem zer {blk:List Tok→R T} (hb:∀ l,Ok (Sz 0 l) (blk l)) (p:Nat) (l:List Tok):Ok (Sz 1 l) (zSf blk p l):=by
 unfold zSf
 refine Ok.cond (fun _=>(hb _).mono fun a l1 h=>?_) (fun _=>Ok.ok ?_)
 ·unfold Sz at *;simp only [List.length_tail] at h;omega
 ·unfold Sz;rw [size_mk,zla];omega
theorem if_sz {blk:List Tok→R T} (hb:∀ l,Ok (Sz 0 l) (blk l)) (p:Nat) (l:List Tok):Ok (Sz 0 l) (ifP blk p l):=by
 unfold ifP
 refine (zYf _ _ l).bd fun n l1 h=>(hb l1).bd fun b l2 h2=>(zer hb p l2).bd fun c l3 h3=>Ok.ok ?_
 unfold Sz at *;rw [zQg,zQg];omega
theorem zYo {blk:List Tok→R T} (hb:∀ l,Ok (Sz 0 l) (blk l)) (p:Nat) (l:List Tok):Ok (Sz 0 l) (zqe blk p l):=by
 unfold zqe
 refine (zYf _ _ l).bd fun n l1 h=>(hb l1).bd fun b l2 h2=>Ok.ok ?_
 unfold Sz at *;rw [zQg];omega
theorem zvq {blk:List Tok→R T} (hb:∀ l,Ok (Sz 0 l) (blk l)) (l:List Tok):Ok (Sz 0 l) (zEc blk l):=by
 unfold zEc
 refine Ok.cond (fun _=>(if_sz hb _ _).mono fun a l1 h=>?_) fun _=>Ok.cond (fun _=>(zYo hb _ _).mono fun a l1 h=>?_) fun _=>(zKm l).bd fun n l1 h=>(zab l1 (by decide)).bd fun _ l2 h2=>Ok.ok ?_
 ·unfold Sz at *;simp only [List.length_tail] at h;omega
 ·unfold Sz at *;simp only [List.length_tail] at h;omega
 ·unfold Sz Sh at *;omega
theorem zSi {item:List Tok→R T} (hi:∀ l,Ok (Sz 0 l) (item l)):∀ (n:Nat) (l:List Tok),Ok (SzL 0 l) (zOc item n l)
 | 0,l=>Ok.err
 | n+1,l=>by
  rw [zOc]
  refine Ok.cond (fun _=>Ok.ok ?_) (fun _=>(hi l).bd fun a l1 h=>(zSi hi n l1).bd fun xs l2 h2=>Ok.ok ?_)
  ·unfold SzL;rw [zla];simp only [List.length_tail];omega
  ·unfold SzL Sz at *;rw [zna];omega
theorem zJk:∀ (n:Nat) (l:List Tok),Ok (Sz 0 l) (zhb n l)
 | 0,l=>by rw [zhb];exact (zab l (by decide)).bd fun _ _ _=>Ok.err
 | n+1,l=>by
  rw [zhb]
  refine (zab l (by decide)).bd fun t l1 h=>(zSi (zvq (zJk n)) _ l1).bd fun xs l2 h2=>Ok.ok ?_
  unfold SzL Sz Sh at *;rw [size_mk];omega
theorem zpm (l:List Tok):Ok (Sz 1 l) (zWc l):=by
 unfold zWc
 refine Ok.cond (fun _=>(ztg _).mono fun a l1 h=>?_) (fun _=>Ok.ok ?_)
 ·unfold Sz at *;simp only [List.length_tail] at h;omega
 ·unfold Sz;rw [size_mk,zla];omega
theorem fn_sz (p:Nat) (l:List Tok):Ok (Sz 0 l) (fnP p l):=by
 unfold fnP
 refine (zgd l).bd fun s l1 h=>(zJf zoo l1).bd fun xs l2 h2=>(zpm l2).bd fun r l3 h3=>(zJk 8 l3).bd fun b l4 h4=>Ok.ok ?_
 unfold Sz Sh at *;rw [size_mk,zCc,zna,zna,zla];omega
theorem zVp (l:List Tok):Ok (Sz 0 l) (zLd l):=by
 unfold zLd
 refine (zab l (by decide)).bd fun t l1 h=>Ok.cond (fun _=>(zyq _ _).mono fun a l2 h2=>?_) (fun _=>(fn_sz _ _).mono fun a l2 h2=>?_)
 ·unfold Sz Sh at *;omega
 ·unfold Sz Sh at *;omega
theorem zxk:∀ (n:Nat) (l:List Tok),Ok (SzL 0 l) (zbe n l)
 | 0,l=>Ok.err
 | n+1,l=>by
  rw [zbe]
  refine Ok.cond (fun _=>Ok.ok ?_) (fun _=>(zVp l).bd fun a l1 h=>(zxk n l1).bd fun xs l2 h2=>Ok.ok ?_)
  ·unfold SzL;rw [zla];omega
  ·unfold SzL Sz at *;rw [zna];omega
theorem zzr {l l':List Tok} {t:T} (h:zwd l=.ok (t,l')):t.size≤2 * l.length+1:=by
 have h1:Ok (Sz 1 l) (zwd l):=by
  unfold zwd
  refine (zxk _ l).bd fun xs l1 h=>Ok.ok ?_
  unfold SzL at h;unfold Sz;rw [size_mk];omega
 have h2:=h1 t l' h
 unfold Sz at h2
 omega
end
section
open Go.RowKit
def cellsOf (ts:List Tok):List Value:=ts.flatMap zya
def zRp (r:zEf) (w:World) (e:Ending) (w':World):Prop :=
 match r with
 | .error (p,c)=>e=.returned (.tuple #[.slice none 0 0,.int .i64 p,.int .i64 c])∧Below w.heap.size w w'
 | .ok ts=>∃ v,e=.returned (.tuple #[v,.int .i64 0,.int .i64 0])∧w'.ownsRow w.heap.size 119 4 v ts.length (cellsOf ts)∧Below w.heap.size w w'
def zes (s:ByteArray) (w:World) (g:Nat) (v a:Value) (wr:World):Prop :=
 ∃ (k:Nat) (ts:List Tok),k≤s.size∧s.size≤k+g∧a=.int .i64 k∧wr.ownsRow w.heap.size 119 4 v ts.length (cellsOf ts)∧Below w.heap.size w wr∧ts.length≤k∧lexFrom s 0=more ts (lexFrom s k)
theorem Tryz.zUl:(Tryz.prog.info? 119).map (fun i=>(i.zero,i.size,i.bytes))=some (some (.agg #[.int .i64 0,.string ⟨#[]⟩,.int .i64 0,.int .i64 0]),4,40):=by kernel_rfl
theorem zEh {a w:World} (h:Below a.heap.size a w) (row:Option Nat):a.grownBy w row:=⟨h.os,h.tape,h.output,h.size,fun i hi _=>h.block i hi⟩
theorem own_below {a w:World} {base:Nat} {e:TypeId} {size n:Nat} {v:Value} {xs:List Value} (h:a.ownsRow base e size v n xs) (hb:Below a.heap.size a w):w.ownsRow base e size v n xs:=by
 refine h.kept (zEh hb none) ?_
 cases v.ownBlock
 ·exact .inl rfl
 ·exact .inr (by simp)
theorem zjg (ts:List Tok) (t:Tok):cellsOf (ts++[t])=cellsOf ts++zya t:=by simp [cellsOf]
theorem zdd (t:Tok):∀ u∈zya t,u.oneCell'=true:=by
 intro u hu
 simp only [zya,List.mem_cons,List.not_mem_nil,or_false] at hu
 rcases hu with rfl|rfl|rfl|rfl<;>rfl
theorem zVg (t:Tok) (w:World) (e:TypeId) (b:Nat) (hb:b=w.heap.size):∀ j u,(zya t)[j]?=some u →
  (w.alloc (.cells #[.int .i64 t.kind,.string t.text,.int .i64 t.num,.int .i64 t.place] e)).cell? ((⟨b,0,none⟩:Addr).add j)=some u:=by
 intro j u hj
 subst hb
 rw [Addr.add_mid,Nat.zero_add,cell_of_row _ _ _ _ _ _ (heap_alloc_new w _)]
 simpa [zya] using hj
theorem zkn (w:World):(isAgg 5).run Tryz.prog w=.ok false w:=by
 unfold isAgg
 rw [Sem.run_bind,run_underlying Tryz.underlying5 w]
 rfl
theorem zWk:(Tryz.prog.info? 5).map (·.size)=some 1:=by kernel_rfl
theorem zcs (w:World):(Instr.index 114 (.agg #[.int .u8 32,.int .u8 10]) (.int .i64 0)).run Tryz.prog w=.ok (.int .u8 32) w :=
 zsd (P:=Tryz.prog) (cs:=[.int .u8 32,.int .u8 10]) (k:=0) Tryz.underlying114 zkn zWk (by omega) rfl w
theorem zps (w:World):(Instr.index 114 (.agg #[.int .u8 32,.int .u8 10]) (.int .i64 1)).run Tryz.prog w=.ok (.int .u8 10) w :=
 zsd (P:=Tryz.prog) (cs:=[.int .u8 32,.int .u8 10]) (k:=1) Tryz.underlying114 zkn zWk (by omega) rfl w
theorem zck {b:UInt8} {n:Nat} (h:((b.toNat:Int) == (n:Int))=true):b=n.toUInt8:=by
 have h1:b.toNat=n:=by have:=beq_iff_eq.1 h;omega
 rw [← h1]
 simp
theorem zqk {b c:UInt8} (h:((b.toNat:Int) == (c.toNat:Int))=false):¬ b=c:=by
 intro e
 subst e
 simp at h
theorem zSn {b:UInt8} (h:((b.toNat:Int) == 32)=true):znc b=true:=by
 have:=zck (n:=32) h
 subst this
 rfl
theorem zto {b:UInt8} (h:((b.toNat:Int) == 10)=true):znc b=true:=by
 have:=zck (n:=10) h
 subst this
 rfl
theorem zTn {b:UInt8} (h:((b.toNat:Int) == 32)=false) (h2:((b.toNat:Int) == 10)=false):znc b=false:=by
 have h1:=zqk (c:=32) h
 have h3:=zqk (c:=10) h2
 simp [znc,h1,h3]
theorem zVi {s:ByteArray} {k:Nat} {e:Int} (h:zjd s k=.error e):11≤e∧e≤13:=by
 have hs:∀ n,zjb s k n=.error e→e=11:=by
  intro n
  induction n with
  | zero=>unfold zjb zze;split<;>intro h<;>cases h;rfl
  | succ n ih =>
          unfold zjb;split
          ·intro h;cases h
          ·exact ih
 unfold zjd at h
 split at h
 ·unfold zlc at h
  split at h
  ·cases h;decide
  ·split at h<;>cases h
 ·split at h
  ·unfold zid at h
   split at h<;>cases h
   decide
  ·rw [hs 3 h];decide
theorem zcg (s:ByteArray) (w:World) (hs:s.size≤maxLen) (ht:Tabs w) :
  Calls Tryz.prog 18 #[.string s] w fun e w'=>zRp (zJc s) w e w':=by
 by_cases hbig:16384<s.size
 ·have hbig':16384<(s.size:Int):=by omega
  have hr:zJc s=.error (0,10):=by unfold zJc;rw [if_pos hbig]
  rw [hr]
  clear hr
  go_enter Tryz.func18,Tryz.ntmps18
  go_wp2
  go_step3
  go_wp2
  (try rw [Exit.noGoto_ret])
  go_ret3
  exact ⟨rfl,Below.refl _ _⟩
 have hr:zJc s=lexFrom s 0:=by unfold zJc;rw [if_neg hbig]
 rw [hr]
 clear hr
 have hbig':¬ 16384<(s.size:Int):=by omega
 go_enter Tryz.func18,Tryz.ntmps18
 go_wp2
 go_step3
 go_wp2
 go_step3
 go_wp2
 go_loopg [5,6] s.size (fun g v a wr=>zes s w g v a wr)
 case atStart=>exact ⟨0,[],by omega,by omega,rfl,World.ownsRow_nil _ _ _ _,Below.refl _ _,by simp,(zuo _).symm⟩
 case round =>
  obtain ⟨k,ts,hk,hg,rfl,hown,hbel,hlen,hres⟩:=hrel
  have HR:=zh hres
  have htr:=ht.below hbel ht.size
  have hb0:=htr.b0
  have hb1:=htr.b1
  have HOWN:=zh hown
  have HBEL:=zh hbel
  have HT:=zh htr
  clear hres hown hbel htr
  by_cases hlt:k<s.size
  ·have hi0:=zcs
   have hi1:=zps
   cases h32:((s[k].toNat:Int) == 32)
   ·cases h10:((s[k].toNat:Int) == 10)
    ·cases h35:((s[k].toNat:Int) == 35)
     ·have hnb:znc (bat s k)=false:=by rw [zMc s k hlt];exact zTn h32 h10
      have hnr:¬ bat s k=35:=by rw [zMc s k hlt];exact zqk h35
      cases hta:zjd s k with
      | error e0 =>
       have HE:=zh (zem hlt hnb hnr hta)
       have hte:=zVi hta
       have HA:=zh hta
       clear hta hnb hnr
       have hne:(e0 != 0)=true:=by rw [bne_iff_ne];omega
       go_wp2_with fail
       refine wp_loop_rounds 3 ?_
       rw [rounds_succ]
       go_wp2_with fail
       rw [rounds_succ]
       go_wp2_with fail
       rw [rounds_succ]
       go_wp2_with fail
       refine (zXg s k _ hs hlt HT.out).mono ?_
       rintro e w1 ⟨rfl,hb⟩
       rw [HA.out]
       unfold zkp errR zHb
       have HB:=zh (HBEL.out.trans (hb.mono HBEL.out.size))
       obtain ⟨hc,hf⟩:=zJl hb
       clear hb
       go_wp2
       (try rw [Exit.noGoto_ret])
       go_ret3
       rw [HR.out,HE.out]
       refine ⟨rfl,?_⟩
       have hz:w.heap.size≤w1.heap.size:=HB.out.size
       exact HB.out.alloc hz _
      | ok t =>
       have hsz:=zYd hlt hta
       have HE:=zh (zlm hlt hnb hnr hta)
       have HA:=zh hta
       clear hta hnb hnr
       go_wp2_with fail
       refine wp_loop_rounds 3 ?_
       rw [rounds_succ]
       go_wp2_with fail
       rw [rounds_succ]
       go_wp2_with fail
       rw [rounds_succ]
       go_wp2_with fail
       refine (zXg s k _ hs hlt HT.out).mono ?_
       rintro e w1 ⟨rfl,hb⟩
       rw [HA.out]
       unfold zkp okR zHb
       have HB:=zh (HBEL.out.trans (hb.mono HBEL.out.size))
       have HO:=zh (own_below HOWN.out hb)
       obtain ⟨hc,hf⟩:=zJl hb
       have hz:w.heap.size≤w1.heap.size:=HB.out.size
       clear hb
       obtain ⟨i0,hi,hz0,hz1,hz2⟩:=info_parts Tryz.zUl
       go_wp2_with (at_builtin;refine wpList_append_own _ rfl (.tmp 47) (.tmp 49) 60 rfl w.heap.size 119 i0 _ 4 40 Tryz.underlying60 hi hz0 hz1 hz2 rfl (by decide) _ _ _ rfl ((HO.out.alloc _).alloc _) ⟨w1.heap.size+1,0,none⟩ 1 1 (zya t) rfl rfl ?c1 (zdd t) ?c3 ?c4 ?c5 ?_)
       case c1=>exact zVg t _ _ _ (by simp)
       case c3=>unfold maxLen;omega
       case c4=>omega
       case c5=>simp;omega
       intro v' w2 hown2 hgrow2 _
       have HO2:=zh hown2
       have HG2:=zh (((HB.out.alloc hz _).alloc (by simp;omega) _).grown hgrow2 (by simp;omega) (fun j hj=>(HO.out.lt j hj).1))
       have htc:w2.cell? ⟨w1.heap.size,1,none⟩=some (.string t.text) :=
        hgrow2.cell ((World.cell?_alloc_past _ _ _ (by simp)).trans (cell_of_row _ _ _ _ _ _ (heap_alloc_new w1 _))) (fun h=>absurd ((HO.out.lt _ h.symm).2) (Nat.lt_irrefl _))
       clear hown2 hgrow2
       have hsz1:=hsz.1
       have hsz2:=hsz.2
       have hbs:s.size≤16384:=by omega
       clear hsz
       go_wp2
       go_roundg (gk-1)
       case measure=>omega
       case rel=>exact ⟨k+t.text.size,ts++[t],by omega,by omega,by go_num,by rw [zjg];simpa using HO2.out,HG2.out,by simp;omega,HR.out.trans (by rw [HE.out,zHm])⟩
     ·have hnr:bat s k=35:=by rw [zMc s k hlt];exact zck h35
      have HE:=zh (zQh hlt hnr)
      have hge:=zse hlt hnr
      have hle:=zSd zil s k (by omega)
      go_wp2_with fail
      refine wp_loop_rounds 3 ?_
      rw [rounds_succ]
      go_wp2_with fail
      rw [rounds_succ]
      go_wp2_with fail
      rw [rounds_succ]
      go_wp2_with fail
      refine (zei s k wr hs (by omega) (by omega)).mono ?_
      rintro e w' ⟨rfl,rfl⟩
      go_wp2
      go_roundg (gk-1)
      case measure=>omega
      case rel=>exact ⟨endOf zil s k,ts,by omega,by omega,rfl,HOWN.out,HBEL.out,by omega,HR.out.trans (by rw [HE.out])⟩
    ·have HE:=zh (zph hlt (by rw [zMc s k hlt];exact zto h10))
     go_wp2_with fail
     refine wp_loop_rounds 3 ?_
     rw [rounds_succ]
     go_wp2_with fail
     rw [rounds_succ]
     go_wp2_with fail
     go_roundg (gk-1)
     case measure=>omega
     case rel=>exact ⟨k+1,ts,by omega,by omega,by go_num,HOWN.out,HBEL.out,by omega,HR.out.trans (by rw [HE.out])⟩
   ·have HE:=zh (zph hlt (by rw [zMc s k hlt];exact zSn h32))
    go_wp2_with fail
    refine wp_loop_rounds 3 ?_
    rw [rounds_succ]
    go_wp2_with fail
    go_roundg (gk-1)
    case measure=>omega
    case rel=>exact ⟨k+1,ts,by omega,by omega,by go_num,HOWN.out,HBEL.out,by omega,HR.out.trans (by rw [HE.out])⟩
  ·have HE:=zh (zpn (s:=s) (k:=k) (by omega))
   have hz:w.heap.size≤wr.heap.size:=HBEL.out.size
   have hbs:s.size≤16384:=by omega
   obtain ⟨i0,hi,hz0,hz1,hz2⟩:=info_parts Tryz.zUl
   go_wp2_with (at_builtin;refine wpList_append_own _ rfl (.tmp 56) (.tmp 60) 60 rfl w.heap.size 119 i0 _ 4 40 Tryz.underlying60 hi hz0 hz1 hz2 rfl (by decide) _ _ _ rfl (HOWN.out.alloc _) ⟨wr.heap.size,0,none⟩ 1 1 (zya (zrf s)) rfl rfl ?d1 (zdd (zrf s)) ?d3 ?d4 ?d5 ?_)
   case d1=>exact zVg (zrf s) _ _ _ rfl
   case d3=>unfold maxLen;omega
   case d4=>omega
   case d5=>simp;omega
   intro v' w2 hown2 hgrow2 _
   have HO2:=zh hown2
   have HG2:=zh ((HBEL.out.alloc hz _).grown hgrow2 (by simp;omega) (fun j hj=>(HOWN.out.lt j hj).1))
   clear hown2 hgrow2
   go_wp2
   (try rw [Exit.noGoto_ret])
   go_ret3
   rw [HR.out,HE.out]
   exact ⟨v',rfl,by rw [zjg];simpa using HO2.out,HG2.out⟩
end
end Go.Proofs.YtbfgdpcgdmabpaaGreatDoor
