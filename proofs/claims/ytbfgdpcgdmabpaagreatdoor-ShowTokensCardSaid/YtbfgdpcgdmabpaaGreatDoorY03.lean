/- How great a tree is that was read: no greater than twice the tokens that it was read from. Nothing of the program is walked here. The contract of lex.Tokens in a world that holds the tables of lex: it returns what the plain account says, in new memory, and changes nothing that was there. -/
import Derived.Test.YtbfgdpcgdmabpaaGreatDoorY02
import Derived.Deep.LoopGhost
import Derived.WalkMore
namespace Go.Proofs.YtbfgdpcgdmabpaaGreatDoor
set_option maxHeartbeats 1000000
section
open Go.RowKit
def Ok {α:Type} (G:α→List Tok→Prop) (r:R α):Prop:=∀ a l,r=.ok (a,l)→G a l
section
variable {α β:Type} {G:α→List Tok→Prop} {H:β→List Tok→Prop}
theorem Ok.bd {r:R α} {f:α→List Tok→R β} (hr:Ok G r) (hf:∀ a l,G a l→Ok H (f a l)):Ok H (bd r f):=by
 intro b l h
 cases hq:r with
 | error e=>rw [zNa hq] at h;cases h
 | ok q =>
  obtain ⟨a,l1⟩:=q
  rw [zHa hq] at h
  exact hf a l1 (hr a l1 hq) b l h
theorem Ok.cond {b:Bool} {x y:R α} (hx:b=true→Ok G x) (hy:b=false→Ok G y):Ok G (bif b then x else y):=by
 cases b
 ·exact hy rfl
 ·exact hx rfl
theorem Ok.ok {a:α} {l:List Tok} (h:G a l):Ok G (.ok (a,l)):=by intro b l' e;cases e;exact h
theorem Ok.err {e:Nat × Int}:Ok G (.error e:R α):=by intro b l' h;cases h
theorem Ok.mono {G':α→List Tok→Prop} {r:R α} (h:Ok G r) (hg:∀ a l,G a l→G' a l):Ok G' r:=fun a l e=>hg a l (h a l e)
end
theorem Ok.sum {G:T→List Tok→Prop} {s:Option (Int × Int)} {a:R T} {f:Int→Int→R T} (ha:s=none→Ok G a) (hf:∀ k x,s=some (k,x)→Ok G (f k x)):Ok G (zin s a f):=by
 cases s with
 | none=>exact ha rfl
 | some q=>exact hf q.1 q.2 rfl
def Sz (c:Nat) (l:List Tok) (t:T) (l':List Tok):Prop:=t.size+2 * l'.length≤2 * l.length+c
def SzL (c:Nat) (l:List Tok) (ts:List T) (l':List Tok):Prop:=sizes ts+2 * l'.length≤2 * l.length+c
def Sh {α:Type} (l:List Tok) (_:α) (l':List Tok):Prop:=l'.length+1≤l.length
theorem size_mk (k:Int) (s:ByteArray) (n:Int) (p:Nat) (ks:List T):(T.mk k s n p ks).size=1+sizes ks:=by rw [T.size]
theorem zVa:sizes []=0:=by rw [sizes]
theorem zTa (t:T) (ts:List T):sizes (t :: ts)=t.size+sizes ts:=by rw [sizes]
theorem zCd:∀ a b:List T,sizes (a++b)=sizes a+sizes b
 | [],b=>by simp [zVa]
 | t :: ts,b=>by rw [List.cons_append,zTa,zTa,zCd ts b];omega
theorem zyi (v:Int) (t:T):(t.zAc v).size=t.size:=by cases t;simp [T.zAc,size_mk]
theorem zIi (t b:T):(t.snoc b).size=t.size+b.size:=by cases t;simp [T.snoc,size_mk,zCd,zTa,zVa];omega
theorem zEh {l:List Tok} {s:ByteArray} (h:isT (hdT l) s=true) (hs:0<s.size):0<l.length:=by
 cases l with
 | nil =>
  have h1:=beq_iff_eq.1 (show ((zOc.text).toList == s.toList)=true from h)
  rw [ByteArray.toList_eq,ByteArray.toList_eq] at h1
  have h2:=congrArg List.length h1
  simp [zOc] at h2
  have:s.data.size=s.size:=rfl
  omega
 | cons t r=>simp
theorem zKr {l:List Tok} {k:Nat} (h:((hdT l).kind == k)=true) (hk:0<k):0<l.length:=by
 cases l with
 | nil=>have:=beq_iff_eq.1 h;simp [hdT,zOc] at this;omega
 | cons t r=>simp
theorem zIb {ss:List ByteArray} (l:List Tok) (hs:∀ s∈ss,0<s.size):Ok (Sh l) (zSa ss l):=by
 unfold zSa
 refine Ok.cond (fun h=>Ok.ok ?_) (fun _=>Ok.err)
 obtain ⟨s,hm,h1⟩:=List.any_eq_true.1 h
 have:=zEh h1 (hs s hm)
 unfold Sh
 simp only [List.length_tail]
 omega
theorem zNp {k:Nat} (hk:0<k) (l:List Tok):Ok (Sh l) (zCf k l):=by
 unfold zCf
 refine Ok.cond (fun h=>Ok.ok ?_) (fun _=>Ok.err)
 have:=zKr h hk
 unfold Sh
 simp only [List.length_tail]
 omega
theorem zte (l:List Tok):Ok (Sh l) (zdd l):=by unfold zdd;exact (zNp (by omega) l).bd fun _ _ h=>Ok.ok h
theorem zff (l:List Tok):Ok (Sh l) (zVb l):=by unfold zVb;exact (zNp (by omega) l).bd fun _ _ h=>Ok.ok h
theorem zed (l:List Tok):Ok (Sz 0 l) (zYa l):=by
 unfold zYa
 exact (zte l).bd fun s l1 h=>Ok.ok (by unfold Sz Sh at *;rw [size_mk,zVa];omega)
theorem zVg (l:List Tok):Ok (Sz 0 l) (zWa l):=by
 unfold zWa
 refine Ok.cond (fun _=>(zff _).bd fun s l1 h=>Ok.ok ?_) (fun _=>(zff _).bd fun s l1 h=>Ok.ok ?_)
 ·unfold Sz Sh at *;rw [size_mk,zVa];simp only [List.length_tail] at h;omega
 ·unfold Sz Sh at *;rw [size_mk,zVa];omega
theorem zEf (l:List Tok):Ok (Sz 0 l) (zZb l):=by
 unfold zZb
 refine Ok.cond (fun _=>(zed l).bd fun n l1 h=>Ok.sum (fun _=>Ok.ok h) fun k x _=>(zff _).bd fun v l2 h2=>Ok.ok ?_) (fun _=>zVg l)
 unfold Sz Sh at *;rw [zyi];simp only [List.length_tail] at h2;omega
theorem zBm {item:List Tok→R T} (hi:∀ l,Ok (Sz 0 l) (item l)):∀ (n:Nat) (l:List Tok),Ok (SzL 0 l) (zbe item n l)
 | 0,l=>Ok.err
 | n+1,l=>by
  rw [zbe]
  refine Ok.cond (fun _=>(hi _).bd fun a l1 h=>(zBm hi n l1).bd fun xs l2 h2=>Ok.ok ?_) (fun _=>Ok.ok (by unfold SzL;rw [zVa];omega))
  unfold SzL Sz at *;rw [zTa];simp only [List.length_tail] at h;omega
theorem zGl {item:List Tok→R T} (hi:∀ l,Ok (Sz 0 l) (item l)) (l:List Tok):Ok (SzL 0 l) (zsd item l):=by
 unfold zsd
 refine (hi l).bd fun a l1 h=>(zBm hi _ l1).bd fun xs l2 h2=>Ok.ok ?_
 unfold SzL Sz at *;rw [zTa];omega
theorem zEg {item:List Tok→R T} (hi:∀ l,Ok (Sz 0 l) (item l)) (l:List Tok):Ok (fun xs l'=>sizes xs+2 * l'.length+2≤2 * l.length) (zwb item l):=by
 unfold zwb
 refine (zIb l (by decide)).bd fun _ l1 h=>Ok.cond (fun _=>Ok.ok ?_) (fun _=>(zGl hi l1).bd fun xs l2 h2=>(zIb l2 (by decide)).bd fun _ l3 h3=>Ok.ok ?_)
 ·unfold Sh at *;rw [zVa];simp only [List.length_tail];omega
 ·unfold SzL Sh at *;omega
theorem ztm (l:List Tok):Ok (fun a l'=>a.size+2 * l'.length+4≤2 * l.length) (zMc l):=by
 unfold zMc
 refine (zIb l (by decide)).bd fun _ l1 h=>(zEf l1).bd fun a l2 h2=>(zIb l2 (by decide)).bd fun _ l3 h3=>Ok.ok ?_
 unfold Sz Sh at *;omega
theorem zxs {l:List Tok} {q:Int × Int} (h:sumP l=some q):0<l.length:=by
 unfold sumP at h
 cases h1:isT (hdT l) (bs [43]) with
 | true=>exact zEh h1 (by decide)
 | false =>
  rw [h1] at h
  cases h2:isT (hdT l) (bs [45]) with
  | true=>exact zEh h2 (by decide)
  | false=>rw [h2] at h;cases h
theorem zGu (n:T) (l:List Tok):Ok (Sz 0 l) (zne n l):=by
 unfold zne
 refine (zEg zEf l).bd fun xs l1 h=>Ok.ok ?_
 unfold Sz;rw [size_mk];omega
theorem zDw (p:Nat) (l:List Tok):Ok (Sz 0 l) (zQh p l):=by
 unfold zQh
 refine Ok.cond (fun _=>(zte _).bd fun s l1 h=>Ok.ok ?_) (fun _=>(zte _).bd fun s l1 h=>Ok.ok ?_)
 ·unfold Sz Sh at *;rw [size_mk,zVa];simp only [List.length_tail] at h;omega
 ·unfold Sz Sh at *;rw [size_mk,zVa];omega
theorem zNl (l:List Tok):Ok (Sz 0 l) (zUa l):=by
 unfold zUa
 refine (zed l).bd fun n l1 h=>Ok.cond (fun _=>(ztm l1).bd fun a l2 h2=>Ok.ok ?_) fun _=>Ok.cond (fun _=>(zGu n l1).mono fun a l2 h2=>?_) fun _=>Ok.sum (fun _=>Ok.ok h) fun k x hs=>Ok.cond (fun _=>(zed _).bd fun m l2 h2=>Ok.ok ?_) (fun _=>(zff _).bd fun v l2 h2=>Ok.ok ?_)
 ·unfold Sz at *;rw [size_mk,zTa,zVa];omega
 ·unfold Sz at *;omega
 ·have:=zxs hs
  unfold Sz at *;rw [size_mk,zTa,zTa,zVa];simp only [List.length_tail] at h2;omega
 ·unfold Sz Sh at *;rw [zyi];simp only [List.length_tail] at h2;omega
theorem zdt (l:List Tok):Ok (Sz 0 l) (zbc l):=by
 unfold zbc
 refine Ok.cond (fun _=>(zff _).bd fun v l1 h=>Ok.ok ?_) fun _=>Ok.cond (fun _=>(zte _).bd fun s l1 h=>Ok.ok ?_) fun _=>Ok.cond (fun _=>(zDw _ _).mono fun a l1 h=>?_) fun _=>Ok.cond (fun _=>zNl l) fun _=>zVg l
 ·unfold Sz Sh at *;rw [size_mk,zVa];simp only [List.length_tail] at h;omega
 ·unfold Sz Sh at *;rw [size_mk,zVa];simp only [List.length_tail] at h;omega
 ·unfold Sz at *;simp only [List.length_tail] at h;omega
theorem zfh (k:Int) (p:Nat) (l:List Tok):Ok (fun t l'=>t.size+2 * l'.length+1≤2 * l.length) (zrb k p l):=by
 unfold zrb
 refine (zEf l).bd fun a l1 h1=>(zIb l1 (by decide)).bd fun c l2 h2=>(zEf l2).bd fun b l3 h3=>Ok.ok ?_
 unfold Sz Sh at *;rw [size_mk,zTa,zTa,zVa];omega
theorem zYt (l:List Tok):Ok (Sz 0 l) (zre l):=by
 unfold zre
 exact (zfh 4 _ l).mono fun t l' h=>by unfold Sz;omega
theorem zuq (l:List Tok):Ok (Sz 0 l) (zjc l):=by
 unfold zjc
 refine (zte l).bd fun s l1 h=>Ok.cond (fun hc=>(zed _).bd fun a l2 h2=>(zIb l2 (by decide)).bd fun _ l3 h3=>Ok.ok ?_) (fun _=>Ok.ok ?_)
 ·unfold Sz Sh at *;rw [size_mk,zTa,zVa];simp only [List.length_tail] at h2;omega
 ·unfold Sz Sh at *;rw [size_mk,zVa];omega
theorem zKt (l:List Tok):Ok (Sz 0 l) (zld l):=by
 unfold zld
 refine (zIb l (by decide)).bd fun t l1 h=>Ok.cond (fun _=>Ok.ok ?_) (fun _=>(zed l1).bd fun a l2 h2=>Ok.ok ?_)
 ·unfold Sz Sh at *;rw [size_mk,zVa];omega
 ·unfold Sz Sh at *;rw [size_mk,zTa,zVa];omega
theorem zJh (l:List Tok):Ok (Sz 0 l) (zeb l):=by
 unfold zeb
 refine (zIb l (by decide)).bd fun t l1 h=>Ok.cond (fun _=>(zed l1).bd fun a l2 h2=>Ok.ok ?_) (fun _=>Ok.ok ?_)
 ·unfold Sz Sh at *;rw [size_mk,zTa,zVa];omega
 ·unfold Sz Sh at *;rw [size_mk,zVa];omega
theorem zLt (l:List Tok):Ok (Sz 0 l) (zwd l):=by
 unfold zwd
 refine Ok.cond (fun hc=>Ok.cond (fun _=>(zed _).bd fun a l2 h2=>Ok.ok ?_) (fun _=>(zed _).bd fun a l2 h2=>Ok.ok ?_)) (fun _=>zJh l)
 ·have:=zEh hc (by decide)
  unfold Sz at *;rw [size_mk,zTa,zVa];simp only [List.length_tail] at h2;omega
 ·have:=zEh hc (by decide)
  unfold Sz at *;rw [size_mk,zTa,zVa];simp only [List.length_tail] at h2;omega
theorem zfr (l:List Tok):Ok (Sz 0 l) (zBc l):=by
 unfold zBc
 refine (zte l).bd fun s l1 h=>(zIb l1 (by decide)).bd fun _ l2 h2=>(zLt l2).bd fun a l3 h3=>Ok.ok ?_
 unfold Sz Sh at *;rw [size_mk,zTa,zVa];omega
theorem zwo (l:List Tok):Ok (SzL 0 l) (zoc l):=by
 unfold zoc
 refine Ok.cond (fun _=>(zGl zuq _).bd fun xs l1 h=>(zIb l1 (by decide)).bd fun _ l2 h2=>Ok.ok ?_) (fun _=>Ok.ok ?_)
 ·unfold SzL Sh at *;simp only [List.length_tail] at h;omega
 ·unfold SzL;rw [zVa];omega
theorem zoq (l:List Tok):Ok (SzL 0 l) (zPc l):=by
 unfold zPc
 refine Ok.cond (fun _=>(zGl zYt _).mono fun xs l1 h=>?_) (fun _=>Ok.ok ?_)
 ·unfold SzL at *;simp only [List.length_tail] at h;omega
 ·unfold SzL;rw [zVa];omega
theorem zTt (p:Nat) (l:List Tok):Ok (Sz 0 l) (zqc p l):=by
 unfold zqc
 refine (zte l).bd fun s l1 h=>(zKt l1).bd fun a l2 h2=>(zwo l2).bd fun ys l3 h3=>(zoq l3).bd fun zs l4 h4=>(zIb l4 (by decide)).bd fun _ l5 h5=>Ok.ok ?_
 unfold Sz SzL Sh at *;rw [size_mk,zTa,zCd];omega
theorem zeo (k:Int) (p:Nat) (l:List Tok):Ok (Sz 0 l) (zGd k p l):=by
 unfold zGd
 refine (zte l).bd fun s l1 h=>(zIb l1 (by decide)).bd fun _ l2 h2=>(zff l2).bd fun v l3 h3=>(zIb l3 (by decide)).bd fun _ l4 h4=>Ok.ok ?_
 unfold Sz Sh at *;rw [size_mk,zVa];omega
theorem zGo (p:Nat) (l:List Tok):Ok (Sz 1 l) (zdc p l):=by
 unfold zdc
 refine Ok.cond (fun _=>Ok.ok ?_) (fun _=>(zEf l).bd fun a l1 h=>Ok.ok ?_)
 ·unfold Sz;rw [size_mk,zVa];omega
 ·unfold Sz at *;rw [size_mk,zTa,zVa];omega
theorem zYn (l:List Tok):Ok (fun n l'=>n.size=1∧l'.length+1≤l.length) (zYa l):=by
 unfold zYa
 exact (zte l).bd fun s l1 h=>Ok.ok ⟨by rw [size_mk,zVa],h⟩
theorem zAl (n:T) (l:List Tok):Ok (fun t l'=>t.size+2 * l'.length+1≤2 * l.length) (zne n l):=by
 unfold zne
 refine (zEg zEf l).bd fun xs l1 h=>Ok.ok ?_
 rw [size_mk];omega
theorem zmq (l:List Tok):Ok (Sz 0 l) (zHb l):=by
 unfold zHb
 refine (zYn l).bd fun n l1 h=>Ok.cond (fun _=>(zAl n l1).bd fun c l2 h2=>Ok.ok ?_) fun _=>Ok.cond (fun _=>(ztm l1).bd fun i l2 h2=>(zIb l2 (by decide)).bd fun _ l3 h3=>(zEf l3).bd fun b l4 h4=>Ok.ok ?_) fun _=>(zIb l1 (by decide)).bd fun _ l2 h2=>(zdt l2).bd fun x l3 h3=>Ok.ok ?_
 ·unfold Sz;rw [size_mk,zTa,zVa];omega
 ·unfold Sz Sh at *;rw [size_mk,zTa,zTa,zVa];omega
 ·unfold Sz Sh at *;rw [size_mk,zTa,zVa];omega
theorem zmo (l:List Tok):Ok (Sz 0 l) (zbb l):=by
 unfold zbb
 refine Ok.cond (fun _=>zmq l) fun _=>Ok.cond (fun _=>(zte _).bd fun s l1 h=>Ok.ok ?_) fun _=>Ok.cond (fun _=>(zeo _ _ _).mono fun a l1 h=>?_) fun _=>Ok.cond (fun _=>(zeo _ _ _).mono fun a l1 h=>?_) fun _=>Ok.cond (fun hc=>(zGo _ _).mono fun a l1 h=>?_) fun _=>Ok.cond (fun hc=>Ok.ok ?_) fun _=>Ok.cond (fun _=>(zte _).bd fun s l1 h=>(zEg zEf l1).bd fun xs l2 h2=>Ok.ok ?_) fun _=>Ok.err
 ·unfold Sz Sh at *;rw [size_mk,zVa];simp only [List.length_tail] at h;omega
 ·unfold Sz at *;simp only [List.length_tail] at h;omega
 ·unfold Sz at *;simp only [List.length_tail] at h;omega
 ·have:=zEh hc (by decide)
  unfold Sz at *;simp only [List.length_tail] at h;omega
 ·have:=zEh hc (by decide)
  unfold Sz;rw [size_mk,zVa];simp only [List.length_tail];omega
 ·unfold Sz Sh at *;rw [size_mk];simp only [List.length_tail] at h;omega
theorem zet {blk:List Tok→R T} (hb:∀ l,Ok (Sz 0 l) (blk l)) (p:Nat) (l:List Tok):Ok (Sz 1 l) (zbf blk p l):=by
 unfold zbf
 refine Ok.cond (fun _=>(hb _).mono fun a l1 h=>?_) (fun _=>Ok.ok ?_)
 ·unfold Sz at *;simp only [List.length_tail] at h;omega
 ·unfold Sz;rw [size_mk,zVa];omega
theorem if_sz {blk:List Tok→R T} (hb:∀ l,Ok (Sz 0 l) (blk l)) (p:Nat) (l:List Tok):Ok (Sz 0 l) (ifP blk p l):=by
 unfold ifP
 refine (zfh _ _ l).bd fun n l1 h=>(hb l1).bd fun b l2 h2=>(zet hb p l2).bd fun c l3 h3=>Ok.ok ?_
 unfold Sz at *;rw [zIi,zIi];omega
theorem zAr {blk:List Tok→R T} (hb:∀ l,Ok (Sz 0 l) (blk l)) (p:Nat) (l:List Tok):Ok (Sz 0 l) (zVd blk p l):=by
 unfold zVd
 refine (zfh _ _ l).bd fun n l1 h=>(hb l1).bd fun b l2 h2=>Ok.ok ?_
 unfold Sz at *;rw [zIi];omega
theorem zDl {blk:List Tok→R T} (hb:∀ l,Ok (Sz 0 l) (blk l)) (l:List Tok):Ok (Sz 0 l) (zPb blk l):=by
 unfold zPb
 refine Ok.cond (fun _=>(if_sz hb _ _).mono fun a l1 h=>?_) fun _=>Ok.cond (fun _=>(zAr hb _ _).mono fun a l1 h=>?_) fun _=>(zmo l).bd fun n l1 h=>(zIb l1 (by decide)).bd fun _ l2 h2=>Ok.ok ?_
 ·unfold Sz at *;simp only [List.length_tail] at h;omega
 ·unfold Sz at *;simp only [List.length_tail] at h;omega
 ·unfold Sz Sh at *;omega
theorem zSk {item:List Tok→R T} (hi:∀ l,Ok (Sz 0 l) (item l)):∀ (n:Nat) (l:List Tok),Ok (SzL 0 l) (zsc item n l)
 | 0,l=>Ok.err
 | n+1,l=>by
  rw [zsc]
  refine Ok.cond (fun _=>Ok.ok ?_) (fun _=>(hi l).bd fun a l1 h=>(zSk hi n l1).bd fun xs l2 h2=>Ok.ok ?_)
  ·unfold SzL;rw [zVa];simp only [List.length_tail];omega
  ·unfold SzL Sz at *;rw [zTa];omega
theorem zfi:∀ (n:Nat) (l:List Tok),Ok (Sz 0 l) (zsb n l)
 | 0,l=>by rw [zsb];exact (zIb l (by decide)).bd fun _ _ _=>Ok.err
 | n+1,l=>by
  rw [zsb]
  refine (zIb l (by decide)).bd fun t l1 h=>(zSk (zDl (zfi n)) _ l1).bd fun xs l2 h2=>Ok.ok ?_
  unfold SzL Sz Sh at *;rw [size_mk];omega
theorem zco (l:List Tok):Ok (Sz 1 l) (zmc l):=by
 unfold zmc
 refine Ok.cond (fun _=>(zJh _).mono fun a l1 h=>?_) (fun _=>Ok.ok ?_)
 ·unfold Sz at *;simp only [List.length_tail] at h;omega
 ·unfold Sz;rw [size_mk,zVa];omega
theorem fn_sz (p:Nat) (l:List Tok):Ok (Sz 0 l) (fnP p l):=by
 unfold fnP
 refine (zte l).bd fun s l1 h=>(zEg zfr l1).bd fun xs l2 h2=>(zco l2).bd fun r l3 h3=>(zfi 8 l3).bd fun b l4 h4=>Ok.ok ?_
 unfold Sz Sh at *;rw [size_mk,zCd,zTa,zTa,zVa];omega
theorem zkk (l:List Tok):Ok (Sz 0 l) (zHd l):=by
 unfold zHd
 refine (zIb l (by decide)).bd fun t l1 h=>Ok.cond (fun _=>(zTt _ _).mono fun a l2 h2=>?_) (fun _=>(fn_sz _ _).mono fun a l2 h2=>?_)
 ·unfold Sz Sh at *;omega
 ·unfold Sz Sh at *;omega
theorem zxm:∀ (n:Nat) (l:List Tok),Ok (SzL 0 l) (zRd n l)
 | 0,l=>Ok.err
 | n+1,l=>by
  rw [zRd]
  refine Ok.cond (fun _=>Ok.ok ?_) (fun _=>(zkk l).bd fun a l1 h=>(zxm n l1).bd fun xs l2 h2=>Ok.ok ?_)
  ·unfold SzL;rw [zVa];omega
  ·unfold SzL Sz at *;rw [zTa];omega
theorem zmt {l l':List Tok} {t:T} (h:zgd l=.ok (t,l')):t.size≤2 * l.length+1:=by
 have h1:Ok (Sz 1 l) (zgd l):=by
  unfold zgd
  refine (zxm _ l).bd fun xs l1 h=>Ok.ok ?_
  unfold SzL at h;unfold Sz;rw [size_mk];omega
 have h2:=h1 t l' h
 unfold Sz at h2
 omega
end
section
open Go.RowKit
def cellsOf (ts:List Tok):List Value:=ts.flatMap zgb
def zVs (r:zch) (w:World) (e:Ending) (w':World):Prop :=
 match r with
 | .error (p,c)=>e=.returned (.tuple #[.slice none 0 0,.int .i64 p,.int .i64 c])∧Below w.heap.size w w'
 | .ok ts=>∃ v,e=.returned (.tuple #[v,.int .i64 0,.int .i64 0])∧w'.ownsRow w.heap.size 119 4 v ts.length (cellsOf ts)∧Below w.heap.size w w'
def zxv (s:ByteArray) (w:World) (g:Nat) (v a:Value) (wr:World):Prop :=
 ∃ (k:Nat) (ts:List Tok),k≤s.size∧s.size≤k+g∧a=.int .i64 k∧wr.ownsRow w.heap.size 119 4 v ts.length (cellsOf ts)∧Below w.heap.size w wr∧ts.length≤k∧lexFrom s 0=more ts (lexFrom s k)
theorem Tryz.zuo:(Tryz.prog.info? 119).map (fun i=>(i.zero,i.size,i.bytes))=some (some (.agg #[.int .i64 0,.string ⟨#[]⟩,.int .i64 0,.int .i64 0]),4,40):=by kernel_rfl
theorem zgj {a w:World} (h:Below a.heap.size a w) (row:Option Nat):a.grownBy w row:=⟨h.os,h.tape,h.output,h.size,fun i hi _=>h.block i hi⟩
theorem own_below {a w:World} {base:Nat} {e:TypeId} {size n:Nat} {v:Value} {xs:List Value} (h:a.ownsRow base e size v n xs) (hb:Below a.heap.size a w):w.ownsRow base e size v n xs:=by
 refine h.kept (zgj hb none) ?_
 cases v.ownBlock
 ·exact .inl rfl
 ·exact .inr (by simp)
theorem zMh (ts:List Tok) (t:Tok):cellsOf (ts++[t])=cellsOf ts++zgb t:=by simp [cellsOf]
theorem zoe (t:Tok):∀ u∈zgb t,u.oneCell'=true:=by
 intro u hu
 simp only [zgb,List.mem_cons,List.not_mem_nil,or_false] at hu
 rcases hu with rfl|rfl|rfl|rfl<;>rfl
theorem zKi (t:Tok) (w:World) (e:TypeId) (b:Nat) (hb:b=w.heap.size):∀ j u,(zgb t)[j]?=some u →
  (w.alloc (.cells #[.int .i64 t.kind,.string t.text,.int .i64 t.num,.int .i64 t.place] e)).cell? ((⟨b,0,none⟩:Addr).add j)=some u:=by
 intro j u hj
 subst hb
 rw [Addr.add_mid,Nat.zero_add,cell_of_row _ _ _ _ _ _ (heap_alloc_new w _)]
 simpa [zgb] using hj
theorem zdp (w:World):(isAgg 5).run Tryz.prog w=.ok false w:=by
 unfold isAgg
 rw [Sem.run_bind,run_underlying Tryz.underlying5 w]
 rfl
theorem zdn:(Tryz.prog.info? 5).map (·.size)=some 1:=by kernel_rfl
theorem zbv (w:World):(Instr.index 114 (.agg #[.int .u8 32,.int .u8 10]) (.int .i64 0)).run Tryz.prog w=.ok (.int .u8 32) w :=
 zze (P:=Tryz.prog) (cs:=[.int .u8 32,.int .u8 10]) (k:=0) Tryz.underlying114 zdp zdn (by omega) rfl w
theorem zXw (w:World):(Instr.index 114 (.agg #[.int .u8 32,.int .u8 10]) (.int .i64 1)).run Tryz.prog w=.ok (.int .u8 10) w :=
 zze (P:=Tryz.prog) (cs:=[.int .u8 32,.int .u8 10]) (k:=1) Tryz.underlying114 zdp zdn (by omega) rfl w
theorem zhm {b:UInt8} {n:Nat} (h:((b.toNat:Int) == (n:Int))=true):b=n.toUInt8:=by
 have h1:b.toNat=n:=by have:=beq_iff_eq.1 h;omega
 rw [← h1]
 simp
theorem zsl {b c:UInt8} (h:((b.toNat:Int) == (c.toNat:Int))=false):¬ b=c:=by
 intro e
 subst e
 simp at h
theorem zJr {b:UInt8} (h:((b.toNat:Int) == 32)=true):zSb b=true:=by
 have:=zhm (n:=32) h
 subst this
 rfl
theorem zSq {b:UInt8} (h:((b.toNat:Int) == 10)=true):zSb b=true:=by
 have:=zhm (n:=10) h
 subst this
 rfl
theorem zyq {b:UInt8} (h:((b.toNat:Int) == 32)=false) (h2:((b.toNat:Int) == 10)=false):zSb b=false:=by
 have h1:=zsl (c:=32) h
 have h3:=zsl (c:=10) h2
 simp [zSb,h1,h3]
theorem zel {s:ByteArray} {k:Nat} {e:Int} (h:zae s k=.error e):11≤e∧e≤13:=by
 have hs:∀ n,zGb s k n=.error e→e=11:=by
  intro n
  induction n with
  | zero=>unfold zGb zpf;split<;>intro h<;>cases h;rfl
  | succ n ih =>
          unfold zGb;split
          ·intro h;cases h
          ·exact ih
 unfold zae at h
 split at h
 ·unfold zWc at h
  split at h
  ·cases h;decide
  ·split at h<;>cases h
 ·split at h
  ·unfold zUd at h
   split at h<;>cases h
   decide
  ·rw [hs 3 h];decide
theorem zth (s:ByteArray) (w:World) (hs:s.size≤maxLen) (ht:Tabs w) :
  Calls Tryz.prog 18 #[.string s] w fun e w'=>zVs (zqd s) w e w':=by
 by_cases hbig:16384<s.size
 ·have hbig':16384<(s.size:Int):=by omega
  have hr:zqd s=.error (0,10):=by unfold zqd;rw [if_pos hbig]
  rw [hr]
  clear hr
  go_enter Tryz.func18,Tryz.ntmps18
  go_wp2
  go_step3
  go_wp2
  (try rw [Exit.noGoto_ret])
  go_ret3
  exact ⟨rfl,Below.refl _ _⟩
 have hr:zqd s=lexFrom s 0:=by unfold zqd;rw [if_neg hbig]
 rw [hr]
 clear hr
 have hbig':¬ 16384<(s.size:Int):=by omega
 go_enter Tryz.func18,Tryz.ntmps18
 go_wp2
 go_step3
 go_wp2
 go_step3
 go_wp2
 go_loopg [5,6] s.size (fun g v a wr=>zxv s w g v a wr)
 case atStart=>exact ⟨0,[],by omega,by omega,rfl,World.ownsRow_nil _ _ _ _,Below.refl _ _,by simp,(zZj _).symm⟩
 case round =>
  obtain ⟨k,ts,hk,hg,rfl,hown,hbel,hlen,hres⟩:=hrel
  have HR:=zh hres
  have htr:=ht.below hbel ht.size
  have hb0:=htr.b0
  have hb1:=htr.b1
  have HOWN:=zh hown
  have HBEL:=zh hbel
  have HT:=zh htr
  clear hres hown hbel htr
  by_cases hlt:k<s.size
  ·have hi0:=zbv
   have hi1:=zXw
   cases h32:((s[k].toNat:Int) == 32)
   ·cases h10:((s[k].toNat:Int) == 10)
    ·cases h35:((s[k].toNat:Int) == 35)
     ·have hnb:zSb (bat s k)=false:=by rw [zNd s k hlt];exact zyq h32 h10
      have hnr:¬ bat s k=35:=by rw [zNd s k hlt];exact zsl h35
      cases hta:zae s k with
      | error e0 =>
       have HE:=zh (zrp hlt hnb hnr hta)
       have hte:=zel hta
       have HA:=zh hta
       clear hta hnb hnr
       have hne:(e0 != 0)=true:=by rw [bne_iff_ne];omega
       go_wp2_with fail
       refine wp_loop_rounds 3 ?_
       rw [rounds_succ]
       go_wp2_with fail
       rw [rounds_succ]
       go_wp2_with fail
       rw [rounds_succ]
       go_wp2_with fail
       refine (zHi s k _ hs hlt HT.out).mono ?_
       rintro e w1 ⟨rfl,hb⟩
       rw [HA.out]
       unfold zns errR zJc
       have HB:=zh (HBEL.out.trans (hb.mono HBEL.out.size))
       obtain ⟨hc,hf⟩:=zun hb
       clear hb
       go_wp2
       (try rw [Exit.noGoto_ret])
       go_ret3
       rw [HR.out,HE.out]
       refine ⟨rfl,?_⟩
       have hz:w.heap.size≤w1.heap.size:=HB.out.size
       exact HB.out.alloc hz _
      | ok t =>
       have hsz:=zgf hlt hta
       have HE:=zh (zlm hlt hnb hnr hta)
       have HA:=zh hta
       clear hta hnb hnr
       go_wp2_with fail
       refine wp_loop_rounds 3 ?_
       rw [rounds_succ]
       go_wp2_with fail
       rw [rounds_succ]
       go_wp2_with fail
       rw [rounds_succ]
       go_wp2_with fail
       refine (zHi s k _ hs hlt HT.out).mono ?_
       rintro e w1 ⟨rfl,hb⟩
       rw [HA.out]
       unfold zns okR zJc
       have HB:=zh (HBEL.out.trans (hb.mono HBEL.out.size))
       have HO:=zh (own_below HOWN.out hb)
       obtain ⟨hc,hf⟩:=zun hb
       have hz:w.heap.size≤w1.heap.size:=HB.out.size
       clear hb
       obtain ⟨i0,hi,hz0,hz1,hz2⟩:=info_parts Tryz.zuo
       go_wp2_with (at_builtin;refine wpList_append_own _ rfl (.tmp 47) (.tmp 49) 60 rfl w.heap.size 119 i0 _ 4 40 Tryz.underlying60 hi hz0 hz1 hz2 rfl (by decide) _ _ _ rfl ((HO.out.alloc _).alloc _) ⟨w1.heap.size+1,0,none⟩ 1 1 (zgb t) rfl rfl ?c1 (zoe t) ?c3 ?c4 ?c5 ?_)
       case c1=>exact zKi t _ _ _ (by simp)
       case c3=>unfold maxLen;omega
       case c4=>omega
       case c5=>simp;omega
       intro v' w2 hown2 hgrow2 _
       have HO2:=zh hown2
       have HG2:=zh (((HB.out.alloc hz _).alloc (by simp;omega) _).grown hgrow2 (by simp;omega) (fun j hj=>(HO.out.lt j hj).1))
       have htc:w2.cell? ⟨w1.heap.size,1,none⟩=some (.string t.text) :=
        hgrow2.cell ((World.cell?_alloc_past _ _ _ (by simp)).trans (cell_of_row _ _ _ _ _ _ (heap_alloc_new w1 _))) (fun h=>absurd ((HO.out.lt _ h.symm).2) (Nat.lt_irrefl _))
       clear hown2 hgrow2
       have hsz1:=hsz.1
       have hsz2:=hsz.2
       have hbs:s.size≤16384:=by omega
       clear hsz
       go_wp2
       go_roundg (gk-1)
       case measure=>omega
       case rel=>exact ⟨k+t.text.size,ts++[t],by omega,by omega,by go_num,by rw [zMh];simpa using HO2.out,HG2.out,by simp;omega,HR.out.trans (by rw [HE.out,zTk])⟩
     ·have hnr:bat s k=35:=by rw [zNd s k hlt];exact zhm h35
      have HE:=zh (zAj hlt hnr)
      have hge:=zPf hlt hnr
      have hle:=zTe ztn s k (by omega)
      go_wp2_with fail
      refine wp_loop_rounds 3 ?_
      rw [rounds_succ]
      go_wp2_with fail
      rw [rounds_succ]
      go_wp2_with fail
      rw [rounds_succ]
      go_wp2_with fail
      refine (zVj s k wr hs (by omega) (by omega)).mono ?_
      rintro e w' ⟨rfl,rfl⟩
      go_wp2
      go_roundg (gk-1)
      case measure=>omega
      case rel=>exact ⟨endOf ztn s k,ts,by omega,by omega,rfl,HOWN.out,HBEL.out,by omega,HR.out.trans (by rw [HE.out])⟩
    ·have HE:=zh (zHg hlt (by rw [zNd s k hlt];exact zSq h10))
     go_wp2_with fail
     refine wp_loop_rounds 3 ?_
     rw [rounds_succ]
     go_wp2_with fail
     rw [rounds_succ]
     go_wp2_with fail
     go_roundg (gk-1)
     case measure=>omega
     case rel=>exact ⟨k+1,ts,by omega,by omega,by go_num,HOWN.out,HBEL.out,by omega,HR.out.trans (by rw [HE.out])⟩
   ·have HE:=zh (zHg hlt (by rw [zNd s k hlt];exact zJr h32))
    go_wp2_with fail
    refine wp_loop_rounds 3 ?_
    rw [rounds_succ]
    go_wp2_with fail
    go_roundg (gk-1)
    case measure=>omega
    case rel=>exact ⟨k+1,ts,by omega,by omega,by go_num,HOWN.out,HBEL.out,by omega,HR.out.trans (by rw [HE.out])⟩
  ·have HE:=zh (zWl (s:=s) (k:=k) (by omega))
   have hz:w.heap.size≤wr.heap.size:=HBEL.out.size
   have hbs:s.size≤16384:=by omega
   obtain ⟨i0,hi,hz0,hz1,hz2⟩:=info_parts Tryz.zuo
   go_wp2_with (at_builtin;refine wpList_append_own _ rfl (.tmp 56) (.tmp 60) 60 rfl w.heap.size 119 i0 _ 4 40 Tryz.underlying60 hi hz0 hz1 hz2 rfl (by decide) _ _ _ rfl (HOWN.out.alloc _) ⟨wr.heap.size,0,none⟩ 1 1 (zgb (zkg s)) rfl rfl ?d1 (zoe (zkg s)) ?d3 ?d4 ?d5 ?_)
   case d1=>exact zKi (zkg s) _ _ _ rfl
   case d3=>unfold maxLen;omega
   case d4=>omega
   case d5=>simp;omega
   intro v' w2 hown2 hgrow2 _
   have HO2:=zh hown2
   have HG2:=zh ((HBEL.out.alloc hz _).grown hgrow2 (by simp;omega) (fun j hj=>(HOWN.out.lt j hj).1))
   clear hown2 hgrow2
   go_wp2
   (try rw [Exit.noGoto_ret])
   go_ret3
   rw [HR.out,HE.out]
   exact ⟨v',rfl,by rw [zMh];simpa using HO2.out,HG2.out⟩
end
end Go.Proofs.YtbfgdpcgdmabpaaGreatDoor
