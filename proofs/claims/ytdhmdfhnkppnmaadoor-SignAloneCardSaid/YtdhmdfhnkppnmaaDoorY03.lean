/- How great a tree is that was read: no greater than twice the tokens that it was read from. Nothing of the program is walked here. The contract of lex.Tokens in a world that holds the tables of lex: it returns what the plain account says, in new memory, and changes nothing that was there. What the rows' list of package-level variables gives the walks: a world that meets it holds the tables of lex (Tabs). And the world of the witness, which meets it. -/
import Derived.Test.YtdhmdfhnkppnmaaDoorY02
import Derived.Deep.LoopGhost
import Derived.WalkMore
import Derived.Test.YtdhmdfhnkppnmaaDoorCards
import Derived.Test.YtdhmdfhnkppnmaaDoorTie
import Derived.ProofKit
import Derived.OpenShut
import Derived.Deep.DeepHandedRow
import Derived.Lib.LaidTab
namespace Go.Proofs.YtdhmdfhnkppnmaaDoor
set_option maxRecDepth 100000
set_option maxHeartbeats 1000000
section
open Go.RowKit
def Ok {α:Type} (G:α→List Tok→Prop) (r:R α):Prop:=∀ a l,r=.ok (a,l)→G a l
section
variable {α β:Type} {G:α→List Tok→Prop} {H:β→List Tok→Prop}
theorem Ok.bd {r:R α} {f:α→List Tok→R β} (hr:Ok G r) (hf:∀ a l,G a l→Ok H (f a l)):Ok H (bd r f):=by
 intro b l h
 cases hq:r with
 | error e=>rw [zpa hq] at h;cases h
 | ok q =>
  obtain ⟨a,l1⟩:=q
  rw [zia hq] at h
  exact hf a l1 (hr a l1 hq) b l h
theorem Ok.cond {b:Bool} {x y:R α} (hx:b=true→Ok G x) (hy:b=false→Ok G y):Ok G (bif b then x else y):=by
 cases b
 ·exact hy rfl
 ·exact hx rfl
theorem Ok.ok {a:α} {l:List Tok} (h:G a l):Ok G (.ok (a,l)):=by intro b l' e;cases e;exact h
theorem Ok.err {e:Nat × Int}:Ok G (.error e:R α):=by intro b l' h;cases h
theorem Ok.mono {G':α→List Tok→Prop} {r:R α} (h:Ok G r) (hg:∀ a l,G a l→G' a l):Ok G' r:=fun a l e=>hg a l (h a l e)
end
theorem Ok.sum {G:T→List Tok→Prop} {s:Option (Int × Int)} {a:R T} {f:Int→Int→R T} (ha:s=none→Ok G a) (hf:∀ k x,s=some (k,x)→Ok G (f k x)):Ok G (zZn s a f):=by
 cases s with
 | none=>exact ha rfl
 | some q=>exact hf q.1 q.2 rfl
def Sz (c:Nat) (l:List Tok) (t:T) (l':List Tok):Prop:=t.size+2 * l'.length≤2 * l.length+c
def SzL (c:Nat) (l:List Tok) (ts:List T) (l':List Tok):Prop:=sizes ts+2 * l'.length≤2 * l.length+c
def Sh {α:Type} (l:List Tok) (_:α) (l':List Tok):Prop:=l'.length+1≤l.length
theorem size_mk (k:Int) (s:ByteArray) (n:Int) (p:Nat) (ks:List T):(T.mk k s n p ks).size=1+sizes ks:=by rw [T.size]
theorem zsa:sizes []=0:=by rw [sizes]
theorem zta (t:T) (ts:List T):sizes (t :: ts)=t.size+sizes ts:=by rw [sizes]
theorem zWb:∀ a b:List T,sizes (a++b)=sizes a+sizes b
 | [],b=>by simp [zsa]
 | t :: ts,b=>by rw [List.cons_append,zta,zta,zWb ts b];omega
theorem zNg (v:Int) (t:T):(t.zVb v).size=t.size:=by cases t;simp [T.zVb,size_mk]
theorem zIg (t b:T):(t.snoc b).size=t.size+b.size:=by cases t;simp [T.snoc,size_mk,zWb,zta,zsa];omega
theorem zfg {l:List Tok} {s:ByteArray} (h:isT (hdT l) s=true) (hs:0<s.size):0<l.length:=by
 cases l with
 | nil =>
  have h1:=beq_iff_eq.1 (show ((zBb.text).toList == s.toList)=true from h)
  rw [ByteArray.toList_eq,ByteArray.toList_eq] at h1
  have h2:=congrArg List.length h1
  simp [zBb] at h2
  have:s.data.size=s.size:=rfl
  omega
 | cons t r=>simp
theorem zYm {l:List Tok} {k:Nat} (h:((hdT l).kind == k)=true) (hk:0<k):0<l.length:=by
 cases l with
 | nil=>have:=beq_iff_eq.1 h;simp [hdT,zBb] at this;omega
 | cons t r=>simp
theorem zPa {ss:List ByteArray} (l:List Tok) (hs:∀ s∈ss,0<s.size):Ok (Sh l) (zxa ss l):=by
 unfold zxa
 refine Ok.cond (fun h=>Ok.ok ?_) (fun _=>Ok.err)
 obtain ⟨s,hm,h1⟩:=List.any_eq_true.1 h
 have:=zfg h1 (hs s hm)
 unfold Sh
 simp only [List.length_tail]
 omega
theorem zim {k:Nat} (hk:0<k) (l:List Tok):Ok (Sh l) (zmf k l):=by
 unfold zmf
 refine Ok.cond (fun h=>Ok.ok ?_) (fun _=>Ok.err)
 have:=zYm h hk
 unfold Sh
 simp only [List.length_tail]
 omega
theorem zGc (l:List Tok):Ok (Sh l) (zac l):=by unfold zac;exact (zim (by omega) l).bd fun _ _ h=>Ok.ok h
theorem zqd (l:List Tok):Ok (Sh l) (zvb l):=by unfold zvb;exact (zim (by omega) l).bd fun _ _ h=>Ok.ok h
theorem zIb (l:List Tok):Ok (Sz 0 l) (zCa l):=by
 unfold zCa
 exact (zGc l).bd fun s l1 h=>Ok.ok (by unfold Sz Sh at *;rw [size_mk,zsa];omega)
theorem zPe (l:List Tok):Ok (Sz 0 l) (zJa l):=by
 unfold zJa
 refine Ok.cond (fun _=>(zqd _).bd fun s l1 h=>Ok.ok ?_) (fun _=>(zqd _).bd fun s l1 h=>Ok.ok ?_)
 ·unfold Sz Sh at *;rw [size_mk,zsa];simp only [List.length_tail] at h;omega
 ·unfold Sz Sh at *;rw [size_mk,zsa];omega
theorem zhe (l:List Tok):Ok (Sz 0 l) (zKb l):=by
 unfold zKb
 refine Ok.cond (fun _=>(zIb l).bd fun n l1 h=>Ok.sum (fun _=>Ok.ok h) fun k x _=>(zqd _).bd fun v l2 h2=>Ok.ok ?_) (fun _=>zPe l)
 unfold Sz Sh at *;rw [zNg];simp only [List.length_tail] at h2;omega
theorem zOj {item:List Tok→R T} (hi:∀ l,Ok (Sz 0 l) (item l)):∀ (n:Nat) (l:List Tok),Ok (SzL 0 l) (zaf item n l)
 | 0,l=>Ok.err
 | n+1,l=>by
  rw [zaf]
  refine Ok.cond (fun _=>(hi _).bd fun a l1 h=>(zOj hi n l1).bd fun xs l2 h2=>Ok.ok ?_) (fun _=>Ok.ok (by unfold SzL;rw [zsa];omega))
  unfold SzL Sz at *;rw [zta];simp only [List.length_tail] at h;omega
theorem zTi {item:List Tok→R T} (hi:∀ l,Ok (Sz 0 l) (item l)) (l:List Tok):Ok (SzL 0 l) (zAd item l):=by
 unfold zAd
 refine (hi l).bd fun a l1 h=>(zOj hi _ l1).bd fun xs l2 h2=>Ok.ok ?_
 unfold SzL Sz at *;rw [zta];omega
theorem zOe {item:List Tok→R T} (hi:∀ l,Ok (Sz 0 l) (item l)) (l:List Tok):Ok (fun xs l'=>sizes xs+2 * l'.length+2≤2 * l.length) (zib item l):=by
 unfold zib
 refine (zPa l (by decide)).bd fun _ l1 h=>Ok.cond (fun _=>Ok.ok ?_) (fun _=>(zTi hi l1).bd fun xs l2 h2=>(zPa l2 (by decide)).bd fun _ l3 h3=>Ok.ok ?_)
 ·unfold Sh at *;rw [zsa];simp only [List.length_tail];omega
 ·unfold SzL Sh at *;omega
theorem zQj (l:List Tok):Ok (fun a l'=>a.size+2 * l'.length+4≤2 * l.length) (zDc l):=by
 unfold zDc
 refine (zPa l (by decide)).bd fun _ l1 h=>(zhe l1).bd fun a l2 h2=>(zPa l2 (by decide)).bd fun _ l3 h3=>Ok.ok ?_
 unfold Sz Sh at *;omega
theorem zdp {l:List Tok} {q:Int × Int} (h:sumP l=some q):0<l.length:=by
 unfold sumP at h
 cases h1:isT (hdT l) (bs [43]) with
 | true=>exact zfg h1 (by decide)
 | false =>
  rw [h1] at h
  cases h2:isT (hdT l) (bs [45]) with
  | true=>exact zfg h2 (by decide)
  | false=>rw [h2] at h;cases h
theorem zfp (n:T) (l:List Tok):Ok (Sz 0 l) (zLe n l):=by
 unfold zLe
 refine (zOe zhe l).bd fun xs l1 h=>Ok.ok ?_
 unfold Sz;rw [size_mk];omega
theorem zKp (p:Nat) (l:List Tok):Ok (Sz 0 l) (zQi p l):=by
 unfold zQi
 refine Ok.cond (fun _=>(zGc _).bd fun s l1 h=>Ok.ok ?_) (fun _=>(zGc _).bd fun s l1 h=>Ok.ok ?_)
 ·unfold Sz Sh at *;rw [size_mk,zsa];simp only [List.length_tail] at h;omega
 ·unfold Sz Sh at *;rw [size_mk,zsa];omega
theorem zaj (l:List Tok):Ok (Sz 0 l) (zEa l):=by
 unfold zEa
 refine (zIb l).bd fun n l1 h=>Ok.cond (fun _=>(zQj l1).bd fun a l2 h2=>Ok.ok ?_) fun _=>Ok.cond (fun _=>(zfp n l1).mono fun a l2 h2=>?_) fun _=>Ok.sum (fun _=>Ok.ok h) fun k x hs=>Ok.cond (fun _=>(zIb _).bd fun m l2 h2=>Ok.ok ?_) (fun _=>(zqd _).bd fun v l2 h2=>Ok.ok ?_)
 ·unfold Sz at *;rw [size_mk,zta,zsa];omega
 ·unfold Sz at *;omega
 ·have:=zdp hs
  unfold Sz at *;rw [size_mk,zta,zta,zsa];simp only [List.length_tail] at h2;omega
 ·unfold Sz Sh at *;rw [zNg];simp only [List.length_tail] at h2;omega
theorem zWo (l:List Tok):Ok (Sz 0 l) (znc l):=by
 unfold znc
 refine Ok.cond (fun _=>(zqd _).bd fun v l1 h=>Ok.ok ?_) fun _=>Ok.cond (fun _=>(zGc _).bd fun s l1 h=>Ok.ok ?_) fun _=>Ok.cond (fun _=>(zKp _ _).mono fun a l1 h=>?_) fun _=>Ok.cond (fun _=>zaj l) fun _=>zPe l
 ·unfold Sz Sh at *;rw [size_mk,zsa];simp only [List.length_tail] at h;omega
 ·unfold Sz Sh at *;rw [size_mk,zsa];simp only [List.length_tail] at h;omega
 ·unfold Sz at *;simp only [List.length_tail] at h;omega
theorem zyf (k:Int) (p:Nat) (l:List Tok):Ok (fun t l'=>t.size+2 * l'.length+1≤2 * l.length) (zRa k p l):=by
 unfold zRa
 refine (zhe l).bd fun a l1 h1=>(zPa l1 (by decide)).bd fun c l2 h2=>(zhe l2).bd fun b l3 h3=>Ok.ok ?_
 unfold Sz Sh at *;rw [size_mk,zta,zta,zsa];omega
theorem zXo (l:List Tok):Ok (Sz 0 l) (zze l):=by
 unfold zze
 exact (zyf 4 _ l).mono fun t l' h=>by unfold Sz;omega
theorem zan (l:List Tok):Ok (Sz 0 l) (zUb l):=by
 unfold zUb
 refine (zGc l).bd fun s l1 h=>Ok.cond (fun hc=>(zIb _).bd fun a l2 h2=>(zPa l2 (by decide)).bd fun _ l3 h3=>Ok.ok ?_) (fun _=>Ok.ok ?_)
 ·unfold Sz Sh at *;rw [size_mk,zta,zsa];simp only [List.length_tail] at h2;omega
 ·unfold Sz Sh at *;rw [size_mk,zsa];omega
theorem zTo (l:List Tok):Ok (Sz 0 l) (zKd l):=by
 unfold zKd
 refine (zPa l (by decide)).bd fun t l1 h=>Ok.cond (fun _=>Ok.ok ?_) (fun _=>(zIb l1).bd fun a l2 h2=>Ok.ok ?_)
 ·unfold Sz Sh at *;rw [size_mk,zsa];omega
 ·unfold Sz Sh at *;rw [size_mk,zta,zsa];omega
theorem zKf (l:List Tok):Ok (Sz 0 l) (zKa l):=by
 unfold zKa
 refine (zPa l (by decide)).bd fun t l1 h=>Ok.cond (fun _=>(zIb l1).bd fun a l2 h2=>Ok.ok ?_) (fun _=>Ok.ok ?_)
 ·unfold Sz Sh at *;rw [size_mk,zta,zsa];omega
 ·unfold Sz Sh at *;rw [size_mk,zsa];omega
theorem zYo (l:List Tok):Ok (Sz 0 l) (zpd l):=by
 unfold zpd
 refine Ok.cond (fun hc=>Ok.cond (fun _=>(zIb _).bd fun a l2 h2=>Ok.ok ?_) (fun _=>(zIb _).bd fun a l2 h2=>Ok.ok ?_)) (fun _=>zKf l)
 ·have:=zfg hc (by decide)
  unfold Sz at *;rw [size_mk,zta,zsa];simp only [List.length_tail] at h2;omega
 ·have:=zfg hc (by decide)
  unfold Sz at *;rw [size_mk,zta,zsa];simp only [List.length_tail] at h2;omega
theorem zon (l:List Tok):Ok (Sz 0 l) (zlc l):=by
 unfold zlc
 refine (zGc l).bd fun s l1 h=>(zPa l1 (by decide)).bd fun _ l2 h2=>(zYo l2).bd fun a l3 h3=>Ok.ok ?_
 unfold Sz Sh at *;rw [size_mk,zta,zsa];omega
theorem zrm (l:List Tok):Ok (SzL 0 l) (zdd l):=by
 unfold zdd
 refine Ok.cond (fun _=>(zTi zan _).bd fun xs l1 h=>(zPa l1 (by decide)).bd fun _ l2 h2=>Ok.ok ?_) (fun _=>Ok.ok ?_)
 ·unfold SzL Sh at *;simp only [List.length_tail] at h;omega
 ·unfold SzL;rw [zsa];omega
theorem zAn (l:List Tok):Ok (SzL 0 l) (zXc l):=by
 unfold zXc
 refine Ok.cond (fun _=>(zTi zXo _).mono fun xs l1 h=>?_) (fun _=>Ok.ok ?_)
 ·unfold SzL at *;simp only [List.length_tail] at h;omega
 ·unfold SzL;rw [zsa];omega
theorem zzo (p:Nat) (l:List Tok):Ok (Sz 0 l) (zzb p l):=by
 unfold zzb
 refine (zGc l).bd fun s l1 h=>(zTo l1).bd fun a l2 h2=>(zrm l2).bd fun ys l3 h3=>(zAn l3).bd fun zs l4 h4=>(zPa l4 (by decide)).bd fun _ l5 h5=>Ok.ok ?_
 unfold Sz SzL Sh at *;rw [size_mk,zta,zWb];omega
theorem zMm (k:Int) (p:Nat) (l:List Tok):Ok (Sz 0 l) (zLd k p l):=by
 unfold zLd
 refine (zGc l).bd fun s l1 h=>(zPa l1 (by decide)).bd fun _ l2 h2=>(zqd l2).bd fun v l3 h3=>(zPa l3 (by decide)).bd fun _ l4 h4=>Ok.ok ?_
 unfold Sz Sh at *;rw [size_mk,zsa];omega
theorem zjm (p:Nat) (l:List Tok):Ok (Sz 1 l) (zqc p l):=by
 unfold zqc
 refine Ok.cond (fun _=>Ok.ok ?_) (fun _=>(zhe l).bd fun a l1 h=>Ok.ok ?_)
 ·unfold Sz;rw [size_mk,zsa];omega
 ·unfold Sz at *;rw [size_mk,zta,zsa];omega
theorem zGk (l:List Tok):Ok (fun n l'=>n.size=1∧l'.length+1≤l.length) (zCa l):=by
 unfold zCa
 exact (zGc l).bd fun s l1 h=>Ok.ok ⟨by rw [size_mk,zsa],h⟩
theorem zcj (n:T) (l:List Tok):Ok (fun t l'=>t.size+2 * l'.length+1≤2 * l.length) (zLe n l):=by
 unfold zLe
 refine (zOe zhe l).bd fun xs l1 h=>Ok.ok ?_
 rw [size_mk];omega
theorem zMn (l:List Tok):Ok (Sz 0 l) (zwb l):=by
 unfold zwb
 refine (zGk l).bd fun n l1 h=>Ok.cond (fun _=>(zcj n l1).bd fun c l2 h2=>Ok.ok ?_) fun _=>Ok.cond (fun _=>(zQj l1).bd fun i l2 h2=>(zPa l2 (by decide)).bd fun _ l3 h3=>(zhe l3).bd fun b l4 h4=>Ok.ok ?_) fun _=>(zPa l1 (by decide)).bd fun _ l2 h2=>(zWo l2).bd fun x l3 h3=>Ok.ok ?_
 ·unfold Sz;rw [size_mk,zta,zsa];omega
 ·unfold Sz Sh at *;rw [size_mk,zta,zta,zsa];omega
 ·unfold Sz Sh at *;rw [size_mk,zta,zsa];omega
theorem zAl (l:List Tok):Ok (Sz 0 l) (zHa l):=by
 unfold zHa
 refine Ok.cond (fun _=>zMn l) fun _=>Ok.cond (fun _=>(zGc _).bd fun s l1 h=>Ok.ok ?_) fun _=>Ok.cond (fun _=>(zMm _ _ _).mono fun a l1 h=>?_) fun _=>Ok.cond (fun _=>(zMm _ _ _).mono fun a l1 h=>?_) fun _=>Ok.cond (fun hc=>(zjm _ _).mono fun a l1 h=>?_) fun _=>Ok.cond (fun hc=>Ok.ok ?_) fun _=>Ok.cond (fun _=>(zGc _).bd fun s l1 h=>(zOe zhe l1).bd fun xs l2 h2=>Ok.ok ?_) fun _=>Ok.err
 ·unfold Sz Sh at *;rw [size_mk,zsa];simp only [List.length_tail] at h;omega
 ·unfold Sz at *;simp only [List.length_tail] at h;omega
 ·unfold Sz at *;simp only [List.length_tail] at h;omega
 ·have:=zfg hc (by decide)
  unfold Sz at *;simp only [List.length_tail] at h;omega
 ·have:=zfg hc (by decide)
  unfold Sz;rw [size_mk,zsa];simp only [List.length_tail];omega
 ·unfold Sz Sh at *;rw [size_mk];simp only [List.length_tail] at h;omega
theorem zho {blk:List Tok→R T} (hb:∀ l,Ok (Sz 0 l) (blk l)) (p:Nat) (l:List Tok):Ok (Sz 1 l) (zKh blk p l):=by
 unfold zKh
 refine Ok.cond (fun _=>(hb _).mono fun a l1 h=>?_) (fun _=>Ok.ok ?_)
 ·unfold Sz at *;simp only [List.length_tail] at h;omega
 ·unfold Sz;rw [size_mk,zsa];omega
theorem if_sz {blk:List Tok→R T} (hb:∀ l,Ok (Sz 0 l) (blk l)) (p:Nat) (l:List Tok):Ok (Sz 0 l) (ifP blk p l):=by
 unfold ifP
 refine (zyf _ _ l).bd fun n l1 h=>(hb l1).bd fun b l2 h2=>(zho hb p l2).bd fun c l3 h3=>Ok.ok ?_
 unfold Sz at *;rw [zIg,zIg];omega
theorem zrn {blk:List Tok→R T} (hb:∀ l,Ok (Sz 0 l) (blk l)) (p:Nat) (l:List Tok):Ok (Sz 0 l) (zBf blk p l):=by
 unfold zBf
 refine (zyf _ _ l).bd fun n l1 h=>(hb l1).bd fun b l2 h2=>Ok.ok ?_
 unfold Sz at *;rw [zIg];omega
theorem zSo {blk:List Tok→R T} (hb:∀ l,Ok (Sz 0 l) (blk l)) (l:List Tok):Ok (Sz 0 l) (zzc blk l):=by
 unfold zzc
 refine Ok.cond (fun _=>(if_sz hb _ _).mono fun a l1 h=>?_) fun _=>Ok.cond (fun _=>(zrn hb _ _).mono fun a l1 h=>?_) fun _=>(zAl l).bd fun n l1 h=>(zPa l1 (by decide)).bd fun _ l2 h2=>Ok.ok ?_
 ·unfold Sz at *;simp only [List.length_tail] at h;omega
 ·unfold Sz at *;simp only [List.length_tail] at h;omega
 ·unfold Sz Sh at *;omega
theorem zIi {item:List Tok→R T} (hi:∀ l,Ok (Sz 0 l) (item l)):∀ (n:Nat) (l:List Tok),Ok (SzL 0 l) (zYc item n l)
 | 0,l=>Ok.err
 | n+1,l=>by
  rw [zYc]
  refine Ok.cond (fun _=>Ok.ok ?_) (fun _=>(hi l).bd fun a l1 h=>(zIi hi n l1).bd fun xs l2 h2=>Ok.ok ?_)
  ·unfold SzL;rw [zsa];simp only [List.length_tail];omega
  ·unfold SzL Sz at *;rw [zta];omega
theorem zBj:∀ (n:Nat) (l:List Tok),Ok (Sz 0 l) (zgb n l)
 | 0,l=>by rw [zgb];exact (zPa l (by decide)).bd fun _ _ _=>Ok.err
 | n+1,l=>by
  rw [zgb]
  refine (zPa l (by decide)).bd fun t l1 h=>(zIi (zSo (zBj n)) _ l1).bd fun xs l2 h2=>Ok.ok ?_
  unfold SzL Sz Sh at *;rw [size_mk];omega
theorem zml (l:List Tok):Ok (Sz 1 l) (zbd l):=by
 unfold zbd
 refine Ok.cond (fun _=>(zKf _).mono fun a l1 h=>?_) (fun _=>Ok.ok ?_)
 ·unfold Sz at *;simp only [List.length_tail] at h;omega
 ·unfold Sz;rw [size_mk,zsa];omega
theorem fn_sz (p:Nat) (l:List Tok):Ok (Sz 0 l) (fnP p l):=by
 unfold fnP
 refine (zGc l).bd fun s l1 h=>(zOe zon l1).bd fun xs l2 h2=>(zml l2).bd fun r l3 h3=>(zBj 8 l3).bd fun b l4 h4=>Ok.ok ?_
 unfold Sz Sh at *;rw [size_mk,zWb,zta,zta,zsa];omega
theorem zlo (l:List Tok):Ok (Sz 0 l) (zhd l):=by
 unfold zhd
 refine (zPa l (by decide)).bd fun t l1 h=>Ok.cond (fun _=>(zzo _ _).mono fun a l2 h2=>?_) (fun _=>(fn_sz _ _).mono fun a l2 h2=>?_)
 ·unfold Sz Sh at *;omega
 ·unfold Sz Sh at *;omega
theorem zKj:∀ (n:Nat) (l:List Tok),Ok (SzL 0 l) (zJd n l)
 | 0,l=>Ok.err
 | n+1,l=>by
  rw [zJd]
  refine Ok.cond (fun _=>Ok.ok ?_) (fun _=>(zlo l).bd fun a l1 h=>(zKj n l1).bd fun xs l2 h2=>Ok.ok ?_)
  ·unfold SzL;rw [zsa];omega
  ·unfold SzL Sz at *;rw [zta];omega
theorem zro {l l':List Tok} {t:T} (h:zPc l=.ok (t,l')):t.size≤2 * l.length+1:=by
 have h1:Ok (Sz 1 l) (zPc l):=by
  unfold zPc
  refine (zKj _ l).bd fun xs l1 h=>Ok.ok ?_
  unfold SzL at h;unfold Sz;rw [size_mk];omega
 have h2:=h1 t l' h
 unfold Sz at h2
 omega
end
section
open Go.RowKit
def cellsOf (ts:List Tok):List Value:=ts.flatMap zAa
def zEo (r:zXe) (w:World) (e:Ending) (w':World):Prop :=
 match r with
 | .error (p,c)=>e=.returned (.tuple #[.slice none 0 0,.int .i64 p,.int .i64 c])∧Below w.heap.size w w'
 | .ok ts=>∃ v,e=.returned (.tuple #[v,.int .i64 0,.int .i64 0])∧w'.ownsRow w.heap.size 73 4 v ts.length (cellsOf ts)∧Below w.heap.size w w'
def zWp (s:ByteArray) (w:World) (g:Nat) (v a:Value) (wr:World):Prop :=
 ∃ (k:Nat) (ts:List Tok),k≤s.size∧s.size≤k+g∧a=.int .i64 k∧wr.ownsRow w.heap.size 73 4 v ts.length (cellsOf ts)∧Below w.heap.size w wr∧ts.length≤k∧lexFrom s 0=more ts (lexFrom s k)
theorem Tryd.zpm:(Tryd.prog.info? 73).map (fun i=>(i.zero,i.size,i.bytes))=some (some (.agg #[.int .i64 0,.string ⟨#[]⟩,.int .i64 0,.int .i64 0]),4,40):=by kernel_rfl
theorem zWg {a w:World} (h:Below a.heap.size a w) (row:Option Nat):a.grownBy w row:=⟨h.os,h.tape,h.output,h.size,fun i hi _=>h.block i hi⟩
theorem own_below {a w:World} {base:Nat} {e:TypeId} {size n:Nat} {v:Value} {xs:List Value} (h:a.ownsRow base e size v n xs) (hb:Below a.heap.size a w):w.ownsRow base e size v n xs:=by
 refine h.kept (zWg hb none) ?_
 cases v.ownBlock
 ·exact .inl rfl
 ·exact .inr (by simp)
theorem zzf (ts:List Tok) (t:Tok):cellsOf (ts++[t])=cellsOf ts++zAa t:=by simp [cellsOf]
theorem zBc (t:Tok):∀ u∈zAa t,u.oneCell'=true:=by
 intro u hu
 simp only [zAa,List.mem_cons,List.not_mem_nil,or_false] at hu
 rcases hu with rfl|rfl|rfl|rfl<;>rfl
theorem zsg (t:Tok) (w:World) (e:TypeId) (b:Nat) (hb:b=w.heap.size):∀ j u,(zAa t)[j]?=some u →
  (w.alloc (.cells #[.int .i64 t.kind,.string t.text,.int .i64 t.num,.int .i64 t.place] e)).cell? ((⟨b,0,none⟩:Addr).add j)=some u:=by
 intro j u hj
 subst hb
 rw [Addr.add_mid,Nat.zero_add,cell_of_row _ _ _ _ _ _ (heap_alloc_new w _)]
 simpa [zAa] using hj
theorem zxl (w:World):(isAgg 5).run Tryd.prog w=.ok false w:=by
 unfold isAgg
 rw [Sem.run_bind,run_underlying Tryd.underlying5 w]
 rfl
theorem zWj:(Tryd.prog.info? 5).map (·.size)=some 1:=by kernel_rfl
theorem zop (w:World):(Instr.index 68 (.agg #[.int .u8 32,.int .u8 10]) (.int .i64 0)).run Tryd.prog w=.ok (.int .u8 32) w :=
 zNc (P:=Tryd.prog) (cs:=[.int .u8 32,.int .u8 10]) (k:=0) Tryd.underlying68 zxl zWj (by omega) rfl w
theorem zkp (w:World):(Instr.index 68 (.agg #[.int .u8 32,.int .u8 10]) (.int .i64 1)).run Tryd.prog w=.ok (.int .u8 10) w :=
 zNc (P:=Tryd.prog) (cs:=[.int .u8 32,.int .u8 10]) (k:=1) Tryd.underlying68 zxl zWj (by omega) rfl w
theorem zwj {b:UInt8} {n:Nat} (h:((b.toNat:Int) == (n:Int))=true):b=n.toUInt8:=by
 have h1:b.toNat=n:=by have:=beq_iff_eq.1 h;omega
 rw [← h1]
 simp
theorem zsj {b c:UInt8} (h:((b.toNat:Int) == (c.toNat:Int))=false):¬ b=c:=by
 intro e
 subst e
 simp at h
theorem zln {b:UInt8} (h:((b.toNat:Int) == 32)=true):zLb b=true:=by
 have:=zwj (n:=32) h
 subst this
 rfl
theorem zOm {b:UInt8} (h:((b.toNat:Int) == 10)=true):zLb b=true:=by
 have:=zwj (n:=10) h
 subst this
 rfl
theorem zcn {b:UInt8} (h:((b.toNat:Int) == 32)=false) (h2:((b.toNat:Int) == 10)=false):zLb b=false:=by
 have h1:=zsj (c:=32) h
 have h3:=zsj (c:=10) h2
 simp [zLb,h1,h3]
theorem zji {s:ByteArray} {k:Nat} {e:Int} (h:zLc s k=.error e):11≤e∧e≤13:=by
 have hs:∀ n,zXa s k n=.error e→e=11:=by
  intro n
  induction n with
  | zero=>unfold zXa zUd;split<;>intro h<;>cases h;rfl
  | succ n ih =>
          unfold zXa;split
          ·intro h;cases h
          ·exact ih
 unfold zLc at h
 split at h
 ·unfold zMb at h
  split at h
  ·cases h;decide
  ·split at h<;>cases h
 ·split at h
  ·unfold zIc at h
   split at h<;>cases h
   decide
  ·rw [hs 3 h];decide
theorem zpf (s:ByteArray) (w:World) (hs:s.size≤maxLen) (ht:Tabs w) :
  Calls Tryd.prog 9 #[.string s] w fun e w'=>zEo (zjc s) w e w':=by
 by_cases hbig:16384<s.size
 ·have hbig':16384<(s.size:Int):=by omega
  have hr:zjc s=.error (0,10):=by unfold zjc;rw [if_pos hbig]
  rw [hr]
  clear hr
  go_enter Tryd.func9,Tryd.ntmps9
  go_wp2
  go_step3
  go_wp2
  (try rw [Exit.noGoto_ret])
  go_ret3
  exact ⟨rfl,Below.refl _ _⟩
 have hr:zjc s=lexFrom s 0:=by unfold zjc;rw [if_neg hbig]
 rw [hr]
 clear hr
 have hbig':¬ 16384<(s.size:Int):=by omega
 go_enter Tryd.func9,Tryd.ntmps9
 go_wp2
 go_step3
 go_wp2
 go_step3
 go_wp2
 go_loopg [5,6] s.size (fun g v a wr=>zWp s w g v a wr)
 case atStart=>exact ⟨0,[],by omega,by omega,rfl,World.ownsRow_nil _ _ _ _,Below.refl _ _,by simp,(zWm _).symm⟩
 case round =>
  obtain ⟨k,ts,hk,hg,rfl,hown,hbel,hlen,hres⟩:=hrel
  have HR:=zh hres
  have htr:=ht.below hbel ht.size
  have hb0:=htr.b0
  have hb1:=htr.b1
  have HOWN:=zh hown
  have HBEL:=zh hbel
  have HT:=zh htr
  clear hres hown hbel htr
  by_cases hlt:k<s.size
  ·have hi0:=zop
   have hi1:=zkp
   cases h32:((s[k].toNat:Int) == 32)
   ·cases h10:((s[k].toNat:Int) == 10)
    ·cases h35:((s[k].toNat:Int) == 35)
     ·have hnb:zLb (bat s k)=false:=by rw [zgc s k hlt];exact zcn h32 h10
      have hnr:¬ bat s k=35:=by rw [zgc s k hlt];exact zsj h35
      cases hta:zLc s k with
      | error e0 =>
       have HE:=zh (zgm hlt hnb hnr hta)
       have hte:=zji hta
       have HA:=zh hta
       clear hta hnb hnr
       have hne:(e0 != 0)=true:=by rw [bne_iff_ne];omega
       go_wp2_with fail
       refine wp_loop_rounds 3 ?_
       rw [rounds_succ]
       go_wp2_with fail
       rw [rounds_succ]
       go_wp2_with fail
       rw [rounds_succ]
       go_wp2_with fail
       refine (zKg s k _ hs hlt HT.out).mono ?_
       rintro e w1 ⟨rfl,hb⟩
       rw [HA.out]
       unfold zao errR zsb
       have HB:=zh (HBEL.out.trans (hb.mono HBEL.out.size))
       obtain ⟨hc,hf⟩:=zHk hb
       clear hb
       go_wp2
       (try rw [Exit.noGoto_ret])
       go_ret3
       rw [HR.out,HE.out]
       refine ⟨rfl,?_⟩
       have hz:w.heap.size≤w1.heap.size:=HB.out.size
       exact HB.out.alloc hz _
      | ok t =>
       have hsz:=zvd hlt hta
       have HE:=zh (zbl hlt hnb hnr hta)
       have HA:=zh hta
       clear hta hnb hnr
       go_wp2_with fail
       refine wp_loop_rounds 3 ?_
       rw [rounds_succ]
       go_wp2_with fail
       rw [rounds_succ]
       go_wp2_with fail
       rw [rounds_succ]
       go_wp2_with fail
       refine (zKg s k _ hs hlt HT.out).mono ?_
       rintro e w1 ⟨rfl,hb⟩
       rw [HA.out]
       unfold zao okR zsb
       have HB:=zh (HBEL.out.trans (hb.mono HBEL.out.size))
       have HO:=zh (own_below HOWN.out hb)
       obtain ⟨hc,hf⟩:=zHk hb
       have hz:w.heap.size≤w1.heap.size:=HB.out.size
       clear hb
       obtain ⟨i0,hi,hz0,hz1,hz2⟩:=info_parts Tryd.zpm
       go_wp2_with (at_builtin;refine wpList_append_own _ rfl (.tmp 47) (.tmp 49) 51 rfl w.heap.size 73 i0 _ 4 40 Tryd.underlying51 hi hz0 hz1 hz2 rfl (by decide) _ _ _ rfl ((HO.out.alloc _).alloc _) ⟨w1.heap.size+1,0,none⟩ 1 1 (zAa t) rfl rfl ?c1 (zBc t) ?c3 ?c4 ?c5 ?_)
       case c1=>exact zsg t _ _ _ (by simp)
       case c3=>unfold maxLen;omega
       case c4=>omega
       case c5=>simp;omega
       intro v' w2 hown2 hgrow2 _
       have HO2:=zh hown2
       have HG2:=zh (((HB.out.alloc hz _).alloc (by simp;omega) _).grown hgrow2 (by simp;omega) (fun j hj=>(HO.out.lt j hj).1))
       have htc:w2.cell? ⟨w1.heap.size,1,none⟩=some (.string t.text) :=
        hgrow2.cell ((World.cell?_alloc_past _ _ _ (by simp)).trans (cell_of_row _ _ _ _ _ _ (heap_alloc_new w1 _))) (fun h=>absurd ((HO.out.lt _ h.symm).2) (Nat.lt_irrefl _))
       clear hown2 hgrow2
       have hsz1:=hsz.1
       have hsz2:=hsz.2
       have hbs:s.size≤16384:=by omega
       clear hsz
       go_wp2
       go_roundg (gk-1)
       case measure=>omega
       case rel=>exact ⟨k+t.text.size,ts++[t],by omega,by omega,by go_num,by rw [zzf];simpa using HO2.out,HG2.out,by simp;omega,HR.out.trans (by rw [HE.out,zfl])⟩
     ·have hnr:bat s k=35:=by rw [zgc s k hlt];exact zwj h35
      have HE:=zh (zih hlt hnr)
      have hge:=zee hlt hnr
      have hle:=zkd zAk s k (by omega)
      go_wp2_with fail
      refine wp_loop_rounds 3 ?_
      rw [rounds_succ]
      go_wp2_with fail
      rw [rounds_succ]
      go_wp2_with fail
      rw [rounds_succ]
      go_wp2_with fail
      refine (zUh s k wr hs (by omega) (by omega)).mono ?_
      rintro e w' ⟨rfl,rfl⟩
      go_wp2
      go_roundg (gk-1)
      case measure=>omega
      case rel=>exact ⟨endOf zAk s k,ts,by omega,by omega,rfl,HOWN.out,HBEL.out,by omega,HR.out.trans (by rw [HE.out])⟩
    ·have HE:=zh (zkg hlt (by rw [zgc s k hlt];exact zOm h10))
     go_wp2_with fail
     refine wp_loop_rounds 3 ?_
     rw [rounds_succ]
     go_wp2_with fail
     rw [rounds_succ]
     go_wp2_with fail
     go_roundg (gk-1)
     case measure=>omega
     case rel=>exact ⟨k+1,ts,by omega,by omega,by go_num,HOWN.out,HBEL.out,by omega,HR.out.trans (by rw [HE.out])⟩
   ·have HE:=zh (zkg hlt (by rw [zgc s k hlt];exact zln h32))
    go_wp2_with fail
    refine wp_loop_rounds 3 ?_
    rw [rounds_succ]
    go_wp2_with fail
    go_roundg (gk-1)
    case measure=>omega
    case rel=>exact ⟨k+1,ts,by omega,by omega,by go_num,HOWN.out,HBEL.out,by omega,HR.out.trans (by rw [HE.out])⟩
  ·have HE:=zh (zAm (s:=s) (k:=k) (by omega))
   have hz:w.heap.size≤wr.heap.size:=HBEL.out.size
   have hbs:s.size≤16384:=by omega
   obtain ⟨i0,hi,hz0,hz1,hz2⟩:=info_parts Tryd.zpm
   go_wp2_with (at_builtin;refine wpList_append_own _ rfl (.tmp 56) (.tmp 60) 51 rfl w.heap.size 73 i0 _ 4 40 Tryd.underlying51 hi hz0 hz1 hz2 rfl (by decide) _ _ _ rfl (HOWN.out.alloc _) ⟨wr.heap.size,0,none⟩ 1 1 (zAa (zcf s)) rfl rfl ?d1 (zBc (zcf s)) ?d3 ?d4 ?d5 ?_)
   case d1=>exact zsg (zcf s) _ _ _ rfl
   case d3=>unfold maxLen;omega
   case d4=>omega
   case d5=>simp;omega
   intro v' w2 hown2 hgrow2 _
   have HO2:=zh hown2
   have HG2:=zh ((HBEL.out.alloc hz _).grown hgrow2 (by simp;omega) (fun j hj=>(HOWN.out.lt j hj).1))
   clear hown2 hgrow2
   go_wp2
   (try rw [Exit.noGoto_ret])
   go_ret3
   rw [HR.out,HE.out]
   exact ⟨v',rfl,by rw [zzf];simpa using HO2.out,HG2.out⟩
end
section
open Go.ChangeShapes Go.WideShapes Go.ChangeAt Go.ChangeMaps Go.RowKit
theorem own:ownKnob Tryd.prog.godebug=none:=by kernel_rfl
theorem gKeys:Tryd.prog.globalNamed "lychgate/lex.keys" = some 2:=by kernel_rfl
theorem zso:Tryd.prog.globalNamed "lychgate/lex.blanks" = some 0:=by kernel_rfl
theorem zhp:Tryd.prog.globalNamed "lychgate/lex.pairs" = some 1:=by kernel_rfl
theorem tKeys:(Tryd.prog.globals[2]?).map (·.type)=some 125:=by kernel_rfl
theorem zwo:(Tryd.prog.globals[0]?).map (·.type)=some 68:=by kernel_rfl
theorem zYp:(Tryd.prog.globals[1]?).map (·.type)=some 111:=by kernel_rfl
theorem zMl:Tryd.prog.cellsOf 9=1:=by kernel_rfl
theorem cByte:Tryd.prog.cellsOf 5=1:=by kernel_rfl
theorem zAo:Tryd.prog.cellsOf 68=2:=by kernel_rfl
theorem zKn (s:ByteArray):s=⟨s.data.toList.toArray⟩:=by
 obtain ⟨d⟩:=s
 simp
theorem zif {H:Type} {enc:TypeId × Value→H} {P:Program} {w:World} {base:Nat} {sp:Nat→Bool} {held:Bool} {fuel:Nat} {t e:TypeId} {n:Nat} {cs:List Value} {ls:List (List UInt8)} {p:List MemPlace}
  (ht:P.underlying t=some (.array n e)) (he:P.underlying e=some .string) (hce:P.cellsOf e=1)
  (h:DataW.trod enc P w base sp held fuel t cs=some (.agg (ls.map fun l=>.lit (.string l)),p)) (i:Nat) (hi:i<n):cs[i]?=some (.string ⟨(ls.getD i []).toArray⟩):=by
 obtain ⟨xs,m,_,hx,_,hxl,hel⟩:=DataW.trod_array ht h
 simp only [Prod.mk.injEq,DataW.agg.injEq] at hx
 have h1:=hel i hi
 rw [hce,Nat.mul_one,List.getElem?_eq_getElem (by omega)] at h1
 obtain ⟨s,hc,hy,_⟩:=DataW.trod_string he h1
 have h2:cs[i]?=some (.string s):=by
  have:=congrArg (·[0]?) hc
  simpa [List.getElem?_take,List.getElem?_drop] using this
 have h3:(ls.map fun l=>(DataW.lit (.string l):DataW H))[i]?=some (.lit (.string s.data.toList)):=by
  rw [hx.1,List.getElem?_map,List.getElem?_eq_getElem (by omega),hy]
  rfl
 rw [List.getElem?_map,Option.map_eq_some_iff] at h3
 obtain ⟨l,hl,hs⟩:=h3
 simp only [DataW.lit.injEq,Lit.string.injEq] at hs
 rw [h2,List.getD_eq_getElem?_getD,hl,Option.getD_some,hs,← zKn]
theorem cell_lt {w:World} {b o:Nat} {v:Value} (h:w.cell? ⟨b,o,none⟩=some v):b<w.heap.size:=by
 rcases Nat.lt_or_ge b w.heap.size with hlt|hge
 ·exact hlt
 ·simp [World.cell?,Array.getElem?_eq_none hge] at h
def zep:List (String × DataW Unit):=[("lychgate/lex.keys", Rows.laid_lychgate_lex_keys),("lychgate/lex.blanks", Rows.laid_lychgate_lex_blanks),("lychgate/lex.pairs", Rows.laid_lychgate_lex_pairs)]
theorem zqi {W:World} (h:laidMetH Tryd.prog zep W):Tabs W:=by
 rw [MakeChecks.laidMetH_plain _ _ _ (by kernel_rfl)] at h
 obtain ⟨ps,⟨g0,t0,cs0,f0,p0,q0,hg0,ht0,hv0,hd0,⟨g1,t1,cs1,f1,p1,q1,hg1,ht1,hv1,hd1,⟨g2,t2,cs2,f2,p2,q2,hg2,ht2,hv2,hd2,_,_⟩,_⟩,_⟩,_,_⟩:=h
 obtain rfl:=Option.some.inj (gKeys.symm.trans hg0)
 obtain rfl:=Option.some.inj (zso.symm.trans hg1)
 obtain rfl:=Option.some.inj (zhp.symm.trans hg2)
 obtain rfl:=Option.some.inj (tKeys.symm.trans ht0)
 obtain rfl:=Option.some.inj (zwo.symm.trans ht1)
 obtain rfl:=Option.some.inj (zYp.symm.trans ht2)
 have hk:∀ i,i<20→W.cell? ⟨2,i,none⟩=some (.string (keyAt i)):=fun i hi=>by
  have h1:=World.var?_cell hg0 hv0 i
  have h2:=zif (ls:=zSc) Tryd.underlying125 Tryd.underlying9 zMl hd0 i hi
  rw [h1,← Array.getElem?_toList,h2]
  rfl
 have hp:∀ i,i<3→W.cell? ⟨1,i,none⟩=some (.string (zKc i)):=fun i hi=>by
  have h1:=World.var?_cell hg2 hv2 i
  have h2:=zif (ls:=[[45,62],[60,61],[61,61]]) Tryd.underlying111 Tryd.underlying9 zMl hd2 i hi
  rw [h1,← Array.getElem?_toList,h2]
  rfl
 have hb:=Lib.cells_of_tab (zs:=[32,10]) Tryd.underlying68 Tryd.underlying5 cByte zAo hd1
 have hb':∀ i:Nat,W.cell? ⟨0,i,none⟩=([32,10].map fun z=>Value.int .u8 z)[i]?:=fun i=>by
  rw [World.var?_cell hg1 hv1 i,← Array.getElem?_toList,hb]
 exact ⟨hb' 0,hb' 1,hk,hp,cell_lt (hb' 0),cell_lt (hk 0 (by omega)),cell_lt (hp 0 (by omega))⟩
def laying (cs:Array Value):Obj→Obj
 | .cells _ t frozen=>.cells cs t frozen
 | o=>o
noncomputable def laidWorld (os:Os):World :=
 { World.holding Tryd.prog os ⟨#[],#[],[]⟩ with heap:=(((World.holding Tryd.prog os ⟨#[],#[],[]⟩).heap.modify 0 (laying #[.int .u8 32,.int .u8 10])).modify 2 (laying zbe.toArray)).modify 1 (laying zdf.toArray) }
theorem zHl {H:Type} {enc:TypeId × Value→H} {fn:Func} {sp:ChangeSpec} {W W':World} {s:ByteArray} {before:List MemPlace}
  (hp:fn.params.toList=[9]) (hr:fn.resultTypes=#[4]) (hvars:sp.vars=[]) (hfn:sp.fn H [.lit (.string s.data.toList)]={ results:=[.lit (.bool true)],args:=[.lit (.string s.data.toList)] }) (hs:s.size≤maxLen)
  (hW:DataW.Whole enc Tryd.prog fn.params.toList sp.vars false W [.string s] [.lit (.string s.data.toList)] [] before) (hb:Below W.heap.size W W') :
  sp.post enc Tryd.prog fn false true false false W #[.string s] (.bool true) W':=by
 refine ⟨_,_,before,[],[],[],hW,?_,?_,?_,hb.frame _,fun h=>by cases h⟩
 ·rw [List.append_nil,hfn,hr]
  exact trodAll_cons_mk (shut_bool Tryd.underlying4 _) trodAll_mk0
 ·rw [List.append_nil,hfn,hp]
  exact trodAll_cons_mk (shut_string Tryd.underlying9 hs) trodAll_mk0
 ·rw [List.append_nil,hfn,hvars]
  rfl
theorem zSe {H:Type} {enc:TypeId × Value→H} {f:FuncId} {fn:Func} {sp:ChangeSpec} (hp:fn.params=#[9]) (hr:fn.resultTypes=#[4]) (hvars:sp.vars=[])
  (hfn:∀ d:DataW H,sp.fn H [d]={ results:=[.lit (.bool true)],args:=[d] })
  (walk:∀ (s:ByteArray) (w:World),s.size≤maxLen→Tabs w→Calls Tryd.prog f #[.string s] w fun e w'=>e=.returned (.bool true)∧Below w.heap.size w w')
  (W:World) (base:Nat) (args:Array Value) (ds gs:List (DataW H)) (before:List MemPlace)
  (hval:∀ (j:Nat) t v,fn.params[j]?=some t→args[j]?=some v→Value.okWide Tryd.prog W .any base t v)
  (hW:DataW.Whole enc Tryd.prog fn.params.toList sp.vars false W args.toList ds gs before) (hL:laidMetH Tryd.prog zep W) :
  Calls Tryd.prog f args W fun e W'=>∃ v,e=.returned v∧sp.post enc Tryd.prog fn false true false false W args v W':=by
 have hW':=hW
 obtain ⟨p,q,hA0,hV,rfl,hfz,hnd⟩:=hW
 rw [hvars] at hV
 have hA:DataW.TrodAll enc Tryd.prog W 0 (fun _=>true) true fn.params.toList args.toList ds p:=hA0
 rw [hp] at hA hval
 obtain ⟨v0,vs0,d0,ds0,p0,q0,hargs,rfl,rfl,h0,r0⟩:=trodAll_cons hA
 obtain ⟨rfl,rfl,rfl⟩:=trodAll_nil r0
 obtain rfl:args=#[v0]:=by cases args;simp_all
 obtain ⟨rfl,rfl⟩:=trodVars_none hV
 obtain ⟨s,rfl,rfl,rfl,hs⟩:=open_string Tryd.underlying9 (hval 0 9 v0 (by simp) (by simp)) h0
 clear hA0
 refine (walk s W hs (zqi hL)).mono fun e W' ⟨he,hb⟩=>⟨_,he,?_⟩
 exact zHl (by rw [hp]) hr hvars (hfn _) hs hW' hb
theorem zWe (os:Os):laidMet Tryd.prog zep ((laidWorld os).forCall (fun _ _=>0) ⟨#[],#[.string ⟨#[]⟩],[]⟩).memory :=
 laidMet_of_run' 8 (by kernel_rfl) (by kernel_rfl)
end
end Go.Proofs.YtdhmdfhnkppnmaaDoor
