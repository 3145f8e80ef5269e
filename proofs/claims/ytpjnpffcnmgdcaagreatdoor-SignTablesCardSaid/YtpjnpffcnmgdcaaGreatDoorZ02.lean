/- The plain account of layer 2: trees, and the reader of tokens, line by line of the grammar in the way that package word reads it. Nothing of the program is walked here. How great a tree is that was read: no greater than twice the tokens that it was read from. Nothing of the program is walked here. The contract of lex.Tokens in a world that holds the tables of lex: it returns what the plain account says, in new memory, and changes nothing that was there. What the rows' list of package-level variables gives the walks: a world that meets it holds the tables of lex (Tabs). And the world of the witness, which meets it. A row of tokens in memory, read token by token. -/
import Derived.Test.YtpjnpffcnmgdcaaGreatDoorZ01
import Derived.Deep.LoopGhost
import Derived.WalkMore
import Derived.Test.YtpjnpffcnmgdcaaGreatDoorCards
import Derived.Test.YtpjnpffcnmgdcaaGreatDoorTie
import Derived.ProofKit
import Derived.OpenShut
import Derived.Deep.DeepHandedRow
import Derived.Lib.LaidTab
import Derived.Deep.AppendLies
namespace Go.Proofs.YtpjnpffcnmgdcaaGreatDoor
set_option maxHeartbeats 1000000
section
open Go.RowKit
inductive T where
 | mk (kind:Int) (text:ByteArray) (num:Int) (place:Nat) (kids:List T)
def T.kids:T→List T|.mk _ _ _ _ ks=>ks
def T.text:T→ByteArray|.mk _ s _ _ _=>s
def T.place:T→Nat|.mk _ _ _ p _=>p
def T.kind:T→Int|.mk k _ _ _ _=>k
def T.num:T→Int|.mk _ _ n _ _=>n
abbrev R (α:Type):=Except (Nat × Int) (α × List Tok)
def bd {α β:Type} (r:R α) (f:α→List Tok→R β):R β :=
 match r with
 | .error e=>.error e
 | .ok (a,l)=>f a l
theorem zpa {α β:Type} {r:R α} {a:α} {l:List Tok} (h:r=.ok (a,l)) (f:α→List Tok→R β):bd r f=f a l:=by rw [h];rfl
theorem zya {α β:Type} {r:R α} {e:Nat × Int} (h:r=.error e) (f:α→List Tok→R β):bd r f=.error e:=by rw [h];rfl
def hdT (l:List Tok):Tok:=l.headD zVa
def bs (l:List UInt8):ByteArray:=⟨l.toArray⟩
def isT (t:Tok) (s:ByteArray):Bool:=t.text.toList == s.toList
def zsa (ss:List ByteArray) (l:List Tok):R Tok:=bif ss.any (isT (hdT l)) then .ok (hdT l,l.tail) else .error ((hdT l).place,20)
def zkd (k:Nat) (l:List Tok):R Tok:=bif (hdT l).kind == k then .ok (hdT l,l.tail) else .error ((hdT l).place,20)
def zKb (l:List Tok):R ByteArray:=bd (zkd 1 l) fun t l=>.ok (t.text,l)
def zEa (l:List Tok):R Int:=bd (zkd 3 l) fun t l=>.ok ((t.num:Int),l)
def e0:ByteArray:=⟨#[]⟩
def zEd (item:List Tok→R T):Nat→List Tok→R (List T)
 | 0,_=>.error (0,0)
 | n+1,l=>bif isT (hdT l) (bs [44]) then bd (item l.tail) fun a l=>bd (zEd item n l) fun xs l=>.ok (a :: xs,l) else .ok ([],l)
def zRd (item:List Tok→R T) (l:List Tok):R (List T):=bd (item l) fun a l=>bd (zEd item l.length l) fun xs l=>.ok (a :: xs,l)
def zfb (item:List Tok→R T) (l:List Tok):R (List T) :=
 bd (zsa [bs [40]] l) fun _ l=>bif isT (hdT l) (bs [41]) then .ok ([],l.tail) else bd (zRd item l) fun xs l=>bd (zsa [bs [41]] l) fun _ l=>.ok (xs,l)
def zoa (l:List Tok):R T:=bd (zKb l) fun s l1=>.ok (.mk 5 s 0 (hdT l).place [],l1)
def zPa (l:List Tok):R T :=
 bif isT (hdT l) (bs [45]) then bd (zEa l.tail) fun n l1=>.ok (.mk 5 e0 (-n) (hdT l).place [],l1)
 else bd (zEa l) fun n l1=>.ok (.mk 5 e0 n (hdT l).place [],l1)
def sumP (l:List Tok):Option (Int × Int):=bif isT (hdT l) (bs [43]) then some (21,1) else bif isT (hdT l) (bs [45]) then some (22,-1) else none
def zKl (r:Option (Int × Int)) (a:R T) (f:Int→Int→R T):R T :=
 match r with
 | none=>a
 | some (k,x)=>f k x
theorem zGk {r:Option (Int × Int)} (h:r=none) (a:R T) (f:Int→Int→R T):zKl r a f=a:=by rw [h];rfl
theorem zZe {r:Option (Int × Int)} {k x:Int} (h:r=some (k,x)) (a:R T) (f:Int→Int→R T):zKl r a f=f k x:=by rw [h];rfl
def T.zkb (v:Int):T→T|.mk k s _ p ks=>.mk k s v p ks
def zXa (l:List Tok):R T :=
 bif (hdT l).kind == 1 then bd (zoa l) fun n l1=>zKl (sumP l1) (.ok (n,l1)) fun _ f=>bd (zEa l1.tail) fun v l2=>.ok (n.zkb (f * v),l2)
 else zPa l
def zwd (l:List Tok):R T:=bd (zsa [bs [91]] l) fun _ l=>bd (zXa l) fun a l=>bd (zsa [bs [93]] l) fun _ l=>.ok (a,l)
def zOf (n:T) (l:List Tok):R T:=bd (zfb zXa l) fun xs l=>.ok (.mk 28 n.text 0 n.place xs,l)
def zJl (p:Nat) (l:List Tok):R T :=
 bif isT (hdT l) (bs [109,117,116]) then bd (zKb l.tail) fun s l=>.ok (.mk 27 s 0 p [],l) else bd (zKb l) fun s l=>.ok (.mk 26 s 0 p [],l)
def zMa (l:List Tok):R T :=
 bd (zoa l) fun n l =>
  bif isT (hdT l) (bs [91]) then bd (zwd l) fun a l=>.ok (.mk 25 n.text 0 n.place [a],l)
  else bif isT (hdT l) (bs [40]) then zOf n l
  else zKl (sumP l) (.ok (n,l)) fun k f =>
   bif (hdT l.tail).kind == 1 then bd (zoa l.tail) fun m l=>.ok (.mk k e0 0 n.place [n,m],l)
   else bd (zEa l.tail) fun v l=>.ok (n.zkb (f * v),l)
def zpc (l:List Tok):R T :=
 bif isT (hdT l) (bs [110,101,119]) then bd (zEa l.tail) fun v l1=>.ok (.mk 23 e0 v (hdT l).place [],l1)
 else bif isT (hdT l) (bs [97,114,114,97,121]) then bd (zKb l.tail) fun s l1=>.ok (.mk 24 s 0 (hdT l).place [],l1)
 else bif isT (hdT l) (bs [38]) then zJl (hdT l).place l.tail
 else bif (hdT l).kind == 1 then zMa l
 else zPa l
def zib (k:Int) (p:Nat) (l:List Tok):R T :=
 bd (zXa l) fun a l=>bd (zsa [bs [60],bs [60,61],bs [61,61]] l) fun c l=>bd (zXa l) fun b l=>.ok (.mk k c.text 0 p [a,b],l)
def zWd (l:List Tok):R T:=zib 4 (hdT l).place l
def zsc (l:List Tok):R T :=
 bd (zKb l) fun s l1=>bif isT (hdT l1) (bs [91]) then bd (zoa l1.tail) fun a l2=>bd (zsa [bs [93]] l2) fun _ l3=>.ok (.mk 3 s 0 (hdT l).place [a],l3) else .ok (.mk 3 s 0 (hdT l).place [],l1)
def zKd (l:List Tok):R T :=
 bd (zsa [bs [111,119,110],bs [99,101,108,108],bs [99,111,117,110,116,101,100],bs [108,111,99,107],bs [103,117,97,114,100]] l) fun t l1 =>
  bif isT t (bs [111,119,110]) || isT t (bs [99,101,108,108]) then .ok (.mk 2 t.text 0 t.place [],l1) else bd (zoa l1) fun a l2=>.ok (.mk 2 t.text 0 t.place [a],l2)
def zQa (l:List Tok):R T :=
 bd (zsa [bs [105,110,116],bs [111,119,110]] l) fun t l1 =>
  bif isT t (bs [111,119,110]) then bd (zoa l1) fun a l2=>.ok (.mk 8 t.text 0 t.place [a],l2) else .ok (.mk 8 t.text 0 t.place [],l1)
def zYc (l:List Tok):R T :=
 bif isT (hdT l) (bs [38]) then
  bif isT (hdT l.tail) (bs [109,117,116]) then bd (zoa l.tail.tail) fun a l2=>.ok (.mk 8 (bs [38,109,117,116]) 0 (hdT l).place [a],l2)
  else bd (zoa l.tail) fun a l2=>.ok (.mk 8 (bs [38]) 0 (hdT l).place [a],l2)
 else zQa l
def zBc (l:List Tok):R T :=
 bd (zKb l) fun s l1=>bd (zsa [bs [58]] l1) fun _ l2=>bd (zYc l2) fun a l3=>.ok (.mk 7 s 0 (hdT l).place [a],l3)
def zXc (l:List Tok):R (List T) :=
 bif isT (hdT l) (bs [123]) then bd (zRd zsc l.tail) fun xs l1=>bd (zsa [bs [125]] l1) fun _ l2=>.ok (xs,l2) else .ok ([],l)
def zld (l:List Tok):R (List T) :=
 bif isT (hdT l) (bs [119,104,101,114,101]) then zRd zWd l.tail else .ok ([],l)
def zdc (p:Nat) (l:List Tok):R T :=
 bd (zKb l) fun s l1=>bd (zKd l1) fun a l2=>bd (zXc l2) fun ys l3=>bd (zld l3) fun zs l4=>bd (zsa [bs [59]] l4) fun _ l5=>.ok (.mk 1 s 0 p (a :: (ys++zs)),l5)
def zue (k:Int) (p:Nat) (l:List Tok):R T :=
 bd (zKb l) fun s l1=>bd (zsa [bs [91]] l1) fun _ l2=>bd (zEa l2) fun v l3=>bd (zsa [bs [93]] l3) fun _ l4=>.ok (.mk k s v p [],l4)
def zMc (p:Nat) (l:List Tok):R T :=
 bif isT (hdT l) (bs [59]) then .ok (.mk 17 e0 0 p [],l) else bd (zXa l) fun a l1=>.ok (.mk 17 e0 0 p [a],l1)
def zIb (l:List Tok):R T :=
 bd (zoa l) fun n l1 =>
  bif isT (hdT l1) (bs [40]) then bd (zOf n l1) fun c l2=>.ok (.mk 20 e0 0 n.place [c],l2)
  else bif isT (hdT l1) (bs [91]) then bd (zwd l1) fun i l2=>bd (zsa [bs [61]] l2) fun _ l3=>bd (zXa l3) fun b l4=>.ok (.mk 11 n.text 0 n.place [i,b],l4)
  else bd (zsa [bs [61]] l1) fun _ l2=>bd (zpc l2) fun x l3=>.ok (.mk 10 n.text 0 n.place [x],l3)
def zTa (l:List Tok):R T :=
 bif (hdT l).kind == 1 then zIb l
 else bif isT (hdT l) (bs [102,114,101,101]) then bd (zKb l.tail) fun s l1=>.ok (.mk 12 s 0 (hdT l).place [],l1)
 else bif isT (hdT l) (bs [108,111,99,107]) then zue 13 (hdT l).place l.tail
 else bif isT (hdT l) (bs [117,110,108,111,99,107]) then zue 14 (hdT l).place l.tail
 else bif isT (hdT l) (bs [114,101,116,117,114,110]) then zMc (hdT l).place l.tail
 else bif isT (hdT l) (bs [97,98,111,114,116]) then .ok (.mk 18 e0 0 (hdT l).place [],l.tail)
 else bif isT (hdT l) (bs [102,111,114,107]) then bd (zKb l.tail) fun s l1=>bd (zfb zXa l1) fun xs l2=>.ok (.mk 19 s 0 (hdT l).place xs,l2)
 else .error ((hdT l).place,20)
def T.snoc:T→T→T|.mk k s n p ks,b=>.mk k s n p (ks++[b])
def zFh (blk:List Tok→R T) (p:Nat) (l:List Tok):R T :=
 bif isT (hdT l) (bs [101,108,115,101]) then blk l.tail else .ok (.mk 9 e0 0 p [],l)
def ifP (blk:List Tok→R T) (p:Nat) (l:List Tok):R T :=
 bd (zib 15 p l) fun n l1=>bd (blk l1) fun b l2=>bd (zFh blk p l2) fun c l3=>.ok ((n.snoc b).snoc c,l3)
def zrh (blk:List Tok→R T) (p:Nat) (l:List Tok):R T :=
 bd (zib 16 p l) fun n l1=>bd (blk l1) fun b l2=>.ok (n.snoc b,l2)
def zRb (blk:List Tok→R T) (l:List Tok):R T :=
 bif isT (hdT l) (bs [105,102]) then ifP blk (hdT l).place l.tail
 else bif isT (hdT l) (bs [119,104,105,108,101]) then zrh blk (hdT l).place l.tail
 else bd (zTa l) fun n l1=>bd (zsa [bs [59]] l1) fun _ l2=>.ok (n,l2)
def zac (item:List Tok→R T):Nat→List Tok→R (List T)
 | 0,_=>.error (0,0)
 | n+1,l=>bif isT (hdT l) (bs [125]) then .ok ([],l.tail) else bd (item l) fun a l1=>bd (zac item n l1) fun xs l2=>.ok (a :: xs,l2)
def zYa:Nat→List Tok→R T
 | 0,l=>bd (zsa [bs [123]] l) fun t _=>.error (t.place,21)
 | n+1,l=>bd (zsa [bs [123]] l) fun t l1=>bd (zac (zRb (zYa n)) l1.length l1) fun xs l2=>.ok (.mk 9 e0 0 t.place xs,l2)
def zAc (l:List Tok):R T :=
 bif isT (hdT l) (bs [45,62]) then zQa l.tail else .ok (.mk 8 e0 0 (hdT l).place [],l)
def fnP (p:Nat) (l:List Tok):R T :=
 bd (zKb l) fun s l1=>bd (zfb zBc l1) fun xs l2=>bd (zAc l2) fun r l3=>bd (zYa 8 l3) fun b l4=>.ok (.mk 6 s 0 p (xs++[r,b]),l4)
def zfd (l:List Tok):R T :=
 bd (zsa [bs [116,121,112,101],bs [102,110]] l) fun t l1=>bif isT t (bs [116,121,112,101]) then zdc t.place l1 else fnP t.place l1
def zQc:Nat→List Tok→R (List T)
 | 0,_=>.error (0,0)
 | n+1,l=>bif (hdT l).kind == 0 then .ok ([],l) else bd (zfd l) fun a l1=>bd (zQc n l1) fun xs l2=>.ok (a :: xs,l2)
def zyd (l:List Tok):R T:=bd (zQc (l.length+1) l) fun xs l1=>.ok (.mk 0 e0 0 0 xs,l1)
mutual
def T.size:T→Nat
 | .mk _ _ _ _ ks=>1+sizes ks
def sizes:List T→Nat
 | []=>0
 | t :: ts=>t.size+sizes ts
end
def zdb:T:=.mk 0 e0 0 0 []
def zIc (l:List Tok):T × Nat × Int :=
 match zyd l with
 | .error (p,e)=>(zdb,p,e)
 | .ok (t,_)=>if 4096<t.size then (zdb,0,22) else (t,0,0)
def zhb (s:ByteArray):T × Nat × Int :=
 match zZb s with
 | .error (p,e)=>(zdb,p,e)
 | .ok ts=>zIc ts
end
section
open Go.RowKit
def Ok {α:Type} (G:α→List Tok→Prop) (r:R α):Prop:=∀ a l,r=.ok (a,l)→G a l
section
variable {α β:Type} {G:α→List Tok→Prop} {H:β→List Tok→Prop}
theorem Ok.bd {r:R α} {f:α→List Tok→R β} (hr:Ok G r) (hf:∀ a l,G a l→Ok H (f a l)):Ok H (bd r f):=by
 intro b l h
 cases hq:r with
 | error e=>rw [zya hq] at h;cases h
 | ok q =>
  obtain ⟨a,l1⟩:=q
  rw [zpa hq] at h
  exact hf a l1 (hr a l1 hq) b l h
theorem Ok.cond {b:Bool} {x y:R α} (hx:b=true→Ok G x) (hy:b=false→Ok G y):Ok G (bif b then x else y):=by
 cases b
 ·exact hy rfl
 ·exact hx rfl
theorem Ok.ok {a:α} {l:List Tok} (h:G a l):Ok G (.ok (a,l)):=by intro b l' e;cases e;exact h
theorem Ok.err {e:Nat × Int}:Ok G (.error e:R α):=by intro b l' h;cases h
theorem Ok.mono {G':α→List Tok→Prop} {r:R α} (h:Ok G r) (hg:∀ a l,G a l→G' a l):Ok G' r:=fun a l e=>hg a l (h a l e)
end
theorem Ok.sum {G:T→List Tok→Prop} {s:Option (Int × Int)} {a:R T} {f:Int→Int→R T} (ha:s=none→Ok G a) (hf:∀ k x,s=some (k,x)→Ok G (f k x)):Ok G (zKl s a f):=by
 cases s with
 | none=>exact ha rfl
 | some q=>exact hf q.1 q.2 rfl
def Sz (c:Nat) (l:List Tok) (t:T) (l':List Tok):Prop:=t.size+2 * l'.length≤2 * l.length+c
def SzL (c:Nat) (l:List Tok) (ts:List T) (l':List Tok):Prop:=sizes ts+2 * l'.length≤2 * l.length+c
def Sh {α:Type} (l:List Tok) (_:α) (l':List Tok):Prop:=l'.length+1≤l.length
theorem size_mk (k:Int) (s:ByteArray) (n:Int) (p:Nat) (ks:List T):(T.mk k s n p ks).size=1+sizes ks:=by rw [T.size]
theorem zAa:sizes []=0:=by rw [sizes]
theorem zBa (t:T) (ts:List T):sizes (t :: ts)=t.size+sizes ts:=by rw [sizes]
theorem zZc:∀ a b:List T,sizes (a++b)=sizes a+sizes b
 | [],b=>by simp [zAa]
 | t :: ts,b=>by rw [List.cons_append,zBa,zBa,zZc ts b];omega
theorem zNi (v:Int) (t:T):(t.zkb v).size=t.size:=by cases t;simp [T.zkb,size_mk]
theorem zfi (t b:T):(t.snoc b).size=t.size+b.size:=by cases t;simp [T.snoc,size_mk,zZc,zBa,zAa];omega
theorem zci {l:List Tok} {s:ByteArray} (h:isT (hdT l) s=true) (hs:0<s.size):0<l.length:=by
 cases l with
 | nil =>
  have h1:=beq_iff_eq.1 (show ((zVa.text).toList == s.toList)=true from h)
  rw [ByteArray.toList_eq,ByteArray.toList_eq] at h1
  have h2:=congrArg List.length h1
  simp [zVa] at h2
  have:s.data.size=s.size:=rfl
  omega
 | cons t r=>simp
theorem zfr {l:List Tok} {k:Nat} (h:((hdT l).kind == k)=true) (hk:0<k):0<l.length:=by
 cases l with
 | nil=>have:=beq_iff_eq.1 h;simp [hdT,zVa] at this;omega
 | cons t r=>simp
theorem zrb {ss:List ByteArray} (l:List Tok) (hs:∀ s∈ss,0<s.size):Ok (Sh l) (zsa ss l):=by
 unfold zsa
 refine Ok.cond (fun h=>Ok.ok ?_) (fun _=>Ok.err)
 obtain ⟨s,hm,h1⟩:=List.any_eq_true.1 h
 have:=zci h1 (hs s hm)
 unfold Sh
 simp only [List.length_tail]
 omega
theorem zVq {k:Nat} (hk:0<k) (l:List Tok):Ok (Sh l) (zkd k l):=by
 unfold zkd
 refine Ok.cond (fun h=>Ok.ok ?_) (fun _=>Ok.err)
 have:=zfr h hk
 unfold Sh
 simp only [List.length_tail]
 omega
theorem zVd (l:List Tok):Ok (Sh l) (zKb l):=by unfold zKb;exact (zVq (by omega) l).bd fun _ _ h=>Ok.ok h
theorem zcf (l:List Tok):Ok (Sh l) (zEa l):=by unfold zEa;exact (zVq (by omega) l).bd fun _ _ h=>Ok.ok h
theorem zFc (l:List Tok):Ok (Sz 0 l) (zoa l):=by
 unfold zoa
 exact (zVd l).bd fun s l1 h=>Ok.ok (by unfold Sz Sh at *;rw [size_mk,zAa];omega)
theorem zjg (l:List Tok):Ok (Sz 0 l) (zPa l):=by
 unfold zPa
 refine Ok.cond (fun _=>(zcf _).bd fun s l1 h=>Ok.ok ?_) (fun _=>(zcf _).bd fun s l1 h=>Ok.ok ?_)
 ·unfold Sz Sh at *;rw [size_mk,zAa];simp only [List.length_tail] at h;omega
 ·unfold Sz Sh at *;rw [size_mk,zAa];omega
theorem zsf (l:List Tok):Ok (Sz 0 l) (zXa l):=by
 unfold zXa
 refine Ok.cond (fun _=>(zFc l).bd fun n l1 h=>Ok.sum (fun _=>Ok.ok h) fun k x _=>(zcf _).bd fun v l2 h2=>Ok.ok ?_) (fun _=>zjg l)
 unfold Sz Sh at *;rw [zNi];simp only [List.length_tail] at h2;omega
theorem zNm {item:List Tok→R T} (hi:∀ l,Ok (Sz 0 l) (item l)):∀ (n:Nat) (l:List Tok),Ok (SzL 0 l) (zEd item n l)
 | 0,l=>Ok.err
 | n+1,l=>by
  rw [zEd]
  refine Ok.cond (fun _=>(hi _).bd fun a l1 h=>(zNm hi n l1).bd fun xs l2 h2=>Ok.ok ?_) (fun _=>Ok.ok (by unfold SzL;rw [zAa];omega))
  unfold SzL Sz at *;rw [zBa];simp only [List.length_tail] at h;omega
theorem zNl {item:List Tok→R T} (hi:∀ l,Ok (Sz 0 l) (item l)) (l:List Tok):Ok (SzL 0 l) (zRd item l):=by
 unfold zRd
 refine (hi l).bd fun a l1 h=>(zNm hi _ l1).bd fun xs l2 h2=>Ok.ok ?_
 unfold SzL Sz at *;rw [zBa];omega
theorem zDg {item:List Tok→R T} (hi:∀ l,Ok (Sz 0 l) (item l)) (l:List Tok):Ok (fun xs l'=>sizes xs+2 * l'.length+2≤2 * l.length) (zfb item l):=by
 unfold zfb
 refine (zrb l (by decide)).bd fun _ l1 h=>Ok.cond (fun _=>Ok.ok ?_) (fun _=>(zNl hi l1).bd fun xs l2 h2=>(zrb l2 (by decide)).bd fun _ l3 h3=>Ok.ok ?_)
 ·unfold Sh at *;rw [zAa];simp only [List.length_tail];omega
 ·unfold SzL Sh at *;omega
theorem zKm (l:List Tok):Ok (fun a l'=>a.size+2 * l'.length+4≤2 * l.length) (zwd l):=by
 unfold zwd
 refine (zrb l (by decide)).bd fun _ l1 h=>(zsf l1).bd fun a l2 h2=>(zrb l2 (by decide)).bd fun _ l3 h3=>Ok.ok ?_
 unfold Sz Sh at *;omega
theorem zbt {l:List Tok} {q:Int × Int} (h:sumP l=some q):0<l.length:=by
 unfold sumP at h
 cases h1:isT (hdT l) (bs [43]) with
 | true=>exact zci h1 (by decide)
 | false =>
  rw [h1] at h
  cases h2:isT (hdT l) (bs [45]) with
  | true=>exact zci h2 (by decide)
  | false=>rw [h2] at h;cases h
theorem zlt (n:T) (l:List Tok):Ok (Sz 0 l) (zOf n l):=by
 unfold zOf
 refine (zDg zsf l).bd fun xs l1 h=>Ok.ok ?_
 unfold Sz;rw [size_mk];omega
theorem zCu (p:Nat) (l:List Tok):Ok (Sz 0 l) (zJl p l):=by
 unfold zJl
 refine Ok.cond (fun _=>(zVd _).bd fun s l1 h=>Ok.ok ?_) (fun _=>(zVd _).bd fun s l1 h=>Ok.ok ?_)
 ·unfold Sz Sh at *;rw [size_mk,zAa];simp only [List.length_tail] at h;omega
 ·unfold Sz Sh at *;rw [size_mk,zAa];omega
theorem zjm (l:List Tok):Ok (Sz 0 l) (zMa l):=by
 unfold zMa
 refine (zFc l).bd fun n l1 h=>Ok.cond (fun _=>(zKm l1).bd fun a l2 h2=>Ok.ok ?_) fun _=>Ok.cond (fun _=>(zlt n l1).mono fun a l2 h2=>?_) fun _=>Ok.sum (fun _=>Ok.ok h) fun k x hs=>Ok.cond (fun _=>(zFc _).bd fun m l2 h2=>Ok.ok ?_) (fun _=>(zcf _).bd fun v l2 h2=>Ok.ok ?_)
 ·unfold Sz at *;rw [size_mk,zBa,zAa];omega
 ·unfold Sz at *;omega
 ·have:=zbt hs
  unfold Sz at *;rw [size_mk,zBa,zBa,zAa];simp only [List.length_tail] at h2;omega
 ·unfold Sz Sh at *;rw [zNi];simp only [List.length_tail] at h2;omega
theorem znt (l:List Tok):Ok (Sz 0 l) (zpc l):=by
 unfold zpc
 refine Ok.cond (fun _=>(zcf _).bd fun v l1 h=>Ok.ok ?_) fun _=>Ok.cond (fun _=>(zVd _).bd fun s l1 h=>Ok.ok ?_) fun _=>Ok.cond (fun _=>(zCu _ _).mono fun a l1 h=>?_) fun _=>Ok.cond (fun _=>zjm l) fun _=>zjg l
 ·unfold Sz Sh at *;rw [size_mk,zAa];simp only [List.length_tail] at h;omega
 ·unfold Sz Sh at *;rw [size_mk,zAa];simp only [List.length_tail] at h;omega
 ·unfold Sz at *;simp only [List.length_tail] at h;omega
theorem zQg (k:Int) (p:Nat) (l:List Tok):Ok (fun t l'=>t.size+2 * l'.length+1≤2 * l.length) (zib k p l):=by
 unfold zib
 refine (zsf l).bd fun a l1 h1=>(zrb l1 (by decide)).bd fun c l2 h2=>(zsf l2).bd fun b l3 h3=>Ok.ok ?_
 unfold Sz Sh at *;rw [size_mk,zBa,zBa,zAa];omega
theorem zJt (l:List Tok):Ok (Sz 0 l) (zWd l):=by
 unfold zWd
 exact (zQg 4 _ l).mono fun t l' h=>by unfold Sz;omega
theorem zIr (l:List Tok):Ok (Sz 0 l) (zsc l):=by
 unfold zsc
 refine (zVd l).bd fun s l1 h=>Ok.cond (fun hc=>(zFc _).bd fun a l2 h2=>(zrb l2 (by decide)).bd fun _ l3 h3=>Ok.ok ?_) (fun _=>Ok.ok ?_)
 ·unfold Sz Sh at *;rw [size_mk,zBa,zAa];simp only [List.length_tail] at h2;omega
 ·unfold Sz Sh at *;rw [size_mk,zAa];omega
theorem zEt (l:List Tok):Ok (Sz 0 l) (zKd l):=by
 unfold zKd
 refine (zrb l (by decide)).bd fun t l1 h=>Ok.cond (fun _=>Ok.ok ?_) (fun _=>(zFc l1).bd fun a l2 h2=>Ok.ok ?_)
 ·unfold Sz Sh at *;rw [size_mk,zAa];omega
 ·unfold Sz Sh at *;rw [size_mk,zBa,zAa];omega
theorem zmh (l:List Tok):Ok (Sz 0 l) (zQa l):=by
 unfold zQa
 refine (zrb l (by decide)).bd fun t l1 h=>Ok.cond (fun _=>(zFc l1).bd fun a l2 h2=>Ok.ok ?_) (fun _=>Ok.ok ?_)
 ·unfold Sz Sh at *;rw [size_mk,zBa,zAa];omega
 ·unfold Sz Sh at *;rw [size_mk,zAa];omega
theorem zit (l:List Tok):Ok (Sz 0 l) (zYc l):=by
 unfold zYc
 refine Ok.cond (fun hc=>Ok.cond (fun _=>(zFc _).bd fun a l2 h2=>Ok.ok ?_) (fun _=>(zFc _).bd fun a l2 h2=>Ok.ok ?_)) (fun _=>zmh l)
 ·have:=zci hc (by decide)
  unfold Sz at *;rw [size_mk,zBa,zAa];simp only [List.length_tail] at h2;omega
 ·have:=zci hc (by decide)
  unfold Sz at *;rw [size_mk,zBa,zAa];simp only [List.length_tail] at h2;omega
theorem zns (l:List Tok):Ok (Sz 0 l) (zBc l):=by
 unfold zBc
 refine (zVd l).bd fun s l1 h=>(zrb l1 (by decide)).bd fun _ l2 h2=>(zit l2).bd fun a l3 h3=>Ok.ok ?_
 unfold Sz Sh at *;rw [size_mk,zBa,zAa];omega
theorem zgq (l:List Tok):Ok (SzL 0 l) (zXc l):=by
 unfold zXc
 refine Ok.cond (fun _=>(zNl zIr _).bd fun xs l1 h=>(zrb l1 (by decide)).bd fun _ l2 h2=>Ok.ok ?_) (fun _=>Ok.ok ?_)
 ·unfold SzL Sh at *;simp only [List.length_tail] at h;omega
 ·unfold SzL;rw [zAa];omega
theorem zDr (l:List Tok):Ok (SzL 0 l) (zld l):=by
 unfold zld
 refine Ok.cond (fun _=>(zNl zJt _).mono fun xs l1 h=>?_) (fun _=>Ok.ok ?_)
 ·unfold SzL at *;simp only [List.length_tail] at h;omega
 ·unfold SzL;rw [zAa];omega
theorem zst (p:Nat) (l:List Tok):Ok (Sz 0 l) (zdc p l):=by
 unfold zdc
 refine (zVd l).bd fun s l1 h=>(zEt l1).bd fun a l2 h2=>(zgq l2).bd fun ys l3 h3=>(zDr l3).bd fun zs l4 h4=>(zrb l4 (by decide)).bd fun _ l5 h5=>Ok.ok ?_
 unfold Sz SzL Sh at *;rw [size_mk,zBa,zZc];omega
theorem zqp (k:Int) (p:Nat) (l:List Tok):Ok (Sz 0 l) (zue k p l):=by
 unfold zue
 refine (zVd l).bd fun s l1 h=>(zrb l1 (by decide)).bd fun _ l2 h2=>(zcf l2).bd fun v l3 h3=>(zrb l3 (by decide)).bd fun _ l4 h4=>Ok.ok ?_
 unfold Sz Sh at *;rw [size_mk,zAa];omega
theorem zIp (p:Nat) (l:List Tok):Ok (Sz 1 l) (zMc p l):=by
 unfold zMc
 refine Ok.cond (fun _=>Ok.ok ?_) (fun _=>(zsf l).bd fun a l1 h=>Ok.ok ?_)
 ·unfold Sz;rw [size_mk,zAa];omega
 ·unfold Sz at *;rw [size_mk,zBa,zAa];omega
theorem zAn (l:List Tok):Ok (fun n l'=>n.size=1∧l'.length+1≤l.length) (zoa l):=by
 unfold zoa
 exact (zVd l).bd fun s l1 h=>Ok.ok ⟨by rw [size_mk,zAa],h⟩
theorem zSl (n:T) (l:List Tok):Ok (fun t l'=>t.size+2 * l'.length+1≤2 * l.length) (zOf n l):=by
 unfold zOf
 refine (zDg zsf l).bd fun xs l1 h=>Ok.ok ?_
 rw [size_mk];omega
theorem zvr (l:List Tok):Ok (Sz 0 l) (zIb l):=by
 unfold zIb
 refine (zAn l).bd fun n l1 h=>Ok.cond (fun _=>(zSl n l1).bd fun c l2 h2=>Ok.ok ?_) fun _=>Ok.cond (fun _=>(zKm l1).bd fun i l2 h2=>(zrb l2 (by decide)).bd fun _ l3 h3=>(zsf l3).bd fun b l4 h4=>Ok.ok ?_) fun _=>(zrb l1 (by decide)).bd fun _ l2 h2=>(znt l2).bd fun x l3 h3=>Ok.ok ?_
 ·unfold Sz;rw [size_mk,zBa,zAa];omega
 ·unfold Sz Sh at *;rw [size_mk,zBa,zBa,zAa];omega
 ·unfold Sz Sh at *;rw [size_mk,zBa,zAa];omega
theorem zOo (l:List Tok):Ok (Sz 0 l) (zTa l):=by
 unfold zTa
 refine Ok.cond (fun _=>zvr l) fun _=>Ok.cond (fun _=>(zVd _).bd fun s l1 h=>Ok.ok ?_) fun _=>Ok.cond (fun _=>(zqp _ _ _).mono fun a l1 h=>?_) fun _=>Ok.cond (fun _=>(zqp _ _ _).mono fun a l1 h=>?_) fun _=>Ok.cond (fun hc=>(zIp _ _).mono fun a l1 h=>?_) fun _=>Ok.cond (fun hc=>Ok.ok ?_) fun _=>Ok.cond (fun _=>(zVd _).bd fun s l1 h=>(zDg zsf l1).bd fun xs l2 h2=>Ok.ok ?_) fun _=>Ok.err
 ·unfold Sz Sh at *;rw [size_mk,zAa];simp only [List.length_tail] at h;omega
 ·unfold Sz at *;simp only [List.length_tail] at h;omega
 ·unfold Sz at *;simp only [List.length_tail] at h;omega
 ·have:=zci hc (by decide)
  unfold Sz at *;simp only [List.length_tail] at h;omega
 ·have:=zci hc (by decide)
  unfold Sz;rw [size_mk,zAa];simp only [List.length_tail];omega
 ·unfold Sz Sh at *;rw [size_mk];simp only [List.length_tail] at h;omega
theorem zUs {blk:List Tok→R T} (hb:∀ l,Ok (Sz 0 l) (blk l)) (p:Nat) (l:List Tok):Ok (Sz 1 l) (zFh blk p l):=by
 unfold zFh
 refine Ok.cond (fun _=>(hb _).mono fun a l1 h=>?_) (fun _=>Ok.ok ?_)
 ·unfold Sz at *;simp only [List.length_tail] at h;omega
 ·unfold Sz;rw [size_mk,zAa];omega
theorem if_sz {blk:List Tok→R T} (hb:∀ l,Ok (Sz 0 l) (blk l)) (p:Nat) (l:List Tok):Ok (Sz 0 l) (ifP blk p l):=by
 unfold ifP
 refine (zQg _ _ l).bd fun n l1 h=>(hb l1).bd fun b l2 h2=>(zUs hb p l2).bd fun c l3 h3=>Ok.ok ?_
 unfold Sz at *;rw [zfi,zfi];omega
theorem zzs {blk:List Tok→R T} (hb:∀ l,Ok (Sz 0 l) (blk l)) (p:Nat) (l:List Tok):Ok (Sz 0 l) (zrh blk p l):=by
 unfold zrh
 refine (zQg _ _ l).bd fun n l1 h=>(hb l1).bd fun b l2 h2=>Ok.ok ?_
 unfold Sz at *;rw [zfi];omega
theorem zWp {blk:List Tok→R T} (hb:∀ l,Ok (Sz 0 l) (blk l)) (l:List Tok):Ok (Sz 0 l) (zRb blk l):=by
 unfold zRb
 refine Ok.cond (fun _=>(if_sz hb _ _).mono fun a l1 h=>?_) fun _=>Ok.cond (fun _=>(zzs hb _ _).mono fun a l1 h=>?_) fun _=>(zOo l).bd fun n l1 h=>(zrb l1 (by decide)).bd fun _ l2 h2=>Ok.ok ?_
 ·unfold Sz at *;simp only [List.length_tail] at h;omega
 ·unfold Sz at *;simp only [List.length_tail] at h;omega
 ·unfold Sz Sh at *;omega
theorem zdl {item:List Tok→R T} (hi:∀ l,Ok (Sz 0 l) (item l)):∀ (n:Nat) (l:List Tok),Ok (SzL 0 l) (zac item n l)
 | 0,l=>Ok.err
 | n+1,l=>by
  rw [zac]
  refine Ok.cond (fun _=>Ok.ok ?_) (fun _=>(hi l).bd fun a l1 h=>(zdl hi n l1).bd fun xs l2 h2=>Ok.ok ?_)
  ·unfold SzL;rw [zAa];simp only [List.length_tail];omega
  ·unfold SzL Sz at *;rw [zBa];omega
theorem zKj:∀ (n:Nat) (l:List Tok),Ok (Sz 0 l) (zYa n l)
 | 0,l=>by rw [zYa];exact (zrb l (by decide)).bd fun _ _ _=>Ok.err
 | n+1,l=>by
  rw [zYa]
  refine (zrb l (by decide)).bd fun t l1 h=>(zdl (zWp (zKj n)) _ l1).bd fun xs l2 h2=>Ok.ok ?_
  unfold SzL Sz Sh at *;rw [size_mk];omega
theorem zkp (l:List Tok):Ok (Sz 1 l) (zAc l):=by
 unfold zAc
 refine Ok.cond (fun _=>(zmh _).mono fun a l1 h=>?_) (fun _=>Ok.ok ?_)
 ·unfold Sz at *;simp only [List.length_tail] at h;omega
 ·unfold Sz;rw [size_mk,zAa];omega
theorem fn_sz (p:Nat) (l:List Tok):Ok (Sz 0 l) (fnP p l):=by
 unfold fnP
 refine (zVd l).bd fun s l1 h=>(zDg zns l1).bd fun xs l2 h2=>(zkp l2).bd fun r l3 h3=>(zKj 8 l3).bd fun b l4 h4=>Ok.ok ?_
 unfold Sz Sh at *;rw [size_mk,zZc,zBa,zBa,zAa];omega
theorem zaq (l:List Tok):Ok (Sz 0 l) (zfd l):=by
 unfold zfd
 refine (zrb l (by decide)).bd fun t l1 h=>Ok.cond (fun _=>(zst _ _).mono fun a l2 h2=>?_) (fun _=>(fn_sz _ _).mono fun a l2 h2=>?_)
 ·unfold Sz Sh at *;omega
 ·unfold Sz Sh at *;omega
theorem zmn:∀ (n:Nat) (l:List Tok),Ok (SzL 0 l) (zQc n l)
 | 0,l=>Ok.err
 | n+1,l=>by
  rw [zQc]
  refine Ok.cond (fun _=>Ok.ok ?_) (fun _=>(zaq l).bd fun a l1 h=>(zmn n l1).bd fun xs l2 h2=>Ok.ok ?_)
  ·unfold SzL;rw [zAa];omega
  ·unfold SzL Sz at *;rw [zBa];omega
theorem zZo {l l':List Tok} {t:T} (h:zyd l=.ok (t,l')):t.size≤2 * l.length+1:=by
 have h1:Ok (Sz 1 l) (zyd l):=by
  unfold zyd
  refine (zmn _ l).bd fun xs l1 h=>Ok.ok ?_
  unfold SzL at h;unfold Sz;rw [size_mk];omega
 have h2:=h1 t l' h
 unfold Sz at h2
 omega
end
section
open Go.RowKit
def cellsOf (ts:List Tok):List Value:=ts.flatMap zGa
def zXt (r:zSf) (w:World) (e:Ending) (w':World):Prop :=
 match r with
 | .error (p,c)=>e=.returned (.tuple #[.slice none 0 0,.int .i64 p,.int .i64 c])∧Below w.heap.size w w'
 | .ok ts=>∃ v,e=.returned (.tuple #[v,.int .i64 0,.int .i64 0])∧w'.ownsRow w.heap.size 113 4 v ts.length (cellsOf ts)∧Below w.heap.size w w'
def zdu (s:ByteArray) (w:World) (g:Nat) (v a:Value) (wr:World):Prop :=
 ∃ (k:Nat) (ts:List Tok),k≤s.size∧s.size≤k+g∧a=.int .i64 k∧wr.ownsRow w.heap.size 113 4 v ts.length (cellsOf ts)∧Below w.heap.size w wr∧ts.length≤k∧lexFrom s 0=more ts (lexFrom s k)
theorem Tryz.zOp:(Tryz.prog.info? 113).map (fun i=>(i.zero,i.size,i.bytes))=some (some (.agg #[.int .i64 0,.string ⟨#[]⟩,.int .i64 0,.int .i64 0]),4,40):=by kernel_rfl
theorem zbj {a w:World} (h:Below a.heap.size a w) (row:Option Nat):a.grownBy w row:=⟨h.os,h.tape,h.output,h.size,fun i hi _=>h.block i hi⟩
theorem own_below {a w:World} {base:Nat} {e:TypeId} {size n:Nat} {v:Value} {xs:List Value} (h:a.ownsRow base e size v n xs) (hb:Below a.heap.size a w):w.ownsRow base e size v n xs:=by
 refine h.kept (zbj hb none) ?_
 cases v.ownBlock
 ·exact .inl rfl
 ·exact .inr (by simp)
theorem zHe (ts:List Tok) (t:Tok):cellsOf (ts++[t])=cellsOf ts++zGa t:=by simp [cellsOf]
theorem zDc (t:Tok):∀ u∈zGa t,u.oneCell'=true:=by
 intro u hu
 simp only [zGa,List.mem_cons,List.not_mem_nil,or_false] at hu
 rcases hu with rfl|rfl|rfl|rfl<;>rfl
theorem zff (t:Tok) (w:World) (e:TypeId) (b:Nat) (hb:b=w.heap.size):∀ j u,(zGa t)[j]?=some u →
  (w.alloc (.cells #[.int .i64 t.kind,.string t.text,.int .i64 t.num,.int .i64 t.place] e)).cell? ((⟨b,0,none⟩:Addr).add j)=some u:=by
 intro j u hj
 subst hb
 rw [Addr.add_mid,Nat.zero_add,cell_of_row _ _ _ _ _ _ (heap_alloc_new w _)]
 simpa [zGa] using hj
theorem zbp (w:World):(isAgg 5).run Tryz.prog w=.ok false w:=by
 unfold isAgg
 rw [Sem.run_bind,run_underlying Tryz.underlying5 w]
 rfl
theorem zGm:(Tryz.prog.info? 5).map (·.size)=some 1:=by kernel_rfl
theorem zIu (w:World):(Instr.index 108 (.agg #[.int .u8 32,.int .u8 10]) (.int .i64 0)).run Tryz.prog w=.ok (.int .u8 32) w :=
 zZd (P:=Tryz.prog) (cs:=[.int .u8 32,.int .u8 10]) (k:=0) Tryz.underlying108 zbp zGm (by omega) rfl w
theorem zvu (w:World):(Instr.index 108 (.agg #[.int .u8 32,.int .u8 10]) (.int .i64 1)).run Tryz.prog w=.ok (.int .u8 10) w :=
 zZd (P:=Tryz.prog) (cs:=[.int .u8 32,.int .u8 10]) (k:=1) Tryz.underlying108 zbp zGm (by omega) rfl w
theorem zMj {b:UInt8} {n:Nat} (h:((b.toNat:Int) == (n:Int))=true):b=n.toUInt8:=by
 have h1:b.toNat=n:=by have:=beq_iff_eq.1 h;omega
 rw [← h1]
 simp
theorem zwk {b c:UInt8} (h:((b.toNat:Int) == (c.toNat:Int))=false):¬ b=c:=by
 intro e
 subst e
 simp at h
theorem zbn {b:UInt8} (h:((b.toNat:Int) == 32)=true):zHc b=true:=by
 have:=zMj (n:=32) h
 subst this
 rfl
theorem zcn {b:UInt8} (h:((b.toNat:Int) == 10)=true):zHc b=true:=by
 have:=zMj (n:=10) h
 subst this
 rfl
theorem zOm {b:UInt8} (h:((b.toNat:Int) == 32)=false) (h2:((b.toNat:Int) == 10)=false):zHc b=false:=by
 have h1:=zwk (c:=32) h
 have h3:=zwk (c:=10) h2
 simp [zHc,h1,h3]
theorem zKi {s:ByteArray} {k:Nat} {e:Int} (h:zpd s k=.error e):11≤e∧e≤13:=by
 have hs:∀ n,zbb s k n=.error e→e=11:=by
  intro n
  induction n with
  | zero=>unfold zbb zMe;split<;>intro h<;>cases h;rfl
  | succ n ih =>
          unfold zbb;split
          ·intro h;cases h
          ·exact ih
 unfold zpd at h
 split at h
 ·unfold zLb at h
  split at h
  ·cases h;decide
  ·split at h<;>cases h
 ·split at h
  ·unfold zSc at h
   split at h<;>cases h
   decide
  ·rw [hs 3 h];decide
theorem zZg (s:ByteArray) (w:World) (hs:s.size≤maxLen) (ht:Tabs w) :
  Calls Tryz.prog 13 #[.string s] w fun e w'=>zXt (zZb s) w e w':=by
 by_cases hbig:16384<s.size
 ·have hbig':16384<(s.size:Int):=by omega
  have hr:zZb s=.error (0,10):=by unfold zZb;rw [if_pos hbig]
  rw [hr]
  clear hr
  go_enter Tryz.func13,Tryz.ntmps13
  go_wp2
  go_step3
  go_wp2
  (try rw [Exit.noGoto_ret])
  go_ret3
  exact ⟨rfl,Below.refl _ _⟩
 have hr:zZb s=lexFrom s 0:=by unfold zZb;rw [if_neg hbig]
 rw [hr]
 clear hr
 have hbig':¬ 16384<(s.size:Int):=by omega
 go_enter Tryz.func13,Tryz.ntmps13
 go_wp2
 go_step3
 go_wp2
 go_step3
 go_wp2
 go_loopg [5,6] s.size (fun g v a wr=>zdu s w g v a wr)
 case atStart=>exact ⟨0,[],by omega,by omega,rfl,World.ownsRow_nil _ _ _ _,Below.refl _ _,by simp,(zVm _).symm⟩
 case round =>
  obtain ⟨k,ts,hk,hg,rfl,hown,hbel,hlen,hres⟩:=hrel
  have HR:=zh hres
  have htr:=ht.below hbel ht.size
  have hb0:=htr.b0
  have hb1:=htr.b1
  have HOWN:=zh hown
  have HBEL:=zh hbel
  have HT:=zh htr
  clear hres hown hbel htr
  by_cases hlt:k<s.size
  ·have hi0:=zIu
   have hi1:=zvu
   cases h32:((s[k].toNat:Int) == 32)
   ·cases h10:((s[k].toNat:Int) == 10)
    ·cases h35:((s[k].toNat:Int) == 35)
     ·have hnb:zHc (bat s k)=false:=by rw [zUb s k hlt];exact zOm h32 h10
      have hnr:¬ bat s k=35:=by rw [zUb s k hlt];exact zwk h35
      cases hta:zpd s k with
      | error e0 =>
       have HE:=zh (zsm hlt hnb hnr hta)
       have hte:=zKi hta
       have HA:=zh hta
       clear hta hnb hnr
       have hne:(e0 != 0)=true:=by rw [bne_iff_ne];omega
       go_wp2_with fail
       refine wp_loop_rounds 3 ?_
       rw [rounds_succ]
       go_wp2_with fail
       rw [rounds_succ]
       go_wp2_with fail
       rw [rounds_succ]
       go_wp2_with fail
       refine (zLi s k _ hs hlt HT.out).mono ?_
       rintro e w1 ⟨rfl,hb⟩
       rw [HA.out]
       unfold zhn errR zmb
       have HB:=zh (HBEL.out.trans (hb.mono HBEL.out.size))
       obtain ⟨hc,hf⟩:=zWk hb
       clear hb
       go_wp2
       (try rw [Exit.noGoto_ret])
       go_ret3
       rw [HR.out,HE.out]
       refine ⟨rfl,?_⟩
       have hz:w.heap.size≤w1.heap.size:=HB.out.size
       exact HB.out.alloc hz _
      | ok t =>
       have hsz:=zfe hlt hta
       have HE:=zh (zmm hlt hnb hnr hta)
       have HA:=zh hta
       clear hta hnb hnr
       go_wp2_with fail
       refine wp_loop_rounds 3 ?_
       rw [rounds_succ]
       go_wp2_with fail
       rw [rounds_succ]
       go_wp2_with fail
       rw [rounds_succ]
       go_wp2_with fail
       refine (zLi s k _ hs hlt HT.out).mono ?_
       rintro e w1 ⟨rfl,hb⟩
       rw [HA.out]
       unfold zhn okR zmb
       have HB:=zh (HBEL.out.trans (hb.mono HBEL.out.size))
       have HO:=zh (own_below HOWN.out hb)
       obtain ⟨hc,hf⟩:=zWk hb
       have hz:w.heap.size≤w1.heap.size:=HB.out.size
       clear hb
       obtain ⟨i0,hi,hz0,hz1,hz2⟩:=info_parts Tryz.zOp
       go_wp2_with (at_builtin;refine wpList_append_own _ rfl (.tmp 47) (.tmp 49) 73 rfl w.heap.size 113 i0 _ 4 40 Tryz.underlying73 hi hz0 hz1 hz2 rfl (by decide) _ _ _ rfl ((HO.out.alloc _).alloc _) ⟨w1.heap.size+1,0,none⟩ 1 1 (zGa t) rfl rfl ?c1 (zDc t) ?c3 ?c4 ?c5 ?_)
       case c1=>exact zff t _ _ _ (by simp)
       case c3=>unfold maxLen;omega
       case c4=>omega
       case c5=>simp;omega
       intro v' w2 hown2 hgrow2 _
       have HO2:=zh hown2
       have HG2:=zh (((HB.out.alloc hz _).alloc (by simp;omega) _).grown hgrow2 (by simp;omega) (fun j hj=>(HO.out.lt j hj).1))
       have htc:w2.cell? ⟨w1.heap.size,1,none⟩=some (.string t.text) :=
        hgrow2.cell ((World.cell?_alloc_past _ _ _ (by simp)).trans (cell_of_row _ _ _ _ _ _ (heap_alloc_new w1 _))) (fun h=>absurd ((HO.out.lt _ h.symm).2) (Nat.lt_irrefl _))
       clear hown2 hgrow2
       have hsz1:=hsz.1
       have hsz2:=hsz.2
       have hbs:s.size≤16384:=by omega
       clear hsz
       go_wp2
       go_roundg (gk-1)
       case measure=>omega
       case rel=>exact ⟨k+t.text.size,ts++[t],by omega,by omega,by go_num,by rw [zHe];simpa using HO2.out,HG2.out,by simp;omega,HR.out.trans (by rw [HE.out,zTk])⟩
     ·have hnr:bat s k=35:=by rw [zUb s k hlt];exact zMj h35
      have HE:=zh (zSg hlt hnr)
      have hge:=zRe hlt hnr
      have hle:=zUc zdk s k (by omega)
      go_wp2_with fail
      refine wp_loop_rounds 3 ?_
      rw [rounds_succ]
      go_wp2_with fail
      rw [rounds_succ]
      go_wp2_with fail
      rw [rounds_succ]
      go_wp2_with fail
      refine (zHj s k wr hs (by omega) (by omega)).mono ?_
      rintro e w' ⟨rfl,rfl⟩
      go_wp2
      go_roundg (gk-1)
      case measure=>omega
      case rel=>exact ⟨endOf zdk s k,ts,by omega,by omega,rfl,HOWN.out,HBEL.out,by omega,HR.out.trans (by rw [HE.out])⟩
    ·have HE:=zh (zDf hlt (by rw [zUb s k hlt];exact zcn h10))
     go_wp2_with fail
     refine wp_loop_rounds 3 ?_
     rw [rounds_succ]
     go_wp2_with fail
     rw [rounds_succ]
     go_wp2_with fail
     go_roundg (gk-1)
     case measure=>omega
     case rel=>exact ⟨k+1,ts,by omega,by omega,by go_num,HOWN.out,HBEL.out,by omega,HR.out.trans (by rw [HE.out])⟩
   ·have HE:=zh (zDf hlt (by rw [zUb s k hlt];exact zbn h32))
    go_wp2_with fail
    refine wp_loop_rounds 3 ?_
    rw [rounds_succ]
    go_wp2_with fail
    go_roundg (gk-1)
    case measure=>omega
    case rel=>exact ⟨k+1,ts,by omega,by omega,by go_num,HOWN.out,HBEL.out,by omega,HR.out.trans (by rw [HE.out])⟩
  ·have HE:=zh (zMl (s:=s) (k:=k) (by omega))
   have hz:w.heap.size≤wr.heap.size:=HBEL.out.size
   have hbs:s.size≤16384:=by omega
   obtain ⟨i0,hi,hz0,hz1,hz2⟩:=info_parts Tryz.zOp
   go_wp2_with (at_builtin;refine wpList_append_own _ rfl (.tmp 56) (.tmp 60) 73 rfl w.heap.size 113 i0 _ 4 40 Tryz.underlying73 hi hz0 hz1 hz2 rfl (by decide) _ _ _ rfl (HOWN.out.alloc _) ⟨wr.heap.size,0,none⟩ 1 1 (zGa (zQe s)) rfl rfl ?d1 (zDc (zQe s)) ?d3 ?d4 ?d5 ?_)
   case d1=>exact zff (zQe s) _ _ _ rfl
   case d3=>unfold maxLen;omega
   case d4=>omega
   case d5=>simp;omega
   intro v' w2 hown2 hgrow2 _
   have HO2:=zh hown2
   have HG2:=zh ((HBEL.out.alloc hz _).grown hgrow2 (by simp;omega) (fun j hj=>(HOWN.out.lt j hj).1))
   clear hown2 hgrow2
   go_wp2
   (try rw [Exit.noGoto_ret])
   go_ret3
   rw [HR.out,HE.out]
   exact ⟨v',rfl,by rw [zHe];simpa using HO2.out,HG2.out⟩
end
section
open Go.ChangeShapes Go.WideShapes Go.ChangeAt Go.ChangeMaps Go.RowKit
theorem own:ownKnob Tryz.prog.godebug=none:=by kernel_rfl
theorem gKeys:Tryz.prog.globalNamed "lychgate/lex.keys" = some 2:=by kernel_rfl
theorem zxt:Tryz.prog.globalNamed "lychgate/lex.blanks" = some 0:=by kernel_rfl
theorem zYu:Tryz.prog.globalNamed "lychgate/lex.pairs" = some 1:=by kernel_rfl
theorem tKeys:(Tryz.prog.globals[2]?).map (·.type)=some 184:=by kernel_rfl
theorem zGt:(Tryz.prog.globals[0]?).map (·.type)=some 108:=by kernel_rfl
theorem zav:(Tryz.prog.globals[1]?).map (·.type)=some 167:=by kernel_rfl
theorem zQp:Tryz.prog.cellsOf 9=1:=by kernel_rfl
theorem cByte:Tryz.prog.cellsOf 5=1:=by kernel_rfl
theorem zyt:Tryz.prog.cellsOf 108=2:=by kernel_rfl
theorem zks (s:ByteArray):s=⟨s.data.toList.toArray⟩:=by
 obtain ⟨d⟩:=s
 simp
theorem zpg {H:Type} {enc:TypeId × Value→H} {P:Program} {w:World} {base:Nat} {sp:Nat→Bool} {held:Bool} {fuel:Nat} {t e:TypeId} {n:Nat} {cs:List Value} {ls:List (List UInt8)} {p:List MemPlace}
  (ht:P.underlying t=some (.array n e)) (he:P.underlying e=some .string) (hce:P.cellsOf e=1)
  (h:DataW.trod enc P w base sp held fuel t cs=some (.agg (ls.map fun l=>.lit (.string l)),p)) (i:Nat) (hi:i<n):cs[i]?=some (.string ⟨(ls.getD i []).toArray⟩):=by
 obtain ⟨xs,m,_,hx,_,hxl,hel⟩:=DataW.trod_array ht h
 simp only [Prod.mk.injEq,DataW.agg.injEq] at hx
 have h1:=hel i hi
 rw [hce,Nat.mul_one,List.getElem?_eq_getElem (by omega)] at h1
 obtain ⟨s,hc,hy,_⟩:=DataW.trod_string he h1
 have h2:cs[i]?=some (.string s):=by
  have:=congrArg (·[0]?) hc
  simpa [List.getElem?_take,List.getElem?_drop] using this
 have h3:(ls.map fun l=>(DataW.lit (.string l):DataW H))[i]?=some (.lit (.string s.data.toList)):=by
  rw [hx.1,List.getElem?_map,List.getElem?_eq_getElem (by omega),hy]
  rfl
 rw [List.getElem?_map,Option.map_eq_some_iff] at h3
 obtain ⟨l,hl,hs⟩:=h3
 simp only [DataW.lit.injEq,Lit.string.injEq] at hs
 rw [h2,List.getD_eq_getElem?_getD,hl,Option.getD_some,hs,← zks]
theorem cell_lt {w:World} {b o:Nat} {v:Value} (h:w.cell? ⟨b,o,none⟩=some v):b<w.heap.size:=by
 rcases Nat.lt_or_ge b w.heap.size with hlt|hge
 ·exact hlt
 ·simp [World.cell?,Array.getElem?_eq_none hge] at h
def zht:List (String × DataW Unit):=[("lychgate/lex.keys", Rows.laid_lychgate_lex_keys),("lychgate/lex.blanks", Rows.laid_lychgate_lex_blanks),("lychgate/lex.pairs", Rows.laid_lychgate_lex_pairs)]
theorem zUk {W:World} (h:laidMetH Tryz.prog zht W):Tabs W:=by
 rw [MakeChecks.laidMetH_plain _ _ _ (by kernel_rfl)] at h
 obtain ⟨ps,⟨g0,t0,cs0,f0,p0,q0,hg0,ht0,hv0,hd0,⟨g1,t1,cs1,f1,p1,q1,hg1,ht1,hv1,hd1,⟨g2,t2,cs2,f2,p2,q2,hg2,ht2,hv2,hd2,_,_⟩,_⟩,_⟩,_,_⟩:=h
 obtain rfl:=Option.some.inj (gKeys.symm.trans hg0)
 obtain rfl:=Option.some.inj (zxt.symm.trans hg1)
 obtain rfl:=Option.some.inj (zYu.symm.trans hg2)
 obtain rfl:=Option.some.inj (tKeys.symm.trans ht0)
 obtain rfl:=Option.some.inj (zGt.symm.trans ht1)
 obtain rfl:=Option.some.inj (zav.symm.trans ht2)
 have hk:∀ i,i<20→W.cell? ⟨2,i,none⟩=some (.string (keyAt i)):=fun i hi=>by
  have h1:=World.var?_cell hg0 hv0 i
  have h2:=zpg (ls:=zSb) Tryz.underlying184 Tryz.underlying9 zQp hd0 i hi
  rw [h1,← Array.getElem?_toList,h2]
  rfl
 have hp:∀ i,i<3→W.cell? ⟨1,i,none⟩=some (.string (zqc i)):=fun i hi=>by
  have h1:=World.var?_cell hg2 hv2 i
  have h2:=zpg (ls:=[[45,62],[60,61],[61,61]]) Tryz.underlying167 Tryz.underlying9 zQp hd2 i hi
  rw [h1,← Array.getElem?_toList,h2]
  rfl
 have hb:=Lib.cells_of_tab (zs:=[32,10]) Tryz.underlying108 Tryz.underlying5 cByte zyt hd1
 have hb':∀ i:Nat,W.cell? ⟨0,i,none⟩=([32,10].map fun z=>Value.int .u8 z)[i]?:=fun i=>by
  rw [World.var?_cell hg1 hv1 i,← Array.getElem?_toList,hb]
 exact ⟨hb' 0,hb' 1,hk,hp,cell_lt (hb' 0),cell_lt (hk 0 (by omega)),cell_lt (hp 0 (by omega))⟩
def laying (cs:Array Value):Obj→Obj
 | .cells _ t frozen=>.cells cs t frozen
 | o=>o
noncomputable def laidWorld (os:Os):World :=
 { World.holding Tryz.prog os ⟨#[],#[],[]⟩ with heap:=(((World.holding Tryz.prog os ⟨#[],#[],[]⟩).heap.modify 0 (laying #[.int .u8 32,.int .u8 10])).modify 2 (laying zFf.toArray)).modify 1 (laying zng.toArray) }
end
section
open Go.RowKit
theorem zfg:∀ (ts:List Tok) (i:Nat) (t:Tok) (q:Nat),ts[i]?=some t→q<4→(cellsOf ts)[i * 4+q]?=(zGa t)[q]?
 | [],i,t,q,h,_=>by simp at h
 | u :: ts,0,t,q,h,hq=>by
  have e:u=t:=by simpa using h
  subst e
  show (zGa u++cellsOf ts)[0 * 4+q]?=_
  rw [Nat.zero_mul,Nat.zero_add,List.getElem?_append_left (by simpa [zGa] using hq)]
 | u :: ts,i+1,t,q,h,hq=>by
  show (zGa u++cellsOf ts)[(i+1) * 4+q]?=_
  rw [List.getElem?_append_right (by simp [zGa];omega)]
  have e:(i+1) * 4+q-(zGa u).length=i * 4+q:=by simp [zGa];omega
  rw [e]
  exact zfg ts i t q (by simpa using h) hq
def zGi (w:World) (g:Nat) (ts:List Tok):Prop:=∀ i t,ts[i]?=some t →
 w.cell? ⟨g,i * 4,none⟩=some (.int .i64 t.kind)∧w.cell? ⟨g,i * 4+1,none⟩=some (.string t.text)∧w.cell? ⟨g,i * 4+2,none⟩=some (.int .i64 t.num)∧w.cell? ⟨g,i * 4+3,none⟩=some (.int .i64 t.place)
theorem zGi.below {w w':World} {g B:Nat} {ts:List Tok} (h:zGi w g ts) (hb:Below B w w') (hg:g<B):zGi w' g ts:=fun i t ht=>by
 obtain ⟨h0,h1,h2,h3⟩:=h i t ht
 exact ⟨(hb.cell (p:=⟨g,i * 4,none⟩) hg).trans h0,(hb.cell (p:=⟨g,i * 4+1,none⟩) hg).trans h1,(hb.cell (p:=⟨g,i * 4+2,none⟩) hg).trans h2,(hb.cell (p:=⟨g,i * 4+3,none⟩) hg).trans h3⟩
theorem zfj {w:World} {base:Nat} {v:Value} {ts:List Tok} (h:w.ownsRow base 113 4 v ts.length (cellsOf ts)) (hn:0<ts.length) :
  ∃ g cap,v=.slice (some ⟨g,0,none⟩) ts.length cap∧base≤g∧g<w.heap.size∧ts.length≤cap∧zGi w g ts:=by
 obtain ⟨g,cap,rfl,hg1,hg2⟩:=h.form hn
 have hcap:ts.length≤cap:=by
  rcases h.2 with ⟨h0,_⟩|⟨g',cap',cur,hv,_,_,hle,_⟩
  ·cases h0
  ·cases hv;exact hle
 refine ⟨g,cap,rfl,hg1,hg2,hcap,fun i t ht=>?_⟩
 have hi:i<ts.length:=(List.getElem?_eq_some_iff.1 ht).1
 have c:∀ q,q<4→w.cell? ⟨g,i * 4+q,none⟩=(zGa t)[q]?:=fun q hq=>by
  rw [h.cellAt (i * 4+q) (by omega),zfg ts i t q ht hq]
 exact ⟨c 0 (by omega),c 1 (by omega),c 2 (by omega),c 3 (by omega)⟩
end
end Go.Proofs.YtpjnpffcnmgdcaaGreatDoor
