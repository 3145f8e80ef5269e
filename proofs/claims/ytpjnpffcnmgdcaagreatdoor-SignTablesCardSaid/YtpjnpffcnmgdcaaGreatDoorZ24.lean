/- What every tree that was read keeps to: its kinds, its names and its numbers. Nothing of the program is walked here. The tokens that lex makes: a NAME is one by the rule of IsName, a number is within its bounds; so every tree that Parse answers is good. Nothing of the program is walked here. A region that draws its order, all of whose operations leave a condition S as it is: where one operation alone may come up, it is walked. Nothing of the program is walked here. A region that draws its order, where two or three operations may come up. Nothing of the program is walked here. From the walk of a law of two arguments (two texts; a text and a number) to what its row asks of a call. -/
import Derived.Test.YtpjnpffcnmgdcaaGreatDoorZ02
import Derived.Test.YtpjnpffcnmgdcaaGreatDoorZ01
import Derived.Test.YtpjnpffcnmgdcaaGreatDoorZ12
import Derived.Test.YtpjnpffcnmgdcaaGreatDoorZ03
namespace Go.Proofs.YtpjnpffcnmgdcaaGreatDoor
section
open Go.RowKit
def zEn (k:Int) (s:ByteArray):Bool :=
 bif k == 1 || k == 3 || k == 6 || k == 7 || k == 10 || k == 11 || k == 12 || k == 13 || k == 14 || k == 19 || k == 24 || k == 25 || k == 26 || k == 27 || k == 28 then zec s
 else bif k == 5 then s.toList == [] || zec s
 else bif k == 4 || k == 15 || k == 16 then s.toList == [60] || (s.toList == [60,61] || s.toList == [61,61])
 else true
def zBo (n:Int):Bool:=decide (n≤1099511627776) && decide (-1099511627776≤n)
def zQf (k:Int) (s:ByteArray) (n:Int):Bool:=(decide (0≤k) && decide (k≤28)) && (zBo n && zEn k s)
mutual
def T.good:T→Bool
 | .mk k s n _ ks=>zQf k s n && zVg ks
def zVg:List T→Bool
 | []=>true
 | t :: ts=>t.good && zVg ts
end
theorem zOg (k:Int) (s:ByteArray) (n:Int) (p:Nat) (ks:List T):(T.mk k s n p ks).good=(zQf k s n && zVg ks):=by rw [T.good]
theorem zwc:zVg []=true:=by rw [zVg]
theorem zPb (t:T) (ts:List T):zVg (t :: ts)=(t.good && zVg ts):=by rw [zVg]
theorem zEe:∀ a b:List T,zVg (a++b)=(zVg a && zVg b)
 | [],b=>by simp [zwc]
 | t :: ts,b=>by rw [List.cons_append,zPb,zPb,zEe ts b,Bool.and_assoc]
theorem zOi {v:Int} {t:T} (h:t.good=true) (hv:zBo v=true):(t.zkb v).good=true:=by
 cases t
 simp only [T.zkb,zOg,zQf,Bool.and_eq_true] at *
 exact ⟨⟨h.1.1,hv,h.1.2.2⟩,h.2⟩
theorem zRh {t b:T} (h:t.good=true) (hb:b.good=true):(t.snoc b).good=true:=by
 cases t
 simp only [T.snoc,zOg,zEe,zPb,zwc,Bool.and_eq_true,Bool.and_true] at *
 exact ⟨h.1,h.2,hb⟩
theorem zNf:zBo 0=true:=by decide
theorem zTb {k:Int} {s:ByteArray} {n:Int} (hk:(k == 1 || k == 3 || k == 6 || k == 7 || k == 10 || k == 11 || k == 12 || k == 13 || k == 14 || k == 19 || k == 24 || k == 25 || k == 26 || k == 27 || k == 28)=true) (hs:zec s=true) (hn:zBo n=true):zQf k s n=true:=by
 have h1:zEn k s=true:=by unfold zEn;rw [hk];exact hs
 have h2:(decide (0≤k) && decide (k≤28))=true:=by
  simp only [Bool.or_eq_true,beq_iff_eq] at hk
  simp only [Bool.and_eq_true,decide_eq_true_eq]
  omega
 unfold zQf
 rw [h1,h2,hn];rfl
def TG (l:List Tok):Prop:=∀ t∈l,(t.kind=1→zec t.text=true)∧t.num≤1099511627776
theorem TG.tail {l:List Tok} (h:TG l):TG l.tail:=fun t ht=>h t (List.mem_of_mem_tail ht)
theorem TG.hd {l:List Tok} (h:TG l):((hdT l).kind=1→zec (hdT l).text=true)∧(hdT l).num≤1099511627776:=by
 cases l with
 | nil=>simp [hdT,zVa]
 | cons t r=>exact h t (by simp)
def Nm (s:ByteArray) (l':List Tok):Prop:=zec s=true∧TG l'
def Nu (v:Int) (l':List Tok):Prop:=(0≤v∧v≤1099511627776)∧TG l'
def Gd (t:T) (l':List Tok):Prop:=t.good=true∧TG l'
def GdL (ts:List T) (l':List Tok):Prop:=zVg ts=true∧TG l'
def Gn (t:T) (l':List Tok):Prop:=(zec t.text=true∧t.good=true)∧TG l'
theorem zWa {ss:List ByteArray} {l:List Tok} (h:TG l):Ok (fun t l'=>ss.any (isT t)=true∧TG l') (zsa ss l):=by
 unfold zsa
 exact Ok.cond (fun hc=>Ok.ok ⟨hc,h.tail⟩) fun _=>Ok.err
theorem zme {l:List Tok} (h:TG l):Ok Nm (zKb l):=by
 unfold zKb zkd
 refine Ok.bd (G:=Nm ∘ Tok.text) (Ok.cond (fun hc=>Ok.ok ⟨h.hd.1 (beq_iff_eq.1 hc),h.tail⟩) fun _=>Ok.err) fun _ _ h=>Ok.ok h
theorem zJf {l:List Tok} (h:TG l):Ok Nu (zEa l):=by
 unfold zEa zkd
 refine Ok.bd (G:=fun t l'=>Nu (t.num:Int) l') (Ok.cond (fun hc=>Ok.ok ⟨⟨by omega,by have:=h.hd.2;omega⟩,h.tail⟩) fun _=>Ok.err) fun _ _ h=>Ok.ok h
theorem zMm {v:Int} (h:0≤v∧v≤1099511627776):zBo v=true:=by unfold zBo;simp;omega
theorem zKo {v:Int} (h:0≤v∧v≤1099511627776):zBo (-v)=true:=by unfold zBo;simp;omega
theorem zCb {k:Int} {s:ByteArray} {n:Int} {p:Nat} (h:zQf k s n=true):(T.mk k s n p []).good=true:=by rw [zOg,zwc,h];rfl
theorem zMd {k:Int} {s:ByteArray} {n:Int} {p:Nat} {a:T} (h:zQf k s n=true) (ha:a.good=true):(T.mk k s n p [a]).good=true:=by rw [zOg,zPb,zwc,h,ha];rfl
theorem zJj {k:Int} {s:ByteArray} {n:Int} {p:Nat} {a b:T} (h:zQf k s n=true) (ha:a.good=true) (hb:b.good=true):(T.mk k s n p [a,b]).good=true:=by rw [zOg,zPb,zPb,zwc,h,ha,hb];rfl
theorem good_row {k:Int} {s:ByteArray} {n:Int} {p:Nat} {ks:List T} (h:zQf k s n=true) (ha:zVg ks=true):(T.mk k s n p ks).good=true:=by rw [zOg,h,ha];rfl
theorem zpu:(e0.toList == [])=true:=by rw [ByteArray.toList_eq];rfl
theorem zzu {n:Int} (hn:zBo n=true):zQf 5 e0 n=true:=by
 have h1:zEn 5 e0=true:=by show (e0.toList == [] || zec e0)=true;rw [zpu];rfl
 unfold zQf;rw [h1,hn];rfl
theorem zRu {s:ByteArray} {n:Int} (hs:zec s=true) (hn:zBo n=true):zQf 5 s n=true:=by
 have h1:zEn 5 s=true:=by show (s.toList == [] || zec s)=true;rw [hs,Bool.or_true]
 unfold zQf;rw [h1,hn];rfl
theorem zqb {k:Int} {s:ByteArray} {n:Int} (h1:zEn k s=true) (h2:(decide (0≤k) && decide (k≤28))=true) (hn:zBo n=true):zQf k s n=true:=by unfold zQf;rw [h1,h2,hn];rfl
theorem zdd {l:List Tok} (h:TG l):Ok Gn (zoa l):=by
 unfold zoa
 exact (zme h).bd fun s l1 h1=>Ok.ok ⟨⟨h1.1,zCb (zRu h1.1 zNf)⟩,h1.2⟩
theorem zWc {l:List Tok} (h:TG l):Ok Gd (zoa l):=(zdd h).mono fun _ _ h=>⟨h.1.2,h.2⟩
theorem zlh {l:List Tok} (h:TG l):Ok Gd (zPa l):=by
 unfold zPa
 exact Ok.cond (fun _=>(zJf h.tail).bd fun n l1 h1=>Ok.ok ⟨zCb (zzu (zKo h1.1)),h1.2⟩) (fun _=>(zJf h).bd fun n l1 h1=>Ok.ok ⟨zCb (zzu (zMm h1.1)),h1.2⟩)
theorem znu {l:List Tok} {k x:Int} (h:sumP l=some (k,x)):(k=21∧x=1)∨(k=22∧x=-1):=by
 unfold sumP at h
 cases h1:isT (hdT l) (bs [43]) with
 | true=>rw [h1] at h;cases h;exact .inl ⟨rfl,rfl⟩
 | false =>
  rw [h1] at h
  cases h2:isT (hdT l) (bs [45]) with
  | true=>rw [h2] at h;cases h;exact .inr ⟨rfl,rfl⟩
  | false=>rw [h2] at h;cases h
theorem zFp {l:List Tok} {k x v:Int} (h:sumP l=some (k,x)) (hv:0≤v∧v≤1099511627776):zBo (x * v)=true:=by
 rcases znu h with ⟨_,rfl⟩|⟨_,rfl⟩
 ·rw [Int.one_mul];exact zMm hv
 ·rw [Int.neg_one_mul];exact zKo hv
theorem zTr {l:List Tok} {k x:Int} (h:sumP l=some (k,x)):zQf k e0 0=true:=by
 rcases znu h with ⟨rfl,_⟩|⟨rfl,_⟩<;>rfl
theorem zEg {l:List Tok} (h:TG l):Ok Gd (zXa l):=by
 unfold zXa
 exact Ok.cond (fun _=>(zdd h).bd fun n l1 h1=>Ok.sum (fun _=>Ok.ok ⟨h1.1.2,h1.2⟩) fun k x hs=>(zJf h1.2.tail).bd fun v l2 h2=>Ok.ok ⟨zOi h1.1.2 (zFp hs h2.1),h2.2⟩) (fun _=>zlh h)
theorem zQq {item:List Tok→R T} (hi:∀ {l},TG l→Ok Gd (item l)):∀ (n:Nat) {l:List Tok},TG l→Ok GdL (zEd item n l)
 | 0,l,_=>Ok.err
 | n+1,l,h=>by
  rw [zEd]
  exact Ok.cond (fun _=>(hi h.tail).bd fun a l1 h1=>(zQq hi n h1.2).bd fun xs l2 h2=>Ok.ok ⟨by rw [zPb,h1.1,h2.1];rfl,h2.2⟩) (fun _=>Ok.ok ⟨zwc,h⟩)
theorem zeq {item:List Tok→R T} (hi:∀ {l},TG l→Ok Gd (item l)) {l:List Tok} (h:TG l):Ok GdL (zRd item l):=by
 unfold zRd
 exact (hi h).bd fun a l1 h1=>(zQq hi _ h1.2).bd fun xs l2 h2=>Ok.ok ⟨by rw [zPb,h1.1,h2.1];rfl,h2.2⟩
theorem zUj {item:List Tok→R T} (hi:∀ {l},TG l→Ok Gd (item l)) {l:List Tok} (h:TG l):Ok GdL (zfb item l):=by
 unfold zfb
 exact (zWa h).bd fun _ l1 h1=>Ok.cond (fun _=>Ok.ok ⟨zwc,h1.2.tail⟩) (fun _=>(zeq hi h1.2).bd fun xs l2 h2=>(zWa h2.2).bd fun _ l3 h3=>Ok.ok ⟨h2.1,h3.2⟩)
theorem zMo {l:List Tok} (h:TG l):Ok Gd (zwd l):=by
 unfold zwd
 exact (zWa h).bd fun _ l1 h1=>(zEg h1.2).bd fun a l2 h2=>(zWa h2.2).bd fun _ l3 h3=>Ok.ok ⟨h2.1,h3.2⟩
theorem zCs {n:T} (hn:zec n.text=true) {l:List Tok} (h:TG l):Ok Gd (zOf n l):=by
 unfold zOf
 exact (zUj zEg h).bd fun xs l1 h1=>Ok.ok ⟨good_row (zTb rfl hn zNf) h1.1,h1.2⟩
theorem ref_g {p:Nat} {l:List Tok} (h:TG l):Ok Gd (zJl p l):=by
 unfold zJl
 exact Ok.cond (fun _=>(zme h.tail).bd fun s l1 h1=>Ok.ok ⟨zCb (zTb rfl h1.1 zNf),h1.2⟩) (fun _=>(zme h).bd fun s l1 h1=>Ok.ok ⟨zCb (zTb rfl h1.1 zNf),h1.2⟩)
theorem zBn {l:List Tok} (h:TG l):Ok Gd (zMa l):=by
 unfold zMa
 exact (zdd h).bd fun n l1 h1=>Ok.cond (fun _=>(zMo h1.2).bd fun a l2 h2=>Ok.ok ⟨zMd (zTb rfl h1.1.1 zNf) h2.1,h2.2⟩) fun _=>Ok.cond (fun _=>zCs h1.1.1 h1.2) fun _=>Ok.sum (fun _=>Ok.ok ⟨h1.1.2,h1.2⟩) fun k x hs=>Ok.cond (fun _=>(zWc h1.2.tail).bd fun m l2 h2=>Ok.ok ⟨zJj (zTr hs) h1.1.2 h2.1,h2.2⟩) (fun _=>(zJf h1.2.tail).bd fun v l2 h2=>Ok.ok ⟨zOi h1.1.2 (zFp hs h2.1),h2.2⟩)
theorem zru {l:List Tok} (h:TG l):Ok Gd (zpc l):=by
 unfold zpc
 exact Ok.cond (fun _=>(zJf h.tail).bd fun v l1 h1=>Ok.ok ⟨zCb (zqb rfl rfl (zMm h1.1)),h1.2⟩) fun _=>Ok.cond (fun _=>(zme h.tail).bd fun s l1 h1=>Ok.ok ⟨zCb (zTb rfl h1.1 zNf),h1.2⟩) fun _=>Ok.cond (fun _=>ref_g h.tail) fun _=>Ok.cond (fun _=>zBn h) fun _=>zlh h
theorem zmi {k:Int} (hk:k=4∨k=15∨k=16) {p:Nat} {l:List Tok} (h:TG l):Ok Gd (zib k p l):=by
 unfold zib
 refine (zEg h).bd fun a l1 h1=>(zWa h1.2).bd fun c l2 h2=>(zEg h2.2).bd fun b l3 h3=>Ok.ok ⟨zJj ?_ h1.1 h3.1,h3.2⟩
 have h4:(c.text.toList == [60] || (c.text.toList == [60,61] || c.text.toList == [61,61]))=true:=by
  have:=h2.1
  simp only [List.any_cons,List.any_nil,Bool.or_false,isT,bs,ByteArray.toList_eq] at this
  rw [ByteArray.toList_eq]
  exact this
 rcases hk with rfl|rfl|rfl
 ·exact zqb h4 rfl zNf
 ·exact zqb h4 rfl zNf
 ·exact zqb h4 rfl zNf
theorem zXu {l:List Tok} (h:TG l):Ok Gd (zWd l):=by unfold zWd;exact zmi (.inl rfl) h
theorem zot {l:List Tok} (h:TG l):Ok Gd (zsc l):=by
 unfold zsc
 exact (zme h).bd fun s l1 h1=>Ok.cond (fun _=>(zWc h1.2.tail).bd fun a l2 h2=>(zWa h2.2).bd fun _ l3 h3=>Ok.ok ⟨zMd (zTb rfl h1.1 zNf) h2.1,h3.2⟩) (fun _=>Ok.ok ⟨zCb (zTb rfl h1.1 zNf),h1.2⟩)
theorem zmu {l:List Tok} (h:TG l):Ok Gd (zKd l):=by
 unfold zKd
 exact (zWa h).bd fun t l1 h1=>Ok.cond (fun _=>Ok.ok ⟨zCb (zqb rfl rfl zNf),h1.2⟩) (fun _=>(zWc h1.2).bd fun a l2 h2=>Ok.ok ⟨zMd (zqb rfl rfl zNf) h2.1,h2.2⟩)
theorem zji {l:List Tok} (h:TG l):Ok Gd (zQa l):=by
 unfold zQa
 exact (zWa h).bd fun t l1 h1=>Ok.cond (fun _=>(zWc h1.2).bd fun a l2 h2=>Ok.ok ⟨zMd (zqb rfl rfl zNf) h2.1,h2.2⟩) (fun _=>Ok.ok ⟨zCb (zqb rfl rfl zNf),h1.2⟩)
theorem zBu {l:List Tok} (h:TG l):Ok Gd (zYc l):=by
 unfold zYc
 exact Ok.cond (fun _=>Ok.cond (fun _=>(zWc h.tail.tail).bd fun a l2 h2=>Ok.ok ⟨zMd (zqb rfl rfl zNf) h2.1,h2.2⟩) (fun _=>(zWc h.tail).bd fun a l2 h2=>Ok.ok ⟨zMd (zqb rfl rfl zNf) h2.1,h2.2⟩)) (fun _=>zji h)
theorem zSt {l:List Tok} (h:TG l):Ok Gd (zBc l):=by
 unfold zBc
 exact (zme h).bd fun s l1 h1=>(zWa h1.2).bd fun _ l2 h2=>(zBu h2.2).bd fun a l3 h3=>Ok.ok ⟨zMd (zTb rfl h1.1 zNf) h3.1,h3.2⟩
theorem zqr {l:List Tok} (h:TG l):Ok GdL (zXc l):=by
 unfold zXc
 exact Ok.cond (fun _=>(zeq zot h.tail).bd fun xs l1 h1=>(zWa h1.2).bd fun _ l2 h2=>Ok.ok ⟨h1.1,h2.2⟩) (fun _=>Ok.ok ⟨zwc,h⟩)
theorem zet {l:List Tok} (h:TG l):Ok GdL (zld l):=by
 unfold zld
 exact Ok.cond (fun _=>zeq zXu h.tail) (fun _=>Ok.ok ⟨zwc,h⟩)
theorem zMs {p:Nat} {l:List Tok} (h:TG l):Ok Gd (zdc p l):=by
 unfold zdc
 exact (zme h).bd fun s l1 h1=>(zmu h1.2).bd fun a l2 h2=>(zqr h2.2).bd fun ys l3 h3=>(zet h3.2).bd fun zs l4 h4=>(zWa h4.2).bd fun _ l5 h5=>Ok.ok ⟨good_row (zTb rfl h1.1 zNf) (by rw [zPb,zEe,h2.1,h3.1,h4.1];rfl),h5.2⟩
theorem zOs {k:Int} (hk:k=13∨k=14) {p:Nat} {l:List Tok} (h:TG l):Ok Gd (zue k p l):=by
 unfold zue
 exact (zme h).bd fun s l1 h1=>(zWa h1.2).bd fun _ l2 h2=>(zJf h2.2).bd fun v l3 h3=>(zWa h3.2).bd fun _ l4 h4=>Ok.ok ⟨zCb (zTb (by rcases hk with rfl|rfl<;>rfl) h1.1 (zMm h3.1)),h4.2⟩
theorem zmr {p:Nat} {l:List Tok} (h:TG l):Ok Gd (zMc p l):=by
 unfold zMc
 exact Ok.cond (fun _=>Ok.ok ⟨zCb (zqb rfl rfl zNf),h⟩) (fun _=>(zEg h).bd fun a l1 h1=>Ok.ok ⟨zMd (zqb rfl rfl zNf) h1.1,h1.2⟩)
theorem zat {l:List Tok} (h:TG l):Ok Gd (zIb l):=by
 unfold zIb
 exact (zdd h).bd fun n l1 h1=>Ok.cond (fun _=>(zCs h1.1.1 h1.2).bd fun c l2 h2=>Ok.ok ⟨zMd (zqb rfl rfl zNf) h2.1,h2.2⟩) fun _=>Ok.cond (fun _=>(zMo h1.2).bd fun i l2 h2=>(zWa h2.2).bd fun _ l3 h3=>(zEg h3.2).bd fun b l4 h4=>Ok.ok ⟨zJj (zTb rfl h1.1.1 zNf) h2.1 h4.1,h4.2⟩) fun _=>(zWa h1.2).bd fun _ l2 h2=>(zru h2.2).bd fun x l3 h3=>Ok.ok ⟨zMd (zTb rfl h1.1.1 zNf) h3.1,h3.2⟩
theorem zgs {l:List Tok} (h:TG l):Ok Gd (zTa l):=by
 unfold zTa
 exact Ok.cond (fun _=>zat h) fun _=>Ok.cond (fun _=>(zme h.tail).bd fun s l1 h1=>Ok.ok ⟨zCb (zTb rfl h1.1 zNf),h1.2⟩) fun _=>Ok.cond (fun _=>zOs (.inl rfl) h.tail) fun _=>Ok.cond (fun _=>zOs (.inr rfl) h.tail) fun _=>Ok.cond (fun _=>zmr h.tail) fun _=>Ok.cond (fun _=>Ok.ok ⟨zCb (zqb rfl rfl zNf),h.tail⟩) fun _=>Ok.cond (fun _=>(zme h.tail).bd fun s l1 h1=>(zUj zEg h1.2).bd fun xs l2 h2=>Ok.ok ⟨good_row (zTb rfl h1.1 zNf) h2.1,h2.2⟩) fun _=>Ok.err
theorem zNu {blk:List Tok→R T} (hb:∀ {l},TG l→Ok Gd (blk l)) {p:Nat} {l:List Tok} (h:TG l):Ok Gd (zFh blk p l):=by
 unfold zFh
 exact Ok.cond (fun _=>hb h.tail) (fun _=>Ok.ok ⟨zCb (zqb rfl rfl zNf),h⟩)
theorem if_g {blk:List Tok→R T} (hb:∀ {l},TG l→Ok Gd (blk l)) {p:Nat} {l:List Tok} (h:TG l):Ok Gd (ifP blk p l):=by
 unfold ifP
 exact (zmi (.inr (.inl rfl)) h).bd fun n l1 h1=>(hb h1.2).bd fun b l2 h2=>(zNu hb h2.2).bd fun c l3 h3=>Ok.ok ⟨zRh (zRh h1.1 h2.1) h3.1,h3.2⟩
theorem zQt {blk:List Tok→R T} (hb:∀ {l},TG l→Ok Gd (blk l)) {p:Nat} {l:List Tok} (h:TG l):Ok Gd (zrh blk p l):=by
 unfold zrh
 exact (zmi (.inr (.inr rfl)) h).bd fun n l1 h1=>(hb h1.2).bd fun b l2 h2=>Ok.ok ⟨zRh h1.1 h2.1,h2.2⟩
theorem zku {blk:List Tok→R T} (hb:∀ {l},TG l→Ok Gd (blk l)) {l:List Tok} (h:TG l):Ok Gd (zRb blk l):=by
 unfold zRb
 exact Ok.cond (fun _=>if_g hb h.tail) fun _=>Ok.cond (fun _=>zQt hb h.tail) fun _=>(zgs h).bd fun n l1 h1=>(zWa h1.2).bd fun _ l2 h2=>Ok.ok ⟨h1.1,h2.2⟩
theorem zln {item:List Tok→R T} (hi:∀ {l},TG l→Ok Gd (item l)):∀ (n:Nat) {l:List Tok},TG l→Ok GdL (zac item n l)
 | 0,l,_=>Ok.err
 | n+1,l,h=>by
  rw [zac]
  exact Ok.cond (fun _=>Ok.ok ⟨zwc,h.tail⟩) (fun _=>(hi h).bd fun a l1 h1=>(zln hi n h1.2).bd fun xs l2 h2=>Ok.ok ⟨by rw [zPb,h1.1,h2.1];rfl,h2.2⟩)
theorem zlp:∀ (n:Nat) {l:List Tok},TG l→Ok Gd (zYa n l)
 | 0,l,h=>by rw [zYa];exact (zWa h).bd fun _ _ _=>Ok.err
 | n+1,l,h=>by
  rw [zYa]
  exact (zWa h).bd fun t l1 h1=>(zln (zku (zlp n)) _ h1.2).bd fun xs l2 h2=>Ok.ok ⟨good_row (zqb rfl rfl zNf) h2.1,h2.2⟩
theorem zhs {l:List Tok} (h:TG l):Ok Gd (zAc l):=by
 unfold zAc
 exact Ok.cond (fun _=>zji h.tail) (fun _=>Ok.ok ⟨zCb (zqb rfl rfl zNf),h⟩)
theorem fn_g {p:Nat} {l:List Tok} (h:TG l):Ok Gd (fnP p l):=by
 unfold fnP
 exact (zme h).bd fun s l1 h1=>(zUj zSt h1.2).bd fun xs l2 h2=>(zhs h2.2).bd fun r l3 h3=>(zlp 8 h3.2).bd fun b l4 h4=>Ok.ok ⟨good_row (zTb rfl h1.1 zNf) (by rw [zEe,zPb,zPb,zwc,h2.1,h3.1,h4.1];rfl),h4.2⟩
theorem ziu {l:List Tok} (h:TG l):Ok Gd (zfd l):=by
 unfold zfd
 exact (zWa h).bd fun t l1 h1=>Ok.cond (fun _=>zMs h1.2) (fun _=>fn_g h1.2)
theorem zGo:∀ (n:Nat) {l:List Tok},TG l→Ok GdL (zQc n l)
 | 0,l,_=>Ok.err
 | n+1,l,h=>by
  rw [zQc]
  exact Ok.cond (fun _=>Ok.ok ⟨zwc,h⟩) (fun _=>(ziu h).bd fun a l1 h1=>(zGo n h1.2).bd fun xs l2 h2=>Ok.ok ⟨by rw [zPb,h1.1,h2.1];rfl,h2.2⟩)
theorem zlu {l l':List Tok} {t:T} (hl:TG l) (h:zyd l=.ok (t,l')):t.good=true:=by
 have h1:Ok Gd (zyd l):=by
  unfold zyd
  exact (zGo _ hl).bd fun xs l1 h=>Ok.ok ⟨good_row (zqb rfl rfl zNf) h.1,h.2⟩
 exact (h1 t l' h).1
theorem zMi (p:Int→Bool):∀ l:List UInt8,zAd p (l.take (zAd p l))=zAd p l
 | []=>by simp [zAd]
 | b :: r=>by
  have ih:=zMi p r
  by_cases hb:p (b.toNat:Int)=true
  ·rw [zAd,if_pos hb,List.take_succ_cons,zAd,if_pos hb,ih]
  ·rw [zAd,if_neg hb];rfl
theorem zGp (s:ByteArray) (k n:Nat):(s.extract k (k+n)).data.toList=(s.data.toList.drop k).take n:=by
 rw [ByteArray.data_extract,Array.toList_extract]
 simp [List.extract]
theorem zvq {s:ByteArray} {k:Nat} {t:Tok} (hk:k<s.size) (hl:zqf ((bat s k).toNat:Int)=true) (h:zLb s k=.ok t):t.kind=1→zec t.text=true:=by
 have hz:=zbi hk hl h
 unfold zLb at h
 split at h
 ·cases h
 ·rename_i h16
  split at h
  ·cases h;intro hc;cases hc
  ·rename_i hkey
   cases h
   intro _
   have hle:=zUc zxe s k (by omega)
   have hsz:=zJc s k (endOf zxe s k) hle
   simp only at hz ⊢
   have hd:=drop_at s k hk
   have hlist:(s.extract k (endOf zxe s k)).data.toList=(s.data.toList.drop k).take (zAd zxe (s.data.toList.drop k)):=zGp s k _
   have hrun:endOf zxe (s.extract k (endOf zxe s k)) 0=(s.extract k (endOf zxe s k)).size:=by
    rw [hsz]
    show 0+zAd zxe ((s.extract k (endOf zxe s k)).data.toList.drop 0)=_
    rw [List.drop_zero,hlist,zMi]
    unfold endOf
    omega
   have hat:at0 (s.extract k (endOf zxe s k))=((bat s k).toNat:Int):=by
    unfold at0
    rw [hlist,zUb s k hk,hd]
    have:0<zAd zxe (s.data.toList.drop k):=by
     have h1:=hz.1
     rw [hsz] at h1
     unfold endOf at h1
     omega
    rw [hd] at this
    obtain ⟨m,hm⟩:=Nat.exists_eq_succ_of_ne_zero (Nat.pos_iff_ne_zero.1 this)
    rw [hm,List.take_succ_cons]
    rfl
   unfold zec
   rw [hat,hl,hrun]
   have hk2:zne (s.extract k (endOf zxe s k))=false:=by simpa using hkey
   rw [hk2]
   simp only [Bool.and_true,Bool.not_false,decide_true,Bool.and_eq_true,decide_eq_true_eq]
   exact ⟨hz.1,by omega⟩
theorem zrr {s:ByteArray} {k:Nat} {t:Tok} (hk:k<s.size) (h:zpd s k=.ok t):t.kind=1→zec t.text=true:=by
 have hs:∀ n,zbb s k n=.ok t→t.kind≠1:=by
  intro n
  induction n with
  | zero =>
   unfold zbb zMe
   split
   ·intro h;cases h;simp
   ·intro h;cases h
  | succ n ih =>
   unfold zbb
   split
   ·intro h;cases h;simp
   ·exact ih
 unfold zpd at h
 split at h
 ·rename_i hl
  exact zvq hk hl h
 ·split at h
  ·unfold zSc at h
   split at h
   ·cases h
   ·cases h;intro hc;cases hc
  ·intro hc;exact absurd hc (hs 3 h)
theorem zYj {s:ByteArray}:∀ k,∀ ts,lexFrom s k=.ok ts→∀ t∈ts,t.kind=1→zec t.text=true:=by
 apply zok (P:=fun k r=>∀ ts,r=.ok ts→∀ t∈ts,t.kind=1→zec t.text=true)
 ·intro k _ ts h t ht
  cases h
  obtain rfl:t=zQe s:=by simpa using ht
  intro hc;cases hc
 ·intro k _ _ ih;exact ih
 ·intro k _ _ ih;exact ih
 ·intro k e _ _ _ _ ts h;cases h
 ·intro k t hk _ _ ht ih ts h
  cases hr:lexFrom s (k+t.text.size) with
  | error e=>rw [hr] at h;cases h
  | ok ts' =>
   rw [hr] at h
   cases h
   intro u hu
   rcases List.mem_cons.1 hu with rfl|hu
   ·exact zrr hk ht
   ·exact ih ts' hr u hu
theorem zTh {s:ByteArray} {ts:List Tok} (h:zZb s=.ok ts):TG ts:=by
 have hg:=(zpf h).2.1
 unfold zZb at h
 split at h
 ·cases h
 ·exact fun t ht=>⟨zYj 0 ts h t ht,(hg t ht).num⟩
theorem zsq:zdb.good=true:=zCb (zqb rfl rfl zNf)
theorem zWg (s:ByteArray):(zhb s).1.good=true∧(zhb s).1.size≤4096:=by
 have hz:zdb.good=true∧zdb.size≤4096:=⟨zsq,by unfold zdb;rw [size_mk,zAa];omega⟩
 unfold zhb
 cases hl:zZb s with
 | error e=>exact hz
 | ok ts =>
  simp only
  unfold zIc
  cases hu:zyd ts with
  | error e=>exact hz
  | ok q =>
   obtain ⟨t,l⟩:=q
   simp only
   by_cases hs:4096<t.size
   ·rw [if_pos hs];exact hz
   ·rw [if_neg hs];exact ⟨zlu (zTh hl) hu,by simp only;omega⟩
end
section
open Go.RowKit
section
variable {P:Program} {ops:Array Oper} {Q:Exit→Act→World→Prop} {md:Region.Mode} {S:World→Prop}
theorem AnyH.only {i:Nat} {o:Oper} {fuel:Nat} {listed:Array Bool} {a:Act} {w:World} (hr:Region.ready md ops listed=[i]) (ho:ops[i]?=some o) (hw:Region.wanted o (yielded ops a.tmps)=true)
  (h:∀ K:Act→World→Prop,Shut (∀ a w,S w→wpAnyH P md ops Q S fuel (listed.setIfInBounds i true) a w→K a w)→o.wp P a w K Q):wpAnyH P md ops Q S (fuel+1) listed a w:=by
 refine ⟨(fun h0=>by rw [hr] at h0;cases h0),fun j hj=>?_⟩
 rw [hr] at hj
 obtain rfl:j=i:=by simpa using hj
 refine wpOp_step ho fun K' hK=>?_
 rw [if_pos hw]
 exact h K' fun a w hS hA=>hK a w ⟨hS,hA⟩
end
end
section
open Go.RowKit
section
variable {P:Program} {ops:Array Oper} {Q:Exit→Act→World→Prop} {md:Region.Mode} {S:World→Prop}
theorem AnyH.pair {i k:Nat} {o u:Oper} {fuel:Nat} {listed:Array Bool} {a:Act} {w:World} (hr:Region.ready md ops listed=[i,k]) (ho:ops[i]?=some o) (hu:ops[k]?=some u) (hw:Region.wanted o (yielded ops a.tmps)=true) (hv:Region.wanted u (yielded ops a.tmps)=true)
  (h:∀ K:Act→World→Prop,Shut (∀ a w,S w→wpAnyH P md ops Q S fuel (listed.setIfInBounds i true) a w→K a w)→o.wp P a w K Q)
  (h':∀ K:Act→World→Prop,Shut (∀ a w,S w→wpAnyH P md ops Q S fuel (listed.setIfInBounds k true) a w→K a w)→u.wp P a w K Q):wpAnyH P md ops Q S (fuel+1) listed a w:=by
 refine ⟨(fun h0=>by rw [hr] at h0;cases h0),fun j hj=>?_⟩
 rw [hr] at hj
 have hj2:j=i∨j=k:=by simpa using hj
 rcases hj2 with rfl|rfl
 ·refine wpOp_step ho fun K' hK=>?_
  rw [if_pos hw]
  exact h K' fun a w hS hA=>hK a w ⟨hS,hA⟩
 ·refine wpOp_step hu fun K' hK=>?_
  rw [if_pos hv]
  exact h' K' fun a w hS hA=>hK a w ⟨hS,hA⟩
theorem AnyH.three {i j k:Nat} {o u v:Oper} {fuel:Nat} {listed:Array Bool} {a:Act} {w:World} (hr:Region.ready md ops listed=[i,j,k]) (ho:ops[i]?=some o) (hu:ops[j]?=some u) (hv:ops[k]?=some v) (hwo:Region.wanted o (yielded ops a.tmps)=true) (hwu:Region.wanted u (yielded ops a.tmps)=true) (hwv:Region.wanted v (yielded ops a.tmps)=true)
  (h:∀ K:Act→World→Prop,Shut (∀ a w,S w→wpAnyH P md ops Q S fuel (listed.setIfInBounds i true) a w→K a w)→o.wp P a w K Q)
  (h':∀ K:Act→World→Prop,Shut (∀ a w,S w→wpAnyH P md ops Q S fuel (listed.setIfInBounds j true) a w→K a w)→u.wp P a w K Q)
  (h'':∀ K:Act→World→Prop,Shut (∀ a w,S w→wpAnyH P md ops Q S fuel (listed.setIfInBounds k true) a w→K a w)→v.wp P a w K Q):wpAnyH P md ops Q S (fuel+1) listed a w:=by
 refine ⟨(fun h0=>by rw [hr] at h0;cases h0),fun q hq=>?_⟩
 rw [hr] at hq
 have hq2:q=i∨q=j∨q=k:=by simpa using hq
 rcases hq2 with rfl|rfl|rfl
 ·refine wpOp_step ho fun K' hK=>?_
  rw [if_pos hwo]
  exact h K' fun a w hS hA=>hK a w ⟨hS,hA⟩
 ·refine wpOp_step hu fun K' hK=>?_
  rw [if_pos hwu]
  exact h' K' fun a w hS hA=>hK a w ⟨hS,hA⟩
 ·refine wpOp_step hv fun K' hK=>?_
  rw [if_pos hwv]
  exact h'' K' fun a w hS hA=>hK a w ⟨hS,hA⟩
end
end
section
open Go.ChangeShapes Go.WideShapes Go.ChangeAt Go.ChangeMaps Go.RowKit
end
end Go.Proofs.YtpjnpffcnmgdcaaGreatDoor
