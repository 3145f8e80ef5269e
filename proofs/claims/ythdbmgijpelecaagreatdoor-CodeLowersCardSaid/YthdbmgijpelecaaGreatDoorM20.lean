/- What every tree that was read keeps to: its kinds, its names and its numbers. Nothing of the program is walked here. The tokens that lex makes: a NAME is one by the rule of IsName, a number is within its bounds; so every tree that Parse answers is good. Nothing of the program is walked here. The document's parser (lychgateref02) in memory while it reads (RSt), and the contracts of the functions that look at the next token. What the contracts of functions that build nodes of lychgateref02 share. Nothing of the program is walked here. The contracts of lychgateref02.must, number and name, from a good state and from one that has a fault. The contract of lychgateref02.name: a NAME as a Term. -/
import Derived.Test.YthdbmgijpelecaaGreatDoorM03
import Derived.Test.YthdbmgijpelecaaGreatDoorM01
import Derived.Test.YthdbmgijpelecaaGreatDoorM12
import Derived.Test.YthdbmgijpelecaaGreatDoorM04
import Derived.Deep.QuietTactic
import Derived.BigQuiet
namespace Go.Proofs.YthdbmgijpelecaaGreatDoor
set_option maxRecDepth 100000
set_option maxHeartbeats 4000000
section
open Go.RowKit
def zgo (k:Int) (s:ByteArray):Bool :=
 bif k == 1 || k == 3 || k == 6 || k == 7 || k == 10 || k == 11 || k == 12 || k == 13 || k == 14 || k == 19 || k == 24 || k == 25 || k == 26 || k == 27 || k == 28 then zzd s
 else bif k == 5 then s.toList == [] || zzd s
 else bif k == 4 || k == 15 || k == 16 then s.toList == [60] || (s.toList == [60,61] || s.toList == [61,61])
 else true
def zno (n:Int):Bool:=decide (n≤1099511627776) && decide (-1099511627776≤n)
def zog (k:Int) (s:ByteArray) (n:Int):Bool:=(decide (0≤k) && decide (k≤28)) && (zno n && zgo k s)
mutual
def T.good:T→Bool
 | .mk k s n _ ks=>zog k s n && zrh ks
def zrh:List T→Bool
 | []=>true
 | t :: ts=>t.good && zrh ts
end
theorem znh (k:Int) (s:ByteArray) (n:Int) (p:Nat) (ks:List T):(T.mk k s n p ks).good=(zog k s n && zrh ks):=by rw [T.good]
theorem zUc:zrh []=true:=by rw [zrh]
theorem zjc (t:T) (ts:List T):zrh (t :: ts)=(t.good && zrh ts):=by rw [zrh]
theorem zYe:∀ a b:List T,zrh (a++b)=(zrh a && zrh b)
 | [],b=>by simp [zUc]
 | t :: ts,b=>by rw [List.cons_append,zjc,zjc,zYe ts b,Bool.and_assoc]
theorem zEi {v:Int} {t:T} (h:t.good=true) (hv:zno v=true):(t.zDb v).good=true:=by
 cases t
 simp only [T.zDb,znh,zog,Bool.and_eq_true] at *
 exact ⟨⟨h.1.1,hv,h.1.2.2⟩,h.2⟩
theorem zYi {t b:T} (h:t.good=true) (hb:b.good=true):(t.snoc b).good=true:=by
 cases t
 simp only [T.snoc,znh,zYe,zjc,zUc,Bool.and_eq_true,Bool.and_true] at *
 exact ⟨h.1,h.2,hb⟩
theorem zng:zno 0=true:=by decide
theorem zlc {k:Int} {s:ByteArray} {n:Int} (hk:(k == 1 || k == 3 || k == 6 || k == 7 || k == 10 || k == 11 || k == 12 || k == 13 || k == 14 || k == 19 || k == 24 || k == 25 || k == 26 || k == 27 || k == 28)=true) (hs:zzd s=true) (hn:zno n=true):zog k s n=true:=by
 have h1:zgo k s=true:=by unfold zgo;rw [hk];exact hs
 have h2:(decide (0≤k) && decide (k≤28))=true:=by
  simp only [Bool.or_eq_true,beq_iff_eq] at hk
  simp only [Bool.and_eq_true,decide_eq_true_eq]
  omega
 unfold zog
 rw [h1,h2,hn];rfl
def TG (l:List Tok):Prop:=∀ t∈l,(t.kind=1→zzd t.text=true)∧t.num≤1099511627776
theorem TG.tail {l:List Tok} (h:TG l):TG l.tail:=fun t ht=>h t (List.mem_of_mem_tail ht)
theorem TG.hd {l:List Tok} (h:TG l):((hdT l).kind=1→zzd (hdT l).text=true)∧(hdT l).num≤1099511627776:=by
 cases l with
 | nil=>simp [hdT,zfb]
 | cons t r=>exact h t (by simp)
def Nm (s:ByteArray) (l':List Tok):Prop:=zzd s=true∧TG l'
def Nu (v:Int) (l':List Tok):Prop:=(0≤v∧v≤1099511627776)∧TG l'
def Gd (t:T) (l':List Tok):Prop:=t.good=true∧TG l'
def GdL (ts:List T) (l':List Tok):Prop:=zrh ts=true∧TG l'
def Gn (t:T) (l':List Tok):Prop:=(zzd t.text=true∧t.good=true)∧TG l'
theorem zbc {ss:List ByteArray} {l:List Tok} (h:TG l):Ok (fun t l'=>ss.any (isT t)=true∧TG l') (zta ss l):=by
 unfold zta
 exact Ok.cond (fun hc=>Ok.ok ⟨hc,h.tail⟩) fun _=>Ok.err
theorem zZf {l:List Tok} (h:TG l):Ok Nm (zdc l):=by
 unfold zdc zSd
 refine Ok.bd (G:=Nm ∘ Tok.text) (Ok.cond (fun hc=>Ok.ok ⟨h.hd.1 (beq_iff_eq.1 hc),h.tail⟩) fun _=>Ok.err) fun _ _ h=>Ok.ok h
theorem zfg {l:List Tok} (h:TG l):Ok Nu (zKa l):=by
 unfold zKa zSd
 refine Ok.bd (G:=fun t l'=>Nu (t.num:Int) l') (Ok.cond (fun hc=>Ok.ok ⟨⟨by omega,by have:=h.hd.2;omega⟩,h.tail⟩) fun _=>Ok.err) fun _ _ h=>Ok.ok h
theorem zPm {v:Int} (h:0≤v∧v≤1099511627776):zno v=true:=by unfold zno;simp;omega
theorem zVo {v:Int} (h:0≤v∧v≤1099511627776):zno (-v)=true:=by unfold zno;simp;omega
theorem zTb {k:Int} {s:ByteArray} {n:Int} {p:Nat} (h:zog k s n=true):(T.mk k s n p []).good=true:=by rw [znh,zUc,h];rfl
theorem zse {k:Int} {s:ByteArray} {n:Int} {p:Nat} {a:T} (h:zog k s n=true) (ha:a.good=true):(T.mk k s n p [a]).good=true:=by rw [znh,zjc,zUc,h,ha];rfl
theorem zSj {k:Int} {s:ByteArray} {n:Int} {p:Nat} {a b:T} (h:zog k s n=true) (ha:a.good=true) (hb:b.good=true):(T.mk k s n p [a,b]).good=true:=by rw [znh,zjc,zjc,zUc,h,ha,hb];rfl
theorem good_row {k:Int} {s:ByteArray} {n:Int} {p:Nat} {ks:List T} (h:zog k s n=true) (ha:zrh ks=true):(T.mk k s n p ks).good=true:=by rw [znh,h,ha];rfl
theorem zQt:(e0.toList == [])=true:=by rw [ByteArray.toList_eq];rfl
theorem znu {n:Int} (hn:zno n=true):zog 5 e0 n=true:=by
 have h1:zgo 5 e0=true:=by show (e0.toList == [] || zzd e0)=true;rw [zQt];rfl
 unfold zog;rw [h1,hn];rfl
theorem zMt {s:ByteArray} {n:Int} (hs:zzd s=true) (hn:zno n=true):zog 5 s n=true:=by
 have h1:zgo 5 s=true:=by show (s.toList == [] || zzd s)=true;rw [hs,Bool.or_true]
 unfold zog;rw [h1,hn];rfl
theorem zLb {k:Int} {s:ByteArray} {n:Int} (h1:zgo k s=true) (h2:(decide (0≤k) && decide (k≤28))=true) (hn:zno n=true):zog k s n=true:=by unfold zog;rw [h1,h2,hn];rfl
theorem zhg {l:List Tok} (h:TG l):Ok Gn (zqa l):=by
 unfold zqa
 exact (zZf h).bd fun s l1 h1=>Ok.ok ⟨⟨h1.1,zTb (zMt h1.1 zng)⟩,h1.2⟩
theorem zje {l:List Tok} (h:TG l):Ok Gd (zqa l):=(zhg h).mono fun _ _ h=>⟨h.1.2,h.2⟩
theorem zFh {l:List Tok} (h:TG l):Ok Gd (zOa l):=by
 unfold zOa
 exact Ok.cond (fun _=>(zfg h.tail).bd fun n l1 h1=>Ok.ok ⟨zTb (znu (zVo h1.1)),h1.2⟩) (fun _=>(zfg h).bd fun n l1 h1=>Ok.ok ⟨zTb (znu (zPm h1.1)),h1.2⟩)
theorem zku {l:List Tok} {k x:Int} (h:sumP l=some (k,x)):(k=21∧x=1)∨(k=22∧x=-1):=by
 unfold sumP at h
 cases h1:isT (hdT l) (bs [43]) with
 | true=>rw [h1] at h;cases h;exact .inl ⟨rfl,rfl⟩
 | false =>
  rw [h1] at h
  cases h2:isT (hdT l) (bs [45]) with
  | true=>rw [h2] at h;cases h;exact .inr ⟨rfl,rfl⟩
  | false=>rw [h2] at h;cases h
theorem zAp {l:List Tok} {k x v:Int} (h:sumP l=some (k,x)) (hv:0≤v∧v≤1099511627776):zno (x * v)=true:=by
 rcases zku h with ⟨_,rfl⟩|⟨_,rfl⟩
 ·rw [Int.one_mul];exact zPm hv
 ·rw [Int.neg_one_mul];exact zVo hv
theorem zKq {l:List Tok} {k x:Int} (h:sumP l=some (k,x)):zog k e0 0=true:=by
 rcases zku h with ⟨rfl,_⟩|⟨rfl,_⟩<;>rfl
theorem zti {l:List Tok} (h:TG l):Ok Gd (zib l):=by
 unfold zib
 exact Ok.cond (fun _=>(zhg h).bd fun n l1 h1=>Ok.sum (fun _=>Ok.ok ⟨h1.1.2,h1.2⟩) fun k x hs=>(zfg h1.2.tail).bd fun v l2 h2=>Ok.ok ⟨zEi h1.1.2 (zAp hs h2.1),h2.2⟩) (fun _=>zFh h)
theorem zOp {item:List Tok→R T} (hi:∀ {l},TG l→Ok Gd (item l)):∀ (n:Nat) {l:List Tok},TG l→Ok GdL (zpe item n l)
 | 0,l,_=>Ok.err
 | n+1,l,h=>by
  rw [zpe]
  exact Ok.cond (fun _=>(hi h.tail).bd fun a l1 h1=>(zOp hi n h1.2).bd fun xs l2 h2=>Ok.ok ⟨by rw [zjc,h1.1,h2.1];rfl,h2.2⟩) (fun _=>Ok.ok ⟨zUc,h⟩)
theorem zsq {item:List Tok→R T} (hi:∀ {l},TG l→Ok Gd (item l)) {l:List Tok} (h:TG l):Ok GdL (zte item l):=by
 unfold zte
 exact (hi h).bd fun a l1 h1=>(zOp hi _ h1.2).bd fun xs l2 h2=>Ok.ok ⟨by rw [zjc,h1.1,h2.1];rfl,h2.2⟩
theorem znk {item:List Tok→R T} (hi:∀ {l},TG l→Ok Gd (item l)) {l:List Tok} (h:TG l):Ok GdL (zxb item l):=by
 unfold zxb
 exact (zbc h).bd fun _ l1 h1=>Ok.cond (fun _=>Ok.ok ⟨zUc,h1.2.tail⟩) (fun _=>(zsq hi h1.2).bd fun xs l2 h2=>(zbc h2.2).bd fun _ l3 h3=>Ok.ok ⟨h2.1,h3.2⟩)
theorem zzp {l:List Tok} (h:TG l):Ok Gd (zDd l):=by
 unfold zDd
 exact (zbc h).bd fun _ l1 h1=>(zti h1.2).bd fun a l2 h2=>(zbc h2.2).bd fun _ l3 h3=>Ok.ok ⟨h2.1,h3.2⟩
theorem zVr {n:T} (hn:zzd n.text=true) {l:List Tok} (h:TG l):Ok Gd (zKf n l):=by
 unfold zKf
 exact (znk zti h).bd fun xs l1 h1=>Ok.ok ⟨good_row (zlc rfl hn zng) h1.1,h1.2⟩
theorem ref_g {p:Nat} {l:List Tok} (h:TG l):Ok Gd (zEk p l):=by
 unfold zEk
 exact Ok.cond (fun _=>(zZf h.tail).bd fun s l1 h1=>Ok.ok ⟨zTb (zlc rfl h1.1 zng),h1.2⟩) (fun _=>(zZf h).bd fun s l1 h1=>Ok.ok ⟨zTb (zlc rfl h1.1 zng),h1.2⟩)
theorem zPn {l:List Tok} (h:TG l):Ok Gd (zPa l):=by
 unfold zPa
 exact (zhg h).bd fun n l1 h1=>Ok.cond (fun _=>(zzp h1.2).bd fun a l2 h2=>Ok.ok ⟨zse (zlc rfl h1.1.1 zng) h2.1,h2.2⟩) fun _=>Ok.cond (fun _=>zVr h1.1.1 h1.2) fun _=>Ok.sum (fun _=>Ok.ok ⟨h1.1.2,h1.2⟩) fun k x hs=>Ok.cond (fun _=>(zje h1.2.tail).bd fun m l2 h2=>Ok.ok ⟨zSj (zKq hs) h1.1.2 h2.1,h2.2⟩) (fun _=>(zfg h1.2.tail).bd fun v l2 h2=>Ok.ok ⟨zEi h1.1.2 (zAp hs h2.1),h2.2⟩)
theorem zDt {l:List Tok} (h:TG l):Ok Gd (zIc l):=by
 unfold zIc
 exact Ok.cond (fun _=>(zfg h.tail).bd fun v l1 h1=>Ok.ok ⟨zTb (zLb rfl rfl (zPm h1.1)),h1.2⟩) fun _=>Ok.cond (fun _=>(zZf h.tail).bd fun s l1 h1=>Ok.ok ⟨zTb (zlc rfl h1.1 zng),h1.2⟩) fun _=>Ok.cond (fun _=>ref_g h.tail) fun _=>Ok.cond (fun _=>zPn h) fun _=>zFh h
theorem zJi {k:Int} (hk:k=4∨k=15∨k=16) {p:Nat} {l:List Tok} (h:TG l):Ok Gd (zyb k p l):=by
 unfold zyb
 refine (zti h).bd fun a l1 h1=>(zbc h1.2).bd fun c l2 h2=>(zti h2.2).bd fun b l3 h3=>Ok.ok ⟨zSj ?_ h1.1 h3.1,h3.2⟩
 have h4:(c.text.toList == [60] || (c.text.toList == [60,61] || c.text.toList == [61,61]))=true:=by
  have:=h2.1
  simp only [List.any_cons,List.any_nil,Bool.or_false,isT,bs,ByteArray.toList_eq] at this
  rw [ByteArray.toList_eq]
  exact this
 rcases hk with rfl|rfl|rfl
 ·exact zLb h4 rfl zng
 ·exact zLb h4 rfl zng
 ·exact zLb h4 rfl zng
theorem zbu {l:List Tok} (h:TG l):Ok Gd (zye l):=by unfold zye;exact zJi (.inl rfl) h
theorem zgt {l:List Tok} (h:TG l):Ok Gd (zPc l):=by
 unfold zPc
 exact (zZf h).bd fun s l1 h1=>Ok.cond (fun _=>(zje h1.2.tail).bd fun a l2 h2=>(zbc h2.2).bd fun _ l3 h3=>Ok.ok ⟨zse (zlc rfl h1.1 zng) h2.1,h3.2⟩) (fun _=>Ok.ok ⟨zTb (zlc rfl h1.1 zng),h1.2⟩)
theorem zsu {l:List Tok} (h:TG l):Ok Gd (zoe l):=by
 unfold zoe
 exact (zbc h).bd fun t l1 h1=>Ok.cond (fun _=>Ok.ok ⟨zTb (zLb rfl rfl zng),h1.2⟩) (fun _=>(zje h1.2).bd fun a l2 h2=>Ok.ok ⟨zse (zLb rfl rfl zng) h2.1,h2.2⟩)
theorem zjj {l:List Tok} (h:TG l):Ok Gd (zVa l):=by
 unfold zVa
 exact (zbc h).bd fun t l1 h1=>Ok.cond (fun _=>(zje h1.2).bd fun a l2 h2=>Ok.ok ⟨zse (zLb rfl rfl zng) h2.1,h2.2⟩) (fun _=>Ok.ok ⟨zTb (zLb rfl rfl zng),h1.2⟩)
theorem zZt {l:List Tok} (h:TG l):Ok Gd (zId l):=by
 unfold zId
 exact Ok.cond (fun _=>Ok.cond (fun _=>(zje h.tail.tail).bd fun a l2 h2=>Ok.ok ⟨zse (zLb rfl rfl zng) h2.1,h2.2⟩) (fun _=>(zje h.tail).bd fun a l2 h2=>Ok.ok ⟨zse (zLb rfl rfl zng) h2.1,h2.2⟩)) (fun _=>zjj h)
theorem zps {l:List Tok} (h:TG l):Ok Gd (zdd l):=by
 unfold zdd
 exact (zZf h).bd fun s l1 h1=>(zbc h1.2).bd fun _ l2 h2=>(zZt h2.2).bd fun a l3 h3=>Ok.ok ⟨zse (zlc rfl h1.1 zng) h3.1,h3.2⟩
theorem zBq {l:List Tok} (h:TG l):Ok GdL (zHd l):=by
 unfold zHd
 exact Ok.cond (fun _=>(zsq zgt h.tail).bd fun xs l1 h1=>(zbc h1.2).bd fun _ l2 h2=>Ok.ok ⟨h1.1,h2.2⟩) (fun _=>Ok.ok ⟨zUc,h⟩)
theorem zqs {l:List Tok} (h:TG l):Ok GdL (zVd l):=by
 unfold zVd
 exact Ok.cond (fun _=>zsq zbu h.tail) (fun _=>Ok.ok ⟨zUc,h⟩)
theorem zmu {p:Nat} {l:List Tok} (h:TG l):Ok Gd (zNc p l):=by
 unfold zNc
 exact (zZf h).bd fun s l1 h1=>(zsu h1.2).bd fun a l2 h2=>(zBq h2.2).bd fun ys l3 h3=>(zqs h3.2).bd fun zs l4 h4=>(zbc h4.2).bd fun _ l5 h5=>Ok.ok ⟨good_row (zlc rfl h1.1 zng) (by rw [zjc,zYe,h2.1,h3.1,h4.1];rfl),h5.2⟩
theorem zis {k:Int} (hk:k=13∨k=14) {p:Nat} {l:List Tok} (h:TG l):Ok Gd (zze k p l):=by
 unfold zze
 exact (zZf h).bd fun s l1 h1=>(zbc h1.2).bd fun _ l2 h2=>(zfg h2.2).bd fun v l3 h3=>(zbc h3.2).bd fun _ l4 h4=>Ok.ok ⟨zTb (zlc (by rcases hk with rfl|rfl<;>rfl) h1.1 (zPm h3.1)),h4.2⟩
theorem zIr {p:Nat} {l:List Tok} (h:TG l):Ok Gd (zYc p l):=by
 unfold zYc
 exact Ok.cond (fun _=>Ok.ok ⟨zTb (zLb rfl rfl zng),h⟩) (fun _=>(zti h).bd fun a l1 h1=>Ok.ok ⟨zse (zLb rfl rfl zng) h1.1,h1.2⟩)
theorem zns {l:List Tok} (h:TG l):Ok Gd (zSb l):=by
 unfold zSb
 exact (zhg h).bd fun n l1 h1=>Ok.cond (fun _=>(zVr h1.1.1 h1.2).bd fun c l2 h2=>Ok.ok ⟨zse (zLb rfl rfl zng) h2.1,h2.2⟩) fun _=>Ok.cond (fun _=>(zzp h1.2).bd fun i l2 h2=>(zbc h2.2).bd fun _ l3 h3=>(zti h3.2).bd fun b l4 h4=>Ok.ok ⟨zSj (zlc rfl h1.1.1 zng) h2.1 h4.1,h4.2⟩) fun _=>(zbc h1.2).bd fun _ l2 h2=>(zDt h2.2).bd fun x l3 h3=>Ok.ok ⟨zse (zlc rfl h1.1.1 zng) h3.1,h3.2⟩
theorem zcr {l:List Tok} (h:TG l):Ok Gd (zbb l):=by
 unfold zbb
 exact Ok.cond (fun _=>zns h) fun _=>Ok.cond (fun _=>(zZf h.tail).bd fun s l1 h1=>Ok.ok ⟨zTb (zlc rfl h1.1 zng),h1.2⟩) fun _=>Ok.cond (fun _=>zis (.inl rfl) h.tail) fun _=>Ok.cond (fun _=>zis (.inr rfl) h.tail) fun _=>Ok.cond (fun _=>zIr h.tail) fun _=>Ok.cond (fun _=>Ok.ok ⟨zTb (zLb rfl rfl zng),h.tail⟩) fun _=>Ok.cond (fun _=>(zZf h.tail).bd fun s l1 h1=>(znk zti h1.2).bd fun xs l2 h2=>Ok.ok ⟨good_row (zlc rfl h1.1 zng) h2.1,h2.2⟩) fun _=>Ok.err
theorem zAt {blk:List Tok→R T} (hb:∀ {l},TG l→Ok Gd (blk l)) {p:Nat} {l:List Tok} (h:TG l):Ok Gd (zJg blk p l):=by
 unfold zJg
 exact Ok.cond (fun _=>hb h.tail) (fun _=>Ok.ok ⟨zTb (zLb rfl rfl zng),h⟩)
theorem if_g {blk:List Tok→R T} (hb:∀ {l},TG l→Ok Gd (blk l)) {p:Nat} {l:List Tok} (h:TG l):Ok Gd (ifP blk p l):=by
 unfold ifP
 exact (zJi (.inr (.inl rfl)) h).bd fun n l1 h1=>(hb h1.2).bd fun b l2 h2=>(zAt hb h2.2).bd fun c l3 h3=>Ok.ok ⟨zYi (zYi h1.1 h2.1) h3.1,h3.2⟩
theorem zft {blk:List Tok→R T} (hb:∀ {l},TG l→Ok Gd (blk l)) {p:Nat} {l:List Tok} (h:TG l):Ok Gd (zug blk p l):=by
 unfold zug
 exact (zJi (.inr (.inr rfl)) h).bd fun n l1 h1=>(hb h1.2).bd fun b l2 h2=>Ok.ok ⟨zYi h1.1 h2.1,h2.2⟩
theorem ztu {blk:List Tok→R T} (hb:∀ {l},TG l→Ok Gd (blk l)) {l:List Tok} (h:TG l):Ok Gd (zfc blk l):=by
 unfold zfc
 exact Ok.cond (fun _=>if_g hb h.tail) fun _=>Ok.cond (fun _=>zft hb h.tail) fun _=>(zcr h).bd fun n l1 h1=>(zbc h1.2).bd fun _ l2 h2=>Ok.ok ⟨h1.1,h2.2⟩
theorem zAm {item:List Tok→R T} (hi:∀ {l},TG l→Ok Gd (item l)):∀ (n:Nat) {l:List Tok},TG l→Ok GdL (zkc item n l)
 | 0,l,_=>Ok.err
 | n+1,l,h=>by
  rw [zkc]
  exact Ok.cond (fun _=>Ok.ok ⟨zUc,h.tail⟩) (fun _=>(hi h).bd fun a l1 h1=>(zAm hi n h1.2).bd fun xs l2 h2=>Ok.ok ⟨by rw [zjc,h1.1,h2.1];rfl,h2.2⟩)
theorem zQp:∀ (n:Nat) {l:List Tok},TG l→Ok Gd (zob n l)
 | 0,l,h=>by rw [zob];exact (zbc h).bd fun _ _ _=>Ok.err
 | n+1,l,h=>by
  rw [zob]
  exact (zbc h).bd fun t l1 h1=>(zAm (ztu (zQp n)) _ h1.2).bd fun xs l2 h2=>Ok.ok ⟨good_row (zLb rfl rfl zng) h2.1,h2.2⟩
theorem zMr {l:List Tok} (h:TG l):Ok Gd (zad l):=by
 unfold zad
 exact Ok.cond (fun _=>zjj h.tail) (fun _=>Ok.ok ⟨zTb (zLb rfl rfl zng),h⟩)
theorem fn_g {p:Nat} {l:List Tok} (h:TG l):Ok Gd (fnP p l):=by
 unfold fnP
 exact (zZf h).bd fun s l1 h1=>(znk zps h1.2).bd fun xs l2 h2=>(zMr h2.2).bd fun r l3 h3=>(zQp 8 h3.2).bd fun b l4 h4=>Ok.ok ⟨good_row (zlc rfl h1.1 zng) (by rw [zYe,zjc,zjc,zUc,h2.1,h3.1,h4.1];rfl),h4.2⟩
theorem zOt {l:List Tok} (h:TG l):Ok Gd (zce l):=by
 unfold zce
 exact (zbc h).bd fun t l1 h1=>Ok.cond (fun _=>zmu h1.2) (fun _=>fn_g h1.2)
theorem zNo:∀ (n:Nat) {l:List Tok},TG l→Ok GdL (zJd n l)
 | 0,l,_=>Ok.err
 | n+1,l,h=>by
  rw [zJd]
  exact Ok.cond (fun _=>Ok.ok ⟨zUc,h⟩) (fun _=>(zOt h).bd fun a l1 h1=>(zNo n h1.2).bd fun xs l2 h2=>Ok.ok ⟨by rw [zjc,h1.1,h2.1];rfl,h2.2⟩)
theorem zTt {l l':List Tok} {t:T} (hl:TG l) (h:zxe l=.ok (t,l')):t.good=true:=by
 have h1:Ok Gd (zxe l):=by
  unfold zxe
  exact (zNo _ hl).bd fun xs l1 h=>Ok.ok ⟨good_row (zLb rfl rfl zng) h.1,h.2⟩
 exact (h1 t l' h).1
theorem zLi (p:Int→Bool):∀ l:List UInt8,zhe p (l.take (zhe p l))=zhe p l
 | []=>by simp [zhe]
 | b :: r=>by
  have ih:=zLi p r
  by_cases hb:p (b.toNat:Int)=true
  ·rw [zhe,if_pos hb,List.take_succ_cons,zhe,if_pos hb,ih]
  ·rw [zhe,if_neg hb];rfl
theorem zdq (s:ByteArray) (k n:Nat):(s.extract k (k+n)).data.toList=(s.data.toList.drop k).take n:=by
 rw [ByteArray.data_extract,Array.toList_extract]
 simp [List.extract]
theorem zvq {s:ByteArray} {k:Nat} {t:Tok} (hk:k<s.size) (hl:zJf ((bat s k).toNat:Int)=true) (h:zZb s k=.ok t):t.kind=1→zzd t.text=true:=by
 have hz:=zkj hk hl h
 unfold zZb at h
 split at h
 ·cases h
 ·rename_i h16
  split at h
  ·cases h;intro hc;cases hc
  ·rename_i hkey
   cases h
   intro _
   have hle:=zEd zOe s k (by omega)
   have hsz:=ztd s k (endOf zOe s k) hle
   simp only at hz ⊢
   have hd:=drop_at s k hk
   have hlist:(s.extract k (endOf zOe s k)).data.toList=(s.data.toList.drop k).take (zhe zOe (s.data.toList.drop k)):=zdq s k _
   have hrun:endOf zOe (s.extract k (endOf zOe s k)) 0=(s.extract k (endOf zOe s k)).size:=by
    rw [hsz]
    show 0+zhe zOe ((s.extract k (endOf zOe s k)).data.toList.drop 0)=_
    rw [List.drop_zero,hlist,zLi]
    unfold endOf
    omega
   have hat:at0 (s.extract k (endOf zOe s k))=((bat s k).toNat:Int):=by
    unfold at0
    rw [hlist,zqc s k hk,hd]
    have:0<zhe zOe (s.data.toList.drop k):=by
     have h1:=hz.1
     rw [hsz] at h1
     unfold endOf at h1
     omega
    rw [hd] at this
    obtain ⟨m,hm⟩:=Nat.exists_eq_succ_of_ne_zero (Nat.pos_iff_ne_zero.1 this)
    rw [hm,List.take_succ_cons]
    rfl
   unfold zzd
   rw [hat,hl,hrun]
   have hk2:zMe (s.extract k (endOf zOe s k))=false:=by simpa using hkey
   rw [hk2]
   simp only [Bool.and_true,Bool.not_false,decide_true,Bool.and_eq_true,decide_eq_true_eq]
   exact ⟨hz.1,by omega⟩
theorem zFr {s:ByteArray} {k:Nat} {t:Tok} (hk:k<s.size) (h:zTd s k=.ok t):t.kind=1→zzd t.text=true:=by
 have hs:∀ n,zpb s k n=.ok t→t.kind≠1:=by
  intro n
  induction n with
  | zero =>
   unfold zpb zgf
   split
   ·intro h;cases h;simp
   ·intro h;cases h
  | succ n ih =>
   unfold zpb
   split
   ·intro h;cases h;simp
   ·exact ih
 unfold zTd at h
 split at h
 ·rename_i hl
  exact zvq hk hl h
 ·split at h
  ·unfold zAd at h
   split at h
   ·cases h
   ·cases h;intro hc;cases hc
  ·intro hc;exact absurd hc (hs 3 h)
theorem zRj {s:ByteArray}:∀ k,∀ ts,lexFrom s k=.ok ts→∀ t∈ts,t.kind=1→zzd t.text=true:=by
 apply zsk (P:=fun k r=>∀ ts,r=.ok ts→∀ t∈ts,t.kind=1→zzd t.text=true)
 ·intro k _ ts h t ht
  cases h
  obtain rfl:t=zvf s:=by simpa using ht
  intro hc;cases hc
 ·intro k _ _ ih;exact ih
 ·intro k _ _ ih;exact ih
 ·intro k e _ _ _ _ ts h;cases h
 ·intro k t hk _ _ ht ih ts h
  cases hr:lexFrom s (k+t.text.size) with
  | error e=>rw [hr] at h;cases h
  | ok ts' =>
   rw [hr] at h
   cases h
   intro u hu
   rcases List.mem_cons.1 hu with rfl|hu
   ·exact zFr hk ht
   ·exact ih ts' hr u hu
theorem zSp {s:ByteArray} {ts:List Tok} (h:zHc s=.ok ts):TG ts:=by
 have hg:=(zxf h).2.1
 unfold zHc at h
 split at h
 ·cases h
 ·exact fun t ht=>⟨zRj 0 ts h t ht,(hg t ht).num⟩
theorem zGp:znb.good=true:=zTb (zLb rfl rfl zng)
theorem zon (s:ByteArray):(zFb s).1.good=true∧(zFb s).1.size≤4096:=by
 have hz:znb.good=true∧znb.size≤4096:=⟨zGp,by unfold znb;rw [size_mk,zwa];omega⟩
 unfold zFb
 cases hl:zHc s with
 | error e=>exact hz
 | ok ts =>
  simp only
  unfold zTc
  cases hu:zxe ts with
  | error e=>exact hz
  | ok q =>
   obtain ⟨t,l⟩:=q
   simp only
   by_cases hs:4096<t.size
   ·rw [if_pos hs];exact hz
   ·rw [if_neg hs];exact ⟨zTt (zSp hl) hu,by simp only;omega⟩
end
section
open Go.RowKit
def zUa (s:ByteArray):Bool:=znc.contains s.data.toList || zWe s.data.toList || (s.size == 1 && zrd (s.data.toList.getD 0 0))
def zyq (t:Tok):Prop:=zUa t.text=true→t.kind=2∨t.kind=4
structure RSt (E:Env) (w:World) (l:List Tok) (d:Nat) (f:Int) (q:Nat):Prop where
 le:l.length≤E.ts.length
 suf:l=E.ts.drop (E.ts.length-l.length)
 blk:Blk w E.pb [.slice (some ⟨E.tb,0,none⟩) E.ts.length E.cap,.int .i64 ((E.ts.length-l.length:Nat):Int),.int .i64 d,.int .i64 f,.int .i64 q] 89
 row:zai w E.tb E.ts
 ne:E.tb≠E.pb
 tlt:E.tb<w.heap.size
 ends:Ends l
 ok:∀ t∈E.ts,zak t
 key:∀ t∈E.ts,zyq t
 len:E.ts.length≤16385
 capb:E.ts.length≤E.cap
 deep:d≤8
section
variable {E:Env} {w w':World} {l:List Tok} {d:Nat} {f:Int} {q:Nat}
theorem RSt.plt (h:RSt E w l d f q):E.pb<w.heap.size:=h.blk.lt
theorem RSt.head (h:RSt E w l d f q):0<l.length∧E.ts[E.ts.length-l.length]?=some (hdT l):=by
 obtain ⟨t,r,rfl⟩:=h.ends.ne
 refine ⟨by simp,?_⟩
 have h1:(E.ts.drop (E.ts.length-(t :: r).length))[0]?=some t:=by rw [← h.suf];rfl
 rw [List.getElem?_drop] at h1
 exact h1
theorem RSt.tok (h:RSt E w l d f q) :
  w.cell? ⟨E.tb,(E.ts.length-l.length) * 4,none⟩=some (.int .i64 (hdT l).kind)∧w.cell? ⟨E.tb,(E.ts.length-l.length) * 4+1,none⟩=some (.string (hdT l).text) ∧
  w.cell? ⟨E.tb,(E.ts.length-l.length) * 4+2,none⟩=some (.int .i64 (hdT l).num)∧w.cell? ⟨E.tb,(E.ts.length-l.length) * 4+3,none⟩=some (.int .i64 (hdT l).place) :=
 h.row _ _ h.head.2
theorem RSt.zvg (h:RSt E w l d f q):zak (hdT l):=h.ok _ (List.mem_of_getElem? h.head.2)
theorem RSt.zhi (h:RSt E w l d f q):zyq (hdT l):=h.key _ (List.mem_of_getElem? h.head.2)
theorem RSt.same (h:RSt E w l d f q) (hs:w.heap.size≤w'.heap.size) (hp:w'.heap[E.pb]?=w.heap[E.pb]?) (ht:w'.heap[E.tb]?=w.heap[E.tb]?):RSt E w' l d f q :=
 ⟨h.le,h.suf,hp.trans h.blk,h.row.same ht,h.ne,Nat.lt_of_lt_of_le h.tlt hs,h.ends,h.ok,h.key,h.len,h.capb,h.deep⟩
theorem RSt.below (h:RSt E w l d f q) (hb:Below w.heap.size w w'):RSt E w' l d f q:=h.same hb.size (hb.block _ h.plt) (hb.block _ h.tlt)
theorem RSt.alloc (h:RSt E w l d f q) (o:Obj):RSt E (w.alloc o) l d f q:=h.same (by simp) (Below.heap_alloc w o _ h.plt) (Below.heap_alloc w o _ h.tlt)
theorem RSt.zfd (h:RSt E w l d f q) (he:Ends l.tail):RSt E (w.setCell ⟨E.pb,1,none⟩ (.int .i64 (((E.ts.length-l.length:Nat):Int)+1))) l.tail d f q:=by
 have h1:=h.head.1
 have h2:=h.le
 have e1:E.ts.length-l.tail.length=E.ts.length-l.length+1:=by rw [List.length_tail];omega
 refine ⟨by rw [List.length_tail];omega,?_,?_,h.row.same (Below.heap_setCell _ _ _ _ h.ne),h.ne,by simpa [World.setCell] using h.tlt,he,h.ok,h.key,h.len,h.capb,h.deep⟩
 ·rw [e1,← List.drop_drop,← h.suf]
  cases l<;>rfl
 ·have h3:=h.blk.zxa 1 (.int .i64 (((E.ts.length-l.length:Nat):Int)+1))
  rw [e1]
  exact h3
theorem RSt.setF (h:RSt E w l d f q) (f':Int):RSt E (w.setCell ⟨E.pb,3,none⟩ (.int .i64 f')) l d f' q :=
 ⟨h.le,h.suf,h.blk.zxa 3 _,h.row.same (Below.heap_setCell _ _ _ _ h.ne),h.ne,by simpa [World.setCell] using h.tlt,h.ends,h.ok,h.key,h.len,h.capb,h.deep⟩
theorem RSt.setQ (h:RSt E w l d f q) (q':Nat):RSt E (w.setCell ⟨E.pb,4,none⟩ (.int .i64 q')) l d f q' :=
 ⟨h.le,h.suf,h.blk.zxa 4 _,h.row.same (Below.heap_setCell _ _ _ _ h.ne),h.ne,by simpa [World.setCell] using h.tlt,h.ends,h.ok,h.key,h.len,h.capb,h.deep⟩
end
theorem zGg {t:Tok} {s:ByteArray} (hk:zyq t) (hs:zUa s=true) (h:isT t s=true):t.kind=2∨t.kind=4:=by
 have h1:=beq_iff_eq.1 (show (t.text.toList == s.toList)=true from h)
 rw [ByteArray.toList_eq,ByteArray.toList_eq] at h1
 unfold zyq at hk
 rw [zFl h1] at hk
 exact hk hs
theorem zJc {B:Nat} {a w:World} (h:Below B a w) (n:Nat):Below B a (w.drewN n):=⟨h.os,h.tape,h.output,h.size,h.block⟩
theorem zMl {E:Env} {w:World} {l:List Tok} {d:Nat} {f:Int} {q:Nat} (h:RSt E w l d f q) (s:ByteArray) (hs:zUa s=true) :
  Calls Tryz.prog 74 #[.pointer (some ⟨E.pb,0,none⟩),.string s] w fun e w'=>e=.returned (.bool (f == 0 && isT (hdT l) s))∧Below w.heap.size w w':=by
 have c0:w.cell? ⟨E.pb,0,none⟩=some (.slice (some ⟨E.tb,0,none⟩) E.ts.length E.cap):=h.blk.cell 0
 have c1:w.cell? ⟨E.pb,1,none⟩=some (.int .i64 ((E.ts.length-l.length:Nat):Int)):=h.blk.cell 1
 have c3:w.cell? ⟨E.pb,3,none⟩=some (.int .i64 f):=h.blk.cell 3
 obtain ⟨t0,t1,t2,t3⟩:=h.tok
 have hk:E.ts.length-l.length<E.ts.length:=by have:=h.head.1;have:=h.le;omega
 have hlen:=h.len
 have hcap:=h.capb
 have hway:(f == 0)=false∨((f == 0)=true∧(hdT l).kind=2)∨((f == 0)=true∧(hdT l).kind=4)∨((f == 0)=true∧((((hdT l).kind:Int) == 2)=false∧(((hdT l).kind:Int) == 4)=false)∧isT (hdT l) s=false):=by
  cases hf:(f == 0) with
  | false=>exact .inl rfl
  | true =>
   by_cases h2:(hdT l).kind=2
   ·exact .inr (.inl ⟨rfl,h2⟩)
   ·by_cases h4:(hdT l).kind=4
    ·exact .inr (.inr (.inl ⟨rfl,h4⟩))
    ·refine .inr (.inr (.inr ⟨rfl,⟨by simp;omega,by simp;omega⟩,?_⟩))
     cases hi:isT (hdT l) s with
     | false=>rfl
     | true=>rcases zGg h.zhi hs hi with h'|h'<;>omega
 have ix1:(0:Int)≤((E.ts.length-l.length:Nat):Int):=by omega
 have ix2:(((E.ts.length-l.length:Nat):Int))<(E.ts.length:Int):=by omega
 generalize E.ts.length-l.length=k at *
 generalize hT:hdT l=t at *
 clear h hT
 rcases hway with hf|⟨hf,h2⟩|⟨hf,h2⟩|⟨hf,⟨h2,h4⟩,hi⟩
 ·rw [hf]
  go_enter Tryz.func74,Tryz.ntmps74
  go_wp2
  go_quiet (fail)
  go_wp2
  go_quiet (fail)
  go_wp2
  go_ret
  exact ⟨rfl,zJc (zJc (Below.refl _ _) _) _⟩
 ·have e2:((t.kind:Int) == 2)=true:=by rw [h2];rfl
  have HF:=zh hf
  cases hi:(t.text.toList == s.toList) with
  | true =>
   have HI:=zh hi
   go_enter Tryz.func74,Tryz.ntmps74
   go_wp2
   go_quiet (fail)
   go_wp2
   go_quiet (fail)
   go_wp2
   go_ret
   exact ⟨zzc (by unfold isT;rw [HF.out,HI.out];rfl),zJc (zJc (Below.refl _ _) _) _⟩
  | false =>
   have HI:=zh hi
   go_enter Tryz.func74,Tryz.ntmps74
   go_wp2
   go_quiet (fail)
   go_wp2
   go_quiet (fail)
   go_wp2
   go_ret
   exact ⟨zzc (by unfold isT;rw [HF.out,HI.out];rfl),zJc (zJc (Below.refl _ _) _) _⟩
 ·have e2:((t.kind:Int) == 2)=false:=by rw [h2];rfl
  have e4:((t.kind:Int) == 4)=true:=by rw [h2];rfl
  have HF:=zh hf
  cases hi:(t.text.toList == s.toList) with
  | true =>
   have HI:=zh hi
   go_enter Tryz.func74,Tryz.ntmps74
   go_wp2
   go_quiet (fail)
   go_wp2
   go_quiet (fail)
   go_wp2
   go_ret
   exact ⟨zzc (by unfold isT;rw [HF.out,HI.out];rfl),zJc (zJc (Below.refl _ _) _) _⟩
  | false =>
   have HI:=zh hi
   go_enter Tryz.func74,Tryz.ntmps74
   go_wp2
   go_quiet (fail)
   go_wp2
   go_quiet (fail)
   go_wp2
   go_ret
   exact ⟨zzc (by unfold isT;rw [HF.out,HI.out];rfl),zJc (zJc (Below.refl _ _) _) _⟩
 ·have HF:=zh hf
  have HI:=zh hi
  clear hi
  go_enter Tryz.func74,Tryz.ntmps74
  go_wp2
  go_quiet (fail)
  go_wp2
  go_quiet (fail)
  go_wp2
  go_ret
  exact ⟨zzc (by rw [HF.out,HI.out];rfl),zJc (zJc (Below.refl _ _) _) _⟩
theorem zCc {E:Env} {w:World} {l:List Tok} {d:Nat} {f:Int} {q:Nat} (h:RSt E w l d f q) (s:ByteArray) (hs:zUa s=true) (hc:(f == 0 && isT (hdT l) s)=false) :
  Calls Tryz.prog 37 #[.pointer (some ⟨E.pb,0,none⟩),.string s] w fun e w'=>e=.returned (.bool false)∧Below w.heap.size w w':=by
 have HC:=zh hc
 clear hc
 go_enter Tryz.func37,Tryz.ntmps37
 go_wp2_with fail
 refine (zMl h s hs).mono ?_
 rintro e w1 ⟨rfl,hb⟩
 rw [HC.out]
 have HB:=zh hb
 clear hb h
 go_wp2
 go_ret
 exact ⟨rfl,HB.out⟩
theorem zYd {E:Env} {w:World} {l:List Tok} {d:Nat} {q:Nat} (h:RSt E w l d 0 q) (s:ByteArray) (hs:zUa s=true) (hp:0<s.size) (hi:isT (hdT l) s=true) :
  Calls Tryz.prog 37 #[.pointer (some ⟨E.pb,0,none⟩),.string s] w fun e w'=>e=.returned (.bool true)∧RSt E w' l.tail d 0 q∧Kp E.pb w w':=by
 have HI:=zh (show (((0:Int) == 0) && isT (hdT l) s)=true by rw [hi];rfl)
 have HE:=zh (h.ends.zie hi hp)
 have H:=zh h
 have hlen:=h.len
 clear hi
 go_enter Tryz.func37,Tryz.ntmps37
 go_wp2_with fail
 refine (zMl h s hs).mono ?_
 rintro e w1 ⟨rfl,hb⟩
 rw [HI.out]
 have HS:=zh (H.out.below hb)
 have HK:=zh (Kp.of_below (pb:=E.pb) hb)
 clear hb h
 have c1:w1.cell? ⟨E.pb,1,none⟩=some (.int .i64 ((E.ts.length-l.length:Nat):Int)):=HS.out.blk.cell 1
 have cf:=HS.out.blk.frozen 1
 have HN:=zh (HS.out.zfd HE.out)
 have HKN:=zh (HK.out.zth 1 (.int .i64 (((E.ts.length-l.length:Nat):Int)+1)))
 have hkb:E.ts.length-l.length≤16385:=by omega
 generalize E.ts.length-l.length=k at *
 go_wp2
 go_ret
 exact ⟨rfl,HN.out,HKN.out⟩
theorem zOf {E:Env} {w:World} {l:List Tok} {d:Nat} {f:Int} {q:Nat} (h:RSt E w l d f q) (hf:(f == 0)=false) (c:Int) :
  Calls Tryz.prog 77 #[.pointer (some ⟨E.pb,0,none⟩),.int .i64 c] w fun e w'=>e=.returned (.tuple #[])∧w=w':=by
 have c3:w.cell? ⟨E.pb,3,none⟩=some (.int .i64 f):=h.blk.cell 3
 clear h
 go_enter Tryz.func77,Tryz.ntmps77
 go_wp2
 go_end0
 exact ⟨rfl,rfl⟩
theorem zcg {E:Env} {w:World} {l:List Tok} {d:Nat} {q:Nat} (h:RSt E w l d 0 q) (c:Int) :
  Calls Tryz.prog 77 #[.pointer (some ⟨E.pb,0,none⟩),.int .i64 c] w fun e w'=>e=.returned (.tuple #[])∧RSt E w' l d c (hdT l).place∧Kp E.pb w w':=by
 have HN:=zh ((h.setF c).setQ (hdT l).place)
 have HKN:=zh (((Kp.refl E.pb w).zth 3 (.int .i64 c)).zth 4 (.int .i64 (hdT l).place))
 have hne:=h.ne
 have H1:=zh (h.setF c)
 have c3:w.cell? ⟨E.pb,3,none⟩=some (.int .i64 0):=h.blk.cell 3
 have f3:=h.blk.frozen 3
 have hk:E.ts.length-l.length<E.ts.length:=by have:=h.head.1;have:=h.le;omega
 have hlen:=h.len
 have hcap:=h.capb
 have ix1:(0:Int)≤((E.ts.length-l.length:Nat):Int):=by omega
 have ix2:(((E.ts.length-l.length:Nat):Int))<(E.ts.length:Int):=by omega
 clear h
 go_enter Tryz.func77,Tryz.ntmps77
 go_wp2
 generalize hw1:w.setCell ⟨E.pb,3,none⟩ (.int .i64 c)=w1 at HN HKN H1 ⊢
 have d0:w1.cell? ⟨E.pb,0,none⟩=some (.slice (some ⟨E.tb,0,none⟩) E.ts.length E.cap):=H1.out.blk.cell 0
 have d1:w1.cell? ⟨E.pb,1,none⟩=some (.int .i64 ((E.ts.length-l.length:Nat):Int)):=H1.out.blk.cell 1
 have d4:w1.cell? ⟨E.pb,4,none⟩=some (.int .i64 q):=H1.out.blk.cell 4
 have f4:=H1.out.blk.frozen 4
 obtain ⟨t0,t1,t2,t3⟩:=H1.out.tok
 clear hw1 c3 f3
 generalize E.ts.length-l.length=k at *
 go_region
 all_goals go_end0
 all_goals exact ⟨rfl,⟨HN.out.le,HN.out.suf,HN.out.blk,HN.out.row,HN.out.ne,HN.out.tlt,HN.out.ends,HN.out.ok,HN.out.key,HN.out.len,HN.out.capb,HN.out.deep⟩,⟨HKN.out.os,HKN.out.tape,HKN.out.output,HKN.out.size,HKN.out.block⟩⟩
end
section
open Go.RowKit
theorem Tryz.zyd:∃ i z,zbg Tryz.prog 32 34 i z:=by
 have h:(Tryz.prog.info? 34).map (fun i=>(i.zero,i.size,i.bytes))=some (some (.agg #[.int .i64 0,.string ⟨#[]⟩,.int .i64 0,.int .i64 0,.slice none 0 0]),5,64):=by kernel_rfl
 obtain ⟨i0,hi,hz0,hz1,hz2⟩:=info_parts h
 exact ⟨i0,_,Tryz.underlying32,hi,hz0,hz1,hz2,rfl⟩
theorem Tryz.zia:(Tryz.prog.info? 34).map (·.size)=some 5:=by kernel_rfl
theorem zEe {B:Nat} {a w:World} (h:Below B a w) {g:Nat} (hg:B≤g) (cs:Array Value):Below B a (w.setRow g cs) :=
 ⟨h.os,h.tape,h.output,by simpa [World.setRow] using h.size,fun k hk=>(setRow_other w g k cs (by omega)).trans (h.block k hk)⟩
theorem Blk.below {w w':World} {g:Nat} {cs:List Value} {t:TypeId} (h:Blk w g cs t) (hb:Below w.heap.size w w'):Blk w' g cs t:=(hb.block g h.lt).trans h
def zgu (w:World) (t:T) (e:Ending) (w':World):Prop:=∃ v,e=.returned (zma t v)∧KAt 34 w' t.kids (fun b=>w.heap.size≤b) v∧Below w.heap.size w w'
structure zMf (w:World) (t:T) (ks:List T) (v:Value) (W:World):Prop where
 below:Below w.heap.size w W
 res:Blk W (w.heap.size+1) zba 34
 loc:Blk W (w.heap.size+2) (zaa (.mk t.kind t.text t.num t.place ks) v) 34
 kids:KAt 34 W ks (fun b=>w.heap.size+2<b) v
section
variable {w W W':World} {t:T} {ks:List T} {v:Value}
theorem zMf.alloc (h:zMf w t ks v W) (o:Obj):zMf w t ks v (W.alloc o):=⟨h.below.alloc h.below.size o,h.res.alloc o,h.loc.alloc o,h.kids.alloc o⟩
theorem zMf.drew (h:zMf w t ks v W):zMf w t ks v W.drew:=⟨h.below.drew,h.res.drew,h.loc.drew,h.kids.drew⟩
theorem zMf.call (h:zMf w t ks v W) (hb:Below W.heap.size W W'):zMf w t ks v W':=⟨h.below.trans (hb.mono h.below.size),h.res.below hb,h.loc.below hb,h.kids.below hb⟩
theorem zMf.lt (h:zMf w t ks v W):w.heap.size+2<W.heap.size:=h.loc.lt
theorem zMf.fresh (h:zMf w t ks v W) {a:T} {u:Value} (hu:KAt 34 W' a.kids (fun b=>W.heap.size≤b) u):TAt 34 W' a (fun b=>w.heap.size+2<b∧v.ownBlock≠some b) u :=
 TAt.zNa (hu.mono fun b hb _=>by
  have h1:=h.lt
  refine ⟨by omega,fun hv=>?_⟩
  obtain ⟨_,ho,_⟩:=h.kids
  have:=(ho.lt b hv).2
  omega)
theorem zMf.after (h:zMf w t ks v W) {ts:List T} {v':Value} (hK:KAt 34 W' (ks++ts) (fun b=>w.heap.size+2<b) v') (hg:W.grownBy W' v.ownBlock) :
  zMf w t (ks++ts) v' (W'.setCell ⟨w.heap.size+2,4,none⟩ v')∧Blk W' (w.heap.size+2) (zaa (.mk t.kind t.text t.num t.place ks) v) 34:=by
 have hrow:∀ k,v.ownBlock=some k→w.heap.size+2<k:=fun k hk=>by obtain ⟨_,_,hS,_⟩:=h.kids;exact hS k hk
 have h1:Blk W' (w.heap.size+2) (zaa (.mk t.kind t.text t.num t.place ks) v) 34:=h.loc.grown hg (fun e=>by have:=hrow _ e.symm;omega)
 have h2:Blk W' (w.heap.size+1) zba 34:=h.res.grown hg (fun e=>by have:=hrow _ e.symm;omega)
 refine ⟨⟨(h.below.grown hg h.below.size (fun k hk=>by have:=hrow k hk;omega)).setCell (by show w.heap.size≤w.heap.size+2;omega) _,h2.setOther _ _ (by show w.heap.size+1≠w.heap.size+2;omega),h1.zxa 4 v',hK.setCell _ _ (fun b hb=>by show b≠w.heap.size+2;omega)⟩,h1⟩
theorem zMf.post (h:zMf w t t.kids v W):zgu w t (.returned (.agg (zaa t v).toArray)) (W.setRow (w.heap.size+1) (zaa t v).toArray) :=
 ⟨v,rfl,(h.kids.setRow _ _ (fun b hb=>by omega)).mono (fun b hb _=>by omega),zEe h.below (by omega) _⟩
end
end
section
open Go.RowKit
theorem zme {l:List Tok} {s:ByteArray} {b:Bool} (hi:isT (hdT l) s=b):(((0:Int) == 0) && isT (hdT l) s)=b:=by rw [hi];cases b<;>rfl
theorem zgi {f:Int} (hf:(f == 0)=false) (b:Bool):(f == 0 && b)=false:=by rw [hf];rfl
theorem zRi {E:Env} {w:World} {l:List Tok} {d:Nat} {q:Nat} (h:RSt E w l d 0 q) (s:ByteArray) (hs:zUa s=true) (hp:0<s.size) (hi:isT (hdT l) s=true) :
  Calls Tryz.prog 39 #[.pointer (some ⟨E.pb,0,none⟩),.string s] w fun e w'=>e=.returned (.tuple #[])∧RSt E w' l.tail d 0 q∧Kp E.pb w w':=by
 go_enter Tryz.func39,Tryz.ntmps39
 go_wp2_with fail
 refine (zYd h s hs hp hi).mono ?_
 rintro e w1 ⟨rfl,h1,hk⟩
 have H1:=zh h1
 have HK:=zh hk
 clear h1 hk h hi
 go_wp2
 go_end0
 exact ⟨rfl,H1.out,HK.out⟩
theorem zvm {E:Env} {w:World} {l:List Tok} {d:Nat} {q:Nat} (h:RSt E w l d 0 q) (s:ByteArray) (hs:zUa s=true) (hi:isT (hdT l) s=false) :
  Calls Tryz.prog 39 #[.pointer (some ⟨E.pb,0,none⟩),.string s] w fun e w'=>e=.returned (.tuple #[])∧RSt E w' l d 20 (hdT l).place∧Kp E.pb w w':=by
 go_enter Tryz.func39,Tryz.ntmps39
 go_wp2_with fail
 refine (zCc h s hs (zme hi)).mono ?_
 rintro e w1 ⟨rfl,hb⟩
 have H1:=zh (h.below hb)
 have HK:=zh (Kp.of_below (pb:=E.pb) hb)
 clear hb h hi
 go_wp2_with fail
 refine (zcg H1.out 20).mono ?_
 rintro e w2 ⟨rfl,h2,hk2⟩
 have H2:=zh h2
 have HK2:=zh (HK.out.trans hk2)
 clear h2 hk2
 go_wp2
 go_end0
 exact ⟨rfl,H2.out,HK2.out⟩
theorem zwq {E:Env} {w:World} {l:List Tok} {d:Nat} {f:Int} {q:Nat} (h:RSt E w l d f q) (hf:(f == 0)=false) (s:ByteArray) (hs:zUa s=true) :
  Calls Tryz.prog 39 #[.pointer (some ⟨E.pb,0,none⟩),.string s] w fun e w'=>e=.returned (.tuple #[])∧Below w.heap.size w w':=by
 have HF:=zh hf
 clear hf
 go_enter Tryz.func39,Tryz.ntmps39
 go_wp2_with fail
 refine (zCc h s hs (zgi HF.out _)).mono ?_
 rintro e w1 ⟨rfl,hb⟩
 have H1:=zh (h.below hb)
 have HB:=zh hb
 clear hb h
 go_wp2_with fail
 refine (zOf H1.out HF.out 20).mono ?_
 rintro e w2 ⟨rfl,rfl⟩
 go_wp2
 go_end0
 exact ⟨rfl,HB.out⟩
theorem RSt.drew {E:Env} {w:World} {l:List Tok} {d:Nat} {f:Int} {q:Nat} (h:RSt E w l d f q):RSt E w.drew l d f q:=h.same (Nat.le_refl _) rfl rfl
theorem zrf {E:Env} {w:World} {l:List Tok} {d:Nat} {q:Nat} (h:RSt E w l d 0 q) (hk3:((hdT l).kind == 3)=true) :
  Calls Tryz.prog 146 #[.pointer (some ⟨E.pb,0,none⟩)] w fun e w'=>e=.returned (.int .i64 (hdT l).num)∧RSt E w' l.tail d 0 q∧Kp E.pb w w':=by
 have hk:(hdT l).kind=3:=beq_iff_eq.1 hk3
 have HN:=zh (h.zfd (h.ends.tail (by omega)))
 have HKN:=zh ((Kp.refl E.pb w).zth 1 (.int .i64 (((E.ts.length-l.length:Nat):Int)+1)))
 have c0:w.cell? ⟨E.pb,0,none⟩=some (.slice (some ⟨E.tb,0,none⟩) E.ts.length E.cap):=h.blk.cell 0
 have c1:w.cell? ⟨E.pb,1,none⟩=some (.int .i64 ((E.ts.length-l.length:Nat):Int)):=h.blk.cell 1
 have c3:w.cell? ⟨E.pb,3,none⟩=some (.int .i64 0):=h.blk.cell 3
 have cf:=h.blk.frozen 1
 obtain ⟨t0,t1,t2,t3⟩:=h.tok
 have hkl:E.ts.length-l.length<E.ts.length:=by have:=h.head.1;have:=h.le;omega
 have hlen:=h.len
 have hcap:=h.capb
 have hplt:=h.plt
 have htlt:=h.tlt
 have ix1:(0:Int)≤((E.ts.length-l.length:Nat):Int):=by omega
 have ix2:(((E.ts.length-l.length:Nat):Int))<(E.ts.length:Int):=by omega
 rw [hk] at t0
 generalize E.ts.length-l.length=k at *
 clear h hk3 hk
 go_enter Tryz.func146,Tryz.ntmps146
 go_wp2
 go_region
 go_wp2
 go_ret
 exact ⟨rfl,(HN.out.alloc _).drew,(HKN.out.alloc _).drew⟩
theorem zlg {E:Env} {w:World} {l:List Tok} {d:Nat} {q:Nat} (h:RSt E w l d 0 q) (hk3:((hdT l).kind == 3)=false) :
  Calls Tryz.prog 146 #[.pointer (some ⟨E.pb,0,none⟩)] w fun e w'=>e=.returned (.int .i64 0)∧RSt E w' l d 20 (hdT l).place∧Kp E.pb w w':=by
 have hk:(((hdT l).kind:Int) != 3)=true:=by simp at hk3 ⊢;omega
 have H:=zh h
 have c0:w.cell? ⟨E.pb,0,none⟩=some (.slice (some ⟨E.tb,0,none⟩) E.ts.length E.cap):=h.blk.cell 0
 have c1:w.cell? ⟨E.pb,1,none⟩=some (.int .i64 ((E.ts.length-l.length:Nat):Int)):=h.blk.cell 1
 have c3:w.cell? ⟨E.pb,3,none⟩=some (.int .i64 0):=h.blk.cell 3
 have cf:=h.blk.frozen 1
 obtain ⟨t0,t1,t2,t3⟩:=h.tok
 have hkl:E.ts.length-l.length<E.ts.length:=by have:=h.head.1;have:=h.le;omega
 have hlen:=h.len
 have hcap:=h.capb
 have hplt:=h.plt
 have htlt:=h.tlt
 have ix1:(0:Int)≤((E.ts.length-l.length:Nat):Int):=by omega
 have ix2:(((E.ts.length-l.length:Nat):Int))<(E.ts.length:Int):=by omega
 generalize E.ts.length-l.length=k at *
 clear h hk3
 go_enter Tryz.func146,Tryz.ntmps146
 go_wp2
 go_region
 go_wp2_with fail
 refine (zcg ((H.out.alloc _).drew) 20).mono ?_
 rintro e w2 ⟨rfl,h2,hk2⟩
 have H2:=zh h2
 have HK2:=zh ((((Kp.refl E.pb w).alloc _).drew).trans hk2)
 clear h2 hk2
 go_wp2
 go_ret
 exact ⟨rfl,H2.out,HK2.out⟩
theorem zci {E:Env} {w:World} {l:List Tok} {d:Nat} {f:Int} {q:Nat} (h:RSt E w l d f q) (hf:(f == 0)=false) :
  Calls Tryz.prog 146 #[.pointer (some ⟨E.pb,0,none⟩)] w fun e w'=>e=.returned (.int .i64 0)∧Below w.heap.size w w':=by
 have hn:(f != 0)=true:=by simp at hf ⊢;exact hf
 have H:=zh h
 have HF:=zh hf
 have c0:w.cell? ⟨E.pb,0,none⟩=some (.slice (some ⟨E.tb,0,none⟩) E.ts.length E.cap):=h.blk.cell 0
 have c1:w.cell? ⟨E.pb,1,none⟩=some (.int .i64 ((E.ts.length-l.length:Nat):Int)):=h.blk.cell 1
 have c3:w.cell? ⟨E.pb,3,none⟩=some (.int .i64 f):=h.blk.cell 3
 have cf:=h.blk.frozen 1
 obtain ⟨t0,t1,t2,t3⟩:=h.tok
 have hkl:E.ts.length-l.length<E.ts.length:=by have:=h.head.1;have:=h.le;omega
 have hlen:=h.len
 have hcap:=h.capb
 have hplt:=h.plt
 have htlt:=h.tlt
 have ix1:(0:Int)≤((E.ts.length-l.length:Nat):Int):=by omega
 have ix2:(((E.ts.length-l.length:Nat):Int))<(E.ts.length:Int):=by omega
 generalize E.ts.length-l.length=k at *
 clear h
 go_enter Tryz.func146,Tryz.ntmps146
 go_wp2
 go_region
 go_wp2_with fail
 refine (zOf ((H.out.alloc _).drew) HF.out 20).mono ?_
 rintro e w2 ⟨rfl,rfl⟩
 go_wp2
 go_ret
 exact ⟨rfl,((Below.refl _ _).alloc (Nat.le_refl _) _).drew⟩
end
section
open Go.RowKit
def zlj (E:Env) (w:World) (d q:Nat) (l:List Tok) (r:R T) (e:Ending) (w':World):Prop :=
 match r with
 | .ok (t,l')=>∃ v,e=.returned (zma t v)∧KAt 34 w' t.kids (fun b=>w.heap.size≤b) v∧RSt E w' l' d 0 q∧Kp E.pb w w'∧l'.length≤l.length
 | .error (p,c)=>∃ t v lf,e=.returned (zma t v)∧KAt 34 w' t.kids (fun b=>w.heap.size≤b) v∧t.kids.length≤40000∧RSt E w' lf d c p∧Kp E.pb w w'∧(c == 0)=false
def zDq (w:World) (e:Ending) (w':World):Prop:=∃ t v,e=.returned (zma t v)∧KAt 34 w' t.kids (fun b=>w.heap.size≤b) v∧t.kids.length≤4∧Below w.heap.size w w'
theorem zAk {E:Env} {w:World} {l:List Tok} {d:Nat} {q:Nat} (h:RSt E w l d 0 q) (hk1:((hdT l).kind == 1)=true) :
  Calls Tryz.prog 75 #[.pointer (some ⟨E.pb,0,none⟩)] w fun e w'=>e=.returned (zma (.mk 5 (hdT l).text 0 (hdT l).place []) (.slice none 0 0))∧RSt E w' l.tail d 0 q∧Kp E.pb w w':=by
 have hk:(hdT l).kind=1:=beq_iff_eq.1 hk1
 have HN:=zh (h.zfd (h.ends.tail (by omega)))
 have HKN:=zh ((Kp.refl E.pb w).zth 1 (.int .i64 (((E.ts.length-l.length:Nat):Int)+1)))
 have c0:w.cell? ⟨E.pb,0,none⟩=some (.slice (some ⟨E.tb,0,none⟩) E.ts.length E.cap):=h.blk.cell 0
 have c1:w.cell? ⟨E.pb,1,none⟩=some (.int .i64 ((E.ts.length-l.length:Nat):Int)):=h.blk.cell 1
 have c3:w.cell? ⟨E.pb,3,none⟩=some (.int .i64 0):=h.blk.cell 3
 have cf:=h.blk.frozen 1
 obtain ⟨t0,t1,t2,t3⟩:=h.tok
 have hkl:E.ts.length-l.length<E.ts.length:=by have:=h.head.1;have:=h.le;omega
 have hlen:=h.len
 have hcap:=h.capb
 have hplt:=h.plt
 have htlt:=h.tlt
 have ix1:(0:Int)≤((E.ts.length-l.length:Nat):Int):=by omega
 have ix2:(((E.ts.length-l.length:Nat):Int))<(E.ts.length:Int):=by omega
 rw [hk] at t0
 generalize E.ts.length-l.length=k at *
 clear h hk1 hk
 go_enter Tryz.func75,Tryz.ntmps75
 go_wp2
 go_region
 go_wp2_with fail
 exact bodyPost_ret (v:=zma (.mk 5 (hdT l).text 0 (hdT l).place []) (.slice none 0 0)) (by simp [results,Tryz.results75,go_sem,zma,T.kind,T.text,T.num,T.place]) rfl ⟨rfl,((HN.out.alloc _).alloc _).drew,((HKN.out.alloc _).alloc _).drew⟩
theorem zek {E:Env} {w:World} {l:List Tok} {d:Nat} {q:Nat} (h:RSt E w l d 0 q) (hk1:((hdT l).kind == 1)=false) :
  Calls Tryz.prog 75 #[.pointer (some ⟨E.pb,0,none⟩)] w fun e w'=>e=.returned (zma znb (.slice none 0 0))∧RSt E w' l d 20 (hdT l).place∧Kp E.pb w w':=by
 have hk:(((hdT l).kind:Int) != 1)=true:=by simp at hk1 ⊢;omega
 have H:=zh h
 have c0:w.cell? ⟨E.pb,0,none⟩=some (.slice (some ⟨E.tb,0,none⟩) E.ts.length E.cap):=h.blk.cell 0
 have c1:w.cell? ⟨E.pb,1,none⟩=some (.int .i64 ((E.ts.length-l.length:Nat):Int)):=h.blk.cell 1
 have c3:w.cell? ⟨E.pb,3,none⟩=some (.int .i64 0):=h.blk.cell 3
 have cf:=h.blk.frozen 1
 obtain ⟨t0,t1,t2,t3⟩:=h.tok
 have hkl:E.ts.length-l.length<E.ts.length:=by have:=h.head.1;have:=h.le;omega
 have hlen:=h.len
 have hcap:=h.capb
 have hplt:=h.plt
 have htlt:=h.tlt
 have ix1:(0:Int)≤((E.ts.length-l.length:Nat):Int):=by omega
 have ix2:(((E.ts.length-l.length:Nat):Int))<(E.ts.length:Int):=by omega
 generalize E.ts.length-l.length=k at *
 clear h hk1
 go_enter Tryz.func75,Tryz.ntmps75
 go_wp2
 go_region
 go_wp2_with fail
 refine (zcg (((H.out.alloc _).alloc _).drew) 20).mono ?_
 rintro e w2 ⟨rfl,h2,hk2⟩
 have H2:=zh h2
 have HK2:=zh (((((Kp.refl E.pb w).alloc _).alloc _).drew).trans hk2)
 have HB2:=zh ((((Blk.new w zba 34).alloc _).drew).kp hk2 (by omega))
 clear h2 hk2
 go_wp2_with ((with_reducible refine zla 34 (.tmp 2) ?_);refine zca rfl 34 (.tmp 2) (.tmp 26) rfl w.heap.size zba rfl rfl HB2.out Tryz.zia rfl (zda znb _ rfl) ?_)
 exact zka (cs:=zba) Tryz.results75 rfl HB2.out Tryz.underlying34 rfl Tryz.zia rfl ⟨rfl,H2.out.same (by simp [World.setRow]) (setRow_other _ _ _ _ (by omega)) (setRow_other _ _ _ _ (by omega)),HK2.out.setRow (Nat.le_refl _) _⟩
theorem zyi {E:Env} {w:World} {l:List Tok} {d:Nat} {f:Int} {q:Nat} (h:RSt E w l d f q) (hf:(f == 0)=false) :
  Calls Tryz.prog 75 #[.pointer (some ⟨E.pb,0,none⟩)] w fun e w'=>e=.returned (zma znb (.slice none 0 0))∧Below w.heap.size w w':=by
 have hn:(f != 0)=true:=by simp at hf ⊢;exact hf
 have H:=zh h
 have HF:=zh hf
 have c0:w.cell? ⟨E.pb,0,none⟩=some (.slice (some ⟨E.tb,0,none⟩) E.ts.length E.cap):=h.blk.cell 0
 have c1:w.cell? ⟨E.pb,1,none⟩=some (.int .i64 ((E.ts.length-l.length:Nat):Int)):=h.blk.cell 1
 have c3:w.cell? ⟨E.pb,3,none⟩=some (.int .i64 f):=h.blk.cell 3
 have cf:=h.blk.frozen 1
 obtain ⟨t0,t1,t2,t3⟩:=h.tok
 have hkl:E.ts.length-l.length<E.ts.length:=by have:=h.head.1;have:=h.le;omega
 have hlen:=h.len
 have hcap:=h.capb
 have hplt:=h.plt
 have htlt:=h.tlt
 have ix1:(0:Int)≤((E.ts.length-l.length:Nat):Int):=by omega
 have ix2:(((E.ts.length-l.length:Nat):Int))<(E.ts.length:Int):=by omega
 generalize E.ts.length-l.length=k at *
 clear h
 go_enter Tryz.func75,Tryz.ntmps75
 go_wp2
 go_region
 go_wp2_with fail
 refine (zOf (((H.out.alloc _).alloc _).drew) HF.out 20).mono ?_
 rintro e w2 ⟨rfl,rfl⟩
 go_wp2_with fail
 exact bodyPost_ret (v:=zma (znb) (.slice none 0 0)) (by simp [results,Tryz.results75,go_sem,zma,T.kind,T.text,T.num,T.place,znb,e0]) rfl ⟨rfl,(((Below.refl _ _).alloc (Nat.le_refl _) _).alloc (by simp) _).drew⟩
end
end Go.Proofs.YthdbmgijpelecaaGreatDoor
