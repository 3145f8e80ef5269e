/- What the text of a tree that was read has not: no question mark, no tab, no two line feeds in a row; and with what it ends. Nothing of the program is walked here. -/
import Derived.Test.YthdbmgijpelecaaGreatDoorZ15
import Derived.Test.YthdbmgijpelecaaGreatDoorZ24
namespace Go.Proofs.YthdbmgijpelecaaGreatDoor
open Go.RowKit
def stp (p:Bool) (c:UInt8):Option Bool:=if c=63∨c=9 then none else if c=10 then (if p then none else some true) else some false
def rn (p:Bool):List UInt8→Option Bool
 | []=>some p
 | c :: l=>(stp p c).bind fun q=>rn q l
theorem zdd (p:Bool):∀ a b:List UInt8,rn p (a++b)=(rn p a).bind fun q=>rn q b
 | [],b=>rfl
 | c :: a,b=>by
  show ((stp p c).bind fun q=>rn q (a++b))=((stp p c).bind fun q=>rn q a).bind fun q=>rn q b
  cases stp p c with
  | none=>rfl
  | some q=>exact zdd q a b
def zDa (l:List UInt8):Prop:=∀ p,rn p l=some false
def zXc (l:List UInt8):Prop:=rn false l=some false
theorem zDa.soft {l:List UInt8} (h:zDa l):zXc l:=h false
theorem zDa.app {a b:List UInt8} (h:zDa a) (h':zXc b):zDa (a++b):=fun p=>by rw [zdd,h p];exact h'
theorem zXc.app {a b:List UInt8} (h:zXc a) (h':zXc b):zXc (a++b):=by unfold zXc;rw [zdd,h];exact h'
theorem zXc.nil:zXc []:=rfl
theorem zDa.lit {l:List UInt8} (h:(rn true l == some false && rn false l == some false)=true):zDa l:=fun p=>by
 simp only [Bool.and_eq_true,beq_iff_eq] at h
 cases p
 ·exact h.2
 ·exact h.1
def zSe (c:UInt8):Bool:=!(c == 63 || (c == 9 || c == 10))
theorem zBg:∀ (l:List UInt8) (p:Bool),l.all zSe=true→rn p l=if l=[] then some p else some false
 | [],p,_=>rfl
 | c :: l,p,h=>by
  simp only [List.all_cons,Bool.and_eq_true,zSe,Bool.not_eq_true',Bool.or_eq_false_iff,beq_eq_false_iff_ne] at h
  have h1:stp p c=some false:=by unfold stp;rw [if_neg (by simp [h.1.1,h.1.2.1]),if_neg h.1.2.2]
  show ((stp p c).bind fun q=>rn q l)=_
  rw [h1]
  show rn false l=_
  rw [zBg l false (by simpa [zSe] using h.2)]
  simp
theorem zDa.plain {l:List UInt8} (h:l.all zSe=true) (hn:l≠[]):zDa l:=fun p=>by rw [zBg l p h,if_neg hn]
theorem zXc.plain {l:List UInt8} (h:l.all zSe=true):zXc l:=by
 unfold zXc
 rw [zBg l false h]
 split<;>rfl
theorem zZh (p:Int→Bool):∀ l:List UInt8,zAc p l=l.length→∀ c∈l,p (c.toNat:Int)=true
 | [],_,c,hc=>by simp at hc
 | a :: l,h,c,hc=>by
  rw [zAc] at h
  cases hp:p (a.toNat:Int) with
  | false=>rw [hp] at h;simp at h
  | true =>
   rw [hp] at h
   simp only [List.length_cons,if_true] at h
   rcases List.mem_cons.1 hc with rfl|hc
   ·exact hp
   ·exact zZh p l (by omega) c hc
theorem zOm {c:UInt8} (h:zEe (c.toNat:Int)=true):zSe c=true:=by
 unfold zEe zfk zVe at h
 unfold zSe
 have h1:c≠63:=by rintro rfl;revert h;decide
 have h2:c≠9:=by rintro rfl;revert h;decide
 have h3:c≠10:=by rintro rfl;revert h;decide
 simp [h1,h2,h3]
theorem zKf {s:ByteArray} (h:zKa s=true):(∀ c∈tb s,zEe (c.toNat:Int)=true)∧tb s≠[]:=by
 unfold zKa at h
 simp only [Bool.and_eq_true,decide_eq_true_eq] at h
 have h2:=h.1.2
 unfold endOf at h2
 rw [List.drop_zero] at h2
 have hz:s.data.toList.length=s.size:=by simp
 refine ⟨zZh zEe s.data.toList (by omega),fun e=>?_⟩
 have h3:=h.1.1.1.1
 unfold tb at e
 rw [e] at hz
 simp at hz
 omega
theorem zNa {s:ByteArray} (h:zKa s=true):zDa (tb s) :=
 zDa.plain (List.all_eq_true.2 fun c hc=>zOm ((zKf h).1 c hc)) (zKf h).2
theorem zEf (n:Int):(dec n).all zSe=true∧dec n≠[]:=by
 have hd:∀ u,(Lib.decDigits u).all zSe=true∧Lib.decDigits u≠[]:=fun u=>by
  rw [Lib.decDigits_eq]
  refine ⟨List.all_eq_true.2 fun c hc=>?_,fun e=>?_⟩
  ·obtain ⟨t,_,rfl⟩:=List.mem_map.1 hc
   have h48:∀ d:Fin 10,zSe (UInt8.ofNat (48+d.val))=true:=by decide
   exact h48 ⟨u / 10 ^ (Lib.nDigits u-1-t) % 10,Nat.mod_lt _ (by omega)⟩
  ·have:=congrArg List.length e
   simp at this
   have:=Lib.nDigits_pos u
   omega
 unfold dec Lib.itoa
 split
 ·refine ⟨?_,by simp⟩
  rw [List.all_cons,(hd _).1]
  rfl
 ·exact hd _
theorem zoe (n:Int):zDa (dec n):=zDa.plain (zEf n).1 (zEf n).2
theorem zTl (n:Int):zXc ((dec n).drop 1):=zXc.plain (List.all_eq_true.2 fun c hc=>List.all_eq_true.1 (zEf n).1 c (List.mem_of_mem_drop hc))
theorem zKm {s:ByteArray} (h:zqo s):zDa (tb s):=by rcases h with rfl|rfl|rfl<;>exact zDa.lit (by decide)
def zsh (xs:List (List UInt8)):Prop:=∀ x∈xs,zDa x
theorem zfe:∀ xs:List (List UInt8),zsh xs→zXc (commas xs)
 | [],_=>rfl
 | a :: r,h=>by
  have hr:∀ r:List (List UInt8),zsh r→zXc (r.flatMap fun x=>[44,32]++x):=by
   intro r
   induction r with
   | nil=>intro _;rfl
   | cons b r ih =>
    intro h
    rw [List.flatMap_cons]
    exact (zXc.app (zXc.app (a:=[44,32]) rfl (h b (by simp)).soft) (ih fun x hx=>h x (by simp [hx])))
  exact (h a (by simp)).soft.app (hr r fun x hx=>h x (by simp [hx]))
theorem zui (f:List UInt8→List UInt8) (hf:∀ x,zDa x→zDa (f x)):∀ (xs:List (List UInt8)),zsh xs→∀ p,rn p (xs.flatMap fun x=>f x++[10])=if xs=[] then some p else some true
 | [],_,p=>rfl
 | a :: r,h,p=>by
  rw [List.flatMap_cons,zdd,zdd,hf a (h a (by simp)) p]
  show (rn false [10]).bind _=_
  show rn true _=_
  rw [zui f hf r (fun x hx=>h x (by simp [hx])) true]
  simp
theorem zqj (d:Nat):zDa (blanks (d+1)):=zDa.plain (List.all_eq_true.2 fun c hc=>by rw [(List.mem_replicate.1 hc).2];rfl) (fun e=>by have:=congrArg List.length e;unfold blanks at this;rw [List.length_replicate] at this;simp at this)
theorem zMj (d:Nat) {xs:List (List UInt8)} (h:zsh xs):zDa (zdc d xs):=fun p=>by
 unfold zdc
 rw [zdd]
 have h1:rn p [123,10]=some true:=by cases p<;>rfl
 rw [h1]
 show rn true _=_
 rw [show (xs.flatMap fun x=>blanks (d+1)++(x++[10]))=xs.flatMap fun x=>(blanks (d+1)++x)++[10] from by simp only [List.append_assoc],zdd,zui (fun x=>blanks (d+1)++x) (fun x hx=>(zqj d).app hx.soft) xs h true]
 have h2:rn true (blanks d++[125])=some false:=by
  rw [zdd,zBg (blanks d) true (List.all_eq_true.2 fun c hc=>by rw [(List.mem_replicate.1 hc).2];rfl)]
  split<;>rfl
 split<;>exact h2
theorem zDg {l:List UInt8} (h:(rn false l == some false)=true):zXc l:=by simpa [zXc] using h
theorem NmT.zmb {t:T} (h:NmT t) (d:Nat):zDa (shw d t):=by
 obtain ⟨s,p,rfl,hs⟩:=h
 rw [zva,if_neg (by omega)]
 show zDa (zJb (tb s) 0)
 unfold zJb
 rw [if_neg (zKf hs).2,if_neg (by omega),if_neg (by omega)]
 exact zNa hs
theorem TmT.zmb {t:T} (h:TmT t) (d:Nat):zDa (shw d t):=by
 obtain ⟨s,n,p,rfl,hn,hs⟩:=h
 rw [zva,if_neg (by omega)]
 show zDa (zJb (tb s) n)
 unfold zJb
 split
 ·exact zoe n
 ·rename_i hne
  have hs':zKa s=true:=hs.resolve_left fun e=>hne (by rw [e];rfl)
  split
  ·exact (zNa hs').app (zXc.app (a:=[32,43,32]) rfl (zoe n).soft)
  ·split
   ·exact (zNa hs').app (zXc.app (a:=[32,45,32]) rfl (zTl n))
   ·exact zNa hs'
theorem zJc (d:Nat) (a:T):zQa d [a]=[shw d a]:=by rw [zya,zSa]
theorem zFe (d:Nat) (a b:T):zQa d [a,b]=[shw d a,shw d b]:=by rw [zya,zJc]
theorem zCj {s:ByteArray} {a b:T} (hc:zqo s) (ha:TmT a) (hb:TmT b) (d:Nat) (r:List (List UInt8)):zDa (zrb (tb s) (shw d a :: shw d b :: r)) :=
 (ha.zmb d).app (zXc.app (a:=[32]) rfl ((zKm hc).soft.app (zXc.app (a:=[32]) rfl (hb.zmb d).soft)))
theorem zfj {G:T→Prop} (d:Nat) (hg:∀ t,G t→zDa (shw d t)) {ts:List T} (h:∀ t∈ts,G t):zsh (zQa d ts):=by
 rw [zvc]
 intro x hx
 obtain ⟨t,ht,rfl⟩:=List.mem_map.1 hx
 exact hg t (h t ht)
theorem zFk {s:ByteArray} (hs:zKa s=true) {xs:List (List UInt8)} (h:zsh xs):zDa (zUb (tb s) xs) :=
 (zNa hs).app (zXc.app (a:=[40]) rfl ((zfe xs h).app rfl))
theorem zTj.zmb {t:T} (h:zTj t) (d:Nat):zDa (shw d t):=by
 obtain ⟨s,p,a,b,rfl,hc,ha,hb⟩:=h
 rw [zva,if_neg (by omega),zFe]
 exact zCj hc ha hb d []
theorem zzh.zmb {t:T} (h:zzh t) (d:Nat):zDa (shw d t):=by
 rcases h with ⟨s,p,rfl,hs⟩|⟨s,p,a,rfl,hs,ha⟩
 ·rw [zva,if_neg (by omega),zSa]
  exact (zNa hs).app rfl
 ·rw [zva,if_neg (by omega),zJc]
  exact (zNa hs).app (zXc.app (a:=[91]) rfl ((ha.zmb d).soft.app rfl))
theorem zol.zmb {t:T} (h:zol t) (d:Nat):zDa (shw d t):=by
 rcases h with ⟨s,p,rfl,hs⟩|⟨s,p,a,rfl,hs,ha⟩
 ·rw [zva,if_neg (by omega),zSa]
  rcases hs with rfl|rfl<;>exact zDa.lit (by decide)
 ·rw [zva,if_neg (by omega),zJc]
  have h2:zXc ([32]++(shw d a++[])):=zXc.app (a:=[32]) rfl ((ha.zmb d).soft.app rfl)
  rcases hs with rfl|rfl|rfl<;>exact zDa.app (zDa.lit (by decide)) h2
theorem zkh.zmb {t:T} (h:zkh t) (d:Nat):zDa (shw d t):=by
 rcases h with ⟨p,rfl⟩|⟨p,a,rfl,ha⟩
 ·rw [zva,if_neg (by omega),zSa]
  exact zDa.lit (by decide)
 ·rw [zva,if_neg (by omega),zJc]
  show zDa (zHb [111,119,110] [shw d a])
  unfold zHb
  rw [if_pos (.inl rfl)]
  exact zDa.app (zDa.lit (by decide)) (zXc.app (a:=[32]) rfl ((ha.zmb d).soft.app rfl))
theorem zSk.zmb {t:T} (h:zSk t) (d:Nat):zDa (shw d t):=by
 rcases h with ⟨p,a,rfl,ha⟩|⟨p,a,rfl,ha⟩|h
 ·rw [zva,if_neg (by omega),zJc]
  show zDa (zHb [38] [shw d a])
  unfold zHb
  rw [if_neg (by decide),if_pos rfl]
  exact zDa.app (zDa.lit (by decide)) ((ha.zmb d).soft.app rfl)
 ·rw [zva,if_neg (by omega),zJc]
  show zDa (zHb [38,109,117,116] [shw d a])
  unfold zHb
  rw [if_pos (.inr rfl)]
  exact zDa.app (zDa.lit (by decide)) (zXc.app (a:=[32]) rfl ((ha.zmb d).soft.app rfl))
 ·exact h.zmb d
theorem zUg.zmb {t:T} (h:zUg t) (d:Nat):zDa (shw d t):=by
 obtain ⟨s,p,a,rfl,hs,ha⟩:=h
 rw [zva,if_neg (by omega),zJc]
 exact (zNa hs).app (zXc.app (a:=[58,32]) rfl (ha.zmb d).soft)
theorem zGj.zmb {t:T} (h:zGj t) (d:Nat):zDa (shw d t):=by
 obtain ⟨s,p,a,ys,zs,rfl,hs,ha,hy,hz⟩:=h
 rw [zva,if_neg (by omega),zya]
 have hall:zsh (zQa d (ys++zs)):=by
  rw [zvc]
  intro x hx
  obtain ⟨t,ht,rfl⟩:=List.mem_map.1 hx
  rcases List.mem_append.1 ht with ht|ht
  ·exact (hy t ht).zmb d
  ·exact (hz t ht).zmb d
 show zDa (zJg (tb s) (a :: (ys++zs)) (shw d a :: zQa d (ys++zs)))
 unfold zJg
 refine zDa.app (zDa.lit (by decide)) ((zNa hs).soft.app (zXc.app (a:=[32]) rfl ((ha.zmb d).soft.app (zXc.app ?_ (zXc.app ?_ rfl)))))
 ·split
  ·exact zXc.app (a:=[32,123,32]) rfl ((zfe _ fun x hx=>hall x (List.mem_of_mem_take hx)).app rfl)
  ·rfl
 ·split
  ·exact zXc.app (zDg (by decide)) (zfe _ fun x hx=>hall x (List.mem_of_mem_drop hx))
  ·rfl
theorem zxj.zmb {t:T} (h:zxj t) (d:Nat):zDa (shw d t):=by
 obtain ⟨s,p,xs,rfl,hs,hx⟩:=h
 rw [zva,if_neg (by omega)]
 exact zFk hs (zfj d (fun t h=>TmT.zmb h d) hx)
theorem zBf.zmb {t:T} (h:zBf t) (d:Nat):zDa (shw d t):=by
 cases h with
 | term h=>exact h.zmb d
 | sum hk ha hb =>
  rcases hk with rfl|rfl
  ·rw [zva,if_neg (by omega),zFe]
   exact (ha.zmb d).app (zXc.app (a:=[32,43,32]) rfl (hb.zmb d).soft)
  ·rw [zva,if_neg (by omega),zFe]
   exact (ha.zmb d).app (zXc.app (a:=[32,45,32]) rfl (hb.zmb d).soft)
 | new h0 h1 =>
  rw [zva,if_neg (by omega),zSa]
  exact zDa.app (a:=[110,101,119,32]) (zDa.lit (by decide)) (zoe _).soft
 | word hk h =>
  rcases hk with rfl|rfl|rfl
  ·rw [zva,if_neg (by omega),zSa]
   exact zDa.app (a:=[97,114,114,97,121,32]) (zDa.lit (by decide)) (zNa h).soft
  ·rw [zva,if_neg (by omega),zSa]
   exact zDa.app (a:=[38]) (zDa.lit (by decide)) (zNa h).soft
  ·rw [zva,if_neg (by omega),zSa]
   exact zDa.app (a:=[38,109,117,116,32]) (zDa.lit (by decide)) (zNa h).soft
 | load h ha =>
  rw [zva,if_neg (by omega),zJc]
  exact (zNa h).app (zXc.app (a:=[91]) rfl ((ha.zmb d).soft.app rfl))
 | call h=>exact h.zmb d
theorem zhd.zmb {B:T→Prop} {d:Nat} (hB:∀ t,B t→zDa (shw d t)) {t:T} (h:zhd B t):zDa (shw d t):=by
 cases h with
 | set h hx =>
  rw [zva,if_neg (by omega),zJc]
  exact (zNa h).app (zXc.app (a:=[32,61,32]) rfl ((hx.zmb d).soft.app rfl))
 | store h ha hb =>
  rw [zva,if_neg (by omega),zFe]
  exact (zNa h).app (zXc.app (a:=[91]) rfl ((ha.zmb d).soft.app (zXc.app (a:=[93,32,61,32]) rfl ((hb.zmb d).soft.app rfl))))
 | free h =>
  rw [zva,if_neg (by omega),zSa]
  exact zDa.app (a:=[102,114,101,101,32]) (zDa.lit (by decide)) ((zNa h).soft.app rfl)
 | lock hk h h0 h1 =>
  rcases hk with rfl|rfl
  ·rw [zva,if_neg (by omega),zSa]
   exact zDa.app (a:=[108,111,99,107,32]) (zDa.lit (by decide)) ((zNa h).soft.app (zXc.app (a:=[91]) rfl ((zoe _).soft.app (zDg (by decide)))))
  ·rw [zva,if_neg (by omega),zSa]
   exact zDa.app (a:=[117,110,108,111,99,107,32]) (zDa.lit (by decide)) ((zNa h).soft.app (zXc.app (a:=[91]) rfl ((zoe _).soft.app (zDg (by decide)))))
 | @cond s p a b c e hc ha hb hC hD =>
  rw [zva,if_neg (by omega),zya,zya,zFe]
  show zDa (zSg (tb s) [a,b,c,e] [shw d a,shw d b,shw d c,shw d e])
  unfold zSg
  refine zDa.app (a:=[105,102,32]) (zDa.lit (by decide)) ((zCj hc ha hb d _).soft.app (zXc.app (a:=[32]) rfl ((hB _ hC).soft.app ?_)))
  rcases hD with hD|⟨q,rfl⟩
  ·split
   ·rfl
   ·exact zXc.app (a:=[32,101,108,115,101,32]) (zDg (by decide)) (hB _ hD).soft
  ·rfl
 | loop hc ha hb hC =>
  rw [zva,if_neg (by omega),zya,zFe]
  exact zDa.app (a:=[119,104,105,108,101,32]) (zDa.lit (by decide)) ((zCj hc ha hb d _).soft.app (zXc.app (a:=[32]) rfl (hB _ hC).soft))
 | ret0=>rw [zva,if_neg (by omega),zSa];exact zDa.lit (by decide)
 | ret1 ha =>
  rw [zva,if_neg (by omega),zJc]
  exact zDa.app (a:=[114,101,116,117,114,110]) (zDa.lit (by decide)) (zXc.app (zXc.app (a:=[32]) rfl ((ha.zmb d).soft.app rfl)) rfl)
 | abort=>rw [zva,if_neg (by omega),zSa];exact zDa.lit (by decide)
 | fork h hx =>
  rw [zva,if_neg (by omega)]
  exact zDa.app (a:=[102,111,114,107,32]) (zDa.lit (by decide)) ((zFk h (zfj d (fun t h=>TmT.zmb h d) hx)).soft.app rfl)
 | call h =>
  rw [zva,if_neg (by omega),zJc]
  exact (h.zmb d).app rfl
theorem zwf.zmb:∀ {n:Nat} {t:T},zwf n t→∀ d,zDa (shw d t)
 | n+1,t,h,d=>by
  obtain ⟨p,xs,rfl,hx⟩:=h
  rw [zva,if_pos rfl]
  exact zMj d (zfj (d+1) (fun t h=>zhd.zmb (fun _ h=>zwf.zmb h (d+1)) h) hx)
theorem zHf.zmb {t:T} (h:zHf t) (hn:t.text.size≠0) (d:Nat):zDa (shw d t):=by
 rcases h with h|⟨p,rfl⟩
 ·exact h.zmb d
 ·exact absurd rfl hn
theorem zDo (s:List UInt8) (xs:List T) (r b:T) (ys:List (List UInt8)) (rt bt:List UInt8) (hl:ys.length=xs.length) :
  zLl s (xs++[r,b]) (ys++[rt,bt])=[102,110,32]++(s++([40]++(commas ys++([41]++((if r.text.size=0 then [] else [32,45,62,32]++rt)++([32]++bt)))))):=by
 unfold zLl
 have h1:(xs++[r,b]).length-2=xs.length:=by simp
 have h2:(xs++[r,b]).length-1=xs.length+1:=by simp
 rw [h1,h2]
 have h3:(ys++[rt,bt]).take xs.length=ys:=by rw [← hl];simp
 have h4:(xs++[r,b]).getD xs.length zWb=r:=by rw [List.getD_eq_getElem?_getD,List.getElem?_append_right (by omega)];simp
 have h5:(ys++[rt,bt]).getD xs.length []=rt:=by rw [List.getD_eq_getElem?_getD,List.getElem?_append_right (by omega),hl];simp
 have h6:(ys++[rt,bt]).getD (xs.length+1) []=bt:=by rw [List.getD_eq_getElem?_getD,List.getElem?_append_right (by omega),hl];simp
 rw [h3,h4,h5,h6]
theorem FnT.zmb {t:T} (h:FnT t) (d:Nat):zDa (shw d t):=by
 obtain ⟨s,p,xs,r,b,rfl,hs,hx,hr,hb⟩:=h
 rw [zva,if_neg (by omega)]
 show zDa (zLl (tb s) (xs++[r,b]) (zQa d (xs++[r,b])))
 rw [show zQa d (xs++[r,b])=zQa d xs++[shw d r,shw d b] from by rw [zvc,List.map_append,← zvc];rfl,zDo _ _ _ _ _ _ _ (zac d xs)]
 refine zDa.app (a:=[102,110,32]) (zDa.lit (by decide)) ((zNa hs).soft.app (zXc.app (a:=[40]) rfl ((zfe _ (zfj d (fun t h=>zUg.zmb h d) hx)).app (zXc.app (a:=[41]) rfl (zXc.app ?_ (zXc.app (a:=[32]) rfl (hb.zmb d).soft))))))
 split
 ·rfl
 ·rename_i hn
  exact zXc.app (a:=[32,45,62,32]) rfl (hr.zmb hn d).soft
theorem zll.zmb {t:T} (h:zll t) (d:Nat):zDa (shw d t):=h.elim (fun h=>h.zmb d) (fun h=>h.zmb d)
theorem zbg.text {t:T} (h:zbg t):rn false (shw 0 t)=if t.kids=[] then some false else some true:=by
 obtain ⟨xs,rfl,hx⟩:=h
 rw [zva,if_neg (by omega)]
 show rn false ((zQa 0 xs).flatMap fun x=>x++[10])=_
 rw [zui (fun x=>x) (fun x hx=>hx) _ (zfj 0 (fun t h=>zll.zmb h 0) hx) false]
 have h1:(zQa 0 xs=[])↔xs=[]:=by rw [zvc,List.map_eq_nil_iff]
 show (if zQa 0 xs=[] then some false else some true)=if xs=[] then some false else some true
 by_cases h2:xs=[]
 ·rw [if_pos h2,if_pos (h1.2 h2)]
 ·rw [if_neg h2,if_neg fun e=>h2 (h1.1 e)]
end Go.Proofs.YthdbmgijpelecaaGreatDoor
namespace Go.Proofs.YthdbmgijpelecaaGreatDoor
set_option maxRecDepth 100000
set_option maxHeartbeats 2000000
open Go.RowKit
theorem Wm.below {W0:World} {B g c1 c2 q:Nat} {t:T} {kv:Value} {l:List UInt8} {d:Nat} {W W':World} (h:Wm W0 B g c1 c2 q t kv l d W) (hb:Below W.heap.size W W'):Wm W0 B g c1 c2 q t kv l d W' :=
 h.step (h.n.st.below hb) (hb.mono h.n.bz) (Oth.of_below hb)
theorem zoo (l:List UInt8):tb ⟨l.toArray⟩=l:=rfl
theorem zwo (l:List UInt8):tb ((⟨l.toArray⟩:ByteArray).extract 1 l.length)=l.drop 1:=by
 unfold tb
 rw [ByteArray.data_extract]
 simp
 exact List.take_of_length_le (by simp)
theorem zYp {B g c1 c2:Nat} {kk:Int} {s:ByteArray} {nm:Int} {p:Nat} {ks:List T} {kv:Value} {l:List UInt8} {d:Nat} {w:World} (h:Wn B g c1 c2 (T.mk kk s nm p ks) kv l d w) (hk:zfb B g c1 c2 (T.mk kk s nm p ks) kv) (hn:-1099511627776≤nm∧nm≤1099511627776) (hl:l.length+(zJb (tb s) nm).length≤140737488355328) :
  Calls Tryz.prog 105 #[.pointer (some ⟨g,0,none⟩),.agg #[.int .i64 kk,.string s,.int .i64 nm,.int .i64 p,kv]] w (zka B g (l++(zJb (tb s) nm)) d w):=by
 have HT:=zh (zoj s)
 have hdl:=zBl hn
 have hgt:=h.t
 by_cases b1:s.toList=[]
 ·have t1:(s.toList == [])=true:=by rw [b1];rfl
  have hX:zJb (tb s) nm=dec nm:=by unfold zJb;rw [if_pos (by rw [HT.out];exact b1)]
  rw [hX] at hl ⊢
  clear hX
  clear b1
  have HK:=zh hk
  have HL:=zh hl
  obtain ⟨W0,hW0,HM0⟩:∃ W,w.alloc (.cells [.int .i64 kk,.string s,.int .i64 nm,.int .i64 p,kv].toArray 25)=W∧Hid (Wm w B g c1 c2 w.heap.size _ _ l d W):=⟨_,rfl,zh (Wm.start h)⟩
  have e0_1:W0.cell? ⟨w.heap.size,1,none⟩=some (.string s):=HM0.out.q.cell 1
  have e0_2:W0.cell? ⟨w.heap.size,2,none⟩=some (.int .i64 nm):=HM0.out.q.cell 2
  clear h hk hl
  go_enter Tryz.func105,Tryz.ntmps105
  go_wp2_with fail
  refine (zaf HM0.out.n.t nm hn).mono ?_
  rintro e w1 ⟨rfl,hb⟩
  have HM1:=zh (HM0.out.below hb)
  clear hb
  have e1_1:w1.cell? ⟨w.heap.size,1,none⟩=some (.string s):=HM1.out.q.cell 1
  have e1_2:w1.cell? ⟨w.heap.size,2,none⟩=some (.int .i64 nm):=HM1.out.q.cell 2
  go_wp2_with fail
  refine (puts HM1.out.n.st [⟨(dec nm).toArray⟩] 1 _ _ rfl rfl rfl (by omega) (by have hl:=HL.out;simp [cat,tb] at hl ⊢;omega)).mono ?_
  rintro e w2 ⟨rfl,hs,hb,ho⟩
  have HM2:=zh (HM1.out.step hs hb ho)
  clear hs hb ho
  have e2_1:w2.cell? ⟨w.heap.size,1,none⟩=some (.string s):=HM2.out.q.cell 1
  have e2_2:w2.cell? ⟨w.heap.size,2,none⟩=some (.int .i64 nm):=HM2.out.q.cell 2
  go_wp2_with fail
  go_end0
  have h:=HM2.out.post
  simpa [cat,tb,zoo] using h
 ·have t1:(s.toList == [])=false:=beq_eq_false_iff_ne.2 b1
  have b1':¬ tb s=[]:=by rw [HT.out];exact b1
  by_cases b2:0<nm
  ·have t2:decide (0<nm)=true:=decide_eq_true b2
   have hX:zJb (tb s) nm=tb s++([32,43,32]++dec nm):=by unfold zJb;rw [if_neg b1',if_pos b2]
   rw [hX] at hl ⊢
   clear hX
   clear b1 b1'
   have HK:=zh hk
   have HL:=zh hl
   obtain ⟨W0,hW0,HM0⟩:∃ W,w.alloc (.cells [.int .i64 kk,.string s,.int .i64 nm,.int .i64 p,kv].toArray 25)=W∧Hid (Wm w B g c1 c2 w.heap.size _ _ l d W):=⟨_,rfl,zh (Wm.start h)⟩
   have e0_1:W0.cell? ⟨w.heap.size,1,none⟩=some (.string s):=HM0.out.q.cell 1
   have e0_2:W0.cell? ⟨w.heap.size,2,none⟩=some (.int .i64 nm):=HM0.out.q.cell 2
   clear h hk hl
   go_enter Tryz.func105,Tryz.ntmps105
   go_wp2_with fail
   refine (zaf HM0.out.n.t nm hn).mono ?_
   rintro e w1 ⟨rfl,hb⟩
   have HM1:=zh (HM0.out.below hb)
   clear hb
   have e1_1:w1.cell? ⟨w.heap.size,1,none⟩=some (.string s):=HM1.out.q.cell 1
   have e1_2:w1.cell? ⟨w.heap.size,2,none⟩=some (.int .i64 nm):=HM1.out.q.cell 2
   go_wp2_with fail
   refine (puts HM1.out.n.st [s,⟨#[32,43,32]⟩,⟨(dec nm).toArray⟩] 3 _ _ rfl rfl rfl (by omega) (by have hl:=HL.out;simp [cat,tb] at hl ⊢;omega)).mono ?_
   rintro e w2 ⟨rfl,hs,hb,ho⟩
   have HM2:=zh (HM1.out.step hs hb ho)
   clear hs hb ho
   have e2_1:w2.cell? ⟨w.heap.size,1,none⟩=some (.string s):=HM2.out.q.cell 1
   have e2_2:w2.cell? ⟨w.heap.size,2,none⟩=some (.int .i64 nm):=HM2.out.q.cell 2
   go_wp2_with fail
   go_end0
   have h:=HM2.out.post
   simpa [cat,tb,zoo] using h
  ·by_cases b3:nm<0
   ·skip
    have hX:zJb (tb s) nm=tb s++([32,45,32]++(dec nm).drop 1):=by unfold zJb;rw [if_neg b1',if_neg b2,if_pos b3]
    rw [hX] at hl ⊢
    clear hX
    clear b1 b1' b2
    have HK:=zh hk
    have HL:=zh hl
    obtain ⟨W0,hW0,HM0⟩:∃ W,w.alloc (.cells [.int .i64 kk,.string s,.int .i64 nm,.int .i64 p,kv].toArray 25)=W∧Hid (Wm w B g c1 c2 w.heap.size _ _ l d W):=⟨_,rfl,zh (Wm.start h)⟩
    have e0_1:W0.cell? ⟨w.heap.size,1,none⟩=some (.string s):=HM0.out.q.cell 1
    have e0_2:W0.cell? ⟨w.heap.size,2,none⟩=some (.int .i64 nm):=HM0.out.q.cell 2
    clear h hk hl
    go_enter Tryz.func105,Tryz.ntmps105
    go_wp2_with fail
    refine (zaf HM0.out.n.t nm hn).mono ?_
    rintro e w1 ⟨rfl,hb⟩
    have HM1:=zh (HM0.out.below hb)
    clear hb
    have e1_1:w1.cell? ⟨w.heap.size,1,none⟩=some (.string s):=HM1.out.q.cell 1
    have e1_2:w1.cell? ⟨w.heap.size,2,none⟩=some (.int .i64 nm):=HM1.out.q.cell 2
    have HD:=zh (show 1≤(dec nm).length from by have:=(zEf nm).2;cases h:dec nm with|nil=>exact absurd h this|cons a r=>simp)
    have hd1:=HD.out
    go_wp2_with fail
    refine wp_region_held_drew (S:=fun W=>Blk W w.heap.size (zaa (T.mk kk s nm p ks) kv) 25) (by kernel_rfl) HM1.out.q.drew (fun hS=>?_)
    refine wpAnyH_take (i:=0) (oi:=⟨some 35,_,_,_,_,_⟩) (v:=.pointer (some ⟨g,0,none⟩)) rfl (by kernel_rfl) (by kernel_rfl) (by kernel_rfl) (fun _ _ _ h=>h) (Or.inl ⟨by rfl,fun W _=>by go_simp⟩) hS ?_
    try simp only [Act.put,List.setIfInBounds_toArray,List.set_cons_zero,List.set_cons_succ]
    refine wpAnyH_take (i:=1) (oi:=⟨some 36,_,_,_,_,_⟩) (v:=.pointer (some ⟨w.heap.size,1,none⟩)) rfl (by kernel_rfl) (by kernel_rfl) (by kernel_rfl) (fun _ _ _ h=>h) (Or.inl ⟨by rfl,fun W _=>by go_simp⟩) hS ?_
    try simp only [Act.put,List.setIfInBounds_toArray,List.set_cons_zero,List.set_cons_succ]
    refine wpAnyH_take (i:=2) (oi:=⟨some 37,_,_,_,_,_⟩) (v:=.string s) rfl (by kernel_rfl) (by kernel_rfl) (by kernel_rfl) (fun _ _ _ h=>h) (Or.inl ⟨by rfl,fun W hW=>by have hcx:W.cell? ⟨w.heap.size,1,none⟩=some (.string s):=hW.cell 1;go_simp⟩) hS ?_
    try simp only [Act.put,List.setIfInBounds_toArray,List.set_cons_zero,List.set_cons_succ]
    refine wpAnyH_take (i:=3) (oi:=⟨some 38,_,_,_,_,_⟩) (v:=.string ⟨(dec nm).toArray⟩) rfl (by kernel_rfl) (by kernel_rfl) (by kernel_rfl) (fun _ _ _ h=>h) (Or.inl ⟨by rfl,fun W _=>by go_simp⟩) hS ?_
    try simp only [Act.put,List.setIfInBounds_toArray,List.set_cons_zero,List.set_cons_succ]
    refine wpAnyH_take (i:=4) (oi:=⟨some 39,_,_,_,_,_⟩) (v:=.string ((⟨(dec nm).toArray⟩:ByteArray).extract 1 (dec nm).length)) rfl (by kernel_rfl) (by kernel_rfl) (by kernel_rfl) (fun _ _ _ h=>h) (Or.inl ⟨by rfl,fun W _=>by go_simp;intro h;omega⟩) hS ?_
    try simp only [Act.put,List.setIfInBounds_toArray,List.set_cons_zero,List.set_cons_succ]
    refine AnyH.only (i:=5) (o:=⟨some 40,_,_,_,_,_⟩) (by kernel_rfl) rfl (by rfl) (fun K hK=>?_)
    go_simp
    refine hK.out _ _ (HM1.out.q.alloc _) ?_
    clear hK K hS
    have hS:Blk w1.drew w.heap.size (zaa (T.mk kk s nm p ks) kv) 25:=HM1.out.q.drew
    have HM2:=zh (HM1.out.below (show Below w1.heap.size w1 w1.drew from (Below.refl _ _).drew))
    try simp only [Act.put,List.setIfInBounds_toArray,List.set_cons_zero,List.set_cons_succ]
    refine AnyH.only (i:=6) (o:=⟨some 41,_,_,_,_,_⟩) (by kernel_rfl) rfl (by rfl) (fun K hK=>?_)
    go_simp
    refine (puts HM2.out.n.st [s,⟨#[32,45,32]⟩,(⟨(dec nm).toArray⟩:ByteArray).extract 1 (dec nm).length] 3 _ _ rfl rfl rfl (by omega) (by have hl:=HL.out;rw [zvj,zwo];simp [tb] at hl ⊢;omega)).mono ?_
    rintro e w3 ⟨rfl,hs,hb,ho⟩
    have HM3:=zh (HM2.out.step hs hb ho)
    clear hs hb ho
    have e3_1:w3.cell? ⟨w.heap.size,1,none⟩=some (.string s):=HM3.out.q.cell 1
    have e3_2:w3.cell? ⟨w.heap.size,2,none⟩=some (.int .i64 nm):=HM3.out.q.cell 2
    refine hK.out _ _ HM3.out.q ?_
    clear hK K hS
    try simp only [Act.put,List.setIfInBounds_toArray,List.set_cons_zero,List.set_cons_succ]
    refine wpAnyH_done (by kernel_rfl) ?_ _
    go_wp2_with fail
    go_end0
    have h:=HM3.out.post
    rw [zvj,zwo] at h
    simpa [tb] using h
   ·skip
    have hX:zJb (tb s) nm=tb s:=by unfold zJb;rw [if_neg b1',if_neg b2,if_neg b3]
    rw [hX] at hl ⊢
    clear hX
    clear b1 b1'
    have HK:=zh hk
    have HL:=zh hl
    obtain ⟨W0,hW0,HM0⟩:∃ W,w.alloc (.cells [.int .i64 kk,.string s,.int .i64 nm,.int .i64 p,kv].toArray 25)=W∧Hid (Wm w B g c1 c2 w.heap.size _ _ l d W):=⟨_,rfl,zh (Wm.start h)⟩
    have e0_1:W0.cell? ⟨w.heap.size,1,none⟩=some (.string s):=HM0.out.q.cell 1
    have e0_2:W0.cell? ⟨w.heap.size,2,none⟩=some (.int .i64 nm):=HM0.out.q.cell 2
    clear h hk hl
    go_enter Tryz.func105,Tryz.ntmps105
    go_wp2_with fail
    refine (zaf HM0.out.n.t nm hn).mono ?_
    rintro e w1 ⟨rfl,hb⟩
    have HM1:=zh (HM0.out.below hb)
    clear hb
    have e1_1:w1.cell? ⟨w.heap.size,1,none⟩=some (.string s):=HM1.out.q.cell 1
    have e1_2:w1.cell? ⟨w.heap.size,2,none⟩=some (.int .i64 nm):=HM1.out.q.cell 2
    go_wp2_with fail
    refine (puts HM1.out.n.st [s] 1 _ _ rfl rfl rfl (by omega) (by have hl:=HL.out;simp [cat,tb] at hl ⊢;omega)).mono ?_
    rintro e w2 ⟨rfl,hs,hb,ho⟩
    have HM2:=zh (HM1.out.step hs hb ho)
    clear hs hb ho
    have e2_1:w2.cell? ⟨w.heap.size,1,none⟩=some (.string s):=HM2.out.q.cell 1
    have e2_2:w2.cell? ⟨w.heap.size,2,none⟩=some (.int .i64 nm):=HM2.out.q.cell 2
    go_wp2_with fail
    go_end0
    have h:=HM2.out.post
    simpa [cat,tb] using h
end Go.Proofs.YthdbmgijpelecaaGreatDoor
