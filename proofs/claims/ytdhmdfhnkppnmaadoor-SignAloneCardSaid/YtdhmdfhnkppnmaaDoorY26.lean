/- Of each type that isn't of the sort own a signature has one parameter at most; its parameters' names are unlike. Nothing of the program is walked here. -/
import Derived.Test.YtdhmdfhnkppnmaaDoorY24
import Derived.Test.YtdhmdfhnkppnmaaDoorY22
namespace Go.Proofs.YtdhmdfhnkppnmaaDoor
open Go.RowKit
structure PrU (tys:List Ty) (l:List Prm) (p:Prm):Prop where
 lo:1≤p.mode∧p.mode≤4
 ty:1<p.mode→∃ (k:Nat) (t:Ty),p.ty=(k:Int)∧tys[k]?=some t
 name:∀ o∈l,o.name.toList≠p.name.toList
 one:1<p.mode→zth tys p.ty≠0→∀ o∈l,1<o.mode→o.ty≠p.ty
theorem zIj (s:ByteArray):0≤zUa s∧zUa s≤4:=by
 unfold zUa
 cases s.toList == [105,110,116]<;>cases s.toList == [111,119,110]<;>cases s.toList == [38]<;>cases s.toList == [38,109,117,116]<;>simp
theorem zLg {m:Int} (h:1≤m∧m≤4):ztb m=decide (1<m):=by
 unfold ztb
 have:m=1∨m=2∨m=3∨m=4:=by omega
 rcases this with rfl|rfl|rfl|rfl<;>rfl
theorem zQp {tys:List Ty} {q:T} {l:List Prm} {p:Prm} (hq:zLi q) (hl:∀ o∈l,1≤o.mode∧o.mode≤4) (h:zOg tys q l=.ok p):PrU tys l p:=by
 have ho:=zYn hq h
 obtain ⟨hn,m,e,h1,hm,ht⟩:=ho
 have hlo:1≤p.mode∧p.mode≤4:=⟨by rw [hm];exact h1,by rw [hm];exact (zIj _).2⟩
 have e0:zza q 0=m:=by unfold zza;rw [e];rfl
 unfold zOg at h
 rw [e0] at h
 cases ha:l.any (zxc q.text)
 ·rw [ha] at h
  cases hh:zEc tys m with
  | none=>rw [hh] at h;cases h
  | some p' =>
   rw [hh] at h
   simp only [cond_false] at h
   cases hc:zed tys p' l
   ·rw [hc] at h
    have hp:p=⟨q.text,p'.mode,p'.ty⟩:=by cases h;rfl
    refine ⟨hlo,fun hgt=>?_,fun o hol hne=>?_,fun hgt hs o hol hog hty=>?_⟩
    ·rcases ht with ⟨_,hb⟩|⟨_,n,k,t,_,h2,h3,_⟩
     ·rw [zLg hlo] at hb
      simp at hb
      omega
     ·exact ⟨k,t,h2,h3⟩
    ·have:=List.any_eq_false.1 ha o hol
     rw [hp] at hne
     exact this (by unfold zxc;simpa using hne)
    ·have hb:ztb p'.mode=true:=by
      have:=zLg hlo
      rw [hp] at this hgt
      rw [this]
      simpa using hgt
     have hs2:(zth tys p'.ty == 0)=false:=by rw [hp] at hs;simpa using hs
     unfold zed at hc
     rw [hb,hs2] at hc
     simp only [Bool.not_true,Bool.or_false,cond_false] at hc
     have:=List.any_eq_false.1 hc o hol
     refine this ?_
     unfold zxe
     rw [zLg (hl o hol)]
     rw [hp] at hty
     simp [hog,hty]
   ·rw [hc] at h;cases h
 ·rw [ha] at h;cases h
theorem zJm {tys:List Ty}:∀ (qs:List T) {l l':List Prm},(∀ q∈qs,zLi q)→(∀ o∈l,1≤o.mode∧o.mode≤4)→(∀ (k:Nat) (p:Prm),l[k]?=some p→PrU tys (l.take k) p)→zgd tys l qs=.ok l'→∀ (k:Nat) (p:Prm),l'[k]?=some p→PrU tys (l'.take k) p
 | [],l,l',_,_,hu,h=>by cases h;exact hu
 | q :: r,l,l',hq,hl,hu,h=>by
  rw [zgd] at h
  cases ho:zOg tys q l with
  | error e=>rw [ho] at h;cases h
  | ok p =>
   rw [ho] at h
   have hp:=zQp (hq q (by simp)) hl ho
   refine zJm r (fun x hx=>hq x (by simp [hx])) (fun o hol=>?_) (fun k p' hk=>?_) h
   ·rcases List.mem_append.1 hol with hol|hol
    ·exact hl o hol
    ·obtain rfl:o=p:=by simpa using hol
     exact hp.lo
   ·rcases Nat.lt_trichotomy k l.length with hlt|rfl|hgt
    ·rw [List.getElem?_append_left hlt] at hk
     rw [List.take_append_of_le_length (by omega)]
     exact hu k p' hk
    ·obtain rfl:p=p':=by simpa using hk
     rw [List.take_append_of_le_length (Nat.le_refl _),List.take_of_length_le (Nat.le_refl _)]
     exact hp
    ·rw [List.getElem?_eq_none (by simp;omega)] at hk;cases hk
structure SgU (tys:List Ty) (s:Sg):Prop where
 par:∀ (k:Nat) (p:Prm),s.params[k]?=some p→PrU tys (s.params.take k) p
 len:s.params.length≤8
 ret:0≤s.ret.mode∧s.ret.mode≤2
theorem zNp {tys:List Ty} {n:T} {s:Sg} (hn:zPn n) (h:zSg tys n=.ok s):SgU tys s:=by
 have h8:=(zXn hn h).2.1
 obtain ⟨_,l,r,hp,hr,rfl⟩:=zzh h
 obtain ⟨ps,m,b,e,hq,hm,hf⟩:=hn.fp
 rw [hf] at hp hr
 have hr2:=(zij hm.1 hr).1
 exact ⟨zJm ps hq (fun o h=>by simp at h) (fun k p h=>by simp at h) hp,h8,by rw [hr2];exact ⟨(zIj _).1,hm.2⟩⟩
end Go.Proofs.YtdhmdfhnkppnmaaDoor
namespace Go.Proofs.YtdhmdfhnkppnmaaDoor
open Go.RowKit Go.Maps
theorem zWk.get2 {α β:Type} {R:α→β→Prop} {us:List α} {vs:List β} (h:zWk R us vs):∀ (k:Nat) (b:β),vs[k]?=some b→∃ a,us[k]?=some a∧R a b:=by
 induction h with
 | nil=>intro k a hk;simp at hk
 | cons h1 _ ih =>
  intro k a hk
  cases k with
  | zero=>obtain rfl:=Option.some.inj (by simpa using hk);exact ⟨_,rfl,h1⟩
  | succ k=>obtain ⟨b,e,r⟩:=ih k a (by simpa using hk);exact ⟨b,by simpa using e,r⟩
theorem zGg:∀ {l:List T} {x:T},zJe l=true→x∈l→x.good=true
 | [],_,_,h=>by simp at h
 | a :: l,x,hg,h=>by
  rw [zYa,Bool.and_eq_true] at hg
  rcases List.mem_cons.1 h with rfl|h
  ·exact hg.1
  ·exact zGg hg.2 h
theorem zti {t:T} (h:t.good=true):zJe t.kids=true:=by
 cases t
 rw [zge,Bool.and_eq_true] at h
 exact h.2
theorem zpk {t x q:T} (h:t.good=true) (hx:x∈t.kids) (hq:q∈x.kids) (h7:q.kind=7):zeb q.text=true:=by
 have h1:=zGg (zti (zGg (zti h) hx)) hq
 cases q with
 | mk k s n p ks =>
  simp only [T.kind] at h7
  subst h7
  rw [zge,Bool.and_eq_true] at h1
  have h2:=h1.1
  unfold zTd at h2
  simp only [Bool.and_eq_true] at h2
  exact h2.2.2
theorem zMk {tys:List Ty} {n:T} {s:Sg} (hn:zPn n) (h:zSg tys n=.ok s) (hg:∀ q∈n.kids,q.kind=7→zeb q.text=true):∀ (k:Nat) (p:Prm),s.params[k]?=some p→p.name.size≤16:=by
 obtain ⟨_,l,r,hp,hr,rfl⟩:=zzh h
 obtain ⟨ps,m,b,e,hq,hm,hf⟩:=hn.fp
 rw [hf] at hp
 obtain ⟨zs,e2,ha⟩:=zkj ps hq hp
 obtain rfl:l=zs:=by simpa using e2
 intro k p hk
 obtain ⟨q,hqk,hpq⟩:=ha.get2 k p hk
 have hqm:=List.mem_of_getElem? hqk
 rw [hpq.1]
 exact zxd (hg q (by rw [e];simp [hqm]) (hq q hqm).1)
def zKm (w:World) (M:Nat) (l:List Prm):Prop :=
 ∃ (n:Nat) (D:DataW Unit),w.ownsMap Tryd.prog 9 (plainElem Tryd.prog 3) M n D∧n≤l.length∧IsMap D∧∀ s:ByteArray,(∀ o∈l,o.name.toList≠s.toList)→D.atKey (zPd s) (.lit (.int .i64 0))=.lit (.int .i64 0)
theorem zKm.made (w:World):zKm (w.alloc (.map #[] 0)) w.heap.size []:=⟨0,_,World.ownsMap_made _ _ _ _,Nat.le_refl _,⟨[],rfl⟩,fun _ _=>rfl⟩
theorem zKm.same {w w':World} {M:Nat} {l:List Prm} (h:zKm w M l) (e:w'.heap[M]?=w.heap[M]?):zKm w' M l:=by
 obtain ⟨n,D,⟨es,clock,hb,hr⟩,h2⟩:=h
 exact ⟨n,D,⟨es,clock,e.trans hb,hr⟩,h2⟩
theorem zSj {w:World} {M n:Nat} {D:DataW Unit} (ho:w.ownsMap Tryd.prog 9 (plainElem Tryd.prog 3) M n D) {s:ByteArray} (hs:s.size≤maxLen) {c:Int} (h:D.atKey (zPd s) (.lit (.int .i64 0))=.lit (.int .i64 c)) :
  (Instr.lookup 43 (.map (some M)) (.string s) false).run Tryd.prog w=.ok (.int .i64 c) w:=by
 obtain ⟨c',hrun,hat,_⟩:=ho.lookup_int zAi Tryd.underlying43 Tryd.underlying3 (zpj w) (WideMaps.keyOf_string_mk Tryd.underlying9 hs)
 rw [show (DataW.atKey D (.string s.data.toList) (.lit (.int .i64 0)))=_ from h] at hat
 have e:c=c':=by simpa using hat
 rw [hrun,e]
theorem zKm.put {w1:World} {M n:Nat} {l:List Prm} {p:Prm} {D:DataW Unit} (hn:n≤l.length) (hI:IsMap D) (hD:∀ s:ByteArray,(∀ o∈l,o.name.toList≠s.toList)→D.atKey (zPd s) (.lit (.int .i64 0))=.lit (.int .i64 0))
  (ho:w1.ownsMap Tryd.prog 9 (plainElem Tryd.prog 3) M (n+1) (D.put (zPd p.name) (.lit (.int .i64 1)))):zKm w1 M (l++[p]):=by
 refine ⟨n+1,_,ho,by simp;omega,hI.put _ _,fun s hs=>?_⟩
 have hk:zPd s≠zPd p.name:=fun e=>hs p (by simp) ((zlg s p.name).1 e).symm
 rw [atKey_put_other hk]
 exact hD s fun o ho=>hs o (by simp [ho])
theorem zQn:Keyed Tryd.prog 3:=int_keyed Tryd.underlying3
def zlj (w:World) (M:Nat) (l:List Prm):Prop :=
 ∃ (n:Nat) (D:DataW Unit),w.ownsMap Tryd.prog 3 (plainElem Tryd.prog 3) M n D∧n≤l.length∧IsMap D∧∀ i:Int,(∀ o∈l,1<o.mode→o.ty≠i)→D.atKey (.int .i64 i) (.lit (.int .i64 0))=.lit (.int .i64 0)
theorem zlj.made (w:World):zlj (w.alloc (.map #[] 0)) w.heap.size []:=⟨0,_,World.ownsMap_made _ _ _ _,Nat.le_refl _,⟨[],rfl⟩,fun _ _=>rfl⟩
theorem zlj.same {w w':World} {M:Nat} {l:List Prm} (h:zlj w M l) (e:w'.heap[M]?=w.heap[M]?):zlj w' M l:=by
 obtain ⟨n,D,⟨es,clock,hb,hr⟩,h2⟩:=h
 exact ⟨n,D,⟨es,clock,e.trans hb,hr⟩,h2⟩
theorem zlj.skip {w:World} {M:Nat} {l:List Prm} (h:zlj w M l) (p:Prm):zlj w M (l++[p]):=by
 obtain ⟨n,D,ho,hn,hI,hD⟩:=h
 exact ⟨n,D,ho,by simp;omega,hI,fun i hi=>hD i fun o ho=>hi o (by simp [ho])⟩
theorem zFj {w:World} {M n:Nat} {D:DataW Unit} (ho:w.ownsMap Tryd.prog 3 (plainElem Tryd.prog 3) M n D) {i:Int} (hw:(Lit.int .i64 i).wf=true) {c:Int} (h:D.atKey (.int .i64 i) (.lit (.int .i64 0))=.lit (.int .i64 c)) :
  (Instr.lookup 44 (.map (some M)) (.int .i64 i) false).run Tryd.prog w=.ok (.int .i64 c) w:=by
 obtain ⟨c',hrun,hat,_⟩:=ho.lookup_int zQn Tryd.underlying44 Tryd.underlying3 (zpj w) (keyOf_int_mk Tryd.underlying3 hw)
 rw [h] at hat
 have e:c=c':=by simpa using hat
 rw [hrun,e]
theorem zlj.put {w1:World} {M n:Nat} {l:List Prm} {p:Prm} {D:DataW Unit} (hn:n≤l.length) (hI:IsMap D) (hp:1<p.mode) (hD:∀ i:Int,(∀ o∈l,1<o.mode→o.ty≠i)→D.atKey (.int .i64 i) (.lit (.int .i64 0))=.lit (.int .i64 0))
  (ho:w1.ownsMap Tryd.prog 3 (plainElem Tryd.prog 3) M (n+1) (D.put (.int .i64 p.ty) (.lit (.int .i64 1)))):zlj w1 M (l++[p]):=by
 refine ⟨n+1,_,ho,by simp;omega,hI.put _ _,fun i hi=>?_⟩
 have hk:(Lit.int .i64 i)≠(Lit.int .i64 p.ty):=fun e=>hi p (by simp) hp (by cases e;rfl)
 rw [atKey_put_other hk]
 exact hD i fun o ho=>hi o (by simp [ho])
end Go.Proofs.YtdhmdfhnkppnmaaDoor
