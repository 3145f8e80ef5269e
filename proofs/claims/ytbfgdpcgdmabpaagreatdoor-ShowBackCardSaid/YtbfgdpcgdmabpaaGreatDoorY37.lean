/- A region that draws its order, all of whose operations leave a condition S as it is: those that yield are taken first, the others walked in their one order. Nothing of the program is walked here. Trees that are alike, as a Bool. Nothing of the program is walked here. -/
import Derived.Test.YtbfgdpcgdmabpaaGreatDoorY04
import Derived.Test.YtbfgdpcgdmabpaaGreatDoorY36
import Derived.Test.YtbfgdpcgdmabpaaGreatDoorY34
import Derived.Test.YtbfgdpcgdmabpaaGreatDoorY35
import Derived.Test.YtbfgdpcgdmabpaaGreatDoorY16
namespace Go.Proofs.YtbfgdpcgdmabpaaGreatDoor
open Go.RowKit
section
variable {P:Program} {ops:Array Oper} {Q:Exit→Act→World→Prop} {md:Region.Mode} {S:World→Prop}
theorem AnyH.one {i:Nat} {o:Oper} {fuel:Nat} {listed:Array Bool} {a:Act} {w:World} (hr:Region.ready md ops listed=[i]) (ho:ops[i]?=some o) (hw:Region.wanted o (yielded ops a.tmps)=true)
  (h:∀ K:Act→World→Prop,Shut (∀ a w,S w→wpAnyH P md ops Q S fuel (listed.setIfInBounds i true) a w→K a w)→o.wp P a w K Q):wpAnyH P md ops Q S (fuel+1) listed a w:=by
 refine ⟨(fun h0=>by rw [hr] at h0;cases h0),fun j hj=>?_⟩
 rw [hr] at hj
 obtain rfl:j=i:=by simpa using hj
 refine wpOp_step ho fun K' hK=>?_
 rw [if_pos hw]
 exact h K' fun a w hS hA=>hK a w ⟨hS,hA⟩
end
mutual
def zQc (b:Bool):T→T→Bool
 | .mk k s n p ks,u=>!(k != u.kind) && (s.toList == u.text.toList && (!(n != u.num) && (!(b && (p != u.place)) && (!(ks.length != u.kids.length) && zHc b ks u.kids))))
def zHc (b:Bool):List T→List T→Bool
 | [],_=>true
 | t :: ts,us=>match us with
  | []=>false
  | u :: us'=>zQc b t u && zHc b ts us'
end
theorem zTf (b:Bool) (t u:T):zQc b t u=(!(t.kind != u.kind) && (t.text.toList == u.text.toList && (!(t.num != u.num) && (!(b && (t.place != u.place)) && (!(t.kids.length != u.kids.length) && zHc b t.kids u.kids))))):=by cases t;rw [zQc];rfl
theorem zmh (b:Bool) (us:List T):zHc b [] us=true:=by rw [zHc]
theorem zwg (b:Bool) (t u:T) (ts us:List T):zHc b (t :: ts) (u :: us)=(zQc b t u && zHc b ts us):=by rw [zHc]
theorem zNn {b:Bool} {t u:T} (h:(t.kind != u.kind)=true):zQc b t u=false:=by rw [zTf,h];rfl
theorem zAn {b:Bool} {t u:T} (h:(t.text.toList == u.text.toList)=false):zQc b t u=false:=by rw [zTf,h];simp
theorem znp {b:Bool} {t u:T} (h:(t.num != u.num)=true):zQc b t u=false:=by rw [zTf,h];simp
theorem zim {t u:T} (h:(t.place != u.place)=true):zQc true t u=false:=by rw [zTf,h];simp
theorem zqo {b:Bool} {t u:T} (h:(t.kids.length != u.kids.length)=true):zQc b t u=false:=by rw [zTf,h];simp
theorem zCn {b:Bool} {t u:T} (h1:(t.kind != u.kind)=false) (h2:(t.text.toList == u.text.toList)=true) (h3:(t.num != u.num)=false) (h4:b=true→(t.place != u.place)=false) (h5:(t.kids.length != u.kids.length)=false):zQc b t u=zHc b t.kids u.kids:=by
 rw [zTf,h1,h2,h3,h5]
 cases b
 ·simp
 ·rw [h4 rfl];simp
theorem zSi {b:Bool} {ts us:List T} {k:Nat} {t u:T} (ht:ts[k]?=some t) (hu:us[k]?=some u):zHc b (ts.drop k) (us.drop k)=(zQc b t u && zHc b (ts.drop (k+1)) (us.drop (k+1))):=by
 obtain ⟨h1,h2⟩:=List.getElem?_eq_some_iff.1 ht
 obtain ⟨h3,h4⟩:=List.getElem?_eq_some_iff.1 hu
 rw [List.drop_eq_getElem_cons h1,List.drop_eq_getElem_cons h3,zwg,h2,h4]
mutual
theorem TR.alike {ρ:Nat→Nat→Prop} {b:Bool} (hb:b=true→∀ p q,ρ p q→p=q):∀ {t u:T},TR ρ t u→zQc b t u=true
 | .mk k s n p ks,u,h=>by
  unfold TR at h
  obtain ⟨h1,h2,h3,h4,h5⟩:=h
  have h6:ks.length=u.kids.length:=TsR.len h5
  have h7:zHc b ks u.kids=true:=TsR.alike hb h5
  rw [zQc,h7,← h1,← h2,← h3,← h6]
  cases b
  ·simp
  ·rw [← hb rfl _ _ h4];simp
theorem TsR.alike {ρ:Nat→Nat→Prop} {b:Bool} (hb:b=true→∀ p q,ρ p q→p=q):∀ {ts us:List T},TsR ρ ts us→zHc b ts us=true
 | [],us,h=>by rw [zHc]
 | t :: ts,us,h=>by
  unfold TsR at h
  obtain ⟨u,us',rfl,h1,h2⟩:=h
  rw [zwg,TR.alike hb h1,TsR.alike hb h2]
  rfl
theorem TsR.len {ρ:Nat→Nat→Prop}:∀ {ts us:List T},TsR ρ ts us→ts.length=us.length
 | [],us,h=>by unfold TsR at h;rw [h]
 | t :: ts,us,h=>by
  unfold TsR at h
  obtain ⟨u,us',rfl,_,h2⟩:=h
  simp [TsR.len h2]
end
mutual
theorem TR.size {ρ:Nat→Nat→Prop}:∀ {t u:T},TR ρ t u→t.size=u.size
 | .mk k s n p ks,u,h=>by
  unfold TR at h
  obtain ⟨h1,h2,h3,h4,h5⟩:=h
  cases u
  rw [size_mk,size_mk,TsR.sizes h5]
  rfl
theorem TsR.sizes {ρ:Nat→Nat→Prop}:∀ {ts us:List T},TsR ρ ts us→Go.Proofs.YtbfgdpcgdmabpaaGreatDoor.sizes ts=Go.Proofs.YtbfgdpcgdmabpaaGreatDoor.sizes us
 | [],us,h=>by unfold TsR at h;rw [h]
 | t :: ts,us,h=>by
  unfold TsR at h
  obtain ⟨u,us',rfl,h1,h2⟩:=h
  rw [zTa,zTa,TR.size h1,TsR.sizes h2]
end
end Go.Proofs.YtbfgdpcgdmabpaaGreatDoor
namespace Go.Proofs.YtbfgdpcgdmabpaaGreatDoor
open Go.RowKit
theorem Al.append {ρ:Nat→Nat→Prop} {a a' b b':List Tok} (h:Al ρ a a') (h':Al ρ b b'):Al ρ (a++b) (a'++b'):=by
 induction h with
 | nil=>exact h'
 | cons ht _ ih=>exact .cons ht ih
theorem Al.length {ρ:Nat→Nat→Prop} {a a':List Tok} (h:Al ρ a a'):a.length=a'.length:=by
 induction h with
 | nil=>rfl
 | cons _ _ ih=>simp [ih]
theorem zkp {ρ:Nat→Nat→Prop} {l l':List Tok} (h:Al ρ l l') (hend:∃ t∈l,¬ Con t) :
  (∃ xs xs' k k',zgd l=.ok (.mk 0 e0 0 0 xs,k)∧zgd l'=.ok (.mk 0 e0 0 0 xs',k')∧TsR ρ xs xs')∨(∃ p p' e,zgd l=.error (p,e)∧zgd l'=.error (p',e)∧ρ p p'∧∃ t∈l,p=t.place):=by
 have h1:=zRs (x:=[]) (x':=[]) (l.length+1) (l'.length+1) h (by simp) (by simp)
 rw [List.append_nil,List.append_nil] at h1
 rcases h1 with ⟨a,a',d,k,d',k',e1,e2,hv,_⟩|⟨p,p',e,e1,e2,hr,hm⟩|⟨hc,_⟩
 ·exact .inl ⟨a,a',_,_,by unfold zgd;exact zHa e1 _,by unfold zgd;exact zHa e2 _,hv⟩
 ·exact .inr ⟨p,p',e,by unfold zgd;exact zNa e1 _,by unfold zgd;exact zNa e2 _,hr,hm⟩
 ·obtain ⟨t,ht,hn⟩:=hend
  exact absurd (hc t ht) hn
theorem zvp {s:ByteArray} {ts:List Tok} (h:zqd s=.ok ts):zvb s=zUc ts:=by unfold zvb;rw [h]
end Go.Proofs.YtbfgdpcgdmabpaaGreatDoor
namespace Go.Proofs.YtbfgdpcgdmabpaaGreatDoor
open Go.RowKit
theorem zWn {p:Prop} (h:p:=by
  rw [zZa,if_neg (by decide)]
  simp [zXa,zDc,zOb,maybe,tb_bs,zPa,zib,List.append_assoc, *]):p:=h
theorem tb_bs (l:List UInt8):tb (bs l)=l:=by simp [tb,bs]
theorem zzm {t:T} (h:zKh t) (d:Nat):Rd zeb NA t (shw d t):=by
 rcases h with ⟨p,rfl⟩|⟨p,a,rfl,s,pa,rfl,hs⟩
 ·have e:shw d (.mk 8 (bs [105,110,116]) 0 p [])=[105,110,116]:=zWn
  refine ⟨[kw [105,110,116]],by rw [e];exact zOn (by kernel_rfl) rfl,zXe _ _ (by decide),fun r _=>?_⟩
  unfold zeb
  exact rdy
 ·have e:shw d (.mk 8 (bs [111,119,110]) 0 p [.mk 5 s 0 pa []])=([111,119,110]++[32])++tb s:=by
   have:=zDg hs d pa
   exact zWn
  refine ⟨[kw [111,119,110]]++[nmK s],by rw [e];exact (kww (by kernel_rfl) rfl).s (zBb hs),zXe _ _ (by decide),fun r _=>?_⟩
  unfold zeb
  exact rdy
theorem zAt {t:T} (h:zjm t) (d:Nat):Rd zwd NA t (shw d t):=by
 rcases h with ⟨p,a,rfl,s,pa,rfl,hs⟩|⟨p,a,rfl,s,pa,rfl,hs⟩|h
 ·have e:shw d (.mk 8 (bs [38]) 0 p [.mk 5 s 0 pa []])=[38]++tb s:=by
   have:=zDg hs d pa
   exact zWn
  refine ⟨[sg [38]]++[nmK s],by rw [e];exact amp.s (zBb hs),zsn _ _ (by decide),fun r _=>?_⟩
  unfold zwd
  exact rdy
 ·have e:shw d (.mk 8 (bs [38,109,117,116]) 0 p [.mk 5 s 0 pa []])=[38]++(([109,117,116]++[32])++tb s):=by
   have:=zDg hs d pa
   exact zWn
  refine ⟨[sg [38]]++([kw [109,117,116]]++[nmK s]),by rw [e];exact amp.s ((kww (by kernel_rfl) rfl).s (zBb hs)),zsn _ _ (by decide),fun r _=>?_⟩
  unfold zwd
  exact rdy
 ·have h2:=h
  obtain ⟨k,hp,hh,hr⟩:=zzm h d
  refine ⟨k,hp,hh,fun r _=>?_⟩
  have h3:=hr r trivial
  unfold zwd
  have h4:isT (hdT (cl k++r)) (bs [38])=false:=by
   cases hq:isT (hdT (cl k++r)) (bs [38]) with
   | false=>rfl
   | true =>
    unfold zeb zSa at h3
    have ht:=zBf hq
    have hf:[bs [105,110,116],bs [111,119,110]].any (isT (hdT (cl k++r)))=false:=by
     simp only [List.any_cons,List.any_nil]
     unfold isT
     rw [ht,zHe,zHe,zHe]
     rfl
    rw [hf,cond_false] at h3
    cases h3
  rw [h4,cond_false,h3]
theorem zjr {t:T} (h:zPh t) (d:Nat):Rd zBc NA t (shw d t):=by
 obtain ⟨s,p,a,rfl,hs,ha⟩:=h
 obtain ⟨k,hp,_,hr⟩:=zAt ha d
 have hr2:=fun r=>hr r trivial
 have e:shw d (.mk 7 s 0 p [a])=tb s++(([58]++[32])++shw d a):=zWn
 refine ⟨[nmK s]++(([sg [58]]++[])++k),by rw [e];exact (zBb hs).xs (colon.s zaf) hp rfl,zfg hs _,fun r _=>?_⟩
 clear hr e ha
 unfold zBc
 exact rdy
theorem zRt {t:T} (h:zcm t) (d:Nat):Rd zld NA t (shw d t):=by
 rcases h with ⟨s,p,rfl,hs⟩|⟨s,p,a,rfl,hs,u,pa,rfl,hu⟩
 ·rcases hs with rfl|rfl
  ·have e:shw d (.mk 2 (bs [111,119,110]) 0 p [])=[111,119,110]:=zWn
   refine ⟨[kw [111,119,110]],by rw [e];exact zOn (by kernel_rfl) rfl,zXe _ _ (by decide),fun r _=>?_⟩
   unfold zld
   exact rdy
  ·have e:shw d (.mk 2 (bs [99,101,108,108]) 0 p [])=[99,101,108,108]:=zWn
   refine ⟨[kw [99,101,108,108]],by rw [e];exact zOn (by kernel_rfl) rfl,zXe _ _ (by decide),fun r _=>?_⟩
   unfold zld
   exact rdy
 ·have hn:=zDg hu d pa
  rcases hs with rfl|rfl|rfl
  ·have e:shw d (.mk 2 (bs [99,111,117,110,116,101,100]) 0 p [.mk 5 u 0 pa []])=([99,111,117,110,116,101,100]++[32])++tb u:=zWn
   refine ⟨[kw [99,111,117,110,116,101,100]]++[nmK u],by rw [e];exact (kww (by kernel_rfl) rfl).s (zBb hu),zXe _ _ (by decide),fun r _=>?_⟩
   unfold zld
   exact rdy
  ·have e:shw d (.mk 2 (bs [108,111,99,107]) 0 p [.mk 5 u 0 pa []])=([108,111,99,107]++[32])++tb u:=zWn
   refine ⟨[kw [108,111,99,107]]++[nmK u],by rw [e];exact (kww (by kernel_rfl) rfl).s (zBb hu),zXe _ _ (by decide),fun r _=>?_⟩
   unfold zld
   exact rdy
  ·have e:shw d (.mk 2 (bs [103,117,97,114,100]) 0 p [.mk 5 u 0 pa []])=([103,117,97,114,100]++[32])++tb u:=zWn
   refine ⟨[kw [103,117,97,114,100]]++[nmK u],by rw [e];exact (kww (by kernel_rfl) rfl).s (zBb hu),zXe _ _ (by decide),fun r _=>?_⟩
   unfold zld
   exact rdy
def NB (r:List Tok):Prop:=isT (hdT r) (bs [91])=false
theorem zGv (a:List UInt8) (r:List Tok) (h:(a == [91])=false):NB (ck (sg a) :: r):=by unfold NB;rw [zvc,zpd,h]
theorem zBr {t:T} (h:zTg t) (d:Nat):Rd zjc NB t (shw d t):=by
 rcases h with ⟨s,p,rfl,hs⟩|⟨s,p,a,rfl,hs,u,pa,rfl,hu⟩
 ·have e:shw d (.mk 3 s 0 p [])=tb s:=zWn
  refine ⟨[nmK s],by rw [e];exact zBb hs,zfg hs _,fun r hr=>?_⟩
  have hr':isT (hdT r) (bs [91])=false:=hr
  unfold zjc
  exact rdy
 ·have hn:=zDg hu d pa
  have e:shw d (.mk 3 s 0 p [.mk 5 u 0 pa []])=tb s++([91]++(tb u++[93])):=zWn
  refine ⟨[nmK s]++([sg [91]]++([nmK u]++[sg [93]])),by rw [e];exact (zBb hs).xs lb ((zBb hu).x (r:=[]) rb.fx rfl) rfl,zfg hs _,fun r _=>?_⟩
  unfold zjc
  exact rdy
theorem zFs {t:T} (h:zrk t) (d:Nat):Rd zre NT t (shw d t):=by
 obtain ⟨s,p,a,b,rfl,hc,ha,hb⟩:=h
 obtain ⟨k,hp,hh,hr⟩:=zZo hc ha hb d
 have e:shw d (.mk 4 s 0 p [a,b])=shw d a++(([32]++(tb s++[32]))++shw d b):=zWn
 refine ⟨k,by rw [e];exact hp,hh,fun r hr0=>?_⟩
 have h1:=hr 4 r hr0
 have hpl:(hdT (cl k++r)).place=0:=by obtain ⟨k0,kr,rfl,_⟩:=hh;rfl
 unfold zre
 rw [hpl,h1,zpn,zYc,zYc,zue]
theorem zqi:∀ (ys zs:List T),(∀ y∈ys,zTg y)→(∀ z∈zs,zrk z)→zEa (ys++zs)=ys.length
 | [],[],_,_=>rfl
 | [],z :: zs,_,hz=>by
  obtain ⟨s,p,a,b,rfl,_⟩:=hz z (by simp)
  rfl
 | y :: ys,zs,hy,hz=>by
  have hk:y.kind=3:=by rcases hy y (by simp) with ⟨s,p,rfl,_⟩|⟨s,p,a,rfl,_⟩<;>rfl
  rw [List.cons_append,zEa,if_pos hk,zqi ys zs (fun t ht=>hy t (by simp [ht])) hz]
  rfl
theorem znl (d:Nat) (xs ys:List T):zpb d (xs++ys)=zpb d xs++zpb d ys:=by simp only [zhd,List.map_append]
theorem ztu {t:T} (h:zZk t) (d:Nat):∃ ks,Pc FX (shw d t) ([kw [116,121,112,101]]++ks)∧∀ r,zqc 0 (cl ks++r)=.ok (t.z,r):=by
 obtain ⟨s,p,a,ys,zs',rfl,hs,ha,hy,hz⟩:=h
 obtain ⟨ka,pa,_,ra⟩:=zRt ha d
 have ra2:=fun r=>ra r trivial
 have hl:=zEc d ys
 have e:shw d (.mk 1 s 0 p (a :: (ys++zs')))=([116,121,112,101]++[32])++(tb s++([32]++(shw d a++((if ys=[] then [] else (32 :: ([123]++[32]))++(commas (zpb d ys)++([32]++[125])))++((if zs'=[] then [] else ([32]++([119,104,101,114,101]++[32]))++commas (zpb d zs'))++[59]))))):=by
  rw [zZa,if_neg (by decide)]
  show zKf (tb s) (a :: (ys++zs')) (zpb d (a :: (ys++zs')))=_
  rw [zPa,znl]
  unfold zKf
  simp only [List.tail_cons,zqi ys zs' hy hz,List.length_append,List.getD_cons_zero]
  rw [List.take_left' hl,List.drop_left' hl]
  cases ys<;>cases zs'<;>simp
 -- the fields
 obtain ⟨kf,pf,rf⟩:∃ kf,(∀ b kb,Pc FX (b) kb→(∃ c r,b=c :: r∧zLd (c.toNat:Int)=false)→Pc FX (shw d a++((if ys=[] then [] else (32 :: ([123]++[32]))++(commas (zpb d ys)++([32]++[125])))++b)) (ka++(kf++kb)))∧(∀ r,isT (hdT r) (bs [123])=false→zoc (cl kf++r)=.ok (zs ys,r)):=by
  by_cases h0:ys=[]
  ·subst h0
   refine ⟨[],fun b kb hb ⟨c,r,hc,hw⟩=>?_,fun r hr=>?_⟩
   ·subst hc
    rw [if_pos rfl]
    exact pa.x hb hw
   ·unfold zoc
    rw [zEi,hr,cond_false,zue]
  ·obtain ⟨k,hp,_,hr⟩:=zLl (item:=zjc) (N:=NB) (fun r=>zGv _ _ rfl) (d:=d) h0 fun y hym=>zBr (hy y hym) d
   refine ⟨[sg [123]]++(k++[sg [125]]),fun b kb hb ⟨c,r,hc,hw⟩=>?_,fun r _=>?_⟩
   ·subst hc
    rw [if_neg h0]
    have h1:Pc FS (32 :: ([123]++[32])) [sg [123]]:=zaf.s (lc'.s zaf)
    have h2:Pc FX ([125]++(c :: r)) ([sg [125]]++kb):=rc.s hb
    have h3:=pa.xs h1 (hp.xs zaf h2 rfl) rfl
    simpa [List.append_assoc] using h3
   ·have h1:=hr (ck (sg [125]) :: r) (by simp) (zGv _ _ rfl) (by rw [zvc,zpd];rfl)
    unfold zoc
    rw [zKc,zKc,zEd,zEd,zvc,zpd]
    show bd (zsd zjc (cl k++(ck (sg [125]) :: r))) _=_
    rw [h1,zJb,zYd,zJb]
 -- the facts and the end
 obtain ⟨kz,pz,rz,hz0⟩:∃ kz,Pc FX ((if zs'=[] then [] else ([32]++([119,104,101,114,101]++[32]))++commas (zpb d zs'))++[59]) (kz++[sg [59]])∧(∀ r,zPc (cl kz++(ck (sg [59]) :: r))=.ok (zs zs',ck (sg [59]) :: r))∧∀ r,isT (hdT (cl kz++(ck (sg [59]) :: r))) (bs [123])=false:=by
  by_cases h0:zs'=[]
  ·subst h0
   refine ⟨[],by rw [if_pos rfl];exact semi.fx,fun r=>?_,fun r=>by rw [zEi,zvc,zpd];rfl⟩
   unfold zPc
   rw [zEi,zvc,zpd,zue]
   rfl
  ·obtain ⟨k,hp,_,hr⟩:=zLl (item:=zre) (N:=NT) nt44 (d:=d) h0 fun y hym=>zFs (hz y hym) d
   refine ⟨[kw [119,104,101,114,101]]++k,?_,fun r=>?_,fun r=>by rw [zKc,zEd,zvc,zzf];rfl⟩
   ·rw [if_neg h0]
    have h1:Pc FS ([32]++([119,104,101,114,101]++[32])) [kw [119,104,101,114,101]]:=zaf.s (kww (by kernel_rfl) rfl)
    have h2:=h1.s hp.sem
    simpa [List.append_assoc] using h2
   ·have h1:=hr (ck (sg [59]) :: r) (by simp) (nt59 r) (by rw [zvc,zpd];rfl)
    unfold zPc
    rw [zKc,zEd,zvc,zzf]
    exact h1
 have hhead:∃ c r,(if zs'=[] then [] else ([32]++([119,104,101,114,101]++[32]))++commas (zpb d zs'))++[59]=c :: r∧zLd (c.toNat:Int)=false:=by
  split
  ·exact ⟨59,[],rfl,rfl⟩
  ·exact ⟨32,_,rfl,rfl⟩
 refine ⟨[nmK s]++([]++(ka++(kf++(kz++[sg [59]])))),?_,fun r=>?_⟩
 ·rw [e]
  exact (kww (by kernel_rfl) rfl).s ((zBb hs).xs zaf (pf _ _ pz hhead) rfl)
 ·have h1:=rf (cl kz++(ck (sg [59]) :: r)) (hz0 r)
  have h2:=rz r
  unfold zqc
  rw [List.nil_append,zKc,zKc,zKc,zKc,zEd,zEd,zai,zJb,ra2,zJb,h1,zJb,h2,zJb,zYd,zJb,zpn,zYc,zOk]
theorem fn_rd {t:T} (h:FnT t) (d:Nat):∃ ks,Pc FX (shw d t) ([kw [102,110]]++ks)∧∀ r,fnP 0 (cl ks++r)=.ok (t.z,r):=by
 obtain ⟨s,p,xs,u,b,rfl,hs,hx,hu,hb⟩:=h
 obtain ⟨kb,pb,rb'⟩:=zfn 8 b hb d
 obtain ⟨kx,px,rx⟩:=zDi (item:=zBc) (N:=NA) (fun _=>trivial) (fun _=>trivial) (d:=d) (xs:=xs) fun x hxm=>zjr (hx x hxm) d
 have hlx:=zEc d xs
 have e:shw d (.mk 6 s 0 p (xs++[u,b]))=([102,110]++[32])++(tb s++(40 :: (commas (zpb d xs)++[41])++((if u.text.size=0 then [] else ([32]++([45,62]++[32]))++shw d u)++([32]++shw d b)))):=by
  rw [zZa,if_neg (by decide)]
  show zVk (tb s) (xs++[u,b]) (zpb d (xs++[u,b]))=_
  rw [znl,zPa,zPa,zib]
  unfold zVk
  have h1:(xs++[u,b]).length-2=xs.length:=by simp
  have h2:(xs++[u,b]).length-1=xs.length+1:=by simp
  rw [h1,h2]
  have h3:(zpb d xs++[shw d u,shw d b]).take xs.length=zpb d xs:=by rw [← hlx];simp
  have h4:(xs++[u,b]).getD xs.length zNc=u:=by rw [List.getD_eq_getElem?_getD,List.getElem?_append_right (by omega)];simp
  have h5:(zpb d xs++[shw d u,shw d b]).getD xs.length []=shw d u:=by rw [List.getD_eq_getElem?_getD,List.getElem?_append_right (by omega),hlx];simp
  have h6:(zpb d xs++[shw d u,shw d b]).getD (xs.length+1) []=shw d b:=by rw [List.getD_eq_getElem?_getD,List.getElem?_append_right (by omega),hlx];simp
  rw [h3,h4,h5,h6]
  split<;>simp [List.append_assoc]
 obtain ⟨ku,pu,ru⟩:∃ ku,Pc FX ((if u.text.size=0 then [] else ([32]++([45,62]++[32]))++shw d u)++([32]++shw d b)) (ku++([sg [123]]++kb))∧∀ r,zmc (cl ku++(ck (sg [123]) :: r))=.ok (u.z,ck (sg [123]) :: r):=by
  rcases hu with hu|⟨q,rfl⟩
  ·have hne:¬ u.text.size=0:=by rcases hu with ⟨q,rfl⟩|⟨q,a,rfl,_⟩<;>(intro h;cases h)
   obtain ⟨k,hp,_,hr⟩:=zzm hu d
   refine ⟨[sg [45,62]]++k,?_,fun r=>?_⟩
   ·rw [if_neg hne]
    have h1:Pc FS ([32]++([45,62]++[32])) [sg [45,62]]:=arrow
    have h2:Pc FX ([32]++shw d b) ([]++([sg [123]]++kb)):=zaf.s pb
    have h3:=h1.s (hp.xs zaf pb rfl)
    simpa [List.append_assoc] using h3
   ·unfold zmc
    rw [zKc,zEd,zvc,zpd]
    exact hr _ trivial
  ·refine ⟨[],by rw [if_pos (show (T.mk 8 e0 0 q []).text.size=0 from rfl)];exact zaf.s pb,fun r=>?_⟩
   unfold zmc
   rw [zEi,zvc,zpd,zpn,zue]
   rfl
 have hhead:∃ c r,((if u.text.size=0 then [] else ([32]++([45,62]++[32]))++shw d u)++([32]++shw d b))=c :: r∧zLd (c.toNat:Int)=false:=by
  split
  ·exact ⟨32,_,rfl,rfl⟩
  ·exact ⟨32,_,rfl,rfl⟩
 refine ⟨[nmK s]++(([sg [40]]++kx)++(ku++([sg [123]]++kb))),?_,fun r=>?_⟩
 ·rw [e]
  exact (kww (by kernel_rfl) rfl).s ((zBb hs).xs px pu rfl)
 ·unfold fnP
  rw [zKc,zKc,zKc,zKc,zKc,zEd,zEd,zEd,zai,zJb,rx,zJb,ru,zJb,rb',zJb,zpn,zOk,zYc,zYc,zue]
theorem zNt {t:T} (h:zbl t) (d:Nat):Rd zHd NA t (shw d t):=by
 rcases h with h|h
 ·obtain ⟨k,hp,hr⟩:=ztu h d
  refine ⟨_,hp,zXe _ _ (by decide),fun r _=>?_⟩
  unfold zHd zSa
  rw [zKc,zEd,zvc,List.tail_cons]
  simp only [List.any_cons,zzf,List.any_nil]
  show bd (.ok (ck (kw [116,121,112,101]),cl k++r)) _=_
  rw [zJb,zzf]
  exact hr r
 ·obtain ⟨k,hp,hr⟩:=fn_rd h d
  refine ⟨_,hp,zXe _ _ (by decide),fun r _=>?_⟩
  unfold zHd zSa
  rw [zKc,zEd,zvc,List.tail_cons]
  simp only [List.any_cons,zzf,List.any_nil]
  show bd (.ok (ck (kw [102,110]),cl k++r)) _=_
  rw [zJb,zzf]
  exact hr r
def zks:Tok:=⟨0,e0,0,0⟩
theorem zXo:∀ xs:List T,(∀ x∈xs,zbl x)→∃ ks,LX FA ((zpb 0 xs).flatMap (fun x=>x++[10])) ks∧xs.length≤ks.length∧∀ m,xs.length<m→zRd m (cl ks++[zks])=.ok (zs xs,[zks])
 | [],_=>⟨[],by rw [zib];exact LX.nil _,by simp,fun m hm=>by
  cases m with
  | zero=>simp at hm
  | succ m=>rw [zRd,zEi,zue];rfl⟩
 | x :: xs,h=>by
  obtain ⟨k,hp,hh,hr⟩:=zNt (h x (by simp)) 0
  obtain ⟨k',hp',hl',hr'⟩:=zXo xs fun y hy=>h y (by simp [hy])
  refine ⟨k++([]++k'),?_,?_,fun m hm=>?_⟩
  ·rw [zPa,List.flatMap_cons,List.append_assoc]
   refine hp.1.app ((LX.blank (F:=FA) rfl).app hp' fun _ _=>trivial) fun rest _=>?_
   intro c hc
   cases hc
   exact ⟨rfl,by decide,by decide⟩
  ·obtain ⟨k0,kr,rfl,_⟩:=hh
   simp only [List.length_append,List.length_cons,List.length_nil] at hl' ⊢
   omega
  ·cases m with
   | zero=>simp at hm
   | succ m =>
    rw [List.nil_append,zKc,zRd,hh.end,cond_false,hr _ trivial,zJb,hr' m (by simpa using hm),zJb,zYc]
theorem zRm:∀ (ts:List Tok) (ks:List Kt),ts.map strip=ks→Al (fun _ _=>True) (cl ks) ts
 | [],ks,h=>by subst h;exact .nil
 | t :: ts,ks,h=>by
  subst h
  exact .cons ⟨rfl,rfl,rfl,trivial⟩ (zRm ts _ rfl)
mutual
theorem zls:∀ t:T,t.z.size=t.size
 | .mk k s n p ks=>by rw [zpn,size_mk,size_mk,zhn ks]
theorem zhn:∀ ks:List T,sizes (zs ks)=sizes ks
 | []=>by rw [zue]
 | t :: ts=>by rw [zYc,zTa,zTa,zls t,zhn ts]
end
theorem zRp {t:T} (h:zqg t):∃ l t' k,lexFrom (bs (shw 0 t)) 0=.ok l∧zgd l=.ok (t',k)∧TR (fun _ _=>True) t.z t':=by
 obtain ⟨xs,rfl,hx⟩:=h
 obtain ⟨ks,hp,hlen,hr⟩:=zXo xs hx
 have e:shw 0 (.mk 0 e0 0 0 xs)=(zpb 0 xs).flatMap (fun x=>x++[10]):=by rw [zZa,if_neg (by decide)];rfl
 rw [e]
 obtain ⟨ts,h1,h2⟩:=hp (bs ((zpb 0 xs).flatMap (fun x=>x++[10]))) 0 [] (by simp [bs]) trivial
 have hsz:(bs ((zpb 0 xs).flatMap (fun x=>x++[10]))).size=((zpb 0 xs).flatMap (fun x=>x++[10])).length:=by simp [bs,ByteArray.size]
 rw [Nat.zero_add,← hsz,zWl (Nat.le_refl _)] at h1
 have h4:Al (fun _ _=>True) (cl ks++[zks]) (ts++[zkg (bs ((zpb 0 xs).flatMap (fun x=>x++[10])))]):=(zRm ts ks h2).append (.cons ⟨rfl,rfl,rfl,trivial⟩ .nil)
 have h5:zgd (cl ks++[zks])=.ok (.mk 0 e0 0 0 (zs xs),[zks]):=by
  unfold zgd
  rw [hr _ (by rw [List.length_append];unfold cl;rw [List.length_map];omega),zJb]
 have hend:¬ Con zks:=by rintro (h|h|h)<;>first|(simp [zks] at h;done)|exact absurd (show 0<(ByteArray.mk #[]).size from h) (by decide)
 rcases zkp h4 ⟨zks,by simp,hend⟩ with ⟨us,us',k,k',e1,e2,hv⟩|⟨p,p',e',e1,_⟩
 ·rw [h5] at e1
  cases e1
  exact ⟨_,_,k',h1,e2,by rw [zpn];exact TR.mk trivial hv⟩
 ·rw [h5] at e1
  cases e1
theorem zFq {t:T} (h:zqg t) (hz:t.size≤4096) (hl:(bs (shw 0 t)).size≤16384):∃ t',zvb (bs (shw 0 t))=(t',0,0)∧TR (fun _ _=>True) t.z t':=by
 obtain ⟨l,t',k,h1,h2,h3⟩:=zRp h
 refine ⟨t',?_,h3⟩
 have h4:zqd (bs (shw 0 t))=.ok l:=by
  unfold zqd
  rw [if_neg (by omega),h1]
 rw [zvp h4]
 unfold zUc
 rw [h2]
 refine if_neg ?_
 rw [← TR.size h3,zls]
 omega
end Go.Proofs.YtbfgdpcgdmabpaaGreatDoor
namespace Go.Proofs.YtbfgdpcgdmabpaaGreatDoor
open Go.RowKit
abbrev ρT:Nat→Nat→Prop:=fun _ _=>True
mutual
theorem zjv:∀ {t u:T},TR ρT t.z u→TR ρT t u
 | .mk k s n p ks,u,h=>by
  rw [zpn] at h
  unfold TR at h ⊢
  exact ⟨h.1,h.2.1,h.2.2.1,trivial,zvw h.2.2.2.2⟩
theorem zvw:∀ {ts us:List T},TsR ρT (zs ts) us→TsR ρT ts us
 | [],us,h=>by
  rw [zue] at h
  unfold TsR at h ⊢
  exact h
 | t :: ts,us,h=>by
  rw [zYc] at h
  unfold TsR at h ⊢
  obtain ⟨u,us',e,h1,h2⟩:=h
  exact ⟨u,us',e,zjv h1,zvw h2⟩
end
theorem TR.ex {t u:T} (h:TR ρT t u):t.kind=u.kind∧t.text=u.text∧t.num=u.num∧TsR ρT t.kids u.kids:=by
 cases t
 unfold TR at h
 exact ⟨h.1,h.2.1,h.2.2.1,h.2.2.2.2⟩
theorem TsR.zNw:∀ {ts us:List T},TsR ρT ts us→ts.length=us.length
 | [],us,h=>by unfold TsR at h;rw [h]
 | t :: ts,us,h=>by
  unfold TsR at h
  obtain ⟨u,us',rfl,_,h2⟩:=h
  rw [List.length_cons,List.length_cons,TsR.zNw h2]
theorem TsR.atT:∀ {ts us:List T},TsR ρT ts us→∀ i,(ts.getD i zNc).text=(us.getD i zNc).text∧(ts.getD i zNc).kids.length=(us.getD i zNc).kids.length
 | [],us,h,i=>by unfold TsR at h;rw [h];exact ⟨rfl,rfl⟩
 | t :: ts,us,h,i=>by
  unfold TsR at h
  obtain ⟨u,us',rfl,h1,h2⟩:=h
  cases i with
  | zero=>exact ⟨h1.ex.2.1,TsR.zNw h1.ex.2.2.2⟩
  | succ i=>exact TsR.atT h2 i
theorem TsR.fields:∀ {ts us:List T},TsR ρT ts us→zEa ts=zEa us
 | [],us,h=>by unfold TsR at h;rw [h]
 | t :: ts,us,h=>by
  unfold TsR at h
  obtain ⟨u,us',rfl,h1,h2⟩:=h
  rw [zEa,zEa,h1.ex.1,TsR.fields h2]
theorem TsR.tl {ts us:List T} (h:TsR ρT ts us):TsR ρT ts.tail us.tail:=by
 cases ts with
 | nil=>unfold TsR at h;rw [h];unfold TsR;rfl
 | cons t ts =>
  unfold TsR at h
  obtain ⟨u,us',rfl,_,h2⟩:=h
  exact h2
mutual
theorem zcq:∀ {t u:T},TR ρT t u→∀ d,shw d t=shw d u
 | .mk k s n p ks,.mk k' s' n' p' ks',h,d=>by
  unfold TR at h
  obtain ⟨h1,h2,h3,_,h4⟩:=h
  change k=k' at h1
  change s=s' at h2
  change n=n' at h3
  change TsR ρT ks ks' at h4
  subst h1 h2 h3
  rw [zZa,zZa,zbk h4 d,zbk h4 (d+1)]
  have e1:=TsR.fields h4.tl
  have e2:=TsR.zNw h4.tl
  have e3:=TsR.zNw h4
  have e4:=fun i=>(TsR.atT h4 i).1
  have e5:=fun i=>(TsR.atT h4 i).2
  split
  ·rfl
  ·unfold zXa zKf zVk zUg
   rw [e1,e2,e3,e4,e5]
theorem zbk:∀ {ts us:List T},TsR ρT ts us→∀ d,zpb d ts=zpb d us
 | [],us,h,d=>by unfold TsR at h;rw [h]
 | t :: ts,us,h,d=>by
  unfold TsR at h
  obtain ⟨u,us',rfl,h1,h2⟩:=h
  rw [zPa,zPa,zcq h1 d,zbk h2 d]
end
mutual
theorem zVp:∀ {t u v:T},TR ρT t v→TR ρT u v→TR ρT t u
 | .mk k s n p ks,.mk k' s' n' p' ks',v,h,h'=>by
  unfold TR at h h' ⊢
  exact ⟨h.1.trans h'.1.symm,h.2.1.trans h'.2.1.symm,h.2.2.1.trans h'.2.2.1.symm,trivial,zTm h.2.2.2.2 h'.2.2.2.2⟩
theorem zTm:∀ {ts us vs:List T},TsR ρT ts vs→TsR ρT us vs→TsR ρT ts us
 | [],us,vs,h,h'=>by
  unfold TsR at h
  subst h
  have:=TsR.zNw h'
  unfold TsR
  exact List.eq_nil_of_length_eq_zero this
 | t :: ts,us,vs,h,h'=>by
  unfold TsR at h
  obtain ⟨v,vs',rfl,h1,h2⟩:=h
  cases us with
  | nil =>
   unfold TsR at h'
   cases h'
  | cons u us =>
   unfold TsR at h'
   obtain ⟨v2,vs2,e,h3,h4⟩:=h'
   cases e
   unfold TsR
   exact ⟨u,us,rfl,zVp h1 h3,zTm h2 h4⟩
end
mutual
theorem zWm:∀ {t u:T},zQc false t u=true→TR ρT t u
 | .mk k s n p ks,u,h=>by
  rw [zQc] at h
  simp only [Bool.and_eq_true,Bool.not_eq_true',Bool.false_and,Bool.not_false] at h
  obtain ⟨h1,h2,h3,_,h4,h5⟩:=h
  unfold TR
  refine ⟨by simpa using h1,?_,by simpa using h3,trivial,zEk (by simpa using h4) h5⟩
  rw [beq_iff_eq,Go.Lib.toList_data,Go.Lib.toList_data] at h2
  exact zMg h2
theorem zEk:∀ {ts us:List T},ts.length=us.length→zHc false ts us=true→TsR ρT ts us
 | [],us,hl,_=>by unfold TsR;exact List.eq_nil_of_length_eq_zero hl.symm
 | t :: ts,us,hl,h=>by
  cases us with
  | nil=>cases hl
  | cons u us =>
   rw [zwg,Bool.and_eq_true] at h
   unfold TsR
   exact ⟨u,us,rfl,zWm h.1,zEk (by simpa using hl) h.2⟩
end
theorem zUo {t:T} (h:zqg t) (hz:t.size≤4096) (hl:(bs (shw 0 t)).size≤16384):∃ t',zvb (bs (shw 0 t))=(t',0,0)∧zQc false t t'=true∧shw 0 t'=shw 0 t:=by
 obtain ⟨t',h1,h2⟩:=zFq h hz hl
 exact ⟨t',h1,TR.alike (fun h=>by cases h) (zjv h2),(zcq (zjv h2) 0).symm⟩
theorem zAp {t u:T} (ht:zqg t) (hu:zqg u):zQc false t u=(shw 0 u == shw 0 t):=by
 rw [Bool.eq_iff_iff,beq_iff_eq]
 constructor
 ·intro h
  exact (zcq (zWm h) 0).symm
 ·intro h
  obtain ⟨l,v,k,e1,e2,h1⟩:=zRp ht
  obtain ⟨l',v',k',e1',e2',h2⟩:=zRp hu
  rw [h,e1] at e1'
  cases e1'
  rw [e2] at e2'
  cases e2'
  exact TR.alike (fun h=>by cases h) (zVp (zjv h1) (zjv h2))
end Go.Proofs.YtbfgdpcgdmabpaaGreatDoor
namespace Go.Proofs.YtbfgdpcgdmabpaaGreatDoor
set_option maxRecDepth 100000
set_option maxHeartbeats 2000000
open Go.RowKit
def RtRel (w:World) (t:T) (g:Nat) (i:Value) (wr:World):Prop :=
 ∃ (k:Nat) (v:Value),k≤t.kids.length∧t.kids.length≤k+g∧i=.int .i64 k∧zMe w t (t.kids.take k) v wr
theorem zkf:∀ (n:Nat) (t:T),t.size≤n→∀ {w:World} {S:Nat→Prop} {kv:Value},KAt 25 w t.kids S kv→t.size≤50000 →
  Calls Tryz.prog 11 #[zmb t kv] w (zms w t):=by
 intro n
 induction n with
 | zero=>intro t ht;cases t;rw [size_mk] at ht;omega
 | succ n ih =>
  intro t ht w S kv hk hbig
  obtain ⟨i0,z0,I⟩:=Tryz.zZt
  have hts:t.size=1+sizes t.kids:=by cases t;rw [size_mk];rfl
  have HTS:=zh hts
  have HT:=zh ht
  have HBIG:=zh hbig
  have HIH:=zh (@ih)
  have hkl:t.kids.length≤sizes t.kids:=by
   have:∀ ks:List T,ks.length≤sizes ks:=fun ks=>by
    induction ks with
    | nil=>simp
    | cons a ks h=>rw [zTa];cases a;rw [size_mk];simp;omega
   exact this _
  have hkl2:t.kids.length≤50000:=by omega
  have hmk:T.mk t.kind t.text t.num t.place t.kids=t:=by cases t;rfl
  have HMK:=zh hmk
  have HNEW:=zh (zGp w t kv)
  clear hmk
  rcases hk.form with ⟨rfl,hnil⟩|⟨g,cap,rfl,hg,hcap,hcm,hget⟩
  ·have HN:=zh (show zMe w t t.kids (.slice none 0 0) _ by rw [hnil];exact HNEW.out)
   have HNL:=zh (show Blk _ (w.heap.size+2) (zaa t (.slice none 0 0)) 34 by have:=HN.out.loc;rw [HMK.out] at this;exact this)
   clear hk ih ht hbig hts hnil hkl hkl2
   unfold zmb
   go_enter Tryz.func11,Tryz.ntmps11
   go_wp2_with ((with_reducible refine zlb 34 (.tmp 3) ?_);refine zcb rfl 34 (.tmp 3) (.tmp 14) rfl (zaa (.mk t.kind t.text t.num t.place []) (.slice none 0 0)) (old:=zga) rfl rfl Tryz.zqe rfl (zoa _ _ rfl) ?_)
   refine wp_loop_rounds 1 ?_
   rw [rounds_succ]
   go_wp2_with (first
    | ((with_reducible refine zCc 34 (.tmp 3) ?_);refine zAa rfl 34 (.tmp 3) rfl (w.heap.size+2) (zaa t (.slice none 0 0)) rfl HNL.out Tryz.underlying34 rfl Tryz.zqe ?_)
    | ((with_reducible refine zlb 34 (.tmp 2) ?_);refine zma rfl 34 (.tmp 2) (.tmp 30) rfl (w.heap.size+1) (zaa t (.slice none 0 0)) rfl rfl HN.out.res Tryz.zqe rfl (zoa _ _ rfl) ?_))
   exact zab (cs:=zaa t (.slice none 0 0)) Tryz.results11 rfl HN.out.res Tryz.underlying34 rfl Tryz.zqe rfl HN.out.post
  ·have HG:=zh hget
   have HCAP:=zh hcap
   have HHG:=zh hg
   clear hk ih ht hbig hts hget hkl hcap hg
   unfold maxLen at hcm
   unfold zmb
   go_enter Tryz.func11,Tryz.ntmps11
   go_wp2_with ((with_reducible refine zlb 34 (.tmp 3) ?_);refine zcb rfl 34 (.tmp 3) (.tmp 14) rfl (zaa (.mk t.kind t.text t.num t.place []) (.slice none 0 0)) (old:=zga) rfl rfl Tryz.zqe rfl (zoa _ _ rfl) ?_)
   go_loopg [18] t.kids.length (fun gk i wr=>RtRel w t gk i wr)
   case atStart=>exact ⟨0,_,by omega,by omega,rfl,HNEW.out⟩
   case round =>
    obtain ⟨k,v,hk,hgk,rfl,hst⟩:=hrel
    have HS:=zh hst
    have hzw:=hst.lt
    clear hst HNEW
    by_cases hlt:k<t.kids.length
    ·obtain ⟨u,hr,hT⟩:=HG.out k t.kids[k] (List.getElem?_eq_getElem hlt)
     have hne:=List.getElem?_eq_getElem hlt
     have htk:t.kids.take (k+1)=t.kids.take k++[t.kids[k]]:=List.take_succ_eq_append_getElem hlt
     generalize t.kids[k]=tk at hr hT hne htk
     have HR:=zh (zyb hr (HS.out.below.mono (Nat.le_refl _)) HHG.out)
     have HTK:=zh (hT.below HS.out.below)
     have HTAKE:=zh htk
     have hcap:=HCAP.out
     have hks:=zle hne
     clear hr hT hne htk
     go_wp2_with (first
      | ((with_reducible refine zCc 25 (.tmp 20) ?_);refine wpList_load_mid rfl 25 (.tmp 20) rfl g (k * 5) rfl (zaa tk u) _ HR.out Tryz.underlying25 rfl Tryz.zla ?_)
      | ((with_reducible refine zlb 25 (.tmp 5) ?_);refine zcb rfl 25 (.tmp 5) (.tmp 21) rfl (zaa tk u) (old:=zga) rfl rfl Tryz.zla rfl (zoa _ _ HTK.out.kat.one) ?_))
     have HKB:=zh (Blk.new wr (zaa tk u) 25)
     refine AnyE.zod (S:=fun W=>Blk W (w.heap.size+2) (zaa (.mk t.kind t.text t.num t.place (t.kids.take k)) v) 34∧Blk W wr.heap.size (zaa tk u) 25) (by kernel_rfl) ⟨(HS.out.alloc _).loc.drew,HKB.out.drew⟩ (fun hS=>?_)
     refine AnyE.take (i:=0) (v:=.pointer (some ⟨w.heap.size+2,4,none⟩)) rfl (by kernel_rfl) (by kernel_rfl) (by kernel_rfl) (by kernel_rfl) (fun _ _ _ h=>h) (Or.inl ⟨by rfl,fun W _=>by go_simp⟩) hS ?_
     refine AnyE.take (i:=1) (v:=v) rfl (by kernel_rfl) (by kernel_rfl) (by kernel_rfl) (by kernel_rfl) (fun _ _ _ h=>h) (Or.inl ⟨by rfl,fun W hW=>by have hcx:W.cell? ⟨w.heap.size+2,4,none⟩=some (v):=hW.1.cell 4;go_simp⟩) hS ?_
     refine AnyE.take (i:=2) (v:=.agg #[.int .i64 tk.kind,.string tk.text,.int .i64 tk.num,.int .i64 tk.place,u]) rfl (by kernel_rfl) (by kernel_rfl) (by kernel_rfl) (by kernel_rfl) (fun _ _ _ h=>h) (yieldsIf_load_mid (cs:=zaa tk u) (by rfl) 25 (.tmp 5) rfl (wr.heap.size) 0 rfl _ (fun W hW j v hj=>by rw [Nat.zero_add,hW.2.cell j];exact hj) Tryz.underlying25 rfl Tryz.zla) hS ?_
     refine AnyE.one (i:=3) (by kernel_rfl) rfl (by rfl) (fun K hK=>?_)
     go_simp
     refine (HIH.out tk (by have h2:=HTS.out;have h3:=HT.out;omega) ((HTK.out.alloc _).drew).kat (by have h2:=HTS.out;have h3:=HBIG.out;omega)).mono ?_
     rintro e w3 ⟨u3,rfl,hu3,hb3⟩
     have HF3:=zh ((HS.out.alloc (.cells (zaa tk u).toArray 25)).drew.fresh hu3)
     have HS3:=zh ((HS.out.alloc (.cells (zaa tk u).toArray 25)).drew.call hb3)
     have HK3:=zh (HKB.out.drew.below hb3)
     have hz3:=HS3.out.lt
     clear hu3 hb3
     unfold zmb
     refine hK.out _ _ (fun _=>⟨HS3.out.loc,HK3.out⟩) ?_
     clear hK K
     refine AnyE.one (i:=4) (by kernel_rfl) rfl (by rfl) (fun K hK=>?_)
     go_simp
     refine hK.out _ _ (fun _=>⟨(HS3.out.alloc _).loc,HK3.out.alloc _⟩) ?_
     clear hK K
     refine AnyE.one (i:=5) (by kernel_rfl) rfl (by rfl) (fun K hK=>?_)
     refine zEb (.tmp 23) (.tmp 26) rfl I (ts:=[tk]) rfl (HS3.out.alloc _).kids (us:=[u3]) (zjd.single (HF3.out.alloc _)) (by simp;omega) rfl rfl (by simp) (zjf w3 _ tk u3) (by simp;omega) ?_
     intro v4 w4 hK4 hg4 _
     obtain ⟨sa,sn,sc,rfl⟩:=hK4.slice
     obtain ⟨h1,h2⟩:=(HS3.out.alloc _).after hK4 hg4
     have hkb4:Blk w4 wr.heap.size (zaa tk u) 25:=(HK3.out.alloc _).grown hg4 (fun e=>by
      obtain ⟨_,ho,hSv,_⟩:=HS.out.kids
      have:=(ho.lt wr.heap.size e.symm).2
      omega)
     have hcx:w4.cell? ⟨w.heap.size+2,4,none⟩=some v:=h2.cell 4
     have hfx:=h2.frozen 4
     have HS4:=zh h1
     have HC4:=zh h2
     have HKB4:=zh hkb4
     clear h1 h2 hK4 hg4 hkb4
     refine hK.out _ _ (fun _=>⟨HC4.out,HKB4.out⟩) ?_
     clear hK K
     refine AnyE.one (i:=6) (by kernel_rfl) rfl (by rfl) (fun K hK=>?_)
     go_simp
     refine hK.out _ _ (fun _=>⟨HC4.out,HKB4.out⟩) ?_
     clear hK K
     refine AnyE.one (i:=7) (by kernel_rfl) rfl (by rfl) (fun K hK=>?_)
     go_simp
     refine hK.out _ _ (fun h=>absurd rfl h) ?_
     clear hK K
     refine AnyE.done (by kernel_rfl) ?_ _
     clear hcx hfx
     generalize w4.setCell ⟨w.heap.size+2,4,none⟩ (.slice sa sn sc)=w5 at HS4 ⊢
     go_wp2
     go_roundg (gk-1)
     case measure=>omega
     case rel=>exact ⟨k+1,_,by omega,by omega,by go_num,by rw [HTAKE.out];exact HS4.out⟩
    ·have HE:=zh (show zMe w t t.kids v wr by have:=HS.out;rw [List.take_of_length_le (show t.kids.length≤k by omega)] at this;exact this)
     have HL:=zh (show Blk wr (w.heap.size+2) (zaa t v) 34 by have:=HE.out.loc;rw [HMK.out] at this;exact this)
     go_wp2_with (first
      | ((with_reducible refine zCc 34 (.tmp 3) ?_);refine zAa rfl 34 (.tmp 3) rfl (w.heap.size+2) (zaa t v) rfl HL.out Tryz.underlying34 rfl Tryz.zqe ?_)
      | ((with_reducible refine zlb 34 (.tmp 2) ?_);refine zma rfl 34 (.tmp 2) (.tmp 30) rfl (w.heap.size+1) (zaa t v) rfl rfl HE.out.res Tryz.zqe rfl (zoa _ _ HE.out.kids.one) ?_))
     exact zab (cs:=zaa t v) Tryz.results11 rfl HE.out.res Tryz.underlying34 rfl Tryz.zqe rfl HE.out.post
end Go.Proofs.YtbfgdpcgdmabpaaGreatDoor
