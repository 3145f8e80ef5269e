/- Expressions, statements and blocks are read back out of their text. Nothing of the program is walked here. -/
import Derived.Test.YtbfgdpcgdmabpaaGreatDoorY34
namespace Go.Proofs.YtbfgdpcgdmabpaaGreatDoor
open Go.RowKit
def NA (_:List Tok):Prop:=True
def NE (r:List Tok):Prop:=∃ q,r=ck (sg [59]) :: q
def NL (r:List Tok):Prop:=isT (hdT r) (bs [101,108,115,101])=false
theorem zyt (k:Int) (s:ByteArray) (n:Int) (p:Nat) (ks:List T) (b:T):(T.mk k s n p ks).snoc b=.mk k s n p (ks++[b]):=rfl
theorem zBq (k:Int) (s:ByteArray) (n:Int) (p:Nat) (ks:List T):(T.mk k s n p ks).place=p:=rfl
theorem zEs (k:Int) (s:ByteArray) (n:Int) (p:Nat) (ks:List T):(T.mk k s n p ks).text=s:=rfl
theorem zMp (v k:Int) (s:ByteArray) (n:Int) (p:Nat) (ks:List T):(T.mk k s n p ks).zAc v=.mk k s v p ks:=rfl
theorem rdy {p:Prop} (h:p:=by simp [zKc,zEd,zWp,zEi,zvc,List.tail_cons,zJb,zpd,zzf,zXl,zEl,zgm,zCp,zWr,zHl,zcp,zSm,zai,zxg,zxj,zSa,sumP,zin,List.any_cons,List.any_nil,zpn,zue,zYc,zOk,nm_0,nm_1,nm_2,nm_3,nm_4,nm_5,nm_6,nm_7,nm_8,nm_9,zWv,zex,zOu,zfv,zyv,zFt,zwu,zSw,zQv,zqv,zIu,zDv,zUu,zQw,zzv,zaw,zct,zHv,znv,zyw,zqw,zKw,zNv,zcx,zCw,zlw,zLw,nu_0,nu_1,nu_2,nu_3,nu_4,nu_5,nu_6,nu_7,zyt,zBq,zEs,zMp, *]):p:=h
theorem shx {p:Prop} (h:p:=by
  rw [zZa,if_neg (by decide)]
  simp [zXa,zRc,zOb,maybe,zPa,zib,List.append_assoc]):p:=h
theorem nt59 (r:List Tok):NT (ck (sg [59]) :: r):=zln _ _ (by decide)
theorem nt93 (r:List Tok):NT (ck (sg [93]) :: r):=zln _ _ (by decide)
theorem nt41 (r:List Tok):NT (ck (sg [41]) :: r):=zln _ _ (by decide)
theorem nt44 (r:List Tok):NT (ck (sg [44]) :: r):=zln _ _ (by decide)
theorem zZw (r:List Tok):NT (ck (sg [123]) :: r):=zln _ _ (by decide)
theorem zYm {a:T} (h:TmT a) (d:Nat):∃ ks,Pc FS ([91]++(shw d a++[93])) ([sg [91]]++(ks++[sg [93]]))∧∀ r,zMc (ck (sg [91]) :: (cl ks++(ck (sg [93]) :: r)))=.ok (a.z,r):=by
 obtain ⟨k,hp,_,hr⟩:=zvg h d
 refine ⟨k,lb.s (hp.x (r:=[]) rb rfl),fun r=>?_⟩
 unfold zMc
 rw [zYd,zJb,hr _ (nt93 _),zJb,zYd,zJb]
theorem zzp {t:T} (h:zKk t) (d:Nat):∃ s ks X,zOa s=true∧Pc FX (shw d t) ([nmK s]++([sg [40]]++ks))∧(∀ r,zwb zZb (ck (sg [40]) :: (cl ks++r))=.ok (X,r))∧t.z=.mk 28 s 0 0 X:=by
 obtain ⟨s,p,xs,rfl,hs,hx⟩:=h
 obtain ⟨ks,hp,hr⟩:=zDi (N:=NT) nt44 nt41 (d:=d) (xs:=xs) fun x hxm=>zvg (hx x hxm) d
 refine ⟨s,ks,_,hs,?_,hr,zpn _ _ _ _ _⟩
 have e:shw d (.mk 28 s 0 p xs)=tb s++(40 :: (commas (zpb d xs)++[41])):=shx
 rw [e]
 exact (zBb hs).x hp.fx rfl
theorem zCr {s:ByteArray} {d:Nat} {xs:List T} (hs:zOa s=true) (hx:∀ x∈xs,TmT x):∃ ks,Pc FX (tb s++(40 :: (commas (zpb d xs)++[41]))) ([nmK s]++([sg [40]]++ks))∧(∀ r,zwb zZb (ck (sg [40]) :: (cl ks++r))=.ok (zs xs,r)):=by
 obtain ⟨ks,hp,hr⟩:=zDi (N:=NT) nt44 nt41 (d:=d) (xs:=xs) fun x hxm=>zvg (hx x hxm) d
 exact ⟨ks,(zBb hs).x hp.fx rfl,hr⟩
theorem zko {t:T} (h:TmT t) (d:Nat):Rd zbc NE t (shw d t):=by
 obtain ⟨s,n,p,rfl,hn,hs⟩:=h
 have hsh:shw d (.mk 5 s n p [])=zTb (tb s) n:=by rw [zZa,if_neg (by decide)];rfl
 rw [hsh]
 unfold zTb
 rcases hs with rfl|hs
 ·rw [if_pos (show tb e0=[] from rfl)]
  by_cases h0:n<0
  ·obtain ⟨u,rfl⟩:∃ u:Nat,n=-(u:Int):=⟨n.natAbs,by omega⟩
   rw [zJj u (by omega)]
   refine ⟨[sg [45]]++[nuK u],minus.s (zjg (by omega)),zsn _ _ (by decide),fun r hr=>?_⟩
   unfold zbc zWa
   exact rdy
  ·obtain ⟨u,rfl⟩:∃ u:Nat,n=u:=⟨n.toNat,by omega⟩
   rw [zti]
   refine ⟨[nuK u],zjg (by omega),zax _ _,fun r hr=>?_⟩
   unfold zbc zWa
   exact rdy
 ·rw [if_neg (zau hs)]
  by_cases hp:0<n
  ·obtain ⟨u,rfl⟩:∃ u:Nat,n=u:=⟨n.toNat,by omega⟩
   rw [if_pos hp,zti]
   refine ⟨[nmK s]++([sg [43]]++[nuK u]),(zBb hs).xs zrm (zjg (by omega)) rfl,zfg hs _,fun r hr=>?_⟩
   unfold zbc zUa
   exact rdy
  ·rw [if_neg hp]
   by_cases h0:n<0
   ·obtain ⟨u,rfl⟩:∃ u:Nat,n=-(u:Int):=⟨n.natAbs,by omega⟩
    rw [if_pos h0,zJj u (by omega)]
    refine ⟨[nmK s]++([sg [45]]++[nuK u]),(zBb hs).xs zRj (zjg (by omega)) rfl,zfg hs _,fun r hr=>?_⟩
    unfold zbc zUa
    exact rdy
   ·rw [if_neg h0]
    obtain rfl:n=0:=by omega
    refine ⟨[nmK s],zBb hs,zfg hs _,fun r hr=>?_⟩
    obtain ⟨q,rfl⟩:=hr
    unfold zbc zUa
    exact rdy
theorem zUt {t:T} (h:zsg t) (d:Nat):Rd zbc NE t (shw d t):=by
 cases h with
 | term h=>exact zko h d
 | @sum k p a b hk ha hb =>
  obtain ⟨s,pa,rfl,hs⟩:=ha
  obtain ⟨u,pb,rfl,hu⟩:=hb
  rcases hk with rfl|rfl
  ·have e:shw d (.mk 21 e0 0 p [.mk 5 s 0 pa [],.mk 5 u 0 pb []])=tb s++([32,43,32]++tb u):=by
    rw [zZa,if_neg (by decide),zPa,zPa,zib,zDg hs,zDg hu];rfl
   refine ⟨[nmK s]++([sg [43]]++[nmK u]),by rw [e];exact (zBb hs).xs zrm (zBb hu) rfl,zfg hs _,fun r hr=>?_⟩
   unfold zbc zUa
   exact rdy
  ·have e:shw d (.mk 22 e0 0 p [.mk 5 s 0 pa [],.mk 5 u 0 pb []])=tb s++([32,45,32]++tb u):=by
    rw [zZa,if_neg (by decide),zPa,zPa,zib,zDg hs,zDg hu];rfl
   refine ⟨[nmK s]++([sg [45]]++[nmK u]),by rw [e];exact (zBb hs).xs zRj (zBb hu) rfl,zfg hs _,fun r hr=>?_⟩
   unfold zbc zUa
   exact rdy
 | @new v p h0 h1 =>
  obtain ⟨u,rfl⟩:∃ u:Nat,v=u:=⟨v.toNat,by omega⟩
  have e:shw d (.mk 23 e0 u p [])=([110,101,119]++[32])++Lib.decDigits u:=by rw [← zti];exact shx
  refine ⟨[kw [110,101,119]]++[nuK u],by rw [e];exact (kww (by kernel_rfl) rfl).s (zjg (by omega)),zXe _ _ (by decide),fun r hr=>?_⟩
  unfold zbc
  exact rdy
 | @word k s p hk hs =>
  rcases hk with rfl|rfl|rfl
  ·have e:shw d (.mk 24 s 0 p [])=([97,114,114,97,121]++[32])++tb s:=shx
   refine ⟨[kw [97,114,114,97,121]]++[nmK s],by rw [e];exact (kww (by kernel_rfl) rfl).s (zBb hs),zXe _ _ (by decide),fun r hr=>?_⟩
   unfold zbc
   exact rdy
  ·have e:shw d (.mk 26 s 0 p [])=[38]++tb s:=shx
   refine ⟨[sg [38]]++[nmK s],by rw [e];exact amp.s (zBb hs),zsn _ _ (by decide),fun r hr=>?_⟩
   unfold zbc zQh
   exact rdy
  ·have e:shw d (.mk 27 s 0 p [])=[38]++(([109,117,116]++[32])++tb s):=shx
   refine ⟨[sg [38]]++([kw [109,117,116]]++[nmK s]),by rw [e];exact amp.s ((kww (by kernel_rfl) rfl).s (zBb hs)),zsn _ _ (by decide),fun r hr=>?_⟩
   unfold zbc zQh
   exact rdy
 | @load s p a hs ha =>
  obtain ⟨k,hp,hr⟩:=zYm ha d
  have e:shw d (.mk 25 s 0 p [a])=tb s++(91 :: (shw d a++[93])):=shx
  refine ⟨[nmK s]++([sg [91]]++(k++[sg [93]])),by rw [e];exact (zBb hs).x hp.fx rfl,zfg hs _,fun r _=>?_⟩
  unfold zbc zUa
  exact rdy
 | call h =>
  obtain ⟨s,k,X,hs,hp,hr,hz⟩:=zzp h d
  refine ⟨_,hp,zfg hs _,fun r _=>?_⟩
  rw [hz]
  clear hz
  unfold zbc zUa zne
  exact rdy
theorem zZo {s:ByteArray} {a b:T} (hc:zjq s) (ha:TmT a) (hb:TmT b) (d:Nat):∃ ks,Pc FX (shw d a++(([32]++(tb s++[32]))++shw d b)) ks∧Hd ks∧∀ k r,NT r→zrb k 0 (cl ks++r)=.ok (.mk k s 0 0 [a.z,b.z],r):=by
 obtain ⟨ka,pa,ha1,ra⟩:=zvg ha d
 obtain ⟨kb,pb,_,rb⟩:=zvg hb d
 obtain ⟨hm,hbs,hne,hany⟩:=zMv hc
 refine ⟨ka++([sg (tb s)]++kb),pa.xs hm pb rfl,?_,fun k r hr=>?_⟩
 ·obtain ⟨k0,kr,rfl,h2⟩:=ha1
  exact ⟨k0,_,rfl,h2⟩
 ·unfold zrb
  rw [zKc,zKc,zEd,ra _ (zln _ _ hne),zJb]
  unfold zSa
  rw [zvc,hany,cond_true,zJb,List.tail_cons,rb r hr,zJb]
  show Except.ok (T.mk k (bs (tb s)) 0 0 [a.z,b.z],r)=_
  rw [hbs]
theorem Pc.sem {b:List UInt8} {ks:List Kt} (h:Pc FX b ks):Pc FX (b++[59]) (ks++[sg [59]]):=(h.x (r:=[]) semi rfl).fx
theorem zQi {F:Option UInt8→Prop} {b:List UInt8} {ks:List Kt} (h:Pc F b ks):∀ n,Pc F (List.replicate n 32++b) ks
 | 0=>h
 | n+1=>zaf.s (zQi h n)
def BRd (n:Nat) (t:T) (d:Nat):Prop:=∃ ks,Pc FX (shw d t) ([sg [123]]++ks)∧∀ r,zsb n (ck (sg [123]) :: (cl ks++r))=.ok (t.z,r)
theorem Hd.e59 {k:List Kt} (h:Hd k) (q:List Tok):isT (hdT (cl k++q)) (bs [59])=false:=by
 obtain ⟨k0,kr,rfl,_,h2,_⟩:=h
 exact h2
theorem Hd.e125 {k:List Kt} (h:Hd k) (q:List Tok):isT (hdT (cl k++q)) (bs [125])=false:=by
 obtain ⟨k0,kr,rfl,_,_,_,h2,_⟩:=h
 exact h2
theorem Hd.els {k:List Kt} (h:Hd k) (q:List Tok):NL (cl k++q):=by
 obtain ⟨k0,kr,rfl,_,_,h2,_⟩:=h
 exact h2
theorem Hd.end {k:List Kt} (h:Hd k) (q:List Tok):((hdT (cl k++q)).kind == 0)=false:=by
 obtain ⟨k0,kr,rfl,_,_,_,_,h2⟩:=h
 exact beq_eq_false_iff_ne.2 h2
section
variable {n:Nat} (hb:∀ t,zPe n t→∀ d,BRd n t d)
include hb
theorem zbt {t:T} (h:zWd (zPe n) t) (d:Nat):Rd (zPb (zsb n)) NL t (shw d t):=by
 cases h with
 | @set s p x hs hx =>
  obtain ⟨k,hp,_,hr⟩:=zUt hx d
  have hr2:=fun q=>hr (ck (sg [59]) :: q) ⟨q,rfl⟩
  have e:shw d (.mk 10 s 0 p [x])=tb s++([32,61,32]++(shw d x++[59])):=shx
  refine ⟨[nmK s]++([sg [61]]++(k++[sg [59]])),by rw [e];exact (zBb hs).xs ztw hp.sem rfl,zfg hs _,fun r _=>?_⟩
  unfold zPb zbb zHb
  exact rdy
 | @store s p a b hs ha hb' =>
  obtain ⟨ka,pa,ra⟩:=zYm ha d
  obtain ⟨kb,pb,_,rb⟩:=zvg hb' d
  have rb2:=fun q=>rb (ck (sg [59]) :: q) (nt59 q)
  have e:shw d (.mk 11 s 0 p [a,b])=tb s++(91 :: (shw d a++[93])++([32,61,32]++(shw d b++[59]))):=shx
  refine ⟨[nmK s]++(([sg [91]]++(ka++[sg [93]]))++([sg [61]]++(kb++[sg [59]]))),by rw [e];exact (zBb hs).xs pa (ztw.s pb.sem) rfl,zfg hs _,fun r _=>?_⟩
  unfold zPb zbb zHb
  exact rdy
 | @free s p hs =>
  have e:shw d (.mk 12 s 0 p [])=([102,114,101,101]++[32])++(tb s++[59]):=shx
  refine ⟨[kw [102,114,101,101]]++([nmK s]++[sg [59]]),by rw [e];exact (kww (by kernel_rfl) rfl).s (zBb hs).sem,zXe _ _ (by decide),fun r _=>?_⟩
  unfold zPb zbb
  exact rdy
 | @lock k s v p hk hs h0 h1 =>
  obtain ⟨u,rfl⟩:∃ u:Nat,v=u:=⟨v.toNat,by omega⟩
  have hpc:Pc FX (tb s++([91]++(Lib.decDigits u++([93]++[59])))) ([nmK s]++([sg [91]]++([nuK u]++([sg [93]]++[sg [59]])))):=(zBb hs).xs lb ((zjg (by omega)).x (r:=[59]) (rb.s semi).fx rfl) rfl
  rcases hk with rfl|rfl
  ·have e:shw d (.mk 13 s u p [])=([108,111,99,107]++[32])++(tb s++([91]++(Lib.decDigits u++([93]++[59])))):=by rw [← zti];exact shx
   refine ⟨[kw [108,111,99,107]]++([nmK s]++([sg [91]]++([nuK u]++([sg [93]]++[sg [59]])))),by rw [e];exact (kww (by kernel_rfl) rfl).s hpc,zXe _ _ (by decide),fun r _=>?_⟩
   unfold zPb zbb zGd
   exact rdy
  ·have e:shw d (.mk 14 s u p [])=([117,110,108,111,99,107]++[32])++(tb s++([91]++(Lib.decDigits u++([93]++[59])))):=by rw [← zti];exact shx
   refine ⟨[kw [117,110,108,111,99,107]]++([nmK s]++([sg [91]]++([nuK u]++([sg [93]]++[sg [59]])))),by rw [e];exact (kww (by kernel_rfl) rfl).s hpc,zXe _ _ (by decide),fun r _=>?_⟩
   unfold zPb zbb zGd
   exact rdy
 | @cond s p a b c x hc ha hb' hcb hd' =>
  obtain ⟨kc,pc,_,rc'⟩:=zZo hc ha hb' d
  obtain ⟨kb,pb,rb⟩:=hb c hcb d
  have rc2:=fun r=>rc' 15 (ck (sg [123]) :: r) (zZw r)
  clear rc'
  by_cases hx:x.kids=[]
  ·obtain ⟨q,rfl⟩:∃ q,x=.mk 9 e0 0 q []:=by
    rcases hd' with hq|hq
    ·cases n with
     | zero=>exact hq.elim
     | succ n =>
      obtain ⟨q,xs,rfl,_⟩:=hq
      have:xs=[]:=hx
      subst this
      exact ⟨q,rfl⟩
    ·exact hq
   have e:shw d (.mk 15 s 0 p [a,b,c,.mk 9 e0 0 q []])=([105,102]++[32])++((shw d a++(([32]++(tb s++[32]))++shw d b))++([32]++shw d c)):=by
    rw [zZa,if_neg (by decide)]
    simp [zXa,zUg,zOb,zPa,zib,T.kids]
   refine ⟨[kw [105,102]]++(kc++([]++([sg [123]]++kb))),by rw [e];exact (kww (by kernel_rfl) rfl).s (pc.xs zaf pb rfl),zXe _ _ (by decide),fun r hr=>?_⟩
   have hr':isT (hdT r) (bs [101,108,115,101])=false:=hr
   clear hr hx hd' hb hc ha hb' hcb e
   unfold zPb ifP zbf
   exact rdy
  ·have hdx:zPe n x:=by
    rcases hd' with hq|⟨q,rfl⟩
    ·exact hq
    ·exact absurd rfl hx
   obtain ⟨kx,px,rx⟩:=hb x hdx d
   have e:shw d (.mk 15 s 0 p [a,b,c,x])=([105,102]++[32])++((shw d a++(([32]++(tb s++[32]))++shw d b))++([32]++(shw d c++(([32]++([101,108,115,101]++[32]))++shw d x)))):=by
    rw [zZa,if_neg (by decide)]
    simp [zXa,zUg,zOb,zPa,zib,hx]
   refine ⟨[kw [105,102]]++(kc++([]++(([sg [123]]++kb)++(([]++[kw [101,108,115,101]])++([sg [123]]++kx))))),by rw [e];exact (kww (by kernel_rfl) rfl).s (pc.xs zaf (pb.xs (zaf.s (kww (by kernel_rfl) rfl)) px rfl) rfl),zXe _ _ (by decide),fun r _=>?_⟩
   clear hx hd' hb hc ha hb' hcb e hdx
   unfold zPb ifP zbf
   exact rdy
 | @loop s p a b c hc ha hb' hcb =>
  obtain ⟨kc,pc,_,rc'⟩:=zZo hc ha hb' d
  obtain ⟨kb,pb,rb⟩:=hb c hcb d
  have rc2:=fun r=>rc' 16 (ck (sg [123]) :: r) (zZw r)
  have e:shw d (.mk 16 s 0 p [a,b,c])=([119,104,105,108,101]++[32])++((shw d a++(([32]++(tb s++[32]))++shw d b))++([32]++shw d c)):=shx
  refine ⟨[kw [119,104,105,108,101]]++(kc++([]++([sg [123]]++kb))),by rw [e];exact (kww (by kernel_rfl) rfl).s (pc.xs zaf pb rfl),zXe _ _ (by decide),fun r _=>?_⟩
  clear rc' hb hc ha hb' hcb e
  unfold zPb zVd
  exact rdy
 | @ret0 p =>
  have e:shw d (.mk 17 e0 0 p [])=[114,101,116,117,114,110]++[59]:=shx
  refine ⟨[kw [114,101,116,117,114,110]]++[sg [59]],by rw [e];exact (zOn (by kernel_rfl) rfl).sem,zXe _ _ (by decide),fun r _=>?_⟩
  unfold zPb zbb zdc
  exact rdy
 | @ret1 p a ha =>
  obtain ⟨k,hp,hh,hr⟩:=zvg ha d
  have hr2:=fun q=>hr (ck (sg [59]) :: q) (nt59 q)
  have e:shw d (.mk 17 e0 0 p [a])=([114,101,116,117,114,110]++[32])++(shw d a++[59]):=shx
  refine ⟨[kw [114,101,116,117,114,110]]++(k++[sg [59]]),by rw [e];exact (kww (by kernel_rfl) rfl).s hp.sem,zXe _ _ (by decide),fun r _=>?_⟩
  have h3:=hh.e59
  clear hr hb e ha
  unfold zPb zbb zdc
  exact rdy
 | @abort p =>
  have e:shw d (.mk 18 e0 0 p [])=[97,98,111,114,116]++[59]:=shx
  refine ⟨[kw [97,98,111,114,116]]++[sg [59]],by rw [e];exact (zOn (by kernel_rfl) rfl).sem,zXe _ _ (by decide),fun r _=>?_⟩
  unfold zPb zbb
  exact rdy
 | @fork s p xs hs hx =>
  obtain ⟨k,hp,hr⟩:=zCr (d:=d) hs hx
  have e:shw d (.mk 19 s 0 p xs)=([102,111,114,107]++[32])++((tb s++(40 :: (commas (zpb d xs)++[41])))++[59]):=shx
  refine ⟨[kw [102,111,114,107]]++(([nmK s]++([sg [40]]++k))++[sg [59]]),by rw [e];exact (kww (by kernel_rfl) rfl).s hp.sem,zXe _ _ (by decide),fun r _=>?_⟩
  unfold zPb zbb
  exact rdy
 | @call p c hc =>
  obtain ⟨s,k,X,hs,hp,hr,hz⟩:=zzp hc d
  have e:shw d (.mk 20 e0 0 p [c])=shw d c++[59]:=shx
  refine ⟨([nmK s]++([sg [40]]++k))++[sg [59]],by rw [e];exact hp.sem,zfg hs _,fun r _=>?_⟩
  rw [zpn,zYc,zue,hz]
  clear hz
  unfold zPb zbb zHb zne
  exact rdy
theorem zum (d:Nat):∀ xs:List T,(∀ x∈xs,zWd (zPe n) x)→∃ ks,Pc FS ((zpb (d+1) xs).flatMap (fun x=>blanks (d+1)++(x++[10]))++(blanks d++[125])) ks∧xs.length<ks.length∧(∀ q,NL (cl ks++q))∧∀ m r,xs.length<m→zsc (zPb (zsb n)) m (cl ks++r)=.ok (zs xs,r)
 | [],_=>by
  refine ⟨[sg [125]],by rw [zib];exact zQi rc _,by simp,fun q=>by show isT (ck (sg [125])) _=false;rw [zpd];rfl,fun m r hm=>?_⟩
  cases m with
  | zero=>simp at hm
  | succ m=>rw [zsc,zEd,zvc,zpd,zue];rfl
 | x :: xs,h=>by
  obtain ⟨k,hp,hh,hr⟩:=zbt hb (h x (by simp)) (d+1)
  obtain ⟨k',hp',hl',hq',hr'⟩:=zum d xs fun y hy=>h y (by simp [hy])
  refine ⟨k++([]++k'),?_,?_,fun q=>?_,fun m r hm=>?_⟩
  ·rw [zPa,List.flatMap_cons]
   have e:(blanks (d+1)++(shw (d+1) x++[10]))++(zpb (d+1) xs).flatMap (fun x=>blanks (d+1)++(x++[10]))++(blanks d++[125])=List.replicate (4 * (d+1)) 32++(shw (d+1) x++([10]++((zpb (d+1) xs).flatMap (fun x=>blanks (d+1)++(x++[10]))++(blanks d++[125])))):=by
    simp [blanks,List.append_assoc]
   rw [e]
   exact zQi (hp.xs zTu hp' rfl) _
  ·obtain ⟨k0,kr,rfl,_⟩:=hh
   simp only [List.length_append,List.length_cons,List.length_nil] at hl' ⊢
   omega
  ·rw [zKc]
   exact hh.els _
  ·cases m with
   | zero=>simp at hm
   | succ m =>
    rw [List.nil_append,zKc,zsc,hh.e125,cond_false,hr _ (hq' r),zJb,hr' m r (by simpa using hm),zJb,zYc]
end
theorem zfn:∀ (n:Nat) (t:T),zPe n t→∀ d,BRd n t d
 | 0,_,h,_=>h.elim
 | n+1,t,h,d=>by
  obtain ⟨p,xs,rfl,hx⟩:=h
  obtain ⟨ks,hp,hl,_,hr⟩:=zum (zfn n) d xs hx
  have e:shw d (.mk 9 e0 0 p xs)=[123]++([10]++((zpb (d+1) xs).flatMap (fun x=>blanks (d+1)++(x++[10]))++(blanks d++[125]))):=by
   rw [zZa,if_pos rfl];rfl
  refine ⟨[]++ks,by rw [e];exact (lc'.s (zTu.s hp)).fx,fun r=>?_⟩
  rw [List.nil_append,zsb,zYd,zJb,hr _ r (by unfold cl;rw [List.length_append,List.length_map];omega),zJb,zpn]
  rfl
end Go.Proofs.YtbfgdpcgdmabpaaGreatDoor
