/- The contracts of the parser's list and inParens, for whatever item they are handed: a method value of the parser whose contract is known. The contracts of the parser's index, callOf, refBehind. -/
import Derived.Test.YtdhmdfhnkppnmaaDoorY05
import Derived.Test.YtdhmdfhnkppnmaaDoorY06
import Derived.Deep.LoopGhost
namespace Go.Proofs.YtdhmdfhnkppnmaaDoor
set_option maxRecDepth 100000
set_option maxHeartbeats 1000000
section
open Go.RowKit
structure zUk (E:Env) (d:Nat) (f:FuncId) (item:List Tok→R T):Prop where
 enter:∀ (args:Array Value) (w:World),(callFunc f args).run Tryd.prog w=.ok (.enter f args) w
 calls:∀ {w:World} {l:List Tok},PSt E w l d→Calls Tryd.prog f #[.pointer (some ⟨E.pb,0,none⟩)] w (zbb zNb E w l d (item l))
def zco (W:World) (lo:Nat) (ks:List T) (v:Value):Prop:=KAt 25 W ks (fun b=>lo≤b) v∧ks.length≤16385
def zQo (E:Env) (w:World) (l:List Tok) (d:Nat) (item:List Tok→R T) (g:Nat) (v:Value) (wr:World):Prop :=
 ∃ (ks:List T) (lr:List Tok) (n:Nat),Run E w wr lr d∧KAt 25 wr ks (fun b=>w.heap.size≤b) v∧zAd item l=bd (zaf item n lr) (fun xs l'=>.ok (ks++xs,l'))∧lr.length≤n∧lr.length<l.length∧lr.length≤g∧ks.length+lr.length≤l.length
theorem zok {α β γ:Type} (r:R α) (f:α→List Tok→R β) (g:β→List Tok→R γ):bd (bd r f) g=bd r fun a l=>bd (f a l) g:=by
 cases r with
 | error e=>rfl
 | ok q=>rfl
theorem zpn {item:List Tok→R T} {n:Nat} {l:List Tok} (hn:0<n) (h:isT (hdT l) (bs [44])=false):zaf item n l=.ok ([],l):=by
 cases n with
 | zero=>omega
 | succ n=>unfold zaf;rw [h];rfl
theorem zDi {item:List Tok→R T} {n:Nat} {l:List Tok} (h:isT (hdT l) (bs [44])=true):zaf item (n+1) l=bd (item l.tail) fun a l=>bd (zaf item n l) fun xs l=>.ok (a :: xs,l):=by
 rw [zaf,h];rfl
theorem zXf {E:Env} {w:World} {l:List Tok} {d:Nat} (h:PSt E w l d) {f:FuncId} {item:List Tok→R T} (hI:zUk E d f item) :
  Calls Tryd.prog 70 #[.pointer (some ⟨E.pb,0,none⟩),.func (.func f) #[.pointer (some ⟨E.pb,0,none⟩)] #[]] w (zbb zco E w l d (zAd item l)):=by
 have HR0:=zh (Run.start h)
 have HI:=zh hI
 have hcf:=fun w'=>hI.enter #[.pointer (some ⟨E.pb,0,none⟩)] w'
 have hlo:=h.plt
 have hlt:=h.tlt
 have hln:=h.len
 have hle:=h.le
 clear h hI
 obtain ⟨i0,z0,I⟩:=Tryd.zOc
 go_enter Tryd.func70,Tryd.ntmps70
 go_wp2_with fail
 refine (HI.out.calls HR0.out.st).mono ?_
 intro e w1 hp
 cases hr:item l with
 | error pc =>
  obtain ⟨p,c⟩:=pc
  obtain ⟨rfl,hk,hcd⟩:=hp.err hr
  have HK:=zh hk
  have HP:=zh (show zAd item l=.error (p,c) by unfold zAd;exact zpa hr _)
  clear hr hp hk
  go_wp2
  exact ⟨rfl,Run.err HK.out HP.out hcd⟩
 | ok q =>
  obtain ⟨a1,l1⟩:=q
  obtain ⟨v1,rfl,hv,hs,hl,hk⟩:=hp.ok hr
  obtain ⟨kv1,rfl,ht⟩:=hv
  have HT1:=zh ht
  have HR1:=zh (HR0.out.call hk hs)
  have HL1:=zh hl
  have H1:=zh hr
  clear hr hp hs hl hk ht
  unfold zma
  go_wp2_with fail
  go_loopg [5] l.length (fun g v wr=>zQo E w l d item g v wr)
  case atStart =>
   refine ⟨[a1],l1,l1.length,HR1.out.alloc _,KAt.zuo HT1.out HR1.out.size,?_,Nat.le_refl _,HL1.out,by have:=HL1.out;omega,by have:=HL1.out;simp;omega⟩
   unfold zAd
   rw [zia H1.out]
   rfl
  case round =>
   obtain ⟨ks,lr,n,hR,hK,hE,hn,hlr,hg,hcnt⟩:=hrel
   have HR:=zh hR
   have HKA:=zh hK
   have HE:=zh hE
   have HN:=zh hn
   have HLR:=zh hlr
   have HG:=zh hg
   have HC:=zh hcnt
   have HP0:=zh hR.st.head.1
   clear hR hK hE hn hlr hg hcnt HR1 HT1 HL1 H1 HR0
   cases hi:isT (hdT lr) (bs [44]) with
   | false =>
    have HF:=zh hi
    clear hi
    go_wp2_with fail
    refine (zFa HR.out.st HF.out).mono ?_
    rintro e w2 ⟨rfl,hb⟩
    have HR2:=zh (HR.out.below hb)
    have HK2:=zh (HKA.out.below hb)
    clear hb
    have HP:=zh (show zAd item l=.ok (ks,lr) by rw [HE.out,zia (zpn (by have:=HN.out;have:=HP0.out;omega) HF.out)];simp)
    go_wp2
    go_ret
    exact .zmg HP.out rfl ⟨HK2.out,by have:=HC.out;omega⟩ HR2.out.st HLR.out HR2.out.kp
   | true =>
    have HF:=zh hi
    clear hi
    obtain ⟨m,rfl⟩:∃ m,n=m+1:=⟨n-1,by have:=HN.out;have:=HP0.out;omega⟩
    go_wp2_with fail
    refine (zBa HR.out.st HF.out (by decide)).mono ?_
    rintro e w2 ⟨rfl,hs,hk⟩
    have HR2:=zh (HR.out.call hk hs)
    have HK2:=zh (HKA.out.kp hk (fun b hb=>by omega))
    clear hs hk
    go_wp2_with fail
    refine (HI.out.calls HR2.out.st).mono ?_
    intro e w3 hp
    cases hr:item lr.tail with
    | error pc =>
     obtain ⟨p,c⟩:=pc
     obtain ⟨rfl,hk,hcd⟩:=hp.err hr
     have HK:=zh (HR2.out.kp.trans hk)
     have HP:=zh (show zAd item l=.error (p,c) by rw [HE.out,zDi HF.out,zpa (zpa hr _)])
     clear hr hp hk
     go_wp2
     exact ⟨rfl,Run.err HK.out HP.out hcd⟩
    | ok q =>
     obtain ⟨a3,l3⟩:=q
     obtain ⟨v3,rfl,hv,hs,hl,hk⟩:=hp.ok hr
     obtain ⟨kv3,rfl,ht⟩:=hv
     have HT3:=zh ht
     have HR3:=zh (HR2.out.call hk hs)
     have HK3:=zh (HK2.out.kp hk (fun b hb=>by omega))
     have HL3:=zh hl
     have H3:=zh hr
     have HOB:=zh (show ∀ g,u5.ownBlock=some g→g<w2.heap.size from fun g hg=>by obtain ⟨_,ho,_⟩:=HK2.out;exact (ho.lt g hg).2)
     clear hr hp hs hl hk ht
     unfold zma
     go_wp2_with (at_builtin;refine zSb rfl (.tmp 11) (.tmp 14) rfl I (ks:=ks) (ts:=[a3]) (S:=fun b=>w.heap.size≤b) rfl (HK3.out.alloc _) (us:=[kv3]) (zlb.single ?c1) ?c2 rfl rfl (by simp) (zde w3 _ a3 kv3) ?c3 ?_)
     case c1 =>
      refine (HT3.out.alloc _).mono fun b hb _=>⟨by have:=HR2.out.size;omega,fun hbk=>?_⟩
      have:=HOB.out b hbk
      omega
     case c2=>have:=HR3.out.size;simp;omega
     case c3=>have:=HC.out;simp;omega
     intro v' w4 hK4 hg4 hb4
     have HR4:=zh ((HR3.out.alloc _).grown hg4 (fun k hk=>by obtain ⟨_,_,hS,_⟩:=HK3.out;exact hS k hk))
     have HK4:=zh hK4
     clear hK4 hg4 hb4
     go_wp2
     go_roundg (gk-1)
     case measure=>have:=HG.out;have:=HP0.out;omega
     case rel =>
      have h1:=HL3.out
      have h2:=HN.out
      have h3:=HLR.out
      have h4:=HG.out
      have h5:=HC.out
      have h6:=HP0.out
      simp only [List.length_tail] at h1
      refine ⟨ks++[a3],l3,m,HR4.out,HK4.out,?_,by omega,by omega,by omega,by simp;omega⟩
      rw [HE.out,zDi HF.out,zok,zia H3.out,zok]
      congr 1
      funext xs l'
      simp [bd]
theorem zZd {E:Env} {w:World} {l:List Tok} {d:Nat} (h:PSt E w l d) {f:FuncId} {item:List Tok→R T} (hI:zUk E d f item) :
  Calls Tryd.prog 73 #[.pointer (some ⟨E.pb,0,none⟩),.func (.func f) #[.pointer (some ⟨E.pb,0,none⟩)] #[]] w (zbb zco E w l d (zib item l)):=by
 have HR0:=zh (Run.start h)
 have HI:=zh hI
 clear hI
 have hlo:=h.plt
 have hlt:=h.tlt
 have hln:=h.len
 clear h
 go_enter Tryd.func73,Tryd.ntmps73
 go_wp2_with fail
 refine (zLa HR0.out.st [bs [40]] (by decide) (by decide) (by simp) rfl rfl).mono ?_
 intro e w1 hp
 cases hr:zxa [bs [40]] l with
 | error pc =>
  obtain ⟨p,c⟩:=pc
  obtain ⟨rfl,hk,hcd⟩:=hp.err hr
  have HK:=zh (HR0.out.kp.trans hk)
  have HP:=zh (show zib item l=.error (p,c) by unfold zib;exact (zpa hr _))
  clear hr hp hk
  go_wp2
  exact ⟨rfl,Run.err HK.out HP.out hcd⟩
 | ok q =>
  obtain ⟨a1,l1⟩:=q
  obtain ⟨v1,rfl,hv,hs,hl,hk⟩:=hp.ok hr
  obtain ⟨rfl,hto⟩:=hv
  have HR1:=zh (HR0.out.call hk hs)
  have hzR1:=HR1.out.size
  have HL1:=zh hl
  have H1:=zh hr
  clear hr hp hs hl hk hto
  unfold zsb
  cases hi:isT (hdT l1) (bs [41]) with
  | true =>
   have HIi:=zh hi
   clear hi
   go_wp2_with fail
   refine (zBa HR1.out.st HIi.out (by decide)).mono ?_
   rintro e w2 ⟨rfl,hs,hk⟩
   have HR2:=zh (HR1.out.call hk hs)
   have hzR2:=HR2.out.size
   clear hs hk
   have HP:=zh (show zib item l=.ok ([],l1.tail) by unfold zib;exact ((zia H1.out _)).trans ((zya HIi.out _ _)))
   go_wp2
   go_ret
   exact .zmg HP.out rfl ⟨KAt.nil _ _ _,by simp⟩ HR2.out.st (by have:=HL1.out;simp only [List.length_tail];omega) HR2.out.kp
  | false =>
   have HIi:=zh hi
   clear hi
   go_wp2_with fail
   refine (zFa HR1.out.st HIi.out).mono ?_
   rintro e w2 ⟨rfl,hb⟩
   have HR2:=zh (HR1.out.below hb)
   have hzR2:=HR2.out.size
   clear hb
   go_wp2_with fail
   refine (zXf HR2.out.st HI.out).mono ?_
   intro e w3 hp
   cases hr:zAd item l1 with
   | error pc =>
    obtain ⟨p,c⟩:=pc
    obtain ⟨rfl,hk,hcd⟩:=hp.err hr
    have HK:=zh (HR2.out.kp.trans hk)
    have HP:=zh (show zib item l=.error (p,c) by unfold zib;exact ((zia H1.out _)).trans (((zja HIi.out _ _)).trans ((zpa hr _))))
    clear hr hp hk
    go_wp2
    exact ⟨rfl,Run.err HK.out HP.out hcd⟩
   | ok q =>
    obtain ⟨a3,l3⟩:=q
    obtain ⟨v3,rfl,hv,hs,hl,hk⟩:=hp.ok hr
    have HT3:=zh hv.1
    have HC3:=zh hv.2
    have HR3:=zh (HR2.out.call hk hs)
    have hzR3:=HR3.out.size
    have HL3:=zh hl
    have H3:=zh hr
    clear hr hp hs hl hk hv
    go_wp2_with fail
    refine (zLa HR3.out.st [bs [41]] (by decide) (by decide) (by simp) rfl rfl).mono ?_
    intro e w4 hp
    cases hr:zxa [bs [41]] l3 with
    | error pc =>
     obtain ⟨p,c⟩:=pc
     obtain ⟨rfl,hk,hcd⟩:=hp.err hr
     have HK:=zh (HR3.out.kp.trans hk)
     have HP:=zh (show zib item l=.error (p,c) by unfold zib;exact ((zia H1.out _)).trans (((zja HIi.out _ _)).trans (((zia H3.out _)).trans ((zpa hr _)))))
     clear hr hp hk
     go_wp2
     exact ⟨rfl,Run.err HK.out HP.out hcd⟩
    | ok q =>
     obtain ⟨a4,l4⟩:=q
     obtain ⟨v4,rfl,hv,hs,hl,hk⟩:=hp.ok hr
     obtain ⟨rfl,hto⟩:=hv
     have HR4:=zh (HR3.out.call hk hs)
     have hzR4:=HR4.out.size
     have HT3_4:=zh (HT3.out.kp hk (fun b hb=>by omega))
     have HL4:=zh hl
     have H4:=zh hr
     clear hr hp hs hl hk hto
     unfold zsb
     have HP:=zh (show zib item l=.ok (a3,l4) by unfold zib;exact ((zia H1.out _)).trans (((zja HIi.out _ _)).trans (((zia H3.out _)).trans ((zia H4.out _)))))
     go_wp2
     go_ret
     exact .zmg HP.out rfl ⟨HT3_4.out.mono (fun b hb _=>by have:=HR2.out.size;omega),HC3.out⟩ HR4.out.st (by have:=HL1.out;have:=HL3.out;have:=HL4.out;omega) HR4.out.kp
end
section
open Go.RowKit
theorem zNj (E:Env) (d:Nat):zUk E d 86 zKb:=⟨fun args w=>zWc Tryd.func86 (by kernel_rfl) (by kernel_rfl) args w,fun h=>zoe h⟩
theorem zpi {E:Env} {w:World} {l:List Tok} {d:Nat} (h:PSt E w l d) :
  Calls Tryd.prog 97 #[.pointer (some ⟨E.pb,0,none⟩)] w (zbb zNb E w l d (zDc l)):=by
 have HR0:=zh ((Run.start h).alloc (.cells zba.toArray 25))
 have HB0:=zh (Blk.new w zba 25)
 have hlo:=h.plt
 have hlt:=h.tlt
 have hln:=h.len
 clear h
 go_enter Tryd.func97,Tryd.ntmps97
 go_wp2_with fail
 refine (zLa HR0.out.st [bs [91]] (by decide) (by decide) (by simp) rfl rfl).mono ?_
 intro e w1 hp
 cases hr:zxa [bs [91]] l with
 | error pc =>
  obtain ⟨p,c⟩:=pc
  obtain ⟨rfl,hk,hcd⟩:=hp.err hr
  have HK:=zh (HR0.out.kp.trans hk)
  have HP:=zh (show zDc l=.error (p,c) by unfold zDc;exact (zpa hr _))
  clear hr hp hk
  go_wp2
  exact ⟨rfl,Run.err HK.out HP.out hcd⟩
 | ok q =>
  obtain ⟨a1,l1⟩:=q
  obtain ⟨v1,rfl,hv,hs,hl,hk⟩:=hp.ok hr
  obtain ⟨rfl,hto⟩:=hv
  have HR1:=zh (HR0.out.call hk hs)
  have hzR1:=HR1.out.size
  have HB1:=zh (HB0.out.kp hk (by omega))
  have hzHB1:=HB1.out.lt
  have HL1:=zh hl
  have H1:=zh hr
  clear hr hp hs hl hk hto
  unfold zsb
  go_wp2_with fail
  refine (zoe HR1.out.st).mono ?_
  intro e w2 hp
  cases hr:zKb l1 with
  | error pc =>
   obtain ⟨p,c⟩:=pc
   obtain ⟨rfl,hk,hcd⟩:=hp.err hr
   have HK:=zh (HR1.out.kp.trans hk)
   have HP:=zh (show zDc l=.error (p,c) by unfold zDc;exact ((zia H1.out _)).trans ((zpa hr _)))
   clear hr hp hk
   go_wp2
   exact ⟨rfl,Run.err HK.out HP.out hcd⟩
  | ok q =>
   obtain ⟨a2,l2⟩:=q
   obtain ⟨v2,rfl,hv,hs,hl,hk⟩:=hp.ok hr
   obtain ⟨kv2,rfl,ht⟩:=hv
   have HT2:=zh (ht.weak HB1.out.lt)
   have HR2:=zh (HR1.out.call hk hs)
   have hzR2:=HR2.out.size
   have HB2:=zh (HB1.out.kp hk (by omega))
   have hzHB2:=HB2.out.lt
   have HL2:=zh hl
   have H2:=zh hr
   clear hr hp hs hl hk ht
   unfold zma
   go_wp2_with ((with_reducible refine zra 25 (.tmp 3) ?_);refine zga rfl 25 (.tmp 3) (.tmp 8) rfl (zaa (a2) (kv2)) (old:=zba) rfl rfl Tryd.zca rfl (zda _ _ HT2.out.kat.one) ?_)
   go_wp2_with fail
   refine (zLa (HR2.out.alloc _).st [bs [93]] (by decide) (by decide) (by simp) rfl rfl).mono ?_
   intro e w3 hp
   cases hr:zxa [bs [93]] l2 with
   | error pc =>
    obtain ⟨p,c⟩:=pc
    obtain ⟨rfl,hk,hcd⟩:=hp.err hr
    have HK:=zh ((HR2.out.alloc _).kp.trans hk)
    have HP:=zh (show zDc l=.error (p,c) by unfold zDc;exact ((zia H1.out _)).trans (((zia H2.out _)).trans ((zpa hr _))))
    clear hr hp hk
    go_wp2
    exact ⟨rfl,Run.err HK.out HP.out hcd⟩
   | ok q =>
    obtain ⟨a3,l3⟩:=q
    obtain ⟨v3,rfl,hv,hs,hl,hk⟩:=hp.ok hr
    obtain ⟨rfl,hto⟩:=hv
    have HR3:=zh ((HR2.out.alloc _).call hk hs)
    have hzR3:=HR3.out.size
    have HB3:=zh ((HB2.out.alloc _).kp hk (by omega))
    have hzHB3:=HB3.out.lt
    have HN3:=zh ((Blk.new w2 (zaa (a2) (kv2)) 25).kp hk (by first|omega|(have:=HR0.out.size;simp at *;omega)))
    have hzHN3:=HN3.out.lt
    have HT2_3:=zh ((HT2.out.alloc _).kp hk (fun b hb=>by omega))
    have HL3:=zh hl
    have H3:=zh hr
    clear hr hp hs hl hk hto
    unfold zsb
    have HP:=zh (show zDc l=.ok (a2,l3) by unfold zDc;exact ((zia H1.out _)).trans (((zia H2.out _)).trans ((zia H3.out _))))
    go_wp2_with (first|((with_reducible refine zva 25 (.tmp 3) ?_);refine zfa rfl 25 (.tmp 3) rfl w2.heap.size (zaa (a2) (kv2)) rfl (show Blk _ w2.heap.size (zaa (a2) (kv2)) 25 from HN3.out) Tryd.underlying25 rfl Tryd.zca ?_)|((with_reducible refine zra 25 (.tmp 2) ?_);refine zea rfl 25 (.tmp 2) (.tmp 12) rfl w.heap.size (zaa (a2) (kv2)) rfl rfl HB3.out Tryd.zca rfl (zda _ _ HT2.out.kat.one) ?_))
    exact zua (cs:=zaa (a2) (kv2)) Tryd.results97 rfl HB3.out Tryd.underlying25 rfl Tryd.zca rfl (Run.node HR3.out HT2_3.out.lo HP.out (by have:=HL1.out;have:=HL2.out;have:=HL3.out;first|omega|(simp only [List.length_tail] at *;omega)))
theorem zvh {E:Env} {w:World} {l:List Tok} {d:Nat} (h:PSt E w l d) (pl:Nat) :
  Calls Tryd.prog 99 #[.pointer (some ⟨E.pb,0,none⟩),.int .i64 pl] w (zbb zNb E w l d (zQi pl l)):=by
 have HR0:=zh ((Run.start h).alloc (.cells zba.toArray 25))
 have HB0:=zh (Blk.new w zba 25)
 have HL0:=zh (zOd h)
 have hlo:=h.plt
 have hlt:=h.tlt
 have hln:=h.len
 clear h
 go_enter Tryd.func99,Tryd.ntmps99
 cases hi:isT (hdT l) (bs [109,117,116]) with
 | false =>
  have HIi:=zh hi
  clear hi
  go_wp2_with fail
  refine (zFa HR0.out.st HIi.out).mono ?_
  rintro e w1 ⟨rfl,hb⟩
  have HR1:=zh (HR0.out.below hb)
  have hzR1:=HR1.out.size
  have HB1:=zh (HB0.out.kp (Kp.of_below (pb:=E.pb) hb) (by omega))
  have hzHB1:=HB1.out.lt
  clear hb
  go_wp2_with fail
  refine (name_any HR1.out.st).mono ?_
  intro e w2 hp
  cases hr:zac l with
  | error pc =>
   obtain ⟨p,c⟩:=pc
   obtain ⟨rfl,hk,hcd⟩:=hp.err hr
   have HK:=zh (HR1.out.kp.trans hk)
   have HP:=zh (show zQi pl l=.error (p,c) by unfold zQi;exact ((zja HIi.out _ _)).trans ((zpa hr _)))
   clear hr hp hk
   go_wp2
   exact ⟨rfl,Run.err HK.out HP.out hcd⟩
  | ok q =>
   obtain ⟨a2,l2⟩:=q
   obtain ⟨v2,rfl,hv,hs,hl,hk⟩:=hp.ok hr
   obtain rfl:v2=.string a2:=hv
   have HR2:=zh (HR1.out.call hk hs)
   have hzR2:=HR2.out.size
   have HB2:=zh (HB1.out.kp hk (by omega))
   have hzHB2:=HB2.out.lt
   have HL2:=zh hl
   have H2:=zh hr
   clear hr hp hs hl hk
   have HP:=zh (show zQi pl l=.ok (T.mk 26 a2 0 pl [],l2) by unfold zQi;exact ((zja HIi.out _ _)).trans ((zia H2.out _)))
   go_wp2_with ((with_reducible refine zra 25 (.tmp 4) ?_);refine zea rfl 25 (.tmp 4) (.tmp 12) rfl w.heap.size (zaa (T.mk 26 a2 0 pl []) (.slice none 0 0)) rfl rfl HB2.out Tryd.zca rfl (zda _ _ rfl) ?_)
   exact zua (cs:=zaa (T.mk 26 a2 0 pl []) (.slice none 0 0)) Tryd.results99 rfl HB2.out Tryd.underlying25 rfl Tryd.zca rfl (Run.node HR2.out ((KAt.nil _ _ _).tat _ _ _ _) HP.out (by have:=HL0.out;have:=HL2.out;first|omega|(simp only [List.length_tail] at *;omega)))
 | true =>
  have HIi:=zh hi
  clear hi
  go_wp2_with fail
  refine (zBa HR0.out.st HIi.out (by decide)).mono ?_
  rintro e w1 ⟨rfl,hs,hk⟩
  have HR1:=zh (HR0.out.call hk hs)
  have hzR1:=HR1.out.size
  have HB1:=zh (HB0.out.kp hk (by omega))
  have hzHB1:=HB1.out.lt
  clear hs hk
  go_wp2_with fail
  refine (name_any HR1.out.st).mono ?_
  intro e w2 hp
  cases hr:zac l.tail with
  | error pc =>
   obtain ⟨p,c⟩:=pc
   obtain ⟨rfl,hk,hcd⟩:=hp.err hr
   have HK:=zh (HR1.out.kp.trans hk)
   have HP:=zh (show zQi pl l=.error (p,c) by unfold zQi;exact ((zya HIi.out _ _)).trans ((zpa hr _)))
   clear hr hp hk
   go_wp2
   exact ⟨rfl,Run.err HK.out HP.out hcd⟩
  | ok q =>
   obtain ⟨a2,l2⟩:=q
   obtain ⟨v2,rfl,hv,hs,hl,hk⟩:=hp.ok hr
   obtain rfl:v2=.string a2:=hv
   have HR2:=zh (HR1.out.call hk hs)
   have hzR2:=HR2.out.size
   have HB2:=zh (HB1.out.kp hk (by omega))
   have hzHB2:=HB2.out.lt
   have HL2:=zh hl
   have H2:=zh hr
   clear hr hp hs hl hk
   have HP:=zh (show zQi pl l=.ok (T.mk 27 a2 0 pl [],l2) by unfold zQi;exact ((zya HIi.out _ _)).trans ((zia H2.out _)))
   go_wp2_with ((with_reducible refine zra 25 (.tmp 4) ?_);refine zea rfl 25 (.tmp 4) (.tmp 12) rfl w.heap.size (zaa (T.mk 27 a2 0 pl []) (.slice none 0 0)) rfl rfl HB2.out Tryd.zca rfl (zda _ _ rfl) ?_)
   exact zua (cs:=zaa (T.mk 27 a2 0 pl []) (.slice none 0 0)) Tryd.results99 rfl HB2.out Tryd.underlying25 rfl Tryd.zca rfl (Run.node HR2.out ((KAt.nil _ _ _).tat _ _ _ _) HP.out (by have:=HL0.out;have:=HL2.out;first|omega|(simp only [List.length_tail] at *;omega)))
theorem zlh {E:Env} {w:World} {l:List Tok} {d:Nat} (h:PSt E w l d) (n:T) (sa:Option Addr) (sn sc:Nat) :
  Calls Tryd.prog 96 #[.pointer (some ⟨E.pb,0,none⟩),zma n (.slice sa sn sc)] w (zbb zNb E w l d (zLe n l)):=by
 have HR0:=zh (((Run.start h).alloc (.cells (zaa n (.slice sa sn sc)).toArray 25)).alloc (.cells zba.toArray 25))
 have HC0:=zh ((Blk.new w (zaa n (.slice sa sn sc)) 25).alloc (.cells zba.toArray 25))
 have HB0:=zh (Blk.zIe w (.cells (zaa n (.slice sa sn sc)).toArray 25) zba 25)
 have hlo:=h.plt
 have hlt:=h.tlt
 have hln:=h.len
 clear h
 unfold zma
 have hmf:=zkb
 go_enter Tryd.func96,Tryd.ntmps96
 go_wp2_with fail
 refine AnyE.zHb (S:=fun W=>Blk W w.heap.size (zaa n (.slice sa sn sc)) 25) (by kernel_rfl) (HC0.out.drew) (fun hS=>?_)
 refine AnyE.take (i:=0) (v:=.pointer (some ⟨w.heap.size,1,none⟩)) rfl (by kernel_rfl) (by kernel_rfl) (by kernel_rfl) (by kernel_rfl) (fun _ _ _ h=>h) (Or.inl ⟨by rfl,fun W _=>by go_simp⟩) hS ?_
 refine AnyE.take (i:=1) (v:=.string n.text) rfl (by kernel_rfl) (by kernel_rfl) (by kernel_rfl) (by kernel_rfl) (fun _ _ _ h=>h) (Or.inl ⟨by rfl,fun W hW=>by have hcx:W.cell? ⟨w.heap.size,1,none⟩=some (.string n.text):=hW.cell 1;go_simp⟩) hS ?_
 refine AnyE.take (i:=2) (v:=.pointer (some ⟨w.heap.size,3,none⟩)) rfl (by kernel_rfl) (by kernel_rfl) (by kernel_rfl) (by kernel_rfl) (fun _ _ _ h=>h) (Or.inl ⟨by rfl,fun W _=>by go_simp⟩) hS ?_
 refine AnyE.take (i:=3) (v:=.int .i64 n.place) rfl (by kernel_rfl) (by kernel_rfl) (by kernel_rfl) (by kernel_rfl) (fun _ _ _ h=>h) (Or.inl ⟨by rfl,fun W hW=>by have hcx:W.cell? ⟨w.heap.size,3,none⟩=some (.int .i64 n.place):=hW.cell 3;go_simp⟩) hS ?_
 refine AnyE.take (i:=4) (v:=.pointer (some ⟨E.pb,0,none⟩)) rfl (by kernel_rfl) (by kernel_rfl) (by kernel_rfl) (by kernel_rfl) (fun _ _ _ h=>h) (Or.inl ⟨by rfl,fun W _=>by go_simp⟩) hS ?_
 refine AnyE.take (i:=5) (v:=.pointer (some ⟨E.pb,0,none⟩)) rfl (by kernel_rfl) (by kernel_rfl) (by kernel_rfl) (by kernel_rfl) (fun _ _ _ h=>h) (Or.inl ⟨by rfl,fun W _=>by go_simp⟩) hS ?_
 refine AnyE.take (i:=6) (v:=.func (.func 86) #[.pointer (some ⟨E.pb,0,none⟩)] #[]) rfl (by kernel_rfl) (by kernel_rfl) (by kernel_rfl) (by kernel_rfl) (fun _ _ _ h=>h) (Or.inl ⟨by rfl,fun W _=>by go_simp⟩) hS ?_
 refine AnyE.one (i:=7) (by kernel_rfl) rfl (by rfl) (fun K hK=>?_)
 go_simp
 refine (zZd (HR0.out.drew).st (zNj E d)).mono ?_
 intro e w1 hp
 cases hr:zib zKb l with
 | error pc =>
  obtain ⟨p,c⟩:=pc
  obtain ⟨rfl,hk,hcd⟩:=hp.err hr
  have HK:=zh ((HR0.out.drew).kp.trans hk)
  have HP:=zh (show zLe n l=.error (p,c) by unfold zLe;exact (zpa hr _))
  clear hr hp hk
  go_wp2
  exact ⟨rfl,Run.err HK.out HP.out hcd⟩
 | ok q =>
  obtain ⟨a1,l1⟩:=q
  obtain ⟨v1,rfl,hv,hs,hl,hk⟩:=hp.ok hr
  have HT1:=zh (hv.1.weak (HB0.out.drew).lt)
  have HC1:=zh hv.2
  obtain ⟨sa1,sn1,sc1,rfl⟩:=HT1.out.slice
  have HR1:=zh ((HR0.out.drew).call hk hs)
  have hzR1:=HR1.out.size
  have HB1:=zh ((HB0.out.drew).kp hk (by omega))
  have hzHB1:=HB1.out.lt
  have HC_1:=zh ((HC0.out.drew).kp hk (by first|omega|(have:=HR0.out.size;simp at *;omega)))
  have hzHC_1:=HC_1.out.lt
  have HL1:=zh hl
  have H1:=zh hr
  clear hr hp hs hl hk hv
  refine hK.out _ _ (fun _=>HC_1.out) ?_
  clear hK K
  refine AnyE.one (i:=8) (by kernel_rfl) rfl (by rfl) (fun K hK=>?_)
  go_simp
  refine hK.out _ _ (fun _=>HC_1.out) ?_
  clear hK K
  have HP:=zh (show zLe n l=.ok (T.mk 28 n.text 0 n.place a1,l1) by unfold zLe;exact (zia H1.out _))
  refine AnyE.one (i:=9) (by kernel_rfl) rfl (by rfl) (fun K hK=>?_)
  refine zka 25 (.tmp 4) (.tmp 13) rfl (w.heap.size+1) (zaa (T.mk 28 n.text 0 n.place a1) (.slice sa1 sn1 sc1)) rfl rfl HB1.out Tryd.zca rfl (zda _ _ rfl) ?_
  refine hK.out _ _ (fun h=>absurd rfl h) ?_
  clear hK K
  refine AnyE.done (by kernel_rfl) ?_ _
  go_wp2
  exact zNd (cs:=zaa (T.mk 28 n.text 0 n.place a1) (.slice sa1 sn1 sc1)) Tryd.results96 rfl HB1.out Tryd.underlying25 rfl Tryd.zca rfl (Run.nodeAt (by omega) HR1.out (HT1.out.lo.tat _ _ _ _) HP.out (by have:=HL1.out;first|omega|(simp only [List.length_tail] at *;omega)))
end
end Go.Proofs.YtdhmdfhnkppnmaaDoor
