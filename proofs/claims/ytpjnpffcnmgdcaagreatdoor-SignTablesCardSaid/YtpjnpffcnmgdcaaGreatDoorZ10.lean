/- The contracts of the parser's typeBehind and fnBehind. -/
import Derived.Test.YtpjnpffcnmgdcaaGreatDoorZ09
namespace Go.Proofs.YtpjnpffcnmgdcaaGreatDoor
set_option maxRecDepth 100000
set_option maxHeartbeats 1000000
open Go.RowKit
theorem zFo (E:Env) (d:Nat):zDn E d 110 zsc:=⟨fun args w=>zye Tryz.func110 (by kernel_rfl) (by kernel_rfl) args w,fun h=>zop h⟩
theorem zZm (E:Env) (d:Nat):zDn E d 111 zWd:=⟨fun args w=>zye Tryz.func111 (by kernel_rfl) (by kernel_rfl) args w,fun h=>zds h⟩
theorem zZi {E:Env} {w:World} {l:List Tok} {d:Nat} (h:PSt E w l d) (pl:Nat) :
  Calls Tryz.prog 85 #[.pointer (some ⟨E.pb,0,none⟩),.int .i64 pl] w (zMb zTc E w l d (zdc pl l)):=by
 have HR0:=zh ((Run.start h).alloc (.cells zba.toArray 25))
 have HB0:=zh (Blk.new w zba 25)
 obtain ⟨i0,z0,I⟩:=Tryz.zce
 have hmf:=zbc
 have hlo:=h.plt
 have hlt:=h.tlt
 have hln:=h.len
 clear h
 go_enter Tryz.func85,Tryz.ntmps85
 go_wp2_with fail
 refine (name_any HR0.out.st).mono ?_
 intro e w1 hp
 cases hr:zKb l with
 | error pc =>
  obtain ⟨p,c⟩:=pc
  obtain ⟨rfl,hk,hcd⟩:=hp.err hr
  have HK:=zh (HR0.out.kp.trans hk)
  have HP:=zh (show zdc pl l=.error (p,c) by unfold zdc;exact (zya hr _))
  clear hr hp hk
  go_wp2
  exact ⟨rfl,Run.err HK.out HP.out hcd⟩
 | ok q =>
  obtain ⟨a1,l1⟩:=q
  obtain ⟨v1,rfl,hv,hs,hl,hk⟩:=hp.ok hr
  obtain rfl:v1=.string a1:=hv
  have HR1:=zh (HR0.out.call hk hs)
  have hzR1:=HR1.out.size
  have HB1:=zh (HB0.out.kp hk (by omega))
  have hzHB1:=HB1.out.lt
  have HL1:=zh hl
  have H1:=zh hr
  clear hr hp hs hl hk
  go_wp2_with fail
  refine AnyE.zCc (S:=fun W=>Blk W (w1.heap.size) (zaa (T.mk 1 a1 0 pl []) (.slice none 0 0)) 25) (by kernel_rfl) ((zzc.new (w:=w) (t:=T.mk 1 a1 0 pl []) (KAt.nil _ w1 _) hzHB1).blk.drew) (fun hS=>?_)
  refine AnyE.take (i:=0) (v:=.pointer (some ⟨w1.heap.size,4,none⟩)) rfl (by kernel_rfl) (by kernel_rfl) (by kernel_rfl) (by kernel_rfl) (fun _ _ _ h=>h) (Or.inl ⟨by rfl,fun W _=>by go_simp⟩) hS ?_
  refine AnyE.take (i:=1) (v:=.slice none 0 0) rfl (by kernel_rfl) (by kernel_rfl) (by kernel_rfl) (by kernel_rfl) (fun _ _ _ h=>h) (Or.inl ⟨by rfl,fun W hW=>by have hcx:W.cell? ⟨w1.heap.size,4,none⟩=some (.slice none 0 0):=hW.cell 4;go_simp⟩) hS ?_
  refine AnyE.take (i:=2) (v:=.pointer (some ⟨E.pb,0,none⟩)) rfl (by kernel_rfl) (by kernel_rfl) (by kernel_rfl) (by kernel_rfl) (fun _ _ _ h=>h) (Or.inl ⟨by rfl,fun W _=>by go_simp⟩) hS ?_
  refine AnyE.one (i:=3) (by kernel_rfl) rfl (by rfl) (fun K hK=>?_)
  go_simp
  refine (zwr ((HR1.out.alloc _).drew).st).mono ?_
  intro e w2 hp
  cases hr:zKd l1 with
  | error pc =>
   obtain ⟨p,c⟩:=pc
   obtain ⟨rfl,hk,hcd⟩:=hp.err hr
   have HK:=zh (((HR1.out.alloc _).drew).kp.trans hk)
   have HP:=zh (show zdc pl l=.error (p,c) by unfold zdc;exact ((zpa H1.out _)).trans ((zya hr _)))
   clear hr hp hk
   go_wp2
   exact ⟨rfl,Run.err HK.out HP.out hcd⟩
  | ok q =>
   obtain ⟨a2,l2⟩:=q
   obtain ⟨v2,rfl,hv,hs,hl,hk⟩:=hp.ok hr
   obtain ⟨kv2,rfl,ht⟩:=hv
   have HT2:=zh (ht.weak ((HB1.out.alloc _).drew).lt)
   have huHN2:=Blk.zNb hk ((zzc.new (w:=w) (t:=T.mk 1 a1 0 pl []) (KAt.nil _ w1 _) hzHB1).drew).blk
   have HU2:=zh (ht.mono (S':=fun b=>w.heap.size<b∧w1.heap.size<b) (fun b hb _=>by have:=Blk.zNb hk ((HB1.out.alloc _).drew);omega))
   have HF2:=zh (zzc.fresh hk ((zzc.new (w:=w) (t:=T.mk 1 a1 0 pl []) (KAt.nil _ w1 _) hzHB1).drew) ht)
   have HG2:=zh (zzc.zyg hk ((zzc.new (w:=w) (t:=T.mk 1 a1 0 pl []) (KAt.nil _ w1 _) hzHB1).drew) ht)
   have HR2:=zh (((HR1.out.alloc _).drew).call hk hs)
   have hzR2:=HR2.out.size
   have HB2:=zh (((HB1.out.alloc _).drew).kp hk (by omega))
   have hzHB2:=HB2.out.lt
   have HN2:=zh (((zzc.new (w:=w) (t:=T.mk 1 a1 0 pl []) (KAt.nil _ w1 _) hzHB1).drew).kp hk (by first|omega|(have:=HR0.out.size;simp at *;omega)))
   have hzHN2:=HN2.out.lt
   have HL2:=zh hl
   have H2:=zh hr
   clear hr hp hs hl hk ht
   unfold zna
   refine hK.out _ _ (fun _=>HN2.out.blk) ?_
   clear hK K
   refine AnyE.one (i:=4) (by kernel_rfl) rfl (by rfl) (fun K hK=>?_)
   go_simp
   refine hK.out _ _ (fun _=>(HN2.out.alloc _).blk) ?_
   clear hK K
   refine AnyE.one (i:=5) (by kernel_rfl) rfl (by rfl) (fun K hK=>?_)
   refine zob (.tmp 11) (.tmp 14) rfl I (ts:=[a2]) rfl (HN2.out.alloc _).kids (us:=[kv2]) (zGb.single (HF2.out.alloc _)) ⟨by simp;omega,by simp;omega⟩ rfl rfl (by simp) (zke w2 _ a2 kv2) (by show 0+1≤_;decide) ?_
   intro v2x w2x hKx hgx _
   obtain ⟨sa2x,sn2x,sc2x,rfl⟩:=hKx.slice
   obtain ⟨h1,h2,h3,hcx,hfx,h6⟩:=zwb (HR2.out.alloc _) (HB2.out.alloc _) (HN2.out.alloc _) hKx hgx
   have HR2x:=zh h1
   have HB2x:=zh h2
   have HN2x:=zh h3
   have HC2x:=zh h6
   clear h1 h2 h3 h6 hKx hgx
   refine hK.out _ _ (fun _=>HC2x.out) ?_
   clear hK K
   refine AnyE.one (i:=6) (by kernel_rfl) rfl (by rfl) (fun K hK=>?_)
   go_simp
   refine hK.out _ _ (fun _=>HC2x.out) ?_
   clear hK K
   refine AnyE.one (i:=7) (by kernel_rfl) rfl (by rfl) (fun K hK=>?_)
   go_simp
   refine hK.out _ _ (fun h=>absurd rfl h) ?_
   clear hK K
   refine AnyE.done (by kernel_rfl) ?_ _
   clear hcx hfx
   generalize w2x.setCell ⟨w1.heap.size,4,none⟩ (.slice sa2x sn2x sc2x)=w2y at HR2x HB2x HN2x ⊢
   have hzHB2y:=HB2x.out.lt
   have hzHN2y:=HN2x.out.lt
   cases hi:isT (hdT l2) (bs [123]) with
   | false =>
    have HIi:=zh hi
    clear hi
    have HFI:=zh (show zXc l2=.ok ([],l2) by unfold zXc;exact zwa HIi.out _ _)
    go_wp2_with fail
    refine (zSa HR2x.out.st HIi.out).mono ?_
    rintro e w3 ⟨rfl,hb⟩
    have HR3:=zh (HR2x.out.below hb)
    have hzR3:=HR3.out.size
    have HB3:=zh (HB2x.out.kp (Kp.of_below (pb:=E.pb) hb) (by omega))
    have hzHB3:=HB3.out.lt
    have HN3:=zh (HN2x.out.kp (Kp.of_below (pb:=E.pb) hb) (by first|omega|(have:=HR0.out.size;simp at *;omega)))
    have hzHN3:=HN3.out.lt
    clear hb
    cases hw:isT (hdT l2) (bs [119,104,101,114,101]) with
    | false =>
     have HIw:=zh hw
     clear hw
     go_wp2_with fail
     refine (zSa HR3.out.st HIw.out).mono ?_
     rintro e w4 ⟨rfl,hb⟩
     have HR4:=zh (HR3.out.below hb)
     have hzR4:=HR4.out.size
     have HB4:=zh (HB3.out.kp (Kp.of_below (pb:=E.pb) hb) (by omega))
     have hzHB4:=HB4.out.lt
     have HN4:=zh (HN3.out.kp (Kp.of_below (pb:=E.pb) hb) (by first|omega|(have:=HR0.out.size;simp at *;omega)))
     have hzHN4:=HN4.out.lt
     clear hb
     have HFA:=zh (show zld l2=.ok ([],l2) by unfold zld;exact zwa HIw.out _ _)
     go_wp2_with fail
     refine (zcb HR4.out.st [bs [59]] (by decide) (by decide) (by simp) rfl rfl).mono ?_
     intro e w5 hp
     cases hr:zsa [bs [59]] l2 with
     | error pc =>
      obtain ⟨p,c⟩:=pc
      obtain ⟨rfl,hk,hcd⟩:=hp.err hr
      have HK:=zh (HR4.out.kp.trans hk)
      have HP:=zh (show zdc pl l=.error (p,c) by unfold zdc;exact ((zpa H1.out _)).trans (((zpa H2.out _)).trans (((zpa HFI.out _)).trans (((zpa HFA.out _)).trans ((zya hr _))))))
      clear hr hp hk
      go_wp2
      exact ⟨rfl,Run.err HK.out HP.out hcd⟩
     | ok q =>
      obtain ⟨a5,l5⟩:=q
      obtain ⟨v5,rfl,hv,hs,hl,hk⟩:=hp.ok hr
      obtain ⟨rfl,hto⟩:=hv
      have HR5:=zh (HR4.out.call hk hs)
      have hzR5:=HR5.out.size
      have HB5:=zh (HB4.out.kp hk (by omega))
      have hzHB5:=HB5.out.lt
      have HN5:=zh (HN4.out.kp hk (by first|omega|(have:=HR0.out.size;simp at *;omega)))
      have hzHN5:=HN5.out.lt
      have HL5:=zh hl
      have H5:=zh hr
      clear hr hp hs hl hk hto
      unfold zmb
      have HP:=zh (show zdc pl l=.ok (T.mk 1 a1 0 pl ([]++[a2]),l5) by unfold zdc;rw [show ([]++[a2])=(a2 :: ([]++[])) by simp];exact ((zpa H1.out _)).trans (((zpa H2.out _)).trans (((zpa HFI.out _)).trans (((zpa HFA.out _)).trans ((zpa H5.out _))))))
      go_wp2_with (first|((with_reducible refine zqa 25 (.tmp 5) ?_);refine zia rfl 25 (.tmp 5) rfl (w1.heap.size) (zaa (T.mk 1 a1 0 pl ([]++[a2])) (.slice sa2x sn2x sc2x)) rfl HN5.out.blk Tryz.underlying25 rfl Tryz.zea ?_)|((with_reducible refine zla 25 (.tmp 4) ?_);refine zda rfl 25 (.tmp 4) (.tmp 43) rfl w.heap.size (zaa (T.mk 1 a1 0 pl ([]++[a2])) (.slice sa2x sn2x sc2x)) rfl rfl HB5.out Tryz.zea rfl (zca _ _ HN5.out.kids.one) ?_))
      exact zma (cs:=zaa (T.mk 1 a1 0 pl ([]++[a2])) (.slice sa2x sn2x sc2x)) Tryz.results85 rfl HB5.out Tryz.underlying25 rfl Tryz.zea rfl (Run.node HR5.out (TAt.zHa (HN5.out.kids.mono (fun _ hb _=>hb.1))) HP.out (by have:=HL1.out;have:=HL2.out;have:=HL5.out;first|omega|(simp only [List.length_tail] at *;omega)))
    | true =>
     have HIw:=zh hw
     clear hw
     go_wp2_with fail
     refine (zLa HR3.out.st HIw.out (by decide)).mono ?_
     rintro e w4 ⟨rfl,hs,hk⟩
     have HR4:=zh (HR3.out.call hk hs)
     have hzR4:=HR4.out.size
     have HB4:=zh (HB3.out.kp hk (by omega))
     have hzHB4:=HB4.out.lt
     have HN4:=zh (HN3.out.kp hk (by first|omega|(have:=HR0.out.size;simp at *;omega)))
     have hzHN4:=HN4.out.lt
     clear hs hk
     have HFA:=zh (show zld l2=_ by unfold zld;exact zFa HIw.out _ _)
     go_wp2_with fail
     refine AnyE.zCc (S:=fun W=>Blk W (w1.heap.size) (zaa (T.mk 1 a1 0 pl ([]++[a2])) (.slice sa2x sn2x sc2x)) 25) (by kernel_rfl) (HN4.out.blk.drew) (fun hS=>?_)
     refine AnyE.take (i:=0) (v:=.pointer (some ⟨w1.heap.size,4,none⟩)) rfl (by kernel_rfl) (by kernel_rfl) (by kernel_rfl) (by kernel_rfl) (fun _ _ _ h=>h) (Or.inl ⟨by rfl,fun W _=>by go_simp⟩) hS ?_
     refine AnyE.take (i:=1) (v:=.slice sa2x sn2x sc2x) rfl (by kernel_rfl) (by kernel_rfl) (by kernel_rfl) (by kernel_rfl) (fun _ _ _ h=>h) (Or.inl ⟨by rfl,fun W hW=>by have hcx:W.cell? ⟨w1.heap.size,4,none⟩=some (.slice sa2x sn2x sc2x):=hW.cell 4;go_simp⟩) hS ?_
     refine AnyE.take (i:=2) (v:=.pointer (some ⟨E.pb,0,none⟩)) rfl (by kernel_rfl) (by kernel_rfl) (by kernel_rfl) (by kernel_rfl) (fun _ _ _ h=>h) (Or.inl ⟨by rfl,fun W _=>by go_simp⟩) hS ?_
     refine AnyE.take (i:=3) (v:=.pointer (some ⟨E.pb,0,none⟩)) rfl (by kernel_rfl) (by kernel_rfl) (by kernel_rfl) (by kernel_rfl) (fun _ _ _ h=>h) (Or.inl ⟨by rfl,fun W _=>by go_simp⟩) hS ?_
     refine AnyE.take (i:=4) (v:=.func (.func 111) #[.pointer (some ⟨E.pb,0,none⟩)] #[]) rfl (by kernel_rfl) (by kernel_rfl) (by kernel_rfl) (by kernel_rfl) (fun _ _ _ h=>h) (Or.inl ⟨by rfl,fun W _=>by go_simp⟩) hS ?_
     refine AnyE.one (i:=5) (by kernel_rfl) rfl (by rfl) (fun K hK=>?_)
     go_simp
     refine (zIh (HR4.out.drew).st (zZm E d)).mono ?_
     intro e w5 hp
     cases hr:zRd zWd l2.tail with
     | error pc =>
      obtain ⟨p,c⟩:=pc
      obtain ⟨rfl,hk,hcd⟩:=hp.err hr
      have HK:=zh ((HR4.out.drew).kp.trans hk)
      have HP:=zh (show zdc pl l=.error (p,c) by unfold zdc;exact ((zpa H1.out _)).trans (((zpa H2.out _)).trans (((zpa HFI.out _)).trans ((zya (HFA.out.trans hr) _)))))
      clear hr hp hk
      go_wp2
      exact ⟨rfl,Run.err HK.out HP.out hcd⟩
     | ok q =>
      obtain ⟨a5,l5⟩:=q
      obtain ⟨v5,rfl,hv,hs,hl,hk⟩:=hp.ok hr
      have HF5:=zh (zzc.zog hk (HN4.out.drew) hv.1)
      have HC5:=zh hv.2
      have HR5:=zh ((HR4.out.drew).call hk hs)
      have hzR5:=HR5.out.size
      have HB5:=zh ((HB4.out.drew).kp hk (by omega))
      have hzHB5:=HB5.out.lt
      have HN5:=zh ((HN4.out.drew).kp hk (by first|omega|(have:=HR0.out.size;simp at *;omega)))
      have hzHN5:=HN5.out.lt
      have HL5:=zh hl
      have H5:=zh hr
      clear hr hp hs hl hk hv
      refine hK.out _ _ (fun _=>HN5.out.blk) ?_
      clear hK K
      refine AnyE.one (i:=6) (by kernel_rfl) rfl (by rfl) (fun K hK=>?_)
      refine zOd (.tmp 33) (.tmp 37) rfl I rfl HN5.out.kids rfl HF5.out ⟨by omega,by omega⟩ (by show (([]++[a2])).length+_≤_;simp;have:=HC5.out;omega) ?_
      intro v5x w5x hKx hgx
      obtain ⟨sa5x,sn5x,sc5x,rfl⟩:=hKx.slice
      obtain ⟨h1,h2,h3,hcx,hfx,h6⟩:=zwb HR5.out HB5.out HN5.out hKx hgx
      have HR5x:=zh h1
      have HB5x:=zh h2
      have HN5x:=zh h3
      have HC5x:=zh h6
      clear h1 h2 h3 h6 hKx hgx
      refine hK.out _ _ (fun _=>HC5x.out) ?_
      clear hK K
      refine AnyE.one (i:=7) (by kernel_rfl) rfl (by rfl) (fun K hK=>?_)
      go_simp
      refine hK.out _ _ (fun _=>HC5x.out) ?_
      clear hK K
      refine AnyE.one (i:=8) (by kernel_rfl) rfl (by rfl) (fun K hK=>?_)
      go_simp
      refine hK.out _ _ (fun h=>absurd rfl h) ?_
      clear hK K
      refine AnyE.done (by kernel_rfl) ?_ _
      clear hcx hfx
      generalize w5x.setCell ⟨w1.heap.size,4,none⟩ (.slice sa5x sn5x sc5x)=w5y at HR5x HB5x HN5x ⊢
      have hzHB5y:=HB5x.out.lt
      have hzHN5y:=HN5x.out.lt
      go_wp2_with fail
      refine (zcb HR5x.out.st [bs [59]] (by decide) (by decide) (by simp) rfl rfl).mono ?_
      intro e w6 hp
      cases hr:zsa [bs [59]] l5 with
      | error pc =>
       obtain ⟨p,c⟩:=pc
       obtain ⟨rfl,hk,hcd⟩:=hp.err hr
       have HK:=zh (HR5x.out.kp.trans hk)
       have HP:=zh (show zdc pl l=.error (p,c) by unfold zdc;exact ((zpa H1.out _)).trans (((zpa H2.out _)).trans (((zpa HFI.out _)).trans (((zpa (HFA.out.trans H5.out) _)).trans ((zya hr _))))))
       clear hr hp hk
       go_wp2
       exact ⟨rfl,Run.err HK.out HP.out hcd⟩
      | ok q =>
       obtain ⟨a6,l6⟩:=q
       obtain ⟨v6,rfl,hv,hs,hl,hk⟩:=hp.ok hr
       obtain ⟨rfl,hto⟩:=hv
       have HR6:=zh (HR5x.out.call hk hs)
       have hzR6:=HR6.out.size
       have HB6:=zh (HB5x.out.kp hk (by omega))
       have hzHB6:=HB6.out.lt
       have HN6:=zh (HN5x.out.kp hk (by first|omega|(have:=HR0.out.size;simp at *;omega)))
       have hzHN6:=HN6.out.lt
       have HL6:=zh hl
       have H6:=zh hr
       clear hr hp hs hl hk hto
       unfold zmb
       have HP:=zh (show zdc pl l=.ok (T.mk 1 a1 0 pl (([]++[a2])++a5),l6) by unfold zdc;rw [show (([]++[a2])++a5)=(a2 :: ([]++a5)) by simp];exact ((zpa H1.out _)).trans (((zpa H2.out _)).trans (((zpa HFI.out _)).trans (((zpa (HFA.out.trans H5.out) _)).trans ((zpa H6.out _))))))
       go_wp2_with (first|((with_reducible refine zqa 25 (.tmp 5) ?_);refine zia rfl 25 (.tmp 5) rfl (w1.heap.size) (zaa (T.mk 1 a1 0 pl (([]++[a2])++a5)) (.slice sa5x sn5x sc5x)) rfl HN6.out.blk Tryz.underlying25 rfl Tryz.zea ?_)|((with_reducible refine zla 25 (.tmp 4) ?_);refine zda rfl 25 (.tmp 4) (.tmp 43) rfl w.heap.size (zaa (T.mk 1 a1 0 pl (([]++[a2])++a5)) (.slice sa5x sn5x sc5x)) rfl rfl HB6.out Tryz.zea rfl (zca _ _ HN6.out.kids.one) ?_))
       exact zma (cs:=zaa (T.mk 1 a1 0 pl (([]++[a2])++a5)) (.slice sa5x sn5x sc5x)) Tryz.results85 rfl HB6.out Tryz.underlying25 rfl Tryz.zea rfl (Run.node HR6.out (TAt.zHa (HN6.out.kids.mono (fun _ hb _=>hb.1))) HP.out (by have:=HL1.out;have:=HL2.out;have:=HL5.out;have:=HL6.out;first|omega|(simp only [List.length_tail] at *;omega)))
   | true =>
    have HIi:=zh hi
    clear hi
    go_wp2_with fail
    refine (zLa HR2x.out.st HIi.out (by decide)).mono ?_
    rintro e w3 ⟨rfl,hs,hk⟩
    have HR3:=zh (HR2x.out.call hk hs)
    have hzR3:=HR3.out.size
    have HB3:=zh (HB2x.out.kp hk (by omega))
    have hzHB3:=HB3.out.lt
    have HN3:=zh (HN2x.out.kp hk (by first|omega|(have:=HR0.out.size;simp at *;omega)))
    have hzHN3:=HN3.out.lt
    clear hs hk
    have HFI:=zh (show zXc l2=_ by unfold zXc;exact zFa HIi.out _ _)
    go_wp2_with fail
    refine AnyE.zCc (S:=fun W=>Blk W (w1.heap.size) (zaa (T.mk 1 a1 0 pl ([]++[a2])) (.slice sa2x sn2x sc2x)) 25) (by kernel_rfl) (HN3.out.blk.drew) (fun hS=>?_)
    refine AnyE.take (i:=0) (v:=.pointer (some ⟨w1.heap.size,4,none⟩)) rfl (by kernel_rfl) (by kernel_rfl) (by kernel_rfl) (by kernel_rfl) (fun _ _ _ h=>h) (Or.inl ⟨by rfl,fun W _=>by go_simp⟩) hS ?_
    refine AnyE.take (i:=1) (v:=.slice sa2x sn2x sc2x) rfl (by kernel_rfl) (by kernel_rfl) (by kernel_rfl) (by kernel_rfl) (fun _ _ _ h=>h) (Or.inl ⟨by rfl,fun W hW=>by have hcx:W.cell? ⟨w1.heap.size,4,none⟩=some (.slice sa2x sn2x sc2x):=hW.cell 4;go_simp⟩) hS ?_
    refine AnyE.take (i:=2) (v:=.pointer (some ⟨E.pb,0,none⟩)) rfl (by kernel_rfl) (by kernel_rfl) (by kernel_rfl) (by kernel_rfl) (fun _ _ _ h=>h) (Or.inl ⟨by rfl,fun W _=>by go_simp⟩) hS ?_
    refine AnyE.take (i:=3) (v:=.pointer (some ⟨E.pb,0,none⟩)) rfl (by kernel_rfl) (by kernel_rfl) (by kernel_rfl) (by kernel_rfl) (fun _ _ _ h=>h) (Or.inl ⟨by rfl,fun W _=>by go_simp⟩) hS ?_
    refine AnyE.take (i:=4) (v:=.func (.func 110) #[.pointer (some ⟨E.pb,0,none⟩)] #[]) rfl (by kernel_rfl) (by kernel_rfl) (by kernel_rfl) (by kernel_rfl) (fun _ _ _ h=>h) (Or.inl ⟨by rfl,fun W _=>by go_simp⟩) hS ?_
    refine AnyE.one (i:=5) (by kernel_rfl) rfl (by rfl) (fun K hK=>?_)
    go_simp
    refine (zIh (HR3.out.drew).st (zFo E d)).mono ?_
    intro e w4 hp
    cases hr:zRd zsc l2.tail with
    | error pc =>
     obtain ⟨p,c⟩:=pc
     obtain ⟨rfl,hk,hcd⟩:=hp.err hr
     have HK:=zh ((HR3.out.drew).kp.trans hk)
     have HP:=zh (show zdc pl l=.error (p,c) by unfold zdc;exact ((zpa H1.out _)).trans (((zpa H2.out _)).trans ((zya (HFI.out.trans (zya hr _)) _))))
     clear hr hp hk
     go_wp2
     exact ⟨rfl,Run.err HK.out HP.out hcd⟩
    | ok q =>
     obtain ⟨a4,l4⟩:=q
     obtain ⟨v4,rfl,hv,hs,hl,hk⟩:=hp.ok hr
     have HF4:=zh (zzc.zog hk (HN3.out.drew) hv.1)
     have HC4:=zh hv.2
     have HR4:=zh ((HR3.out.drew).call hk hs)
     have hzR4:=HR4.out.size
     have HB4:=zh ((HB3.out.drew).kp hk (by omega))
     have hzHB4:=HB4.out.lt
     have HN4:=zh ((HN3.out.drew).kp hk (by first|omega|(have:=HR0.out.size;simp at *;omega)))
     have hzHN4:=HN4.out.lt
     have HL4:=zh hl
     have H4:=zh hr
     clear hr hp hs hl hk hv
     refine hK.out _ _ (fun _=>HN4.out.blk) ?_
     clear hK K
     refine AnyE.one (i:=6) (by kernel_rfl) rfl (by rfl) (fun K hK=>?_)
     refine zOd (.tmp 20) (.tmp 24) rfl I rfl HN4.out.kids rfl HF4.out ⟨by omega,by omega⟩ (by show ([]++[a2]).length+_≤_;simp;have:=HC4.out;omega) ?_
     intro v4x w4x hKx hgx
     obtain ⟨sa4x,sn4x,sc4x,rfl⟩:=hKx.slice
     obtain ⟨h1,h2,h3,hcx,hfx,h6⟩:=zwb HR4.out HB4.out HN4.out hKx hgx
     have HR4x:=zh h1
     have HB4x:=zh h2
     have HN4x:=zh h3
     have HC4x:=zh h6
     clear h1 h2 h3 h6 hKx hgx
     refine hK.out _ _ (fun _=>HC4x.out) ?_
     clear hK K
     refine AnyE.one (i:=7) (by kernel_rfl) rfl (by rfl) (fun K hK=>?_)
     go_simp
     refine hK.out _ _ (fun _=>HC4x.out) ?_
     clear hK K
     refine AnyE.one (i:=8) (by kernel_rfl) rfl (by rfl) (fun K hK=>?_)
     go_simp
     refine hK.out _ _ (fun h=>absurd rfl h) ?_
     clear hK K
     refine AnyE.done (by kernel_rfl) ?_ _
     clear hcx hfx
     generalize w4x.setCell ⟨w1.heap.size,4,none⟩ (.slice sa4x sn4x sc4x)=w4y at HR4x HB4x HN4x ⊢
     have hzHB4y:=HB4x.out.lt
     have hzHN4y:=HN4x.out.lt
     go_wp2_with fail
     refine (zcb HR4x.out.st [bs [125]] (by decide) (by decide) (by simp) rfl rfl).mono ?_
     intro e w5 hp
     cases hr:zsa [bs [125]] l4 with
     | error pc =>
      obtain ⟨p,c⟩:=pc
      obtain ⟨rfl,hk,hcd⟩:=hp.err hr
      have HK:=zh (HR4x.out.kp.trans hk)
      have HP:=zh (show zdc pl l=.error (p,c) by unfold zdc;exact ((zpa H1.out _)).trans (((zpa H2.out _)).trans ((zya (HFI.out.trans ((zpa H4.out _).trans (zya hr _))) _))))
      clear hr hp hk
      go_wp2
      exact ⟨rfl,Run.err HK.out HP.out hcd⟩
     | ok q =>
      obtain ⟨a5,l5⟩:=q
      obtain ⟨v5,rfl,hv,hs,hl,hk⟩:=hp.ok hr
      obtain ⟨rfl,hto⟩:=hv
      have HR5:=zh (HR4x.out.call hk hs)
      have hzR5:=HR5.out.size
      have HB5:=zh (HB4x.out.kp hk (by omega))
      have hzHB5:=HB5.out.lt
      have HN5:=zh (HN4x.out.kp hk (by first|omega|(have:=HR0.out.size;simp at *;omega)))
      have hzHN5:=HN5.out.lt
      have HL5:=zh hl
      have H5:=zh hr
      clear hr hp hs hl hk hto
      unfold zmb
      have HFJ:=zh (HFI.out.trans ((zpa H4.out _).trans (zpa H5.out _)))
      cases hw:isT (hdT l5) (bs [119,104,101,114,101]) with
      | false =>
       have HIw:=zh hw
       clear hw
       go_wp2_with fail
       refine (zSa HR5.out.st HIw.out).mono ?_
       rintro e w6 ⟨rfl,hb⟩
       have HR6:=zh (HR5.out.below hb)
       have hzR6:=HR6.out.size
       have HB6:=zh (HB5.out.kp (Kp.of_below (pb:=E.pb) hb) (by omega))
       have hzHB6:=HB6.out.lt
       have HN6:=zh (HN5.out.kp (Kp.of_below (pb:=E.pb) hb) (by first|omega|(have:=HR0.out.size;simp at *;omega)))
       have hzHN6:=HN6.out.lt
       clear hb
       have HFA:=zh (show zld l5=.ok ([],l5) by unfold zld;exact zwa HIw.out _ _)
       go_wp2_with fail
       refine (zcb HR6.out.st [bs [59]] (by decide) (by decide) (by simp) rfl rfl).mono ?_
       intro e w7 hp
       cases hr:zsa [bs [59]] l5 with
       | error pc =>
        obtain ⟨p,c⟩:=pc
        obtain ⟨rfl,hk,hcd⟩:=hp.err hr
        have HK:=zh (HR6.out.kp.trans hk)
        have HP:=zh (show zdc pl l=.error (p,c) by unfold zdc;exact ((zpa H1.out _)).trans (((zpa H2.out _)).trans (((zpa HFJ.out _)).trans (((zpa HFA.out _)).trans ((zya hr _))))))
        clear hr hp hk
        go_wp2
        exact ⟨rfl,Run.err HK.out HP.out hcd⟩
       | ok q =>
        obtain ⟨a7,l7⟩:=q
        obtain ⟨v7,rfl,hv,hs,hl,hk⟩:=hp.ok hr
        obtain ⟨rfl,hto⟩:=hv
        have HR7:=zh (HR6.out.call hk hs)
        have hzR7:=HR7.out.size
        have HB7:=zh (HB6.out.kp hk (by omega))
        have hzHB7:=HB7.out.lt
        have HN7:=zh (HN6.out.kp hk (by first|omega|(have:=HR0.out.size;simp at *;omega)))
        have hzHN7:=HN7.out.lt
        have HL7:=zh hl
        have H7:=zh hr
        clear hr hp hs hl hk hto
        unfold zmb
        have HP:=zh (show zdc pl l=.ok (T.mk 1 a1 0 pl ([]++[a2]++a4),l7) by unfold zdc;rw [show ([]++[a2]++a4)=(a2 :: (a4++[])) by simp];exact ((zpa H1.out _)).trans (((zpa H2.out _)).trans (((zpa HFJ.out _)).trans (((zpa HFA.out _)).trans ((zpa H7.out _))))))
        go_wp2_with (first|((with_reducible refine zqa 25 (.tmp 5) ?_);refine zia rfl 25 (.tmp 5) rfl (w1.heap.size) (zaa (T.mk 1 a1 0 pl ([]++[a2]++a4)) (.slice sa4x sn4x sc4x)) rfl HN7.out.blk Tryz.underlying25 rfl Tryz.zea ?_)|((with_reducible refine zla 25 (.tmp 4) ?_);refine zda rfl 25 (.tmp 4) (.tmp 43) rfl w.heap.size (zaa (T.mk 1 a1 0 pl ([]++[a2]++a4)) (.slice sa4x sn4x sc4x)) rfl rfl HB7.out Tryz.zea rfl (zca _ _ HN7.out.kids.one) ?_))
        exact zma (cs:=zaa (T.mk 1 a1 0 pl ([]++[a2]++a4)) (.slice sa4x sn4x sc4x)) Tryz.results85 rfl HB7.out Tryz.underlying25 rfl Tryz.zea rfl (Run.node HR7.out (TAt.zHa (HN7.out.kids.mono (fun _ hb _=>hb.1))) HP.out (by have:=HL1.out;have:=HL2.out;have:=HL4.out;have:=HL5.out;have:=HL7.out;first|omega|(simp only [List.length_tail] at *;omega)))
      | true =>
       have HIw:=zh hw
       clear hw
       go_wp2_with fail
       refine (zLa HR5.out.st HIw.out (by decide)).mono ?_
       rintro e w6 ⟨rfl,hs,hk⟩
       have HR6:=zh (HR5.out.call hk hs)
       have hzR6:=HR6.out.size
       have HB6:=zh (HB5.out.kp hk (by omega))
       have hzHB6:=HB6.out.lt
       have HN6:=zh (HN5.out.kp hk (by first|omega|(have:=HR0.out.size;simp at *;omega)))
       have hzHN6:=HN6.out.lt
       clear hs hk
       have HFA:=zh (show zld l5=_ by unfold zld;exact zFa HIw.out _ _)
       go_wp2_with fail
       refine AnyE.zCc (S:=fun W=>Blk W (w1.heap.size) (zaa (T.mk 1 a1 0 pl ([]++[a2]++a4)) (.slice sa4x sn4x sc4x)) 25) (by kernel_rfl) (HN6.out.blk.drew) (fun hS=>?_)
       refine AnyE.take (i:=0) (v:=.pointer (some ⟨w1.heap.size,4,none⟩)) rfl (by kernel_rfl) (by kernel_rfl) (by kernel_rfl) (by kernel_rfl) (fun _ _ _ h=>h) (Or.inl ⟨by rfl,fun W _=>by go_simp⟩) hS ?_
       refine AnyE.take (i:=1) (v:=.slice sa4x sn4x sc4x) rfl (by kernel_rfl) (by kernel_rfl) (by kernel_rfl) (by kernel_rfl) (fun _ _ _ h=>h) (Or.inl ⟨by rfl,fun W hW=>by have hcx:W.cell? ⟨w1.heap.size,4,none⟩=some (.slice sa4x sn4x sc4x):=hW.cell 4;go_simp⟩) hS ?_
       refine AnyE.take (i:=2) (v:=.pointer (some ⟨E.pb,0,none⟩)) rfl (by kernel_rfl) (by kernel_rfl) (by kernel_rfl) (by kernel_rfl) (fun _ _ _ h=>h) (Or.inl ⟨by rfl,fun W _=>by go_simp⟩) hS ?_
       refine AnyE.take (i:=3) (v:=.pointer (some ⟨E.pb,0,none⟩)) rfl (by kernel_rfl) (by kernel_rfl) (by kernel_rfl) (by kernel_rfl) (fun _ _ _ h=>h) (Or.inl ⟨by rfl,fun W _=>by go_simp⟩) hS ?_
       refine AnyE.take (i:=4) (v:=.func (.func 111) #[.pointer (some ⟨E.pb,0,none⟩)] #[]) rfl (by kernel_rfl) (by kernel_rfl) (by kernel_rfl) (by kernel_rfl) (fun _ _ _ h=>h) (Or.inl ⟨by rfl,fun W _=>by go_simp⟩) hS ?_
       refine AnyE.one (i:=5) (by kernel_rfl) rfl (by rfl) (fun K hK=>?_)
       go_simp
       refine (zIh (HR6.out.drew).st (zZm E d)).mono ?_
       intro e w7 hp
       cases hr:zRd zWd l5.tail with
       | error pc =>
        obtain ⟨p,c⟩:=pc
        obtain ⟨rfl,hk,hcd⟩:=hp.err hr
        have HK:=zh ((HR6.out.drew).kp.trans hk)
        have HP:=zh (show zdc pl l=.error (p,c) by unfold zdc;exact ((zpa H1.out _)).trans (((zpa H2.out _)).trans (((zpa HFJ.out _)).trans ((zya (HFA.out.trans hr) _)))))
        clear hr hp hk
        go_wp2
        exact ⟨rfl,Run.err HK.out HP.out hcd⟩
       | ok q =>
        obtain ⟨a7,l7⟩:=q
        obtain ⟨v7,rfl,hv,hs,hl,hk⟩:=hp.ok hr
        have HF7:=zh (zzc.zog hk (HN6.out.drew) hv.1)
        have HC7:=zh hv.2
        have HR7:=zh ((HR6.out.drew).call hk hs)
        have hzR7:=HR7.out.size
        have HB7:=zh ((HB6.out.drew).kp hk (by omega))
        have hzHB7:=HB7.out.lt
        have HN7:=zh ((HN6.out.drew).kp hk (by first|omega|(have:=HR0.out.size;simp at *;omega)))
        have hzHN7:=HN7.out.lt
        have HL7:=zh hl
        have H7:=zh hr
        clear hr hp hs hl hk hv
        refine hK.out _ _ (fun _=>HN7.out.blk) ?_
        clear hK K
        refine AnyE.one (i:=6) (by kernel_rfl) rfl (by rfl) (fun K hK=>?_)
        refine zOd (.tmp 33) (.tmp 37) rfl I rfl HN7.out.kids rfl HF7.out ⟨by omega,by omega⟩ (by have:=HC4.out;show (([]++[a2]++a4)).length+_≤_;simp;have:=HC7.out;omega) ?_
        intro v7x w7x hKx hgx
        obtain ⟨sa7x,sn7x,sc7x,rfl⟩:=hKx.slice
        obtain ⟨h1,h2,h3,hcx,hfx,h6⟩:=zwb HR7.out HB7.out HN7.out hKx hgx
        have HR7x:=zh h1
        have HB7x:=zh h2
        have HN7x:=zh h3
        have HC7x:=zh h6
        clear h1 h2 h3 h6 hKx hgx
        refine hK.out _ _ (fun _=>HC7x.out) ?_
        clear hK K
        refine AnyE.one (i:=7) (by kernel_rfl) rfl (by rfl) (fun K hK=>?_)
        go_simp
        refine hK.out _ _ (fun _=>HC7x.out) ?_
        clear hK K
        refine AnyE.one (i:=8) (by kernel_rfl) rfl (by rfl) (fun K hK=>?_)
        go_simp
        refine hK.out _ _ (fun h=>absurd rfl h) ?_
        clear hK K
        refine AnyE.done (by kernel_rfl) ?_ _
        clear hcx hfx
        generalize w7x.setCell ⟨w1.heap.size,4,none⟩ (.slice sa7x sn7x sc7x)=w7y at HR7x HB7x HN7x ⊢
        have hzHB7y:=HB7x.out.lt
        have hzHN7y:=HN7x.out.lt
        go_wp2_with fail
        refine (zcb HR7x.out.st [bs [59]] (by decide) (by decide) (by simp) rfl rfl).mono ?_
        intro e w8 hp
        cases hr:zsa [bs [59]] l7 with
        | error pc =>
         obtain ⟨p,c⟩:=pc
         obtain ⟨rfl,hk,hcd⟩:=hp.err hr
         have HK:=zh (HR7x.out.kp.trans hk)
         have HP:=zh (show zdc pl l=.error (p,c) by unfold zdc;exact ((zpa H1.out _)).trans (((zpa H2.out _)).trans (((zpa HFJ.out _)).trans (((zpa (HFA.out.trans H7.out) _)).trans ((zya hr _))))))
         clear hr hp hk
         go_wp2
         exact ⟨rfl,Run.err HK.out HP.out hcd⟩
        | ok q =>
         obtain ⟨a8,l8⟩:=q
         obtain ⟨v8,rfl,hv,hs,hl,hk⟩:=hp.ok hr
         obtain ⟨rfl,hto⟩:=hv
         have HR8:=zh (HR7x.out.call hk hs)
         have hzR8:=HR8.out.size
         have HB8:=zh (HB7x.out.kp hk (by omega))
         have hzHB8:=HB8.out.lt
         have HN8:=zh (HN7x.out.kp hk (by first|omega|(have:=HR0.out.size;simp at *;omega)))
         have hzHN8:=HN8.out.lt
         have HL8:=zh hl
         have H8:=zh hr
         clear hr hp hs hl hk hto
         unfold zmb
         have HP:=zh (show zdc pl l=.ok (T.mk 1 a1 0 pl (([]++[a2]++a4)++a7),l8) by unfold zdc;rw [show (([]++[a2]++a4)++a7)=(a2 :: (a4++a7)) by simp];exact ((zpa H1.out _)).trans (((zpa H2.out _)).trans (((zpa HFJ.out _)).trans (((zpa (HFA.out.trans H7.out) _)).trans ((zpa H8.out _))))))
         go_wp2_with (first|((with_reducible refine zqa 25 (.tmp 5) ?_);refine zia rfl 25 (.tmp 5) rfl (w1.heap.size) (zaa (T.mk 1 a1 0 pl (([]++[a2]++a4)++a7)) (.slice sa7x sn7x sc7x)) rfl HN8.out.blk Tryz.underlying25 rfl Tryz.zea ?_)|((with_reducible refine zla 25 (.tmp 4) ?_);refine zda rfl 25 (.tmp 4) (.tmp 43) rfl w.heap.size (zaa (T.mk 1 a1 0 pl (([]++[a2]++a4)++a7)) (.slice sa7x sn7x sc7x)) rfl rfl HB8.out Tryz.zea rfl (zca _ _ HN8.out.kids.one) ?_))
         exact zma (cs:=zaa (T.mk 1 a1 0 pl (([]++[a2]++a4)++a7)) (.slice sa7x sn7x sc7x)) Tryz.results85 rfl HB8.out Tryz.underlying25 rfl Tryz.zea rfl (Run.node HR8.out (TAt.zHa (HN8.out.kids.mono (fun _ hb _=>hb.1))) HP.out (by have:=HL1.out;have:=HL2.out;have:=HL4.out;have:=HL5.out;have:=HL7.out;have:=HL8.out;first|omega|(simp only [List.length_tail] at *;omega)))
end Go.Proofs.YtpjnpffcnmgdcaaGreatDoor
