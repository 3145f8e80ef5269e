/- The contract of the parser's fnBehind. The contracts of the parser's declaration and unit. The contract of read: the tree of a whole text's tokens, or the first fault, which its deferred function recovers. The contract of Size. -/
import Derived.Test.YtpjnpffcnmgdcaaGreatDoorZ09
import Derived.Test.YtpjnpffcnmgdcaaGreatDoorZ10
import Derived.Recover
import Derived.Test.YtpjnpffcnmgdcaaGreatDoorZ03
namespace Go.Proofs.YtpjnpffcnmgdcaaGreatDoor
set_option maxRecDepth 100000
set_option maxHeartbeats 1000000
section
open Go.RowKit
theorem zMq (E:Env) (d:Nat):zDn E d 113 zBc:=⟨fun args w=>zye Tryz.func113 (by kernel_rfl) (by kernel_rfl) args w,fun h=>zKp h⟩
theorem zEl {E:Env} {w:World} {l:List Tok} {d:Nat} (h:PSt E w l d) (hd:d=0) (pl:Nat) :
  Calls Tryz.prog 86 #[.pointer (some ⟨E.pb,0,none⟩),.int .i64 pl] w (zMb zTc E w l d (fnP pl l)):=by
 have HR0:=zh ((Run.start h).alloc (.cells zba.toArray 25))
 have HB0:=zh (Blk.new w zba 25)
 have HBK:=zh (zDs E 8 d (by omega))
 obtain ⟨i0,z0,I⟩:=Tryz.zce
 have hmf:=zbc
 clear hd
 have hlo:=h.plt
 have hlt:=h.tlt
 have hln:=h.len
 clear h
 go_enter Tryz.func86,Tryz.ntmps86
 go_wp2_with fail
 refine (name_any HR0.out.st).mono ?_
 intro e w1 hp
 cases hr:zKb l with
 | error pc =>
  obtain ⟨p,c⟩:=pc
  obtain ⟨rfl,hk,hcd⟩:=hp.err hr
  have HK:=zh (HR0.out.kp.trans hk)
  have HP:=zh (show fnP pl l=.error (p,c) by unfold fnP;exact (zya hr _))
  clear hr hp hk
  go_wp2
  exact ⟨rfl,Run.err HK.out HP.out hcd⟩
 | ok q =>
  obtain ⟨a1,l1⟩:=q
  obtain ⟨v1,rfl,hv,hs,hl,hk⟩:=hp.ok hr
  obtain rfl:v1=.string a1:=hv
  have HR1:=zh (HR0.out.call hk hs)
  have hzR1:=HR1.out.size
  have HB1:=zh (HB0.out.kp hk (by omega))
  have hzHB1:=HB1.out.lt
  have HL1:=zh hl
  have H1:=zh hr
  clear hr hp hs hl hk
  go_wp2_with fail
  refine AnyE.zCc (S:=fun W=>Blk W (w1.heap.size) (zaa (T.mk 6 a1 0 pl []) (.slice none 0 0)) 25) (by kernel_rfl) ((zzc.new (w:=w) (t:=T.mk 6 a1 0 pl []) (KAt.nil _ w1 _) hzHB1).blk.drew) (fun hS=>?_)
  refine AnyE.take (i:=0) (v:=.pointer (some ⟨w1.heap.size,4,none⟩)) rfl (by kernel_rfl) (by kernel_rfl) (by kernel_rfl) (by kernel_rfl) (fun _ _ _ h=>h) (Or.inl ⟨by rfl,fun W _=>by go_simp⟩) hS ?_
  refine AnyE.take (i:=1) (v:=.slice none 0 0) rfl (by kernel_rfl) (by kernel_rfl) (by kernel_rfl) (by kernel_rfl) (fun _ _ _ h=>h) (Or.inl ⟨by rfl,fun W hW=>by have hcx:W.cell? ⟨w1.heap.size,4,none⟩=some (.slice none 0 0):=hW.cell 4;go_simp⟩) hS ?_
  refine AnyE.take (i:=2) (v:=.pointer (some ⟨E.pb,0,none⟩)) rfl (by kernel_rfl) (by kernel_rfl) (by kernel_rfl) (by kernel_rfl) (fun _ _ _ h=>h) (Or.inl ⟨by rfl,fun W _=>by go_simp⟩) hS ?_
  refine AnyE.take (i:=3) (v:=.pointer (some ⟨E.pb,0,none⟩)) rfl (by kernel_rfl) (by kernel_rfl) (by kernel_rfl) (by kernel_rfl) (fun _ _ _ h=>h) (Or.inl ⟨by rfl,fun W _=>by go_simp⟩) hS ?_
  refine AnyE.take (i:=4) (v:=.func (.func 113) #[.pointer (some ⟨E.pb,0,none⟩)] #[]) rfl (by kernel_rfl) (by kernel_rfl) (by kernel_rfl) (by kernel_rfl) (fun _ _ _ h=>h) (Or.inl ⟨by rfl,fun W _=>by go_simp⟩) hS ?_
  refine AnyE.one (i:=5) (by kernel_rfl) rfl (by rfl) (fun K hK=>?_)
  go_simp
  refine (zCf ((HR1.out.alloc _).drew).st (zMq E d)).mono ?_
  intro e w2 hp
  cases hr:zfb zBc l1 with
  | error pc =>
   obtain ⟨p,c⟩:=pc
   obtain ⟨rfl,hk,hcd⟩:=hp.err hr
   have HK:=zh (((HR1.out.alloc _).drew).kp.trans hk)
   have HP:=zh (show fnP pl l=.error (p,c) by unfold fnP;exact ((zpa H1.out _)).trans ((zya hr _)))
   clear hr hp hk
   go_wp2
   exact ⟨rfl,Run.err HK.out HP.out hcd⟩
  | ok q =>
   obtain ⟨a2,l2⟩:=q
   obtain ⟨v2,rfl,hv,hs,hl,hk⟩:=hp.ok hr
   have HF2:=zh (zzc.zog hk ((zzc.new (w:=w) (t:=T.mk 6 a1 0 pl []) (KAt.nil _ w1 _) hzHB1).drew) hv.1)
   have HC2:=zh hv.2
   have HR2:=zh (((HR1.out.alloc _).drew).call hk hs)
   have hzR2:=HR2.out.size
   have HB2:=zh (((HB1.out.alloc _).drew).kp hk (by omega))
   have hzHB2:=HB2.out.lt
   have HN2:=zh (((zzc.new (w:=w) (t:=T.mk 6 a1 0 pl []) (KAt.nil _ w1 _) hzHB1).drew).kp hk (by first|omega|(have:=HR0.out.size;simp at *;omega)))
   have hzHN2:=HN2.out.lt
   have HL2:=zh hl
   have H2:=zh hr
   clear hr hp hs hl hk hv
   refine hK.out _ _ (fun _=>HN2.out.blk) ?_
   clear hK K
   refine AnyE.one (i:=6) (by kernel_rfl) rfl (by rfl) (fun K hK=>?_)
   refine zOd (.tmp 12) (.tmp 16) rfl I rfl HN2.out.kids rfl HF2.out ⟨by omega,by omega⟩ (by show 0+_≤_;have:=HC2.out;omega) ?_
   intro v2x w2x hKx hgx
   obtain ⟨sa2x,sn2x,sc2x,rfl⟩:=hKx.slice
   obtain ⟨h1,h2,h3,hcx,hfx,h6⟩:=zwb HR2.out HB2.out HN2.out hKx hgx
   have HR2x:=zh h1
   have HB2x:=zh h2
   have HN2x:=zh h3
   have HC2x:=zh h6
   clear h1 h2 h3 h6 hKx hgx
   refine hK.out _ _ (fun _=>HC2x.out) ?_
   clear hK K
   refine AnyE.one (i:=7) (by kernel_rfl) rfl (by rfl) (fun K hK=>?_)
   go_simp
   refine hK.out _ _ (fun _=>HC2x.out) ?_
   clear hK K
   refine AnyE.one (i:=8) (by kernel_rfl) rfl (by rfl) (fun K hK=>?_)
   go_simp
   refine hK.out _ _ (fun h=>absurd rfl h) ?_
   clear hK K
   refine AnyE.done (by kernel_rfl) ?_ _
   clear hcx hfx
   generalize w2x.setCell ⟨w1.heap.size,4,none⟩ (.slice sa2x sn2x sc2x)=w2y at HR2x HB2x HN2x ⊢
   have hzHB2y:=HB2x.out.lt
   have hzHN2y:=HN2x.out.lt
   have HX:=zh (HN2x.out.kids.mono (S':=fun b=>(w.heap.size<b∧b≠w1.heap.size)∧b<w2y.heap.size) (fun b hb hl=>⟨hb,hl⟩))
   have HVO:=zh (show (.slice sa2x sn2x sc2x:Value).ownBlock≠some (w2y.heap.size) from fun he=>by obtain ⟨_,_,hS,_⟩:=HX.out;have:=(hS _ he).2;omega)
   cases hi:isT (hdT l2) (bs [45,62]) with
   | false =>
    have HIi:=zh hi
    clear hi
    have HRS:=zh (show zAc l2=_ by unfold zAc;exact zwa HIi.out _ _)
    go_wp2_with fail
    refine (zSa (HR2x.out.alloc _).st HIi.out).mono ?_
    rintro e w3 ⟨rfl,hb⟩
    have HR3:=zh ((HR2x.out.alloc _).below hb)
    have hzR3:=HR3.out.size
    have HB3:=zh ((HB2x.out.alloc _).kp (Kp.of_below (pb:=E.pb) hb) (by omega))
    have hzHB3:=HB3.out.lt
    have HN3:=zh ((HN2x.out.alloc _).kp (Kp.of_below (pb:=E.pb) hb) (by first|omega|(have:=HR0.out.size;simp at *;omega)))
    have hzHN3:=HN3.out.lt
    have HE_3:=zh ((Blk.new w2y zba 25).kp (Kp.of_below (pb:=E.pb) hb) (by first|omega|(have:=HR0.out.size;simp at *;omega)))
    have hzHE_3:=HE_3.out.lt
    have HX_3:=zh ((HX.out.alloc _).below hb)
    clear hb
    go_wp2_with fail
    refine (zJb HR3.out.st).mono ?_
    rintro e w4 ⟨rfl,hb⟩
    have HR4:=zh (HR3.out.below hb)
    have hzR4:=HR4.out.size
    have HB4:=zh (HB3.out.kp (Kp.of_below (pb:=E.pb) hb) (by omega))
    have hzHB4:=HB4.out.lt
    have HN4:=zh (HN3.out.kp (Kp.of_below (pb:=E.pb) hb) (by first|omega|(have:=HR0.out.size;simp at *;omega)))
    have hzHN4:=HN4.out.lt
    have HE_4:=zh (HE_3.out.kp (Kp.of_below (pb:=E.pb) hb) (by first|omega|(have:=HR0.out.size;simp at *;omega)))
    have hzHE_4:=HE_4.out.lt
    have HX_4:=zh (HX_3.out.below hb)
    clear hb
    unfold zmb
    have fl0:=zjc
    have fl1:=zfc
    have fl3:=zic
    go_wp2_with ((with_reducible refine zla 25 (.tmp 6) ?_);refine zda rfl 25 (.tmp 6) (.tmp 26) rfl (w2y.heap.size) (zaa (T.mk 8 e0 0 (hdT l2).place []) (.slice none 0 0)) rfl rfl HE_4.out Tryz.zea rfl (zca _ _ rfl) ?_;have HRz:=zh (HR4.out.setRow (g:=w2y.heap.size) (by omega) (zaa (T.mk 8 e0 0 (hdT l2).place []) (.slice none 0 0)).toArray);have HBz:=zh (HB4.out.zta (w2y.heap.size) (zaa (T.mk 8 e0 0 (hdT l2).place []) (.slice none 0 0)).toArray (by omega));have HNz:=zh (show zzc w _ (w1.heap.size) (T.mk 6 a1 0 pl ([]++a2)) (.slice sa2x sn2x sc2x) from ⟨HN4.out.blk.zta (w2y.heap.size) (zaa (T.mk 8 e0 0 (hdT l2).place []) (.slice none 0 0)).toArray (by omega),(HX_4.out.setRow (w2y.heap.size) (zaa (T.mk 8 e0 0 (hdT l2).place []) (.slice none 0 0)).toArray (fun b hb=>by omega)).mono (fun b hb _=>hb.1),HN4.out.gt⟩);have HEz:=zh (HE_4.out.zra (zaa (T.mk 8 e0 0 (hdT l2).place []) (.slice none 0 0)));have HTz:Hid (TAt 25 _ (T.mk 8 e0 0 (hdT l2).place []) (fun b=>(w.heap.size<b∧b≠w1.heap.size)∧(.slice sa2x sn2x sc2x:Value).ownBlock≠some b) (.slice none 0 0)):=((KAt.nil 25 (w4.setRow (w2y.heap.size) (zaa (T.mk 8 e0 0 (hdT l2).place []) (.slice none 0 0)).toArray) (fun b=>(w.heap.size<b∧b≠w1.heap.size)∧(.slice sa2x sn2x sc2x:Value).ownBlock≠some b)).tat _ _ _ _);generalize w4.setRow (w2y.heap.size) (zaa (T.mk 8 e0 0 (hdT l2).place []) (.slice none 0 0)).toArray=wz at HRz HBz HNz HEz HTz ⊢;have hzHBz:=HBz.out.lt;have hzHNz:=HNz.out.lt;have hzHEz:=HEz.out.lt)
    go_wp2_with fail
    refine AnyE.zCc (S:=fun W=>Blk W (w1.heap.size) (zaa (T.mk 6 a1 0 pl ([]++a2)) (.slice sa2x sn2x sc2x)) 25∧Blk W (w2y.heap.size) (zaa (T.mk 8 e0 0 (hdT l2).place []) (.slice none 0 0)) 25) (by kernel_rfl) (And.intro HNz.out.drew.blk HEz.out.drew) (fun hS=>?_)
    refine AnyE.take (i:=0) (v:=.pointer (some ⟨w1.heap.size,4,none⟩)) rfl (by kernel_rfl) (by kernel_rfl) (by kernel_rfl) (by kernel_rfl) (fun _ _ _ h=>h) (Or.inl ⟨by rfl,fun W _=>by go_simp⟩) hS ?_
    refine AnyE.take (i:=1) (v:=.slice sa2x sn2x sc2x) rfl (by kernel_rfl) (by kernel_rfl) (by kernel_rfl) (by kernel_rfl) (fun _ _ _ h=>h) (Or.inl ⟨by rfl,fun W hW=>by have hcx:W.cell? ⟨w1.heap.size,4,none⟩=some (.slice sa2x sn2x sc2x):=hW.1.cell 4;go_simp⟩) hS ?_
    refine AnyE.take (i:=2) (v:=.agg #[.int .i64 (T.mk 8 e0 0 (hdT l2).place []).kind,.string (T.mk 8 e0 0 (hdT l2).place []).text,.int .i64 (T.mk 8 e0 0 (hdT l2).place []).num,.int .i64 (T.mk 8 e0 0 (hdT l2).place []).place,.slice none 0 0]) rfl (by kernel_rfl) (by kernel_rfl) (by kernel_rfl) (by kernel_rfl) (fun _ _ _ h=>h) (yieldsIf_load_mid (cs:=zaa (T.mk 8 e0 0 (hdT l2).place []) (.slice none 0 0)) (by rfl) 25 (.tmp 6) rfl (w2y.heap.size) 0 rfl _ (fun W hW j v hj=>by rw [Nat.zero_add,(hW.2).cell j];exact hj) Tryz.underlying25 rfl Tryz.zea) hS ?_
    refine AnyE.take (i:=3) (v:=.pointer (some ⟨E.pb,0,none⟩)) rfl (by kernel_rfl) (by kernel_rfl) (by kernel_rfl) (by kernel_rfl) (fun _ _ _ h=>h) (Or.inl ⟨by rfl,fun W _=>by go_simp⟩) hS ?_
    refine AnyE.one (i:=4) (by kernel_rfl) rfl (by rfl) (fun K hK=>?_)
    go_simp
    refine (HBK.out.calls (HRz.out.drew).st).mono ?_
    intro e w5 hp
    cases hr:zYa 8 l2 with
    | error pc =>
     obtain ⟨p,c⟩:=pc
     obtain ⟨rfl,hk,hcd⟩:=hp.err hr
     have HK:=zh ((HRz.out.drew).kp.trans hk)
     have HP:=zh (show fnP pl l=.error (p,c) by unfold fnP;exact ((zpa H1.out _)).trans (((zpa H2.out _)).trans (((zpa HRS.out _)).trans ((zya hr _)))))
     clear hr hp hk
     go_wp2
     exact ⟨rfl,Run.err HK.out HP.out hcd⟩
    | ok q =>
     obtain ⟨a5,l5⟩:=q
     obtain ⟨v5,rfl,hv,hs,hl,hk⟩:=hp.ok hr
     obtain ⟨kv5,rfl,ht⟩:=hv
     have HT5:=zh (ht.weak (HBz.out.drew).lt)
     have huHN5:=Blk.zNb hk (HNz.out.drew).blk
     have huHE_5:=Blk.zNb hk (HEz.out.drew)
     have HU5:=zh (ht.mono (S':=fun b=>w.heap.size<b∧w1.heap.size<b∧w2y.heap.size<b) (fun b hb _=>by have:=Blk.zNb hk (HBz.out.drew);omega))
     have HF5:=zh (zzc.fresh hk (HNz.out.drew) ht)
     have HG5:=zh (zzc.zyg hk (HNz.out.drew) ht)
     have HR5:=zh ((HRz.out.drew).call hk hs)
     have hzR5:=HR5.out.size
     have HB5:=zh ((HBz.out.drew).kp hk (by omega))
     have hzHB5:=HB5.out.lt
     have HN5:=zh ((HNz.out.drew).kp hk (by first|omega|(have:=HR0.out.size;simp at *;omega)))
     have hzHN5:=HN5.out.lt
     have HE_5:=zh ((HEz.out.drew).kp hk (by first|omega|(have:=HR0.out.size;simp at *;omega)))
     have hzHE_5:=HE_5.out.lt
     have HTz_5:=zh ((HTz.out.drew).kp hk (fun b hb=>by omega))
     have HL5:=zh hl
     have H5:=zh hr
     clear hr hp hs hl hk ht
     unfold zna
     refine hK.out _ _ (fun _=>⟨HN5.out.blk,HE_5.out⟩) ?_
     clear hK K
     refine AnyE.one (i:=5) (by kernel_rfl) rfl (by rfl) (fun K hK=>?_)
     go_simp
     refine hK.out _ _ (fun _=>⟨(HN5.out.alloc _).blk,HE_5.out.alloc _⟩) ?_
     clear hK K
     refine AnyE.one (i:=6) (by kernel_rfl) rfl (by rfl) (fun K hK=>?_)
     refine zob (.tmp 28) (.tmp 32) rfl I (ts:=[T.mk 8 e0 0 (hdT l2).place [],a5]) rfl (HN5.out.alloc _).kids (us:=[.slice none 0 0,kv5]) (zGb.pair (HTz_5.out.alloc _) (HF5.out.alloc _)) ⟨by simp;omega,by simp;omega⟩ rfl rfl (by simp) (zoq w5 _ (T.mk 8 e0 0 (hdT l2).place []) a5 (.slice none 0 0) kv5) (by show ([]++a2).length+2≤_;simp;have:=HC2.out;omega) ?_
     intro v5x w5x hKx hgx _
     obtain ⟨sa5x,sn5x,sc5x,rfl⟩:=hKx.slice
     have HEy:=zh ((HE_5.out.alloc _).grown hgx (fun e=>HVO.out e.symm))
     obtain ⟨h1,h2,h3,hcx,hfx,h6⟩:=zwb (HR5.out.alloc _) (HB5.out.alloc _) (HN5.out.alloc _) hKx hgx
     have HR5x:=zh h1
     have HB5x:=zh h2
     have HN5x:=zh h3
     have HC5x:=zh h6
     clear h1 h2 h3 h6 hKx hgx
     refine hK.out _ _ (fun _=>⟨HC5x.out,HEy.out⟩) ?_
     clear hK K
     refine AnyE.one (i:=7) (by kernel_rfl) rfl (by rfl) (fun K hK=>?_)
     go_simp
     refine hK.out _ _ (fun _=>⟨HC5x.out,HEy.out⟩) ?_
     clear hK K
     refine AnyE.one (i:=8) (by kernel_rfl) rfl (by rfl) (fun K hK=>?_)
     go_simp
     refine hK.out _ _ (fun h=>absurd rfl h) ?_
     clear hK K
     refine AnyE.done (by kernel_rfl) ?_ _
     clear hcx hfx
     generalize w5x.setCell ⟨w1.heap.size,4,none⟩ (.slice sa5x sn5x sc5x)=w5y at HR5x HB5x HN5x ⊢
     have hzHB5y:=HB5x.out.lt
     have hzHN5y:=HN5x.out.lt
     have HP:=zh (show fnP pl l=.ok (T.mk 6 a1 0 pl ([]++a2++[T.mk 8 e0 0 (hdT l2).place [],a5]),l5) by unfold fnP;rw [List.nil_append];exact ((zpa H1.out _)).trans (((zpa H2.out _)).trans (((zpa HRS.out _)).trans ((zpa H5.out _)))))
     go_wp2_with (first|((with_reducible refine zqa 25 (.tmp 5) ?_);refine zia rfl 25 (.tmp 5) rfl (w1.heap.size) (zaa (T.mk 6 a1 0 pl ([]++a2++[T.mk 8 e0 0 (hdT l2).place [],a5])) (.slice sa5x sn5x sc5x)) rfl HN5x.out.blk Tryz.underlying25 rfl Tryz.zea ?_)|((with_reducible refine zla 25 (.tmp 4) ?_);refine zda rfl 25 (.tmp 4) (.tmp 35) rfl w.heap.size (zaa (T.mk 6 a1 0 pl ([]++a2++[T.mk 8 e0 0 (hdT l2).place [],a5])) (.slice sa5x sn5x sc5x)) rfl rfl HB5x.out Tryz.zea rfl (zca _ _ HN5x.out.kids.one) ?_))
     exact zma (cs:=zaa (T.mk 6 a1 0 pl ([]++a2++[T.mk 8 e0 0 (hdT l2).place [],a5])) (.slice sa5x sn5x sc5x)) Tryz.results86 rfl HB5x.out Tryz.underlying25 rfl Tryz.zea rfl (Run.node HR5x.out (TAt.zHa (HN5x.out.kids.mono (fun _ hb _=>hb.1))) HP.out (by have:=HL1.out;have:=HL2.out;have:=HL5.out;first|omega|(simp only [List.length_tail] at *;omega)))
   | true =>
    have HIi:=zh hi
    clear hi
    have HRS:=zh (show zAc l2=_ by unfold zAc;exact zFa HIi.out _ _)
    go_wp2_with fail
    refine (zLa (HR2x.out.alloc _).st HIi.out (by decide)).mono ?_
    rintro e w3 ⟨rfl,hs,hk⟩
    have HR3:=zh ((HR2x.out.alloc _).call hk hs)
    have hzR3:=HR3.out.size
    have HB3:=zh ((HB2x.out.alloc _).kp hk (by omega))
    have hzHB3:=HB3.out.lt
    have HN3:=zh ((HN2x.out.alloc _).kp hk (by first|omega|(have:=HR0.out.size;simp at *;omega)))
    have hzHN3:=HN3.out.lt
    have HE_3:=zh ((Blk.new w2y zba 25).kp hk (by first|omega|(have:=HR0.out.size;simp at *;omega)))
    have hzHE_3:=HE_3.out.lt
    have HX_3:=zh ((HX.out.alloc _).kp hk (fun b hb=>by omega))
    clear hs hk
    go_wp2_with fail
    refine (zCg HR3.out.st).mono ?_
    intro e w4 hp
    cases hr:zQa l2.tail with
    | error pc =>
     obtain ⟨p,c⟩:=pc
     obtain ⟨rfl,hk,hcd⟩:=hp.err hr
     have HK:=zh (HR3.out.kp.trans hk)
     have HP:=zh (show fnP pl l=.error (p,c) by unfold fnP;exact ((zpa H1.out _)).trans (((zpa H2.out _)).trans ((zya (HRS.out.trans hr) _))))
     clear hr hp hk
     go_wp2
     exact ⟨rfl,Run.err HK.out HP.out hcd⟩
    | ok q =>
     obtain ⟨a4,l4⟩:=q
     obtain ⟨v4,rfl,hv,hs,hl,hk⟩:=hp.ok hr
     obtain ⟨kv4,rfl,ht⟩:=hv
     have HT4:=zh (ht.weak HB3.out.lt)
     have huHN4:=Blk.zNb hk HN3.out.blk
     have huHE_4:=Blk.zNb hk HE_3.out
     have HU4:=zh (ht.mono (S':=fun b=>w.heap.size<b∧w1.heap.size<b∧w2y.heap.size<b) (fun b hb _=>by have:=Blk.zNb hk HB3.out;omega))
     have HF4:=zh (zzc.fresh hk HN3.out ht)
     have HG4:=zh (zzc.zyg hk HN3.out ht)
     have HR4:=zh (HR3.out.call hk hs)
     have hzR4:=HR4.out.size
     have HB4:=zh (HB3.out.kp hk (by omega))
     have hzHB4:=HB4.out.lt
     have HN4:=zh (HN3.out.kp hk (by first|omega|(have:=HR0.out.size;simp at *;omega)))
     have hzHN4:=HN4.out.lt
     have HE_4:=zh (HE_3.out.kp hk (by first|omega|(have:=HR0.out.size;simp at *;omega)))
     have hzHE_4:=HE_4.out.lt
     have HX_4:=zh (HX_3.out.kp hk (fun b hb=>by omega))
     have HL4:=zh hl
     have H4:=zh hr
     clear hr hp hs hl hk ht
     unfold zna
     go_wp2_with ((with_reducible refine zla 25 (.tmp 6) ?_);refine zda rfl 25 (.tmp 6) (.tmp 22) rfl (w2y.heap.size) (zaa (a4) (kv4)) rfl rfl HE_4.out Tryz.zea rfl (zca _ _ HT4.out.kat.one) ?_;have HRz:=zh (HR4.out.setRow (g:=w2y.heap.size) (by omega) (zaa (a4) (kv4)).toArray);have HBz:=zh (HB4.out.zta (w2y.heap.size) (zaa (a4) (kv4)).toArray (by omega));have HNz:=zh (show zzc w _ (w1.heap.size) (T.mk 6 a1 0 pl ([]++a2)) (.slice sa2x sn2x sc2x) from ⟨HN4.out.blk.zta (w2y.heap.size) (zaa (a4) (kv4)).toArray (by omega),(HX_4.out.setRow (w2y.heap.size) (zaa (a4) (kv4)).toArray (fun b hb=>by omega)).mono (fun b hb _=>hb.1),HN4.out.gt⟩);have HEz:=zh (HE_4.out.zra (zaa (a4) (kv4)));have HTz:Hid (TAt 25 _ (a4) (fun b=>(w.heap.size<b∧b≠w1.heap.size)∧(.slice sa2x sn2x sc2x:Value).ownBlock≠some b) (kv4)):=((HG4.out.setRow (w2y.heap.size) (zaa (a4) (kv4)).toArray (fun b hb=>by omega)).mono (fun b hb _=>hb.1));generalize w4.setRow (w2y.heap.size) (zaa (a4) (kv4)).toArray=wz at HRz HBz HNz HEz HTz ⊢;have hzHBz:=HBz.out.lt;have hzHNz:=HNz.out.lt;have hzHEz:=HEz.out.lt)
     go_wp2_with fail
     refine AnyE.zCc (S:=fun W=>Blk W (w1.heap.size) (zaa (T.mk 6 a1 0 pl ([]++a2)) (.slice sa2x sn2x sc2x)) 25∧Blk W (w2y.heap.size) (zaa (a4) (kv4)) 25) (by kernel_rfl) (And.intro HNz.out.drew.blk HEz.out.drew) (fun hS=>?_)
     refine AnyE.take (i:=0) (v:=.pointer (some ⟨w1.heap.size,4,none⟩)) rfl (by kernel_rfl) (by kernel_rfl) (by kernel_rfl) (by kernel_rfl) (fun _ _ _ h=>h) (Or.inl ⟨by rfl,fun W _=>by go_simp⟩) hS ?_
     refine AnyE.take (i:=1) (v:=.slice sa2x sn2x sc2x) rfl (by kernel_rfl) (by kernel_rfl) (by kernel_rfl) (by kernel_rfl) (fun _ _ _ h=>h) (Or.inl ⟨by rfl,fun W hW=>by have hcx:W.cell? ⟨w1.heap.size,4,none⟩=some (.slice sa2x sn2x sc2x):=hW.1.cell 4;go_simp⟩) hS ?_
     refine AnyE.take (i:=2) (v:=.agg #[.int .i64 (a4).kind,.string (a4).text,.int .i64 (a4).num,.int .i64 (a4).place,kv4]) rfl (by kernel_rfl) (by kernel_rfl) (by kernel_rfl) (by kernel_rfl) (fun _ _ _ h=>h) (yieldsIf_load_mid (cs:=zaa (a4) (kv4)) (by rfl) 25 (.tmp 6) rfl (w2y.heap.size) 0 rfl _ (fun W hW j v hj=>by rw [Nat.zero_add,(hW.2).cell j];exact hj) Tryz.underlying25 rfl Tryz.zea) hS ?_
     refine AnyE.take (i:=3) (v:=.pointer (some ⟨E.pb,0,none⟩)) rfl (by kernel_rfl) (by kernel_rfl) (by kernel_rfl) (by kernel_rfl) (fun _ _ _ h=>h) (Or.inl ⟨by rfl,fun W _=>by go_simp⟩) hS ?_
     refine AnyE.one (i:=4) (by kernel_rfl) rfl (by rfl) (fun K hK=>?_)
     go_simp
     refine (HBK.out.calls (HRz.out.drew).st).mono ?_
     intro e w5 hp
     cases hr:zYa 8 l4 with
     | error pc =>
      obtain ⟨p,c⟩:=pc
      obtain ⟨rfl,hk,hcd⟩:=hp.err hr
      have HK:=zh ((HRz.out.drew).kp.trans hk)
      have HP:=zh (show fnP pl l=.error (p,c) by unfold fnP;exact ((zpa H1.out _)).trans (((zpa H2.out _)).trans (((zpa (HRS.out.trans H4.out) _)).trans ((zya hr _)))))
      clear hr hp hk
      go_wp2
      exact ⟨rfl,Run.err HK.out HP.out hcd⟩
     | ok q =>
      obtain ⟨a5,l5⟩:=q
      obtain ⟨v5,rfl,hv,hs,hl,hk⟩:=hp.ok hr
      obtain ⟨kv5,rfl,ht⟩:=hv
      have HT5:=zh (ht.weak (HBz.out.drew).lt)
      have huHN5:=Blk.zNb hk (HNz.out.drew).blk
      have huHE_5:=Blk.zNb hk (HEz.out.drew)
      have HU5:=zh (ht.mono (S':=fun b=>w.heap.size<b∧w1.heap.size<b∧w2y.heap.size<b) (fun b hb _=>by have:=Blk.zNb hk (HBz.out.drew);omega))
      have HF5:=zh (zzc.fresh hk (HNz.out.drew) ht)
      have HG5:=zh (zzc.zyg hk (HNz.out.drew) ht)
      have HR5:=zh ((HRz.out.drew).call hk hs)
      have hzR5:=HR5.out.size
      have HB5:=zh ((HBz.out.drew).kp hk (by omega))
      have hzHB5:=HB5.out.lt
      have HN5:=zh ((HNz.out.drew).kp hk (by first|omega|(have:=HR0.out.size;simp at *;omega)))
      have hzHN5:=HN5.out.lt
      have HE_5:=zh ((HEz.out.drew).kp hk (by first|omega|(have:=HR0.out.size;simp at *;omega)))
      have hzHE_5:=HE_5.out.lt
      have HTz_5:=zh ((HTz.out.drew).kp hk (fun b hb=>by omega))
      have HL5:=zh hl
      have H5:=zh hr
      clear hr hp hs hl hk ht
      unfold zna
      refine hK.out _ _ (fun _=>⟨HN5.out.blk,HE_5.out⟩) ?_
      clear hK K
      refine AnyE.one (i:=5) (by kernel_rfl) rfl (by rfl) (fun K hK=>?_)
      go_simp
      refine hK.out _ _ (fun _=>⟨(HN5.out.alloc _).blk,HE_5.out.alloc _⟩) ?_
      clear hK K
      refine AnyE.one (i:=6) (by kernel_rfl) rfl (by rfl) (fun K hK=>?_)
      refine zob (.tmp 28) (.tmp 32) rfl I (ts:=[a4,a5]) rfl (HN5.out.alloc _).kids (us:=[kv4,kv5]) (zGb.pair (HTz_5.out.alloc _) (HF5.out.alloc _)) ⟨by simp;omega,by simp;omega⟩ rfl rfl (by simp) (zoq w5 _ (a4) a5 (kv4) kv5) (by show ([]++a2).length+2≤_;simp;have:=HC2.out;omega) ?_
      intro v5x w5x hKx hgx _
      obtain ⟨sa5x,sn5x,sc5x,rfl⟩:=hKx.slice
      have HEy:=zh ((HE_5.out.alloc _).grown hgx (fun e=>HVO.out e.symm))
      obtain ⟨h1,h2,h3,hcx,hfx,h6⟩:=zwb (HR5.out.alloc _) (HB5.out.alloc _) (HN5.out.alloc _) hKx hgx
      have HR5x:=zh h1
      have HB5x:=zh h2
      have HN5x:=zh h3
      have HC5x:=zh h6
      clear h1 h2 h3 h6 hKx hgx
      refine hK.out _ _ (fun _=>⟨HC5x.out,HEy.out⟩) ?_
      clear hK K
      refine AnyE.one (i:=7) (by kernel_rfl) rfl (by rfl) (fun K hK=>?_)
      go_simp
      refine hK.out _ _ (fun _=>⟨HC5x.out,HEy.out⟩) ?_
      clear hK K
      refine AnyE.one (i:=8) (by kernel_rfl) rfl (by rfl) (fun K hK=>?_)
      go_simp
      refine hK.out _ _ (fun h=>absurd rfl h) ?_
      clear hK K
      refine AnyE.done (by kernel_rfl) ?_ _
      clear hcx hfx
      generalize w5x.setCell ⟨w1.heap.size,4,none⟩ (.slice sa5x sn5x sc5x)=w5y at HR5x HB5x HN5x ⊢
      have hzHB5y:=HB5x.out.lt
      have hzHN5y:=HN5x.out.lt
      have HP:=zh (show fnP pl l=.ok (T.mk 6 a1 0 pl ([]++a2++[a4,a5]),l5) by unfold fnP;rw [List.nil_append];exact ((zpa H1.out _)).trans (((zpa H2.out _)).trans (((zpa (HRS.out.trans H4.out) _)).trans ((zpa H5.out _)))))
      go_wp2_with (first|((with_reducible refine zqa 25 (.tmp 5) ?_);refine zia rfl 25 (.tmp 5) rfl (w1.heap.size) (zaa (T.mk 6 a1 0 pl ([]++a2++[a4,a5])) (.slice sa5x sn5x sc5x)) rfl HN5x.out.blk Tryz.underlying25 rfl Tryz.zea ?_)|((with_reducible refine zla 25 (.tmp 4) ?_);refine zda rfl 25 (.tmp 4) (.tmp 35) rfl w.heap.size (zaa (T.mk 6 a1 0 pl ([]++a2++[a4,a5])) (.slice sa5x sn5x sc5x)) rfl rfl HB5x.out Tryz.zea rfl (zca _ _ HN5x.out.kids.one) ?_))
      exact zma (cs:=zaa (T.mk 6 a1 0 pl ([]++a2++[a4,a5])) (.slice sa5x sn5x sc5x)) Tryz.results86 rfl HB5x.out Tryz.underlying25 rfl Tryz.zea rfl (Run.node HR5x.out (TAt.zHa (HN5x.out.kids.mono (fun _ hb _=>hb.1))) HP.out (by have:=HL1.out;have:=HL2.out;have:=HL4.out;have:=HL5.out;first|omega|(simp only [List.length_tail] at *;omega)))
end
section
open Go.RowKit
theorem zDo {n:Nat} {l:List Tok} (hn:0<n) (h:((hdT l).kind == 0)=true):zQc n l=.ok ([],l):=by
 cases n with
 | zero=>omega
 | succ n=>rw [zQc,h];rfl
theorem zwj {n:Nat} {l:List Tok} (h:((hdT l).kind == 0)=false):zQc (n+1) l=bd (zfd l) fun a l1=>bd (zQc n l1) fun xs l2=>.ok (a :: xs,l2):=by
 rw [zQc,h];rfl
def zYs (E:Env) (w:World) (l:List Tok) (d:Nat) (gk:Nat) (wr:World):Prop :=
 ∃ (ks:List T) (lr:List Tok) (m:Nat) (v:Value),Run E w wr lr d∧Blk wr w.heap.size zba 25∧zzc w wr (w.heap.size+1) (T.mk 0 e0 0 0 ks) v ∧
  zQc (l.length+1) l=bd (zQc m lr) (fun xs l'=>.ok (ks++xs,l'))∧lr.length<m∧lr.length≤gk∧ks.length+lr.length≤l.length
theorem zQh {E:Env} {w:World} {l:List Tok} {d:Nat} (h:PSt E w l d) (hd:d=0) :
  Calls Tryz.prog 59 #[.pointer (some ⟨E.pb,0,none⟩)] w (zMb zTc E w l d (zfd l)):=by
 have HR0:=zh ((Run.start h).alloc (.cells zba.toArray 25))
 have HB0:=zh (Blk.new w zba 25)
 have HD:=zh hd
 clear hd
 have hlo:=h.plt
 have hlt:=h.tlt
 have hln:=h.len
 clear h
 go_enter Tryz.func59,Tryz.ntmps59
 go_wp2_with fail
 refine (zcb HR0.out.st [bs [116,121,112,101],bs [102,110]] (by decide) (by decide) (by simp) rfl rfl).mono ?_
 intro e w1 hp
 cases hr:zsa [bs [116,121,112,101],bs [102,110]] l with
 | error pc =>
  obtain ⟨p,c⟩:=pc
  obtain ⟨rfl,hk,hcd⟩:=hp.err hr
  have HK:=zh (HR0.out.kp.trans hk)
  have HP:=zh (show zfd l=.error (p,c) by unfold zfd;exact (zya hr _))
  clear hr hp hk
  go_wp2
  exact ⟨rfl,Run.err HK.out HP.out hcd⟩
 | ok q =>
  obtain ⟨a1,l1⟩:=q
  obtain ⟨v1,rfl,hv,hs,hl,hk⟩:=hp.ok hr
  obtain ⟨rfl,hto⟩:=hv
  have HR1:=zh (HR0.out.call hk hs)
  have hzR1:=HR1.out.size
  have HB1:=zh (HB0.out.kp hk (by omega))
  have hzHB1:=HB1.out.lt
  have HL1:=zh hl
  have H1:=zh hr
  clear hr hp hs hl hk hto
  unfold zmb
  cases ho:isT a1 (bs [116,121,112,101]) with
  | true =>
   have HO:=zh ho
   obtain ⟨ho2,ho3⟩:=ztd ho
   clear ho ho3
   go_wp2_with fail
   refine (zZi (HR1.out.alloc _).st _).mono ?_
   intro e w2 hp
   cases hr:zdc a1.place l1 with
   | error pc =>
    obtain ⟨p,c⟩:=pc
    obtain ⟨rfl,hk,hcd⟩:=hp.err hr
    have HK:=zh ((HR1.out.alloc _).kp.trans hk)
    have HP:=zh (show zfd l=.error (p,c) by unfold zfd;exact ((zpa H1.out _)).trans (((zFa HO.out _ _)).trans (hr)))
    clear hr hp hk
    go_wp2
    exact ⟨rfl,Run.err HK.out HP.out hcd⟩
   | ok q =>
    obtain ⟨a2,l2⟩:=q
    obtain ⟨v2,rfl,hv,hs,hl,hk⟩:=hp.ok hr
    obtain ⟨kv2,rfl,ht⟩:=hv
    have HT2:=zh (ht.weak (HB1.out.alloc _).lt)
    have HR2:=zh ((HR1.out.alloc _).call hk hs)
    have hzR2:=HR2.out.size
    have HB2:=zh ((HB1.out.alloc _).kp hk (by omega))
    have hzHB2:=HB2.out.lt
    have HL2:=zh hl
    have H2:=zh hr
    clear hr hp hs hl hk ht
    unfold zna
    have HP:=zh (show zfd l=.ok (a2,l2) by unfold zfd;exact ((zpa H1.out _)).trans (((zFa HO.out _ _)).trans (H2.out)))
    go_wp2_with ((with_reducible refine zla 25 (.tmp 2) ?_);refine zda rfl 25 (.tmp 2) (.tmp 18) rfl w.heap.size (zaa (a2) (kv2)) rfl rfl HB2.out Tryz.zea rfl (zca _ _ HT2.out.kat.one) ?_)
    exact zma (cs:=zaa (a2) (kv2)) Tryz.results59 rfl HB2.out Tryz.underlying25 rfl Tryz.zea rfl (Run.node HR2.out HT2.out.lo HP.out (by have:=HL1.out;have:=HL2.out;first|omega|(simp only [List.length_tail] at *;omega)))
  | false =>
   have HO:=zh ho
   obtain ⟨ho2,ho3⟩:=zlb ho
   clear ho ho3
   go_wp2_with fail
   refine (zEl (HR1.out.alloc _).st HD.out _).mono ?_
   intro e w2 hp
   cases hr:fnP a1.place l1 with
   | error pc =>
    obtain ⟨p,c⟩:=pc
    obtain ⟨rfl,hk,hcd⟩:=hp.err hr
    have HK:=zh ((HR1.out.alloc _).kp.trans hk)
    have HP:=zh (show zfd l=.error (p,c) by unfold zfd;exact ((zpa H1.out _)).trans (((zwa HO.out _ _)).trans (hr)))
    clear hr hp hk
    go_wp2
    exact ⟨rfl,Run.err HK.out HP.out hcd⟩
   | ok q =>
    obtain ⟨a2,l2⟩:=q
    obtain ⟨v2,rfl,hv,hs,hl,hk⟩:=hp.ok hr
    obtain ⟨kv2,rfl,ht⟩:=hv
    have HT2:=zh (ht.weak (HB1.out.alloc _).lt)
    have HR2:=zh ((HR1.out.alloc _).call hk hs)
    have hzR2:=HR2.out.size
    have HB2:=zh ((HB1.out.alloc _).kp hk (by omega))
    have hzHB2:=HB2.out.lt
    have HL2:=zh hl
    have H2:=zh hr
    clear hr hp hs hl hk ht
    unfold zna
    have HP:=zh (show zfd l=.ok (a2,l2) by unfold zfd;exact ((zpa H1.out _)).trans (((zwa HO.out _ _)).trans (H2.out)))
    go_wp2_with ((with_reducible refine zla 25 (.tmp 2) ?_);refine zda rfl 25 (.tmp 2) (.tmp 12) rfl w.heap.size (zaa (a2) (kv2)) rfl rfl HB2.out Tryz.zea rfl (zca _ _ HT2.out.kat.one) ?_)
    exact zma (cs:=zaa (a2) (kv2)) Tryz.results59 rfl HB2.out Tryz.underlying25 rfl Tryz.zea rfl (Run.node HR2.out HT2.out.lo HP.out (by have:=HL1.out;have:=HL2.out;first|omega|(simp only [List.length_tail] at *;omega)))
theorem zHr {E:Env} {w:World} {l:List Tok} {d:Nat} (h:PSt E w l d) (hd:d=0) :
  Calls Tryz.prog 32 #[.pointer (some ⟨E.pb,0,none⟩)] w (zxh zTc E w l d (zyd l)):=by
 have HR0:=zh ((Run.start h).alloc (.cells zba.toArray 25))
 have HB0:=zh (Blk.new w zba 25)
 have HD:=zh hd
 clear hd
 have hle:=h.le
 obtain ⟨i0,z0,I⟩:=Tryz.zce
 have hlo:=h.plt
 have hlt:=h.tlt
 have hln:=h.len
 clear h
 go_enter Tryz.func32,Tryz.ntmps32
 have HRa:=zh (HR0.out.alloc (.cells (zaa (T.mk 0 e0 0 0 []) (.slice none 0 0)).toArray 25))
 have HBa:=zh (HB0.out.alloc (.cells (zaa (T.mk 0 e0 0 0 []) (.slice none 0 0)).toArray 25))
 have HNa:Hid (zzc w ((w.alloc (.cells zba.toArray 25)).alloc (.cells (zaa (T.mk 0 e0 0 0 []) (.slice none 0 0)).toArray 25)) (w.heap.size+1) (T.mk 0 e0 0 0 []) (.slice none 0 0)):=(by
  have h1:=zzc.new (w:=w) (t:=T.mk 0 e0 0 0 []) (KAt.nil 25 (w.alloc (.cells zba.toArray 25)) (fun b=>w.heap.size<b)) (by simp)
  rw [show (w.alloc (.cells zba.toArray 25)).heap.size=w.heap.size+1 by simp] at h1
  exact h1)
 have HLL:=zh (show l.length≤16385 by omega)
 clear hle
 go_wp2_with fail
 go_loopg [5] l.length (fun gk _ wr=>zYs E w l d gk wr)
 case atStart =>
  refine ⟨[],l,l.length+1,_,HRa.out,HBa.out,HNa.out,?_,by omega,Nat.le_refl _,by simp⟩
  cases zQc (l.length+1) l with
  | error e=>rfl
  | ok q=>obtain ⟨x,y⟩:=q;rfl
 case round =>
  obtain ⟨ks,lr,mm,v,hR,hBl,hN,hE,hm,hg,hcnt⟩:=hrel
  have HR:=zh hR
  have HBr:=zh hBl
  have HNr:=zh hN
  have HE:=zh hE
  have HM:=zh hm
  have HG:=zh hg
  have HC:=zh hcnt
  have HP0:=zh hR.st.head.1
  have hzB:=hBl.lt
  have hzN:=hN.lt
  have hzK:ks.length≤16385:=by have:=HLL.out;omega
  clear hR hBl hN hE hm hg hcnt HRa HBa HNa HR0 HB0
  go_wp2_with fail
  refine (zJb HR.out.st).mono ?_
  rintro e w2 ⟨rfl,hb⟩
  have HR2:=zh (HR.out.below hb)
  have hzR2:=HR2.out.size
  have HB2:=zh (HBr.out.kp (Kp.of_below (pb:=E.pb) hb) (by omega))
  have hzHB2:=HB2.out.lt
  have HN2:=zh (HNr.out.kp (Kp.of_below (pb:=E.pb) hb) (by first|omega|(have:=HR0.out.size;simp at *;omega)))
  have hzHN2:=HN2.out.lt
  clear hb
  unfold zmb
  have fl0:=zjc
  have fl1:=zfc
  have fl3:=zic
  by_cases hkd:(hdT lr).kind=0
  ·
   have HI:=zh (show ((hdT lr).kind == 0)=true by rw [hkd];rfl)
   have hne:(((hdT lr).kind:Int) != 0)=false:=by rw [hkd];rfl
   clear hkd
   have HS:=zh (show zQc (l.length+1) l=.ok (ks,lr) by rw [HE.out,zpa (zDo (by have:=HM.out;omega) HI.out)];simp)
   have HP:=zh (show zyd l=.ok (T.mk 0 e0 0 0 ks,lr) by unfold zyd;exact (zpa HS.out _))
   go_wp2_with (first|((with_reducible refine zqa 25 (.tmp 3) ?_);refine zia rfl 25 (.tmp 3) rfl (w.heap.size+1) (zaa (T.mk 0 e0 0 0 ks) (v)) rfl HN2.out.blk Tryz.underlying25 rfl Tryz.zea ?_)|((with_reducible refine zla 25 (.tmp 2) ?_);refine zda rfl 25 (.tmp 2) (.tmp 16) rfl w.heap.size (zaa (T.mk 0 e0 0 0 ks) (v)) rfl rfl HB2.out Tryz.zea rfl (zca _ _ HN2.out.kids.one) ?_))
   exact zma (cs:=zaa (T.mk 0 e0 0 0 ks) (v)) Tryz.results32 rfl HB2.out Tryz.underlying25 rfl Tryz.zea rfl (Run.zTs HR2.out (TAt.zHa (HN2.out.kids.mono (fun _ hb _=>hb.1))) HP.out (by have:=HC.out;first|omega|(simp only [List.length_tail] at *;omega)))
  ·
   have HI:=zh (show ((hdT lr).kind == 0)=false from beq_eq_false_iff_ne.2 hkd)
   have hne:(((hdT lr).kind:Int) != 0)=true:=by simp;omega
   clear hkd
   obtain ⟨m0,rfl⟩:∃ m0,mm=m0+1:=⟨mm-1,by have:=HM.out;have:=HP0.out;omega⟩
   go_wp2_with fail
   refine AnyE.zCc (S:=fun W=>Blk W (w.heap.size+1) (zaa (T.mk 0 e0 0 0 ks) (v)) 25) (by kernel_rfl) (HN2.out.blk.drew) (fun hS=>?_)
   refine AnyE.take (i:=0) (v:=.pointer (some ⟨w.heap.size+1,4,none⟩)) rfl (by kernel_rfl) (by kernel_rfl) (by kernel_rfl) (by kernel_rfl) (fun _ _ _ h=>h) (Or.inl ⟨by rfl,fun W _=>by go_simp⟩) hS ?_
   refine AnyE.take (i:=1) (v:=v) rfl (by kernel_rfl) (by kernel_rfl) (by kernel_rfl) (by kernel_rfl) (fun _ _ _ h=>h) (Or.inl ⟨by rfl,fun W hW=>by have hcx:W.cell? ⟨w.heap.size+1,4,none⟩=some (v):=hW.cell 4;go_simp⟩) hS ?_
   refine AnyE.take (i:=2) (v:=.pointer (some ⟨E.pb,0,none⟩)) rfl (by kernel_rfl) (by kernel_rfl) (by kernel_rfl) (by kernel_rfl) (fun _ _ _ h=>h) (Or.inl ⟨by rfl,fun W _=>by go_simp⟩) hS ?_
   refine AnyE.one (i:=3) (by kernel_rfl) rfl (by rfl) (fun K hK=>?_)
   go_simp
   refine (zQh (HR2.out.drew).st HD.out).mono ?_
   intro e w3 hp
   cases hr:zfd lr with
   | error pc =>
    obtain ⟨p,c⟩:=pc
    obtain ⟨rfl,hk,hcd⟩:=hp.err hr
    have HK:=zh ((HR2.out.drew).kp.trans hk)
    have HP:=zh (show zyd l=.error (p,c) by unfold zyd;exact zya (HE.out.trans (zya ((zwj HI.out).trans ((zya hr _))) _)) _)
    clear hr hp hk
    go_wp2
    exact ⟨rfl,Run.errE HK.out HP.out hcd⟩
   | ok q =>
    obtain ⟨a3,l3⟩:=q
    obtain ⟨v3,rfl,hv,hs,hl,hk⟩:=hp.ok hr
    obtain ⟨kv3,rfl,ht⟩:=hv
    have HT3:=zh (ht.weak (HB2.out.drew).lt)
    have huHN3:=Blk.zNb hk (HN2.out.drew).blk
    have HU3:=zh (ht.mono (S':=fun b=>w.heap.size<b∧(w.heap.size+1)<b) (fun b hb _=>by have:=Blk.zNb hk (HB2.out.drew);omega))
    have HF3:=zh (zzc.fresh hk (HN2.out.drew) ht)
    have HG3:=zh (zzc.zyg hk (HN2.out.drew) ht)
    have HR3:=zh ((HR2.out.drew).call hk hs)
    have hzR3:=HR3.out.size
    have HB3:=zh ((HB2.out.drew).kp hk (by omega))
    have hzHB3:=HB3.out.lt
    have HN3:=zh ((HN2.out.drew).kp hk (by first|omega|(have:=HR0.out.size;simp at *;omega)))
    have hzHN3:=HN3.out.lt
    have HL3:=zh hl
    have H3:=zh hr
    clear hr hp hs hl hk ht
    unfold zna
    refine hK.out _ _ (fun _=>HN3.out.blk) ?_
    clear hK K
    refine AnyE.one (i:=4) (by kernel_rfl) rfl (by rfl) (fun K hK=>?_)
    go_simp
    refine hK.out _ _ (fun _=>(HN3.out.alloc _).blk) ?_
    clear hK K
    refine AnyE.one (i:=5) (by kernel_rfl) rfl (by rfl) (fun K hK=>?_)
    refine zob (.tmp 10) (.tmp 13) rfl I (ts:=[a3]) rfl (HN3.out.alloc _).kids (us:=[kv3]) (zGb.single (HF3.out.alloc _)) ⟨by simp;omega,by simp;omega⟩ rfl rfl (by simp) (zke w3 _ a3 kv3) (by show ks.length+_≤_;simp;omega) ?_
    intro v3x w3x hKx hgx _
    obtain ⟨sa3x,sn3x,sc3x,rfl⟩:=hKx.slice
    obtain ⟨h1,h2,h3,hcx,hfx,h6⟩:=zwb (HR3.out.alloc _) (HB3.out.alloc _) (HN3.out.alloc _) hKx hgx
    have HR3x:=zh h1
    have HB3x:=zh h2
    have HN3x:=zh h3
    have HC3x:=zh h6
    clear h1 h2 h3 h6 hKx hgx
    refine hK.out _ _ (fun _=>HC3x.out) ?_
    clear hK K
    refine AnyE.one (i:=6) (by kernel_rfl) rfl (by rfl) (fun K hK=>?_)
    go_simp
    refine hK.out _ _ (fun _=>HC3x.out) ?_
    clear hK K
    refine AnyE.one (i:=7) (by kernel_rfl) rfl (by rfl) (fun K hK=>?_)
    go_simp
    refine hK.out _ _ (fun h=>absurd rfl h) ?_
    clear hK K
    refine AnyE.done (by kernel_rfl) ?_ _
    clear hcx hfx
    generalize w3x.setCell ⟨w.heap.size+1,4,none⟩ (.slice sa3x sn3x sc3x)=w3y at HR3x HB3x HN3x ⊢
    have hzHB3y:=HB3x.out.lt
    have hzHN3y:=HN3x.out.lt
    go_wp2
    go_roundg (gk-1)
    case measure=>have:=HG.out;have:=HP0.out;omega
    case rel =>
     have h1:=HL3.out
     have h2:=HM.out
     have h4:=HG.out
     have h5:=HC.out
     have h6:=HP0.out
     refine ⟨ks++[a3],l3,m0,_,HR3x.out,HB3x.out,HN3x.out,?_,by omega,by omega,by simp;omega⟩
     rw [HE.out,zwj HI.out,zKn,zpa H3.out,zKn]
     congr 1
     funext xs l'
     simp [bd]
end
section
open Go.RowKit
theorem Tryz.zVe:(Tryz.prog.info? 77).map (·.size)=some 2:=by kernel_rfl
theorem zZk (v:Value) (w:World):(Instr.typeAssert (.iface 77 v) 20 77 true).run Tryz.prog w=.ok (.tuple #[v,.bool true]) w:=by
 simp [Instr.typeAssert,run_underlying Tryz.underlying77]
theorem catch_panicking (fb:Nat) (p:Nat) (c:Int) (w:World) (hb:Blk w fb [.int .i64 0,.int .i64 0] 77) :
  CallsD Tryz.prog 31 #[.pointer (some ⟨fb,0,none⟩)] (.panicking [{ v:=zGg p c,recovered:=false }]) w fun e u' w' =>
   e=.returned (.tuple #[])∧u'=.panicking [{ v:=zGg p c,recovered:=true }]∧Blk w' fb [.int .i64 p,.int .i64 c] 77∧w.grownBy w' (some fb):=by
 have HB:=zh hb
 have hlt:=hb.lt
 have hta:=zZk
 clear hb
 refine callsD_of_wpS Tryz.func31 rfl fun c₀ cs hu=>?_
 simp only [Tryz.ntmps31,List.size_toArray,List.length_cons,List.length_nil,Nat.reduceAdd,Nat.reduceSub,Array.replicate_succ,Array.replicate_zero,List.push_toArray,List.append_toArray,List.nil_append,List.cons_append]
 apply wpS_seq
 apply wpS_region
 unfold zGg at hu ⊢
 simp [wpOpsS,go_sem,recoverD,hu,Exit.thenS]
 refine wpS_of_wp ?_
 clear hu
 go_wp2_with ((with_reducible refine zla 77 (.tmp 0) ?_);refine zda rfl 77 (.tmp 0) (.tmp 15) rfl fb [.int .i64 p,.int .i64 c] rfl rfl (HB.out.alloc _) Tryz.zVe rfl (by simp [Value.oneCell']) ?_)
 refine ⟨rfl,_,rfl,.tuple #[],by simp [results,Tryz.results31],rfl,rfl,(HB.out.alloc _).zra [.int .i64 p,.int .i64 c],?_⟩
 exact ⟨rfl,rfl,rfl,by simp,fun k hk hn=>(setRow_other _ fb k _ (fun e=>hn (by rw [e]))).trans (Below.heap_alloc w _ k hk)⟩
theorem catch_idle (fb:Nat) (w:World) :
  CallsD Tryz.prog 31 #[.pointer (some ⟨fb,0,none⟩)] .returning w fun e u' w'=>e=.returned (.tuple #[])∧u'=.returning∧w'=w:=by
 refine callsD_of_wpS Tryz.func31 rfl fun c₀ cs hu=>?_
 simp only [Tryz.ntmps31,List.size_toArray,List.length_cons,List.length_nil,Nat.reduceAdd,Nat.reduceSub,Array.replicate_succ,Array.replicate_zero,List.push_toArray,List.append_toArray,List.nil_append,List.cons_append]
 apply wpS_seq
 apply wpS_region
 simp [wpOpsS,go_sem,recoverD,hu,Exit.thenS]
 refine wpS_of_wp ?_
 go_wp2_with fail
 refine ⟨rfl,.returning,?_,.tuple #[],by simp [results,Tryz.results31],rfl,rfl,rfl⟩
 cases c₀
 simp_all
def zKg (r:R T) (w:World) (e:Ending) (w':World):Prop :=
 match r with
 | .ok (t,_)=>∃ kv,e=.returned (.tuple #[zna t kv,.agg #[.int .i64 0,.int .i64 0]])∧TAt 25 w' t (fun b=>w.heap.size≤b) kv∧Below w.heap.size w w'
 | .error (p,c)=>e=.returned (.tuple #[zna zdb (.slice none 0 0),.agg #[.int .i64 p,.int .i64 c]])∧Below w.heap.size w w'∧(c=20∨c=21)
theorem zKg.zSh {r:R T} {w w':World} {e:Ending} {t:T} {l:List Tok} {kv:Value} (hr:r=.ok (t,l)) (he:e=.returned (.tuple #[zna t kv,.agg #[.int .i64 0,.int .i64 0]])) (ht:TAt 25 w' t (fun b=>w.heap.size≤b) kv) (hb:Below w.heap.size w w'):zKg r w e w':=by
 rw [hr];exact ⟨kv,he,ht,hb⟩
theorem zKg.zvp {r:R T} {w w':World} {e:Ending} {p:Nat} {c:Int} (hr:r=.error (p,c)) (he:e=.returned (.tuple #[zna zdb (.slice none 0 0),.agg #[.int .i64 p,.int .i64 c]])) (hb:Below w.heap.size w w') (hc:c=20∨c=21):zKg r w e w':=by
 rw [hr];exact ⟨he,hb,hc⟩
theorem zsh {P:Program} {fn:Func} {s u:Tmp} {ty tz t t':TypeId} (h:fn.results=#[.cell s ty,.cell u tz]) {tmps:Array Value} {W:World} {g g':Nat} {cs cs':List Value} {d d':TypeDesc}
  (hs:tmps.getD s undef=.pointer (some ⟨g,0,none⟩)) (hu':tmps.getD u undef=.pointer (some ⟨g',0,none⟩)) (hb:Blk W g cs t) (hb':Blk W g' cs' t') (hu:P.underlying ty=some d) (hd:d.isRow=true) (hi:(P.info? ty).map (·.size)=some cs.length)
  (hz:P.underlying tz=some d') (hd':d'.isRow=true) (hi':(P.info? tz).map (·.size)=some cs'.length):(results fn tmps).run P W=.ok (.tuple #[.agg cs.toArray,.agg cs'.toArray]) W:=by
 have hl:=run_loadVar_mid (P:=P) W g 0 ty cs d (fun j v hj=>by rw [Nat.zero_add,hb.cell j];exact hj) hu hd hi
 have hl':=run_loadVar_mid (P:=P) W g' 0 tz cs' d' (fun j v hj=>by rw [Nat.zero_add,hb'.cell j];exact hj) hz hd' hi'
 have h1:tmps[s]?.getD undef=.pointer (some ⟨g,0,none⟩):=by rw [← hs];simp
 have h2:tmps[u]?.getD undef=.pointer (some ⟨g',0,none⟩):=by rw [← hu'];simp
 simp [results,h,h1,h2,asAddr,hl,hl']
structure Toks (w:World) (tb cap:Nat) (ts:List Tok):Prop where
 row:zGi w tb ts
 lt:tb<w.heap.size
 ends:Ends ts
 ok:∀ t∈ts,zbk t
 len:ts.length≤16385
 capb:ts.length≤cap
theorem zkn {w:World} {tb cap:Nat} {ts:List Tok} (h:Toks w tb cap ts) :
  Calls Tryz.prog 14 #[.slice (some ⟨tb,0,none⟩) ts.length cap] w (zKg (zyd ts) w):=by
 have hmf:=zbc
 have HB0:=zh (((Blk.new w zba 25).alloc (.cells #[.int .i64 0,.int .i64 0] 77)).alloc (.cells #[.slice (some ⟨tb,0,none⟩) ts.length cap,.int .i64 0,.int .i64 0] 119))
 have HF0:=zh ((Blk.zTe w (.cells zba.toArray 25) [.int .i64 0,.int .i64 0] 77).alloc (.cells #[.slice (some ⟨tb,0,none⟩) ts.length cap,.int .i64 0,.int .i64 0] 119))
 have HST:Hid (PSt ⟨w.heap.size+2,tb,cap,ts⟩ (((w.alloc (.cells zba.toArray 25)).alloc (.cells #[.int .i64 0,.int .i64 0] 77)).alloc (.cells #[.slice (some ⟨tb,0,none⟩) ts.length cap,.int .i64 0,.int .i64 0] 119)) ts 0):=(by
  have hlt:=h.lt
  refine ⟨Nat.le_refl _,by simp,?_,?_,by show tb≠w.heap.size+2;omega,by simp;omega,h.ends,h.ok,h.len,h.capb,by omega⟩
  ·have h1:=heap_alloc_new ((w.alloc (.cells zba.toArray 25)).alloc (.cells #[.int .i64 0,.int .i64 0] 77)) (.cells #[.slice (some ⟨tb,0,none⟩) ts.length cap,.int .i64 0,.int .i64 0] 119)
   rw [show ((w.alloc (.cells zba.toArray 25)).alloc (.cells #[.int .i64 0,.int .i64 0] 77)).heap.size=w.heap.size+2 by simp] at h1
   simpa using h1
  ·exact h.row.same ((Below.heap_alloc _ _ _ (by simp;omega)).trans ((Below.heap_alloc _ _ _ (by simp;omega)).trans (Below.heap_alloc _ _ _ hlt))))
 have HW:=zh ((((Below.refl w.heap.size w).alloc (Nat.le_refl _) (.cells zba.toArray 25)).alloc (by simp) (.cells #[.int .i64 0,.int .i64 0] 77)).alloc (by simp;omega) (.cells #[.slice (some ⟨tb,0,none⟩) ts.length cap,.int .i64 0,.int .i64 0] 119))
 clear h
 go_enter_defers Tryz.func14,Tryz.ntmps14
 go_wp2_with fail
 refine (zHr HST.out rfl).mono ?_
 intro e w1 hp
 cases hr:zyd ts with
 | error pc =>
  obtain ⟨p,c⟩:=pc
  rw [hr] at hp
  obtain ⟨rfl,hk,hcd⟩:=hp
  have HB1:=zh (HB0.out.kp hk (by show _≠w.heap.size+2;omega))
  have HF1:=zh (HF0.out.kp hk (by show _≠w.heap.size+2;omega))
  have HW1:=zh (HW.out.grown hk (by simp;omega) (fun k hk=>by cases hk;show _≤w.heap.size+2;omega))
  clear hk hr
  go_wp2_with fail
  refine leaves_cons (f:=31) (args:=#[.pointer (some ⟨w.heap.size+1,0,none⟩)]) (by simp) (by simp [go_sem]) ?_
  refine (catch_panicking (w.heap.size+1) p c _ HF1.out).mono ?_
  rintro e u' w2 ⟨rfl,rfl,hb2,hg2⟩
  have hb1:=HB1.out.grown hg2 (by simp)
  exact ⟨_,zsh Tryz.results14 rfl rfl hb1 hb2 Tryz.underlying25 rfl Tryz.zea Tryz.underlying77 rfl Tryz.zVe,.zvp rfl rfl (HW1.out.grown hg2 HW1.out.size (fun k hk=>by cases hk;omega)) hcd⟩
 | ok q =>
  obtain ⟨t,l'⟩:=q
  rw [hr] at hp
  obtain ⟨v,rfl,⟨kv,rfl,ht⟩,hs,hl,hk⟩:=hp
  have HB1:=zh (HB0.out.kp hk (by show _≠w.heap.size+2;omega))
  have HF1:=zh (HF0.out.kp hk (by show _≠w.heap.size+2;omega))
  have HW1:=zh (HW.out.grown hk (by simp;omega) (fun k hk=>by cases hk;show _≤w.heap.size+2;omega))
  have HT:=zh (ht.mono (S':=fun b=>w.heap.size+1<b) (fun b hb _=>by simp at hb;omega))
  have HRR:=zh hr
  clear hk hr hs hl ht
  unfold zna
  go_wp2_with (first|((with_reducible refine zla 25 (.tmp 2) ?_);refine zda rfl 25 (.tmp 2) (.tmp 10) rfl w.heap.size (zaa t kv) rfl rfl HB1.out Tryz.zea rfl (zca _ _ HT.out.kat.one) ?_)|((with_reducible refine zla 77 (.tmp 3) ?_);refine zda rfl 77 (.tmp 3) (.tmp 11) rfl (w.heap.size+1) [.int .i64 0,.int .i64 0] rfl rfl (HF1.out.zta w.heap.size _ (by omega)) Tryz.zVe rfl (by simp [Value.oneCell']) ?_))
  refine leaves_cons (f:=31) (args:=#[.pointer (some ⟨w.heap.size+1,0,none⟩)]) (by simp) (by simp [go_sem]) ?_
  refine (catch_idle (w.heap.size+1) _).mono ?_
  rintro e u' w2 ⟨rfl,rfl,rfl⟩
  have hb1:=(HB1.out.zra (zaa t kv)).zta (w.heap.size+1) [.int .i64 0,.int .i64 0].toArray (by omega)
  have hb2:=(HF1.out.zta w.heap.size (zaa t kv).toArray (by omega)).zra [.int .i64 0,.int .i64 0]
  have hg:∀ (W:World) (g:Nat) (cs:Array Value),w.heap.size≤g→Below w.heap.size w W→Below w.heap.size w (W.setRow g cs):=fun W g cs hg hb =>
   ⟨hb.os,hb.tape,hb.output,by simpa using hb.size,fun k hk=>(setRow_other W g k cs (by omega)).trans (hb.block k hk)⟩
  exact ⟨_,zsh Tryz.results14 rfl rfl hb1 hb2 Tryz.underlying25 rfl Tryz.zea Tryz.underlying77 rfl Tryz.zVe,.zSh HRR.out rfl
   (((HT.out.setRow w.heap.size _ (fun b hb=>by omega)).setRow (w.heap.size+1) _ (fun b hb=>by omega)).mono (fun b hb _=>by omega)) (hg _ _ _ (by omega) (hg _ _ _ (Nat.le_refl _) HW1.out))⟩
end
section
open Go.RowKit
def zOt (w:World) (ks:List T) (g:Nat) (s i:Value) (wr:World):Prop :=
 ∃ k:Nat,k≤ks.length∧ks.length≤k+g∧i=.int .i64 k∧s=.int .i64 ((1+sizes (ks.take k):Nat):Int)∧Below w.heap.size w wr
theorem size_any:∀ (n:Nat) (t:T),t.size≤n→∀ {w:World} {S:Nat→Prop} {kv:Value},KAt 25 w t.kids S kv→t.size≤1000000 →
  Calls Tryz.prog 15 #[zna t kv] w fun e w'=>e=.returned (.int .i64 t.size)∧Below w.heap.size w w':=by
 intro n
 induction n with
 | zero=>intro t ht;cases t;rw [size_mk] at ht;omega
 | succ n ih =>
  intro t ht w S kv hk hbig
  have hts:t.size=1+sizes t.kids:=by cases t;rw [size_mk];rfl
  have HTS:=zh hts
  have HT:=zh ht
  have HBIG:=zh hbig
  have HIH:=zh (@ih)
  have hkl:t.kids.length≤sizes t.kids:=by
   have:∀ ks:List T,ks.length≤sizes ks:=fun ks=>by
    induction ks with
    | nil=>simp
    | cons a ks h=>rw [zBa];cases a;rw [size_mk];simp;omega
   exact this _
  have hkl2:t.kids.length≤1000000:=by omega
  rcases hk.form with ⟨rfl,hnil⟩|⟨g,cap,rfl,hg,hcap,hcm,hget⟩
  ·have HN:=zh hnil
   clear hk ih ht hbig hts hnil hkl hkl2
   unfold zna
   go_enter Tryz.func15,Tryz.ntmps15
   go_wp2_with fail
   refine wp_loop_rounds 1 ?_
   rw [rounds_succ]
   go_wp2_with fail
   go_ret
   refine ⟨?_,(Below.refl _ _).alloc (Nat.le_refl _) _⟩
   rw [HTS.out,HN.out,zAa]
   rfl
  ·have HG:=zh hget
   have HCAP:=zh hcap
   clear hk ih ht hbig hts hget hkl hcap
   unfold maxLen at hcm
   unfold zna
   go_enter Tryz.func15,Tryz.ntmps15
   go_wp2_with fail
   go_loopg [3,9] t.kids.length (fun gk s i wr=>zOt w t.kids gk s i wr)
   case atStart=>exact ⟨0,by omega,by omega,rfl,by rw [List.take_zero,zAa];rfl,(Below.refl _ _).alloc (Nat.le_refl _) _⟩
   case round =>
    obtain ⟨k,hk,hgk,rfl,rfl,hbel⟩:=hrel
    have HB:=zh hbel
    have hzw:=hbel.size
    have hsl:sizes (t.kids.take k)≤1000000:=by have h1:=zxg t.kids k;have h2:=HTS.out;have h3:=HBIG.out;omega
    clear hbel
    by_cases hlt:k<t.kids.length
    ·obtain ⟨u,hr,hT⟩:=HG.out k t.kids[k] (List.getElem?_eq_getElem hlt)
     have hne:=List.getElem?_eq_getElem hlt
     generalize t.kids[k]=tk at hr hT hne
     have HR:=zh (zua hr ((HB.out.mono (Nat.le_refl _))) hg)
     have HTK:=zh (hT.below (HB.out))
     have HNE:=zh hne
     have hcap:=HCAP.out
     have hks:=zAi hne
     clear hr hT hne
     go_wp2_with (first
      | ((with_reducible refine zqa 25 (.tmp 11) ?_);refine wpList_load_mid rfl 25 (.tmp 11) rfl g (k * 5) rfl (zaa tk u) _ HR.out Tryz.underlying25 rfl Tryz.zea ?_)
      | ((with_reducible refine zla 25 (.tmp 5) ?_);refine zga rfl 25 (.tmp 5) (.tmp 12) rfl (zaa tk u) (old:=zba) rfl rfl Tryz.zea rfl (zca _ _ HTK.out.kat.one) ?_)
      | ((with_reducible refine zqa 25 (.tmp 5) ?_);refine zia rfl 25 (.tmp 5) rfl wr.heap.size (zaa tk u) rfl (Blk.new wr _ _) Tryz.underlying25 rfl Tryz.zea ?_))
     refine (HIH.out tk (by have h2:=HTS.out;have h3:=HT.out;omega) (HTK.out.alloc _).kat (by have h2:=HTS.out;have h3:=HBIG.out;omega)).mono ?_
     rintro e w2 ⟨rfl,hb2⟩
     have HB2:=zh ((HB.out.alloc hzw _).trans (hb2.mono (by simp;omega)))
     have hks2:tk.size≤1000000:=by have h2:=HTS.out;have h3:=HBIG.out;omega
     clear hb2
     go_wp2
     go_roundg (gk-1)
     case measure=>omega
     case rel =>
      refine ⟨k+1,by omega,by omega,by go_num,?_,HB2.out⟩
      rw [znj _ _ _ HNE.out]
      go_num
    ·have HE:=zh (show t.kids.take k=t.kids from List.take_of_length_le (by omega))
     go_wp2
     go_ret
     exact ⟨by rw [HTS.out,HE.out];rfl,HB.out⟩
end
end Go.Proofs.YtpjnpffcnmgdcaaGreatDoor
