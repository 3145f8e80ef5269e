/- The contract of the parser's fnBehind. -/
import Derived.Test.YtdhmdfhnkppnmaaDoorY12
namespace Go.Proofs.YtdhmdfhnkppnmaaDoor
set_option maxRecDepth 100000
set_option maxHeartbeats 1000000
open Go.RowKit
theorem zEl (E:Env) (d:Nat):zUk E d 74 zlc:=⟨fun args w=>zWc Tryd.func74 (by kernel_rfl) (by kernel_rfl) args w,fun h=>zQl h⟩
theorem zEi {E:Env} {w:World} {l:List Tok} {d:Nat} (h:PSt E w l d) (hd:d=0) (pl:Nat) :
  Calls Tryd.prog 52 #[.pointer (some ⟨E.pb,0,none⟩),.int .i64 pl] w (zbb zNb E w l d (fnP pl l)):=by
 have HR0:=zh ((Run.start h).alloc (.cells zba.toArray 25))
 have HB0:=zh (Blk.new w zba 25)
 have HBK:=zh (zSn E 8 d (by omega))
 obtain ⟨i0,z0,I⟩:=Tryd.zOc
 have hmf:=zkb
 clear hd
 have hlo:=h.plt
 have hlt:=h.tlt
 have hln:=h.len
 clear h
 go_enter Tryd.func52,Tryd.ntmps52
 go_wp2_with fail
 refine (name_any HR0.out.st).mono ?_
 intro e w1 hp
 cases hr:zac l with
 | error pc =>
  obtain ⟨p,c⟩:=pc
  obtain ⟨rfl,hk,hcd⟩:=hp.err hr
  have HK:=zh (HR0.out.kp.trans hk)
  have HP:=zh (show fnP pl l=.error (p,c) by unfold fnP;exact (zpa hr _))
  clear hr hp hk
  go_wp2
  exact ⟨rfl,Run.err HK.out HP.out hcd⟩
 | ok q =>
  obtain ⟨a1,l1⟩:=q
  obtain ⟨v1,rfl,hv,hs,hl,hk⟩:=hp.ok hr
  obtain rfl:v1=.string a1:=hv
  have HR1:=zh (HR0.out.call hk hs)
  have hzR1:=HR1.out.size
  have HB1:=zh (HB0.out.kp hk (by omega))
  have hzHB1:=HB1.out.lt
  have HL1:=zh hl
  have H1:=zh hr
  clear hr hp hs hl hk
  go_wp2_with fail
  refine AnyE.zHb (S:=fun W=>Blk W (w1.heap.size) (zaa (T.mk 6 a1 0 pl []) (.slice none 0 0)) 25) (by kernel_rfl) ((zDb.new (w:=w) (t:=T.mk 6 a1 0 pl []) (KAt.nil _ w1 _) hzHB1).blk.drew) (fun hS=>?_)
  refine AnyE.take (i:=0) (v:=.pointer (some ⟨w1.heap.size,4,none⟩)) rfl (by kernel_rfl) (by kernel_rfl) (by kernel_rfl) (by kernel_rfl) (fun _ _ _ h=>h) (Or.inl ⟨by rfl,fun W _=>by go_simp⟩) hS ?_
  refine AnyE.take (i:=1) (v:=.slice none 0 0) rfl (by kernel_rfl) (by kernel_rfl) (by kernel_rfl) (by kernel_rfl) (fun _ _ _ h=>h) (Or.inl ⟨by rfl,fun W hW=>by have hcx:W.cell? ⟨w1.heap.size,4,none⟩=some (.slice none 0 0):=hW.cell 4;go_simp⟩) hS ?_
  refine AnyE.take (i:=2) (v:=.pointer (some ⟨E.pb,0,none⟩)) rfl (by kernel_rfl) (by kernel_rfl) (by kernel_rfl) (by kernel_rfl) (fun _ _ _ h=>h) (Or.inl ⟨by rfl,fun W _=>by go_simp⟩) hS ?_
  refine AnyE.take (i:=3) (v:=.pointer (some ⟨E.pb,0,none⟩)) rfl (by kernel_rfl) (by kernel_rfl) (by kernel_rfl) (by kernel_rfl) (fun _ _ _ h=>h) (Or.inl ⟨by rfl,fun W _=>by go_simp⟩) hS ?_
  refine AnyE.take (i:=4) (v:=.func (.func 74) #[.pointer (some ⟨E.pb,0,none⟩)] #[]) rfl (by kernel_rfl) (by kernel_rfl) (by kernel_rfl) (by kernel_rfl) (fun _ _ _ h=>h) (Or.inl ⟨by rfl,fun W _=>by go_simp⟩) hS ?_
  refine AnyE.one (i:=5) (by kernel_rfl) rfl (by rfl) (fun K hK=>?_)
  go_simp
  refine (zZd ((HR1.out.alloc _).drew).st (zEl E d)).mono ?_
  intro e w2 hp
  cases hr:zib zlc l1 with
  | error pc =>
   obtain ⟨p,c⟩:=pc
   obtain ⟨rfl,hk,hcd⟩:=hp.err hr
   have HK:=zh (((HR1.out.alloc _).drew).kp.trans hk)
   have HP:=zh (show fnP pl l=.error (p,c) by unfold fnP;exact ((zia H1.out _)).trans ((zpa hr _)))
   clear hr hp hk
   go_wp2
   exact ⟨rfl,Run.err HK.out HP.out hcd⟩
  | ok q =>
   obtain ⟨a2,l2⟩:=q
   obtain ⟨v2,rfl,hv,hs,hl,hk⟩:=hp.ok hr
   have HF2:=zh (zDb.zbf hk ((zDb.new (w:=w) (t:=T.mk 6 a1 0 pl []) (KAt.nil _ w1 _) hzHB1).drew) hv.1)
   have HC2:=zh hv.2
   have HR2:=zh (((HR1.out.alloc _).drew).call hk hs)
   have hzR2:=HR2.out.size
   have HB2:=zh (((HB1.out.alloc _).drew).kp hk (by omega))
   have hzHB2:=HB2.out.lt
   have HN2:=zh (((zDb.new (w:=w) (t:=T.mk 6 a1 0 pl []) (KAt.nil _ w1 _) hzHB1).drew).kp hk (by first|omega|(have:=HR0.out.size;simp at *;omega)))
   have hzHN2:=HN2.out.lt
   have HL2:=zh hl
   have H2:=zh hr
   clear hr hp hs hl hk hv
   refine hK.out _ _ (fun _=>HN2.out.blk) ?_
   clear hK K
   refine AnyE.one (i:=6) (by kernel_rfl) rfl (by rfl) (fun K hK=>?_)
   refine zvc (.tmp 12) (.tmp 16) rfl I rfl HN2.out.kids rfl HF2.out ⟨by omega,by omega⟩ (by show 0+_≤_;have:=HC2.out;omega) ?_
   intro v2x w2x hKx hgx
   obtain ⟨sa2x,sn2x,sc2x,rfl⟩:=hKx.slice
   obtain ⟨h1,h2,h3,hcx,hfx,h6⟩:=zTa HR2.out HB2.out HN2.out hKx hgx
   have HR2x:=zh h1
   have HB2x:=zh h2
   have HN2x:=zh h3
   have HC2x:=zh h6
   clear h1 h2 h3 h6 hKx hgx
   refine hK.out _ _ (fun _=>HC2x.out) ?_
   clear hK K
   refine AnyE.one (i:=7) (by kernel_rfl) rfl (by rfl) (fun K hK=>?_)
   go_simp
   refine hK.out _ _ (fun _=>HC2x.out) ?_
   clear hK K
   refine AnyE.one (i:=8) (by kernel_rfl) rfl (by rfl) (fun K hK=>?_)
   go_simp
   refine hK.out _ _ (fun h=>absurd rfl h) ?_
   clear hK K
   refine AnyE.done (by kernel_rfl) ?_ _
   clear hcx hfx
   generalize w2x.setCell ⟨w1.heap.size,4,none⟩ (.slice sa2x sn2x sc2x)=w2y at HR2x HB2x HN2x ⊢
   have hzHB2y:=HB2x.out.lt
   have hzHN2y:=HN2x.out.lt
   have HX:=zh (HN2x.out.kids.mono (S':=fun b=>(w.heap.size<b∧b≠w1.heap.size)∧b<w2y.heap.size) (fun b hb hl=>⟨hb,hl⟩))
   have HVO:=zh (show (.slice sa2x sn2x sc2x:Value).ownBlock≠some (w2y.heap.size) from fun he=>by obtain ⟨_,_,hS,_⟩:=HX.out;have:=(hS _ he).2;omega)
   cases hi:isT (hdT l2) (bs [45,62]) with
   | false =>
    have HIi:=zh hi
    clear hi
    have HRS:=zh (show zbd l2=_ by unfold zbd;exact zja HIi.out _ _)
    go_wp2_with fail
    refine (zFa (HR2x.out.alloc _).st HIi.out).mono ?_
    rintro e w3 ⟨rfl,hb⟩
    have HR3:=zh ((HR2x.out.alloc _).below hb)
    have hzR3:=HR3.out.size
    have HB3:=zh ((HB2x.out.alloc _).kp (Kp.of_below (pb:=E.pb) hb) (by omega))
    have hzHB3:=HB3.out.lt
    have HN3:=zh ((HN2x.out.alloc _).kp (Kp.of_below (pb:=E.pb) hb) (by first|omega|(have:=HR0.out.size;simp at *;omega)))
    have hzHN3:=HN3.out.lt
    have HE_3:=zh ((Blk.new w2y zba 25).kp (Kp.of_below (pb:=E.pb) hb) (by first|omega|(have:=HR0.out.size;simp at *;omega)))
    have hzHE_3:=HE_3.out.lt
    have HX_3:=zh ((HX.out.alloc _).below hb)
    clear hb
    go_wp2_with fail
    refine (zdb HR3.out.st).mono ?_
    rintro e w4 ⟨rfl,hb⟩
    have HR4:=zh (HR3.out.below hb)
    have hzR4:=HR4.out.size
    have HB4:=zh (HB3.out.kp (Kp.of_below (pb:=E.pb) hb) (by omega))
    have hzHB4:=HB4.out.lt
    have HN4:=zh (HN3.out.kp (Kp.of_below (pb:=E.pb) hb) (by first|omega|(have:=HR0.out.size;simp at *;omega)))
    have hzHN4:=HN4.out.lt
    have HE_4:=zh (HE_3.out.kp (Kp.of_below (pb:=E.pb) hb) (by first|omega|(have:=HR0.out.size;simp at *;omega)))
    have hzHE_4:=HE_4.out.lt
    have HX_4:=zh (HX_3.out.below hb)
    clear hb
    unfold zsb
    have fl0:=zrb
    have fl1:=zmb
    have fl3:=zpb
    go_wp2_with ((with_reducible refine zra 25 (.tmp 6) ?_);refine zea rfl 25 (.tmp 6) (.tmp 26) rfl (w2y.heap.size) (zaa (T.mk 8 e0 0 (hdT l2).place []) (.slice none 0 0)) rfl rfl HE_4.out Tryd.zca rfl (zda _ _ rfl) ?_;have HRz:=zh (HR4.out.setRow (g:=w2y.heap.size) (by omega) (zaa (T.mk 8 e0 0 (hdT l2).place []) (.slice none 0 0)).toArray);have HBz:=zh (HB4.out.zla (w2y.heap.size) (zaa (T.mk 8 e0 0 (hdT l2).place []) (.slice none 0 0)).toArray (by omega));have HNz:=zh (show zDb w _ (w1.heap.size) (T.mk 6 a1 0 pl ([]++a2)) (.slice sa2x sn2x sc2x) from ⟨HN4.out.blk.zla (w2y.heap.size) (zaa (T.mk 8 e0 0 (hdT l2).place []) (.slice none 0 0)).toArray (by omega),(HX_4.out.setRow (w2y.heap.size) (zaa (T.mk 8 e0 0 (hdT l2).place []) (.slice none 0 0)).toArray (fun b hb=>by omega)).mono (fun b hb _=>hb.1),HN4.out.gt⟩);have HEz:=zh (HE_4.out.zna (zaa (T.mk 8 e0 0 (hdT l2).place []) (.slice none 0 0)));have HTz:Hid (TAt 25 _ (T.mk 8 e0 0 (hdT l2).place []) (fun b=>(w.heap.size<b∧b≠w1.heap.size)∧(.slice sa2x sn2x sc2x:Value).ownBlock≠some b) (.slice none 0 0)):=((KAt.nil 25 (w4.setRow (w2y.heap.size) (zaa (T.mk 8 e0 0 (hdT l2).place []) (.slice none 0 0)).toArray) (fun b=>(w.heap.size<b∧b≠w1.heap.size)∧(.slice sa2x sn2x sc2x:Value).ownBlock≠some b)).tat _ _ _ _);generalize w4.setRow (w2y.heap.size) (zaa (T.mk 8 e0 0 (hdT l2).place []) (.slice none 0 0)).toArray=wz at HRz HBz HNz HEz HTz ⊢;have hzHBz:=HBz.out.lt;have hzHNz:=HNz.out.lt;have hzHEz:=HEz.out.lt)
    go_wp2_with fail
    refine AnyE.zHb (S:=fun W=>Blk W (w1.heap.size) (zaa (T.mk 6 a1 0 pl ([]++a2)) (.slice sa2x sn2x sc2x)) 25∧Blk W (w2y.heap.size) (zaa (T.mk 8 e0 0 (hdT l2).place []) (.slice none 0 0)) 25) (by kernel_rfl) (And.intro HNz.out.drew.blk HEz.out.drew) (fun hS=>?_)
    refine AnyE.take (i:=0) (v:=.pointer (some ⟨w1.heap.size,4,none⟩)) rfl (by kernel_rfl) (by kernel_rfl) (by kernel_rfl) (by kernel_rfl) (fun _ _ _ h=>h) (Or.inl ⟨by rfl,fun W _=>by go_simp⟩) hS ?_
    refine AnyE.take (i:=1) (v:=.slice sa2x sn2x sc2x) rfl (by kernel_rfl) (by kernel_rfl) (by kernel_rfl) (by kernel_rfl) (fun _ _ _ h=>h) (Or.inl ⟨by rfl,fun W hW=>by have hcx:W.cell? ⟨w1.heap.size,4,none⟩=some (.slice sa2x sn2x sc2x):=hW.1.cell 4;go_simp⟩) hS ?_
    refine AnyE.take (i:=2) (v:=.agg #[.int .i64 (T.mk 8 e0 0 (hdT l2).place []).kind,.string (T.mk 8 e0 0 (hdT l2).place []).text,.int .i64 (T.mk 8 e0 0 (hdT l2).place []).num,.int .i64 (T.mk 8 e0 0 (hdT l2).place []).place,.slice none 0 0]) rfl (by kernel_rfl) (by kernel_rfl) (by kernel_rfl) (by kernel_rfl) (fun _ _ _ h=>h) (yieldsIf_load_mid (cs:=zaa (T.mk 8 e0 0 (hdT l2).place []) (.slice none 0 0)) (by rfl) 25 (.tmp 6) rfl (w2y.heap.size) 0 rfl _ (fun W hW j v hj=>by rw [Nat.zero_add,(hW.2).cell j];exact hj) Tryd.underlying25 rfl Tryd.zca) hS ?_
    refine AnyE.take (i:=3) (v:=.pointer (some ⟨E.pb,0,none⟩)) rfl (by kernel_rfl) (by kernel_rfl) (by kernel_rfl) (by kernel_rfl) (fun _ _ _ h=>h) (Or.inl ⟨by rfl,fun W _=>by go_simp⟩) hS ?_
    refine AnyE.one (i:=4) (by kernel_rfl) rfl (by rfl) (fun K hK=>?_)
    go_simp
    refine (HBK.out.calls (HRz.out.drew).st).mono ?_
    intro e w5 hp
    cases hr:zgb 8 l2 with
    | error pc =>
     obtain ⟨p,c⟩:=pc
     obtain ⟨rfl,hk,hcd⟩:=hp.err hr
     have HK:=zh ((HRz.out.drew).kp.trans hk)
     have HP:=zh (show fnP pl l=.error (p,c) by unfold fnP;exact ((zia H1.out _)).trans (((zia H2.out _)).trans (((zia HRS.out _)).trans ((zpa hr _)))))
     clear hr hp hk
     go_wp2
     exact ⟨rfl,Run.err HK.out HP.out hcd⟩
    | ok q =>
     obtain ⟨a5,l5⟩:=q
     obtain ⟨v5,rfl,hv,hs,hl,hk⟩:=hp.ok hr
     obtain ⟨kv5,rfl,ht⟩:=hv
     have HT5:=zh (ht.weak (HBz.out.drew).lt)
     have huHN5:=Blk.zcb hk (HNz.out.drew).blk
     have huHE_5:=Blk.zcb hk (HEz.out.drew)
     have HU5:=zh (ht.mono (S':=fun b=>w.heap.size<b∧w1.heap.size<b∧w2y.heap.size<b) (fun b hb _=>by have:=Blk.zcb hk (HBz.out.drew);omega))
     have HF5:=zh (zDb.fresh hk (HNz.out.drew) ht)
     have HG5:=zh (zDb.zef hk (HNz.out.drew) ht)
     have HR5:=zh ((HRz.out.drew).call hk hs)
     have hzR5:=HR5.out.size
     have HB5:=zh ((HBz.out.drew).kp hk (by omega))
     have hzHB5:=HB5.out.lt
     have HN5:=zh ((HNz.out.drew).kp hk (by first|omega|(have:=HR0.out.size;simp at *;omega)))
     have hzHN5:=HN5.out.lt
     have HE_5:=zh ((HEz.out.drew).kp hk (by first|omega|(have:=HR0.out.size;simp at *;omega)))
     have hzHE_5:=HE_5.out.lt
     have HTz_5:=zh ((HTz.out.drew).kp hk (fun b hb=>by omega))
     have HL5:=zh hl
     have H5:=zh hr
     clear hr hp hs hl hk ht
     unfold zma
     refine hK.out _ _ (fun _=>⟨HN5.out.blk,HE_5.out⟩) ?_
     clear hK K
     refine AnyE.one (i:=5) (by kernel_rfl) rfl (by rfl) (fun K hK=>?_)
     go_simp
     refine hK.out _ _ (fun _=>⟨(HN5.out.alloc _).blk,HE_5.out.alloc _⟩) ?_
     clear hK K
     refine AnyE.one (i:=6) (by kernel_rfl) rfl (by rfl) (fun K hK=>?_)
     refine zOa (.tmp 28) (.tmp 32) rfl I (ts:=[T.mk 8 e0 0 (hdT l2).place [],a5]) rfl (HN5.out.alloc _).kids (us:=[.slice none 0 0,kv5]) (zlb.pair (HTz_5.out.alloc _) (HF5.out.alloc _)) ⟨by simp;omega,by simp;omega⟩ rfl rfl (by simp) (zlm w5 _ (T.mk 8 e0 0 (hdT l2).place []) a5 (.slice none 0 0) kv5) (by show ([]++a2).length+2≤_;simp;have:=HC2.out;omega) ?_
     intro v5x w5x hKx hgx _
     obtain ⟨sa5x,sn5x,sc5x,rfl⟩:=hKx.slice
     have HEy:=zh ((HE_5.out.alloc _).grown hgx (fun e=>HVO.out e.symm))
     obtain ⟨h1,h2,h3,hcx,hfx,h6⟩:=zTa (HR5.out.alloc _) (HB5.out.alloc _) (HN5.out.alloc _) hKx hgx
     have HR5x:=zh h1
     have HB5x:=zh h2
     have HN5x:=zh h3
     have HC5x:=zh h6
     clear h1 h2 h3 h6 hKx hgx
     refine hK.out _ _ (fun _=>⟨HC5x.out,HEy.out⟩) ?_
     clear hK K
     refine AnyE.one (i:=7) (by kernel_rfl) rfl (by rfl) (fun K hK=>?_)
     go_simp
     refine hK.out _ _ (fun _=>⟨HC5x.out,HEy.out⟩) ?_
     clear hK K
     refine AnyE.one (i:=8) (by kernel_rfl) rfl (by rfl) (fun K hK=>?_)
     go_simp
     refine hK.out _ _ (fun h=>absurd rfl h) ?_
     clear hK K
     refine AnyE.done (by kernel_rfl) ?_ _
     clear hcx hfx
     generalize w5x.setCell ⟨w1.heap.size,4,none⟩ (.slice sa5x sn5x sc5x)=w5y at HR5x HB5x HN5x ⊢
     have hzHB5y:=HB5x.out.lt
     have hzHN5y:=HN5x.out.lt
     have HP:=zh (show fnP pl l=.ok (T.mk 6 a1 0 pl ([]++a2++[T.mk 8 e0 0 (hdT l2).place [],a5]),l5) by unfold fnP;rw [List.nil_append];exact ((zia H1.out _)).trans (((zia H2.out _)).trans (((zia HRS.out _)).trans ((zia H5.out _)))))
     go_wp2_with (first|((with_reducible refine zva 25 (.tmp 5) ?_);refine zfa rfl 25 (.tmp 5) rfl (w1.heap.size) (zaa (T.mk 6 a1 0 pl ([]++a2++[T.mk 8 e0 0 (hdT l2).place [],a5])) (.slice sa5x sn5x sc5x)) rfl HN5x.out.blk Tryd.underlying25 rfl Tryd.zca ?_)|((with_reducible refine zra 25 (.tmp 4) ?_);refine zea rfl 25 (.tmp 4) (.tmp 35) rfl w.heap.size (zaa (T.mk 6 a1 0 pl ([]++a2++[T.mk 8 e0 0 (hdT l2).place [],a5])) (.slice sa5x sn5x sc5x)) rfl rfl HB5x.out Tryd.zca rfl (zda _ _ HN5x.out.kids.one) ?_))
     exact zua (cs:=zaa (T.mk 6 a1 0 pl ([]++a2++[T.mk 8 e0 0 (hdT l2).place [],a5])) (.slice sa5x sn5x sc5x)) Tryd.results52 rfl HB5x.out Tryd.underlying25 rfl Tryd.zca rfl (Run.node HR5x.out (TAt.zoc (HN5x.out.kids.mono (fun _ hb _=>hb.1))) HP.out (by have:=HL1.out;have:=HL2.out;have:=HL5.out;first|omega|(simp only [List.length_tail] at *;omega)))
   | true =>
    have HIi:=zh hi
    clear hi
    have HRS:=zh (show zbd l2=_ by unfold zbd;exact zya HIi.out _ _)
    go_wp2_with fail
    refine (zBa (HR2x.out.alloc _).st HIi.out (by decide)).mono ?_
    rintro e w3 ⟨rfl,hs,hk⟩
    have HR3:=zh ((HR2x.out.alloc _).call hk hs)
    have hzR3:=HR3.out.size
    have HB3:=zh ((HB2x.out.alloc _).kp hk (by omega))
    have hzHB3:=HB3.out.lt
    have HN3:=zh ((HN2x.out.alloc _).kp hk (by first|omega|(have:=HR0.out.size;simp at *;omega)))
    have hzHN3:=HN3.out.lt
    have HE_3:=zh ((Blk.new w2y zba 25).kp hk (by first|omega|(have:=HR0.out.size;simp at *;omega)))
    have hzHE_3:=HE_3.out.lt
    have HX_3:=zh ((HX.out.alloc _).kp hk (fun b hb=>by omega))
    clear hs hk
    go_wp2_with fail
    refine (zVe HR3.out.st).mono ?_
    intro e w4 hp
    cases hr:zKa l2.tail with
    | error pc =>
     obtain ⟨p,c⟩:=pc
     obtain ⟨rfl,hk,hcd⟩:=hp.err hr
     have HK:=zh (HR3.out.kp.trans hk)
     have HP:=zh (show fnP pl l=.error (p,c) by unfold fnP;exact ((zia H1.out _)).trans (((zia H2.out _)).trans ((zpa (HRS.out.trans hr) _))))
     clear hr hp hk
     go_wp2
     exact ⟨rfl,Run.err HK.out HP.out hcd⟩
    | ok q =>
     obtain ⟨a4,l4⟩:=q
     obtain ⟨v4,rfl,hv,hs,hl,hk⟩:=hp.ok hr
     obtain ⟨kv4,rfl,ht⟩:=hv
     have HT4:=zh (ht.weak HB3.out.lt)
     have huHN4:=Blk.zcb hk HN3.out.blk
     have huHE_4:=Blk.zcb hk HE_3.out
     have HU4:=zh (ht.mono (S':=fun b=>w.heap.size<b∧w1.heap.size<b∧w2y.heap.size<b) (fun b hb _=>by have:=Blk.zcb hk HB3.out;omega))
     have HF4:=zh (zDb.fresh hk HN3.out ht)
     have HG4:=zh (zDb.zef hk HN3.out ht)
     have HR4:=zh (HR3.out.call hk hs)
     have hzR4:=HR4.out.size
     have HB4:=zh (HB3.out.kp hk (by omega))
     have hzHB4:=HB4.out.lt
     have HN4:=zh (HN3.out.kp hk (by first|omega|(have:=HR0.out.size;simp at *;omega)))
     have hzHN4:=HN4.out.lt
     have HE_4:=zh (HE_3.out.kp hk (by first|omega|(have:=HR0.out.size;simp at *;omega)))
     have hzHE_4:=HE_4.out.lt
     have HX_4:=zh (HX_3.out.kp hk (fun b hb=>by omega))
     have HL4:=zh hl
     have H4:=zh hr
     clear hr hp hs hl hk ht
     unfold zma
     go_wp2_with ((with_reducible refine zra 25 (.tmp 6) ?_);refine zea rfl 25 (.tmp 6) (.tmp 22) rfl (w2y.heap.size) (zaa (a4) (kv4)) rfl rfl HE_4.out Tryd.zca rfl (zda _ _ HT4.out.kat.one) ?_;have HRz:=zh (HR4.out.setRow (g:=w2y.heap.size) (by omega) (zaa (a4) (kv4)).toArray);have HBz:=zh (HB4.out.zla (w2y.heap.size) (zaa (a4) (kv4)).toArray (by omega));have HNz:=zh (show zDb w _ (w1.heap.size) (T.mk 6 a1 0 pl ([]++a2)) (.slice sa2x sn2x sc2x) from ⟨HN4.out.blk.zla (w2y.heap.size) (zaa (a4) (kv4)).toArray (by omega),(HX_4.out.setRow (w2y.heap.size) (zaa (a4) (kv4)).toArray (fun b hb=>by omega)).mono (fun b hb _=>hb.1),HN4.out.gt⟩);have HEz:=zh (HE_4.out.zna (zaa (a4) (kv4)));have HTz:Hid (TAt 25 _ (a4) (fun b=>(w.heap.size<b∧b≠w1.heap.size)∧(.slice sa2x sn2x sc2x:Value).ownBlock≠some b) (kv4)):=((HG4.out.setRow (w2y.heap.size) (zaa (a4) (kv4)).toArray (fun b hb=>by omega)).mono (fun b hb _=>hb.1));generalize w4.setRow (w2y.heap.size) (zaa (a4) (kv4)).toArray=wz at HRz HBz HNz HEz HTz ⊢;have hzHBz:=HBz.out.lt;have hzHNz:=HNz.out.lt;have hzHEz:=HEz.out.lt)
     go_wp2_with fail
     refine AnyE.zHb (S:=fun W=>Blk W (w1.heap.size) (zaa (T.mk 6 a1 0 pl ([]++a2)) (.slice sa2x sn2x sc2x)) 25∧Blk W (w2y.heap.size) (zaa (a4) (kv4)) 25) (by kernel_rfl) (And.intro HNz.out.drew.blk HEz.out.drew) (fun hS=>?_)
     refine AnyE.take (i:=0) (v:=.pointer (some ⟨w1.heap.size,4,none⟩)) rfl (by kernel_rfl) (by kernel_rfl) (by kernel_rfl) (by kernel_rfl) (fun _ _ _ h=>h) (Or.inl ⟨by rfl,fun W _=>by go_simp⟩) hS ?_
     refine AnyE.take (i:=1) (v:=.slice sa2x sn2x sc2x) rfl (by kernel_rfl) (by kernel_rfl) (by kernel_rfl) (by kernel_rfl) (fun _ _ _ h=>h) (Or.inl ⟨by rfl,fun W hW=>by have hcx:W.cell? ⟨w1.heap.size,4,none⟩=some (.slice sa2x sn2x sc2x):=hW.1.cell 4;go_simp⟩) hS ?_
     refine AnyE.take (i:=2) (v:=.agg #[.int .i64 (a4).kind,.string (a4).text,.int .i64 (a4).num,.int .i64 (a4).place,kv4]) rfl (by kernel_rfl) (by kernel_rfl) (by kernel_rfl) (by kernel_rfl) (fun _ _ _ h=>h) (yieldsIf_load_mid (cs:=zaa (a4) (kv4)) (by rfl) 25 (.tmp 6) rfl (w2y.heap.size) 0 rfl _ (fun W hW j v hj=>by rw [Nat.zero_add,(hW.2).cell j];exact hj) Tryd.underlying25 rfl Tryd.zca) hS ?_
     refine AnyE.take (i:=3) (v:=.pointer (some ⟨E.pb,0,none⟩)) rfl (by kernel_rfl) (by kernel_rfl) (by kernel_rfl) (by kernel_rfl) (fun _ _ _ h=>h) (Or.inl ⟨by rfl,fun W _=>by go_simp⟩) hS ?_
     refine AnyE.one (i:=4) (by kernel_rfl) rfl (by rfl) (fun K hK=>?_)
     go_simp
     refine (HBK.out.calls (HRz.out.drew).st).mono ?_
     intro e w5 hp
     cases hr:zgb 8 l4 with
     | error pc =>
      obtain ⟨p,c⟩:=pc
      obtain ⟨rfl,hk,hcd⟩:=hp.err hr
      have HK:=zh ((HRz.out.drew).kp.trans hk)
      have HP:=zh (show fnP pl l=.error (p,c) by unfold fnP;exact ((zia H1.out _)).trans (((zia H2.out _)).trans (((zia (HRS.out.trans H4.out) _)).trans ((zpa hr _)))))
      clear hr hp hk
      go_wp2
      exact ⟨rfl,Run.err HK.out HP.out hcd⟩
     | ok q =>
      obtain ⟨a5,l5⟩:=q
      obtain ⟨v5,rfl,hv,hs,hl,hk⟩:=hp.ok hr
      obtain ⟨kv5,rfl,ht⟩:=hv
      have HT5:=zh (ht.weak (HBz.out.drew).lt)
      have huHN5:=Blk.zcb hk (HNz.out.drew).blk
      have huHE_5:=Blk.zcb hk (HEz.out.drew)
      have HU5:=zh (ht.mono (S':=fun b=>w.heap.size<b∧w1.heap.size<b∧w2y.heap.size<b) (fun b hb _=>by have:=Blk.zcb hk (HBz.out.drew);omega))
      have HF5:=zh (zDb.fresh hk (HNz.out.drew) ht)
      have HG5:=zh (zDb.zef hk (HNz.out.drew) ht)
      have HR5:=zh ((HRz.out.drew).call hk hs)
      have hzR5:=HR5.out.size
      have HB5:=zh ((HBz.out.drew).kp hk (by omega))
      have hzHB5:=HB5.out.lt
      have HN5:=zh ((HNz.out.drew).kp hk (by first|omega|(have:=HR0.out.size;simp at *;omega)))
      have hzHN5:=HN5.out.lt
      have HE_5:=zh ((HEz.out.drew).kp hk (by first|omega|(have:=HR0.out.size;simp at *;omega)))
      have hzHE_5:=HE_5.out.lt
      have HTz_5:=zh ((HTz.out.drew).kp hk (fun b hb=>by omega))
      have HL5:=zh hl
      have H5:=zh hr
      clear hr hp hs hl hk ht
      unfold zma
      refine hK.out _ _ (fun _=>⟨HN5.out.blk,HE_5.out⟩) ?_
      clear hK K
      refine AnyE.one (i:=5) (by kernel_rfl) rfl (by rfl) (fun K hK=>?_)
      go_simp
      refine hK.out _ _ (fun _=>⟨(HN5.out.alloc _).blk,HE_5.out.alloc _⟩) ?_
      clear hK K
      refine AnyE.one (i:=6) (by kernel_rfl) rfl (by rfl) (fun K hK=>?_)
      refine zOa (.tmp 28) (.tmp 32) rfl I (ts:=[a4,a5]) rfl (HN5.out.alloc _).kids (us:=[kv4,kv5]) (zlb.pair (HTz_5.out.alloc _) (HF5.out.alloc _)) ⟨by simp;omega,by simp;omega⟩ rfl rfl (by simp) (zlm w5 _ (a4) a5 (kv4) kv5) (by show ([]++a2).length+2≤_;simp;have:=HC2.out;omega) ?_
      intro v5x w5x hKx hgx _
      obtain ⟨sa5x,sn5x,sc5x,rfl⟩:=hKx.slice
      have HEy:=zh ((HE_5.out.alloc _).grown hgx (fun e=>HVO.out e.symm))
      obtain ⟨h1,h2,h3,hcx,hfx,h6⟩:=zTa (HR5.out.alloc _) (HB5.out.alloc _) (HN5.out.alloc _) hKx hgx
      have HR5x:=zh h1
      have HB5x:=zh h2
      have HN5x:=zh h3
      have HC5x:=zh h6
      clear h1 h2 h3 h6 hKx hgx
      refine hK.out _ _ (fun _=>⟨HC5x.out,HEy.out⟩) ?_
      clear hK K
      refine AnyE.one (i:=7) (by kernel_rfl) rfl (by rfl) (fun K hK=>?_)
      go_simp
      refine hK.out _ _ (fun _=>⟨HC5x.out,HEy.out⟩) ?_
      clear hK K
      refine AnyE.one (i:=8) (by kernel_rfl) rfl (by rfl) (fun K hK=>?_)
      go_simp
      refine hK.out _ _ (fun h=>absurd rfl h) ?_
      clear hK K
      refine AnyE.done (by kernel_rfl) ?_ _
      clear hcx hfx
      generalize w5x.setCell ⟨w1.heap.size,4,none⟩ (.slice sa5x sn5x sc5x)=w5y at HR5x HB5x HN5x ⊢
      have hzHB5y:=HB5x.out.lt
      have hzHN5y:=HN5x.out.lt
      have HP:=zh (show fnP pl l=.ok (T.mk 6 a1 0 pl ([]++a2++[a4,a5]),l5) by unfold fnP;rw [List.nil_append];exact ((zia H1.out _)).trans (((zia H2.out _)).trans (((zia (HRS.out.trans H4.out) _)).trans ((zia H5.out _)))))
      go_wp2_with (first|((with_reducible refine zva 25 (.tmp 5) ?_);refine zfa rfl 25 (.tmp 5) rfl (w1.heap.size) (zaa (T.mk 6 a1 0 pl ([]++a2++[a4,a5])) (.slice sa5x sn5x sc5x)) rfl HN5x.out.blk Tryd.underlying25 rfl Tryd.zca ?_)|((with_reducible refine zra 25 (.tmp 4) ?_);refine zea rfl 25 (.tmp 4) (.tmp 35) rfl w.heap.size (zaa (T.mk 6 a1 0 pl ([]++a2++[a4,a5])) (.slice sa5x sn5x sc5x)) rfl rfl HB5x.out Tryd.zca rfl (zda _ _ HN5x.out.kids.one) ?_))
      exact zua (cs:=zaa (T.mk 6 a1 0 pl ([]++a2++[a4,a5])) (.slice sa5x sn5x sc5x)) Tryd.results52 rfl HB5x.out Tryd.underlying25 rfl Tryd.zca rfl (Run.node HR5x.out (TAt.zoc (HN5x.out.kids.mono (fun _ hb _=>hb.1))) HP.out (by have:=HL1.out;have:=HL2.out;have:=HL4.out;have:=HL5.out;first|omega|(simp only [List.length_tail] at *;omega)))
end Go.Proofs.YtdhmdfhnkppnmaaDoor
