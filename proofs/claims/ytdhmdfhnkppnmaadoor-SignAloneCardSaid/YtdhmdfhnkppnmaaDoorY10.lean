/- The contracts of the parser's compare, fact, field, sort, valueMode, mode, param. -/
import Derived.Test.YtdhmdfhnkppnmaaDoorY07
namespace Go.Proofs.YtdhmdfhnkppnmaaDoor
set_option maxRecDepth 100000
set_option maxHeartbeats 1000000
open Go.RowKit
theorem zGe {E:Env} {w:World} {l:List Tok} {d:Nat} (h:PSt E w l d) (k:Int) (pl:Nat) :
  Calls Tryd.prog 83 #[.pointer (some ⟨E.pb,0,none⟩),.int .i64 k,.int .i64 pl] w (zbb zNb E w l d (zRa k pl l)):=by
 have HR0:=zh ((Run.start h).alloc (.cells zba.toArray 25))
 have HB0:=zh (Blk.new w zba 25)
 have hlo:=h.plt
 have hlt:=h.tlt
 have hln:=h.len
 clear h
 go_enter Tryd.func83,Tryd.ntmps83
 go_wp2_with fail
 refine (zoe HR0.out.st).mono ?_
 intro e w1 hp
 cases hr:zKb l with
 | error pc =>
  obtain ⟨p,c⟩:=pc
  obtain ⟨rfl,hk,hcd⟩:=hp.err hr
  have HK:=zh (HR0.out.kp.trans hk)
  have HP:=zh (show zRa k pl l=.error (p,c) by unfold zRa;exact (zpa hr _))
  clear hr hp hk
  go_wp2
  exact ⟨rfl,Run.err HK.out HP.out hcd⟩
 | ok q =>
  obtain ⟨a1,l1⟩:=q
  obtain ⟨v1,rfl,hv,hs,hl,hk⟩:=hp.ok hr
  obtain ⟨kv1,rfl,ht⟩:=hv
  have HT1:=zh (ht.weak HB0.out.lt)
  have HR1:=zh (HR0.out.call hk hs)
  have hzR1:=HR1.out.size
  have HB1:=zh (HB0.out.kp hk (by omega))
  have hzHB1:=HB1.out.lt
  have HL1:=zh hl
  have H1:=zh hr
  clear hr hp hs hl hk ht
  unfold zma
  go_wp2_with ((with_reducible refine zra 25 (.tmp 7) ?_);refine zga rfl 25 (.tmp 7) (.tmp 10) rfl (zaa (a1) (kv1)) (old:=zba) rfl rfl Tryd.zca rfl (zda _ _ HT1.out.kat.one) ?_)
  go_wp2_with fail
  refine (zLa (HR1.out.alloc _).st [bs [60],bs [60,61],bs [61,61]] (by decide) (by decide) (by simp) rfl rfl).mono ?_
  intro e w2 hp
  cases hr:zxa [bs [60],bs [60,61],bs [61,61]] l1 with
  | error pc =>
   obtain ⟨p,c⟩:=pc
   obtain ⟨rfl,hk,hcd⟩:=hp.err hr
   have HK:=zh ((HR1.out.alloc _).kp.trans hk)
   have HP:=zh (show zRa k pl l=.error (p,c) by unfold zRa;exact ((zia H1.out _)).trans ((zpa hr _)))
   clear hr hp hk
   go_wp2
   exact ⟨rfl,Run.err HK.out HP.out hcd⟩
  | ok q =>
   obtain ⟨a2,l2⟩:=q
   obtain ⟨v2,rfl,hv,hs,hl,hk⟩:=hp.ok hr
   obtain ⟨rfl,hto⟩:=hv
   have HR2:=zh ((HR1.out.alloc _).call hk hs)
   have hzR2:=HR2.out.size
   have HB2:=zh ((HB1.out.alloc _).kp hk (by omega))
   have hzHB2:=HB2.out.lt
   have HN2:=zh ((Blk.new w1 (zaa (a1) (kv1)) 25).kp hk (by first|omega|(have:=HR0.out.size;simp at *;omega)))
   have hzHN2:=HN2.out.lt
   have HT1_2:=zh ((HT1.out.alloc _).kp hk (fun b hb=>by omega))
   have HL2:=zh hl
   have H2:=zh hr
   clear hr hp hs hl hk hto
   unfold zsb
   go_wp2_with fail
   refine AnyE.zHb (S:=fun W=>Blk W w2.heap.size (zAa a2) 73∧Blk W w1.heap.size (zaa a1 kv1) 25) (by kernel_rfl) (And.intro (Blk.new w2 (zAa a2) 73).drew (HN2.out.alloc _).drew) (fun hS=>?_)
   refine AnyE.take (i:=0) (v:=.int .i64 k) rfl (by kernel_rfl) (by kernel_rfl) (by kernel_rfl) (by kernel_rfl) (fun _ _ _ h=>h) (Or.inl ⟨by rfl,fun W _=>by go_simp⟩) hS ?_
   refine AnyE.take (i:=1) (v:=.pointer (some ⟨w2.heap.size,1,none⟩)) rfl (by kernel_rfl) (by kernel_rfl) (by kernel_rfl) (by kernel_rfl) (fun _ _ _ h=>h) (Or.inl ⟨by rfl,fun W _=>by go_simp⟩) hS ?_
   refine AnyE.take (i:=2) (v:=.string a2.text) rfl (by kernel_rfl) (by kernel_rfl) (by kernel_rfl) (by kernel_rfl) (fun _ _ _ h=>h) (Or.inl ⟨by rfl,fun W hW=>by have hcx:W.cell? ⟨w2.heap.size,1,none⟩=some (.string a2.text):=hW.1.cell 1;go_simp⟩) hS ?_
   refine AnyE.take (i:=3) (v:=.int .i64 pl) rfl (by kernel_rfl) (by kernel_rfl) (by kernel_rfl) (by kernel_rfl) (fun _ _ _ h=>h) (Or.inl ⟨by rfl,fun W _=>by go_simp⟩) hS ?_
   refine AnyE.take (i:=4) (v:=.agg #[.int .i64 (a1).kind,.string (a1).text,.int .i64 (a1).num,.int .i64 (a1).place,kv1]) rfl (by kernel_rfl) (by kernel_rfl) (by kernel_rfl) (by kernel_rfl) (fun _ _ _ h=>h) (yieldsIf_load_mid (cs:=zaa (a1) (kv1)) (by rfl) 25 (.tmp 7) rfl (w1.heap.size) 0 rfl _ (fun W hW j v hj=>by rw [Nat.zero_add,(hW.2).cell j];exact hj) Tryd.underlying25 rfl Tryd.zca) hS ?_
   refine AnyE.take (i:=5) (v:=.pointer (some ⟨E.pb,0,none⟩)) rfl (by kernel_rfl) (by kernel_rfl) (by kernel_rfl) (by kernel_rfl) (fun _ _ _ h=>h) (Or.inl ⟨by rfl,fun W _=>by go_simp⟩) hS ?_
   refine AnyE.one (i:=6) (by kernel_rfl) rfl (by rfl) (fun K hK=>?_)
   go_simp
   refine (zoe ((HR2.out.alloc _).drew).st).mono ?_
   intro e w3 hp
   cases hr:zKb l2 with
   | error pc =>
    obtain ⟨p,c⟩:=pc
    obtain ⟨rfl,hk,hcd⟩:=hp.err hr
    have HK:=zh (((HR2.out.alloc _).drew).kp.trans hk)
    have HP:=zh (show zRa k pl l=.error (p,c) by unfold zRa;exact ((zia H1.out _)).trans (((zia H2.out _)).trans ((zpa hr _))))
    clear hr hp hk
    go_wp2
    exact ⟨rfl,Run.err HK.out HP.out hcd⟩
   | ok q =>
    obtain ⟨a3,l3⟩:=q
    obtain ⟨v3,rfl,hv,hs,hl,hk⟩:=hp.ok hr
    obtain ⟨kv3,rfl,ht⟩:=hv
    have HT3:=zh (ht.weak ((HB2.out.alloc _).drew).lt)
    have huHN3:=Blk.zcb hk ((HN2.out.alloc _).drew)
    have HU3:=zh (ht.mono (S':=fun b=>w.heap.size<b∧w1.heap.size<b) (fun b hb _=>by have:=Blk.zcb hk ((HB2.out.alloc _).drew);omega))
    have HR3:=zh (((HR2.out.alloc _).drew).call hk hs)
    have hzR3:=HR3.out.size
    have HB3:=zh (((HB2.out.alloc _).drew).kp hk (by omega))
    have hzHB3:=HB3.out.lt
    have HN3:=zh (((HN2.out.alloc _).drew).kp hk (by first|omega|(have:=HR0.out.size;simp at *;omega)))
    have hzHN3:=HN3.out.lt
    have HK_3:=zh (((Blk.new w2 (zAa a2) 73).drew).kp hk (by first|omega|(have:=HR0.out.size;simp at *;omega)))
    have hzHK_3:=HK_3.out.lt
    have HT1_3:=zh (((HT1_2.out.alloc _).drew).kp hk (fun b hb=>by omega))
    have HL3:=zh hl
    have H3:=zh hr
    clear hr hp hs hl hk ht
    unfold zma
    refine hK.out _ _ (fun _=>⟨HK_3.out,HN3.out⟩) ?_
    clear hK K
    refine AnyE.one (i:=7) (by kernel_rfl) rfl (by rfl) (fun K hK=>?_)
    go_simp
    refine hK.out _ _ (fun _=>⟨HK_3.out.alloc _,HN3.out.alloc _⟩) ?_
    clear hK K
    refine AnyE.one (i:=8) (by kernel_rfl) rfl (by rfl) (fun K hK=>?_)
    go_simp
    refine hK.out _ _ (fun _=>⟨HK_3.out.alloc _,HN3.out.alloc _⟩) ?_
    clear hK K
    have HP:=zh (show zRa k pl l=.ok (T.mk k a2.text 0 pl [a1,a3],l3) by unfold zRa;exact ((zia H1.out _)).trans (((zia H2.out _)).trans ((zia H3.out _))))
    refine AnyE.one (i:=9) (by kernel_rfl) rfl (by rfl) (fun K hK=>?_)
    refine zka 25 (.tmp 6) (.tmp 22) rfl (w.heap.size) (zaa (T.mk k a2.text 0 pl [a1,a3]) (.slice (some ⟨w3.heap.size,0,none⟩) 2 2)) rfl rfl (HB3.out.alloc _) Tryd.zca rfl (zda _ _ rfl) ?_
    refine hK.out _ _ (fun h=>absurd rfl h) ?_
    clear hK K
    refine AnyE.done (by kernel_rfl) ?_ _
    go_wp2
    exact zNd (cs:=zaa (T.mk k a2.text 0 pl [a1,a3]) (.slice (some ⟨w3.heap.size,0,none⟩) 2 2)) Tryd.results83 rfl (HB3.out.alloc _) Tryd.underlying25 rfl Tryd.zca rfl (Run.node (HR3.out.alloc _) ((KAt.lit2 HT1_3.out.lo HT3.out.lo hzHB3).tat _ _ _ _) HP.out (by have:=HL1.out;have:=HL2.out;have:=HL3.out;first|omega|(simp only [List.length_tail] at *;omega)))
theorem zsn {E:Env} {w:World} {l:List Tok} {d:Nat} (h:PSt E w l d) :
  Calls Tryd.prog 72 #[.pointer (some ⟨E.pb,0,none⟩)] w (zbb zNb E w l d (zze l)):=by
 have HR0:=zh ((Run.start h).alloc (.cells zba.toArray 25))
 have HB0:=zh (Blk.new w zba 25)
 have hlo:=h.plt
 have hlt:=h.tlt
 have hln:=h.len
 clear h
 go_enter Tryd.func72,Tryd.ntmps72
 go_wp2_with fail
 refine (zdb HR0.out.st).mono ?_
 rintro e w1 ⟨rfl,hb⟩
 have HR1:=zh (HR0.out.below hb)
 have hzR1:=HR1.out.size
 have HB1:=zh (HB0.out.kp (Kp.of_below (pb:=E.pb) hb) (by omega))
 have hzHB1:=HB1.out.lt
 clear hb
 unfold zsb
 have fl0:=zrb
 have fl1:=zmb
 have fl3:=zpb
 go_wp2_with fail
 refine (zGe HR1.out.st 4 _).mono ?_
 intro e w2 hp
 cases hr:zRa 4 (hdT l).place l with
 | error pc =>
  obtain ⟨p,c⟩:=pc
  obtain ⟨rfl,hk,hcd⟩:=hp.err hr
  have HK:=zh (HR1.out.kp.trans hk)
  have HP:=zh (show zze l=.error (p,c) by unfold zze;exact hr)
  clear hr hp hk
  go_wp2
  exact ⟨rfl,Run.err HK.out HP.out hcd⟩
 | ok q =>
  obtain ⟨a2,l2⟩:=q
  obtain ⟨v2,rfl,hv,hs,hl,hk⟩:=hp.ok hr
  obtain ⟨kv2,rfl,ht⟩:=hv
  have HT2:=zh (ht.weak HB1.out.lt)
  have HR2:=zh (HR1.out.call hk hs)
  have hzR2:=HR2.out.size
  have HB2:=zh (HB1.out.kp hk (by omega))
  have hzHB2:=HB2.out.lt
  have HL2:=zh hl
  have H2:=zh hr
  clear hr hp hs hl hk ht
  unfold zma
  have HP:=zh (show zze l=.ok (a2,l2) by unfold zze;exact H2.out)
  go_wp2_with ((with_reducible refine zra 25 (.tmp 2) ?_);refine zea rfl 25 (.tmp 2) (.tmp 7) rfl w.heap.size (zaa (a2) (kv2)) rfl rfl HB2.out Tryd.zca rfl (zda _ _ HT2.out.kat.one) ?_)
  exact zua (cs:=zaa (a2) (kv2)) Tryd.results72 rfl HB2.out Tryd.underlying25 rfl Tryd.zca rfl (Run.node HR2.out HT2.out.lo HP.out (by have:=HL2.out;first|omega|(simp only [List.length_tail] at *;omega)))
theorem zpl {E:Env} {w:World} {l:List Tok} {d:Nat} (h:PSt E w l d) :
  Calls Tryd.prog 71 #[.pointer (some ⟨E.pb,0,none⟩)] w (zbb zNb E w l d (zUb l)):=by
 have HR0:=zh ((Run.start h).alloc (.cells zba.toArray 25))
 have HB0:=zh (Blk.new w zba 25)
 have hlo:=h.plt
 have hlt:=h.tlt
 have hln:=h.len
 clear h
 go_enter Tryd.func71,Tryd.ntmps71
 go_wp2_with fail
 refine (zdb HR0.out.st).mono ?_
 rintro e w1 ⟨rfl,hb⟩
 have HR1:=zh (HR0.out.below hb)
 have hzR1:=HR1.out.size
 have HB1:=zh (HB0.out.kp (Kp.of_below (pb:=E.pb) hb) (by omega))
 have hzHB1:=HB1.out.lt
 clear hb
 unfold zsb
 have fl0:=zrb
 have fl1:=zmb
 have fl3:=zpb
 go_wp2_with fail
 refine (name_any HR1.out.st).mono ?_
 intro e w2 hp
 cases hr:zac l with
 | error pc =>
  obtain ⟨p,c⟩:=pc
  obtain ⟨rfl,hk,hcd⟩:=hp.err hr
  have HK:=zh (HR1.out.kp.trans hk)
  have HP:=zh (show zUb l=.error (p,c) by unfold zUb;exact (zpa hr _))
  clear hr hp hk
  go_wp2
  exact ⟨rfl,Run.err HK.out HP.out hcd⟩
 | ok q =>
  obtain ⟨a2,l2⟩:=q
  obtain ⟨v2,rfl,hv,hs,hl,hk⟩:=hp.ok hr
  obtain rfl:v2=.string a2:=hv
  have HR2:=zh (HR1.out.call hk hs)
  have hzR2:=HR2.out.size
  have HB2:=zh (HB1.out.kp hk (by omega))
  have hzHB2:=HB2.out.lt
  have HL2:=zh hl
  have H2:=zh hr
  clear hr hp hs hl hk
  cases hi:isT (hdT l2) (bs [91]) with
  | false =>
   have HIi:=zh hi
   clear hi
   go_wp2_with fail
   refine (zFa (HR2.out.alloc _).st HIi.out).mono ?_
   rintro e w3 ⟨rfl,hb⟩
   have HR3:=zh ((HR2.out.alloc _).below hb)
   have hzR3:=HR3.out.size
   have HB3:=zh ((HB2.out.alloc _).kp (Kp.of_below (pb:=E.pb) hb) (by omega))
   have hzHB3:=HB3.out.lt
   have HN3:=zh ((Blk.new w2 (zaa (T.mk 3 a2 0 (hdT l).place []) (.slice none 0 0)) 25).kp (Kp.of_below (pb:=E.pb) hb) (by first|omega|(have:=HR0.out.size;simp at *;omega)))
   have hzHN3:=HN3.out.lt
   clear hb
   have HP:=zh (show zUb l=.ok (T.mk 3 a2 0 (hdT l).place [],l2) by unfold zUb;exact ((zia H2.out _)).trans ((zja HIi.out _ _)))
   go_wp2_with (first|((with_reducible refine zva 25 (.tmp 4) ?_);refine zfa rfl 25 (.tmp 4) rfl w2.heap.size (zaa (T.mk 3 a2 0 (hdT l).place []) (.slice none 0 0)) rfl (show Blk _ w2.heap.size (zaa (T.mk 3 a2 0 (hdT l).place []) (.slice none 0 0)) 25 from HN3.out) Tryd.underlying25 rfl Tryd.zca ?_)|((with_reducible refine zra 25 (.tmp 2) ?_);refine zea rfl 25 (.tmp 2) (.tmp 21) rfl w.heap.size (zaa (T.mk 3 a2 0 (hdT l).place []) (.slice none 0 0)) rfl rfl HB3.out Tryd.zca rfl (zda _ _ rfl) ?_))
   exact zua (cs:=zaa (T.mk 3 a2 0 (hdT l).place []) (.slice none 0 0)) Tryd.results71 rfl HB3.out Tryd.underlying25 rfl Tryd.zca rfl (Run.node HR3.out ((KAt.nil _ _ _).tat _ _ _ _) HP.out (by have:=HL2.out;first|omega|(simp only [List.length_tail] at *;omega)))
  | true =>
   have HIi:=zh hi
   clear hi
   go_wp2_with fail
   refine (zBa (HR2.out.alloc _).st HIi.out (by decide)).mono ?_
   rintro e w3 ⟨rfl,hs,hk⟩
   have HR3:=zh ((HR2.out.alloc _).call hk hs)
   have hzR3:=HR3.out.size
   have HB3:=zh ((HB2.out.alloc _).kp hk (by omega))
   have hzHB3:=HB3.out.lt
   have HN3:=zh ((Blk.new w2 (zaa (T.mk 3 a2 0 (hdT l).place []) (.slice none 0 0)) 25).kp hk (by first|omega|(have:=HR0.out.size;simp at *;omega)))
   have hzHN3:=HN3.out.lt
   clear hs hk
   go_wp2_with fail
   refine (zjb HR3.out.st).mono ?_
   intro e w4 hp
   cases hr:zCa l2.tail with
   | error pc =>
    obtain ⟨p,c⟩:=pc
    obtain ⟨rfl,hk,hcd⟩:=hp.err hr
    have HK:=zh (HR3.out.kp.trans hk)
    have HP:=zh (show zUb l=.error (p,c) by unfold zUb;exact ((zia H2.out _)).trans (((zya HIi.out _ _)).trans ((zpa hr _))))
    clear hr hp hk
    go_wp2
    exact ⟨rfl,Run.err HK.out HP.out hcd⟩
   | ok q =>
    obtain ⟨a4,l4⟩:=q
    obtain ⟨v4,rfl,hv,hs,hl,hk⟩:=hp.ok hr
    obtain ⟨kv4,rfl,ht⟩:=hv
    have HT4:=zh (ht.weak HB3.out.lt)
    have huHN4:=Blk.zcb hk HN3.out
    have HU4:=zh (ht.mono (S':=fun b=>w.heap.size<b∧w2.heap.size<b) (fun b hb _=>by have:=Blk.zcb hk HB3.out;omega))
    have HR4:=zh (HR3.out.call hk hs)
    have hzR4:=HR4.out.size
    have HB4:=zh (HB3.out.kp hk (by omega))
    have hzHB4:=HB4.out.lt
    have HN4:=zh (HN3.out.kp hk (by first|omega|(have:=HR0.out.size;simp at *;omega)))
    have hzHN4:=HN4.out.lt
    have HL4:=zh hl
    have H4:=zh hr
    clear hr hp hs hl hk ht
    unfold zma
    have hcell:_root_.Go.World.cell? _ ⟨w2.heap.size,4,none⟩=some (.slice none 0 0):=HN4.out.cell 4
    have hfroz:=HN4.out.frozen 4
    have HQ:=zh (KAt.ztl (e:=25) (w:=w4) (t:=a4) (v:=kv4) HU4.out ⟨w2.heap.size,4,none⟩ (.slice (some ⟨w4.heap.size,0,none⟩) 1 1) (fun b hb=>by show _≠w2.heap.size;omega) ⟨by omega,by omega⟩)
    go_wp2_with fail
    refine (zLa ((HR4.out.setCell (a:=⟨w2.heap.size,4,none⟩) (by show w.heap.size≤w2.heap.size;omega) _).alloc _).st [bs [93]] (by decide) (by decide) (by simp) rfl rfl).mono ?_
    intro e w5 hp
    cases hr:zxa [bs [93]] l4 with
    | error pc =>
     obtain ⟨p,c⟩:=pc
     obtain ⟨rfl,hk,hcd⟩:=hp.err hr
     have HK:=zh (((HR4.out.setCell (a:=⟨w2.heap.size,4,none⟩) (by show w.heap.size≤w2.heap.size;omega) _).alloc _).kp.trans hk)
     have HP:=zh (show zUb l=.error (p,c) by unfold zUb;exact ((zia H2.out _)).trans (((zya HIi.out _ _)).trans (((zia H4.out _)).trans ((zpa hr _)))))
     clear hr hp hk
     go_wp2
     exact ⟨rfl,Run.err HK.out HP.out hcd⟩
    | ok q =>
     obtain ⟨a5,l5⟩:=q
     obtain ⟨v5,rfl,hv,hs,hl,hk⟩:=hp.ok hr
     obtain ⟨rfl,hto⟩:=hv
     have HR5:=zh (((HR4.out.setCell (a:=⟨w2.heap.size,4,none⟩) (by show w.heap.size≤w2.heap.size;omega) _).alloc _).call hk hs)
     have hzR5:=HR5.out.size
     have HB5:=zh (((HB4.out.setOther ⟨w2.heap.size,4,none⟩ _ (by show _≠w2.heap.size;omega)).alloc _).kp hk (by omega))
     have hzHB5:=HB5.out.lt
     have HN5:=zh (((HN4.out.zTc 4 (.slice (some ⟨w4.heap.size,0,none⟩) 1 1)).alloc _).kp hk (by first|omega|(have:=HR0.out.size;simp at *;omega)))
     have hzHN5:=HN5.out.lt
     have HQ_5:=zh (HQ.out.kp hk (fun b hb=>by omega))
     have HL5:=zh hl
     have H5:=zh hr
     clear hr hp hs hl hk hto
     unfold zsb
     have HP:=zh (show zUb l=.ok (T.mk 3 a2 0 (hdT l).place [a4],l5) by unfold zUb;exact ((zia H2.out _)).trans (((zya HIi.out _ _)).trans (((zia H4.out _)).trans ((zia H5.out _)))))
     go_wp2_with (first|((with_reducible refine zva 25 (.tmp 4) ?_);refine zfa rfl 25 (.tmp 4) rfl w2.heap.size (zaa (T.mk 3 a2 0 (hdT l).place [a4]) (.slice (some ⟨w4.heap.size,0,none⟩) 1 1)) rfl (show Blk _ w2.heap.size (zaa (T.mk 3 a2 0 (hdT l).place [a4]) (.slice (some ⟨w4.heap.size,0,none⟩) 1 1)) 25 from HN5.out) Tryd.underlying25 rfl Tryd.zca ?_)|((with_reducible refine zra 25 (.tmp 2) ?_);refine zea rfl 25 (.tmp 2) (.tmp 21) rfl w.heap.size (zaa (T.mk 3 a2 0 (hdT l).place [a4]) (.slice (some ⟨w4.heap.size,0,none⟩) 1 1)) rfl rfl HB5.out Tryd.zca rfl (zda _ _ rfl) ?_))
     exact zua (cs:=zaa (T.mk 3 a2 0 (hdT l).place [a4]) (.slice (some ⟨w4.heap.size,0,none⟩) 1 1)) Tryd.results71 rfl HB5.out Tryd.underlying25 rfl Tryd.zca rfl (Run.node HR5.out ((HQ_5.out.mono (fun b hb _=>hb.1)).tat _ _ _ _) HP.out (by have:=HL2.out;have:=HL4.out;have:=HL5.out;first|omega|(simp only [List.length_tail] at *;omega)))
theorem zHn {E:Env} {w:World} {l:List Tok} {d:Nat} (h:PSt E w l d) :
  Calls Tryd.prog 68 #[.pointer (some ⟨E.pb,0,none⟩)] w (zbb zNb E w l d (zKd l)):=by
 have HR0:=zh ((Run.start h).alloc (.cells zba.toArray 25))
 have HB0:=zh (Blk.new w zba 25)
 have hlo:=h.plt
 have hlt:=h.tlt
 have hln:=h.len
 clear h
 go_enter Tryd.func68,Tryd.ntmps68
 go_wp2_with fail
 refine (zLa HR0.out.st [bs [111,119,110],bs [99,101,108,108],bs [99,111,117,110,116,101,100],bs [108,111,99,107],bs [103,117,97,114,100]] (by decide) (by decide) (by simp) rfl rfl).mono ?_
 intro e w1 hp
 cases hr:zxa [bs [111,119,110],bs [99,101,108,108],bs [99,111,117,110,116,101,100],bs [108,111,99,107],bs [103,117,97,114,100]] l with
 | error pc =>
  obtain ⟨p,c⟩:=pc
  obtain ⟨rfl,hk,hcd⟩:=hp.err hr
  have HK:=zh (HR0.out.kp.trans hk)
  have HP:=zh (show zKd l=.error (p,c) by unfold zKd;exact (zpa hr _))
  clear hr hp hk
  go_wp2
  exact ⟨rfl,Run.err HK.out HP.out hcd⟩
 | ok q =>
  obtain ⟨a1,l1⟩:=q
  obtain ⟨v1,rfl,hv,hs,hl,hk⟩:=hp.ok hr
  obtain ⟨rfl,hto⟩:=hv
  have HR1:=zh (HR0.out.call hk hs)
  have hzR1:=HR1.out.size
  have HB1:=zh (HB0.out.kp hk (by omega))
  have hzHB1:=HB1.out.lt
  have HL1:=zh hl
  have H1:=zh hr
  clear hr hp hs hl hk hto
  unfold zsb
  cases ho:isT a1 (bs [111,119,110]) with
  | true =>
   have HOR:=zh (show (isT a1 (bs [111,119,110]) || isT a1 (bs [99,101,108,108]))=true by rw [ho];rfl)
   obtain ⟨ho2,ho3⟩:=znf ho
   clear ho3
   clear ho
   have HP:=zh (show zKd l=.ok (T.mk 2 a1.text 0 a1.place [],l1) by unfold zKd;exact ((zia H1.out _)).trans ((zya HOR.out _ _)))
   go_wp2_with (first|((with_reducible refine zva 25 (.tmp 4) ?_);refine zfa rfl 25 (.tmp 4) rfl (w1.heap.size+1) (zaa (T.mk 2 a1.text 0 a1.place []) (.slice none 0 0)) rfl (show Blk _ (w1.heap.size+1) (zaa (T.mk 2 a1.text 0 a1.place []) (.slice none 0 0)) 25 from (Blk.zIe w1 (.cells (zAa a1).toArray 73) (zaa (T.mk 2 a1.text 0 a1.place []) (.slice none 0 0)) 25)) Tryd.underlying25 rfl Tryd.zca ?_)|((with_reducible refine zra 25 (.tmp 2) ?_);refine zea rfl 25 (.tmp 2) (.tmp 25) rfl w.heap.size (zaa (T.mk 2 a1.text 0 a1.place []) (.slice none 0 0)) rfl rfl ((HB1.out.alloc _).alloc _) Tryd.zca rfl (zda _ _ rfl) ?_))
   exact zua (cs:=zaa (T.mk 2 a1.text 0 a1.place []) (.slice none 0 0)) Tryd.results68 rfl ((HB1.out.alloc _).alloc _) Tryd.underlying25 rfl Tryd.zca rfl (Run.node ((HR1.out.alloc _).alloc _) ((KAt.nil _ _ _).tat _ _ _ _) HP.out (by have:=HL1.out;first|omega|(simp only [List.length_tail] at *;omega)))
  | false =>
   cases hc:isT a1 (bs [99,101,108,108]) with
   | true =>
    have HOR:=zh (show (isT a1 (bs [111,119,110]) || isT a1 (bs [99,101,108,108]))=true by rw [ho,hc];rfl)
    obtain ⟨ho2,ho3⟩:=zni ho
    obtain ⟨hc2,hc3⟩:=znf hc
    clear hc3
    clear ho hc
    have HP:=zh (show zKd l=.ok (T.mk 2 a1.text 0 a1.place [],l1) by unfold zKd;exact ((zia H1.out _)).trans ((zya HOR.out _ _)))
    go_wp2_with (first|((with_reducible refine zva 25 (.tmp 4) ?_);refine zfa rfl 25 (.tmp 4) rfl (w1.heap.size+1) (zaa (T.mk 2 a1.text 0 a1.place []) (.slice none 0 0)) rfl (show Blk _ (w1.heap.size+1) (zaa (T.mk 2 a1.text 0 a1.place []) (.slice none 0 0)) 25 from (Blk.zIe w1 (.cells (zAa a1).toArray 73) (zaa (T.mk 2 a1.text 0 a1.place []) (.slice none 0 0)) 25)) Tryd.underlying25 rfl Tryd.zca ?_)|((with_reducible refine zra 25 (.tmp 2) ?_);refine zea rfl 25 (.tmp 2) (.tmp 25) rfl w.heap.size (zaa (T.mk 2 a1.text 0 a1.place []) (.slice none 0 0)) rfl rfl ((HB1.out.alloc _).alloc _) Tryd.zca rfl (zda _ _ rfl) ?_))
    exact zua (cs:=zaa (T.mk 2 a1.text 0 a1.place []) (.slice none 0 0)) Tryd.results68 rfl ((HB1.out.alloc _).alloc _) Tryd.underlying25 rfl Tryd.zca rfl (Run.node ((HR1.out.alloc _).alloc _) ((KAt.nil _ _ _).tat _ _ _ _) HP.out (by have:=HL1.out;first|omega|(simp only [List.length_tail] at *;omega)))
   | false =>
    have HOR:=zh (show (isT a1 (bs [111,119,110]) || isT a1 (bs [99,101,108,108]))=false by rw [ho,hc];rfl)
    obtain ⟨ho2,ho3⟩:=zni ho
    obtain ⟨hc2,hc3⟩:=zni hc
    clear ho hc
    go_wp2_with fail
    refine (zjb ((HR1.out.alloc _).alloc _).st).mono ?_
    intro e w2 hp
    cases hr:zCa l1 with
    | error pc =>
     obtain ⟨p,c⟩:=pc
     obtain ⟨rfl,hk,hcd⟩:=hp.err hr
     have HK:=zh (((HR1.out.alloc _).alloc _).kp.trans hk)
     have HP:=zh (show zKd l=.error (p,c) by unfold zKd;exact ((zia H1.out _)).trans (((zja HOR.out _ _)).trans ((zpa hr _))))
     clear hr hp hk
     go_wp2
     exact ⟨rfl,Run.err HK.out HP.out hcd⟩
    | ok q =>
     obtain ⟨a2,l2⟩:=q
     obtain ⟨v2,rfl,hv,hs,hl,hk⟩:=hp.ok hr
     obtain ⟨kv2,rfl,ht⟩:=hv
     have HT2:=zh (ht.weak ((HB1.out.alloc _).alloc _).lt)
     have huHN2:=Blk.zcb hk (Blk.zIe w1 (.cells (zAa a1).toArray 73) (zaa (T.mk 2 a1.text 0 a1.place []) (.slice none 0 0)) 25)
     have HU2:=zh (ht.mono (S':=fun b=>w.heap.size<b∧(w1.heap.size+1)<b) (fun b hb _=>by have:=Blk.zcb hk ((HB1.out.alloc _).alloc _);omega))
     have HR2:=zh (((HR1.out.alloc _).alloc _).call hk hs)
     have hzR2:=HR2.out.size
     have HB2:=zh (((HB1.out.alloc _).alloc _).kp hk (by omega))
     have hzHB2:=HB2.out.lt
     have HK_2:=zh (((Blk.new w1 (zAa a1) 73).alloc _).kp hk (by first|omega|(have:=HR0.out.size;simp at *;omega)))
     have hzHK_2:=HK_2.out.lt
     have HN2:=zh ((Blk.zIe w1 (.cells (zAa a1).toArray 73) (zaa (T.mk 2 a1.text 0 a1.place []) (.slice none 0 0)) 25).kp hk (by first|omega|(have:=HR0.out.size;simp at *;omega)))
     have hzHN2:=HN2.out.lt
     have HL2:=zh hl
     have H2:=zh hr
     clear hr hp hs hl hk ht
     unfold zma
     have hcell:_root_.Go.World.cell? _ ⟨(w1.heap.size+1),4,none⟩=some (.slice none 0 0):=HN2.out.cell 4
     have hfroz:=HN2.out.frozen 4
     have HQ:=zh (KAt.ztl (e:=25) (w:=w2) (t:=a2) (v:=kv2) HU2.out ⟨(w1.heap.size+1),4,none⟩ (.slice (some ⟨w2.heap.size,0,none⟩) 1 1) (fun b hb=>by show _≠(w1.heap.size+1);omega) ⟨by omega,by omega⟩)
     have HP:=zh (show zKd l=.ok (T.mk 2 a1.text 0 a1.place [a2],l2) by unfold zKd;exact ((zia H1.out _)).trans (((zja HOR.out _ _)).trans ((zia H2.out _))))
     go_wp2_with (first|((with_reducible refine zva 25 (.tmp 4) ?_);refine zfa rfl 25 (.tmp 4) rfl (w1.heap.size+1) (zaa (T.mk 2 a1.text 0 a1.place [a2]) (.slice (some ⟨w2.heap.size,0,none⟩) 1 1)) rfl (show Blk _ (w1.heap.size+1) (zaa (T.mk 2 a1.text 0 a1.place [a2]) (.slice (some ⟨w2.heap.size,0,none⟩) 1 1)) 25 from ((HN2.out.zTc 4 (.slice (some ⟨w2.heap.size,0,none⟩) 1 1)).alloc _)) Tryd.underlying25 rfl Tryd.zca ?_)|((with_reducible refine zra 25 (.tmp 2) ?_);refine zea rfl 25 (.tmp 2) (.tmp 25) rfl w.heap.size (zaa (T.mk 2 a1.text 0 a1.place [a2]) (.slice (some ⟨w2.heap.size,0,none⟩) 1 1)) rfl rfl ((HB2.out.setOther ⟨(w1.heap.size+1),4,none⟩ _ (by show _≠(w1.heap.size+1);omega)).alloc _) Tryd.zca rfl (zda _ _ rfl) ?_))
     exact zua (cs:=zaa (T.mk 2 a1.text 0 a1.place [a2]) (.slice (some ⟨w2.heap.size,0,none⟩) 1 1)) Tryd.results68 rfl ((HB2.out.setOther ⟨(w1.heap.size+1),4,none⟩ _ (by show _≠(w1.heap.size+1);omega)).alloc _) Tryd.underlying25 rfl Tryd.zca rfl (Run.node ((HR2.out.setCell (a:=⟨(w1.heap.size+1),4,none⟩) (by show w.heap.size≤(w1.heap.size+1);omega) _).alloc _) ((HQ.out.mono (fun b hb _=>hb.1)).tat _ _ _ _) HP.out (by have:=HL1.out;have:=HL2.out;first|omega|(simp only [List.length_tail] at *;omega)))
theorem zVe {E:Env} {w:World} {l:List Tok} {d:Nat} (h:PSt E w l d) :
  Calls Tryd.prog 75 #[.pointer (some ⟨E.pb,0,none⟩)] w (zbb zNb E w l d (zKa l)):=by
 have HR0:=zh ((Run.start h).alloc (.cells zba.toArray 25))
 have HB0:=zh (Blk.new w zba 25)
 have hlo:=h.plt
 have hlt:=h.tlt
 have hln:=h.len
 clear h
 go_enter Tryd.func75,Tryd.ntmps75
 go_wp2_with fail
 refine (zLa HR0.out.st [bs [105,110,116],bs [111,119,110]] (by decide) (by decide) (by simp) rfl rfl).mono ?_
 intro e w1 hp
 cases hr:zxa [bs [105,110,116],bs [111,119,110]] l with
 | error pc =>
  obtain ⟨p,c⟩:=pc
  obtain ⟨rfl,hk,hcd⟩:=hp.err hr
  have HK:=zh (HR0.out.kp.trans hk)
  have HP:=zh (show zKa l=.error (p,c) by unfold zKa;exact (zpa hr _))
  clear hr hp hk
  go_wp2
  exact ⟨rfl,Run.err HK.out HP.out hcd⟩
 | ok q =>
  obtain ⟨a1,l1⟩:=q
  obtain ⟨v1,rfl,hv,hs,hl,hk⟩:=hp.ok hr
  obtain ⟨rfl,hto⟩:=hv
  have HR1:=zh (HR0.out.call hk hs)
  have hzR1:=HR1.out.size
  have HB1:=zh (HB0.out.kp hk (by omega))
  have hzHB1:=HB1.out.lt
  have HL1:=zh hl
  have H1:=zh hr
  clear hr hp hs hl hk hto
  unfold zsb
  cases ho:isT a1 (bs [111,119,110]) with
  | false =>
   have HO:=zh ho
   obtain ⟨ho2,ho3⟩:=zni ho
   clear ho
   have HP:=zh (show zKa l=.ok (T.mk 8 a1.text 0 a1.place [],l1) by unfold zKa;exact ((zia H1.out _)).trans ((zja HO.out _ _)))
   go_wp2_with (first|((with_reducible refine zva 25 (.tmp 4) ?_);refine zfa rfl 25 (.tmp 4) rfl (w1.heap.size+1) (zaa (T.mk 8 a1.text 0 a1.place []) (.slice none 0 0)) rfl (show Blk _ (w1.heap.size+1) (zaa (T.mk 8 a1.text 0 a1.place []) (.slice none 0 0)) 25 from (Blk.zIe w1 (.cells (zAa a1).toArray 73) (zaa (T.mk 8 a1.text 0 a1.place []) (.slice none 0 0)) 25)) Tryd.underlying25 rfl Tryd.zca ?_)|((with_reducible refine zra 25 (.tmp 2) ?_);refine zea rfl 25 (.tmp 2) (.tmp 20) rfl w.heap.size (zaa (T.mk 8 a1.text 0 a1.place []) (.slice none 0 0)) rfl rfl ((HB1.out.alloc _).alloc _) Tryd.zca rfl (zda _ _ rfl) ?_))
   exact zua (cs:=zaa (T.mk 8 a1.text 0 a1.place []) (.slice none 0 0)) Tryd.results75 rfl ((HB1.out.alloc _).alloc _) Tryd.underlying25 rfl Tryd.zca rfl (Run.node ((HR1.out.alloc _).alloc _) ((KAt.nil _ _ _).tat _ _ _ _) HP.out (by have:=HL1.out;first|omega|(simp only [List.length_tail] at *;omega)))
  | true =>
   have HO:=zh ho
   obtain ⟨ho2,ho3⟩:=znf ho
   clear ho
   go_wp2_with fail
   refine (zjb ((HR1.out.alloc _).alloc _).st).mono ?_
   intro e w2 hp
   cases hr:zCa l1 with
   | error pc =>
    obtain ⟨p,c⟩:=pc
    obtain ⟨rfl,hk,hcd⟩:=hp.err hr
    have HK:=zh (((HR1.out.alloc _).alloc _).kp.trans hk)
    have HP:=zh (show zKa l=.error (p,c) by unfold zKa;exact ((zia H1.out _)).trans (((zya HO.out _ _)).trans ((zpa hr _))))
    clear hr hp hk
    go_wp2
    exact ⟨rfl,Run.err HK.out HP.out hcd⟩
   | ok q =>
    obtain ⟨a2,l2⟩:=q
    obtain ⟨v2,rfl,hv,hs,hl,hk⟩:=hp.ok hr
    obtain ⟨kv2,rfl,ht⟩:=hv
    have HT2:=zh (ht.weak ((HB1.out.alloc _).alloc _).lt)
    have huHN2:=Blk.zcb hk (Blk.zIe w1 (.cells (zAa a1).toArray 73) (zaa (T.mk 8 a1.text 0 a1.place []) (.slice none 0 0)) 25)
    have HU2:=zh (ht.mono (S':=fun b=>w.heap.size<b∧(w1.heap.size+1)<b) (fun b hb _=>by have:=Blk.zcb hk ((HB1.out.alloc _).alloc _);omega))
    have HR2:=zh (((HR1.out.alloc _).alloc _).call hk hs)
    have hzR2:=HR2.out.size
    have HB2:=zh (((HB1.out.alloc _).alloc _).kp hk (by omega))
    have hzHB2:=HB2.out.lt
    have HK_2:=zh (((Blk.new w1 (zAa a1) 73).alloc _).kp hk (by first|omega|(have:=HR0.out.size;simp at *;omega)))
    have hzHK_2:=HK_2.out.lt
    have HN2:=zh ((Blk.zIe w1 (.cells (zAa a1).toArray 73) (zaa (T.mk 8 a1.text 0 a1.place []) (.slice none 0 0)) 25).kp hk (by first|omega|(have:=HR0.out.size;simp at *;omega)))
    have hzHN2:=HN2.out.lt
    have HL2:=zh hl
    have H2:=zh hr
    clear hr hp hs hl hk ht
    unfold zma
    have hcell:_root_.Go.World.cell? _ ⟨(w1.heap.size+1),4,none⟩=some (.slice none 0 0):=HN2.out.cell 4
    have hfroz:=HN2.out.frozen 4
    have HQ:=zh (KAt.ztl (e:=25) (w:=w2) (t:=a2) (v:=kv2) HU2.out ⟨(w1.heap.size+1),4,none⟩ (.slice (some ⟨w2.heap.size,0,none⟩) 1 1) (fun b hb=>by show _≠(w1.heap.size+1);omega) ⟨by omega,by omega⟩)
    have HP:=zh (show zKa l=.ok (T.mk 8 a1.text 0 a1.place [a2],l2) by unfold zKa;exact ((zia H1.out _)).trans (((zya HO.out _ _)).trans ((zia H2.out _))))
    go_wp2_with (first|((with_reducible refine zva 25 (.tmp 4) ?_);refine zfa rfl 25 (.tmp 4) rfl (w1.heap.size+1) (zaa (T.mk 8 a1.text 0 a1.place [a2]) (.slice (some ⟨w2.heap.size,0,none⟩) 1 1)) rfl (show Blk _ (w1.heap.size+1) (zaa (T.mk 8 a1.text 0 a1.place [a2]) (.slice (some ⟨w2.heap.size,0,none⟩) 1 1)) 25 from ((HN2.out.zTc 4 (.slice (some ⟨w2.heap.size,0,none⟩) 1 1)).alloc _)) Tryd.underlying25 rfl Tryd.zca ?_)|((with_reducible refine zra 25 (.tmp 2) ?_);refine zea rfl 25 (.tmp 2) (.tmp 20) rfl w.heap.size (zaa (T.mk 8 a1.text 0 a1.place [a2]) (.slice (some ⟨w2.heap.size,0,none⟩) 1 1)) rfl rfl ((HB2.out.setOther ⟨(w1.heap.size+1),4,none⟩ _ (by show _≠(w1.heap.size+1);omega)).alloc _) Tryd.zca rfl (zda _ _ rfl) ?_))
    exact zua (cs:=zaa (T.mk 8 a1.text 0 a1.place [a2]) (.slice (some ⟨w2.heap.size,0,none⟩) 1 1)) Tryd.results75 rfl ((HB2.out.setOther ⟨(w1.heap.size+1),4,none⟩ _ (by show _≠(w1.heap.size+1);omega)).alloc _) Tryd.underlying25 rfl Tryd.zca rfl (Run.node ((HR2.out.setCell (a:=⟨(w1.heap.size+1),4,none⟩) (by show w.heap.size≤(w1.heap.size+1);omega) _).alloc _) ((HQ.out.mono (fun b hb _=>hb.1)).tat _ _ _ _) HP.out (by have:=HL1.out;have:=HL2.out;first|omega|(simp only [List.length_tail] at *;omega)))
theorem zgn {E:Env} {w:World} {l:List Tok} {d:Nat} (h:PSt E w l d) :
  Calls Tryd.prog 84 #[.pointer (some ⟨E.pb,0,none⟩)] w (zbb zNb E w l d (zpd l)):=by
 have HR0:=zh ((Run.start h).alloc (.cells zba.toArray 25))
 have HB0:=zh (Blk.new w zba 25)
 have HL0:=zh (zOd h)
 have hlo:=h.plt
 have hlt:=h.tlt
 have hln:=h.len
 clear h
 go_enter Tryd.func84,Tryd.ntmps84
 go_wp2_with fail
 refine (zdb HR0.out.st).mono ?_
 rintro e w1 ⟨rfl,hb⟩
 have HR1:=zh (HR0.out.below hb)
 have hzR1:=HR1.out.size
 have HB1:=zh (HB0.out.kp (Kp.of_below (pb:=E.pb) hb) (by omega))
 have hzHB1:=HB1.out.lt
 clear hb
 unfold zsb
 have fl0:=zrb
 have fl1:=zmb
 have fl3:=zpb
 cases hi:isT (hdT l) (bs [38]) with
 | false =>
  have HIi:=zh hi
  clear hi
  go_wp2_with fail
  refine (zFa HR1.out.st HIi.out).mono ?_
  rintro e w2 ⟨rfl,hb⟩
  have HR2:=zh (HR1.out.below hb)
  have hzR2:=HR2.out.size
  have HB2:=zh (HB1.out.kp (Kp.of_below (pb:=E.pb) hb) (by omega))
  have hzHB2:=HB2.out.lt
  clear hb
  go_wp2_with fail
  refine (zVe HR2.out.st).mono ?_
  intro e w3 hp
  cases hr:zKa l with
  | error pc =>
   obtain ⟨p,c⟩:=pc
   obtain ⟨rfl,hk,hcd⟩:=hp.err hr
   have HK:=zh (HR2.out.kp.trans hk)
   have HP:=zh (show zpd l=.error (p,c) by unfold zpd;exact ((zja HIi.out _ _)).trans (hr))
   clear hr hp hk
   go_wp2
   exact ⟨rfl,Run.err HK.out HP.out hcd⟩
  | ok q =>
   obtain ⟨a3,l3⟩:=q
   obtain ⟨v3,rfl,hv,hs,hl,hk⟩:=hp.ok hr
   obtain ⟨kv3,rfl,ht⟩:=hv
   have HT3:=zh (ht.weak HB2.out.lt)
   have HR3:=zh (HR2.out.call hk hs)
   have hzR3:=HR3.out.size
   have HB3:=zh (HB2.out.kp hk (by omega))
   have hzHB3:=HB3.out.lt
   have HL3:=zh hl
   have H3:=zh hr
   clear hr hp hs hl hk ht
   unfold zma
   have HP:=zh (show zpd l=.ok (a3,l3) by unfold zpd;exact ((zja HIi.out _ _)).trans (H3.out))
   go_wp2_with ((with_reducible refine zra 25 (.tmp 2) ?_);refine zea rfl 25 (.tmp 2) (.tmp 12) rfl w.heap.size (zaa (a3) (kv3)) rfl rfl HB3.out Tryd.zca rfl (zda _ _ HT3.out.kat.one) ?_)
   exact zua (cs:=zaa (a3) (kv3)) Tryd.results84 rfl HB3.out Tryd.underlying25 rfl Tryd.zca rfl (Run.node HR3.out HT3.out.lo HP.out (by have:=HL3.out;first|omega|(simp only [List.length_tail] at *;omega)))
 | true =>
  have HIi:=zh hi
  clear hi
  go_wp2_with fail
  refine (zBa HR1.out.st HIi.out (by decide)).mono ?_
  rintro e w2 ⟨rfl,hs,hk⟩
  have HR2:=zh (HR1.out.call hk hs)
  have hzR2:=HR2.out.size
  have HB2:=zh (HB1.out.kp hk (by omega))
  have hzHB2:=HB2.out.lt
  clear hs hk
  cases hj:isT (hdT l.tail) (bs [109,117,116]) with
  | false =>
   have HIj:=zh hj
   clear hj
   go_wp2_with fail
   refine (zFa HR2.out.st HIj.out).mono ?_
   rintro e w3 ⟨rfl,hb⟩
   have HR3:=zh (HR2.out.below hb)
   have hzR3:=HR3.out.size
   have HB3:=zh (HB2.out.kp (Kp.of_below (pb:=E.pb) hb) (by omega))
   have hzHB3:=HB3.out.lt
   clear hb
   go_wp2_with fail
   refine (zjb HR3.out.st).mono ?_
   intro e w4 hp
   cases hr:zCa l.tail with
   | error pc =>
    obtain ⟨p,c⟩:=pc
    obtain ⟨rfl,hk,hcd⟩:=hp.err hr
    have HK:=zh (HR3.out.kp.trans hk)
    have HP:=zh (show zpd l=.error (p,c) by unfold zpd;exact ((zya HIi.out _ _)).trans (((zja HIj.out _ _)).trans ((zpa hr _))))
    clear hr hp hk
    go_wp2
    exact ⟨rfl,Run.err HK.out HP.out hcd⟩
   | ok q =>
    obtain ⟨a4,l4⟩:=q
    obtain ⟨v4,rfl,hv,hs,hl,hk⟩:=hp.ok hr
    obtain ⟨kv4,rfl,ht⟩:=hv
    have HT4:=zh (ht.weak HB3.out.lt)
    have HR4:=zh (HR3.out.call hk hs)
    have hzR4:=HR4.out.size
    have HB4:=zh (HB3.out.kp hk (by omega))
    have hzHB4:=HB4.out.lt
    have HL4:=zh hl
    have H4:=zh hr
    clear hr hp hs hl hk ht
    unfold zma
    have HP:=zh (show zpd l=.ok (T.mk 8 (bs [38]) 0 (hdT l).place [a4],l4) by unfold zpd;exact ((zya HIi.out _ _)).trans (((zja HIj.out _ _)).trans ((zia H4.out _))))
    go_wp2_with ((with_reducible refine zra 25 (.tmp 2) ?_);refine zea rfl 25 (.tmp 2) (.tmp 20) rfl w.heap.size (zaa (T.mk 8 (bs [38]) 0 (hdT l).place [a4]) (.slice (some ⟨w4.heap.size,0,none⟩) 1 1)) rfl rfl (HB4.out.alloc _) Tryd.zca rfl (zda _ _ rfl) ?_)
    exact zua (cs:=zaa (T.mk 8 (bs [38]) 0 (hdT l).place [a4]) (.slice (some ⟨w4.heap.size,0,none⟩) 1 1)) Tryd.results84 rfl (HB4.out.alloc _) Tryd.underlying25 rfl Tryd.zca rfl (Run.node (HR4.out.alloc _) ((KAt.zuo HT4.out.lo hzHB4).tat _ _ _ _) HP.out (by have:=HL0.out;have:=HL4.out;first|omega|(simp only [List.length_tail] at *;omega)))
  | true =>
   have HIj:=zh hj
   clear hj
   go_wp2_with fail
   refine (zBa HR2.out.st HIj.out (by decide)).mono ?_
   rintro e w3 ⟨rfl,hs,hk⟩
   have HR3:=zh (HR2.out.call hk hs)
   have hzR3:=HR3.out.size
   have HB3:=zh (HB2.out.kp hk (by omega))
   have hzHB3:=HB3.out.lt
   clear hs hk
   go_wp2_with fail
   refine (zjb HR3.out.st).mono ?_
   intro e w4 hp
   cases hr:zCa l.tail.tail with
   | error pc =>
    obtain ⟨p,c⟩:=pc
    obtain ⟨rfl,hk,hcd⟩:=hp.err hr
    have HK:=zh (HR3.out.kp.trans hk)
    have HP:=zh (show zpd l=.error (p,c) by unfold zpd;exact ((zya HIi.out _ _)).trans (((zya HIj.out _ _)).trans ((zpa hr _))))
    clear hr hp hk
    go_wp2
    exact ⟨rfl,Run.err HK.out HP.out hcd⟩
   | ok q =>
    obtain ⟨a4,l4⟩:=q
    obtain ⟨v4,rfl,hv,hs,hl,hk⟩:=hp.ok hr
    obtain ⟨kv4,rfl,ht⟩:=hv
    have HT4:=zh (ht.weak HB3.out.lt)
    have HR4:=zh (HR3.out.call hk hs)
    have hzR4:=HR4.out.size
    have HB4:=zh (HB3.out.kp hk (by omega))
    have hzHB4:=HB4.out.lt
    have HL4:=zh hl
    have H4:=zh hr
    clear hr hp hs hl hk ht
    unfold zma
    have HP:=zh (show zpd l=.ok (T.mk 8 (bs [38,109,117,116]) 0 (hdT l).place [a4],l4) by unfold zpd;exact ((zya HIi.out _ _)).trans (((zya HIj.out _ _)).trans ((zia H4.out _))))
    go_wp2_with ((with_reducible refine zra 25 (.tmp 2) ?_);refine zea rfl 25 (.tmp 2) (.tmp 20) rfl w.heap.size (zaa (T.mk 8 (bs [38,109,117,116]) 0 (hdT l).place [a4]) (.slice (some ⟨w4.heap.size,0,none⟩) 1 1)) rfl rfl (HB4.out.alloc _) Tryd.zca rfl (zda _ _ rfl) ?_)
    exact zua (cs:=zaa (T.mk 8 (bs [38,109,117,116]) 0 (hdT l).place [a4]) (.slice (some ⟨w4.heap.size,0,none⟩) 1 1)) Tryd.results84 rfl (HB4.out.alloc _) Tryd.underlying25 rfl Tryd.zca rfl (Run.node (HR4.out.alloc _) ((KAt.zuo HT4.out.lo hzHB4).tat _ _ _ _) HP.out (by have:=HL0.out;have:=HL4.out;first|omega|(simp only [List.length_tail] at *;omega)))
theorem zQl {E:Env} {w:World} {l:List Tok} {d:Nat} (h:PSt E w l d) :
  Calls Tryd.prog 74 #[.pointer (some ⟨E.pb,0,none⟩)] w (zbb zNb E w l d (zlc l)):=by
 have HR0:=zh ((Run.start h).alloc (.cells zba.toArray 25))
 have HB0:=zh (Blk.new w zba 25)
 have hlo:=h.plt
 have hlt:=h.tlt
 have hln:=h.len
 clear h
 go_enter Tryd.func74,Tryd.ntmps74
 go_wp2_with fail
 refine (zdb HR0.out.st).mono ?_
 rintro e w1 ⟨rfl,hb⟩
 have HR1:=zh (HR0.out.below hb)
 have hzR1:=HR1.out.size
 have HB1:=zh (HB0.out.kp (Kp.of_below (pb:=E.pb) hb) (by omega))
 have hzHB1:=HB1.out.lt
 clear hb
 unfold zsb
 have fl0:=zrb
 have fl1:=zmb
 have fl3:=zpb
 go_wp2_with fail
 refine (name_any HR1.out.st).mono ?_
 intro e w2 hp
 cases hr:zac l with
 | error pc =>
  obtain ⟨p,c⟩:=pc
  obtain ⟨rfl,hk,hcd⟩:=hp.err hr
  have HK:=zh (HR1.out.kp.trans hk)
  have HP:=zh (show zlc l=.error (p,c) by unfold zlc;exact (zpa hr _))
  clear hr hp hk
  go_wp2
  exact ⟨rfl,Run.err HK.out HP.out hcd⟩
 | ok q =>
  obtain ⟨a2,l2⟩:=q
  obtain ⟨v2,rfl,hv,hs,hl,hk⟩:=hp.ok hr
  obtain rfl:v2=.string a2:=hv
  have HR2:=zh (HR1.out.call hk hs)
  have hzR2:=HR2.out.size
  have HB2:=zh (HB1.out.kp hk (by omega))
  have hzHB2:=HB2.out.lt
  have HL2:=zh hl
  have H2:=zh hr
  clear hr hp hs hl hk
  go_wp2_with fail
  refine (zLa (HR2.out.alloc _).st [bs [58]] (by decide) (by decide) (by simp) rfl rfl).mono ?_
  intro e w3 hp
  cases hr:zxa [bs [58]] l2 with
  | error pc =>
   obtain ⟨p,c⟩:=pc
   obtain ⟨rfl,hk,hcd⟩:=hp.err hr
   have HK:=zh ((HR2.out.alloc _).kp.trans hk)
   have HP:=zh (show zlc l=.error (p,c) by unfold zlc;exact ((zia H2.out _)).trans ((zpa hr _)))
   clear hr hp hk
   go_wp2
   exact ⟨rfl,Run.err HK.out HP.out hcd⟩
  | ok q =>
   obtain ⟨a3,l3⟩:=q
   obtain ⟨v3,rfl,hv,hs,hl,hk⟩:=hp.ok hr
   obtain ⟨rfl,hto⟩:=hv
   have HR3:=zh ((HR2.out.alloc _).call hk hs)
   have hzR3:=HR3.out.size
   have HB3:=zh ((HB2.out.alloc _).kp hk (by omega))
   have hzHB3:=HB3.out.lt
   have HN3:=zh ((Blk.new w2 (zaa (T.mk 7 a2 0 (hdT l).place []) (.slice none 0 0)) 25).kp hk (by first|omega|(have:=HR0.out.size;simp at *;omega)))
   have hzHN3:=HN3.out.lt
   have HL3:=zh hl
   have H3:=zh hr
   clear hr hp hs hl hk hto
   unfold zsb
   go_wp2_with fail
   refine (zgn HR3.out.st).mono ?_
   intro e w4 hp
   cases hr:zpd l3 with
   | error pc =>
    obtain ⟨p,c⟩:=pc
    obtain ⟨rfl,hk,hcd⟩:=hp.err hr
    have HK:=zh (HR3.out.kp.trans hk)
    have HP:=zh (show zlc l=.error (p,c) by unfold zlc;exact ((zia H2.out _)).trans (((zia H3.out _)).trans ((zpa hr _))))
    clear hr hp hk
    go_wp2
    exact ⟨rfl,Run.err HK.out HP.out hcd⟩
   | ok q =>
    obtain ⟨a4,l4⟩:=q
    obtain ⟨v4,rfl,hv,hs,hl,hk⟩:=hp.ok hr
    obtain ⟨kv4,rfl,ht⟩:=hv
    have HT4:=zh (ht.weak HB3.out.lt)
    have huHN4:=Blk.zcb hk HN3.out
    have HU4:=zh (ht.mono (S':=fun b=>w.heap.size<b∧w2.heap.size<b) (fun b hb _=>by have:=Blk.zcb hk HB3.out;omega))
    have HR4:=zh (HR3.out.call hk hs)
    have hzR4:=HR4.out.size
    have HB4:=zh (HB3.out.kp hk (by omega))
    have hzHB4:=HB4.out.lt
    have HN4:=zh (HN3.out.kp hk (by first|omega|(have:=HR0.out.size;simp at *;omega)))
    have hzHN4:=HN4.out.lt
    have HL4:=zh hl
    have H4:=zh hr
    clear hr hp hs hl hk ht
    unfold zma
    have hcell:_root_.Go.World.cell? _ ⟨w2.heap.size,4,none⟩=some (.slice none 0 0):=HN4.out.cell 4
    have hfroz:=HN4.out.frozen 4
    have HQ:=zh (KAt.ztl (e:=25) (w:=w4) (t:=a4) (v:=kv4) HU4.out ⟨w2.heap.size,4,none⟩ (.slice (some ⟨w4.heap.size,0,none⟩) 1 1) (fun b hb=>by show _≠w2.heap.size;omega) ⟨by omega,by omega⟩)
    have HP:=zh (show zlc l=.ok (T.mk 7 a2 0 (hdT l).place [a4],l4) by unfold zlc;exact ((zia H2.out _)).trans (((zia H3.out _)).trans ((zia H4.out _))))
    go_wp2_with (first|((with_reducible refine zva 25 (.tmp 4) ?_);refine zfa rfl 25 (.tmp 4) rfl w2.heap.size (zaa (T.mk 7 a2 0 (hdT l).place [a4]) (.slice (some ⟨w4.heap.size,0,none⟩) 1 1)) rfl (show Blk _ w2.heap.size (zaa (T.mk 7 a2 0 (hdT l).place [a4]) (.slice (some ⟨w4.heap.size,0,none⟩) 1 1)) 25 from ((HN4.out.zTc 4 (.slice (some ⟨w4.heap.size,0,none⟩) 1 1)).alloc _)) Tryd.underlying25 rfl Tryd.zca ?_)|((with_reducible refine zra 25 (.tmp 2) ?_);refine zea rfl 25 (.tmp 2) (.tmp 19) rfl w.heap.size (zaa (T.mk 7 a2 0 (hdT l).place [a4]) (.slice (some ⟨w4.heap.size,0,none⟩) 1 1)) rfl rfl ((HB4.out.setOther ⟨w2.heap.size,4,none⟩ _ (by show _≠w2.heap.size;omega)).alloc _) Tryd.zca rfl (zda _ _ rfl) ?_))
    exact zua (cs:=zaa (T.mk 7 a2 0 (hdT l).place [a4]) (.slice (some ⟨w4.heap.size,0,none⟩) 1 1)) Tryd.results74 rfl ((HB4.out.setOther ⟨w2.heap.size,4,none⟩ _ (by show _≠w2.heap.size;omega)).alloc _) Tryd.underlying25 rfl Tryd.zca rfl (Run.node ((HR4.out.setCell (a:=⟨w2.heap.size,4,none⟩) (by show w.heap.size≤w2.heap.size;omega) _).alloc _) ((HQ.out.mono (fun b hb _=>hb.1)).tat _ _ _ _) HP.out (by have:=HL2.out;have:=HL3.out;have:=HL4.out;first|omega|(simp only [List.length_tail] at *;omega)))
end Go.Proofs.YtdhmdfhnkppnmaaDoor
