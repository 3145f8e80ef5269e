/- The contracts of the parser's nameExpr and expr. -/
import Derived.Test.YtpjnpffcnmgdcaaGreatDoorZ05
namespace Go.Proofs.YtpjnpffcnmgdcaaGreatDoor
set_option maxRecDepth 100000
set_option maxHeartbeats 1000000
open Go.RowKit
theorem zIk {E:Env} {w:World} {l:List Tok} {d:Nat} (h:PSt E w l d) :
  Calls Tryz.prog 140 #[.pointer (some ⟨E.pb,0,none⟩)] w (zMb zTc E w l d (zMa l)):=by
 have HR0:=zh ((Run.start h).alloc (.cells zba.toArray 25))
 have HB0:=zh (Blk.new w zba 25)
 have hlo:=h.plt
 have hlt:=h.tlt
 have hln:=h.len
 clear h
 go_enter Tryz.func140,Tryz.ntmps140
 go_wp2_with fail
 refine (zYb HR0.out.st).mono ?_
 intro e w1 hp
 cases hr:zoa l with
 | error pc =>
  obtain ⟨p,c⟩:=pc
  obtain ⟨rfl,hk,hcd⟩:=hp.err hr
  have HK:=zh (HR0.out.kp.trans hk)
  have HP:=zh (show zMa l=.error (p,c) by unfold zMa;exact (zya hr _))
  clear hr hp hk
  go_wp2
  exact ⟨rfl,Run.err HK.out HP.out hcd⟩
 | ok q =>
  obtain ⟨a1,l1⟩:=q
  obtain ⟨v1,rfl,hv,hs,hl,hk⟩:=hp.ok hr
  obtain ⟨kv1,rfl,ht⟩:=hv
  have HT1:=zh (ht.weak HB0.out.lt)
  have HR1:=zh (HR0.out.call hk hs)
  have hzR1:=HR1.out.size
  have HB1:=zh (HB0.out.kp hk (by omega))
  have hzHB1:=HB1.out.lt
  have HL1:=zh hl
  have H1:=zh hr
  clear hr hp hs hl hk ht
  unfold zna
  go_wp2_with ((with_reducible refine zla 25 (.tmp 3) ?_);refine zga rfl 25 (.tmp 3) (.tmp 7) rfl (zaa (a1) (kv1)) (old:=zba) rfl rfl Tryz.zea rfl (zca _ _ HT1.out.kat.one) ?_)
  cases hi:isT (hdT l1) (bs [91]) with
  | true =>
   have HIi:=zh hi
   clear hi
   go_wp2_with fail
   refine (zAe (HR1.out.alloc _).st (bs [91])).mono ?_
   rintro e w2 ⟨rfl,hb⟩
   rw [HIi.out]
   have HR2:=zh ((HR1.out.alloc _).below hb)
   have hzR2:=HR2.out.size
   have HB2:=zh ((HB1.out.alloc _).kp (Kp.of_below (pb:=E.pb) hb) (by omega))
   have hzHB2:=HB2.out.lt
   have HN2:=zh ((Blk.new w1 (zaa (a1) (kv1)) 25).kp (Kp.of_below (pb:=E.pb) hb) (by first|omega|(have:=HR0.out.size;simp at *;omega)))
   have hzHN2:=HN2.out.lt
   have HT1_2:=zh ((HT1.out.alloc _).below hb)
   clear hb
   go_wp2_with fail
   refine AnyE.zCc (S:=fun W=>Blk W w1.heap.size (zaa a1 kv1) 25) (by kernel_rfl) (HN2.out.drew) (fun hS=>?_)
   refine AnyE.take (i:=0) (v:=.pointer (some ⟨w1.heap.size,1,none⟩)) rfl (by kernel_rfl) (by kernel_rfl) (by kernel_rfl) (by kernel_rfl) (fun _ _ _ h=>h) (Or.inl ⟨by rfl,fun W _=>by go_simp⟩) hS ?_
   refine AnyE.take (i:=1) (v:=.string a1.text) rfl (by kernel_rfl) (by kernel_rfl) (by kernel_rfl) (by kernel_rfl) (fun _ _ _ h=>h) (Or.inl ⟨by rfl,fun W hW=>by have hcx:W.cell? ⟨w1.heap.size,1,none⟩=some (.string a1.text):=hW.cell 1;go_simp⟩) hS ?_
   refine AnyE.take (i:=2) (v:=.pointer (some ⟨w1.heap.size,3,none⟩)) rfl (by kernel_rfl) (by kernel_rfl) (by kernel_rfl) (by kernel_rfl) (fun _ _ _ h=>h) (Or.inl ⟨by rfl,fun W _=>by go_simp⟩) hS ?_
   refine AnyE.take (i:=3) (v:=.int .i64 a1.place) rfl (by kernel_rfl) (by kernel_rfl) (by kernel_rfl) (by kernel_rfl) (fun _ _ _ h=>h) (Or.inl ⟨by rfl,fun W hW=>by have hcx:W.cell? ⟨w1.heap.size,3,none⟩=some (.int .i64 a1.place):=hW.cell 3;go_simp⟩) hS ?_
   refine AnyE.take (i:=4) (v:=.pointer (some ⟨E.pb,0,none⟩)) rfl (by kernel_rfl) (by kernel_rfl) (by kernel_rfl) (by kernel_rfl) (fun _ _ _ h=>h) (Or.inl ⟨by rfl,fun W _=>by go_simp⟩) hS ?_
   refine AnyE.one (i:=5) (by kernel_rfl) rfl (by rfl) (fun K hK=>?_)
   go_simp
   refine (zrl (HR2.out.drew).st).mono ?_
   intro e w3 hp
   cases hr:zwd l1 with
   | error pc =>
    obtain ⟨p,c⟩:=pc
    obtain ⟨rfl,hk,hcd⟩:=hp.err hr
    have HK:=zh ((HR2.out.drew).kp.trans hk)
    have HP:=zh (show zMa l=.error (p,c) by unfold zMa;exact ((zpa H1.out _)).trans (((zFa HIi.out _ _)).trans ((zya hr _))))
    clear hr hp hk
    go_wp2
    exact ⟨rfl,Run.err HK.out HP.out hcd⟩
   | ok q =>
    obtain ⟨a3,l3⟩:=q
    obtain ⟨v3,rfl,hv,hs,hl,hk⟩:=hp.ok hr
    obtain ⟨kv3,rfl,ht⟩:=hv
    have HT3:=zh (ht.weak (HB2.out.drew).lt)
    have huHN3:=Blk.zNb hk (HN2.out.drew)
    have HU3:=zh (ht.mono (S':=fun b=>w.heap.size<b∧w1.heap.size<b) (fun b hb _=>by have:=Blk.zNb hk (HB2.out.drew);omega))
    have HR3:=zh ((HR2.out.drew).call hk hs)
    have hzR3:=HR3.out.size
    have HB3:=zh ((HB2.out.drew).kp hk (by omega))
    have hzHB3:=HB3.out.lt
    have HN3:=zh ((HN2.out.drew).kp hk (by first|omega|(have:=HR0.out.size;simp at *;omega)))
    have hzHN3:=HN3.out.lt
    have HT1_3:=zh ((HT1_2.out.drew).kp hk (fun b hb=>by omega))
    have HL3:=zh hl
    have H3:=zh hr
    clear hr hp hs hl hk ht
    unfold zna
    refine hK.out _ _ (fun _=>HN3.out) ?_
    clear hK K
    refine AnyE.one (i:=6) (by kernel_rfl) rfl (by rfl) (fun K hK=>?_)
    go_simp
    refine hK.out _ _ (fun _=>(HN3.out.alloc _)) ?_
    clear hK K
    refine AnyE.one (i:=7) (by kernel_rfl) rfl (by rfl) (fun K hK=>?_)
    go_simp
    refine hK.out _ _ (fun _=>(HN3.out.alloc _)) ?_
    clear hK K
    have HP:=zh (show zMa l=.ok (T.mk 25 a1.text 0 a1.place [a3],l3) by unfold zMa;exact ((zpa H1.out _)).trans (((zFa HIi.out _ _)).trans ((zpa H3.out _))))
    refine AnyE.one (i:=8) (by kernel_rfl) rfl (by rfl) (fun K hK=>?_)
    refine zva 25 (.tmp 2) (.tmp 18) rfl (w.heap.size) (zaa (T.mk 25 a1.text 0 a1.place [a3]) (.slice (some ⟨w3.heap.size,0,none⟩) 1 1)) rfl rfl (HB3.out.alloc _) Tryz.zea rfl (zca _ _ rfl) ?_
    refine hK.out _ _ (fun h=>absurd rfl h) ?_
    clear hK K
    refine AnyE.done (by kernel_rfl) ?_ _
    go_wp2
    exact zkf (cs:=zaa (T.mk 25 a1.text 0 a1.place [a3]) (.slice (some ⟨w3.heap.size,0,none⟩) 1 1)) Tryz.results140 rfl (HB3.out.alloc _) Tryz.underlying25 rfl Tryz.zea rfl (Run.node (HR3.out.alloc _) ((KAt.zrk HT3.out.lo hzHB3).tat _ _ _ _) HP.out (by have:=HL1.out;have:=HL3.out;first|omega|(simp only [List.length_tail] at *;omega)))
  | false =>
   have HIi:=zh hi
   clear hi
   go_wp2_with fail
   refine (zAe (HR1.out.alloc _).st (bs [91])).mono ?_
   rintro e w2 ⟨rfl,hb⟩
   rw [HIi.out]
   have HR2:=zh ((HR1.out.alloc _).below hb)
   have hzR2:=HR2.out.size
   have HB2:=zh ((HB1.out.alloc _).kp (Kp.of_below (pb:=E.pb) hb) (by omega))
   have hzHB2:=HB2.out.lt
   have HN2:=zh ((Blk.new w1 (zaa (a1) (kv1)) 25).kp (Kp.of_below (pb:=E.pb) hb) (by first|omega|(have:=HR0.out.size;simp at *;omega)))
   have hzHN2:=HN2.out.lt
   have HT1_2:=zh ((HT1.out.alloc _).below hb)
   clear hb
   cases hj:isT (hdT l1) (bs [40]) with
   | true =>
    have HIj:=zh hj
    clear hj
    go_wp2_with fail
    refine (zAe HR2.out.st (bs [40])).mono ?_
    rintro e w3 ⟨rfl,hb⟩
    rw [HIj.out]
    have HR3:=zh (HR2.out.below hb)
    have hzR3:=HR3.out.size
    have HB3:=zh (HB2.out.kp (Kp.of_below (pb:=E.pb) hb) (by omega))
    have hzHB3:=HB3.out.lt
    have HN3:=zh (HN2.out.kp (Kp.of_below (pb:=E.pb) hb) (by first|omega|(have:=HR0.out.size;simp at *;omega)))
    have hzHN3:=HN3.out.lt
    have HT1_3:=zh (HT1_2.out.below hb)
    clear hb
    obtain ⟨sa,sn,sc,rfl⟩:=HT1.out.kat.slice
    go_wp2_with ((with_reducible refine zqa 25 (.tmp 3) ?_);refine zia rfl 25 (.tmp 3) rfl w1.heap.size (zaa a1 (.slice sa sn sc)) rfl HN3.out Tryz.underlying25 rfl Tryz.zea ?_)
    refine (zej HR3.out.st a1 sa sn sc).mono ?_
    intro e w4 hp
    cases hr:zOf a1 l1 with
    | error pc =>
     obtain ⟨p,c⟩:=pc
     obtain ⟨rfl,hk,hcd⟩:=hp.err hr
     have HK:=zh (HR3.out.kp.trans hk)
     have HP:=zh (show zMa l=.error (p,c) by unfold zMa;exact ((zpa H1.out _)).trans (((zwa HIi.out _ _)).trans (((zFa HIj.out _ _)).trans (hr))))
     clear hr hp hk
     go_wp2
     exact ⟨rfl,Run.err HK.out HP.out hcd⟩
    | ok q =>
     obtain ⟨a4,l4⟩:=q
     obtain ⟨v4,rfl,hv,hs,hl,hk⟩:=hp.ok hr
     obtain ⟨kv4,rfl,ht⟩:=hv
     have HT4:=zh (ht.weak HB3.out.lt)
     have huHN4:=Blk.zNb hk HN3.out
     have HU4:=zh (ht.mono (S':=fun b=>w.heap.size<b∧w1.heap.size<b) (fun b hb _=>by have:=Blk.zNb hk HB3.out;omega))
     have HR4:=zh (HR3.out.call hk hs)
     have hzR4:=HR4.out.size
     have HB4:=zh (HB3.out.kp hk (by omega))
     have hzHB4:=HB4.out.lt
     have HN4:=zh (HN3.out.kp hk (by first|omega|(have:=HR0.out.size;simp at *;omega)))
     have hzHN4:=HN4.out.lt
     have HT1_4:=zh (HT1_3.out.kp hk (fun b hb=>by omega))
     have HL4:=zh hl
     have H4:=zh hr
     clear hr hp hs hl hk ht
     unfold zna
     have HP:=zh (show zMa l=.ok (a4,l4) by unfold zMa;exact ((zpa H1.out _)).trans (((zwa HIi.out _ _)).trans (((zFa HIj.out _ _)).trans (H4.out))))
     go_wp2_with ((with_reducible refine zla 25 (.tmp 2) ?_);refine zda rfl 25 (.tmp 2) (.tmp 24) rfl w.heap.size (zaa (a4) (kv4)) rfl rfl HB4.out Tryz.zea rfl (zca _ _ HT4.out.kat.one) ?_)
     exact zma (cs:=zaa (a4) (kv4)) Tryz.results140 rfl HB4.out Tryz.underlying25 rfl Tryz.zea rfl (Run.node HR4.out HT4.out.lo HP.out (by have:=HL1.out;have:=HL4.out;first|omega|(simp only [List.length_tail] at *;omega)))
   | false =>
    have HIj:=zh hj
    clear hj
    go_wp2_with fail
    refine (zAe HR2.out.st (bs [40])).mono ?_
    rintro e w3 ⟨rfl,hb⟩
    rw [HIj.out]
    have HR3:=zh (HR2.out.below hb)
    have hzR3:=HR3.out.size
    have HB3:=zh (HB2.out.kp (Kp.of_below (pb:=E.pb) hb) (by omega))
    have hzHB3:=HB3.out.lt
    have HN3:=zh (HN2.out.kp (Kp.of_below (pb:=E.pb) hb) (by first|omega|(have:=HR0.out.size;simp at *;omega)))
    have hzHN3:=HN3.out.lt
    have HT1_3:=zh (HT1_2.out.below hb)
    clear hb
    go_wp2_with fail
    refine (zJg HR3.out.st).mono ?_
    intro e w4 hp
    rcases hp with ⟨hS0,rfl,hs,hk⟩|⟨kk,ff,hS0,hf,rfl,hs,hk⟩
    ·
     have HR4:=zh (HR3.out.call hk hs)
     have hzR4:=HR4.out.size
     have HB4:=zh (HB3.out.kp hk (by omega))
     have hzHB4:=HB4.out.lt
     have HN4:=zh (HN3.out.kp hk (by first|omega|(have:=HR0.out.size;simp at *;omega)))
     have hzHN4:=HN4.out.lt
     have HT1_4:=zh (HT1_3.out.kp hk (fun b hb=>by omega))
     have HS:=zh hS0
     clear hS0 hs hk
     have HP:=zh (show zMa l=.ok (a1,l1) by unfold zMa;exact ((zpa H1.out _)).trans (((zwa HIi.out _ _)).trans (((zwa HIj.out _ _)).trans ((zGk HS.out _ _)))))
     go_wp2_with (first|((with_reducible refine zqa 25 (.tmp 3) ?_);refine zia rfl 25 (.tmp 3) rfl w1.heap.size (zaa (a1) (kv1)) rfl (show Blk _ w1.heap.size (zaa (a1) (kv1)) 25 from (HN4.out.alloc _)) Tryz.underlying25 rfl Tryz.zea ?_)|((with_reducible refine zla 25 (.tmp 2) ?_);refine zda rfl 25 (.tmp 2) (.tmp 55) rfl w.heap.size (zaa (a1) (kv1)) rfl rfl (HB4.out.alloc _) Tryz.zea rfl (zca _ _ HT1.out.kat.one) ?_))
     exact zma (cs:=zaa (a1) (kv1)) Tryz.results140 rfl (HB4.out.alloc _) Tryz.underlying25 rfl Tryz.zea rfl (Run.node (HR4.out.alloc _) (HT1_4.out.alloc _).lo HP.out (by have:=HL1.out;first|omega|(simp only [List.length_tail] at *;omega)))
    ·
     have HR4:=zh (HR3.out.call hk hs)
     have hzR4:=HR4.out.size
     have HB4:=zh (HB3.out.kp hk (by omega))
     have hzHB4:=HB4.out.lt
     have HN4:=zh (HN3.out.kp hk (by first|omega|(have:=HR0.out.size;simp at *;omega)))
     have hzHN4:=HN4.out.lt
     have HT1_4:=zh (HT1_3.out.kp hk (fun b hb=>by omega))
     have HS:=zh hS0
     clear hS0 hs hk
     have HF:=zh hf
     clear hf
     go_wp2_with fail
     refine (zJb (HR4.out.alloc _).st).mono ?_
     rintro e w5 ⟨rfl,hb⟩
     have HR5:=zh ((HR4.out.alloc _).below hb)
     have hzR5:=HR5.out.size
     have HB5:=zh ((HB4.out.alloc _).kp (Kp.of_below (pb:=E.pb) hb) (by omega))
     have hzHB5:=HB5.out.lt
     have HN5:=zh ((HN4.out.alloc _).kp (Kp.of_below (pb:=E.pb) hb) (by first|omega|(have:=HR0.out.size;simp at *;omega)))
     have hzHN5:=HN5.out.lt
     have HS_5:=zh ((Blk.new w4 [.int .i64 kk,.int .i64 ff] 194).kp (Kp.of_below (pb:=E.pb) hb) (by first|omega|(have:=HR0.out.size;simp at *;omega)))
     have hzHS_5:=HS_5.out.lt
     have HT1_5:=zh ((HT1_4.out.alloc _).below hb)
     clear hb
     unfold zmb
     have fl0:=zjc
     have fl1:=zfc
     have fl3:=zic
     by_cases hkd:(hdT l1.tail).kind=1
     ·
      have HI:=zh (show ((hdT l1.tail).kind == 1)=true by rw [hkd];rfl)
      have hne:(((hdT l1.tail).kind:Int) == 1)=true:=by rw [hkd];rfl
      clear hkd
      go_wp2_with fail
      refine AnyE.zCc (S:=fun W=>Blk W w4.heap.size [.int .i64 kk,.int .i64 ff] 194∧Blk W w1.heap.size (zaa a1 kv1) 25) (by kernel_rfl) (And.intro HS_5.out.drew HN5.out.drew) (fun hS=>?_)
      refine AnyE.take (i:=0) (v:=.pointer (some ⟨w4.heap.size,0,none⟩)) rfl (by kernel_rfl) (by kernel_rfl) (by kernel_rfl) (by kernel_rfl) (fun _ _ _ h=>h) (Or.inl ⟨by rfl,fun W _=>by go_simp⟩) hS ?_
      refine AnyE.take (i:=1) (v:=.int .i64 kk) rfl (by kernel_rfl) (by kernel_rfl) (by kernel_rfl) (by kernel_rfl) (fun _ _ _ h=>h) (Or.inl ⟨by rfl,fun W hW=>by have hcx:W.cell? ⟨w4.heap.size,0,none⟩=some (.int .i64 kk):=hW.1.cell 0;go_simp⟩) hS ?_
      refine AnyE.take (i:=2) (v:=.pointer (some ⟨w1.heap.size,3,none⟩)) rfl (by kernel_rfl) (by kernel_rfl) (by kernel_rfl) (by kernel_rfl) (fun _ _ _ h=>h) (Or.inl ⟨by rfl,fun W _=>by go_simp⟩) hS ?_
      refine AnyE.take (i:=3) (v:=.int .i64 a1.place) rfl (by kernel_rfl) (by kernel_rfl) (by kernel_rfl) (by kernel_rfl) (fun _ _ _ h=>h) (Or.inl ⟨by rfl,fun W hW=>by have hcx:W.cell? ⟨w1.heap.size,3,none⟩=some (.int .i64 a1.place):=hW.2.cell 3;go_simp⟩) hS ?_
      refine AnyE.take (i:=4) (v:=.agg #[.int .i64 (a1).kind,.string (a1).text,.int .i64 (a1).num,.int .i64 (a1).place,kv1]) rfl (by kernel_rfl) (by kernel_rfl) (by kernel_rfl) (by kernel_rfl) (fun _ _ _ h=>h) (yieldsIf_load_mid (cs:=zaa (a1) (kv1)) (by rfl) 25 (.tmp 3) rfl (w1.heap.size) 0 rfl _ (fun W hW j v hj=>by rw [Nat.zero_add,(hW.2).cell j];exact hj) Tryz.underlying25 rfl Tryz.zea) hS ?_
      refine AnyE.take (i:=5) (v:=.pointer (some ⟨E.pb,0,none⟩)) rfl (by kernel_rfl) (by kernel_rfl) (by kernel_rfl) (by kernel_rfl) (fun _ _ _ h=>h) (Or.inl ⟨by rfl,fun W _=>by go_simp⟩) hS ?_
      refine AnyE.one (i:=6) (by kernel_rfl) rfl (by rfl) (fun K hK=>?_)
      go_simp
      refine (zYb (HR5.out.drew).st).mono ?_
      intro e w6 hp
      cases hr:zoa l1.tail with
      | error pc =>
       obtain ⟨p,c⟩:=pc
       obtain ⟨rfl,hk,hcd⟩:=hp.err hr
       have HK:=zh ((HR5.out.drew).kp.trans hk)
       have HP:=zh (show zMa l=.error (p,c) by unfold zMa;exact ((zpa H1.out _)).trans (((zwa HIi.out _ _)).trans (((zwa HIj.out _ _)).trans (((zZe HS.out _ _)).trans (((zFa HI.out _ _)).trans ((zya hr _)))))))
       clear hr hp hk
       go_wp2
       exact ⟨rfl,Run.err HK.out HP.out hcd⟩
      | ok q =>
       obtain ⟨a6,l6⟩:=q
       obtain ⟨v6,rfl,hv,hs,hl,hk⟩:=hp.ok hr
       obtain ⟨kv6,rfl,ht⟩:=hv
       have HT6:=zh (ht.weak (HB5.out.drew).lt)
       have huHN6:=Blk.zNb hk (HN5.out.drew)
       have HU6:=zh (ht.mono (S':=fun b=>w.heap.size<b∧w1.heap.size<b) (fun b hb _=>by have:=Blk.zNb hk (HB5.out.drew);omega))
       have HR6:=zh ((HR5.out.drew).call hk hs)
       have hzR6:=HR6.out.size
       have HB6:=zh ((HB5.out.drew).kp hk (by omega))
       have hzHB6:=HB6.out.lt
       have HN6:=zh ((HN5.out.drew).kp hk (by first|omega|(have:=HR0.out.size;simp at *;omega)))
       have hzHN6:=HN6.out.lt
       have HS_6:=zh ((HS_5.out.drew).kp hk (by first|omega|(have:=HR0.out.size;simp at *;omega)))
       have hzHS_6:=HS_6.out.lt
       have HT1_6:=zh ((HT1_5.out.drew).kp hk (fun b hb=>by omega))
       have HL6:=zh hl
       have H6:=zh hr
       clear hr hp hs hl hk ht
       unfold zna
       refine hK.out _ _ (fun _=>⟨HS_6.out,HN6.out⟩) ?_
       clear hK K
       refine AnyE.one (i:=7) (by kernel_rfl) rfl (by rfl) (fun K hK=>?_)
       go_simp
       refine hK.out _ _ (fun _=>⟨HS_6.out.alloc _,HN6.out.alloc _⟩) ?_
       clear hK K
       refine AnyE.one (i:=8) (by kernel_rfl) rfl (by rfl) (fun K hK=>?_)
       go_simp
       refine hK.out _ _ (fun _=>⟨HS_6.out.alloc _,HN6.out.alloc _⟩) ?_
       clear hK K
       have HP:=zh (show zMa l=.ok (T.mk kk e0 0 a1.place [a1,a6],l6) by unfold zMa;exact ((zpa H1.out _)).trans (((zwa HIi.out _ _)).trans (((zwa HIj.out _ _)).trans (((zZe HS.out _ _)).trans (((zFa HI.out _ _)).trans ((zpa H6.out _)))))))
       refine AnyE.one (i:=9) (by kernel_rfl) rfl (by rfl) (fun K hK=>?_)
       refine zva 25 (.tmp 2) (.tmp 46) rfl (w.heap.size) (zaa (T.mk kk e0 0 a1.place [a1,a6]) (.slice (some ⟨w6.heap.size,0,none⟩) 2 2)) rfl rfl (HB6.out.alloc _) Tryz.zea rfl (zca _ _ rfl) ?_
       refine hK.out _ _ (fun h=>absurd rfl h) ?_
       clear hK K
       refine AnyE.done (by kernel_rfl) ?_ _
       go_wp2
       exact zkf (cs:=zaa (T.mk kk e0 0 a1.place [a1,a6]) (.slice (some ⟨w6.heap.size,0,none⟩) 2 2)) Tryz.results140 rfl (HB6.out.alloc _) Tryz.underlying25 rfl Tryz.zea rfl (Run.node (HR6.out.alloc _) ((KAt.zHs HT1_6.out.lo HT6.out.lo hzHB6).tat _ _ _ _) HP.out (by have:=HL1.out;have:=HL6.out;first|omega|(simp only [List.length_tail] at *;omega)))
     ·
      have HI:=zh (show ((hdT l1.tail).kind == 1)=false from beq_eq_false_iff_ne.2 hkd)
      have hne:(((hdT l1.tail).kind:Int) == 1)=false:=by simp;omega
      clear hkd
      go_wp2_with fail
      refine AnyE.zCc (S:=fun W=>Blk W w4.heap.size [.int .i64 kk,.int .i64 ff] 194) (by kernel_rfl) (HS_5.out.drew) (fun hS=>?_)
      refine AnyE.take (i:=0) (v:=.pointer (some ⟨w4.heap.size,1,none⟩)) rfl (by kernel_rfl) (by kernel_rfl) (by kernel_rfl) (by kernel_rfl) (fun _ _ _ h=>h) (Or.inl ⟨by rfl,fun W _=>by go_simp⟩) hS ?_
      refine AnyE.take (i:=1) (v:=.int .i64 ff) rfl (by kernel_rfl) (by kernel_rfl) (by kernel_rfl) (by kernel_rfl) (fun _ _ _ h=>h) (Or.inl ⟨by rfl,fun W hW=>by have hcx:W.cell? ⟨w4.heap.size,1,none⟩=some (.int .i64 ff):=hW.cell 1;go_simp⟩) hS ?_
      refine AnyE.take (i:=2) (v:=.pointer (some ⟨E.pb,0,none⟩)) rfl (by kernel_rfl) (by kernel_rfl) (by kernel_rfl) (by kernel_rfl) (fun _ _ _ h=>h) (Or.inl ⟨by rfl,fun W _=>by go_simp⟩) hS ?_
      refine AnyE.one (i:=3) (by kernel_rfl) rfl (by rfl) (fun K hK=>?_)
      go_simp
      refine (zhe (HR5.out.drew).st).mono ?_
      intro e w6 hp
      cases hr:zEa l1.tail with
      | error pc =>
       obtain ⟨p,c⟩:=pc
       obtain ⟨rfl,hk,hcd⟩:=hp.err hr
       have HK:=zh ((HR5.out.drew).kp.trans hk)
       have HP:=zh (show zMa l=.error (p,c) by unfold zMa;exact ((zpa H1.out _)).trans (((zwa HIi.out _ _)).trans (((zwa HIj.out _ _)).trans (((zZe HS.out _ _)).trans (((zwa HI.out _ _)).trans ((zya hr _)))))))
       clear hr hp hk
       go_wp2
       exact ⟨rfl,Run.err HK.out HP.out hcd⟩
      | ok q =>
       obtain ⟨a6,l6⟩:=q
       obtain ⟨v6,rfl,hv,hs,hl,hk⟩:=hp.ok hr
       obtain ⟨rfl,hn0,hn1⟩:=hv
       have HR6:=zh ((HR5.out.drew).call hk hs)
       have hzR6:=HR6.out.size
       have HB6:=zh ((HB5.out.drew).kp hk (by omega))
       have hzHB6:=HB6.out.lt
       have HN6:=zh ((HN5.out.drew).kp hk (by first|omega|(have:=HR0.out.size;simp at *;omega)))
       have hzHN6:=HN6.out.lt
       have HS_6:=zh ((HS_5.out.drew).kp hk (by first|omega|(have:=HR0.out.size;simp at *;omega)))
       have hzHS_6:=HS_6.out.lt
       have HT1_6:=zh ((HT1_5.out.drew).kp hk (fun b hb=>by omega))
       have HL6:=zh hl
       have H6:=zh hr
       clear hr hp hs hl hk
       refine hK.out _ _ (fun _=>HS_6.out) ?_
       clear hK K
       have hwr:IntKind.i64.wrap (ff * a6)=ff * a6:=by
        have h1:ff * a6=a6∨ff * a6=-a6:=by rcases HF.out with rfl|rfl;exact .inl (by omega);exact .inr (by omega)
        refine IntWalk.i64_in _ ?_
        rcases h1 with h1|h1<;>rw [h1]<;>omega
       refine AnyE.one (i:=4) (by kernel_rfl) rfl (by rfl) (fun K hK=>?_)
       go_simp
       refine hK.out _ _ (fun _=>HS_6.out) ?_
       clear hK K
       refine AnyE.one (i:=5) (by kernel_rfl) rfl (by rfl) (fun K hK=>?_)
       go_simp
       refine hK.out _ _ (fun _=>HS_6.out) ?_
       clear hK K
       refine AnyE.one (i:=6) (by kernel_rfl) rfl (by rfl) (fun K hK=>?_)
       have hcell:_root_.Go.World.cell? _ ⟨w1.heap.size,2,none⟩=some (.int .i64 a1.num):=HN6.out.cell 2
       have hfroz:=HN6.out.frozen 2
       go_simp
       refine hK.out _ _ (fun h=>absurd rfl h) ?_
       clear hK K
       refine AnyE.done (by kernel_rfl) ?_ _
       have HP:=zh (show zMa l=.ok (a1.zkb (ff * a6),l6) by unfold zMa;exact ((zpa H1.out _)).trans (((zwa HIi.out _ _)).trans (((zwa HIj.out _ _)).trans (((zZe HS.out _ _)).trans (((zwa HI.out _ _)).trans ((zpa H6.out _)))))))
       go_wp2_with (first|((with_reducible refine zqa 25 (.tmp 3) ?_);refine zia rfl 25 (.tmp 3) rfl w1.heap.size (zaa (a1.zkb (ff * a6)) (kv1)) rfl (show Blk _ w1.heap.size (zaa (a1.zkb (ff * a6)) (kv1)) 25 from (by rw [← zWb];exact (HN6.out.zNa 2 (.int .i64 (ff * a6))))) Tryz.underlying25 rfl Tryz.zea ?_)|((with_reducible refine zla 25 (.tmp 2) ?_);refine zda rfl 25 (.tmp 2) (.tmp 55) rfl w.heap.size (zaa (a1.zkb (ff * a6)) (kv1)) rfl rfl (HB6.out.setOther ⟨w1.heap.size,2,none⟩ _ (by show _≠w1.heap.size;omega)) Tryz.zea rfl (zca _ _ HT1.out.kat.one) ?_))
       exact zma (cs:=zaa (a1.zkb (ff * a6)) (kv1)) Tryz.results140 rfl (HB6.out.setOther ⟨w1.heap.size,2,none⟩ _ (by show _≠w1.heap.size;omega)) Tryz.underlying25 rfl Tryz.zea rfl (Run.node (HR6.out.setCell (a:=⟨w1.heap.size,2,none⟩) (by show w.heap.size≤w1.heap.size;omega) _) (TAt.zHa (by cases a1;exact (HT1_6.out.setCell ⟨w1.heap.size,2,none⟩ _ (fun b hb=>by show _≠w1.heap.size;omega)).lo.kat)) HP.out (by have:=HL1.out;have:=HL6.out;first|omega|(simp only [List.length_tail] at *;omega)))
theorem zes {E:Env} {w:World} {l:List Tok} {d:Nat} (h:PSt E w l d) :
  Calls Tryz.prog 138 #[.pointer (some ⟨E.pb,0,none⟩)] w (zMb zTc E w l d (zpc l)):=by
 have HR0:=zh ((Run.start h).alloc (.cells zba.toArray 25))
 have HB0:=zh (Blk.new w zba 25)
 have HL0:=zh (zlf h)
 have hlo:=h.plt
 have hlt:=h.tlt
 have hln:=h.len
 clear h
 go_enter Tryz.func138,Tryz.ntmps138
 go_wp2_with fail
 refine (zJb HR0.out.st).mono ?_
 rintro e w1 ⟨rfl,hb⟩
 have HR1:=zh (HR0.out.below hb)
 have hzR1:=HR1.out.size
 have HB1:=zh (HB0.out.kp (Kp.of_below (pb:=E.pb) hb) (by omega))
 have hzHB1:=HB1.out.lt
 clear hb
 unfold zmb
 have fl0:=zjc
 have fl1:=zfc
 have fl3:=zic
 cases ha:isT (hdT l) (bs [110,101,119]) with
 | true =>
  have HIa:=zh ha
  clear ha
  go_wp2_with fail
  refine (zLa HR1.out.st HIa.out (by decide)).mono ?_
  rintro e w2 ⟨rfl,hs,hk⟩
  have HR2:=zh (HR1.out.call hk hs)
  have hzR2:=HR2.out.size
  have HB2:=zh (HB1.out.kp hk (by omega))
  have hzHB2:=HB2.out.lt
  clear hs hk
  go_wp2_with fail
  refine (zhe HR2.out.st).mono ?_
  intro e w3 hp
  cases hr:zEa l.tail with
  | error pc =>
   obtain ⟨p,c⟩:=pc
   obtain ⟨rfl,hk,hcd⟩:=hp.err hr
   have HK:=zh (HR2.out.kp.trans hk)
   have HP:=zh (show zpc l=.error (p,c) by unfold zpc;exact ((zFa HIa.out _ _)).trans ((zya hr _)))
   clear hr hp hk
   go_wp2
   exact ⟨rfl,Run.err HK.out HP.out hcd⟩
  | ok q =>
   obtain ⟨a3,l3⟩:=q
   obtain ⟨v3,rfl,hv,hs,hl,hk⟩:=hp.ok hr
   obtain ⟨rfl,hn0,hn1⟩:=hv
   have HR3:=zh (HR2.out.call hk hs)
   have hzR3:=HR3.out.size
   have HB3:=zh (HB2.out.kp hk (by omega))
   have hzHB3:=HB3.out.lt
   have HL3:=zh hl
   have H3:=zh hr
   clear hr hp hs hl hk
   have HP:=zh (show zpc l=.ok (T.mk 23 e0 a3 (hdT l).place [],l3) by unfold zpc;exact ((zFa HIa.out _ _)).trans ((zpa H3.out _)))
   go_wp2_with ((with_reducible refine zla 25 (.tmp 2) ?_);refine zda rfl 25 (.tmp 2) (.tmp 13) rfl w.heap.size (zaa (T.mk 23 e0 a3 (hdT l).place []) (.slice none 0 0)) rfl rfl HB3.out Tryz.zea rfl (zca _ _ rfl) ?_)
   exact zma (cs:=zaa (T.mk 23 e0 a3 (hdT l).place []) (.slice none 0 0)) Tryz.results138 rfl HB3.out Tryz.underlying25 rfl Tryz.zea rfl (Run.node HR3.out ((KAt.nil _ _ _).tat _ _ _ _) HP.out (by have:=HL0.out;have:=HL3.out;first|omega|(simp only [List.length_tail] at *;omega)))
 | false =>
  have HIa:=zh ha
  clear ha
  go_wp2_with fail
  refine (zSa HR1.out.st HIa.out).mono ?_
  rintro e w2 ⟨rfl,hb⟩
  have HR2:=zh (HR1.out.below hb)
  have hzR2:=HR2.out.size
  have HB2:=zh (HB1.out.kp (Kp.of_below (pb:=E.pb) hb) (by omega))
  have hzHB2:=HB2.out.lt
  clear hb
  cases hb:isT (hdT l) (bs [97,114,114,97,121]) with
  | true =>
   have HIb:=zh hb
   clear hb
   go_wp2_with fail
   refine (zLa HR2.out.st HIb.out (by decide)).mono ?_
   rintro e w3 ⟨rfl,hs,hk⟩
   have HR3:=zh (HR2.out.call hk hs)
   have hzR3:=HR3.out.size
   have HB3:=zh (HB2.out.kp hk (by omega))
   have hzHB3:=HB3.out.lt
   clear hs hk
   go_wp2_with fail
   refine (name_any HR3.out.st).mono ?_
   intro e w4 hp
   cases hr:zKb l.tail with
   | error pc =>
    obtain ⟨p,c⟩:=pc
    obtain ⟨rfl,hk,hcd⟩:=hp.err hr
    have HK:=zh (HR3.out.kp.trans hk)
    have HP:=zh (show zpc l=.error (p,c) by unfold zpc;exact ((zwa HIa.out _ _)).trans (((zFa HIb.out _ _)).trans ((zya hr _))))
    clear hr hp hk
    go_wp2
    exact ⟨rfl,Run.err HK.out HP.out hcd⟩
   | ok q =>
    obtain ⟨a4,l4⟩:=q
    obtain ⟨v4,rfl,hv,hs,hl,hk⟩:=hp.ok hr
    obtain rfl:v4=.string a4:=hv
    have HR4:=zh (HR3.out.call hk hs)
    have hzR4:=HR4.out.size
    have HB4:=zh (HB3.out.kp hk (by omega))
    have hzHB4:=HB4.out.lt
    have HL4:=zh hl
    have H4:=zh hr
    clear hr hp hs hl hk
    have HP:=zh (show zpc l=.ok (T.mk 24 a4 0 (hdT l).place [],l4) by unfold zpc;exact ((zwa HIa.out _ _)).trans (((zFa HIb.out _ _)).trans ((zpa H4.out _))))
    go_wp2_with ((with_reducible refine zla 25 (.tmp 2) ?_);refine zda rfl 25 (.tmp 2) (.tmp 20) rfl w.heap.size (zaa (T.mk 24 a4 0 (hdT l).place []) (.slice none 0 0)) rfl rfl HB4.out Tryz.zea rfl (zca _ _ rfl) ?_)
    exact zma (cs:=zaa (T.mk 24 a4 0 (hdT l).place []) (.slice none 0 0)) Tryz.results138 rfl HB4.out Tryz.underlying25 rfl Tryz.zea rfl (Run.node HR4.out ((KAt.nil _ _ _).tat _ _ _ _) HP.out (by have:=HL0.out;have:=HL4.out;first|omega|(simp only [List.length_tail] at *;omega)))
  | false =>
   have HIb:=zh hb
   clear hb
   go_wp2_with fail
   refine (zSa HR2.out.st HIb.out).mono ?_
   rintro e w3 ⟨rfl,hb⟩
   have HR3:=zh (HR2.out.below hb)
   have hzR3:=HR3.out.size
   have HB3:=zh (HB2.out.kp (Kp.of_below (pb:=E.pb) hb) (by omega))
   have hzHB3:=HB3.out.lt
   clear hb
   cases hc:isT (hdT l) (bs [38]) with
   | true =>
    have HIc:=zh hc
    clear hc
    go_wp2_with fail
    refine (zLa HR3.out.st HIc.out (by decide)).mono ?_
    rintro e w4 ⟨rfl,hs,hk⟩
    have HR4:=zh (HR3.out.call hk hs)
    have hzR4:=HR4.out.size
    have HB4:=zh (HB3.out.kp hk (by omega))
    have hzHB4:=HB4.out.lt
    clear hs hk
    go_wp2_with fail
    refine (zsk HR4.out.st _).mono ?_
    intro e w5 hp
    cases hr:zJl (hdT l).place l.tail with
    | error pc =>
     obtain ⟨p,c⟩:=pc
     obtain ⟨rfl,hk,hcd⟩:=hp.err hr
     have HK:=zh (HR4.out.kp.trans hk)
     have HP:=zh (show zpc l=.error (p,c) by unfold zpc;exact ((zwa HIa.out _ _)).trans (((zwa HIb.out _ _)).trans (((zFa HIc.out _ _)).trans (hr))))
     clear hr hp hk
     go_wp2
     exact ⟨rfl,Run.err HK.out HP.out hcd⟩
    | ok q =>
     obtain ⟨a5,l5⟩:=q
     obtain ⟨v5,rfl,hv,hs,hl,hk⟩:=hp.ok hr
     obtain ⟨kv5,rfl,ht⟩:=hv
     have HT5:=zh (ht.weak HB4.out.lt)
     have HR5:=zh (HR4.out.call hk hs)
     have hzR5:=HR5.out.size
     have HB5:=zh (HB4.out.kp hk (by omega))
     have hzHB5:=HB5.out.lt
     have HL5:=zh hl
     have H5:=zh hr
     clear hr hp hs hl hk ht
     unfold zna
     have HP:=zh (show zpc l=.ok (a5,l5) by unfold zpc;exact ((zwa HIa.out _ _)).trans (((zwa HIb.out _ _)).trans (((zFa HIc.out _ _)).trans (H5.out))))
     go_wp2_with ((with_reducible refine zla 25 (.tmp 2) ?_);refine zda rfl 25 (.tmp 2) (.tmp 26) rfl w.heap.size (zaa (a5) (kv5)) rfl rfl HB5.out Tryz.zea rfl (zca _ _ HT5.out.kat.one) ?_)
     exact zma (cs:=zaa (a5) (kv5)) Tryz.results138 rfl HB5.out Tryz.underlying25 rfl Tryz.zea rfl (Run.node HR5.out HT5.out.lo HP.out (by have:=HL0.out;have:=HL5.out;first|omega|(simp only [List.length_tail] at *;omega)))
   | false =>
    have HIc:=zh hc
    clear hc
    go_wp2_with fail
    refine (zSa HR3.out.st HIc.out).mono ?_
    rintro e w4 ⟨rfl,hb⟩
    have HR4:=zh (HR3.out.below hb)
    have hzR4:=HR4.out.size
    have HB4:=zh (HB3.out.kp (Kp.of_below (pb:=E.pb) hb) (by omega))
    have hzHB4:=HB4.out.lt
    clear hb
    go_wp2_with fail
    refine (zJb HR4.out.st).mono ?_
    rintro e w5 ⟨rfl,hb⟩
    have HR5:=zh (HR4.out.below hb)
    have hzR5:=HR5.out.size
    have HB5:=zh (HB4.out.kp (Kp.of_below (pb:=E.pb) hb) (by omega))
    have hzHB5:=HB5.out.lt
    clear hb
    unfold zmb
    have fl0:=zjc
    have fl1:=zfc
    have fl3:=zic
    by_cases hkd:(hdT l).kind=1
    ·
     have HI:=zh (show ((hdT l).kind == 1)=true by rw [hkd];rfl)
     have hne:(((hdT l).kind:Int) == 1)=true:=by rw [hkd];rfl
     clear hkd
     go_wp2_with fail
     refine (zIk HR5.out.st).mono ?_
     intro e w6 hp
     cases hr:zMa l with
     | error pc =>
      obtain ⟨p,c⟩:=pc
      obtain ⟨rfl,hk,hcd⟩:=hp.err hr
      have HK:=zh (HR5.out.kp.trans hk)
      have HP:=zh (show zpc l=.error (p,c) by unfold zpc;exact ((zwa HIa.out _ _)).trans (((zwa HIb.out _ _)).trans (((zwa HIc.out _ _)).trans (((zFa HI.out _ _)).trans (hr)))))
      clear hr hp hk
      go_wp2
      exact ⟨rfl,Run.err HK.out HP.out hcd⟩
     | ok q =>
      obtain ⟨a6,l6⟩:=q
      obtain ⟨v6,rfl,hv,hs,hl,hk⟩:=hp.ok hr
      obtain ⟨kv6,rfl,ht⟩:=hv
      have HT6:=zh (ht.weak HB5.out.lt)
      have HR6:=zh (HR5.out.call hk hs)
      have hzR6:=HR6.out.size
      have HB6:=zh (HB5.out.kp hk (by omega))
      have hzHB6:=HB6.out.lt
      have HL6:=zh hl
      have H6:=zh hr
      clear hr hp hs hl hk ht
      unfold zna
      have HP:=zh (show zpc l=.ok (a6,l6) by unfold zpc;exact ((zwa HIa.out _ _)).trans (((zwa HIb.out _ _)).trans (((zwa HIc.out _ _)).trans (((zFa HI.out _ _)).trans (H6.out)))))
      go_wp2_with ((with_reducible refine zla 25 (.tmp 2) ?_);refine zda rfl 25 (.tmp 2) (.tmp 33) rfl w.heap.size (zaa (a6) (kv6)) rfl rfl HB6.out Tryz.zea rfl (zca _ _ HT6.out.kat.one) ?_)
      exact zma (cs:=zaa (a6) (kv6)) Tryz.results138 rfl HB6.out Tryz.underlying25 rfl Tryz.zea rfl (Run.node HR6.out HT6.out.lo HP.out (by have:=HL6.out;first|omega|(simp only [List.length_tail] at *;omega)))
    ·
     have HI:=zh (show ((hdT l).kind == 1)=false from beq_eq_false_iff_ne.2 hkd)
     have hne:(((hdT l).kind:Int) == 1)=false:=by simp;omega
     clear hkd
     go_wp2_with fail
     refine (zUf HR5.out.st).mono ?_
     intro e w6 hp
     cases hr:zPa l with
     | error pc =>
      obtain ⟨p,c⟩:=pc
      obtain ⟨rfl,hk,hcd⟩:=hp.err hr
      have HK:=zh (HR5.out.kp.trans hk)
      have HP:=zh (show zpc l=.error (p,c) by unfold zpc;exact ((zwa HIa.out _ _)).trans (((zwa HIb.out _ _)).trans (((zwa HIc.out _ _)).trans (((zwa HI.out _ _)).trans (hr)))))
      clear hr hp hk
      go_wp2
      exact ⟨rfl,Run.err HK.out HP.out hcd⟩
     | ok q =>
      obtain ⟨a6,l6⟩:=q
      obtain ⟨v6,rfl,hv,hs,hl,hk⟩:=hp.ok hr
      obtain ⟨kv6,rfl,ht⟩:=hv
      have HT6:=zh (ht.weak HB5.out.lt)
      have HR6:=zh (HR5.out.call hk hs)
      have hzR6:=HR6.out.size
      have HB6:=zh (HB5.out.kp hk (by omega))
      have hzHB6:=HB6.out.lt
      have HL6:=zh hl
      have H6:=zh hr
      clear hr hp hs hl hk ht
      unfold zna
      have HP:=zh (show zpc l=.ok (a6,l6) by unfold zpc;exact ((zwa HIa.out _ _)).trans (((zwa HIb.out _ _)).trans (((zwa HIc.out _ _)).trans (((zwa HI.out _ _)).trans (H6.out)))))
      go_wp2_with ((with_reducible refine zla 25 (.tmp 2) ?_);refine zda rfl 25 (.tmp 2) (.tmp 35) rfl w.heap.size (zaa (a6) (kv6)) rfl rfl HB6.out Tryz.zea rfl (zca _ _ HT6.out.kat.one) ?_)
      exact zma (cs:=zaa (a6) (kv6)) Tryz.results138 rfl HB6.out Tryz.underlying25 rfl Tryz.zea rfl (Run.node HR6.out HT6.out.lo HP.out (by have:=HL6.out;first|omega|(simp only [List.length_tail] at *;omega)))
end Go.Proofs.YtpjnpffcnmgdcaaGreatDoor
