/- The contracts of the parser's nameTerm and numberTerm. The contracts of the parser's list and inParens, for whatever item they are handed: a method value of the parser whose contract is known. The contracts of the parser's index, callOf, refBehind. -/
import Derived.Test.YtpjnpffcnmgdcaaGreatDoorZ04
import Derived.Test.YtpjnpffcnmgdcaaGreatDoorZ03
import Derived.Deep.LoopGhost
namespace Go.Proofs.YtpjnpffcnmgdcaaGreatDoor
set_option maxRecDepth 100000
set_option maxHeartbeats 1000000
section
open Go.RowKit
theorem zYb {E:Env} {w:World} {l:List Tok} {d:Nat} (h:PSt E w l d) :
  Calls Tryz.prog 122 #[.pointer (some ⟨E.pb,0,none⟩)] w (zMb zTc E w l d (zoa l)):=by
 have HR0:=zh ((Run.start h).alloc (.cells zba.toArray 25))
 have HB0:=zh (Blk.new w zba 25)
 have hlo:=h.plt
 have hlt:=h.tlt
 have hln:=h.len
 clear h
 go_enter Tryz.func122,Tryz.ntmps122
 go_wp2_with fail
 refine (zJb HR0.out.st).mono ?_
 rintro e w1 ⟨rfl,hb⟩
 have HR1:=zh (HR0.out.below hb)
 have hzR1:=HR1.out.size
 have HB1:=zh (HB0.out.kp (Kp.of_below (pb:=E.pb) hb) (by omega))
 have hzHB1:=HB1.out.lt
 clear hb
 unfold zmb
 have fl0:=zjc
 have fl1:=zfc
 have fl3:=zic
 go_wp2_with fail
 refine (name_any HR1.out.st).mono ?_
 intro e w2 hp
 cases hr:zKb l with
 | error pc =>
  obtain ⟨p,c⟩:=pc
  obtain ⟨rfl,hk,hcd⟩:=hp.err hr
  have HK:=zh (HR1.out.kp.trans hk)
  have HP:=zh (show zoa l=.error (p,c) by unfold zoa;exact (zya hr _))
  clear hr hp hk
  go_wp2
  exact ⟨rfl,Run.err HK.out HP.out hcd⟩
 | ok q =>
  obtain ⟨a2,l2⟩:=q
  obtain ⟨v2,rfl,hv,hs,hl,hk⟩:=hp.ok hr
  obtain rfl:v2=.string a2:=hv
  have HR2:=zh (HR1.out.call hk hs)
  have hzR2:=HR2.out.size
  have HB2:=zh (HB1.out.kp hk (by omega))
  have hzHB2:=HB2.out.lt
  have HL2:=zh hl
  have H2:=zh hr
  clear hr hp hs hl hk
  have HP:=zh (show zoa l=.ok (T.mk 5 a2 0 (hdT l).place [],l2) by unfold zoa;exact (zpa H2.out _))
  go_wp2_with ((with_reducible refine zla 25 (.tmp 2) ?_);refine zda rfl 25 (.tmp 2) (.tmp 10) rfl w.heap.size (zaa (T.mk 5 a2 0 (hdT l).place []) (.slice none 0 0)) rfl rfl HB2.out Tryz.zea rfl (zca _ _ rfl) ?_)
  exact zma (cs:=zaa (T.mk 5 a2 0 (hdT l).place []) (.slice none 0 0)) Tryz.results122 rfl HB2.out Tryz.underlying25 rfl Tryz.zea rfl (Run.node HR2.out ((KAt.nil _ _ _).tat _ _ _ _) HP.out (by have:=HL2.out;first|omega|(simp only [List.length_tail] at *;omega)))
theorem zUf {E:Env} {w:World} {l:List Tok} {d:Nat} (h:PSt E w l d) :
  Calls Tryz.prog 129 #[.pointer (some ⟨E.pb,0,none⟩)] w (zMb zTc E w l d (zPa l)):=by
 have HR0:=zh ((Run.start h).alloc (.cells zba.toArray 25))
 have HB0:=zh (Blk.new w zba 25)
 have HL0:=zh (zlf h)
 have hlo:=h.plt
 have hlt:=h.tlt
 have hln:=h.len
 clear h
 go_enter Tryz.func129,Tryz.ntmps129
 go_wp2_with fail
 refine (zJb HR0.out.st).mono ?_
 rintro e w1 ⟨rfl,hb⟩
 have HR1:=zh (HR0.out.below hb)
 have hzR1:=HR1.out.size
 have HB1:=zh (HB0.out.kp (Kp.of_below (pb:=E.pb) hb) (by omega))
 have hzHB1:=HB1.out.lt
 clear hb
 unfold zmb
 have fl0:=zjc
 have fl1:=zfc
 have fl3:=zic
 cases hi:isT (hdT l) (bs [45]) with
 | false =>
  have HIi:=zh hi
  clear hi
  go_wp2_with fail
  refine (zSa (HR1.out.alloc _).st HIi.out).mono ?_
  rintro e w2 ⟨rfl,hb⟩
  have HR2:=zh ((HR1.out.alloc _).below hb)
  have hzR2:=HR2.out.size
  have HB2:=zh ((HB1.out.alloc _).kp (Kp.of_below (pb:=E.pb) hb) (by omega))
  have hzHB2:=HB2.out.lt
  have HN2:=zh ((Blk.new w1 (zaa (T.mk 5 e0 0 (hdT l).place []) (.slice none 0 0)) 25).kp (Kp.of_below (pb:=E.pb) hb) (by first|omega|(have:=HR0.out.size;simp at *;omega)))
  have hzHN2:=HN2.out.lt
  clear hb
  go_wp2_with fail
  refine (zhe HR2.out.st).mono ?_
  intro e w3 hp
  cases hr:zEa l with
  | error pc =>
   obtain ⟨p,c⟩:=pc
   obtain ⟨rfl,hk,hcd⟩:=hp.err hr
   have HK:=zh (HR2.out.kp.trans hk)
   have HP:=zh (show zPa l=.error (p,c) by unfold zPa;exact ((zwa HIi.out _ _)).trans ((zya hr _)))
   clear hr hp hk
   go_wp2
   exact ⟨rfl,Run.err HK.out HP.out hcd⟩
  | ok q =>
   obtain ⟨a3,l3⟩:=q
   obtain ⟨v3,rfl,hv,hs,hl,hk⟩:=hp.ok hr
   obtain ⟨rfl,hn0,hn1⟩:=hv
   have HR3:=zh (HR2.out.call hk hs)
   have hzR3:=HR3.out.size
   have HB3:=zh (HB2.out.kp hk (by omega))
   have hzHB3:=HB3.out.lt
   have HN3:=zh (HN2.out.kp hk (by first|omega|(have:=HR0.out.size;simp at *;omega)))
   have hzHN3:=HN3.out.lt
   have HL3:=zh hl
   have H3:=zh hr
   clear hr hp hs hl hk
   have hcell:_root_.Go.World.cell? _ ⟨w1.heap.size,2,none⟩=some (.int .i64 0):=HN3.out.cell 2
   have hfroz:=HN3.out.frozen 2
   have HP:=zh (show zPa l=.ok (T.mk 5 e0 (a3) (hdT l).place [],l3) by unfold zPa;exact ((zwa HIi.out _ _)).trans ((zpa H3.out _)))
   go_wp2_with (first|((with_reducible refine zqa 25 (.tmp 3) ?_);refine zia rfl 25 (.tmp 3) rfl w1.heap.size (zaa (T.mk 5 e0 (a3) (hdT l).place []) (.slice none 0 0)) rfl (show Blk _ w1.heap.size (zaa (T.mk 5 e0 (a3) (hdT l).place []) (.slice none 0 0)) 25 from (HN3.out.zNa 2 (.int .i64 (a3)))) Tryz.underlying25 rfl Tryz.zea ?_)|((with_reducible refine zla 25 (.tmp 2) ?_);refine zda rfl 25 (.tmp 2) (.tmp 17) rfl w.heap.size (zaa (T.mk 5 e0 (a3) (hdT l).place []) (.slice none 0 0)) rfl rfl (HB3.out.setOther ⟨w1.heap.size,2,none⟩ _ (by show _≠w1.heap.size;omega)) Tryz.zea rfl (zca _ _ rfl) ?_))
   exact zma (cs:=zaa (T.mk 5 e0 (a3) (hdT l).place []) (.slice none 0 0)) Tryz.results129 rfl (HB3.out.setOther ⟨w1.heap.size,2,none⟩ _ (by show _≠w1.heap.size;omega)) Tryz.underlying25 rfl Tryz.zea rfl (Run.node (HR3.out.setCell (a:=⟨w1.heap.size,2,none⟩) (by show w.heap.size≤w1.heap.size;omega) _) ((KAt.nil _ _ _).tat _ _ _ _) HP.out (by have:=HL0.out;have:=HL3.out;first|omega|(simp only [List.length_tail] at *;omega)))
 | true =>
  have HIi:=zh hi
  clear hi
  go_wp2_with fail
  refine (zLa (HR1.out.alloc _).st HIi.out (by decide)).mono ?_
  rintro e w2 ⟨rfl,hs,hk⟩
  have HR2:=zh ((HR1.out.alloc _).call hk hs)
  have hzR2:=HR2.out.size
  have HB2:=zh ((HB1.out.alloc _).kp hk (by omega))
  have hzHB2:=HB2.out.lt
  have HN2:=zh ((Blk.new w1 (zaa (T.mk 5 e0 0 (hdT l).place []) (.slice none 0 0)) 25).kp hk (by first|omega|(have:=HR0.out.size;simp at *;omega)))
  have hzHN2:=HN2.out.lt
  clear hs hk
  go_wp2_with fail
  refine (zhe HR2.out.st).mono ?_
  intro e w3 hp
  cases hr:zEa l.tail with
  | error pc =>
   obtain ⟨p,c⟩:=pc
   obtain ⟨rfl,hk,hcd⟩:=hp.err hr
   have HK:=zh (HR2.out.kp.trans hk)
   have HP:=zh (show zPa l=.error (p,c) by unfold zPa;exact ((zFa HIi.out _ _)).trans ((zya hr _)))
   clear hr hp hk
   go_wp2
   exact ⟨rfl,Run.err HK.out HP.out hcd⟩
  | ok q =>
   obtain ⟨a3,l3⟩:=q
   obtain ⟨v3,rfl,hv,hs,hl,hk⟩:=hp.ok hr
   obtain ⟨rfl,hn0,hn1⟩:=hv
   have HR3:=zh (HR2.out.call hk hs)
   have hzR3:=HR3.out.size
   have HB3:=zh (HB2.out.kp hk (by omega))
   have hzHB3:=HB3.out.lt
   have HN3:=zh (HN2.out.kp hk (by first|omega|(have:=HR0.out.size;simp at *;omega)))
   have hzHN3:=HN3.out.lt
   have HL3:=zh hl
   have H3:=zh hr
   clear hr hp hs hl hk
   have hcell:_root_.Go.World.cell? _ ⟨w1.heap.size,2,none⟩=some (.int .i64 0):=HN3.out.cell 2
   have hfroz:=HN3.out.frozen 2
   have HP:=zh (show zPa l=.ok (T.mk 5 e0 (-a3) (hdT l).place [],l3) by unfold zPa;exact ((zFa HIi.out _ _)).trans ((zpa H3.out _)))
   go_wp2_with (first|((with_reducible refine zqa 25 (.tmp 3) ?_);refine zia rfl 25 (.tmp 3) rfl w1.heap.size (zaa (T.mk 5 e0 (-a3) (hdT l).place []) (.slice none 0 0)) rfl (show Blk _ w1.heap.size (zaa (T.mk 5 e0 (-a3) (hdT l).place []) (.slice none 0 0)) 25 from (HN3.out.zNa 2 (.int .i64 (-a3)))) Tryz.underlying25 rfl Tryz.zea ?_)|((with_reducible refine zla 25 (.tmp 2) ?_);refine zda rfl 25 (.tmp 2) (.tmp 17) rfl w.heap.size (zaa (T.mk 5 e0 (-a3) (hdT l).place []) (.slice none 0 0)) rfl rfl (HB3.out.setOther ⟨w1.heap.size,2,none⟩ _ (by show _≠w1.heap.size;omega)) Tryz.zea rfl (zca _ _ rfl) ?_))
   exact zma (cs:=zaa (T.mk 5 e0 (-a3) (hdT l).place []) (.slice none 0 0)) Tryz.results129 rfl (HB3.out.setOther ⟨w1.heap.size,2,none⟩ _ (by show _≠w1.heap.size;omega)) Tryz.underlying25 rfl Tryz.zea rfl (Run.node (HR3.out.setCell (a:=⟨w1.heap.size,2,none⟩) (by show w.heap.size≤w1.heap.size;omega) _) ((KAt.nil _ _ _).tat _ _ _ _) HP.out (by have:=HL0.out;have:=HL3.out;first|omega|(simp only [List.length_tail] at *;omega)))
theorem zMf {E:Env} {w:World} {l:List Tok} {d:Nat} (h:PSt E w l d) :
  Calls Tryz.prog 126 #[.pointer (some ⟨E.pb,0,none⟩)] w (zMb zTc E w l d (zXa l)):=by
 have HR0:=zh ((Run.start h).alloc (.cells zba.toArray 25))
 have HB0:=zh (Blk.new w zba 25)
 have HL0:=zh (zlf h)
 have hlo:=h.plt
 have hlt:=h.tlt
 have hln:=h.len
 clear h
 go_enter Tryz.func126,Tryz.ntmps126
 go_wp2_with fail
 refine (zJb HR0.out.st).mono ?_
 rintro e w1 ⟨rfl,hb⟩
 have HR1:=zh (HR0.out.below hb)
 have hzR1:=HR1.out.size
 have HB1:=zh (HB0.out.kp (Kp.of_below (pb:=E.pb) hb) (by omega))
 have hzHB1:=HB1.out.lt
 clear hb
 unfold zmb
 have fl0:=zjc
 have fl1:=zfc
 have fl3:=zic
 by_cases hkd:(hdT l).kind=1
 ·
  have HI:=zh (show ((hdT l).kind == 1)=true by rw [hkd];rfl)
  have hne:(((hdT l).kind:Int) != 1)=false:=by rw [hkd];rfl
  clear hkd
  go_wp2_with fail
  refine (zYb HR1.out.st).mono ?_
  intro e w2 hp
  cases hr:zoa l with
  | error pc =>
   obtain ⟨p,c⟩:=pc
   obtain ⟨rfl,hk,hcd⟩:=hp.err hr
   have HK:=zh (HR1.out.kp.trans hk)
   have HP:=zh (show zXa l=.error (p,c) by unfold zXa;exact ((zFa HI.out _ _)).trans ((zya hr _)))
   clear hr hp hk
   go_wp2
   exact ⟨rfl,Run.err HK.out HP.out hcd⟩
  | ok q =>
   obtain ⟨a2,l2⟩:=q
   obtain ⟨v2,rfl,hv,hs,hl,hk⟩:=hp.ok hr
   obtain ⟨kv2,rfl,ht⟩:=hv
   have HT2:=zh (ht.weak HB1.out.lt)
   have HR2:=zh (HR1.out.call hk hs)
   have hzR2:=HR2.out.size
   have HB2:=zh (HB1.out.kp hk (by omega))
   have hzHB2:=HB2.out.lt
   have HL2:=zh hl
   have H2:=zh hr
   clear hr hp hs hl hk ht
   unfold zna
   go_wp2_with ((with_reducible refine zla 25 (.tmp 3) ?_);refine zga rfl 25 (.tmp 3) (.tmp 13) rfl (zaa (a2) (kv2)) (old:=zba) rfl rfl Tryz.zea rfl (zca _ _ HT2.out.kat.one) ?_)
   go_wp2_with fail
   refine (zJg (HR2.out.alloc _).st).mono ?_
   intro e w3 hp
   rcases hp with ⟨hS0,rfl,hs,hk⟩|⟨kk,ff,hS0,hf,rfl,hs,hk⟩
   ·
    have HR3:=zh ((HR2.out.alloc _).call hk hs)
    have hzR3:=HR3.out.size
    have HB3:=zh ((HB2.out.alloc _).kp hk (by omega))
    have hzHB3:=HB3.out.lt
    have HN3:=zh ((Blk.new w2 (zaa (a2) (kv2)) 25).kp hk (by first|omega|(have:=HR0.out.size;simp at *;omega)))
    have hzHN3:=HN3.out.lt
    have HT2_3:=zh ((HT2.out.alloc _).kp hk (fun b hb=>by omega))
    have HS:=zh hS0
    clear hS0 hs hk
    have HP:=zh (show zXa l=.ok (a2,l2) by unfold zXa;exact ((zFa HI.out _ _)).trans (((zpa H2.out _)).trans ((zGk HS.out _ _))))
    go_wp2_with (first|((with_reducible refine zqa 25 (.tmp 3) ?_);refine zia rfl 25 (.tmp 3) rfl w2.heap.size (zaa (a2) (kv2)) rfl (show Blk _ w2.heap.size (zaa (a2) (kv2)) 25 from (HN3.out.alloc _)) Tryz.underlying25 rfl Tryz.zea ?_)|((with_reducible refine zla 25 (.tmp 2) ?_);refine zda rfl 25 (.tmp 2) (.tmp 26) rfl w.heap.size (zaa (a2) (kv2)) rfl rfl (HB3.out.alloc _) Tryz.zea rfl (zca _ _ HT2.out.kat.one) ?_))
    exact zma (cs:=zaa (a2) (kv2)) Tryz.results126 rfl (HB3.out.alloc _) Tryz.underlying25 rfl Tryz.zea rfl (Run.node (HR3.out.alloc _) (HT2_3.out.alloc _).lo HP.out (by have:=HL2.out;first|omega|(simp only [List.length_tail] at *;omega)))
   ·
    have HR3:=zh ((HR2.out.alloc _).call hk hs)
    have hzR3:=HR3.out.size
    have HB3:=zh ((HB2.out.alloc _).kp hk (by omega))
    have hzHB3:=HB3.out.lt
    have HN3:=zh ((Blk.new w2 (zaa (a2) (kv2)) 25).kp hk (by first|omega|(have:=HR0.out.size;simp at *;omega)))
    have hzHN3:=HN3.out.lt
    have HT2_3:=zh ((HT2.out.alloc _).kp hk (fun b hb=>by omega))
    have HS:=zh hS0
    clear hS0 hs hk
    have HF:=zh hf
    clear hf
    go_wp2_with fail
    refine AnyE.zCc (S:=fun W=>Blk W w3.heap.size [.int .i64 kk,.int .i64 ff] 194) (by kernel_rfl) ((Blk.new w3 [.int .i64 kk,.int .i64 ff] 194).drew) (fun hS=>?_)
    refine AnyE.take (i:=0) (v:=.pointer (some ⟨w3.heap.size,1,none⟩)) rfl (by kernel_rfl) (by kernel_rfl) (by kernel_rfl) (by kernel_rfl) (fun _ _ _ h=>h) (Or.inl ⟨by rfl,fun W _=>by go_simp⟩) hS ?_
    refine AnyE.take (i:=1) (v:=.int .i64 ff) rfl (by kernel_rfl) (by kernel_rfl) (by kernel_rfl) (by kernel_rfl) (fun _ _ _ h=>h) (Or.inl ⟨by rfl,fun W hW=>by have hc1:W.cell? ⟨w3.heap.size,1,none⟩=some (.int .i64 ff):=hW.cell 1;go_simp⟩) hS ?_
    refine AnyE.take (i:=2) (v:=.pointer (some ⟨E.pb,0,none⟩)) rfl (by kernel_rfl) (by kernel_rfl) (by kernel_rfl) (by kernel_rfl) (fun _ _ _ h=>h) (Or.inl ⟨by rfl,fun W _=>by go_simp⟩) hS ?_
    refine AnyE.one (i:=3) (by kernel_rfl) rfl (by rfl) (fun K hK=>?_)
    go_simp
    refine (zhe ((HR3.out.alloc _).drew).st).mono ?_
    intro e w4 hp
    cases hr:zEa l2.tail with
    | error pc =>
     obtain ⟨p,c⟩:=pc
     obtain ⟨rfl,hk,hcd⟩:=hp.err hr
     have HK:=zh (((HR3.out.alloc _).drew).kp.trans hk)
     have HP:=zh (show zXa l=.error (p,c) by unfold zXa;exact ((zFa HI.out _ _)).trans (((zpa H2.out _)).trans (((zZe HS.out _ _)).trans ((zya hr _)))))
     clear hr hp hk
     go_wp2
     exact ⟨rfl,Run.err HK.out HP.out hcd⟩
    | ok q =>
     obtain ⟨a4,l4⟩:=q
     obtain ⟨v4,rfl,hv,hs,hl,hk⟩:=hp.ok hr
     obtain ⟨rfl,hn0,hn1⟩:=hv
     have HR4:=zh (((HR3.out.alloc _).drew).call hk hs)
     have hzR4:=HR4.out.size
     have HB4:=zh (((HB3.out.alloc _).drew).kp hk (by omega))
     have hzHB4:=HB4.out.lt
     have HN4:=zh (((HN3.out.alloc _).drew).kp hk (by first|omega|(have:=HR0.out.size;simp at *;omega)))
     have hzHN4:=HN4.out.lt
     have HS_4:=zh (((Blk.new w3 [.int .i64 kk,.int .i64 ff] 194).drew).kp hk (by first|omega|(have:=HR0.out.size;simp at *;omega)))
     have hzHS_4:=HS_4.out.lt
     have HT2_4:=zh (((HT2_3.out.alloc _).drew).kp hk (fun b hb=>by omega))
     have HL4:=zh hl
     have H4:=zh hr
     clear hr hp hs hl hk
     refine hK.out _ _ (fun _=>HS_4.out) ?_
     clear hK K
     have hwr:IntKind.i64.wrap (ff * a4)=ff * a4:=by
      have h1:ff * a4=a4∨ff * a4=-a4:=by rcases HF.out with rfl|rfl;exact .inl (by omega);exact .inr (by omega)
      refine IntWalk.i64_in _ ?_
      rcases h1 with h1|h1<;>rw [h1]<;>omega
     refine AnyE.one (i:=4) (by kernel_rfl) rfl (by rfl) (fun K hK=>?_)
     go_simp
     refine hK.out _ _ (fun _=>HS_4.out) ?_
     clear hK K
     refine AnyE.one (i:=5) (by kernel_rfl) rfl (by rfl) (fun K hK=>?_)
     go_simp
     refine hK.out _ _ (fun _=>HS_4.out) ?_
     clear hK K
     refine AnyE.one (i:=6) (by kernel_rfl) rfl (by rfl) (fun K hK=>?_)
     have hcell:_root_.Go.World.cell? _ ⟨w2.heap.size,2,none⟩=some (.int .i64 a2.num):=HN4.out.cell 2
     have hfroz:=HN4.out.frozen 2
     go_simp
     refine hK.out _ _ (fun h=>absurd rfl h) ?_
     clear hK K
     refine AnyE.done (by kernel_rfl) ?_ _
     have HP:=zh (show zXa l=.ok (a2.zkb (ff * a4),l4) by unfold zXa;exact ((zFa HI.out _ _)).trans (((zpa H2.out _)).trans (((zZe HS.out _ _)).trans ((zpa H4.out _)))))
     go_wp2_with (first|((with_reducible refine zqa 25 (.tmp 3) ?_);refine zia rfl 25 (.tmp 3) rfl w2.heap.size (zaa (a2.zkb (ff * a4)) (kv2)) rfl (show Blk _ w2.heap.size (zaa (a2.zkb (ff * a4)) (kv2)) 25 from (by rw [← zWb];exact (HN4.out.zNa 2 (.int .i64 (ff * a4))))) Tryz.underlying25 rfl Tryz.zea ?_)|((with_reducible refine zla 25 (.tmp 2) ?_);refine zda rfl 25 (.tmp 2) (.tmp 26) rfl w.heap.size (zaa (a2.zkb (ff * a4)) (kv2)) rfl rfl (HB4.out.setOther ⟨w2.heap.size,2,none⟩ _ (by show _≠w2.heap.size;omega)) Tryz.zea rfl (zca _ _ HT2.out.kat.one) ?_))
     exact zma (cs:=zaa (a2.zkb (ff * a4)) (kv2)) Tryz.results126 rfl (HB4.out.setOther ⟨w2.heap.size,2,none⟩ _ (by show _≠w2.heap.size;omega)) Tryz.underlying25 rfl Tryz.zea rfl (Run.node (HR4.out.setCell (a:=⟨w2.heap.size,2,none⟩) (by show w.heap.size≤w2.heap.size;omega) _) (TAt.zHa (by cases a2;exact (HT2_4.out.setCell ⟨w2.heap.size,2,none⟩ _ (fun b hb=>by show _≠w2.heap.size;omega)).lo.kat)) HP.out (by have:=HL2.out;have:=HL4.out;first|omega|(simp only [List.length_tail] at *;omega)))
 ·
  have HI:=zh (show ((hdT l).kind == 1)=false from beq_eq_false_iff_ne.2 hkd)
  have hne:(((hdT l).kind:Int) != 1)=true:=by simp;omega
  clear hkd
  go_wp2_with fail
  refine (zUf HR1.out.st).mono ?_
  intro e w2 hp
  cases hr:zPa l with
  | error pc =>
   obtain ⟨p,c⟩:=pc
   obtain ⟨rfl,hk,hcd⟩:=hp.err hr
   have HK:=zh (HR1.out.kp.trans hk)
   have HP:=zh (show zXa l=.error (p,c) by unfold zXa;exact ((zwa HI.out _ _)).trans (hr))
   clear hr hp hk
   go_wp2
   exact ⟨rfl,Run.err HK.out HP.out hcd⟩
  | ok q =>
   obtain ⟨a2,l2⟩:=q
   obtain ⟨v2,rfl,hv,hs,hl,hk⟩:=hp.ok hr
   obtain ⟨kv2,rfl,ht⟩:=hv
   have HT2:=zh (ht.weak HB1.out.lt)
   have HR2:=zh (HR1.out.call hk hs)
   have hzR2:=HR2.out.size
   have HB2:=zh (HB1.out.kp hk (by omega))
   have hzHB2:=HB2.out.lt
   have HL2:=zh hl
   have H2:=zh hr
   clear hr hp hs hl hk ht
   unfold zna
   have HP:=zh (show zXa l=.ok (a2,l2) by unfold zXa;exact ((zwa HI.out _ _)).trans (H2.out))
   go_wp2_with ((with_reducible refine zla 25 (.tmp 2) ?_);refine zda rfl 25 (.tmp 2) (.tmp 11) rfl w.heap.size (zaa (a2) (kv2)) rfl rfl HB2.out Tryz.zea rfl (zca _ _ HT2.out.kat.one) ?_)
   exact zma (cs:=zaa (a2) (kv2)) Tryz.results126 rfl HB2.out Tryz.underlying25 rfl Tryz.zea rfl (Run.node HR2.out HT2.out.lo HP.out (by have:=HL2.out;first|omega|(simp only [List.length_tail] at *;omega)))
end
section
open Go.RowKit
structure zDn (E:Env) (d:Nat) (f:FuncId) (item:List Tok→R T):Prop where
 enter:∀ (args:Array Value) (w:World),(callFunc f args).run Tryz.prog w=.ok (.enter f args) w
 calls:∀ {w:World} {l:List Tok},PSt E w l d→Calls Tryz.prog f #[.pointer (some ⟨E.pb,0,none⟩)] w (zMb zTc E w l d (item l))
def zJs (W:World) (lo:Nat) (ks:List T) (v:Value):Prop:=KAt 25 W ks (fun b=>lo≤b) v∧ks.length≤16385
def zgt (E:Env) (w:World) (l:List Tok) (d:Nat) (item:List Tok→R T) (g:Nat) (v:Value) (wr:World):Prop :=
 ∃ (ks:List T) (lr:List Tok) (n:Nat),Run E w wr lr d∧KAt 25 wr ks (fun b=>w.heap.size≤b) v∧zRd item l=bd (zEd item n lr) (fun xs l'=>.ok (ks++xs,l'))∧lr.length≤n∧lr.length<l.length∧lr.length≤g∧ks.length+lr.length≤l.length
theorem zKn {α β γ:Type} (r:R α) (f:α→List Tok→R β) (g:β→List Tok→R γ):bd (bd r f) g=bd r fun a l=>bd (f a l) g:=by
 cases r with
 | error e=>rfl
 | ok q=>rfl
theorem zVr {item:List Tok→R T} {n:Nat} {l:List Tok} (hn:0<n) (h:isT (hdT l) (bs [44])=false):zEd item n l=.ok ([],l):=by
 cases n with
 | zero=>omega
 | succ n=>unfold zEd;rw [h];rfl
theorem zil {item:List Tok→R T} {n:Nat} {l:List Tok} (h:isT (hdT l) (bs [44])=true):zEd item (n+1) l=bd (item l.tail) fun a l=>bd (zEd item n l) fun xs l=>.ok (a :: xs,l):=by
 rw [zEd,h];rfl
theorem zIh {E:Env} {w:World} {l:List Tok} {d:Nat} (h:PSt E w l d) {f:FuncId} {item:List Tok→R T} (hI:zDn E d f item) :
  Calls Tryz.prog 109 #[.pointer (some ⟨E.pb,0,none⟩),.func (.func f) #[.pointer (some ⟨E.pb,0,none⟩)] #[]] w (zMb zJs E w l d (zRd item l)):=by
 have HR0:=zh (Run.start h)
 have HI:=zh hI
 have hcf:=fun w'=>hI.enter #[.pointer (some ⟨E.pb,0,none⟩)] w'
 have hlo:=h.plt
 have hlt:=h.tlt
 have hln:=h.len
 have hle:=h.le
 clear h hI
 obtain ⟨i0,z0,I⟩:=Tryz.zce
 go_enter Tryz.func109,Tryz.ntmps109
 go_wp2_with fail
 refine (HI.out.calls HR0.out.st).mono ?_
 intro e w1 hp
 cases hr:item l with
 | error pc =>
  obtain ⟨p,c⟩:=pc
  obtain ⟨rfl,hk,hcd⟩:=hp.err hr
  have HK:=zh hk
  have HP:=zh (show zRd item l=.error (p,c) by unfold zRd;exact zya hr _)
  clear hr hp hk
  go_wp2
  exact ⟨rfl,Run.err HK.out HP.out hcd⟩
 | ok q =>
  obtain ⟨a1,l1⟩:=q
  obtain ⟨v1,rfl,hv,hs,hl,hk⟩:=hp.ok hr
  obtain ⟨kv1,rfl,ht⟩:=hv
  have HT1:=zh ht
  have HR1:=zh (HR0.out.call hk hs)
  have HL1:=zh hl
  have H1:=zh hr
  clear hr hp hs hl hk ht
  unfold zna
  go_wp2_with fail
  go_loopg [5] l.length (fun g v wr=>zgt E w l d item g v wr)
  case atStart =>
   refine ⟨[a1],l1,l1.length,HR1.out.alloc _,KAt.zrk HT1.out HR1.out.size,?_,Nat.le_refl _,HL1.out,by have:=HL1.out;omega,by have:=HL1.out;simp;omega⟩
   unfold zRd
   rw [zpa H1.out]
   rfl
  case round =>
   obtain ⟨ks,lr,n,hR,hK,hE,hn,hlr,hg,hcnt⟩:=hrel
   have HR:=zh hR
   have HKA:=zh hK
   have HE:=zh hE
   have HN:=zh hn
   have HLR:=zh hlr
   have HG:=zh hg
   have HC:=zh hcnt
   have HP0:=zh hR.st.head.1
   clear hR hK hE hn hlr hg hcnt HR1 HT1 HL1 H1 HR0
   cases hi:isT (hdT lr) (bs [44]) with
   | false =>
    have HF:=zh hi
    clear hi
    go_wp2_with fail
    refine (zSa HR.out.st HF.out).mono ?_
    rintro e w2 ⟨rfl,hb⟩
    have HR2:=zh (HR.out.below hb)
    have HK2:=zh (HKA.out.below hb)
    clear hb
    have HP:=zh (show zRd item l=.ok (ks,lr) by rw [HE.out,zpa (zVr (by have:=HN.out;have:=HP0.out;omega) HF.out)];simp)
    go_wp2
    go_ret
    exact .zSh HP.out rfl ⟨HK2.out,by have:=HC.out;omega⟩ HR2.out.st HLR.out HR2.out.kp
   | true =>
    have HF:=zh hi
    clear hi
    obtain ⟨m,rfl⟩:∃ m,n=m+1:=⟨n-1,by have:=HN.out;have:=HP0.out;omega⟩
    go_wp2_with fail
    refine (zLa HR.out.st HF.out (by decide)).mono ?_
    rintro e w2 ⟨rfl,hs,hk⟩
    have HR2:=zh (HR.out.call hk hs)
    have HK2:=zh (HKA.out.kp hk (fun b hb=>by omega))
    clear hs hk
    go_wp2_with fail
    refine (HI.out.calls HR2.out.st).mono ?_
    intro e w3 hp
    cases hr:item lr.tail with
    | error pc =>
     obtain ⟨p,c⟩:=pc
     obtain ⟨rfl,hk,hcd⟩:=hp.err hr
     have HK:=zh (HR2.out.kp.trans hk)
     have HP:=zh (show zRd item l=.error (p,c) by rw [HE.out,zil HF.out,zya (zya hr _)])
     clear hr hp hk
     go_wp2
     exact ⟨rfl,Run.err HK.out HP.out hcd⟩
    | ok q =>
     obtain ⟨a3,l3⟩:=q
     obtain ⟨v3,rfl,hv,hs,hl,hk⟩:=hp.ok hr
     obtain ⟨kv3,rfl,ht⟩:=hv
     have HT3:=zh ht
     have HR3:=zh (HR2.out.call hk hs)
     have HK3:=zh (HK2.out.kp hk (fun b hb=>by omega))
     have HL3:=zh hl
     have H3:=zh hr
     have HOB:=zh (show ∀ g,u5.ownBlock=some g→g<w2.heap.size from fun g hg=>by obtain ⟨_,ho,_⟩:=HK2.out;exact (ho.lt g hg).2)
     clear hr hp hs hl hk ht
     unfold zna
     go_wp2_with (at_builtin;refine zxa rfl (.tmp 11) (.tmp 14) rfl I (ks:=ks) (ts:=[a3]) (S:=fun b=>w.heap.size≤b) rfl (HK3.out.alloc _) (us:=[kv3]) (zGb.single ?c1) ?c2 rfl rfl (by simp) (zke w3 _ a3 kv3) ?c3 ?_)
     case c1 =>
      refine (HT3.out.alloc _).mono fun b hb _=>⟨by have:=HR2.out.size;omega,fun hbk=>?_⟩
      have:=HOB.out b hbk
      omega
     case c2=>have:=HR3.out.size;simp;omega
     case c3=>have:=HC.out;simp;omega
     intro v' w4 hK4 hg4 hb4
     have HR4:=zh ((HR3.out.alloc _).grown hg4 (fun k hk=>by obtain ⟨_,_,hS,_⟩:=HK3.out;exact hS k hk))
     have HK4:=zh hK4
     clear hK4 hg4 hb4
     go_wp2
     go_roundg (gk-1)
     case measure=>have:=HG.out;have:=HP0.out;omega
     case rel =>
      have h1:=HL3.out
      have h2:=HN.out
      have h3:=HLR.out
      have h4:=HG.out
      have h5:=HC.out
      have h6:=HP0.out
      simp only [List.length_tail] at h1
      refine ⟨ks++[a3],l3,m,HR4.out,HK4.out,?_,by omega,by omega,by omega,by simp;omega⟩
      rw [HE.out,zil HF.out,zKn,zpa H3.out,zKn]
      congr 1
      funext xs l'
      simp [bd]
theorem zCf {E:Env} {w:World} {l:List Tok} {d:Nat} (h:PSt E w l d) {f:FuncId} {item:List Tok→R T} (hI:zDn E d f item) :
  Calls Tryz.prog 112 #[.pointer (some ⟨E.pb,0,none⟩),.func (.func f) #[.pointer (some ⟨E.pb,0,none⟩)] #[]] w (zMb zJs E w l d (zfb item l)):=by
 have HR0:=zh (Run.start h)
 have HI:=zh hI
 clear hI
 have hlo:=h.plt
 have hlt:=h.tlt
 have hln:=h.len
 clear h
 go_enter Tryz.func112,Tryz.ntmps112
 go_wp2_with fail
 refine (zcb HR0.out.st [bs [40]] (by decide) (by decide) (by simp) rfl rfl).mono ?_
 intro e w1 hp
 cases hr:zsa [bs [40]] l with
 | error pc =>
  obtain ⟨p,c⟩:=pc
  obtain ⟨rfl,hk,hcd⟩:=hp.err hr
  have HK:=zh (HR0.out.kp.trans hk)
  have HP:=zh (show zfb item l=.error (p,c) by unfold zfb;exact (zya hr _))
  clear hr hp hk
  go_wp2
  exact ⟨rfl,Run.err HK.out HP.out hcd⟩
 | ok q =>
  obtain ⟨a1,l1⟩:=q
  obtain ⟨v1,rfl,hv,hs,hl,hk⟩:=hp.ok hr
  obtain ⟨rfl,hto⟩:=hv
  have HR1:=zh (HR0.out.call hk hs)
  have hzR1:=HR1.out.size
  have HL1:=zh hl
  have H1:=zh hr
  clear hr hp hs hl hk hto
  unfold zmb
  cases hi:isT (hdT l1) (bs [41]) with
  | true =>
   have HIi:=zh hi
   clear hi
   go_wp2_with fail
   refine (zLa HR1.out.st HIi.out (by decide)).mono ?_
   rintro e w2 ⟨rfl,hs,hk⟩
   have HR2:=zh (HR1.out.call hk hs)
   have hzR2:=HR2.out.size
   clear hs hk
   have HP:=zh (show zfb item l=.ok ([],l1.tail) by unfold zfb;exact ((zpa H1.out _)).trans ((zFa HIi.out _ _)))
   go_wp2
   go_ret
   exact .zSh HP.out rfl ⟨KAt.nil _ _ _,by simp⟩ HR2.out.st (by have:=HL1.out;simp only [List.length_tail];omega) HR2.out.kp
  | false =>
   have HIi:=zh hi
   clear hi
   go_wp2_with fail
   refine (zSa HR1.out.st HIi.out).mono ?_
   rintro e w2 ⟨rfl,hb⟩
   have HR2:=zh (HR1.out.below hb)
   have hzR2:=HR2.out.size
   clear hb
   go_wp2_with fail
   refine (zIh HR2.out.st HI.out).mono ?_
   intro e w3 hp
   cases hr:zRd item l1 with
   | error pc =>
    obtain ⟨p,c⟩:=pc
    obtain ⟨rfl,hk,hcd⟩:=hp.err hr
    have HK:=zh (HR2.out.kp.trans hk)
    have HP:=zh (show zfb item l=.error (p,c) by unfold zfb;exact ((zpa H1.out _)).trans (((zwa HIi.out _ _)).trans ((zya hr _))))
    clear hr hp hk
    go_wp2
    exact ⟨rfl,Run.err HK.out HP.out hcd⟩
   | ok q =>
    obtain ⟨a3,l3⟩:=q
    obtain ⟨v3,rfl,hv,hs,hl,hk⟩:=hp.ok hr
    have HT3:=zh hv.1
    have HC3:=zh hv.2
    have HR3:=zh (HR2.out.call hk hs)
    have hzR3:=HR3.out.size
    have HL3:=zh hl
    have H3:=zh hr
    clear hr hp hs hl hk hv
    go_wp2_with fail
    refine (zcb HR3.out.st [bs [41]] (by decide) (by decide) (by simp) rfl rfl).mono ?_
    intro e w4 hp
    cases hr:zsa [bs [41]] l3 with
    | error pc =>
     obtain ⟨p,c⟩:=pc
     obtain ⟨rfl,hk,hcd⟩:=hp.err hr
     have HK:=zh (HR3.out.kp.trans hk)
     have HP:=zh (show zfb item l=.error (p,c) by unfold zfb;exact ((zpa H1.out _)).trans (((zwa HIi.out _ _)).trans (((zpa H3.out _)).trans ((zya hr _)))))
     clear hr hp hk
     go_wp2
     exact ⟨rfl,Run.err HK.out HP.out hcd⟩
    | ok q =>
     obtain ⟨a4,l4⟩:=q
     obtain ⟨v4,rfl,hv,hs,hl,hk⟩:=hp.ok hr
     obtain ⟨rfl,hto⟩:=hv
     have HR4:=zh (HR3.out.call hk hs)
     have hzR4:=HR4.out.size
     have HT3_4:=zh (HT3.out.kp hk (fun b hb=>by omega))
     have HL4:=zh hl
     have H4:=zh hr
     clear hr hp hs hl hk hto
     unfold zmb
     have HP:=zh (show zfb item l=.ok (a3,l4) by unfold zfb;exact ((zpa H1.out _)).trans (((zwa HIi.out _ _)).trans (((zpa H3.out _)).trans ((zpa H4.out _)))))
     go_wp2
     go_ret
     exact .zSh HP.out rfl ⟨HT3_4.out.mono (fun b hb _=>by have:=HR2.out.size;omega),HC3.out⟩ HR4.out.st (by have:=HL1.out;have:=HL3.out;have:=HL4.out;omega) HR4.out.kp
end
section
open Go.RowKit
theorem zJm (E:Env) (d:Nat):zDn E d 126 zXa:=⟨fun args w=>zye Tryz.func126 (by kernel_rfl) (by kernel_rfl) args w,fun h=>zMf h⟩
theorem zrl {E:Env} {w:World} {l:List Tok} {d:Nat} (h:PSt E w l d) :
  Calls Tryz.prog 137 #[.pointer (some ⟨E.pb,0,none⟩)] w (zMb zTc E w l d (zwd l)):=by
 have HR0:=zh ((Run.start h).alloc (.cells zba.toArray 25))
 have HB0:=zh (Blk.new w zba 25)
 have hlo:=h.plt
 have hlt:=h.tlt
 have hln:=h.len
 clear h
 go_enter Tryz.func137,Tryz.ntmps137
 go_wp2_with fail
 refine (zcb HR0.out.st [bs [91]] (by decide) (by decide) (by simp) rfl rfl).mono ?_
 intro e w1 hp
 cases hr:zsa [bs [91]] l with
 | error pc =>
  obtain ⟨p,c⟩:=pc
  obtain ⟨rfl,hk,hcd⟩:=hp.err hr
  have HK:=zh (HR0.out.kp.trans hk)
  have HP:=zh (show zwd l=.error (p,c) by unfold zwd;exact (zya hr _))
  clear hr hp hk
  go_wp2
  exact ⟨rfl,Run.err HK.out HP.out hcd⟩
 | ok q =>
  obtain ⟨a1,l1⟩:=q
  obtain ⟨v1,rfl,hv,hs,hl,hk⟩:=hp.ok hr
  obtain ⟨rfl,hto⟩:=hv
  have HR1:=zh (HR0.out.call hk hs)
  have hzR1:=HR1.out.size
  have HB1:=zh (HB0.out.kp hk (by omega))
  have hzHB1:=HB1.out.lt
  have HL1:=zh hl
  have H1:=zh hr
  clear hr hp hs hl hk hto
  unfold zmb
  go_wp2_with fail
  refine (zMf HR1.out.st).mono ?_
  intro e w2 hp
  cases hr:zXa l1 with
  | error pc =>
   obtain ⟨p,c⟩:=pc
   obtain ⟨rfl,hk,hcd⟩:=hp.err hr
   have HK:=zh (HR1.out.kp.trans hk)
   have HP:=zh (show zwd l=.error (p,c) by unfold zwd;exact ((zpa H1.out _)).trans ((zya hr _)))
   clear hr hp hk
   go_wp2
   exact ⟨rfl,Run.err HK.out HP.out hcd⟩
  | ok q =>
   obtain ⟨a2,l2⟩:=q
   obtain ⟨v2,rfl,hv,hs,hl,hk⟩:=hp.ok hr
   obtain ⟨kv2,rfl,ht⟩:=hv
   have HT2:=zh (ht.weak HB1.out.lt)
   have HR2:=zh (HR1.out.call hk hs)
   have hzR2:=HR2.out.size
   have HB2:=zh (HB1.out.kp hk (by omega))
   have hzHB2:=HB2.out.lt
   have HL2:=zh hl
   have H2:=zh hr
   clear hr hp hs hl hk ht
   unfold zna
   go_wp2_with ((with_reducible refine zla 25 (.tmp 3) ?_);refine zga rfl 25 (.tmp 3) (.tmp 8) rfl (zaa (a2) (kv2)) (old:=zba) rfl rfl Tryz.zea rfl (zca _ _ HT2.out.kat.one) ?_)
   go_wp2_with fail
   refine (zcb (HR2.out.alloc _).st [bs [93]] (by decide) (by decide) (by simp) rfl rfl).mono ?_
   intro e w3 hp
   cases hr:zsa [bs [93]] l2 with
   | error pc =>
    obtain ⟨p,c⟩:=pc
    obtain ⟨rfl,hk,hcd⟩:=hp.err hr
    have HK:=zh ((HR2.out.alloc _).kp.trans hk)
    have HP:=zh (show zwd l=.error (p,c) by unfold zwd;exact ((zpa H1.out _)).trans (((zpa H2.out _)).trans ((zya hr _))))
    clear hr hp hk
    go_wp2
    exact ⟨rfl,Run.err HK.out HP.out hcd⟩
   | ok q =>
    obtain ⟨a3,l3⟩:=q
    obtain ⟨v3,rfl,hv,hs,hl,hk⟩:=hp.ok hr
    obtain ⟨rfl,hto⟩:=hv
    have HR3:=zh ((HR2.out.alloc _).call hk hs)
    have hzR3:=HR3.out.size
    have HB3:=zh ((HB2.out.alloc _).kp hk (by omega))
    have hzHB3:=HB3.out.lt
    have HN3:=zh ((Blk.new w2 (zaa (a2) (kv2)) 25).kp hk (by first|omega|(have:=HR0.out.size;simp at *;omega)))
    have hzHN3:=HN3.out.lt
    have HT2_3:=zh ((HT2.out.alloc _).kp hk (fun b hb=>by omega))
    have HL3:=zh hl
    have H3:=zh hr
    clear hr hp hs hl hk hto
    unfold zmb
    have HP:=zh (show zwd l=.ok (a2,l3) by unfold zwd;exact ((zpa H1.out _)).trans (((zpa H2.out _)).trans ((zpa H3.out _))))
    go_wp2_with (first|((with_reducible refine zqa 25 (.tmp 3) ?_);refine zia rfl 25 (.tmp 3) rfl w2.heap.size (zaa (a2) (kv2)) rfl (show Blk _ w2.heap.size (zaa (a2) (kv2)) 25 from HN3.out) Tryz.underlying25 rfl Tryz.zea ?_)|((with_reducible refine zla 25 (.tmp 2) ?_);refine zda rfl 25 (.tmp 2) (.tmp 12) rfl w.heap.size (zaa (a2) (kv2)) rfl rfl HB3.out Tryz.zea rfl (zca _ _ HT2.out.kat.one) ?_))
    exact zma (cs:=zaa (a2) (kv2)) Tryz.results137 rfl HB3.out Tryz.underlying25 rfl Tryz.zea rfl (Run.node HR3.out HT2_3.out.lo HP.out (by have:=HL1.out;have:=HL2.out;have:=HL3.out;first|omega|(simp only [List.length_tail] at *;omega)))
theorem zsk {E:Env} {w:World} {l:List Tok} {d:Nat} (h:PSt E w l d) (pl:Nat) :
  Calls Tryz.prog 139 #[.pointer (some ⟨E.pb,0,none⟩),.int .i64 pl] w (zMb zTc E w l d (zJl pl l)):=by
 have HR0:=zh ((Run.start h).alloc (.cells zba.toArray 25))
 have HB0:=zh (Blk.new w zba 25)
 have HL0:=zh (zlf h)
 have hlo:=h.plt
 have hlt:=h.tlt
 have hln:=h.len
 clear h
 go_enter Tryz.func139,Tryz.ntmps139
 cases hi:isT (hdT l) (bs [109,117,116]) with
 | false =>
  have HIi:=zh hi
  clear hi
  go_wp2_with fail
  refine (zSa HR0.out.st HIi.out).mono ?_
  rintro e w1 ⟨rfl,hb⟩
  have HR1:=zh (HR0.out.below hb)
  have hzR1:=HR1.out.size
  have HB1:=zh (HB0.out.kp (Kp.of_below (pb:=E.pb) hb) (by omega))
  have hzHB1:=HB1.out.lt
  clear hb
  go_wp2_with fail
  refine (name_any HR1.out.st).mono ?_
  intro e w2 hp
  cases hr:zKb l with
  | error pc =>
   obtain ⟨p,c⟩:=pc
   obtain ⟨rfl,hk,hcd⟩:=hp.err hr
   have HK:=zh (HR1.out.kp.trans hk)
   have HP:=zh (show zJl pl l=.error (p,c) by unfold zJl;exact ((zwa HIi.out _ _)).trans ((zya hr _)))
   clear hr hp hk
   go_wp2
   exact ⟨rfl,Run.err HK.out HP.out hcd⟩
  | ok q =>
   obtain ⟨a2,l2⟩:=q
   obtain ⟨v2,rfl,hv,hs,hl,hk⟩:=hp.ok hr
   obtain rfl:v2=.string a2:=hv
   have HR2:=zh (HR1.out.call hk hs)
   have hzR2:=HR2.out.size
   have HB2:=zh (HB1.out.kp hk (by omega))
   have hzHB2:=HB2.out.lt
   have HL2:=zh hl
   have H2:=zh hr
   clear hr hp hs hl hk
   have HP:=zh (show zJl pl l=.ok (T.mk 26 a2 0 pl [],l2) by unfold zJl;exact ((zwa HIi.out _ _)).trans ((zpa H2.out _)))
   go_wp2_with ((with_reducible refine zla 25 (.tmp 4) ?_);refine zda rfl 25 (.tmp 4) (.tmp 12) rfl w.heap.size (zaa (T.mk 26 a2 0 pl []) (.slice none 0 0)) rfl rfl HB2.out Tryz.zea rfl (zca _ _ rfl) ?_)
   exact zma (cs:=zaa (T.mk 26 a2 0 pl []) (.slice none 0 0)) Tryz.results139 rfl HB2.out Tryz.underlying25 rfl Tryz.zea rfl (Run.node HR2.out ((KAt.nil _ _ _).tat _ _ _ _) HP.out (by have:=HL0.out;have:=HL2.out;first|omega|(simp only [List.length_tail] at *;omega)))
 | true =>
  have HIi:=zh hi
  clear hi
  go_wp2_with fail
  refine (zLa HR0.out.st HIi.out (by decide)).mono ?_
  rintro e w1 ⟨rfl,hs,hk⟩
  have HR1:=zh (HR0.out.call hk hs)
  have hzR1:=HR1.out.size
  have HB1:=zh (HB0.out.kp hk (by omega))
  have hzHB1:=HB1.out.lt
  clear hs hk
  go_wp2_with fail
  refine (name_any HR1.out.st).mono ?_
  intro e w2 hp
  cases hr:zKb l.tail with
  | error pc =>
   obtain ⟨p,c⟩:=pc
   obtain ⟨rfl,hk,hcd⟩:=hp.err hr
   have HK:=zh (HR1.out.kp.trans hk)
   have HP:=zh (show zJl pl l=.error (p,c) by unfold zJl;exact ((zFa HIi.out _ _)).trans ((zya hr _)))
   clear hr hp hk
   go_wp2
   exact ⟨rfl,Run.err HK.out HP.out hcd⟩
  | ok q =>
   obtain ⟨a2,l2⟩:=q
   obtain ⟨v2,rfl,hv,hs,hl,hk⟩:=hp.ok hr
   obtain rfl:v2=.string a2:=hv
   have HR2:=zh (HR1.out.call hk hs)
   have hzR2:=HR2.out.size
   have HB2:=zh (HB1.out.kp hk (by omega))
   have hzHB2:=HB2.out.lt
   have HL2:=zh hl
   have H2:=zh hr
   clear hr hp hs hl hk
   have HP:=zh (show zJl pl l=.ok (T.mk 27 a2 0 pl [],l2) by unfold zJl;exact ((zFa HIi.out _ _)).trans ((zpa H2.out _)))
   go_wp2_with ((with_reducible refine zla 25 (.tmp 4) ?_);refine zda rfl 25 (.tmp 4) (.tmp 12) rfl w.heap.size (zaa (T.mk 27 a2 0 pl []) (.slice none 0 0)) rfl rfl HB2.out Tryz.zea rfl (zca _ _ rfl) ?_)
   exact zma (cs:=zaa (T.mk 27 a2 0 pl []) (.slice none 0 0)) Tryz.results139 rfl HB2.out Tryz.underlying25 rfl Tryz.zea rfl (Run.node HR2.out ((KAt.nil _ _ _).tat _ _ _ _) HP.out (by have:=HL0.out;have:=HL2.out;first|omega|(simp only [List.length_tail] at *;omega)))
theorem zej {E:Env} {w:World} {l:List Tok} {d:Nat} (h:PSt E w l d) (n:T) (sa:Option Addr) (sn sc:Nat) :
  Calls Tryz.prog 136 #[.pointer (some ⟨E.pb,0,none⟩),zna n (.slice sa sn sc)] w (zMb zTc E w l d (zOf n l)):=by
 have HR0:=zh (((Run.start h).alloc (.cells (zaa n (.slice sa sn sc)).toArray 25)).alloc (.cells zba.toArray 25))
 have HC0:=zh ((Blk.new w (zaa n (.slice sa sn sc)) 25).alloc (.cells zba.toArray 25))
 have HB0:=zh (Blk.zTe w (.cells (zaa n (.slice sa sn sc)).toArray 25) zba 25)
 have hlo:=h.plt
 have hlt:=h.tlt
 have hln:=h.len
 clear h
 unfold zna
 have hmf:=zbc
 go_enter Tryz.func136,Tryz.ntmps136
 go_wp2_with fail
 refine AnyE.zCc (S:=fun W=>Blk W w.heap.size (zaa n (.slice sa sn sc)) 25) (by kernel_rfl) (HC0.out.drew) (fun hS=>?_)
 refine AnyE.take (i:=0) (v:=.pointer (some ⟨w.heap.size,1,none⟩)) rfl (by kernel_rfl) (by kernel_rfl) (by kernel_rfl) (by kernel_rfl) (fun _ _ _ h=>h) (Or.inl ⟨by rfl,fun W _=>by go_simp⟩) hS ?_
 refine AnyE.take (i:=1) (v:=.string n.text) rfl (by kernel_rfl) (by kernel_rfl) (by kernel_rfl) (by kernel_rfl) (fun _ _ _ h=>h) (Or.inl ⟨by rfl,fun W hW=>by have hcx:W.cell? ⟨w.heap.size,1,none⟩=some (.string n.text):=hW.cell 1;go_simp⟩) hS ?_
 refine AnyE.take (i:=2) (v:=.pointer (some ⟨w.heap.size,3,none⟩)) rfl (by kernel_rfl) (by kernel_rfl) (by kernel_rfl) (by kernel_rfl) (fun _ _ _ h=>h) (Or.inl ⟨by rfl,fun W _=>by go_simp⟩) hS ?_
 refine AnyE.take (i:=3) (v:=.int .i64 n.place) rfl (by kernel_rfl) (by kernel_rfl) (by kernel_rfl) (by kernel_rfl) (fun _ _ _ h=>h) (Or.inl ⟨by rfl,fun W hW=>by have hcx:W.cell? ⟨w.heap.size,3,none⟩=some (.int .i64 n.place):=hW.cell 3;go_simp⟩) hS ?_
 refine AnyE.take (i:=4) (v:=.pointer (some ⟨E.pb,0,none⟩)) rfl (by kernel_rfl) (by kernel_rfl) (by kernel_rfl) (by kernel_rfl) (fun _ _ _ h=>h) (Or.inl ⟨by rfl,fun W _=>by go_simp⟩) hS ?_
 refine AnyE.take (i:=5) (v:=.pointer (some ⟨E.pb,0,none⟩)) rfl (by kernel_rfl) (by kernel_rfl) (by kernel_rfl) (by kernel_rfl) (fun _ _ _ h=>h) (Or.inl ⟨by rfl,fun W _=>by go_simp⟩) hS ?_
 refine AnyE.take (i:=6) (v:=.func (.func 126) #[.pointer (some ⟨E.pb,0,none⟩)] #[]) rfl (by kernel_rfl) (by kernel_rfl) (by kernel_rfl) (by kernel_rfl) (fun _ _ _ h=>h) (Or.inl ⟨by rfl,fun W _=>by go_simp⟩) hS ?_
 refine AnyE.one (i:=7) (by kernel_rfl) rfl (by rfl) (fun K hK=>?_)
 go_simp
 refine (zCf (HR0.out.drew).st (zJm E d)).mono ?_
 intro e w1 hp
 cases hr:zfb zXa l with
 | error pc =>
  obtain ⟨p,c⟩:=pc
  obtain ⟨rfl,hk,hcd⟩:=hp.err hr
  have HK:=zh ((HR0.out.drew).kp.trans hk)
  have HP:=zh (show zOf n l=.error (p,c) by unfold zOf;exact (zya hr _))
  clear hr hp hk
  go_wp2
  exact ⟨rfl,Run.err HK.out HP.out hcd⟩
 | ok q =>
  obtain ⟨a1,l1⟩:=q
  obtain ⟨v1,rfl,hv,hs,hl,hk⟩:=hp.ok hr
  have HT1:=zh (hv.1.weak (HB0.out.drew).lt)
  have HC1:=zh hv.2
  obtain ⟨sa1,sn1,sc1,rfl⟩:=HT1.out.slice
  have HR1:=zh ((HR0.out.drew).call hk hs)
  have hzR1:=HR1.out.size
  have HB1:=zh ((HB0.out.drew).kp hk (by omega))
  have hzHB1:=HB1.out.lt
  have HC_1:=zh ((HC0.out.drew).kp hk (by first|omega|(have:=HR0.out.size;simp at *;omega)))
  have hzHC_1:=HC_1.out.lt
  have HL1:=zh hl
  have H1:=zh hr
  clear hr hp hs hl hk hv
  refine hK.out _ _ (fun _=>HC_1.out) ?_
  clear hK K
  refine AnyE.one (i:=8) (by kernel_rfl) rfl (by rfl) (fun K hK=>?_)
  go_simp
  refine hK.out _ _ (fun _=>HC_1.out) ?_
  clear hK K
  have HP:=zh (show zOf n l=.ok (T.mk 28 n.text 0 n.place a1,l1) by unfold zOf;exact (zpa H1.out _))
  refine AnyE.one (i:=9) (by kernel_rfl) rfl (by rfl) (fun K hK=>?_)
  refine zva 25 (.tmp 4) (.tmp 13) rfl (w.heap.size+1) (zaa (T.mk 28 n.text 0 n.place a1) (.slice sa1 sn1 sc1)) rfl rfl HB1.out Tryz.zea rfl (zca _ _ rfl) ?_
  refine hK.out _ _ (fun h=>absurd rfl h) ?_
  clear hK K
  refine AnyE.done (by kernel_rfl) ?_ _
  go_wp2
  exact zkf (cs:=zaa (T.mk 28 n.text 0 n.place a1) (.slice sa1 sn1 sc1)) Tryz.results136 rfl HB1.out Tryz.underlying25 rfl Tryz.zea rfl (Run.nodeAt (by omega) HR1.out (HT1.out.lo.tat _ _ _ _) HP.out (by have:=HL1.out;first|omega|(simp only [List.length_tail] at *;omega)))
end
end Go.Proofs.YtpjnpffcnmgdcaaGreatDoor
