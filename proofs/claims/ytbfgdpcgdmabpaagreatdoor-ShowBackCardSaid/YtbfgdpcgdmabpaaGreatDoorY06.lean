/- The contracts of the parser's nameTerm and numberTerm. The contracts of the parser's list and inParens, for whatever item they are handed: a method value of the parser whose contract is known. -/
import Derived.Test.YtbfgdpcgdmabpaaGreatDoorY05
import Derived.Test.YtbfgdpcgdmabpaaGreatDoorY04
import Derived.Deep.LoopGhost
namespace Go.Proofs.YtbfgdpcgdmabpaaGreatDoor
set_option maxRecDepth 100000
set_option maxHeartbeats 1000000
section
open Go.RowKit
theorem zzc {E:Env} {w:World} {l:List Tok} {d:Nat} (h:PSt E w l d) :
  Calls Tryz.prog 164 #[.pointer (some ⟨E.pb,0,none⟩)] w (zec zvd E w l d (zYa l)):=by
 have HR0:=zh ((Run.start h).alloc (.cells zga.toArray 25))
 have HB0:=zh (Blk.new w zga 25)
 have hlo:=h.plt
 have hlt:=h.tlt
 have hln:=h.len
 clear h
 go_enter Tryz.func164,Tryz.ntmps164
 go_wp2_with fail
 refine (zfc HR0.out.st).mono ?_
 rintro e w1 ⟨rfl,hb⟩
 have HR1:=zh (HR0.out.below hb)
 have hzR1:=HR1.out.size
 have HB1:=zh (HB0.out.kp (Kp.of_below (pb:=E.pb) hb) (by omega))
 have hzHB1:=HB1.out.lt
 clear hb
 unfold zJc
 have fl0:=zGc
 have fl1:=zFc
 have fl3:=zIc
 go_wp2_with fail
 refine (name_any HR1.out.st).mono ?_
 intro e w2 hp
 cases hr:zdd l with
 | error pc =>
  obtain ⟨p,c⟩:=pc
  obtain ⟨rfl,hk,hcd⟩:=hp.err hr
  have HK:=zh (HR1.out.kp.trans hk)
  have HP:=zh (show zYa l=.error (p,c) by unfold zYa;exact (zNa hr _))
  clear hr hp hk
  go_wp2
  exact ⟨rfl,Run.err HK.out HP.out hcd⟩
 | ok q =>
  obtain ⟨a2,l2⟩:=q
  obtain ⟨v2,rfl,hv,hs,hl,hk⟩:=hp.ok hr
  obtain rfl:v2=.string a2:=hv
  have HR2:=zh (HR1.out.call hk hs)
  have hzR2:=HR2.out.size
  have HB2:=zh (HB1.out.kp hk (by omega))
  have hzHB2:=HB2.out.lt
  have HL2:=zh hl
  have H2:=zh hr
  clear hr hp hs hl hk
  have HP:=zh (show zYa l=.ok (T.mk 5 a2 0 (hdT l).place [],l2) by unfold zYa;exact (zHa H2.out _))
  go_wp2_with ((with_reducible refine zlb 25 (.tmp 2) ?_);refine zma rfl 25 (.tmp 2) (.tmp 10) rfl w.heap.size (zaa (T.mk 5 a2 0 (hdT l).place []) (.slice none 0 0)) rfl rfl HB2.out Tryz.zla rfl (zoa _ _ rfl) ?_)
  exact zab (cs:=zaa (T.mk 5 a2 0 (hdT l).place []) (.slice none 0 0)) Tryz.results164 rfl HB2.out Tryz.underlying25 rfl Tryz.zla rfl (Run.node HR2.out ((KAt.nil _ _ _).tat _ _ _ _) HP.out (by have:=HL2.out;first|omega|(simp only [List.length_tail] at *;omega)))
theorem zng {E:Env} {w:World} {l:List Tok} {d:Nat} (h:PSt E w l d) :
  Calls Tryz.prog 183 #[.pointer (some ⟨E.pb,0,none⟩)] w (zec zvd E w l d (zWa l)):=by
 have HR0:=zh ((Run.start h).alloc (.cells zga.toArray 25))
 have HB0:=zh (Blk.new w zga 25)
 have HL0:=zh (zwf h)
 have hlo:=h.plt
 have hlt:=h.tlt
 have hln:=h.len
 clear h
 go_enter Tryz.func183,Tryz.ntmps183
 go_wp2_with fail
 refine (zfc HR0.out.st).mono ?_
 rintro e w1 ⟨rfl,hb⟩
 have HR1:=zh (HR0.out.below hb)
 have hzR1:=HR1.out.size
 have HB1:=zh (HB0.out.kp (Kp.of_below (pb:=E.pb) hb) (by omega))
 have hzHB1:=HB1.out.lt
 clear hb
 unfold zJc
 have fl0:=zGc
 have fl1:=zFc
 have fl3:=zIc
 cases hi:isT (hdT l) (bs [45]) with
 | false =>
  have HIi:=zh hi
  clear hi
  go_wp2_with fail
  refine (ztb (HR1.out.alloc _).st HIi.out).mono ?_
  rintro e w2 ⟨rfl,hb⟩
  have HR2:=zh ((HR1.out.alloc _).below hb)
  have hzR2:=HR2.out.size
  have HB2:=zh ((HB1.out.alloc _).kp (Kp.of_below (pb:=E.pb) hb) (by omega))
  have hzHB2:=HB2.out.lt
  have HN2:=zh ((Blk.new w1 (zaa (T.mk 5 e0 0 (hdT l).place []) (.slice none 0 0)) 25).kp (Kp.of_below (pb:=E.pb) hb) (by first|omega|(have:=HR0.out.size;simp at *;omega)))
  have hzHN2:=HN2.out.lt
  clear hb
  go_wp2_with fail
  refine (zBe HR2.out.st).mono ?_
  intro e w3 hp
  cases hr:zVb l with
  | error pc =>
   obtain ⟨p,c⟩:=pc
   obtain ⟨rfl,hk,hcd⟩:=hp.err hr
   have HK:=zh (HR2.out.kp.trans hk)
   have HP:=zh (show zWa l=.error (p,c) by unfold zWa;exact ((zLa HIi.out _ _)).trans ((zNa hr _)))
   clear hr hp hk
   go_wp2
   exact ⟨rfl,Run.err HK.out HP.out hcd⟩
  | ok q =>
   obtain ⟨a3,l3⟩:=q
   obtain ⟨v3,rfl,hv,hs,hl,hk⟩:=hp.ok hr
   obtain ⟨rfl,hn0,hn1⟩:=hv
   have HR3:=zh (HR2.out.call hk hs)
   have hzR3:=HR3.out.size
   have HB3:=zh (HB2.out.kp hk (by omega))
   have hzHB3:=HB3.out.lt
   have HN3:=zh (HN2.out.kp hk (by first|omega|(have:=HR0.out.size;simp at *;omega)))
   have hzHN3:=HN3.out.lt
   have HL3:=zh hl
   have H3:=zh hr
   clear hr hp hs hl hk
   have hcell:_root_.Go.World.cell? _ ⟨w1.heap.size,2,none⟩=some (.int .i64 0):=HN3.out.cell 2
   have hfroz:=HN3.out.frozen 2
   have HP:=zh (show zWa l=.ok (T.mk 5 e0 (a3) (hdT l).place [],l3) by unfold zWa;exact ((zLa HIi.out _ _)).trans ((zHa H3.out _)))
   go_wp2_with (first|((with_reducible refine zCc 25 (.tmp 3) ?_);refine zAa rfl 25 (.tmp 3) rfl w1.heap.size (zaa (T.mk 5 e0 (a3) (hdT l).place []) (.slice none 0 0)) rfl (show Blk _ w1.heap.size (zaa (T.mk 5 e0 (a3) (hdT l).place []) (.slice none 0 0)) 25 from (HN3.out.zzd 2 (.int .i64 (a3)))) Tryz.underlying25 rfl Tryz.zla ?_)|((with_reducible refine zlb 25 (.tmp 2) ?_);refine zma rfl 25 (.tmp 2) (.tmp 17) rfl w.heap.size (zaa (T.mk 5 e0 (a3) (hdT l).place []) (.slice none 0 0)) rfl rfl (HB3.out.setOther ⟨w1.heap.size,2,none⟩ _ (by show _≠w1.heap.size;omega)) Tryz.zla rfl (zoa _ _ rfl) ?_))
   exact zab (cs:=zaa (T.mk 5 e0 (a3) (hdT l).place []) (.slice none 0 0)) Tryz.results183 rfl (HB3.out.setOther ⟨w1.heap.size,2,none⟩ _ (by show _≠w1.heap.size;omega)) Tryz.underlying25 rfl Tryz.zla rfl (Run.node (HR3.out.setCell (a:=⟨w1.heap.size,2,none⟩) (by show w.heap.size≤w1.heap.size;omega) _) ((KAt.nil _ _ _).tat _ _ _ _) HP.out (by have:=HL0.out;have:=HL3.out;first|omega|(simp only [List.length_tail] at *;omega)))
 | true =>
  have HIi:=zh hi
  clear hi
  go_wp2_with fail
  refine (zkb (HR1.out.alloc _).st HIi.out (by decide)).mono ?_
  rintro e w2 ⟨rfl,hs,hk⟩
  have HR2:=zh ((HR1.out.alloc _).call hk hs)
  have hzR2:=HR2.out.size
  have HB2:=zh ((HB1.out.alloc _).kp hk (by omega))
  have hzHB2:=HB2.out.lt
  have HN2:=zh ((Blk.new w1 (zaa (T.mk 5 e0 0 (hdT l).place []) (.slice none 0 0)) 25).kp hk (by first|omega|(have:=HR0.out.size;simp at *;omega)))
  have hzHN2:=HN2.out.lt
  clear hs hk
  go_wp2_with fail
  refine (zBe HR2.out.st).mono ?_
  intro e w3 hp
  cases hr:zVb l.tail with
  | error pc =>
   obtain ⟨p,c⟩:=pc
   obtain ⟨rfl,hk,hcd⟩:=hp.err hr
   have HK:=zh (HR2.out.kp.trans hk)
   have HP:=zh (show zWa l=.error (p,c) by unfold zWa;exact ((zfb HIi.out _ _)).trans ((zNa hr _)))
   clear hr hp hk
   go_wp2
   exact ⟨rfl,Run.err HK.out HP.out hcd⟩
  | ok q =>
   obtain ⟨a3,l3⟩:=q
   obtain ⟨v3,rfl,hv,hs,hl,hk⟩:=hp.ok hr
   obtain ⟨rfl,hn0,hn1⟩:=hv
   have HR3:=zh (HR2.out.call hk hs)
   have hzR3:=HR3.out.size
   have HB3:=zh (HB2.out.kp hk (by omega))
   have hzHB3:=HB3.out.lt
   have HN3:=zh (HN2.out.kp hk (by first|omega|(have:=HR0.out.size;simp at *;omega)))
   have hzHN3:=HN3.out.lt
   have HL3:=zh hl
   have H3:=zh hr
   clear hr hp hs hl hk
   have hcell:_root_.Go.World.cell? _ ⟨w1.heap.size,2,none⟩=some (.int .i64 0):=HN3.out.cell 2
   have hfroz:=HN3.out.frozen 2
   have HP:=zh (show zWa l=.ok (T.mk 5 e0 (-a3) (hdT l).place [],l3) by unfold zWa;exact ((zfb HIi.out _ _)).trans ((zHa H3.out _)))
   go_wp2_with (first|((with_reducible refine zCc 25 (.tmp 3) ?_);refine zAa rfl 25 (.tmp 3) rfl w1.heap.size (zaa (T.mk 5 e0 (-a3) (hdT l).place []) (.slice none 0 0)) rfl (show Blk _ w1.heap.size (zaa (T.mk 5 e0 (-a3) (hdT l).place []) (.slice none 0 0)) 25 from (HN3.out.zzd 2 (.int .i64 (-a3)))) Tryz.underlying25 rfl Tryz.zla ?_)|((with_reducible refine zlb 25 (.tmp 2) ?_);refine zma rfl 25 (.tmp 2) (.tmp 17) rfl w.heap.size (zaa (T.mk 5 e0 (-a3) (hdT l).place []) (.slice none 0 0)) rfl rfl (HB3.out.setOther ⟨w1.heap.size,2,none⟩ _ (by show _≠w1.heap.size;omega)) Tryz.zla rfl (zoa _ _ rfl) ?_))
   exact zab (cs:=zaa (T.mk 5 e0 (-a3) (hdT l).place []) (.slice none 0 0)) Tryz.results183 rfl (HB3.out.setOther ⟨w1.heap.size,2,none⟩ _ (by show _≠w1.heap.size;omega)) Tryz.underlying25 rfl Tryz.zla rfl (Run.node (HR3.out.setCell (a:=⟨w1.heap.size,2,none⟩) (by show w.heap.size≤w1.heap.size;omega) _) ((KAt.nil _ _ _).tat _ _ _ _) HP.out (by have:=HL0.out;have:=HL3.out;first|omega|(simp only [List.length_tail] at *;omega)))
theorem zRf {E:Env} {w:World} {l:List Tok} {d:Nat} (h:PSt E w l d) :
  Calls Tryz.prog 178 #[.pointer (some ⟨E.pb,0,none⟩)] w (zec zvd E w l d (zZb l)):=by
 have HR0:=zh ((Run.start h).alloc (.cells zga.toArray 25))
 have HB0:=zh (Blk.new w zga 25)
 have HL0:=zh (zwf h)
 have hlo:=h.plt
 have hlt:=h.tlt
 have hln:=h.len
 clear h
 go_enter Tryz.func178,Tryz.ntmps178
 go_wp2_with fail
 refine (zfc HR0.out.st).mono ?_
 rintro e w1 ⟨rfl,hb⟩
 have HR1:=zh (HR0.out.below hb)
 have hzR1:=HR1.out.size
 have HB1:=zh (HB0.out.kp (Kp.of_below (pb:=E.pb) hb) (by omega))
 have hzHB1:=HB1.out.lt
 clear hb
 unfold zJc
 have fl0:=zGc
 have fl1:=zFc
 have fl3:=zIc
 by_cases hkd:(hdT l).kind=1
 ·
  have HI:=zh (show ((hdT l).kind == 1)=true by rw [hkd];rfl)
  have hne:(((hdT l).kind:Int) != 1)=false:=by rw [hkd];rfl
  clear hkd
  go_wp2_with fail
  refine (zzc HR1.out.st).mono ?_
  intro e w2 hp
  cases hr:zYa l with
  | error pc =>
   obtain ⟨p,c⟩:=pc
   obtain ⟨rfl,hk,hcd⟩:=hp.err hr
   have HK:=zh (HR1.out.kp.trans hk)
   have HP:=zh (show zZb l=.error (p,c) by unfold zZb;exact ((zfb HI.out _ _)).trans ((zNa hr _)))
   clear hr hp hk
   go_wp2
   exact ⟨rfl,Run.err HK.out HP.out hcd⟩
  | ok q =>
   obtain ⟨a2,l2⟩:=q
   obtain ⟨v2,rfl,hv,hs,hl,hk⟩:=hp.ok hr
   obtain ⟨kv2,rfl,ht⟩:=hv
   have HT2:=zh (ht.weak HB1.out.lt)
   have HR2:=zh (HR1.out.call hk hs)
   have hzR2:=HR2.out.size
   have HB2:=zh (HB1.out.kp hk (by omega))
   have hzHB2:=HB2.out.lt
   have HL2:=zh hl
   have H2:=zh hr
   clear hr hp hs hl hk ht
   unfold zmb
   go_wp2_with ((with_reducible refine zlb 25 (.tmp 3) ?_);refine zcb rfl 25 (.tmp 3) (.tmp 13) rfl (zaa (a2) (kv2)) (old:=zga) rfl rfl Tryz.zla rfl (zoa _ _ HT2.out.kat.one) ?_)
   go_wp2_with fail
   refine (zLg (HR2.out.alloc _).st).mono ?_
   intro e w3 hp
   rcases hp with ⟨hS0,rfl,hs,hk⟩|⟨kk,ff,hS0,hf,rfl,hs,hk⟩
   ·
    have HR3:=zh ((HR2.out.alloc _).call hk hs)
    have hzR3:=HR3.out.size
    have HB3:=zh ((HB2.out.alloc _).kp hk (by omega))
    have hzHB3:=HB3.out.lt
    have HN3:=zh ((Blk.new w2 (zaa (a2) (kv2)) 25).kp hk (by first|omega|(have:=HR0.out.size;simp at *;omega)))
    have hzHN3:=HN3.out.lt
    have HT2_3:=zh ((HT2.out.alloc _).kp hk (fun b hb=>by omega))
    have HS:=zh hS0
    clear hS0 hs hk
    have HP:=zh (show zZb l=.ok (a2,l2) by unfold zZb;exact ((zfb HI.out _ _)).trans (((zHa H2.out _)).trans ((zdj HS.out _ _))))
    go_wp2_with (first|((with_reducible refine zCc 25 (.tmp 3) ?_);refine zAa rfl 25 (.tmp 3) rfl w2.heap.size (zaa (a2) (kv2)) rfl (show Blk _ w2.heap.size (zaa (a2) (kv2)) 25 from (HN3.out.alloc _)) Tryz.underlying25 rfl Tryz.zla ?_)|((with_reducible refine zlb 25 (.tmp 2) ?_);refine zma rfl 25 (.tmp 2) (.tmp 26) rfl w.heap.size (zaa (a2) (kv2)) rfl rfl (HB3.out.alloc _) Tryz.zla rfl (zoa _ _ HT2.out.kat.one) ?_))
    exact zab (cs:=zaa (a2) (kv2)) Tryz.results178 rfl (HB3.out.alloc _) Tryz.underlying25 rfl Tryz.zla rfl (Run.node (HR3.out.alloc _) (HT2_3.out.alloc _).lo HP.out (by have:=HL2.out;first|omega|(simp only [List.length_tail] at *;omega)))
   ·
    have HR3:=zh ((HR2.out.alloc _).call hk hs)
    have hzR3:=HR3.out.size
    have HB3:=zh ((HB2.out.alloc _).kp hk (by omega))
    have hzHB3:=HB3.out.lt
    have HN3:=zh ((Blk.new w2 (zaa (a2) (kv2)) 25).kp hk (by first|omega|(have:=HR0.out.size;simp at *;omega)))
    have hzHN3:=HN3.out.lt
    have HT2_3:=zh ((HT2.out.alloc _).kp hk (fun b hb=>by omega))
    have HS:=zh hS0
    clear hS0 hs hk
    have HF:=zh hf
    clear hf
    go_wp2_with fail
    refine AnyE.zod (S:=fun W=>Blk W w3.heap.size [.int .i64 kk,.int .i64 ff] 215) (by kernel_rfl) ((Blk.new w3 [.int .i64 kk,.int .i64 ff] 215).drew) (fun hS=>?_)
    refine AnyE.take (i:=0) (v:=.pointer (some ⟨w3.heap.size,1,none⟩)) rfl (by kernel_rfl) (by kernel_rfl) (by kernel_rfl) (by kernel_rfl) (fun _ _ _ h=>h) (Or.inl ⟨by rfl,fun W _=>by go_simp⟩) hS ?_
    refine AnyE.take (i:=1) (v:=.int .i64 ff) rfl (by kernel_rfl) (by kernel_rfl) (by kernel_rfl) (by kernel_rfl) (fun _ _ _ h=>h) (Or.inl ⟨by rfl,fun W hW=>by have hc1:W.cell? ⟨w3.heap.size,1,none⟩=some (.int .i64 ff):=hW.cell 1;go_simp⟩) hS ?_
    refine AnyE.take (i:=2) (v:=.pointer (some ⟨E.pb,0,none⟩)) rfl (by kernel_rfl) (by kernel_rfl) (by kernel_rfl) (by kernel_rfl) (fun _ _ _ h=>h) (Or.inl ⟨by rfl,fun W _=>by go_simp⟩) hS ?_
    refine AnyE.one (i:=3) (by kernel_rfl) rfl (by rfl) (fun K hK=>?_)
    go_simp
    refine (zBe ((HR3.out.alloc _).drew).st).mono ?_
    intro e w4 hp
    cases hr:zVb l2.tail with
    | error pc =>
     obtain ⟨p,c⟩:=pc
     obtain ⟨rfl,hk,hcd⟩:=hp.err hr
     have HK:=zh (((HR3.out.alloc _).drew).kp.trans hk)
     have HP:=zh (show zZb l=.error (p,c) by unfold zZb;exact ((zfb HI.out _ _)).trans (((zHa H2.out _)).trans (((zif HS.out _ _)).trans ((zNa hr _)))))
     clear hr hp hk
     go_wp2
     exact ⟨rfl,Run.err HK.out HP.out hcd⟩
    | ok q =>
     obtain ⟨a4,l4⟩:=q
     obtain ⟨v4,rfl,hv,hs,hl,hk⟩:=hp.ok hr
     obtain ⟨rfl,hn0,hn1⟩:=hv
     have HR4:=zh (((HR3.out.alloc _).drew).call hk hs)
     have hzR4:=HR4.out.size
     have HB4:=zh (((HB3.out.alloc _).drew).kp hk (by omega))
     have hzHB4:=HB4.out.lt
     have HN4:=zh (((HN3.out.alloc _).drew).kp hk (by first|omega|(have:=HR0.out.size;simp at *;omega)))
     have hzHN4:=HN4.out.lt
     have HS_4:=zh (((Blk.new w3 [.int .i64 kk,.int .i64 ff] 215).drew).kp hk (by first|omega|(have:=HR0.out.size;simp at *;omega)))
     have hzHS_4:=HS_4.out.lt
     have HT2_4:=zh (((HT2_3.out.alloc _).drew).kp hk (fun b hb=>by omega))
     have HL4:=zh hl
     have H4:=zh hr
     clear hr hp hs hl hk
     refine hK.out _ _ (fun _=>HS_4.out) ?_
     clear hK K
     have hwr:IntKind.i64.wrap (ff * a4)=ff * a4:=by
      have h1:ff * a4=a4∨ff * a4=-a4:=by rcases HF.out with rfl|rfl;exact .inl (by omega);exact .inr (by omega)
      refine IntWalk.i64_in _ ?_
      rcases h1 with h1|h1<;>rw [h1]<;>omega
     refine AnyE.one (i:=4) (by kernel_rfl) rfl (by rfl) (fun K hK=>?_)
     go_simp
     refine hK.out _ _ (fun _=>HS_4.out) ?_
     clear hK K
     refine AnyE.one (i:=5) (by kernel_rfl) rfl (by rfl) (fun K hK=>?_)
     go_simp
     refine hK.out _ _ (fun _=>HS_4.out) ?_
     clear hK K
     refine AnyE.one (i:=6) (by kernel_rfl) rfl (by rfl) (fun K hK=>?_)
     have hcell:_root_.Go.World.cell? _ ⟨w2.heap.size,2,none⟩=some (.int .i64 a2.num):=HN4.out.cell 2
     have hfroz:=HN4.out.frozen 2
     go_simp
     refine hK.out _ _ (fun h=>absurd rfl h) ?_
     clear hK K
     refine AnyE.done (by kernel_rfl) ?_ _
     have HP:=zh (show zZb l=.ok (a2.zAc (ff * a4),l4) by unfold zZb;exact ((zfb HI.out _ _)).trans (((zHa H2.out _)).trans (((zif HS.out _ _)).trans ((zHa H4.out _)))))
     go_wp2_with (first|((with_reducible refine zCc 25 (.tmp 3) ?_);refine zAa rfl 25 (.tmp 3) rfl w2.heap.size (zaa (a2.zAc (ff * a4)) (kv2)) rfl (show Blk _ w2.heap.size (zaa (a2.zAc (ff * a4)) (kv2)) 25 from (by rw [← zyf];exact (HN4.out.zzd 2 (.int .i64 (ff * a4))))) Tryz.underlying25 rfl Tryz.zla ?_)|((with_reducible refine zlb 25 (.tmp 2) ?_);refine zma rfl 25 (.tmp 2) (.tmp 26) rfl w.heap.size (zaa (a2.zAc (ff * a4)) (kv2)) rfl rfl (HB4.out.setOther ⟨w2.heap.size,2,none⟩ _ (by show _≠w2.heap.size;omega)) Tryz.zla rfl (zoa _ _ HT2.out.kat.one) ?_))
     exact zab (cs:=zaa (a2.zAc (ff * a4)) (kv2)) Tryz.results178 rfl (HB4.out.setOther ⟨w2.heap.size,2,none⟩ _ (by show _≠w2.heap.size;omega)) Tryz.underlying25 rfl Tryz.zla rfl (Run.node (HR4.out.setCell (a:=⟨w2.heap.size,2,none⟩) (by show w.heap.size≤w2.heap.size;omega) _) (TAt.zQd (by cases a2;exact (HT2_4.out.setCell ⟨w2.heap.size,2,none⟩ _ (fun b hb=>by show _≠w2.heap.size;omega)).lo.kat)) HP.out (by have:=HL2.out;have:=HL4.out;first|omega|(simp only [List.length_tail] at *;omega)))
 ·
  have HI:=zh (show ((hdT l).kind == 1)=false from beq_eq_false_iff_ne.2 hkd)
  have hne:(((hdT l).kind:Int) != 1)=true:=by simp;omega
  clear hkd
  go_wp2_with fail
  refine (zng HR1.out.st).mono ?_
  intro e w2 hp
  cases hr:zWa l with
  | error pc =>
   obtain ⟨p,c⟩:=pc
   obtain ⟨rfl,hk,hcd⟩:=hp.err hr
   have HK:=zh (HR1.out.kp.trans hk)
   have HP:=zh (show zZb l=.error (p,c) by unfold zZb;exact ((zLa HI.out _ _)).trans (hr))
   clear hr hp hk
   go_wp2
   exact ⟨rfl,Run.err HK.out HP.out hcd⟩
  | ok q =>
   obtain ⟨a2,l2⟩:=q
   obtain ⟨v2,rfl,hv,hs,hl,hk⟩:=hp.ok hr
   obtain ⟨kv2,rfl,ht⟩:=hv
   have HT2:=zh (ht.weak HB1.out.lt)
   have HR2:=zh (HR1.out.call hk hs)
   have hzR2:=HR2.out.size
   have HB2:=zh (HB1.out.kp hk (by omega))
   have hzHB2:=HB2.out.lt
   have HL2:=zh hl
   have H2:=zh hr
   clear hr hp hs hl hk ht
   unfold zmb
   have HP:=zh (show zZb l=.ok (a2,l2) by unfold zZb;exact ((zLa HI.out _ _)).trans (H2.out))
   go_wp2_with ((with_reducible refine zlb 25 (.tmp 2) ?_);refine zma rfl 25 (.tmp 2) (.tmp 11) rfl w.heap.size (zaa (a2) (kv2)) rfl rfl HB2.out Tryz.zla rfl (zoa _ _ HT2.out.kat.one) ?_)
   exact zab (cs:=zaa (a2) (kv2)) Tryz.results178 rfl HB2.out Tryz.underlying25 rfl Tryz.zla rfl (Run.node HR2.out HT2.out.lo HP.out (by have:=HL2.out;first|omega|(simp only [List.length_tail] at *;omega)))
end
section
open Go.RowKit
structure zQn (E:Env) (d:Nat) (f:FuncId) (item:List Tok→R T):Prop where
 enter:∀ (args:Array Value) (w:World),(callFunc f args).run Tryz.prog w=.ok (.enter f args) w
 calls:∀ {w:World} {l:List Tok},PSt E w l d→Calls Tryz.prog f #[.pointer (some ⟨E.pb,0,none⟩)] w (zec zvd E w l d (item l))
def zXr (W:World) (lo:Nat) (ks:List T) (v:Value):Prop:=KAt 25 W ks (fun b=>lo≤b) v∧ks.length≤16385
def zXs (E:Env) (w:World) (l:List Tok) (d:Nat) (item:List Tok→R T) (g:Nat) (v:Value) (wr:World):Prop :=
 ∃ (ks:List T) (lr:List Tok) (n:Nat),Run E w wr lr d∧KAt 25 wr ks (fun b=>w.heap.size≤b) v∧zsd item l=bd (zbe item n lr) (fun xs l'=>.ok (ks++xs,l'))∧lr.length≤n∧lr.length<l.length∧lr.length≤g∧ks.length+lr.length≤l.length
theorem zao {α β γ:Type} (r:R α) (f:α→List Tok→R β) (g:β→List Tok→R γ):bd (bd r f) g=bd r fun a l=>bd (f a l) g:=by
 cases r with
 | error e=>rfl
 | ok q=>rfl
theorem zmr {item:List Tok→R T} {n:Nat} {l:List Tok} (hn:0<n) (h:isT (hdT l) (bs [44])=false):zbe item n l=.ok ([],l):=by
 cases n with
 | zero=>omega
 | succ n=>unfold zbe;rw [h];rfl
theorem zcl {item:List Tok→R T} {n:Nat} {l:List Tok} (h:isT (hdT l) (bs [44])=true):zbe item (n+1) l=bd (item l.tail) fun a l=>bd (zbe item n l) fun xs l=>.ok (a :: xs,l):=by
 rw [zbe,h];rfl
theorem zei {E:Env} {w:World} {l:List Tok} {d:Nat} (h:PSt E w l d) {f:FuncId} {item:List Tok→R T} (hI:zQn E d f item) :
  Calls Tryz.prog 141 #[.pointer (some ⟨E.pb,0,none⟩),.func (.func f) #[.pointer (some ⟨E.pb,0,none⟩)] #[]] w (zec zXr E w l d (zsd item l)):=by
 have HR0:=zh (Run.start h)
 have HI:=zh hI
 have hcf:=fun w'=>hI.enter #[.pointer (some ⟨E.pb,0,none⟩)] w'
 have hlo:=h.plt
 have hlt:=h.tlt
 have hln:=h.len
 have hle:=h.le
 clear h hI
 obtain ⟨i0,z0,I⟩:=Tryz.zrf
 go_enter Tryz.func141,Tryz.ntmps141
 go_wp2_with fail
 refine (HI.out.calls HR0.out.st).mono ?_
 intro e w1 hp
 cases hr:item l with
 | error pc =>
  obtain ⟨p,c⟩:=pc
  obtain ⟨rfl,hk,hcd⟩:=hp.err hr
  have HK:=zh hk
  have HP:=zh (show zsd item l=.error (p,c) by unfold zsd;exact zNa hr _)
  clear hr hp hk
  go_wp2
  exact ⟨rfl,Run.err HK.out HP.out hcd⟩
 | ok q =>
  obtain ⟨a1,l1⟩:=q
  obtain ⟨v1,rfl,hv,hs,hl,hk⟩:=hp.ok hr
  obtain ⟨kv1,rfl,ht⟩:=hv
  have HT1:=zh ht
  have HR1:=zh (HR0.out.call hk hs)
  have HL1:=zh hl
  have H1:=zh hr
  clear hr hp hs hl hk ht
  unfold zmb
  go_wp2_with fail
  go_loopg [5] l.length (fun g v wr=>zXs E w l d item g v wr)
  case atStart =>
   refine ⟨[a1],l1,l1.length,HR1.out.alloc _,KAt.zVt HT1.out HR1.out.size,?_,Nat.le_refl _,HL1.out,by have:=HL1.out;omega,by have:=HL1.out;simp;omega⟩
   unfold zsd
   rw [zHa H1.out]
   rfl
  case round =>
   obtain ⟨ks,lr,n,hR,hK,hE,hn,hlr,hg,hcnt⟩:=hrel
   have HR:=zh hR
   have HKA:=zh hK
   have HE:=zh hE
   have HN:=zh hn
   have HLR:=zh hlr
   have HG:=zh hg
   have HC:=zh hcnt
   have HP0:=zh hR.st.head.1
   clear hR hK hE hn hlr hg hcnt HR1 HT1 HL1 H1 HR0
   cases hi:isT (hdT lr) (bs [44]) with
   | false =>
    have HF:=zh hi
    clear hi
    go_wp2_with fail
    refine (ztb HR.out.st HF.out).mono ?_
    rintro e w2 ⟨rfl,hb⟩
    have HR2:=zh (HR.out.below hb)
    have HK2:=zh (HKA.out.below hb)
    clear hb
    have HP:=zh (show zsd item l=.ok (ks,lr) by rw [HE.out,zHa (zmr (by have:=HN.out;have:=HP0.out;omega) HF.out)];simp)
    go_wp2
    go_ret
    exact .zli HP.out rfl ⟨HK2.out,by have:=HC.out;omega⟩ HR2.out.st HLR.out HR2.out.kp
   | true =>
    have HF:=zh hi
    clear hi
    obtain ⟨m,rfl⟩:∃ m,n=m+1:=⟨n-1,by have:=HN.out;have:=HP0.out;omega⟩
    go_wp2_with fail
    refine (zkb HR.out.st HF.out (by decide)).mono ?_
    rintro e w2 ⟨rfl,hs,hk⟩
    have HR2:=zh (HR.out.call hk hs)
    have HK2:=zh (HKA.out.kp hk (fun b hb=>by omega))
    clear hs hk
    go_wp2_with fail
    refine (HI.out.calls HR2.out.st).mono ?_
    intro e w3 hp
    cases hr:item lr.tail with
    | error pc =>
     obtain ⟨p,c⟩:=pc
     obtain ⟨rfl,hk,hcd⟩:=hp.err hr
     have HK:=zh (HR2.out.kp.trans hk)
     have HP:=zh (show zsd item l=.error (p,c) by rw [HE.out,zcl HF.out,zNa (zNa hr _)])
     clear hr hp hk
     go_wp2
     exact ⟨rfl,Run.err HK.out HP.out hcd⟩
    | ok q =>
     obtain ⟨a3,l3⟩:=q
     obtain ⟨v3,rfl,hv,hs,hl,hk⟩:=hp.ok hr
     obtain ⟨kv3,rfl,ht⟩:=hv
     have HT3:=zh ht
     have HR3:=zh (HR2.out.call hk hs)
     have HK3:=zh (HK2.out.kp hk (fun b hb=>by omega))
     have HL3:=zh hl
     have H3:=zh hr
     have HOB:=zh (show ∀ g,u5.ownBlock=some g→g<w2.heap.size from fun g hg=>by obtain ⟨_,ho,_⟩:=HK2.out;exact (ho.lt g hg).2)
     clear hr hp hs hl hk ht
     unfold zmb
     go_wp2_with (at_builtin;refine zAd rfl (.tmp 11) (.tmp 14) rfl I (ks:=ks) (ts:=[a3]) (S:=fun b=>w.heap.size≤b) rfl (HK3.out.alloc _) (us:=[kv3]) (zjd.single ?c1) ?c2 rfl rfl (by simp) (zjf w3 _ a3 kv3) ?c3 ?_)
     case c1 =>
      refine (HT3.out.alloc _).mono fun b hb _=>⟨by have:=HR2.out.size;omega,fun hbk=>?_⟩
      have:=HOB.out b hbk
      omega
     case c2=>have:=HR3.out.size;simp;omega
     case c3=>have:=HC.out;simp;omega
     intro v' w4 hK4 hg4 hb4
     have HR4:=zh ((HR3.out.alloc _).grown hg4 (fun k hk=>by obtain ⟨_,_,hS,_⟩:=HK3.out;exact hS k hk))
     have HK4:=zh hK4
     clear hK4 hg4 hb4
     go_wp2
     go_roundg (gk-1)
     case measure=>have:=HG.out;have:=HP0.out;omega
     case rel =>
      have h1:=HL3.out
      have h2:=HN.out
      have h3:=HLR.out
      have h4:=HG.out
      have h5:=HC.out
      have h6:=HP0.out
      simp only [List.length_tail] at h1
      refine ⟨ks++[a3],l3,m,HR4.out,HK4.out,?_,by omega,by omega,by omega,by simp;omega⟩
      rw [HE.out,zcl HF.out,zao,zHa H3.out,zao]
      congr 1
      funext xs l'
      simp [bd]
theorem zGf {E:Env} {w:World} {l:List Tok} {d:Nat} (h:PSt E w l d) {f:FuncId} {item:List Tok→R T} (hI:zQn E d f item) :
  Calls Tryz.prog 144 #[.pointer (some ⟨E.pb,0,none⟩),.func (.func f) #[.pointer (some ⟨E.pb,0,none⟩)] #[]] w (zec zXr E w l d (zwb item l)):=by
 have HR0:=zh (Run.start h)
 have HI:=zh hI
 clear hI
 have hlo:=h.plt
 have hlt:=h.tlt
 have hln:=h.len
 clear h
 go_enter Tryz.func144,Tryz.ntmps144
 go_wp2_with fail
 refine (zAb HR0.out.st [bs [40]] (by decide) (by decide) (by simp) rfl rfl).mono ?_
 intro e w1 hp
 cases hr:zSa [bs [40]] l with
 | error pc =>
  obtain ⟨p,c⟩:=pc
  obtain ⟨rfl,hk,hcd⟩:=hp.err hr
  have HK:=zh (HR0.out.kp.trans hk)
  have HP:=zh (show zwb item l=.error (p,c) by unfold zwb;exact (zNa hr _))
  clear hr hp hk
  go_wp2
  exact ⟨rfl,Run.err HK.out HP.out hcd⟩
 | ok q =>
  obtain ⟨a1,l1⟩:=q
  obtain ⟨v1,rfl,hv,hs,hl,hk⟩:=hp.ok hr
  obtain ⟨rfl,hto⟩:=hv
  have HR1:=zh (HR0.out.call hk hs)
  have hzR1:=HR1.out.size
  have HL1:=zh hl
  have H1:=zh hr
  clear hr hp hs hl hk hto
  unfold zJc
  cases hi:isT (hdT l1) (bs [41]) with
  | true =>
   have HIi:=zh hi
   clear hi
   go_wp2_with fail
   refine (zkb HR1.out.st HIi.out (by decide)).mono ?_
   rintro e w2 ⟨rfl,hs,hk⟩
   have HR2:=zh (HR1.out.call hk hs)
   have hzR2:=HR2.out.size
   clear hs hk
   have HP:=zh (show zwb item l=.ok ([],l1.tail) by unfold zwb;exact ((zHa H1.out _)).trans ((zfb HIi.out _ _)))
   go_wp2
   go_ret
   exact .zli HP.out rfl ⟨KAt.nil _ _ _,by simp⟩ HR2.out.st (by have:=HL1.out;simp only [List.length_tail];omega) HR2.out.kp
  | false =>
   have HIi:=zh hi
   clear hi
   go_wp2_with fail
   refine (ztb HR1.out.st HIi.out).mono ?_
   rintro e w2 ⟨rfl,hb⟩
   have HR2:=zh (HR1.out.below hb)
   have hzR2:=HR2.out.size
   clear hb
   go_wp2_with fail
   refine (zei HR2.out.st HI.out).mono ?_
   intro e w3 hp
   cases hr:zsd item l1 with
   | error pc =>
    obtain ⟨p,c⟩:=pc
    obtain ⟨rfl,hk,hcd⟩:=hp.err hr
    have HK:=zh (HR2.out.kp.trans hk)
    have HP:=zh (show zwb item l=.error (p,c) by unfold zwb;exact ((zHa H1.out _)).trans (((zLa HIi.out _ _)).trans ((zNa hr _))))
    clear hr hp hk
    go_wp2
    exact ⟨rfl,Run.err HK.out HP.out hcd⟩
   | ok q =>
    obtain ⟨a3,l3⟩:=q
    obtain ⟨v3,rfl,hv,hs,hl,hk⟩:=hp.ok hr
    have HT3:=zh hv.1
    have HC3:=zh hv.2
    have HR3:=zh (HR2.out.call hk hs)
    have hzR3:=HR3.out.size
    have HL3:=zh hl
    have H3:=zh hr
    clear hr hp hs hl hk hv
    go_wp2_with fail
    refine (zAb HR3.out.st [bs [41]] (by decide) (by decide) (by simp) rfl rfl).mono ?_
    intro e w4 hp
    cases hr:zSa [bs [41]] l3 with
    | error pc =>
     obtain ⟨p,c⟩:=pc
     obtain ⟨rfl,hk,hcd⟩:=hp.err hr
     have HK:=zh (HR3.out.kp.trans hk)
     have HP:=zh (show zwb item l=.error (p,c) by unfold zwb;exact ((zHa H1.out _)).trans (((zLa HIi.out _ _)).trans (((zHa H3.out _)).trans ((zNa hr _)))))
     clear hr hp hk
     go_wp2
     exact ⟨rfl,Run.err HK.out HP.out hcd⟩
    | ok q =>
     obtain ⟨a4,l4⟩:=q
     obtain ⟨v4,rfl,hv,hs,hl,hk⟩:=hp.ok hr
     obtain ⟨rfl,hto⟩:=hv
     have HR4:=zh (HR3.out.call hk hs)
     have hzR4:=HR4.out.size
     have HT3_4:=zh (HT3.out.kp hk (fun b hb=>by omega))
     have HL4:=zh hl
     have H4:=zh hr
     clear hr hp hs hl hk hto
     unfold zJc
     have HP:=zh (show zwb item l=.ok (a3,l4) by unfold zwb;exact ((zHa H1.out _)).trans (((zLa HIi.out _ _)).trans (((zHa H3.out _)).trans ((zHa H4.out _)))))
     go_wp2
     go_ret
     exact .zli HP.out rfl ⟨HT3_4.out.mono (fun b hb _=>by have:=HR2.out.size;omega),HC3.out⟩ HR4.out.st (by have:=HL1.out;have:=HL3.out;have:=HL4.out;omega) HR4.out.kp
end
end Go.Proofs.YtbfgdpcgdmabpaaGreatDoor
namespace Go.Proofs.YtbfgdpcgdmabpaaGreatDoor
set_option maxRecDepth 100000
set_option maxHeartbeats 1000000
open Go.RowKit
theorem zIm (E:Env) (d:Nat):zQn E d 178 zZb:=⟨fun args w=>zEe Tryz.func178 (by kernel_rfl) (by kernel_rfl) args w,fun h=>zRf h⟩
theorem zAk {E:Env} {w:World} {l:List Tok} {d:Nat} (h:PSt E w l d) :
  Calls Tryz.prog 191 #[.pointer (some ⟨E.pb,0,none⟩)] w (zec zvd E w l d (zMc l)):=by
 have HR0:=zh ((Run.start h).alloc (.cells zga.toArray 25))
 have HB0:=zh (Blk.new w zga 25)
 have hlo:=h.plt
 have hlt:=h.tlt
 have hln:=h.len
 clear h
 go_enter Tryz.func191,Tryz.ntmps191
 go_wp2_with fail
 refine (zAb HR0.out.st [bs [91]] (by decide) (by decide) (by simp) rfl rfl).mono ?_
 intro e w1 hp
 cases hr:zSa [bs [91]] l with
 | error pc =>
  obtain ⟨p,c⟩:=pc
  obtain ⟨rfl,hk,hcd⟩:=hp.err hr
  have HK:=zh (HR0.out.kp.trans hk)
  have HP:=zh (show zMc l=.error (p,c) by unfold zMc;exact (zNa hr _))
  clear hr hp hk
  go_wp2
  exact ⟨rfl,Run.err HK.out HP.out hcd⟩
 | ok q =>
  obtain ⟨a1,l1⟩:=q
  obtain ⟨v1,rfl,hv,hs,hl,hk⟩:=hp.ok hr
  obtain ⟨rfl,hto⟩:=hv
  have HR1:=zh (HR0.out.call hk hs)
  have hzR1:=HR1.out.size
  have HB1:=zh (HB0.out.kp hk (by omega))
  have hzHB1:=HB1.out.lt
  have HL1:=zh hl
  have H1:=zh hr
  clear hr hp hs hl hk hto
  unfold zJc
  go_wp2_with fail
  refine (zRf HR1.out.st).mono ?_
  intro e w2 hp
  cases hr:zZb l1 with
  | error pc =>
   obtain ⟨p,c⟩:=pc
   obtain ⟨rfl,hk,hcd⟩:=hp.err hr
   have HK:=zh (HR1.out.kp.trans hk)
   have HP:=zh (show zMc l=.error (p,c) by unfold zMc;exact ((zHa H1.out _)).trans ((zNa hr _)))
   clear hr hp hk
   go_wp2
   exact ⟨rfl,Run.err HK.out HP.out hcd⟩
  | ok q =>
   obtain ⟨a2,l2⟩:=q
   obtain ⟨v2,rfl,hv,hs,hl,hk⟩:=hp.ok hr
   obtain ⟨kv2,rfl,ht⟩:=hv
   have HT2:=zh (ht.weak HB1.out.lt)
   have HR2:=zh (HR1.out.call hk hs)
   have hzR2:=HR2.out.size
   have HB2:=zh (HB1.out.kp hk (by omega))
   have hzHB2:=HB2.out.lt
   have HL2:=zh hl
   have H2:=zh hr
   clear hr hp hs hl hk ht
   unfold zmb
   go_wp2_with ((with_reducible refine zlb 25 (.tmp 3) ?_);refine zcb rfl 25 (.tmp 3) (.tmp 8) rfl (zaa (a2) (kv2)) (old:=zga) rfl rfl Tryz.zla rfl (zoa _ _ HT2.out.kat.one) ?_)
   go_wp2_with fail
   refine (zAb (HR2.out.alloc _).st [bs [93]] (by decide) (by decide) (by simp) rfl rfl).mono ?_
   intro e w3 hp
   cases hr:zSa [bs [93]] l2 with
   | error pc =>
    obtain ⟨p,c⟩:=pc
    obtain ⟨rfl,hk,hcd⟩:=hp.err hr
    have HK:=zh ((HR2.out.alloc _).kp.trans hk)
    have HP:=zh (show zMc l=.error (p,c) by unfold zMc;exact ((zHa H1.out _)).trans (((zHa H2.out _)).trans ((zNa hr _))))
    clear hr hp hk
    go_wp2
    exact ⟨rfl,Run.err HK.out HP.out hcd⟩
   | ok q =>
    obtain ⟨a3,l3⟩:=q
    obtain ⟨v3,rfl,hv,hs,hl,hk⟩:=hp.ok hr
    obtain ⟨rfl,hto⟩:=hv
    have HR3:=zh ((HR2.out.alloc _).call hk hs)
    have hzR3:=HR3.out.size
    have HB3:=zh ((HB2.out.alloc _).kp hk (by omega))
    have hzHB3:=HB3.out.lt
    have HN3:=zh ((Blk.new w2 (zaa (a2) (kv2)) 25).kp hk (by first|omega|(have:=HR0.out.size;simp at *;omega)))
    have hzHN3:=HN3.out.lt
    have HT2_3:=zh ((HT2.out.alloc _).kp hk (fun b hb=>by omega))
    have HL3:=zh hl
    have H3:=zh hr
    clear hr hp hs hl hk hto
    unfold zJc
    have HP:=zh (show zMc l=.ok (a2,l3) by unfold zMc;exact ((zHa H1.out _)).trans (((zHa H2.out _)).trans ((zHa H3.out _))))
    go_wp2_with (first|((with_reducible refine zCc 25 (.tmp 3) ?_);refine zAa rfl 25 (.tmp 3) rfl w2.heap.size (zaa (a2) (kv2)) rfl (show Blk _ w2.heap.size (zaa (a2) (kv2)) 25 from HN3.out) Tryz.underlying25 rfl Tryz.zla ?_)|((with_reducible refine zlb 25 (.tmp 2) ?_);refine zma rfl 25 (.tmp 2) (.tmp 12) rfl w.heap.size (zaa (a2) (kv2)) rfl rfl HB3.out Tryz.zla rfl (zoa _ _ HT2.out.kat.one) ?_))
    exact zab (cs:=zaa (a2) (kv2)) Tryz.results191 rfl HB3.out Tryz.underlying25 rfl Tryz.zla rfl (Run.node HR3.out HT2_3.out.lo HP.out (by have:=HL1.out;have:=HL2.out;have:=HL3.out;first|omega|(simp only [List.length_tail] at *;omega)))
theorem zMj {E:Env} {w:World} {l:List Tok} {d:Nat} (h:PSt E w l d) (pl:Nat) :
  Calls Tryz.prog 193 #[.pointer (some ⟨E.pb,0,none⟩),.int .i64 pl] w (zec zvd E w l d (zQh pl l)):=by
 have HR0:=zh ((Run.start h).alloc (.cells zga.toArray 25))
 have HB0:=zh (Blk.new w zga 25)
 have HL0:=zh (zwf h)
 have hlo:=h.plt
 have hlt:=h.tlt
 have hln:=h.len
 clear h
 go_enter Tryz.func193,Tryz.ntmps193
 cases hi:isT (hdT l) (bs [109,117,116]) with
 | false =>
  have HIi:=zh hi
  clear hi
  go_wp2_with fail
  refine (ztb HR0.out.st HIi.out).mono ?_
  rintro e w1 ⟨rfl,hb⟩
  have HR1:=zh (HR0.out.below hb)
  have hzR1:=HR1.out.size
  have HB1:=zh (HB0.out.kp (Kp.of_below (pb:=E.pb) hb) (by omega))
  have hzHB1:=HB1.out.lt
  clear hb
  go_wp2_with fail
  refine (name_any HR1.out.st).mono ?_
  intro e w2 hp
  cases hr:zdd l with
  | error pc =>
   obtain ⟨p,c⟩:=pc
   obtain ⟨rfl,hk,hcd⟩:=hp.err hr
   have HK:=zh (HR1.out.kp.trans hk)
   have HP:=zh (show zQh pl l=.error (p,c) by unfold zQh;exact ((zLa HIi.out _ _)).trans ((zNa hr _)))
   clear hr hp hk
   go_wp2
   exact ⟨rfl,Run.err HK.out HP.out hcd⟩
  | ok q =>
   obtain ⟨a2,l2⟩:=q
   obtain ⟨v2,rfl,hv,hs,hl,hk⟩:=hp.ok hr
   obtain rfl:v2=.string a2:=hv
   have HR2:=zh (HR1.out.call hk hs)
   have hzR2:=HR2.out.size
   have HB2:=zh (HB1.out.kp hk (by omega))
   have hzHB2:=HB2.out.lt
   have HL2:=zh hl
   have H2:=zh hr
   clear hr hp hs hl hk
   have HP:=zh (show zQh pl l=.ok (T.mk 26 a2 0 pl [],l2) by unfold zQh;exact ((zLa HIi.out _ _)).trans ((zHa H2.out _)))
   go_wp2_with ((with_reducible refine zlb 25 (.tmp 4) ?_);refine zma rfl 25 (.tmp 4) (.tmp 12) rfl w.heap.size (zaa (T.mk 26 a2 0 pl []) (.slice none 0 0)) rfl rfl HB2.out Tryz.zla rfl (zoa _ _ rfl) ?_)
   exact zab (cs:=zaa (T.mk 26 a2 0 pl []) (.slice none 0 0)) Tryz.results193 rfl HB2.out Tryz.underlying25 rfl Tryz.zla rfl (Run.node HR2.out ((KAt.nil _ _ _).tat _ _ _ _) HP.out (by have:=HL0.out;have:=HL2.out;first|omega|(simp only [List.length_tail] at *;omega)))
 | true =>
  have HIi:=zh hi
  clear hi
  go_wp2_with fail
  refine (zkb HR0.out.st HIi.out (by decide)).mono ?_
  rintro e w1 ⟨rfl,hs,hk⟩
  have HR1:=zh (HR0.out.call hk hs)
  have hzR1:=HR1.out.size
  have HB1:=zh (HB0.out.kp hk (by omega))
  have hzHB1:=HB1.out.lt
  clear hs hk
  go_wp2_with fail
  refine (name_any HR1.out.st).mono ?_
  intro e w2 hp
  cases hr:zdd l.tail with
  | error pc =>
   obtain ⟨p,c⟩:=pc
   obtain ⟨rfl,hk,hcd⟩:=hp.err hr
   have HK:=zh (HR1.out.kp.trans hk)
   have HP:=zh (show zQh pl l=.error (p,c) by unfold zQh;exact ((zfb HIi.out _ _)).trans ((zNa hr _)))
   clear hr hp hk
   go_wp2
   exact ⟨rfl,Run.err HK.out HP.out hcd⟩
  | ok q =>
   obtain ⟨a2,l2⟩:=q
   obtain ⟨v2,rfl,hv,hs,hl,hk⟩:=hp.ok hr
   obtain rfl:v2=.string a2:=hv
   have HR2:=zh (HR1.out.call hk hs)
   have hzR2:=HR2.out.size
   have HB2:=zh (HB1.out.kp hk (by omega))
   have hzHB2:=HB2.out.lt
   have HL2:=zh hl
   have H2:=zh hr
   clear hr hp hs hl hk
   have HP:=zh (show zQh pl l=.ok (T.mk 27 a2 0 pl [],l2) by unfold zQh;exact ((zfb HIi.out _ _)).trans ((zHa H2.out _)))
   go_wp2_with ((with_reducible refine zlb 25 (.tmp 4) ?_);refine zma rfl 25 (.tmp 4) (.tmp 12) rfl w.heap.size (zaa (T.mk 27 a2 0 pl []) (.slice none 0 0)) rfl rfl HB2.out Tryz.zla rfl (zoa _ _ rfl) ?_)
   exact zab (cs:=zaa (T.mk 27 a2 0 pl []) (.slice none 0 0)) Tryz.results193 rfl HB2.out Tryz.underlying25 rfl Tryz.zla rfl (Run.node HR2.out ((KAt.nil _ _ _).tat _ _ _ _) HP.out (by have:=HL0.out;have:=HL2.out;first|omega|(simp only [List.length_tail] at *;omega)))
theorem zwj {E:Env} {w:World} {l:List Tok} {d:Nat} (h:PSt E w l d) (n:T) (sa:Option Addr) (sn sc:Nat) :
  Calls Tryz.prog 190 #[.pointer (some ⟨E.pb,0,none⟩),zmb n (.slice sa sn sc)] w (zec zvd E w l d (zne n l)):=by
 have HR0:=zh (((Run.start h).alloc (.cells (zaa n (.slice sa sn sc)).toArray 25)).alloc (.cells zga.toArray 25))
 have HC0:=zh ((Blk.new w (zaa n (.slice sa sn sc)) 25).alloc (.cells zga.toArray 25))
 have HB0:=zh (Blk.zCe w (.cells (zaa n (.slice sa sn sc)).toArray 25) zga 25)
 have hlo:=h.plt
 have hlt:=h.tlt
 have hln:=h.len
 clear h
 unfold zmb
 have hmf:=zke
 go_enter Tryz.func190,Tryz.ntmps190
 go_wp2_with fail
 refine AnyE.zod (S:=fun W=>Blk W w.heap.size (zaa n (.slice sa sn sc)) 25) (by kernel_rfl) (HC0.out.drew) (fun hS=>?_)
 refine AnyE.take (i:=0) (v:=.pointer (some ⟨w.heap.size,1,none⟩)) rfl (by kernel_rfl) (by kernel_rfl) (by kernel_rfl) (by kernel_rfl) (fun _ _ _ h=>h) (Or.inl ⟨by rfl,fun W _=>by go_simp⟩) hS ?_
 refine AnyE.take (i:=1) (v:=.string n.text) rfl (by kernel_rfl) (by kernel_rfl) (by kernel_rfl) (by kernel_rfl) (fun _ _ _ h=>h) (Or.inl ⟨by rfl,fun W hW=>by have hcx:W.cell? ⟨w.heap.size,1,none⟩=some (.string n.text):=hW.cell 1;go_simp⟩) hS ?_
 refine AnyE.take (i:=2) (v:=.pointer (some ⟨w.heap.size,3,none⟩)) rfl (by kernel_rfl) (by kernel_rfl) (by kernel_rfl) (by kernel_rfl) (fun _ _ _ h=>h) (Or.inl ⟨by rfl,fun W _=>by go_simp⟩) hS ?_
 refine AnyE.take (i:=3) (v:=.int .i64 n.place) rfl (by kernel_rfl) (by kernel_rfl) (by kernel_rfl) (by kernel_rfl) (fun _ _ _ h=>h) (Or.inl ⟨by rfl,fun W hW=>by have hcx:W.cell? ⟨w.heap.size,3,none⟩=some (.int .i64 n.place):=hW.cell 3;go_simp⟩) hS ?_
 refine AnyE.take (i:=4) (v:=.pointer (some ⟨E.pb,0,none⟩)) rfl (by kernel_rfl) (by kernel_rfl) (by kernel_rfl) (by kernel_rfl) (fun _ _ _ h=>h) (Or.inl ⟨by rfl,fun W _=>by go_simp⟩) hS ?_
 refine AnyE.take (i:=5) (v:=.pointer (some ⟨E.pb,0,none⟩)) rfl (by kernel_rfl) (by kernel_rfl) (by kernel_rfl) (by kernel_rfl) (fun _ _ _ h=>h) (Or.inl ⟨by rfl,fun W _=>by go_simp⟩) hS ?_
 refine AnyE.take (i:=6) (v:=.func (.func 178) #[.pointer (some ⟨E.pb,0,none⟩)] #[]) rfl (by kernel_rfl) (by kernel_rfl) (by kernel_rfl) (by kernel_rfl) (fun _ _ _ h=>h) (Or.inl ⟨by rfl,fun W _=>by go_simp⟩) hS ?_
 refine AnyE.one (i:=7) (by kernel_rfl) rfl (by rfl) (fun K hK=>?_)
 go_simp
 refine (zGf (HR0.out.drew).st (zIm E d)).mono ?_
 intro e w1 hp
 cases hr:zwb zZb l with
 | error pc =>
  obtain ⟨p,c⟩:=pc
  obtain ⟨rfl,hk,hcd⟩:=hp.err hr
  have HK:=zh ((HR0.out.drew).kp.trans hk)
  have HP:=zh (show zne n l=.error (p,c) by unfold zne;exact (zNa hr _))
  clear hr hp hk
  go_wp2
  exact ⟨rfl,Run.err HK.out HP.out hcd⟩
 | ok q =>
  obtain ⟨a1,l1⟩:=q
  obtain ⟨v1,rfl,hv,hs,hl,hk⟩:=hp.ok hr
  have HT1:=zh (hv.1.weak (HB0.out.drew).lt)
  have HC1:=zh hv.2
  obtain ⟨sa1,sn1,sc1,rfl⟩:=HT1.out.slice
  have HR1:=zh ((HR0.out.drew).call hk hs)
  have hzR1:=HR1.out.size
  have HB1:=zh ((HB0.out.drew).kp hk (by omega))
  have hzHB1:=HB1.out.lt
  have HC_1:=zh ((HC0.out.drew).kp hk (by first|omega|(have:=HR0.out.size;simp at *;omega)))
  have hzHC_1:=HC_1.out.lt
  have HL1:=zh hl
  have H1:=zh hr
  clear hr hp hs hl hk hv
  refine hK.out _ _ (fun _=>HC_1.out) ?_
  clear hK K
  refine AnyE.one (i:=8) (by kernel_rfl) rfl (by rfl) (fun K hK=>?_)
  go_simp
  refine hK.out _ _ (fun _=>HC_1.out) ?_
  clear hK K
  have HP:=zh (show zne n l=.ok (T.mk 28 n.text 0 n.place a1,l1) by unfold zne;exact (zHa H1.out _))
  refine AnyE.one (i:=9) (by kernel_rfl) rfl (by rfl) (fun K hK=>?_)
  refine zic 25 (.tmp 4) (.tmp 13) rfl (w.heap.size+1) (zaa (T.mk 28 n.text 0 n.place a1) (.slice sa1 sn1 sc1)) rfl rfl HB1.out Tryz.zla rfl (zoa _ _ rfl) ?_
  refine hK.out _ _ (fun h=>absurd rfl h) ?_
  clear hK K
  refine AnyE.done (by kernel_rfl) ?_ _
  go_wp2
  exact znf (cs:=zaa (T.mk 28 n.text 0 n.place a1) (.slice sa1 sn1 sc1)) Tryz.results190 rfl HB1.out Tryz.underlying25 rfl Tryz.zla rfl (Run.nodeAt (by omega) HR1.out (HT1.out.lo.tat _ _ _ _) HP.out (by have:=HL1.out;first|omega|(simp only [List.length_tail] at *;omega)))
end Go.Proofs.YtbfgdpcgdmabpaaGreatDoor
