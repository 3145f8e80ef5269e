/- The contracts of the parser's lockBehind, returnBehind, named, simple. -/
import Derived.Test.YtpjnpffcnmgdcaaGreatDoorZ06
namespace Go.Proofs.YtpjnpffcnmgdcaaGreatDoor
set_option maxRecDepth 100000
set_option maxHeartbeats 1000000
open Go.RowKit
theorem zWf {E:Env} {w:World} {l:List Tok} {d:Nat} (h:PSt E w l d) (k:Int) (pl:Nat) :
  Calls Tryz.prog 133 #[.pointer (some ⟨E.pb,0,none⟩),.int .i64 k,.int .i64 pl] w (zMb zTc E w l d (zue k pl l)):=by
 have HR0:=zh ((Run.start h).alloc (.cells zba.toArray 25))
 have HB0:=zh (Blk.new w zba 25)
 have hlo:=h.plt
 have hlt:=h.tlt
 have hln:=h.len
 clear h
 go_enter Tryz.func133,Tryz.ntmps133
 go_wp2_with fail
 refine (name_any HR0.out.st).mono ?_
 intro e w1 hp
 cases hr:zKb l with
 | error pc =>
  obtain ⟨p,c⟩:=pc
  obtain ⟨rfl,hk,hcd⟩:=hp.err hr
  have HK:=zh (HR0.out.kp.trans hk)
  have HP:=zh (show zue k pl l=.error (p,c) by unfold zue;exact (zya hr _))
  clear hr hp hk
  go_wp2
  exact ⟨rfl,Run.err HK.out HP.out hcd⟩
 | ok q =>
  obtain ⟨a1,l1⟩:=q
  obtain ⟨v1,rfl,hv,hs,hl,hk⟩:=hp.ok hr
  obtain rfl:v1=.string a1:=hv
  have HR1:=zh (HR0.out.call hk hs)
  have hzR1:=HR1.out.size
  have HB1:=zh (HB0.out.kp hk (by omega))
  have hzHB1:=HB1.out.lt
  have HL1:=zh hl
  have H1:=zh hr
  clear hr hp hs hl hk
  go_wp2_with fail
  refine (zcb (HR1.out.alloc _).st [bs [91]] (by decide) (by decide) (by simp) rfl rfl).mono ?_
  intro e w2 hp
  cases hr:zsa [bs [91]] l1 with
  | error pc =>
   obtain ⟨p,c⟩:=pc
   obtain ⟨rfl,hk,hcd⟩:=hp.err hr
   have HK:=zh ((HR1.out.alloc _).kp.trans hk)
   have HP:=zh (show zue k pl l=.error (p,c) by unfold zue;exact ((zpa H1.out _)).trans ((zya hr _)))
   clear hr hp hk
   go_wp2
   exact ⟨rfl,Run.err HK.out HP.out hcd⟩
  | ok q =>
   obtain ⟨a2,l2⟩:=q
   obtain ⟨v2,rfl,hv,hs,hl,hk⟩:=hp.ok hr
   obtain ⟨rfl,hto⟩:=hv
   have HR2:=zh ((HR1.out.alloc _).call hk hs)
   have hzR2:=HR2.out.size
   have HB2:=zh ((HB1.out.alloc _).kp hk (by omega))
   have hzHB2:=HB2.out.lt
   have HN2:=zh ((Blk.new w1 (zaa (T.mk k a1 0 pl []) (.slice none 0 0)) 25).kp hk (by first|omega|(have:=HR0.out.size;simp at *;omega)))
   have hzHN2:=HN2.out.lt
   have HL2:=zh hl
   have H2:=zh hr
   clear hr hp hs hl hk hto
   unfold zmb
   go_wp2_with fail
   refine (zhe HR2.out.st).mono ?_
   intro e w3 hp
   cases hr:zEa l2 with
   | error pc =>
    obtain ⟨p,c⟩:=pc
    obtain ⟨rfl,hk,hcd⟩:=hp.err hr
    have HK:=zh (HR2.out.kp.trans hk)
    have HP:=zh (show zue k pl l=.error (p,c) by unfold zue;exact ((zpa H1.out _)).trans (((zpa H2.out _)).trans ((zya hr _))))
    clear hr hp hk
    go_wp2
    exact ⟨rfl,Run.err HK.out HP.out hcd⟩
   | ok q =>
    obtain ⟨a3,l3⟩:=q
    obtain ⟨v3,rfl,hv,hs,hl,hk⟩:=hp.ok hr
    obtain ⟨rfl,hn0,hn1⟩:=hv
    have HR3:=zh (HR2.out.call hk hs)
    have hzR3:=HR3.out.size
    have HB3:=zh (HB2.out.kp hk (by omega))
    have hzHB3:=HB3.out.lt
    have HN3:=zh (HN2.out.kp hk (by first|omega|(have:=HR0.out.size;simp at *;omega)))
    have hzHN3:=HN3.out.lt
    have HL3:=zh hl
    have H3:=zh hr
    clear hr hp hs hl hk
    have hcell:_root_.Go.World.cell? _ ⟨w1.heap.size,2,none⟩=some (.int .i64 0):=HN3.out.cell 2
    have hfroz:=HN3.out.frozen 2
    go_wp2_with fail
    refine (zcb (HR3.out.setCell (a:=⟨w1.heap.size,2,none⟩) (by show w.heap.size≤w1.heap.size;omega) _).st [bs [93]] (by decide) (by decide) (by simp) rfl rfl).mono ?_
    intro e w4 hp
    cases hr:zsa [bs [93]] l3 with
    | error pc =>
     obtain ⟨p,c⟩:=pc
     obtain ⟨rfl,hk,hcd⟩:=hp.err hr
     have HK:=zh ((HR3.out.setCell (a:=⟨w1.heap.size,2,none⟩) (by show w.heap.size≤w1.heap.size;omega) _).kp.trans hk)
     have HP:=zh (show zue k pl l=.error (p,c) by unfold zue;exact ((zpa H1.out _)).trans (((zpa H2.out _)).trans (((zpa H3.out _)).trans ((zya hr _)))))
     clear hr hp hk
     go_wp2
     exact ⟨rfl,Run.err HK.out HP.out hcd⟩
    | ok q =>
     obtain ⟨a4,l4⟩:=q
     obtain ⟨v4,rfl,hv,hs,hl,hk⟩:=hp.ok hr
     obtain ⟨rfl,hto⟩:=hv
     have HR4:=zh ((HR3.out.setCell (a:=⟨w1.heap.size,2,none⟩) (by show w.heap.size≤w1.heap.size;omega) _).call hk hs)
     have hzR4:=HR4.out.size
     have HB4:=zh ((HB3.out.setOther ⟨w1.heap.size,2,none⟩ _ (by show _≠w1.heap.size;omega)).kp hk (by omega))
     have hzHB4:=HB4.out.lt
     have HN4:=zh ((HN3.out.zNa 2 (.int .i64 a3)).kp hk (by first|omega|(have:=HR0.out.size;simp at *;omega)))
     have hzHN4:=HN4.out.lt
     have HL4:=zh hl
     have H4:=zh hr
     clear hr hp hs hl hk hto
     unfold zmb
     have HP:=zh (show zue k pl l=.ok (T.mk k a1 a3 pl [],l4) by unfold zue;exact ((zpa H1.out _)).trans (((zpa H2.out _)).trans (((zpa H3.out _)).trans ((zpa H4.out _)))))
     go_wp2_with (first|((with_reducible refine zqa 25 (.tmp 7) ?_);refine zia rfl 25 (.tmp 7) rfl w1.heap.size (zaa (T.mk k a1 a3 pl []) (.slice none 0 0)) rfl (show Blk _ w1.heap.size (zaa (T.mk k a1 a3 pl []) (.slice none 0 0)) 25 from HN4.out) Tryz.underlying25 rfl Tryz.zea ?_)|((with_reducible refine zla 25 (.tmp 6) ?_);refine zda rfl 25 (.tmp 6) (.tmp 22) rfl w.heap.size (zaa (T.mk k a1 a3 pl []) (.slice none 0 0)) rfl rfl HB4.out Tryz.zea rfl (zca _ _ rfl) ?_))
     exact zma (cs:=zaa (T.mk k a1 a3 pl []) (.slice none 0 0)) Tryz.results133 rfl HB4.out Tryz.underlying25 rfl Tryz.zea rfl (Run.node HR4.out ((KAt.nil _ _ _).tat _ _ _ _) HP.out (by have:=HL1.out;have:=HL2.out;have:=HL3.out;have:=HL4.out;first|omega|(simp only [List.length_tail] at *;omega)))
theorem zGh {E:Env} {w:World} {l:List Tok} {d:Nat} (h:PSt E w l d) (pl:Nat) :
  Calls Tryz.prog 134 #[.pointer (some ⟨E.pb,0,none⟩),.int .i64 pl] w (zxh zTc E w l d (zMc pl l)):=by
 have HR0:=zh ((Run.start h).alloc (.cells zba.toArray 25))
 have HB0:=zh (Blk.new w zba 25)
 have hlo:=h.plt
 have hlt:=h.tlt
 have hln:=h.len
 clear h
 go_enter Tryz.func134,Tryz.ntmps134
 cases hi:isT (hdT l) (bs [59]) with
 | true =>
  have HIi:=zh hi
  clear hi
  go_wp2_with fail
  refine (zAe (HR0.out.alloc _).st (bs [59])).mono ?_
  rintro e w1 ⟨rfl,hb⟩
  rw [HIi.out]
  have HR1:=zh ((HR0.out.alloc _).below hb)
  have hzR1:=HR1.out.size
  have HB1:=zh ((HB0.out.alloc _).kp (Kp.of_below (pb:=E.pb) hb) (by omega))
  have hzHB1:=HB1.out.lt
  have HN1:=zh ((Blk.zTe w (.cells zba.toArray 25) (zaa (T.mk 17 e0 0 pl []) (.slice none 0 0)) 25).kp (Kp.of_below (pb:=E.pb) hb) (by first|omega|(have:=HR0.out.size;simp at *;omega)))
  have hzHN1:=HN1.out.lt
  clear hb
  have HP:=zh (show zMc pl l=.ok (T.mk 17 e0 0 pl [],l) by unfold zMc;exact (zFa HIi.out _ _))
  go_wp2_with (first|((with_reducible refine zqa 25 (.tmp 5) ?_);refine zia rfl 25 (.tmp 5) rfl (w.heap.size+1) (zaa (T.mk 17 e0 0 pl []) (.slice none 0 0)) rfl (show Blk _ (w.heap.size+1) (zaa (T.mk 17 e0 0 pl []) (.slice none 0 0)) 25 from HN1.out) Tryz.underlying25 rfl Tryz.zea ?_)|((with_reducible refine zla 25 (.tmp 4) ?_);refine zda rfl 25 (.tmp 4) (.tmp 15) rfl w.heap.size (zaa (T.mk 17 e0 0 pl []) (.slice none 0 0)) rfl rfl HB1.out Tryz.zea rfl (zca _ _ rfl) ?_))
  exact zma (cs:=zaa (T.mk 17 e0 0 pl []) (.slice none 0 0)) Tryz.results134 rfl HB1.out Tryz.underlying25 rfl Tryz.zea rfl (Run.zTs HR1.out ((KAt.nil _ _ _).tat _ _ _ _) HP.out (by  first|omega|(simp only [List.length_tail] at *;omega)))
 | false =>
  have HIi:=zh hi
  clear hi
  go_wp2_with fail
  refine (zAe (HR0.out.alloc _).st (bs [59])).mono ?_
  rintro e w1 ⟨rfl,hb⟩
  rw [HIi.out]
  have HR1:=zh ((HR0.out.alloc _).below hb)
  have hzR1:=HR1.out.size
  have HB1:=zh ((HB0.out.alloc _).kp (Kp.of_below (pb:=E.pb) hb) (by omega))
  have hzHB1:=HB1.out.lt
  have HN1:=zh ((Blk.zTe w (.cells zba.toArray 25) (zaa (T.mk 17 e0 0 pl []) (.slice none 0 0)) 25).kp (Kp.of_below (pb:=E.pb) hb) (by first|omega|(have:=HR0.out.size;simp at *;omega)))
  have hzHN1:=HN1.out.lt
  clear hb
  go_wp2_with fail
  refine (zMf HR1.out.st).mono ?_
  intro e w2 hp
  cases hr:zXa l with
  | error pc =>
   obtain ⟨p,c⟩:=pc
   obtain ⟨rfl,hk,hcd⟩:=hp.err hr
   have HK:=zh (HR1.out.kp.trans hk)
   have HP:=zh (show zMc pl l=.error (p,c) by unfold zMc;exact ((zwa HIi.out _ _)).trans ((zya hr _)))
   clear hr hp hk
   go_wp2
   exact ⟨rfl,Run.errE HK.out HP.out hcd⟩
  | ok q =>
   obtain ⟨a2,l2⟩:=q
   obtain ⟨v2,rfl,hv,hs,hl,hk⟩:=hp.ok hr
   obtain ⟨kv2,rfl,ht⟩:=hv
   have HT2:=zh (ht.weak HB1.out.lt)
   have huHN2:=Blk.zNb hk HN1.out
   have HU2:=zh (ht.mono (S':=fun b=>w.heap.size<b∧(w.heap.size+1)<b) (fun b hb _=>by have:=Blk.zNb hk HB1.out;omega))
   have HR2:=zh (HR1.out.call hk hs)
   have hzR2:=HR2.out.size
   have HB2:=zh (HB1.out.kp hk (by omega))
   have hzHB2:=HB2.out.lt
   have HN2:=zh (HN1.out.kp hk (by first|omega|(have:=HR0.out.size;simp at *;omega)))
   have hzHN2:=HN2.out.lt
   have HL2:=zh hl
   have H2:=zh hr
   clear hr hp hs hl hk ht
   unfold zna
   have hcell:_root_.Go.World.cell? _ ⟨(w.heap.size+1),4,none⟩=some (.slice none 0 0):=HN2.out.cell 4
   have hfroz:=HN2.out.frozen 4
   have HQ:=zh (KAt.zxp (e:=25) (w:=w2) (t:=a2) (v:=kv2) HU2.out ⟨(w.heap.size+1),4,none⟩ (.slice (some ⟨w2.heap.size,0,none⟩) 1 1) (fun b hb=>by show _≠(w.heap.size+1);omega) ⟨by omega,by omega⟩)
   have HP:=zh (show zMc pl l=.ok (T.mk 17 e0 0 pl [a2],l2) by unfold zMc;exact ((zwa HIi.out _ _)).trans ((zpa H2.out _)))
   go_wp2_with (first|((with_reducible refine zqa 25 (.tmp 5) ?_);refine zia rfl 25 (.tmp 5) rfl (w.heap.size+1) (zaa (T.mk 17 e0 0 pl [a2]) (.slice (some ⟨w2.heap.size,0,none⟩) 1 1)) rfl (show Blk _ (w.heap.size+1) (zaa (T.mk 17 e0 0 pl [a2]) (.slice (some ⟨w2.heap.size,0,none⟩) 1 1)) 25 from ((HN2.out.zNa 4 (.slice (some ⟨w2.heap.size,0,none⟩) 1 1)).alloc _)) Tryz.underlying25 rfl Tryz.zea ?_)|((with_reducible refine zla 25 (.tmp 4) ?_);refine zda rfl 25 (.tmp 4) (.tmp 15) rfl w.heap.size (zaa (T.mk 17 e0 0 pl [a2]) (.slice (some ⟨w2.heap.size,0,none⟩) 1 1)) rfl rfl ((HB2.out.setOther ⟨(w.heap.size+1),4,none⟩ _ (by show _≠(w.heap.size+1);omega)).alloc _) Tryz.zea rfl (zca _ _ rfl) ?_))
   exact zma (cs:=zaa (T.mk 17 e0 0 pl [a2]) (.slice (some ⟨w2.heap.size,0,none⟩) 1 1)) Tryz.results134 rfl ((HB2.out.setOther ⟨(w.heap.size+1),4,none⟩ _ (by show _≠(w.heap.size+1);omega)).alloc _) Tryz.underlying25 rfl Tryz.zea rfl (Run.zTs ((HR2.out.setCell (a:=⟨(w.heap.size+1),4,none⟩) (by show w.heap.size≤(w.heap.size+1);omega) _).alloc _) ((HQ.out.mono (fun b hb _=>hb.1)).tat _ _ _ _) HP.out (by have:=HL2.out;first|omega|(simp only [List.length_tail] at *;omega)))
theorem zpp {E:Env} {w:World} {l:List Tok} {d:Nat} (h:PSt E w l d) :
  Calls Tryz.prog 132 #[.pointer (some ⟨E.pb,0,none⟩)] w (zMb zTc E w l d (zIb l)):=by
 have HR0:=zh ((Run.start h).alloc (.cells zba.toArray 25))
 have HB0:=zh (Blk.new w zba 25)
 have hlo:=h.plt
 have hlt:=h.tlt
 have hln:=h.len
 clear h
 go_enter Tryz.func132,Tryz.ntmps132
 go_wp2_with fail
 refine (zYb HR0.out.st).mono ?_
 intro e w1 hp
 cases hr:zoa l with
 | error pc =>
  obtain ⟨p,c⟩:=pc
  obtain ⟨rfl,hk,hcd⟩:=hp.err hr
  have HK:=zh (HR0.out.kp.trans hk)
  have HP:=zh (show zIb l=.error (p,c) by unfold zIb;exact (zya hr _))
  clear hr hp hk
  go_wp2
  exact ⟨rfl,Run.err HK.out HP.out hcd⟩
 | ok q =>
  obtain ⟨a1,l1⟩:=q
  obtain ⟨v1,rfl,hv,hs,hl,hk⟩:=hp.ok hr
  obtain ⟨kv1,rfl,ht⟩:=hv
  have HT1:=zh (ht.weak HB0.out.lt)
  have HR1:=zh (HR0.out.call hk hs)
  have hzR1:=HR1.out.size
  have HB1:=zh (HB0.out.kp hk (by omega))
  have hzHB1:=HB1.out.lt
  have HL1:=zh hl
  have H1:=zh hr
  clear hr hp hs hl hk ht
  unfold zna
  obtain ⟨sa,sn,sc,rfl⟩:=HT1.out.kat.slice
  go_wp2_with ((with_reducible refine zla 25 (.tmp 3) ?_);refine zga rfl 25 (.tmp 3) (.tmp 6) rfl (zaa (a1) (.slice sa sn sc)) (old:=zba) rfl rfl Tryz.zea rfl (zca _ _ rfl) ?_)
  cases hi:isT (hdT l1) (bs [40]) with
  | true =>
   have HIi:=zh hi
   clear hi
   go_wp2_with fail
   refine (zAe (HR1.out.alloc _).st (bs [40])).mono ?_
   rintro e w2 ⟨rfl,hb⟩
   rw [HIi.out]
   have HR2:=zh ((HR1.out.alloc _).below hb)
   have hzR2:=HR2.out.size
   have HB2:=zh ((HB1.out.alloc _).kp (Kp.of_below (pb:=E.pb) hb) (by omega))
   have hzHB2:=HB2.out.lt
   have HN2:=zh ((Blk.new w1 (zaa (a1) (.slice sa sn sc)) 25).kp (Kp.of_below (pb:=E.pb) hb) (by first|omega|(have:=HR0.out.size;simp at *;omega)))
   have hzHN2:=HN2.out.lt
   have HT1_2:=zh ((HT1.out.alloc _).below hb)
   clear hb
   go_wp2_with fail
   refine AnyE.zCc (S:=fun W=>Blk W w1.heap.size (zaa a1 (.slice sa sn sc)) 25) (by kernel_rfl) (HN2.out.drew) (fun hS=>?_)
   refine AnyE.take (i:=0) (v:=.pointer (some ⟨w1.heap.size,3,none⟩)) rfl (by kernel_rfl) (by kernel_rfl) (by kernel_rfl) (by kernel_rfl) (fun _ _ _ h=>h) (Or.inl ⟨by rfl,fun W _=>by go_simp⟩) hS ?_
   refine AnyE.take (i:=1) (v:=.int .i64 a1.place) rfl (by kernel_rfl) (by kernel_rfl) (by kernel_rfl) (by kernel_rfl) (fun _ _ _ h=>h) (Or.inl ⟨by rfl,fun W hW=>by have hcx:W.cell? ⟨w1.heap.size,3,none⟩=some (.int .i64 a1.place):=hW.cell 3;go_simp⟩) hS ?_
   refine AnyE.take (i:=2) (v:=.pointer (some ⟨E.pb,0,none⟩)) rfl (by kernel_rfl) (by kernel_rfl) (by kernel_rfl) (by kernel_rfl) (fun _ _ _ h=>h) (Or.inl ⟨by rfl,fun W _=>by go_simp⟩) hS ?_
   refine AnyE.take (i:=3) (v:=.agg #[.int .i64 (a1).kind,.string (a1).text,.int .i64 (a1).num,.int .i64 (a1).place,.slice sa sn sc]) rfl (by kernel_rfl) (by kernel_rfl) (by kernel_rfl) (by kernel_rfl) (fun _ _ _ h=>h) (yieldsIf_load_mid (cs:=zaa (a1) (.slice sa sn sc)) (by rfl) 25 (.tmp 3) rfl (w1.heap.size) 0 rfl _ (fun W hW j v hj=>by rw [Nat.zero_add,(hW).cell j];exact hj) Tryz.underlying25 rfl Tryz.zea) hS ?_
   refine AnyE.one (i:=4) (by kernel_rfl) rfl (by rfl) (fun K hK=>?_)
   go_simp
   refine (zej (HR2.out.drew).st a1 sa sn sc).mono ?_
   intro e w3 hp
   cases hr:zOf a1 l1 with
   | error pc =>
    obtain ⟨p,c⟩:=pc
    obtain ⟨rfl,hk,hcd⟩:=hp.err hr
    have HK:=zh ((HR2.out.drew).kp.trans hk)
    have HP:=zh (show zIb l=.error (p,c) by unfold zIb;exact ((zpa H1.out _)).trans (((zFa HIi.out _ _)).trans ((zya hr _))))
    clear hr hp hk
    go_wp2
    exact ⟨rfl,Run.err HK.out HP.out hcd⟩
   | ok q =>
    obtain ⟨a3,l3⟩:=q
    obtain ⟨v3,rfl,hv,hs,hl,hk⟩:=hp.ok hr
    obtain ⟨kv3,rfl,ht⟩:=hv
    have HT3:=zh (ht.weak (HB2.out.drew).lt)
    have huHN3:=Blk.zNb hk (HN2.out.drew)
    have HU3:=zh (ht.mono (S':=fun b=>w.heap.size<b∧w1.heap.size<b) (fun b hb _=>by have:=Blk.zNb hk (HB2.out.drew);omega))
    have HR3:=zh ((HR2.out.drew).call hk hs)
    have hzR3:=HR3.out.size
    have HB3:=zh ((HB2.out.drew).kp hk (by omega))
    have hzHB3:=HB3.out.lt
    have HN3:=zh ((HN2.out.drew).kp hk (by first|omega|(have:=HR0.out.size;simp at *;omega)))
    have hzHN3:=HN3.out.lt
    have HT1_3:=zh ((HT1_2.out.drew).kp hk (fun b hb=>by omega))
    have HL3:=zh hl
    have H3:=zh hr
    clear hr hp hs hl hk ht
    unfold zna
    refine hK.out _ _ (fun _=>HN3.out) ?_
    clear hK K
    refine AnyE.one (i:=5) (by kernel_rfl) rfl (by rfl) (fun K hK=>?_)
    go_simp
    refine hK.out _ _ (fun _=>(HN3.out.alloc _)) ?_
    clear hK K
    refine AnyE.one (i:=6) (by kernel_rfl) rfl (by rfl) (fun K hK=>?_)
    go_simp
    refine hK.out _ _ (fun _=>(HN3.out.alloc _)) ?_
    clear hK K
    have HP:=zh (show zIb l=.ok (T.mk 20 e0 0 a1.place [a3],l3) by unfold zIb;exact ((zpa H1.out _)).trans (((zFa HIi.out _ _)).trans ((zpa H3.out _))))
    refine AnyE.one (i:=7) (by kernel_rfl) rfl (by rfl) (fun K hK=>?_)
    refine zva 25 (.tmp 2) (.tmp 16) rfl (w.heap.size) (zaa (T.mk 20 e0 0 a1.place [a3]) (.slice (some ⟨w3.heap.size,0,none⟩) 1 1)) rfl rfl (HB3.out.alloc _) Tryz.zea rfl (zca _ _ rfl) ?_
    refine hK.out _ _ (fun h=>absurd rfl h) ?_
    clear hK K
    refine AnyE.done (by kernel_rfl) ?_ _
    go_wp2
    exact zkf (cs:=zaa (T.mk 20 e0 0 a1.place [a3]) (.slice (some ⟨w3.heap.size,0,none⟩) 1 1)) Tryz.results132 rfl (HB3.out.alloc _) Tryz.underlying25 rfl Tryz.zea rfl (Run.node (HR3.out.alloc _) ((KAt.zrk HT3.out.lo hzHB3).tat _ _ _ _) HP.out (by have:=HL1.out;have:=HL3.out;first|omega|(simp only [List.length_tail] at *;omega)))
  | false =>
   have HIi:=zh hi
   clear hi
   go_wp2_with fail
   refine (zAe (HR1.out.alloc _).st (bs [40])).mono ?_
   rintro e w2 ⟨rfl,hb⟩
   rw [HIi.out]
   have HR2:=zh ((HR1.out.alloc _).below hb)
   have hzR2:=HR2.out.size
   have HB2:=zh ((HB1.out.alloc _).kp (Kp.of_below (pb:=E.pb) hb) (by omega))
   have hzHB2:=HB2.out.lt
   have HN2:=zh ((Blk.new w1 (zaa (a1) (.slice sa sn sc)) 25).kp (Kp.of_below (pb:=E.pb) hb) (by first|omega|(have:=HR0.out.size;simp at *;omega)))
   have hzHN2:=HN2.out.lt
   have HT1_2:=zh ((HT1.out.alloc _).below hb)
   clear hb
   cases hj:isT (hdT l1) (bs [91]) with
   | true =>
    have HIj:=zh hj
    clear hj
    go_wp2_with fail
    refine (zAe HR2.out.st (bs [91])).mono ?_
    rintro e w3 ⟨rfl,hb⟩
    rw [HIj.out]
    have HR3:=zh (HR2.out.below hb)
    have hzR3:=HR3.out.size
    have HB3:=zh (HB2.out.kp (Kp.of_below (pb:=E.pb) hb) (by omega))
    have hzHB3:=HB3.out.lt
    have HN3:=zh (HN2.out.kp (Kp.of_below (pb:=E.pb) hb) (by first|omega|(have:=HR0.out.size;simp at *;omega)))
    have hzHN3:=HN3.out.lt
    have HT1_3:=zh (HT1_2.out.below hb)
    clear hb
    go_wp2_with fail
    refine (zrl HR3.out.st).mono ?_
    intro e w4 hp
    cases hr:zwd l1 with
    | error pc =>
     obtain ⟨p,c⟩:=pc
     obtain ⟨rfl,hk,hcd⟩:=hp.err hr
     have HK:=zh (HR3.out.kp.trans hk)
     have HP:=zh (show zIb l=.error (p,c) by unfold zIb;exact ((zpa H1.out _)).trans (((zwa HIi.out _ _)).trans (((zFa HIj.out _ _)).trans ((zya hr _)))))
     clear hr hp hk
     go_wp2
     exact ⟨rfl,Run.err HK.out HP.out hcd⟩
    | ok q =>
     obtain ⟨a4,l4⟩:=q
     obtain ⟨v4,rfl,hv,hs,hl,hk⟩:=hp.ok hr
     obtain ⟨kv4,rfl,ht⟩:=hv
     have HT4:=zh (ht.weak HB3.out.lt)
     have huHN4:=Blk.zNb hk HN3.out
     have HU4:=zh (ht.mono (S':=fun b=>w.heap.size<b∧w1.heap.size<b) (fun b hb _=>by have:=Blk.zNb hk HB3.out;omega))
     have HR4:=zh (HR3.out.call hk hs)
     have hzR4:=HR4.out.size
     have HB4:=zh (HB3.out.kp hk (by omega))
     have hzHB4:=HB4.out.lt
     have HN4:=zh (HN3.out.kp hk (by first|omega|(have:=HR0.out.size;simp at *;omega)))
     have hzHN4:=HN4.out.lt
     have HT1_4:=zh (HT1_3.out.kp hk (fun b hb=>by omega))
     have HL4:=zh hl
     have H4:=zh hr
     clear hr hp hs hl hk ht
     unfold zna
     go_wp2_with ((with_reducible refine zla 25 (.tmp 4) ?_);refine zga rfl 25 (.tmp 4) (.tmp 21) rfl (zaa (a4) (kv4)) (old:=zba) rfl rfl Tryz.zea rfl (zca _ _ HT4.out.kat.one) ?_)
     go_wp2_with fail
     refine (zcb (HR4.out.alloc _).st [bs [61]] (by decide) (by decide) (by simp) rfl rfl).mono ?_
     intro e w5 hp
     cases hr:zsa [bs [61]] l4 with
     | error pc =>
      obtain ⟨p,c⟩:=pc
      obtain ⟨rfl,hk,hcd⟩:=hp.err hr
      have HK:=zh ((HR4.out.alloc _).kp.trans hk)
      have HP:=zh (show zIb l=.error (p,c) by unfold zIb;exact ((zpa H1.out _)).trans (((zwa HIi.out _ _)).trans (((zFa HIj.out _ _)).trans (((zpa H4.out _)).trans ((zya hr _))))))
      clear hr hp hk
      go_wp2
      exact ⟨rfl,Run.err HK.out HP.out hcd⟩
     | ok q =>
      obtain ⟨a5,l5⟩:=q
      obtain ⟨v5,rfl,hv,hs,hl,hk⟩:=hp.ok hr
      obtain ⟨rfl,hto⟩:=hv
      have HR5:=zh ((HR4.out.alloc _).call hk hs)
      have hzR5:=HR5.out.size
      have HB5:=zh ((HB4.out.alloc _).kp hk (by omega))
      have hzHB5:=HB5.out.lt
      have HN5:=zh ((HN4.out.alloc _).kp hk (by first|omega|(have:=HR0.out.size;simp at *;omega)))
      have hzHN5:=HN5.out.lt
      have HJ5:=zh ((Blk.new w4 (zaa (a4) (kv4)) 25).kp hk (by first|omega|(have:=HR0.out.size;simp at *;omega)))
      have hzHJ5:=HJ5.out.lt
      have HT1_5:=zh ((HT1_4.out.alloc _).kp hk (fun b hb=>by omega))
      have HT4_5:=zh ((HT4.out.alloc _).kp hk (fun b hb=>by omega))
      have HL5:=zh hl
      have H5:=zh hr
      clear hr hp hs hl hk hto
      unfold zmb
      go_wp2_with fail
      refine AnyE.zCc (S:=fun W=>Blk W w4.heap.size (zaa a4 kv4) 25∧Blk W w1.heap.size (zaa a1 (.slice sa sn sc)) 25) (by kernel_rfl) (And.intro HJ5.out.drew HN5.out.drew) (fun hS=>?_)
      refine AnyE.take (i:=0) (v:=.pointer (some ⟨w1.heap.size,1,none⟩)) rfl (by kernel_rfl) (by kernel_rfl) (by kernel_rfl) (by kernel_rfl) (fun _ _ _ h=>h) (Or.inl ⟨by rfl,fun W _=>by go_simp⟩) hS ?_
      refine AnyE.take (i:=1) (v:=.string a1.text) rfl (by kernel_rfl) (by kernel_rfl) (by kernel_rfl) (by kernel_rfl) (fun _ _ _ h=>h) (Or.inl ⟨by rfl,fun W hW=>by have hcx:W.cell? ⟨w1.heap.size,1,none⟩=some (.string a1.text):=hW.2.cell 1;go_simp⟩) hS ?_
      refine AnyE.take (i:=2) (v:=.pointer (some ⟨w1.heap.size,3,none⟩)) rfl (by kernel_rfl) (by kernel_rfl) (by kernel_rfl) (by kernel_rfl) (fun _ _ _ h=>h) (Or.inl ⟨by rfl,fun W _=>by go_simp⟩) hS ?_
      refine AnyE.take (i:=3) (v:=.int .i64 a1.place) rfl (by kernel_rfl) (by kernel_rfl) (by kernel_rfl) (by kernel_rfl) (fun _ _ _ h=>h) (Or.inl ⟨by rfl,fun W hW=>by have hcx:W.cell? ⟨w1.heap.size,3,none⟩=some (.int .i64 a1.place):=hW.2.cell 3;go_simp⟩) hS ?_
      refine AnyE.take (i:=4) (v:=.agg #[.int .i64 (a4).kind,.string (a4).text,.int .i64 (a4).num,.int .i64 (a4).place,kv4]) rfl (by kernel_rfl) (by kernel_rfl) (by kernel_rfl) (by kernel_rfl) (fun _ _ _ h=>h) (yieldsIf_load_mid (cs:=zaa (a4) (kv4)) (by rfl) 25 (.tmp 4) rfl (w4.heap.size) 0 rfl _ (fun W hW j v hj=>by rw [Nat.zero_add,(hW.1).cell j];exact hj) Tryz.underlying25 rfl Tryz.zea) hS ?_
      refine AnyE.take (i:=5) (v:=.pointer (some ⟨E.pb,0,none⟩)) rfl (by kernel_rfl) (by kernel_rfl) (by kernel_rfl) (by kernel_rfl) (fun _ _ _ h=>h) (Or.inl ⟨by rfl,fun W _=>by go_simp⟩) hS ?_
      refine AnyE.one (i:=6) (by kernel_rfl) rfl (by rfl) (fun K hK=>?_)
      go_simp
      refine (zMf (HR5.out.drew).st).mono ?_
      intro e w6 hp
      cases hr:zXa l5 with
      | error pc =>
       obtain ⟨p,c⟩:=pc
       obtain ⟨rfl,hk,hcd⟩:=hp.err hr
       have HK:=zh ((HR5.out.drew).kp.trans hk)
       have HP:=zh (show zIb l=.error (p,c) by unfold zIb;exact ((zpa H1.out _)).trans (((zwa HIi.out _ _)).trans (((zFa HIj.out _ _)).trans (((zpa H4.out _)).trans (((zpa H5.out _)).trans ((zya hr _)))))))
       clear hr hp hk
       go_wp2
       exact ⟨rfl,Run.err HK.out HP.out hcd⟩
      | ok q =>
       obtain ⟨a6,l6⟩:=q
       obtain ⟨v6,rfl,hv,hs,hl,hk⟩:=hp.ok hr
       obtain ⟨kv6,rfl,ht⟩:=hv
       have HT6:=zh (ht.weak (HB5.out.drew).lt)
       have huHN6:=Blk.zNb hk (HN5.out.drew)
       have huHJ6:=Blk.zNb hk (HJ5.out.drew)
       have HU6:=zh (ht.mono (S':=fun b=>w.heap.size<b∧w1.heap.size<b∧w4.heap.size<b) (fun b hb _=>by have:=Blk.zNb hk (HB5.out.drew);omega))
       have HR6:=zh ((HR5.out.drew).call hk hs)
       have hzR6:=HR6.out.size
       have HB6:=zh ((HB5.out.drew).kp hk (by omega))
       have hzHB6:=HB6.out.lt
       have HN6:=zh ((HN5.out.drew).kp hk (by first|omega|(have:=HR0.out.size;simp at *;omega)))
       have hzHN6:=HN6.out.lt
       have HJ6:=zh ((HJ5.out.drew).kp hk (by first|omega|(have:=HR0.out.size;simp at *;omega)))
       have hzHJ6:=HJ6.out.lt
       have HT1_6:=zh ((HT1_5.out.drew).kp hk (fun b hb=>by omega))
       have HT4_6:=zh ((HT4_5.out.drew).kp hk (fun b hb=>by omega))
       have HL6:=zh hl
       have H6:=zh hr
       clear hr hp hs hl hk ht
       unfold zna
       refine hK.out _ _ (fun _=>⟨HJ6.out,HN6.out⟩) ?_
       clear hK K
       refine AnyE.one (i:=7) (by kernel_rfl) rfl (by rfl) (fun K hK=>?_)
       go_simp
       refine hK.out _ _ (fun _=>⟨HJ6.out.alloc _,HN6.out.alloc _⟩) ?_
       clear hK K
       refine AnyE.one (i:=8) (by kernel_rfl) rfl (by rfl) (fun K hK=>?_)
       go_simp
       refine hK.out _ _ (fun _=>⟨HJ6.out.alloc _,HN6.out.alloc _⟩) ?_
       clear hK K
       have HP:=zh (show zIb l=.ok (T.mk 11 a1.text 0 a1.place [a4,a6],l6) by unfold zIb;exact ((zpa H1.out _)).trans (((zwa HIi.out _ _)).trans (((zFa HIj.out _ _)).trans (((zpa H4.out _)).trans (((zpa H5.out _)).trans ((zpa H6.out _)))))))
       refine AnyE.one (i:=9) (by kernel_rfl) rfl (by rfl) (fun K hK=>?_)
       refine zva 25 (.tmp 2) (.tmp 33) rfl (w.heap.size) (zaa (T.mk 11 a1.text 0 a1.place [a4,a6]) (.slice (some ⟨w6.heap.size,0,none⟩) 2 2)) rfl rfl (HB6.out.alloc _) Tryz.zea rfl (zca _ _ rfl) ?_
       refine hK.out _ _ (fun h=>absurd rfl h) ?_
       clear hK K
       refine AnyE.done (by kernel_rfl) ?_ _
       go_wp2
       exact zkf (cs:=zaa (T.mk 11 a1.text 0 a1.place [a4,a6]) (.slice (some ⟨w6.heap.size,0,none⟩) 2 2)) Tryz.results132 rfl (HB6.out.alloc _) Tryz.underlying25 rfl Tryz.zea rfl (Run.node (HR6.out.alloc _) ((KAt.zHs HT4_6.out.lo HT6.out.lo hzHB6).tat _ _ _ _) HP.out (by have:=HL1.out;have:=HL4.out;have:=HL5.out;have:=HL6.out;first|omega|(simp only [List.length_tail] at *;omega)))
   | false =>
    have HIj:=zh hj
    clear hj
    go_wp2_with fail
    refine (zAe HR2.out.st (bs [91])).mono ?_
    rintro e w3 ⟨rfl,hb⟩
    rw [HIj.out]
    have HR3:=zh (HR2.out.below hb)
    have hzR3:=HR3.out.size
    have HB3:=zh (HB2.out.kp (Kp.of_below (pb:=E.pb) hb) (by omega))
    have hzHB3:=HB3.out.lt
    have HN3:=zh (HN2.out.kp (Kp.of_below (pb:=E.pb) hb) (by first|omega|(have:=HR0.out.size;simp at *;omega)))
    have hzHN3:=HN3.out.lt
    have HT1_3:=zh (HT1_2.out.below hb)
    clear hb
    go_wp2_with fail
    refine (zcb HR3.out.st [bs [61]] (by decide) (by decide) (by simp) rfl rfl).mono ?_
    intro e w4 hp
    cases hr:zsa [bs [61]] l1 with
    | error pc =>
     obtain ⟨p,c⟩:=pc
     obtain ⟨rfl,hk,hcd⟩:=hp.err hr
     have HK:=zh (HR3.out.kp.trans hk)
     have HP:=zh (show zIb l=.error (p,c) by unfold zIb;exact ((zpa H1.out _)).trans (((zwa HIi.out _ _)).trans (((zwa HIj.out _ _)).trans ((zya hr _)))))
     clear hr hp hk
     go_wp2
     exact ⟨rfl,Run.err HK.out HP.out hcd⟩
    | ok q =>
     obtain ⟨a4,l4⟩:=q
     obtain ⟨v4,rfl,hv,hs,hl,hk⟩:=hp.ok hr
     obtain ⟨rfl,hto⟩:=hv
     have HR4:=zh (HR3.out.call hk hs)
     have hzR4:=HR4.out.size
     have HB4:=zh (HB3.out.kp hk (by omega))
     have hzHB4:=HB4.out.lt
     have HN4:=zh (HN3.out.kp hk (by first|omega|(have:=HR0.out.size;simp at *;omega)))
     have hzHN4:=HN4.out.lt
     have HT1_4:=zh (HT1_3.out.kp hk (fun b hb=>by omega))
     have HL4:=zh hl
     have H4:=zh hr
     clear hr hp hs hl hk hto
     unfold zmb
     go_wp2_with fail
     refine AnyE.zCc (S:=fun W=>Blk W w1.heap.size (zaa a1 (.slice sa sn sc)) 25) (by kernel_rfl) (HN4.out.drew) (fun hS=>?_)
     refine AnyE.take (i:=0) (v:=.pointer (some ⟨w1.heap.size,1,none⟩)) rfl (by kernel_rfl) (by kernel_rfl) (by kernel_rfl) (by kernel_rfl) (fun _ _ _ h=>h) (Or.inl ⟨by rfl,fun W _=>by go_simp⟩) hS ?_
     refine AnyE.take (i:=1) (v:=.string a1.text) rfl (by kernel_rfl) (by kernel_rfl) (by kernel_rfl) (by kernel_rfl) (fun _ _ _ h=>h) (Or.inl ⟨by rfl,fun W hW=>by have hcx:W.cell? ⟨w1.heap.size,1,none⟩=some (.string a1.text):=hW.cell 1;go_simp⟩) hS ?_
     refine AnyE.take (i:=2) (v:=.pointer (some ⟨w1.heap.size,3,none⟩)) rfl (by kernel_rfl) (by kernel_rfl) (by kernel_rfl) (by kernel_rfl) (fun _ _ _ h=>h) (Or.inl ⟨by rfl,fun W _=>by go_simp⟩) hS ?_
     refine AnyE.take (i:=3) (v:=.int .i64 a1.place) rfl (by kernel_rfl) (by kernel_rfl) (by kernel_rfl) (by kernel_rfl) (fun _ _ _ h=>h) (Or.inl ⟨by rfl,fun W hW=>by have hcx:W.cell? ⟨w1.heap.size,3,none⟩=some (.int .i64 a1.place):=hW.cell 3;go_simp⟩) hS ?_
     refine AnyE.take (i:=4) (v:=.pointer (some ⟨E.pb,0,none⟩)) rfl (by kernel_rfl) (by kernel_rfl) (by kernel_rfl) (by kernel_rfl) (fun _ _ _ h=>h) (Or.inl ⟨by rfl,fun W _=>by go_simp⟩) hS ?_
     refine AnyE.one (i:=5) (by kernel_rfl) rfl (by rfl) (fun K hK=>?_)
     go_simp
     refine (zes (HR4.out.drew).st).mono ?_
     intro e w5 hp
     cases hr:zpc l4 with
     | error pc =>
      obtain ⟨p,c⟩:=pc
      obtain ⟨rfl,hk,hcd⟩:=hp.err hr
      have HK:=zh ((HR4.out.drew).kp.trans hk)
      have HP:=zh (show zIb l=.error (p,c) by unfold zIb;exact ((zpa H1.out _)).trans (((zwa HIi.out _ _)).trans (((zwa HIj.out _ _)).trans (((zpa H4.out _)).trans ((zya hr _))))))
      clear hr hp hk
      go_wp2
      exact ⟨rfl,Run.err HK.out HP.out hcd⟩
     | ok q =>
      obtain ⟨a5,l5⟩:=q
      obtain ⟨v5,rfl,hv,hs,hl,hk⟩:=hp.ok hr
      obtain ⟨kv5,rfl,ht⟩:=hv
      have HT5:=zh (ht.weak (HB4.out.drew).lt)
      have huHN5:=Blk.zNb hk (HN4.out.drew)
      have HU5:=zh (ht.mono (S':=fun b=>w.heap.size<b∧w1.heap.size<b) (fun b hb _=>by have:=Blk.zNb hk (HB4.out.drew);omega))
      have HR5:=zh ((HR4.out.drew).call hk hs)
      have hzR5:=HR5.out.size
      have HB5:=zh ((HB4.out.drew).kp hk (by omega))
      have hzHB5:=HB5.out.lt
      have HN5:=zh ((HN4.out.drew).kp hk (by first|omega|(have:=HR0.out.size;simp at *;omega)))
      have hzHN5:=HN5.out.lt
      have HT1_5:=zh ((HT1_4.out.drew).kp hk (fun b hb=>by omega))
      have HL5:=zh hl
      have H5:=zh hr
      clear hr hp hs hl hk ht
      unfold zna
      refine hK.out _ _ (fun _=>HN5.out) ?_
      clear hK K
      refine AnyE.one (i:=6) (by kernel_rfl) rfl (by rfl) (fun K hK=>?_)
      go_simp
      refine hK.out _ _ (fun _=>(HN5.out.alloc _)) ?_
      clear hK K
      refine AnyE.one (i:=7) (by kernel_rfl) rfl (by rfl) (fun K hK=>?_)
      go_simp
      refine hK.out _ _ (fun _=>(HN5.out.alloc _)) ?_
      clear hK K
      have HP:=zh (show zIb l=.ok (T.mk 10 a1.text 0 a1.place [a5],l5) by unfold zIb;exact ((zpa H1.out _)).trans (((zwa HIi.out _ _)).trans (((zwa HIj.out _ _)).trans (((zpa H4.out _)).trans ((zpa H5.out _))))))
      refine AnyE.one (i:=8) (by kernel_rfl) rfl (by rfl) (fun K hK=>?_)
      refine zva 25 (.tmp 2) (.tmp 44) rfl (w.heap.size) (zaa (T.mk 10 a1.text 0 a1.place [a5]) (.slice (some ⟨w5.heap.size,0,none⟩) 1 1)) rfl rfl (HB5.out.alloc _) Tryz.zea rfl (zca _ _ rfl) ?_
      refine hK.out _ _ (fun h=>absurd rfl h) ?_
      clear hK K
      refine AnyE.done (by kernel_rfl) ?_ _
      go_wp2
      exact zkf (cs:=zaa (T.mk 10 a1.text 0 a1.place [a5]) (.slice (some ⟨w5.heap.size,0,none⟩) 1 1)) Tryz.results132 rfl (HB5.out.alloc _) Tryz.underlying25 rfl Tryz.zea rfl (Run.node (HR5.out.alloc _) ((KAt.zrk HT5.out.lo hzHB5).tat _ _ _ _) HP.out (by have:=HL1.out;have:=HL4.out;have:=HL5.out;first|omega|(simp only [List.length_tail] at *;omega)))
theorem zfo {E:Env} {w:World} {l:List Tok} {d:Nat} (h:PSt E w l d) :
  Calls Tryz.prog 128 #[.pointer (some ⟨E.pb,0,none⟩)] w (zMb zTc E w l d (zTa l)):=by
 have HR0:=zh ((Run.start h).alloc (.cells zba.toArray 25))
 have HB0:=zh (Blk.new w zba 25)
 have HL0:=zh (zlf h)
 have hmf:=zbc
 have hlo:=h.plt
 have hlt:=h.tlt
 have hln:=h.len
 clear h
 go_enter Tryz.func128,Tryz.ntmps128
 go_wp2_with fail
 refine (zJb HR0.out.st).mono ?_
 rintro e w1 ⟨rfl,hb⟩
 have HR1:=zh (HR0.out.below hb)
 have hzR1:=HR1.out.size
 have HB1:=zh (HB0.out.kp (Kp.of_below (pb:=E.pb) hb) (by omega))
 have hzHB1:=HB1.out.lt
 clear hb
 unfold zmb
 have fl0:=zjc
 have fl1:=zfc
 have fl3:=zic
 go_wp2_with fail
 refine (zJb HR1.out.st).mono ?_
 rintro e w2 ⟨rfl,hb⟩
 have HR2:=zh (HR1.out.below hb)
 have hzR2:=HR2.out.size
 have HB2:=zh (HB1.out.kp (Kp.of_below (pb:=E.pb) hb) (by omega))
 have hzHB2:=HB2.out.lt
 clear hb
 unfold zmb
 have fl0:=zjc
 have fl1:=zfc
 have fl3:=zic
 by_cases hkd:(hdT l).kind=1
 ·
  have HI:=zh (show ((hdT l).kind == 1)=true by rw [hkd];rfl)
  have hne:(((hdT l).kind:Int) == 1)=true:=by rw [hkd];rfl
  clear hkd
  go_wp2_with fail
  refine (zpp HR2.out.st).mono ?_
  intro e w3 hp
  cases hr:zIb l with
  | error pc =>
   obtain ⟨p,c⟩:=pc
   obtain ⟨rfl,hk,hcd⟩:=hp.err hr
   have HK:=zh (HR2.out.kp.trans hk)
   have HP:=zh (show zTa l=.error (p,c) by unfold zTa;exact ((zFa HI.out _ _)).trans (hr))
   clear hr hp hk
   go_wp2
   exact ⟨rfl,Run.err HK.out HP.out hcd⟩
  | ok q =>
   obtain ⟨a3,l3⟩:=q
   obtain ⟨v3,rfl,hv,hs,hl,hk⟩:=hp.ok hr
   obtain ⟨kv3,rfl,ht⟩:=hv
   have HT3:=zh (ht.weak HB2.out.lt)
   have HR3:=zh (HR2.out.call hk hs)
   have hzR3:=HR3.out.size
   have HB3:=zh (HB2.out.kp hk (by omega))
   have hzHB3:=HB3.out.lt
   have HL3:=zh hl
   have H3:=zh hr
   clear hr hp hs hl hk ht
   unfold zna
   have HP:=zh (show zTa l=.ok (a3,l3) by unfold zTa;exact ((zFa HI.out _ _)).trans (H3.out))
   go_wp2_with ((with_reducible refine zla 25 (.tmp 2) ?_);refine zda rfl 25 (.tmp 2) (.tmp 13) rfl w.heap.size (zaa (a3) (kv3)) rfl rfl HB3.out Tryz.zea rfl (zca _ _ HT3.out.kat.one) ?_)
   exact zma (cs:=zaa (a3) (kv3)) Tryz.results128 rfl HB3.out Tryz.underlying25 rfl Tryz.zea rfl (Run.node HR3.out HT3.out.lo HP.out (by have:=HL3.out;first|omega|(simp only [List.length_tail] at *;omega)))
 ·
  have HI:=zh (show ((hdT l).kind == 1)=false from beq_eq_false_iff_ne.2 hkd)
  have hne:(((hdT l).kind:Int) == 1)=false:=by simp;omega
  clear hkd
  cases ha:isT (hdT l) (bs [102,114,101,101]) with
  | true =>
   have HIa:=zh ha
   clear ha
   go_wp2_with fail
   refine (zLa HR2.out.st HIa.out (by decide)).mono ?_
   rintro e w3 ⟨rfl,hs,hk⟩
   have HR3:=zh (HR2.out.call hk hs)
   have hzR3:=HR3.out.size
   have HB3:=zh (HB2.out.kp hk (by omega))
   have hzHB3:=HB3.out.lt
   clear hs hk
   go_wp2_with fail
   refine (name_any HR3.out.st).mono ?_
   intro e w4 hp
   cases hr:zKb l.tail with
   | error pc =>
    obtain ⟨p,c⟩:=pc
    obtain ⟨rfl,hk,hcd⟩:=hp.err hr
    have HK:=zh (HR3.out.kp.trans hk)
    have HP:=zh (show zTa l=.error (p,c) by unfold zTa;exact ((zwa HI.out _ _)).trans (((zFa HIa.out _ _)).trans ((zya hr _))))
    clear hr hp hk
    go_wp2
    exact ⟨rfl,Run.err HK.out HP.out hcd⟩
   | ok q =>
    obtain ⟨a4,l4⟩:=q
    obtain ⟨v4,rfl,hv,hs,hl,hk⟩:=hp.ok hr
    obtain rfl:v4=.string a4:=hv
    have HR4:=zh (HR3.out.call hk hs)
    have hzR4:=HR4.out.size
    have HB4:=zh (HB3.out.kp hk (by omega))
    have hzHB4:=HB4.out.lt
    have HL4:=zh hl
    have H4:=zh hr
    clear hr hp hs hl hk
    have HP:=zh (show zTa l=.ok (T.mk 12 a4 0 (hdT l).place [],l4) by unfold zTa;exact ((zwa HI.out _ _)).trans (((zFa HIa.out _ _)).trans ((zpa H4.out _))))
    go_wp2_with ((with_reducible refine zla 25 (.tmp 2) ?_);refine zda rfl 25 (.tmp 2) (.tmp 20) rfl w.heap.size (zaa (T.mk 12 a4 0 (hdT l).place []) (.slice none 0 0)) rfl rfl HB4.out Tryz.zea rfl (zca _ _ rfl) ?_)
    exact zma (cs:=zaa (T.mk 12 a4 0 (hdT l).place []) (.slice none 0 0)) Tryz.results128 rfl HB4.out Tryz.underlying25 rfl Tryz.zea rfl (Run.node HR4.out ((KAt.nil _ _ _).tat _ _ _ _) HP.out (by have:=HL0.out;have:=HL4.out;first|omega|(simp only [List.length_tail] at *;omega)))
  | false =>
   have HIa:=zh ha
   clear ha
   go_wp2_with fail
   refine (zSa HR2.out.st HIa.out).mono ?_
   rintro e w3 ⟨rfl,hb⟩
   have HR3:=zh (HR2.out.below hb)
   have hzR3:=HR3.out.size
   have HB3:=zh (HB2.out.kp (Kp.of_below (pb:=E.pb) hb) (by omega))
   have hzHB3:=HB3.out.lt
   clear hb
   cases hb:isT (hdT l) (bs [108,111,99,107]) with
   | true =>
    have HIb:=zh hb
    clear hb
    go_wp2_with fail
    refine (zLa HR3.out.st HIb.out (by decide)).mono ?_
    rintro e w4 ⟨rfl,hs,hk⟩
    have HR4:=zh (HR3.out.call hk hs)
    have hzR4:=HR4.out.size
    have HB4:=zh (HB3.out.kp hk (by omega))
    have hzHB4:=HB4.out.lt
    clear hs hk
    go_wp2_with fail
    refine (zWf HR4.out.st 13 _).mono ?_
    intro e w5 hp
    cases hr:zue 13 (hdT l).place l.tail with
    | error pc =>
     obtain ⟨p,c⟩:=pc
     obtain ⟨rfl,hk,hcd⟩:=hp.err hr
     have HK:=zh (HR4.out.kp.trans hk)
     have HP:=zh (show zTa l=.error (p,c) by unfold zTa;exact ((zwa HI.out _ _)).trans (((zwa HIa.out _ _)).trans (((zFa HIb.out _ _)).trans (hr))))
     clear hr hp hk
     go_wp2
     exact ⟨rfl,Run.err HK.out HP.out hcd⟩
    | ok q =>
     obtain ⟨a5,l5⟩:=q
     obtain ⟨v5,rfl,hv,hs,hl,hk⟩:=hp.ok hr
     obtain ⟨kv5,rfl,ht⟩:=hv
     have HT5:=zh (ht.weak HB4.out.lt)
     have HR5:=zh (HR4.out.call hk hs)
     have hzR5:=HR5.out.size
     have HB5:=zh (HB4.out.kp hk (by omega))
     have hzHB5:=HB5.out.lt
     have HL5:=zh hl
     have H5:=zh hr
     clear hr hp hs hl hk ht
     unfold zna
     have HP:=zh (show zTa l=.ok (a5,l5) by unfold zTa;exact ((zwa HI.out _ _)).trans (((zwa HIa.out _ _)).trans (((zFa HIb.out _ _)).trans (H5.out))))
     go_wp2_with ((with_reducible refine zla 25 (.tmp 2) ?_);refine zda rfl 25 (.tmp 2) (.tmp 26) rfl w.heap.size (zaa (a5) (kv5)) rfl rfl HB5.out Tryz.zea rfl (zca _ _ HT5.out.kat.one) ?_)
     exact zma (cs:=zaa (a5) (kv5)) Tryz.results128 rfl HB5.out Tryz.underlying25 rfl Tryz.zea rfl (Run.node HR5.out HT5.out.lo HP.out (by have:=HL0.out;have:=HL5.out;first|omega|(simp only [List.length_tail] at *;omega)))
   | false =>
    have HIb:=zh hb
    clear hb
    go_wp2_with fail
    refine (zSa HR3.out.st HIb.out).mono ?_
    rintro e w4 ⟨rfl,hb⟩
    have HR4:=zh (HR3.out.below hb)
    have hzR4:=HR4.out.size
    have HB4:=zh (HB3.out.kp (Kp.of_below (pb:=E.pb) hb) (by omega))
    have hzHB4:=HB4.out.lt
    clear hb
    cases hc:isT (hdT l) (bs [117,110,108,111,99,107]) with
    | true =>
     have HIc:=zh hc
     clear hc
     go_wp2_with fail
     refine (zLa HR4.out.st HIc.out (by decide)).mono ?_
     rintro e w5 ⟨rfl,hs,hk⟩
     have HR5:=zh (HR4.out.call hk hs)
     have hzR5:=HR5.out.size
     have HB5:=zh (HB4.out.kp hk (by omega))
     have hzHB5:=HB5.out.lt
     clear hs hk
     go_wp2_with fail
     refine (zWf HR5.out.st 14 _).mono ?_
     intro e w6 hp
     cases hr:zue 14 (hdT l).place l.tail with
     | error pc =>
      obtain ⟨p,c⟩:=pc
      obtain ⟨rfl,hk,hcd⟩:=hp.err hr
      have HK:=zh (HR5.out.kp.trans hk)
      have HP:=zh (show zTa l=.error (p,c) by unfold zTa;exact ((zwa HI.out _ _)).trans (((zwa HIa.out _ _)).trans (((zwa HIb.out _ _)).trans (((zFa HIc.out _ _)).trans (hr)))))
      clear hr hp hk
      go_wp2
      exact ⟨rfl,Run.err HK.out HP.out hcd⟩
     | ok q =>
      obtain ⟨a6,l6⟩:=q
      obtain ⟨v6,rfl,hv,hs,hl,hk⟩:=hp.ok hr
      obtain ⟨kv6,rfl,ht⟩:=hv
      have HT6:=zh (ht.weak HB5.out.lt)
      have HR6:=zh (HR5.out.call hk hs)
      have hzR6:=HR6.out.size
      have HB6:=zh (HB5.out.kp hk (by omega))
      have hzHB6:=HB6.out.lt
      have HL6:=zh hl
      have H6:=zh hr
      clear hr hp hs hl hk ht
      unfold zna
      have HP:=zh (show zTa l=.ok (a6,l6) by unfold zTa;exact ((zwa HI.out _ _)).trans (((zwa HIa.out _ _)).trans (((zwa HIb.out _ _)).trans (((zFa HIc.out _ _)).trans (H6.out)))))
      go_wp2_with ((with_reducible refine zla 25 (.tmp 2) ?_);refine zda rfl 25 (.tmp 2) (.tmp 32) rfl w.heap.size (zaa (a6) (kv6)) rfl rfl HB6.out Tryz.zea rfl (zca _ _ HT6.out.kat.one) ?_)
      exact zma (cs:=zaa (a6) (kv6)) Tryz.results128 rfl HB6.out Tryz.underlying25 rfl Tryz.zea rfl (Run.node HR6.out HT6.out.lo HP.out (by have:=HL0.out;have:=HL6.out;first|omega|(simp only [List.length_tail] at *;omega)))
    | false =>
     have HIc:=zh hc
     clear hc
     go_wp2_with fail
     refine (zSa HR4.out.st HIc.out).mono ?_
     rintro e w5 ⟨rfl,hb⟩
     have HR5:=zh (HR4.out.below hb)
     have hzR5:=HR5.out.size
     have HB5:=zh (HB4.out.kp (Kp.of_below (pb:=E.pb) hb) (by omega))
     have hzHB5:=HB5.out.lt
     clear hb
     cases hd:isT (hdT l) (bs [114,101,116,117,114,110]) with
     | true =>
      have HId:=zh hd
      clear hd
      go_wp2_with fail
      refine (zLa HR5.out.st HId.out (by decide)).mono ?_
      rintro e w6 ⟨rfl,hs,hk⟩
      have HR6:=zh (HR5.out.call hk hs)
      have hzR6:=HR6.out.size
      have HB6:=zh (HB5.out.kp hk (by omega))
      have hzHB6:=HB6.out.lt
      clear hs hk
      go_wp2_with fail
      refine (Calls.weak (zGh HR6.out.st _) HL0.out).mono ?_
      intro e w7 hp
      cases hr:zMc (hdT l).place l.tail with
      | error pc =>
       obtain ⟨p,c⟩:=pc
       obtain ⟨rfl,hk,hcd⟩:=hp.err hr
       have HK:=zh (HR6.out.kp.trans hk)
       have HP:=zh (show zTa l=.error (p,c) by unfold zTa;exact ((zwa HI.out _ _)).trans (((zwa HIa.out _ _)).trans (((zwa HIb.out _ _)).trans (((zwa HIc.out _ _)).trans (((zFa HId.out _ _)).trans (hr))))))
       clear hr hp hk
       go_wp2
       exact ⟨rfl,Run.err HK.out HP.out hcd⟩
      | ok q =>
       obtain ⟨a7,l7⟩:=q
       obtain ⟨v7,rfl,hv,hs,hl,hk⟩:=hp.ok hr
       obtain ⟨kv7,rfl,ht⟩:=hv
       have HT7:=zh (ht.weak HB6.out.lt)
       have HR7:=zh (HR6.out.call hk hs)
       have hzR7:=HR7.out.size
       have HB7:=zh (HB6.out.kp hk (by omega))
       have hzHB7:=HB7.out.lt
       have HL7:=zh hl
       have H7:=zh hr
       clear hr hp hs hl hk ht
       unfold zna
       have HP:=zh (show zTa l=.ok (a7,l7) by unfold zTa;exact ((zwa HI.out _ _)).trans (((zwa HIa.out _ _)).trans (((zwa HIb.out _ _)).trans (((zwa HIc.out _ _)).trans (((zFa HId.out _ _)).trans (H7.out))))))
       go_wp2_with ((with_reducible refine zla 25 (.tmp 2) ?_);refine zda rfl 25 (.tmp 2) (.tmp 38) rfl w.heap.size (zaa (a7) (kv7)) rfl rfl HB7.out Tryz.zea rfl (zca _ _ HT7.out.kat.one) ?_)
       exact zma (cs:=zaa (a7) (kv7)) Tryz.results128 rfl HB7.out Tryz.underlying25 rfl Tryz.zea rfl (Run.node HR7.out HT7.out.lo HP.out (by have:=HL7.out;first|omega|(simp only [List.length_tail] at *;omega)))
     | false =>
      have HId:=zh hd
      clear hd
      go_wp2_with fail
      refine (zSa HR5.out.st HId.out).mono ?_
      rintro e w6 ⟨rfl,hb⟩
      have HR6:=zh (HR5.out.below hb)
      have hzR6:=HR6.out.size
      have HB6:=zh (HB5.out.kp (Kp.of_below (pb:=E.pb) hb) (by omega))
      have hzHB6:=HB6.out.lt
      clear hb
      cases he:isT (hdT l) (bs [97,98,111,114,116]) with
      | true =>
       have HIe:=zh he
       clear he
       go_wp2_with fail
       refine (zLa HR6.out.st HIe.out (by decide)).mono ?_
       rintro e w7 ⟨rfl,hs,hk⟩
       have HR7:=zh (HR6.out.call hk hs)
       have hzR7:=HR7.out.size
       have HB7:=zh (HB6.out.kp hk (by omega))
       have hzHB7:=HB7.out.lt
       clear hs hk
       have HP:=zh (show zTa l=.ok (T.mk 18 e0 0 (hdT l).place [],l.tail) by unfold zTa;exact ((zwa HI.out _ _)).trans (((zwa HIa.out _ _)).trans (((zwa HIb.out _ _)).trans (((zwa HIc.out _ _)).trans (((zwa HId.out _ _)).trans ((zFa HIe.out _ _)))))))
       go_wp2_with ((with_reducible refine zla 25 (.tmp 2) ?_);refine zda rfl 25 (.tmp 2) (.tmp 43) rfl w.heap.size (zaa (T.mk 18 e0 0 (hdT l).place []) (.slice none 0 0)) rfl rfl HB7.out Tryz.zea rfl (zca _ _ rfl) ?_)
       exact zma (cs:=zaa (T.mk 18 e0 0 (hdT l).place []) (.slice none 0 0)) Tryz.results128 rfl HB7.out Tryz.underlying25 rfl Tryz.zea rfl (Run.node HR7.out ((KAt.nil _ _ _).tat _ _ _ _) HP.out (by have:=HL0.out;first|omega|(simp only [List.length_tail] at *;omega)))
      | false =>
       have HIe:=zh he
       clear he
       go_wp2_with fail
       refine (zSa HR6.out.st HIe.out).mono ?_
       rintro e w7 ⟨rfl,hb⟩
       have HR7:=zh (HR6.out.below hb)
       have hzR7:=HR7.out.size
       have HB7:=zh (HB6.out.kp (Kp.of_below (pb:=E.pb) hb) (by omega))
       have hzHB7:=HB7.out.lt
       clear hb
       cases hf:isT (hdT l) (bs [102,111,114,107]) with
       | true =>
        have HIf:=zh hf
        clear hf
        go_wp2_with fail
        refine (zLa HR7.out.st HIf.out (by decide)).mono ?_
        rintro e w8 ⟨rfl,hs,hk⟩
        have HR8:=zh (HR7.out.call hk hs)
        have hzR8:=HR8.out.size
        have HB8:=zh (HB7.out.kp hk (by omega))
        have hzHB8:=HB8.out.lt
        clear hs hk
        go_wp2_with fail
        refine (name_any HR8.out.st).mono ?_
        intro e w9 hp
        cases hr:zKb l.tail with
        | error pc =>
         obtain ⟨p,c⟩:=pc
         obtain ⟨rfl,hk,hcd⟩:=hp.err hr
         have HK:=zh (HR8.out.kp.trans hk)
         have HP:=zh (show zTa l=.error (p,c) by unfold zTa;exact ((zwa HI.out _ _)).trans (((zwa HIa.out _ _)).trans (((zwa HIb.out _ _)).trans (((zwa HIc.out _ _)).trans (((zwa HId.out _ _)).trans (((zwa HIe.out _ _)).trans (((zFa HIf.out _ _)).trans ((zya hr _)))))))))
         clear hr hp hk
         go_wp2
         exact ⟨rfl,Run.err HK.out HP.out hcd⟩
        | ok q =>
         obtain ⟨a9,l9⟩:=q
         obtain ⟨v9,rfl,hv,hs,hl,hk⟩:=hp.ok hr
         obtain rfl:v9=.string a9:=hv
         have HR9:=zh (HR8.out.call hk hs)
         have hzR9:=HR9.out.size
         have HB9:=zh (HB8.out.kp hk (by omega))
         have hzHB9:=HB9.out.lt
         have HL9:=zh hl
         have H9:=zh hr
         clear hr hp hs hl hk
         go_wp2_with fail
         refine (zCf HR9.out.st (zJm E d)).mono ?_
         intro e w10 hp
         cases hr:zfb zXa l9 with
         | error pc =>
          obtain ⟨p,c⟩:=pc
          obtain ⟨rfl,hk,hcd⟩:=hp.err hr
          have HK:=zh (HR9.out.kp.trans hk)
          have HP:=zh (show zTa l=.error (p,c) by unfold zTa;exact ((zwa HI.out _ _)).trans (((zwa HIa.out _ _)).trans (((zwa HIb.out _ _)).trans (((zwa HIc.out _ _)).trans (((zwa HId.out _ _)).trans (((zwa HIe.out _ _)).trans (((zFa HIf.out _ _)).trans (((zpa H9.out _)).trans ((zya hr _))))))))))
          clear hr hp hk
          go_wp2
          exact ⟨rfl,Run.err HK.out HP.out hcd⟩
         | ok q =>
          obtain ⟨a10,l10⟩:=q
          obtain ⟨v10,rfl,hv,hs,hl,hk⟩:=hp.ok hr
          have HT10:=zh (hv.1.weak HB9.out.lt)
          have HC10:=zh hv.2
          obtain ⟨sa10,sn10,sc10,rfl⟩:=HT10.out.slice
          have HR10:=zh (HR9.out.call hk hs)
          have hzR10:=HR10.out.size
          have HB10:=zh (HB9.out.kp hk (by omega))
          have hzHB10:=HB10.out.lt
          have HL10:=zh hl
          have H10:=zh hr
          clear hr hp hs hl hk hv
          have HP:=zh (show zTa l=.ok (T.mk 19 a9 0 (hdT l).place a10,l10) by unfold zTa;exact ((zwa HI.out _ _)).trans (((zwa HIa.out _ _)).trans (((zwa HIb.out _ _)).trans (((zwa HIc.out _ _)).trans (((zwa HId.out _ _)).trans (((zwa HIe.out _ _)).trans (((zFa HIf.out _ _)).trans (((zpa H9.out _)).trans ((zpa H10.out _))))))))))
          go_wp2_with ((with_reducible refine zla 25 (.tmp 2) ?_);refine zda rfl 25 (.tmp 2) (.tmp 54) rfl w.heap.size (zaa (T.mk 19 a9 0 (hdT l).place a10) (.slice sa10 sn10 sc10)) rfl rfl HB10.out Tryz.zea rfl (zca _ _ rfl) ?_)
          exact zma (cs:=zaa (T.mk 19 a9 0 (hdT l).place a10) (.slice sa10 sn10 sc10)) Tryz.results128 rfl HB10.out Tryz.underlying25 rfl Tryz.zea rfl (Run.node HR10.out (HT10.out.lo.tat _ _ _ _) HP.out (by have:=HL0.out;have:=HL9.out;have:=HL10.out;first|omega|(simp only [List.length_tail] at *;omega)))
       | false =>
        have HIf:=zh hf
        clear hf
        go_wp2_with fail
        refine (zSa HR7.out.st HIf.out).mono ?_
        rintro e w8 ⟨rfl,hb⟩
        have HR8:=zh (HR7.out.below hb)
        have hzR8:=HR8.out.size
        have HB8:=zh (HB7.out.kp (Kp.of_below (pb:=E.pb) hb) (by omega))
        have hzHB8:=HB8.out.lt
        clear hb
        go_wp2_with fail
        refine (zef HR8.out.st).mono ?_
        rintro e w9 ⟨rfl,hb⟩
        have HR9:=zh (HR8.out.below hb)
        have hzR9:=HR9.out.size
        have HB9:=zh (HB8.out.kp (Kp.of_below (pb:=E.pb) hb) (by omega))
        have hzHB9:=HB9.out.lt
        clear hb
        have HP:=zh (show zTa l=.error ((hdT l).place,20) by unfold zTa;exact ((zwa HI.out _ _)).trans (((zwa HIa.out _ _)).trans (((zwa HIb.out _ _)).trans (((zwa HIc.out _ _)).trans (((zwa HId.out _ _)).trans (((zwa HIe.out _ _)).trans ((zwa HIf.out _ _))))))))
        go_wp2
        exact ⟨rfl,Run.err HR9.out.kp HP.out (.inl rfl)⟩
end Go.Proofs.YtpjnpffcnmgdcaaGreatDoor
