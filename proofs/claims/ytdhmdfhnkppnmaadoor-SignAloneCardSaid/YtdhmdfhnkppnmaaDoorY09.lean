/- The contracts of the parser's lockBehind, returnBehind, named, simple. -/
import Derived.Test.YtdhmdfhnkppnmaaDoorY08
namespace Go.Proofs.YtdhmdfhnkppnmaaDoor
set_option maxRecDepth 100000
set_option maxHeartbeats 1000000
open Go.RowKit
theorem zte {E:Env} {w:World} {l:List Tok} {d:Nat} (h:PSt E w l d) (k:Int) (pl:Nat) :
  Calls Tryd.prog 93 #[.pointer (some ⟨E.pb,0,none⟩),.int .i64 k,.int .i64 pl] w (zbb zNb E w l d (zLd k pl l)):=by
 have HR0:=zh ((Run.start h).alloc (.cells zba.toArray 25))
 have HB0:=zh (Blk.new w zba 25)
 have hlo:=h.plt
 have hlt:=h.tlt
 have hln:=h.len
 clear h
 go_enter Tryd.func93,Tryd.ntmps93
 go_wp2_with fail
 refine (name_any HR0.out.st).mono ?_
 intro e w1 hp
 cases hr:zac l with
 | error pc =>
  obtain ⟨p,c⟩:=pc
  obtain ⟨rfl,hk,hcd⟩:=hp.err hr
  have HK:=zh (HR0.out.kp.trans hk)
  have HP:=zh (show zLd k pl l=.error (p,c) by unfold zLd;exact (zpa hr _))
  clear hr hp hk
  go_wp2
  exact ⟨rfl,Run.err HK.out HP.out hcd⟩
 | ok q =>
  obtain ⟨a1,l1⟩:=q
  obtain ⟨v1,rfl,hv,hs,hl,hk⟩:=hp.ok hr
  obtain rfl:v1=.string a1:=hv
  have HR1:=zh (HR0.out.call hk hs)
  have hzR1:=HR1.out.size
  have HB1:=zh (HB0.out.kp hk (by omega))
  have hzHB1:=HB1.out.lt
  have HL1:=zh hl
  have H1:=zh hr
  clear hr hp hs hl hk
  go_wp2_with fail
  refine (zLa (HR1.out.alloc _).st [bs [91]] (by decide) (by decide) (by simp) rfl rfl).mono ?_
  intro e w2 hp
  cases hr:zxa [bs [91]] l1 with
  | error pc =>
   obtain ⟨p,c⟩:=pc
   obtain ⟨rfl,hk,hcd⟩:=hp.err hr
   have HK:=zh ((HR1.out.alloc _).kp.trans hk)
   have HP:=zh (show zLd k pl l=.error (p,c) by unfold zLd;exact ((zia H1.out _)).trans ((zpa hr _)))
   clear hr hp hk
   go_wp2
   exact ⟨rfl,Run.err HK.out HP.out hcd⟩
  | ok q =>
   obtain ⟨a2,l2⟩:=q
   obtain ⟨v2,rfl,hv,hs,hl,hk⟩:=hp.ok hr
   obtain ⟨rfl,hto⟩:=hv
   have HR2:=zh ((HR1.out.alloc _).call hk hs)
   have hzR2:=HR2.out.size
   have HB2:=zh ((HB1.out.alloc _).kp hk (by omega))
   have hzHB2:=HB2.out.lt
   have HN2:=zh ((Blk.new w1 (zaa (T.mk k a1 0 pl []) (.slice none 0 0)) 25).kp hk (by first|omega|(have:=HR0.out.size;simp at *;omega)))
   have hzHN2:=HN2.out.lt
   have HL2:=zh hl
   have H2:=zh hr
   clear hr hp hs hl hk hto
   unfold zsb
   go_wp2_with fail
   refine (zRc HR2.out.st).mono ?_
   intro e w3 hp
   cases hr:zvb l2 with
   | error pc =>
    obtain ⟨p,c⟩:=pc
    obtain ⟨rfl,hk,hcd⟩:=hp.err hr
    have HK:=zh (HR2.out.kp.trans hk)
    have HP:=zh (show zLd k pl l=.error (p,c) by unfold zLd;exact ((zia H1.out _)).trans (((zia H2.out _)).trans ((zpa hr _))))
    clear hr hp hk
    go_wp2
    exact ⟨rfl,Run.err HK.out HP.out hcd⟩
   | ok q =>
    obtain ⟨a3,l3⟩:=q
    obtain ⟨v3,rfl,hv,hs,hl,hk⟩:=hp.ok hr
    obtain ⟨rfl,hn0,hn1⟩:=hv
    have HR3:=zh (HR2.out.call hk hs)
    have hzR3:=HR3.out.size
    have HB3:=zh (HB2.out.kp hk (by omega))
    have hzHB3:=HB3.out.lt
    have HN3:=zh (HN2.out.kp hk (by first|omega|(have:=HR0.out.size;simp at *;omega)))
    have hzHN3:=HN3.out.lt
    have HL3:=zh hl
    have H3:=zh hr
    clear hr hp hs hl hk
    have hcell:_root_.Go.World.cell? _ ⟨w1.heap.size,2,none⟩=some (.int .i64 0):=HN3.out.cell 2
    have hfroz:=HN3.out.frozen 2
    go_wp2_with fail
    refine (zLa (HR3.out.setCell (a:=⟨w1.heap.size,2,none⟩) (by show w.heap.size≤w1.heap.size;omega) _).st [bs [93]] (by decide) (by decide) (by simp) rfl rfl).mono ?_
    intro e w4 hp
    cases hr:zxa [bs [93]] l3 with
    | error pc =>
     obtain ⟨p,c⟩:=pc
     obtain ⟨rfl,hk,hcd⟩:=hp.err hr
     have HK:=zh ((HR3.out.setCell (a:=⟨w1.heap.size,2,none⟩) (by show w.heap.size≤w1.heap.size;omega) _).kp.trans hk)
     have HP:=zh (show zLd k pl l=.error (p,c) by unfold zLd;exact ((zia H1.out _)).trans (((zia H2.out _)).trans (((zia H3.out _)).trans ((zpa hr _)))))
     clear hr hp hk
     go_wp2
     exact ⟨rfl,Run.err HK.out HP.out hcd⟩
    | ok q =>
     obtain ⟨a4,l4⟩:=q
     obtain ⟨v4,rfl,hv,hs,hl,hk⟩:=hp.ok hr
     obtain ⟨rfl,hto⟩:=hv
     have HR4:=zh ((HR3.out.setCell (a:=⟨w1.heap.size,2,none⟩) (by show w.heap.size≤w1.heap.size;omega) _).call hk hs)
     have hzR4:=HR4.out.size
     have HB4:=zh ((HB3.out.setOther ⟨w1.heap.size,2,none⟩ _ (by show _≠w1.heap.size;omega)).kp hk (by omega))
     have hzHB4:=HB4.out.lt
     have HN4:=zh ((HN3.out.zTc 2 (.int .i64 a3)).kp hk (by first|omega|(have:=HR0.out.size;simp at *;omega)))
     have hzHN4:=HN4.out.lt
     have HL4:=zh hl
     have H4:=zh hr
     clear hr hp hs hl hk hto
     unfold zsb
     have HP:=zh (show zLd k pl l=.ok (T.mk k a1 a3 pl [],l4) by unfold zLd;exact ((zia H1.out _)).trans (((zia H2.out _)).trans (((zia H3.out _)).trans ((zia H4.out _)))))
     go_wp2_with (first|((with_reducible refine zva 25 (.tmp 7) ?_);refine zfa rfl 25 (.tmp 7) rfl w1.heap.size (zaa (T.mk k a1 a3 pl []) (.slice none 0 0)) rfl (show Blk _ w1.heap.size (zaa (T.mk k a1 a3 pl []) (.slice none 0 0)) 25 from HN4.out) Tryd.underlying25 rfl Tryd.zca ?_)|((with_reducible refine zra 25 (.tmp 6) ?_);refine zea rfl 25 (.tmp 6) (.tmp 22) rfl w.heap.size (zaa (T.mk k a1 a3 pl []) (.slice none 0 0)) rfl rfl HB4.out Tryd.zca rfl (zda _ _ rfl) ?_))
     exact zua (cs:=zaa (T.mk k a1 a3 pl []) (.slice none 0 0)) Tryd.results93 rfl HB4.out Tryd.underlying25 rfl Tryd.zca rfl (Run.node HR4.out ((KAt.nil _ _ _).tat _ _ _ _) HP.out (by have:=HL1.out;have:=HL2.out;have:=HL3.out;have:=HL4.out;first|omega|(simp only [List.length_tail] at *;omega)))
theorem zTf {E:Env} {w:World} {l:List Tok} {d:Nat} (h:PSt E w l d) (pl:Nat) :
  Calls Tryd.prog 94 #[.pointer (some ⟨E.pb,0,none⟩),.int .i64 pl] w (zJf zNb E w l d (zqc pl l)):=by
 have HR0:=zh ((Run.start h).alloc (.cells zba.toArray 25))
 have HB0:=zh (Blk.new w zba 25)
 have hlo:=h.plt
 have hlt:=h.tlt
 have hln:=h.len
 clear h
 go_enter Tryd.func94,Tryd.ntmps94
 cases hi:isT (hdT l) (bs [59]) with
 | true =>
  have HIi:=zh hi
  clear hi
  go_wp2_with fail
  refine (znd (HR0.out.alloc _).st (bs [59])).mono ?_
  rintro e w1 ⟨rfl,hb⟩
  rw [HIi.out]
  have HR1:=zh ((HR0.out.alloc _).below hb)
  have hzR1:=HR1.out.size
  have HB1:=zh ((HB0.out.alloc _).kp (Kp.of_below (pb:=E.pb) hb) (by omega))
  have hzHB1:=HB1.out.lt
  have HN1:=zh ((Blk.zIe w (.cells zba.toArray 25) (zaa (T.mk 17 e0 0 pl []) (.slice none 0 0)) 25).kp (Kp.of_below (pb:=E.pb) hb) (by first|omega|(have:=HR0.out.size;simp at *;omega)))
  have hzHN1:=HN1.out.lt
  clear hb
  have HP:=zh (show zqc pl l=.ok (T.mk 17 e0 0 pl [],l) by unfold zqc;exact (zya HIi.out _ _))
  go_wp2_with (first|((with_reducible refine zva 25 (.tmp 5) ?_);refine zfa rfl 25 (.tmp 5) rfl (w.heap.size+1) (zaa (T.mk 17 e0 0 pl []) (.slice none 0 0)) rfl (show Blk _ (w.heap.size+1) (zaa (T.mk 17 e0 0 pl []) (.slice none 0 0)) 25 from HN1.out) Tryd.underlying25 rfl Tryd.zca ?_)|((with_reducible refine zra 25 (.tmp 4) ?_);refine zea rfl 25 (.tmp 4) (.tmp 15) rfl w.heap.size (zaa (T.mk 17 e0 0 pl []) (.slice none 0 0)) rfl rfl HB1.out Tryd.zca rfl (zda _ _ rfl) ?_))
  exact zua (cs:=zaa (T.mk 17 e0 0 pl []) (.slice none 0 0)) Tryd.results94 rfl HB1.out Tryd.underlying25 rfl Tryd.zca rfl (Run.zqo HR1.out ((KAt.nil _ _ _).tat _ _ _ _) HP.out (by  first|omega|(simp only [List.length_tail] at *;omega)))
 | false =>
  have HIi:=zh hi
  clear hi
  go_wp2_with fail
  refine (znd (HR0.out.alloc _).st (bs [59])).mono ?_
  rintro e w1 ⟨rfl,hb⟩
  rw [HIi.out]
  have HR1:=zh ((HR0.out.alloc _).below hb)
  have hzR1:=HR1.out.size
  have HB1:=zh ((HB0.out.alloc _).kp (Kp.of_below (pb:=E.pb) hb) (by omega))
  have hzHB1:=HB1.out.lt
  have HN1:=zh ((Blk.zIe w (.cells zba.toArray 25) (zaa (T.mk 17 e0 0 pl []) (.slice none 0 0)) 25).kp (Kp.of_below (pb:=E.pb) hb) (by first|omega|(have:=HR0.out.size;simp at *;omega)))
  have hzHN1:=HN1.out.lt
  clear hb
  go_wp2_with fail
  refine (zoe HR1.out.st).mono ?_
  intro e w2 hp
  cases hr:zKb l with
  | error pc =>
   obtain ⟨p,c⟩:=pc
   obtain ⟨rfl,hk,hcd⟩:=hp.err hr
   have HK:=zh (HR1.out.kp.trans hk)
   have HP:=zh (show zqc pl l=.error (p,c) by unfold zqc;exact ((zja HIi.out _ _)).trans ((zpa hr _)))
   clear hr hp hk
   go_wp2
   exact ⟨rfl,Run.errE HK.out HP.out hcd⟩
  | ok q =>
   obtain ⟨a2,l2⟩:=q
   obtain ⟨v2,rfl,hv,hs,hl,hk⟩:=hp.ok hr
   obtain ⟨kv2,rfl,ht⟩:=hv
   have HT2:=zh (ht.weak HB1.out.lt)
   have huHN2:=Blk.zcb hk HN1.out
   have HU2:=zh (ht.mono (S':=fun b=>w.heap.size<b∧(w.heap.size+1)<b) (fun b hb _=>by have:=Blk.zcb hk HB1.out;omega))
   have HR2:=zh (HR1.out.call hk hs)
   have hzR2:=HR2.out.size
   have HB2:=zh (HB1.out.kp hk (by omega))
   have hzHB2:=HB2.out.lt
   have HN2:=zh (HN1.out.kp hk (by first|omega|(have:=HR0.out.size;simp at *;omega)))
   have hzHN2:=HN2.out.lt
   have HL2:=zh hl
   have H2:=zh hr
   clear hr hp hs hl hk ht
   unfold zma
   have hcell:_root_.Go.World.cell? _ ⟨(w.heap.size+1),4,none⟩=some (.slice none 0 0):=HN2.out.cell 4
   have hfroz:=HN2.out.frozen 4
   have HQ:=zh (KAt.ztl (e:=25) (w:=w2) (t:=a2) (v:=kv2) HU2.out ⟨(w.heap.size+1),4,none⟩ (.slice (some ⟨w2.heap.size,0,none⟩) 1 1) (fun b hb=>by show _≠(w.heap.size+1);omega) ⟨by omega,by omega⟩)
   have HP:=zh (show zqc pl l=.ok (T.mk 17 e0 0 pl [a2],l2) by unfold zqc;exact ((zja HIi.out _ _)).trans ((zia H2.out _)))
   go_wp2_with (first|((with_reducible refine zva 25 (.tmp 5) ?_);refine zfa rfl 25 (.tmp 5) rfl (w.heap.size+1) (zaa (T.mk 17 e0 0 pl [a2]) (.slice (some ⟨w2.heap.size,0,none⟩) 1 1)) rfl (show Blk _ (w.heap.size+1) (zaa (T.mk 17 e0 0 pl [a2]) (.slice (some ⟨w2.heap.size,0,none⟩) 1 1)) 25 from ((HN2.out.zTc 4 (.slice (some ⟨w2.heap.size,0,none⟩) 1 1)).alloc _)) Tryd.underlying25 rfl Tryd.zca ?_)|((with_reducible refine zra 25 (.tmp 4) ?_);refine zea rfl 25 (.tmp 4) (.tmp 15) rfl w.heap.size (zaa (T.mk 17 e0 0 pl [a2]) (.slice (some ⟨w2.heap.size,0,none⟩) 1 1)) rfl rfl ((HB2.out.setOther ⟨(w.heap.size+1),4,none⟩ _ (by show _≠(w.heap.size+1);omega)).alloc _) Tryd.zca rfl (zda _ _ rfl) ?_))
   exact zua (cs:=zaa (T.mk 17 e0 0 pl [a2]) (.slice (some ⟨w2.heap.size,0,none⟩) 1 1)) Tryd.results94 rfl ((HB2.out.setOther ⟨(w.heap.size+1),4,none⟩ _ (by show _≠(w.heap.size+1);omega)).alloc _) Tryd.underlying25 rfl Tryd.zca rfl (Run.zqo ((HR2.out.setCell (a:=⟨(w.heap.size+1),4,none⟩) (by show w.heap.size≤(w.heap.size+1);omega) _).alloc _) ((HQ.out.mono (fun b hb _=>hb.1)).tat _ _ _ _) HP.out (by have:=HL2.out;first|omega|(simp only [List.length_tail] at *;omega)))
theorem zrl {E:Env} {w:World} {l:List Tok} {d:Nat} (h:PSt E w l d) :
  Calls Tryd.prog 92 #[.pointer (some ⟨E.pb,0,none⟩)] w (zbb zNb E w l d (zwb l)):=by
 have HR0:=zh ((Run.start h).alloc (.cells zba.toArray 25))
 have HB0:=zh (Blk.new w zba 25)
 have hlo:=h.plt
 have hlt:=h.tlt
 have hln:=h.len
 clear h
 go_enter Tryd.func92,Tryd.ntmps92
 go_wp2_with fail
 refine (zjb HR0.out.st).mono ?_
 intro e w1 hp
 cases hr:zCa l with
 | error pc =>
  obtain ⟨p,c⟩:=pc
  obtain ⟨rfl,hk,hcd⟩:=hp.err hr
  have HK:=zh (HR0.out.kp.trans hk)
  have HP:=zh (show zwb l=.error (p,c) by unfold zwb;exact (zpa hr _))
  clear hr hp hk
  go_wp2
  exact ⟨rfl,Run.err HK.out HP.out hcd⟩
 | ok q =>
  obtain ⟨a1,l1⟩:=q
  obtain ⟨v1,rfl,hv,hs,hl,hk⟩:=hp.ok hr
  obtain ⟨kv1,rfl,ht⟩:=hv
  have HT1:=zh (ht.weak HB0.out.lt)
  have HR1:=zh (HR0.out.call hk hs)
  have hzR1:=HR1.out.size
  have HB1:=zh (HB0.out.kp hk (by omega))
  have hzHB1:=HB1.out.lt
  have HL1:=zh hl
  have H1:=zh hr
  clear hr hp hs hl hk ht
  unfold zma
  obtain ⟨sa,sn,sc,rfl⟩:=HT1.out.kat.slice
  go_wp2_with ((with_reducible refine zra 25 (.tmp 3) ?_);refine zga rfl 25 (.tmp 3) (.tmp 6) rfl (zaa (a1) (.slice sa sn sc)) (old:=zba) rfl rfl Tryd.zca rfl (zda _ _ rfl) ?_)
  cases hi:isT (hdT l1) (bs [40]) with
  | true =>
   have HIi:=zh hi
   clear hi
   go_wp2_with fail
   refine (znd (HR1.out.alloc _).st (bs [40])).mono ?_
   rintro e w2 ⟨rfl,hb⟩
   rw [HIi.out]
   have HR2:=zh ((HR1.out.alloc _).below hb)
   have hzR2:=HR2.out.size
   have HB2:=zh ((HB1.out.alloc _).kp (Kp.of_below (pb:=E.pb) hb) (by omega))
   have hzHB2:=HB2.out.lt
   have HN2:=zh ((Blk.new w1 (zaa (a1) (.slice sa sn sc)) 25).kp (Kp.of_below (pb:=E.pb) hb) (by first|omega|(have:=HR0.out.size;simp at *;omega)))
   have hzHN2:=HN2.out.lt
   have HT1_2:=zh ((HT1.out.alloc _).below hb)
   clear hb
   go_wp2_with fail
   refine AnyE.zHb (S:=fun W=>Blk W w1.heap.size (zaa a1 (.slice sa sn sc)) 25) (by kernel_rfl) (HN2.out.drew) (fun hS=>?_)
   refine AnyE.take (i:=0) (v:=.pointer (some ⟨w1.heap.size,3,none⟩)) rfl (by kernel_rfl) (by kernel_rfl) (by kernel_rfl) (by kernel_rfl) (fun _ _ _ h=>h) (Or.inl ⟨by rfl,fun W _=>by go_simp⟩) hS ?_
   refine AnyE.take (i:=1) (v:=.int .i64 a1.place) rfl (by kernel_rfl) (by kernel_rfl) (by kernel_rfl) (by kernel_rfl) (fun _ _ _ h=>h) (Or.inl ⟨by rfl,fun W hW=>by have hcx:W.cell? ⟨w1.heap.size,3,none⟩=some (.int .i64 a1.place):=hW.cell 3;go_simp⟩) hS ?_
   refine AnyE.take (i:=2) (v:=.pointer (some ⟨E.pb,0,none⟩)) rfl (by kernel_rfl) (by kernel_rfl) (by kernel_rfl) (by kernel_rfl) (fun _ _ _ h=>h) (Or.inl ⟨by rfl,fun W _=>by go_simp⟩) hS ?_
   refine AnyE.take (i:=3) (v:=.agg #[.int .i64 (a1).kind,.string (a1).text,.int .i64 (a1).num,.int .i64 (a1).place,.slice sa sn sc]) rfl (by kernel_rfl) (by kernel_rfl) (by kernel_rfl) (by kernel_rfl) (fun _ _ _ h=>h) (yieldsIf_load_mid (cs:=zaa (a1) (.slice sa sn sc)) (by rfl) 25 (.tmp 3) rfl (w1.heap.size) 0 rfl _ (fun W hW j v hj=>by rw [Nat.zero_add,(hW).cell j];exact hj) Tryd.underlying25 rfl Tryd.zca) hS ?_
   refine AnyE.one (i:=4) (by kernel_rfl) rfl (by rfl) (fun K hK=>?_)
   go_simp
   refine (zlh (HR2.out.drew).st a1 sa sn sc).mono ?_
   intro e w3 hp
   cases hr:zLe a1 l1 with
   | error pc =>
    obtain ⟨p,c⟩:=pc
    obtain ⟨rfl,hk,hcd⟩:=hp.err hr
    have HK:=zh ((HR2.out.drew).kp.trans hk)
    have HP:=zh (show zwb l=.error (p,c) by unfold zwb;exact ((zia H1.out _)).trans (((zya HIi.out _ _)).trans ((zpa hr _))))
    clear hr hp hk
    go_wp2
    exact ⟨rfl,Run.err HK.out HP.out hcd⟩
   | ok q =>
    obtain ⟨a3,l3⟩:=q
    obtain ⟨v3,rfl,hv,hs,hl,hk⟩:=hp.ok hr
    obtain ⟨kv3,rfl,ht⟩:=hv
    have HT3:=zh (ht.weak (HB2.out.drew).lt)
    have huHN3:=Blk.zcb hk (HN2.out.drew)
    have HU3:=zh (ht.mono (S':=fun b=>w.heap.size<b∧w1.heap.size<b) (fun b hb _=>by have:=Blk.zcb hk (HB2.out.drew);omega))
    have HR3:=zh ((HR2.out.drew).call hk hs)
    have hzR3:=HR3.out.size
    have HB3:=zh ((HB2.out.drew).kp hk (by omega))
    have hzHB3:=HB3.out.lt
    have HN3:=zh ((HN2.out.drew).kp hk (by first|omega|(have:=HR0.out.size;simp at *;omega)))
    have hzHN3:=HN3.out.lt
    have HT1_3:=zh ((HT1_2.out.drew).kp hk (fun b hb=>by omega))
    have HL3:=zh hl
    have H3:=zh hr
    clear hr hp hs hl hk ht
    unfold zma
    refine hK.out _ _ (fun _=>HN3.out) ?_
    clear hK K
    refine AnyE.one (i:=5) (by kernel_rfl) rfl (by rfl) (fun K hK=>?_)
    go_simp
    refine hK.out _ _ (fun _=>(HN3.out.alloc _)) ?_
    clear hK K
    refine AnyE.one (i:=6) (by kernel_rfl) rfl (by rfl) (fun K hK=>?_)
    go_simp
    refine hK.out _ _ (fun _=>(HN3.out.alloc _)) ?_
    clear hK K
    have HP:=zh (show zwb l=.ok (T.mk 20 e0 0 a1.place [a3],l3) by unfold zwb;exact ((zia H1.out _)).trans (((zya HIi.out _ _)).trans ((zia H3.out _))))
    refine AnyE.one (i:=7) (by kernel_rfl) rfl (by rfl) (fun K hK=>?_)
    refine zka 25 (.tmp 2) (.tmp 16) rfl (w.heap.size) (zaa (T.mk 20 e0 0 a1.place [a3]) (.slice (some ⟨w3.heap.size,0,none⟩) 1 1)) rfl rfl (HB3.out.alloc _) Tryd.zca rfl (zda _ _ rfl) ?_
    refine hK.out _ _ (fun h=>absurd rfl h) ?_
    clear hK K
    refine AnyE.done (by kernel_rfl) ?_ _
    go_wp2
    exact zNd (cs:=zaa (T.mk 20 e0 0 a1.place [a3]) (.slice (some ⟨w3.heap.size,0,none⟩) 1 1)) Tryd.results92 rfl (HB3.out.alloc _) Tryd.underlying25 rfl Tryd.zca rfl (Run.node (HR3.out.alloc _) ((KAt.zuo HT3.out.lo hzHB3).tat _ _ _ _) HP.out (by have:=HL1.out;have:=HL3.out;first|omega|(simp only [List.length_tail] at *;omega)))
  | false =>
   have HIi:=zh hi
   clear hi
   go_wp2_with fail
   refine (znd (HR1.out.alloc _).st (bs [40])).mono ?_
   rintro e w2 ⟨rfl,hb⟩
   rw [HIi.out]
   have HR2:=zh ((HR1.out.alloc _).below hb)
   have hzR2:=HR2.out.size
   have HB2:=zh ((HB1.out.alloc _).kp (Kp.of_below (pb:=E.pb) hb) (by omega))
   have hzHB2:=HB2.out.lt
   have HN2:=zh ((Blk.new w1 (zaa (a1) (.slice sa sn sc)) 25).kp (Kp.of_below (pb:=E.pb) hb) (by first|omega|(have:=HR0.out.size;simp at *;omega)))
   have hzHN2:=HN2.out.lt
   have HT1_2:=zh ((HT1.out.alloc _).below hb)
   clear hb
   cases hj:isT (hdT l1) (bs [91]) with
   | true =>
    have HIj:=zh hj
    clear hj
    go_wp2_with fail
    refine (znd HR2.out.st (bs [91])).mono ?_
    rintro e w3 ⟨rfl,hb⟩
    rw [HIj.out]
    have HR3:=zh (HR2.out.below hb)
    have hzR3:=HR3.out.size
    have HB3:=zh (HB2.out.kp (Kp.of_below (pb:=E.pb) hb) (by omega))
    have hzHB3:=HB3.out.lt
    have HN3:=zh (HN2.out.kp (Kp.of_below (pb:=E.pb) hb) (by first|omega|(have:=HR0.out.size;simp at *;omega)))
    have hzHN3:=HN3.out.lt
    have HT1_3:=zh (HT1_2.out.below hb)
    clear hb
    go_wp2_with fail
    refine (zpi HR3.out.st).mono ?_
    intro e w4 hp
    cases hr:zDc l1 with
    | error pc =>
     obtain ⟨p,c⟩:=pc
     obtain ⟨rfl,hk,hcd⟩:=hp.err hr
     have HK:=zh (HR3.out.kp.trans hk)
     have HP:=zh (show zwb l=.error (p,c) by unfold zwb;exact ((zia H1.out _)).trans (((zja HIi.out _ _)).trans (((zya HIj.out _ _)).trans ((zpa hr _)))))
     clear hr hp hk
     go_wp2
     exact ⟨rfl,Run.err HK.out HP.out hcd⟩
    | ok q =>
     obtain ⟨a4,l4⟩:=q
     obtain ⟨v4,rfl,hv,hs,hl,hk⟩:=hp.ok hr
     obtain ⟨kv4,rfl,ht⟩:=hv
     have HT4:=zh (ht.weak HB3.out.lt)
     have huHN4:=Blk.zcb hk HN3.out
     have HU4:=zh (ht.mono (S':=fun b=>w.heap.size<b∧w1.heap.size<b) (fun b hb _=>by have:=Blk.zcb hk HB3.out;omega))
     have HR4:=zh (HR3.out.call hk hs)
     have hzR4:=HR4.out.size
     have HB4:=zh (HB3.out.kp hk (by omega))
     have hzHB4:=HB4.out.lt
     have HN4:=zh (HN3.out.kp hk (by first|omega|(have:=HR0.out.size;simp at *;omega)))
     have hzHN4:=HN4.out.lt
     have HT1_4:=zh (HT1_3.out.kp hk (fun b hb=>by omega))
     have HL4:=zh hl
     have H4:=zh hr
     clear hr hp hs hl hk ht
     unfold zma
     go_wp2_with ((with_reducible refine zra 25 (.tmp 4) ?_);refine zga rfl 25 (.tmp 4) (.tmp 21) rfl (zaa (a4) (kv4)) (old:=zba) rfl rfl Tryd.zca rfl (zda _ _ HT4.out.kat.one) ?_)
     go_wp2_with fail
     refine (zLa (HR4.out.alloc _).st [bs [61]] (by decide) (by decide) (by simp) rfl rfl).mono ?_
     intro e w5 hp
     cases hr:zxa [bs [61]] l4 with
     | error pc =>
      obtain ⟨p,c⟩:=pc
      obtain ⟨rfl,hk,hcd⟩:=hp.err hr
      have HK:=zh ((HR4.out.alloc _).kp.trans hk)
      have HP:=zh (show zwb l=.error (p,c) by unfold zwb;exact ((zia H1.out _)).trans (((zja HIi.out _ _)).trans (((zya HIj.out _ _)).trans (((zia H4.out _)).trans ((zpa hr _))))))
      clear hr hp hk
      go_wp2
      exact ⟨rfl,Run.err HK.out HP.out hcd⟩
     | ok q =>
      obtain ⟨a5,l5⟩:=q
      obtain ⟨v5,rfl,hv,hs,hl,hk⟩:=hp.ok hr
      obtain ⟨rfl,hto⟩:=hv
      have HR5:=zh ((HR4.out.alloc _).call hk hs)
      have hzR5:=HR5.out.size
      have HB5:=zh ((HB4.out.alloc _).kp hk (by omega))
      have hzHB5:=HB5.out.lt
      have HN5:=zh ((HN4.out.alloc _).kp hk (by first|omega|(have:=HR0.out.size;simp at *;omega)))
      have hzHN5:=HN5.out.lt
      have HJ5:=zh ((Blk.new w4 (zaa (a4) (kv4)) 25).kp hk (by first|omega|(have:=HR0.out.size;simp at *;omega)))
      have hzHJ5:=HJ5.out.lt
      have HT1_5:=zh ((HT1_4.out.alloc _).kp hk (fun b hb=>by omega))
      have HT4_5:=zh ((HT4.out.alloc _).kp hk (fun b hb=>by omega))
      have HL5:=zh hl
      have H5:=zh hr
      clear hr hp hs hl hk hto
      unfold zsb
      go_wp2_with fail
      refine AnyE.zHb (S:=fun W=>Blk W w4.heap.size (zaa a4 kv4) 25∧Blk W w1.heap.size (zaa a1 (.slice sa sn sc)) 25) (by kernel_rfl) (And.intro HJ5.out.drew HN5.out.drew) (fun hS=>?_)
      refine AnyE.take (i:=0) (v:=.pointer (some ⟨w1.heap.size,1,none⟩)) rfl (by kernel_rfl) (by kernel_rfl) (by kernel_rfl) (by kernel_rfl) (fun _ _ _ h=>h) (Or.inl ⟨by rfl,fun W _=>by go_simp⟩) hS ?_
      refine AnyE.take (i:=1) (v:=.string a1.text) rfl (by kernel_rfl) (by kernel_rfl) (by kernel_rfl) (by kernel_rfl) (fun _ _ _ h=>h) (Or.inl ⟨by rfl,fun W hW=>by have hcx:W.cell? ⟨w1.heap.size,1,none⟩=some (.string a1.text):=hW.2.cell 1;go_simp⟩) hS ?_
      refine AnyE.take (i:=2) (v:=.pointer (some ⟨w1.heap.size,3,none⟩)) rfl (by kernel_rfl) (by kernel_rfl) (by kernel_rfl) (by kernel_rfl) (fun _ _ _ h=>h) (Or.inl ⟨by rfl,fun W _=>by go_simp⟩) hS ?_
      refine AnyE.take (i:=3) (v:=.int .i64 a1.place) rfl (by kernel_rfl) (by kernel_rfl) (by kernel_rfl) (by kernel_rfl) (fun _ _ _ h=>h) (Or.inl ⟨by rfl,fun W hW=>by have hcx:W.cell? ⟨w1.heap.size,3,none⟩=some (.int .i64 a1.place):=hW.2.cell 3;go_simp⟩) hS ?_
      refine AnyE.take (i:=4) (v:=.agg #[.int .i64 (a4).kind,.string (a4).text,.int .i64 (a4).num,.int .i64 (a4).place,kv4]) rfl (by kernel_rfl) (by kernel_rfl) (by kernel_rfl) (by kernel_rfl) (fun _ _ _ h=>h) (yieldsIf_load_mid (cs:=zaa (a4) (kv4)) (by rfl) 25 (.tmp 4) rfl (w4.heap.size) 0 rfl _ (fun W hW j v hj=>by rw [Nat.zero_add,(hW.1).cell j];exact hj) Tryd.underlying25 rfl Tryd.zca) hS ?_
      refine AnyE.take (i:=5) (v:=.pointer (some ⟨E.pb,0,none⟩)) rfl (by kernel_rfl) (by kernel_rfl) (by kernel_rfl) (by kernel_rfl) (fun _ _ _ h=>h) (Or.inl ⟨by rfl,fun W _=>by go_simp⟩) hS ?_
      refine AnyE.one (i:=6) (by kernel_rfl) rfl (by rfl) (fun K hK=>?_)
      go_simp
      refine (zoe (HR5.out.drew).st).mono ?_
      intro e w6 hp
      cases hr:zKb l5 with
      | error pc =>
       obtain ⟨p,c⟩:=pc
       obtain ⟨rfl,hk,hcd⟩:=hp.err hr
       have HK:=zh ((HR5.out.drew).kp.trans hk)
       have HP:=zh (show zwb l=.error (p,c) by unfold zwb;exact ((zia H1.out _)).trans (((zja HIi.out _ _)).trans (((zya HIj.out _ _)).trans (((zia H4.out _)).trans (((zia H5.out _)).trans ((zpa hr _)))))))
       clear hr hp hk
       go_wp2
       exact ⟨rfl,Run.err HK.out HP.out hcd⟩
      | ok q =>
       obtain ⟨a6,l6⟩:=q
       obtain ⟨v6,rfl,hv,hs,hl,hk⟩:=hp.ok hr
       obtain ⟨kv6,rfl,ht⟩:=hv
       have HT6:=zh (ht.weak (HB5.out.drew).lt)
       have huHN6:=Blk.zcb hk (HN5.out.drew)
       have huHJ6:=Blk.zcb hk (HJ5.out.drew)
       have HU6:=zh (ht.mono (S':=fun b=>w.heap.size<b∧w1.heap.size<b∧w4.heap.size<b) (fun b hb _=>by have:=Blk.zcb hk (HB5.out.drew);omega))
       have HR6:=zh ((HR5.out.drew).call hk hs)
       have hzR6:=HR6.out.size
       have HB6:=zh ((HB5.out.drew).kp hk (by omega))
       have hzHB6:=HB6.out.lt
       have HN6:=zh ((HN5.out.drew).kp hk (by first|omega|(have:=HR0.out.size;simp at *;omega)))
       have hzHN6:=HN6.out.lt
       have HJ6:=zh ((HJ5.out.drew).kp hk (by first|omega|(have:=HR0.out.size;simp at *;omega)))
       have hzHJ6:=HJ6.out.lt
       have HT1_6:=zh ((HT1_5.out.drew).kp hk (fun b hb=>by omega))
       have HT4_6:=zh ((HT4_5.out.drew).kp hk (fun b hb=>by omega))
       have HL6:=zh hl
       have H6:=zh hr
       clear hr hp hs hl hk ht
       unfold zma
       refine hK.out _ _ (fun _=>⟨HJ6.out,HN6.out⟩) ?_
       clear hK K
       refine AnyE.one (i:=7) (by kernel_rfl) rfl (by rfl) (fun K hK=>?_)
       go_simp
       refine hK.out _ _ (fun _=>⟨HJ6.out.alloc _,HN6.out.alloc _⟩) ?_
       clear hK K
       refine AnyE.one (i:=8) (by kernel_rfl) rfl (by rfl) (fun K hK=>?_)
       go_simp
       refine hK.out _ _ (fun _=>⟨HJ6.out.alloc _,HN6.out.alloc _⟩) ?_
       clear hK K
       have HP:=zh (show zwb l=.ok (T.mk 11 a1.text 0 a1.place [a4,a6],l6) by unfold zwb;exact ((zia H1.out _)).trans (((zja HIi.out _ _)).trans (((zya HIj.out _ _)).trans (((zia H4.out _)).trans (((zia H5.out _)).trans ((zia H6.out _)))))))
       refine AnyE.one (i:=9) (by kernel_rfl) rfl (by rfl) (fun K hK=>?_)
       refine zka 25 (.tmp 2) (.tmp 33) rfl (w.heap.size) (zaa (T.mk 11 a1.text 0 a1.place [a4,a6]) (.slice (some ⟨w6.heap.size,0,none⟩) 2 2)) rfl rfl (HB6.out.alloc _) Tryd.zca rfl (zda _ _ rfl) ?_
       refine hK.out _ _ (fun h=>absurd rfl h) ?_
       clear hK K
       refine AnyE.done (by kernel_rfl) ?_ _
       go_wp2
       exact zNd (cs:=zaa (T.mk 11 a1.text 0 a1.place [a4,a6]) (.slice (some ⟨w6.heap.size,0,none⟩) 2 2)) Tryd.results92 rfl (HB6.out.alloc _) Tryd.underlying25 rfl Tryd.zca rfl (Run.node (HR6.out.alloc _) ((KAt.lit2 HT4_6.out.lo HT6.out.lo hzHB6).tat _ _ _ _) HP.out (by have:=HL1.out;have:=HL4.out;have:=HL5.out;have:=HL6.out;first|omega|(simp only [List.length_tail] at *;omega)))
   | false =>
    have HIj:=zh hj
    clear hj
    go_wp2_with fail
    refine (znd HR2.out.st (bs [91])).mono ?_
    rintro e w3 ⟨rfl,hb⟩
    rw [HIj.out]
    have HR3:=zh (HR2.out.below hb)
    have hzR3:=HR3.out.size
    have HB3:=zh (HB2.out.kp (Kp.of_below (pb:=E.pb) hb) (by omega))
    have hzHB3:=HB3.out.lt
    have HN3:=zh (HN2.out.kp (Kp.of_below (pb:=E.pb) hb) (by first|omega|(have:=HR0.out.size;simp at *;omega)))
    have hzHN3:=HN3.out.lt
    have HT1_3:=zh (HT1_2.out.below hb)
    clear hb
    go_wp2_with fail
    refine (zLa HR3.out.st [bs [61]] (by decide) (by decide) (by simp) rfl rfl).mono ?_
    intro e w4 hp
    cases hr:zxa [bs [61]] l1 with
    | error pc =>
     obtain ⟨p,c⟩:=pc
     obtain ⟨rfl,hk,hcd⟩:=hp.err hr
     have HK:=zh (HR3.out.kp.trans hk)
     have HP:=zh (show zwb l=.error (p,c) by unfold zwb;exact ((zia H1.out _)).trans (((zja HIi.out _ _)).trans (((zja HIj.out _ _)).trans ((zpa hr _)))))
     clear hr hp hk
     go_wp2
     exact ⟨rfl,Run.err HK.out HP.out hcd⟩
    | ok q =>
     obtain ⟨a4,l4⟩:=q
     obtain ⟨v4,rfl,hv,hs,hl,hk⟩:=hp.ok hr
     obtain ⟨rfl,hto⟩:=hv
     have HR4:=zh (HR3.out.call hk hs)
     have hzR4:=HR4.out.size
     have HB4:=zh (HB3.out.kp hk (by omega))
     have hzHB4:=HB4.out.lt
     have HN4:=zh (HN3.out.kp hk (by first|omega|(have:=HR0.out.size;simp at *;omega)))
     have hzHN4:=HN4.out.lt
     have HT1_4:=zh (HT1_3.out.kp hk (fun b hb=>by omega))
     have HL4:=zh hl
     have H4:=zh hr
     clear hr hp hs hl hk hto
     unfold zsb
     go_wp2_with fail
     refine AnyE.zHb (S:=fun W=>Blk W w1.heap.size (zaa a1 (.slice sa sn sc)) 25) (by kernel_rfl) (HN4.out.drew) (fun hS=>?_)
     refine AnyE.take (i:=0) (v:=.pointer (some ⟨w1.heap.size,1,none⟩)) rfl (by kernel_rfl) (by kernel_rfl) (by kernel_rfl) (by kernel_rfl) (fun _ _ _ h=>h) (Or.inl ⟨by rfl,fun W _=>by go_simp⟩) hS ?_
     refine AnyE.take (i:=1) (v:=.string a1.text) rfl (by kernel_rfl) (by kernel_rfl) (by kernel_rfl) (by kernel_rfl) (fun _ _ _ h=>h) (Or.inl ⟨by rfl,fun W hW=>by have hcx:W.cell? ⟨w1.heap.size,1,none⟩=some (.string a1.text):=hW.cell 1;go_simp⟩) hS ?_
     refine AnyE.take (i:=2) (v:=.pointer (some ⟨w1.heap.size,3,none⟩)) rfl (by kernel_rfl) (by kernel_rfl) (by kernel_rfl) (by kernel_rfl) (fun _ _ _ h=>h) (Or.inl ⟨by rfl,fun W _=>by go_simp⟩) hS ?_
     refine AnyE.take (i:=3) (v:=.int .i64 a1.place) rfl (by kernel_rfl) (by kernel_rfl) (by kernel_rfl) (by kernel_rfl) (fun _ _ _ h=>h) (Or.inl ⟨by rfl,fun W hW=>by have hcx:W.cell? ⟨w1.heap.size,3,none⟩=some (.int .i64 a1.place):=hW.cell 3;go_simp⟩) hS ?_
     refine AnyE.take (i:=4) (v:=.pointer (some ⟨E.pb,0,none⟩)) rfl (by kernel_rfl) (by kernel_rfl) (by kernel_rfl) (by kernel_rfl) (fun _ _ _ h=>h) (Or.inl ⟨by rfl,fun W _=>by go_simp⟩) hS ?_
     refine AnyE.one (i:=5) (by kernel_rfl) rfl (by rfl) (fun K hK=>?_)
     go_simp
     refine (zZm (HR4.out.drew).st).mono ?_
     intro e w5 hp
     cases hr:znc l4 with
     | error pc =>
      obtain ⟨p,c⟩:=pc
      obtain ⟨rfl,hk,hcd⟩:=hp.err hr
      have HK:=zh ((HR4.out.drew).kp.trans hk)
      have HP:=zh (show zwb l=.error (p,c) by unfold zwb;exact ((zia H1.out _)).trans (((zja HIi.out _ _)).trans (((zja HIj.out _ _)).trans (((zia H4.out _)).trans ((zpa hr _))))))
      clear hr hp hk
      go_wp2
      exact ⟨rfl,Run.err HK.out HP.out hcd⟩
     | ok q =>
      obtain ⟨a5,l5⟩:=q
      obtain ⟨v5,rfl,hv,hs,hl,hk⟩:=hp.ok hr
      obtain ⟨kv5,rfl,ht⟩:=hv
      have HT5:=zh (ht.weak (HB4.out.drew).lt)
      have huHN5:=Blk.zcb hk (HN4.out.drew)
      have HU5:=zh (ht.mono (S':=fun b=>w.heap.size<b∧w1.heap.size<b) (fun b hb _=>by have:=Blk.zcb hk (HB4.out.drew);omega))
      have HR5:=zh ((HR4.out.drew).call hk hs)
      have hzR5:=HR5.out.size
      have HB5:=zh ((HB4.out.drew).kp hk (by omega))
      have hzHB5:=HB5.out.lt
      have HN5:=zh ((HN4.out.drew).kp hk (by first|omega|(have:=HR0.out.size;simp at *;omega)))
      have hzHN5:=HN5.out.lt
      have HT1_5:=zh ((HT1_4.out.drew).kp hk (fun b hb=>by omega))
      have HL5:=zh hl
      have H5:=zh hr
      clear hr hp hs hl hk ht
      unfold zma
      refine hK.out _ _ (fun _=>HN5.out) ?_
      clear hK K
      refine AnyE.one (i:=6) (by kernel_rfl) rfl (by rfl) (fun K hK=>?_)
      go_simp
      refine hK.out _ _ (fun _=>(HN5.out.alloc _)) ?_
      clear hK K
      refine AnyE.one (i:=7) (by kernel_rfl) rfl (by rfl) (fun K hK=>?_)
      go_simp
      refine hK.out _ _ (fun _=>(HN5.out.alloc _)) ?_
      clear hK K
      have HP:=zh (show zwb l=.ok (T.mk 10 a1.text 0 a1.place [a5],l5) by unfold zwb;exact ((zia H1.out _)).trans (((zja HIi.out _ _)).trans (((zja HIj.out _ _)).trans (((zia H4.out _)).trans ((zia H5.out _))))))
      refine AnyE.one (i:=8) (by kernel_rfl) rfl (by rfl) (fun K hK=>?_)
      refine zka 25 (.tmp 2) (.tmp 44) rfl (w.heap.size) (zaa (T.mk 10 a1.text 0 a1.place [a5]) (.slice (some ⟨w5.heap.size,0,none⟩) 1 1)) rfl rfl (HB5.out.alloc _) Tryd.zca rfl (zda _ _ rfl) ?_
      refine hK.out _ _ (fun h=>absurd rfl h) ?_
      clear hK K
      refine AnyE.done (by kernel_rfl) ?_ _
      go_wp2
      exact zNd (cs:=zaa (T.mk 10 a1.text 0 a1.place [a5]) (.slice (some ⟨w5.heap.size,0,none⟩) 1 1)) Tryd.results92 rfl (HB5.out.alloc _) Tryd.underlying25 rfl Tryd.zca rfl (Run.node (HR5.out.alloc _) ((KAt.zuo HT5.out.lo hzHB5).tat _ _ _ _) HP.out (by have:=HL1.out;have:=HL4.out;have:=HL5.out;first|omega|(simp only [List.length_tail] at *;omega)))
theorem zqk {E:Env} {w:World} {l:List Tok} {d:Nat} (h:PSt E w l d) :
  Calls Tryd.prog 88 #[.pointer (some ⟨E.pb,0,none⟩)] w (zbb zNb E w l d (zHa l)):=by
 have HR0:=zh ((Run.start h).alloc (.cells zba.toArray 25))
 have HB0:=zh (Blk.new w zba 25)
 have HL0:=zh (zOd h)
 have hmf:=zkb
 have hlo:=h.plt
 have hlt:=h.tlt
 have hln:=h.len
 clear h
 go_enter Tryd.func88,Tryd.ntmps88
 go_wp2_with fail
 refine (zdb HR0.out.st).mono ?_
 rintro e w1 ⟨rfl,hb⟩
 have HR1:=zh (HR0.out.below hb)
 have hzR1:=HR1.out.size
 have HB1:=zh (HB0.out.kp (Kp.of_below (pb:=E.pb) hb) (by omega))
 have hzHB1:=HB1.out.lt
 clear hb
 unfold zsb
 have fl0:=zrb
 have fl1:=zmb
 have fl3:=zpb
 go_wp2_with fail
 refine (zdb HR1.out.st).mono ?_
 rintro e w2 ⟨rfl,hb⟩
 have HR2:=zh (HR1.out.below hb)
 have hzR2:=HR2.out.size
 have HB2:=zh (HB1.out.kp (Kp.of_below (pb:=E.pb) hb) (by omega))
 have hzHB2:=HB2.out.lt
 clear hb
 unfold zsb
 have fl0:=zrb
 have fl1:=zmb
 have fl3:=zpb
 by_cases hkd:(hdT l).kind=1
 ·
  have HI:=zh (show ((hdT l).kind == 1)=true by rw [hkd];rfl)
  have hne:(((hdT l).kind:Int) == 1)=true:=by rw [hkd];rfl
  clear hkd
  go_wp2_with fail
  refine (zrl HR2.out.st).mono ?_
  intro e w3 hp
  cases hr:zwb l with
  | error pc =>
   obtain ⟨p,c⟩:=pc
   obtain ⟨rfl,hk,hcd⟩:=hp.err hr
   have HK:=zh (HR2.out.kp.trans hk)
   have HP:=zh (show zHa l=.error (p,c) by unfold zHa;exact ((zya HI.out _ _)).trans (hr))
   clear hr hp hk
   go_wp2
   exact ⟨rfl,Run.err HK.out HP.out hcd⟩
  | ok q =>
   obtain ⟨a3,l3⟩:=q
   obtain ⟨v3,rfl,hv,hs,hl,hk⟩:=hp.ok hr
   obtain ⟨kv3,rfl,ht⟩:=hv
   have HT3:=zh (ht.weak HB2.out.lt)
   have HR3:=zh (HR2.out.call hk hs)
   have hzR3:=HR3.out.size
   have HB3:=zh (HB2.out.kp hk (by omega))
   have hzHB3:=HB3.out.lt
   have HL3:=zh hl
   have H3:=zh hr
   clear hr hp hs hl hk ht
   unfold zma
   have HP:=zh (show zHa l=.ok (a3,l3) by unfold zHa;exact ((zya HI.out _ _)).trans (H3.out))
   go_wp2_with ((with_reducible refine zra 25 (.tmp 2) ?_);refine zea rfl 25 (.tmp 2) (.tmp 13) rfl w.heap.size (zaa (a3) (kv3)) rfl rfl HB3.out Tryd.zca rfl (zda _ _ HT3.out.kat.one) ?_)
   exact zua (cs:=zaa (a3) (kv3)) Tryd.results88 rfl HB3.out Tryd.underlying25 rfl Tryd.zca rfl (Run.node HR3.out HT3.out.lo HP.out (by have:=HL3.out;first|omega|(simp only [List.length_tail] at *;omega)))
 ·
  have HI:=zh (show ((hdT l).kind == 1)=false from beq_eq_false_iff_ne.2 hkd)
  have hne:(((hdT l).kind:Int) == 1)=false:=by simp;omega
  clear hkd
  cases ha:isT (hdT l) (bs [102,114,101,101]) with
  | true =>
   have HIa:=zh ha
   clear ha
   go_wp2_with fail
   refine (zBa HR2.out.st HIa.out (by decide)).mono ?_
   rintro e w3 ⟨rfl,hs,hk⟩
   have HR3:=zh (HR2.out.call hk hs)
   have hzR3:=HR3.out.size
   have HB3:=zh (HB2.out.kp hk (by omega))
   have hzHB3:=HB3.out.lt
   clear hs hk
   go_wp2_with fail
   refine (name_any HR3.out.st).mono ?_
   intro e w4 hp
   cases hr:zac l.tail with
   | error pc =>
    obtain ⟨p,c⟩:=pc
    obtain ⟨rfl,hk,hcd⟩:=hp.err hr
    have HK:=zh (HR3.out.kp.trans hk)
    have HP:=zh (show zHa l=.error (p,c) by unfold zHa;exact ((zja HI.out _ _)).trans (((zya HIa.out _ _)).trans ((zpa hr _))))
    clear hr hp hk
    go_wp2
    exact ⟨rfl,Run.err HK.out HP.out hcd⟩
   | ok q =>
    obtain ⟨a4,l4⟩:=q
    obtain ⟨v4,rfl,hv,hs,hl,hk⟩:=hp.ok hr
    obtain rfl:v4=.string a4:=hv
    have HR4:=zh (HR3.out.call hk hs)
    have hzR4:=HR4.out.size
    have HB4:=zh (HB3.out.kp hk (by omega))
    have hzHB4:=HB4.out.lt
    have HL4:=zh hl
    have H4:=zh hr
    clear hr hp hs hl hk
    have HP:=zh (show zHa l=.ok (T.mk 12 a4 0 (hdT l).place [],l4) by unfold zHa;exact ((zja HI.out _ _)).trans (((zya HIa.out _ _)).trans ((zia H4.out _))))
    go_wp2_with ((with_reducible refine zra 25 (.tmp 2) ?_);refine zea rfl 25 (.tmp 2) (.tmp 20) rfl w.heap.size (zaa (T.mk 12 a4 0 (hdT l).place []) (.slice none 0 0)) rfl rfl HB4.out Tryd.zca rfl (zda _ _ rfl) ?_)
    exact zua (cs:=zaa (T.mk 12 a4 0 (hdT l).place []) (.slice none 0 0)) Tryd.results88 rfl HB4.out Tryd.underlying25 rfl Tryd.zca rfl (Run.node HR4.out ((KAt.nil _ _ _).tat _ _ _ _) HP.out (by have:=HL0.out;have:=HL4.out;first|omega|(simp only [List.length_tail] at *;omega)))
  | false =>
   have HIa:=zh ha
   clear ha
   go_wp2_with fail
   refine (zFa HR2.out.st HIa.out).mono ?_
   rintro e w3 ⟨rfl,hb⟩
   have HR3:=zh (HR2.out.below hb)
   have hzR3:=HR3.out.size
   have HB3:=zh (HB2.out.kp (Kp.of_below (pb:=E.pb) hb) (by omega))
   have hzHB3:=HB3.out.lt
   clear hb
   cases hb:isT (hdT l) (bs [108,111,99,107]) with
   | true =>
    have HIb:=zh hb
    clear hb
    go_wp2_with fail
    refine (zBa HR3.out.st HIb.out (by decide)).mono ?_
    rintro e w4 ⟨rfl,hs,hk⟩
    have HR4:=zh (HR3.out.call hk hs)
    have hzR4:=HR4.out.size
    have HB4:=zh (HB3.out.kp hk (by omega))
    have hzHB4:=HB4.out.lt
    clear hs hk
    go_wp2_with fail
    refine (zte HR4.out.st 13 _).mono ?_
    intro e w5 hp
    cases hr:zLd 13 (hdT l).place l.tail with
    | error pc =>
     obtain ⟨p,c⟩:=pc
     obtain ⟨rfl,hk,hcd⟩:=hp.err hr
     have HK:=zh (HR4.out.kp.trans hk)
     have HP:=zh (show zHa l=.error (p,c) by unfold zHa;exact ((zja HI.out _ _)).trans (((zja HIa.out _ _)).trans (((zya HIb.out _ _)).trans (hr))))
     clear hr hp hk
     go_wp2
     exact ⟨rfl,Run.err HK.out HP.out hcd⟩
    | ok q =>
     obtain ⟨a5,l5⟩:=q
     obtain ⟨v5,rfl,hv,hs,hl,hk⟩:=hp.ok hr
     obtain ⟨kv5,rfl,ht⟩:=hv
     have HT5:=zh (ht.weak HB4.out.lt)
     have HR5:=zh (HR4.out.call hk hs)
     have hzR5:=HR5.out.size
     have HB5:=zh (HB4.out.kp hk (by omega))
     have hzHB5:=HB5.out.lt
     have HL5:=zh hl
     have H5:=zh hr
     clear hr hp hs hl hk ht
     unfold zma
     have HP:=zh (show zHa l=.ok (a5,l5) by unfold zHa;exact ((zja HI.out _ _)).trans (((zja HIa.out _ _)).trans (((zya HIb.out _ _)).trans (H5.out))))
     go_wp2_with ((with_reducible refine zra 25 (.tmp 2) ?_);refine zea rfl 25 (.tmp 2) (.tmp 26) rfl w.heap.size (zaa (a5) (kv5)) rfl rfl HB5.out Tryd.zca rfl (zda _ _ HT5.out.kat.one) ?_)
     exact zua (cs:=zaa (a5) (kv5)) Tryd.results88 rfl HB5.out Tryd.underlying25 rfl Tryd.zca rfl (Run.node HR5.out HT5.out.lo HP.out (by have:=HL0.out;have:=HL5.out;first|omega|(simp only [List.length_tail] at *;omega)))
   | false =>
    have HIb:=zh hb
    clear hb
    go_wp2_with fail
    refine (zFa HR3.out.st HIb.out).mono ?_
    rintro e w4 ⟨rfl,hb⟩
    have HR4:=zh (HR3.out.below hb)
    have hzR4:=HR4.out.size
    have HB4:=zh (HB3.out.kp (Kp.of_below (pb:=E.pb) hb) (by omega))
    have hzHB4:=HB4.out.lt
    clear hb
    cases hc:isT (hdT l) (bs [117,110,108,111,99,107]) with
    | true =>
     have HIc:=zh hc
     clear hc
     go_wp2_with fail
     refine (zBa HR4.out.st HIc.out (by decide)).mono ?_
     rintro e w5 ⟨rfl,hs,hk⟩
     have HR5:=zh (HR4.out.call hk hs)
     have hzR5:=HR5.out.size
     have HB5:=zh (HB4.out.kp hk (by omega))
     have hzHB5:=HB5.out.lt
     clear hs hk
     go_wp2_with fail
     refine (zte HR5.out.st 14 _).mono ?_
     intro e w6 hp
     cases hr:zLd 14 (hdT l).place l.tail with
     | error pc =>
      obtain ⟨p,c⟩:=pc
      obtain ⟨rfl,hk,hcd⟩:=hp.err hr
      have HK:=zh (HR5.out.kp.trans hk)
      have HP:=zh (show zHa l=.error (p,c) by unfold zHa;exact ((zja HI.out _ _)).trans (((zja HIa.out _ _)).trans (((zja HIb.out _ _)).trans (((zya HIc.out _ _)).trans (hr)))))
      clear hr hp hk
      go_wp2
      exact ⟨rfl,Run.err HK.out HP.out hcd⟩
     | ok q =>
      obtain ⟨a6,l6⟩:=q
      obtain ⟨v6,rfl,hv,hs,hl,hk⟩:=hp.ok hr
      obtain ⟨kv6,rfl,ht⟩:=hv
      have HT6:=zh (ht.weak HB5.out.lt)
      have HR6:=zh (HR5.out.call hk hs)
      have hzR6:=HR6.out.size
      have HB6:=zh (HB5.out.kp hk (by omega))
      have hzHB6:=HB6.out.lt
      have HL6:=zh hl
      have H6:=zh hr
      clear hr hp hs hl hk ht
      unfold zma
      have HP:=zh (show zHa l=.ok (a6,l6) by unfold zHa;exact ((zja HI.out _ _)).trans (((zja HIa.out _ _)).trans (((zja HIb.out _ _)).trans (((zya HIc.out _ _)).trans (H6.out)))))
      go_wp2_with ((with_reducible refine zra 25 (.tmp 2) ?_);refine zea rfl 25 (.tmp 2) (.tmp 32) rfl w.heap.size (zaa (a6) (kv6)) rfl rfl HB6.out Tryd.zca rfl (zda _ _ HT6.out.kat.one) ?_)
      exact zua (cs:=zaa (a6) (kv6)) Tryd.results88 rfl HB6.out Tryd.underlying25 rfl Tryd.zca rfl (Run.node HR6.out HT6.out.lo HP.out (by have:=HL0.out;have:=HL6.out;first|omega|(simp only [List.length_tail] at *;omega)))
    | false =>
     have HIc:=zh hc
     clear hc
     go_wp2_with fail
     refine (zFa HR4.out.st HIc.out).mono ?_
     rintro e w5 ⟨rfl,hb⟩
     have HR5:=zh (HR4.out.below hb)
     have hzR5:=HR5.out.size
     have HB5:=zh (HB4.out.kp (Kp.of_below (pb:=E.pb) hb) (by omega))
     have hzHB5:=HB5.out.lt
     clear hb
     cases hd:isT (hdT l) (bs [114,101,116,117,114,110]) with
     | true =>
      have HId:=zh hd
      clear hd
      go_wp2_with fail
      refine (zBa HR5.out.st HId.out (by decide)).mono ?_
      rintro e w6 ⟨rfl,hs,hk⟩
      have HR6:=zh (HR5.out.call hk hs)
      have hzR6:=HR6.out.size
      have HB6:=zh (HB5.out.kp hk (by omega))
      have hzHB6:=HB6.out.lt
      clear hs hk
      go_wp2_with fail
      refine (Calls.weak (zTf HR6.out.st _) HL0.out).mono ?_
      intro e w7 hp
      cases hr:zqc (hdT l).place l.tail with
      | error pc =>
       obtain ⟨p,c⟩:=pc
       obtain ⟨rfl,hk,hcd⟩:=hp.err hr
       have HK:=zh (HR6.out.kp.trans hk)
       have HP:=zh (show zHa l=.error (p,c) by unfold zHa;exact ((zja HI.out _ _)).trans (((zja HIa.out _ _)).trans (((zja HIb.out _ _)).trans (((zja HIc.out _ _)).trans (((zya HId.out _ _)).trans (hr))))))
       clear hr hp hk
       go_wp2
       exact ⟨rfl,Run.err HK.out HP.out hcd⟩
      | ok q =>
       obtain ⟨a7,l7⟩:=q
       obtain ⟨v7,rfl,hv,hs,hl,hk⟩:=hp.ok hr
       obtain ⟨kv7,rfl,ht⟩:=hv
       have HT7:=zh (ht.weak HB6.out.lt)
       have HR7:=zh (HR6.out.call hk hs)
       have hzR7:=HR7.out.size
       have HB7:=zh (HB6.out.kp hk (by omega))
       have hzHB7:=HB7.out.lt
       have HL7:=zh hl
       have H7:=zh hr
       clear hr hp hs hl hk ht
       unfold zma
       have HP:=zh (show zHa l=.ok (a7,l7) by unfold zHa;exact ((zja HI.out _ _)).trans (((zja HIa.out _ _)).trans (((zja HIb.out _ _)).trans (((zja HIc.out _ _)).trans (((zya HId.out _ _)).trans (H7.out))))))
       go_wp2_with ((with_reducible refine zra 25 (.tmp 2) ?_);refine zea rfl 25 (.tmp 2) (.tmp 38) rfl w.heap.size (zaa (a7) (kv7)) rfl rfl HB7.out Tryd.zca rfl (zda _ _ HT7.out.kat.one) ?_)
       exact zua (cs:=zaa (a7) (kv7)) Tryd.results88 rfl HB7.out Tryd.underlying25 rfl Tryd.zca rfl (Run.node HR7.out HT7.out.lo HP.out (by have:=HL7.out;first|omega|(simp only [List.length_tail] at *;omega)))
     | false =>
      have HId:=zh hd
      clear hd
      go_wp2_with fail
      refine (zFa HR5.out.st HId.out).mono ?_
      rintro e w6 ⟨rfl,hb⟩
      have HR6:=zh (HR5.out.below hb)
      have hzR6:=HR6.out.size
      have HB6:=zh (HB5.out.kp (Kp.of_below (pb:=E.pb) hb) (by omega))
      have hzHB6:=HB6.out.lt
      clear hb
      cases he:isT (hdT l) (bs [97,98,111,114,116]) with
      | true =>
       have HIe:=zh he
       clear he
       go_wp2_with fail
       refine (zBa HR6.out.st HIe.out (by decide)).mono ?_
       rintro e w7 ⟨rfl,hs,hk⟩
       have HR7:=zh (HR6.out.call hk hs)
       have hzR7:=HR7.out.size
       have HB7:=zh (HB6.out.kp hk (by omega))
       have hzHB7:=HB7.out.lt
       clear hs hk
       have HP:=zh (show zHa l=.ok (T.mk 18 e0 0 (hdT l).place [],l.tail) by unfold zHa;exact ((zja HI.out _ _)).trans (((zja HIa.out _ _)).trans (((zja HIb.out _ _)).trans (((zja HIc.out _ _)).trans (((zja HId.out _ _)).trans ((zya HIe.out _ _)))))))
       go_wp2_with ((with_reducible refine zra 25 (.tmp 2) ?_);refine zea rfl 25 (.tmp 2) (.tmp 43) rfl w.heap.size (zaa (T.mk 18 e0 0 (hdT l).place []) (.slice none 0 0)) rfl rfl HB7.out Tryd.zca rfl (zda _ _ rfl) ?_)
       exact zua (cs:=zaa (T.mk 18 e0 0 (hdT l).place []) (.slice none 0 0)) Tryd.results88 rfl HB7.out Tryd.underlying25 rfl Tryd.zca rfl (Run.node HR7.out ((KAt.nil _ _ _).tat _ _ _ _) HP.out (by have:=HL0.out;first|omega|(simp only [List.length_tail] at *;omega)))
      | false =>
       have HIe:=zh he
       clear he
       go_wp2_with fail
       refine (zFa HR6.out.st HIe.out).mono ?_
       rintro e w7 ⟨rfl,hb⟩
       have HR7:=zh (HR6.out.below hb)
       have hzR7:=HR7.out.size
       have HB7:=zh (HB6.out.kp (Kp.of_below (pb:=E.pb) hb) (by omega))
       have hzHB7:=HB7.out.lt
       clear hb
       cases hf:isT (hdT l) (bs [102,111,114,107]) with
       | true =>
        have HIf:=zh hf
        clear hf
        go_wp2_with fail
        refine (zBa HR7.out.st HIf.out (by decide)).mono ?_
        rintro e w8 ⟨rfl,hs,hk⟩
        have HR8:=zh (HR7.out.call hk hs)
        have hzR8:=HR8.out.size
        have HB8:=zh (HB7.out.kp hk (by omega))
        have hzHB8:=HB8.out.lt
        clear hs hk
        go_wp2_with fail
        refine (name_any HR8.out.st).mono ?_
        intro e w9 hp
        cases hr:zac l.tail with
        | error pc =>
         obtain ⟨p,c⟩:=pc
         obtain ⟨rfl,hk,hcd⟩:=hp.err hr
         have HK:=zh (HR8.out.kp.trans hk)
         have HP:=zh (show zHa l=.error (p,c) by unfold zHa;exact ((zja HI.out _ _)).trans (((zja HIa.out _ _)).trans (((zja HIb.out _ _)).trans (((zja HIc.out _ _)).trans (((zja HId.out _ _)).trans (((zja HIe.out _ _)).trans (((zya HIf.out _ _)).trans ((zpa hr _)))))))))
         clear hr hp hk
         go_wp2
         exact ⟨rfl,Run.err HK.out HP.out hcd⟩
        | ok q =>
         obtain ⟨a9,l9⟩:=q
         obtain ⟨v9,rfl,hv,hs,hl,hk⟩:=hp.ok hr
         obtain rfl:v9=.string a9:=hv
         have HR9:=zh (HR8.out.call hk hs)
         have hzR9:=HR9.out.size
         have HB9:=zh (HB8.out.kp hk (by omega))
         have hzHB9:=HB9.out.lt
         have HL9:=zh hl
         have H9:=zh hr
         clear hr hp hs hl hk
         go_wp2_with fail
         refine (zZd HR9.out.st (zNj E d)).mono ?_
         intro e w10 hp
         cases hr:zib zKb l9 with
         | error pc =>
          obtain ⟨p,c⟩:=pc
          obtain ⟨rfl,hk,hcd⟩:=hp.err hr
          have HK:=zh (HR9.out.kp.trans hk)
          have HP:=zh (show zHa l=.error (p,c) by unfold zHa;exact ((zja HI.out _ _)).trans (((zja HIa.out _ _)).trans (((zja HIb.out _ _)).trans (((zja HIc.out _ _)).trans (((zja HId.out _ _)).trans (((zja HIe.out _ _)).trans (((zya HIf.out _ _)).trans (((zia H9.out _)).trans ((zpa hr _))))))))))
          clear hr hp hk
          go_wp2
          exact ⟨rfl,Run.err HK.out HP.out hcd⟩
         | ok q =>
          obtain ⟨a10,l10⟩:=q
          obtain ⟨v10,rfl,hv,hs,hl,hk⟩:=hp.ok hr
          have HT10:=zh (hv.1.weak HB9.out.lt)
          have HC10:=zh hv.2
          obtain ⟨sa10,sn10,sc10,rfl⟩:=HT10.out.slice
          have HR10:=zh (HR9.out.call hk hs)
          have hzR10:=HR10.out.size
          have HB10:=zh (HB9.out.kp hk (by omega))
          have hzHB10:=HB10.out.lt
          have HL10:=zh hl
          have H10:=zh hr
          clear hr hp hs hl hk hv
          have HP:=zh (show zHa l=.ok (T.mk 19 a9 0 (hdT l).place a10,l10) by unfold zHa;exact ((zja HI.out _ _)).trans (((zja HIa.out _ _)).trans (((zja HIb.out _ _)).trans (((zja HIc.out _ _)).trans (((zja HId.out _ _)).trans (((zja HIe.out _ _)).trans (((zya HIf.out _ _)).trans (((zia H9.out _)).trans ((zia H10.out _))))))))))
          go_wp2_with ((with_reducible refine zra 25 (.tmp 2) ?_);refine zea rfl 25 (.tmp 2) (.tmp 54) rfl w.heap.size (zaa (T.mk 19 a9 0 (hdT l).place a10) (.slice sa10 sn10 sc10)) rfl rfl HB10.out Tryd.zca rfl (zda _ _ rfl) ?_)
          exact zua (cs:=zaa (T.mk 19 a9 0 (hdT l).place a10) (.slice sa10 sn10 sc10)) Tryd.results88 rfl HB10.out Tryd.underlying25 rfl Tryd.zca rfl (Run.node HR10.out (HT10.out.lo.tat _ _ _ _) HP.out (by have:=HL0.out;have:=HL9.out;have:=HL10.out;first|omega|(simp only [List.length_tail] at *;omega)))
       | false =>
        have HIf:=zh hf
        clear hf
        go_wp2_with fail
        refine (zFa HR7.out.st HIf.out).mono ?_
        rintro e w8 ⟨rfl,hb⟩
        have HR8:=zh (HR7.out.below hb)
        have hzR8:=HR8.out.size
        have HB8:=zh (HB7.out.kp (Kp.of_below (pb:=E.pb) hb) (by omega))
        have hzHB8:=HB8.out.lt
        clear hb
        go_wp2_with fail
        refine (zGd HR8.out.st).mono ?_
        rintro e w9 ⟨rfl,hb⟩
        have HR9:=zh (HR8.out.below hb)
        have hzR9:=HR9.out.size
        have HB9:=zh (HB8.out.kp (Kp.of_below (pb:=E.pb) hb) (by omega))
        have hzHB9:=HB9.out.lt
        clear hb
        have HP:=zh (show zHa l=.error ((hdT l).place,20) by unfold zHa;exact ((zja HI.out _ _)).trans (((zja HIa.out _ _)).trans (((zja HIb.out _ _)).trans (((zja HIc.out _ _)).trans (((zja HId.out _ _)).trans (((zja HIe.out _ _)).trans ((zja HIf.out _ _))))))))
        go_wp2
        exact ⟨rfl,Run.err HR9.out.kp HP.out (.inl rfl)⟩
end Go.Proofs.YtdhmdfhnkppnmaaDoor
