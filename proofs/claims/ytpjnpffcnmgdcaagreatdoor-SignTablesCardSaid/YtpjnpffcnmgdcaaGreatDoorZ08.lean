/- The contracts of the parser's compare, fact, field, sort, valueMode, mode, param. A local variable of type Node whose Kids grow: what is known of it (KLoc), and how things stand behind 'n.Kids = append(n.Kids, ..)'. -/
import Derived.Test.YtpjnpffcnmgdcaaGreatDoorZ05
import Derived.Test.YtpjnpffcnmgdcaaGreatDoorZ04
namespace Go.Proofs.YtpjnpffcnmgdcaaGreatDoor
set_option maxRecDepth 100000
set_option maxHeartbeats 1000000
section
open Go.RowKit
theorem zbg {E:Env} {w:World} {l:List Tok} {d:Nat} (h:PSt E w l d) (k:Int) (pl:Nat) :
  Calls Tryz.prog 123 #[.pointer (some ⟨E.pb,0,none⟩),.int .i64 k,.int .i64 pl] w (zMb zTc E w l d (zib k pl l)):=by
 have HR0:=zh ((Run.start h).alloc (.cells zba.toArray 25))
 have HB0:=zh (Blk.new w zba 25)
 have hlo:=h.plt
 have hlt:=h.tlt
 have hln:=h.len
 clear h
 go_enter Tryz.func123,Tryz.ntmps123
 go_wp2_with fail
 refine (zMf HR0.out.st).mono ?_
 intro e w1 hp
 cases hr:zXa l with
 | error pc =>
  obtain ⟨p,c⟩:=pc
  obtain ⟨rfl,hk,hcd⟩:=hp.err hr
  have HK:=zh (HR0.out.kp.trans hk)
  have HP:=zh (show zib k pl l=.error (p,c) by unfold zib;exact (zya hr _))
  clear hr hp hk
  go_wp2
  exact ⟨rfl,Run.err HK.out HP.out hcd⟩
 | ok q =>
  obtain ⟨a1,l1⟩:=q
  obtain ⟨v1,rfl,hv,hs,hl,hk⟩:=hp.ok hr
  obtain ⟨kv1,rfl,ht⟩:=hv
  have HT1:=zh (ht.weak HB0.out.lt)
  have HR1:=zh (HR0.out.call hk hs)
  have hzR1:=HR1.out.size
  have HB1:=zh (HB0.out.kp hk (by omega))
  have hzHB1:=HB1.out.lt
  have HL1:=zh hl
  have H1:=zh hr
  clear hr hp hs hl hk ht
  unfold zna
  go_wp2_with ((with_reducible refine zla 25 (.tmp 7) ?_);refine zga rfl 25 (.tmp 7) (.tmp 10) rfl (zaa (a1) (kv1)) (old:=zba) rfl rfl Tryz.zea rfl (zca _ _ HT1.out.kat.one) ?_)
  go_wp2_with fail
  refine (zcb (HR1.out.alloc _).st [bs [60],bs [60,61],bs [61,61]] (by decide) (by decide) (by simp) rfl rfl).mono ?_
  intro e w2 hp
  cases hr:zsa [bs [60],bs [60,61],bs [61,61]] l1 with
  | error pc =>
   obtain ⟨p,c⟩:=pc
   obtain ⟨rfl,hk,hcd⟩:=hp.err hr
   have HK:=zh ((HR1.out.alloc _).kp.trans hk)
   have HP:=zh (show zib k pl l=.error (p,c) by unfold zib;exact ((zpa H1.out _)).trans ((zya hr _)))
   clear hr hp hk
   go_wp2
   exact ⟨rfl,Run.err HK.out HP.out hcd⟩
  | ok q =>
   obtain ⟨a2,l2⟩:=q
   obtain ⟨v2,rfl,hv,hs,hl,hk⟩:=hp.ok hr
   obtain ⟨rfl,hto⟩:=hv
   have HR2:=zh ((HR1.out.alloc _).call hk hs)
   have hzR2:=HR2.out.size
   have HB2:=zh ((HB1.out.alloc _).kp hk (by omega))
   have hzHB2:=HB2.out.lt
   have HN2:=zh ((Blk.new w1 (zaa (a1) (kv1)) 25).kp hk (by first|omega|(have:=HR0.out.size;simp at *;omega)))
   have hzHN2:=HN2.out.lt
   have HT1_2:=zh ((HT1.out.alloc _).kp hk (fun b hb=>by omega))
   have HL2:=zh hl
   have H2:=zh hr
   clear hr hp hs hl hk hto
   unfold zmb
   go_wp2_with fail
   refine AnyE.zCc (S:=fun W=>Blk W w2.heap.size (zGa a2) 113∧Blk W w1.heap.size (zaa a1 kv1) 25) (by kernel_rfl) (And.intro (Blk.new w2 (zGa a2) 113).drew (HN2.out.alloc _).drew) (fun hS=>?_)
   refine AnyE.take (i:=0) (v:=.int .i64 k) rfl (by kernel_rfl) (by kernel_rfl) (by kernel_rfl) (by kernel_rfl) (fun _ _ _ h=>h) (Or.inl ⟨by rfl,fun W _=>by go_simp⟩) hS ?_
   refine AnyE.take (i:=1) (v:=.pointer (some ⟨w2.heap.size,1,none⟩)) rfl (by kernel_rfl) (by kernel_rfl) (by kernel_rfl) (by kernel_rfl) (fun _ _ _ h=>h) (Or.inl ⟨by rfl,fun W _=>by go_simp⟩) hS ?_
   refine AnyE.take (i:=2) (v:=.string a2.text) rfl (by kernel_rfl) (by kernel_rfl) (by kernel_rfl) (by kernel_rfl) (fun _ _ _ h=>h) (Or.inl ⟨by rfl,fun W hW=>by have hcx:W.cell? ⟨w2.heap.size,1,none⟩=some (.string a2.text):=hW.1.cell 1;go_simp⟩) hS ?_
   refine AnyE.take (i:=3) (v:=.int .i64 pl) rfl (by kernel_rfl) (by kernel_rfl) (by kernel_rfl) (by kernel_rfl) (fun _ _ _ h=>h) (Or.inl ⟨by rfl,fun W _=>by go_simp⟩) hS ?_
   refine AnyE.take (i:=4) (v:=.agg #[.int .i64 (a1).kind,.string (a1).text,.int .i64 (a1).num,.int .i64 (a1).place,kv1]) rfl (by kernel_rfl) (by kernel_rfl) (by kernel_rfl) (by kernel_rfl) (fun _ _ _ h=>h) (yieldsIf_load_mid (cs:=zaa (a1) (kv1)) (by rfl) 25 (.tmp 7) rfl (w1.heap.size) 0 rfl _ (fun W hW j v hj=>by rw [Nat.zero_add,(hW.2).cell j];exact hj) Tryz.underlying25 rfl Tryz.zea) hS ?_
   refine AnyE.take (i:=5) (v:=.pointer (some ⟨E.pb,0,none⟩)) rfl (by kernel_rfl) (by kernel_rfl) (by kernel_rfl) (by kernel_rfl) (fun _ _ _ h=>h) (Or.inl ⟨by rfl,fun W _=>by go_simp⟩) hS ?_
   refine AnyE.one (i:=6) (by kernel_rfl) rfl (by rfl) (fun K hK=>?_)
   go_simp
   refine (zMf ((HR2.out.alloc _).drew).st).mono ?_
   intro e w3 hp
   cases hr:zXa l2 with
   | error pc =>
    obtain ⟨p,c⟩:=pc
    obtain ⟨rfl,hk,hcd⟩:=hp.err hr
    have HK:=zh (((HR2.out.alloc _).drew).kp.trans hk)
    have HP:=zh (show zib k pl l=.error (p,c) by unfold zib;exact ((zpa H1.out _)).trans (((zpa H2.out _)).trans ((zya hr _))))
    clear hr hp hk
    go_wp2
    exact ⟨rfl,Run.err HK.out HP.out hcd⟩
   | ok q =>
    obtain ⟨a3,l3⟩:=q
    obtain ⟨v3,rfl,hv,hs,hl,hk⟩:=hp.ok hr
    obtain ⟨kv3,rfl,ht⟩:=hv
    have HT3:=zh (ht.weak ((HB2.out.alloc _).drew).lt)
    have huHN3:=Blk.zNb hk ((HN2.out.alloc _).drew)
    have HU3:=zh (ht.mono (S':=fun b=>w.heap.size<b∧w1.heap.size<b) (fun b hb _=>by have:=Blk.zNb hk ((HB2.out.alloc _).drew);omega))
    have HR3:=zh (((HR2.out.alloc _).drew).call hk hs)
    have hzR3:=HR3.out.size
    have HB3:=zh (((HB2.out.alloc _).drew).kp hk (by omega))
    have hzHB3:=HB3.out.lt
    have HN3:=zh (((HN2.out.alloc _).drew).kp hk (by first|omega|(have:=HR0.out.size;simp at *;omega)))
    have hzHN3:=HN3.out.lt
    have HK_3:=zh (((Blk.new w2 (zGa a2) 113).drew).kp hk (by first|omega|(have:=HR0.out.size;simp at *;omega)))
    have hzHK_3:=HK_3.out.lt
    have HT1_3:=zh (((HT1_2.out.alloc _).drew).kp hk (fun b hb=>by omega))
    have HL3:=zh hl
    have H3:=zh hr
    clear hr hp hs hl hk ht
    unfold zna
    refine hK.out _ _ (fun _=>⟨HK_3.out,HN3.out⟩) ?_
    clear hK K
    refine AnyE.one (i:=7) (by kernel_rfl) rfl (by rfl) (fun K hK=>?_)
    go_simp
    refine hK.out _ _ (fun _=>⟨HK_3.out.alloc _,HN3.out.alloc _⟩) ?_
    clear hK K
    refine AnyE.one (i:=8) (by kernel_rfl) rfl (by rfl) (fun K hK=>?_)
    go_simp
    refine hK.out _ _ (fun _=>⟨HK_3.out.alloc _,HN3.out.alloc _⟩) ?_
    clear hK K
    have HP:=zh (show zib k pl l=.ok (T.mk k a2.text 0 pl [a1,a3],l3) by unfold zib;exact ((zpa H1.out _)).trans (((zpa H2.out _)).trans ((zpa H3.out _))))
    refine AnyE.one (i:=9) (by kernel_rfl) rfl (by rfl) (fun K hK=>?_)
    refine zva 25 (.tmp 6) (.tmp 22) rfl (w.heap.size) (zaa (T.mk k a2.text 0 pl [a1,a3]) (.slice (some ⟨w3.heap.size,0,none⟩) 2 2)) rfl rfl (HB3.out.alloc _) Tryz.zea rfl (zca _ _ rfl) ?_
    refine hK.out _ _ (fun h=>absurd rfl h) ?_
    clear hK K
    refine AnyE.done (by kernel_rfl) ?_ _
    go_wp2
    exact zkf (cs:=zaa (T.mk k a2.text 0 pl [a1,a3]) (.slice (some ⟨w3.heap.size,0,none⟩) 2 2)) Tryz.results123 rfl (HB3.out.alloc _) Tryz.underlying25 rfl Tryz.zea rfl (Run.node (HR3.out.alloc _) ((KAt.zHs HT1_3.out.lo HT3.out.lo hzHB3).tat _ _ _ _) HP.out (by have:=HL1.out;have:=HL2.out;have:=HL3.out;first|omega|(simp only [List.length_tail] at *;omega)))
theorem zds {E:Env} {w:World} {l:List Tok} {d:Nat} (h:PSt E w l d) :
  Calls Tryz.prog 111 #[.pointer (some ⟨E.pb,0,none⟩)] w (zMb zTc E w l d (zWd l)):=by
 have HR0:=zh ((Run.start h).alloc (.cells zba.toArray 25))
 have HB0:=zh (Blk.new w zba 25)
 have hlo:=h.plt
 have hlt:=h.tlt
 have hln:=h.len
 clear h
 go_enter Tryz.func111,Tryz.ntmps111
 go_wp2_with fail
 refine (zJb HR0.out.st).mono ?_
 rintro e w1 ⟨rfl,hb⟩
 have HR1:=zh (HR0.out.below hb)
 have hzR1:=HR1.out.size
 have HB1:=zh (HB0.out.kp (Kp.of_below (pb:=E.pb) hb) (by omega))
 have hzHB1:=HB1.out.lt
 clear hb
 unfold zmb
 have fl0:=zjc
 have fl1:=zfc
 have fl3:=zic
 go_wp2_with fail
 refine (zbg HR1.out.st 4 _).mono ?_
 intro e w2 hp
 cases hr:zib 4 (hdT l).place l with
 | error pc =>
  obtain ⟨p,c⟩:=pc
  obtain ⟨rfl,hk,hcd⟩:=hp.err hr
  have HK:=zh (HR1.out.kp.trans hk)
  have HP:=zh (show zWd l=.error (p,c) by unfold zWd;exact hr)
  clear hr hp hk
  go_wp2
  exact ⟨rfl,Run.err HK.out HP.out hcd⟩
 | ok q =>
  obtain ⟨a2,l2⟩:=q
  obtain ⟨v2,rfl,hv,hs,hl,hk⟩:=hp.ok hr
  obtain ⟨kv2,rfl,ht⟩:=hv
  have HT2:=zh (ht.weak HB1.out.lt)
  have HR2:=zh (HR1.out.call hk hs)
  have hzR2:=HR2.out.size
  have HB2:=zh (HB1.out.kp hk (by omega))
  have hzHB2:=HB2.out.lt
  have HL2:=zh hl
  have H2:=zh hr
  clear hr hp hs hl hk ht
  unfold zna
  have HP:=zh (show zWd l=.ok (a2,l2) by unfold zWd;exact H2.out)
  go_wp2_with ((with_reducible refine zla 25 (.tmp 2) ?_);refine zda rfl 25 (.tmp 2) (.tmp 7) rfl w.heap.size (zaa (a2) (kv2)) rfl rfl HB2.out Tryz.zea rfl (zca _ _ HT2.out.kat.one) ?_)
  exact zma (cs:=zaa (a2) (kv2)) Tryz.results111 rfl HB2.out Tryz.underlying25 rfl Tryz.zea rfl (Run.node HR2.out HT2.out.lo HP.out (by have:=HL2.out;first|omega|(simp only [List.length_tail] at *;omega)))
theorem zop {E:Env} {w:World} {l:List Tok} {d:Nat} (h:PSt E w l d) :
  Calls Tryz.prog 110 #[.pointer (some ⟨E.pb,0,none⟩)] w (zMb zTc E w l d (zsc l)):=by
 have HR0:=zh ((Run.start h).alloc (.cells zba.toArray 25))
 have HB0:=zh (Blk.new w zba 25)
 have hlo:=h.plt
 have hlt:=h.tlt
 have hln:=h.len
 clear h
 go_enter Tryz.func110,Tryz.ntmps110
 go_wp2_with fail
 refine (zJb HR0.out.st).mono ?_
 rintro e w1 ⟨rfl,hb⟩
 have HR1:=zh (HR0.out.below hb)
 have hzR1:=HR1.out.size
 have HB1:=zh (HB0.out.kp (Kp.of_below (pb:=E.pb) hb) (by omega))
 have hzHB1:=HB1.out.lt
 clear hb
 unfold zmb
 have fl0:=zjc
 have fl1:=zfc
 have fl3:=zic
 go_wp2_with fail
 refine (name_any HR1.out.st).mono ?_
 intro e w2 hp
 cases hr:zKb l with
 | error pc =>
  obtain ⟨p,c⟩:=pc
  obtain ⟨rfl,hk,hcd⟩:=hp.err hr
  have HK:=zh (HR1.out.kp.trans hk)
  have HP:=zh (show zsc l=.error (p,c) by unfold zsc;exact (zya hr _))
  clear hr hp hk
  go_wp2
  exact ⟨rfl,Run.err HK.out HP.out hcd⟩
 | ok q =>
  obtain ⟨a2,l2⟩:=q
  obtain ⟨v2,rfl,hv,hs,hl,hk⟩:=hp.ok hr
  obtain rfl:v2=.string a2:=hv
  have HR2:=zh (HR1.out.call hk hs)
  have hzR2:=HR2.out.size
  have HB2:=zh (HB1.out.kp hk (by omega))
  have hzHB2:=HB2.out.lt
  have HL2:=zh hl
  have H2:=zh hr
  clear hr hp hs hl hk
  cases hi:isT (hdT l2) (bs [91]) with
  | false =>
   have HIi:=zh hi
   clear hi
   go_wp2_with fail
   refine (zSa (HR2.out.alloc _).st HIi.out).mono ?_
   rintro e w3 ⟨rfl,hb⟩
   have HR3:=zh ((HR2.out.alloc _).below hb)
   have hzR3:=HR3.out.size
   have HB3:=zh ((HB2.out.alloc _).kp (Kp.of_below (pb:=E.pb) hb) (by omega))
   have hzHB3:=HB3.out.lt
   have HN3:=zh ((Blk.new w2 (zaa (T.mk 3 a2 0 (hdT l).place []) (.slice none 0 0)) 25).kp (Kp.of_below (pb:=E.pb) hb) (by first|omega|(have:=HR0.out.size;simp at *;omega)))
   have hzHN3:=HN3.out.lt
   clear hb
   have HP:=zh (show zsc l=.ok (T.mk 3 a2 0 (hdT l).place [],l2) by unfold zsc;exact ((zpa H2.out _)).trans ((zwa HIi.out _ _)))
   go_wp2_with (first|((with_reducible refine zqa 25 (.tmp 4) ?_);refine zia rfl 25 (.tmp 4) rfl w2.heap.size (zaa (T.mk 3 a2 0 (hdT l).place []) (.slice none 0 0)) rfl (show Blk _ w2.heap.size (zaa (T.mk 3 a2 0 (hdT l).place []) (.slice none 0 0)) 25 from HN3.out) Tryz.underlying25 rfl Tryz.zea ?_)|((with_reducible refine zla 25 (.tmp 2) ?_);refine zda rfl 25 (.tmp 2) (.tmp 21) rfl w.heap.size (zaa (T.mk 3 a2 0 (hdT l).place []) (.slice none 0 0)) rfl rfl HB3.out Tryz.zea rfl (zca _ _ rfl) ?_))
   exact zma (cs:=zaa (T.mk 3 a2 0 (hdT l).place []) (.slice none 0 0)) Tryz.results110 rfl HB3.out Tryz.underlying25 rfl Tryz.zea rfl (Run.node HR3.out ((KAt.nil _ _ _).tat _ _ _ _) HP.out (by have:=HL2.out;first|omega|(simp only [List.length_tail] at *;omega)))
  | true =>
   have HIi:=zh hi
   clear hi
   go_wp2_with fail
   refine (zLa (HR2.out.alloc _).st HIi.out (by decide)).mono ?_
   rintro e w3 ⟨rfl,hs,hk⟩
   have HR3:=zh ((HR2.out.alloc _).call hk hs)
   have hzR3:=HR3.out.size
   have HB3:=zh ((HB2.out.alloc _).kp hk (by omega))
   have hzHB3:=HB3.out.lt
   have HN3:=zh ((Blk.new w2 (zaa (T.mk 3 a2 0 (hdT l).place []) (.slice none 0 0)) 25).kp hk (by first|omega|(have:=HR0.out.size;simp at *;omega)))
   have hzHN3:=HN3.out.lt
   clear hs hk
   go_wp2_with fail
   refine (zYb HR3.out.st).mono ?_
   intro e w4 hp
   cases hr:zoa l2.tail with
   | error pc =>
    obtain ⟨p,c⟩:=pc
    obtain ⟨rfl,hk,hcd⟩:=hp.err hr
    have HK:=zh (HR3.out.kp.trans hk)
    have HP:=zh (show zsc l=.error (p,c) by unfold zsc;exact ((zpa H2.out _)).trans (((zFa HIi.out _ _)).trans ((zya hr _))))
    clear hr hp hk
    go_wp2
    exact ⟨rfl,Run.err HK.out HP.out hcd⟩
   | ok q =>
    obtain ⟨a4,l4⟩:=q
    obtain ⟨v4,rfl,hv,hs,hl,hk⟩:=hp.ok hr
    obtain ⟨kv4,rfl,ht⟩:=hv
    have HT4:=zh (ht.weak HB3.out.lt)
    have huHN4:=Blk.zNb hk HN3.out
    have HU4:=zh (ht.mono (S':=fun b=>w.heap.size<b∧w2.heap.size<b) (fun b hb _=>by have:=Blk.zNb hk HB3.out;omega))
    have HR4:=zh (HR3.out.call hk hs)
    have hzR4:=HR4.out.size
    have HB4:=zh (HB3.out.kp hk (by omega))
    have hzHB4:=HB4.out.lt
    have HN4:=zh (HN3.out.kp hk (by first|omega|(have:=HR0.out.size;simp at *;omega)))
    have hzHN4:=HN4.out.lt
    have HL4:=zh hl
    have H4:=zh hr
    clear hr hp hs hl hk ht
    unfold zna
    have hcell:_root_.Go.World.cell? _ ⟨w2.heap.size,4,none⟩=some (.slice none 0 0):=HN4.out.cell 4
    have hfroz:=HN4.out.frozen 4
    have HQ:=zh (KAt.zxp (e:=25) (w:=w4) (t:=a4) (v:=kv4) HU4.out ⟨w2.heap.size,4,none⟩ (.slice (some ⟨w4.heap.size,0,none⟩) 1 1) (fun b hb=>by show _≠w2.heap.size;omega) ⟨by omega,by omega⟩)
    go_wp2_with fail
    refine (zcb ((HR4.out.setCell (a:=⟨w2.heap.size,4,none⟩) (by show w.heap.size≤w2.heap.size;omega) _).alloc _).st [bs [93]] (by decide) (by decide) (by simp) rfl rfl).mono ?_
    intro e w5 hp
    cases hr:zsa [bs [93]] l4 with
    | error pc =>
     obtain ⟨p,c⟩:=pc
     obtain ⟨rfl,hk,hcd⟩:=hp.err hr
     have HK:=zh (((HR4.out.setCell (a:=⟨w2.heap.size,4,none⟩) (by show w.heap.size≤w2.heap.size;omega) _).alloc _).kp.trans hk)
     have HP:=zh (show zsc l=.error (p,c) by unfold zsc;exact ((zpa H2.out _)).trans (((zFa HIi.out _ _)).trans (((zpa H4.out _)).trans ((zya hr _)))))
     clear hr hp hk
     go_wp2
     exact ⟨rfl,Run.err HK.out HP.out hcd⟩
    | ok q =>
     obtain ⟨a5,l5⟩:=q
     obtain ⟨v5,rfl,hv,hs,hl,hk⟩:=hp.ok hr
     obtain ⟨rfl,hto⟩:=hv
     have HR5:=zh (((HR4.out.setCell (a:=⟨w2.heap.size,4,none⟩) (by show w.heap.size≤w2.heap.size;omega) _).alloc _).call hk hs)
     have hzR5:=HR5.out.size
     have HB5:=zh (((HB4.out.setOther ⟨w2.heap.size,4,none⟩ _ (by show _≠w2.heap.size;omega)).alloc _).kp hk (by omega))
     have hzHB5:=HB5.out.lt
     have HN5:=zh (((HN4.out.zNa 4 (.slice (some ⟨w4.heap.size,0,none⟩) 1 1)).alloc _).kp hk (by first|omega|(have:=HR0.out.size;simp at *;omega)))
     have hzHN5:=HN5.out.lt
     have HQ_5:=zh (HQ.out.kp hk (fun b hb=>by omega))
     have HL5:=zh hl
     have H5:=zh hr
     clear hr hp hs hl hk hto
     unfold zmb
     have HP:=zh (show zsc l=.ok (T.mk 3 a2 0 (hdT l).place [a4],l5) by unfold zsc;exact ((zpa H2.out _)).trans (((zFa HIi.out _ _)).trans (((zpa H4.out _)).trans ((zpa H5.out _)))))
     go_wp2_with (first|((with_reducible refine zqa 25 (.tmp 4) ?_);refine zia rfl 25 (.tmp 4) rfl w2.heap.size (zaa (T.mk 3 a2 0 (hdT l).place [a4]) (.slice (some ⟨w4.heap.size,0,none⟩) 1 1)) rfl (show Blk _ w2.heap.size (zaa (T.mk 3 a2 0 (hdT l).place [a4]) (.slice (some ⟨w4.heap.size,0,none⟩) 1 1)) 25 from HN5.out) Tryz.underlying25 rfl Tryz.zea ?_)|((with_reducible refine zla 25 (.tmp 2) ?_);refine zda rfl 25 (.tmp 2) (.tmp 21) rfl w.heap.size (zaa (T.mk 3 a2 0 (hdT l).place [a4]) (.slice (some ⟨w4.heap.size,0,none⟩) 1 1)) rfl rfl HB5.out Tryz.zea rfl (zca _ _ rfl) ?_))
     exact zma (cs:=zaa (T.mk 3 a2 0 (hdT l).place [a4]) (.slice (some ⟨w4.heap.size,0,none⟩) 1 1)) Tryz.results110 rfl HB5.out Tryz.underlying25 rfl Tryz.zea rfl (Run.node HR5.out ((HQ_5.out.mono (fun b hb _=>hb.1)).tat _ _ _ _) HP.out (by have:=HL2.out;have:=HL4.out;have:=HL5.out;first|omega|(simp only [List.length_tail] at *;omega)))
theorem zwr {E:Env} {w:World} {l:List Tok} {d:Nat} (h:PSt E w l d) :
  Calls Tryz.prog 107 #[.pointer (some ⟨E.pb,0,none⟩)] w (zMb zTc E w l d (zKd l)):=by
 have HR0:=zh ((Run.start h).alloc (.cells zba.toArray 25))
 have HB0:=zh (Blk.new w zba 25)
 have hlo:=h.plt
 have hlt:=h.tlt
 have hln:=h.len
 clear h
 go_enter Tryz.func107,Tryz.ntmps107
 go_wp2_with fail
 refine (zcb HR0.out.st [bs [111,119,110],bs [99,101,108,108],bs [99,111,117,110,116,101,100],bs [108,111,99,107],bs [103,117,97,114,100]] (by decide) (by decide) (by simp) rfl rfl).mono ?_
 intro e w1 hp
 cases hr:zsa [bs [111,119,110],bs [99,101,108,108],bs [99,111,117,110,116,101,100],bs [108,111,99,107],bs [103,117,97,114,100]] l with
 | error pc =>
  obtain ⟨p,c⟩:=pc
  obtain ⟨rfl,hk,hcd⟩:=hp.err hr
  have HK:=zh (HR0.out.kp.trans hk)
  have HP:=zh (show zKd l=.error (p,c) by unfold zKd;exact (zya hr _))
  clear hr hp hk
  go_wp2
  exact ⟨rfl,Run.err HK.out HP.out hcd⟩
 | ok q =>
  obtain ⟨a1,l1⟩:=q
  obtain ⟨v1,rfl,hv,hs,hl,hk⟩:=hp.ok hr
  obtain ⟨rfl,hto⟩:=hv
  have HR1:=zh (HR0.out.call hk hs)
  have hzR1:=HR1.out.size
  have HB1:=zh (HB0.out.kp hk (by omega))
  have hzHB1:=HB1.out.lt
  have HL1:=zh hl
  have H1:=zh hr
  clear hr hp hs hl hk hto
  unfold zmb
  cases ho:isT a1 (bs [111,119,110]) with
  | true =>
   have HOR:=zh (show (isT a1 (bs [111,119,110]) || isT a1 (bs [99,101,108,108]))=true by rw [ho];rfl)
   obtain ⟨ho2,ho3⟩:=ztd ho
   clear ho3
   clear ho
   have HP:=zh (show zKd l=.ok (T.mk 2 a1.text 0 a1.place [],l1) by unfold zKd;exact ((zpa H1.out _)).trans ((zFa HOR.out _ _)))
   go_wp2_with (first|((with_reducible refine zqa 25 (.tmp 4) ?_);refine zia rfl 25 (.tmp 4) rfl (w1.heap.size+1) (zaa (T.mk 2 a1.text 0 a1.place []) (.slice none 0 0)) rfl (show Blk _ (w1.heap.size+1) (zaa (T.mk 2 a1.text 0 a1.place []) (.slice none 0 0)) 25 from (Blk.zTe w1 (.cells (zGa a1).toArray 113) (zaa (T.mk 2 a1.text 0 a1.place []) (.slice none 0 0)) 25)) Tryz.underlying25 rfl Tryz.zea ?_)|((with_reducible refine zla 25 (.tmp 2) ?_);refine zda rfl 25 (.tmp 2) (.tmp 25) rfl w.heap.size (zaa (T.mk 2 a1.text 0 a1.place []) (.slice none 0 0)) rfl rfl ((HB1.out.alloc _).alloc _) Tryz.zea rfl (zca _ _ rfl) ?_))
   exact zma (cs:=zaa (T.mk 2 a1.text 0 a1.place []) (.slice none 0 0)) Tryz.results107 rfl ((HB1.out.alloc _).alloc _) Tryz.underlying25 rfl Tryz.zea rfl (Run.node ((HR1.out.alloc _).alloc _) ((KAt.nil _ _ _).tat _ _ _ _) HP.out (by have:=HL1.out;first|omega|(simp only [List.length_tail] at *;omega)))
  | false =>
   cases hc:isT a1 (bs [99,101,108,108]) with
   | true =>
    have HOR:=zh (show (isT a1 (bs [111,119,110]) || isT a1 (bs [99,101,108,108]))=true by rw [ho,hc];rfl)
    obtain ⟨ho2,ho3⟩:=zlb ho
    obtain ⟨hc2,hc3⟩:=ztd hc
    clear hc3
    clear ho hc
    have HP:=zh (show zKd l=.ok (T.mk 2 a1.text 0 a1.place [],l1) by unfold zKd;exact ((zpa H1.out _)).trans ((zFa HOR.out _ _)))
    go_wp2_with (first|((with_reducible refine zqa 25 (.tmp 4) ?_);refine zia rfl 25 (.tmp 4) rfl (w1.heap.size+1) (zaa (T.mk 2 a1.text 0 a1.place []) (.slice none 0 0)) rfl (show Blk _ (w1.heap.size+1) (zaa (T.mk 2 a1.text 0 a1.place []) (.slice none 0 0)) 25 from (Blk.zTe w1 (.cells (zGa a1).toArray 113) (zaa (T.mk 2 a1.text 0 a1.place []) (.slice none 0 0)) 25)) Tryz.underlying25 rfl Tryz.zea ?_)|((with_reducible refine zla 25 (.tmp 2) ?_);refine zda rfl 25 (.tmp 2) (.tmp 25) rfl w.heap.size (zaa (T.mk 2 a1.text 0 a1.place []) (.slice none 0 0)) rfl rfl ((HB1.out.alloc _).alloc _) Tryz.zea rfl (zca _ _ rfl) ?_))
    exact zma (cs:=zaa (T.mk 2 a1.text 0 a1.place []) (.slice none 0 0)) Tryz.results107 rfl ((HB1.out.alloc _).alloc _) Tryz.underlying25 rfl Tryz.zea rfl (Run.node ((HR1.out.alloc _).alloc _) ((KAt.nil _ _ _).tat _ _ _ _) HP.out (by have:=HL1.out;first|omega|(simp only [List.length_tail] at *;omega)))
   | false =>
    have HOR:=zh (show (isT a1 (bs [111,119,110]) || isT a1 (bs [99,101,108,108]))=false by rw [ho,hc];rfl)
    obtain ⟨ho2,ho3⟩:=zlb ho
    obtain ⟨hc2,hc3⟩:=zlb hc
    clear ho hc
    go_wp2_with fail
    refine (zYb ((HR1.out.alloc _).alloc _).st).mono ?_
    intro e w2 hp
    cases hr:zoa l1 with
    | error pc =>
     obtain ⟨p,c⟩:=pc
     obtain ⟨rfl,hk,hcd⟩:=hp.err hr
     have HK:=zh (((HR1.out.alloc _).alloc _).kp.trans hk)
     have HP:=zh (show zKd l=.error (p,c) by unfold zKd;exact ((zpa H1.out _)).trans (((zwa HOR.out _ _)).trans ((zya hr _))))
     clear hr hp hk
     go_wp2
     exact ⟨rfl,Run.err HK.out HP.out hcd⟩
    | ok q =>
     obtain ⟨a2,l2⟩:=q
     obtain ⟨v2,rfl,hv,hs,hl,hk⟩:=hp.ok hr
     obtain ⟨kv2,rfl,ht⟩:=hv
     have HT2:=zh (ht.weak ((HB1.out.alloc _).alloc _).lt)
     have huHN2:=Blk.zNb hk (Blk.zTe w1 (.cells (zGa a1).toArray 113) (zaa (T.mk 2 a1.text 0 a1.place []) (.slice none 0 0)) 25)
     have HU2:=zh (ht.mono (S':=fun b=>w.heap.size<b∧(w1.heap.size+1)<b) (fun b hb _=>by have:=Blk.zNb hk ((HB1.out.alloc _).alloc _);omega))
     have HR2:=zh (((HR1.out.alloc _).alloc _).call hk hs)
     have hzR2:=HR2.out.size
     have HB2:=zh (((HB1.out.alloc _).alloc _).kp hk (by omega))
     have hzHB2:=HB2.out.lt
     have HK_2:=zh (((Blk.new w1 (zGa a1) 113).alloc _).kp hk (by first|omega|(have:=HR0.out.size;simp at *;omega)))
     have hzHK_2:=HK_2.out.lt
     have HN2:=zh ((Blk.zTe w1 (.cells (zGa a1).toArray 113) (zaa (T.mk 2 a1.text 0 a1.place []) (.slice none 0 0)) 25).kp hk (by first|omega|(have:=HR0.out.size;simp at *;omega)))
     have hzHN2:=HN2.out.lt
     have HL2:=zh hl
     have H2:=zh hr
     clear hr hp hs hl hk ht
     unfold zna
     have hcell:_root_.Go.World.cell? _ ⟨(w1.heap.size+1),4,none⟩=some (.slice none 0 0):=HN2.out.cell 4
     have hfroz:=HN2.out.frozen 4
     have HQ:=zh (KAt.zxp (e:=25) (w:=w2) (t:=a2) (v:=kv2) HU2.out ⟨(w1.heap.size+1),4,none⟩ (.slice (some ⟨w2.heap.size,0,none⟩) 1 1) (fun b hb=>by show _≠(w1.heap.size+1);omega) ⟨by omega,by omega⟩)
     have HP:=zh (show zKd l=.ok (T.mk 2 a1.text 0 a1.place [a2],l2) by unfold zKd;exact ((zpa H1.out _)).trans (((zwa HOR.out _ _)).trans ((zpa H2.out _))))
     go_wp2_with (first|((with_reducible refine zqa 25 (.tmp 4) ?_);refine zia rfl 25 (.tmp 4) rfl (w1.heap.size+1) (zaa (T.mk 2 a1.text 0 a1.place [a2]) (.slice (some ⟨w2.heap.size,0,none⟩) 1 1)) rfl (show Blk _ (w1.heap.size+1) (zaa (T.mk 2 a1.text 0 a1.place [a2]) (.slice (some ⟨w2.heap.size,0,none⟩) 1 1)) 25 from ((HN2.out.zNa 4 (.slice (some ⟨w2.heap.size,0,none⟩) 1 1)).alloc _)) Tryz.underlying25 rfl Tryz.zea ?_)|((with_reducible refine zla 25 (.tmp 2) ?_);refine zda rfl 25 (.tmp 2) (.tmp 25) rfl w.heap.size (zaa (T.mk 2 a1.text 0 a1.place [a2]) (.slice (some ⟨w2.heap.size,0,none⟩) 1 1)) rfl rfl ((HB2.out.setOther ⟨(w1.heap.size+1),4,none⟩ _ (by show _≠(w1.heap.size+1);omega)).alloc _) Tryz.zea rfl (zca _ _ rfl) ?_))
     exact zma (cs:=zaa (T.mk 2 a1.text 0 a1.place [a2]) (.slice (some ⟨w2.heap.size,0,none⟩) 1 1)) Tryz.results107 rfl ((HB2.out.setOther ⟨(w1.heap.size+1),4,none⟩ _ (by show _≠(w1.heap.size+1);omega)).alloc _) Tryz.underlying25 rfl Tryz.zea rfl (Run.node ((HR2.out.setCell (a:=⟨(w1.heap.size+1),4,none⟩) (by show w.heap.size≤(w1.heap.size+1);omega) _).alloc _) ((HQ.out.mono (fun b hb _=>hb.1)).tat _ _ _ _) HP.out (by have:=HL1.out;have:=HL2.out;first|omega|(simp only [List.length_tail] at *;omega)))
theorem zCg {E:Env} {w:World} {l:List Tok} {d:Nat} (h:PSt E w l d) :
  Calls Tryz.prog 114 #[.pointer (some ⟨E.pb,0,none⟩)] w (zMb zTc E w l d (zQa l)):=by
 have HR0:=zh ((Run.start h).alloc (.cells zba.toArray 25))
 have HB0:=zh (Blk.new w zba 25)
 have hlo:=h.plt
 have hlt:=h.tlt
 have hln:=h.len
 clear h
 go_enter Tryz.func114,Tryz.ntmps114
 go_wp2_with fail
 refine (zcb HR0.out.st [bs [105,110,116],bs [111,119,110]] (by decide) (by decide) (by simp) rfl rfl).mono ?_
 intro e w1 hp
 cases hr:zsa [bs [105,110,116],bs [111,119,110]] l with
 | error pc =>
  obtain ⟨p,c⟩:=pc
  obtain ⟨rfl,hk,hcd⟩:=hp.err hr
  have HK:=zh (HR0.out.kp.trans hk)
  have HP:=zh (show zQa l=.error (p,c) by unfold zQa;exact (zya hr _))
  clear hr hp hk
  go_wp2
  exact ⟨rfl,Run.err HK.out HP.out hcd⟩
 | ok q =>
  obtain ⟨a1,l1⟩:=q
  obtain ⟨v1,rfl,hv,hs,hl,hk⟩:=hp.ok hr
  obtain ⟨rfl,hto⟩:=hv
  have HR1:=zh (HR0.out.call hk hs)
  have hzR1:=HR1.out.size
  have HB1:=zh (HB0.out.kp hk (by omega))
  have hzHB1:=HB1.out.lt
  have HL1:=zh hl
  have H1:=zh hr
  clear hr hp hs hl hk hto
  unfold zmb
  cases ho:isT a1 (bs [111,119,110]) with
  | false =>
   have HO:=zh ho
   obtain ⟨ho2,ho3⟩:=zlb ho
   clear ho
   have HP:=zh (show zQa l=.ok (T.mk 8 a1.text 0 a1.place [],l1) by unfold zQa;exact ((zpa H1.out _)).trans ((zwa HO.out _ _)))
   go_wp2_with (first|((with_reducible refine zqa 25 (.tmp 4) ?_);refine zia rfl 25 (.tmp 4) rfl (w1.heap.size+1) (zaa (T.mk 8 a1.text 0 a1.place []) (.slice none 0 0)) rfl (show Blk _ (w1.heap.size+1) (zaa (T.mk 8 a1.text 0 a1.place []) (.slice none 0 0)) 25 from (Blk.zTe w1 (.cells (zGa a1).toArray 113) (zaa (T.mk 8 a1.text 0 a1.place []) (.slice none 0 0)) 25)) Tryz.underlying25 rfl Tryz.zea ?_)|((with_reducible refine zla 25 (.tmp 2) ?_);refine zda rfl 25 (.tmp 2) (.tmp 20) rfl w.heap.size (zaa (T.mk 8 a1.text 0 a1.place []) (.slice none 0 0)) rfl rfl ((HB1.out.alloc _).alloc _) Tryz.zea rfl (zca _ _ rfl) ?_))
   exact zma (cs:=zaa (T.mk 8 a1.text 0 a1.place []) (.slice none 0 0)) Tryz.results114 rfl ((HB1.out.alloc _).alloc _) Tryz.underlying25 rfl Tryz.zea rfl (Run.node ((HR1.out.alloc _).alloc _) ((KAt.nil _ _ _).tat _ _ _ _) HP.out (by have:=HL1.out;first|omega|(simp only [List.length_tail] at *;omega)))
  | true =>
   have HO:=zh ho
   obtain ⟨ho2,ho3⟩:=ztd ho
   clear ho
   go_wp2_with fail
   refine (zYb ((HR1.out.alloc _).alloc _).st).mono ?_
   intro e w2 hp
   cases hr:zoa l1 with
   | error pc =>
    obtain ⟨p,c⟩:=pc
    obtain ⟨rfl,hk,hcd⟩:=hp.err hr
    have HK:=zh (((HR1.out.alloc _).alloc _).kp.trans hk)
    have HP:=zh (show zQa l=.error (p,c) by unfold zQa;exact ((zpa H1.out _)).trans (((zFa HO.out _ _)).trans ((zya hr _))))
    clear hr hp hk
    go_wp2
    exact ⟨rfl,Run.err HK.out HP.out hcd⟩
   | ok q =>
    obtain ⟨a2,l2⟩:=q
    obtain ⟨v2,rfl,hv,hs,hl,hk⟩:=hp.ok hr
    obtain ⟨kv2,rfl,ht⟩:=hv
    have HT2:=zh (ht.weak ((HB1.out.alloc _).alloc _).lt)
    have huHN2:=Blk.zNb hk (Blk.zTe w1 (.cells (zGa a1).toArray 113) (zaa (T.mk 8 a1.text 0 a1.place []) (.slice none 0 0)) 25)
    have HU2:=zh (ht.mono (S':=fun b=>w.heap.size<b∧(w1.heap.size+1)<b) (fun b hb _=>by have:=Blk.zNb hk ((HB1.out.alloc _).alloc _);omega))
    have HR2:=zh (((HR1.out.alloc _).alloc _).call hk hs)
    have hzR2:=HR2.out.size
    have HB2:=zh (((HB1.out.alloc _).alloc _).kp hk (by omega))
    have hzHB2:=HB2.out.lt
    have HK_2:=zh (((Blk.new w1 (zGa a1) 113).alloc _).kp hk (by first|omega|(have:=HR0.out.size;simp at *;omega)))
    have hzHK_2:=HK_2.out.lt
    have HN2:=zh ((Blk.zTe w1 (.cells (zGa a1).toArray 113) (zaa (T.mk 8 a1.text 0 a1.place []) (.slice none 0 0)) 25).kp hk (by first|omega|(have:=HR0.out.size;simp at *;omega)))
    have hzHN2:=HN2.out.lt
    have HL2:=zh hl
    have H2:=zh hr
    clear hr hp hs hl hk ht
    unfold zna
    have hcell:_root_.Go.World.cell? _ ⟨(w1.heap.size+1),4,none⟩=some (.slice none 0 0):=HN2.out.cell 4
    have hfroz:=HN2.out.frozen 4
    have HQ:=zh (KAt.zxp (e:=25) (w:=w2) (t:=a2) (v:=kv2) HU2.out ⟨(w1.heap.size+1),4,none⟩ (.slice (some ⟨w2.heap.size,0,none⟩) 1 1) (fun b hb=>by show _≠(w1.heap.size+1);omega) ⟨by omega,by omega⟩)
    have HP:=zh (show zQa l=.ok (T.mk 8 a1.text 0 a1.place [a2],l2) by unfold zQa;exact ((zpa H1.out _)).trans (((zFa HO.out _ _)).trans ((zpa H2.out _))))
    go_wp2_with (first|((with_reducible refine zqa 25 (.tmp 4) ?_);refine zia rfl 25 (.tmp 4) rfl (w1.heap.size+1) (zaa (T.mk 8 a1.text 0 a1.place [a2]) (.slice (some ⟨w2.heap.size,0,none⟩) 1 1)) rfl (show Blk _ (w1.heap.size+1) (zaa (T.mk 8 a1.text 0 a1.place [a2]) (.slice (some ⟨w2.heap.size,0,none⟩) 1 1)) 25 from ((HN2.out.zNa 4 (.slice (some ⟨w2.heap.size,0,none⟩) 1 1)).alloc _)) Tryz.underlying25 rfl Tryz.zea ?_)|((with_reducible refine zla 25 (.tmp 2) ?_);refine zda rfl 25 (.tmp 2) (.tmp 20) rfl w.heap.size (zaa (T.mk 8 a1.text 0 a1.place [a2]) (.slice (some ⟨w2.heap.size,0,none⟩) 1 1)) rfl rfl ((HB2.out.setOther ⟨(w1.heap.size+1),4,none⟩ _ (by show _≠(w1.heap.size+1);omega)).alloc _) Tryz.zea rfl (zca _ _ rfl) ?_))
    exact zma (cs:=zaa (T.mk 8 a1.text 0 a1.place [a2]) (.slice (some ⟨w2.heap.size,0,none⟩) 1 1)) Tryz.results114 rfl ((HB2.out.setOther ⟨(w1.heap.size+1),4,none⟩ _ (by show _≠(w1.heap.size+1);omega)).alloc _) Tryz.underlying25 rfl Tryz.zea rfl (Run.node ((HR2.out.setCell (a:=⟨(w1.heap.size+1),4,none⟩) (by show w.heap.size≤(w1.heap.size+1);omega) _).alloc _) ((HQ.out.mono (fun b hb _=>hb.1)).tat _ _ _ _) HP.out (by have:=HL1.out;have:=HL2.out;first|omega|(simp only [List.length_tail] at *;omega)))
theorem zRr {E:Env} {w:World} {l:List Tok} {d:Nat} (h:PSt E w l d) :
  Calls Tryz.prog 124 #[.pointer (some ⟨E.pb,0,none⟩)] w (zMb zTc E w l d (zYc l)):=by
 have HR0:=zh ((Run.start h).alloc (.cells zba.toArray 25))
 have HB0:=zh (Blk.new w zba 25)
 have HL0:=zh (zlf h)
 have hlo:=h.plt
 have hlt:=h.tlt
 have hln:=h.len
 clear h
 go_enter Tryz.func124,Tryz.ntmps124
 go_wp2_with fail
 refine (zJb HR0.out.st).mono ?_
 rintro e w1 ⟨rfl,hb⟩
 have HR1:=zh (HR0.out.below hb)
 have hzR1:=HR1.out.size
 have HB1:=zh (HB0.out.kp (Kp.of_below (pb:=E.pb) hb) (by omega))
 have hzHB1:=HB1.out.lt
 clear hb
 unfold zmb
 have fl0:=zjc
 have fl1:=zfc
 have fl3:=zic
 cases hi:isT (hdT l) (bs [38]) with
 | false =>
  have HIi:=zh hi
  clear hi
  go_wp2_with fail
  refine (zSa HR1.out.st HIi.out).mono ?_
  rintro e w2 ⟨rfl,hb⟩
  have HR2:=zh (HR1.out.below hb)
  have hzR2:=HR2.out.size
  have HB2:=zh (HB1.out.kp (Kp.of_below (pb:=E.pb) hb) (by omega))
  have hzHB2:=HB2.out.lt
  clear hb
  go_wp2_with fail
  refine (zCg HR2.out.st).mono ?_
  intro e w3 hp
  cases hr:zQa l with
  | error pc =>
   obtain ⟨p,c⟩:=pc
   obtain ⟨rfl,hk,hcd⟩:=hp.err hr
   have HK:=zh (HR2.out.kp.trans hk)
   have HP:=zh (show zYc l=.error (p,c) by unfold zYc;exact ((zwa HIi.out _ _)).trans (hr))
   clear hr hp hk
   go_wp2
   exact ⟨rfl,Run.err HK.out HP.out hcd⟩
  | ok q =>
   obtain ⟨a3,l3⟩:=q
   obtain ⟨v3,rfl,hv,hs,hl,hk⟩:=hp.ok hr
   obtain ⟨kv3,rfl,ht⟩:=hv
   have HT3:=zh (ht.weak HB2.out.lt)
   have HR3:=zh (HR2.out.call hk hs)
   have hzR3:=HR3.out.size
   have HB3:=zh (HB2.out.kp hk (by omega))
   have hzHB3:=HB3.out.lt
   have HL3:=zh hl
   have H3:=zh hr
   clear hr hp hs hl hk ht
   unfold zna
   have HP:=zh (show zYc l=.ok (a3,l3) by unfold zYc;exact ((zwa HIi.out _ _)).trans (H3.out))
   go_wp2_with ((with_reducible refine zla 25 (.tmp 2) ?_);refine zda rfl 25 (.tmp 2) (.tmp 12) rfl w.heap.size (zaa (a3) (kv3)) rfl rfl HB3.out Tryz.zea rfl (zca _ _ HT3.out.kat.one) ?_)
   exact zma (cs:=zaa (a3) (kv3)) Tryz.results124 rfl HB3.out Tryz.underlying25 rfl Tryz.zea rfl (Run.node HR3.out HT3.out.lo HP.out (by have:=HL3.out;first|omega|(simp only [List.length_tail] at *;omega)))
 | true =>
  have HIi:=zh hi
  clear hi
  go_wp2_with fail
  refine (zLa HR1.out.st HIi.out (by decide)).mono ?_
  rintro e w2 ⟨rfl,hs,hk⟩
  have HR2:=zh (HR1.out.call hk hs)
  have hzR2:=HR2.out.size
  have HB2:=zh (HB1.out.kp hk (by omega))
  have hzHB2:=HB2.out.lt
  clear hs hk
  cases hj:isT (hdT l.tail) (bs [109,117,116]) with
  | false =>
   have HIj:=zh hj
   clear hj
   go_wp2_with fail
   refine (zSa HR2.out.st HIj.out).mono ?_
   rintro e w3 ⟨rfl,hb⟩
   have HR3:=zh (HR2.out.below hb)
   have hzR3:=HR3.out.size
   have HB3:=zh (HB2.out.kp (Kp.of_below (pb:=E.pb) hb) (by omega))
   have hzHB3:=HB3.out.lt
   clear hb
   go_wp2_with fail
   refine (zYb HR3.out.st).mono ?_
   intro e w4 hp
   cases hr:zoa l.tail with
   | error pc =>
    obtain ⟨p,c⟩:=pc
    obtain ⟨rfl,hk,hcd⟩:=hp.err hr
    have HK:=zh (HR3.out.kp.trans hk)
    have HP:=zh (show zYc l=.error (p,c) by unfold zYc;exact ((zFa HIi.out _ _)).trans (((zwa HIj.out _ _)).trans ((zya hr _))))
    clear hr hp hk
    go_wp2
    exact ⟨rfl,Run.err HK.out HP.out hcd⟩
   | ok q =>
    obtain ⟨a4,l4⟩:=q
    obtain ⟨v4,rfl,hv,hs,hl,hk⟩:=hp.ok hr
    obtain ⟨kv4,rfl,ht⟩:=hv
    have HT4:=zh (ht.weak HB3.out.lt)
    have HR4:=zh (HR3.out.call hk hs)
    have hzR4:=HR4.out.size
    have HB4:=zh (HB3.out.kp hk (by omega))
    have hzHB4:=HB4.out.lt
    have HL4:=zh hl
    have H4:=zh hr
    clear hr hp hs hl hk ht
    unfold zna
    have HP:=zh (show zYc l=.ok (T.mk 8 (bs [38]) 0 (hdT l).place [a4],l4) by unfold zYc;exact ((zFa HIi.out _ _)).trans (((zwa HIj.out _ _)).trans ((zpa H4.out _))))
    go_wp2_with ((with_reducible refine zla 25 (.tmp 2) ?_);refine zda rfl 25 (.tmp 2) (.tmp 20) rfl w.heap.size (zaa (T.mk 8 (bs [38]) 0 (hdT l).place [a4]) (.slice (some ⟨w4.heap.size,0,none⟩) 1 1)) rfl rfl (HB4.out.alloc _) Tryz.zea rfl (zca _ _ rfl) ?_)
    exact zma (cs:=zaa (T.mk 8 (bs [38]) 0 (hdT l).place [a4]) (.slice (some ⟨w4.heap.size,0,none⟩) 1 1)) Tryz.results124 rfl (HB4.out.alloc _) Tryz.underlying25 rfl Tryz.zea rfl (Run.node (HR4.out.alloc _) ((KAt.zrk HT4.out.lo hzHB4).tat _ _ _ _) HP.out (by have:=HL0.out;have:=HL4.out;first|omega|(simp only [List.length_tail] at *;omega)))
  | true =>
   have HIj:=zh hj
   clear hj
   go_wp2_with fail
   refine (zLa HR2.out.st HIj.out (by decide)).mono ?_
   rintro e w3 ⟨rfl,hs,hk⟩
   have HR3:=zh (HR2.out.call hk hs)
   have hzR3:=HR3.out.size
   have HB3:=zh (HB2.out.kp hk (by omega))
   have hzHB3:=HB3.out.lt
   clear hs hk
   go_wp2_with fail
   refine (zYb HR3.out.st).mono ?_
   intro e w4 hp
   cases hr:zoa l.tail.tail with
   | error pc =>
    obtain ⟨p,c⟩:=pc
    obtain ⟨rfl,hk,hcd⟩:=hp.err hr
    have HK:=zh (HR3.out.kp.trans hk)
    have HP:=zh (show zYc l=.error (p,c) by unfold zYc;exact ((zFa HIi.out _ _)).trans (((zFa HIj.out _ _)).trans ((zya hr _))))
    clear hr hp hk
    go_wp2
    exact ⟨rfl,Run.err HK.out HP.out hcd⟩
   | ok q =>
    obtain ⟨a4,l4⟩:=q
    obtain ⟨v4,rfl,hv,hs,hl,hk⟩:=hp.ok hr
    obtain ⟨kv4,rfl,ht⟩:=hv
    have HT4:=zh (ht.weak HB3.out.lt)
    have HR4:=zh (HR3.out.call hk hs)
    have hzR4:=HR4.out.size
    have HB4:=zh (HB3.out.kp hk (by omega))
    have hzHB4:=HB4.out.lt
    have HL4:=zh hl
    have H4:=zh hr
    clear hr hp hs hl hk ht
    unfold zna
    have HP:=zh (show zYc l=.ok (T.mk 8 (bs [38,109,117,116]) 0 (hdT l).place [a4],l4) by unfold zYc;exact ((zFa HIi.out _ _)).trans (((zFa HIj.out _ _)).trans ((zpa H4.out _))))
    go_wp2_with ((with_reducible refine zla 25 (.tmp 2) ?_);refine zda rfl 25 (.tmp 2) (.tmp 20) rfl w.heap.size (zaa (T.mk 8 (bs [38,109,117,116]) 0 (hdT l).place [a4]) (.slice (some ⟨w4.heap.size,0,none⟩) 1 1)) rfl rfl (HB4.out.alloc _) Tryz.zea rfl (zca _ _ rfl) ?_)
    exact zma (cs:=zaa (T.mk 8 (bs [38,109,117,116]) 0 (hdT l).place [a4]) (.slice (some ⟨w4.heap.size,0,none⟩) 1 1)) Tryz.results124 rfl (HB4.out.alloc _) Tryz.underlying25 rfl Tryz.zea rfl (Run.node (HR4.out.alloc _) ((KAt.zrk HT4.out.lo hzHB4).tat _ _ _ _) HP.out (by have:=HL0.out;have:=HL4.out;first|omega|(simp only [List.length_tail] at *;omega)))
theorem zKp {E:Env} {w:World} {l:List Tok} {d:Nat} (h:PSt E w l d) :
  Calls Tryz.prog 113 #[.pointer (some ⟨E.pb,0,none⟩)] w (zMb zTc E w l d (zBc l)):=by
 have HR0:=zh ((Run.start h).alloc (.cells zba.toArray 25))
 have HB0:=zh (Blk.new w zba 25)
 have hlo:=h.plt
 have hlt:=h.tlt
 have hln:=h.len
 clear h
 go_enter Tryz.func113,Tryz.ntmps113
 go_wp2_with fail
 refine (zJb HR0.out.st).mono ?_
 rintro e w1 ⟨rfl,hb⟩
 have HR1:=zh (HR0.out.below hb)
 have hzR1:=HR1.out.size
 have HB1:=zh (HB0.out.kp (Kp.of_below (pb:=E.pb) hb) (by omega))
 have hzHB1:=HB1.out.lt
 clear hb
 unfold zmb
 have fl0:=zjc
 have fl1:=zfc
 have fl3:=zic
 go_wp2_with fail
 refine (name_any HR1.out.st).mono ?_
 intro e w2 hp
 cases hr:zKb l with
 | error pc =>
  obtain ⟨p,c⟩:=pc
  obtain ⟨rfl,hk,hcd⟩:=hp.err hr
  have HK:=zh (HR1.out.kp.trans hk)
  have HP:=zh (show zBc l=.error (p,c) by unfold zBc;exact (zya hr _))
  clear hr hp hk
  go_wp2
  exact ⟨rfl,Run.err HK.out HP.out hcd⟩
 | ok q =>
  obtain ⟨a2,l2⟩:=q
  obtain ⟨v2,rfl,hv,hs,hl,hk⟩:=hp.ok hr
  obtain rfl:v2=.string a2:=hv
  have HR2:=zh (HR1.out.call hk hs)
  have hzR2:=HR2.out.size
  have HB2:=zh (HB1.out.kp hk (by omega))
  have hzHB2:=HB2.out.lt
  have HL2:=zh hl
  have H2:=zh hr
  clear hr hp hs hl hk
  go_wp2_with fail
  refine (zcb (HR2.out.alloc _).st [bs [58]] (by decide) (by decide) (by simp) rfl rfl).mono ?_
  intro e w3 hp
  cases hr:zsa [bs [58]] l2 with
  | error pc =>
   obtain ⟨p,c⟩:=pc
   obtain ⟨rfl,hk,hcd⟩:=hp.err hr
   have HK:=zh ((HR2.out.alloc _).kp.trans hk)
   have HP:=zh (show zBc l=.error (p,c) by unfold zBc;exact ((zpa H2.out _)).trans ((zya hr _)))
   clear hr hp hk
   go_wp2
   exact ⟨rfl,Run.err HK.out HP.out hcd⟩
  | ok q =>
   obtain ⟨a3,l3⟩:=q
   obtain ⟨v3,rfl,hv,hs,hl,hk⟩:=hp.ok hr
   obtain ⟨rfl,hto⟩:=hv
   have HR3:=zh ((HR2.out.alloc _).call hk hs)
   have hzR3:=HR3.out.size
   have HB3:=zh ((HB2.out.alloc _).kp hk (by omega))
   have hzHB3:=HB3.out.lt
   have HN3:=zh ((Blk.new w2 (zaa (T.mk 7 a2 0 (hdT l).place []) (.slice none 0 0)) 25).kp hk (by first|omega|(have:=HR0.out.size;simp at *;omega)))
   have hzHN3:=HN3.out.lt
   have HL3:=zh hl
   have H3:=zh hr
   clear hr hp hs hl hk hto
   unfold zmb
   go_wp2_with fail
   refine (zRr HR3.out.st).mono ?_
   intro e w4 hp
   cases hr:zYc l3 with
   | error pc =>
    obtain ⟨p,c⟩:=pc
    obtain ⟨rfl,hk,hcd⟩:=hp.err hr
    have HK:=zh (HR3.out.kp.trans hk)
    have HP:=zh (show zBc l=.error (p,c) by unfold zBc;exact ((zpa H2.out _)).trans (((zpa H3.out _)).trans ((zya hr _))))
    clear hr hp hk
    go_wp2
    exact ⟨rfl,Run.err HK.out HP.out hcd⟩
   | ok q =>
    obtain ⟨a4,l4⟩:=q
    obtain ⟨v4,rfl,hv,hs,hl,hk⟩:=hp.ok hr
    obtain ⟨kv4,rfl,ht⟩:=hv
    have HT4:=zh (ht.weak HB3.out.lt)
    have huHN4:=Blk.zNb hk HN3.out
    have HU4:=zh (ht.mono (S':=fun b=>w.heap.size<b∧w2.heap.size<b) (fun b hb _=>by have:=Blk.zNb hk HB3.out;omega))
    have HR4:=zh (HR3.out.call hk hs)
    have hzR4:=HR4.out.size
    have HB4:=zh (HB3.out.kp hk (by omega))
    have hzHB4:=HB4.out.lt
    have HN4:=zh (HN3.out.kp hk (by first|omega|(have:=HR0.out.size;simp at *;omega)))
    have hzHN4:=HN4.out.lt
    have HL4:=zh hl
    have H4:=zh hr
    clear hr hp hs hl hk ht
    unfold zna
    have hcell:_root_.Go.World.cell? _ ⟨w2.heap.size,4,none⟩=some (.slice none 0 0):=HN4.out.cell 4
    have hfroz:=HN4.out.frozen 4
    have HQ:=zh (KAt.zxp (e:=25) (w:=w4) (t:=a4) (v:=kv4) HU4.out ⟨w2.heap.size,4,none⟩ (.slice (some ⟨w4.heap.size,0,none⟩) 1 1) (fun b hb=>by show _≠w2.heap.size;omega) ⟨by omega,by omega⟩)
    have HP:=zh (show zBc l=.ok (T.mk 7 a2 0 (hdT l).place [a4],l4) by unfold zBc;exact ((zpa H2.out _)).trans (((zpa H3.out _)).trans ((zpa H4.out _))))
    go_wp2_with (first|((with_reducible refine zqa 25 (.tmp 4) ?_);refine zia rfl 25 (.tmp 4) rfl w2.heap.size (zaa (T.mk 7 a2 0 (hdT l).place [a4]) (.slice (some ⟨w4.heap.size,0,none⟩) 1 1)) rfl (show Blk _ w2.heap.size (zaa (T.mk 7 a2 0 (hdT l).place [a4]) (.slice (some ⟨w4.heap.size,0,none⟩) 1 1)) 25 from ((HN4.out.zNa 4 (.slice (some ⟨w4.heap.size,0,none⟩) 1 1)).alloc _)) Tryz.underlying25 rfl Tryz.zea ?_)|((with_reducible refine zla 25 (.tmp 2) ?_);refine zda rfl 25 (.tmp 2) (.tmp 19) rfl w.heap.size (zaa (T.mk 7 a2 0 (hdT l).place [a4]) (.slice (some ⟨w4.heap.size,0,none⟩) 1 1)) rfl rfl ((HB4.out.setOther ⟨w2.heap.size,4,none⟩ _ (by show _≠w2.heap.size;omega)).alloc _) Tryz.zea rfl (zca _ _ rfl) ?_))
    exact zma (cs:=zaa (T.mk 7 a2 0 (hdT l).place [a4]) (.slice (some ⟨w4.heap.size,0,none⟩) 1 1)) Tryz.results113 rfl ((HB4.out.setOther ⟨w2.heap.size,4,none⟩ _ (by show _≠w2.heap.size;omega)).alloc _) Tryz.underlying25 rfl Tryz.zea rfl (Run.node ((HR4.out.setCell (a:=⟨w2.heap.size,4,none⟩) (by show w.heap.size≤w2.heap.size;omega) _).alloc _) ((HQ.out.mono (fun b hb _=>hb.1)).tat _ _ _ _) HP.out (by have:=HL2.out;have:=HL3.out;have:=HL4.out;first|omega|(simp only [List.length_tail] at *;omega)))
end
section
open Go.RowKit
def T.zHb (ts:List T):T→T|.mk k s n p ks=>.mk k s n p (ks++ts)
theorem T.zoh (ts:List T) (t:T):(t.zHb ts).kids=t.kids++ts:=by cases t;rfl
theorem T.zrg (b t:T):t.snoc b=t.zHb [b]:=by cases t;rfl
theorem zQj (t:T) (v x:Value) (ts:List T):(zaa t v).set 4 x=zaa (t.zHb ts) x:=by cases t;rfl
structure zzc (w W:World) (g:Nat) (t:T) (v:Value):Prop where
 blk:Blk W g (zaa t v) 25
 kids:KAt 25 W t.kids (fun b=>w.heap.size<b∧b≠g) v
 gt:w.heap.size<g
section
variable {w W W':World} {g pb:Nat} {t:T} {v:Value}
theorem zzc.lt (h:zzc w W g t v):g<W.heap.size:=h.blk.lt
theorem zzc.kp (h:zzc w W g t v) (hk:Kp pb W W') (hp:pb<w.heap.size):zzc w W' g t v:=⟨h.blk.kp hk (by have:=h.gt;omega),h.kids.kp hk (fun b hb=>by omega),h.gt⟩
theorem zzc.alloc (h:zzc w W g t v) (o:Obj):zzc w (W.alloc o) g t v:=⟨h.blk.alloc o,h.kids.alloc o,h.gt⟩
theorem zzc.drew (h:zzc w W g t v):zzc w W.drew g t v:=⟨h.blk.drew,h.kids.drew,h.gt⟩
theorem zzc.setOther (h:zzc w W g t v) (a:Addr) (x:Value) (hn:g≠a.block) (hk:∀ b,w.heap.size<b→b≠g→b≠a.block):zzc w (W.setCell a x) g t v:=⟨h.blk.setOther a x hn,h.kids.setCell a x (fun b hb=>hk b hb.1 hb.2),h.gt⟩
theorem zzc.new {W0:World} {t:T} {v:Value} (hk:KAt 25 W0 t.kids (fun b=>w.heap.size<b) v) (hg:w.heap.size<W0.heap.size):zzc w (W0.alloc (.cells (zaa t v).toArray 25)) W0.heap.size t v :=
 ⟨Blk.new W0 _ _,hk.keep fun b hb hl=>⟨⟨hb,by omega⟩,Below.heap_alloc W0 _ b hl⟩,hg⟩
theorem zzc.fresh {a:T} {kv:Value} (_:Kp pb W W') (h:zzc w W g t v) (ht:TAt 25 W' a (fun b=>W.heap.size≤b) kv):TAt 25 W' a (fun b=>(w.heap.size<b∧b≠g)∧v.ownBlock≠some b) kv :=
 ht.mono fun b hb _=>by
  have h1:=h.lt
  have h2:=h.gt
  refine ⟨⟨by omega,by omega⟩,fun hv=>?_⟩
  obtain ⟨_,ho,_⟩:=h.kids
  have:=(ho.lt b hv).2
  omega
theorem zzc.zyg {a:T} {kv:Value} (_:Kp pb W W') (h:zzc w W g t v) (ht:TAt 25 W' a (fun b=>W.heap.size≤b) kv):TAt 25 W' a (fun b=>((w.heap.size<b∧b≠g)∧v.ownBlock≠some b)∧W.heap.size≤b) kv :=
 ht.mono fun b hb _=>by
  have h1:=h.lt
  have h2:=h.gt
  refine ⟨⟨⟨by omega,by omega⟩,fun hv=>?_⟩,hb⟩
  obtain ⟨_,ho,_⟩:=h.kids
  have:=(ho.lt b hv).2
  omega
theorem zzc.zog {ks:List T} {kv:Value} (hk:Kp pb W W') (h:zzc w W g t v) (ht:KAt 25 W' ks (fun b=>W.heap.size≤b) kv):KAt 25 W' ks (fun b=>(w.heap.size<b∧b≠g)∧v.ownBlock≠some b) kv :=
 (zzc.fresh hk h (ht.tat 0 e0 0 0)).kat
end
theorem zfa {P:Program} {ops:Array Oper} {rest:List Oper} {o:Oper} {a:Act} {w:World} {Q:Exit→Act→World→Prop} (hgd:o.guard=none) (ty:TypeId) (x:Operand) (ho:o.op=.load ty x)
  (g:Nat) (t:T) (v:Value) (hx:a.eval x=.pointer (some ⟨g,0,none⟩)) {e:TypeId} (hg:Blk w g (zaa t v) e) {d:TypeDesc} (hu:P.underlying ty=some d) (hd:d.isRow=true) (hi:(P.info? ty).map (·.size)=some 5)
  (h:wpList P ops Q rest (a.put o.dst (.agg #[.int .i64 t.kind,.string t.text,.int .i64 t.num,.int .i64 t.place,v])) w):wpList P ops Q (o :: rest) a w :=
 zia hgd ty x ho g (zaa t v) hx hg hu hd hi h
theorem zwb {E:Env} {w W w':World} {l:List Tok} {d g:Nat} {t:T} {v v':Value} {ts:List T} {old:List Value} (hR:Run E w W l d) (hB:Blk W w.heap.size old 25) (hL:zzc w W g t v)
  (hK:KAt 25 w' (t.kids++ts) (fun b=>w.heap.size<b∧b≠g) v') (hg:W.grownBy w' v.ownBlock) :
  Run E w (w'.setCell ⟨g,4,none⟩ v') l d∧Blk (w'.setCell ⟨g,4,none⟩ v') w.heap.size old 25∧zzc w (w'.setCell ⟨g,4,none⟩ v') g (t.zHb ts) v'∧w'.cell? ⟨g,4,none⟩=some v∧w'.frozen? ⟨g,4,none⟩=false∧Blk w' g (zaa t v) 25:=by
 have hrow:∀ k,v.ownBlock=some k→w.heap.size<k∧k≠g:=fun k hk=>by obtain ⟨_,_,hS,_⟩:=hL.kids;exact hS k hk
 have h1:Blk w' g (zaa t v) 25:=hL.blk.grown hg (fun e=>(hrow g e.symm).2 rfl)
 have h2:=hL.gt
 refine ⟨(hR.grown hg (fun k hk=>by have:=(hrow k hk).1;omega)).setCell (by show w.heap.size≤g;omega) _,(hB.grown hg (fun e=>by have:=(hrow _ e.symm).1;omega)).setOther _ _ (by show _≠g;omega),⟨?_,?_,h2⟩,?_,h1.frozen 4,h1⟩
 ·have h3:=h1.zNa 4 v'
  rw [zQj t v v' ts] at h3
  exact h3
 ·rw [T.zoh]
  exact hK.setCell _ _ (fun b hb=>hb.2)
 ·rw [h1.cell 4]
  rfl
theorem zmg {k:Int} {p:Nat} {l l':List Tok} {t:T} (h:zib k p l=.ok (t,l')):t.kids.length=2:=by
 unfold zib at h
 cases h1:zXa l with
 | error e=>rw [zya h1] at h;cases h
 | ok q =>
  obtain ⟨a,l1⟩:=q
  rw [zpa h1] at h
  cases h2:zsa [bs [60],bs [60,61],bs [61,61]] l1 with
  | error e=>rw [zya h2] at h;cases h
  | ok q =>
   obtain ⟨c,l2⟩:=q
   rw [zpa h2] at h
   cases h3:zXa l2 with
   | error e=>rw [zya h3] at h;cases h
   | ok q =>
    obtain ⟨b,l3⟩:=q
    rw [zpa h3] at h
    cases h
    rfl
end
end Go.Proofs.YtpjnpffcnmgdcaaGreatDoor
