/- The contracts of the parser's compare, fact, field, sort, valueMode, mode, param. -/
import Derived.Test.YtbfgdpcgdmabpaaGreatDoorY06
namespace Go.Proofs.YtbfgdpcgdmabpaaGreatDoor
set_option maxRecDepth 100000
set_option maxHeartbeats 1000000
open Go.RowKit
theorem ztg {E:Env} {w:World} {l:List Tok} {d:Nat} (h:PSt E w l d) (k:Int) (pl:Nat) :
  Calls Tryz.prog 165 #[.pointer (some ⟨E.pb,0,none⟩),.int .i64 k,.int .i64 pl] w (zec zvd E w l d (zrb k pl l)):=by
 have HR0:=zh ((Run.start h).alloc (.cells zga.toArray 25))
 have HB0:=zh (Blk.new w zga 25)
 have hlo:=h.plt
 have hlt:=h.tlt
 have hln:=h.len
 clear h
 go_enter Tryz.func165,Tryz.ntmps165
 go_wp2_with fail
 refine (zRf HR0.out.st).mono ?_
 intro e w1 hp
 cases hr:zZb l with
 | error pc =>
  obtain ⟨p,c⟩:=pc
  obtain ⟨rfl,hk,hcd⟩:=hp.err hr
  have HK:=zh (HR0.out.kp.trans hk)
  have HP:=zh (show zrb k pl l=.error (p,c) by unfold zrb;exact (zNa hr _))
  clear hr hp hk
  go_wp2
  exact ⟨rfl,Run.err HK.out HP.out hcd⟩
 | ok q =>
  obtain ⟨a1,l1⟩:=q
  obtain ⟨v1,rfl,hv,hs,hl,hk⟩:=hp.ok hr
  obtain ⟨kv1,rfl,ht⟩:=hv
  have HT1:=zh (ht.weak HB0.out.lt)
  have HR1:=zh (HR0.out.call hk hs)
  have hzR1:=HR1.out.size
  have HB1:=zh (HB0.out.kp hk (by omega))
  have hzHB1:=HB1.out.lt
  have HL1:=zh hl
  have H1:=zh hr
  clear hr hp hs hl hk ht
  unfold zmb
  go_wp2_with ((with_reducible refine zlb 25 (.tmp 7) ?_);refine zcb rfl 25 (.tmp 7) (.tmp 10) rfl (zaa (a1) (kv1)) (old:=zga) rfl rfl Tryz.zla rfl (zoa _ _ HT1.out.kat.one) ?_)
  go_wp2_with fail
  refine (zAb (HR1.out.alloc _).st [bs [60],bs [60,61],bs [61,61]] (by decide) (by decide) (by simp) rfl rfl).mono ?_
  intro e w2 hp
  cases hr:zSa [bs [60],bs [60,61],bs [61,61]] l1 with
  | error pc =>
   obtain ⟨p,c⟩:=pc
   obtain ⟨rfl,hk,hcd⟩:=hp.err hr
   have HK:=zh ((HR1.out.alloc _).kp.trans hk)
   have HP:=zh (show zrb k pl l=.error (p,c) by unfold zrb;exact ((zHa H1.out _)).trans ((zNa hr _)))
   clear hr hp hk
   go_wp2
   exact ⟨rfl,Run.err HK.out HP.out hcd⟩
  | ok q =>
   obtain ⟨a2,l2⟩:=q
   obtain ⟨v2,rfl,hv,hs,hl,hk⟩:=hp.ok hr
   obtain ⟨rfl,hto⟩:=hv
   have HR2:=zh ((HR1.out.alloc _).call hk hs)
   have hzR2:=HR2.out.size
   have HB2:=zh ((HB1.out.alloc _).kp hk (by omega))
   have hzHB2:=HB2.out.lt
   have HN2:=zh ((Blk.new w1 (zaa (a1) (kv1)) 25).kp hk (by first|omega|(have:=HR0.out.size;simp at *;omega)))
   have hzHN2:=HN2.out.lt
   have HT1_2:=zh ((HT1.out.alloc _).kp hk (fun b hb=>by omega))
   have HL2:=zh hl
   have H2:=zh hr
   clear hr hp hs hl hk hto
   unfold zJc
   go_wp2_with fail
   refine AnyE.zod (S:=fun W=>Blk W w2.heap.size (zgb a2) 119∧Blk W w1.heap.size (zaa a1 kv1) 25) (by kernel_rfl) (And.intro (Blk.new w2 (zgb a2) 119).drew (HN2.out.alloc _).drew) (fun hS=>?_)
   refine AnyE.take (i:=0) (v:=.int .i64 k) rfl (by kernel_rfl) (by kernel_rfl) (by kernel_rfl) (by kernel_rfl) (fun _ _ _ h=>h) (Or.inl ⟨by rfl,fun W _=>by go_simp⟩) hS ?_
   refine AnyE.take (i:=1) (v:=.pointer (some ⟨w2.heap.size,1,none⟩)) rfl (by kernel_rfl) (by kernel_rfl) (by kernel_rfl) (by kernel_rfl) (fun _ _ _ h=>h) (Or.inl ⟨by rfl,fun W _=>by go_simp⟩) hS ?_
   refine AnyE.take (i:=2) (v:=.string a2.text) rfl (by kernel_rfl) (by kernel_rfl) (by kernel_rfl) (by kernel_rfl) (fun _ _ _ h=>h) (Or.inl ⟨by rfl,fun W hW=>by have hcx:W.cell? ⟨w2.heap.size,1,none⟩=some (.string a2.text):=hW.1.cell 1;go_simp⟩) hS ?_
   refine AnyE.take (i:=3) (v:=.int .i64 pl) rfl (by kernel_rfl) (by kernel_rfl) (by kernel_rfl) (by kernel_rfl) (fun _ _ _ h=>h) (Or.inl ⟨by rfl,fun W _=>by go_simp⟩) hS ?_
   refine AnyE.take (i:=4) (v:=.agg #[.int .i64 (a1).kind,.string (a1).text,.int .i64 (a1).num,.int .i64 (a1).place,kv1]) rfl (by kernel_rfl) (by kernel_rfl) (by kernel_rfl) (by kernel_rfl) (fun _ _ _ h=>h) (yieldsIf_load_mid (cs:=zaa (a1) (kv1)) (by rfl) 25 (.tmp 7) rfl (w1.heap.size) 0 rfl _ (fun W hW j v hj=>by rw [Nat.zero_add,(hW.2).cell j];exact hj) Tryz.underlying25 rfl Tryz.zla) hS ?_
   refine AnyE.take (i:=5) (v:=.pointer (some ⟨E.pb,0,none⟩)) rfl (by kernel_rfl) (by kernel_rfl) (by kernel_rfl) (by kernel_rfl) (fun _ _ _ h=>h) (Or.inl ⟨by rfl,fun W _=>by go_simp⟩) hS ?_
   refine AnyE.one (i:=6) (by kernel_rfl) rfl (by rfl) (fun K hK=>?_)
   go_simp
   refine (zRf ((HR2.out.alloc _).drew).st).mono ?_
   intro e w3 hp
   cases hr:zZb l2 with
   | error pc =>
    obtain ⟨p,c⟩:=pc
    obtain ⟨rfl,hk,hcd⟩:=hp.err hr
    have HK:=zh (((HR2.out.alloc _).drew).kp.trans hk)
    have HP:=zh (show zrb k pl l=.error (p,c) by unfold zrb;exact ((zHa H1.out _)).trans (((zHa H2.out _)).trans ((zNa hr _))))
    clear hr hp hk
    go_wp2
    exact ⟨rfl,Run.err HK.out HP.out hcd⟩
   | ok q =>
    obtain ⟨a3,l3⟩:=q
    obtain ⟨v3,rfl,hv,hs,hl,hk⟩:=hp.ok hr
    obtain ⟨kv3,rfl,ht⟩:=hv
    have HT3:=zh (ht.weak ((HB2.out.alloc _).drew).lt)
    have huHN3:=Blk.zgc hk ((HN2.out.alloc _).drew)
    have HU3:=zh (ht.mono (S':=fun b=>w.heap.size<b∧w1.heap.size<b) (fun b hb _=>by have:=Blk.zgc hk ((HB2.out.alloc _).drew);omega))
    have HR3:=zh (((HR2.out.alloc _).drew).call hk hs)
    have hzR3:=HR3.out.size
    have HB3:=zh (((HB2.out.alloc _).drew).kp hk (by omega))
    have hzHB3:=HB3.out.lt
    have HN3:=zh (((HN2.out.alloc _).drew).kp hk (by first|omega|(have:=HR0.out.size;simp at *;omega)))
    have hzHN3:=HN3.out.lt
    have HK_3:=zh (((Blk.new w2 (zgb a2) 119).drew).kp hk (by first|omega|(have:=HR0.out.size;simp at *;omega)))
    have hzHK_3:=HK_3.out.lt
    have HT1_3:=zh (((HT1_2.out.alloc _).drew).kp hk (fun b hb=>by omega))
    have HL3:=zh hl
    have H3:=zh hr
    clear hr hp hs hl hk ht
    unfold zmb
    refine hK.out _ _ (fun _=>⟨HK_3.out,HN3.out⟩) ?_
    clear hK K
    refine AnyE.one (i:=7) (by kernel_rfl) rfl (by rfl) (fun K hK=>?_)
    go_simp
    refine hK.out _ _ (fun _=>⟨HK_3.out.alloc _,HN3.out.alloc _⟩) ?_
    clear hK K
    refine AnyE.one (i:=8) (by kernel_rfl) rfl (by rfl) (fun K hK=>?_)
    go_simp
    refine hK.out _ _ (fun _=>⟨HK_3.out.alloc _,HN3.out.alloc _⟩) ?_
    clear hK K
    have HP:=zh (show zrb k pl l=.ok (T.mk k a2.text 0 pl [a1,a3],l3) by unfold zrb;exact ((zHa H1.out _)).trans (((zHa H2.out _)).trans ((zHa H3.out _))))
    refine AnyE.one (i:=9) (by kernel_rfl) rfl (by rfl) (fun K hK=>?_)
    refine zic 25 (.tmp 6) (.tmp 22) rfl (w.heap.size) (zaa (T.mk k a2.text 0 pl [a1,a3]) (.slice (some ⟨w3.heap.size,0,none⟩) 2 2)) rfl rfl (HB3.out.alloc _) Tryz.zla rfl (zoa _ _ rfl) ?_
    refine hK.out _ _ (fun h=>absurd rfl h) ?_
    clear hK K
    refine AnyE.done (by kernel_rfl) ?_ _
    go_wp2
    exact znf (cs:=zaa (T.mk k a2.text 0 pl [a1,a3]) (.slice (some ⟨w3.heap.size,0,none⟩) 2 2)) Tryz.results165 rfl (HB3.out.alloc _) Tryz.underlying25 rfl Tryz.zla rfl (Run.node (HR3.out.alloc _) ((KAt.lit2 HT1_3.out.lo HT3.out.lo hzHB3).tat _ _ _ _) HP.out (by have:=HL1.out;have:=HL2.out;have:=HL3.out;first|omega|(simp only [List.length_tail] at *;omega)))
theorem zLq {E:Env} {w:World} {l:List Tok} {d:Nat} (h:PSt E w l d) :
  Calls Tryz.prog 143 #[.pointer (some ⟨E.pb,0,none⟩)] w (zec zvd E w l d (zre l)):=by
 have HR0:=zh ((Run.start h).alloc (.cells zga.toArray 25))
 have HB0:=zh (Blk.new w zga 25)
 have hlo:=h.plt
 have hlt:=h.tlt
 have hln:=h.len
 clear h
 go_enter Tryz.func143,Tryz.ntmps143
 go_wp2_with fail
 refine (zfc HR0.out.st).mono ?_
 rintro e w1 ⟨rfl,hb⟩
 have HR1:=zh (HR0.out.below hb)
 have hzR1:=HR1.out.size
 have HB1:=zh (HB0.out.kp (Kp.of_below (pb:=E.pb) hb) (by omega))
 have hzHB1:=HB1.out.lt
 clear hb
 unfold zJc
 have fl0:=zGc
 have fl1:=zFc
 have fl3:=zIc
 go_wp2_with fail
 refine (ztg HR1.out.st 4 _).mono ?_
 intro e w2 hp
 cases hr:zrb 4 (hdT l).place l with
 | error pc =>
  obtain ⟨p,c⟩:=pc
  obtain ⟨rfl,hk,hcd⟩:=hp.err hr
  have HK:=zh (HR1.out.kp.trans hk)
  have HP:=zh (show zre l=.error (p,c) by unfold zre;exact hr)
  clear hr hp hk
  go_wp2
  exact ⟨rfl,Run.err HK.out HP.out hcd⟩
 | ok q =>
  obtain ⟨a2,l2⟩:=q
  obtain ⟨v2,rfl,hv,hs,hl,hk⟩:=hp.ok hr
  obtain ⟨kv2,rfl,ht⟩:=hv
  have HT2:=zh (ht.weak HB1.out.lt)
  have HR2:=zh (HR1.out.call hk hs)
  have hzR2:=HR2.out.size
  have HB2:=zh (HB1.out.kp hk (by omega))
  have hzHB2:=HB2.out.lt
  have HL2:=zh hl
  have H2:=zh hr
  clear hr hp hs hl hk ht
  unfold zmb
  have HP:=zh (show zre l=.ok (a2,l2) by unfold zre;exact H2.out)
  go_wp2_with ((with_reducible refine zlb 25 (.tmp 2) ?_);refine zma rfl 25 (.tmp 2) (.tmp 7) rfl w.heap.size (zaa (a2) (kv2)) rfl rfl HB2.out Tryz.zla rfl (zoa _ _ HT2.out.kat.one) ?_)
  exact zab (cs:=zaa (a2) (kv2)) Tryz.results143 rfl HB2.out Tryz.underlying25 rfl Tryz.zla rfl (Run.node HR2.out HT2.out.lo HP.out (by have:=HL2.out;first|omega|(simp only [List.length_tail] at *;omega)))
theorem zfp {E:Env} {w:World} {l:List Tok} {d:Nat} (h:PSt E w l d) :
  Calls Tryz.prog 142 #[.pointer (some ⟨E.pb,0,none⟩)] w (zec zvd E w l d (zjc l)):=by
 have HR0:=zh ((Run.start h).alloc (.cells zga.toArray 25))
 have HB0:=zh (Blk.new w zga 25)
 have hlo:=h.plt
 have hlt:=h.tlt
 have hln:=h.len
 clear h
 go_enter Tryz.func142,Tryz.ntmps142
 go_wp2_with fail
 refine (zfc HR0.out.st).mono ?_
 rintro e w1 ⟨rfl,hb⟩
 have HR1:=zh (HR0.out.below hb)
 have hzR1:=HR1.out.size
 have HB1:=zh (HB0.out.kp (Kp.of_below (pb:=E.pb) hb) (by omega))
 have hzHB1:=HB1.out.lt
 clear hb
 unfold zJc
 have fl0:=zGc
 have fl1:=zFc
 have fl3:=zIc
 go_wp2_with fail
 refine (name_any HR1.out.st).mono ?_
 intro e w2 hp
 cases hr:zdd l with
 | error pc =>
  obtain ⟨p,c⟩:=pc
  obtain ⟨rfl,hk,hcd⟩:=hp.err hr
  have HK:=zh (HR1.out.kp.trans hk)
  have HP:=zh (show zjc l=.error (p,c) by unfold zjc;exact (zNa hr _))
  clear hr hp hk
  go_wp2
  exact ⟨rfl,Run.err HK.out HP.out hcd⟩
 | ok q =>
  obtain ⟨a2,l2⟩:=q
  obtain ⟨v2,rfl,hv,hs,hl,hk⟩:=hp.ok hr
  obtain rfl:v2=.string a2:=hv
  have HR2:=zh (HR1.out.call hk hs)
  have hzR2:=HR2.out.size
  have HB2:=zh (HB1.out.kp hk (by omega))
  have hzHB2:=HB2.out.lt
  have HL2:=zh hl
  have H2:=zh hr
  clear hr hp hs hl hk
  cases hi:isT (hdT l2) (bs [91]) with
  | false =>
   have HIi:=zh hi
   clear hi
   go_wp2_with fail
   refine (ztb (HR2.out.alloc _).st HIi.out).mono ?_
   rintro e w3 ⟨rfl,hb⟩
   have HR3:=zh ((HR2.out.alloc _).below hb)
   have hzR3:=HR3.out.size
   have HB3:=zh ((HB2.out.alloc _).kp (Kp.of_below (pb:=E.pb) hb) (by omega))
   have hzHB3:=HB3.out.lt
   have HN3:=zh ((Blk.new w2 (zaa (T.mk 3 a2 0 (hdT l).place []) (.slice none 0 0)) 25).kp (Kp.of_below (pb:=E.pb) hb) (by first|omega|(have:=HR0.out.size;simp at *;omega)))
   have hzHN3:=HN3.out.lt
   clear hb
   have HP:=zh (show zjc l=.ok (T.mk 3 a2 0 (hdT l).place [],l2) by unfold zjc;exact ((zHa H2.out _)).trans ((zLa HIi.out _ _)))
   go_wp2_with (first|((with_reducible refine zCc 25 (.tmp 4) ?_);refine zAa rfl 25 (.tmp 4) rfl w2.heap.size (zaa (T.mk 3 a2 0 (hdT l).place []) (.slice none 0 0)) rfl (show Blk _ w2.heap.size (zaa (T.mk 3 a2 0 (hdT l).place []) (.slice none 0 0)) 25 from HN3.out) Tryz.underlying25 rfl Tryz.zla ?_)|((with_reducible refine zlb 25 (.tmp 2) ?_);refine zma rfl 25 (.tmp 2) (.tmp 21) rfl w.heap.size (zaa (T.mk 3 a2 0 (hdT l).place []) (.slice none 0 0)) rfl rfl HB3.out Tryz.zla rfl (zoa _ _ rfl) ?_))
   exact zab (cs:=zaa (T.mk 3 a2 0 (hdT l).place []) (.slice none 0 0)) Tryz.results142 rfl HB3.out Tryz.underlying25 rfl Tryz.zla rfl (Run.node HR3.out ((KAt.nil _ _ _).tat _ _ _ _) HP.out (by have:=HL2.out;first|omega|(simp only [List.length_tail] at *;omega)))
  | true =>
   have HIi:=zh hi
   clear hi
   go_wp2_with fail
   refine (zkb (HR2.out.alloc _).st HIi.out (by decide)).mono ?_
   rintro e w3 ⟨rfl,hs,hk⟩
   have HR3:=zh ((HR2.out.alloc _).call hk hs)
   have hzR3:=HR3.out.size
   have HB3:=zh ((HB2.out.alloc _).kp hk (by omega))
   have hzHB3:=HB3.out.lt
   have HN3:=zh ((Blk.new w2 (zaa (T.mk 3 a2 0 (hdT l).place []) (.slice none 0 0)) 25).kp hk (by first|omega|(have:=HR0.out.size;simp at *;omega)))
   have hzHN3:=HN3.out.lt
   clear hs hk
   go_wp2_with fail
   refine (zzc HR3.out.st).mono ?_
   intro e w4 hp
   cases hr:zYa l2.tail with
   | error pc =>
    obtain ⟨p,c⟩:=pc
    obtain ⟨rfl,hk,hcd⟩:=hp.err hr
    have HK:=zh (HR3.out.kp.trans hk)
    have HP:=zh (show zjc l=.error (p,c) by unfold zjc;exact ((zHa H2.out _)).trans (((zfb HIi.out _ _)).trans ((zNa hr _))))
    clear hr hp hk
    go_wp2
    exact ⟨rfl,Run.err HK.out HP.out hcd⟩
   | ok q =>
    obtain ⟨a4,l4⟩:=q
    obtain ⟨v4,rfl,hv,hs,hl,hk⟩:=hp.ok hr
    obtain ⟨kv4,rfl,ht⟩:=hv
    have HT4:=zh (ht.weak HB3.out.lt)
    have huHN4:=Blk.zgc hk HN3.out
    have HU4:=zh (ht.mono (S':=fun b=>w.heap.size<b∧w2.heap.size<b) (fun b hb _=>by have:=Blk.zgc hk HB3.out;omega))
    have HR4:=zh (HR3.out.call hk hs)
    have hzR4:=HR4.out.size
    have HB4:=zh (HB3.out.kp hk (by omega))
    have hzHB4:=HB4.out.lt
    have HN4:=zh (HN3.out.kp hk (by first|omega|(have:=HR0.out.size;simp at *;omega)))
    have hzHN4:=HN4.out.lt
    have HL4:=zh hl
    have H4:=zh hr
    clear hr hp hs hl hk ht
    unfold zmb
    have hcell:_root_.Go.World.cell? _ ⟨w2.heap.size,4,none⟩=some (.slice none 0 0):=HN4.out.cell 4
    have hfroz:=HN4.out.frozen 4
    have HQ:=zh (KAt.zSp (e:=25) (w:=w4) (t:=a4) (v:=kv4) HU4.out ⟨w2.heap.size,4,none⟩ (.slice (some ⟨w4.heap.size,0,none⟩) 1 1) (fun b hb=>by show _≠w2.heap.size;omega) ⟨by omega,by omega⟩)
    go_wp2_with fail
    refine (zAb ((HR4.out.setCell (a:=⟨w2.heap.size,4,none⟩) (by show w.heap.size≤w2.heap.size;omega) _).alloc _).st [bs [93]] (by decide) (by decide) (by simp) rfl rfl).mono ?_
    intro e w5 hp
    cases hr:zSa [bs [93]] l4 with
    | error pc =>
     obtain ⟨p,c⟩:=pc
     obtain ⟨rfl,hk,hcd⟩:=hp.err hr
     have HK:=zh (((HR4.out.setCell (a:=⟨w2.heap.size,4,none⟩) (by show w.heap.size≤w2.heap.size;omega) _).alloc _).kp.trans hk)
     have HP:=zh (show zjc l=.error (p,c) by unfold zjc;exact ((zHa H2.out _)).trans (((zfb HIi.out _ _)).trans (((zHa H4.out _)).trans ((zNa hr _)))))
     clear hr hp hk
     go_wp2
     exact ⟨rfl,Run.err HK.out HP.out hcd⟩
    | ok q =>
     obtain ⟨a5,l5⟩:=q
     obtain ⟨v5,rfl,hv,hs,hl,hk⟩:=hp.ok hr
     obtain ⟨rfl,hto⟩:=hv
     have HR5:=zh (((HR4.out.setCell (a:=⟨w2.heap.size,4,none⟩) (by show w.heap.size≤w2.heap.size;omega) _).alloc _).call hk hs)
     have hzR5:=HR5.out.size
     have HB5:=zh (((HB4.out.setOther ⟨w2.heap.size,4,none⟩ _ (by show _≠w2.heap.size;omega)).alloc _).kp hk (by omega))
     have hzHB5:=HB5.out.lt
     have HN5:=zh (((HN4.out.zzd 4 (.slice (some ⟨w4.heap.size,0,none⟩) 1 1)).alloc _).kp hk (by first|omega|(have:=HR0.out.size;simp at *;omega)))
     have hzHN5:=HN5.out.lt
     have HQ_5:=zh (HQ.out.kp hk (fun b hb=>by omega))
     have HL5:=zh hl
     have H5:=zh hr
     clear hr hp hs hl hk hto
     unfold zJc
     have HP:=zh (show zjc l=.ok (T.mk 3 a2 0 (hdT l).place [a4],l5) by unfold zjc;exact ((zHa H2.out _)).trans (((zfb HIi.out _ _)).trans (((zHa H4.out _)).trans ((zHa H5.out _)))))
     go_wp2_with (first|((with_reducible refine zCc 25 (.tmp 4) ?_);refine zAa rfl 25 (.tmp 4) rfl w2.heap.size (zaa (T.mk 3 a2 0 (hdT l).place [a4]) (.slice (some ⟨w4.heap.size,0,none⟩) 1 1)) rfl (show Blk _ w2.heap.size (zaa (T.mk 3 a2 0 (hdT l).place [a4]) (.slice (some ⟨w4.heap.size,0,none⟩) 1 1)) 25 from HN5.out) Tryz.underlying25 rfl Tryz.zla ?_)|((with_reducible refine zlb 25 (.tmp 2) ?_);refine zma rfl 25 (.tmp 2) (.tmp 21) rfl w.heap.size (zaa (T.mk 3 a2 0 (hdT l).place [a4]) (.slice (some ⟨w4.heap.size,0,none⟩) 1 1)) rfl rfl HB5.out Tryz.zla rfl (zoa _ _ rfl) ?_))
     exact zab (cs:=zaa (T.mk 3 a2 0 (hdT l).place [a4]) (.slice (some ⟨w4.heap.size,0,none⟩) 1 1)) Tryz.results142 rfl HB5.out Tryz.underlying25 rfl Tryz.zla rfl (Run.node HR5.out ((HQ_5.out.mono (fun b hb _=>hb.1)).tat _ _ _ _) HP.out (by have:=HL2.out;have:=HL4.out;have:=HL5.out;first|omega|(simp only [List.length_tail] at *;omega)))
theorem zrq {E:Env} {w:World} {l:List Tok} {d:Nat} (h:PSt E w l d) :
  Calls Tryz.prog 139 #[.pointer (some ⟨E.pb,0,none⟩)] w (zec zvd E w l d (zld l)):=by
 have HR0:=zh ((Run.start h).alloc (.cells zga.toArray 25))
 have HB0:=zh (Blk.new w zga 25)
 have hlo:=h.plt
 have hlt:=h.tlt
 have hln:=h.len
 clear h
 go_enter Tryz.func139,Tryz.ntmps139
 go_wp2_with fail
 refine (zAb HR0.out.st [bs [111,119,110],bs [99,101,108,108],bs [99,111,117,110,116,101,100],bs [108,111,99,107],bs [103,117,97,114,100]] (by decide) (by decide) (by simp) rfl rfl).mono ?_
 intro e w1 hp
 cases hr:zSa [bs [111,119,110],bs [99,101,108,108],bs [99,111,117,110,116,101,100],bs [108,111,99,107],bs [103,117,97,114,100]] l with
 | error pc =>
  obtain ⟨p,c⟩:=pc
  obtain ⟨rfl,hk,hcd⟩:=hp.err hr
  have HK:=zh (HR0.out.kp.trans hk)
  have HP:=zh (show zld l=.error (p,c) by unfold zld;exact (zNa hr _))
  clear hr hp hk
  go_wp2
  exact ⟨rfl,Run.err HK.out HP.out hcd⟩
 | ok q =>
  obtain ⟨a1,l1⟩:=q
  obtain ⟨v1,rfl,hv,hs,hl,hk⟩:=hp.ok hr
  obtain ⟨rfl,hto⟩:=hv
  have HR1:=zh (HR0.out.call hk hs)
  have hzR1:=HR1.out.size
  have HB1:=zh (HB0.out.kp hk (by omega))
  have hzHB1:=HB1.out.lt
  have HL1:=zh hl
  have H1:=zh hr
  clear hr hp hs hl hk hto
  unfold zJc
  cases ho:isT a1 (bs [111,119,110]) with
  | true =>
   have HOR:=zh (show (isT a1 (bs [111,119,110]) || isT a1 (bs [99,101,108,108]))=true by rw [ho];rfl)
   obtain ⟨ho2,ho3⟩:=zdk ho
   clear ho3
   clear ho
   have HP:=zh (show zld l=.ok (T.mk 2 a1.text 0 a1.place [],l1) by unfold zld;exact ((zHa H1.out _)).trans ((zfb HOR.out _ _)))
   go_wp2_with (first|((with_reducible refine zCc 25 (.tmp 4) ?_);refine zAa rfl 25 (.tmp 4) rfl (w1.heap.size+1) (zaa (T.mk 2 a1.text 0 a1.place []) (.slice none 0 0)) rfl (show Blk _ (w1.heap.size+1) (zaa (T.mk 2 a1.text 0 a1.place []) (.slice none 0 0)) 25 from (Blk.zCe w1 (.cells (zgb a1).toArray 119) (zaa (T.mk 2 a1.text 0 a1.place []) (.slice none 0 0)) 25)) Tryz.underlying25 rfl Tryz.zla ?_)|((with_reducible refine zlb 25 (.tmp 2) ?_);refine zma rfl 25 (.tmp 2) (.tmp 25) rfl w.heap.size (zaa (T.mk 2 a1.text 0 a1.place []) (.slice none 0 0)) rfl rfl ((HB1.out.alloc _).alloc _) Tryz.zla rfl (zoa _ _ rfl) ?_))
   exact zab (cs:=zaa (T.mk 2 a1.text 0 a1.place []) (.slice none 0 0)) Tryz.results139 rfl ((HB1.out.alloc _).alloc _) Tryz.underlying25 rfl Tryz.zla rfl (Run.node ((HR1.out.alloc _).alloc _) ((KAt.nil _ _ _).tat _ _ _ _) HP.out (by have:=HL1.out;first|omega|(simp only [List.length_tail] at *;omega)))
  | false =>
   cases hc:isT a1 (bs [99,101,108,108]) with
   | true =>
    have HOR:=zh (show (isT a1 (bs [111,119,110]) || isT a1 (bs [99,101,108,108]))=true by rw [ho,hc];rfl)
    obtain ⟨ho2,ho3⟩:=zJk ho
    obtain ⟨hc2,hc3⟩:=zdk hc
    clear hc3
    clear ho hc
    have HP:=zh (show zld l=.ok (T.mk 2 a1.text 0 a1.place [],l1) by unfold zld;exact ((zHa H1.out _)).trans ((zfb HOR.out _ _)))
    go_wp2_with (first|((with_reducible refine zCc 25 (.tmp 4) ?_);refine zAa rfl 25 (.tmp 4) rfl (w1.heap.size+1) (zaa (T.mk 2 a1.text 0 a1.place []) (.slice none 0 0)) rfl (show Blk _ (w1.heap.size+1) (zaa (T.mk 2 a1.text 0 a1.place []) (.slice none 0 0)) 25 from (Blk.zCe w1 (.cells (zgb a1).toArray 119) (zaa (T.mk 2 a1.text 0 a1.place []) (.slice none 0 0)) 25)) Tryz.underlying25 rfl Tryz.zla ?_)|((with_reducible refine zlb 25 (.tmp 2) ?_);refine zma rfl 25 (.tmp 2) (.tmp 25) rfl w.heap.size (zaa (T.mk 2 a1.text 0 a1.place []) (.slice none 0 0)) rfl rfl ((HB1.out.alloc _).alloc _) Tryz.zla rfl (zoa _ _ rfl) ?_))
    exact zab (cs:=zaa (T.mk 2 a1.text 0 a1.place []) (.slice none 0 0)) Tryz.results139 rfl ((HB1.out.alloc _).alloc _) Tryz.underlying25 rfl Tryz.zla rfl (Run.node ((HR1.out.alloc _).alloc _) ((KAt.nil _ _ _).tat _ _ _ _) HP.out (by have:=HL1.out;first|omega|(simp only [List.length_tail] at *;omega)))
   | false =>
    have HOR:=zh (show (isT a1 (bs [111,119,110]) || isT a1 (bs [99,101,108,108]))=false by rw [ho,hc];rfl)
    obtain ⟨ho2,ho3⟩:=zJk ho
    obtain ⟨hc2,hc3⟩:=zJk hc
    clear ho hc
    go_wp2_with fail
    refine (zzc ((HR1.out.alloc _).alloc _).st).mono ?_
    intro e w2 hp
    cases hr:zYa l1 with
    | error pc =>
     obtain ⟨p,c⟩:=pc
     obtain ⟨rfl,hk,hcd⟩:=hp.err hr
     have HK:=zh (((HR1.out.alloc _).alloc _).kp.trans hk)
     have HP:=zh (show zld l=.error (p,c) by unfold zld;exact ((zHa H1.out _)).trans (((zLa HOR.out _ _)).trans ((zNa hr _))))
     clear hr hp hk
     go_wp2
     exact ⟨rfl,Run.err HK.out HP.out hcd⟩
    | ok q =>
     obtain ⟨a2,l2⟩:=q
     obtain ⟨v2,rfl,hv,hs,hl,hk⟩:=hp.ok hr
     obtain ⟨kv2,rfl,ht⟩:=hv
     have HT2:=zh (ht.weak ((HB1.out.alloc _).alloc _).lt)
     have huHN2:=Blk.zgc hk (Blk.zCe w1 (.cells (zgb a1).toArray 119) (zaa (T.mk 2 a1.text 0 a1.place []) (.slice none 0 0)) 25)
     have HU2:=zh (ht.mono (S':=fun b=>w.heap.size<b∧(w1.heap.size+1)<b) (fun b hb _=>by have:=Blk.zgc hk ((HB1.out.alloc _).alloc _);omega))
     have HR2:=zh (((HR1.out.alloc _).alloc _).call hk hs)
     have hzR2:=HR2.out.size
     have HB2:=zh (((HB1.out.alloc _).alloc _).kp hk (by omega))
     have hzHB2:=HB2.out.lt
     have HK_2:=zh (((Blk.new w1 (zgb a1) 119).alloc _).kp hk (by first|omega|(have:=HR0.out.size;simp at *;omega)))
     have hzHK_2:=HK_2.out.lt
     have HN2:=zh ((Blk.zCe w1 (.cells (zgb a1).toArray 119) (zaa (T.mk 2 a1.text 0 a1.place []) (.slice none 0 0)) 25).kp hk (by first|omega|(have:=HR0.out.size;simp at *;omega)))
     have hzHN2:=HN2.out.lt
     have HL2:=zh hl
     have H2:=zh hr
     clear hr hp hs hl hk ht
     unfold zmb
     have hcell:_root_.Go.World.cell? _ ⟨(w1.heap.size+1),4,none⟩=some (.slice none 0 0):=HN2.out.cell 4
     have hfroz:=HN2.out.frozen 4
     have HQ:=zh (KAt.zSp (e:=25) (w:=w2) (t:=a2) (v:=kv2) HU2.out ⟨(w1.heap.size+1),4,none⟩ (.slice (some ⟨w2.heap.size,0,none⟩) 1 1) (fun b hb=>by show _≠(w1.heap.size+1);omega) ⟨by omega,by omega⟩)
     have HP:=zh (show zld l=.ok (T.mk 2 a1.text 0 a1.place [a2],l2) by unfold zld;exact ((zHa H1.out _)).trans (((zLa HOR.out _ _)).trans ((zHa H2.out _))))
     go_wp2_with (first|((with_reducible refine zCc 25 (.tmp 4) ?_);refine zAa rfl 25 (.tmp 4) rfl (w1.heap.size+1) (zaa (T.mk 2 a1.text 0 a1.place [a2]) (.slice (some ⟨w2.heap.size,0,none⟩) 1 1)) rfl (show Blk _ (w1.heap.size+1) (zaa (T.mk 2 a1.text 0 a1.place [a2]) (.slice (some ⟨w2.heap.size,0,none⟩) 1 1)) 25 from ((HN2.out.zzd 4 (.slice (some ⟨w2.heap.size,0,none⟩) 1 1)).alloc _)) Tryz.underlying25 rfl Tryz.zla ?_)|((with_reducible refine zlb 25 (.tmp 2) ?_);refine zma rfl 25 (.tmp 2) (.tmp 25) rfl w.heap.size (zaa (T.mk 2 a1.text 0 a1.place [a2]) (.slice (some ⟨w2.heap.size,0,none⟩) 1 1)) rfl rfl ((HB2.out.setOther ⟨(w1.heap.size+1),4,none⟩ _ (by show _≠(w1.heap.size+1);omega)).alloc _) Tryz.zla rfl (zoa _ _ rfl) ?_))
     exact zab (cs:=zaa (T.mk 2 a1.text 0 a1.place [a2]) (.slice (some ⟨w2.heap.size,0,none⟩) 1 1)) Tryz.results139 rfl ((HB2.out.setOther ⟨(w1.heap.size+1),4,none⟩ _ (by show _≠(w1.heap.size+1);omega)).alloc _) Tryz.underlying25 rfl Tryz.zla rfl (Run.node ((HR2.out.setCell (a:=⟨(w1.heap.size+1),4,none⟩) (by show w.heap.size≤(w1.heap.size+1);omega) _).alloc _) ((HQ.out.mono (fun b hb _=>hb.1)).tat _ _ _ _) HP.out (by have:=HL1.out;have:=HL2.out;first|omega|(simp only [List.length_tail] at *;omega)))
theorem zNg {E:Env} {w:World} {l:List Tok} {d:Nat} (h:PSt E w l d) :
  Calls Tryz.prog 146 #[.pointer (some ⟨E.pb,0,none⟩)] w (zec zvd E w l d (zeb l)):=by
 have HR0:=zh ((Run.start h).alloc (.cells zga.toArray 25))
 have HB0:=zh (Blk.new w zga 25)
 have hlo:=h.plt
 have hlt:=h.tlt
 have hln:=h.len
 clear h
 go_enter Tryz.func146,Tryz.ntmps146
 go_wp2_with fail
 refine (zAb HR0.out.st [bs [105,110,116],bs [111,119,110]] (by decide) (by decide) (by simp) rfl rfl).mono ?_
 intro e w1 hp
 cases hr:zSa [bs [105,110,116],bs [111,119,110]] l with
 | error pc =>
  obtain ⟨p,c⟩:=pc
  obtain ⟨rfl,hk,hcd⟩:=hp.err hr
  have HK:=zh (HR0.out.kp.trans hk)
  have HP:=zh (show zeb l=.error (p,c) by unfold zeb;exact (zNa hr _))
  clear hr hp hk
  go_wp2
  exact ⟨rfl,Run.err HK.out HP.out hcd⟩
 | ok q =>
  obtain ⟨a1,l1⟩:=q
  obtain ⟨v1,rfl,hv,hs,hl,hk⟩:=hp.ok hr
  obtain ⟨rfl,hto⟩:=hv
  have HR1:=zh (HR0.out.call hk hs)
  have hzR1:=HR1.out.size
  have HB1:=zh (HB0.out.kp hk (by omega))
  have hzHB1:=HB1.out.lt
  have HL1:=zh hl
  have H1:=zh hr
  clear hr hp hs hl hk hto
  unfold zJc
  cases ho:isT a1 (bs [111,119,110]) with
  | false =>
   have HO:=zh ho
   obtain ⟨ho2,ho3⟩:=zJk ho
   clear ho
   have HP:=zh (show zeb l=.ok (T.mk 8 a1.text 0 a1.place [],l1) by unfold zeb;exact ((zHa H1.out _)).trans ((zLa HO.out _ _)))
   go_wp2_with (first|((with_reducible refine zCc 25 (.tmp 4) ?_);refine zAa rfl 25 (.tmp 4) rfl (w1.heap.size+1) (zaa (T.mk 8 a1.text 0 a1.place []) (.slice none 0 0)) rfl (show Blk _ (w1.heap.size+1) (zaa (T.mk 8 a1.text 0 a1.place []) (.slice none 0 0)) 25 from (Blk.zCe w1 (.cells (zgb a1).toArray 119) (zaa (T.mk 8 a1.text 0 a1.place []) (.slice none 0 0)) 25)) Tryz.underlying25 rfl Tryz.zla ?_)|((with_reducible refine zlb 25 (.tmp 2) ?_);refine zma rfl 25 (.tmp 2) (.tmp 20) rfl w.heap.size (zaa (T.mk 8 a1.text 0 a1.place []) (.slice none 0 0)) rfl rfl ((HB1.out.alloc _).alloc _) Tryz.zla rfl (zoa _ _ rfl) ?_))
   exact zab (cs:=zaa (T.mk 8 a1.text 0 a1.place []) (.slice none 0 0)) Tryz.results146 rfl ((HB1.out.alloc _).alloc _) Tryz.underlying25 rfl Tryz.zla rfl (Run.node ((HR1.out.alloc _).alloc _) ((KAt.nil _ _ _).tat _ _ _ _) HP.out (by have:=HL1.out;first|omega|(simp only [List.length_tail] at *;omega)))
  | true =>
   have HO:=zh ho
   obtain ⟨ho2,ho3⟩:=zdk ho
   clear ho
   go_wp2_with fail
   refine (zzc ((HR1.out.alloc _).alloc _).st).mono ?_
   intro e w2 hp
   cases hr:zYa l1 with
   | error pc =>
    obtain ⟨p,c⟩:=pc
    obtain ⟨rfl,hk,hcd⟩:=hp.err hr
    have HK:=zh (((HR1.out.alloc _).alloc _).kp.trans hk)
    have HP:=zh (show zeb l=.error (p,c) by unfold zeb;exact ((zHa H1.out _)).trans (((zfb HO.out _ _)).trans ((zNa hr _))))
    clear hr hp hk
    go_wp2
    exact ⟨rfl,Run.err HK.out HP.out hcd⟩
   | ok q =>
    obtain ⟨a2,l2⟩:=q
    obtain ⟨v2,rfl,hv,hs,hl,hk⟩:=hp.ok hr
    obtain ⟨kv2,rfl,ht⟩:=hv
    have HT2:=zh (ht.weak ((HB1.out.alloc _).alloc _).lt)
    have huHN2:=Blk.zgc hk (Blk.zCe w1 (.cells (zgb a1).toArray 119) (zaa (T.mk 8 a1.text 0 a1.place []) (.slice none 0 0)) 25)
    have HU2:=zh (ht.mono (S':=fun b=>w.heap.size<b∧(w1.heap.size+1)<b) (fun b hb _=>by have:=Blk.zgc hk ((HB1.out.alloc _).alloc _);omega))
    have HR2:=zh (((HR1.out.alloc _).alloc _).call hk hs)
    have hzR2:=HR2.out.size
    have HB2:=zh (((HB1.out.alloc _).alloc _).kp hk (by omega))
    have hzHB2:=HB2.out.lt
    have HK_2:=zh (((Blk.new w1 (zgb a1) 119).alloc _).kp hk (by first|omega|(have:=HR0.out.size;simp at *;omega)))
    have hzHK_2:=HK_2.out.lt
    have HN2:=zh ((Blk.zCe w1 (.cells (zgb a1).toArray 119) (zaa (T.mk 8 a1.text 0 a1.place []) (.slice none 0 0)) 25).kp hk (by first|omega|(have:=HR0.out.size;simp at *;omega)))
    have hzHN2:=HN2.out.lt
    have HL2:=zh hl
    have H2:=zh hr
    clear hr hp hs hl hk ht
    unfold zmb
    have hcell:_root_.Go.World.cell? _ ⟨(w1.heap.size+1),4,none⟩=some (.slice none 0 0):=HN2.out.cell 4
    have hfroz:=HN2.out.frozen 4
    have HQ:=zh (KAt.zSp (e:=25) (w:=w2) (t:=a2) (v:=kv2) HU2.out ⟨(w1.heap.size+1),4,none⟩ (.slice (some ⟨w2.heap.size,0,none⟩) 1 1) (fun b hb=>by show _≠(w1.heap.size+1);omega) ⟨by omega,by omega⟩)
    have HP:=zh (show zeb l=.ok (T.mk 8 a1.text 0 a1.place [a2],l2) by unfold zeb;exact ((zHa H1.out _)).trans (((zfb HO.out _ _)).trans ((zHa H2.out _))))
    go_wp2_with (first|((with_reducible refine zCc 25 (.tmp 4) ?_);refine zAa rfl 25 (.tmp 4) rfl (w1.heap.size+1) (zaa (T.mk 8 a1.text 0 a1.place [a2]) (.slice (some ⟨w2.heap.size,0,none⟩) 1 1)) rfl (show Blk _ (w1.heap.size+1) (zaa (T.mk 8 a1.text 0 a1.place [a2]) (.slice (some ⟨w2.heap.size,0,none⟩) 1 1)) 25 from ((HN2.out.zzd 4 (.slice (some ⟨w2.heap.size,0,none⟩) 1 1)).alloc _)) Tryz.underlying25 rfl Tryz.zla ?_)|((with_reducible refine zlb 25 (.tmp 2) ?_);refine zma rfl 25 (.tmp 2) (.tmp 20) rfl w.heap.size (zaa (T.mk 8 a1.text 0 a1.place [a2]) (.slice (some ⟨w2.heap.size,0,none⟩) 1 1)) rfl rfl ((HB2.out.setOther ⟨(w1.heap.size+1),4,none⟩ _ (by show _≠(w1.heap.size+1);omega)).alloc _) Tryz.zla rfl (zoa _ _ rfl) ?_))
    exact zab (cs:=zaa (T.mk 8 a1.text 0 a1.place [a2]) (.slice (some ⟨w2.heap.size,0,none⟩) 1 1)) Tryz.results146 rfl ((HB2.out.setOther ⟨(w1.heap.size+1),4,none⟩ _ (by show _≠(w1.heap.size+1);omega)).alloc _) Tryz.underlying25 rfl Tryz.zla rfl (Run.node ((HR2.out.setCell (a:=⟨(w1.heap.size+1),4,none⟩) (by show w.heap.size≤(w1.heap.size+1);omega) _).alloc _) ((HQ.out.mono (fun b hb _=>hb.1)).tat _ _ _ _) HP.out (by have:=HL1.out;have:=HL2.out;first|omega|(simp only [List.length_tail] at *;omega)))
theorem zWq {E:Env} {w:World} {l:List Tok} {d:Nat} (h:PSt E w l d) :
  Calls Tryz.prog 166 #[.pointer (some ⟨E.pb,0,none⟩)] w (zec zvd E w l d (zwd l)):=by
 have HR0:=zh ((Run.start h).alloc (.cells zga.toArray 25))
 have HB0:=zh (Blk.new w zga 25)
 have HL0:=zh (zwf h)
 have hlo:=h.plt
 have hlt:=h.tlt
 have hln:=h.len
 clear h
 go_enter Tryz.func166,Tryz.ntmps166
 go_wp2_with fail
 refine (zfc HR0.out.st).mono ?_
 rintro e w1 ⟨rfl,hb⟩
 have HR1:=zh (HR0.out.below hb)
 have hzR1:=HR1.out.size
 have HB1:=zh (HB0.out.kp (Kp.of_below (pb:=E.pb) hb) (by omega))
 have hzHB1:=HB1.out.lt
 clear hb
 unfold zJc
 have fl0:=zGc
 have fl1:=zFc
 have fl3:=zIc
 cases hi:isT (hdT l) (bs [38]) with
 | false =>
  have HIi:=zh hi
  clear hi
  go_wp2_with fail
  refine (ztb HR1.out.st HIi.out).mono ?_
  rintro e w2 ⟨rfl,hb⟩
  have HR2:=zh (HR1.out.below hb)
  have hzR2:=HR2.out.size
  have HB2:=zh (HB1.out.kp (Kp.of_below (pb:=E.pb) hb) (by omega))
  have hzHB2:=HB2.out.lt
  clear hb
  go_wp2_with fail
  refine (zNg HR2.out.st).mono ?_
  intro e w3 hp
  cases hr:zeb l with
  | error pc =>
   obtain ⟨p,c⟩:=pc
   obtain ⟨rfl,hk,hcd⟩:=hp.err hr
   have HK:=zh (HR2.out.kp.trans hk)
   have HP:=zh (show zwd l=.error (p,c) by unfold zwd;exact ((zLa HIi.out _ _)).trans (hr))
   clear hr hp hk
   go_wp2
   exact ⟨rfl,Run.err HK.out HP.out hcd⟩
  | ok q =>
   obtain ⟨a3,l3⟩:=q
   obtain ⟨v3,rfl,hv,hs,hl,hk⟩:=hp.ok hr
   obtain ⟨kv3,rfl,ht⟩:=hv
   have HT3:=zh (ht.weak HB2.out.lt)
   have HR3:=zh (HR2.out.call hk hs)
   have hzR3:=HR3.out.size
   have HB3:=zh (HB2.out.kp hk (by omega))
   have hzHB3:=HB3.out.lt
   have HL3:=zh hl
   have H3:=zh hr
   clear hr hp hs hl hk ht
   unfold zmb
   have HP:=zh (show zwd l=.ok (a3,l3) by unfold zwd;exact ((zLa HIi.out _ _)).trans (H3.out))
   go_wp2_with ((with_reducible refine zlb 25 (.tmp 2) ?_);refine zma rfl 25 (.tmp 2) (.tmp 12) rfl w.heap.size (zaa (a3) (kv3)) rfl rfl HB3.out Tryz.zla rfl (zoa _ _ HT3.out.kat.one) ?_)
   exact zab (cs:=zaa (a3) (kv3)) Tryz.results166 rfl HB3.out Tryz.underlying25 rfl Tryz.zla rfl (Run.node HR3.out HT3.out.lo HP.out (by have:=HL3.out;first|omega|(simp only [List.length_tail] at *;omega)))
 | true =>
  have HIi:=zh hi
  clear hi
  go_wp2_with fail
  refine (zkb HR1.out.st HIi.out (by decide)).mono ?_
  rintro e w2 ⟨rfl,hs,hk⟩
  have HR2:=zh (HR1.out.call hk hs)
  have hzR2:=HR2.out.size
  have HB2:=zh (HB1.out.kp hk (by omega))
  have hzHB2:=HB2.out.lt
  clear hs hk
  cases hj:isT (hdT l.tail) (bs [109,117,116]) with
  | false =>
   have HIj:=zh hj
   clear hj
   go_wp2_with fail
   refine (ztb HR2.out.st HIj.out).mono ?_
   rintro e w3 ⟨rfl,hb⟩
   have HR3:=zh (HR2.out.below hb)
   have hzR3:=HR3.out.size
   have HB3:=zh (HB2.out.kp (Kp.of_below (pb:=E.pb) hb) (by omega))
   have hzHB3:=HB3.out.lt
   clear hb
   go_wp2_with fail
   refine (zzc HR3.out.st).mono ?_
   intro e w4 hp
   cases hr:zYa l.tail with
   | error pc =>
    obtain ⟨p,c⟩:=pc
    obtain ⟨rfl,hk,hcd⟩:=hp.err hr
    have HK:=zh (HR3.out.kp.trans hk)
    have HP:=zh (show zwd l=.error (p,c) by unfold zwd;exact ((zfb HIi.out _ _)).trans (((zLa HIj.out _ _)).trans ((zNa hr _))))
    clear hr hp hk
    go_wp2
    exact ⟨rfl,Run.err HK.out HP.out hcd⟩
   | ok q =>
    obtain ⟨a4,l4⟩:=q
    obtain ⟨v4,rfl,hv,hs,hl,hk⟩:=hp.ok hr
    obtain ⟨kv4,rfl,ht⟩:=hv
    have HT4:=zh (ht.weak HB3.out.lt)
    have HR4:=zh (HR3.out.call hk hs)
    have hzR4:=HR4.out.size
    have HB4:=zh (HB3.out.kp hk (by omega))
    have hzHB4:=HB4.out.lt
    have HL4:=zh hl
    have H4:=zh hr
    clear hr hp hs hl hk ht
    unfold zmb
    have HP:=zh (show zwd l=.ok (T.mk 8 (bs [38]) 0 (hdT l).place [a4],l4) by unfold zwd;exact ((zfb HIi.out _ _)).trans (((zLa HIj.out _ _)).trans ((zHa H4.out _))))
    go_wp2_with ((with_reducible refine zlb 25 (.tmp 2) ?_);refine zma rfl 25 (.tmp 2) (.tmp 20) rfl w.heap.size (zaa (T.mk 8 (bs [38]) 0 (hdT l).place [a4]) (.slice (some ⟨w4.heap.size,0,none⟩) 1 1)) rfl rfl (HB4.out.alloc _) Tryz.zla rfl (zoa _ _ rfl) ?_)
    exact zab (cs:=zaa (T.mk 8 (bs [38]) 0 (hdT l).place [a4]) (.slice (some ⟨w4.heap.size,0,none⟩) 1 1)) Tryz.results166 rfl (HB4.out.alloc _) Tryz.underlying25 rfl Tryz.zla rfl (Run.node (HR4.out.alloc _) ((KAt.zVt HT4.out.lo hzHB4).tat _ _ _ _) HP.out (by have:=HL0.out;have:=HL4.out;first|omega|(simp only [List.length_tail] at *;omega)))
  | true =>
   have HIj:=zh hj
   clear hj
   go_wp2_with fail
   refine (zkb HR2.out.st HIj.out (by decide)).mono ?_
   rintro e w3 ⟨rfl,hs,hk⟩
   have HR3:=zh (HR2.out.call hk hs)
   have hzR3:=HR3.out.size
   have HB3:=zh (HB2.out.kp hk (by omega))
   have hzHB3:=HB3.out.lt
   clear hs hk
   go_wp2_with fail
   refine (zzc HR3.out.st).mono ?_
   intro e w4 hp
   cases hr:zYa l.tail.tail with
   | error pc =>
    obtain ⟨p,c⟩:=pc
    obtain ⟨rfl,hk,hcd⟩:=hp.err hr
    have HK:=zh (HR3.out.kp.trans hk)
    have HP:=zh (show zwd l=.error (p,c) by unfold zwd;exact ((zfb HIi.out _ _)).trans (((zfb HIj.out _ _)).trans ((zNa hr _))))
    clear hr hp hk
    go_wp2
    exact ⟨rfl,Run.err HK.out HP.out hcd⟩
   | ok q =>
    obtain ⟨a4,l4⟩:=q
    obtain ⟨v4,rfl,hv,hs,hl,hk⟩:=hp.ok hr
    obtain ⟨kv4,rfl,ht⟩:=hv
    have HT4:=zh (ht.weak HB3.out.lt)
    have HR4:=zh (HR3.out.call hk hs)
    have hzR4:=HR4.out.size
    have HB4:=zh (HB3.out.kp hk (by omega))
    have hzHB4:=HB4.out.lt
    have HL4:=zh hl
    have H4:=zh hr
    clear hr hp hs hl hk ht
    unfold zmb
    have HP:=zh (show zwd l=.ok (T.mk 8 (bs [38,109,117,116]) 0 (hdT l).place [a4],l4) by unfold zwd;exact ((zfb HIi.out _ _)).trans (((zfb HIj.out _ _)).trans ((zHa H4.out _))))
    go_wp2_with ((with_reducible refine zlb 25 (.tmp 2) ?_);refine zma rfl 25 (.tmp 2) (.tmp 20) rfl w.heap.size (zaa (T.mk 8 (bs [38,109,117,116]) 0 (hdT l).place [a4]) (.slice (some ⟨w4.heap.size,0,none⟩) 1 1)) rfl rfl (HB4.out.alloc _) Tryz.zla rfl (zoa _ _ rfl) ?_)
    exact zab (cs:=zaa (T.mk 8 (bs [38,109,117,116]) 0 (hdT l).place [a4]) (.slice (some ⟨w4.heap.size,0,none⟩) 1 1)) Tryz.results166 rfl (HB4.out.alloc _) Tryz.underlying25 rfl Tryz.zla rfl (Run.node (HR4.out.alloc _) ((KAt.zVt HT4.out.lo hzHB4).tat _ _ _ _) HP.out (by have:=HL0.out;have:=HL4.out;first|omega|(simp only [List.length_tail] at *;omega)))
theorem zQo {E:Env} {w:World} {l:List Tok} {d:Nat} (h:PSt E w l d) :
  Calls Tryz.prog 145 #[.pointer (some ⟨E.pb,0,none⟩)] w (zec zvd E w l d (zBc l)):=by
 have HR0:=zh ((Run.start h).alloc (.cells zga.toArray 25))
 have HB0:=zh (Blk.new w zga 25)
 have hlo:=h.plt
 have hlt:=h.tlt
 have hln:=h.len
 clear h
 go_enter Tryz.func145,Tryz.ntmps145
 go_wp2_with fail
 refine (zfc HR0.out.st).mono ?_
 rintro e w1 ⟨rfl,hb⟩
 have HR1:=zh (HR0.out.below hb)
 have hzR1:=HR1.out.size
 have HB1:=zh (HB0.out.kp (Kp.of_below (pb:=E.pb) hb) (by omega))
 have hzHB1:=HB1.out.lt
 clear hb
 unfold zJc
 have fl0:=zGc
 have fl1:=zFc
 have fl3:=zIc
 go_wp2_with fail
 refine (name_any HR1.out.st).mono ?_
 intro e w2 hp
 cases hr:zdd l with
 | error pc =>
  obtain ⟨p,c⟩:=pc
  obtain ⟨rfl,hk,hcd⟩:=hp.err hr
  have HK:=zh (HR1.out.kp.trans hk)
  have HP:=zh (show zBc l=.error (p,c) by unfold zBc;exact (zNa hr _))
  clear hr hp hk
  go_wp2
  exact ⟨rfl,Run.err HK.out HP.out hcd⟩
 | ok q =>
  obtain ⟨a2,l2⟩:=q
  obtain ⟨v2,rfl,hv,hs,hl,hk⟩:=hp.ok hr
  obtain rfl:v2=.string a2:=hv
  have HR2:=zh (HR1.out.call hk hs)
  have hzR2:=HR2.out.size
  have HB2:=zh (HB1.out.kp hk (by omega))
  have hzHB2:=HB2.out.lt
  have HL2:=zh hl
  have H2:=zh hr
  clear hr hp hs hl hk
  go_wp2_with fail
  refine (zAb (HR2.out.alloc _).st [bs [58]] (by decide) (by decide) (by simp) rfl rfl).mono ?_
  intro e w3 hp
  cases hr:zSa [bs [58]] l2 with
  | error pc =>
   obtain ⟨p,c⟩:=pc
   obtain ⟨rfl,hk,hcd⟩:=hp.err hr
   have HK:=zh ((HR2.out.alloc _).kp.trans hk)
   have HP:=zh (show zBc l=.error (p,c) by unfold zBc;exact ((zHa H2.out _)).trans ((zNa hr _)))
   clear hr hp hk
   go_wp2
   exact ⟨rfl,Run.err HK.out HP.out hcd⟩
  | ok q =>
   obtain ⟨a3,l3⟩:=q
   obtain ⟨v3,rfl,hv,hs,hl,hk⟩:=hp.ok hr
   obtain ⟨rfl,hto⟩:=hv
   have HR3:=zh ((HR2.out.alloc _).call hk hs)
   have hzR3:=HR3.out.size
   have HB3:=zh ((HB2.out.alloc _).kp hk (by omega))
   have hzHB3:=HB3.out.lt
   have HN3:=zh ((Blk.new w2 (zaa (T.mk 7 a2 0 (hdT l).place []) (.slice none 0 0)) 25).kp hk (by first|omega|(have:=HR0.out.size;simp at *;omega)))
   have hzHN3:=HN3.out.lt
   have HL3:=zh hl
   have H3:=zh hr
   clear hr hp hs hl hk hto
   unfold zJc
   go_wp2_with fail
   refine (zWq HR3.out.st).mono ?_
   intro e w4 hp
   cases hr:zwd l3 with
   | error pc =>
    obtain ⟨p,c⟩:=pc
    obtain ⟨rfl,hk,hcd⟩:=hp.err hr
    have HK:=zh (HR3.out.kp.trans hk)
    have HP:=zh (show zBc l=.error (p,c) by unfold zBc;exact ((zHa H2.out _)).trans (((zHa H3.out _)).trans ((zNa hr _))))
    clear hr hp hk
    go_wp2
    exact ⟨rfl,Run.err HK.out HP.out hcd⟩
   | ok q =>
    obtain ⟨a4,l4⟩:=q
    obtain ⟨v4,rfl,hv,hs,hl,hk⟩:=hp.ok hr
    obtain ⟨kv4,rfl,ht⟩:=hv
    have HT4:=zh (ht.weak HB3.out.lt)
    have huHN4:=Blk.zgc hk HN3.out
    have HU4:=zh (ht.mono (S':=fun b=>w.heap.size<b∧w2.heap.size<b) (fun b hb _=>by have:=Blk.zgc hk HB3.out;omega))
    have HR4:=zh (HR3.out.call hk hs)
    have hzR4:=HR4.out.size
    have HB4:=zh (HB3.out.kp hk (by omega))
    have hzHB4:=HB4.out.lt
    have HN4:=zh (HN3.out.kp hk (by first|omega|(have:=HR0.out.size;simp at *;omega)))
    have hzHN4:=HN4.out.lt
    have HL4:=zh hl
    have H4:=zh hr
    clear hr hp hs hl hk ht
    unfold zmb
    have hcell:_root_.Go.World.cell? _ ⟨w2.heap.size,4,none⟩=some (.slice none 0 0):=HN4.out.cell 4
    have hfroz:=HN4.out.frozen 4
    have HQ:=zh (KAt.zSp (e:=25) (w:=w4) (t:=a4) (v:=kv4) HU4.out ⟨w2.heap.size,4,none⟩ (.slice (some ⟨w4.heap.size,0,none⟩) 1 1) (fun b hb=>by show _≠w2.heap.size;omega) ⟨by omega,by omega⟩)
    have HP:=zh (show zBc l=.ok (T.mk 7 a2 0 (hdT l).place [a4],l4) by unfold zBc;exact ((zHa H2.out _)).trans (((zHa H3.out _)).trans ((zHa H4.out _))))
    go_wp2_with (first|((with_reducible refine zCc 25 (.tmp 4) ?_);refine zAa rfl 25 (.tmp 4) rfl w2.heap.size (zaa (T.mk 7 a2 0 (hdT l).place [a4]) (.slice (some ⟨w4.heap.size,0,none⟩) 1 1)) rfl (show Blk _ w2.heap.size (zaa (T.mk 7 a2 0 (hdT l).place [a4]) (.slice (some ⟨w4.heap.size,0,none⟩) 1 1)) 25 from ((HN4.out.zzd 4 (.slice (some ⟨w4.heap.size,0,none⟩) 1 1)).alloc _)) Tryz.underlying25 rfl Tryz.zla ?_)|((with_reducible refine zlb 25 (.tmp 2) ?_);refine zma rfl 25 (.tmp 2) (.tmp 19) rfl w.heap.size (zaa (T.mk 7 a2 0 (hdT l).place [a4]) (.slice (some ⟨w4.heap.size,0,none⟩) 1 1)) rfl rfl ((HB4.out.setOther ⟨w2.heap.size,4,none⟩ _ (by show _≠w2.heap.size;omega)).alloc _) Tryz.zla rfl (zoa _ _ rfl) ?_))
    exact zab (cs:=zaa (T.mk 7 a2 0 (hdT l).place [a4]) (.slice (some ⟨w4.heap.size,0,none⟩) 1 1)) Tryz.results145 rfl ((HB4.out.setOther ⟨w2.heap.size,4,none⟩ _ (by show _≠w2.heap.size;omega)).alloc _) Tryz.underlying25 rfl Tryz.zla rfl (Run.node ((HR4.out.setCell (a:=⟨w2.heap.size,4,none⟩) (by show w.heap.size≤w2.heap.size;omega) _).alloc _) ((HQ.out.mono (fun b hb _=>hb.1)).tat _ _ _ _) HP.out (by have:=HL2.out;have:=HL3.out;have:=HL4.out;first|omega|(simp only [List.length_tail] at *;omega)))
end Go.Proofs.YtbfgdpcgdmabpaaGreatDoor
