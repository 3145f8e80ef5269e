/- The contracts of the parser's ifBehind and statement, where the contract of its block is known. The contract of the parser's block, by how many blocks may yet be opened. append of a whole list of trees, which may be empty: 'n.Kids = append(n.Kids, list...)'. -/
import Derived.Test.YthdbmgijpelecaaGreatDoorZ07
import Derived.Test.YthdbmgijpelecaaGreatDoorZ08
import Derived.Deep.LoopGhost
import Derived.Laws.AppendOwnNone
namespace Go.Proofs.YthdbmgijpelecaaGreatDoor
set_option maxRecDepth 100000
set_option maxHeartbeats 1000000
section
open Go.RowKit
structure ztk (E:Env) (d:Nat) (blk:List Tok→R T):Prop where
 calls:∀ {w:World} {l:List Tok},PSt E w l d→Calls Tryz.prog 167 #[.pointer (some ⟨E.pb,0,none⟩)] w (zpb znc E w l d (blk l))
theorem zTi {E:Env} {w:World} {l:List Tok} {d:Nat} (h:PSt E w l d) {blk:List Tok→R T} (hB:ztk E d blk) (pl:Nat) :
  Calls Tryz.prog 188 #[.pointer (some ⟨E.pb,0,none⟩),.int .i64 pl] w (zpb znc E w l d (ifP blk pl l)):=by
 have HR0:=zh ((Run.start h).alloc (.cells zba.toArray 25))
 have HB0:=zh (Blk.new w zba 25)
 have HBK:=zh hB
 clear hB
 obtain ⟨i0,z0,I⟩:=Tryz.zce
 have hlo:=h.plt
 have hlt:=h.tlt
 have hln:=h.len
 clear h
 go_enter Tryz.func188,Tryz.ntmps188
 go_wp2_with fail
 refine (zXe HR0.out.st 15 pl).mono ?_
 intro e w1 hp
 cases hr:zUa 15 pl l with
 | error pc =>
  obtain ⟨p,c⟩:=pc
  obtain ⟨rfl,hk,hcd⟩:=hp.err hr
  have HK:=zh (HR0.out.kp.trans hk)
  have HP:=zh (show ifP blk pl l=.error (p,c) by unfold ifP;exact (zla hr _))
  clear hr hp hk
  go_wp2
  exact ⟨rfl,Run.err HK.out HP.out hcd⟩
 | ok q =>
  obtain ⟨a1,l1⟩:=q
  obtain ⟨v1,rfl,hv,hs,hl,hk⟩:=hp.ok hr
  obtain ⟨kv1,rfl,ht⟩:=hv
  have HT1:=zh (ht.weak HB0.out.lt)
  have HR1:=zh (HR0.out.call hk hs)
  have hzR1:=HR1.out.size
  have HB1:=zh (HB0.out.kp hk (by omega))
  have hzHB1:=HB1.out.lt
  have HL1:=zh hl
  have H1:=zh hr
  clear hr hp hs hl hk ht
  unfold zOa
  have HCK:=zh (zrf H1.out)
  go_wp2_with ((with_reducible refine zFa 25 (.tmp 5) ?_);refine zHa rfl 25 (.tmp 5) (.tmp 9) rfl (zaa (a1) (kv1)) (old:=zba) rfl rfl Tryz.zda rfl (zea _ _ HT1.out.kat.one) ?_)
  go_wp2_with fail
  refine AnyE.zoc (S:=fun W=>Blk W (w1.heap.size) (zaa (a1) (kv1)) 25) (by kernel_rfl) ((zVb.new HT1.out.lo.kat hzHB1).blk.drew) (fun hS=>?_)
  refine AnyE.take (i:=0) (v:=.pointer (some ⟨w1.heap.size,4,none⟩)) rfl (by kernel_rfl) (by kernel_rfl) (by kernel_rfl) (by kernel_rfl) (fun _ _ _ h=>h) (Or.inl ⟨by rfl,fun W _=>by go_simp⟩) hS ?_
  refine AnyE.take (i:=1) (v:=kv1) rfl (by kernel_rfl) (by kernel_rfl) (by kernel_rfl) (by kernel_rfl) (fun _ _ _ h=>h) (Or.inl ⟨by rfl,fun W hW=>by have hcx:W.cell? ⟨w1.heap.size,4,none⟩=some (kv1):=hW.cell 4;go_simp⟩) hS ?_
  refine AnyE.take (i:=2) (v:=.pointer (some ⟨E.pb,0,none⟩)) rfl (by kernel_rfl) (by kernel_rfl) (by kernel_rfl) (by kernel_rfl) (fun _ _ _ h=>h) (Or.inl ⟨by rfl,fun W _=>by go_simp⟩) hS ?_
  refine AnyE.one (i:=3) (by kernel_rfl) rfl (by rfl) (fun K hK=>?_)
  go_simp
  refine (HBK.out.calls ((HR1.out.alloc _).drew).st).mono ?_
  intro e w2 hp
  cases hr:blk l1 with
  | error pc =>
   obtain ⟨p,c⟩:=pc
   obtain ⟨rfl,hk,hcd⟩:=hp.err hr
   have HK:=zh (((HR1.out.alloc _).drew).kp.trans hk)
   have HP:=zh (show ifP blk pl l=.error (p,c) by unfold ifP;exact ((zia H1.out _)).trans ((zla hr _)))
   clear hr hp hk
   go_wp2
   exact ⟨rfl,Run.err HK.out HP.out hcd⟩
  | ok q =>
   obtain ⟨a2,l2⟩:=q
   obtain ⟨v2,rfl,hv,hs,hl,hk⟩:=hp.ok hr
   obtain ⟨kv2,rfl,ht⟩:=hv
   have HT2:=zh (ht.weak ((HB1.out.alloc _).drew).lt)
   have huHN2:=Blk.znb hk ((zVb.new HT1.out.lo.kat hzHB1).drew).blk
   have HU2:=zh (ht.mono (S':=fun b=>w.heap.size<b∧w1.heap.size<b) (fun b hb _=>by have:=Blk.znb hk ((HB1.out.alloc _).drew);omega))
   have HF2:=zh (zVb.fresh hk ((zVb.new HT1.out.lo.kat hzHB1).drew) ht)
   have HG2:=zh (zVb.zof hk ((zVb.new HT1.out.lo.kat hzHB1).drew) ht)
   have HR2:=zh (((HR1.out.alloc _).drew).call hk hs)
   have hzR2:=HR2.out.size
   have HB2:=zh (((HB1.out.alloc _).drew).kp hk (by omega))
   have hzHB2:=HB2.out.lt
   have HN2:=zh (((zVb.new HT1.out.lo.kat hzHB1).drew).kp hk (by first|omega|(have:=HR0.out.size;simp at *;omega)))
   have hzHN2:=HN2.out.lt
   have HT1_2:=zh (((HT1.out.alloc _).drew).kp hk (fun b hb=>by omega))
   have HL2:=zh hl
   have H2:=zh hr
   clear hr hp hs hl hk ht
   unfold zOa
   refine hK.out _ _ (fun _=>HN2.out.blk) ?_
   clear hK K
   refine AnyE.one (i:=4) (by kernel_rfl) rfl (by rfl) (fun K hK=>?_)
   go_simp
   refine hK.out _ _ (fun _=>(HN2.out.alloc _).blk) ?_
   clear hK K
   refine AnyE.one (i:=5) (by kernel_rfl) rfl (by rfl) (fun K hK=>?_)
   refine zWa (.tmp 11) (.tmp 14) rfl I (ts:=[a2]) rfl (HN2.out.alloc _).kids (us:=[kv2]) (zic.single (HF2.out.alloc _)) ⟨by simp;omega,by simp;omega⟩ rfl rfl (by simp) (zte w2 _ a2 kv2) (by rw [HCK.out];simp) ?_
   intro v2x w2x hKx hgx _
   obtain ⟨sa2x,sn2x,sc2x,rfl⟩:=hKx.slice
   obtain ⟨h1,h2,h3,hcx,hfx,h6⟩:=zZa (HR2.out.alloc _) (HB2.out.alloc _) (HN2.out.alloc _) hKx hgx
   have HR2x:=zh h1
   have HB2x:=zh h2
   have HN2x:=zh h3
   have HC2x:=zh h6
   clear h1 h2 h3 h6 hKx hgx
   refine hK.out _ _ (fun _=>HC2x.out) ?_
   clear hK K
   refine AnyE.one (i:=6) (by kernel_rfl) rfl (by rfl) (fun K hK=>?_)
   go_simp
   refine hK.out _ _ (fun _=>HC2x.out) ?_
   clear hK K
   refine AnyE.one (i:=7) (by kernel_rfl) rfl (by rfl) (fun K hK=>?_)
   go_simp
   refine hK.out _ _ (fun h=>absurd rfl h) ?_
   clear hK K
   refine AnyE.done (by kernel_rfl) ?_ _
   clear hcx hfx
   generalize w2x.setCell ⟨w1.heap.size,4,none⟩ (.slice sa2x sn2x sc2x)=w2y at HR2x HB2x HN2x ⊢
   have hzHB2y:=HB2x.out.lt
   have hzHN2y:=HN2x.out.lt
   have HC2:=zh (show (a1.zkb [a2]).kids.length=3 by rw [T.zlg];simp [HCK.out])
   cases hi:isT (hdT l2) (bs [101,108,115,101]) with
   | false =>
    have HIi:=zh hi
    clear hi
    have HE:=zh (show zUf blk pl l2=_ by unfold zUf;exact zja HIi.out _ _)
    go_wp2_with fail
    refine (zJa (HR2x.out.alloc _).st HIi.out).mono ?_
    rintro e w3 ⟨rfl,hb⟩
    have HR3:=zh ((HR2x.out.alloc _).below hb)
    have hzR3:=HR3.out.size
    have HB3:=zh ((HB2x.out.alloc _).kp (Kp.of_below (pb:=E.pb) hb) (by omega))
    have hzHB3:=HB3.out.lt
    have HN3:=zh ((HN2x.out.alloc _).kp (Kp.of_below (pb:=E.pb) hb) (by first|omega|(have:=HR0.out.size;simp at *;omega)))
    have hzHN3:=HN3.out.lt
    have HE_3:=zh ((Blk.new w2y (zaa (T.mk 9 e0 0 pl []) (.slice none 0 0)) 25).kp (Kp.of_below (pb:=E.pb) hb) (by first|omega|(have:=HR0.out.size;simp at *;omega)))
    have hzHE_3:=HE_3.out.lt
    clear hb
    have hcell:=HN3.out.blk.cell 4
    rw [show (zaa _ _)[4]?=some _ from rfl] at hcell
    go_wp2_with (first|((with_reducible refine zNb 25 (.tmp 6) ?_);refine zie rfl 25 (.tmp 6) rfl (w2y.heap.size) (T.mk 9 e0 0 pl []) (.slice none 0 0) rfl HE_3.out Tryz.underlying25 rfl Tryz.zda ?_)|(at_builtin;refine zxc rfl (.tmp 24) (.tmp 26) rfl I (ts:=[T.mk 9 e0 0 pl []]) rfl (HN3.out.alloc _).kids (us:=[.slice none 0 0]) (zic.single (((KAt.nil _ w3 _).tat _ _ _ _).alloc _)) ⟨by simp;omega,by simp;omega⟩ rfl rfl (by simp) (zte w3 _ (T.mk 9 e0 0 pl []) (.slice none 0 0)) (by rw [HC2.out];simp) ?_))
    intro v3x w3x hKx hgx _
    obtain ⟨sa3x,sn3x,sc3x,rfl⟩:=hKx.slice
    obtain ⟨h1,h2,h3,hcx,hfx,h6⟩:=zZa (HR3.out.alloc _) (HB3.out.alloc _) (HN3.out.alloc _) hKx hgx
    have HR3x:=zh h1
    have HB3x:=zh h2
    have HN3x:=zh h3
    have HC3x:=zh h6
    clear h1 h2 h3 h6 hKx hgx
    clear hcell
    have hzHB3y:=HB3x.out.lt
    have HP:=zh (show ifP blk pl l=.ok ((a1.zkb [a2]).zkb [T.mk 9 e0 0 pl []],l2) by unfold ifP;rw [← T.zef,← T.zef];exact ((zia H1.out _)).trans (((zia H2.out _)).trans ((zia HE.out _))))
    go_wp2_with (first|((with_reducible refine zNb 25 (.tmp 5) ?_);refine zga rfl 25 (.tmp 5) rfl (w1.heap.size) (zaa ((a1.zkb [a2]).zkb [T.mk 9 e0 0 pl []]) (.slice sa3x sn3x sc3x)) rfl HN3x.out.blk Tryz.underlying25 rfl Tryz.zda ?_)|((with_reducible refine zFa 25 (.tmp 4) ?_);refine zca rfl 25 (.tmp 4) (.tmp 29) rfl w.heap.size (zaa ((a1.zkb [a2]).zkb [T.mk 9 e0 0 pl []]) (.slice sa3x sn3x sc3x)) rfl rfl HB3x.out Tryz.zda rfl (zea _ _ HN3x.out.kids.one) ?_))
    exact zna (cs:=zaa ((a1.zkb [a2]).zkb [T.mk 9 e0 0 pl []]) (.slice sa3x sn3x sc3x)) Tryz.results188 rfl HB3x.out Tryz.underlying25 rfl Tryz.zda rfl (Run.node HR3x.out (TAt.zMc (HN3x.out.kids.mono (fun _ hb _=>hb.1))) HP.out (by have:=HL1.out;have:=HL2.out;first|omega|(simp only [List.length_tail] at *;omega)))
   | true =>
    have HIi:=zh hi
    clear hi
    have HE:=zh (show zUf blk pl l2=_ by unfold zUf;exact zra HIi.out _ _)
    go_wp2_with fail
    refine (zBa (HR2x.out.alloc _).st HIi.out (by decide)).mono ?_
    rintro e w3 ⟨rfl,hs,hk⟩
    have HR3:=zh ((HR2x.out.alloc _).call hk hs)
    have hzR3:=HR3.out.size
    have HB3:=zh ((HB2x.out.alloc _).kp hk (by omega))
    have hzHB3:=HB3.out.lt
    have HN3:=zh ((HN2x.out.alloc _).kp hk (by first|omega|(have:=HR0.out.size;simp at *;omega)))
    have hzHN3:=HN3.out.lt
    have HE_3:=zh ((Blk.new w2y (zaa (T.mk 9 e0 0 pl []) (.slice none 0 0)) 25).kp hk (by first|omega|(have:=HR0.out.size;simp at *;omega)))
    have hzHE_3:=HE_3.out.lt
    have HX_3:=zh (((HN2x.out.kids.mono (S':=fun b=>(w.heap.size<b∧b≠w1.heap.size)∧b<w2y.heap.size) (fun b hb hl=>⟨hb,hl⟩)).alloc _).kp hk (fun b hb=>by omega))
    clear hs hk
    go_wp2_with fail
    refine (HBK.out.calls HR3.out.st).mono ?_
    intro e w4 hp
    cases hr:blk l2.tail with
    | error pc =>
     obtain ⟨p,c⟩:=pc
     obtain ⟨rfl,hk,hcd⟩:=hp.err hr
     have HK:=zh (HR3.out.kp.trans hk)
     have HP:=zh (show ifP blk pl l=.error (p,c) by unfold ifP;exact ((zia H1.out _)).trans (((zia H2.out _)).trans ((zla (HE.out.trans hr) _))))
     clear hr hp hk
     go_wp2
     exact ⟨rfl,Run.err HK.out HP.out hcd⟩
    | ok q =>
     obtain ⟨a4,l4⟩:=q
     obtain ⟨v4,rfl,hv,hs,hl,hk⟩:=hp.ok hr
     obtain ⟨kv4,rfl,ht⟩:=hv
     have HT4:=zh (ht.weak HB3.out.lt)
     have huHN4:=Blk.znb hk HN3.out.blk
     have huHE_4:=Blk.znb hk HE_3.out
     have HU4:=zh (ht.mono (S':=fun b=>w.heap.size<b∧w1.heap.size<b∧w2y.heap.size<b) (fun b hb _=>by have:=Blk.znb hk HB3.out;omega))
     have HF4:=zh (zVb.fresh hk HN3.out ht)
     have HG4:=zh (zVb.zof hk HN3.out ht)
     have HR4:=zh (HR3.out.call hk hs)
     have hzR4:=HR4.out.size
     have HB4:=zh (HB3.out.kp hk (by omega))
     have hzHB4:=HB4.out.lt
     have HN4:=zh (HN3.out.kp hk (by first|omega|(have:=HR0.out.size;simp at *;omega)))
     have hzHN4:=HN4.out.lt
     have HE_4:=zh (HE_3.out.kp hk (by first|omega|(have:=HR0.out.size;simp at *;omega)))
     have hzHE_4:=HE_4.out.lt
     have HX_4:=zh (HX_3.out.kp hk (fun b hb=>by omega))
     have HL4:=zh hl
     have H4:=zh hr
     clear hr hp hs hl hk ht
     unfold zOa
     go_wp2_with (first|((with_reducible refine zFa 25 (.tmp 6) ?_);refine zca rfl 25 (.tmp 6) (.tmp 22) rfl (w2y.heap.size) (zaa a4 kv4) rfl rfl HE_4.out Tryz.zda rfl (zea _ _ HT4.out.kat.one) ?_;have HRz:=zh (HR4.out.setRow (g:=w2y.heap.size) (by omega) (zaa a4 kv4).toArray);have HBz:=zh (HB4.out.zcb (w2y.heap.size) (zaa a4 kv4).toArray (by omega));have HNz:=zh (show zVb w _ w1.heap.size _ _ from ⟨HN4.out.blk.zcb (w2y.heap.size) (zaa a4 kv4).toArray (by omega),(HX_4.out.setRow (w2y.heap.size) (zaa a4 kv4).toArray (fun b hb=>by omega)).mono (fun b hb _=>hb.1),HN4.out.gt⟩);have HEz:=zh (HE_4.out.zcc (zaa a4 kv4));have HFz:=zh ((HG4.out.setRow (w2y.heap.size) (zaa a4 kv4).toArray (fun b hb=>by omega)).mono (fun b hb _=>hb.1));generalize w4.setRow (w2y.heap.size) (zaa a4 kv4).toArray=wz at HRz HBz HNz HEz HFz ⊢;have hzHBz:=HBz.out.lt;have hzHNz:=HNz.out.lt;have hcell:=HNz.out.blk.cell 4;rw [show (zaa _ _)[4]?=some _ from rfl] at hcell)|((with_reducible refine zNb 25 (.tmp 6) ?_);refine zie rfl 25 (.tmp 6) rfl (w2y.heap.size) (a4) (kv4) rfl HEz.out Tryz.underlying25 rfl Tryz.zda ?_)|(at_builtin;refine zxc rfl (.tmp 24) (.tmp 26) rfl I (ts:=[a4]) rfl (HNz.out.alloc _).kids (us:=[kv4]) (zic.single (HFz.out.alloc _)) ⟨by simp;omega,by simp;omega⟩ rfl rfl (by simp) (zte wz _ (a4) (kv4)) (by rw [HC2.out];simp) ?_))
     intro v4x w4x hKx hgx _
     obtain ⟨sa4x,sn4x,sc4x,rfl⟩:=hKx.slice
     obtain ⟨h1,h2,h3,hcx,hfx,h6⟩:=zZa (HRz.out.alloc _) (HBz.out.alloc _) (HNz.out.alloc _) hKx hgx
     have HR4x:=zh h1
     have HB4x:=zh h2
     have HN4x:=zh h3
     have HC4x:=zh h6
     clear h1 h2 h3 h6 hKx hgx
     clear hcell
     have hzHB4y:=HB4x.out.lt
     have HP:=zh (show ifP blk pl l=.ok ((a1.zkb [a2]).zkb [a4],l4) by unfold ifP;rw [← T.zef,← T.zef];exact ((zia H1.out _)).trans (((zia H2.out _)).trans ((zia (HE.out.trans H4.out) _))))
     go_wp2_with (first|((with_reducible refine zNb 25 (.tmp 5) ?_);refine zga rfl 25 (.tmp 5) rfl (w1.heap.size) (zaa ((a1.zkb [a2]).zkb [a4]) (.slice sa4x sn4x sc4x)) rfl HN4x.out.blk Tryz.underlying25 rfl Tryz.zda ?_)|((with_reducible refine zFa 25 (.tmp 4) ?_);refine zca rfl 25 (.tmp 4) (.tmp 29) rfl w.heap.size (zaa ((a1.zkb [a2]).zkb [a4]) (.slice sa4x sn4x sc4x)) rfl rfl HB4x.out Tryz.zda rfl (zea _ _ HN4x.out.kids.one) ?_))
     exact zna (cs:=zaa ((a1.zkb [a2]).zkb [a4]) (.slice sa4x sn4x sc4x)) Tryz.results188 rfl HB4x.out Tryz.underlying25 rfl Tryz.zda rfl (Run.node HR4x.out (TAt.zMc (HN4x.out.kids.mono (fun _ hb _=>hb.1))) HP.out (by have:=HL1.out;have:=HL2.out;have:=HL4.out;first|omega|(simp only [List.length_tail] at *;omega)))
theorem zgi {E:Env} {w:World} {l:List Tok} {d:Nat} (h:PSt E w l d) {blk:List Tok→R T} (hB:ztk E d blk) :
  Calls Tryz.prog 181 #[.pointer (some ⟨E.pb,0,none⟩)] w (zpb znc E w l d (zHc blk l)):=by
 have HR0:=zh ((Run.start h).alloc (.cells zba.toArray 25))
 have HB0:=zh (Blk.new w zba 25)
 have HBK:=zh hB
 clear hB
 have HL0:=zh (zee h)
 obtain ⟨i0,z0,I⟩:=Tryz.zce
 have hlo:=h.plt
 have hlt:=h.tlt
 have hln:=h.len
 clear h
 go_enter Tryz.func181,Tryz.ntmps181
 go_wp2_with fail
 refine (zob HR0.out.st).mono ?_
 rintro e w1 ⟨rfl,hb⟩
 have HR1:=zh (HR0.out.below hb)
 have hzR1:=HR1.out.size
 have HB1:=zh (HB0.out.kp (Kp.of_below (pb:=E.pb) hb) (by omega))
 have hzHB1:=HB1.out.lt
 clear hb
 unfold zGb
 have fl0:=zDb
 have fl1:=zFb
 have fl3:=zEb
 cases hi:isT (hdT l) (bs [105,102]) with
 | true =>
  have HIi:=zh hi
  clear hi
  go_wp2_with fail
  refine (zBa HR1.out.st HIi.out (by decide)).mono ?_
  rintro e w2 ⟨rfl,hs,hk⟩
  have HR2:=zh (HR1.out.call hk hs)
  have hzR2:=HR2.out.size
  have HB2:=zh (HB1.out.kp hk (by omega))
  have hzHB2:=HB2.out.lt
  clear hs hk
  go_wp2_with fail
  refine (zTi HR2.out.st HBK.out _).mono ?_
  intro e w3 hp
  cases hr:ifP blk (hdT l).place l.tail with
  | error pc =>
   obtain ⟨p,c⟩:=pc
   obtain ⟨rfl,hk,hcd⟩:=hp.err hr
   have HK:=zh (HR2.out.kp.trans hk)
   have HP:=zh (show zHc blk l=.error (p,c) by unfold zHc;exact ((zra HIi.out _ _)).trans (hr))
   clear hr hp hk
   go_wp2
   exact ⟨rfl,Run.err HK.out HP.out hcd⟩
  | ok q =>
   obtain ⟨a3,l3⟩:=q
   obtain ⟨v3,rfl,hv,hs,hl,hk⟩:=hp.ok hr
   obtain ⟨kv3,rfl,ht⟩:=hv
   have HT3:=zh (ht.weak HB2.out.lt)
   have HR3:=zh (HR2.out.call hk hs)
   have hzR3:=HR3.out.size
   have HB3:=zh (HB2.out.kp hk (by omega))
   have hzHB3:=HB3.out.lt
   have HL3:=zh hl
   have H3:=zh hr
   clear hr hp hs hl hk ht
   unfold zOa
   have HP:=zh (show zHc blk l=.ok (a3,l3) by unfold zHc;exact ((zra HIi.out _ _)).trans (H3.out))
   go_wp2_with ((with_reducible refine zFa 25 (.tmp 2) ?_);refine zca rfl 25 (.tmp 2) (.tmp 14) rfl w.heap.size (zaa (a3) (kv3)) rfl rfl HB3.out Tryz.zda rfl (zea _ _ HT3.out.kat.one) ?_)
   exact zna (cs:=zaa (a3) (kv3)) Tryz.results181 rfl HB3.out Tryz.underlying25 rfl Tryz.zda rfl (Run.node HR3.out HT3.out.lo HP.out (by have:=HL0.out;have:=HL3.out;first|omega|(simp only [List.length_tail] at *;omega)))
 | false =>
  have HIi:=zh hi
  clear hi
  go_wp2_with fail
  refine (zJa HR1.out.st HIi.out).mono ?_
  rintro e w2 ⟨rfl,hb⟩
  have HR2:=zh (HR1.out.below hb)
  have hzR2:=HR2.out.size
  have HB2:=zh (HB1.out.kp (Kp.of_below (pb:=E.pb) hb) (by omega))
  have hzHB2:=HB2.out.lt
  clear hb
  cases hj:isT (hdT l) (bs [119,104,105,108,101]) with
  | true =>
   have HIj:=zh hj
   clear hj
   go_wp2_with fail
   refine (zBa HR2.out.st HIj.out (by decide)).mono ?_
   rintro e w3 ⟨rfl,hs,hk⟩
   have HR3:=zh (HR2.out.call hk hs)
   have hzR3:=HR3.out.size
   have HB3:=zh (HB2.out.kp hk (by omega))
   have hzHB3:=HB3.out.lt
   clear hs hk
   go_wp2_with fail
   refine (zXe HR3.out.st 16 _).mono ?_
   intro e w4 hp
   cases hr:zUa 16 (hdT l).place l.tail with
   | error pc =>
    obtain ⟨p,c⟩:=pc
    obtain ⟨rfl,hk,hcd⟩:=hp.err hr
    have HK:=zh (HR3.out.kp.trans hk)
    have HP:=zh (show zHc blk l=.error (p,c) by unfold zHc;exact (((zja HIi.out _ _)).trans ((zra HIj.out _ _))).trans (by unfold zke;exact (zla hr _)))
    clear hr hp hk
    go_wp2
    exact ⟨rfl,Run.err HK.out HP.out hcd⟩
   | ok q =>
    obtain ⟨a4,l4⟩:=q
    obtain ⟨v4,rfl,hv,hs,hl,hk⟩:=hp.ok hr
    obtain ⟨kv4,rfl,ht⟩:=hv
    have HT4:=zh (ht.weak HB3.out.lt)
    have HR4:=zh (HR3.out.call hk hs)
    have hzR4:=HR4.out.size
    have HB4:=zh (HB3.out.kp hk (by omega))
    have hzHB4:=HB4.out.lt
    have HL4:=zh hl
    have H4:=zh hr
    clear hr hp hs hl hk ht
    unfold zOa
    have HCK:=zh (zrf H4.out)
    go_wp2_with ((with_reducible refine zFa 25 (.tmp 4) ?_);refine zHa rfl 25 (.tmp 4) (.tmp 20) rfl (zaa (a4) (kv4)) (old:=zba) rfl rfl Tryz.zda rfl (zea _ _ HT4.out.kat.one) ?_)
    go_wp2_with fail
    refine AnyE.zoc (S:=fun W=>Blk W (w4.heap.size) (zaa (a4) (kv4)) 25) (by kernel_rfl) ((zVb.new HT4.out.lo.kat hzHB4).blk.drew) (fun hS=>?_)
    refine AnyE.take (i:=0) (v:=.pointer (some ⟨w4.heap.size,4,none⟩)) rfl (by kernel_rfl) (by kernel_rfl) (by kernel_rfl) (by kernel_rfl) (fun _ _ _ h=>h) (Or.inl ⟨by rfl,fun W _=>by go_simp⟩) hS ?_
    refine AnyE.take (i:=1) (v:=kv4) rfl (by kernel_rfl) (by kernel_rfl) (by kernel_rfl) (by kernel_rfl) (fun _ _ _ h=>h) (Or.inl ⟨by rfl,fun W hW=>by have hcx:W.cell? ⟨w4.heap.size,4,none⟩=some (kv4):=hW.cell 4;go_simp⟩) hS ?_
    refine AnyE.take (i:=2) (v:=.pointer (some ⟨E.pb,0,none⟩)) rfl (by kernel_rfl) (by kernel_rfl) (by kernel_rfl) (by kernel_rfl) (fun _ _ _ h=>h) (Or.inl ⟨by rfl,fun W _=>by go_simp⟩) hS ?_
    refine AnyE.one (i:=3) (by kernel_rfl) rfl (by rfl) (fun K hK=>?_)
    go_simp
    refine (HBK.out.calls ((HR4.out.alloc _).drew).st).mono ?_
    intro e w5 hp
    cases hr:blk l4 with
    | error pc =>
     obtain ⟨p,c⟩:=pc
     obtain ⟨rfl,hk,hcd⟩:=hp.err hr
     have HK:=zh (((HR4.out.alloc _).drew).kp.trans hk)
     have HP:=zh (show zHc blk l=.error (p,c) by unfold zHc;exact (((zja HIi.out _ _)).trans ((zra HIj.out _ _))).trans (by unfold zke;exact ((zia H4.out _)).trans ((zla hr _))))
     clear hr hp hk
     go_wp2
     exact ⟨rfl,Run.err HK.out HP.out hcd⟩
    | ok q =>
     obtain ⟨a5,l5⟩:=q
     obtain ⟨v5,rfl,hv,hs,hl,hk⟩:=hp.ok hr
     obtain ⟨kv5,rfl,ht⟩:=hv
     have HT5:=zh (ht.weak ((HB4.out.alloc _).drew).lt)
     have huHN5:=Blk.znb hk ((zVb.new HT4.out.lo.kat hzHB4).drew).blk
     have HU5:=zh (ht.mono (S':=fun b=>w.heap.size<b∧w4.heap.size<b) (fun b hb _=>by have:=Blk.znb hk ((HB4.out.alloc _).drew);omega))
     have HF5:=zh (zVb.fresh hk ((zVb.new HT4.out.lo.kat hzHB4).drew) ht)
     have HG5:=zh (zVb.zof hk ((zVb.new HT4.out.lo.kat hzHB4).drew) ht)
     have HR5:=zh (((HR4.out.alloc _).drew).call hk hs)
     have hzR5:=HR5.out.size
     have HB5:=zh (((HB4.out.alloc _).drew).kp hk (by omega))
     have hzHB5:=HB5.out.lt
     have HN5:=zh (((zVb.new HT4.out.lo.kat hzHB4).drew).kp hk (by first|omega|(have:=HR0.out.size;simp at *;omega)))
     have hzHN5:=HN5.out.lt
     have HT4_5:=zh (((HT4.out.alloc _).drew).kp hk (fun b hb=>by omega))
     have HL5:=zh hl
     have H5:=zh hr
     clear hr hp hs hl hk ht
     unfold zOa
     refine hK.out _ _ (fun _=>HN5.out.blk) ?_
     clear hK K
     refine AnyE.one (i:=4) (by kernel_rfl) rfl (by rfl) (fun K hK=>?_)
     go_simp
     refine hK.out _ _ (fun _=>(HN5.out.alloc _).blk) ?_
     clear hK K
     refine AnyE.one (i:=5) (by kernel_rfl) rfl (by rfl) (fun K hK=>?_)
     refine zWa (.tmp 22) (.tmp 25) rfl I (ts:=[a5]) rfl (HN5.out.alloc _).kids (us:=[kv5]) (zic.single (HF5.out.alloc _)) ⟨by simp;omega,by simp;omega⟩ rfl rfl (by simp) (zte w5 _ a5 kv5) (by rw [HCK.out];simp) ?_
     intro v5x w5x hKx hgx _
     obtain ⟨sa5x,sn5x,sc5x,rfl⟩:=hKx.slice
     obtain ⟨h1,h2,h3,hcx,hfx,h6⟩:=zZa (HR5.out.alloc _) (HB5.out.alloc _) (HN5.out.alloc _) hKx hgx
     have HR5x:=zh h1
     have HB5x:=zh h2
     have HN5x:=zh h3
     have HC5x:=zh h6
     clear h1 h2 h3 h6 hKx hgx
     refine hK.out _ _ (fun _=>HC5x.out) ?_
     clear hK K
     refine AnyE.one (i:=6) (by kernel_rfl) rfl (by rfl) (fun K hK=>?_)
     go_simp
     refine hK.out _ _ (fun _=>HC5x.out) ?_
     clear hK K
     refine AnyE.one (i:=7) (by kernel_rfl) rfl (by rfl) (fun K hK=>?_)
     go_simp
     refine hK.out _ _ (fun h=>absurd rfl h) ?_
     clear hK K
     refine AnyE.done (by kernel_rfl) ?_ _
     clear hcx hfx
     generalize w5x.setCell ⟨w4.heap.size,4,none⟩ (.slice sa5x sn5x sc5x)=w5y at HR5x HB5x HN5x ⊢
     have hzHB5y:=HB5x.out.lt
     have hzHN5y:=HN5x.out.lt
     have HP:=zh (show zHc blk l=.ok (a4.zkb [a5],l5) by unfold zHc;rw [← T.zef];exact (((zja HIi.out _ _)).trans ((zra HIj.out _ _))).trans (by unfold zke;exact ((zia H4.out _)).trans ((zia H5.out _))))
     go_wp2_with (first|((with_reducible refine zNb 25 (.tmp 4) ?_);refine zga rfl 25 (.tmp 4) rfl (w4.heap.size) (zaa (a4.zkb [a5]) (.slice sa5x sn5x sc5x)) rfl HN5x.out.blk Tryz.underlying25 rfl Tryz.zda ?_)|((with_reducible refine zFa 25 (.tmp 2) ?_);refine zca rfl 25 (.tmp 2) (.tmp 28) rfl w.heap.size (zaa (a4.zkb [a5]) (.slice sa5x sn5x sc5x)) rfl rfl HB5x.out Tryz.zda rfl (zea _ _ HN5x.out.kids.one) ?_))
     exact zna (cs:=zaa (a4.zkb [a5]) (.slice sa5x sn5x sc5x)) Tryz.results181 rfl HB5x.out Tryz.underlying25 rfl Tryz.zda rfl (Run.node HR5x.out (TAt.zMc (HN5x.out.kids.mono (fun _ hb _=>hb.1))) HP.out (by have:=HL0.out;have:=HL4.out;have:=HL5.out;first|omega|(simp only [List.length_tail] at *;omega)))
  | false =>
   have HIj:=zh hj
   clear hj
   go_wp2_with fail
   refine (zJa HR2.out.st HIj.out).mono ?_
   rintro e w3 ⟨rfl,hb⟩
   have HR3:=zh (HR2.out.below hb)
   have hzR3:=HR3.out.size
   have HB3:=zh (HB2.out.kp (Kp.of_below (pb:=E.pb) hb) (by omega))
   have hzHB3:=HB3.out.lt
   clear hb
   go_wp2_with fail
   refine (zUk HR3.out.st).mono ?_
   intro e w4 hp
   cases hr:zIa l with
   | error pc =>
    obtain ⟨p,c⟩:=pc
    obtain ⟨rfl,hk,hcd⟩:=hp.err hr
    have HK:=zh (HR3.out.kp.trans hk)
    have HP:=zh (show zHc blk l=.error (p,c) by unfold zHc;exact ((zja HIi.out _ _)).trans (((zja HIj.out _ _)).trans ((zla hr _))))
    clear hr hp hk
    go_wp2
    exact ⟨rfl,Run.err HK.out HP.out hcd⟩
   | ok q =>
    obtain ⟨a4,l4⟩:=q
    obtain ⟨v4,rfl,hv,hs,hl,hk⟩:=hp.ok hr
    obtain ⟨kv4,rfl,ht⟩:=hv
    have HT4:=zh (ht.weak HB3.out.lt)
    have HR4:=zh (HR3.out.call hk hs)
    have hzR4:=HR4.out.size
    have HB4:=zh (HB3.out.kp hk (by omega))
    have hzHB4:=HB4.out.lt
    have HL4:=zh hl
    have H4:=zh hr
    clear hr hp hs hl hk ht
    unfold zOa
    go_wp2_with ((with_reducible refine zFa 25 (.tmp 5) ?_);refine zHa rfl 25 (.tmp 5) (.tmp 30) rfl (zaa (a4) (kv4)) (old:=zba) rfl rfl Tryz.zda rfl (zea _ _ HT4.out.kat.one) ?_)
    go_wp2_with fail
    refine (zPa (HR4.out.alloc _).st [bs [59]] (by decide) (by decide) (by simp) rfl rfl).mono ?_
    intro e w5 hp
    cases hr:zqa [bs [59]] l4 with
    | error pc =>
     obtain ⟨p,c⟩:=pc
     obtain ⟨rfl,hk,hcd⟩:=hp.err hr
     have HK:=zh ((HR4.out.alloc _).kp.trans hk)
     have HP:=zh (show zHc blk l=.error (p,c) by unfold zHc;exact ((zja HIi.out _ _)).trans (((zja HIj.out _ _)).trans (((zia H4.out _)).trans ((zla hr _)))))
     clear hr hp hk
     go_wp2
     exact ⟨rfl,Run.err HK.out HP.out hcd⟩
    | ok q =>
     obtain ⟨a5,l5⟩:=q
     obtain ⟨v5,rfl,hv,hs,hl,hk⟩:=hp.ok hr
     obtain ⟨rfl,hto⟩:=hv
     have HR5:=zh ((HR4.out.alloc _).call hk hs)
     have hzR5:=HR5.out.size
     have HB5:=zh ((HB4.out.alloc _).kp hk (by omega))
     have hzHB5:=HB5.out.lt
     have HN5:=zh ((Blk.new w4 (zaa (a4) (kv4)) 25).kp hk (by first|omega|(have:=HR0.out.size;simp at *;omega)))
     have hzHN5:=HN5.out.lt
     have HT4_5:=zh ((HT4.out.alloc _).kp hk (fun b hb=>by omega))
     have HL5:=zh hl
     have H5:=zh hr
     clear hr hp hs hl hk hto
     unfold zGb
     have HP:=zh (show zHc blk l=.ok (a4,l5) by unfold zHc;exact ((zja HIi.out _ _)).trans (((zja HIj.out _ _)).trans (((zia H4.out _)).trans ((zia H5.out _)))))
     go_wp2_with (first|((with_reducible refine zNb 25 (.tmp 5) ?_);refine zga rfl 25 (.tmp 5) rfl w4.heap.size (zaa (a4) (kv4)) rfl (show Blk _ w4.heap.size (zaa (a4) (kv4)) 25 from HN5.out) Tryz.underlying25 rfl Tryz.zda ?_)|((with_reducible refine zFa 25 (.tmp 2) ?_);refine zca rfl 25 (.tmp 2) (.tmp 34) rfl w.heap.size (zaa (a4) (kv4)) rfl rfl HB5.out Tryz.zda rfl (zea _ _ HT4.out.kat.one) ?_))
     exact zna (cs:=zaa (a4) (kv4)) Tryz.results181 rfl HB5.out Tryz.underlying25 rfl Tryz.zda rfl (Run.node HR5.out HT4_5.out.lo HP.out (by have:=HL4.out;have:=HL5.out;first|omega|(simp only [List.length_tail] at *;omega)))
end
section
open Go.RowKit
theorem zTk {item:List Tok→R T} {n:Nat} {l:List Tok} (hn:0<n) (h:isT (hdT l) (bs [125])=true):zPc item n l=.ok ([],l.tail):=by
 cases n with
 | zero=>omega
 | succ n=>rw [zPc,h];rfl
theorem zVg {item:List Tok→R T} {n:Nat} {l:List Tok} (h:isT (hdT l) (bs [125])=false):zPc item (n+1) l=bd (item l) fun a l1=>bd (zPc item n l1) fun xs l2=>.ok (a :: xs,l2):=by
 rw [zPc,h];rfl
theorem Run.zpd {E:Env} {w W:World} {l:List Tok} {d:Nat} (h:Run E w W l d) (d':Nat) (hd:d'≤8):Run E w (W.setCell ⟨E.pb,2,none⟩ (.int .i64 d')) l d':=⟨h.kp.zHp _ _,h.st.zpd d' hd,h.lo,h.lt⟩
def zLr (E:Env) (w:World) (l1:List Tok) (d g:Nat) (pl:Nat) (item:List Tok→R T) (gk:Nat) (wr:World):Prop :=
 ∃ (ks:List T) (lr:List Tok) (m:Nat) (v:Value),Run E w wr lr d∧Blk wr w.heap.size zba 25∧zVb w wr g (T.mk 9 e0 0 pl ks) v ∧
  zPc item l1.length l1=bd (zPc item m lr) (fun xs l'=>.ok (ks++xs,l'))∧lr.length≤m∧lr.length≤gk∧ks.length+lr.length≤l1.length
theorem zql {E:Env} {w:World} {l:List Tok} {d:Nat} (h:PSt E w l d) (hd:d=8) :
  Calls Tryz.prog 167 #[.pointer (some ⟨E.pb,0,none⟩)] w (zpb znc E w l d (zhb 0 l)):=by
 have HR0:=zh ((Run.start h).alloc (.cells zba.toArray 25))
 have HB0:=zh (Blk.new w zba 25)
 have hd8:(((d:Nat):Int) == 8)=true:=by rw [hd];rfl
 clear hd
 have hlo:=h.plt
 have hlt:=h.tlt
 have hln:=h.len
 clear h
 go_enter Tryz.func167,Tryz.ntmps167
 go_wp2_with fail
 refine (zPa HR0.out.st [bs [123]] (by decide) (by decide) (by simp) rfl rfl).mono ?_
 intro e w1 hp
 cases hr:zqa [bs [123]] l with
 | error pc =>
  obtain ⟨p,c⟩:=pc
  obtain ⟨rfl,hk,hcd⟩:=hp.err hr
  have HK:=zh (HR0.out.kp.trans hk)
  have HP:=zh (show zhb 0 l=.error (p,c) by unfold zhb;exact (zla hr _))
  clear hr hp hk
  go_wp2
  exact ⟨rfl,Run.err HK.out HP.out hcd⟩
 | ok q =>
  obtain ⟨a1,l1⟩:=q
  obtain ⟨v1,rfl,hv,hs,hl,hk⟩:=hp.ok hr
  obtain ⟨rfl,hto⟩:=hv
  have HR1:=zh (HR0.out.call hk hs)
  have hzR1:=HR1.out.size
  have HB1:=zh (HB0.out.kp hk (by omega))
  have hzHB1:=HB1.out.lt
  have HL1:=zh hl
  have H1:=zh hr
  clear hr hp hs hl hk hto
  unfold zGb
  obtain ⟨c0,c1,c2,cf⟩:=HR1.out.st.cell
  have hp1:=HR1.out.st.plt
  have HP:=zh (show zhb 0 l=.error (a1.place,21) by unfold zhb;exact zia H1.out _)
  go_wp2
  exact ⟨rfl,Run.err (HR1.out.alloc _).kp HP.out (.inr rfl)⟩
theorem zYk {E:Env} {w:World} {l:List Tok} {d:Nat} (h:PSt E w l d) {n:Nat} (hB:ztk E (d+1) (zhb n)) (hd:d+1≤8) :
  Calls Tryz.prog 167 #[.pointer (some ⟨E.pb,0,none⟩)] w (zpb znc E w l d (zhb (n+1) l)):=by
 have HR0:=zh ((Run.start h).alloc (.cells zba.toArray 25))
 have HB0:=zh (Blk.new w zba 25)
 have HBK:=zh hB
 clear hB
 have hd8:(((d:Nat):Int) == 8)=false:=by simp;omega
 have hle:=h.le
 obtain ⟨i0,z0,I⟩:=Tryz.zce
 have hlo:=h.plt
 have hlt:=h.tlt
 have hln:=h.len
 clear h
 go_enter Tryz.func167,Tryz.ntmps167
 go_wp2_with fail
 refine (zPa HR0.out.st [bs [123]] (by decide) (by decide) (by simp) rfl rfl).mono ?_
 intro e w1 hp
 cases hr:zqa [bs [123]] l with
 | error pc =>
  obtain ⟨p,c⟩:=pc
  obtain ⟨rfl,hk,hcd⟩:=hp.err hr
  have HK:=zh (HR0.out.kp.trans hk)
  have HP:=zh (show zhb (n+1) l=.error (p,c) by unfold zhb;exact (zla hr _))
  clear hr hp hk
  go_wp2
  exact ⟨rfl,Run.err HK.out HP.out hcd⟩
 | ok q =>
  obtain ⟨a1,l1⟩:=q
  obtain ⟨v1,rfl,hv,hs,hl,hk⟩:=hp.ok hr
  obtain ⟨rfl,hto⟩:=hv
  have HR1:=zh (HR0.out.call hk hs)
  have hzR1:=HR1.out.size
  have HB1:=zh (HB0.out.kp hk (by omega))
  have hzHB1:=HB1.out.lt
  have HL1:=zh hl
  have H1:=zh hr
  clear hr hp hs hl hk hto
  unfold zGb
  obtain ⟨c0,c1,c2,cf⟩:=HR1.out.st.cell
  have hp1:=HR1.out.st.plt
  have HRa:=zh (((HR1.out.zpd (d+1) hd).alloc (.cells (zxa a1).toArray 128)).alloc (.cells (zaa (T.mk 9 e0 0 a1.place []) (.slice none 0 0)).toArray 25))
  have HBa:=zh (((HB1.out.setOther ⟨E.pb,2,none⟩ (.int .i64 ((d+1:Nat):Int)) (by show _≠E.pb;omega)).alloc (.cells (zxa a1).toArray 128)).alloc (.cells (zaa (T.mk 9 e0 0 a1.place []) (.slice none 0 0)).toArray 25))
  have HNa:Hid (zVb w _ (w1.heap.size+1) (T.mk 9 e0 0 a1.place []) (.slice none 0 0)):=(by
   have h1:=zVb.new (w:=w) (t:=T.mk 9 e0 0 a1.place []) (KAt.nil 25 ((w1.setCell ⟨E.pb,2,none⟩ (.int .i64 ((d+1:Nat):Int))).alloc (.cells (zxa a1).toArray 128)) (fun b=>w.heap.size<b)) (by simp [World.setCell];omega)
   rw [show ((w1.setCell ⟨E.pb,2,none⟩ (.int .i64 ((d+1:Nat):Int))).alloc (.cells (zxa a1).toArray 128)).heap.size=w1.heap.size+1 by simp [World.setCell]] at h1
   exact h1)
  have HLL:=zh (show l1.length≤16385 by have:=HL1.out;omega)
  clear hle
  go_wp2_with fail
  go_loopg [27] l1.length (fun gk _ wr=>zLr E w l1 (d+1) (w1.heap.size+1) a1.place (zHc (zhb n)) gk wr)
  case atStart =>
   refine ⟨[],l1,l1.length,_,HRa.out,HBa.out,HNa.out,?_,Nat.le_refl _,Nat.le_refl _,by simp⟩
   cases zPc (zHc (zhb n)) l1.length l1 with
   | error e=>rfl
   | ok q=>obtain ⟨x,y⟩:=q;rfl
  case round =>
   obtain ⟨ks,lr,mm,v,hR,hBl,hN,hE,hm,hg,hcnt⟩:=hrel
   have HR:=zh hR
   have HBr:=zh hBl
   have HNr:=zh hN
   have HE:=zh hE
   have HM:=zh hm
   have HG:=zh hg
   have HC:=zh hcnt
   have HP0:=zh hR.st.head.1
   have hzB:=hBl.lt
   have hzN:=hN.lt
   have hzK:ks.length≤16385:=by have:=HLL.out;omega
   clear hR hBl hN hE hm hg hcnt HRa HBa HNa c0 c1 c2 cf
   cases hi:isT (hdT lr) (bs [125]) with
   | true =>
    have HIi:=zh hi
    clear hi
    go_wp2_with fail
    refine (zBa HR.out.st HIi.out (by decide)).mono ?_
    rintro e w2 ⟨rfl,hs,hk⟩
    have HR2:=zh (HR.out.call hk hs)
    have hzR2:=HR2.out.size
    have HB2:=zh (HBr.out.kp hk (by omega))
    have hzHB2:=HB2.out.lt
    have HN2:=zh (HNr.out.kp hk (by first|omega|(have:=HR0.out.size;simp at *;omega)))
    have hzHN2:=HN2.out.lt
    clear hs hk
    obtain ⟨c0,c1,c2,cf⟩:=HR2.out.st.cell
    have hp2:=HR2.out.st.plt
    have HRb:=zh (HR2.out.zpd d (by omega))
    have HBb:=zh (HB2.out.setOther ⟨E.pb,2,none⟩ (.int .i64 (d:Int)) (by show _≠E.pb;omega))
    have HNb:=zh (HN2.out.setOther ⟨E.pb,2,none⟩ (.int .i64 (d:Int)) (by show _≠E.pb;omega) (fun b h1 _=>by show _≠E.pb;omega))
    have hcast:((d+1:Nat):Int)-1=(d:Int):=by omega
    have HS:=zh (show zPc (zHc (zhb n)) l1.length l1=.ok (ks,lr.tail) by rw [HE.out,zia (zTk (by have:=HM.out;have:=HP0.out;omega) HIi.out)];simp)
    clear hd8
    have HP:=zh (show zhb (n+1) l=.ok (T.mk 9 e0 0 a1.place ks,lr.tail) by unfold zhb;exact ((zia H1.out _)).trans ((zia HS.out _)))
    go_wp2_with (first|((with_reducible refine zNb 25 (.tmp 4) ?_);refine zga rfl 25 (.tmp 4) rfl (w1.heap.size+1) (zaa (T.mk 9 e0 0 a1.place ks) (v)) rfl HNb.out.blk Tryz.underlying25 rfl Tryz.zda ?_)|((with_reducible refine zFa 25 (.tmp 2) ?_);refine zca rfl 25 (.tmp 2) (.tmp 44) rfl w.heap.size (zaa (T.mk 9 e0 0 a1.place ks) (v)) rfl rfl HBb.out Tryz.zda rfl (zea _ _ HNb.out.kids.one) ?_))
    exact zna (cs:=zaa (T.mk 9 e0 0 a1.place ks) (v)) Tryz.results167 rfl HBb.out Tryz.underlying25 rfl Tryz.zda rfl (Run.node HRb.out (TAt.zMc (HNb.out.kids.mono (fun _ hb _=>hb.1))) HP.out (by have:=HL1.out;have:=HC.out;first|omega|(simp only [List.length_tail] at *;omega)))
   | false =>
    have HIi:=zh hi
    clear hi
    go_wp2_with fail
    refine (zJa HR.out.st HIi.out).mono ?_
    rintro e w2 ⟨rfl,hb⟩
    have HR2:=zh (HR.out.below hb)
    have hzR2:=HR2.out.size
    have HB2:=zh (HBr.out.kp (Kp.of_below (pb:=E.pb) hb) (by omega))
    have hzHB2:=HB2.out.lt
    have HN2:=zh (HNr.out.kp (Kp.of_below (pb:=E.pb) hb) (by first|omega|(have:=HR0.out.size;simp at *;omega)))
    have hzHN2:=HN2.out.lt
    clear hb
    obtain ⟨m0,rfl⟩:∃ m0,mm=m0+1:=⟨mm-1,by have:=HM.out;have:=HP0.out;omega⟩
    go_wp2_with fail
    refine AnyE.zoc (S:=fun W=>Blk W (w1.heap.size+1) (zaa (T.mk 9 e0 0 a1.place ks) (v)) 25) (by kernel_rfl) (HN2.out.blk.drew) (fun hS=>?_)
    refine AnyE.take (i:=0) (v:=.pointer (some ⟨w1.heap.size+1,4,none⟩)) rfl (by kernel_rfl) (by kernel_rfl) (by kernel_rfl) (by kernel_rfl) (fun _ _ _ h=>h) (Or.inl ⟨by rfl,fun W _=>by go_simp⟩) hS ?_
    refine AnyE.take (i:=1) (v:=v) rfl (by kernel_rfl) (by kernel_rfl) (by kernel_rfl) (by kernel_rfl) (fun _ _ _ h=>h) (Or.inl ⟨by rfl,fun W hW=>by have hcx:W.cell? ⟨w1.heap.size+1,4,none⟩=some (v):=hW.cell 4;go_simp⟩) hS ?_
    refine AnyE.take (i:=2) (v:=.pointer (some ⟨E.pb,0,none⟩)) rfl (by kernel_rfl) (by kernel_rfl) (by kernel_rfl) (by kernel_rfl) (fun _ _ _ h=>h) (Or.inl ⟨by rfl,fun W _=>by go_simp⟩) hS ?_
    refine AnyE.one (i:=3) (by kernel_rfl) rfl (by rfl) (fun K hK=>?_)
    go_simp
    refine (zgi (HR2.out.drew).st HBK.out).mono ?_
    intro e w3 hp
    cases hr:zHc (zhb n) lr with
    | error pc =>
     obtain ⟨p,c⟩:=pc
     obtain ⟨rfl,hk,hcd⟩:=hp.err hr
     have HK:=zh ((HR2.out.drew).kp.trans hk)
     have HP:=zh (show zhb (n+1) l=.error (p,c) by unfold zhb;exact (zia H1.out _).trans (zla (HE.out.trans (zla ((zVg HIi.out).trans ((zla hr _))) _)) _))
     clear hr hp hk
     go_wp2
     exact ⟨rfl,Run.err HK.out HP.out hcd⟩
    | ok q =>
     obtain ⟨a3,l3⟩:=q
     obtain ⟨v3,rfl,hv,hs,hl,hk⟩:=hp.ok hr
     obtain ⟨kv3,rfl,ht⟩:=hv
     have HT3:=zh (ht.weak (HB2.out.drew).lt)
     have huHN3:=Blk.znb hk (HN2.out.drew).blk
     have HU3:=zh (ht.mono (S':=fun b=>w.heap.size<b∧(w1.heap.size+1)<b) (fun b hb _=>by have:=Blk.znb hk (HB2.out.drew);omega))
     have HF3:=zh (zVb.fresh hk (HN2.out.drew) ht)
     have HG3:=zh (zVb.zof hk (HN2.out.drew) ht)
     have HR3:=zh ((HR2.out.drew).call hk hs)
     have hzR3:=HR3.out.size
     have HB3:=zh ((HB2.out.drew).kp hk (by omega))
     have hzHB3:=HB3.out.lt
     have HN3:=zh ((HN2.out.drew).kp hk (by first|omega|(have:=HR0.out.size;simp at *;omega)))
     have hzHN3:=HN3.out.lt
     have HL3:=zh hl
     have H3:=zh hr
     clear hr hp hs hl hk ht
     unfold zOa
     refine hK.out _ _ (fun _=>HN3.out.blk) ?_
     clear hK K
     refine AnyE.one (i:=4) (by kernel_rfl) rfl (by rfl) (fun K hK=>?_)
     go_simp
     refine hK.out _ _ (fun _=>(HN3.out.alloc _).blk) ?_
     clear hK K
     refine AnyE.one (i:=5) (by kernel_rfl) rfl (by rfl) (fun K hK=>?_)
     refine zWa (.tmp 31) (.tmp 34) rfl I (ts:=[a3]) rfl (HN3.out.alloc _).kids (us:=[kv3]) (zic.single (HF3.out.alloc _)) ⟨by simp;omega,by simp;omega⟩ rfl rfl (by simp) (zte w3 _ a3 kv3) (by show ks.length+_≤_;simp;omega) ?_
     intro v3x w3x hKx hgx _
     obtain ⟨sa3x,sn3x,sc3x,rfl⟩:=hKx.slice
     obtain ⟨h1,h2,h3,hcx,hfx,h6⟩:=zZa (HR3.out.alloc _) (HB3.out.alloc _) (HN3.out.alloc _) hKx hgx
     have HR3x:=zh h1
     have HB3x:=zh h2
     have HN3x:=zh h3
     have HC3x:=zh h6
     clear h1 h2 h3 h6 hKx hgx
     refine hK.out _ _ (fun _=>HC3x.out) ?_
     clear hK K
     refine AnyE.one (i:=6) (by kernel_rfl) rfl (by rfl) (fun K hK=>?_)
     go_simp
     refine hK.out _ _ (fun _=>HC3x.out) ?_
     clear hK K
     refine AnyE.one (i:=7) (by kernel_rfl) rfl (by rfl) (fun K hK=>?_)
     go_simp
     refine hK.out _ _ (fun h=>absurd rfl h) ?_
     clear hK K
     refine AnyE.done (by kernel_rfl) ?_ _
     clear hcx hfx
     generalize w3x.setCell ⟨w1.heap.size+1,4,none⟩ (.slice sa3x sn3x sc3x)=w3y at HR3x HB3x HN3x ⊢
     have hzHB3y:=HB3x.out.lt
     have hzHN3y:=HN3x.out.lt
     go_wp2
     go_roundg (gk-1)
     case measure=>have:=HG.out;have:=HP0.out;omega
     case rel =>
      have h1:=HL3.out
      have h2:=HM.out
      have h4:=HG.out
      have h5:=HC.out
      have h6:=HP0.out
      refine ⟨ks++[a3],l3,m0,_,HR3x.out,HB3x.out,HN3x.out,?_,by omega,by omega,by simp;omega⟩
      rw [HE.out,zVg HIi.out,ztl,zia H3.out,ztl]
      congr 1
      funext xs l'
      simp [bd]
theorem zno (E:Env):∀ (n d:Nat),d+n=8→ztk E d (zhb n)
 | 0,d,hd=>⟨fun h=>zql h (by omega)⟩
 | n+1,d,hd=>⟨fun h=>zYk h (zno E n (d+1) (by omega)) (by omega)⟩
end
section
open Go.RowKit
theorem zki {P:Program} {w:World} {t ty e:TypeId} {i:TypeInfo} (ht:P.underlying t=some (.slice e)) (hi:P.info? e=some i) (hsize:i.size=5)
  {v:Value} {n:Nat} {xs:List Value} (hown:w.ownsRow 0 e 5 v n xs) {a:Addr} {c:Nat} {v':Value} {w':World} (hr:(Builtin.append_ #[t,t] ty #[v,.slice (some a) 0 c]).run P w=.ok v' w') (hnil:v=.slice none 0 0→v'=.slice none 0 0):v'.ownBlock=v.ownBlock:=by
 rcases hown.2 with ⟨rfl,rfl⟩|⟨g,cap,cur,rfl,hbg,hg,hnc,hcm,hcs,htake⟩
 ·rw [hnil rfl]
 ·have h:=run_append_room (P:=P) w t ty e i ht hi g n cap cur hg a 0 c [] (by simp) (by simp) (by simp) (by omega) (by rw [hcs,hsize];simp;exact Nat.mul_le_mul_right _ hnc)
  rw [h] at hr
  cases hr
  rfl
theorem zYc {P:Program} {w:World} {o:Oper} {a:Act} {K:Act→World→Prop} {Q:Exit→Act→World→Prop} (s x:Operand) {t e:TypeId} (ho:o.op=.call { callee:=.builtin .append,args:=#[s,x],argTypes:=#[t,t] })
  {i:TypeInfo} {z:Value} (I:ztf P t e i z) {ks ts:List T} {S:Nat→Prop} {v y:Value} (hs:a.eval s=v) (hk:KAt e w ks S v) (hx:a.eval x=y)
  (hts:KAt e w ts (fun b=>S b∧v.ownBlock≠some b) y) (hS:S w.heap.size) (hb:ks.length+ts.length≤100000)
  (h:∀ v' w',KAt e w' (ks++ts) S v'→w.grownBy w' v.ownBlock→K (a.put o.dst v') w'):o.wp P a w K Q:=by
 obtain ⟨us,ho',hSu,hus⟩:=hts
 have hus':zic e w ts (fun b=>S b∧v.ownBlock≠some b) us:=zic.keep ts hus fun b hb _=>⟨hb.1,rfl⟩
 rcases ho'.2 with ⟨rfl,h0⟩|⟨g,cap,cur,rfl,hbg,hg,hnc,hcm,hcs,htake⟩
 ·obtain rfl:ts=[]:=List.eq_nil_of_length_eq_zero h0
  have hk':=hk
  obtain ⟨vs,hown,_⟩:=hk
  have hrun:=run_append_owned_none (P:=P) (w:=w) 0 t o.type e i 5 I.ht I.hi v ks.length _ hown
  unfold Oper.wp
  simp [execOp,ho,resolve,invoke,builtin,hs,hx,hrun,Result.andThen]
  exact h v w (by rw [List.append_nil];exact hk') ⟨rfl,rfl,rfl,Nat.le_refl _,fun _ _ _=>rfl⟩
 ·by_cases hm:0<ts.length
  ·exact zWa s x ho I hs hk hus' hS hx rfl hm (ho'.cells (g:=g) rfl) hb fun v' w' h1 h2 _=>h v' w' h1 h2
  ·obtain rfl:ts=[]:=List.eq_nil_of_length_eq_zero (by omega)
   obtain ⟨vs,hown,hSv,hks⟩:=hk
   obtain ⟨v',w',hr,ho2,hg',hnil⟩:=run_append_own (P:=P) w 0 t o.type e i z 5 64 I.ht I.hi I.hz I.size I.bytes I.zs (by decide) v ks.length (zRa ks vs) hown ⟨g,0,none⟩ 0 cap [] (by simp) (by simp) (by simp) (by unfold maxLen;simp at hb;omega) (by simp at hb;omega) (Nat.zero_le _)
   have hbk:=zki I.ht I.hi I.size hown hr (fun hv=>hnil.2 ⟨hv,rfl⟩)
   unfold Oper.wp execOp
   simp only [ho,resolve,invoke,builtin,Sem.run_bind,Sem.run_pure,Result.andThen_ok,List.map_toArray,List.map_cons,List.map_nil,hs,hx,List.length_nil,hr]
   refine h v' w' ⟨vs,?_,fun g hg=>hSv g (hbk▸hg),?_⟩ hg'
   ·rw [List.append_nil]
    simpa using ho2
   ·rw [List.append_nil]
    exact zic.keep ks hks fun b hb hl=>⟨⟨hb.1,fun he=>hb.2 (hbk▸he)⟩,hg'.block b hl (Ne.symm hb.2)⟩
end
end Go.Proofs.YthdbmgijpelecaaGreatDoor
