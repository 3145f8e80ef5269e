/- A local variable of type Node whose Kids grow: what is known of it (KLoc), and how things stand behind 'n.Kids = append(n.Kids, ..)'. The contracts of the parser's ifBehind and statement, where the contract of its block is known. -/
import Derived.Test.YtdhmdfhnkppnmaaDoorY05
import Derived.Test.YtdhmdfhnkppnmaaDoorY09
import Derived.Test.YtdhmdfhnkppnmaaDoorY10
namespace Go.Proofs.YtdhmdfhnkppnmaaDoor
set_option maxRecDepth 100000
set_option maxHeartbeats 1000000
section
open Go.RowKit
def T.zZa (ts:List T):T→T|.mk k s n p ks=>.mk k s n p (ks++ts)
theorem T.zLf (ts:List T) (t:T):(t.zZa ts).kids=t.kids++ts:=by cases t;rfl
theorem T.zTe (b t:T):t.snoc b=t.zZa [b]:=by cases t;rfl
theorem zLh (t:T) (v x:Value) (ts:List T):(zaa t v).set 4 x=zaa (t.zZa ts) x:=by cases t;rfl
structure zDb (w W:World) (g:Nat) (t:T) (v:Value):Prop where
 blk:Blk W g (zaa t v) 25
 kids:KAt 25 W t.kids (fun b=>w.heap.size<b∧b≠g) v
 gt:w.heap.size<g
section
variable {w W W':World} {g pb:Nat} {t:T} {v:Value}
theorem zDb.lt (h:zDb w W g t v):g<W.heap.size:=h.blk.lt
theorem zDb.kp (h:zDb w W g t v) (hk:Kp pb W W') (hp:pb<w.heap.size):zDb w W' g t v:=⟨h.blk.kp hk (by have:=h.gt;omega),h.kids.kp hk (fun b hb=>by omega),h.gt⟩
theorem zDb.alloc (h:zDb w W g t v) (o:Obj):zDb w (W.alloc o) g t v:=⟨h.blk.alloc o,h.kids.alloc o,h.gt⟩
theorem zDb.drew (h:zDb w W g t v):zDb w W.drew g t v:=⟨h.blk.drew,h.kids.drew,h.gt⟩
theorem zDb.setOther (h:zDb w W g t v) (a:Addr) (x:Value) (hn:g≠a.block) (hk:∀ b,w.heap.size<b→b≠g→b≠a.block):zDb w (W.setCell a x) g t v:=⟨h.blk.setOther a x hn,h.kids.setCell a x (fun b hb=>hk b hb.1 hb.2),h.gt⟩
theorem zDb.new {W0:World} {t:T} {v:Value} (hk:KAt 25 W0 t.kids (fun b=>w.heap.size<b) v) (hg:w.heap.size<W0.heap.size):zDb w (W0.alloc (.cells (zaa t v).toArray 25)) W0.heap.size t v :=
 ⟨Blk.new W0 _ _,hk.keep fun b hb hl=>⟨⟨hb,by omega⟩,Below.heap_alloc W0 _ b hl⟩,hg⟩
theorem zDb.fresh {a:T} {kv:Value} (_:Kp pb W W') (h:zDb w W g t v) (ht:TAt 25 W' a (fun b=>W.heap.size≤b) kv):TAt 25 W' a (fun b=>(w.heap.size<b∧b≠g)∧v.ownBlock≠some b) kv :=
 ht.mono fun b hb _=>by
  have h1:=h.lt
  have h2:=h.gt
  refine ⟨⟨by omega,by omega⟩,fun hv=>?_⟩
  obtain ⟨_,ho,_⟩:=h.kids
  have:=(ho.lt b hv).2
  omega
theorem zDb.zef {a:T} {kv:Value} (_:Kp pb W W') (h:zDb w W g t v) (ht:TAt 25 W' a (fun b=>W.heap.size≤b) kv):TAt 25 W' a (fun b=>((w.heap.size<b∧b≠g)∧v.ownBlock≠some b)∧W.heap.size≤b) kv :=
 ht.mono fun b hb _=>by
  have h1:=h.lt
  have h2:=h.gt
  refine ⟨⟨⟨by omega,by omega⟩,fun hv=>?_⟩,hb⟩
  obtain ⟨_,ho,_⟩:=h.kids
  have:=(ho.lt b hv).2
  omega
theorem zDb.zbf {ks:List T} {kv:Value} (hk:Kp pb W W') (h:zDb w W g t v) (ht:KAt 25 W' ks (fun b=>W.heap.size≤b) kv):KAt 25 W' ks (fun b=>(w.heap.size<b∧b≠g)∧v.ownBlock≠some b) kv :=
 (zDb.fresh hk h (ht.tat 0 e0 0 0)).kat
end
theorem zSd {P:Program} {ops:Array Oper} {rest:List Oper} {o:Oper} {a:Act} {w:World} {Q:Exit→Act→World→Prop} (hgd:o.guard=none) (ty:TypeId) (x:Operand) (ho:o.op=.load ty x)
  (g:Nat) (t:T) (v:Value) (hx:a.eval x=.pointer (some ⟨g,0,none⟩)) {e:TypeId} (hg:Blk w g (zaa t v) e) {d:TypeDesc} (hu:P.underlying ty=some d) (hd:d.isRow=true) (hi:(P.info? ty).map (·.size)=some 5)
  (h:wpList P ops Q rest (a.put o.dst (.agg #[.int .i64 t.kind,.string t.text,.int .i64 t.num,.int .i64 t.place,v])) w):wpList P ops Q (o :: rest) a w :=
 zfa hgd ty x ho g (zaa t v) hx hg hu hd hi h
theorem zTa {E:Env} {w W w':World} {l:List Tok} {d g:Nat} {t:T} {v v':Value} {ts:List T} {old:List Value} (hR:Run E w W l d) (hB:Blk W w.heap.size old 25) (hL:zDb w W g t v)
  (hK:KAt 25 w' (t.kids++ts) (fun b=>w.heap.size<b∧b≠g) v') (hg:W.grownBy w' v.ownBlock) :
  Run E w (w'.setCell ⟨g,4,none⟩ v') l d∧Blk (w'.setCell ⟨g,4,none⟩ v') w.heap.size old 25∧zDb w (w'.setCell ⟨g,4,none⟩ v') g (t.zZa ts) v'∧w'.cell? ⟨g,4,none⟩=some v∧w'.frozen? ⟨g,4,none⟩=false∧Blk w' g (zaa t v) 25:=by
 have hrow:∀ k,v.ownBlock=some k→w.heap.size<k∧k≠g:=fun k hk=>by obtain ⟨_,_,hS,_⟩:=hL.kids;exact hS k hk
 have h1:Blk w' g (zaa t v) 25:=hL.blk.grown hg (fun e=>(hrow g e.symm).2 rfl)
 have h2:=hL.gt
 refine ⟨(hR.grown hg (fun k hk=>by have:=(hrow k hk).1;omega)).setCell (by show w.heap.size≤g;omega) _,(hB.grown hg (fun e=>by have:=(hrow _ e.symm).1;omega)).setOther _ _ (by show _≠g;omega),⟨?_,?_,h2⟩,?_,h1.frozen 4,h1⟩
 ·have h3:=h1.zTc 4 v'
  rw [zLh t v v' ts] at h3
  exact h3
 ·rw [T.zLf]
  exact hK.setCell _ _ (fun b hb=>hb.2)
 ·rw [h1.cell 4]
  rfl
theorem zYe {k:Int} {p:Nat} {l l':List Tok} {t:T} (h:zRa k p l=.ok (t,l')):t.kids.length=2:=by
 unfold zRa at h
 cases h1:zKb l with
 | error e=>rw [zpa h1] at h;cases h
 | ok q =>
  obtain ⟨a,l1⟩:=q
  rw [zia h1] at h
  cases h2:zxa [bs [60],bs [60,61],bs [61,61]] l1 with
  | error e=>rw [zpa h2] at h;cases h
  | ok q =>
   obtain ⟨c,l2⟩:=q
   rw [zia h2] at h
   cases h3:zKb l2 with
   | error e=>rw [zpa h3] at h;cases h
   | ok q =>
    obtain ⟨b,l3⟩:=q
    rw [zia h3] at h
    cases h
    rfl
end
section
open Go.RowKit
structure zMj (E:Env) (d:Nat) (blk:List Tok→R T):Prop where
 calls:∀ {w:World} {l:List Tok},PSt E w l d→Calls Tryd.prog 76 #[.pointer (some ⟨E.pb,0,none⟩)] w (zbb zNb E w l d (blk l))
theorem zZh {E:Env} {w:World} {l:List Tok} {d:Nat} (h:PSt E w l d) {blk:List Tok→R T} (hB:zMj E d blk) (pl:Nat) :
  Calls Tryd.prog 87 #[.pointer (some ⟨E.pb,0,none⟩),.int .i64 pl] w (zbb zNb E w l d (ifP blk pl l)):=by
 have HR0:=zh ((Run.start h).alloc (.cells zba.toArray 25))
 have HB0:=zh (Blk.new w zba 25)
 have HBK:=zh hB
 clear hB
 obtain ⟨i0,z0,I⟩:=Tryd.zOc
 have hlo:=h.plt
 have hlt:=h.tlt
 have hln:=h.len
 clear h
 go_enter Tryd.func87,Tryd.ntmps87
 go_wp2_with fail
 refine (zGe HR0.out.st 15 pl).mono ?_
 intro e w1 hp
 cases hr:zRa 15 pl l with
 | error pc =>
  obtain ⟨p,c⟩:=pc
  obtain ⟨rfl,hk,hcd⟩:=hp.err hr
  have HK:=zh (HR0.out.kp.trans hk)
  have HP:=zh (show ifP blk pl l=.error (p,c) by unfold ifP;exact (zpa hr _))
  clear hr hp hk
  go_wp2
  exact ⟨rfl,Run.err HK.out HP.out hcd⟩
 | ok q =>
  obtain ⟨a1,l1⟩:=q
  obtain ⟨v1,rfl,hv,hs,hl,hk⟩:=hp.ok hr
  obtain ⟨kv1,rfl,ht⟩:=hv
  have HT1:=zh (ht.weak HB0.out.lt)
  have HR1:=zh (HR0.out.call hk hs)
  have hzR1:=HR1.out.size
  have HB1:=zh (HB0.out.kp hk (by omega))
  have hzHB1:=HB1.out.lt
  have HL1:=zh hl
  have H1:=zh hr
  clear hr hp hs hl hk ht
  unfold zma
  have HCK:=zh (zYe H1.out)
  go_wp2_with ((with_reducible refine zra 25 (.tmp 5) ?_);refine zga rfl 25 (.tmp 5) (.tmp 9) rfl (zaa (a1) (kv1)) (old:=zba) rfl rfl Tryd.zca rfl (zda _ _ HT1.out.kat.one) ?_)
  go_wp2_with fail
  refine AnyE.zHb (S:=fun W=>Blk W (w1.heap.size) (zaa (a1) (kv1)) 25) (by kernel_rfl) ((zDb.new HT1.out.lo.kat hzHB1).blk.drew) (fun hS=>?_)
  refine AnyE.take (i:=0) (v:=.pointer (some ⟨w1.heap.size,4,none⟩)) rfl (by kernel_rfl) (by kernel_rfl) (by kernel_rfl) (by kernel_rfl) (fun _ _ _ h=>h) (Or.inl ⟨by rfl,fun W _=>by go_simp⟩) hS ?_
  refine AnyE.take (i:=1) (v:=kv1) rfl (by kernel_rfl) (by kernel_rfl) (by kernel_rfl) (by kernel_rfl) (fun _ _ _ h=>h) (Or.inl ⟨by rfl,fun W hW=>by have hcx:W.cell? ⟨w1.heap.size,4,none⟩=some (kv1):=hW.cell 4;go_simp⟩) hS ?_
  refine AnyE.take (i:=2) (v:=.pointer (some ⟨E.pb,0,none⟩)) rfl (by kernel_rfl) (by kernel_rfl) (by kernel_rfl) (by kernel_rfl) (fun _ _ _ h=>h) (Or.inl ⟨by rfl,fun W _=>by go_simp⟩) hS ?_
  refine AnyE.one (i:=3) (by kernel_rfl) rfl (by rfl) (fun K hK=>?_)
  go_simp
  refine (HBK.out.calls ((HR1.out.alloc _).drew).st).mono ?_
  intro e w2 hp
  cases hr:blk l1 with
  | error pc =>
   obtain ⟨p,c⟩:=pc
   obtain ⟨rfl,hk,hcd⟩:=hp.err hr
   have HK:=zh (((HR1.out.alloc _).drew).kp.trans hk)
   have HP:=zh (show ifP blk pl l=.error (p,c) by unfold ifP;exact ((zia H1.out _)).trans ((zpa hr _)))
   clear hr hp hk
   go_wp2
   exact ⟨rfl,Run.err HK.out HP.out hcd⟩
  | ok q =>
   obtain ⟨a2,l2⟩:=q
   obtain ⟨v2,rfl,hv,hs,hl,hk⟩:=hp.ok hr
   obtain ⟨kv2,rfl,ht⟩:=hv
   have HT2:=zh (ht.weak ((HB1.out.alloc _).drew).lt)
   have huHN2:=Blk.zcb hk ((zDb.new HT1.out.lo.kat hzHB1).drew).blk
   have HU2:=zh (ht.mono (S':=fun b=>w.heap.size<b∧w1.heap.size<b) (fun b hb _=>by have:=Blk.zcb hk ((HB1.out.alloc _).drew);omega))
   have HF2:=zh (zDb.fresh hk ((zDb.new HT1.out.lo.kat hzHB1).drew) ht)
   have HG2:=zh (zDb.zef hk ((zDb.new HT1.out.lo.kat hzHB1).drew) ht)
   have HR2:=zh (((HR1.out.alloc _).drew).call hk hs)
   have hzR2:=HR2.out.size
   have HB2:=zh (((HB1.out.alloc _).drew).kp hk (by omega))
   have hzHB2:=HB2.out.lt
   have HN2:=zh (((zDb.new HT1.out.lo.kat hzHB1).drew).kp hk (by first|omega|(have:=HR0.out.size;simp at *;omega)))
   have hzHN2:=HN2.out.lt
   have HT1_2:=zh (((HT1.out.alloc _).drew).kp hk (fun b hb=>by omega))
   have HL2:=zh hl
   have H2:=zh hr
   clear hr hp hs hl hk ht
   unfold zma
   refine hK.out _ _ (fun _=>HN2.out.blk) ?_
   clear hK K
   refine AnyE.one (i:=4) (by kernel_rfl) rfl (by rfl) (fun K hK=>?_)
   go_simp
   refine hK.out _ _ (fun _=>(HN2.out.alloc _).blk) ?_
   clear hK K
   refine AnyE.one (i:=5) (by kernel_rfl) rfl (by rfl) (fun K hK=>?_)
   refine zOa (.tmp 11) (.tmp 14) rfl I (ts:=[a2]) rfl (HN2.out.alloc _).kids (us:=[kv2]) (zlb.single (HF2.out.alloc _)) ⟨by simp;omega,by simp;omega⟩ rfl rfl (by simp) (zde w2 _ a2 kv2) (by rw [HCK.out];simp) ?_
   intro v2x w2x hKx hgx _
   obtain ⟨sa2x,sn2x,sc2x,rfl⟩:=hKx.slice
   obtain ⟨h1,h2,h3,hcx,hfx,h6⟩:=zTa (HR2.out.alloc _) (HB2.out.alloc _) (HN2.out.alloc _) hKx hgx
   have HR2x:=zh h1
   have HB2x:=zh h2
   have HN2x:=zh h3
   have HC2x:=zh h6
   clear h1 h2 h3 h6 hKx hgx
   refine hK.out _ _ (fun _=>HC2x.out) ?_
   clear hK K
   refine AnyE.one (i:=6) (by kernel_rfl) rfl (by rfl) (fun K hK=>?_)
   go_simp
   refine hK.out _ _ (fun _=>HC2x.out) ?_
   clear hK K
   refine AnyE.one (i:=7) (by kernel_rfl) rfl (by rfl) (fun K hK=>?_)
   go_simp
   refine hK.out _ _ (fun h=>absurd rfl h) ?_
   clear hK K
   refine AnyE.done (by kernel_rfl) ?_ _
   clear hcx hfx
   generalize w2x.setCell ⟨w1.heap.size,4,none⟩ (.slice sa2x sn2x sc2x)=w2y at HR2x HB2x HN2x ⊢
   have hzHB2y:=HB2x.out.lt
   have hzHN2y:=HN2x.out.lt
   have HC2:=zh (show (a1.zZa [a2]).kids.length=3 by rw [T.zLf];simp [HCK.out])
   cases hi:isT (hdT l2) (bs [101,108,115,101]) with
   | false =>
    have HIi:=zh hi
    clear hi
    have HE:=zh (show zKh blk pl l2=_ by unfold zKh;exact zja HIi.out _ _)
    go_wp2_with fail
    refine (zFa (HR2x.out.alloc _).st HIi.out).mono ?_
    rintro e w3 ⟨rfl,hb⟩
    have HR3:=zh ((HR2x.out.alloc _).below hb)
    have hzR3:=HR3.out.size
    have HB3:=zh ((HB2x.out.alloc _).kp (Kp.of_below (pb:=E.pb) hb) (by omega))
    have hzHB3:=HB3.out.lt
    have HN3:=zh ((HN2x.out.alloc _).kp (Kp.of_below (pb:=E.pb) hb) (by first|omega|(have:=HR0.out.size;simp at *;omega)))
    have hzHN3:=HN3.out.lt
    have HE_3:=zh ((Blk.new w2y (zaa (T.mk 9 e0 0 pl []) (.slice none 0 0)) 25).kp (Kp.of_below (pb:=E.pb) hb) (by first|omega|(have:=HR0.out.size;simp at *;omega)))
    have hzHE_3:=HE_3.out.lt
    clear hb
    have hcell:=HN3.out.blk.cell 4
    rw [show (zaa _ _)[4]?=some _ from rfl] at hcell
    go_wp2_with (first|((with_reducible refine zva 25 (.tmp 6) ?_);refine zSd rfl 25 (.tmp 6) rfl (w2y.heap.size) (T.mk 9 e0 0 pl []) (.slice none 0 0) rfl HE_3.out Tryd.underlying25 rfl Tryd.zca ?_)|(at_builtin;refine zSb rfl (.tmp 24) (.tmp 26) rfl I (ts:=[T.mk 9 e0 0 pl []]) rfl (HN3.out.alloc _).kids (us:=[.slice none 0 0]) (zlb.single (((KAt.nil _ w3 _).tat _ _ _ _).alloc _)) ⟨by simp;omega,by simp;omega⟩ rfl rfl (by simp) (zde w3 _ (T.mk 9 e0 0 pl []) (.slice none 0 0)) (by rw [HC2.out];simp) ?_))
    intro v3x w3x hKx hgx _
    obtain ⟨sa3x,sn3x,sc3x,rfl⟩:=hKx.slice
    obtain ⟨h1,h2,h3,hcx,hfx,h6⟩:=zTa (HR3.out.alloc _) (HB3.out.alloc _) (HN3.out.alloc _) hKx hgx
    have HR3x:=zh h1
    have HB3x:=zh h2
    have HN3x:=zh h3
    have HC3x:=zh h6
    clear h1 h2 h3 h6 hKx hgx
    clear hcell
    have hzHB3y:=HB3x.out.lt
    have HP:=zh (show ifP blk pl l=.ok ((a1.zZa [a2]).zZa [T.mk 9 e0 0 pl []],l2) by unfold ifP;rw [← T.zTe,← T.zTe];exact ((zia H1.out _)).trans (((zia H2.out _)).trans ((zia HE.out _))))
    go_wp2_with (first|((with_reducible refine zva 25 (.tmp 5) ?_);refine zfa rfl 25 (.tmp 5) rfl (w1.heap.size) (zaa ((a1.zZa [a2]).zZa [T.mk 9 e0 0 pl []]) (.slice sa3x sn3x sc3x)) rfl HN3x.out.blk Tryd.underlying25 rfl Tryd.zca ?_)|((with_reducible refine zra 25 (.tmp 4) ?_);refine zea rfl 25 (.tmp 4) (.tmp 29) rfl w.heap.size (zaa ((a1.zZa [a2]).zZa [T.mk 9 e0 0 pl []]) (.slice sa3x sn3x sc3x)) rfl rfl HB3x.out Tryd.zca rfl (zda _ _ HN3x.out.kids.one) ?_))
    exact zua (cs:=zaa ((a1.zZa [a2]).zZa [T.mk 9 e0 0 pl []]) (.slice sa3x sn3x sc3x)) Tryd.results87 rfl HB3x.out Tryd.underlying25 rfl Tryd.zca rfl (Run.node HR3x.out (TAt.zoc (HN3x.out.kids.mono (fun _ hb _=>hb.1))) HP.out (by have:=HL1.out;have:=HL2.out;first|omega|(simp only [List.length_tail] at *;omega)))
   | true =>
    have HIi:=zh hi
    clear hi
    have HE:=zh (show zKh blk pl l2=_ by unfold zKh;exact zya HIi.out _ _)
    go_wp2_with fail
    refine (zBa (HR2x.out.alloc _).st HIi.out (by decide)).mono ?_
    rintro e w3 ⟨rfl,hs,hk⟩
    have HR3:=zh ((HR2x.out.alloc _).call hk hs)
    have hzR3:=HR3.out.size
    have HB3:=zh ((HB2x.out.alloc _).kp hk (by omega))
    have hzHB3:=HB3.out.lt
    have HN3:=zh ((HN2x.out.alloc _).kp hk (by first|omega|(have:=HR0.out.size;simp at *;omega)))
    have hzHN3:=HN3.out.lt
    have HE_3:=zh ((Blk.new w2y (zaa (T.mk 9 e0 0 pl []) (.slice none 0 0)) 25).kp hk (by first|omega|(have:=HR0.out.size;simp at *;omega)))
    have hzHE_3:=HE_3.out.lt
    have HX_3:=zh (((HN2x.out.kids.mono (S':=fun b=>(w.heap.size<b∧b≠w1.heap.size)∧b<w2y.heap.size) (fun b hb hl=>⟨hb,hl⟩)).alloc _).kp hk (fun b hb=>by omega))
    clear hs hk
    go_wp2_with fail
    refine (HBK.out.calls HR3.out.st).mono ?_
    intro e w4 hp
    cases hr:blk l2.tail with
    | error pc =>
     obtain ⟨p,c⟩:=pc
     obtain ⟨rfl,hk,hcd⟩:=hp.err hr
     have HK:=zh (HR3.out.kp.trans hk)
     have HP:=zh (show ifP blk pl l=.error (p,c) by unfold ifP;exact ((zia H1.out _)).trans (((zia H2.out _)).trans ((zpa (HE.out.trans hr) _))))
     clear hr hp hk
     go_wp2
     exact ⟨rfl,Run.err HK.out HP.out hcd⟩
    | ok q =>
     obtain ⟨a4,l4⟩:=q
     obtain ⟨v4,rfl,hv,hs,hl,hk⟩:=hp.ok hr
     obtain ⟨kv4,rfl,ht⟩:=hv
     have HT4:=zh (ht.weak HB3.out.lt)
     have huHN4:=Blk.zcb hk HN3.out.blk
     have huHE_4:=Blk.zcb hk HE_3.out
     have HU4:=zh (ht.mono (S':=fun b=>w.heap.size<b∧w1.heap.size<b∧w2y.heap.size<b) (fun b hb _=>by have:=Blk.zcb hk HB3.out;omega))
     have HF4:=zh (zDb.fresh hk HN3.out ht)
     have HG4:=zh (zDb.zef hk HN3.out ht)
     have HR4:=zh (HR3.out.call hk hs)
     have hzR4:=HR4.out.size
     have HB4:=zh (HB3.out.kp hk (by omega))
     have hzHB4:=HB4.out.lt
     have HN4:=zh (HN3.out.kp hk (by first|omega|(have:=HR0.out.size;simp at *;omega)))
     have hzHN4:=HN4.out.lt
     have HE_4:=zh (HE_3.out.kp hk (by first|omega|(have:=HR0.out.size;simp at *;omega)))
     have hzHE_4:=HE_4.out.lt
     have HX_4:=zh (HX_3.out.kp hk (fun b hb=>by omega))
     have HL4:=zh hl
     have H4:=zh hr
     clear hr hp hs hl hk ht
     unfold zma
     go_wp2_with (first|((with_reducible refine zra 25 (.tmp 6) ?_);refine zea rfl 25 (.tmp 6) (.tmp 22) rfl (w2y.heap.size) (zaa a4 kv4) rfl rfl HE_4.out Tryd.zca rfl (zda _ _ HT4.out.kat.one) ?_;have HRz:=zh (HR4.out.setRow (g:=w2y.heap.size) (by omega) (zaa a4 kv4).toArray);have HBz:=zh (HB4.out.zla (w2y.heap.size) (zaa a4 kv4).toArray (by omega));have HNz:=zh (show zDb w _ w1.heap.size _ _ from ⟨HN4.out.blk.zla (w2y.heap.size) (zaa a4 kv4).toArray (by omega),(HX_4.out.setRow (w2y.heap.size) (zaa a4 kv4).toArray (fun b hb=>by omega)).mono (fun b hb _=>hb.1),HN4.out.gt⟩);have HEz:=zh (HE_4.out.zna (zaa a4 kv4));have HFz:=zh ((HG4.out.setRow (w2y.heap.size) (zaa a4 kv4).toArray (fun b hb=>by omega)).mono (fun b hb _=>hb.1));generalize w4.setRow (w2y.heap.size) (zaa a4 kv4).toArray=wz at HRz HBz HNz HEz HFz ⊢;have hzHBz:=HBz.out.lt;have hzHNz:=HNz.out.lt;have hcell:=HNz.out.blk.cell 4;rw [show (zaa _ _)[4]?=some _ from rfl] at hcell)|((with_reducible refine zva 25 (.tmp 6) ?_);refine zSd rfl 25 (.tmp 6) rfl (w2y.heap.size) (a4) (kv4) rfl HEz.out Tryd.underlying25 rfl Tryd.zca ?_)|(at_builtin;refine zSb rfl (.tmp 24) (.tmp 26) rfl I (ts:=[a4]) rfl (HNz.out.alloc _).kids (us:=[kv4]) (zlb.single (HFz.out.alloc _)) ⟨by simp;omega,by simp;omega⟩ rfl rfl (by simp) (zde wz _ (a4) (kv4)) (by rw [HC2.out];simp) ?_))
     intro v4x w4x hKx hgx _
     obtain ⟨sa4x,sn4x,sc4x,rfl⟩:=hKx.slice
     obtain ⟨h1,h2,h3,hcx,hfx,h6⟩:=zTa (HRz.out.alloc _) (HBz.out.alloc _) (HNz.out.alloc _) hKx hgx
     have HR4x:=zh h1
     have HB4x:=zh h2
     have HN4x:=zh h3
     have HC4x:=zh h6
     clear h1 h2 h3 h6 hKx hgx
     clear hcell
     have hzHB4y:=HB4x.out.lt
     have HP:=zh (show ifP blk pl l=.ok ((a1.zZa [a2]).zZa [a4],l4) by unfold ifP;rw [← T.zTe,← T.zTe];exact ((zia H1.out _)).trans (((zia H2.out _)).trans ((zia (HE.out.trans H4.out) _))))
     go_wp2_with (first|((with_reducible refine zva 25 (.tmp 5) ?_);refine zfa rfl 25 (.tmp 5) rfl (w1.heap.size) (zaa ((a1.zZa [a2]).zZa [a4]) (.slice sa4x sn4x sc4x)) rfl HN4x.out.blk Tryd.underlying25 rfl Tryd.zca ?_)|((with_reducible refine zra 25 (.tmp 4) ?_);refine zea rfl 25 (.tmp 4) (.tmp 29) rfl w.heap.size (zaa ((a1.zZa [a2]).zZa [a4]) (.slice sa4x sn4x sc4x)) rfl rfl HB4x.out Tryd.zca rfl (zda _ _ HN4x.out.kids.one) ?_))
     exact zua (cs:=zaa ((a1.zZa [a2]).zZa [a4]) (.slice sa4x sn4x sc4x)) Tryd.results87 rfl HB4x.out Tryd.underlying25 rfl Tryd.zca rfl (Run.node HR4x.out (TAt.zoc (HN4x.out.kids.mono (fun _ hb _=>hb.1))) HP.out (by have:=HL1.out;have:=HL2.out;have:=HL4.out;first|omega|(simp only [List.length_tail] at *;omega)))
theorem zOh {E:Env} {w:World} {l:List Tok} {d:Nat} (h:PSt E w l d) {blk:List Tok→R T} (hB:zMj E d blk) :
  Calls Tryd.prog 85 #[.pointer (some ⟨E.pb,0,none⟩)] w (zbb zNb E w l d (zzc blk l)):=by
 have HR0:=zh ((Run.start h).alloc (.cells zba.toArray 25))
 have HB0:=zh (Blk.new w zba 25)
 have HBK:=zh hB
 clear hB
 have HL0:=zh (zOd h)
 obtain ⟨i0,z0,I⟩:=Tryd.zOc
 have hlo:=h.plt
 have hlt:=h.tlt
 have hln:=h.len
 clear h
 go_enter Tryd.func85,Tryd.ntmps85
 go_wp2_with fail
 refine (zdb HR0.out.st).mono ?_
 rintro e w1 ⟨rfl,hb⟩
 have HR1:=zh (HR0.out.below hb)
 have hzR1:=HR1.out.size
 have HB1:=zh (HB0.out.kp (Kp.of_below (pb:=E.pb) hb) (by omega))
 have hzHB1:=HB1.out.lt
 clear hb
 unfold zsb
 have fl0:=zrb
 have fl1:=zmb
 have fl3:=zpb
 cases hi:isT (hdT l) (bs [105,102]) with
 | true =>
  have HIi:=zh hi
  clear hi
  go_wp2_with fail
  refine (zBa HR1.out.st HIi.out (by decide)).mono ?_
  rintro e w2 ⟨rfl,hs,hk⟩
  have HR2:=zh (HR1.out.call hk hs)
  have hzR2:=HR2.out.size
  have HB2:=zh (HB1.out.kp hk (by omega))
  have hzHB2:=HB2.out.lt
  clear hs hk
  go_wp2_with fail
  refine (zZh HR2.out.st HBK.out _).mono ?_
  intro e w3 hp
  cases hr:ifP blk (hdT l).place l.tail with
  | error pc =>
   obtain ⟨p,c⟩:=pc
   obtain ⟨rfl,hk,hcd⟩:=hp.err hr
   have HK:=zh (HR2.out.kp.trans hk)
   have HP:=zh (show zzc blk l=.error (p,c) by unfold zzc;exact ((zya HIi.out _ _)).trans (hr))
   clear hr hp hk
   go_wp2
   exact ⟨rfl,Run.err HK.out HP.out hcd⟩
  | ok q =>
   obtain ⟨a3,l3⟩:=q
   obtain ⟨v3,rfl,hv,hs,hl,hk⟩:=hp.ok hr
   obtain ⟨kv3,rfl,ht⟩:=hv
   have HT3:=zh (ht.weak HB2.out.lt)
   have HR3:=zh (HR2.out.call hk hs)
   have hzR3:=HR3.out.size
   have HB3:=zh (HB2.out.kp hk (by omega))
   have hzHB3:=HB3.out.lt
   have HL3:=zh hl
   have H3:=zh hr
   clear hr hp hs hl hk ht
   unfold zma
   have HP:=zh (show zzc blk l=.ok (a3,l3) by unfold zzc;exact ((zya HIi.out _ _)).trans (H3.out))
   go_wp2_with ((with_reducible refine zra 25 (.tmp 2) ?_);refine zea rfl 25 (.tmp 2) (.tmp 14) rfl w.heap.size (zaa (a3) (kv3)) rfl rfl HB3.out Tryd.zca rfl (zda _ _ HT3.out.kat.one) ?_)
   exact zua (cs:=zaa (a3) (kv3)) Tryd.results85 rfl HB3.out Tryd.underlying25 rfl Tryd.zca rfl (Run.node HR3.out HT3.out.lo HP.out (by have:=HL0.out;have:=HL3.out;first|omega|(simp only [List.length_tail] at *;omega)))
 | false =>
  have HIi:=zh hi
  clear hi
  go_wp2_with fail
  refine (zFa HR1.out.st HIi.out).mono ?_
  rintro e w2 ⟨rfl,hb⟩
  have HR2:=zh (HR1.out.below hb)
  have hzR2:=HR2.out.size
  have HB2:=zh (HB1.out.kp (Kp.of_below (pb:=E.pb) hb) (by omega))
  have hzHB2:=HB2.out.lt
  clear hb
  cases hj:isT (hdT l) (bs [119,104,105,108,101]) with
  | true =>
   have HIj:=zh hj
   clear hj
   go_wp2_with fail
   refine (zBa HR2.out.st HIj.out (by decide)).mono ?_
   rintro e w3 ⟨rfl,hs,hk⟩
   have HR3:=zh (HR2.out.call hk hs)
   have hzR3:=HR3.out.size
   have HB3:=zh (HB2.out.kp hk (by omega))
   have hzHB3:=HB3.out.lt
   clear hs hk
   go_wp2_with fail
   refine (zGe HR3.out.st 16 _).mono ?_
   intro e w4 hp
   cases hr:zRa 16 (hdT l).place l.tail with
   | error pc =>
    obtain ⟨p,c⟩:=pc
    obtain ⟨rfl,hk,hcd⟩:=hp.err hr
    have HK:=zh (HR3.out.kp.trans hk)
    have HP:=zh (show zzc blk l=.error (p,c) by unfold zzc;exact (((zja HIi.out _ _)).trans ((zya HIj.out _ _))).trans (by unfold zBf;exact (zpa hr _)))
    clear hr hp hk
    go_wp2
    exact ⟨rfl,Run.err HK.out HP.out hcd⟩
   | ok q =>
    obtain ⟨a4,l4⟩:=q
    obtain ⟨v4,rfl,hv,hs,hl,hk⟩:=hp.ok hr
    obtain ⟨kv4,rfl,ht⟩:=hv
    have HT4:=zh (ht.weak HB3.out.lt)
    have HR4:=zh (HR3.out.call hk hs)
    have hzR4:=HR4.out.size
    have HB4:=zh (HB3.out.kp hk (by omega))
    have hzHB4:=HB4.out.lt
    have HL4:=zh hl
    have H4:=zh hr
    clear hr hp hs hl hk ht
    unfold zma
    have HCK:=zh (zYe H4.out)
    go_wp2_with ((with_reducible refine zra 25 (.tmp 4) ?_);refine zga rfl 25 (.tmp 4) (.tmp 20) rfl (zaa (a4) (kv4)) (old:=zba) rfl rfl Tryd.zca rfl (zda _ _ HT4.out.kat.one) ?_)
    go_wp2_with fail
    refine AnyE.zHb (S:=fun W=>Blk W (w4.heap.size) (zaa (a4) (kv4)) 25) (by kernel_rfl) ((zDb.new HT4.out.lo.kat hzHB4).blk.drew) (fun hS=>?_)
    refine AnyE.take (i:=0) (v:=.pointer (some ⟨w4.heap.size,4,none⟩)) rfl (by kernel_rfl) (by kernel_rfl) (by kernel_rfl) (by kernel_rfl) (fun _ _ _ h=>h) (Or.inl ⟨by rfl,fun W _=>by go_simp⟩) hS ?_
    refine AnyE.take (i:=1) (v:=kv4) rfl (by kernel_rfl) (by kernel_rfl) (by kernel_rfl) (by kernel_rfl) (fun _ _ _ h=>h) (Or.inl ⟨by rfl,fun W hW=>by have hcx:W.cell? ⟨w4.heap.size,4,none⟩=some (kv4):=hW.cell 4;go_simp⟩) hS ?_
    refine AnyE.take (i:=2) (v:=.pointer (some ⟨E.pb,0,none⟩)) rfl (by kernel_rfl) (by kernel_rfl) (by kernel_rfl) (by kernel_rfl) (fun _ _ _ h=>h) (Or.inl ⟨by rfl,fun W _=>by go_simp⟩) hS ?_
    refine AnyE.one (i:=3) (by kernel_rfl) rfl (by rfl) (fun K hK=>?_)
    go_simp
    refine (HBK.out.calls ((HR4.out.alloc _).drew).st).mono ?_
    intro e w5 hp
    cases hr:blk l4 with
    | error pc =>
     obtain ⟨p,c⟩:=pc
     obtain ⟨rfl,hk,hcd⟩:=hp.err hr
     have HK:=zh (((HR4.out.alloc _).drew).kp.trans hk)
     have HP:=zh (show zzc blk l=.error (p,c) by unfold zzc;exact (((zja HIi.out _ _)).trans ((zya HIj.out _ _))).trans (by unfold zBf;exact ((zia H4.out _)).trans ((zpa hr _))))
     clear hr hp hk
     go_wp2
     exact ⟨rfl,Run.err HK.out HP.out hcd⟩
    | ok q =>
     obtain ⟨a5,l5⟩:=q
     obtain ⟨v5,rfl,hv,hs,hl,hk⟩:=hp.ok hr
     obtain ⟨kv5,rfl,ht⟩:=hv
     have HT5:=zh (ht.weak ((HB4.out.alloc _).drew).lt)
     have huHN5:=Blk.zcb hk ((zDb.new HT4.out.lo.kat hzHB4).drew).blk
     have HU5:=zh (ht.mono (S':=fun b=>w.heap.size<b∧w4.heap.size<b) (fun b hb _=>by have:=Blk.zcb hk ((HB4.out.alloc _).drew);omega))
     have HF5:=zh (zDb.fresh hk ((zDb.new HT4.out.lo.kat hzHB4).drew) ht)
     have HG5:=zh (zDb.zef hk ((zDb.new HT4.out.lo.kat hzHB4).drew) ht)
     have HR5:=zh (((HR4.out.alloc _).drew).call hk hs)
     have hzR5:=HR5.out.size
     have HB5:=zh (((HB4.out.alloc _).drew).kp hk (by omega))
     have hzHB5:=HB5.out.lt
     have HN5:=zh (((zDb.new HT4.out.lo.kat hzHB4).drew).kp hk (by first|omega|(have:=HR0.out.size;simp at *;omega)))
     have hzHN5:=HN5.out.lt
     have HT4_5:=zh (((HT4.out.alloc _).drew).kp hk (fun b hb=>by omega))
     have HL5:=zh hl
     have H5:=zh hr
     clear hr hp hs hl hk ht
     unfold zma
     refine hK.out _ _ (fun _=>HN5.out.blk) ?_
     clear hK K
     refine AnyE.one (i:=4) (by kernel_rfl) rfl (by rfl) (fun K hK=>?_)
     go_simp
     refine hK.out _ _ (fun _=>(HN5.out.alloc _).blk) ?_
     clear hK K
     refine AnyE.one (i:=5) (by kernel_rfl) rfl (by rfl) (fun K hK=>?_)
     refine zOa (.tmp 22) (.tmp 25) rfl I (ts:=[a5]) rfl (HN5.out.alloc _).kids (us:=[kv5]) (zlb.single (HF5.out.alloc _)) ⟨by simp;omega,by simp;omega⟩ rfl rfl (by simp) (zde w5 _ a5 kv5) (by rw [HCK.out];simp) ?_
     intro v5x w5x hKx hgx _
     obtain ⟨sa5x,sn5x,sc5x,rfl⟩:=hKx.slice
     obtain ⟨h1,h2,h3,hcx,hfx,h6⟩:=zTa (HR5.out.alloc _) (HB5.out.alloc _) (HN5.out.alloc _) hKx hgx
     have HR5x:=zh h1
     have HB5x:=zh h2
     have HN5x:=zh h3
     have HC5x:=zh h6
     clear h1 h2 h3 h6 hKx hgx
     refine hK.out _ _ (fun _=>HC5x.out) ?_
     clear hK K
     refine AnyE.one (i:=6) (by kernel_rfl) rfl (by rfl) (fun K hK=>?_)
     go_simp
     refine hK.out _ _ (fun _=>HC5x.out) ?_
     clear hK K
     refine AnyE.one (i:=7) (by kernel_rfl) rfl (by rfl) (fun K hK=>?_)
     go_simp
     refine hK.out _ _ (fun h=>absurd rfl h) ?_
     clear hK K
     refine AnyE.done (by kernel_rfl) ?_ _
     clear hcx hfx
     generalize w5x.setCell ⟨w4.heap.size,4,none⟩ (.slice sa5x sn5x sc5x)=w5y at HR5x HB5x HN5x ⊢
     have hzHB5y:=HB5x.out.lt
     have hzHN5y:=HN5x.out.lt
     have HP:=zh (show zzc blk l=.ok (a4.zZa [a5],l5) by unfold zzc;rw [← T.zTe];exact (((zja HIi.out _ _)).trans ((zya HIj.out _ _))).trans (by unfold zBf;exact ((zia H4.out _)).trans ((zia H5.out _))))
     go_wp2_with (first|((with_reducible refine zva 25 (.tmp 4) ?_);refine zfa rfl 25 (.tmp 4) rfl (w4.heap.size) (zaa (a4.zZa [a5]) (.slice sa5x sn5x sc5x)) rfl HN5x.out.blk Tryd.underlying25 rfl Tryd.zca ?_)|((with_reducible refine zra 25 (.tmp 2) ?_);refine zea rfl 25 (.tmp 2) (.tmp 28) rfl w.heap.size (zaa (a4.zZa [a5]) (.slice sa5x sn5x sc5x)) rfl rfl HB5x.out Tryd.zca rfl (zda _ _ HN5x.out.kids.one) ?_))
     exact zua (cs:=zaa (a4.zZa [a5]) (.slice sa5x sn5x sc5x)) Tryd.results85 rfl HB5x.out Tryd.underlying25 rfl Tryd.zca rfl (Run.node HR5x.out (TAt.zoc (HN5x.out.kids.mono (fun _ hb _=>hb.1))) HP.out (by have:=HL0.out;have:=HL4.out;have:=HL5.out;first|omega|(simp only [List.length_tail] at *;omega)))
  | false =>
   have HIj:=zh hj
   clear hj
   go_wp2_with fail
   refine (zFa HR2.out.st HIj.out).mono ?_
   rintro e w3 ⟨rfl,hb⟩
   have HR3:=zh (HR2.out.below hb)
   have hzR3:=HR3.out.size
   have HB3:=zh (HB2.out.kp (Kp.of_below (pb:=E.pb) hb) (by omega))
   have hzHB3:=HB3.out.lt
   clear hb
   go_wp2_with fail
   refine (zqk HR3.out.st).mono ?_
   intro e w4 hp
   cases hr:zHa l with
   | error pc =>
    obtain ⟨p,c⟩:=pc
    obtain ⟨rfl,hk,hcd⟩:=hp.err hr
    have HK:=zh (HR3.out.kp.trans hk)
    have HP:=zh (show zzc blk l=.error (p,c) by unfold zzc;exact ((zja HIi.out _ _)).trans (((zja HIj.out _ _)).trans ((zpa hr _))))
    clear hr hp hk
    go_wp2
    exact ⟨rfl,Run.err HK.out HP.out hcd⟩
   | ok q =>
    obtain ⟨a4,l4⟩:=q
    obtain ⟨v4,rfl,hv,hs,hl,hk⟩:=hp.ok hr
    obtain ⟨kv4,rfl,ht⟩:=hv
    have HT4:=zh (ht.weak HB3.out.lt)
    have HR4:=zh (HR3.out.call hk hs)
    have hzR4:=HR4.out.size
    have HB4:=zh (HB3.out.kp hk (by omega))
    have hzHB4:=HB4.out.lt
    have HL4:=zh hl
    have H4:=zh hr
    clear hr hp hs hl hk ht
    unfold zma
    go_wp2_with ((with_reducible refine zra 25 (.tmp 5) ?_);refine zga rfl 25 (.tmp 5) (.tmp 30) rfl (zaa (a4) (kv4)) (old:=zba) rfl rfl Tryd.zca rfl (zda _ _ HT4.out.kat.one) ?_)
    go_wp2_with fail
    refine (zLa (HR4.out.alloc _).st [bs [59]] (by decide) (by decide) (by simp) rfl rfl).mono ?_
    intro e w5 hp
    cases hr:zxa [bs [59]] l4 with
    | error pc =>
     obtain ⟨p,c⟩:=pc
     obtain ⟨rfl,hk,hcd⟩:=hp.err hr
     have HK:=zh ((HR4.out.alloc _).kp.trans hk)
     have HP:=zh (show zzc blk l=.error (p,c) by unfold zzc;exact ((zja HIi.out _ _)).trans (((zja HIj.out _ _)).trans (((zia H4.out _)).trans ((zpa hr _)))))
     clear hr hp hk
     go_wp2
     exact ⟨rfl,Run.err HK.out HP.out hcd⟩
    | ok q =>
     obtain ⟨a5,l5⟩:=q
     obtain ⟨v5,rfl,hv,hs,hl,hk⟩:=hp.ok hr
     obtain ⟨rfl,hto⟩:=hv
     have HR5:=zh ((HR4.out.alloc _).call hk hs)
     have hzR5:=HR5.out.size
     have HB5:=zh ((HB4.out.alloc _).kp hk (by omega))
     have hzHB5:=HB5.out.lt
     have HN5:=zh ((Blk.new w4 (zaa (a4) (kv4)) 25).kp hk (by first|omega|(have:=HR0.out.size;simp at *;omega)))
     have hzHN5:=HN5.out.lt
     have HT4_5:=zh ((HT4.out.alloc _).kp hk (fun b hb=>by omega))
     have HL5:=zh hl
     have H5:=zh hr
     clear hr hp hs hl hk hto
     unfold zsb
     have HP:=zh (show zzc blk l=.ok (a4,l5) by unfold zzc;exact ((zja HIi.out _ _)).trans (((zja HIj.out _ _)).trans (((zia H4.out _)).trans ((zia H5.out _)))))
     go_wp2_with (first|((with_reducible refine zva 25 (.tmp 5) ?_);refine zfa rfl 25 (.tmp 5) rfl w4.heap.size (zaa (a4) (kv4)) rfl (show Blk _ w4.heap.size (zaa (a4) (kv4)) 25 from HN5.out) Tryd.underlying25 rfl Tryd.zca ?_)|((with_reducible refine zra 25 (.tmp 2) ?_);refine zea rfl 25 (.tmp 2) (.tmp 34) rfl w.heap.size (zaa (a4) (kv4)) rfl rfl HB5.out Tryd.zca rfl (zda _ _ HT4.out.kat.one) ?_))
     exact zua (cs:=zaa (a4) (kv4)) Tryd.results85 rfl HB5.out Tryd.underlying25 rfl Tryd.zca rfl (Run.node HR5.out HT4_5.out.lo HP.out (by have:=HL4.out;have:=HL5.out;first|omega|(simp only [List.length_tail] at *;omega)))
end
end Go.Proofs.YtdhmdfhnkppnmaaDoor
