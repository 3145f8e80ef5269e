/- The contract of lychgateref02.cmp. ONE contract for each function of the document's parser, whatever state it is called in (with a fault or without): RTot for those that hand back a node; and the contracts of term, cmp so, and of fact. The contract of lychgateref02.fact. has, must and name of the document's parser, each in ONE contract for every state. How what calls of the document's parser come to is put together: one behind the other, and behind a look at the next token. No conditions. The contract of lychgateref02.field. -/
import Derived.Test.YthdbmgijpelecaaGreatDoorM20
import Derived.Test.YthdbmgijpelecaaGreatDoorM21
namespace Go.Proofs.YthdbmgijpelecaaGreatDoor
set_option maxRecDepth 100000
set_option maxHeartbeats 4000000
section
open Go.RowKit
theorem zIi:zUa (bs [60])=true:=by kernel_rfl
theorem ztk:zUa (bs [60,61])=true:=by kernel_rfl
theorem zbm:zUa (bs [61,61])=true:=by kernel_rfl
def zKc:List Value:=[.string (bs [60]),.string (bs [60,61]),.string (bs [61,61])]
theorem zCo {E:Env} {w:World} {l:List Tok} {d:Nat} {q:Nat} (h:RSt E w l d 0 q) (hi0:isT (hdT l) (bs [60])=true) :
  Calls Tryz.prog 122 #[.pointer (some ⟨E.pb,0,none⟩)] w fun e w'=>e=.returned (.string (bs [60]))∧RSt E w' l.tail d 0 q∧Kp E.pb w w':=by
 have HI0:=zh hi0
 clear hi0
 have HL:=zh (Blk.new w zKc 9)
 have H:=zh (h.alloc (.cells zKc.toArray 9))
 have HK:=zh ((Kp.refl E.pb w).alloc (.cells zKc.toArray 9))
 have hplt:=h.plt
 clear h
 go_enter Tryz.func122,Tryz.ntmps122
 go_wp2_with fail
 refine wp_loop_rounds 4 ?_
 rw [rounds_succ]
 go_wp2_with fail
 refine (zYd H.out (bs [60]) zIi (by decide) HI0.out).mono ?_
 rintro e w0 ⟨rfl,hs,hk⟩
 have HL0:=zh (HL.out.kp hk (by omega))
 have HKY:=zh (HK.out.trans hk)
 have HSY:=zh hs
 clear hs hk
 have l00:w0.cell? ⟨w.heap.size,0,none⟩=some (.string (bs [60])):=HL0.out.cell 0
 go_wp2_with fail
 go_ret
 exact ⟨rfl,HSY.out,HKY.out⟩
theorem zkq {E:Env} {w:World} {l:List Tok} {d:Nat} {q:Nat} (h:RSt E w l d 0 q) (hi0:isT (hdT l) (bs [60])=false) (hi1:isT (hdT l) (bs [60,61])=true) :
  Calls Tryz.prog 122 #[.pointer (some ⟨E.pb,0,none⟩)] w fun e w'=>e=.returned (.string (bs [60,61]))∧RSt E w' l.tail d 0 q∧Kp E.pb w w':=by
 have HI0:=zh hi0
 clear hi0
 have HI1:=zh hi1
 clear hi1
 have HL:=zh (Blk.new w zKc 9)
 have H:=zh (h.alloc (.cells zKc.toArray 9))
 have HK:=zh ((Kp.refl E.pb w).alloc (.cells zKc.toArray 9))
 have hplt:=h.plt
 clear h
 go_enter Tryz.func122,Tryz.ntmps122
 go_wp2_with fail
 refine wp_loop_rounds 4 ?_
 rw [rounds_succ]
 go_wp2_with fail
 refine (zCc H.out (bs [60]) zIi (zme HI0.out)).mono ?_
 rintro e w0 ⟨rfl,hb⟩
 have H0:=zh (H.out.below hb)
 have HL0:=zh (HL.out.below hb)
 have HK0:=zh (HK.out.trans (Kp.of_below hb))
 clear hb
 have l00:w0.cell? ⟨w.heap.size,0,none⟩=some (.string (bs [60])):=HL0.out.cell 0
 have l01:w0.cell? ⟨w.heap.size,1,none⟩=some (.string (bs [60,61])):=HL0.out.cell 1
 have l02:w0.cell? ⟨w.heap.size,2,none⟩=some (.string (bs [61,61])):=HL0.out.cell 2
 go_wp2_with fail
 rw [rounds_succ]
 go_wp2_with fail
 refine (zYd H0.out (bs [60,61]) ztk (by decide) HI1.out).mono ?_
 rintro e w1 ⟨rfl,hs,hk⟩
 have HL1:=zh (HL0.out.kp hk (by omega))
 have HKY:=zh (HK0.out.trans hk)
 have HSY:=zh hs
 clear hs hk
 have l11:w1.cell? ⟨w.heap.size,1,none⟩=some (.string (bs [60,61])):=HL1.out.cell 1
 go_wp2_with fail
 go_ret
 exact ⟨rfl,HSY.out,HKY.out⟩
theorem zso {E:Env} {w:World} {l:List Tok} {d:Nat} {q:Nat} (h:RSt E w l d 0 q) (hi0:isT (hdT l) (bs [60])=false) (hi1:isT (hdT l) (bs [60,61])=false) (hi2:isT (hdT l) (bs [61,61])=true) :
  Calls Tryz.prog 122 #[.pointer (some ⟨E.pb,0,none⟩)] w fun e w'=>e=.returned (.string (bs [61,61]))∧RSt E w' l.tail d 0 q∧Kp E.pb w w':=by
 have HI0:=zh hi0
 clear hi0
 have HI1:=zh hi1
 clear hi1
 have HI2:=zh hi2
 clear hi2
 have HL:=zh (Blk.new w zKc 9)
 have H:=zh (h.alloc (.cells zKc.toArray 9))
 have HK:=zh ((Kp.refl E.pb w).alloc (.cells zKc.toArray 9))
 have hplt:=h.plt
 clear h
 go_enter Tryz.func122,Tryz.ntmps122
 go_wp2_with fail
 refine wp_loop_rounds 4 ?_
 rw [rounds_succ]
 go_wp2_with fail
 refine (zCc H.out (bs [60]) zIi (zme HI0.out)).mono ?_
 rintro e w0 ⟨rfl,hb⟩
 have H0:=zh (H.out.below hb)
 have HL0:=zh (HL.out.below hb)
 have HK0:=zh (HK.out.trans (Kp.of_below hb))
 clear hb
 have l00:w0.cell? ⟨w.heap.size,0,none⟩=some (.string (bs [60])):=HL0.out.cell 0
 have l01:w0.cell? ⟨w.heap.size,1,none⟩=some (.string (bs [60,61])):=HL0.out.cell 1
 have l02:w0.cell? ⟨w.heap.size,2,none⟩=some (.string (bs [61,61])):=HL0.out.cell 2
 go_wp2_with fail
 rw [rounds_succ]
 go_wp2_with fail
 refine (zCc H0.out (bs [60,61]) ztk (zme HI1.out)).mono ?_
 rintro e w1 ⟨rfl,hb⟩
 have H1:=zh (H0.out.below hb)
 have HL1:=zh (HL0.out.below hb)
 have HK1:=zh (HK0.out.trans (Kp.of_below hb))
 clear hb
 have l10:w1.cell? ⟨w.heap.size,0,none⟩=some (.string (bs [60])):=HL1.out.cell 0
 have l11:w1.cell? ⟨w.heap.size,1,none⟩=some (.string (bs [60,61])):=HL1.out.cell 1
 have l12:w1.cell? ⟨w.heap.size,2,none⟩=some (.string (bs [61,61])):=HL1.out.cell 2
 go_wp2_with fail
 rw [rounds_succ]
 go_wp2_with fail
 refine (zYd H1.out (bs [61,61]) zbm (by decide) HI2.out).mono ?_
 rintro e w2 ⟨rfl,hs,hk⟩
 have HL2:=zh (HL1.out.kp hk (by omega))
 have HKY:=zh (HK1.out.trans hk)
 have HSY:=zh hs
 clear hs hk
 have l22:w2.cell? ⟨w.heap.size,2,none⟩=some (.string (bs [61,61])):=HL2.out.cell 2
 go_wp2_with fail
 go_ret
 exact ⟨rfl,HSY.out,HKY.out⟩
theorem zut {E:Env} {w:World} {l:List Tok} {d:Nat} {q:Nat} (h:RSt E w l d 0 q) (hi0:isT (hdT l) (bs [60])=false) (hi1:isT (hdT l) (bs [60,61])=false) (hi2:isT (hdT l) (bs [61,61])=false) :
  Calls Tryz.prog 122 #[.pointer (some ⟨E.pb,0,none⟩)] w fun e w'=>e=.returned (.string ⟨#[]⟩)∧RSt E w' l d 20 (hdT l).place∧Kp E.pb w w':=by
 have HI0:=zh hi0
 clear hi0
 have HI1:=zh hi1
 clear hi1
 have HI2:=zh hi2
 clear hi2
 have HL:=zh (Blk.new w zKc 9)
 have H:=zh (h.alloc (.cells zKc.toArray 9))
 have HK:=zh ((Kp.refl E.pb w).alloc (.cells zKc.toArray 9))
 have hplt:=h.plt
 clear h
 go_enter Tryz.func122,Tryz.ntmps122
 go_wp2_with fail
 refine wp_loop_rounds 4 ?_
 rw [rounds_succ]
 go_wp2_with fail
 refine (zCc H.out (bs [60]) zIi (zme HI0.out)).mono ?_
 rintro e w0 ⟨rfl,hb⟩
 have H0:=zh (H.out.below hb)
 have HL0:=zh (HL.out.below hb)
 have HK0:=zh (HK.out.trans (Kp.of_below hb))
 clear hb
 have l00:w0.cell? ⟨w.heap.size,0,none⟩=some (.string (bs [60])):=HL0.out.cell 0
 have l01:w0.cell? ⟨w.heap.size,1,none⟩=some (.string (bs [60,61])):=HL0.out.cell 1
 have l02:w0.cell? ⟨w.heap.size,2,none⟩=some (.string (bs [61,61])):=HL0.out.cell 2
 go_wp2_with fail
 rw [rounds_succ]
 go_wp2_with fail
 refine (zCc H0.out (bs [60,61]) ztk (zme HI1.out)).mono ?_
 rintro e w1 ⟨rfl,hb⟩
 have H1:=zh (H0.out.below hb)
 have HL1:=zh (HL0.out.below hb)
 have HK1:=zh (HK0.out.trans (Kp.of_below hb))
 clear hb
 have l10:w1.cell? ⟨w.heap.size,0,none⟩=some (.string (bs [60])):=HL1.out.cell 0
 have l11:w1.cell? ⟨w.heap.size,1,none⟩=some (.string (bs [60,61])):=HL1.out.cell 1
 have l12:w1.cell? ⟨w.heap.size,2,none⟩=some (.string (bs [61,61])):=HL1.out.cell 2
 go_wp2_with fail
 rw [rounds_succ]
 go_wp2_with fail
 refine (zCc H1.out (bs [61,61]) zbm (zme HI2.out)).mono ?_
 rintro e w2 ⟨rfl,hb⟩
 have H2:=zh (H1.out.below hb)
 have HL2:=zh (HL1.out.below hb)
 have HK2:=zh (HK1.out.trans (Kp.of_below hb))
 clear hb
 have l20:w2.cell? ⟨w.heap.size,0,none⟩=some (.string (bs [60])):=HL2.out.cell 0
 have l21:w2.cell? ⟨w.heap.size,1,none⟩=some (.string (bs [60,61])):=HL2.out.cell 1
 have l22:w2.cell? ⟨w.heap.size,2,none⟩=some (.string (bs [61,61])):=HL2.out.cell 2
 go_wp2_with fail
 rw [rounds_succ]
 go_wp2_with fail
 refine (zcg H2.out 20).mono ?_
 rintro e w3 ⟨rfl,hs,hk⟩
 have HKY:=zh (HK2.out.trans hk)
 have HSY:=zh hs
 clear hs hk
 go_wp2_with fail
 go_ret
 exact ⟨rfl,HSY.out,HKY.out⟩
theorem zHr {E:Env} {w:World} {l:List Tok} {d:Nat} {f:Int} {q:Nat} (h:RSt E w l d f q) (hf:(f == 0)=false) :
  Calls Tryz.prog 122 #[.pointer (some ⟨E.pb,0,none⟩)] w fun e w'=>e=.returned (.string ⟨#[]⟩)∧Below w.heap.size w w':=by
 have HF:=zh hf
 clear hf
 have HBW:=zh ((Below.refl w.heap.size w).alloc (Nat.le_refl _) (.cells zKc.toArray 9))
 have HL:=zh (Blk.new w zKc 9)
 have H:=zh (h.alloc (.cells zKc.toArray 9))
 have HK:=zh ((Kp.refl E.pb w).alloc (.cells zKc.toArray 9))
 have hplt:=h.plt
 clear h
 go_enter Tryz.func122,Tryz.ntmps122
 go_wp2_with fail
 refine wp_loop_rounds 4 ?_
 rw [rounds_succ]
 go_wp2_with fail
 refine (zCc H.out (bs [60]) zIi (zgi HF.out _)).mono ?_
 rintro e w0 ⟨rfl,hb⟩
 have H0:=zh (H.out.below hb)
 have HL0:=zh (HL.out.below hb)
 have HK0:=zh (HK.out.trans (Kp.of_below hb))
 have HBW0:=zh (HBW.out.trans (hb.mono (by simp)))
 clear hb
 have l00:w0.cell? ⟨w.heap.size,0,none⟩=some (.string (bs [60])):=HL0.out.cell 0
 have l01:w0.cell? ⟨w.heap.size,1,none⟩=some (.string (bs [60,61])):=HL0.out.cell 1
 have l02:w0.cell? ⟨w.heap.size,2,none⟩=some (.string (bs [61,61])):=HL0.out.cell 2
 go_wp2_with fail
 rw [rounds_succ]
 go_wp2_with fail
 refine (zCc H0.out (bs [60,61]) ztk (zgi HF.out _)).mono ?_
 rintro e w1 ⟨rfl,hb⟩
 have H1:=zh (H0.out.below hb)
 have HL1:=zh (HL0.out.below hb)
 have HK1:=zh (HK0.out.trans (Kp.of_below hb))
 have HBW1:=zh (HBW0.out.trans (hb.mono HBW0.out.size))
 clear hb
 have l10:w1.cell? ⟨w.heap.size,0,none⟩=some (.string (bs [60])):=HL1.out.cell 0
 have l11:w1.cell? ⟨w.heap.size,1,none⟩=some (.string (bs [60,61])):=HL1.out.cell 1
 have l12:w1.cell? ⟨w.heap.size,2,none⟩=some (.string (bs [61,61])):=HL1.out.cell 2
 go_wp2_with fail
 rw [rounds_succ]
 go_wp2_with fail
 refine (zCc H1.out (bs [61,61]) zbm (zgi HF.out _)).mono ?_
 rintro e w2 ⟨rfl,hb⟩
 have H2:=zh (H1.out.below hb)
 have HL2:=zh (HL1.out.below hb)
 have HK2:=zh (HK1.out.trans (Kp.of_below hb))
 have HBW2:=zh (HBW1.out.trans (hb.mono HBW1.out.size))
 clear hb
 have l20:w2.cell? ⟨w.heap.size,0,none⟩=some (.string (bs [60])):=HL2.out.cell 0
 have l21:w2.cell? ⟨w.heap.size,1,none⟩=some (.string (bs [60,61])):=HL2.out.cell 1
 have l22:w2.cell? ⟨w.heap.size,2,none⟩=some (.string (bs [61,61])):=HL2.out.cell 2
 go_wp2_with fail
 rw [rounds_succ]
 go_wp2_with fail
 refine (zOf H2.out HF.out 20).mono ?_
 rintro e w3 ⟨rfl,rfl⟩
 go_wp2_with fail
 go_ret
 exact ⟨rfl,HBW2.out⟩
end
section
open Go.RowKit
def zIa {α:Type} (l:List Tok) (f:Int) (q:Nat) (r:R α) (t:α) (lf:List Tok) (f':Int) (q':Nat):Prop :=
 ((f == 0)=true∧((∃ l0,r=.ok (t,l0)∧lf=l0∧f'=0∧q'=q∧l0.length≤l.length)∨(∃ p c,r=.error (p,c)∧f'=c∧q'=p∧(c == 0)=false))) ∨
 ((f == 0)=false∧lf=l∧f'=f∧q'=q)
def zLg (E:Env) (w:World) (d:Nat) (l:List Tok) (f:Int) (q:Nat) (r:R T) (e:Ending) (w':World):Prop :=
 ∃ t v lf f' q',e=.returned (zma t v)∧KAt 34 w' t.kids (fun b=>w.heap.size≤b) v∧t.kids.length≤40000∧RSt E w' lf d f' q'∧Kp E.pb w w'∧zIa l f q r t lf f' q'
theorem zlj.tot {E:Env} {w:World} {d q:Nat} {l:List Tok} {r:R T} {e:Ending} {w':World} (h:zlj E w d q l r e w') (hk:∀ t l0,r=.ok (t,l0)→t.kids.length≤40000):zLg E w d l 0 q r e w':=by
 unfold zlj at h
 cases r with
 | ok x =>
  obtain ⟨t,l0⟩:=x
  obtain ⟨v,rfl,h1,h2,h3,h4⟩:=h
  exact ⟨t,v,l0,0,q,rfl,h1,hk t l0 rfl,h2,h3,.inl ⟨rfl,.inl ⟨l0,rfl,rfl,rfl,rfl,h4⟩⟩⟩
 | error x =>
  obtain ⟨p,c⟩:=x
  obtain ⟨t,v,lf,rfl,h1,h2,h3,h4,h5⟩:=h
  exact ⟨t,v,lf,c,p,rfl,h1,h2,h3,h4,.inl ⟨rfl,.inr ⟨p,c,rfl,rfl,rfl,h5⟩⟩⟩
theorem zDq.tot {E:Env} {w:World} {d q:Nat} {l:List Tok} {f:Int} {r:R T} {e:Ending} {w':World} (h:zDq w e w') (hs:RSt E w l d f q) (hf:(f == 0)=false):zLg E w d l f q r e w':=by
 obtain ⟨t,v,rfl,h1,h2,h3⟩:=h
 exact ⟨t,v,l,f,q,rfl,h1,by omega,hs.below h3,Kp.of_below h3,.inr ⟨hf,rfl,rfl,rfl⟩⟩
def zRt (l:List Tok) (t:T) (_:List Tok):Prop:=t.kids=[]∧t.place=(hdT l).place
theorem any_ok {α:Type} (r:R α):Ok (fun _ _=>True) r:=fun _ _ _=>trivial
theorem zyj (l:List Tok):Ok (zRt l) (zib l):=by
 unfold zib
 refine Ok.cond (fun _=>?_) (fun _=>?_)
 ·refine Ok.bd (G:=zRt l) ?_ fun n l1 h=>Ok.sum (fun _=>Ok.ok h) fun k x _=>(any_ok _).bd fun v l2 _=>Ok.ok ?_
  ·unfold zqa
   exact (any_ok _).bd fun s l1 _=>Ok.ok ⟨rfl,rfl⟩
  ·obtain ⟨k,s,n,p,ks⟩:=n
   exact h
 ·unfold zOa
  exact Ok.cond (fun _=>(any_ok _).bd fun s l1 _=>Ok.ok ⟨rfl,rfl⟩) (fun _=>(any_ok _).bd fun s l1 _=>Ok.ok ⟨rfl,rfl⟩)
theorem zjd {E:Env} {w:World} {l:List Tok} {d:Nat} {f:Int} {q:Nat} (h:RSt E w l d f q) :
  Calls Tryz.prog 121 #[.pointer (some ⟨E.pb,0,none⟩)] w (zLg E w d l f q (zib l)):=by
 cases hf:(f == 0) with
 | true =>
  have e:f=0:=beq_iff_eq.1 hf
  subst e
  exact (zMp h).mono fun _ _ hp=>hp.tot fun t l0 hr=>by rw [(zyj l t l0 hr).1];simp
 | false=>exact (zro h hf).mono fun _ _ hp=>hp.tot h hf
def cmpL:List ByteArray:=[bs [60],bs [60,61],bs [61,61]]
def RCmp (E:Env) (w:World) (d:Nat) (l:List Tok) (f:Int) (q:Nat) (e:Ending) (w':World):Prop :=
 ∃ s lf f' q',e=.returned (.string s)∧RSt E w' lf d f' q'∧Kp E.pb w w'∧zIa l f q (bd (zta cmpL l) fun t l=>.ok (t.text,l)) s lf f' q'
theorem zVj {t:Tok} {s:ByteArray} (h:isT t s=true):t.text=s:=by
 unfold isT at h
 have h1:=beq_iff_eq.1 h
 rw [ByteArray.toList_eq,ByteArray.toList_eq] at h1
 exact ByteArray.ext (Array.toList_inj.1 h1)
theorem ziq {l:List Tok} {s:ByteArray} (hm:cmpL.any (isT (hdT l))=true) (hi:isT (hdT l) s=true):(bd (zta cmpL l) fun t l=>(.ok (t.text,l):R ByteArray))=.ok (s,l.tail):=by
 have e:zta cmpL l=.ok (hdT l,l.tail):=by
  unfold zta
  rw [hm]
  rfl
 rw [zsa e,zVj hi]
theorem zTm {E:Env} {w:World} {l:List Tok} {d:Nat} {f:Int} {q:Nat} (h:RSt E w l d f q) :
  Calls Tryz.prog 122 #[.pointer (some ⟨E.pb,0,none⟩)] w (RCmp E w d l f q):=by
 cases hf:(f == 0) with
 | false=>exact (zHr h hf).mono fun _ _ ⟨he,hb⟩=>⟨_,l,f,q,he,h.below hb,Kp.of_below hb,.inr ⟨hf,rfl,rfl,rfl⟩⟩
 | true =>
  have e:f=0:=beq_iff_eq.1 hf
  subst e
  have hl:l.tail.length≤l.length:=by rw [List.length_tail];omega
  cases h0:isT (hdT l) (bs [60]) with
  | true=>exact (zCo h h0).mono fun _ _ ⟨he,hs,hk⟩=>⟨_,_,_,_,he,hs,hk,.inl ⟨rfl,.inl ⟨_,ziq (by simp [cmpL,h0]) h0,rfl,rfl,rfl,hl⟩⟩⟩
  | false =>
   cases h1:isT (hdT l) (bs [60,61]) with
   | true=>exact (zkq h h0 h1).mono fun _ _ ⟨he,hs,hk⟩=>⟨_,_,_,_,he,hs,hk,.inl ⟨rfl,.inl ⟨_,ziq (by simp [cmpL,h1]) h1,rfl,rfl,rfl,hl⟩⟩⟩
   | false =>
    cases h2:isT (hdT l) (bs [61,61]) with
    | true=>exact (zso h h0 h1 h2).mono fun _ _ ⟨he,hs,hk⟩=>⟨_,_,_,_,he,hs,hk,.inl ⟨rfl,.inl ⟨_,ziq (by simp [cmpL,h2]) h2,rfl,rfl,rfl,hl⟩⟩⟩
    | false=>exact (zut h h0 h1 h2).mono fun _ _ ⟨he,hs,hk⟩=>⟨_,_,_,_,he,hs,hk,.inl ⟨rfl,.inr ⟨_,_,by unfold zta;simp [cmpL,h0,h1,h2,bd],rfl,rfl,rfl⟩⟩⟩
end
section
open Go.RowKit
theorem zul {l l1 l2 l3:List Tok} {f f1 f2 f3:Int} {q q1 q2 q3:Nat} {t1 t2:T} {s:ByteArray} (h1:zIa l f q (zib l) t1 l1 f1 q1) (h2:zIa l1 f1 q1 (bd (zta cmpL l1) fun t l=>.ok (t.text,l)) s l2 f2 q2) (h3:zIa l2 f2 q2 (zib l2) t2 l3 f3 q3) :
  zIa l f q (zye l) (T.mk 4 s 0 t1.place [t1,t2]) l3 f3 q3:=by
 have ef:zye l=bd (zib l) fun a l'=>bd (bd (zta cmpL l') fun t l=>(.ok (t.text,l):R ByteArray)) fun c l'=>bd (zib l') fun b l'=>.ok (.mk 4 c 0 (hdT l).place [a,b],l'):=by
  unfold zye zyb
  congr 1
  funext a l'
  show bd (zta cmpL l') _=_
  cases zta cmpL l' with
  | error e=>rfl
  | ok x=>obtain ⟨c,l''⟩:=x;rfl
 rcases h1 with ⟨e0,h1⟩|⟨e0,rfl,rfl,rfl⟩
 ·rcases h1 with ⟨l0,r1,rfl,rfl,rfl,n1⟩|⟨p,c,r1,rfl,rfl,hc⟩
  ·rcases h2 with ⟨_,h2⟩|⟨e1,_⟩
   ·rcases h2 with ⟨l0,r2,rfl,rfl,rfl,n2⟩|⟨p,c,r2,rfl,rfl,hc⟩
    ·rcases h3 with ⟨_,h3⟩|⟨e2,_⟩
     ·rcases h3 with ⟨l0,r3,rfl,rfl,rfl,n3⟩|⟨p,c,r3,rfl,rfl,hc⟩
      ·refine .inl ⟨e0,.inl ⟨_,?_,rfl,rfl,rfl,by omega⟩⟩
       rw [ef,zsa r1,zsa r2,zsa r3,(zyj l t1 _ r1).2]
      ·refine .inl ⟨e0,.inr ⟨_,_,?_,rfl,rfl,hc⟩⟩
       rw [ef,zsa r1,zsa r2,zCa r3]
     ·cases e2
    ·rcases h3 with ⟨e2,_⟩|⟨_,rfl,rfl,rfl⟩
     ·rw [hc] at e2;cases e2
     ·refine .inl ⟨e0,.inr ⟨_,_,?_,rfl,rfl,hc⟩⟩
      rw [ef,zsa r1,zCa r2]
   ·cases e1
  ·rcases h2 with ⟨e1,_⟩|⟨_,rfl,rfl,rfl⟩
   ·rw [hc] at e1;cases e1
   ·rcases h3 with ⟨e2,_⟩|⟨_,rfl,rfl,rfl⟩
    ·rw [hc] at e2;cases e2
    ·refine .inl ⟨e0,.inr ⟨_,_,?_,rfl,rfl,hc⟩⟩
     rw [ef,zCa r1]
 ·rcases h2 with ⟨e1,_⟩|⟨_,rfl,rfl,rfl⟩
  ·rw [e0] at e1;cases e1
  ·rcases h3 with ⟨e2,_⟩|⟨_,rfl,rfl,rfl⟩
   ·rw [e0] at e2;cases e2
   ·exact .inr ⟨e0,rfl,rfl,rfl⟩
theorem zTo {E:Env} {w:World} {l:List Tok} {d:Nat} {f:Int} {q:Nat} (h:RSt E w l d f q) :
  Calls Tryz.prog 81 #[.pointer (some ⟨E.pb,0,none⟩)] w (zLg E w d l f q (zye l)):=by
 have H:=zh h
 have hplt:=h.plt
 have htlt:=h.tlt
 have HB0:=zh (Blk.new w zba 34)
 clear h
 go_enter Tryz.func81,Tryz.ntmps81
 go_wp2_with fail
 refine (zjd (H.out.alloc _)).mono ?_
 rintro e w1 ⟨t1,v1,l1,f1,q1,rfl,hk1,hn1,hs1,hp1,hsee1⟩
 have HB1:=zh (HB0.out.kp hp1 (by omega))
 have HV1:=zh (show KAt 34 w1 t1.kids (fun b=>w.heap.size<b) v1 from hk1.mono (fun b hb _=>by simp at hb;omega))
 have HK1:=zh (((Kp.refl E.pb w).alloc _).trans hp1)
 have H1:=zh hs1
 have HS1:=zh hsee1
 have hz1:=HB1.out.lt
 clear hk1 hs1 hp1 hsee1
 unfold zma
 go_wp2_with ((with_reducible refine zla 34 (.tmp 3) ?_);refine zga rfl 34 (.tmp 3) (.tmp 7) rfl (zaa t1 v1) (old:=zba) rfl rfl Tryz.zia rfl (zda _ _ HV1.out.one) ?_)
 refine (zTm (H1.out.alloc _)).mono ?_
 rintro e w2 ⟨s,l2,f2,q2,rfl,hs2,hp2,hsee2⟩
 have HB2:=zh ((HB1.out.alloc _).kp hp2 (by omega))
 have HN2:=zh ((Blk.new w1 (zaa t1 v1) 34).kp hp2 (by omega))
 have HK2:=zh ((HK1.out.alloc _).trans hp2)
 have HV2:=zh ((HV1.out.alloc _).kp hp2 (fun b hb=>by omega))
 have HS2:=zh hsee2
 have H2:=zh hs2
 have hz2:=HN2.out.lt
 clear hs2 hp2 hsee2
 go_wp2_with fail
 refine (zjd H2.out).mono ?_
 rintro e w3 ⟨t2,v2,l3,f3,q3,rfl,hk3,hn3,hs3,hp3,hsee3⟩
 have HB3:=zh (HB2.out.kp hp3 (by omega))
 have HN3:=zh (HN2.out.kp hp3 (by omega))
 have HK3:=zh (HK2.out.trans hp3)
 have HV3:=zh (HV2.out.kp hp3 (fun b hb=>by omega))
 have HW3:=zh (show KAt 34 w3 t2.kids (fun b=>w.heap.size<b) v2 from hk3.mono (fun b hb _=>by omega))
 have HS3:=zh hsee3
 have H3:=zh hs3
 have hz3:=HN3.out.lt
 clear hk3 hs3 hp3 hsee3
 unfold zma
 have n3:w3.cell? ⟨w1.heap.size,3,none⟩=some (.int .i64 t1.place):=HN3.out.cell 3
 go_wp2_with (first
  | ((with_reducible refine zla 34 (.tmp 5) ?_);refine zga rfl 34 (.tmp 5) (.tmp 11) rfl (zaa t2 v2) (old:=zba) rfl rfl Tryz.zia rfl (zda _ _ HW3.out.one) ?_)
  | ((with_reducible refine zra 34 (.tmp 3) ?_);refine zfa rfl 34 (.tmp 3) rfl w1.heap.size t1 v1 rfl (HN3.out.alloc _) Tryz.underlying34 rfl Tryz.zia ?_)
  | ((with_reducible refine zra 34 (.tmp 5) ?_);refine zfa rfl 34 (.tmp 5) rfl w3.heap.size t2 v2 rfl (Blk.new w3 _ _) Tryz.underlying34 rfl Tryz.zia ?_)
  | ((with_reducible refine zla 34 (.tmp 2) ?_);refine zca rfl 34 (.tmp 2) (.tmp 18) rfl w.heap.size (zaa (T.mk 4 s 0 t1.place [t1,t2]) (.slice (some ⟨w3.heap.size+1,0,none⟩) 2 2)) rfl rfl ((HB3.out.alloc _).alloc _) Tryz.zia rfl (zda _ _ rfl) ?_))
 have hsz:(w3.alloc (.cells (zaa t2 v2).toArray 34)).heap.size=w3.heap.size+1:=by simp
 have hkk:=KAt.zbs (e:=34) (w:=w3.alloc (.cells (zaa t2 v2).toArray 34)) (t:=t1) (u:=t2) (S:=fun b=>w.heap.size<b) (v:=v1) (x:=v2) (TAt.zNa (HV3.out.alloc _)) (TAt.zNa (HW3.out.alloc _)) (by rw [hsz];omega)
 rw [hsz] at hkk
 exact zka (cs:=zaa (T.mk 4 s 0 t1.place [t1,t2]) (.slice (some ⟨w3.heap.size+1,0,none⟩) 2 2)) Tryz.results81 rfl ((HB3.out.alloc _).alloc _) Tryz.underlying34 rfl Tryz.zia rfl
  ⟨T.mk 4 s 0 t1.place [t1,t2],_,l3,f3,q3,rfl,(hkk.setRow _ _ (fun b hb=>by omega)).mono (fun b hb _=>by omega),by show 2≤40000;decide,((H3.out.alloc _).alloc _).same (by simp [World.setRow]) (setRow_other _ _ _ _ (by omega)) (setRow_other _ _ _ _ (by omega)),((HK3.out.alloc _).alloc _).setRow (Nat.le_refl _) _,zul HS1.out HS2.out HS3.out⟩
end
section
open Go.RowKit
def RHas (E:Env) (w:World) (d:Nat) (l:List Tok) (f:Int) (q:Nat) (s:ByteArray) (e:Ending) (w':World):Prop :=
 ∃ b lf,e=.returned (.bool b)∧RSt E w' lf d f q∧Kp E.pb w w'∧((b=true∧(f == 0)=true∧isT (hdT l) s=true∧lf=l.tail)∨(b=false∧(f == 0 && isT (hdT l) s)=false∧lf=l))
theorem zqb {E:Env} {w:World} {l:List Tok} {d:Nat} {f:Int} {q:Nat} (h:RSt E w l d f q) (s:ByteArray) (hs:zUa s=true) (hp:0<s.size) :
  Calls Tryz.prog 37 #[.pointer (some ⟨E.pb,0,none⟩),.string s] w (RHas E w d l f q s):=by
 cases hc:(f == 0 && isT (hdT l) s) with
 | false=>exact (zCc h s hs hc).mono fun _ _ ⟨he,hb⟩=>⟨false,l,he,h.below hb,Kp.of_below hb,.inr ⟨rfl,hc,rfl⟩⟩
 | true =>
  have h1:(f == 0)=true∧isT (hdT l) s=true:=by simpa using hc
  have e:f=0:=beq_iff_eq.1 h1.1
  subst e
  exact (zYd h s hs hp h1.2).mono fun _ _ ⟨he,h2,h3⟩=>⟨true,l.tail,he,h2,h3,.inl ⟨rfl,rfl,h1.2,rfl⟩⟩
def RMust (E:Env) (w:World) (d:Nat) (l:List Tok) (f:Int) (q:Nat) (s:ByteArray) (e:Ending) (w':World):Prop :=
 ∃ lf f' q',e=.returned (.tuple #[])∧RSt E w' lf d f' q'∧Kp E.pb w w'∧∃ t,zIa l f q (zta [s] l) t lf f' q'
theorem zYa {E:Env} {w:World} {l:List Tok} {d:Nat} {f:Int} {q:Nat} (h:RSt E w l d f q) (s:ByteArray) (hs:zUa s=true) (hp:0<s.size) :
  Calls Tryz.prog 39 #[.pointer (some ⟨E.pb,0,none⟩),.string s] w (RMust E w d l f q s):=by
 cases hf:(f == 0) with
 | false=>exact (zwq h hf s hs).mono fun _ _ ⟨he,hb⟩=>⟨l,f,q,he,h.below hb,Kp.of_below hb,hdT l,.inr ⟨hf,rfl,rfl,rfl⟩⟩
 | true =>
  have e:f=0:=beq_iff_eq.1 hf
  subst e
  cases hi:isT (hdT l) s with
  | true =>
   have e1:zta [s] l=.ok (hdT l,l.tail):=by unfold zta;simp [hi]
   exact (zRi h s hs hp hi).mono fun _ _ ⟨he,h2,h3⟩=>⟨l.tail,0,q,he,h2,h3,hdT l,.inl ⟨rfl,.inl ⟨_,e1,rfl,rfl,rfl,by rw [List.length_tail];omega⟩⟩⟩
  | false =>
   have e1:zta [s] l=.error ((hdT l).place,20):=by unfold zta;simp [hi]
   exact (zvm h s hs hi).mono fun _ _ ⟨he,h2,h3⟩=>⟨l,20,_,he,h2,h3,hdT l,.inl ⟨rfl,.inr ⟨_,_,e1,rfl,rfl,rfl⟩⟩⟩
theorem zPd {E:Env} {w:World} {l:List Tok} {d:Nat} {f:Int} {q:Nat} (h:RSt E w l d f q) :
  Calls Tryz.prog 75 #[.pointer (some ⟨E.pb,0,none⟩)] w (zLg E w d l f q (zqa l)):=by
 cases hf:(f == 0) with
 | false=>exact (zyi h hf).mono fun _ _ ⟨he,hb⟩=>⟨znb,_,l,f,q,he,KAt.nil _ _ _,Nat.zero_le _,h.below hb,Kp.of_below hb,.inr ⟨hf,rfl,rfl,rfl⟩⟩
 | true =>
  have e:f=0:=beq_iff_eq.1 hf
  subst e
  cases hk:((hdT l).kind == 1) with
  | true =>
   have e1:zqa l=.ok (.mk 5 (hdT l).text 0 (hdT l).place [],l.tail):=by unfold zqa zdc zSd;rw [hk];rfl
   exact (zAk h hk).mono fun _ _ ⟨he,h2,h3⟩=>⟨_,_,l.tail,0,q,he,KAt.nil _ _ _,Nat.zero_le _,h2,h3,.inl ⟨rfl,.inl ⟨_,e1,rfl,rfl,rfl,by rw [List.length_tail];omega⟩⟩⟩
  | false =>
   have e1:zqa l=.error ((hdT l).place,20):=by unfold zqa zdc zSd;rw [hk];rfl
   exact (zek h hk).mono fun _ _ ⟨he,h2,h3⟩=>⟨znb,_,l,20,_,he,KAt.nil _ _ _,Nat.zero_le _,h2,h3,.inl ⟨rfl,.inr ⟨_,_,e1,rfl,rfl,rfl⟩⟩⟩
end
section
open Go.RowKit
theorem zIa.andThen {α β:Type} {l l1 l2:List Tok} {f f1 f2:Int} {q q1 q2:Nat} {r:R α} {k:α→List Tok→R β} {t:α} {u:β} (h1:zIa l f q r t l1 f1 q1) (h2:zIa l1 f1 q1 (k t l1) u l2 f2 q2):zIa l f q (bd r k) u l2 f2 q2:=by
 rcases h1 with ⟨e0,⟨l0,r1,rfl,rfl,rfl,n1⟩|⟨p,c,r1,rfl,rfl,hc⟩⟩|⟨e0,rfl,rfl,rfl⟩
 ·rcases h2 with ⟨e1,⟨l0,r2,rfl,rfl,rfl,n2⟩|⟨p,c,r2,rfl,rfl,hc⟩⟩|⟨e1,_⟩
  ·exact .inl ⟨e0,.inl ⟨_,(zsa r1 k).trans r2,rfl,rfl,rfl,by omega⟩⟩
  ·exact .inl ⟨e0,.inr ⟨_,_,(zsa r1 k).trans r2,rfl,rfl,hc⟩⟩
  ·cases e1
 ·rcases h2 with ⟨e1,_⟩|⟨_,rfl,rfl,rfl⟩
  ·rw [hc] at e1;cases e1
  ·exact .inl ⟨e0,.inr ⟨_,_,zCa r1 k,rfl,rfl,hc⟩⟩
 ·rcases h2 with ⟨e1,_⟩|⟨_,rfl,rfl,rfl⟩
  ·rw [e0] at e1;cases e1
  ·exact .inr ⟨e0,rfl,rfl,rfl⟩
theorem zIa.done {α:Type} (l:List Tok) (f:Int) (q:Nat) (t:α):zIa l f q (.ok (t,l)) t l f q:=by
 cases hf:(f == 0) with
 | true=>exact .inl ⟨hf,.inl ⟨l,rfl,rfl,beq_iff_eq.1 hf,rfl,Nat.le_refl _⟩⟩
 | false=>exact .inr ⟨hf,rfl,rfl,rfl⟩
theorem zIa.map {α β:Type} {l l1:List Tok} {f f1:Int} {q q1:Nat} {r:R α} {t:α} (h:zIa l f q r t l1 f1 q1) (g:α→β):zIa l f q (bd r fun a l=>.ok (g a,l)) (g t) l1 f1 q1:=h.andThen (zIa.done l1 f1 q1 (g t))
theorem zIa.junk {α β:Type} {l l1:List Tok} {f f1:Int} {q q1:Nat} {r:R α} {r':R β} {t:α} {t':β} (hf:(f == 0)=false) (h:zIa l f q r t l1 f1 q1):zIa l f q r' t' l1 f1 q1:=by
 rcases h with ⟨e0,_⟩|⟨_,h1,h2,h3⟩
 ·rw [hf] at e0;cases e0
 ·exact .inr ⟨hf,h1,h2,h3⟩
theorem zIa.len {α:Type} {l l1:List Tok} {f f1:Int} {q q1:Nat} {r:R α} {t:α} (h:zIa l f q r t l1 f1 q1):f1=0→l1.length≤l.length:=by
 rcases h with ⟨e0,⟨l0,r1,rfl,rfl,rfl,n1⟩|⟨p,c,r1,rfl,rfl,hc⟩⟩|⟨e0,rfl,rfl,rfl⟩
 ·exact fun _=>n1
 ·intro h
  subst h
  cases hc
 ·exact fun _=>Nat.le_refl _
theorem zIa.stays {α:Type} {l l1:List Tok} {f f1:Int} {q q1:Nat} {r:R α} {t:α} (h:zIa l f q r t l1 f1 q1) (hf:(f1 == 0)=true):(f == 0)=true:=by
 rcases h with ⟨e0,_⟩|⟨e0,_,rfl,_⟩
 ·exact e0
 ·rw [e0] at hf;cases hf
theorem zIa.yes {α:Type} {l l1:List Tok} {f f1:Int} {q q1:Nat} {c:Bool} {A B:R α} {t:α} (hc:c=true) (hf:(f == 0)=true) (h:zIa l.tail f q A t l1 f1 q1):zIa l f q (bif c then A else B) t l1 f1 q1:=by
 rw [hc]
 rcases h with ⟨e0,⟨l0,r1,rfl,rfl,rfl,n1⟩|⟨p,c,r1,rfl,rfl,hc⟩⟩|⟨e0,_⟩
 ·exact .inl ⟨hf,.inl ⟨_,r1,rfl,rfl,rfl,by rw [List.length_tail] at n1;omega⟩⟩
 ·exact .inl ⟨hf,.inr ⟨_,_,r1,rfl,rfl,hc⟩⟩
 ·rw [hf] at e0;cases e0
theorem zIa.yes0 {α:Type} {l l1:List Tok} {f f1:Int} {q q1:Nat} {c:Bool} {A B:R α} {t:α} (hc:c=true) (h:zIa l f q A t l1 f1 q1):zIa l f q (bif c then A else B) t l1 f1 q1:=by
 rw [hc]
 exact h
theorem zIa.no {α:Type} {l l1:List Tok} {f f1:Int} {q q1:Nat} {c:Bool} {A B:R α} {t:α} (hc:(f == 0 && c)=false) (h:zIa l f q B t l1 f1 q1):zIa l f q (bif c then A else B) t l1 f1 q1:=by
 cases hf:(f == 0) with
 | true =>
  rw [hf] at hc
  have hc':c=false:=by simpa using hc
  rw [hc']
  exact h
 | false=>exact h.junk hf
end
section
open Go.RowKit
theorem RSt.far {E:Env} {w:World} {l:List Tok} {d:Nat} {f:Int} {q:Nat} (h:RSt E w l d f q) (a:Addr) (v:Value) (h1:E.pb≠a.block) (h2:E.tb≠a.block):RSt E (w.setCell a v) l d f q :=
 h.same (by simp [World.setCell]) (Below.heap_setCell _ _ _ _ h1) (Below.heap_setCell _ _ _ _ h2)
def T.zVe (k:Int) (t:T):T:=.mk k t.text t.num t.place t.kids
def T.zwb (ks:List T) (t:T):T:=.mk t.kind t.text t.num t.place ks
theorem znp:zUa (bs [91])=true:=by kernel_rfl
theorem zvo:zUa (bs [93])=true:=by kernel_rfl
theorem zwm (l:List Tok):zPc l=bd (zqa l) fun n l1=>bif isT (hdT l1) (bs [91]) then bd (zqa l1.tail) fun a l2=>bd (zta [bs [93]] l2) fun _ l3=>.ok ((n.zVe 3).zwb [a],l3) else .ok (n.zVe 3,l1):=by
 unfold zPc zqa
 cases zdc l with
 | error e=>rfl
 | ok x=>rfl
theorem zxn {E:Env} {w:World} {l:List Tok} {d:Nat} {f:Int} {q:Nat} (h:RSt E w l d f q) :
  Calls Tryz.prog 80 #[.pointer (some ⟨E.pb,0,none⟩)] w (zLg E w d l f q (zPc l)):=by
 have H:=zh h
 have hplt:=h.plt
 have htlt:=h.tlt
 have H0:=zh (h.alloc (.cells zba.toArray 34))
 have HK0:=zh ((Kp.refl E.pb w).alloc (.cells zba.toArray 34))
 have HBr0:=zh (Blk.new w zba 34)
 have hzr0:=HBr0.out.lt
 clear h
 go_enter Tryz.func80,Tryz.ntmps80
 go_wp2_with fail
 refine (zPd H0.out).mono ?_
 rintro e w1 ⟨t1,vt1,l1,f1,q1,rfl,hk1,hn1,hs1,hp1,hsee1⟩
 have HBr1:=zh (HBr0.out.kp hp1 (by omega))
 have HK1:=zh (HK0.out.trans hp1)
 have hzr1:=HBr1.out.lt
 have HVt11:=zh (show KAt 34 w1 t1.kids (fun b=>w.heap.size<b) vt1 from hk1.mono (fun b hb _=>by (try simp at hb);omega))
 have H1:=zh hs1
 have HS1:=zh hsee1
 clear hk1 hs1 hp1 hsee1
 unfold zma
 have HBm0:=zh (Blk.new w1 (zaa t1 vt1) 34)
 have n0:(w1.alloc (.cells (zaa t1 vt1).toArray 34)).cell? ⟨w1.heap.size,0,none⟩=some (.int .i64 t1.kind):=HBm0.out.cell 0
 have nf0:=HBm0.out.frozen 0
 go_wp2_with (((with_reducible refine zla 34 (.tmp 3) ?_);refine zga rfl 34 (.tmp 3) (.tmp 7) rfl (zaa t1 vt1) (old:=zba) rfl rfl Tryz.zia rfl (zda _ _ HVt11.out.one) ?_))
 have HBn1:=zh (Blk.new w1 (zaa (t1.zVe 3) vt1) 34)
 clear HBm0 n0 nf0
 have HVt12:=zh (HVt11.out.mono (S':=(fun b=>w.heap.size<b∧b≠w1.heap.size)) (fun b hb hl=>by omega))
 refine (zqb (H1.out.alloc _) (bs [91]) znp (by decide)).mono ?_
 rintro e w2 ⟨b2,l2,rfl,hs2,hp2,hc2⟩
 have HBr2:=zh ((HBr1.out.alloc _).kp hp2 (by omega))
 have HBn2:=zh (HBn1.out.kp hp2 (by omega))
 have HVt12:=zh ((HVt12.out.alloc _).kp hp2 (fun b hb=>by omega))
 have HK2:=zh ((HK1.out.alloc _).trans hp2)
 have hzr2:=HBr2.out.lt
 have hzn2:=HBn2.out.lt
 have H2:=zh hs2
 have HC2:=zh hc2
 clear hs2 hp2 hc2
 rcases HC2.out with ⟨rfl,hf2,hi2,rfl⟩|⟨rfl,hx2,rfl⟩
 ·go_wp2_with fail
  refine (zPd H2.out).mono ?_
  rintro e w3 ⟨t3,vt3,l3,f3,q3,rfl,hk3,hn3,hs3,hp3,hsee3⟩
  have HBr3:=zh (HBr2.out.kp hp3 (by omega))
  have HBn3:=zh (HBn2.out.kp hp3 (by omega))
  have HVt13:=zh (HVt12.out.kp hp3 (fun b hb=>by omega))
  have HK3:=zh (HK2.out.trans hp3)
  have hzr3:=HBr3.out.lt
  have hzn3:=HBn3.out.lt
  have HVt33:=zh (show KAt 34 w3 t3.kids (fun b=>w.heap.size<b∧b≠w1.heap.size) vt3 from hk3.mono (fun b hb _=>by (try simp at hb);omega))
  have H3:=zh hs3
  have HS3:=zh hsee3
  clear hk3 hs3 hp3 hsee3
  unfold zma
  have n4:w3.cell? ⟨w1.heap.size,4,none⟩=some vt1:=HBn3.out.cell 4
  have nf4:=HBn3.out.frozen 4
  go_wp2_with (first|((with_reducible refine zla 34 (.tmp 5) ?_);refine zga rfl 34 (.tmp 5) (.tmp 13) rfl (zaa t3 vt3) (old:=zba) rfl rfl Tryz.zia rfl (zda _ _ HVt33.out.one) ?_)|((with_reducible refine zra 34 (.tmp 5) ?_);refine zfa rfl 34 (.tmp 5) rfl w3.heap.size t3 vt3 rfl (Blk.new w3 _ _) Tryz.underlying34 rfl Tryz.zia ?_))
  have hk1:=KAt.zwk (e:=34) (w:=((w3.setCell ⟨w1.heap.size,4,none⟩ (.slice (some ⟨w3.heap.size+1,0,none⟩) 1 1)).alloc (.cells (zaa t3 vt3).toArray 34))) (t:=t3) (S:=(fun b=>w.heap.size<b∧b≠w1.heap.size)) (TAt.zNa ((HVt33.out.setCell ⟨w1.heap.size,4,none⟩ (.slice (some ⟨w3.heap.size+1,0,none⟩) 1 1) (fun b hb=>by (try dsimp only);omega)).alloc _)) (by simp only [World.size_alloc,World.setCell,Array.size_modify];omega)
  rw [show ((w3.setCell ⟨w1.heap.size,4,none⟩ (.slice (some ⟨w3.heap.size+1,0,none⟩) 1 1)).alloc (.cells (zaa t3 vt3).toArray 34)).heap.size=w3.heap.size+1 by simp [World.setCell]] at hk1
  have HVx3:=zh hk1
  clear hk1 n4 nf4
  refine (zYa (((H3.out.far ⟨w1.heap.size,4,none⟩ _ (by (try dsimp only);omega) (by (try dsimp only);omega)).alloc _).alloc _) (bs [93]) zvo (by decide)).mono ?_
  rintro e w4 ⟨l4,f4,q4,rfl,hs4,hp4,tk4,hsee4⟩
  have HBr4:=zh ((((HBr3.out.setOther ⟨w1.heap.size,4,none⟩ _ (by (try dsimp only);omega)).alloc _).alloc _).kp hp4 (by omega))
  have HBn4:=zh ((((HBn3.out.zxa 4 _).alloc _).alloc _).kp hp4 (by omega))
  have HVx4:=zh (HVx3.out.kp hp4 (fun b hb=>by omega))
  have HK4:=zh ((((HK3.out.zwd (p:=⟨w1.heap.size,4,none⟩) (by (try dsimp only);omega) _).alloc _).alloc _).trans hp4)
  have hzr4:=HBr4.out.lt
  have hzn4:=HBn4.out.lt
  have H4:=zh hs4
  have HS4:=zh hsee4
  clear hs4 hp4 hsee4
  go_wp2_with (first|((with_reducible refine zra 34 (.tmp 3) ?_);refine zfa rfl 34 (.tmp 3) rfl w1.heap.size ((t1.zVe 3).zwb [t3]) (.slice (some ⟨w3.heap.size+1,0,none⟩) 1 1) rfl HBn4.out Tryz.underlying34 rfl Tryz.zia ?_)|((with_reducible refine zla 34 (.tmp 2) ?_);refine zca rfl 34 (.tmp 2) (.tmp 19) rfl w.heap.size (zaa ((t1.zVe 3).zwb [t3]) (.slice (some ⟨w3.heap.size+1,0,none⟩) 1 1)) rfl rfl HBr4.out Tryz.zia rfl (zda _ _ rfl) ?_))
  exact zka (cs:=zaa ((t1.zVe 3).zwb [t3]) (.slice (some ⟨w3.heap.size+1,0,none⟩) 1 1)) Tryz.results80 rfl HBr4.out Tryz.underlying34 rfl Tryz.zia rfl
   ⟨((t1.zVe 3).zwb [t3]),_,l4,f4,q4,rfl,(HVx4.out.setRow w.heap.size _ (fun b hb=>by omega)).mono (fun b hb _=>by omega),by show 1≤40000;decide,H4.out.same (by simp [World.setRow]) (setRow_other _ _ _ _ (by omega)) (setRow_other _ _ _ _ (by omega)),HK4.out.setRow (Nat.le_refl _) _,by rw [zwm];exact HS1.out.andThen (zIa.yes hi2 hf2 (HS3.out.andThen (HS4.out.andThen (zIa.done _ _ _ _))))⟩
 ·go_wp2_with (first|((with_reducible refine zra 34 (.tmp 3) ?_);refine zfa rfl 34 (.tmp 3) rfl w1.heap.size (t1.zVe 3) vt1 rfl HBn2.out Tryz.underlying34 rfl Tryz.zia ?_)|((with_reducible refine zla 34 (.tmp 2) ?_);refine zca rfl 34 (.tmp 2) (.tmp 19) rfl w.heap.size (zaa (t1.zVe 3) vt1) rfl rfl HBr2.out Tryz.zia rfl (zda _ _ HVt12.out.one) ?_))
  exact zka (cs:=zaa (t1.zVe 3) vt1) Tryz.results80 rfl HBr2.out Tryz.underlying34 rfl Tryz.zia rfl
   ⟨(t1.zVe 3),_,l2,f1,q1,rfl,(HVt12.out.setRow w.heap.size _ (fun b hb=>by omega)).mono (fun b hb _=>by omega),hn1,H2.out.same (by simp [World.setRow]) (setRow_other _ _ _ _ (by omega)) (setRow_other _ _ _ _ (by omega)),HK2.out.setRow (Nat.le_refl _) _,by rw [zwm];exact HS1.out.andThen (zIa.no hx2 (zIa.done _ _ _ _))⟩
end
end Go.Proofs.YthdbmgijpelecaaGreatDoor
