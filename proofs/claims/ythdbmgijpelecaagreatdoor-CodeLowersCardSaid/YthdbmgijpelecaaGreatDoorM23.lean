/- The contract of lychgateref02.mode. The contracts of lychgateref02.fail and lychgateref02.sort. -/
import Derived.Test.YthdbmgijpelecaaGreatDoorM22
import Derived.Deep.RegionHeld3
namespace Go.Proofs.YthdbmgijpelecaaGreatDoor
set_option maxRecDepth 100000
set_option maxHeartbeats 4000000
section
open Go.RowKit
theorem zIa.turn {α:Type} {l l1:List Tok} {f f1:Int} {q q1:Nat} {r r':R α} {t:α} (he:(f == 0)=true→r=r') (h:zIa l f q r' t l1 f1 q1):zIa l f q r t l1 f1 q1:=by
 cases hf:(f == 0) with
 | true=>rw [he hf];exact h
 | false=>exact h.junk hf
theorem zIa.take {α:Type} {l:List Tok} {f:Int} {q:Nat} (hf:(f == 0)=true) (t:α):zIa l f q (.ok (t,l.tail)) t l.tail f q :=
 .inl ⟨hf,.inl ⟨_,rfl,rfl,beq_iff_eq.1 hf,rfl,by rw [List.length_tail];omega⟩⟩
theorem zIa.behind {α:Type} {l l1:List Tok} {f f1:Int} {q q1:Nat} {r:R α} {t:α} (hf:(f == 0)=true) (h:zIa l.tail f q r t l1 f1 q1):zIa l f q r t l1 f1 q1:=zIa.yes (c:=true) (B:=r) rfl hf h
theorem zee {f:Int} {c:Bool} (h:(f == 0 && c)=false) (hf:(f == 0)=true):c=false:=by rw [hf] at h;simpa using h
theorem zcn {E:Env} {w:World} {l:List Tok} {d:Nat} {f:Int} {q:Nat} (h:RSt E w l d f q) (N:List Value) :
  RSt E ((w.alloc (.cells zba.toArray 34)).alloc (.cells N.toArray 34)).drew l d f q∧Blk ((w.alloc (.cells zba.toArray 34)).alloc (.cells N.toArray 34)).drew w.heap.size zba 34 ∧
  Blk ((w.alloc (.cells zba.toArray 34)).alloc (.cells N.toArray 34)).drew (w.heap.size+1) N 34∧Kp E.pb w ((w.alloc (.cells zba.toArray 34)).alloc (.cells N.toArray 34)).drew :=
 ⟨((h.alloc _).alloc _).same (Nat.le_refl _) rfl rfl,(Blk.new w zba 34).alloc _,Blk.zpc w (.cells zba.toArray 34) N 34,(((Kp.refl E.pb w).alloc _).alloc _).drew⟩
theorem zAa {t:Tok} {a b:ByteArray} (h:isT t a=true) (hne:(a.toList == b.toList)=false):isT t b=false:=by
 unfold isT at h ⊢
 rw [beq_iff_eq.1 h]
 exact hne
theorem zAq {l:List Tok} (h:isT (hdT l) (bs [105,110,116])=true):zId l=.ok (.mk 8 (hdT l).text 0 (hdT l).place [],l.tail):=by
 unfold zId zVa zta
 rw [zAa h (b:=bs [38]) (by kernel_rfl)]
 simp only [cond_false,List.any_cons,List.any_nil,h,Bool.true_or,cond_true]
 show bd (Except.ok (hdT l,l.tail)) _=_
 unfold bd
 simp only
 rw [zAa h (b:=bs [111,119,110]) (by kernel_rfl)]
 rfl
theorem zrr {l:List Tok} (h:isT (hdT l) (bs [111,119,110])=true):zId l=bd (zqa l.tail) fun a l2=>.ok (.mk 8 (hdT l).text 0 (hdT l).place [a],l2):=by
 unfold zId zVa zta
 rw [zAa h (b:=bs [38]) (by kernel_rfl)]
 simp only [cond_false,List.any_cons,List.any_nil,h,Bool.true_or,Bool.or_true,cond_true]
 show bd (Except.ok (hdT l,l.tail)) _=_
 unfold bd
 simp only [h,cond_true]
theorem zKm {l:List Tok} (h1:isT (hdT l) (bs [105,110,116])=false) (h2:isT (hdT l) (bs [111,119,110])=false) :
  zId l=bd (zta [bs [38]] l) fun _ l1=>bif isT (hdT l1) (bs [109,117,116]) then bd (zqa l1.tail) fun a l2=>.ok (.mk 8 (bs [38,109,117,116]) 0 (hdT l).place [a],l2) else bd (zqa l1) fun a l2=>.ok (.mk 8 (hdT l).text 0 (hdT l).place [a],l2):=by
 unfold zId zVa zta
 cases h:isT (hdT l) (bs [38]) with
 | false=>simp only [cond_false,List.any_cons,List.any_nil,h1,h2,h,Bool.or_self];rfl
 | true =>
  simp only [cond_true,List.any_cons,List.any_nil,h,Bool.true_or]
  rw [zVj h]
  rfl
theorem zzu:zUa (bs [105,110,116])=true:=by kernel_rfl
theorem zZr:zUa (bs [111,119,110])=true:=by kernel_rfl
theorem zOs:zUa (bs [38])=true:=by kernel_rfl
theorem zds:zUa (bs [109,117,116])=true:=by kernel_rfl
theorem zli {E:Env} {w:World} {l:List Tok} {d:Nat} {f:Int} {q:Nat} (h:RSt E w l d f q) :
  Calls Tryz.prog 76 #[.pointer (some ⟨E.pb,0,none⟩)] w (zLg E w d l f q (zId l)):=by
 have H:=zh h
 have hplt:=h.plt
 have htlt:=h.tlt
 have H0:=zh (h.alloc (.cells zba.toArray 34))
 have HK0:=zh ((Kp.refl E.pb w).alloc (.cells zba.toArray 34))
 have HBr0:=zh (Blk.new w zba 34)
 have hzr0:=HBr0.out.lt
 have c0:w.cell? ⟨E.pb,0,none⟩=some (.slice (some ⟨E.tb,0,none⟩) E.ts.length E.cap):=h.blk.cell 0
 have c1:w.cell? ⟨E.pb,1,none⟩=some (.int .i64 ((E.ts.length-l.length:Nat):Int)):=h.blk.cell 1
 obtain ⟨t0,t1,t2,t3⟩:=h.tok
 have hk:E.ts.length-l.length<E.ts.length:=by have:=h.head.1;have:=h.le;omega
 have hlen:=h.len
 have hcap:=h.capb
 have ix1:(0:Int)≤((E.ts.length-l.length:Nat):Int):=by omega
 have ix2:(((E.ts.length-l.length:Nat):Int))<(E.ts.length:Int):=by omega
 generalize E.ts.length-l.length=k at *
 generalize hT:hdT l=tk at *
 have HT:=zh hT
 clear h hT t0 t2
 go_enter Tryz.func76,Tryz.ntmps76
 go_wp2_with fail
 go_region_held3 (fun w'=>w'.cell? ⟨E.pb,0,none⟩=some (.slice (some ⟨E.tb,0,none⟩) E.ts.length E.cap)∧w'.cell? ⟨E.pb,1,none⟩=some (.int .i64 (k:Int))∧w'.cell? ⟨E.tb,k * 4+1,none⟩=some (.string tk.text)∧w'.cell? ⟨E.tb,k * 4+3,none⟩=some (.int .i64 tk.place))
  (first|go_keep)
  (fail)
 obtain ⟨hs0,hbr0,hbn0,hkp0⟩:=zcn H.out (zaa (T.mk 8 tk.text 0 tk.place []) (.slice none 0 0))
 have H0:=zh hs0
 have HBr0:=zh hbr0
 have HBn0:=zh hbn0
 have HK0:=zh hkp0
 have hzn0:=hbn0.lt
 clear hs0 hbr0 hbn0 hkp0 c0 c1 t1 t3
 go_wp2_with fail
 refine (zqb H0.out (bs [105,110,116]) zzu (by decide)).mono ?_
 rintro e w1 ⟨b1,l1,rfl,hs1,hp1,hc1⟩
 have HBr1:=zh (HBr0.out.kp hp1 (by omega))
 have HBn1:=zh (HBn0.out.kp hp1 (by omega))
 have HK1:=zh (HK0.out.trans hp1)
 have hzr1:=HBr1.out.lt
 have hzn1:=HBn1.out.lt
 have H1:=zh hs1
 have HC1:=zh hc1
 clear hs1 hp1 hc1
 rcases HC1.out with ⟨rfl,hf1,hi1,rfl⟩|⟨rfl,hx1,rfl⟩
 ·go_wp2_with (first|((with_reducible refine zra 34 (.tmp 3) ?_);refine zfa rfl 34 (.tmp 3) rfl (w.heap.size+1) (T.mk 8 tk.text 0 tk.place []) (.slice none 0 0) rfl HBn1.out Tryz.underlying34 rfl Tryz.zia ?_)|((with_reducible refine zla 34 (.tmp 2) ?_);refine zca rfl 34 (.tmp 2) (.tmp 34) rfl w.heap.size (zaa (T.mk 8 tk.text 0 tk.place []) (.slice none 0 0)) rfl rfl HBr1.out Tryz.zia rfl (zda _ _ rfl) ?_))
  exact zka (cs:=zaa (T.mk 8 tk.text 0 tk.place []) (.slice none 0 0)) Tryz.results76 rfl HBr1.out Tryz.underlying34 rfl Tryz.zia rfl
   ⟨(T.mk 8 tk.text 0 tk.place []),_,l.tail,f,q,rfl,((KAt.nil 34 _ (fun b=>w.heap.size<b)).setRow w.heap.size _ (fun b hb=>by omega)).mono (fun b hb _=>by omega),by show 0≤40000;decide,H1.out.same (by simp [World.setRow]) (setRow_other _ _ _ _ (by omega)) (setRow_other _ _ _ _ (by omega)),HK1.out.setRow (Nat.le_refl _) _,zIa.turn (fun _=>zAq hi1) (by rw [HT.out];exact zIa.take hf1 _)⟩
 ·go_wp2_with fail
  refine (zqb H1.out (bs [111,119,110]) zZr (by decide)).mono ?_
  rintro e w2 ⟨b2,l2,rfl,hs2,hp2,hc2⟩
  have HBr2:=zh (HBr1.out.kp hp2 (by omega))
  have HBn2:=zh (HBn1.out.kp hp2 (by omega))
  have HK2:=zh (HK1.out.trans hp2)
  have hzr2:=HBr2.out.lt
  have hzn2:=HBn2.out.lt
  have H2:=zh hs2
  have HC2:=zh hc2
  clear hs2 hp2 hc2
  rcases HC2.out with ⟨rfl,hf2,hi2,rfl⟩|⟨rfl,hx2,rfl⟩
  ·go_wp2_with fail
   refine (zPd H2.out).mono ?_
   rintro e w3 ⟨t3,vt3,l3,f3,q3,rfl,hk3,hn3,hs3,hp3,hsee3⟩
   have HBr3:=zh (HBr2.out.kp hp3 (by omega))
   have HBn3:=zh (HBn2.out.kp hp3 (by omega))
   have HK3:=zh (HK2.out.trans hp3)
   have hzr3:=HBr3.out.lt
   have hzn3:=HBn3.out.lt
   have HVt33:=zh (show KAt 34 w3 t3.kids (fun b=>w.heap.size<b∧b≠w.heap.size+1) vt3 from hk3.mono (fun b hb _=>by (try simp at hb);omega))
   have H3:=zh hs3
   have HS3:=zh hsee3
   clear hk3 hs3 hp3 hsee3
   unfold zma
   have n4:w3.cell? ⟨(w.heap.size+1),4,none⟩=some (.slice none 0 0):=HBn3.out.cell 4
   have nf4:=HBn3.out.frozen 4
   go_wp2_with (first|((with_reducible refine zla 34 (.tmp 7) ?_);refine zga rfl 34 (.tmp 7) (.tmp 46) rfl (zaa t3 vt3) (old:=zba) rfl rfl Tryz.zia rfl (zda _ _ HVt33.out.one) ?_)|((with_reducible refine zra 34 (.tmp 7) ?_);refine zfa rfl 34 (.tmp 7) rfl w3.heap.size t3 vt3 rfl (Blk.new w3 _ _) Tryz.underlying34 rfl Tryz.zia ?_)|((with_reducible refine zra 34 (.tmp 3) ?_);refine zfa rfl 34 (.tmp 3) rfl (w.heap.size+1) (T.mk 8 tk.text 0 tk.place [t3]) (.slice (some ⟨w3.heap.size+1,0,none⟩) 1 1) rfl (((HBn3.out.zxa 4 _).alloc _).alloc _) Tryz.underlying34 rfl Tryz.zia ?_)|((with_reducible refine zla 34 (.tmp 2) ?_);refine zca rfl 34 (.tmp 2) (.tmp 50) rfl w.heap.size (zaa (T.mk 8 tk.text 0 tk.place [t3]) (.slice (some ⟨w3.heap.size+1,0,none⟩) 1 1)) rfl rfl (((HBr3.out.setOther ⟨(w.heap.size+1),4,none⟩ _ (by (try dsimp only);omega)).alloc _).alloc _) Tryz.zia rfl (zda _ _ rfl) ?_))
   have hk1:=KAt.zwk (e:=34) (w:=((w3.setCell ⟨(w.heap.size+1),4,none⟩ (.slice (some ⟨w3.heap.size+1,0,none⟩) 1 1)).alloc (.cells (zaa t3 vt3).toArray 34))) (t:=t3) (S:=(fun b=>w.heap.size<b∧b≠w.heap.size+1)) (TAt.zNa ((HVt33.out.setCell ⟨(w.heap.size+1),4,none⟩ (.slice (some ⟨w3.heap.size+1,0,none⟩) 1 1) (fun b hb=>by (try dsimp only);omega)).alloc _)) (by simp only [World.size_alloc,World.size_setCell];omega)
   rw [show ((w3.setCell ⟨(w.heap.size+1),4,none⟩ (.slice (some ⟨w3.heap.size+1,0,none⟩) 1 1)).alloc (.cells (zaa t3 vt3).toArray 34)).heap.size=w3.heap.size+1 by simp] at hk1
   have HVx3:=zh hk1
   clear hk1 n4 nf4
   exact zka (cs:=zaa (T.mk 8 tk.text 0 tk.place [t3]) (.slice (some ⟨w3.heap.size+1,0,none⟩) 1 1)) Tryz.results76 rfl (((HBr3.out.setOther ⟨(w.heap.size+1),4,none⟩ _ (by (try dsimp only);omega)).alloc _).alloc _) Tryz.underlying34 rfl Tryz.zia rfl
    ⟨(T.mk 8 tk.text 0 tk.place [t3]),_,l3,f3,q3,rfl,(HVx3.out.setRow w.heap.size _ (fun b hb=>by omega)).mono (fun b hb _=>by omega),by show 1≤40000;decide,(((H3.out.far ⟨(w.heap.size+1),4,none⟩ _ (by (try dsimp only);omega) (by (try dsimp only);omega)).alloc _).alloc _).same (by simp [World.setRow]) (setRow_other _ _ _ _ (by omega)) (setRow_other _ _ _ _ (by omega)),(((HK3.out.zwd (p:=⟨(w.heap.size+1),4,none⟩) (by (try dsimp only);omega) _).alloc _).alloc _).setRow (Nat.le_refl _) _,zIa.turn (fun _=>zrr hi2) (by rw [HT.out];exact zIa.behind hf2 (HS3.out.andThen (zIa.done _ _ _ _)))⟩
  ·go_wp2_with fail
   refine (zYa H2.out (bs [38]) zOs (by decide)).mono ?_
   rintro e w3 ⟨l3,f3,q3,rfl,hs3,hp3,tk3,hsee3⟩
   have HBr3:=zh (HBr2.out.kp hp3 (by omega))
   have HBn3:=zh (HBn2.out.kp hp3 (by omega))
   have HK3:=zh (HK2.out.trans hp3)
   have hzr3:=HBr3.out.lt
   have hzn3:=HBn3.out.lt
   have H3:=zh hs3
   have HS3:=zh hsee3
   clear hs3 hp3 hsee3
   go_wp2_with fail
   refine (zqb H3.out (bs [109,117,116]) zds (by decide)).mono ?_
   rintro e w4 ⟨b4,l4,rfl,hs4,hp4,hc4⟩
   have HBr4:=zh (HBr3.out.kp hp4 (by omega))
   have HBn4:=zh (HBn3.out.kp hp4 (by omega))
   have HK4:=zh (HK3.out.trans hp4)
   have hzr4:=HBr4.out.lt
   have hzn4:=HBn4.out.lt
   have H4:=zh hs4
   have HC4:=zh hc4
   clear hs4 hp4 hc4
   rcases HC4.out with ⟨rfl,hf4,hi4,rfl⟩|⟨rfl,hx4,rfl⟩
   ·have m1:w4.cell? ⟨w.heap.size+1,1,none⟩=some (.string tk.text):=HBn4.out.cell 1
    have mf1:=HBn4.out.frozen 1
    go_wp2_with fail
    clear m1 mf1
    refine (zPd (H4.out.far ⟨(w.heap.size+1),1,none⟩ _ (by (try dsimp only);omega) (by (try dsimp only);omega))).mono ?_
    rintro e w5 ⟨t5,vt5,l5,f5,q5,rfl,hk5,hn5,hs5,hp5,hsee5⟩
    have HBr5:=zh ((HBr4.out.setOther ⟨(w.heap.size+1),1,none⟩ _ (by (try dsimp only);omega)).kp hp5 (by omega))
    have HBn5:=zh ((HBn4.out.zxa 1 _).kp hp5 (by omega))
    have HK5:=zh ((HK4.out.zwd (p:=⟨(w.heap.size+1),1,none⟩) (by (try dsimp only);omega) _).trans hp5)
    have hzr5:=HBr5.out.lt
    have hzn5:=HBn5.out.lt
    have HVt55:=zh (show KAt 34 w5 t5.kids (fun b=>w.heap.size<b∧b≠w.heap.size+1) vt5 from hk5.mono (fun b hb _=>by (try simp at hb);omega))
    have H5:=zh hs5
    have HS5:=zh hsee5
    clear hk5 hs5 hp5 hsee5
    unfold zma
    have n4:w5.cell? ⟨(w.heap.size+1),4,none⟩=some (.slice none 0 0):=HBn5.out.cell 4
    have nf4:=HBn5.out.frozen 4
    go_wp2_with (first|((with_reducible refine zla 34 (.tmp 7) ?_);refine zga rfl 34 (.tmp 7) (.tmp 46) rfl (zaa t5 vt5) (old:=zba) rfl rfl Tryz.zia rfl (zda _ _ HVt55.out.one) ?_)|((with_reducible refine zra 34 (.tmp 7) ?_);refine zfa rfl 34 (.tmp 7) rfl w5.heap.size t5 vt5 rfl (Blk.new w5 _ _) Tryz.underlying34 rfl Tryz.zia ?_)|((with_reducible refine zra 34 (.tmp 3) ?_);refine zfa rfl 34 (.tmp 3) rfl (w.heap.size+1) (T.mk 8 (bs [38,109,117,116]) 0 tk.place [t5]) (.slice (some ⟨w5.heap.size+1,0,none⟩) 1 1) rfl (((HBn5.out.zxa 4 _).alloc _).alloc _) Tryz.underlying34 rfl Tryz.zia ?_)|((with_reducible refine zla 34 (.tmp 2) ?_);refine zca rfl 34 (.tmp 2) (.tmp 50) rfl w.heap.size (zaa (T.mk 8 (bs [38,109,117,116]) 0 tk.place [t5]) (.slice (some ⟨w5.heap.size+1,0,none⟩) 1 1)) rfl rfl (((HBr5.out.setOther ⟨(w.heap.size+1),4,none⟩ _ (by (try dsimp only);omega)).alloc _).alloc _) Tryz.zia rfl (zda _ _ rfl) ?_))
    have hk1:=KAt.zwk (e:=34) (w:=((w5.setCell ⟨(w.heap.size+1),4,none⟩ (.slice (some ⟨w5.heap.size+1,0,none⟩) 1 1)).alloc (.cells (zaa t5 vt5).toArray 34))) (t:=t5) (S:=(fun b=>w.heap.size<b∧b≠w.heap.size+1)) (TAt.zNa ((HVt55.out.setCell ⟨(w.heap.size+1),4,none⟩ (.slice (some ⟨w5.heap.size+1,0,none⟩) 1 1) (fun b hb=>by (try dsimp only);omega)).alloc _)) (by simp only [World.size_alloc,World.size_setCell];omega)
    rw [show ((w5.setCell ⟨(w.heap.size+1),4,none⟩ (.slice (some ⟨w5.heap.size+1,0,none⟩) 1 1)).alloc (.cells (zaa t5 vt5).toArray 34)).heap.size=w5.heap.size+1 by simp] at hk1
    have HVx5:=zh hk1
    clear hk1 n4 nf4
    exact zka (cs:=zaa (T.mk 8 (bs [38,109,117,116]) 0 tk.place [t5]) (.slice (some ⟨w5.heap.size+1,0,none⟩) 1 1)) Tryz.results76 rfl (((HBr5.out.setOther ⟨(w.heap.size+1),4,none⟩ _ (by (try dsimp only);omega)).alloc _).alloc _) Tryz.underlying34 rfl Tryz.zia rfl
     ⟨(T.mk 8 (bs [38,109,117,116]) 0 tk.place [t5]),_,l5,f5,q5,rfl,(HVx5.out.setRow w.heap.size _ (fun b hb=>by omega)).mono (fun b hb _=>by omega),by show 1≤40000;decide,(((H5.out.far ⟨(w.heap.size+1),4,none⟩ _ (by (try dsimp only);omega) (by (try dsimp only);omega)).alloc _).alloc _).same (by simp [World.setRow]) (setRow_other _ _ _ _ (by omega)) (setRow_other _ _ _ _ (by omega)),(((HK5.out.zwd (p:=⟨(w.heap.size+1),4,none⟩) (by (try dsimp only);omega) _).alloc _).alloc _).setRow (Nat.le_refl _) _,zIa.turn (fun hf=>zKm (zee hx1 hf) (zee hx2 hf)) (by rw [HT.out];exact HS3.out.andThen (zIa.yes hi4 hf4 (HS5.out.andThen (zIa.done _ _ _ _))))⟩
   ·go_wp2_with fail
    refine (zPd H4.out).mono ?_
    rintro e w5 ⟨t5,vt5,l5,f5,q5,rfl,hk5,hn5,hs5,hp5,hsee5⟩
    have HBr5:=zh (HBr4.out.kp hp5 (by omega))
    have HBn5:=zh (HBn4.out.kp hp5 (by omega))
    have HK5:=zh (HK4.out.trans hp5)
    have hzr5:=HBr5.out.lt
    have hzn5:=HBn5.out.lt
    have HVt55:=zh (show KAt 34 w5 t5.kids (fun b=>w.heap.size<b∧b≠w.heap.size+1) vt5 from hk5.mono (fun b hb _=>by (try simp at hb);omega))
    have H5:=zh hs5
    have HS5:=zh hsee5
    clear hk5 hs5 hp5 hsee5
    unfold zma
    have n4:w5.cell? ⟨(w.heap.size+1),4,none⟩=some (.slice none 0 0):=HBn5.out.cell 4
    have nf4:=HBn5.out.frozen 4
    go_wp2_with (first|((with_reducible refine zla 34 (.tmp 7) ?_);refine zga rfl 34 (.tmp 7) (.tmp 46) rfl (zaa t5 vt5) (old:=zba) rfl rfl Tryz.zia rfl (zda _ _ HVt55.out.one) ?_)|((with_reducible refine zra 34 (.tmp 7) ?_);refine zfa rfl 34 (.tmp 7) rfl w5.heap.size t5 vt5 rfl (Blk.new w5 _ _) Tryz.underlying34 rfl Tryz.zia ?_)|((with_reducible refine zra 34 (.tmp 3) ?_);refine zfa rfl 34 (.tmp 3) rfl (w.heap.size+1) (T.mk 8 tk.text 0 tk.place [t5]) (.slice (some ⟨w5.heap.size+1,0,none⟩) 1 1) rfl (((HBn5.out.zxa 4 _).alloc _).alloc _) Tryz.underlying34 rfl Tryz.zia ?_)|((with_reducible refine zla 34 (.tmp 2) ?_);refine zca rfl 34 (.tmp 2) (.tmp 50) rfl w.heap.size (zaa (T.mk 8 tk.text 0 tk.place [t5]) (.slice (some ⟨w5.heap.size+1,0,none⟩) 1 1)) rfl rfl (((HBr5.out.setOther ⟨(w.heap.size+1),4,none⟩ _ (by (try dsimp only);omega)).alloc _).alloc _) Tryz.zia rfl (zda _ _ rfl) ?_))
    have hk1:=KAt.zwk (e:=34) (w:=((w5.setCell ⟨(w.heap.size+1),4,none⟩ (.slice (some ⟨w5.heap.size+1,0,none⟩) 1 1)).alloc (.cells (zaa t5 vt5).toArray 34))) (t:=t5) (S:=(fun b=>w.heap.size<b∧b≠w.heap.size+1)) (TAt.zNa ((HVt55.out.setCell ⟨(w.heap.size+1),4,none⟩ (.slice (some ⟨w5.heap.size+1,0,none⟩) 1 1) (fun b hb=>by (try dsimp only);omega)).alloc _)) (by simp only [World.size_alloc,World.size_setCell];omega)
    rw [show ((w5.setCell ⟨(w.heap.size+1),4,none⟩ (.slice (some ⟨w5.heap.size+1,0,none⟩) 1 1)).alloc (.cells (zaa t5 vt5).toArray 34)).heap.size=w5.heap.size+1 by simp] at hk1
    have HVx5:=zh hk1
    clear hk1 n4 nf4
    exact zka (cs:=zaa (T.mk 8 tk.text 0 tk.place [t5]) (.slice (some ⟨w5.heap.size+1,0,none⟩) 1 1)) Tryz.results76 rfl (((HBr5.out.setOther ⟨(w.heap.size+1),4,none⟩ _ (by (try dsimp only);omega)).alloc _).alloc _) Tryz.underlying34 rfl Tryz.zia rfl
     ⟨(T.mk 8 tk.text 0 tk.place [t5]),_,l5,f5,q5,rfl,(HVx5.out.setRow w.heap.size _ (fun b hb=>by omega)).mono (fun b hb _=>by omega),by show 1≤40000;decide,(((H5.out.far ⟨(w.heap.size+1),4,none⟩ _ (by (try dsimp only);omega) (by (try dsimp only);omega)).alloc _).alloc _).same (by simp [World.setRow]) (setRow_other _ _ _ _ (by omega)) (setRow_other _ _ _ _ (by omega)),(((HK5.out.zwd (p:=⟨(w.heap.size+1),4,none⟩) (by (try dsimp only);omega) _).alloc _).alloc _).setRow (Nat.le_refl _) _,zIa.turn (fun hf=>zKm (zee hx1 hf) (zee hx2 hf)) (by rw [HT.out];exact HS3.out.andThen (zIa.no hx4 (HS5.out.andThen (zIa.done _ _ _ _))))⟩
end
section
open Go.RowKit
def RFail (E:Env) (w:World) (d:Nat) (l:List Tok) (f:Int) (q:Nat) (c:Int) (e:Ending) (w':World):Prop :=
 ∃ f' q',e=.returned (.tuple #[])∧RSt E w' l d f' q'∧Kp E.pb w w'∧(f' == 0)=false∧∀ {α:Type} (t:α),zIa l f q (.error ((hdT l).place,c)) t l f' q'
theorem zKk {E:Env} {w:World} {l:List Tok} {d:Nat} {f:Int} {q:Nat} (h:RSt E w l d f q) (c:Int) (hc:(c == 0)=false) :
  Calls Tryz.prog 77 #[.pointer (some ⟨E.pb,0,none⟩),.int .i64 c] w (RFail E w d l f q c):=by
 cases hf:(f == 0) with
 | false=>exact (zOf h hf c).mono fun _ _ ⟨he,hw⟩=>⟨f,q,he,by rw [← hw];exact h,by rw [← hw];exact Kp.refl _ _,hf,fun _=>.inr ⟨hf,rfl,rfl,rfl⟩⟩
 | true =>
  have e:f=0:=beq_iff_eq.1 hf
  subst e
  exact (zcg h c).mono fun _ _ ⟨he,h1,h2⟩=>⟨c,_,he,h1,h2,hc,fun _=>.inl ⟨rfl,.inr ⟨_,_,rfl,rfl,rfl,hc⟩⟩⟩
theorem zus:zUa (bs [99,101,108,108])=true:=by kernel_rfl
theorem zFn:zUa (bs [99,111,117,110,116,101,100])=true:=by kernel_rfl
theorem zyt:zUa (bs [108,111,99,107])=true:=by kernel_rfl
theorem zOr:zUa (bs [103,117,97,114,100])=true:=by kernel_rfl
def zUo:List Value:=[.string (bs [99,111,117,110,116,101,100]),.string (bs [108,111,99,107]),.string (bs [103,117,97,114,100])]
theorem zJk {l:List Tok} (h:isT (hdT l) (bs [111,119,110])=true∨isT (hdT l) (bs [99,101,108,108])=true):zoe l=.ok (.mk 2 (hdT l).text 0 (hdT l).place [],l.tail):=by
 unfold zoe zta
 have e:([bs [111,119,110],bs [99,101,108,108],bs [99,111,117,110,116,101,100],bs [108,111,99,107],bs [103,117,97,114,100]].any (isT (hdT l)))=true:=by rcases h with h|h<;>simp [h]
 rw [e]
 show bd (Except.ok (hdT l,l.tail)) _=_
 unfold bd
 simp only
 have e2:(isT (hdT l) (bs [111,119,110]) || isT (hdT l) (bs [99,101,108,108]))=true:=by rcases h with h|h<;>simp [h]
 rw [e2]
 rfl
theorem zBi {l:List Tok} (s:ByteArray) (hs:s∈[bs [99,111,117,110,116,101,100],bs [108,111,99,107],bs [103,117,97,114,100]]) (h:isT (hdT l) s=true):zoe l=bd (zqa l.tail) fun a l2=>.ok (.mk 2 (hdT l).text 0 (hdT l).place [a],l2):=by
 unfold zoe zta
 have e:([bs [111,119,110],bs [99,101,108,108],bs [99,111,117,110,116,101,100],bs [108,111,99,107],bs [103,117,97,114,100]].any (isT (hdT l)))=true:=by
  refine List.any_eq_true.2 ⟨s,?_,h⟩
  simp only [List.mem_cons] at hs ⊢
  exact .inr (.inr hs)
 rw [e]
 show bd (Except.ok (hdT l,l.tail)) _=_
 unfold bd
 simp only
 have e2:(isT (hdT l) (bs [111,119,110]) || isT (hdT l) (bs [99,101,108,108]))=false:=by
  simp only [List.mem_cons,List.not_mem_nil,or_false] at hs
  rcases hs with rfl|rfl|rfl
  ·rw [zAa h (b:=bs [111,119,110]) (by kernel_rfl),zAa h (b:=bs [99,101,108,108]) (by kernel_rfl)];rfl
  ·rw [zAa h (b:=bs [111,119,110]) (by kernel_rfl),zAa h (b:=bs [99,101,108,108]) (by kernel_rfl)];rfl
  ·rw [zAa h (b:=bs [111,119,110]) (by kernel_rfl),zAa h (b:=bs [99,101,108,108]) (by kernel_rfl)];rfl
 rw [e2]
 rfl
theorem zNs {l:List Tok} (h0:isT (hdT l) (bs [111,119,110])=false) (h1:isT (hdT l) (bs [99,101,108,108])=false) (h2:isT (hdT l) (bs [99,111,117,110,116,101,100])=false) (h3:isT (hdT l) (bs [108,111,99,107])=false) (h4:isT (hdT l) (bs [103,117,97,114,100])=false):zoe l=.error ((hdT l).place,20):=by
 unfold zoe zta
 simp [h0,h1,h2,h3,h4,bd]
theorem zrq {E:Env} {w:World} {l:List Tok} {d:Nat} {f:Int} {q:Nat} (h:RSt E w l d f q) :
  Calls Tryz.prog 79 #[.pointer (some ⟨E.pb,0,none⟩)] w (zLg E w d l f q (zoe l)):=by
 have H:=zh h
 have hplt:=h.plt
 have htlt:=h.tlt
 have c0:w.cell? ⟨E.pb,0,none⟩=some (.slice (some ⟨E.tb,0,none⟩) E.ts.length E.cap):=h.blk.cell 0
 have c1:w.cell? ⟨E.pb,1,none⟩=some (.int .i64 ((E.ts.length-l.length:Nat):Int)):=h.blk.cell 1
 obtain ⟨t0,t1,t2,t3⟩:=h.tok
 have hk:E.ts.length-l.length<E.ts.length:=by have:=h.head.1;have:=h.le;omega
 have hlen:=h.len
 have hcap:=h.capb
 have ix1:(0:Int)≤((E.ts.length-l.length:Nat):Int):=by omega
 have ix2:(((E.ts.length-l.length:Nat):Int))<(E.ts.length:Int):=by omega
 generalize E.ts.length-l.length=k at *
 generalize hT:hdT l=tk at *
 have HT:=zh hT
 clear h hT t0 t2
 go_enter Tryz.func79,Tryz.ntmps79
 go_wp2_with fail
 go_region_held3 (fun w'=>w'.cell? ⟨E.pb,0,none⟩=some (.slice (some ⟨E.tb,0,none⟩) E.ts.length E.cap)∧w'.cell? ⟨E.pb,1,none⟩=some (.int .i64 (k:Int))∧w'.cell? ⟨E.tb,k * 4+1,none⟩=some (.string tk.text)∧w'.cell? ⟨E.tb,k * 4+3,none⟩=some (.int .i64 tk.place))
  (first|go_keep)
  (fail)
 obtain ⟨hs0,hbr0,hbn0,hkp0⟩:=zcn H.out (zaa (T.mk 2 tk.text 0 tk.place []) (.slice none 0 0))
 have H0:=zh hs0
 have HBr0:=zh hbr0
 have HBn0:=zh hbn0
 have HK0:=zh hkp0
 have hzn0:=hbn0.lt
 clear hs0 hbr0 hbn0 hkp0 c0 c1 t1 t3
 go_wp2_with fail
 refine (zqb H0.out (bs [111,119,110]) zZr (by decide)).mono ?_
 rintro e w1 ⟨b1,l1,rfl,hs1,hp1,hc1⟩
 have HBr1:=zh (HBr0.out.kp hp1 (by omega))
 have HBn1:=zh (HBn0.out.kp hp1 (by omega))
 have HK1:=zh (HK0.out.trans hp1)
 have hzr1:=HBr1.out.lt
 have hzn1:=HBn1.out.lt
 have H1:=zh hs1
 have HC1:=zh hc1
 clear hs1 hp1 hc1
 rcases HC1.out with ⟨rfl,hf1,hi1,rfl⟩|⟨rfl,hx1,rfl⟩
 ·go_wp2_with (first|((with_reducible refine zra 34 (.tmp 3) ?_);refine zfa rfl 34 (.tmp 3) rfl (w.heap.size+1) (T.mk 2 tk.text 0 tk.place []) (.slice none 0 0) rfl HBn1.out Tryz.underlying34 rfl Tryz.zia ?_)|((with_reducible refine zla 34 (.tmp 2) ?_);refine zca rfl 34 (.tmp 2) (.tmp 36) rfl w.heap.size (zaa (T.mk 2 tk.text 0 tk.place []) (.slice none 0 0)) rfl rfl HBr1.out Tryz.zia rfl (zda _ _ rfl) ?_))
  exact zka (cs:=zaa (T.mk 2 tk.text 0 tk.place []) (.slice none 0 0)) Tryz.results79 rfl HBr1.out Tryz.underlying34 rfl Tryz.zia rfl
   ⟨(T.mk 2 tk.text 0 tk.place []),_,l.tail,f,q,rfl,((KAt.nil 34 _ (fun b=>w.heap.size<b)).setRow w.heap.size _ (fun b hb=>by omega)).mono (fun b hb _=>by omega),by show 0≤40000;decide,H1.out.same (by simp [World.setRow]) (setRow_other _ _ _ _ (by omega)) (setRow_other _ _ _ _ (by omega)),HK1.out.setRow (Nat.le_refl _) _,zIa.turn (fun _=>zJk (.inl hi1)) (by rw [HT.out];exact zIa.take hf1 _)⟩
 ·go_wp2_with fail
  refine (zqb H1.out (bs [99,101,108,108]) zus (by decide)).mono ?_
  rintro e w2 ⟨b2,l2,rfl,hs2,hp2,hc2⟩
  have HBr2:=zh (HBr1.out.kp hp2 (by omega))
  have HBn2:=zh (HBn1.out.kp hp2 (by omega))
  have HK2:=zh (HK1.out.trans hp2)
  have hzr2:=HBr2.out.lt
  have hzn2:=HBn2.out.lt
  have H2:=zh hs2
  have HC2:=zh hc2
  clear hs2 hp2 hc2
  rcases HC2.out with ⟨rfl,hf2,hi2,rfl⟩|⟨rfl,hx2,rfl⟩
  ·go_wp2_with (first|((with_reducible refine zra 34 (.tmp 3) ?_);refine zfa rfl 34 (.tmp 3) rfl (w.heap.size+1) (T.mk 2 tk.text 0 tk.place []) (.slice none 0 0) rfl HBn2.out Tryz.underlying34 rfl Tryz.zia ?_)|((with_reducible refine zla 34 (.tmp 2) ?_);refine zca rfl 34 (.tmp 2) (.tmp 40) rfl w.heap.size (zaa (T.mk 2 tk.text 0 tk.place []) (.slice none 0 0)) rfl rfl HBr2.out Tryz.zia rfl (zda _ _ rfl) ?_))
   exact zka (cs:=zaa (T.mk 2 tk.text 0 tk.place []) (.slice none 0 0)) Tryz.results79 rfl HBr2.out Tryz.underlying34 rfl Tryz.zia rfl
    ⟨(T.mk 2 tk.text 0 tk.place []),_,l1.tail,f,q,rfl,((KAt.nil 34 _ (fun b=>w.heap.size<b)).setRow w.heap.size _ (fun b hb=>by omega)).mono (fun b hb _=>by omega),by show 0≤40000;decide,H2.out.same (by simp [World.setRow]) (setRow_other _ _ _ _ (by omega)) (setRow_other _ _ _ _ (by omega)),HK2.out.setRow (Nat.le_refl _) _,zIa.turn (fun _=>zJk (.inr hi2)) (by rw [HT.out];exact zIa.take hf2 _)⟩
  ·go_wp2_with fail
   refine wp_loop_rounds 4 ?_
   rw [rounds_succ]
   go_wp2_with fail
   have HBs2:=zh (Blk.new w2 zUo 9)
   refine (zqb (H2.out.alloc _) (bs [99,111,117,110,116,101,100]) zFn (by decide)).mono ?_
   rintro e w3 ⟨b3,l3,rfl,hs3,hp3,hc3⟩
   have HBr3:=zh ((HBr2.out.alloc _).kp hp3 (by omega))
   have HBn3:=zh ((HBn2.out.alloc _).kp hp3 (by omega))
   have HBs3:=zh (HBs2.out.kp hp3 (by omega))
   have HK3:=zh ((HK2.out.alloc _).trans hp3)
   have hzr3:=HBr3.out.lt
   have hzn3:=HBn3.out.lt
   have hzs3:=HBs3.out.lt
   have H3:=zh hs3
   have HC3:=zh hc3
   clear hs3 hp3 hc3
   rcases HC3.out with ⟨rfl,hf3,hi3,rfl⟩|⟨rfl,hx3,rfl⟩
   ·go_wp2_with fail
    refine (zPd H3.out).mono ?_
    rintro e w4 ⟨t4,vt4,l4,f4,q4,rfl,hk4,hn4,hs4,hp4,hsee4⟩
    have HBr4:=zh (HBr3.out.kp hp4 (by omega))
    have HBn4:=zh (HBn3.out.kp hp4 (by omega))
    have HBs4:=zh (HBs3.out.kp hp4 (by omega))
    have HK4:=zh (HK3.out.trans hp4)
    have hzr4:=HBr4.out.lt
    have hzn4:=HBn4.out.lt
    have hzs4:=HBs4.out.lt
    have HVt44:=zh (show KAt 34 w4 t4.kids (fun b=>w.heap.size<b∧b≠w.heap.size+1) vt4 from hk4.mono (fun b hb _=>by (try simp at hb);omega))
    have H4:=zh hs4
    have HS4:=zh hsee4
    clear hk4 hs4 hp4 hsee4
    unfold zma
    have n4:w4.cell? ⟨(w.heap.size+1),4,none⟩=some (.slice none 0 0):=HBn4.out.cell 4
    have nf4:=HBn4.out.frozen 4
    go_wp2_with (first|((with_reducible refine zla 34 (.tmp 9) ?_);refine zga rfl 34 (.tmp 9) (.tmp 56) rfl (zaa t4 vt4) (old:=zba) rfl rfl Tryz.zia rfl (zda _ _ HVt44.out.one) ?_)|((with_reducible refine zra 34 (.tmp 9) ?_);refine zfa rfl 34 (.tmp 9) rfl w4.heap.size t4 vt4 rfl (Blk.new w4 _ _) Tryz.underlying34 rfl Tryz.zia ?_)|((with_reducible refine zra 34 (.tmp 3) ?_);refine zfa rfl 34 (.tmp 3) rfl (w.heap.size+1) (T.mk 2 tk.text 0 tk.place [t4]) (.slice (some ⟨w4.heap.size+1,0,none⟩) 1 1) rfl (((HBn4.out.zxa 4 _).alloc _).alloc _) Tryz.underlying34 rfl Tryz.zia ?_)|((with_reducible refine zla 34 (.tmp 2) ?_);refine zca rfl 34 (.tmp 2) (.tmp 60) rfl w.heap.size (zaa (T.mk 2 tk.text 0 tk.place [t4]) (.slice (some ⟨w4.heap.size+1,0,none⟩) 1 1)) rfl rfl (((HBr4.out.setOther ⟨(w.heap.size+1),4,none⟩ _ (by (try dsimp only);omega)).alloc _).alloc _) Tryz.zia rfl (zda _ _ rfl) ?_))
    have hk1:=KAt.zwk (e:=34) (w:=((w4.setCell ⟨(w.heap.size+1),4,none⟩ (.slice (some ⟨w4.heap.size+1,0,none⟩) 1 1)).alloc (.cells (zaa t4 vt4).toArray 34))) (t:=t4) (S:=(fun b=>w.heap.size<b∧b≠w.heap.size+1)) (TAt.zNa ((HVt44.out.setCell ⟨(w.heap.size+1),4,none⟩ (.slice (some ⟨w4.heap.size+1,0,none⟩) 1 1) (fun b hb=>by (try dsimp only);omega)).alloc _)) (by simp only [World.size_alloc,World.size_setCell];omega)
    rw [show ((w4.setCell ⟨(w.heap.size+1),4,none⟩ (.slice (some ⟨w4.heap.size+1,0,none⟩) 1 1)).alloc (.cells (zaa t4 vt4).toArray 34)).heap.size=w4.heap.size+1 by simp] at hk1
    have HVx4:=zh hk1
    clear hk1 n4 nf4
    exact zka (cs:=zaa (T.mk 2 tk.text 0 tk.place [t4]) (.slice (some ⟨w4.heap.size+1,0,none⟩) 1 1)) Tryz.results79 rfl (((HBr4.out.setOther ⟨(w.heap.size+1),4,none⟩ _ (by (try dsimp only);omega)).alloc _).alloc _) Tryz.underlying34 rfl Tryz.zia rfl
     ⟨(T.mk 2 tk.text 0 tk.place [t4]),_,l4,f4,q4,rfl,(HVx4.out.setRow w.heap.size _ (fun b hb=>by omega)).mono (fun b hb _=>by omega),by show 1≤40000;decide,(((H4.out.far ⟨(w.heap.size+1),4,none⟩ _ (by (try dsimp only);omega) (by (try dsimp only);omega)).alloc _).alloc _).same (by simp [World.setRow]) (setRow_other _ _ _ _ (by omega)) (setRow_other _ _ _ _ (by omega)),(((HK4.out.zwd (p:=⟨(w.heap.size+1),4,none⟩) (by (try dsimp only);omega) _).alloc _).alloc _).setRow (Nat.le_refl _) _,zIa.turn (fun _=>zBi (bs [99,111,117,110,116,101,100]) (by simp) hi3) (by rw [HT.out];exact zIa.behind hf3 (HS4.out.andThen (zIa.done _ _ _ _)))⟩
   ·have s0:w3.cell? ⟨w2.heap.size,0,none⟩=some (.string (bs [99,111,117,110,116,101,100])):=HBs3.out.cell 0
    have s1:w3.cell? ⟨w2.heap.size,1,none⟩=some (.string (bs [108,111,99,107])):=HBs3.out.cell 1
    have s2:w3.cell? ⟨w2.heap.size,2,none⟩=some (.string (bs [103,117,97,114,100])):=HBs3.out.cell 2
    go_wp2_with fail
    rw [rounds_succ]
    go_wp2_with fail
    clear s0 s1 s2
    refine (zqb H3.out (bs [108,111,99,107]) zyt (by decide)).mono ?_
    rintro e w4 ⟨b4,l4,rfl,hs4,hp4,hc4⟩
    have HBr4:=zh (HBr3.out.kp hp4 (by omega))
    have HBn4:=zh (HBn3.out.kp hp4 (by omega))
    have HBs4:=zh (HBs3.out.kp hp4 (by omega))
    have HK4:=zh (HK3.out.trans hp4)
    have hzr4:=HBr4.out.lt
    have hzn4:=HBn4.out.lt
    have hzs4:=HBs4.out.lt
    have H4:=zh hs4
    have HC4:=zh hc4
    clear hs4 hp4 hc4
    rcases HC4.out with ⟨rfl,hf4,hi4,rfl⟩|⟨rfl,hx4,rfl⟩
    ·go_wp2_with fail
     refine (zPd H4.out).mono ?_
     rintro e w5 ⟨t5,vt5,l5,f5,q5,rfl,hk5,hn5,hs5,hp5,hsee5⟩
     have HBr5:=zh (HBr4.out.kp hp5 (by omega))
     have HBn5:=zh (HBn4.out.kp hp5 (by omega))
     have HBs5:=zh (HBs4.out.kp hp5 (by omega))
     have HK5:=zh (HK4.out.trans hp5)
     have hzr5:=HBr5.out.lt
     have hzn5:=HBn5.out.lt
     have hzs5:=HBs5.out.lt
     have HVt55:=zh (show KAt 34 w5 t5.kids (fun b=>w.heap.size<b∧b≠w.heap.size+1) vt5 from hk5.mono (fun b hb _=>by (try simp at hb);omega))
     have H5:=zh hs5
     have HS5:=zh hsee5
     clear hk5 hs5 hp5 hsee5
     unfold zma
     have n4:w5.cell? ⟨(w.heap.size+1),4,none⟩=some (.slice none 0 0):=HBn5.out.cell 4
     have nf4:=HBn5.out.frozen 4
     go_wp2_with (first|((with_reducible refine zla 34 (.tmp 9) ?_);refine zga rfl 34 (.tmp 9) (.tmp 56) rfl (zaa t5 vt5) (old:=zba) rfl rfl Tryz.zia rfl (zda _ _ HVt55.out.one) ?_)|((with_reducible refine zra 34 (.tmp 9) ?_);refine zfa rfl 34 (.tmp 9) rfl w5.heap.size t5 vt5 rfl (Blk.new w5 _ _) Tryz.underlying34 rfl Tryz.zia ?_)|((with_reducible refine zra 34 (.tmp 3) ?_);refine zfa rfl 34 (.tmp 3) rfl (w.heap.size+1) (T.mk 2 tk.text 0 tk.place [t5]) (.slice (some ⟨w5.heap.size+1,0,none⟩) 1 1) rfl (((HBn5.out.zxa 4 _).alloc _).alloc _) Tryz.underlying34 rfl Tryz.zia ?_)|((with_reducible refine zla 34 (.tmp 2) ?_);refine zca rfl 34 (.tmp 2) (.tmp 60) rfl w.heap.size (zaa (T.mk 2 tk.text 0 tk.place [t5]) (.slice (some ⟨w5.heap.size+1,0,none⟩) 1 1)) rfl rfl (((HBr5.out.setOther ⟨(w.heap.size+1),4,none⟩ _ (by (try dsimp only);omega)).alloc _).alloc _) Tryz.zia rfl (zda _ _ rfl) ?_))
     have hk1:=KAt.zwk (e:=34) (w:=((w5.setCell ⟨(w.heap.size+1),4,none⟩ (.slice (some ⟨w5.heap.size+1,0,none⟩) 1 1)).alloc (.cells (zaa t5 vt5).toArray 34))) (t:=t5) (S:=(fun b=>w.heap.size<b∧b≠w.heap.size+1)) (TAt.zNa ((HVt55.out.setCell ⟨(w.heap.size+1),4,none⟩ (.slice (some ⟨w5.heap.size+1,0,none⟩) 1 1) (fun b hb=>by (try dsimp only);omega)).alloc _)) (by simp only [World.size_alloc,World.size_setCell];omega)
     rw [show ((w5.setCell ⟨(w.heap.size+1),4,none⟩ (.slice (some ⟨w5.heap.size+1,0,none⟩) 1 1)).alloc (.cells (zaa t5 vt5).toArray 34)).heap.size=w5.heap.size+1 by simp] at hk1
     have HVx5:=zh hk1
     clear hk1 n4 nf4
     exact zka (cs:=zaa (T.mk 2 tk.text 0 tk.place [t5]) (.slice (some ⟨w5.heap.size+1,0,none⟩) 1 1)) Tryz.results79 rfl (((HBr5.out.setOther ⟨(w.heap.size+1),4,none⟩ _ (by (try dsimp only);omega)).alloc _).alloc _) Tryz.underlying34 rfl Tryz.zia rfl
      ⟨(T.mk 2 tk.text 0 tk.place [t5]),_,l5,f5,q5,rfl,(HVx5.out.setRow w.heap.size _ (fun b hb=>by omega)).mono (fun b hb _=>by omega),by show 1≤40000;decide,(((H5.out.far ⟨(w.heap.size+1),4,none⟩ _ (by (try dsimp only);omega) (by (try dsimp only);omega)).alloc _).alloc _).same (by simp [World.setRow]) (setRow_other _ _ _ _ (by omega)) (setRow_other _ _ _ _ (by omega)),(((HK5.out.zwd (p:=⟨(w.heap.size+1),4,none⟩) (by (try dsimp only);omega) _).alloc _).alloc _).setRow (Nat.le_refl _) _,zIa.turn (fun _=>zBi (bs [108,111,99,107]) (by simp) hi4) (by rw [HT.out];exact zIa.behind hf4 (HS5.out.andThen (zIa.done _ _ _ _)))⟩
    ·have s0:w4.cell? ⟨w2.heap.size,0,none⟩=some (.string (bs [99,111,117,110,116,101,100])):=HBs4.out.cell 0
     have s1:w4.cell? ⟨w2.heap.size,1,none⟩=some (.string (bs [108,111,99,107])):=HBs4.out.cell 1
     have s2:w4.cell? ⟨w2.heap.size,2,none⟩=some (.string (bs [103,117,97,114,100])):=HBs4.out.cell 2
     go_wp2_with fail
     rw [rounds_succ]
     go_wp2_with fail
     clear s0 s1 s2
     refine (zqb H4.out (bs [103,117,97,114,100]) zOr (by decide)).mono ?_
     rintro e w5 ⟨b5,l5,rfl,hs5,hp5,hc5⟩
     have HBr5:=zh (HBr4.out.kp hp5 (by omega))
     have HBn5:=zh (HBn4.out.kp hp5 (by omega))
     have HBs5:=zh (HBs4.out.kp hp5 (by omega))
     have HK5:=zh (HK4.out.trans hp5)
     have hzr5:=HBr5.out.lt
     have hzn5:=HBn5.out.lt
     have hzs5:=HBs5.out.lt
     have H5:=zh hs5
     have HC5:=zh hc5
     clear hs5 hp5 hc5
     rcases HC5.out with ⟨rfl,hf5,hi5,rfl⟩|⟨rfl,hx5,rfl⟩
     ·go_wp2_with fail
      refine (zPd H5.out).mono ?_
      rintro e w6 ⟨t6,vt6,l6,f6,q6,rfl,hk6,hn6,hs6,hp6,hsee6⟩
      have HBr6:=zh (HBr5.out.kp hp6 (by omega))
      have HBn6:=zh (HBn5.out.kp hp6 (by omega))
      have HBs6:=zh (HBs5.out.kp hp6 (by omega))
      have HK6:=zh (HK5.out.trans hp6)
      have hzr6:=HBr6.out.lt
      have hzn6:=HBn6.out.lt
      have hzs6:=HBs6.out.lt
      have HVt66:=zh (show KAt 34 w6 t6.kids (fun b=>w.heap.size<b∧b≠w.heap.size+1) vt6 from hk6.mono (fun b hb _=>by (try simp at hb);omega))
      have H6:=zh hs6
      have HS6:=zh hsee6
      clear hk6 hs6 hp6 hsee6
      unfold zma
      have n4:w6.cell? ⟨(w.heap.size+1),4,none⟩=some (.slice none 0 0):=HBn6.out.cell 4
      have nf4:=HBn6.out.frozen 4
      go_wp2_with (first|((with_reducible refine zla 34 (.tmp 9) ?_);refine zga rfl 34 (.tmp 9) (.tmp 56) rfl (zaa t6 vt6) (old:=zba) rfl rfl Tryz.zia rfl (zda _ _ HVt66.out.one) ?_)|((with_reducible refine zra 34 (.tmp 9) ?_);refine zfa rfl 34 (.tmp 9) rfl w6.heap.size t6 vt6 rfl (Blk.new w6 _ _) Tryz.underlying34 rfl Tryz.zia ?_)|((with_reducible refine zra 34 (.tmp 3) ?_);refine zfa rfl 34 (.tmp 3) rfl (w.heap.size+1) (T.mk 2 tk.text 0 tk.place [t6]) (.slice (some ⟨w6.heap.size+1,0,none⟩) 1 1) rfl (((HBn6.out.zxa 4 _).alloc _).alloc _) Tryz.underlying34 rfl Tryz.zia ?_)|((with_reducible refine zla 34 (.tmp 2) ?_);refine zca rfl 34 (.tmp 2) (.tmp 60) rfl w.heap.size (zaa (T.mk 2 tk.text 0 tk.place [t6]) (.slice (some ⟨w6.heap.size+1,0,none⟩) 1 1)) rfl rfl (((HBr6.out.setOther ⟨(w.heap.size+1),4,none⟩ _ (by (try dsimp only);omega)).alloc _).alloc _) Tryz.zia rfl (zda _ _ rfl) ?_))
      have hk1:=KAt.zwk (e:=34) (w:=((w6.setCell ⟨(w.heap.size+1),4,none⟩ (.slice (some ⟨w6.heap.size+1,0,none⟩) 1 1)).alloc (.cells (zaa t6 vt6).toArray 34))) (t:=t6) (S:=(fun b=>w.heap.size<b∧b≠w.heap.size+1)) (TAt.zNa ((HVt66.out.setCell ⟨(w.heap.size+1),4,none⟩ (.slice (some ⟨w6.heap.size+1,0,none⟩) 1 1) (fun b hb=>by (try dsimp only);omega)).alloc _)) (by simp only [World.size_alloc,World.size_setCell];omega)
      rw [show ((w6.setCell ⟨(w.heap.size+1),4,none⟩ (.slice (some ⟨w6.heap.size+1,0,none⟩) 1 1)).alloc (.cells (zaa t6 vt6).toArray 34)).heap.size=w6.heap.size+1 by simp] at hk1
      have HVx6:=zh hk1
      clear hk1 n4 nf4
      exact zka (cs:=zaa (T.mk 2 tk.text 0 tk.place [t6]) (.slice (some ⟨w6.heap.size+1,0,none⟩) 1 1)) Tryz.results79 rfl (((HBr6.out.setOther ⟨(w.heap.size+1),4,none⟩ _ (by (try dsimp only);omega)).alloc _).alloc _) Tryz.underlying34 rfl Tryz.zia rfl
       ⟨(T.mk 2 tk.text 0 tk.place [t6]),_,l6,f6,q6,rfl,(HVx6.out.setRow w.heap.size _ (fun b hb=>by omega)).mono (fun b hb _=>by omega),by show 1≤40000;decide,(((H6.out.far ⟨(w.heap.size+1),4,none⟩ _ (by (try dsimp only);omega) (by (try dsimp only);omega)).alloc _).alloc _).same (by simp [World.setRow]) (setRow_other _ _ _ _ (by omega)) (setRow_other _ _ _ _ (by omega)),(((HK6.out.zwd (p:=⟨(w.heap.size+1),4,none⟩) (by (try dsimp only);omega) _).alloc _).alloc _).setRow (Nat.le_refl _) _,zIa.turn (fun _=>zBi (bs [103,117,97,114,100]) (by simp) hi5) (by rw [HT.out];exact zIa.behind hf5 (HS6.out.andThen (zIa.done _ _ _ _)))⟩
     ·have s0:w5.cell? ⟨w2.heap.size,0,none⟩=some (.string (bs [99,111,117,110,116,101,100])):=HBs5.out.cell 0
      have s1:w5.cell? ⟨w2.heap.size,1,none⟩=some (.string (bs [108,111,99,107])):=HBs5.out.cell 1
      have s2:w5.cell? ⟨w2.heap.size,2,none⟩=some (.string (bs [103,117,97,114,100])):=HBs5.out.cell 2
      go_wp2_with fail
      rw [rounds_succ]
      go_wp2_with fail
      clear s0 s1 s2
      refine (zKk H5.out 20 (by decide)).mono ?_
      rintro e w6 ⟨f6,q6,rfl,hs6,hp6,_,hsee6⟩
      have HBr6:=zh (HBr5.out.kp hp6 (by omega))
      have HBn6:=zh (HBn5.out.kp hp6 (by omega))
      have HBs6:=zh (HBs5.out.kp hp6 (by omega))
      have HK6:=zh (HK5.out.trans hp6)
      have hzr6:=HBr6.out.lt
      have hzn6:=HBn6.out.lt
      have hzs6:=HBs6.out.lt
      have H6:=zh hs6
      have HS6:=zh (hsee6 (T.mk 2 tk.text 0 tk.place []))
      clear hs6 hp6 hsee6
      go_wp2_with (first|((with_reducible refine zra 34 (.tmp 3) ?_);refine zfa rfl 34 (.tmp 3) rfl (w.heap.size+1) (T.mk 2 tk.text 0 tk.place []) (.slice none 0 0) rfl HBn6.out Tryz.underlying34 rfl Tryz.zia ?_)|((with_reducible refine zla 34 (.tmp 2) ?_);refine zca rfl 34 (.tmp 2) (.tmp 63) rfl w.heap.size (zaa (T.mk 2 tk.text 0 tk.place []) (.slice none 0 0)) rfl rfl HBr6.out Tryz.zia rfl (zda _ _ rfl) ?_))
      exact zka (cs:=zaa (T.mk 2 tk.text 0 tk.place []) (.slice none 0 0)) Tryz.results79 rfl HBr6.out Tryz.underlying34 rfl Tryz.zia rfl
       ⟨(T.mk 2 tk.text 0 tk.place []),_,l5,f6,q6,rfl,((KAt.nil 34 _ (fun b=>w.heap.size<b)).setRow w.heap.size _ (fun b hb=>by omega)).mono (fun b hb _=>by omega),by show 0≤40000;decide,H6.out.same (by simp [World.setRow]) (setRow_other _ _ _ _ (by omega)) (setRow_other _ _ _ _ (by omega)),HK6.out.setRow (Nat.le_refl _) _,zIa.turn (fun hf=>zNs (zee hx1 hf) (zee hx2 hf) (zee hx3 hf) (zee hx4 hf) (zee hx5 hf)) HS6.out⟩
end
end Go.Proofs.YthdbmgijpelecaaGreatDoor
