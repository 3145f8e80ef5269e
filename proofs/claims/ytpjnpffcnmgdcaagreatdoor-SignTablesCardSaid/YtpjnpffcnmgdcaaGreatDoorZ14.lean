/- The contract of lychgateref02.term. The contract of lychgateref02.cmp. ONE contract for each function of the document's parser, whatever state it is called in (with a fault or without): RTot for those that hand back a node; and the contracts of term, cmp so, and of fact. The contract of lychgateref02.fact. has, must and name of the document's parser, each in ONE contract for every state. How what calls of the document's parser come to is put together: one behind the other, and behind a look at the next token. No conditions. -/
import Derived.Test.YtpjnpffcnmgdcaaGreatDoorZ13
namespace Go.Proofs.YtpjnpffcnmgdcaaGreatDoor
set_option maxRecDepth 100000
set_option maxHeartbeats 4000000
section
open Go.RowKit
theorem RSt.draws {E:Env} {w:World} {l:List Tok} {d:Nat} {f:Int} {q:Nat} (h:RSt E w l d f q) (n:Nat):RSt E (w.drewN n) l d f q:=h.same (Nat.le_refl _) rfl rfl
theorem Blk.draws {w:World} {g:Nat} {cs:List Value} {t:TypeId} (h:Blk w g cs t) (n:Nat):Blk (w.drewN n) g cs t:=h
theorem Kp.draws {pb:Nat} {a w:World} (h:Kp pb a w) (n:Nat):Kp pb a (w.drewN n):=⟨h.os,h.tape,h.output,h.size,h.block⟩
theorem zBp {E:Env} {w:World} {l:List Tok} {d:Nat} {q:Nat} (h:RSt E w l d 0 q) (hk3:((hdT l).kind == 3)=true) :
  Calls Tryz.prog 71 #[.pointer (some ⟨E.pb,0,none⟩)] w (zcj E w d q l (zXa l)):=by
 have hk:(hdT l).kind=3:=beq_iff_eq.1 hk3
 have hnm:isT (hdT l) (bs [45])=false:=by
  cases hi:isT (hdT l) (bs [45]) with
  | false=>rfl
  | true=>rcases zBg h.zPh zHg hi with h'|h'<;>omega
 have HP:=zh (show zXa l=.ok (.mk 5 e0 ((hdT l).num:Int) (hdT l).place [],l.tail) by
  unfold zXa zPa zEa zkd
  rw [hnm,hk]
  rfl)
 have H:=zh h
 have HK3:=zh hk3
 have c0:w.cell? ⟨E.pb,0,none⟩=some (.slice (some ⟨E.tb,0,none⟩) E.ts.length E.cap):=h.blk.cell 0
 have c1:w.cell? ⟨E.pb,1,none⟩=some (.int .i64 ((E.ts.length-l.length:Nat):Int)):=h.blk.cell 1
 obtain ⟨t0,t1,t2,t3⟩:=h.tok
 have hkl:E.ts.length-l.length<E.ts.length:=by have:=h.head.1;have:=h.le;omega
 have hlen:=h.len
 have hcap:=h.capb
 have hplt:=h.plt
 have htlt:=h.tlt
 have hnum:=h.zTf.num
 have ix1:(0:Int)≤((E.ts.length-l.length:Nat):Int):=by omega
 have ix2:(((E.ts.length-l.length:Nat):Int))<(E.ts.length:Int):=by omega
 have HB0:=zh (Blk.new w zba 36)
 rw [hk] at t0
 clear hnm hk3 hk
 generalize E.ts.length-l.length=k at *
 clear h
 go_enter Tryz.func71,Tryz.ntmps71
 go_wp2
 go_quiet (fail)
 go_wp2
 go_quiet (fail)
 go_wp2_with fail
 refine (zPe ((H.out.alloc _).draws _) HK3.out).mono ?_
 rintro e w2 ⟨rfl,hs,hk⟩
 have H2:=zh hs
 have HB2:=zh ((HB0.out.draws _).kp hk (by omega))
 have HK2:=zh ((((Kp.refl E.pb w).alloc _).draws _).trans hk)
 clear hs hk
 go_wp2_with ((with_reducible refine zla 36 (.tmp 2) ?_);refine zda rfl 36 (.tmp 2) (.tmp 35) rfl w.heap.size (zaa (.mk 5 e0 ((hdT l).num:Int) (hdT l).place []) (.slice none 0 0)) rfl rfl HB2.out Tryz.zha rfl (zca _ _ rfl) ?_)
 exact zma (cs:=zaa (.mk 5 e0 ((hdT l).num:Int) (hdT l).place []) (.slice none 0 0)) Tryz.results71 rfl HB2.out Tryz.underlying36 rfl Tryz.zha rfl (by rw [HP.out];exact ⟨_,rfl,KAt.nil _ _ _,H2.out.same (by simp [World.setRow]) (setRow_other _ _ _ _ (by omega)) (setRow_other _ _ _ _ (by omega)),HK2.out.setRow (Nat.le_refl _) _,by rw [List.length_tail];omega⟩)
theorem zRq {E:Env} {w:World} {l:List Tok} {d:Nat} {q:Nat} (h:RSt E w l d 0 q) (h45:isT (hdT l) (bs [45])=true) (hk3:((hdT l.tail).kind == 3)=true) :
  Calls Tryz.prog 71 #[.pointer (some ⟨E.pb,0,none⟩)] w (zcj E w d q l (zXa l)):=by
 have hkd:=zBg h.zPh zHg h45
 have hk1:((hdT l).kind == 1)=false:=beq_eq_false_iff_ne.2 (by omega)
 have hne3:(((hdT l).kind:Int) == 3)=false:=by simp;omega
 have HP:=zh (show zXa l=.ok (.mk 5 e0 (-((hdT l.tail).num:Int)) (hdT l).place [],l.tail.tail) by
  unfold zXa zPa
  rw [hk1,h45]
  show bd (zEa l.tail) _=_
  rw [zpa (show zEa l.tail=.ok (((hdT l.tail).num:Int),l.tail.tail) by unfold zEa zkd;rw [hk3];rfl)])
 have hnum0:(hdT l.tail).num≤1099511627776:=by
  rcases Nat.eq_zero_or_pos l.tail.length with h0|h0
  ·rw [List.eq_nil_of_length_eq_zero h0];simp [hdT,zVa]
  ·refine (h.ok _ ?_).num
   have e1:hdT l.tail∈l.tail:=by cases hl:l.tail with
    | nil=>rw [hl] at h0;simp at h0
    | cons a b=>simp [hdT]
   exact List.mem_of_mem_drop (i:=E.ts.length-l.length) (by rw [← h.suf];exact List.mem_of_mem_tail e1)
 have H:=zh h
 have HK3:=zh hk3
 have H45:=zh h45
 have c0:w.cell? ⟨E.pb,0,none⟩=some (.slice (some ⟨E.tb,0,none⟩) E.ts.length E.cap):=h.blk.cell 0
 have c1:w.cell? ⟨E.pb,1,none⟩=some (.int .i64 ((E.ts.length-l.length:Nat):Int)):=h.blk.cell 1
 obtain ⟨t0,t1,t2,t3⟩:=h.tok
 have hkl:E.ts.length-l.length<E.ts.length:=by have:=h.head.1;have:=h.le;omega
 have hlen:=h.len
 have hcap:=h.capb
 have hplt:=h.plt
 have htlt:=h.tlt
 have hnum:=h.zTf.num
 have ix1:(0:Int)≤((E.ts.length-l.length:Nat):Int):=by omega
 have ix2:(((E.ts.length-l.length:Nat):Int))<(E.ts.length:Int):=by omega
 have HB0:=zh (Blk.new w zba 36)
 clear hk3 h45 hk1 hkd
 generalize E.ts.length-l.length=k at *
 clear h
 go_enter Tryz.func71,Tryz.ntmps71
 go_wp2
 go_quiet (fail)
 go_wp2
 go_quiet (fail)
 go_wp2_with fail
 refine (zrd ((H.out.alloc _).draws _) (bs [45]) zHg (by decide) H45.out).mono ?_
 rintro e w1 ⟨rfl,hs,hk⟩
 have H1:=zh hs
 have HB1:=zh ((HB0.out.draws _).kp hk (by omega))
 have HK1:=zh ((((Kp.refl E.pb w).alloc _).draws _).trans hk)
 have hz1:=HB1.out.lt
 clear hs hk
 go_wp2_with fail
 refine (zPe H1.out HK3.out).mono ?_
 rintro e w2 ⟨rfl,hs,hk⟩
 have H2:=zh hs
 have HB2:=zh (HB1.out.kp hk (by omega))
 have HK2:=zh (HK1.out.trans hk)
 clear hs hk
 have hng:IntKind.i64.wrap (-((hdT l.tail).num:Int))=-((hdT l.tail).num:Int):=IntWalk.i64_in _ (by omega)
 go_wp2_with ((with_reducible refine zla 36 (.tmp 2) ?_);refine zda rfl 36 (.tmp 2) (.tmp 44) rfl w.heap.size (zaa (.mk 5 e0 (-((hdT l.tail).num:Int)) (hdT l).place []) (.slice none 0 0)) rfl rfl HB2.out Tryz.zha rfl (zca _ _ rfl) ?_)
 exact zma (cs:=zaa (.mk 5 e0 (-((hdT l.tail).num:Int)) (hdT l).place []) (.slice none 0 0)) Tryz.results71 rfl HB2.out Tryz.underlying36 rfl Tryz.zha rfl (by rw [HP.out];exact ⟨_,rfl,KAt.nil _ _ _,H2.out.same (by simp [World.setRow]) (setRow_other _ _ _ _ (by omega)) (setRow_other _ _ _ _ (by omega)),HK2.out.setRow (Nat.le_refl _) _,by simp only [List.length_tail];omega⟩)
theorem zeo {E:Env} {w:World} {l:List Tok} {d:Nat} {q:Nat} (h:RSt E w l d 0 q) (h45:isT (hdT l) (bs [45])=true) (hk3:((hdT l.tail).kind == 3)=false) :
  Calls Tryz.prog 71 #[.pointer (some ⟨E.pb,0,none⟩)] w (zcj E w d q l (zXa l)):=by
 have hkd:=zBg h.zPh zHg h45
 have hk1:((hdT l).kind == 1)=false:=beq_eq_false_iff_ne.2 (by omega)
 have hne3:(((hdT l).kind:Int) == 3)=false:=by simp;omega
 have HP:=zh (show zXa l=.error ((hdT l.tail).place,20) by
  unfold zXa zPa
  rw [hk1,h45]
  show bd (zEa l.tail) _=_
  exact zya (show zEa l.tail=.error ((hdT l.tail).place,20) by unfold zEa zkd;rw [hk3];rfl) _)
 have hnum0:(hdT l.tail).num≤1099511627776:=by
  rcases Nat.eq_zero_or_pos l.tail.length with h0|h0
  ·rw [List.eq_nil_of_length_eq_zero h0];simp [hdT,zVa]
  ·refine (h.ok _ ?_).num
   have e1:hdT l.tail∈l.tail:=by cases hl:l.tail with
    | nil=>rw [hl] at h0;simp at h0
    | cons a b=>simp [hdT]
   exact List.mem_of_mem_drop (i:=E.ts.length-l.length) (by rw [← h.suf];exact List.mem_of_mem_tail e1)
 have H:=zh h
 have HK3:=zh hk3
 have H45:=zh h45
 have c0:w.cell? ⟨E.pb,0,none⟩=some (.slice (some ⟨E.tb,0,none⟩) E.ts.length E.cap):=h.blk.cell 0
 have c1:w.cell? ⟨E.pb,1,none⟩=some (.int .i64 ((E.ts.length-l.length:Nat):Int)):=h.blk.cell 1
 obtain ⟨t0,t1,t2,t3⟩:=h.tok
 have hkl:E.ts.length-l.length<E.ts.length:=by have:=h.head.1;have:=h.le;omega
 have hlen:=h.len
 have hcap:=h.capb
 have hplt:=h.plt
 have htlt:=h.tlt
 have hnum:=h.zTf.num
 have ix1:(0:Int)≤((E.ts.length-l.length:Nat):Int):=by omega
 have ix2:(((E.ts.length-l.length:Nat):Int))<(E.ts.length:Int):=by omega
 have HB0:=zh (Blk.new w zba 36)
 clear hk3 h45 hk1 hkd
 generalize E.ts.length-l.length=k at *
 clear h
 go_enter Tryz.func71,Tryz.ntmps71
 go_wp2
 go_quiet (fail)
 go_wp2
 go_quiet (fail)
 go_wp2_with fail
 refine (zrd ((H.out.alloc _).draws _) (bs [45]) zHg (by decide) H45.out).mono ?_
 rintro e w1 ⟨rfl,hs,hk⟩
 have H1:=zh hs
 have HB1:=zh ((HB0.out.draws _).kp hk (by omega))
 have HK1:=zh ((((Kp.refl E.pb w).alloc _).draws _).trans hk)
 have hz1:=HB1.out.lt
 clear hs hk
 go_wp2_with fail
 refine (zLf H1.out HK3.out).mono ?_
 rintro e w2 ⟨rfl,hs,hk⟩
 have H2:=zh hs
 have HB2:=zh (HB1.out.kp hk (by omega))
 have HK2:=zh (HK1.out.trans hk)
 clear hs hk
 go_wp2_with ((with_reducible refine zla 36 (.tmp 2) ?_);refine zda rfl 36 (.tmp 2) (.tmp 44) rfl w.heap.size (zaa (.mk 5 e0 0 (hdT l).place []) (.slice none 0 0)) rfl rfl HB2.out Tryz.zha rfl (zca _ _ rfl) ?_)
 exact zma (cs:=zaa (.mk 5 e0 0 (hdT l).place []) (.slice none 0 0)) Tryz.results71 rfl HB2.out Tryz.underlying36 rfl Tryz.zha rfl (by rw [HP.out];exact ⟨_,_,_,rfl,KAt.nil _ _ _,Nat.zero_le _,H2.out.same (by simp [World.setRow]) (setRow_other _ _ _ _ (by omega)) (setRow_other _ _ _ _ (by omega)),HK2.out.setRow (Nat.le_refl _) _,by decide⟩)
theorem zpo {E:Env} {w:World} {l:List Tok} {d:Nat} {q:Nat} (h:RSt E w l d 0 q) (hk1:((hdT l).kind == 1)=true) :
  Calls Tryz.prog 71 #[.pointer (some ⟨E.pb,0,none⟩)] w (zcj E w d q l (zXa l)):=by
 have hkd:(hdT l).kind=1:=beq_iff_eq.1 hk1
 have hne3:(((hdT l).kind:Int) == 3)=false:=by rw [hkd];rfl
 have H45:=zh (show isT (hdT l) (bs [45])=false by
  cases hi:isT (hdT l) (bs [45]) with
  | false=>rfl
  | true=>rcases zBg h.zPh zHg hi with h'|h'<;>omega)
 have HP:=zh (show zXa l=zif (.mk 5 (hdT l).text 0 (hdT l).place []) l.tail by
  unfold zXa
  rw [hk1]
  show bd (zoa l) _=_
  rw [zpa (show zoa l=.ok ((.mk 5 (hdT l).text 0 (hdT l).place []),l.tail) by unfold zoa zKb zkd;rw [hk1];rfl)]
  rfl)
 have H:=zh h
 have HK1K:=zh hk1
 have c0:w.cell? ⟨E.pb,0,none⟩=some (.slice (some ⟨E.tb,0,none⟩) E.ts.length E.cap):=h.blk.cell 0
 have c1:w.cell? ⟨E.pb,1,none⟩=some (.int .i64 ((E.ts.length-l.length:Nat):Int)):=h.blk.cell 1
 obtain ⟨t0,t1,t2,t3⟩:=h.tok
 have hkl:E.ts.length-l.length<E.ts.length:=by have:=h.head.1;have:=h.le;omega
 have hlen:=h.len
 have hcap:=h.capb
 have hplt:=h.plt
 have htlt:=h.tlt
 have hnum:=h.zTf.num
 have ix1:(0:Int)≤((E.ts.length-l.length:Nat):Int):=by omega
 have ix2:(((E.ts.length-l.length:Nat):Int))<(E.ts.length:Int):=by omega
 have HB0:=zh (Blk.new w zba 36)
 clear hk1 hkd
 generalize E.ts.length-l.length=k at *
 clear h
 go_enter Tryz.func71,Tryz.ntmps71
 go_wp2
 go_quiet (fail)
 go_wp2
 go_quiet (fail)
 go_wp2_with fail
 refine (zgc ((H.out.alloc _).draws _) (bs [45]) zHg (zGd H45.out)).mono ?_
 rintro e w1 ⟨rfl,hb⟩
 have H1:=zh (((H.out.alloc _).draws _).below hb)
 have HB1:=zh ((HB0.out.draws _).below hb)
 have HK1:=zh ((((Kp.refl E.pb w).alloc _).draws _).trans (Kp.of_below hb))
 have hz1:=HB1.out.lt
 clear hb
 go_wp2_with fail
 refine (zhk H1.out HK1K.out).mono ?_
 rintro e w2 ⟨rfl,hs,hk⟩
 have H2:=zh hs
 have HB2:=zh (HB1.out.kp hk (by omega))
 have HK2:=zh (HK1.out.trans hk)
 have hz2:=HB2.out.lt
 clear hs hk
 unfold zna
 go_wp2_with (first
  | ((with_reducible refine zla 36 (.tmp 7) ?_);refine zga rfl 36 (.tmp 7) (.tmp 46) rfl (zaa ((.mk 5 (hdT l).text 0 (hdT l).place [])) (.slice none 0 0)) (old:=zba) rfl rfl Tryz.zha rfl (zca _ _ rfl) ?_)
  | ((with_reducible refine zqa 36 (.tmp 7) ?_);refine zfa rfl 36 (.tmp 7) rfl w2.heap.size ((.mk 5 (hdT l).text 0 (hdT l).place [])) (.slice none 0 0) rfl (Blk.new w2 _ _) Tryz.underlying36 rfl Tryz.zha ?_))
 refine (zKk (H2.out.alloc _) (.mk 5 (hdT l).text 0 (hdT l).place []) rfl).mono ?_
 intro e w4 hp
 cases hm:zif (.mk 5 (hdT l).text 0 (hdT l).place []) l.tail with
 | ok r =>
  obtain ⟨t4,l4⟩:=r
  rw [hm] at hp
  obtain ⟨v4,rfl,hk4,hs4,hkp,hll⟩:=hp
  have H4:=zh hs4
  have HV4:=zh (show KAt 36 w4 t4.kids (fun b=>w.heap.size<b) v4 from hk4.mono (fun b hb _=>by simp at hb;omega))
  have HB4:=zh ((HB2.out.alloc _).kp hkp (by omega))
  have HK4:=zh ((HK2.out.alloc _).trans hkp)
  have HPM:=zh (HP.out.trans hm)
  have hl4:l4.length≤l.length:=by rw [List.length_tail] at hll;omega
  clear hm hk4 hs4 hkp hll
  unfold zna
  go_wp2_with ((with_reducible refine zla 36 (.tmp 2) ?_);refine zda rfl 36 (.tmp 2) (.tmp 49) rfl w.heap.size (zaa (t4) v4) rfl rfl HB4.out Tryz.zha rfl (zca _ _ HV4.out.one) ?_)
  exact zma (cs:=zaa (t4) v4) Tryz.results71 rfl HB4.out Tryz.underlying36 rfl Tryz.zha rfl (by rw [HPM.out];exact ⟨v4,rfl,(HV4.out.setRow _ _ (fun b hb=>by omega)).mono (fun b hb _=>by omega),H4.out.same (by simp [World.setRow]) (setRow_other _ _ _ _ (by omega)) (setRow_other _ _ _ _ (by omega)),HK4.out.setRow (Nat.le_refl _) _,hl4⟩)
 | error pc =>
  obtain ⟨p4,c4⟩:=pc
  rw [hm] at hp
  obtain ⟨t4,v4,lf,rfl,hk4,hn4,hs4,hkp,hc4⟩:=hp
  have H4:=zh hs4
  have HV4:=zh (show KAt 36 w4 t4.kids (fun b=>w.heap.size<b) v4 from hk4.mono (fun b hb _=>by simp at hb;omega))
  have HB4:=zh ((HB2.out.alloc _).kp hkp (by omega))
  have HK4:=zh ((HK2.out.alloc _).trans hkp)
  have HPM:=zh (HP.out.trans hm)
  have HC4:=zh hc4
  have HN4:=zh hn4
  clear hm hk4 hs4 hkp hc4 hn4
  unfold zna
  go_wp2_with ((with_reducible refine zla 36 (.tmp 2) ?_);refine zda rfl 36 (.tmp 2) (.tmp 49) rfl w.heap.size (zaa (t4) v4) rfl rfl HB4.out Tryz.zha rfl (zca _ _ HV4.out.one) ?_)
  exact zma (cs:=zaa (t4) v4) Tryz.results71 rfl HB4.out Tryz.underlying36 rfl Tryz.zha rfl (by rw [HPM.out];exact ⟨t4,v4,lf,rfl,(HV4.out.setRow _ _ (fun b hb=>by omega)).mono (fun b hb _=>by omega),HN4.out,H4.out.same (by simp [World.setRow]) (setRow_other _ _ _ _ (by omega)) (setRow_other _ _ _ _ (by omega)),HK4.out.setRow (Nat.le_refl _) _,HC4.out⟩)
theorem zEr {E:Env} {w:World} {l:List Tok} {d:Nat} {q:Nat} (h:RSt E w l d 0 q) (hk1:((hdT l).kind == 1)=false) (hk3:((hdT l).kind == 3)=false) (h45:isT (hdT l) (bs [45])=false) :
  Calls Tryz.prog 71 #[.pointer (some ⟨E.pb,0,none⟩)] w (zcj E w d q l (zXa l)):=by
 have hne3:(((hdT l).kind:Int) == 3)=false:=by simp at hk3 ⊢;omega
 have HP:=zh (show zXa l=.error ((hdT l).place,20) by
  unfold zXa zPa
  rw [hk1,h45]
  show bd (zEa l) _=_
  exact zya (show zEa l=.error ((hdT l).place,20) by unfold zEa zkd;rw [hk3];rfl) _)
 have H:=zh h
 have H45:=zh h45
 have HK1K:=zh hk1
 have c0:w.cell? ⟨E.pb,0,none⟩=some (.slice (some ⟨E.tb,0,none⟩) E.ts.length E.cap):=h.blk.cell 0
 have c1:w.cell? ⟨E.pb,1,none⟩=some (.int .i64 ((E.ts.length-l.length:Nat):Int)):=h.blk.cell 1
 obtain ⟨t0,t1,t2,t3⟩:=h.tok
 have hkl:E.ts.length-l.length<E.ts.length:=by have:=h.head.1;have:=h.le;omega
 have hlen:=h.len
 have hcap:=h.capb
 have hplt:=h.plt
 have htlt:=h.tlt
 have hnum:=h.zTf.num
 have ix1:(0:Int)≤((E.ts.length-l.length:Nat):Int):=by omega
 have ix2:(((E.ts.length-l.length:Nat):Int))<(E.ts.length:Int):=by omega
 have HB0:=zh (Blk.new w zba 36)
 clear hk1 hk3 h45
 generalize E.ts.length-l.length=k at *
 clear h
 go_enter Tryz.func71,Tryz.ntmps71
 go_wp2
 go_quiet (fail)
 go_wp2
 go_quiet (fail)
 go_wp2_with fail
 refine (zgc ((H.out.alloc _).draws _) (bs [45]) zHg (zGd H45.out)).mono ?_
 rintro e w1 ⟨rfl,hb⟩
 have H1:=zh (((H.out.alloc _).draws _).below hb)
 have HB1:=zh ((HB0.out.draws _).below hb)
 have HK1:=zh ((((Kp.refl E.pb w).alloc _).draws _).trans (Kp.of_below hb))
 have hz1:=HB1.out.lt
 clear hb
 go_wp2_with fail
 refine (znk H1.out HK1K.out).mono ?_
 rintro e w2 ⟨rfl,hs,hk⟩
 have H2:=zh hs
 have HB2:=zh (HB1.out.kp hk (by omega))
 have HK2:=zh (HK1.out.trans hk)
 have hz2:=HB2.out.lt
 clear hs hk
 unfold zna
 go_wp2_with (first
  | ((with_reducible refine zla 36 (.tmp 7) ?_);refine zga rfl 36 (.tmp 7) (.tmp 46) rfl (zaa (zdb) (.slice none 0 0)) (old:=zba) rfl rfl Tryz.zha rfl (zca _ _ rfl) ?_)
  | ((with_reducible refine zqa 36 (.tmp 7) ?_);refine zfa rfl 36 (.tmp 7) rfl w2.heap.size (zdb) (.slice none 0 0) rfl (Blk.new w2 _ _) Tryz.underlying36 rfl Tryz.zha ?_))
 refine (zsi (H2.out.alloc _) (by decide) zdb rfl).mono ?_
 rintro e w4 ⟨t4,v4,rfl,hk4,hn4,hb4⟩
 have H4:=zh ((H2.out.alloc _).below hb4)
 have HV4:=zh (show KAt 36 w4 t4.kids (fun b=>w.heap.size<b) v4 from hk4.mono (fun b hb _=>by simp at hb;omega))
 have HB4:=zh ((HB2.out.alloc _).below hb4)
 have HK4:=zh ((HK2.out.alloc _).trans (Kp.of_below hb4))
 have HN4:=zh (show t4.kids.length≤40000 by omega)
 clear hk4 hn4 hb4
 unfold zna
 go_wp2_with ((with_reducible refine zla 36 (.tmp 2) ?_);refine zda rfl 36 (.tmp 2) (.tmp 49) rfl w.heap.size (zaa (t4) v4) rfl rfl HB4.out Tryz.zha rfl (zca _ _ HV4.out.one) ?_)
 exact zma (cs:=zaa (t4) v4) Tryz.results71 rfl HB4.out Tryz.underlying36 rfl Tryz.zha rfl (by rw [HP.out];exact ⟨t4,v4,l,rfl,(HV4.out.setRow _ _ (fun b hb=>by omega)).mono (fun b hb _=>by omega),HN4.out,H4.out.same (by simp [World.setRow]) (setRow_other _ _ _ _ (by omega)) (setRow_other _ _ _ _ (by omega)),HK4.out.setRow (Nat.le_refl _) _,by decide⟩)
theorem zTp {E:Env} {w:World} {l:List Tok} {d:Nat} {q:Nat} (h:RSt E w l d 0 q) :
  Calls Tryz.prog 71 #[.pointer (some ⟨E.pb,0,none⟩)] w (zcj E w d q l (zXa l)):=by
 cases hk3:((hdT l).kind == 3) with
 | true=>exact zBp h hk3
 | false =>
  cases h45:isT (hdT l) (bs [45]) with
  | true =>
   cases hk:((hdT l.tail).kind == 3) with
   | true=>exact zRq h h45 hk
   | false=>exact zeo h h45 hk
  | false =>
   cases hk1:((hdT l).kind == 1) with
   | true=>exact zpo h hk1
   | false=>exact zEr h hk1 hk3 h45
theorem zLp {E:Env} {w:World} {l:List Tok} {d:Nat} {f:Int} {q:Nat} (h:RSt E w l d f q) (hf:(f == 0)=false) :
  Calls Tryz.prog 71 #[.pointer (some ⟨E.pb,0,none⟩)] w (zur w):=by
 have H:=zh h
 have HF:=zh hf
 have HW0:=zh ((Below.refl w.heap.size w).alloc (Nat.le_refl _) (.cells zba.toArray 36))
 cases hk3:((hdT l).kind == 3) with
 | true =>
  have hk:(hdT l).kind=3:=beq_iff_eq.1 hk3
  have c0:w.cell? ⟨E.pb,0,none⟩=some (.slice (some ⟨E.tb,0,none⟩) E.ts.length E.cap):=h.blk.cell 0
  have c1:w.cell? ⟨E.pb,1,none⟩=some (.int .i64 ((E.ts.length-l.length:Nat):Int)):=h.blk.cell 1
  obtain ⟨t0,t1,t2,t3⟩:=h.tok
  have hkl:E.ts.length-l.length<E.ts.length:=by have:=h.head.1;have:=h.le;omega
  have hlen:=h.len
  have hcap:=h.capb
  have hplt:=h.plt
  have htlt:=h.tlt
  have hnum:=h.zTf.num
  have ix1:(0:Int)≤((E.ts.length-l.length:Nat):Int):=by omega
  have ix2:(((E.ts.length-l.length:Nat):Int))<(E.ts.length:Int):=by omega
  have HB0:=zh (Blk.new w zba 36)
  rw [hk] at t0
  clear hk3 hk hf
  generalize E.ts.length-l.length=k at *
  clear h
  go_enter Tryz.func71,Tryz.ntmps71
  go_wp2
  go_quiet (fail)
  go_wp2
  go_quiet (fail)
  go_wp2_with fail
  refine (zWh ((H.out.alloc _).draws _) HF.out).mono ?_
  rintro e w2 ⟨rfl,hb⟩
  have HB2:=zh ((HB0.out.draws _).below hb)
  have HW2:=zh ((zlc HW0.out _).trans (hb.mono (zlc HW0.out _).size))
  clear hb
  go_wp2_with ((with_reducible refine zla 36 (.tmp 2) ?_);refine zda rfl 36 (.tmp 2) (.tmp 35) rfl w.heap.size (zaa (.mk 5 e0 0 (hdT l).place []) (.slice none 0 0)) rfl rfl HB2.out Tryz.zha rfl (zca _ _ rfl) ?_)
  exact zma (cs:=zaa (.mk 5 e0 0 (hdT l).place []) (.slice none 0 0)) Tryz.results71 rfl HB2.out Tryz.underlying36 rfl Tryz.zha rfl (⟨_,_,rfl,KAt.nil _ _ _,Nat.zero_le _,zae HW2.out (Nat.le_refl _) _⟩)
 | false =>
  have hne3:(((hdT l).kind:Int) == 3)=false:=by simp at hk3 ⊢;omega
  have c0:w.cell? ⟨E.pb,0,none⟩=some (.slice (some ⟨E.tb,0,none⟩) E.ts.length E.cap):=h.blk.cell 0
  have c1:w.cell? ⟨E.pb,1,none⟩=some (.int .i64 ((E.ts.length-l.length:Nat):Int)):=h.blk.cell 1
  obtain ⟨t0,t1,t2,t3⟩:=h.tok
  have hkl:E.ts.length-l.length<E.ts.length:=by have:=h.head.1;have:=h.le;omega
  have hlen:=h.len
  have hcap:=h.capb
  have hplt:=h.plt
  have htlt:=h.tlt
  have hnum:=h.zTf.num
  have ix1:(0:Int)≤((E.ts.length-l.length:Nat):Int):=by omega
  have ix2:(((E.ts.length-l.length:Nat):Int))<(E.ts.length:Int):=by omega
  have HB0:=zh (Blk.new w zba 36)
  clear hk3 hf
  generalize E.ts.length-l.length=k at *
  clear h
  go_enter Tryz.func71,Tryz.ntmps71
  go_wp2
  go_quiet (fail)
  go_wp2
  go_quiet (fail)
  go_wp2_with fail
  refine (zgc ((H.out.alloc _).draws _) (bs [45]) zHg (zYh HF.out _)).mono ?_
  rintro e w1 ⟨rfl,hb⟩
  have H1:=zh (((H.out.alloc _).draws _).below hb)
  have HB1:=zh ((HB0.out.draws _).below hb)
  have HK1:=zh ((((Kp.refl E.pb w).alloc _).draws _).trans (Kp.of_below hb))
  have hz1:=HB1.out.lt
  have HW1:=zh ((zlc HW0.out _).trans (hb.mono (zlc HW0.out _).size))
  clear hb
  go_wp2_with fail
  refine (zii H1.out HF.out).mono ?_
  rintro e w2 ⟨rfl,hb⟩
  have H2:=zh (H1.out.below hb)
  have HB2:=zh (HB1.out.below hb)
  have HW2:=zh ((HW1.out.trans (hb.mono HW1.out.size)).alloc (Nat.le_trans HW1.out.size hb.size) (.cells (zaa zdb (.slice none 0 0)).toArray 36))
  have hz2:=HB2.out.lt
  clear hb
  unfold zna
  go_wp2_with (first
   | ((with_reducible refine zla 36 (.tmp 7) ?_);refine zga rfl 36 (.tmp 7) (.tmp 46) rfl (zaa (zdb) (.slice none 0 0)) (old:=zba) rfl rfl Tryz.zha rfl (zca _ _ rfl) ?_)
   | ((with_reducible refine zqa 36 (.tmp 7) ?_);refine zfa rfl 36 (.tmp 7) rfl w2.heap.size (zdb) (.slice none 0 0) rfl (Blk.new w2 _ _) Tryz.underlying36 rfl Tryz.zha ?_))
  refine (zsi (H2.out.alloc _) HF.out zdb rfl).mono ?_
  rintro e w4 ⟨t4,v4,rfl,hk4,hn4,hb4⟩
  have HV4:=zh (show KAt 36 w4 t4.kids (fun b=>w.heap.size<b) v4 from hk4.mono (fun b hb _=>by simp at hb;omega))
  have HB4:=zh ((HB2.out.alloc _).below hb4)
  have HW4:=zh (HW2.out.trans (hb4.mono HW2.out.size))
  have HN4:=zh hn4
  clear hk4 hn4 hb4
  unfold zna
  go_wp2_with ((with_reducible refine zla 36 (.tmp 2) ?_);refine zda rfl 36 (.tmp 2) (.tmp 49) rfl w.heap.size (zaa (t4) v4) rfl rfl HB4.out Tryz.zha rfl (zca _ _ HV4.out.one) ?_)
  exact zma (cs:=zaa (t4) v4) Tryz.results71 rfl HB4.out Tryz.underlying36 rfl Tryz.zha rfl (⟨t4,v4,rfl,(HV4.out.setRow _ _ (fun b hb=>by omega)).mono (fun b hb _=>by omega),HN4.out,zae HW4.out (Nat.le_refl _) _⟩)
end
section
open Go.RowKit
theorem zUh:zOa (bs [60])=true:=by kernel_rfl
theorem zPj:zOa (bs [60,61])=true:=by kernel_rfl
theorem zbm:zOa (bs [61,61])=true:=by kernel_rfl
def zkc:List Value:=[.string (bs [60]),.string (bs [60,61]),.string (bs [61,61])]
theorem zwq {E:Env} {w:World} {l:List Tok} {d:Nat} {q:Nat} (h:RSt E w l d 0 q) (hi0:isT (hdT l) (bs [60])=true) :
  Calls Tryz.prog 72 #[.pointer (some ⟨E.pb,0,none⟩)] w fun e w'=>e=.returned (.string (bs [60]))∧RSt E w' l.tail d 0 q∧Kp E.pb w w':=by
 have HI0:=zh hi0
 clear hi0
 have HL:=zh (Blk.new w zkc 9)
 have H:=zh (h.alloc (.cells zkc.toArray 9))
 have HK:=zh ((Kp.refl E.pb w).alloc (.cells zkc.toArray 9))
 have hplt:=h.plt
 clear h
 go_enter Tryz.func72,Tryz.ntmps72
 go_wp2_with fail
 refine wp_loop_rounds 4 ?_
 rw [rounds_succ]
 go_wp2_with fail
 refine (zrd H.out (bs [60]) zUh (by decide) HI0.out).mono ?_
 rintro e w0 ⟨rfl,hs,hk⟩
 have HL0:=zh (HL.out.kp hk (by omega))
 have HKY:=zh (HK.out.trans hk)
 have HSY:=zh hs
 clear hs hk
 have l00:w0.cell? ⟨w.heap.size,0,none⟩=some (.string (bs [60])):=HL0.out.cell 0
 go_wp2_with fail
 go_ret
 exact ⟨rfl,HSY.out,HKY.out⟩
theorem zmq {E:Env} {w:World} {l:List Tok} {d:Nat} {q:Nat} (h:RSt E w l d 0 q) (hi0:isT (hdT l) (bs [60])=false) (hi1:isT (hdT l) (bs [60,61])=true) :
  Calls Tryz.prog 72 #[.pointer (some ⟨E.pb,0,none⟩)] w fun e w'=>e=.returned (.string (bs [60,61]))∧RSt E w' l.tail d 0 q∧Kp E.pb w w':=by
 have HI0:=zh hi0
 clear hi0
 have HI1:=zh hi1
 clear hi1
 have HL:=zh (Blk.new w zkc 9)
 have H:=zh (h.alloc (.cells zkc.toArray 9))
 have HK:=zh ((Kp.refl E.pb w).alloc (.cells zkc.toArray 9))
 have hplt:=h.plt
 clear h
 go_enter Tryz.func72,Tryz.ntmps72
 go_wp2_with fail
 refine wp_loop_rounds 4 ?_
 rw [rounds_succ]
 go_wp2_with fail
 refine (zgc H.out (bs [60]) zUh (zGd HI0.out)).mono ?_
 rintro e w0 ⟨rfl,hb⟩
 have H0:=zh (H.out.below hb)
 have HL0:=zh (HL.out.below hb)
 have HK0:=zh (HK.out.trans (Kp.of_below hb))
 clear hb
 have l00:w0.cell? ⟨w.heap.size,0,none⟩=some (.string (bs [60])):=HL0.out.cell 0
 have l01:w0.cell? ⟨w.heap.size,1,none⟩=some (.string (bs [60,61])):=HL0.out.cell 1
 have l02:w0.cell? ⟨w.heap.size,2,none⟩=some (.string (bs [61,61])):=HL0.out.cell 2
 go_wp2_with fail
 rw [rounds_succ]
 go_wp2_with fail
 refine (zrd H0.out (bs [60,61]) zPj (by decide) HI1.out).mono ?_
 rintro e w1 ⟨rfl,hs,hk⟩
 have HL1:=zh (HL0.out.kp hk (by omega))
 have HKY:=zh (HK0.out.trans hk)
 have HSY:=zh hs
 clear hs hk
 have l11:w1.cell? ⟨w.heap.size,1,none⟩=some (.string (bs [60,61])):=HL1.out.cell 1
 go_wp2_with fail
 go_ret
 exact ⟨rfl,HSY.out,HKY.out⟩
theorem zbr {E:Env} {w:World} {l:List Tok} {d:Nat} {q:Nat} (h:RSt E w l d 0 q) (hi0:isT (hdT l) (bs [60])=false) (hi1:isT (hdT l) (bs [60,61])=false) (hi2:isT (hdT l) (bs [61,61])=true) :
  Calls Tryz.prog 72 #[.pointer (some ⟨E.pb,0,none⟩)] w fun e w'=>e=.returned (.string (bs [61,61]))∧RSt E w' l.tail d 0 q∧Kp E.pb w w':=by
 have HI0:=zh hi0
 clear hi0
 have HI1:=zh hi1
 clear hi1
 have HI2:=zh hi2
 clear hi2
 have HL:=zh (Blk.new w zkc 9)
 have H:=zh (h.alloc (.cells zkc.toArray 9))
 have HK:=zh ((Kp.refl E.pb w).alloc (.cells zkc.toArray 9))
 have hplt:=h.plt
 clear h
 go_enter Tryz.func72,Tryz.ntmps72
 go_wp2_with fail
 refine wp_loop_rounds 4 ?_
 rw [rounds_succ]
 go_wp2_with fail
 refine (zgc H.out (bs [60]) zUh (zGd HI0.out)).mono ?_
 rintro e w0 ⟨rfl,hb⟩
 have H0:=zh (H.out.below hb)
 have HL0:=zh (HL.out.below hb)
 have HK0:=zh (HK.out.trans (Kp.of_below hb))
 clear hb
 have l00:w0.cell? ⟨w.heap.size,0,none⟩=some (.string (bs [60])):=HL0.out.cell 0
 have l01:w0.cell? ⟨w.heap.size,1,none⟩=some (.string (bs [60,61])):=HL0.out.cell 1
 have l02:w0.cell? ⟨w.heap.size,2,none⟩=some (.string (bs [61,61])):=HL0.out.cell 2
 go_wp2_with fail
 rw [rounds_succ]
 go_wp2_with fail
 refine (zgc H0.out (bs [60,61]) zPj (zGd HI1.out)).mono ?_
 rintro e w1 ⟨rfl,hb⟩
 have H1:=zh (H0.out.below hb)
 have HL1:=zh (HL0.out.below hb)
 have HK1:=zh (HK0.out.trans (Kp.of_below hb))
 clear hb
 have l10:w1.cell? ⟨w.heap.size,0,none⟩=some (.string (bs [60])):=HL1.out.cell 0
 have l11:w1.cell? ⟨w.heap.size,1,none⟩=some (.string (bs [60,61])):=HL1.out.cell 1
 have l12:w1.cell? ⟨w.heap.size,2,none⟩=some (.string (bs [61,61])):=HL1.out.cell 2
 go_wp2_with fail
 rw [rounds_succ]
 go_wp2_with fail
 refine (zrd H1.out (bs [61,61]) zbm (by decide) HI2.out).mono ?_
 rintro e w2 ⟨rfl,hs,hk⟩
 have HL2:=zh (HL1.out.kp hk (by omega))
 have HKY:=zh (HK1.out.trans hk)
 have HSY:=zh hs
 clear hs hk
 have l22:w2.cell? ⟨w.heap.size,2,none⟩=some (.string (bs [61,61])):=HL2.out.cell 2
 go_wp2_with fail
 go_ret
 exact ⟨rfl,HSY.out,HKY.out⟩
theorem zft {E:Env} {w:World} {l:List Tok} {d:Nat} {q:Nat} (h:RSt E w l d 0 q) (hi0:isT (hdT l) (bs [60])=false) (hi1:isT (hdT l) (bs [60,61])=false) (hi2:isT (hdT l) (bs [61,61])=false) :
  Calls Tryz.prog 72 #[.pointer (some ⟨E.pb,0,none⟩)] w fun e w'=>e=.returned (.string ⟨#[]⟩)∧RSt E w' l d 20 (hdT l).place∧Kp E.pb w w':=by
 have HI0:=zh hi0
 clear hi0
 have HI1:=zh hi1
 clear hi1
 have HI2:=zh hi2
 clear hi2
 have HL:=zh (Blk.new w zkc 9)
 have H:=zh (h.alloc (.cells zkc.toArray 9))
 have HK:=zh ((Kp.refl E.pb w).alloc (.cells zkc.toArray 9))
 have hplt:=h.plt
 clear h
 go_enter Tryz.func72,Tryz.ntmps72
 go_wp2_with fail
 refine wp_loop_rounds 4 ?_
 rw [rounds_succ]
 go_wp2_with fail
 refine (zgc H.out (bs [60]) zUh (zGd HI0.out)).mono ?_
 rintro e w0 ⟨rfl,hb⟩
 have H0:=zh (H.out.below hb)
 have HL0:=zh (HL.out.below hb)
 have HK0:=zh (HK.out.trans (Kp.of_below hb))
 clear hb
 have l00:w0.cell? ⟨w.heap.size,0,none⟩=some (.string (bs [60])):=HL0.out.cell 0
 have l01:w0.cell? ⟨w.heap.size,1,none⟩=some (.string (bs [60,61])):=HL0.out.cell 1
 have l02:w0.cell? ⟨w.heap.size,2,none⟩=some (.string (bs [61,61])):=HL0.out.cell 2
 go_wp2_with fail
 rw [rounds_succ]
 go_wp2_with fail
 refine (zgc H0.out (bs [60,61]) zPj (zGd HI1.out)).mono ?_
 rintro e w1 ⟨rfl,hb⟩
 have H1:=zh (H0.out.below hb)
 have HL1:=zh (HL0.out.below hb)
 have HK1:=zh (HK0.out.trans (Kp.of_below hb))
 clear hb
 have l10:w1.cell? ⟨w.heap.size,0,none⟩=some (.string (bs [60])):=HL1.out.cell 0
 have l11:w1.cell? ⟨w.heap.size,1,none⟩=some (.string (bs [60,61])):=HL1.out.cell 1
 have l12:w1.cell? ⟨w.heap.size,2,none⟩=some (.string (bs [61,61])):=HL1.out.cell 2
 go_wp2_with fail
 rw [rounds_succ]
 go_wp2_with fail
 refine (zgc H1.out (bs [61,61]) zbm (zGd HI2.out)).mono ?_
 rintro e w2 ⟨rfl,hb⟩
 have H2:=zh (H1.out.below hb)
 have HL2:=zh (HL1.out.below hb)
 have HK2:=zh (HK1.out.trans (Kp.of_below hb))
 clear hb
 have l20:w2.cell? ⟨w.heap.size,0,none⟩=some (.string (bs [60])):=HL2.out.cell 0
 have l21:w2.cell? ⟨w.heap.size,1,none⟩=some (.string (bs [60,61])):=HL2.out.cell 1
 have l22:w2.cell? ⟨w.heap.size,2,none⟩=some (.string (bs [61,61])):=HL2.out.cell 2
 go_wp2_with fail
 rw [rounds_succ]
 go_wp2_with fail
 refine (zKf H2.out 20).mono ?_
 rintro e w3 ⟨rfl,hs,hk⟩
 have HKY:=zh (HK2.out.trans hk)
 have HSY:=zh hs
 clear hs hk
 go_wp2_with fail
 go_ret
 exact ⟨rfl,HSY.out,HKY.out⟩
theorem ztr {E:Env} {w:World} {l:List Tok} {d:Nat} {f:Int} {q:Nat} (h:RSt E w l d f q) (hf:(f == 0)=false) :
  Calls Tryz.prog 72 #[.pointer (some ⟨E.pb,0,none⟩)] w fun e w'=>e=.returned (.string ⟨#[]⟩)∧Below w.heap.size w w':=by
 have HF:=zh hf
 clear hf
 have HBW:=zh ((Below.refl w.heap.size w).alloc (Nat.le_refl _) (.cells zkc.toArray 9))
 have HL:=zh (Blk.new w zkc 9)
 have H:=zh (h.alloc (.cells zkc.toArray 9))
 have HK:=zh ((Kp.refl E.pb w).alloc (.cells zkc.toArray 9))
 have hplt:=h.plt
 clear h
 go_enter Tryz.func72,Tryz.ntmps72
 go_wp2_with fail
 refine wp_loop_rounds 4 ?_
 rw [rounds_succ]
 go_wp2_with fail
 refine (zgc H.out (bs [60]) zUh (zYh HF.out _)).mono ?_
 rintro e w0 ⟨rfl,hb⟩
 have H0:=zh (H.out.below hb)
 have HL0:=zh (HL.out.below hb)
 have HK0:=zh (HK.out.trans (Kp.of_below hb))
 have HBW0:=zh (HBW.out.trans (hb.mono (by simp)))
 clear hb
 have l00:w0.cell? ⟨w.heap.size,0,none⟩=some (.string (bs [60])):=HL0.out.cell 0
 have l01:w0.cell? ⟨w.heap.size,1,none⟩=some (.string (bs [60,61])):=HL0.out.cell 1
 have l02:w0.cell? ⟨w.heap.size,2,none⟩=some (.string (bs [61,61])):=HL0.out.cell 2
 go_wp2_with fail
 rw [rounds_succ]
 go_wp2_with fail
 refine (zgc H0.out (bs [60,61]) zPj (zYh HF.out _)).mono ?_
 rintro e w1 ⟨rfl,hb⟩
 have H1:=zh (H0.out.below hb)
 have HL1:=zh (HL0.out.below hb)
 have HK1:=zh (HK0.out.trans (Kp.of_below hb))
 have HBW1:=zh (HBW0.out.trans (hb.mono HBW0.out.size))
 clear hb
 have l10:w1.cell? ⟨w.heap.size,0,none⟩=some (.string (bs [60])):=HL1.out.cell 0
 have l11:w1.cell? ⟨w.heap.size,1,none⟩=some (.string (bs [60,61])):=HL1.out.cell 1
 have l12:w1.cell? ⟨w.heap.size,2,none⟩=some (.string (bs [61,61])):=HL1.out.cell 2
 go_wp2_with fail
 rw [rounds_succ]
 go_wp2_with fail
 refine (zgc H1.out (bs [61,61]) zbm (zYh HF.out _)).mono ?_
 rintro e w2 ⟨rfl,hb⟩
 have H2:=zh (H1.out.below hb)
 have HL2:=zh (HL1.out.below hb)
 have HK2:=zh (HK1.out.trans (Kp.of_below hb))
 have HBW2:=zh (HBW1.out.trans (hb.mono HBW1.out.size))
 clear hb
 have l20:w2.cell? ⟨w.heap.size,0,none⟩=some (.string (bs [60])):=HL2.out.cell 0
 have l21:w2.cell? ⟨w.heap.size,1,none⟩=some (.string (bs [60,61])):=HL2.out.cell 1
 have l22:w2.cell? ⟨w.heap.size,2,none⟩=some (.string (bs [61,61])):=HL2.out.cell 2
 go_wp2_with fail
 rw [rounds_succ]
 go_wp2_with fail
 refine (zEf H2.out HF.out 20).mono ?_
 rintro e w3 ⟨rfl,rfl⟩
 go_wp2_with fail
 go_ret
 exact ⟨rfl,HBW2.out⟩
end
section
open Go.RowKit
def zCa {α:Type} (l:List Tok) (f:Int) (q:Nat) (r:R α) (t:α) (lf:List Tok) (f':Int) (q':Nat):Prop :=
 ((f == 0)=true∧((∃ l0,r=.ok (t,l0)∧lf=l0∧f'=0∧q'=q∧l0.length≤l.length)∨(∃ p c,r=.error (p,c)∧f'=c∧q'=p∧(c == 0)=false))) ∨
 ((f == 0)=false∧lf=l∧f'=f∧q'=q)
def zqg (E:Env) (w:World) (d:Nat) (l:List Tok) (f:Int) (q:Nat) (r:R T) (e:Ending) (w':World):Prop :=
 ∃ t v lf f' q',e=.returned (zna t v)∧KAt 36 w' t.kids (fun b=>w.heap.size≤b) v∧t.kids.length≤40000∧RSt E w' lf d f' q'∧Kp E.pb w w'∧zCa l f q r t lf f' q'
theorem zcj.tot {E:Env} {w:World} {d q:Nat} {l:List Tok} {r:R T} {e:Ending} {w':World} (h:zcj E w d q l r e w') (hk:∀ t l0,r=.ok (t,l0)→t.kids.length≤40000):zqg E w d l 0 q r e w':=by
 unfold zcj at h
 cases r with
 | ok x =>
  obtain ⟨t,l0⟩:=x
  obtain ⟨v,rfl,h1,h2,h3,h4⟩:=h
  exact ⟨t,v,l0,0,q,rfl,h1,hk t l0 rfl,h2,h3,.inl ⟨rfl,.inl ⟨l0,rfl,rfl,rfl,rfl,h4⟩⟩⟩
 | error x =>
  obtain ⟨p,c⟩:=x
  obtain ⟨t,v,lf,rfl,h1,h2,h3,h4,h5⟩:=h
  exact ⟨t,v,lf,c,p,rfl,h1,h2,h3,h4,.inl ⟨rfl,.inr ⟨p,c,rfl,rfl,rfl,h5⟩⟩⟩
theorem zur.tot {E:Env} {w:World} {d q:Nat} {l:List Tok} {f:Int} {r:R T} {e:Ending} {w':World} (h:zur w e w') (hs:RSt E w l d f q) (hf:(f == 0)=false):zqg E w d l f q r e w':=by
 obtain ⟨t,v,rfl,h1,h2,h3⟩:=h
 exact ⟨t,v,l,f,q,rfl,h1,by omega,hs.below h3,Kp.of_below h3,.inr ⟨hf,rfl,rfl,rfl⟩⟩
def zwu (l:List Tok) (t:T) (_:List Tok):Prop:=t.kids=[]∧t.place=(hdT l).place
theorem any_ok {α:Type} (r:R α):Ok (fun _ _=>True) r:=fun _ _ _=>trivial
theorem zlj (l:List Tok):Ok (zwu l) (zXa l):=by
 unfold zXa
 refine Ok.cond (fun _=>?_) (fun _=>?_)
 ·refine Ok.bd (G:=zwu l) ?_ fun n l1 h=>Ok.sum (fun _=>Ok.ok h) fun k x _=>(any_ok _).bd fun v l2 _=>Ok.ok ?_
  ·unfold zoa
   exact (any_ok _).bd fun s l1 _=>Ok.ok ⟨rfl,rfl⟩
  ·obtain ⟨k,s,n,p,ks⟩:=n
   exact h
 ·unfold zPa
  exact Ok.cond (fun _=>(any_ok _).bd fun s l1 _=>Ok.ok ⟨rfl,rfl⟩) (fun _=>(any_ok _).bd fun s l1 _=>Ok.ok ⟨rfl,rfl⟩)
theorem zGc {E:Env} {w:World} {l:List Tok} {d:Nat} {f:Int} {q:Nat} (h:RSt E w l d f q) :
  Calls Tryz.prog 71 #[.pointer (some ⟨E.pb,0,none⟩)] w (zqg E w d l f q (zXa l)):=by
 cases hf:(f == 0) with
 | true =>
  have e:f=0:=beq_iff_eq.1 hf
  subst e
  exact (zTp h).mono fun _ _ hp=>hp.tot fun t l0 hr=>by rw [(zlj l t l0 hr).1];simp
 | false=>exact (zLp h hf).mono fun _ _ hp=>hp.tot h hf
def cmpL:List ByteArray:=[bs [60],bs [60,61],bs [61,61]]
def RCmp (E:Env) (w:World) (d:Nat) (l:List Tok) (f:Int) (q:Nat) (e:Ending) (w':World):Prop :=
 ∃ s lf f' q',e=.returned (.string s)∧RSt E w' lf d f' q'∧Kp E.pb w w'∧zCa l f q (bd (zsa cmpL l) fun t l=>.ok (t.text,l)) s lf f' q'
theorem zXj {t:Tok} {s:ByteArray} (h:isT t s=true):t.text=s:=by
 unfold isT at h
 have h1:=beq_iff_eq.1 h
 rw [ByteArray.toList_eq,ByteArray.toList_eq] at h1
 exact ByteArray.ext (Array.toList_inj.1 h1)
theorem zJq {l:List Tok} {s:ByteArray} (hm:cmpL.any (isT (hdT l))=true) (hi:isT (hdT l) s=true):(bd (zsa cmpL l) fun t l=>(.ok (t.text,l):R ByteArray))=.ok (s,l.tail):=by
 have e:zsa cmpL l=.ok (hdT l,l.tail):=by
  unfold zsa
  rw [hm]
  rfl
 rw [zpa e,zXj hi]
theorem zWm {E:Env} {w:World} {l:List Tok} {d:Nat} {f:Int} {q:Nat} (h:RSt E w l d f q) :
  Calls Tryz.prog 72 #[.pointer (some ⟨E.pb,0,none⟩)] w (RCmp E w d l f q):=by
 cases hf:(f == 0) with
 | false=>exact (ztr h hf).mono fun _ _ ⟨he,hb⟩=>⟨_,l,f,q,he,h.below hb,Kp.of_below hb,.inr ⟨hf,rfl,rfl,rfl⟩⟩
 | true =>
  have e:f=0:=beq_iff_eq.1 hf
  subst e
  have hl:l.tail.length≤l.length:=by rw [List.length_tail];omega
  cases h0:isT (hdT l) (bs [60]) with
  | true=>exact (zwq h h0).mono fun _ _ ⟨he,hs,hk⟩=>⟨_,_,_,_,he,hs,hk,.inl ⟨rfl,.inl ⟨_,zJq (by simp [cmpL,h0]) h0,rfl,rfl,rfl,hl⟩⟩⟩
  | false =>
   cases h1:isT (hdT l) (bs [60,61]) with
   | true=>exact (zmq h h0 h1).mono fun _ _ ⟨he,hs,hk⟩=>⟨_,_,_,_,he,hs,hk,.inl ⟨rfl,.inl ⟨_,zJq (by simp [cmpL,h1]) h1,rfl,rfl,rfl,hl⟩⟩⟩
   | false =>
    cases h2:isT (hdT l) (bs [61,61]) with
    | true=>exact (zbr h h0 h1 h2).mono fun _ _ ⟨he,hs,hk⟩=>⟨_,_,_,_,he,hs,hk,.inl ⟨rfl,.inl ⟨_,zJq (by simp [cmpL,h2]) h2,rfl,rfl,rfl,hl⟩⟩⟩
    | false=>exact (zft h h0 h1 h2).mono fun _ _ ⟨he,hs,hk⟩=>⟨_,_,_,_,he,hs,hk,.inl ⟨rfl,.inr ⟨_,_,by unfold zsa;simp [cmpL,h0,h1,h2,bd],rfl,rfl,rfl⟩⟩⟩
end
section
open Go.RowKit
theorem zpl {l l1 l2 l3:List Tok} {f f1 f2 f3:Int} {q q1 q2 q3:Nat} {t1 t2:T} {s:ByteArray} (h1:zCa l f q (zXa l) t1 l1 f1 q1) (h2:zCa l1 f1 q1 (bd (zsa cmpL l1) fun t l=>.ok (t.text,l)) s l2 f2 q2) (h3:zCa l2 f2 q2 (zXa l2) t2 l3 f3 q3) :
  zCa l f q (zWd l) (T.mk 4 s 0 t1.place [t1,t2]) l3 f3 q3:=by
 have ef:zWd l=bd (zXa l) fun a l'=>bd (bd (zsa cmpL l') fun t l=>(.ok (t.text,l):R ByteArray)) fun c l'=>bd (zXa l') fun b l'=>.ok (.mk 4 c 0 (hdT l).place [a,b],l'):=by
  unfold zWd zib
  congr 1
  funext a l'
  show bd (zsa cmpL l') _=_
  cases zsa cmpL l' with
  | error e=>rfl
  | ok x=>obtain ⟨c,l''⟩:=x;rfl
 rcases h1 with ⟨e0,h1⟩|⟨e0,rfl,rfl,rfl⟩
 ·rcases h1 with ⟨l0,r1,rfl,rfl,rfl,n1⟩|⟨p,c,r1,rfl,rfl,hc⟩
  ·rcases h2 with ⟨_,h2⟩|⟨e1,_⟩
   ·rcases h2 with ⟨l0,r2,rfl,rfl,rfl,n2⟩|⟨p,c,r2,rfl,rfl,hc⟩
    ·rcases h3 with ⟨_,h3⟩|⟨e2,_⟩
     ·rcases h3 with ⟨l0,r3,rfl,rfl,rfl,n3⟩|⟨p,c,r3,rfl,rfl,hc⟩
      ·refine .inl ⟨e0,.inl ⟨_,?_,rfl,rfl,rfl,by omega⟩⟩
       rw [ef,zpa r1,zpa r2,zpa r3,(zlj l t1 _ r1).2]
      ·refine .inl ⟨e0,.inr ⟨_,_,?_,rfl,rfl,hc⟩⟩
       rw [ef,zpa r1,zpa r2,zya r3]
     ·cases e2
    ·rcases h3 with ⟨e2,_⟩|⟨_,rfl,rfl,rfl⟩
     ·rw [hc] at e2;cases e2
     ·refine .inl ⟨e0,.inr ⟨_,_,?_,rfl,rfl,hc⟩⟩
      rw [ef,zpa r1,zya r2]
   ·cases e1
  ·rcases h2 with ⟨e1,_⟩|⟨_,rfl,rfl,rfl⟩
   ·rw [hc] at e1;cases e1
   ·rcases h3 with ⟨e2,_⟩|⟨_,rfl,rfl,rfl⟩
    ·rw [hc] at e2;cases e2
    ·refine .inl ⟨e0,.inr ⟨_,_,?_,rfl,rfl,hc⟩⟩
     rw [ef,zya r1]
 ·rcases h2 with ⟨e1,_⟩|⟨_,rfl,rfl,rfl⟩
  ·rw [e0] at e1;cases e1
  ·rcases h3 with ⟨e2,_⟩|⟨_,rfl,rfl,rfl⟩
   ·rw [e0] at e2;cases e2
   ·exact .inr ⟨e0,rfl,rfl,rfl⟩
theorem zWo {E:Env} {w:World} {l:List Tok} {d:Nat} {f:Int} {q:Nat} (h:RSt E w l d f q) :
  Calls Tryz.prog 43 #[.pointer (some ⟨E.pb,0,none⟩)] w (zqg E w d l f q (zWd l)):=by
 have H:=zh h
 have hplt:=h.plt
 have htlt:=h.tlt
 have HB0:=zh (Blk.new w zba 36)
 clear h
 go_enter Tryz.func43,Tryz.ntmps43
 go_wp2_with fail
 refine (zGc (H.out.alloc _)).mono ?_
 rintro e w1 ⟨t1,v1,l1,f1,q1,rfl,hk1,hn1,hs1,hp1,hsee1⟩
 have HB1:=zh (HB0.out.kp hp1 (by omega))
 have HV1:=zh (show KAt 36 w1 t1.kids (fun b=>w.heap.size<b) v1 from hk1.mono (fun b hb _=>by simp at hb;omega))
 have HK1:=zh (((Kp.refl E.pb w).alloc _).trans hp1)
 have H1:=zh hs1
 have HS1:=zh hsee1
 have hz1:=HB1.out.lt
 clear hk1 hs1 hp1 hsee1
 unfold zna
 go_wp2_with ((with_reducible refine zla 36 (.tmp 3) ?_);refine zga rfl 36 (.tmp 3) (.tmp 7) rfl (zaa t1 v1) (old:=zba) rfl rfl Tryz.zha rfl (zca _ _ HV1.out.one) ?_)
 refine (zWm (H1.out.alloc _)).mono ?_
 rintro e w2 ⟨s,l2,f2,q2,rfl,hs2,hp2,hsee2⟩
 have HB2:=zh ((HB1.out.alloc _).kp hp2 (by omega))
 have HN2:=zh ((Blk.new w1 (zaa t1 v1) 36).kp hp2 (by omega))
 have HK2:=zh ((HK1.out.alloc _).trans hp2)
 have HV2:=zh ((HV1.out.alloc _).kp hp2 (fun b hb=>by omega))
 have HS2:=zh hsee2
 have H2:=zh hs2
 have hz2:=HN2.out.lt
 clear hs2 hp2 hsee2
 go_wp2_with fail
 refine (zGc H2.out).mono ?_
 rintro e w3 ⟨t2,v2,l3,f3,q3,rfl,hk3,hn3,hs3,hp3,hsee3⟩
 have HB3:=zh (HB2.out.kp hp3 (by omega))
 have HN3:=zh (HN2.out.kp hp3 (by omega))
 have HK3:=zh (HK2.out.trans hp3)
 have HV3:=zh (HV2.out.kp hp3 (fun b hb=>by omega))
 have HW3:=zh (show KAt 36 w3 t2.kids (fun b=>w.heap.size<b) v2 from hk3.mono (fun b hb _=>by omega))
 have HS3:=zh hsee3
 have H3:=zh hs3
 have hz3:=HN3.out.lt
 clear hk3 hs3 hp3 hsee3
 unfold zna
 have n3:w3.cell? ⟨w1.heap.size,3,none⟩=some (.int .i64 t1.place):=HN3.out.cell 3
 go_wp2_with (first
  | ((with_reducible refine zla 36 (.tmp 5) ?_);refine zga rfl 36 (.tmp 5) (.tmp 11) rfl (zaa t2 v2) (old:=zba) rfl rfl Tryz.zha rfl (zca _ _ HW3.out.one) ?_)
  | ((with_reducible refine zqa 36 (.tmp 3) ?_);refine zfa rfl 36 (.tmp 3) rfl w1.heap.size t1 v1 rfl (HN3.out.alloc _) Tryz.underlying36 rfl Tryz.zha ?_)
  | ((with_reducible refine zqa 36 (.tmp 5) ?_);refine zfa rfl 36 (.tmp 5) rfl w3.heap.size t2 v2 rfl (Blk.new w3 _ _) Tryz.underlying36 rfl Tryz.zha ?_)
  | ((with_reducible refine zla 36 (.tmp 2) ?_);refine zda rfl 36 (.tmp 2) (.tmp 18) rfl w.heap.size (zaa (T.mk 4 s 0 t1.place [t1,t2]) (.slice (some ⟨w3.heap.size+1,0,none⟩) 2 2)) rfl rfl ((HB3.out.alloc _).alloc _) Tryz.zha rfl (zca _ _ rfl) ?_))
 have hsz:(w3.alloc (.cells (zaa t2 v2).toArray 36)).heap.size=w3.heap.size+1:=by simp
 have hkk:=KAt.zHs (e:=36) (w:=w3.alloc (.cells (zaa t2 v2).toArray 36)) (t:=t1) (u:=t2) (S:=fun b=>w.heap.size<b) (v:=v1) (x:=v2) (TAt.zHa (HV3.out.alloc _)) (TAt.zHa (HW3.out.alloc _)) (by rw [hsz];omega)
 rw [hsz] at hkk
 exact zma (cs:=zaa (T.mk 4 s 0 t1.place [t1,t2]) (.slice (some ⟨w3.heap.size+1,0,none⟩) 2 2)) Tryz.results43 rfl ((HB3.out.alloc _).alloc _) Tryz.underlying36 rfl Tryz.zha rfl
  ⟨T.mk 4 s 0 t1.place [t1,t2],_,l3,f3,q3,rfl,(hkk.setRow _ _ (fun b hb=>by omega)).mono (fun b hb _=>by omega),by show 2≤40000;decide,((H3.out.alloc _).alloc _).same (by simp [World.setRow]) (setRow_other _ _ _ _ (by omega)) (setRow_other _ _ _ _ (by omega)),((HK3.out.alloc _).alloc _).setRow (Nat.le_refl _) _,zpl HS1.out HS2.out HS3.out⟩
end
section
open Go.RowKit
def RHas (E:Env) (w:World) (d:Nat) (l:List Tok) (f:Int) (q:Nat) (s:ByteArray) (e:Ending) (w':World):Prop :=
 ∃ b lf,e=.returned (.bool b)∧RSt E w' lf d f q∧Kp E.pb w w'∧((b=true∧(f == 0)=true∧isT (hdT l) s=true∧lf=l.tail)∨(b=false∧(f == 0 && isT (hdT l) s)=false∧lf=l))
theorem zab {E:Env} {w:World} {l:List Tok} {d:Nat} {f:Int} {q:Nat} (h:RSt E w l d f q) (s:ByteArray) (hs:zOa s=true) (hp:0<s.size) :
  Calls Tryz.prog 18 #[.pointer (some ⟨E.pb,0,none⟩),.string s] w (RHas E w d l f q s):=by
 cases hc:(f == 0 && isT (hdT l) s) with
 | false=>exact (zgc h s hs hc).mono fun _ _ ⟨he,hb⟩=>⟨false,l,he,h.below hb,Kp.of_below hb,.inr ⟨rfl,hc,rfl⟩⟩
 | true =>
  have h1:(f == 0)=true∧isT (hdT l) s=true:=by simpa using hc
  have e:f=0:=beq_iff_eq.1 h1.1
  subst e
  exact (zrd h s hs hp h1.2).mono fun _ _ ⟨he,h2,h3⟩=>⟨true,l.tail,he,h2,h3,.inl ⟨rfl,rfl,h1.2,rfl⟩⟩
def RMust (E:Env) (w:World) (d:Nat) (l:List Tok) (f:Int) (q:Nat) (s:ByteArray) (e:Ending) (w':World):Prop :=
 ∃ lf f' q',e=.returned (.tuple #[])∧RSt E w' lf d f' q'∧Kp E.pb w w'∧∃ t,zCa l f q (zsa [s] l) t lf f' q'
theorem zRa {E:Env} {w:World} {l:List Tok} {d:Nat} {f:Int} {q:Nat} (h:RSt E w l d f q) (s:ByteArray) (hs:zOa s=true) (hp:0<s.size) :
  Calls Tryz.prog 20 #[.pointer (some ⟨E.pb,0,none⟩),.string s] w (RMust E w d l f q s):=by
 cases hf:(f == 0) with
 | false=>exact (zXo h hf s hs).mono fun _ _ ⟨he,hb⟩=>⟨l,f,q,he,h.below hb,Kp.of_below hb,hdT l,.inr ⟨hf,rfl,rfl,rfl⟩⟩
 | true =>
  have e:f=0:=beq_iff_eq.1 hf
  subst e
  cases hi:isT (hdT l) s with
  | true =>
   have e1:zsa [s] l=.ok (hdT l,l.tail):=by unfold zsa;simp [hi]
   exact (zvi h s hs hp hi).mono fun _ _ ⟨he,h2,h3⟩=>⟨l.tail,0,q,he,h2,h3,hdT l,.inl ⟨rfl,.inl ⟨_,e1,rfl,rfl,rfl,by rw [List.length_tail];omega⟩⟩⟩
  | false =>
   have e1:zsa [s] l=.error ((hdT l).place,20):=by unfold zsa;simp [hi]
   exact (znn h s hs hi).mono fun _ _ ⟨he,h2,h3⟩=>⟨l,20,_,he,h2,h3,hdT l,.inl ⟨rfl,.inr ⟨_,_,e1,rfl,rfl,rfl⟩⟩⟩
theorem zjd {E:Env} {w:World} {l:List Tok} {d:Nat} {f:Int} {q:Nat} (h:RSt E w l d f q) :
  Calls Tryz.prog 37 #[.pointer (some ⟨E.pb,0,none⟩)] w (zqg E w d l f q (zoa l)):=by
 cases hf:(f == 0) with
 | false=>exact (zii h hf).mono fun _ _ ⟨he,hb⟩=>⟨zdb,_,l,f,q,he,KAt.nil _ _ _,Nat.zero_le _,h.below hb,Kp.of_below hb,.inr ⟨hf,rfl,rfl,rfl⟩⟩
 | true =>
  have e:f=0:=beq_iff_eq.1 hf
  subst e
  cases hk:((hdT l).kind == 1) with
  | true =>
   have e1:zoa l=.ok (.mk 5 (hdT l).text 0 (hdT l).place [],l.tail):=by unfold zoa zKb zkd;rw [hk];rfl
   exact (zhk h hk).mono fun _ _ ⟨he,h2,h3⟩=>⟨_,_,l.tail,0,q,he,KAt.nil _ _ _,Nat.zero_le _,h2,h3,.inl ⟨rfl,.inl ⟨_,e1,rfl,rfl,rfl,by rw [List.length_tail];omega⟩⟩⟩
  | false =>
   have e1:zoa l=.error ((hdT l).place,20):=by unfold zoa zKb zkd;rw [hk];rfl
   exact (znk h hk).mono fun _ _ ⟨he,h2,h3⟩=>⟨zdb,_,l,20,_,he,KAt.nil _ _ _,Nat.zero_le _,h2,h3,.inl ⟨rfl,.inr ⟨_,_,e1,rfl,rfl,rfl⟩⟩⟩
end
section
open Go.RowKit
theorem zCa.andThen {α β:Type} {l l1 l2:List Tok} {f f1 f2:Int} {q q1 q2:Nat} {r:R α} {k:α→List Tok→R β} {t:α} {u:β} (h1:zCa l f q r t l1 f1 q1) (h2:zCa l1 f1 q1 (k t l1) u l2 f2 q2):zCa l f q (bd r k) u l2 f2 q2:=by
 rcases h1 with ⟨e0,⟨l0,r1,rfl,rfl,rfl,n1⟩|⟨p,c,r1,rfl,rfl,hc⟩⟩|⟨e0,rfl,rfl,rfl⟩
 ·rcases h2 with ⟨e1,⟨l0,r2,rfl,rfl,rfl,n2⟩|⟨p,c,r2,rfl,rfl,hc⟩⟩|⟨e1,_⟩
  ·exact .inl ⟨e0,.inl ⟨_,(zpa r1 k).trans r2,rfl,rfl,rfl,by omega⟩⟩
  ·exact .inl ⟨e0,.inr ⟨_,_,(zpa r1 k).trans r2,rfl,rfl,hc⟩⟩
  ·cases e1
 ·rcases h2 with ⟨e1,_⟩|⟨_,rfl,rfl,rfl⟩
  ·rw [hc] at e1;cases e1
  ·exact .inl ⟨e0,.inr ⟨_,_,zya r1 k,rfl,rfl,hc⟩⟩
 ·rcases h2 with ⟨e1,_⟩|⟨_,rfl,rfl,rfl⟩
  ·rw [e0] at e1;cases e1
  ·exact .inr ⟨e0,rfl,rfl,rfl⟩
theorem zCa.done {α:Type} (l:List Tok) (f:Int) (q:Nat) (t:α):zCa l f q (.ok (t,l)) t l f q:=by
 cases hf:(f == 0) with
 | true=>exact .inl ⟨hf,.inl ⟨l,rfl,rfl,beq_iff_eq.1 hf,rfl,Nat.le_refl _⟩⟩
 | false=>exact .inr ⟨hf,rfl,rfl,rfl⟩
theorem zCa.map {α β:Type} {l l1:List Tok} {f f1:Int} {q q1:Nat} {r:R α} {t:α} (h:zCa l f q r t l1 f1 q1) (g:α→β):zCa l f q (bd r fun a l=>.ok (g a,l)) (g t) l1 f1 q1:=h.andThen (zCa.done l1 f1 q1 (g t))
theorem zCa.junk {α β:Type} {l l1:List Tok} {f f1:Int} {q q1:Nat} {r:R α} {r':R β} {t:α} {t':β} (hf:(f == 0)=false) (h:zCa l f q r t l1 f1 q1):zCa l f q r' t' l1 f1 q1:=by
 rcases h with ⟨e0,_⟩|⟨_,h1,h2,h3⟩
 ·rw [hf] at e0;cases e0
 ·exact .inr ⟨hf,h1,h2,h3⟩
theorem zCa.len {α:Type} {l l1:List Tok} {f f1:Int} {q q1:Nat} {r:R α} {t:α} (h:zCa l f q r t l1 f1 q1):f1=0→l1.length≤l.length:=by
 rcases h with ⟨e0,⟨l0,r1,rfl,rfl,rfl,n1⟩|⟨p,c,r1,rfl,rfl,hc⟩⟩|⟨e0,rfl,rfl,rfl⟩
 ·exact fun _=>n1
 ·intro h
  subst h
  cases hc
 ·exact fun _=>Nat.le_refl _
theorem zCa.stays {α:Type} {l l1:List Tok} {f f1:Int} {q q1:Nat} {r:R α} {t:α} (h:zCa l f q r t l1 f1 q1) (hf:(f1 == 0)=true):(f == 0)=true:=by
 rcases h with ⟨e0,_⟩|⟨e0,_,rfl,_⟩
 ·exact e0
 ·rw [e0] at hf;cases hf
theorem zCa.yes {α:Type} {l l1:List Tok} {f f1:Int} {q q1:Nat} {c:Bool} {A B:R α} {t:α} (hc:c=true) (hf:(f == 0)=true) (h:zCa l.tail f q A t l1 f1 q1):zCa l f q (bif c then A else B) t l1 f1 q1:=by
 rw [hc]
 rcases h with ⟨e0,⟨l0,r1,rfl,rfl,rfl,n1⟩|⟨p,c,r1,rfl,rfl,hc⟩⟩|⟨e0,_⟩
 ·exact .inl ⟨hf,.inl ⟨_,r1,rfl,rfl,rfl,by rw [List.length_tail] at n1;omega⟩⟩
 ·exact .inl ⟨hf,.inr ⟨_,_,r1,rfl,rfl,hc⟩⟩
 ·rw [hf] at e0;cases e0
theorem zCa.yes0 {α:Type} {l l1:List Tok} {f f1:Int} {q q1:Nat} {c:Bool} {A B:R α} {t:α} (hc:c=true) (h:zCa l f q A t l1 f1 q1):zCa l f q (bif c then A else B) t l1 f1 q1:=by
 rw [hc]
 exact h
theorem zCa.no {α:Type} {l l1:List Tok} {f f1:Int} {q q1:Nat} {c:Bool} {A B:R α} {t:α} (hc:(f == 0 && c)=false) (h:zCa l f q B t l1 f1 q1):zCa l f q (bif c then A else B) t l1 f1 q1:=by
 cases hf:(f == 0) with
 | true =>
  rw [hf] at hc
  have hc':c=false:=by simpa using hc
  rw [hc']
  exact h
 | false=>exact h.junk hf
end
end Go.Proofs.YtpjnpffcnmgdcaaGreatDoor
