/- The contract of lychgateref02.more: what may follow a NAME in a term. The contract of lychgateref02.term. -/
import Derived.Test.YthdbmgijpelecaaGreatDoorM20
import Derived.Test.YthdbmgijpelecaaGreatDoorM08
namespace Go.Proofs.YthdbmgijpelecaaGreatDoor
set_option maxRecDepth 100000
set_option maxHeartbeats 4000000
section
open Go.RowKit
def zwf (t:T) (l:List Tok):R T:=zyn (sumP l) (.ok (t,l)) fun _ f=>bd (zKa l.tail) fun v l2=>.ok (t.zDb (f * v),l2)
theorem zKd (t:T) (v:Int):(t.zDb v).kids=t.kids:=by cases t;rfl
theorem zcm:zUa (bs [43])=true:=by kernel_rfl
theorem zYg:zUa (bs [45])=true:=by kernel_rfl
theorem zki {E:Env} {w:World} {l:List Tok} {d:Nat} {f:Int} {q:Nat} (h:RSt E w l d f q) (hf:(f == 0)=false) (t:T) (ht:t.kids=[]) :
  Calls Tryz.prog 149 #[.pointer (some ⟨E.pb,0,none⟩),zma t (.slice none 0 0)] w (zDq w):=by
 have HT:=zh ht
 have HF:=zh hf
 clear ht hf
 have HW0:=zh (((Below.refl w.heap.size w).alloc (Nat.le_refl _) (.cells (zaa t (.slice none 0 0)).toArray 34)).alloc (by simp) (.cells zba.toArray 34))
 have H0:=zh ((h.alloc (.cells (zaa t (.slice none 0 0)).toArray 34)).alloc (.cells zba.toArray 34))
 have HX0:=zh ((Blk.new w (zaa t (.slice none 0 0)) 34).alloc (.cells zba.toArray 34))
 have HB0:=zh (Blk.zpc w (.cells (zaa t (.slice none 0 0)).toArray 34) zba 34)
 have HK0:=zh (((Kp.refl E.pb w).alloc (.cells (zaa t (.slice none 0 0)).toArray 34)).alloc (.cells zba.toArray 34))
 have hplt:=h.plt
 have htlt:=h.tlt
 clear h
 unfold zma
 go_enter Tryz.func149,Tryz.ntmps149
 go_wp2_with fail
 refine (zCc H0.out (bs [43]) zcm (zgi HF.out _)).mono ?_
 rintro e w1 ⟨rfl,hb⟩
 have H1:=zh (H0.out.below hb)
 have HX1:=zh (HX0.out.below hb)
 have HB1:=zh (HB0.out.below hb)
 have HK1:=zh (HK0.out.trans (Kp.of_below hb))
 have hz1:=HB1.out.lt
 have HW1:=zh (HW0.out.trans (hb.mono HW0.out.size))
 clear hb
 go_wp2_with fail
 refine (zCc H1.out (bs [45]) zYg (zgi HF.out _)).mono ?_
 rintro e w2 ⟨rfl,hb⟩
 have H2:=zh (H1.out.below hb)
 have HX2:=zh (HX1.out.below hb)
 have HB2:=zh (HB1.out.below hb)
 have HK2:=zh (HK1.out.trans (Kp.of_below hb))
 have hz2:=HB2.out.lt
 have HW2:=zh (HW1.out.trans (hb.mono HW1.out.size))
 clear hb
 go_wp2_with (first
  | ((with_reducible refine zra 34 (.tmp 3) ?_);refine zfa rfl 34 (.tmp 3) rfl w.heap.size t (.slice none 0 0) rfl HX2.out Tryz.underlying34 rfl Tryz.zia ?_)
  | ((with_reducible refine zla 34 (.tmp 4) ?_);refine zca rfl 34 (.tmp 4) (.tmp 23) rfl (w.heap.size+1) (zaa t (.slice none 0 0)) rfl rfl HB2.out Tryz.zia rfl (zda _ _ rfl) ?_))
 exact zka (cs:=zaa t (.slice none 0 0)) Tryz.results149 rfl HB2.out Tryz.underlying34 rfl Tryz.zia rfl (⟨t,(.slice none 0 0),rfl,by rw [HT.out];exact KAt.nil _ _ _,by rw [HT.out];simp,zEe HW2.out (by omega) _⟩)
theorem zfl {E:Env} {w:World} {l:List Tok} {d:Nat} {q:Nat} (h:RSt E w l d 0 q) (t:T) (ht:t.kids=[]) :
  Calls Tryz.prog 149 #[.pointer (some ⟨E.pb,0,none⟩),zma t (.slice none 0 0)] w (zlj E w d q l (zwf t l)):=by
 have HT:=zh ht
 clear ht
 have hnum0:(hdT l.tail).num≤1099511627776:=by
  rcases Nat.eq_zero_or_pos l.tail.length with h0|h0
  ·rw [List.eq_nil_of_length_eq_zero h0];simp [hdT,zfb]
  ·refine (h.ok _ ?_).num
   have e1:hdT l.tail∈l.tail:=by cases hl:l.tail with
    | nil=>rw [hl] at h0;simp at h0
    | cons a b=>simp [hdT]
   exact List.mem_of_mem_drop (i:=E.ts.length-l.length) (by rw [← h.suf];exact List.mem_of_mem_tail e1)
 cases h43:isT (hdT l) (bs [43]) with
 | false =>
  cases h45:isT (hdT l) (bs [45]) with
  | false =>
   have HP:=zh (show zwf t l=.ok (t,l) by unfold zwf sumP;rw [h43,h45];rfl)
   have H43:=zh h43
   have H45:=zh h45
   clear h43 h45
   have H0:=zh ((h.alloc (.cells (zaa t (.slice none 0 0)).toArray 34)).alloc (.cells zba.toArray 34))
   have HX0:=zh ((Blk.new w (zaa t (.slice none 0 0)) 34).alloc (.cells zba.toArray 34))
   have HB0:=zh (Blk.zpc w (.cells (zaa t (.slice none 0 0)).toArray 34) zba 34)
   have HK0:=zh (((Kp.refl E.pb w).alloc (.cells (zaa t (.slice none 0 0)).toArray 34)).alloc (.cells zba.toArray 34))
   have hplt:=h.plt
   have htlt:=h.tlt
   clear h
   unfold zma
   go_enter Tryz.func149,Tryz.ntmps149
   go_wp2_with fail
   refine (zCc H0.out (bs [43]) zcm (zme H43.out)).mono ?_
   rintro e w1 ⟨rfl,hb⟩
   have H1:=zh (H0.out.below hb)
   have HX1:=zh (HX0.out.below hb)
   have HB1:=zh (HB0.out.below hb)
   have HK1:=zh (HK0.out.trans (Kp.of_below hb))
   have hz1:=HB1.out.lt
   clear hb
   go_wp2_with fail
   refine (zCc H1.out (bs [45]) zYg (zme H45.out)).mono ?_
   rintro e w2 ⟨rfl,hb⟩
   have H2:=zh (H1.out.below hb)
   have HX2:=zh (HX1.out.below hb)
   have HB2:=zh (HB1.out.below hb)
   have HK2:=zh (HK1.out.trans (Kp.of_below hb))
   have hz2:=HB2.out.lt
   clear hb
   go_wp2_with (first
    | ((with_reducible refine zra 34 (.tmp 3) ?_);refine zfa rfl 34 (.tmp 3) rfl w.heap.size t (.slice none 0 0) rfl HX2.out Tryz.underlying34 rfl Tryz.zia ?_)
    | ((with_reducible refine zla 34 (.tmp 4) ?_);refine zca rfl 34 (.tmp 4) (.tmp 23) rfl (w.heap.size+1) (zaa t (.slice none 0 0)) rfl rfl HB2.out Tryz.zia rfl (zda _ _ rfl) ?_))
   exact zka (cs:=zaa t (.slice none 0 0)) Tryz.results149 rfl HB2.out Tryz.underlying34 rfl Tryz.zia rfl (by rw [HP.out];exact ⟨_,rfl,by rw [HT.out];exact KAt.nil _ _ _,H2.out.same (by simp [World.setRow]) (setRow_other _ _ _ _ (by omega)) (setRow_other _ _ _ _ (by omega)),HK2.out.setRow (by omega) _,Nat.le_refl _⟩)
  | true =>
   cases hk3:((hdT l.tail).kind == 3) with
   | true =>
    have HP:=zh (show zwf t l=.ok (t.zDb (-((hdT l.tail).num:Int)),l.tail.tail) by unfold zwf sumP;rw [h43,h45];show bd (zKa l.tail) _=_;rw [zsa (show zKa l.tail=.ok (((hdT l.tail).num:Int),l.tail.tail) by unfold zKa zSd;rw [hk3];rfl)];simp)
    have HK3:=zh hk3
    have H43:=zh h43
    have H45:=zh h45
    clear hk3 h43 h45
    have H0:=zh ((h.alloc (.cells (zaa t (.slice none 0 0)).toArray 34)).alloc (.cells zba.toArray 34))
    have HX0:=zh ((Blk.new w (zaa t (.slice none 0 0)) 34).alloc (.cells zba.toArray 34))
    have HB0:=zh (Blk.zpc w (.cells (zaa t (.slice none 0 0)).toArray 34) zba 34)
    have HK0:=zh (((Kp.refl E.pb w).alloc (.cells (zaa t (.slice none 0 0)).toArray 34)).alloc (.cells zba.toArray 34))
    have hplt:=h.plt
    have htlt:=h.tlt
    have hnum:=hnum0
    clear h
    unfold zma
    go_enter Tryz.func149,Tryz.ntmps149
    go_wp2_with fail
    refine (zCc H0.out (bs [43]) zcm (zme H43.out)).mono ?_
    rintro e w1 ⟨rfl,hb⟩
    have H1:=zh (H0.out.below hb)
    have HX1:=zh (HX0.out.below hb)
    have HB1:=zh (HB0.out.below hb)
    have HK1:=zh (HK0.out.trans (Kp.of_below hb))
    have hz1:=HB1.out.lt
    clear hb
    go_wp2_with fail
    refine (zYd H1.out (bs [45]) zYg (by decide) H45.out).mono ?_
    rintro e w2 ⟨rfl,hs,hk⟩
    have H2:=zh hs
    have HX2:=zh (HX1.out.kp hk (by omega))
    have HB2:=zh (HB1.out.kp hk (by omega))
    have HK2:=zh (HK1.out.trans hk)
    have hz2:=HB2.out.lt
    clear hs hk
    go_wp2_with fail
    refine (zrf H2.out HK3.out).mono ?_
    rintro e w9 ⟨rfl,hs,hk⟩
    have H9:=zh hs
    have HX9:=zh (HX2.out.kp hk (by omega))
    have HB9:=zh (HB2.out.kp hk (by omega))
    have HK9:=zh (HK2.out.trans hk)
    have hz9:=HB9.out.lt
    clear hs hk
    have hcell:w9.cell? ⟨w.heap.size,2,none⟩=some (.int .i64 t.num):=HX9.out.cell 2
    have hfroz:=HX9.out.frozen 2
    have hng:=show IntKind.i64.wrap (-((hdT l.tail).num:Int))=-((hdT l.tail).num:Int) from IntWalk.i64_in _ (by have:=hnum;omega)
    go_wp2_with (first
     | ((with_reducible refine zra 34 (.tmp 3) ?_);refine zfa rfl 34 (.tmp 3) rfl w.heap.size (t.zDb (-((hdT l.tail).num:Int))) (.slice none 0 0) rfl (show Blk _ w.heap.size (zaa (t.zDb (-((hdT l.tail).num:Int))) (.slice none 0 0)) 34 by rw [← zsc];exact HX9.out.zxa 2 _) Tryz.underlying34 rfl Tryz.zia ?_)
     | ((with_reducible refine zla 34 (.tmp 4) ?_);refine zca rfl 34 (.tmp 4) (.tmp 23) rfl (w.heap.size+1) (zaa (t.zDb (-((hdT l.tail).num:Int))) (.slice none 0 0)) rfl rfl (HB9.out.setOther ⟨w.heap.size,2,none⟩ _ (by show w.heap.size+1≠w.heap.size;omega)) Tryz.zia rfl (zda _ _ rfl) ?_))
    exact zka (cs:=zaa (t.zDb (-((hdT l.tail).num:Int))) (.slice none 0 0)) Tryz.results149 rfl (HB9.out.setOther ⟨w.heap.size,2,none⟩ _ (by show w.heap.size+1≠w.heap.size;omega)) Tryz.underlying34 rfl Tryz.zia rfl (by rw [HP.out];exact ⟨_,rfl,by rw [zKd,HT.out];exact KAt.nil _ _ _,H9.out.same (by simp [World.setRow,World.setCell]) ((setRow_other _ _ _ _ (by omega)).trans (Below.heap_setCell _ _ _ _ (by show _≠w.heap.size;omega))) ((setRow_other _ _ _ _ (by omega)).trans (Below.heap_setCell _ _ _ _ (by show _≠w.heap.size;omega))),(HK9.out.zwd (p:=⟨w.heap.size,2,none⟩) (Nat.le_refl _) _).setRow (by omega) _,by simp only [List.length_tail];omega⟩)
   | false =>
    have HP:=zh (show zwf t l=.error ((hdT l.tail).place,20) by unfold zwf sumP;rw [h43,h45];show bd (zKa l.tail) _=_;exact zCa (show zKa l.tail=.error ((hdT l.tail).place,20) by unfold zKa zSd;rw [hk3];rfl) _)
    have HK3:=zh hk3
    have H43:=zh h43
    have H45:=zh h45
    clear hk3 h43 h45
    have H0:=zh ((h.alloc (.cells (zaa t (.slice none 0 0)).toArray 34)).alloc (.cells zba.toArray 34))
    have HX0:=zh ((Blk.new w (zaa t (.slice none 0 0)) 34).alloc (.cells zba.toArray 34))
    have HB0:=zh (Blk.zpc w (.cells (zaa t (.slice none 0 0)).toArray 34) zba 34)
    have HK0:=zh (((Kp.refl E.pb w).alloc (.cells (zaa t (.slice none 0 0)).toArray 34)).alloc (.cells zba.toArray 34))
    have hplt:=h.plt
    have htlt:=h.tlt
    have hnum:=hnum0
    clear h
    unfold zma
    go_enter Tryz.func149,Tryz.ntmps149
    go_wp2_with fail
    refine (zCc H0.out (bs [43]) zcm (zme H43.out)).mono ?_
    rintro e w1 ⟨rfl,hb⟩
    have H1:=zh (H0.out.below hb)
    have HX1:=zh (HX0.out.below hb)
    have HB1:=zh (HB0.out.below hb)
    have HK1:=zh (HK0.out.trans (Kp.of_below hb))
    have hz1:=HB1.out.lt
    clear hb
    go_wp2_with fail
    refine (zYd H1.out (bs [45]) zYg (by decide) H45.out).mono ?_
    rintro e w2 ⟨rfl,hs,hk⟩
    have H2:=zh hs
    have HX2:=zh (HX1.out.kp hk (by omega))
    have HB2:=zh (HB1.out.kp hk (by omega))
    have HK2:=zh (HK1.out.trans hk)
    have hz2:=HB2.out.lt
    clear hs hk
    go_wp2_with fail
    refine (zlg H2.out HK3.out).mono ?_
    rintro e w9 ⟨rfl,hs,hk⟩
    have H9:=zh hs
    have HX9:=zh (HX2.out.kp hk (by omega))
    have HB9:=zh (HB2.out.kp hk (by omega))
    have HK9:=zh (HK2.out.trans hk)
    have hz9:=HB9.out.lt
    clear hs hk
    have hcell:w9.cell? ⟨w.heap.size,2,none⟩=some (.int .i64 t.num):=HX9.out.cell 2
    have hfroz:=HX9.out.frozen 2
    have hng:=trivial
    go_wp2_with (first
     | ((with_reducible refine zra 34 (.tmp 3) ?_);refine zfa rfl 34 (.tmp 3) rfl w.heap.size (t.zDb (0)) (.slice none 0 0) rfl (show Blk _ w.heap.size (zaa (t.zDb (0)) (.slice none 0 0)) 34 by rw [← zsc];exact HX9.out.zxa 2 _) Tryz.underlying34 rfl Tryz.zia ?_)
     | ((with_reducible refine zla 34 (.tmp 4) ?_);refine zca rfl 34 (.tmp 4) (.tmp 23) rfl (w.heap.size+1) (zaa (t.zDb (0)) (.slice none 0 0)) rfl rfl (HB9.out.setOther ⟨w.heap.size,2,none⟩ _ (by show w.heap.size+1≠w.heap.size;omega)) Tryz.zia rfl (zda _ _ rfl) ?_))
    exact zka (cs:=zaa (t.zDb (0)) (.slice none 0 0)) Tryz.results149 rfl (HB9.out.setOther ⟨w.heap.size,2,none⟩ _ (by show w.heap.size+1≠w.heap.size;omega)) Tryz.underlying34 rfl Tryz.zia rfl (by rw [HP.out];exact ⟨_,_,_,rfl,by rw [zKd,HT.out];exact KAt.nil _ _ _,by rw [zKd,HT.out];simp,H9.out.same (by simp [World.setRow,World.setCell]) ((setRow_other _ _ _ _ (by omega)).trans (Below.heap_setCell _ _ _ _ (by show _≠w.heap.size;omega))) ((setRow_other _ _ _ _ (by omega)).trans (Below.heap_setCell _ _ _ _ (by show _≠w.heap.size;omega))),(HK9.out.zwd (p:=⟨w.heap.size,2,none⟩) (Nat.le_refl _) _).setRow (by omega) _,by decide⟩)
 | true =>
  cases hk3:((hdT l.tail).kind == 3) with
  | true =>
   have HP:=zh (show zwf t l=.ok (t.zDb (((hdT l.tail).num:Int)),l.tail.tail) by unfold zwf sumP;rw [h43];show bd (zKa l.tail) _=_;rw [zsa (show zKa l.tail=.ok (((hdT l.tail).num:Int),l.tail.tail) by unfold zKa zSd;rw [hk3];rfl)];simp)
   have HK3:=zh hk3
   have H43:=zh h43
   clear hk3 h43
   have H0:=zh ((h.alloc (.cells (zaa t (.slice none 0 0)).toArray 34)).alloc (.cells zba.toArray 34))
   have HX0:=zh ((Blk.new w (zaa t (.slice none 0 0)) 34).alloc (.cells zba.toArray 34))
   have HB0:=zh (Blk.zpc w (.cells (zaa t (.slice none 0 0)).toArray 34) zba 34)
   have HK0:=zh (((Kp.refl E.pb w).alloc (.cells (zaa t (.slice none 0 0)).toArray 34)).alloc (.cells zba.toArray 34))
   have hplt:=h.plt
   have htlt:=h.tlt
   have hnum:=hnum0
   clear h
   unfold zma
   go_enter Tryz.func149,Tryz.ntmps149
   go_wp2_with fail
   refine (zYd H0.out (bs [43]) zcm (by decide) H43.out).mono ?_
   rintro e w2 ⟨rfl,hs,hk⟩
   have H2:=zh hs
   have HX2:=zh (HX0.out.kp hk (by omega))
   have HB2:=zh (HB0.out.kp hk (by omega))
   have HK2:=zh (HK0.out.trans hk)
   have hz2:=HB2.out.lt
   clear hs hk
   go_wp2_with fail
   refine (zrf H2.out HK3.out).mono ?_
   rintro e w9 ⟨rfl,hs,hk⟩
   have H9:=zh hs
   have HX9:=zh (HX2.out.kp hk (by omega))
   have HB9:=zh (HB2.out.kp hk (by omega))
   have HK9:=zh (HK2.out.trans hk)
   have hz9:=HB9.out.lt
   clear hs hk
   have hcell:w9.cell? ⟨w.heap.size,2,none⟩=some (.int .i64 t.num):=HX9.out.cell 2
   have hfroz:=HX9.out.frozen 2
   have hng:=trivial
   go_wp2_with (first
    | ((with_reducible refine zra 34 (.tmp 3) ?_);refine zfa rfl 34 (.tmp 3) rfl w.heap.size (t.zDb (((hdT l.tail).num:Int))) (.slice none 0 0) rfl (show Blk _ w.heap.size (zaa (t.zDb (((hdT l.tail).num:Int))) (.slice none 0 0)) 34 by rw [← zsc];exact HX9.out.zxa 2 _) Tryz.underlying34 rfl Tryz.zia ?_)
    | ((with_reducible refine zla 34 (.tmp 4) ?_);refine zca rfl 34 (.tmp 4) (.tmp 14) rfl (w.heap.size+1) (zaa (t.zDb (((hdT l.tail).num:Int))) (.slice none 0 0)) rfl rfl (HB9.out.setOther ⟨w.heap.size,2,none⟩ _ (by show w.heap.size+1≠w.heap.size;omega)) Tryz.zia rfl (zda _ _ rfl) ?_))
   exact zka (cs:=zaa (t.zDb (((hdT l.tail).num:Int))) (.slice none 0 0)) Tryz.results149 rfl (HB9.out.setOther ⟨w.heap.size,2,none⟩ _ (by show w.heap.size+1≠w.heap.size;omega)) Tryz.underlying34 rfl Tryz.zia rfl (by rw [HP.out];exact ⟨_,rfl,by rw [zKd,HT.out];exact KAt.nil _ _ _,H9.out.same (by simp [World.setRow,World.setCell]) ((setRow_other _ _ _ _ (by omega)).trans (Below.heap_setCell _ _ _ _ (by show _≠w.heap.size;omega))) ((setRow_other _ _ _ _ (by omega)).trans (Below.heap_setCell _ _ _ _ (by show _≠w.heap.size;omega))),(HK9.out.zwd (p:=⟨w.heap.size,2,none⟩) (Nat.le_refl _) _).setRow (by omega) _,by simp only [List.length_tail];omega⟩)
  | false =>
   have HP:=zh (show zwf t l=.error ((hdT l.tail).place,20) by unfold zwf sumP;rw [h43];show bd (zKa l.tail) _=_;exact zCa (show zKa l.tail=.error ((hdT l.tail).place,20) by unfold zKa zSd;rw [hk3];rfl) _)
   have HK3:=zh hk3
   have H43:=zh h43
   clear hk3 h43
   have H0:=zh ((h.alloc (.cells (zaa t (.slice none 0 0)).toArray 34)).alloc (.cells zba.toArray 34))
   have HX0:=zh ((Blk.new w (zaa t (.slice none 0 0)) 34).alloc (.cells zba.toArray 34))
   have HB0:=zh (Blk.zpc w (.cells (zaa t (.slice none 0 0)).toArray 34) zba 34)
   have HK0:=zh (((Kp.refl E.pb w).alloc (.cells (zaa t (.slice none 0 0)).toArray 34)).alloc (.cells zba.toArray 34))
   have hplt:=h.plt
   have htlt:=h.tlt
   have hnum:=hnum0
   clear h
   unfold zma
   go_enter Tryz.func149,Tryz.ntmps149
   go_wp2_with fail
   refine (zYd H0.out (bs [43]) zcm (by decide) H43.out).mono ?_
   rintro e w2 ⟨rfl,hs,hk⟩
   have H2:=zh hs
   have HX2:=zh (HX0.out.kp hk (by omega))
   have HB2:=zh (HB0.out.kp hk (by omega))
   have HK2:=zh (HK0.out.trans hk)
   have hz2:=HB2.out.lt
   clear hs hk
   go_wp2_with fail
   refine (zlg H2.out HK3.out).mono ?_
   rintro e w9 ⟨rfl,hs,hk⟩
   have H9:=zh hs
   have HX9:=zh (HX2.out.kp hk (by omega))
   have HB9:=zh (HB2.out.kp hk (by omega))
   have HK9:=zh (HK2.out.trans hk)
   have hz9:=HB9.out.lt
   clear hs hk
   have hcell:w9.cell? ⟨w.heap.size,2,none⟩=some (.int .i64 t.num):=HX9.out.cell 2
   have hfroz:=HX9.out.frozen 2
   have hng:=trivial
   go_wp2_with (first
    | ((with_reducible refine zra 34 (.tmp 3) ?_);refine zfa rfl 34 (.tmp 3) rfl w.heap.size (t.zDb (0)) (.slice none 0 0) rfl (show Blk _ w.heap.size (zaa (t.zDb (0)) (.slice none 0 0)) 34 by rw [← zsc];exact HX9.out.zxa 2 _) Tryz.underlying34 rfl Tryz.zia ?_)
    | ((with_reducible refine zla 34 (.tmp 4) ?_);refine zca rfl 34 (.tmp 4) (.tmp 14) rfl (w.heap.size+1) (zaa (t.zDb (0)) (.slice none 0 0)) rfl rfl (HB9.out.setOther ⟨w.heap.size,2,none⟩ _ (by show w.heap.size+1≠w.heap.size;omega)) Tryz.zia rfl (zda _ _ rfl) ?_))
   exact zka (cs:=zaa (t.zDb (0)) (.slice none 0 0)) Tryz.results149 rfl (HB9.out.setOther ⟨w.heap.size,2,none⟩ _ (by show w.heap.size+1≠w.heap.size;omega)) Tryz.underlying34 rfl Tryz.zia rfl (by rw [HP.out];exact ⟨_,_,_,rfl,by rw [zKd,HT.out];exact KAt.nil _ _ _,by rw [zKd,HT.out];simp,H9.out.same (by simp [World.setRow,World.setCell]) ((setRow_other _ _ _ _ (by omega)).trans (Below.heap_setCell _ _ _ _ (by show _≠w.heap.size;omega))) ((setRow_other _ _ _ _ (by omega)).trans (Below.heap_setCell _ _ _ _ (by show _≠w.heap.size;omega))),(HK9.out.zwd (p:=⟨w.heap.size,2,none⟩) (Nat.le_refl _) _).setRow (by omega) _,by decide⟩)
end
section
open Go.RowKit
theorem RSt.draws {E:Env} {w:World} {l:List Tok} {d:Nat} {f:Int} {q:Nat} (h:RSt E w l d f q) (n:Nat):RSt E (w.drewN n) l d f q:=h.same (Nat.le_refl _) rfl rfl
theorem Blk.draws {w:World} {g:Nat} {cs:List Value} {t:TypeId} (h:Blk w g cs t) (n:Nat):Blk (w.drewN n) g cs t:=h
theorem Kp.draws {pb:Nat} {a w:World} (h:Kp pb a w) (n:Nat):Kp pb a (w.drewN n):=⟨h.os,h.tape,h.output,h.size,h.block⟩
theorem zFo {E:Env} {w:World} {l:List Tok} {d:Nat} {q:Nat} (h:RSt E w l d 0 q) (hk3:((hdT l).kind == 3)=true) :
  Calls Tryz.prog 121 #[.pointer (some ⟨E.pb,0,none⟩)] w (zlj E w d q l (zib l)):=by
 have hk:(hdT l).kind=3:=beq_iff_eq.1 hk3
 have hnm:isT (hdT l) (bs [45])=false:=by
  cases hi:isT (hdT l) (bs [45]) with
  | false=>rfl
  | true=>rcases zGg h.zhi zYg hi with h'|h'<;>omega
 have HP:=zh (show zib l=.ok (.mk 5 e0 ((hdT l).num:Int) (hdT l).place [],l.tail) by
  unfold zib zOa zKa zSd
  rw [hnm,hk]
  rfl)
 have H:=zh h
 have HK3:=zh hk3
 have c0:w.cell? ⟨E.pb,0,none⟩=some (.slice (some ⟨E.tb,0,none⟩) E.ts.length E.cap):=h.blk.cell 0
 have c1:w.cell? ⟨E.pb,1,none⟩=some (.int .i64 ((E.ts.length-l.length:Nat):Int)):=h.blk.cell 1
 obtain ⟨t0,t1,t2,t3⟩:=h.tok
 have hkl:E.ts.length-l.length<E.ts.length:=by have:=h.head.1;have:=h.le;omega
 have hlen:=h.len
 have hcap:=h.capb
 have hplt:=h.plt
 have htlt:=h.tlt
 have hnum:=h.zvg.num
 have ix1:(0:Int)≤((E.ts.length-l.length:Nat):Int):=by omega
 have ix2:(((E.ts.length-l.length:Nat):Int))<(E.ts.length:Int):=by omega
 have HB0:=zh (Blk.new w zba 34)
 rw [hk] at t0
 clear hnm hk3 hk
 generalize E.ts.length-l.length=k at *
 clear h
 go_enter Tryz.func121,Tryz.ntmps121
 go_wp2
 go_quiet (fail)
 go_wp2
 go_quiet (fail)
 go_wp2_with fail
 refine (zrf ((H.out.alloc _).draws _) HK3.out).mono ?_
 rintro e w2 ⟨rfl,hs,hk⟩
 have H2:=zh hs
 have HB2:=zh ((HB0.out.draws _).kp hk (by omega))
 have HK2:=zh ((((Kp.refl E.pb w).alloc _).draws _).trans hk)
 clear hs hk
 go_wp2_with ((with_reducible refine zla 34 (.tmp 2) ?_);refine zca rfl 34 (.tmp 2) (.tmp 35) rfl w.heap.size (zaa (.mk 5 e0 ((hdT l).num:Int) (hdT l).place []) (.slice none 0 0)) rfl rfl HB2.out Tryz.zia rfl (zda _ _ rfl) ?_)
 exact zka (cs:=zaa (.mk 5 e0 ((hdT l).num:Int) (hdT l).place []) (.slice none 0 0)) Tryz.results121 rfl HB2.out Tryz.underlying34 rfl Tryz.zia rfl (by rw [HP.out];exact ⟨_,rfl,KAt.nil _ _ _,H2.out.same (by simp [World.setRow]) (setRow_other _ _ _ _ (by omega)) (setRow_other _ _ _ _ (by omega)),HK2.out.setRow (Nat.le_refl _) _,by rw [List.length_tail];omega⟩)
theorem zBp {E:Env} {w:World} {l:List Tok} {d:Nat} {q:Nat} (h:RSt E w l d 0 q) (h45:isT (hdT l) (bs [45])=true) (hk3:((hdT l.tail).kind == 3)=true) :
  Calls Tryz.prog 121 #[.pointer (some ⟨E.pb,0,none⟩)] w (zlj E w d q l (zib l)):=by
 have hkd:=zGg h.zhi zYg h45
 have hk1:((hdT l).kind == 1)=false:=beq_eq_false_iff_ne.2 (by omega)
 have hne3:(((hdT l).kind:Int) == 3)=false:=by simp;omega
 have HP:=zh (show zib l=.ok (.mk 5 e0 (-((hdT l.tail).num:Int)) (hdT l).place [],l.tail.tail) by
  unfold zib zOa
  rw [hk1,h45]
  show bd (zKa l.tail) _=_
  rw [zsa (show zKa l.tail=.ok (((hdT l.tail).num:Int),l.tail.tail) by unfold zKa zSd;rw [hk3];rfl)])
 have hnum0:(hdT l.tail).num≤1099511627776:=by
  rcases Nat.eq_zero_or_pos l.tail.length with h0|h0
  ·rw [List.eq_nil_of_length_eq_zero h0];simp [hdT,zfb]
  ·refine (h.ok _ ?_).num
   have e1:hdT l.tail∈l.tail:=by cases hl:l.tail with
    | nil=>rw [hl] at h0;simp at h0
    | cons a b=>simp [hdT]
   exact List.mem_of_mem_drop (i:=E.ts.length-l.length) (by rw [← h.suf];exact List.mem_of_mem_tail e1)
 have H:=zh h
 have HK3:=zh hk3
 have H45:=zh h45
 have c0:w.cell? ⟨E.pb,0,none⟩=some (.slice (some ⟨E.tb,0,none⟩) E.ts.length E.cap):=h.blk.cell 0
 have c1:w.cell? ⟨E.pb,1,none⟩=some (.int .i64 ((E.ts.length-l.length:Nat):Int)):=h.blk.cell 1
 obtain ⟨t0,t1,t2,t3⟩:=h.tok
 have hkl:E.ts.length-l.length<E.ts.length:=by have:=h.head.1;have:=h.le;omega
 have hlen:=h.len
 have hcap:=h.capb
 have hplt:=h.plt
 have htlt:=h.tlt
 have hnum:=h.zvg.num
 have ix1:(0:Int)≤((E.ts.length-l.length:Nat):Int):=by omega
 have ix2:(((E.ts.length-l.length:Nat):Int))<(E.ts.length:Int):=by omega
 have HB0:=zh (Blk.new w zba 34)
 clear hk3 h45 hk1 hkd
 generalize E.ts.length-l.length=k at *
 clear h
 go_enter Tryz.func121,Tryz.ntmps121
 go_wp2
 go_quiet (fail)
 go_wp2
 go_quiet (fail)
 go_wp2_with fail
 refine (zYd ((H.out.alloc _).draws _) (bs [45]) zYg (by decide) H45.out).mono ?_
 rintro e w1 ⟨rfl,hs,hk⟩
 have H1:=zh hs
 have HB1:=zh ((HB0.out.draws _).kp hk (by omega))
 have HK1:=zh ((((Kp.refl E.pb w).alloc _).draws _).trans hk)
 have hz1:=HB1.out.lt
 clear hs hk
 go_wp2_with fail
 refine (zrf H1.out HK3.out).mono ?_
 rintro e w2 ⟨rfl,hs,hk⟩
 have H2:=zh hs
 have HB2:=zh (HB1.out.kp hk (by omega))
 have HK2:=zh (HK1.out.trans hk)
 clear hs hk
 have hng:IntKind.i64.wrap (-((hdT l.tail).num:Int))=-((hdT l.tail).num:Int):=IntWalk.i64_in _ (by omega)
 go_wp2_with ((with_reducible refine zla 34 (.tmp 2) ?_);refine zca rfl 34 (.tmp 2) (.tmp 44) rfl w.heap.size (zaa (.mk 5 e0 (-((hdT l.tail).num:Int)) (hdT l).place []) (.slice none 0 0)) rfl rfl HB2.out Tryz.zia rfl (zda _ _ rfl) ?_)
 exact zka (cs:=zaa (.mk 5 e0 (-((hdT l.tail).num:Int)) (hdT l).place []) (.slice none 0 0)) Tryz.results121 rfl HB2.out Tryz.underlying34 rfl Tryz.zia rfl (by rw [HP.out];exact ⟨_,rfl,KAt.nil _ _ _,H2.out.same (by simp [World.setRow]) (setRow_other _ _ _ _ (by omega)) (setRow_other _ _ _ _ (by omega)),HK2.out.setRow (Nat.le_refl _) _,by simp only [List.length_tail];omega⟩)
theorem zun {E:Env} {w:World} {l:List Tok} {d:Nat} {q:Nat} (h:RSt E w l d 0 q) (h45:isT (hdT l) (bs [45])=true) (hk3:((hdT l.tail).kind == 3)=false) :
  Calls Tryz.prog 121 #[.pointer (some ⟨E.pb,0,none⟩)] w (zlj E w d q l (zib l)):=by
 have hkd:=zGg h.zhi zYg h45
 have hk1:((hdT l).kind == 1)=false:=beq_eq_false_iff_ne.2 (by omega)
 have hne3:(((hdT l).kind:Int) == 3)=false:=by simp;omega
 have HP:=zh (show zib l=.error ((hdT l.tail).place,20) by
  unfold zib zOa
  rw [hk1,h45]
  show bd (zKa l.tail) _=_
  exact zCa (show zKa l.tail=.error ((hdT l.tail).place,20) by unfold zKa zSd;rw [hk3];rfl) _)
 have hnum0:(hdT l.tail).num≤1099511627776:=by
  rcases Nat.eq_zero_or_pos l.tail.length with h0|h0
  ·rw [List.eq_nil_of_length_eq_zero h0];simp [hdT,zfb]
  ·refine (h.ok _ ?_).num
   have e1:hdT l.tail∈l.tail:=by cases hl:l.tail with
    | nil=>rw [hl] at h0;simp at h0
    | cons a b=>simp [hdT]
   exact List.mem_of_mem_drop (i:=E.ts.length-l.length) (by rw [← h.suf];exact List.mem_of_mem_tail e1)
 have H:=zh h
 have HK3:=zh hk3
 have H45:=zh h45
 have c0:w.cell? ⟨E.pb,0,none⟩=some (.slice (some ⟨E.tb,0,none⟩) E.ts.length E.cap):=h.blk.cell 0
 have c1:w.cell? ⟨E.pb,1,none⟩=some (.int .i64 ((E.ts.length-l.length:Nat):Int)):=h.blk.cell 1
 obtain ⟨t0,t1,t2,t3⟩:=h.tok
 have hkl:E.ts.length-l.length<E.ts.length:=by have:=h.head.1;have:=h.le;omega
 have hlen:=h.len
 have hcap:=h.capb
 have hplt:=h.plt
 have htlt:=h.tlt
 have hnum:=h.zvg.num
 have ix1:(0:Int)≤((E.ts.length-l.length:Nat):Int):=by omega
 have ix2:(((E.ts.length-l.length:Nat):Int))<(E.ts.length:Int):=by omega
 have HB0:=zh (Blk.new w zba 34)
 clear hk3 h45 hk1 hkd
 generalize E.ts.length-l.length=k at *
 clear h
 go_enter Tryz.func121,Tryz.ntmps121
 go_wp2
 go_quiet (fail)
 go_wp2
 go_quiet (fail)
 go_wp2_with fail
 refine (zYd ((H.out.alloc _).draws _) (bs [45]) zYg (by decide) H45.out).mono ?_
 rintro e w1 ⟨rfl,hs,hk⟩
 have H1:=zh hs
 have HB1:=zh ((HB0.out.draws _).kp hk (by omega))
 have HK1:=zh ((((Kp.refl E.pb w).alloc _).draws _).trans hk)
 have hz1:=HB1.out.lt
 clear hs hk
 go_wp2_with fail
 refine (zlg H1.out HK3.out).mono ?_
 rintro e w2 ⟨rfl,hs,hk⟩
 have H2:=zh hs
 have HB2:=zh (HB1.out.kp hk (by omega))
 have HK2:=zh (HK1.out.trans hk)
 clear hs hk
 go_wp2_with ((with_reducible refine zla 34 (.tmp 2) ?_);refine zca rfl 34 (.tmp 2) (.tmp 44) rfl w.heap.size (zaa (.mk 5 e0 0 (hdT l).place []) (.slice none 0 0)) rfl rfl HB2.out Tryz.zia rfl (zda _ _ rfl) ?_)
 exact zka (cs:=zaa (.mk 5 e0 0 (hdT l).place []) (.slice none 0 0)) Tryz.results121 rfl HB2.out Tryz.underlying34 rfl Tryz.zia rfl (by rw [HP.out];exact ⟨_,_,_,rfl,KAt.nil _ _ _,Nat.zero_le _,H2.out.same (by simp [World.setRow]) (setRow_other _ _ _ _ (by omega)) (setRow_other _ _ _ _ (by omega)),HK2.out.setRow (Nat.le_refl _) _,by decide⟩)
theorem zSn {E:Env} {w:World} {l:List Tok} {d:Nat} {q:Nat} (h:RSt E w l d 0 q) (hk1:((hdT l).kind == 1)=true) :
  Calls Tryz.prog 121 #[.pointer (some ⟨E.pb,0,none⟩)] w (zlj E w d q l (zib l)):=by
 have hkd:(hdT l).kind=1:=beq_iff_eq.1 hk1
 have hne3:(((hdT l).kind:Int) == 3)=false:=by rw [hkd];rfl
 have H45:=zh (show isT (hdT l) (bs [45])=false by
  cases hi:isT (hdT l) (bs [45]) with
  | false=>rfl
  | true=>rcases zGg h.zhi zYg hi with h'|h'<;>omega)
 have HP:=zh (show zib l=zwf (.mk 5 (hdT l).text 0 (hdT l).place []) l.tail by
  unfold zib
  rw [hk1]
  show bd (zqa l) _=_
  rw [zsa (show zqa l=.ok ((.mk 5 (hdT l).text 0 (hdT l).place []),l.tail) by unfold zqa zdc zSd;rw [hk1];rfl)]
  rfl)
 have H:=zh h
 have HK1K:=zh hk1
 have c0:w.cell? ⟨E.pb,0,none⟩=some (.slice (some ⟨E.tb,0,none⟩) E.ts.length E.cap):=h.blk.cell 0
 have c1:w.cell? ⟨E.pb,1,none⟩=some (.int .i64 ((E.ts.length-l.length:Nat):Int)):=h.blk.cell 1
 obtain ⟨t0,t1,t2,t3⟩:=h.tok
 have hkl:E.ts.length-l.length<E.ts.length:=by have:=h.head.1;have:=h.le;omega
 have hlen:=h.len
 have hcap:=h.capb
 have hplt:=h.plt
 have htlt:=h.tlt
 have hnum:=h.zvg.num
 have ix1:(0:Int)≤((E.ts.length-l.length:Nat):Int):=by omega
 have ix2:(((E.ts.length-l.length:Nat):Int))<(E.ts.length:Int):=by omega
 have HB0:=zh (Blk.new w zba 34)
 clear hk1 hkd
 generalize E.ts.length-l.length=k at *
 clear h
 go_enter Tryz.func121,Tryz.ntmps121
 go_wp2
 go_quiet (fail)
 go_wp2
 go_quiet (fail)
 go_wp2_with fail
 refine (zCc ((H.out.alloc _).draws _) (bs [45]) zYg (zme H45.out)).mono ?_
 rintro e w1 ⟨rfl,hb⟩
 have H1:=zh (((H.out.alloc _).draws _).below hb)
 have HB1:=zh ((HB0.out.draws _).below hb)
 have HK1:=zh ((((Kp.refl E.pb w).alloc _).draws _).trans (Kp.of_below hb))
 have hz1:=HB1.out.lt
 clear hb
 go_wp2_with fail
 refine (zAk H1.out HK1K.out).mono ?_
 rintro e w2 ⟨rfl,hs,hk⟩
 have H2:=zh hs
 have HB2:=zh (HB1.out.kp hk (by omega))
 have HK2:=zh (HK1.out.trans hk)
 have hz2:=HB2.out.lt
 clear hs hk
 unfold zma
 go_wp2_with (first
  | ((with_reducible refine zla 34 (.tmp 7) ?_);refine zga rfl 34 (.tmp 7) (.tmp 46) rfl (zaa ((.mk 5 (hdT l).text 0 (hdT l).place [])) (.slice none 0 0)) (old:=zba) rfl rfl Tryz.zia rfl (zda _ _ rfl) ?_)
  | ((with_reducible refine zra 34 (.tmp 7) ?_);refine zfa rfl 34 (.tmp 7) rfl w2.heap.size ((.mk 5 (hdT l).text 0 (hdT l).place [])) (.slice none 0 0) rfl (Blk.new w2 _ _) Tryz.underlying34 rfl Tryz.zia ?_))
 refine (zfl (H2.out.alloc _) (.mk 5 (hdT l).text 0 (hdT l).place []) rfl).mono ?_
 intro e w4 hp
 cases hm:zwf (.mk 5 (hdT l).text 0 (hdT l).place []) l.tail with
 | ok r =>
  obtain ⟨t4,l4⟩:=r
  rw [hm] at hp
  obtain ⟨v4,rfl,hk4,hs4,hkp,hll⟩:=hp
  have H4:=zh hs4
  have HV4:=zh (show KAt 34 w4 t4.kids (fun b=>w.heap.size<b) v4 from hk4.mono (fun b hb _=>by simp at hb;omega))
  have HB4:=zh ((HB2.out.alloc _).kp hkp (by omega))
  have HK4:=zh ((HK2.out.alloc _).trans hkp)
  have HPM:=zh (HP.out.trans hm)
  have hl4:l4.length≤l.length:=by rw [List.length_tail] at hll;omega
  clear hm hk4 hs4 hkp hll
  unfold zma
  go_wp2_with ((with_reducible refine zla 34 (.tmp 2) ?_);refine zca rfl 34 (.tmp 2) (.tmp 49) rfl w.heap.size (zaa (t4) v4) rfl rfl HB4.out Tryz.zia rfl (zda _ _ HV4.out.one) ?_)
  exact zka (cs:=zaa (t4) v4) Tryz.results121 rfl HB4.out Tryz.underlying34 rfl Tryz.zia rfl (by rw [HPM.out];exact ⟨v4,rfl,(HV4.out.setRow _ _ (fun b hb=>by omega)).mono (fun b hb _=>by omega),H4.out.same (by simp [World.setRow]) (setRow_other _ _ _ _ (by omega)) (setRow_other _ _ _ _ (by omega)),HK4.out.setRow (Nat.le_refl _) _,hl4⟩)
 | error pc =>
  obtain ⟨p4,c4⟩:=pc
  rw [hm] at hp
  obtain ⟨t4,v4,lf,rfl,hk4,hn4,hs4,hkp,hc4⟩:=hp
  have H4:=zh hs4
  have HV4:=zh (show KAt 34 w4 t4.kids (fun b=>w.heap.size<b) v4 from hk4.mono (fun b hb _=>by simp at hb;omega))
  have HB4:=zh ((HB2.out.alloc _).kp hkp (by omega))
  have HK4:=zh ((HK2.out.alloc _).trans hkp)
  have HPM:=zh (HP.out.trans hm)
  have HC4:=zh hc4
  have HN4:=zh hn4
  clear hm hk4 hs4 hkp hc4 hn4
  unfold zma
  go_wp2_with ((with_reducible refine zla 34 (.tmp 2) ?_);refine zca rfl 34 (.tmp 2) (.tmp 49) rfl w.heap.size (zaa (t4) v4) rfl rfl HB4.out Tryz.zia rfl (zda _ _ HV4.out.one) ?_)
  exact zka (cs:=zaa (t4) v4) Tryz.results121 rfl HB4.out Tryz.underlying34 rfl Tryz.zia rfl (by rw [HPM.out];exact ⟨t4,v4,lf,rfl,(HV4.out.setRow _ _ (fun b hb=>by omega)).mono (fun b hb _=>by omega),HN4.out,H4.out.same (by simp [World.setRow]) (setRow_other _ _ _ _ (by omega)) (setRow_other _ _ _ _ (by omega)),HK4.out.setRow (Nat.le_refl _) _,HC4.out⟩)
theorem zXq {E:Env} {w:World} {l:List Tok} {d:Nat} {q:Nat} (h:RSt E w l d 0 q) (hk1:((hdT l).kind == 1)=false) (hk3:((hdT l).kind == 3)=false) (h45:isT (hdT l) (bs [45])=false) :
  Calls Tryz.prog 121 #[.pointer (some ⟨E.pb,0,none⟩)] w (zlj E w d q l (zib l)):=by
 have hne3:(((hdT l).kind:Int) == 3)=false:=by simp at hk3 ⊢;omega
 have HP:=zh (show zib l=.error ((hdT l).place,20) by
  unfold zib zOa
  rw [hk1,h45]
  show bd (zKa l) _=_
  exact zCa (show zKa l=.error ((hdT l).place,20) by unfold zKa zSd;rw [hk3];rfl) _)
 have H:=zh h
 have H45:=zh h45
 have HK1K:=zh hk1
 have c0:w.cell? ⟨E.pb,0,none⟩=some (.slice (some ⟨E.tb,0,none⟩) E.ts.length E.cap):=h.blk.cell 0
 have c1:w.cell? ⟨E.pb,1,none⟩=some (.int .i64 ((E.ts.length-l.length:Nat):Int)):=h.blk.cell 1
 obtain ⟨t0,t1,t2,t3⟩:=h.tok
 have hkl:E.ts.length-l.length<E.ts.length:=by have:=h.head.1;have:=h.le;omega
 have hlen:=h.len
 have hcap:=h.capb
 have hplt:=h.plt
 have htlt:=h.tlt
 have hnum:=h.zvg.num
 have ix1:(0:Int)≤((E.ts.length-l.length:Nat):Int):=by omega
 have ix2:(((E.ts.length-l.length:Nat):Int))<(E.ts.length:Int):=by omega
 have HB0:=zh (Blk.new w zba 34)
 clear hk1 hk3 h45
 generalize E.ts.length-l.length=k at *
 clear h
 go_enter Tryz.func121,Tryz.ntmps121
 go_wp2
 go_quiet (fail)
 go_wp2
 go_quiet (fail)
 go_wp2_with fail
 refine (zCc ((H.out.alloc _).draws _) (bs [45]) zYg (zme H45.out)).mono ?_
 rintro e w1 ⟨rfl,hb⟩
 have H1:=zh (((H.out.alloc _).draws _).below hb)
 have HB1:=zh ((HB0.out.draws _).below hb)
 have HK1:=zh ((((Kp.refl E.pb w).alloc _).draws _).trans (Kp.of_below hb))
 have hz1:=HB1.out.lt
 clear hb
 go_wp2_with fail
 refine (zek H1.out HK1K.out).mono ?_
 rintro e w2 ⟨rfl,hs,hk⟩
 have H2:=zh hs
 have HB2:=zh (HB1.out.kp hk (by omega))
 have HK2:=zh (HK1.out.trans hk)
 have hz2:=HB2.out.lt
 clear hs hk
 unfold zma
 go_wp2_with (first
  | ((with_reducible refine zla 34 (.tmp 7) ?_);refine zga rfl 34 (.tmp 7) (.tmp 46) rfl (zaa (znb) (.slice none 0 0)) (old:=zba) rfl rfl Tryz.zia rfl (zda _ _ rfl) ?_)
  | ((with_reducible refine zra 34 (.tmp 7) ?_);refine zfa rfl 34 (.tmp 7) rfl w2.heap.size (znb) (.slice none 0 0) rfl (Blk.new w2 _ _) Tryz.underlying34 rfl Tryz.zia ?_))
 refine (zki (H2.out.alloc _) (by decide) znb rfl).mono ?_
 rintro e w4 ⟨t4,v4,rfl,hk4,hn4,hb4⟩
 have H4:=zh ((H2.out.alloc _).below hb4)
 have HV4:=zh (show KAt 34 w4 t4.kids (fun b=>w.heap.size<b) v4 from hk4.mono (fun b hb _=>by simp at hb;omega))
 have HB4:=zh ((HB2.out.alloc _).below hb4)
 have HK4:=zh ((HK2.out.alloc _).trans (Kp.of_below hb4))
 have HN4:=zh (show t4.kids.length≤40000 by omega)
 clear hk4 hn4 hb4
 unfold zma
 go_wp2_with ((with_reducible refine zla 34 (.tmp 2) ?_);refine zca rfl 34 (.tmp 2) (.tmp 49) rfl w.heap.size (zaa (t4) v4) rfl rfl HB4.out Tryz.zia rfl (zda _ _ HV4.out.one) ?_)
 exact zka (cs:=zaa (t4) v4) Tryz.results121 rfl HB4.out Tryz.underlying34 rfl Tryz.zia rfl (by rw [HP.out];exact ⟨t4,v4,l,rfl,(HV4.out.setRow _ _ (fun b hb=>by omega)).mono (fun b hb _=>by omega),HN4.out,H4.out.same (by simp [World.setRow]) (setRow_other _ _ _ _ (by omega)) (setRow_other _ _ _ _ (by omega)),HK4.out.setRow (Nat.le_refl _) _,by decide⟩)
theorem zMp {E:Env} {w:World} {l:List Tok} {d:Nat} {q:Nat} (h:RSt E w l d 0 q) :
  Calls Tryz.prog 121 #[.pointer (some ⟨E.pb,0,none⟩)] w (zlj E w d q l (zib l)):=by
 cases hk3:((hdT l).kind == 3) with
 | true=>exact zFo h hk3
 | false =>
  cases h45:isT (hdT l) (bs [45]) with
  | true =>
   cases hk:((hdT l.tail).kind == 3) with
   | true=>exact zBp h h45 hk
   | false=>exact zun h h45 hk
  | false =>
   cases hk1:((hdT l).kind == 1) with
   | true=>exact zSn h hk1
   | false=>exact zXq h hk1 hk3 h45
theorem zro {E:Env} {w:World} {l:List Tok} {d:Nat} {f:Int} {q:Nat} (h:RSt E w l d f q) (hf:(f == 0)=false) :
  Calls Tryz.prog 121 #[.pointer (some ⟨E.pb,0,none⟩)] w (zDq w):=by
 have H:=zh h
 have HF:=zh hf
 have HW0:=zh ((Below.refl w.heap.size w).alloc (Nat.le_refl _) (.cells zba.toArray 34))
 cases hk3:((hdT l).kind == 3) with
 | true =>
  have hk:(hdT l).kind=3:=beq_iff_eq.1 hk3
  have c0:w.cell? ⟨E.pb,0,none⟩=some (.slice (some ⟨E.tb,0,none⟩) E.ts.length E.cap):=h.blk.cell 0
  have c1:w.cell? ⟨E.pb,1,none⟩=some (.int .i64 ((E.ts.length-l.length:Nat):Int)):=h.blk.cell 1
  obtain ⟨t0,t1,t2,t3⟩:=h.tok
  have hkl:E.ts.length-l.length<E.ts.length:=by have:=h.head.1;have:=h.le;omega
  have hlen:=h.len
  have hcap:=h.capb
  have hplt:=h.plt
  have htlt:=h.tlt
  have hnum:=h.zvg.num
  have ix1:(0:Int)≤((E.ts.length-l.length:Nat):Int):=by omega
  have ix2:(((E.ts.length-l.length:Nat):Int))<(E.ts.length:Int):=by omega
  have HB0:=zh (Blk.new w zba 34)
  rw [hk] at t0
  clear hk3 hk hf
  generalize E.ts.length-l.length=k at *
  clear h
  go_enter Tryz.func121,Tryz.ntmps121
  go_wp2
  go_quiet (fail)
  go_wp2
  go_quiet (fail)
  go_wp2_with fail
  refine (zci ((H.out.alloc _).draws _) HF.out).mono ?_
  rintro e w2 ⟨rfl,hb⟩
  have HB2:=zh ((HB0.out.draws _).below hb)
  have HW2:=zh ((zJc HW0.out _).trans (hb.mono (zJc HW0.out _).size))
  clear hb
  go_wp2_with ((with_reducible refine zla 34 (.tmp 2) ?_);refine zca rfl 34 (.tmp 2) (.tmp 35) rfl w.heap.size (zaa (.mk 5 e0 0 (hdT l).place []) (.slice none 0 0)) rfl rfl HB2.out Tryz.zia rfl (zda _ _ rfl) ?_)
  exact zka (cs:=zaa (.mk 5 e0 0 (hdT l).place []) (.slice none 0 0)) Tryz.results121 rfl HB2.out Tryz.underlying34 rfl Tryz.zia rfl (⟨_,_,rfl,KAt.nil _ _ _,Nat.zero_le _,zEe HW2.out (Nat.le_refl _) _⟩)
 | false =>
  have hne3:(((hdT l).kind:Int) == 3)=false:=by simp at hk3 ⊢;omega
  have c0:w.cell? ⟨E.pb,0,none⟩=some (.slice (some ⟨E.tb,0,none⟩) E.ts.length E.cap):=h.blk.cell 0
  have c1:w.cell? ⟨E.pb,1,none⟩=some (.int .i64 ((E.ts.length-l.length:Nat):Int)):=h.blk.cell 1
  obtain ⟨t0,t1,t2,t3⟩:=h.tok
  have hkl:E.ts.length-l.length<E.ts.length:=by have:=h.head.1;have:=h.le;omega
  have hlen:=h.len
  have hcap:=h.capb
  have hplt:=h.plt
  have htlt:=h.tlt
  have hnum:=h.zvg.num
  have ix1:(0:Int)≤((E.ts.length-l.length:Nat):Int):=by omega
  have ix2:(((E.ts.length-l.length:Nat):Int))<(E.ts.length:Int):=by omega
  have HB0:=zh (Blk.new w zba 34)
  clear hk3 hf
  generalize E.ts.length-l.length=k at *
  clear h
  go_enter Tryz.func121,Tryz.ntmps121
  go_wp2
  go_quiet (fail)
  go_wp2
  go_quiet (fail)
  go_wp2_with fail
  refine (zCc ((H.out.alloc _).draws _) (bs [45]) zYg (zgi HF.out _)).mono ?_
  rintro e w1 ⟨rfl,hb⟩
  have H1:=zh (((H.out.alloc _).draws _).below hb)
  have HB1:=zh ((HB0.out.draws _).below hb)
  have HK1:=zh ((((Kp.refl E.pb w).alloc _).draws _).trans (Kp.of_below hb))
  have hz1:=HB1.out.lt
  have HW1:=zh ((zJc HW0.out _).trans (hb.mono (zJc HW0.out _).size))
  clear hb
  go_wp2_with fail
  refine (zyi H1.out HF.out).mono ?_
  rintro e w2 ⟨rfl,hb⟩
  have H2:=zh (H1.out.below hb)
  have HB2:=zh (HB1.out.below hb)
  have HW2:=zh ((HW1.out.trans (hb.mono HW1.out.size)).alloc (Nat.le_trans HW1.out.size hb.size) (.cells (zaa znb (.slice none 0 0)).toArray 34))
  have hz2:=HB2.out.lt
  clear hb
  unfold zma
  go_wp2_with (first
   | ((with_reducible refine zla 34 (.tmp 7) ?_);refine zga rfl 34 (.tmp 7) (.tmp 46) rfl (zaa (znb) (.slice none 0 0)) (old:=zba) rfl rfl Tryz.zia rfl (zda _ _ rfl) ?_)
   | ((with_reducible refine zra 34 (.tmp 7) ?_);refine zfa rfl 34 (.tmp 7) rfl w2.heap.size (znb) (.slice none 0 0) rfl (Blk.new w2 _ _) Tryz.underlying34 rfl Tryz.zia ?_))
  refine (zki (H2.out.alloc _) HF.out znb rfl).mono ?_
  rintro e w4 ⟨t4,v4,rfl,hk4,hn4,hb4⟩
  have HV4:=zh (show KAt 34 w4 t4.kids (fun b=>w.heap.size<b) v4 from hk4.mono (fun b hb _=>by simp at hb;omega))
  have HB4:=zh ((HB2.out.alloc _).below hb4)
  have HW4:=zh (HW2.out.trans (hb4.mono HW2.out.size))
  have HN4:=zh hn4
  clear hk4 hn4 hb4
  unfold zma
  go_wp2_with ((with_reducible refine zla 34 (.tmp 2) ?_);refine zca rfl 34 (.tmp 2) (.tmp 49) rfl w.heap.size (zaa (t4) v4) rfl rfl HB4.out Tryz.zia rfl (zda _ _ HV4.out.one) ?_)
  exact zka (cs:=zaa (t4) v4) Tryz.results121 rfl HB4.out Tryz.underlying34 rfl Tryz.zia rfl (⟨t4,v4,rfl,(HV4.out.setRow _ _ (fun b hb=>by omega)).mono (fun b hb _=>by omega),HN4.out,zEe HW4.out (Nat.le_refl _) _⟩)
end
end Go.Proofs.YthdbmgijpelecaaGreatDoor
