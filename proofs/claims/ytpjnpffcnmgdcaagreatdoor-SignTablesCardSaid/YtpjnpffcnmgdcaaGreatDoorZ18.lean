/- The contract of lychgateref02.named. The contract of lychgateref02.branch, given that of block. The ways of lychgateref02.stmt, each from a state without a fault. -/
import Derived.Test.YtpjnpffcnmgdcaaGreatDoorZ17
namespace Go.Proofs.YtpjnpffcnmgdcaaGreatDoor
set_option maxRecDepth 100000
set_option maxHeartbeats 4000000
section
open Go.RowKit
theorem zDu:zOa (bs [61])=true:=by kernel_rfl
theorem zgk (l:List Tok):zIb l=bd (zoa l) fun n l1 =>
  bif isT (hdT l1) (bs [40]) then bd (zfb zXa l1) fun xs l2=>.ok (.mk 20 e0 0 n.place [.mk 28 n.text n.num n.place xs],l2)
  else bif isT (hdT l1) (bs [91]) then bd (zXa l1.tail) fun a l2=>bd (zsa [bs [93]] l2) fun _ l3=>bd (zsa [bs [61]] l3) fun _ l4=>bd (zXa l4) fun b l5=>.ok (.mk 11 n.text n.num n.place [a,b],l5)
  else bd (zsa [bs [61]] l1) fun _ l2=>bd (zpc l2) fun x l3=>.ok (.mk 10 n.text n.num n.place [x],l3):=by
 unfold zIb zoa
 cases zKb l with
 | error e=>rfl
 | ok x =>
  obtain ⟨s,l1⟩:=x
  show (bif isT (hdT l1) (bs [40]) then _ else _)=(bif isT (hdT l1) (bs [40]) then _ else _)
  cases h0:isT (hdT l1) (bs [40]) with
  | true =>
   rw [cond_true,cond_true]
   unfold zOf
   rw [zAb]
   rfl
  | false =>
   rw [cond_false,cond_false]
   cases h:isT (hdT l1) (bs [91]) with
   | false=>rfl
   | true =>
    rw [cond_true,cond_true]
    unfold zwd
    have e1:zsa [bs [91]] l1=.ok (hdT l1,l1.tail):=by unfold zsa;simp [h]
    rw [zpa e1,zAb]
    congr 1
    funext a l2
    rw [zAb]
    rfl
theorem zFb.zMu {E:Env} {w W:World} {d:Nat} {l:List Tok} {f:Int} {q g:Nat} {t u u2:T} {v x x2:Value} (h:zFb E w W d l f q g t v) (hu:KAt 36 W u.kids (fun b=>w.heap.size<b∧b≠g) x) (hu2:KAt 36 W u2.kids (fun b=>w.heap.size<b∧b≠g) x2) :
  zFb E w (((W.setCell ⟨g,4,none⟩ (.slice (some ⟨W.heap.size+1,0,none⟩) 2 2)).alloc (.cells (zaa u2 x2).toArray 36)).alloc (.cells (zaa u x++zaa u2 x2).toArray 36)) d l f q g (t.zeb [u,u2]) (.slice (some ⟨W.heap.size+1,0,none⟩) 2 2):=by
 have h1:=h.gt
 have h2:=h.plt
 have h3:=h.tlt
 have h4:=h.lt
 obtain ⟨old,ho,hl⟩:=h.res
 have hk:=KAt.zHs (e:=36) (w:=(W.setCell ⟨g,4,none⟩ (.slice (some ⟨W.heap.size+1,0,none⟩) 2 2)).alloc (.cells (zaa u2 x2).toArray 36)) (t:=u) (u:=u2) (S:=fun b=>w.heap.size<b∧b≠g) (v:=x) (x:=x2) (TAt.zHa ((hu.setCell ⟨g,4,none⟩ (.slice (some ⟨W.heap.size+1,0,none⟩) 2 2) (fun b hb=>hb.2)).alloc _)) (TAt.zHa ((hu2.setCell ⟨g,4,none⟩ (.slice (some ⟨W.heap.size+1,0,none⟩) 2 2) (fun b hb=>hb.2)).alloc _)) (by simp only [World.size_alloc,World.size_setCell];omega)
 rw [show ((W.setCell ⟨g,4,none⟩ (.slice (some ⟨W.heap.size+1,0,none⟩) 2 2)).alloc (.cells (zaa u2 x2).toArray 36)).heap.size=W.heap.size+1 by simp] at hk
 exact ⟨((h.st.far _ _ (by show _≠g;omega) (by show _≠g;omega)).alloc _).alloc _,((h.kp.zLc (p:=⟨g,4,none⟩) (by show _≤g;omega) _).alloc _).alloc _,⟨old,((ho.setOther _ _ (by show _≠g;omega)).alloc _).alloc _,hl⟩,((h.blk.zNa 4 _).alloc _).alloc _,hk,h.gt,h.plt,h.tlt⟩
theorem zFb.other {E:Env} {w W:World} {d:Nat} {l:List Tok} {f:Int} {q g:Nat} {t:T} {v:Value} (h:zFb E w W d l f q g t v) (a:Addr) (x:Value) (h1:w.heap.size<a.block) (h2:a.block≠g) (ht:t.kids=[]) (hv:v=.slice none 0 0:=by rfl):zFb E w (W.setCell a x) d l f q g t v:=by
 have h3:=h.plt
 have h4:=h.tlt
 obtain ⟨old,ho,hl⟩:=h.res
 subst hv
 exact ⟨h.st.far _ _ (by omega) (by omega),h.kp.zLc (by omega) _,⟨old,ho.setOther _ _ (by omega),hl⟩,h.blk.setOther _ _ (Ne.symm h2),by rw [ht];exact KAt.nil _ _ _,h.gt,h.plt,h.tlt⟩
theorem zDj {E:Env} {w:World} {l:List Tok} {d:Nat} {f:Int} {q:Nat} (h:RSt E w l d f q) :
  Calls Tryz.prog 97 #[.pointer (some ⟨E.pb,0,none⟩)] w (zqg E w d l f q (zIb l)):=by
 have H:=zh h
 have hplt:=h.plt
 have htlt:=h.tlt
 have H0:=zh (h.alloc (.cells zba.toArray 36))
 have HK0:=zh ((Kp.refl E.pb w).alloc (.cells zba.toArray 36))
 have HBr0:=zh (Blk.new w zba 36)
 clear h
 go_enter Tryz.func97,Tryz.ntmps97
 go_wp2_with fail
 refine (zQb H0.out).mono ?_
 rintro e w1 ⟨ka,sa,na,pa,l1,f1,q1,rfl,hs1,hp1,hsee1⟩
 have HB1:=zh (HBr0.out.kp hp1 (by omega))
 have HK1:=zh (HK0.out.trans hp1)
 have H1:=zh hs1
 have HS1:=zh hsee1
 clear hs1 hp1 hsee1
 have RL1:=zh (zFb.new (t:=(T.mk ka sa na pa [])) (v:=(.slice none 0 0)) H1.out HK1.out HB1.out rfl (KAt.nil _ _ _) hplt htlt)
 have hz1:=HB1.out.lt
 go_wp2_with (((with_reducible refine zla 36 (.tmp 3) ?_);refine zga rfl 36 (.tmp 3) (.tmp 11) rfl (zaa (T.mk ka sa na pa []) (.slice none 0 0)) (old:=zba) rfl rfl Tryz.zha rfl (zca _ _ rfl) ?_))
 refine (zZf RL1.out.st (bs [40]) zWr).mono ?_
 rintro e w2 ⟨rfl,hs2,hp2⟩
 have RL2:=zh (RL1.out.call hp2 hs2)
 have hz2:w1.heap.size<w2.heap.size:=RL2.out.lt
 clear hs2 hp2
 cases hca:(f1 == 0 && isT (hdT l1) (bs [40])) with
 | true =>
  have hca2:(f1 == 0)=true∧isT (hdT l1) (bs [40])=true:=by simpa using hca
  have HBm:=zh (Blk.new w2 (zaa (T.mk ka sa na pa []) (.slice none 0 0)) 36)
  have m0:(w2.alloc (.cells (zaa (T.mk ka sa na pa []) (.slice none 0 0)).toArray 36)).cell? ⟨w2.heap.size,0,none⟩=some (.int .i64 ka):=HBm.out.cell 0
  have mf0:=HBm.out.frozen 0
  go_wp2_with (first|((with_reducible refine zqa 36 (.tmp 3) ?_);refine zfa rfl 36 (.tmp 3) rfl w1.heap.size (T.mk ka sa na pa []) (.slice none 0 0) rfl RL2.out.blk Tryz.underlying36 rfl Tryz.zha ?_)|((with_reducible refine zla 36 (.tmp 5) ?_);refine zga rfl 36 (.tmp 5) (.tmp 15) rfl (zaa (T.mk ka sa na pa []) (.slice none 0 0)) (old:=zba) rfl rfl Tryz.zha rfl (zca _ _ rfl) ?_))
  have RL3:=zh (RL2.out.alloc (.cells (zaa (T.mk 28 sa na pa []) (.slice none 0 0)).toArray 36))
  have HBc:=zh (Blk.new w2 (zaa (T.mk 28 sa na pa []) (.slice none 0 0)) 36)
  clear HBm m0 mf0
  refine (zri RL3.out.st).mono ?_
  rintro e w4 ⟨xs,xv,l4,f4,q4,rfl,hk4,hn4,hs4,hp4,hsee4⟩
  have RL4:=zh (RL3.out.call hp4 hs4)
  have HC4:=zh (HBc.out.kp hp4 (by omega))
  have HS4:=zh hsee4
  have hz4:=HC4.out.lt
  obtain ⟨sa1,sn1,sc1,rfl⟩:=hk4.slice
  have HV4:=zh (show KAt 36 w4 xs (fun b=>(w.heap.size<b∧b≠w1.heap.size)∧b≠w2.heap.size) (.slice sa1 sn1 sc1) from (hk4.mono (fun b hb _=>by simp at hb;omega)))
  have hn4b:=hn4
  clear hk4 hs4 hp4 hsee4
  have d4:w4.cell? ⟨w2.heap.size,4,none⟩=some (.slice none 0 0):=HC4.out.cell 4
  have df4:=HC4.out.frozen 4
  have n3:w4.cell? ⟨w1.heap.size,3,none⟩=some (.int .i64 (pa:Nat)):=RL4.out.blk.cell 3
  have nf3:=RL4.out.blk.frozen 3
  have hk5:=KAt.zrk (e:=36) (w:=w4.setCell ⟨w2.heap.size,4,none⟩ (.slice sa1 sn1 sc1)) (t:=(T.mk 28 sa na pa xs)) (S:=fun b=>w.heap.size<b∧b≠w1.heap.size) ((KAt.tat (HV4.out.setCell ⟨w2.heap.size,4,none⟩ (.slice sa1 sn1 sc1) (fun b hb=>hb.2)) 28 sa na pa).mono (fun b hb _=>hb.1)) (by simp only [World.size_setCell];omega)
  rw [World.size_setCell] at hk5
  have HK5:=zh hk5
  clear hk5
  have RL5:=zh ((RL4.out.other ⟨w2.heap.size,4,none⟩ (.slice sa1 sn1 sc1) (by show w.heap.size<w2.heap.size;omega) (by show w2.heap.size≠w1.heap.size;omega) rfl).alloc (.cells (zaa (T.mk 28 sa na pa xs) (.slice sa1 sn1 sc1)).toArray 36))
  obtain ⟨old,hold,hol⟩:=RL5.out.res
  have HOLD:=zh hold
  clear hold
  go_wp2_with (first|((with_reducible refine zqa 36 (.tmp 5) ?_);refine zfa rfl 36 (.tmp 5) rfl w2.heap.size (T.mk 28 sa na pa xs) (.slice sa1 sn1 sc1) rfl (HC4.out.zNa 4 _) Tryz.underlying36 rfl Tryz.zha ?_)|((with_reducible refine zla 36 (.tmp 2) ?_);refine zda rfl 36 (.tmp 2) (.tmp 24) rfl w.heap.size (zaa (T.mk 20 e0 0 pa [(T.mk 28 sa na pa xs)]) (.slice (some ⟨w4.heap.size,0,none⟩) 1 1)) rfl rfl HOLD.out Tryz.zha (by rw [hol];rfl) (zca _ _ rfl) ?_))
  exact zma (cs:=zaa (T.mk 20 e0 0 pa [(T.mk 28 sa na pa xs)]) (.slice (some ⟨w4.heap.size,0,none⟩) 1 1)) Tryz.results97 rfl HOLD.out Tryz.underlying36 rfl Tryz.zha rfl (RL5.out.zOk (u:=(T.mk 20 e0 0 pa [(T.mk 28 sa na pa xs)])) HK5.out (by show 1≤40000;decide) (by rw [zgk];exact HS1.out.andThen (zCa.yes0 hca2.2 (HS4.out.andThen (zCa.done _ _ _ _)))))
 | false =>
  go_wp2_with fail
  refine (zab RL2.out.st (bs [91]) zar (by decide)).mono ?_
  rintro e w3 ⟨b3,l3,rfl,hs3,hp3,hc3⟩
  have RL3:=zh (RL2.out.call hp3 hs3)
  have hz3:w1.heap.size<w3.heap.size:=RL3.out.lt
  clear hs3 hp3
  rcases hc3 with ⟨rfl,hf3,hi3,rfl⟩|⟨rfl,hx3,rfl⟩
  ·skip
   have n0:w3.cell? ⟨w1.heap.size,0,none⟩=some (.int .i64 ka):=RL3.out.blk.cell 0
   have nf0:=RL3.out.blk.frozen 0
   have RLs:=zh (RL3.out.set 0 (.int .i64 11) (T.mk 11 sa na pa []) rfl rfl)
   go_wp2_with fail
   refine (zGc RLs.out.st).mono ?_
   rintro e w4 ⟨t4,v4,l4,f4,q4,rfl,hk4,hn4,hs4,hp4,hsee4⟩
   have RL4:=zh (RLs.out.call hp4 hs4)
   have HV4:=zh (RLs.out.zYd hk4)
   have HS4:=zh hsee4
   have HKB:=zh (Blk.new w4 (zaa t4 v4) 36)
   have hz4:w1.heap.size<w4.heap.size:=RL4.out.lt
   clear hk4 hs4 hp4 hsee4 n0 nf0
   unfold zna
   go_wp2_with (((with_reducible refine zla 36 (.tmp 7) ?_);refine zga rfl 36 (.tmp 7) (.tmp 30) rfl (zaa t4 v4) (old:=zba) rfl rfl Tryz.zha rfl (zca _ _ HV4.out.one) ?_))
   have RLa:=zh (RL4.out.alloc (.cells (zaa t4 v4).toArray 36))
   refine (zRa RLa.out.st (bs [93]) zCq (by decide)).mono ?_
   rintro e w5 ⟨l5,f5,q5,rfl,hs5,hp5,tk5,hsee5⟩
   have RL5:=zh (RLa.out.call hp5 hs5)
   have HV5:=zh ((HV4.out.alloc _).kp hp5 (fun b hb=>by omega))
   have HA5:=zh (HKB.out.kp hp5 (by omega))
   have HS5:=zh hsee5
   clear hs5 hp5 hsee5
   go_wp2_with fail
   refine (zRa RL5.out.st (bs [61]) zDu (by decide)).mono ?_
   rintro e w6 ⟨l6,f6,q6,rfl,hs6,hp6,tk6,hsee6⟩
   have RL6:=zh (RL5.out.call hp6 hs6)
   have HV6:=zh (HV5.out.kp hp6 (fun b hb=>by omega))
   have HA6:=zh (HA5.out.kp hp6 (by omega))
   have HS6:=zh hsee6
   clear hs6 hp6 hsee6
   go_wp2_with fail
   refine (zGc RL6.out.st).mono ?_
   rintro e w7 ⟨t7,v7,l7,f7,q7,rfl,hk7,hn7,hs7,hp7,hsee7⟩
   have RL7:=zh (RL6.out.call hp7 hs7)
   have HW7:=zh (RL6.out.zYd hk7)
   have HV7:=zh (HV6.out.kp hp7 (fun b hb=>by omega))
   have HA7:=zh (HA6.out.kp hp7 (by omega))
   have HS7:=zh hsee7
   have hz7:w1.heap.size<w7.heap.size:=RL7.out.lt
   have hza:w4.heap.size<w7.heap.size:=HA7.out.lt
   clear hk7 hs7 hp7 hsee7
   unfold zna
   have n4:w7.cell? ⟨w1.heap.size,4,none⟩=some (.slice none 0 0):=RL7.out.blk.cell 4
   have nf4:=RL7.out.blk.frozen 4
   have RLe:=zh (RL7.out.zMu HV7.out HW7.out)
   obtain ⟨old,hold,hol⟩:=RLe.out.res
   have HOLD:=zh hold
   clear hold
   go_wp2_with (first|((with_reducible refine zla 36 (.tmp 8) ?_);refine zga rfl 36 (.tmp 8) (.tmp 36) rfl (zaa t7 v7) (old:=zba) rfl rfl Tryz.zha rfl (zca _ _ HW7.out.one) ?_)|((with_reducible refine zqa 36 (.tmp 7) ?_);refine zfa rfl 36 (.tmp 7) rfl w4.heap.size t4 v4 rfl (HA7.out.alloc _) Tryz.underlying36 rfl Tryz.zha ?_)|((with_reducible refine zqa 36 (.tmp 8) ?_);refine zfa rfl 36 (.tmp 8) rfl w7.heap.size t7 v7 rfl (Blk.new w7 _ _) Tryz.underlying36 rfl Tryz.zha ?_)|((with_reducible refine zqa 36 (.tmp 3) ?_);refine zfa rfl 36 (.tmp 3) rfl w1.heap.size (T.mk 11 sa na pa [t4,t7]) (.slice (some ⟨w7.heap.size+1,0,none⟩) 2 2) rfl RLe.out.blk Tryz.underlying36 rfl Tryz.zha ?_)|((with_reducible refine zla 36 (.tmp 2) ?_);refine zda rfl 36 (.tmp 2) (.tmp 41) rfl w.heap.size (zaa (T.mk 11 sa na pa [t4,t7]) (.slice (some ⟨w7.heap.size+1,0,none⟩) 2 2)) rfl rfl HOLD.out Tryz.zha (by rw [hol];rfl) (zca _ _ rfl) ?_))
   exact zma (cs:=zaa (T.mk 11 sa na pa [t4,t7]) (.slice (some ⟨w7.heap.size+1,0,none⟩) 2 2)) Tryz.results97 rfl HOLD.out Tryz.underlying36 rfl Tryz.zha rfl (RLe.out.tot (by show 2≤40000;decide) (by rw [zgk];exact HS1.out.andThen (zCa.no hca (zCa.yes hi3 hf3 (HS4.out.andThen (HS5.out.andThen (HS6.out.andThen (HS7.out.andThen (zCa.done _ _ _ _)))))))))
  ·skip
   go_wp2_with fail
   refine (zRa RL3.out.st (bs [61]) zDu (by decide)).mono ?_
   rintro e w4 ⟨l4,f4,q4,rfl,hs4,hp4,tk4,hsee4⟩
   have RL4:=zh (RL3.out.call hp4 hs4)
   have HS4:=zh hsee4
   clear hs4 hp4 hsee4
   have n0:w4.cell? ⟨w1.heap.size,0,none⟩=some (.int .i64 ka):=RL4.out.blk.cell 0
   have nf0:=RL4.out.blk.frozen 0
   have RLs:=zh (RL4.out.set 0 (.int .i64 10) (T.mk 10 sa na pa []) rfl rfl)
   go_wp2_with fail
   refine (zOq RLs.out.st).mono ?_
   rintro e w5 ⟨t5,v5,l5,f5,q5,rfl,hk5,hn5,hs5,hp5,hsee5⟩
   have RL5:=zh (RLs.out.call hp5 hs5)
   have HV5:=zh (RLs.out.zYd hk5)
   have RLe:=zh (RL5.out.kid1 RLs.out hk5)
   have HS5:=zh hsee5
   have hz5:w1.heap.size<w5.heap.size:=RL5.out.lt
   clear hk5 hs5 hp5 hsee5 n0 nf0
   unfold zna
   have n4:w5.cell? ⟨w1.heap.size,4,none⟩=some (.slice none 0 0):=RL5.out.blk.cell 4
   have nf4:=RL5.out.blk.frozen 4
   obtain ⟨old,hold,hol⟩:=RLe.out.res
   have HOLD:=zh hold
   clear hold
   go_wp2_with (first|((with_reducible refine zla 36 (.tmp 9) ?_);refine zga rfl 36 (.tmp 9) (.tmp 46) rfl (zaa t5 v5) (old:=zba) rfl rfl Tryz.zha rfl (zca _ _ HV5.out.one) ?_)|((with_reducible refine zqa 36 (.tmp 9) ?_);refine zfa rfl 36 (.tmp 9) rfl w5.heap.size t5 v5 rfl (Blk.new w5 _ _) Tryz.underlying36 rfl Tryz.zha ?_)|((with_reducible refine zqa 36 (.tmp 3) ?_);refine zfa rfl 36 (.tmp 3) rfl w1.heap.size (T.mk 10 sa na pa [t5]) (.slice (some ⟨w5.heap.size+1,0,none⟩) 1 1) rfl RLe.out.blk Tryz.underlying36 rfl Tryz.zha ?_)|((with_reducible refine zla 36 (.tmp 2) ?_);refine zda rfl 36 (.tmp 2) (.tmp 50) rfl w.heap.size (zaa (T.mk 10 sa na pa [t5]) (.slice (some ⟨w5.heap.size+1,0,none⟩) 1 1)) rfl rfl HOLD.out Tryz.zha (by rw [hol];rfl) (zca _ _ rfl) ?_))
   exact zma (cs:=zaa (T.mk 10 sa na pa [t5]) (.slice (some ⟨w5.heap.size+1,0,none⟩) 1 1)) Tryz.results97 rfl HOLD.out Tryz.underlying36 rfl Tryz.zha rfl (RLe.out.tot (by show 1≤40000;decide) (by rw [zgk];exact HS1.out.andThen (zCa.no hca (zCa.no hx3 (HS4.out.andThen (HS5.out.andThen (zCa.done _ _ _ _)))))))
end
section
open Go.RowKit
def zeg (E:Env) (d:Nat) (blk:List Tok→R T):Prop:=∀ (w:World) (l:List Tok) (f:Int) (q:Nat),RSt E w l d f q→Calls Tryz.prog 40 #[.pointer (some ⟨E.pb,0,none⟩)] w (zqg E w d l f q (blk l))
theorem Blk.zuk {w:World} {g:Nat} (h:g=w.heap.size) (cs:List Value) (t:TypeId):Blk (w.alloc (.cells cs.toArray t)) g cs t:=by
 subst h
 exact Blk.new w cs t
theorem zDd (W:World) {g:Nat} (h:g=W.heap.size) (e:TypeId) (t:T) (v:Value):∀ j u,(zKa [t] [v])[j]?=some u→(W.alloc (.cells (zaa t v).toArray e)).cell? ((⟨g,0,none⟩:Addr).add j)=some u:=by
 subst h
 exact zke W e t v
def zPi (blk:List Tok→R T) (k:Int) (p:Nat) (l:List Tok):R T:=bd (zib k p l) fun n l1=>bd (blk l1) fun b l2=>.ok (n.snoc b,l2)
theorem zDq (blk:List Tok→R T) (k:Int) (p:Nat) (l:List Tok):zPi blk k p l=bd (zWd l) fun n l1=>bd (blk l1) fun b l2=>.ok (.mk k n.text n.num p (n.kids++[b]),l2):=by
 unfold zPi zWd zib
 rw [zAb,zAb]
 congr 1
 funext a l1
 rw [zAb,zAb]
 congr 1
 funext c l2
 rw [zAb,zAb]
 congr 1
def zdq (B:Nat) (E:Env) (w:World) (d:Nat) (l:List Tok) (f:Int) (q:Nat) (r:R T) (e:Ending) (w':World):Prop :=
 ∃ t v lf f' q',e=.returned (zna t v)∧KAt 36 w' t.kids (fun b=>w.heap.size≤b) v∧t.kids.length≤B∧RSt E w' lf d f' q'∧Kp E.pb w w'∧zCa l f q r t lf f' q'
theorem zdq.tot {B:Nat} {E:Env} {w:World} {d:Nat} {l:List Tok} {f:Int} {q:Nat} {r:R T} {e:Ending} {w':World} (h:zdq B E w d l f q r e w') (hB:B≤40000):zqg E w d l f q r e w':=by
 obtain ⟨t,v,lf,f',q',h1,h2,h3,h4,h5,h6⟩:=h
 exact ⟨t,v,lf,f',q',h1,h2,by omega,h4,h5,h6⟩
theorem zFb.totB {B:Nat} {E:Env} {w W:World} {d:Nat} {l l':List Tok} {f f':Int} {q q' g:Nat} {t:T} {v:Value} (h:zFb E w W d l' f' q' g t v) (hn:t.kids.length≤B) {r:R T} (hs:zCa l f q r t l' f' q'):zdq B E w d l f q r (.returned (.agg (zaa t v).toArray)) (W.setRow w.heap.size (zaa t v).toArray):=by
 have h1:=h.gt
 have h2:=h.plt
 have h3:=h.tlt
 exact ⟨t,v,l',f',q',rfl,(h.kids.setRow _ _ (fun b hb=>by omega)).mono (fun b hb _=>by omega),hn,h.st.putRow _ _ (by omega) (by omega),h.kp.setRow (Nat.le_refl _) _,hs⟩
theorem zto {E:Env} {w:World} {l:List Tok} {d:Nat} {f:Int} {q:Nat} (h:RSt E w l d f q) :
  Calls Tryz.prog 43 #[.pointer (some ⟨E.pb,0,none⟩)] w (zdq 2 E w d l f q (zWd l)):=by
 have H:=zh h
 have hplt:=h.plt
 have htlt:=h.tlt
 have HB0:=zh (Blk.new w zba 36)
 clear h
 go_enter Tryz.func43,Tryz.ntmps43
 go_wp2_with fail
 refine (zGc (H.out.alloc _)).mono ?_
 rintro e w1 ⟨t1,v1,l1,f1,q1,rfl,hk1,hn1,hs1,hp1,hsee1⟩
 have HB1:=zh (HB0.out.kp hp1 (by omega))
 have HV1:=zh (show KAt 36 w1 t1.kids (fun b=>w.heap.size<b) v1 from hk1.mono (fun b hb _=>by simp at hb;omega))
 have HK1:=zh (((Kp.refl E.pb w).alloc _).trans hp1)
 have H1:=zh hs1
 have HS1:=zh hsee1
 have hz1:=HB1.out.lt
 clear hk1 hs1 hp1 hsee1
 unfold zna
 go_wp2_with ((with_reducible refine zla 36 (.tmp 3) ?_);refine zga rfl 36 (.tmp 3) (.tmp 7) rfl (zaa t1 v1) (old:=zba) rfl rfl Tryz.zha rfl (zca _ _ HV1.out.one) ?_)
 refine (zWm (H1.out.alloc _)).mono ?_
 rintro e w2 ⟨s,l2,f2,q2,rfl,hs2,hp2,hsee2⟩
 have HB2:=zh ((HB1.out.alloc _).kp hp2 (by omega))
 have HN2:=zh ((Blk.new w1 (zaa t1 v1) 36).kp hp2 (by omega))
 have HK2:=zh ((HK1.out.alloc _).trans hp2)
 have HV2:=zh ((HV1.out.alloc _).kp hp2 (fun b hb=>by omega))
 have HS2:=zh hsee2
 have H2:=zh hs2
 have hz2:=HN2.out.lt
 clear hs2 hp2 hsee2
 go_wp2_with fail
 refine (zGc H2.out).mono ?_
 rintro e w3 ⟨t2,v2,l3,f3,q3,rfl,hk3,hn3,hs3,hp3,hsee3⟩
 have HB3:=zh (HB2.out.kp hp3 (by omega))
 have HN3:=zh (HN2.out.kp hp3 (by omega))
 have HK3:=zh (HK2.out.trans hp3)
 have HV3:=zh (HV2.out.kp hp3 (fun b hb=>by omega))
 have HW3:=zh (show KAt 36 w3 t2.kids (fun b=>w.heap.size<b) v2 from hk3.mono (fun b hb _=>by omega))
 have HS3:=zh hsee3
 have H3:=zh hs3
 have hz3:=HN3.out.lt
 clear hk3 hs3 hp3 hsee3
 unfold zna
 have n3:w3.cell? ⟨w1.heap.size,3,none⟩=some (.int .i64 t1.place):=HN3.out.cell 3
 go_wp2_with (first
  | ((with_reducible refine zla 36 (.tmp 5) ?_);refine zga rfl 36 (.tmp 5) (.tmp 11) rfl (zaa t2 v2) (old:=zba) rfl rfl Tryz.zha rfl (zca _ _ HW3.out.one) ?_)
  | ((with_reducible refine zqa 36 (.tmp 3) ?_);refine zfa rfl 36 (.tmp 3) rfl w1.heap.size t1 v1 rfl (HN3.out.alloc _) Tryz.underlying36 rfl Tryz.zha ?_)
  | ((with_reducible refine zqa 36 (.tmp 5) ?_);refine zfa rfl 36 (.tmp 5) rfl w3.heap.size t2 v2 rfl (Blk.new w3 _ _) Tryz.underlying36 rfl Tryz.zha ?_)
  | ((with_reducible refine zla 36 (.tmp 2) ?_);refine zda rfl 36 (.tmp 2) (.tmp 18) rfl w.heap.size (zaa (T.mk 4 s 0 t1.place [t1,t2]) (.slice (some ⟨w3.heap.size+1,0,none⟩) 2 2)) rfl rfl ((HB3.out.alloc _).alloc _) Tryz.zha rfl (zca _ _ rfl) ?_))
 have hsz:(w3.alloc (.cells (zaa t2 v2).toArray 36)).heap.size=w3.heap.size+1:=by simp
 have hkk:=KAt.zHs (e:=36) (w:=w3.alloc (.cells (zaa t2 v2).toArray 36)) (t:=t1) (u:=t2) (S:=fun b=>w.heap.size<b) (v:=v1) (x:=v2) (TAt.zHa (HV3.out.alloc _)) (TAt.zHa (HW3.out.alloc _)) (by rw [hsz];omega)
 rw [hsz] at hkk
 exact zma (cs:=zaa (T.mk 4 s 0 t1.place [t1,t2]) (.slice (some ⟨w3.heap.size+1,0,none⟩) 2 2)) Tryz.results43 rfl ((HB3.out.alloc _).alloc _) Tryz.underlying36 rfl Tryz.zha rfl
  ⟨T.mk 4 s 0 t1.place [t1,t2],_,l3,f3,q3,rfl,(hkk.setRow _ _ (fun b hb=>by omega)).mono (fun b hb _=>by omega),by show 2≤2;decide,((H3.out.alloc _).alloc _).same (by simp [World.setRow]) (setRow_other _ _ _ _ (by omega)) (setRow_other _ _ _ _ (by omega)),((HK3.out.alloc _).alloc _).setRow (Nat.le_refl _) _,zpl HS1.out HS2.out HS3.out⟩
theorem zzi {E:Env} {w:World} {l:List Tok} {d:Nat} {f:Int} {q:Nat} (h:RSt E w l d f q) {blk:List Tok→R T} (hB:zeg E d blk) (k:Int) (p:Nat) :
  Calls Tryz.prog 94 #[.pointer (some ⟨E.pb,0,none⟩),.int .i64 k,.int .i64 p] w (zdq 3 E w d l f q (zPi blk k p l)):=by
 have H:=zh h
 have hplt:=h.plt
 have htlt:=h.tlt
 have HBC:=zh hB
 have H0:=zh (h.alloc (.cells zba.toArray 36))
 have HK0:=zh ((Kp.refl E.pb w).alloc (.cells zba.toArray 36))
 have HBr0:=zh (Blk.new w zba 36)
 clear h hB
 obtain ⟨i0,z0,I⟩:=Tryz.zPc
 go_enter Tryz.func94,Tryz.ntmps94
 go_wp2_with fail
 refine (zto H0.out).mono ?_
 rintro e w1 ⟨t1,v1,l1,f1,q1,rfl,hk1,hn1,hs1,hp1,hsee1⟩
 have HB1:=zh (HBr0.out.kp hp1 (by omega))
 have HK1:=zh (HK0.out.trans hp1)
 have HV1:=zh (show KAt 36 w1 t1.kids (fun b=>w.heap.size<b) v1 from hk1.mono (fun b hb _=>by simp at hb;omega))
 have H1:=zh hs1
 have HS1:=zh hsee1
 have hz1:=HB1.out.lt
 clear hk1 hs1 hp1 hsee1
 have RL1:=zh (zFb.new (t:=t1) (v:=v1) H1.out HK1.out HB1.out rfl HV1.out hplt htlt)
 unfold zna
 go_wp2_with (((with_reducible refine zla 36 (.tmp 7) ?_);refine zga rfl 36 (.tmp 7) (.tmp 10) rfl (zaa t1 v1) (old:=zba) rfl rfl Tryz.zha rfl (zca _ _ HV1.out.one) ?_))
 refine (HBC.out _ _ _ _ RL1.out.st).mono ?_
 rintro e w2 ⟨t2,v2,l2,f2,q2,rfl,hk2,hn2,hs2,hp2,hsee2⟩
 have RL2:=zh (RL1.out.call hp2 hs2)
 have HV2:=zh (RL1.out.fresh hk2)
 have HS2:=zh hsee2
 have hz2:w1.heap.size<w2.heap.size:=RL2.out.lt
 have n0:w2.cell? ⟨w1.heap.size,0,none⟩=some (.int .i64 t1.kind):=RL2.out.blk.cell 0
 have nf0:=RL2.out.blk.frozen 0
 have n3:w2.cell? ⟨w1.heap.size,3,none⟩=some (.int .i64 t1.place):=RL2.out.blk.cell 3
 have nf3:=RL2.out.blk.frozen 3
 have n4:w2.cell? ⟨w1.heap.size,4,none⟩=some v1:=RL2.out.blk.cell 4
 have RLs:=zh ((RL2.out.set 0 (.int .i64 k) (T.mk k t1.text t1.num t1.place t1.kids) rfl rfl).set 3 (.int .i64 p) (T.mk k t1.text t1.num p t1.kids) rfl rfl)
 clear hk2 hs2 hp2 hsee2
 unfold zna
 go_wp2_with (first|((with_reducible refine zla 36 (.tmp 8) ?_);refine zga rfl 36 (.tmp 8) (.tmp 12) rfl (zaa t2 v2) (old:=zba) rfl rfl Tryz.zha rfl (zca _ _ HV2.out.one) ?_)|((with_reducible refine zqa 36 (.tmp 8) ?_);refine zfa rfl 36 (.tmp 8) rfl w2.heap.size t2 v2 rfl (Blk.zuk (by simp) _ _) Tryz.underlying36 rfl Tryz.zha ?_)|(at_builtin;refine zxa rfl (.tmp 18) (.tmp 20) rfl I (ks:=t1.kids) (ts:=[t2]) (S:=fun b=>w.heap.size<b∧b≠w1.heap.size) rfl ((RLs.out.alloc _).alloc _).kids (us:=[v2]) (zGb.single ?c1) ?c2 rfl rfl (by simp) (zDd _ (by simp) _ t2 v2) ?c3 ?_))
 case c1=>exact TAt.zHa (((((HV2.out.mono (S':=fun b=>(w.heap.size<b∧b≠w1.heap.size)∧v1.ownBlock≠some b) (fun _ hb _=>hb)).setCell ⟨w1.heap.size,0,none⟩ _ (fun b hb=>hb.1.2)).setCell ⟨w1.heap.size,3,none⟩ _ (fun b hb=>hb.1.2)).alloc _).alloc _)
 case c2=>simp only [World.size_alloc,World.size_setCell];omega
 case c3=>simp;omega
 intro v6 w6 hK6 hg6 hb6
 obtain ⟨sa,sn,sc,rfl⟩:=hK6.slice
 obtain ⟨ha1,ha2,ha3,ha4⟩:=((RLs.out.alloc _).alloc _).after hK6 hg6
 have RL6:=zh ha1
 clear ha1 hK6 hg6 hb6 n0 nf0 n3 nf3 n4
 obtain ⟨old,hold,hol⟩:=RL6.out.res
 have HOLD:=zh hold
 clear hold
 go_wp2_with (first|((with_reducible refine zqa 36 (.tmp 7) ?_);refine zfa rfl 36 (.tmp 7) rfl w1.heap.size (T.mk k t1.text t1.num p (t1.kids++[t2])) (.slice sa sn sc) rfl RL6.out.blk Tryz.underlying36 rfl Tryz.zha ?_)|((with_reducible refine zla 36 (.tmp 6) ?_);refine zda rfl 36 (.tmp 6) (.tmp 23) rfl w.heap.size (zaa (T.mk k t1.text t1.num p (t1.kids++[t2])) (.slice sa sn sc)) rfl rfl HOLD.out Tryz.zha (by rw [hol];rfl) (zca _ _ rfl) ?_))
 exact zma (cs:=zaa (T.mk k t1.text t1.num p (t1.kids++[t2])) (.slice sa sn sc)) Tryz.results94 rfl HOLD.out Tryz.underlying36 rfl Tryz.zha rfl (RL6.out.totB (by rw [zXb,List.length_append];simp;omega) (by rw [zDq];exact HS1.out.andThen (HS2.out.andThen (zCa.done _ _ _ _))))
end
section
open Go.RowKit
theorem zFb.zcl {E:Env} {w:World} {l:List Tok} {d:Nat} {q:Nat} (h:RSt E w l d 0 q) (he:Ends l.tail) (N:Nat) (t:T) (ht:t.kids=[]) (k:Nat) (hk:E.ts.length-l.length=k) :
  zFb E w ((((w.alloc (.cells zba.toArray 36)).drewN N).setCell ⟨E.pb,1,none⟩ (.int .i64 ((k:Int)+1))).alloc (.cells (zaa t (.slice none 0 0)).toArray 36)) d l.tail 0 q (w.heap.size+1) t (.slice none 0 0):=by
 subst hk
 have hp:=h.plt
 have h1:RSt E ((w.alloc (.cells zba.toArray 36)).drewN N) l d 0 q:=(h.alloc _).same (Nat.le_refl _) rfl rfl
 have h2:=h1.zbu he
 have hb:Blk ((w.alloc (.cells zba.toArray 36)).drewN N) w.heap.size zba 36:=Blk.new w _ _
 refine ⟨h2.alloc _,(((((Kp.refl E.pb w).alloc _).draws N).zeh 1 _)).alloc _,⟨_,(hb.setOther _ _ (by show w.heap.size≠E.pb;omega)).alloc _,rfl⟩,Blk.zuk (by simp) _ _,by rw [ht];exact KAt.nil _ _ _,by omega,h.plt,h.tlt⟩
theorem zte {blk:List Tok→R T} {l:List Tok} (hk:(hdT l).kind=2) (h1:isT (hdT l) (bs [105,102])=false) (h2:isT (hdT l) (bs [119,104,105,108,101])=false):zRb blk l=bd (bif isT (hdT l) (bs [102,114,101,101]) then bd (zKb l.tail) fun s l1=>.ok (.mk 12 s 0 (hdT l).place [],l1)
 else bif isT (hdT l) (bs [108,111,99,107]) then zue 13 (hdT l).place l.tail
 else bif isT (hdT l) (bs [117,110,108,111,99,107]) then zue 14 (hdT l).place l.tail
 else bif isT (hdT l) (bs [114,101,116,117,114,110]) then zMc (hdT l).place l.tail
 else bif isT (hdT l) (bs [97,98,111,114,116]) then .ok (.mk 18 e0 0 (hdT l).place [],l.tail)
 else bif isT (hdT l) (bs [102,111,114,107]) then bd (zKb l.tail) fun s l1=>bd (zfb zXa l1) fun xs l2=>.ok (.mk 19 s 0 (hdT l).place xs,l2)
 else .error ((hdT l).place,20)) fun n l1=>bd (zsa [bs [59]] l1) fun _ l2=>.ok (n,l2):=by
 unfold zRb zTa
 rw [h1,h2,show ((hdT l).kind == 1)=false by rw [hk];rfl]
 rfl
theorem zhm {E:Env} {w:World} {l:List Tok} {d:Nat} {q:Nat} (h:RSt E w l d 0 q) (hk2:(hdT l).kind=2) (hi:isT (hdT l) (bs [97,98,111,114,116])=true) (blk:List Tok→R T) :
  Calls Tryz.prog 70 #[.pointer (some ⟨E.pb,0,none⟩)] w (zqg E w d l 0 q (zRb blk l)):=by
 have H:=zh h
 have hplt:=h.plt
 have htlt:=h.tlt
 have HEND:=zh (h.ends.zId hi (by decide))
 have c0:w.cell? ⟨E.pb,0,none⟩=some (.slice (some ⟨E.tb,0,none⟩) E.ts.length E.cap):=h.blk.cell 0
 have c1:w.cell? ⟨E.pb,1,none⟩=some (.int .i64 ((E.ts.length-l.length:Nat):Int)):=h.blk.cell 1
 have cf1:=h.blk.frozen 1
 obtain ⟨t0,t1,t2,t3⟩:=h.tok
 have hk:E.ts.length-l.length<E.ts.length:=by have:=h.head.1;have:=h.le;omega
 have hlen:=h.len
 have hcap:=h.capb
 have ix1:(0:Int)≤((E.ts.length-l.length:Nat):Int):=by omega
 have ix2:(((E.ts.length-l.length:Nat):Int))<(E.ts.length:Int):=by omega
 obtain ⟨k,hidx⟩:∃ k,E.ts.length-l.length=k:=⟨_,rfl⟩
 have HIDX:=zh hidx
 have HK2:=zh hk2
 rw [hidx] at c1 t0 t1 t2 t3 hk ix1 ix2
 clear hidx
 generalize hT:hdT l=tk at t0 t1 t2 t3 hi hk2 HK2
 have HT:=zh hT
 have HI:=zh hi
 have hkk:((tk.kind:Int) == 2)=true:=by rw [hk2];rfl
 obtain ⟨s_if,s_if2⟩:=zlb (zza hi (b:=bs [105,102]) (by kernel_rfl))
 obtain ⟨s_while,s_while2⟩:=zlb (zza hi (b:=bs [119,104,105,108,101]) (by kernel_rfl))
 obtain ⟨s_free,s_free2⟩:=zlb (zza hi (b:=bs [102,114,101,101]) (by kernel_rfl))
 obtain ⟨s_lock,s_lock2⟩:=zlb (zza hi (b:=bs [108,111,99,107]) (by kernel_rfl))
 obtain ⟨s_unlock,s_unlock2⟩:=zlb (zza hi (b:=bs [117,110,108,111,99,107]) (by kernel_rfl))
 obtain ⟨s_return,s_return2⟩:=zlb (zza hi (b:=bs [114,101,116,117,114,110]) (by kernel_rfl))
 obtain ⟨s_abort,s_abort2⟩:=ztd hi
 clear h hT t2 hi hk2
 obtain ⟨i0,z0,I⟩:=Tryz.zPc
 go_enter Tryz.func70,Tryz.ntmps70
 go_wp2_with fail
 go_quiet (fail)
 go_wp2_with fail
 go_quiet (fail)
 go_wp2_with fail
 go_quiet (fail)
 go_wp2_with fail
 have RL0:=zh (fun N=>zFb.zcl H.out HEND.out N (T.mk 18 e0 0 tk.place []) rfl k HIDX.out)
 refine (zRa (RL0.out _).st (bs [59]) zgi (by decide)).mono ?_
 rintro e w1 ⟨l1,f1,q1,rfl,hs1,hp1,tk1,hsee1⟩
 have RL1:=zh ((RL0.out _).call hp1 hs1)
 have HS1:=zh hsee1
 clear hs1 hp1 hsee1
 obtain ⟨old,hold,hol⟩:=RL1.out.res
 have HOLD:=zh hold
 clear hold
 go_wp2_with (first|((with_reducible refine zqa 36 (.tmp 5) ?_);refine zfa rfl 36 (.tmp 5) rfl (w.heap.size+1) (T.mk 18 e0 0 tk.place []) (.slice none 0 0) rfl RL1.out.blk Tryz.underlying36 rfl Tryz.zha ?_)|((with_reducible refine zla 36 (.tmp 2) ?_);refine zda rfl 36 (.tmp 2) (.tmp 187) rfl w.heap.size (zaa (T.mk 18 e0 0 tk.place []) (.slice none 0 0)) rfl rfl HOLD.out Tryz.zha (by rw [hol];rfl) (zca _ _ RL1.out.kids.one) ?_))
 exact zma (cs:=zaa (T.mk 18 e0 0 tk.place []) (.slice none 0 0)) Tryz.results70 rfl HOLD.out Tryz.underlying36 rfl Tryz.zha rfl (RL1.out.tot (by simp [T.kids]) (by
  rw [zte (by rw [HT.out];exact HK2.out) (by rw [HT.out];exact (zza HI.out (b:=bs [105,102]) (by kernel_rfl))) (by rw [HT.out];exact (zza HI.out (b:=bs [119,104,105,108,101]) (by kernel_rfl))),HT.out,(zza HI.out (b:=bs [102,114,101,101]) (by kernel_rfl)),(zza HI.out (b:=bs [108,111,99,107]) (by kernel_rfl)),(zza HI.out (b:=bs [117,110,108,111,99,107]) (by kernel_rfl)),(zza HI.out (b:=bs [114,101,116,117,114,110]) (by kernel_rfl)),HI.out]
  simp only [cond_true,cond_false]
  exact zCa.behind rfl (HS1.out.andThen (zCa.done _ _ _ _))))
theorem zwm {E:Env} {w:World} {l:List Tok} {d:Nat} {q:Nat} (h:RSt E w l d 0 q) (hk2:(hdT l).kind=2) (hi:isT (hdT l) (bs [119,104,105,108,101])=true) {blk:List Tok→R T} (hB:zeg E d blk) :
  Calls Tryz.prog 70 #[.pointer (some ⟨E.pb,0,none⟩)] w (zqg E w d l 0 q (zRb blk l)):=by
 have H:=zh h
 have hplt:=h.plt
 have htlt:=h.tlt
 have HEND:=zh (h.ends.zId hi (by decide))
 have c0:w.cell? ⟨E.pb,0,none⟩=some (.slice (some ⟨E.tb,0,none⟩) E.ts.length E.cap):=h.blk.cell 0
 have c1:w.cell? ⟨E.pb,1,none⟩=some (.int .i64 ((E.ts.length-l.length:Nat):Int)):=h.blk.cell 1
 have cf1:=h.blk.frozen 1
 obtain ⟨t0,t1,t2,t3⟩:=h.tok
 have hk:E.ts.length-l.length<E.ts.length:=by have:=h.head.1;have:=h.le;omega
 have hlen:=h.len
 have hcap:=h.capb
 have ix1:(0:Int)≤((E.ts.length-l.length:Nat):Int):=by omega
 have ix2:(((E.ts.length-l.length:Nat):Int))<(E.ts.length:Int):=by omega
 obtain ⟨k,hidx⟩:∃ k,E.ts.length-l.length=k:=⟨_,rfl⟩
 have HIDX:=zh hidx
 have HK2:=zh hk2
 rw [hidx] at c1 t0 t1 t2 t3 hk ix1 ix2
 clear hidx
 generalize hT:hdT l=tk at t0 t1 t2 t3 hi hk2 HK2
 have HT:=zh hT
 have HI:=zh hi
 have hkk:((tk.kind:Int) == 2)=true:=by rw [hk2];rfl
 obtain ⟨s_if,s_if2⟩:=zlb (zza hi (b:=bs [105,102]) (by kernel_rfl))
 obtain ⟨s_while,s_while2⟩:=ztd hi
 clear h hT t2 hi hk2
 obtain ⟨i0,z0,I⟩:=Tryz.zPc
 go_enter Tryz.func70,Tryz.ntmps70
 go_wp2_with fail
 go_quiet (fail)
 go_wp2_with fail
 go_quiet (fail)
 go_wp2_with fail
 go_quiet (fail)
 go_wp2_with fail
 have RL0:=zh (fun N=>zFb.zcl H.out HEND.out N (T.mk 0 e0 0 tk.place []) rfl k HIDX.out)
 refine (zzi (RL0.out _).st hB 16 tk.place).mono ?_
 rintro e w1 ⟨t1,v1,l1,f1,q1,rfl,hk1,hn1,hs1,hp1,hsee1⟩
 have RL1:=zh ((RL0.out _).call hp1 hs1)
 have HV1:=zh ((RL0.out _).zYd hk1)
 have HS1:=zh hsee1
 clear hk1 hs1 hp1 hsee1
 unfold zna
 obtain ⟨old,hold,hol⟩:=RL1.out.res
 have HOLD:=zh hold
 clear hold
 go_wp2_with ((with_reducible refine zla 36 (.tmp 2) ?_);refine zda rfl 36 (.tmp 2) (.tmp 91) rfl w.heap.size (zaa t1 v1) rfl rfl HOLD.out Tryz.zha (by rw [hol];rfl) (zca _ _ HV1.out.one) ?_)
 exact zma (cs:=zaa t1 v1) Tryz.results70 rfl HOLD.out Tryz.underlying36 rfl Tryz.zha rfl (RL1.out.zOk HV1.out (by omega) (by
  unfold zRb
  rw [HT.out,(zza HI.out (b:=bs [105,102]) (by kernel_rfl)),HI.out]
  simp only [cond_true,cond_false]
  exact zCa.behind rfl HS1.out))
theorem zuo {E:Env} {w:World} {l:List Tok} {d:Nat} {q:Nat} (h:RSt E w l d 0 q) (hk2:(hdT l).kind=2) (hi:isT (hdT l) (bs [102,114,101,101])=true) (blk:List Tok→R T) :
  Calls Tryz.prog 70 #[.pointer (some ⟨E.pb,0,none⟩)] w (zqg E w d l 0 q (zRb blk l)):=by
 have H:=zh h
 have hplt:=h.plt
 have htlt:=h.tlt
 have HEND:=zh (h.ends.zId hi (by decide))
 have c0:w.cell? ⟨E.pb,0,none⟩=some (.slice (some ⟨E.tb,0,none⟩) E.ts.length E.cap):=h.blk.cell 0
 have c1:w.cell? ⟨E.pb,1,none⟩=some (.int .i64 ((E.ts.length-l.length:Nat):Int)):=h.blk.cell 1
 have cf1:=h.blk.frozen 1
 obtain ⟨t0,t1,t2,t3⟩:=h.tok
 have hk:E.ts.length-l.length<E.ts.length:=by have:=h.head.1;have:=h.le;omega
 have hlen:=h.len
 have hcap:=h.capb
 have ix1:(0:Int)≤((E.ts.length-l.length:Nat):Int):=by omega
 have ix2:(((E.ts.length-l.length:Nat):Int))<(E.ts.length:Int):=by omega
 obtain ⟨k,hidx⟩:∃ k,E.ts.length-l.length=k:=⟨_,rfl⟩
 have HIDX:=zh hidx
 have HK2:=zh hk2
 rw [hidx] at c1 t0 t1 t2 t3 hk ix1 ix2
 clear hidx
 generalize hT:hdT l=tk at t0 t1 t2 t3 hi hk2 HK2
 have HT:=zh hT
 have HI:=zh hi
 have hkk:((tk.kind:Int) == 2)=true:=by rw [hk2];rfl
 obtain ⟨s_if,s_if2⟩:=zlb (zza hi (b:=bs [105,102]) (by kernel_rfl))
 obtain ⟨s_while,s_while2⟩:=zlb (zza hi (b:=bs [119,104,105,108,101]) (by kernel_rfl))
 obtain ⟨s_free,s_free2⟩:=ztd hi
 clear h hT t2 hi hk2
 obtain ⟨i0,z0,I⟩:=Tryz.zPc
 go_enter Tryz.func70,Tryz.ntmps70
 go_wp2_with fail
 go_quiet (fail)
 go_wp2_with fail
 go_quiet (fail)
 go_wp2_with fail
 go_quiet (fail)
 go_wp2_with fail
 have RL0:=zh (fun N=>zFb.zcl H.out HEND.out N (T.mk 0 e0 0 tk.place []) rfl k HIDX.out)
 refine (zQb (RL0.out _).st).mono ?_
 rintro e w1 ⟨ka,sa,na,pa,l1,f1,q1,rfl,hs1,hp1,hsee1⟩
 have RLx:=zh ((RL0.out _).call hp1 hs1)
 have HS1:=zh hsee1
 have hz1:w.heap.size+1<w1.heap.size:=RLx.out.lt
 clear hs1 hp1 hsee1
 have n0:w1.cell? ⟨w.heap.size+1,0,none⟩=some (.int .i64 0):=RLx.out.blk.cell 0
 have nf0:=RLx.out.blk.frozen 0
 have n1:w1.cell? ⟨w.heap.size+1,1,none⟩=some (.string e0):=RLx.out.blk.cell 1
 have nf1:=RLx.out.blk.frozen 1
 have RLk:=zh (((RLx.out.set 0 (.int .i64 12) (T.mk 12 e0 0 tk.place []) rfl rfl).set 1 (.string sa) (T.mk 12 sa 0 tk.place []) rfl rfl).alloc (.cells (zaa (T.mk ka sa na pa []) (.slice none 0 0)).toArray 36))
 go_wp2_with fail
 clear n0 nf0 n1 nf1
 refine (zRa RLk.out.st (bs [59]) zgi (by decide)).mono ?_
 rintro e w2 ⟨l2,f2,q2,rfl,hs2,hp2,tk2,hsee2⟩
 have RL2:=zh (RLk.out.call hp2 hs2)
 have HS2:=zh hsee2
 clear hs2 hp2 hsee2
 obtain ⟨old,hold,hol⟩:=RL2.out.res
 have HOLD:=zh hold
 clear hold
 go_wp2_with (first|((with_reducible refine zqa 36 (.tmp 5) ?_);refine zfa rfl 36 (.tmp 5) rfl (w.heap.size+1) (T.mk 12 sa 0 tk.place []) (.slice none 0 0) rfl RL2.out.blk Tryz.underlying36 rfl Tryz.zha ?_)|((with_reducible refine zla 36 (.tmp 2) ?_);refine zda rfl 36 (.tmp 2) (.tmp 187) rfl w.heap.size (zaa (T.mk 12 sa 0 tk.place []) (.slice none 0 0)) rfl rfl HOLD.out Tryz.zha (by rw [hol];rfl) (zca _ _ RL2.out.kids.one) ?_))
 exact zma (cs:=zaa (T.mk 12 sa 0 tk.place []) (.slice none 0 0)) Tryz.results70 rfl HOLD.out Tryz.underlying36 rfl Tryz.zha rfl (RL2.out.tot (by simp [T.kids]) (by
  rw [zte (by rw [HT.out];exact HK2.out) (by rw [HT.out];exact (zza HI.out (b:=bs [105,102]) (by kernel_rfl))) (by rw [HT.out];exact (zza HI.out (b:=bs [119,104,105,108,101]) (by kernel_rfl))),HT.out,HI.out]
  simp only [cond_true]
  rw [zFg]
  rw [zAb]
  exact zCa.behind rfl (HS1.out.andThen (HS2.out.andThen (zCa.done _ _ _ _)))))
theorem zTn {E:Env} {w:World} {l:List Tok} {d:Nat} {q:Nat} (h:RSt E w l d 0 q) (hk2:(hdT l).kind=2) (hi:isT (hdT l) (bs [102,111,114,107])=true) (blk:List Tok→R T) :
  Calls Tryz.prog 70 #[.pointer (some ⟨E.pb,0,none⟩)] w (zqg E w d l 0 q (zRb blk l)):=by
 have H:=zh h
 have hplt:=h.plt
 have htlt:=h.tlt
 have HEND:=zh (h.ends.zId hi (by decide))
 have c0:w.cell? ⟨E.pb,0,none⟩=some (.slice (some ⟨E.tb,0,none⟩) E.ts.length E.cap):=h.blk.cell 0
 have c1:w.cell? ⟨E.pb,1,none⟩=some (.int .i64 ((E.ts.length-l.length:Nat):Int)):=h.blk.cell 1
 have cf1:=h.blk.frozen 1
 obtain ⟨t0,t1,t2,t3⟩:=h.tok
 have hk:E.ts.length-l.length<E.ts.length:=by have:=h.head.1;have:=h.le;omega
 have hlen:=h.len
 have hcap:=h.capb
 have ix1:(0:Int)≤((E.ts.length-l.length:Nat):Int):=by omega
 have ix2:(((E.ts.length-l.length:Nat):Int))<(E.ts.length:Int):=by omega
 obtain ⟨k,hidx⟩:∃ k,E.ts.length-l.length=k:=⟨_,rfl⟩
 have HIDX:=zh hidx
 have HK2:=zh hk2
 rw [hidx] at c1 t0 t1 t2 t3 hk ix1 ix2
 clear hidx
 generalize hT:hdT l=tk at t0 t1 t2 t3 hi hk2 HK2
 have HT:=zh hT
 have HI:=zh hi
 have hkk:((tk.kind:Int) == 2)=true:=by rw [hk2];rfl
 obtain ⟨s_if,s_if2⟩:=zlb (zza hi (b:=bs [105,102]) (by kernel_rfl))
 obtain ⟨s_while,s_while2⟩:=zlb (zza hi (b:=bs [119,104,105,108,101]) (by kernel_rfl))
 obtain ⟨s_free,s_free2⟩:=zlb (zza hi (b:=bs [102,114,101,101]) (by kernel_rfl))
 obtain ⟨s_lock,s_lock2⟩:=zlb (zza hi (b:=bs [108,111,99,107]) (by kernel_rfl))
 obtain ⟨s_unlock,s_unlock2⟩:=zlb (zza hi (b:=bs [117,110,108,111,99,107]) (by kernel_rfl))
 obtain ⟨s_return,s_return2⟩:=zlb (zza hi (b:=bs [114,101,116,117,114,110]) (by kernel_rfl))
 obtain ⟨s_abort,s_abort2⟩:=zlb (zza hi (b:=bs [97,98,111,114,116]) (by kernel_rfl))
 obtain ⟨s_fork,s_fork2⟩:=ztd hi
 clear h hT t2 hi hk2
 obtain ⟨i0,z0,I⟩:=Tryz.zPc
 go_enter Tryz.func70,Tryz.ntmps70
 go_wp2_with fail
 go_quiet (fail)
 go_wp2_with fail
 go_quiet (fail)
 go_wp2_with fail
 go_quiet (fail)
 go_wp2_with fail
 have RL0:=zh (fun N=>zFb.zcl H.out HEND.out N (T.mk 0 e0 0 tk.place []) rfl k HIDX.out)
 refine (zQb (RL0.out _).st).mono ?_
 rintro e w1 ⟨ka,sa,na,pa,l1,f1,q1,rfl,hs1,hp1,hsee1⟩
 have RLx:=zh ((RL0.out _).call hp1 hs1)
 have HS1:=zh hsee1
 have hz1:w.heap.size+1<w1.heap.size:=RLx.out.lt
 clear hs1 hp1 hsee1
 have n0:w1.cell? ⟨w.heap.size+1,0,none⟩=some (.int .i64 0):=RLx.out.blk.cell 0
 have nf0:=RLx.out.blk.frozen 0
 have n1:w1.cell? ⟨w.heap.size+1,1,none⟩=some (.string e0):=RLx.out.blk.cell 1
 have nf1:=RLx.out.blk.frozen 1
 have RLk:=zh (((RLx.out.set 0 (.int .i64 19) (T.mk 19 e0 0 tk.place []) rfl rfl).set 1 (.string sa) (T.mk 19 sa 0 tk.place []) rfl rfl).alloc (.cells (zaa (T.mk ka sa na pa []) (.slice none 0 0)).toArray 36))
 go_wp2_with fail
 clear n0 nf0 n1 nf1
 refine (zri RLk.out.st).mono ?_
 rintro e w2 ⟨xs,xv,l2,f2,q2,rfl,hk2,hn2,hs2,hp2,hsee2⟩
 have RL2:=zh (RLk.out.call hp2 hs2)
 have HV2:=zh (RLk.out.zYd hk2)
 have HS2:=zh hsee2
 obtain ⟨sa1,sn1,sc1,rfl⟩:=hk2.slice
 clear hk2 hs2 hp2 hsee2
 have n4:w2.cell? ⟨w.heap.size+1,4,none⟩=some (.slice none 0 0):=RL2.out.blk.cell 4
 have nf4:=RL2.out.blk.frozen 4
 have RL3:=zh (RL2.out.zeb xs _ HV2.out)
 go_wp2_with fail
 refine (zRa RL3.out.st (bs [59]) zgi (by decide)).mono ?_
 rintro e w4 ⟨l4,f4,q4,rfl,hs4,hp4,tk4,hsee4⟩
 have RL4:=zh (RL3.out.call hp4 hs4)
 have HS4:=zh hsee4
 clear hs4 hp4 hsee4
 obtain ⟨old,hold,hol⟩:=RL4.out.res
 have HOLD:=zh hold
 clear hold
 go_wp2_with (first|((with_reducible refine zqa 36 (.tmp 5) ?_);refine zfa rfl 36 (.tmp 5) rfl (w.heap.size+1) (T.mk 19 sa 0 tk.place xs) (.slice sa1 sn1 sc1) rfl RL4.out.blk Tryz.underlying36 rfl Tryz.zha ?_)|((with_reducible refine zla 36 (.tmp 2) ?_);refine zda rfl 36 (.tmp 2) (.tmp 187) rfl w.heap.size (zaa (T.mk 19 sa 0 tk.place xs) (.slice sa1 sn1 sc1)) rfl rfl HOLD.out Tryz.zha (by rw [hol];rfl) (zca _ _ RL4.out.kids.one) ?_))
 exact zma (cs:=zaa (T.mk 19 sa 0 tk.place xs) (.slice sa1 sn1 sc1)) Tryz.results70 rfl HOLD.out Tryz.underlying36 rfl Tryz.zha rfl (RL4.out.tot (hn2) (by
  rw [zte (by rw [HT.out];exact HK2.out) (by rw [HT.out];exact (zza HI.out (b:=bs [105,102]) (by kernel_rfl))) (by rw [HT.out];exact (zza HI.out (b:=bs [119,104,105,108,101]) (by kernel_rfl))),HT.out,(zza HI.out (b:=bs [102,114,101,101]) (by kernel_rfl)),(zza HI.out (b:=bs [108,111,99,107]) (by kernel_rfl)),(zza HI.out (b:=bs [117,110,108,111,99,107]) (by kernel_rfl)),(zza HI.out (b:=bs [114,101,116,117,114,110]) (by kernel_rfl)),(zza HI.out (b:=bs [97,98,111,114,116]) (by kernel_rfl)),HI.out]
  simp only [cond_true,cond_false]
  rw [show (bd (zKb l.tail) fun s l1=>bd (zfb zXa l1) fun xs l2=>(.ok (T.mk 19 s 0 tk.place xs,l2):R T))=bd (zoa l.tail) fun a l1=>bd (zfb zXa l1) fun xs l2=>.ok (T.mk 19 a.text 0 tk.place xs,l2) by unfold zoa;cases zKb l.tail<;>rfl]
  rw [zAb]
  refine zCa.behind rfl (HS1.out.andThen ?_)
  rw [zAb]
  exact HS2.out.andThen (HS4.out.andThen (zCa.done _ _ _ _))))
end
end Go.Proofs.YtpjnpffcnmgdcaaGreatDoor
