/- The contract of lychgateref02.expr. -/
import Derived.Test.YtpjnpffcnmgdcaaGreatDoorZ16
namespace Go.Proofs.YtpjnpffcnmgdcaaGreatDoor
set_option maxRecDepth 100000
set_option maxHeartbeats 4000000
open Go.RowKit
theorem ztu:zOa (bs [110,101,119])=true:=by kernel_rfl
theorem zQr:zOa (bs [97,114,114,97,121])=true:=by kernel_rfl
theorem zJr {l:List Tok} (h:isT (hdT l) (bs [110,101,119])=true):zpc l=bd (zEa l.tail) fun v l1=>.ok (.mk 23 e0 v (hdT l).place [],l1):=by
 unfold zpc
 rw [h]
 rfl
theorem zFg (l:List Tok) (k:Int) (p:Nat):(bd (zKb l) fun s l1=>(.ok (T.mk k s 0 p [],l1):R T))=bd (zoa l) fun a l1=>.ok (.mk k a.text 0 p [],l1):=by
 unfold zoa
 cases zKb l with
 | error e=>rfl
 | ok x=>rfl
theorem zvn {l:List Tok} (h0:isT (hdT l) (bs [110,101,119])=false) (h:isT (hdT l) (bs [97,114,114,97,121])=true):zpc l=bd (zoa l.tail) fun a l1=>.ok (.mk 24 a.text 0 (hdT l).place [],l1):=by
 rw [← zFg]
 unfold zpc
 rw [h0,h]
 rfl
theorem zin {l:List Tok} (h0:isT (hdT l) (bs [110,101,119])=false) (h1:isT (hdT l) (bs [97,114,114,97,121])=false) (h:isT (hdT l) (bs [38])=true):zpc l=bif isT (hdT l.tail) (bs [109,117,116]) then bd (zoa l.tail.tail) fun a l1=>.ok (.mk 27 a.text 0 (hdT l).place [],l1) else bd (zoa l.tail) fun a l1=>.ok (.mk 26 a.text 0 (hdT l).place [],l1):=by
 rw [← zFg,← zFg]
 unfold zpc zJl
 rw [h0,h1,h]
 rfl
theorem zup {l:List Tok} (h0:isT (hdT l) (bs [110,101,119])=false) (h1:isT (hdT l) (bs [97,114,114,97,121])=false) (h2:isT (hdT l) (bs [38])=false) (h:((hdT l).kind == 1)=false):zpc l=zXa l:=by
 unfold zpc zXa
 rw [h0,h1,h2,h]
 rfl
theorem zfq {l:List Tok} (h0:isT (hdT l) (bs [110,101,119])=false) (h1:isT (hdT l) (bs [97,114,114,97,121])=false) (h2:isT (hdT l) (bs [38])=false) (h:((hdT l).kind == 1)=true):zpc l=zMa l:=by
 unfold zpc
 rw [h0,h1,h2,h]
 rfl
theorem zcm (l:List Tok):zMa l=bd (zoa l) fun n l1 =>
  bif isT (hdT l1) (bs [40]) then bd (zfb zXa l1) fun xs l2=>.ok (.mk 28 n.text n.num n.place xs,l2)
  else bif isT (hdT l1) (bs [91]) then bd (zXa l1.tail) fun a l2=>bd (zsa [bs [93]] l2) fun _ l3=>.ok (.mk 25 n.text n.num n.place [a],l3)
  else zKl (sumP l1) (.ok (n,l1)) fun k x=>bif (hdT l1.tail).kind == 1 then bd (zoa l1.tail) fun m l=>.ok (.mk k e0 0 n.place [n,m],l) else bd (zEa l1.tail) fun v l=>.ok (n.zkb (x * v),l):=by
 unfold zMa zoa
 cases zKb l with
 | error e=>rfl
 | ok x =>
  obtain ⟨s,l1⟩:=x
  show (bif isT (hdT l1) (bs [91]) then _ else _)=(bif isT (hdT l1) (bs [40]) then _ else _)
  cases h:isT (hdT l1) (bs [91]) with
  | true =>
   rw [zza h (b:=bs [40]) (by kernel_rfl),cond_true,cond_false,cond_true]
   unfold zwd
   have e1:zsa [bs [91]] l1=.ok (hdT l1,l1.tail):=by unfold zsa;simp [h]
   rw [zpa e1,zAb]
   congr 1
   funext a l2
   rw [zAb]
   rfl
  | false =>
   rw [cond_false,cond_false]
   rfl
theorem zFb.zqn {E:Env} {w W:World} {d:Nat} {l:List Tok} {f:Int} {q g:Nat} {t:T} {v:Value} (h:zFb E w W d l f q g t v) (t':T) (v':Value) (hk:KAt 36 W t'.kids (fun b=>w.heap.size<b∧b≠g) v'):zFb E w (W.setRow g (zaa t' v').toArray) d l f q g t' v':=by
 have h1:=h.gt
 have h2:=h.plt
 have h3:=h.tlt
 obtain ⟨old,ho,hl⟩:=h.res
 exact ⟨h.st.putRow _ _ (by omega) (by omega),h.kp.setRow (by omega) _,⟨old,(setRow_other _ _ _ _ (by omega)).trans ho,hl⟩,h.blk.zra _,hk.setRow _ _ (fun b hb=>hb.2),h.gt,h.plt,h.tlt⟩
theorem RSt.next {E:Env} {w:World} {l:List Tok} {d:Nat} {f:Int} {q:Nat} (h:RSt E w l d f q) (he:Ends l.tail):E.ts[E.ts.length-l.length+1]?=some (hdT l.tail):=by
 obtain ⟨t,r,e⟩:=he.ne
 have h1:(E.ts.drop (E.ts.length-l.length))[1]?=some (hdT l.tail):=by
  rw [← h.suf,e]
  cases l with
  | nil=>cases e
  | cons a l=>rw [List.tail_cons] at e;rw [e];rfl
 rw [List.getElem?_drop] at h1
 exact h1
theorem zFb.step {E:Env} {w W:World} {d:Nat} {l l':List Tok} {f:Int} {q g:Nat} {t:T} {v x:Value} (h:zFb E w W d l f q g t v) (hs:RSt E (W.setCell ⟨E.pb,1,none⟩ x) l' d f q):zFb E w (W.setCell ⟨E.pb,1,none⟩ x) d l' f q g t v:=by
 have h1:=h.gt
 have h2:=h.plt
 obtain ⟨old,ho,hl⟩:=h.res
 exact ⟨hs,h.kp.zeh 1 x,⟨old,ho.setOther _ _ (by show _≠E.pb;omega),hl⟩,h.blk.setOther _ _ (by show _≠E.pb;omega),h.kids.setCell _ _ (fun b hb=>by show _≠E.pb;omega),h.gt,h.plt,h.tlt⟩
theorem zSe {P:Program} {ops:Array Oper} {rest:List Oper} {o:Oper} {a:Act} {w:World} {Q:Exit→Act→World→Prop} (hgd:o.guard=none) (ty:TypeId) (x y:Operand) {g:Nat} (hg:g=w.heap.size) (ho:o.op=.store ty x y)
  (cells:List Value) {t:TypeId} {old:List Value} (hx:a.eval x=.pointer (some ⟨g,0,none⟩)) (hi:(P.info? ty).map (·.size)=some 5)
  (hold:old.length=cells.length) (h1:∀ v∈cells,v.oneCell'=true) (hc:cells.length=5:=by rfl) (hy:a.eval y=.agg cells.toArray:=by rfl)
  (h:wpList P ops Q rest (a.put o.dst undef) (w.alloc (.cells cells.toArray t))):wpList P ops Q (o :: rest) a (w.alloc (.cells old.toArray t)) :=
 zga hgd ty x y ho cells (by rw [← hg];exact hx) hy (by rw [hc];exact hi) hold h1 h
theorem zFb.draws {E:Env} {w W:World} {d:Nat} {l:List Tok} {f:Int} {q g:Nat} {t:T} {v:Value} (h:zFb E w W d l f q g t v) (n:Nat):zFb E w (W.drewN n) d l f q g t v:=by
 obtain ⟨old,ho,hl⟩:=h.res
 exact ⟨h.st.same (Nat.le_refl _) rfl rfl,h.kp.draws n,⟨old,ho,hl⟩,h.blk,h.kids.keep fun b hb _=>⟨hb,rfl⟩,h.gt,h.plt,h.tlt⟩
theorem zFb.zOk {E:Env} {w W:World} {d:Nat} {l l':List Tok} {f f':Int} {q q' g:Nat} {t u:T} {v x:Value} (h:zFb E w W d l' f' q' g t v) (hu:KAt 36 W u.kids (fun b=>w.heap.size<b∧b≠g) x) (hn:u.kids.length≤40000) {r:R T} (hs:zCa l f q r u l' f' q'):zqg E w d l f q r (.returned (.agg (zaa u x).toArray)) (W.setRow w.heap.size (zaa u x).toArray):=by
 have h1:=h.gt
 have h2:=h.plt
 have h3:=h.tlt
 exact ⟨u,x,l',f',q',rfl,(hu.setRow _ _ (fun b hb=>by omega)).mono (fun b hb _=>by omega),hn,h.st.putRow _ _ (by omega) (by omega),h.kp.setRow (Nat.le_refl _) _,hs⟩
theorem zFb.zJu {E:Env} {w W:World} {d:Nat} {l:List Tok} {f:Int} {q g:Nat} {t u:T} {v x:Value} (h:zFb E w W d l f q g t v) (hu:KAt 36 W u.kids (fun b=>w.heap.size<b∧b≠g) x) :
  zFb E w ((W.setCell ⟨g,4,none⟩ (.slice (some ⟨W.heap.size,0,none⟩) 1 1)).alloc (.cells (zaa u x).toArray 36)) d l f q g (t.zeb [u]) (.slice (some ⟨W.heap.size,0,none⟩) 1 1):=by
 have h1:=h.gt
 have h2:=h.plt
 have h3:=h.tlt
 have h4:=h.lt
 obtain ⟨old,ho,hl⟩:=h.res
 have hk:=KAt.zrk (e:=36) (w:=W.setCell ⟨g,4,none⟩ (.slice (some ⟨W.heap.size,0,none⟩) 1 1)) (t:=u) (S:=fun b=>w.heap.size<b∧b≠g) (TAt.zHa (hu.setCell ⟨g,4,none⟩ (.slice (some ⟨W.heap.size,0,none⟩) 1 1) (fun b hb=>hb.2))) (by simp only [World.size_setCell];omega)
 rw [World.size_setCell] at hk
 exact ⟨(h.st.far _ _ (by show _≠g;omega) (by show _≠g;omega)).alloc _,(h.kp.zLc (p:=⟨g,4,none⟩) (by show _≤g;omega) _).alloc _,⟨old,(ho.setOther _ _ (by show _≠g;omega)).alloc _,hl⟩,(h.blk.zNa 4 _).alloc _,hk,h.gt,h.plt,h.tlt⟩
theorem zFb.begin {E:Env} {w:World} {l:List Tok} {d:Nat} {f:Int} {q:Nat} (h:RSt E w l d f q) (t:T) (ht:t.kids=[]) :
  zFb E w ((w.alloc (.cells zba.toArray 36)).alloc (.cells (zaa t (.slice none 0 0)).toArray 36)).drew d l f q (w.heap.size+1) t (.slice none 0 0):=by
 obtain ⟨h1,h2,h3,h4⟩:=zLm h (zaa t (.slice none 0 0))
 exact ⟨h1,h4,⟨_,h2,rfl⟩,h3,by rw [ht];exact KAt.nil _ _ _,by omega,h.plt,h.tlt⟩
theorem zOq {E:Env} {w:World} {l:List Tok} {d:Nat} {f:Int} {q:Nat} (h:RSt E w l d f q) :
  Calls Tryz.prog 119 #[.pointer (some ⟨E.pb,0,none⟩)] w (zqg E w d l f q (zpc l)):=by
 have H:=zh h
 have hplt:=h.plt
 have htlt:=h.tlt
 have hplt2:=h.plt
 have c0:w.cell? ⟨E.pb,0,none⟩=some (.slice (some ⟨E.tb,0,none⟩) E.ts.length E.cap):=h.blk.cell 0
 have c1:w.cell? ⟨E.pb,1,none⟩=some (.int .i64 ((E.ts.length-l.length:Nat):Int)):=h.blk.cell 1
 obtain ⟨t0,t1,t2,t3⟩:=h.tok
 have hk:E.ts.length-l.length<E.ts.length:=by have:=h.head.1;have:=h.le;omega
 have hlen:=h.len
 have hcap:=h.capb
 have ix1:(0:Int)≤((E.ts.length-l.length:Nat):Int):=by omega
 have ix2:(((E.ts.length-l.length:Nat):Int))<(E.ts.length:Int):=by omega
 generalize E.ts.length-l.length=k at *
 generalize hT:hdT l=tk at *
 have HT:=zh hT
 clear h hT t0 t1 t2
 go_enter Tryz.func119,Tryz.ntmps119
 go_wp2_with fail
 go_region_held3 (fun w'=>w'.cell? ⟨E.pb,0,none⟩=some (.slice (some ⟨E.tb,0,none⟩) E.ts.length E.cap)∧w'.cell? ⟨E.pb,1,none⟩=some (.int .i64 (k:Int))∧w'.cell? ⟨E.tb,k * 4+3,none⟩=some (.int .i64 tk.place))
  (first|go_keep)
  (fail)
 have RL0:=zh (zFb.begin H.out (T.mk 0 e0 0 tk.place []) rfl)
 clear c0 c1 t3
 go_wp2_with fail
 refine (zab RL0.out.st (bs [110,101,119]) ztu (by decide)).mono ?_
 rintro e w1 ⟨b1,l1,rfl,hs1,hp1,hc1⟩
 have RL1:=zh (RL0.out.call hp1 hs1)
 clear hs1 hp1
 rcases hc1 with ⟨rfl,hf1,hi1,rfl⟩|⟨rfl,hx1,rfl⟩
 ·have RLs:=zh (RL1.out.set 0 (.int .i64 23) (T.mk 23 e0 0 tk.place []) rfl rfl)
  have n0:w1.cell? ⟨w.heap.size+1,0,none⟩=some (.int .i64 0):=RL1.out.blk.cell 0
  have nf0:=RL1.out.blk.frozen 0
  go_wp2_with fail
  refine (zcg RLs.out.st).mono ?_
  rintro e w2 ⟨v2,l2,f2,q2,rfl,hs2,hp2,hsee2⟩
  have RL2:=zh (RLs.out.call hp2 hs2)
  have HS2:=zh hsee2
  clear hs2 hp2 hsee2 n0 nf0
  have n2:w2.cell? ⟨w.heap.size+1,2,none⟩=some (.int .i64 0):=RL2.out.blk.cell 2
  have nf2:=RL2.out.blk.frozen 2
  have RLe:=zh (RL2.out.set 2 (.int .i64 v2) (T.mk 23 e0 v2 tk.place []) rfl rfl)
  obtain ⟨old,hold,hol⟩:=RLe.out.res
  have HOLD:=zh hold
  clear hold
  go_wp2_with (first|((with_reducible refine zqa 36 (.tmp 3) ?_);refine zfa rfl 36 (.tmp 3) rfl (w.heap.size+1) (T.mk 23 e0 v2 tk.place []) (.slice none 0 0) rfl RLe.out.blk Tryz.underlying36 rfl Tryz.zha ?_)|((with_reducible refine zla 36 (.tmp 2) ?_);refine zda rfl 36 (.tmp 2) (.tmp 36) rfl w.heap.size (zaa (T.mk 23 e0 v2 tk.place []) (.slice none 0 0)) rfl rfl HOLD.out Tryz.zha (by rw [hol];rfl) (zca _ _ RLe.out.kids.one) ?_))
  exact zma (cs:=zaa (T.mk 23 e0 v2 tk.place []) (.slice none 0 0)) Tryz.results119 rfl HOLD.out Tryz.underlying36 rfl Tryz.zha rfl (RLe.out.tot (by simp [T.kids]) (zCa.turn (fun _=>zJr hi1) (by rw [HT.out];exact zCa.behind hf1 (HS2.out.andThen (zCa.done _ _ _ _)))))
 ·skip
  go_wp2_with fail
  refine (zab RL1.out.st (bs [97,114,114,97,121]) zQr (by decide)).mono ?_
  rintro e w2 ⟨b2,l2,rfl,hs2,hp2,hc2⟩
  have RL2:=zh (RL1.out.call hp2 hs2)
  clear hs2 hp2
  rcases hc2 with ⟨rfl,hf2,hi2,rfl⟩|⟨rfl,hx2,rfl⟩
  ·skip
   go_wp2_with fail
   refine (zQb RL2.out.st).mono ?_
   rintro e w3 ⟨ka,sa,na,pa,l3,f3,q3,rfl,hs3,hp3,hsee3⟩
   have RL3:=zh (RL2.out.call hp3 hs3)
   have HS3:=zh hsee3
   have hzn3:w.heap.size+1<w3.heap.size:=RL3.out.lt
   clear hs3 hp3 hsee3
   have n1:w3.cell? ⟨w.heap.size+1,1,none⟩=some (.string e0):=RL3.out.blk.cell 1
   have nf1:=RL3.out.blk.frozen 1
   have n0:w3.cell? ⟨w.heap.size+1,0,none⟩=some (.int .i64 0):=RL3.out.blk.cell 0
   have nf0:=RL3.out.blk.frozen 0
   have RLk:=zh (RL3.out.set 0 (.int .i64 24) (T.mk 24 e0 0 tk.place []) rfl rfl)
   have RLm:=zh (RLk.out.set 1 (.string sa) (T.mk 24 sa 0 tk.place []) rfl rfl)
   have RLe:=zh (RLm.out.alloc (.cells (zaa (T.mk ka sa na pa []) (.slice none 0 0)).toArray 36))
   obtain ⟨old,hold,hol⟩:=RLe.out.res
   have HOLD:=zh hold
   clear hold
   go_wp2_with (first|((with_reducible refine zqa 36 (.tmp 3) ?_);refine zfa rfl 36 (.tmp 3) rfl (w.heap.size+1) (T.mk 24 sa 0 tk.place []) (.slice none 0 0) rfl RLe.out.blk Tryz.underlying36 rfl Tryz.zha ?_)|((with_reducible refine zla 36 (.tmp 2) ?_);refine zda rfl 36 (.tmp 2) (.tmp 46) rfl w.heap.size (zaa (T.mk 24 sa 0 tk.place []) (.slice none 0 0)) rfl rfl HOLD.out Tryz.zha (by rw [hol];rfl) (zca _ _ RLe.out.kids.one) ?_))
   exact zma (cs:=zaa (T.mk 24 sa 0 tk.place []) (.slice none 0 0)) Tryz.results119 rfl HOLD.out Tryz.underlying36 rfl Tryz.zha rfl (RLe.out.tot (by simp [T.kids]) (zCa.turn (fun hf=>zvn (zxd hx1 hf) hi2) (by rw [HT.out];exact zCa.behind hf2 (HS3.out.andThen (zCa.done _ _ _ _)))))
  ·skip
   go_wp2_with fail
   refine (zab RL2.out.st (bs [38]) zZt (by decide)).mono ?_
   rintro e w3 ⟨b3,l3,rfl,hs3,hp3,hc3⟩
   have RL3:=zh (RL2.out.call hp3 hs3)
   clear hs3 hp3
   rcases hc3 with ⟨rfl,hf3,hi3,rfl⟩|⟨rfl,hx3,rfl⟩
   ·have RLs:=zh (RL3.out.set 0 (.int .i64 26) (T.mk 26 e0 0 tk.place []) rfl rfl)
    have n0:w3.cell? ⟨w.heap.size+1,0,none⟩=some (.int .i64 0):=RL3.out.blk.cell 0
    have nf0:=RL3.out.blk.frozen 0
    go_wp2_with fail
    refine (zab RLs.out.st (bs [109,117,116]) zEs (by decide)).mono ?_
    rintro e w4 ⟨b4,l4,rfl,hs4,hp4,hc4⟩
    have RL4:=zh (RLs.out.call hp4 hs4)
    clear hs4 hp4
    rcases hc4 with ⟨rfl,hf4,hi4,rfl⟩|⟨rfl,hx4,rfl⟩
    ·clear n0 nf0
     have n0:w4.cell? ⟨w.heap.size+1,0,none⟩=some (.int .i64 26):=RL4.out.blk.cell 0
     have nf0:=RL4.out.blk.frozen 0
     have RLt:=zh (RL4.out.set 0 (.int .i64 27) (T.mk 27 e0 0 tk.place []) rfl rfl)
     go_wp2_with fail
     refine (zQb RLt.out.st).mono ?_
     rintro e w5 ⟨ka,sa,na,pa,l5,f5,q5,rfl,hs5,hp5,hsee5⟩
     have RL5:=zh (RLt.out.call hp5 hs5)
     have HS5:=zh hsee5
     have hzn5:w.heap.size+1<w5.heap.size:=RL5.out.lt
     clear hs5 hp5 hsee5
     have n1:w5.cell? ⟨w.heap.size+1,1,none⟩=some (.string e0):=RL5.out.blk.cell 1
     have nf1:=RL5.out.blk.frozen 1
     have RLm:=zh (RL5.out.set 1 (.string sa) (T.mk 27 sa 0 tk.place []) rfl rfl)
     have RLe:=zh (RLm.out.alloc (.cells (zaa (T.mk ka sa na pa []) (.slice none 0 0)).toArray 36))
     obtain ⟨old,hold,hol⟩:=RLe.out.res
     have HOLD:=zh hold
     clear hold
     go_wp2_with (first|((with_reducible refine zqa 36 (.tmp 3) ?_);refine zfa rfl 36 (.tmp 3) rfl (w.heap.size+1) (T.mk 27 sa 0 tk.place []) (.slice none 0 0) rfl RLe.out.blk Tryz.underlying36 rfl Tryz.zha ?_)|((with_reducible refine zla 36 (.tmp 2) ?_);refine zda rfl 36 (.tmp 2) (.tmp 60) rfl w.heap.size (zaa (T.mk 27 sa 0 tk.place []) (.slice none 0 0)) rfl rfl HOLD.out Tryz.zha (by rw [hol];rfl) (zca _ _ RLe.out.kids.one) ?_))
     exact zma (cs:=zaa (T.mk 27 sa 0 tk.place []) (.slice none 0 0)) Tryz.results119 rfl HOLD.out Tryz.underlying36 rfl Tryz.zha rfl (RLe.out.tot (by simp [T.kids]) (zCa.turn (fun hf=>zin (zxd hx1 hf) (zxd hx2 hf) hi3) (by rw [HT.out];exact zCa.behind hf3 (zCa.yes hi4 hf4 (HS5.out.andThen (zCa.done _ _ _ _))))))
    ·clear n0 nf0
     go_wp2_with fail
     refine (zQb RL4.out.st).mono ?_
     rintro e w5 ⟨ka,sa,na,pa,l5,f5,q5,rfl,hs5,hp5,hsee5⟩
     have RL5:=zh (RL4.out.call hp5 hs5)
     have HS5:=zh hsee5
     have hzn5:w.heap.size+1<w5.heap.size:=RL5.out.lt
     clear hs5 hp5 hsee5
     have n1:w5.cell? ⟨w.heap.size+1,1,none⟩=some (.string e0):=RL5.out.blk.cell 1
     have nf1:=RL5.out.blk.frozen 1
     have RLm:=zh (RL5.out.set 1 (.string sa) (T.mk 26 sa 0 tk.place []) rfl rfl)
     have RLe:=zh (RLm.out.alloc (.cells (zaa (T.mk ka sa na pa []) (.slice none 0 0)).toArray 36))
     obtain ⟨old,hold,hol⟩:=RLe.out.res
     have HOLD:=zh hold
     clear hold
     go_wp2_with (first|((with_reducible refine zqa 36 (.tmp 3) ?_);refine zfa rfl 36 (.tmp 3) rfl (w.heap.size+1) (T.mk 26 sa 0 tk.place []) (.slice none 0 0) rfl RLe.out.blk Tryz.underlying36 rfl Tryz.zha ?_)|((with_reducible refine zla 36 (.tmp 2) ?_);refine zda rfl 36 (.tmp 2) (.tmp 60) rfl w.heap.size (zaa (T.mk 26 sa 0 tk.place []) (.slice none 0 0)) rfl rfl HOLD.out Tryz.zha (by rw [hol];rfl) (zca _ _ RLe.out.kids.one) ?_))
     exact zma (cs:=zaa (T.mk 26 sa 0 tk.place []) (.slice none 0 0)) Tryz.results119 rfl HOLD.out Tryz.underlying36 rfl Tryz.zha rfl (RLe.out.tot (by simp [T.kids]) (zCa.turn (fun hf=>zin (zxd hx1 hf) (zxd hx2 hf) hi3) (by rw [HT.out];exact zCa.behind hf3 (zCa.no hx4 (HS5.out.andThen (zCa.done _ _ _ _))))))
   ·have c0:w3.cell? ⟨E.pb,0,none⟩=some (.slice (some ⟨E.tb,0,none⟩) E.ts.length E.cap):=RL3.out.st.blk.cell 0
    have c1:w3.cell? ⟨E.pb,1,none⟩=some (.int .i64 ((E.ts.length-l3.length:Nat):Int)):=RL3.out.st.blk.cell 1
    obtain ⟨t0,_,_,_⟩:=RL3.out.st.tok
    have hk3:E.ts.length-l3.length<E.ts.length:=by have:=RL3.out.st.head.1;have:=RL3.out.st.le;omega
    have iy1:(0:Int)≤((E.ts.length-l3.length:Nat):Int):=by omega
    have iy2:(((E.ts.length-l3.length:Nat):Int))<(E.ts.length:Int):=by omega
    rw [HT.out] at t0
    cases hk1:(tk.kind == 1) with
    | false =>
     have hkn:((tk.kind:Int) != 1)=true:=by simp at hk1 ⊢;omega
     go_wp2_with fail
     go_quiet (fail)
     have RL4:=zh (zFb.draws RL3.out nq)
     clear c0 c1 t0
     go_wp2_with fail
     refine (zGc RL4.out.st).mono ?_
     rintro e w5 ⟨t5,v5,l5,f5,q5,rfl,hk5,hn5,hs5,hp5,hsee5⟩
     have RL5:=zh (RL4.out.call hp5 hs5)
     have HV5:=zh (RL4.out.zYd hk5)
     have HS5:=zh hsee5
     clear hk5 hs5 hp5 hsee5
     unfold zna
     obtain ⟨old,hold,hol⟩:=RL5.out.res
     have HOLD:=zh hold
     clear hold
     go_wp2_with ((with_reducible refine zla 36 (.tmp 2) ?_);refine zda rfl 36 (.tmp 2) (.tmp 74) rfl w.heap.size (zaa t5 v5) rfl rfl HOLD.out Tryz.zha (by rw [hol];rfl) (zca _ _ HV5.out.one) ?_)
     exact zma (cs:=zaa t5 v5) Tryz.results119 rfl HOLD.out Tryz.underlying36 rfl Tryz.zha rfl (RL5.out.zOk HV5.out hn5 (zCa.turn (fun hf=>zup (zxd hx1 hf) (zxd hx2 hf) (zxd hx3 hf) (by rw [HT.out];exact hk1)) HS5.out))
    | true =>
     have hkn:((tk.kind:Int) != 1)=false:=by simp at hk1 ⊢;omega
     go_wp2_with fail
     go_quiet (fail)
     have RL4:=zh (zFb.draws RL3.out nq)
     clear c0 c1 t0
     go_wp2_with fail
     refine (zQb RL4.out.st).mono ?_
     rintro e w5 ⟨ka,sa,na,pa,l5,f5,q5,rfl,hs5,hp5,hsee5⟩
     have RL5:=zh (RL4.out.call hp5 hs5)
     have HS5:=zh hsee5
     clear hs5 hp5 hsee5
     have RL6:=zh (RL5.out.zqn (T.mk ka sa na pa []) (.slice none 0 0) (KAt.nil _ _ _))
     have HEN:Hid (∀ (t:T) (lf:List Tok) (f':Int) (q':Nat),zCa l5 f5 q5 (bif isT (hdT l5) (bs [40]) then bd (zfb zXa l5) fun xs l2=>.ok (.mk 28 sa na pa xs,l2) else bif isT (hdT l5) (bs [91]) then bd (zXa l5.tail) fun a l2=>bd (zsa [bs [93]] l2) fun _ l3=>.ok (.mk 25 sa na pa [a],l3) else zKl (sumP l5) (.ok (T.mk ka sa na pa [],l5)) fun k x=>bif (hdT l5.tail).kind == 1 then bd (zoa l5.tail) fun m l=>.ok (.mk k e0 0 pa [T.mk ka sa na pa [],m],l) else bd (zEa l5.tail) fun v l=>.ok ((T.mk ka sa na pa []).zkb (x * v),l)) t lf f' q'→zCa l3 f q (zpc l3) t lf f' q'):=zh (fun t lf f' q' hy=>zCa.turn (fun hf=>(zfq (zxd hx1 hf) (zxd hx2 hf) (zxd hx3 hf) (by rw [HT.out];exact hk1)).trans (zcm l3)) (HS5.out.andThen hy))
     go_wp2_with ((with_reducible refine zla 36 (.tmp 3) ?_);refine zda rfl 36 (.tmp 3) (.tmp 76) rfl (w.heap.size+1) (zaa (T.mk ka sa na pa []) (.slice none 0 0)) rfl rfl RL5.out.blk Tryz.zha rfl (zca _ _ rfl) ?_)
     refine (zZf RL6.out.st (bs [40]) zWr).mono ?_
     rintro e w6 ⟨rfl,hs6,hp6⟩
     have RL7:=zh (RL6.out.call hp6 hs6)
     clear hs6 hp6
     cases hca:(f5 == 0 && isT (hdT l5) (bs [40])) with
     | true =>
      have hca2:(f5 == 0)=true∧isT (hdT l5) (bs [40])=true:=by simpa using hca
      have n0:w6.cell? ⟨w.heap.size+1,0,none⟩=some (.int .i64 ka):=RL7.out.blk.cell 0
      have nf0:=RL7.out.blk.frozen 0
      have RLs:=zh (RL7.out.set 0 (.int .i64 28) (T.mk 28 sa na pa []) rfl rfl)
      go_wp2_with fail
      refine (zri RLs.out.st).mono ?_
      rintro e w8 ⟨xs,xv,l8,f8,q8,rfl,hk8,hn8,hs8,hp8,hsee8⟩
      have RL8:=zh (RLs.out.call hp8 hs8)
      have HV8:=zh (RLs.out.zYd hk8)
      have HS8:=zh hsee8
      obtain ⟨sa1,sn1,sc1,rfl⟩:=hk8.slice
      clear hk8 hs8 hp8 hsee8 n0 nf0
      have n4:w8.cell? ⟨w.heap.size+1,4,none⟩=some (.slice none 0 0):=RL8.out.blk.cell 4
      have nf4:=RL8.out.blk.frozen 4
      have RLe:=zh (RL8.out.zeb xs _ HV8.out)
      obtain ⟨old,hold,hol⟩:=RLe.out.res
      have HOLD:=zh hold
      clear hold
      go_wp2_with (first|((with_reducible refine zqa 36 (.tmp 3) ?_);refine zfa rfl 36 (.tmp 3) rfl (w.heap.size+1) (T.mk 28 sa na pa xs) (.slice sa1 sn1 sc1) rfl RLe.out.blk Tryz.underlying36 rfl Tryz.zha ?_)|((with_reducible refine zla 36 (.tmp 2) ?_);refine zda rfl 36 (.tmp 2) (.tmp 84) rfl w.heap.size (zaa (T.mk 28 sa na pa xs) (.slice sa1 sn1 sc1)) rfl rfl HOLD.out Tryz.zha (by rw [hol];rfl) (zca _ _ RLe.out.kids.one) ?_))
      exact zma (cs:=zaa (T.mk 28 sa na pa xs) (.slice sa1 sn1 sc1)) Tryz.results119 rfl HOLD.out Tryz.underlying36 rfl Tryz.zha rfl (RLe.out.tot (hn8) (HEN.out _ _ _ _ (zCa.yes0 hca2.2 (HS8.out.andThen (zCa.done _ _ _ _)))))
     | false =>
      go_wp2_with fail
      refine (zab RL7.out.st (bs [91]) zar (by decide)).mono ?_
      rintro e w8 ⟨b8,l8,rfl,hs8,hp8,hc8⟩
      have RL8:=zh (RL7.out.call hp8 hs8)
      clear hs8 hp8
      rcases hc8 with ⟨rfl,hf8,hi8,rfl⟩|⟨rfl,hx8,rfl⟩
      ·skip
       have n0:w8.cell? ⟨w.heap.size+1,0,none⟩=some (.int .i64 ka):=RL8.out.blk.cell 0
       have nf0:=RL8.out.blk.frozen 0
       have RLs:=zh (RL8.out.set 0 (.int .i64 25) (T.mk 25 sa na pa []) rfl rfl)
       go_wp2_with fail
       refine (zGc RLs.out.st).mono ?_
       rintro e w9 ⟨t9,v9,l9,f9,q9,rfl,hk9,hn9,hs9,hp9,hsee9⟩
       have RL9:=zh (RLs.out.call hp9 hs9)
       have HV9:=zh (RLs.out.zYd hk9)
       have HS9:=zh hsee9
       have HKB:=zh (Blk.new w9 (zaa t9 v9) 36)
       have hz9:w.heap.size+1<w9.heap.size:=RL9.out.lt
       clear hk9 hs9 hp9 hsee9 n0 nf0
       unfold zna
       go_wp2_with (((with_reducible refine zla 36 (.tmp 12) ?_);refine zga rfl 36 (.tmp 12) (.tmp 90) rfl (zaa t9 v9) (old:=zba) rfl rfl Tryz.zha rfl (zca _ _ HV9.out.one) ?_))
       have RLa:=zh (RL9.out.alloc (.cells (zaa t9 v9).toArray 36))
       refine (zRa RLa.out.st (bs [93]) zCq (by decide)).mono ?_
       rintro e wa ⟨la,fa,qa,rfl,hsa,hpa,tka,hseea⟩
       have RLb:=zh (RLa.out.call hpa hsa)
       have HVa:=zh ((HV9.out.alloc _).kp hpa (fun b hb=>by omega))
       have HKa:=zh (HKB.out.kp hpa (by omega))
       have HSa:=zh hseea
       have hza:w.heap.size+1<wa.heap.size:=RLb.out.lt
       clear hsa hpa hseea
       have n4:wa.cell? ⟨w.heap.size+1,4,none⟩=some (.slice none 0 0):=RLb.out.blk.cell 4
       have nf4:=RLb.out.blk.frozen 4
       have RLe:=zh (RLb.out.zJu HVa.out)
       obtain ⟨old,hold,hol⟩:=RLe.out.res
       have HOLD:=zh hold
       clear hold
       go_wp2_with (first|((with_reducible refine zqa 36 (.tmp 12) ?_);refine zfa rfl 36 (.tmp 12) rfl w9.heap.size t9 v9 rfl HKa.out Tryz.underlying36 rfl Tryz.zha ?_)|((with_reducible refine zqa 36 (.tmp 3) ?_);refine zfa rfl 36 (.tmp 3) rfl (w.heap.size+1) (T.mk 25 sa na pa [t9]) (.slice (some ⟨wa.heap.size,0,none⟩) 1 1) rfl RLe.out.blk Tryz.underlying36 rfl Tryz.zha ?_)|((with_reducible refine zla 36 (.tmp 2) ?_);refine zda rfl 36 (.tmp 2) (.tmp 96) rfl w.heap.size (zaa (T.mk 25 sa na pa [t9]) (.slice (some ⟨wa.heap.size,0,none⟩) 1 1)) rfl rfl HOLD.out Tryz.zha (by rw [hol];rfl) (zca _ _ rfl) ?_))
       exact zma (cs:=zaa (T.mk 25 sa na pa [t9]) (.slice (some ⟨wa.heap.size,0,none⟩) 1 1)) Tryz.results119 rfl HOLD.out Tryz.underlying36 rfl Tryz.zha rfl (RLe.out.tot (by show 1≤40000;decide) (HEN.out _ _ _ _ (zCa.no hca (zCa.yes hi8 hf8 (HS9.out.andThen (HSa.out.andThen (zCa.done _ _ _ _)))))))
      ·skip
       go_wp2_with fail
       refine (zZf RL8.out.st (bs [43]) zlm).mono ?_
       rintro e w9 ⟨rfl,hs9,hp9⟩
       have RL9:=zh (RL8.out.call hp9 hs9)
       clear hs9 hp9
       go_wp2_with fail
       refine (zZf RL9.out.st (bs [45]) zHg).mono ?_
       rintro e wa ⟨rfl,hsa,hpa⟩
       have RLa:=zh (RL9.out.call hpa hsa)
       clear hsa hpa
       cases hpl:(f5 == 0 && isT (hdT l8) (bs [43])) with
       | true =>
        have hpl2:(f5 == 0)=true∧isT (hdT l8) (bs [43])=true:=by simpa using hpl
        have hmi:(f5 == 0 && isT (hdT l8) (bs [45]))=false:=by rw [zza hpl2.2 (b:=bs [45]) (by kernel_rfl)];simp
        rw [hmi]
        have HSUM:Hid (sumP l8=some (21,1)):=zh (by unfold sumP;rw [hpl2.2];rfl)
        have hpm:=hpl2
        have HEND:=zh (RLa.out.st.ends.zId hpl2.2 (by decide))
        have hrow:=RLa.out.st.row _ _ (RLa.out.st.next HEND.out)
        have c0:wa.cell? ⟨E.pb,0,none⟩=some (.slice (some ⟨E.tb,0,none⟩) E.ts.length E.cap):=RLa.out.st.blk.cell 0
        have c1:wa.cell? ⟨E.pb,1,none⟩=some (.int .i64 ((E.ts.length-l8.length:Nat):Int)):=RLa.out.st.blk.cell 1
        have cf1:=RLa.out.st.blk.frozen 1
        have hk8:E.ts.length-l8.length+1<E.ts.length:=(List.getElem?_eq_some_iff.1 (RLa.out.st.next HEND.out)).1
        obtain ⟨r0,_,_,_⟩:=hrow
        have HSI:Hid (RSt E (wa.setCell ⟨E.pb,1,none⟩ (.int .i64 (((E.ts.length-l8.length:Nat):Int)+1))) l8.tail d f5 q5):=zh (RLa.out.st.zbu HEND.out)
        generalize hidx:E.ts.length-l8.length=k8 at *
        have iz1:(0:Int)≤((k8:Int)+1):=by omega
        have iz2:((k8:Int)+1)<(E.ts.length:Int):=by omega
        have hwr:IntKind.i64.wrap ((k8:Int)+1)=((k8+1:Nat):Int):=by rw [show ((k8:Int)+1)=((k8+1:Nat):Int) by omega];exact IntWalk.i64_in _ (by omega)
        have iz3:((k8+1:Nat):Int)<(E.ts.length:Int):=by omega
        clear hidx
        cases hnk:((hdT l8.tail).kind == 1) with
        | false =>
         have hnk2:(((hdT l8.tail).kind:Int) == 1)=false:=by simp at hnk ⊢;omega
         generalize (hdT l8.tail).kind=kn at r0 hnk2
         go_wp2_with fail
         go_quiet (fail)
         have RLq:=zh (zFb.draws RLa.out nq)
         clear c0 c1 r0 cf1
         go_wp2_with (((with_reducible refine zqa 36 (.tmp 3) ?_);refine zfa rfl 36 (.tmp 3) rfl (w.heap.size+1) (T.mk ka sa na pa []) (.slice none 0 0) rfl RLq.out.blk Tryz.underlying36 rfl Tryz.zha ?_))
         refine (zBi RLq.out.st (T.mk ka sa na pa []) rfl).mono ?_
         rintro e wm ⟨tm,vm,lm,fm,qm,rfl,hkm,hnm,hsm,hpm,hseem⟩
         have RLm:=zh (RLq.out.call hpm hsm)
         have HVm:=zh (RLq.out.zYd hkm)
         have HSm:=zh hseem
         clear hkm hsm hpm hseem
         unfold zna
         obtain ⟨old,hold,hol⟩:=RLm.out.res
         have HOLD:=zh hold
         clear hold
         go_wp2_with ((with_reducible refine zla 36 (.tmp 2) ?_);refine zda rfl 36 (.tmp 2) (.tmp 141) rfl w.heap.size (zaa tm vm) rfl rfl HOLD.out Tryz.zha (by rw [hol];rfl) (zca _ _ HVm.out.one) ?_)
         exact zma (cs:=zaa tm vm) Tryz.results119 rfl HOLD.out Tryz.underlying36 rfl Tryz.zha rfl (RLm.out.zOk HVm.out hnm (HEN.out _ _ _ _ (zCa.no hca (zCa.no hx8 (zCa.turn (fun _=>by unfold zif;rw [HSUM.out];simp only [zKl,hnk,cond_false]) HSm.out)))))
        | true =>
         have hnk2:(((hdT l8.tail).kind:Int) == 1)=true:=by simp at hnk ⊢;omega
         generalize hkn:(hdT l8.tail).kind=kn at r0 hnk2
         go_wp2_with fail
         go_quiet (fail)
         go_wp2_with fail
         have RLp:=zh (zFb.step (zFb.draws RLa.out nq) (HSI.out.same (Nat.le_refl _) rfl rfl))
         clear c0 c1 cf1 r0
         refine (zQb RLp.out.st).mono ?_
         rintro e wn ⟨kb,sb,nb,pb,ln,fn,qn,rfl,hsn,hpn,hseen⟩
         have RLn:=zh (RLp.out.call hpn hsn)
         have HSn:=zh hseen
         have hzn:w.heap.size+1<wn.heap.size:=RLn.out.lt
         clear hsn hpn hseen
         have n3:wn.cell? ⟨w.heap.size+1,3,none⟩=some (.int .i64 (pa:Nat)):=RLn.out.blk.cell 3
         have nf3:=RLn.out.blk.frozen 3
         have hT0:Blk (((wn.alloc (.cells (zaa (T.mk kb sb nb pb []) (.slice none 0 0)).toArray 36)).alloc (.cells (zaa (T.mk ka sa na pa []) (.slice none 0 0)++zaa (T.mk kb sb nb pb []) (.slice none 0 0)).toArray 36)).alloc (.cells (zaa (T.mk 21 e0 0 pa [(T.mk ka sa na pa []),(T.mk kb sb nb pb [])]) (.slice (some ⟨wn.heap.size+1,0,none⟩) 2 2)).toArray 36)) (wn.heap.size+2) (zaa (T.mk 21 e0 0 pa [(T.mk ka sa na pa []),(T.mk kb sb nb pb [])]) (.slice (some ⟨wn.heap.size+1,0,none⟩) 2 2)) 36:=by have h:=Blk.new ((wn.alloc (.cells (zaa (T.mk kb sb nb pb []) (.slice none 0 0)).toArray 36)).alloc (.cells (zaa (T.mk ka sa na pa []) (.slice none 0 0)++zaa (T.mk kb sb nb pb []) (.slice none 0 0)).toArray 36)) (zaa (T.mk 21 e0 0 pa [(T.mk ka sa na pa []),(T.mk kb sb nb pb [])]) (.slice (some ⟨wn.heap.size+1,0,none⟩) 2 2)) 36;simpa only [World.size_alloc] using h
         have hkk:=KAt.zHs (e:=36) (w:=wn.alloc (.cells (zaa (T.mk kb sb nb pb []) (.slice none 0 0)).toArray 36)) (t:=(T.mk ka sa na pa [])) (u:=(T.mk kb sb nb pb [])) (S:=fun b=>w.heap.size<b∧b≠w.heap.size+1) (v:=(.slice none 0 0)) (x:=(.slice none 0 0)) (TAt.zHa (KAt.nil _ _ _)) (TAt.zHa (KAt.nil _ _ _)) (by simp only [World.size_alloc];omega)
         rw [show (wn.alloc (.cells (zaa (T.mk kb sb nb pb []) (.slice none 0 0)).toArray 36)).heap.size=wn.heap.size+1 by simp] at hkk
         have RLe:=zh (((RLn.out.alloc (.cells (zaa (T.mk kb sb nb pb []) (.slice none 0 0)).toArray 36)).alloc (.cells (zaa (T.mk ka sa na pa []) (.slice none 0 0)++zaa (T.mk kb sb nb pb []) (.slice none 0 0)).toArray 36)).alloc (.cells (zaa (T.mk 21 e0 0 pa [(T.mk ka sa na pa []),(T.mk kb sb nb pb [])]) (.slice (some ⟨wn.heap.size+1,0,none⟩) 2 2)).toArray 36))
         have HKK:=zh (hkk.alloc (.cells (zaa (T.mk 21 e0 0 pa [(T.mk ka sa na pa []),(T.mk kb sb nb pb [])]) (.slice (some ⟨wn.heap.size+1,0,none⟩) 2 2)).toArray 36))
         have HTT:=zh hT0
         obtain ⟨old,hold,hol⟩:=RLe.out.res
         have HOLD:=zh hold
         clear hold hkk
         go_wp2_with (first|((with_reducible refine zla 36 (.tmp 15) ?_);refine zga rfl 36 (.tmp 15) (.tmp 129) rfl (zaa (T.mk kb sb nb pb []) (.slice none 0 0)) (old:=zba) rfl rfl Tryz.zha rfl (zca _ _ rfl) ?_)|((with_reducible refine zqa 36 (.tmp 3) ?_);refine zfa rfl 36 (.tmp 3) rfl (w.heap.size+1) (T.mk ka sa na pa []) (.slice none 0 0) rfl (RLn.out.alloc _).blk Tryz.underlying36 rfl Tryz.zha ?_)|((with_reducible refine zqa 36 (.tmp 15) ?_);refine zfa rfl 36 (.tmp 15) rfl wn.heap.size (T.mk kb sb nb pb []) (.slice none 0 0) rfl (Blk.new wn _ _) Tryz.underlying36 rfl Tryz.zha ?_)|((with_reducible refine zla 36 (.tmp 16) ?_);refine zSe rfl 36 (.tmp 16) (.tmp 135) (g:=wn.heap.size+2) (by simp) rfl (zaa (T.mk 21 e0 0 pa [(T.mk ka sa na pa []),(T.mk kb sb nb pb [])]) (.slice (some ⟨wn.heap.size+1,0,none⟩) 2 2)) (old:=zba) rfl Tryz.zha rfl (zca _ _ rfl) (h:=?_))|((with_reducible refine zqa 36 (.tmp 16) ?_);refine zfa rfl 36 (.tmp 16) rfl (wn.heap.size+2) (T.mk 21 e0 0 pa [(T.mk ka sa na pa []),(T.mk kb sb nb pb [])]) (.slice (some ⟨wn.heap.size+1,0,none⟩) 2 2) rfl HTT.out Tryz.underlying36 rfl Tryz.zha ?_)|((with_reducible refine zla 36 (.tmp 2) ?_);refine zda rfl 36 (.tmp 2) (.tmp 138) rfl w.heap.size (zaa (T.mk 21 e0 0 pa [(T.mk ka sa na pa []),(T.mk kb sb nb pb [])]) (.slice (some ⟨wn.heap.size+1,0,none⟩) 2 2)) rfl rfl HOLD.out Tryz.zha (by rw [hol];rfl) (zca _ _ rfl) ?_))
         exact zma (cs:=zaa (T.mk 21 e0 0 pa [(T.mk ka sa na pa []),(T.mk kb sb nb pb [])]) (.slice (some ⟨wn.heap.size+1,0,none⟩) 2 2)) Tryz.results119 rfl HOLD.out Tryz.underlying36 rfl Tryz.zha rfl (RLe.out.zOk (u:=(T.mk 21 e0 0 pa [(T.mk ka sa na pa []),(T.mk kb sb nb pb [])])) HKK.out (by show 2≤40000;decide) (HEN.out _ _ _ _ (zCa.no hca (zCa.no hx8 (zCa.turn (r':=bd (zoa l8.tail) fun m l=>.ok (T.mk 21 e0 0 pa [(T.mk ka sa na pa []),m],l)) (fun _=>by rw [HSUM.out];simp only [zKl,hnk,cond_true]) (zCa.behind hpm.1 (HSn.out.andThen (zCa.done _ _ _ _))))))))
       | false =>
        cases hmi:(f5 == 0 && isT (hdT l8) (bs [45])) with
        | true =>
         have hmi2:(f5 == 0)=true∧isT (hdT l8) (bs [45])=true:=by simpa using hmi
         have HSUM:Hid (sumP l8=some (22,-1)):=zh (by unfold sumP;rw [zxd hpl hmi2.1,hmi2.2];rfl)
         have hpm:=hmi2
         have HEND:=zh (RLa.out.st.ends.zId hmi2.2 (by decide))
         have hrow:=RLa.out.st.row _ _ (RLa.out.st.next HEND.out)
         have c0:wa.cell? ⟨E.pb,0,none⟩=some (.slice (some ⟨E.tb,0,none⟩) E.ts.length E.cap):=RLa.out.st.blk.cell 0
         have c1:wa.cell? ⟨E.pb,1,none⟩=some (.int .i64 ((E.ts.length-l8.length:Nat):Int)):=RLa.out.st.blk.cell 1
         have cf1:=RLa.out.st.blk.frozen 1
         have hk8:E.ts.length-l8.length+1<E.ts.length:=(List.getElem?_eq_some_iff.1 (RLa.out.st.next HEND.out)).1
         obtain ⟨r0,_,_,_⟩:=hrow
         have HSI:Hid (RSt E (wa.setCell ⟨E.pb,1,none⟩ (.int .i64 (((E.ts.length-l8.length:Nat):Int)+1))) l8.tail d f5 q5):=zh (RLa.out.st.zbu HEND.out)
         generalize hidx:E.ts.length-l8.length=k8 at *
         have iz1:(0:Int)≤((k8:Int)+1):=by omega
         have iz2:((k8:Int)+1)<(E.ts.length:Int):=by omega
         have hwr:IntKind.i64.wrap ((k8:Int)+1)=((k8+1:Nat):Int):=by rw [show ((k8:Int)+1)=((k8+1:Nat):Int) by omega];exact IntWalk.i64_in _ (by omega)
         have iz3:((k8+1:Nat):Int)<(E.ts.length:Int):=by omega
         clear hidx
         cases hnk:((hdT l8.tail).kind == 1) with
         | false =>
          have hnk2:(((hdT l8.tail).kind:Int) == 1)=false:=by simp at hnk ⊢;omega
          generalize (hdT l8.tail).kind=kn at r0 hnk2
          go_wp2_with fail
          go_quiet (fail)
          have RLq:=zh (zFb.draws RLa.out nq)
          clear c0 c1 r0 cf1
          go_wp2_with (((with_reducible refine zqa 36 (.tmp 3) ?_);refine zfa rfl 36 (.tmp 3) rfl (w.heap.size+1) (T.mk ka sa na pa []) (.slice none 0 0) rfl RLq.out.blk Tryz.underlying36 rfl Tryz.zha ?_))
          refine (zBi RLq.out.st (T.mk ka sa na pa []) rfl).mono ?_
          rintro e wm ⟨tm,vm,lm,fm,qm,rfl,hkm,hnm,hsm,hpm,hseem⟩
          have RLm:=zh (RLq.out.call hpm hsm)
          have HVm:=zh (RLq.out.zYd hkm)
          have HSm:=zh hseem
          clear hkm hsm hpm hseem
          unfold zna
          obtain ⟨old,hold,hol⟩:=RLm.out.res
          have HOLD:=zh hold
          clear hold
          go_wp2_with ((with_reducible refine zla 36 (.tmp 2) ?_);refine zda rfl 36 (.tmp 2) (.tmp 141) rfl w.heap.size (zaa tm vm) rfl rfl HOLD.out Tryz.zha (by rw [hol];rfl) (zca _ _ HVm.out.one) ?_)
          exact zma (cs:=zaa tm vm) Tryz.results119 rfl HOLD.out Tryz.underlying36 rfl Tryz.zha rfl (RLm.out.zOk HVm.out hnm (HEN.out _ _ _ _ (zCa.no hca (zCa.no hx8 (zCa.turn (fun _=>by unfold zif;rw [HSUM.out];simp only [zKl,hnk,cond_false]) HSm.out)))))
         | true =>
          have hnk2:(((hdT l8.tail).kind:Int) == 1)=true:=by simp at hnk ⊢;omega
          generalize hkn:(hdT l8.tail).kind=kn at r0 hnk2
          go_wp2_with fail
          go_quiet (fail)
          go_wp2_with fail
          have RLp:=zh (zFb.step (zFb.draws RLa.out nq) (HSI.out.same (Nat.le_refl _) rfl rfl))
          clear c0 c1 cf1 r0
          refine (zQb RLp.out.st).mono ?_
          rintro e wn ⟨kb,sb,nb,pb,ln,fn,qn,rfl,hsn,hpn,hseen⟩
          have RLn:=zh (RLp.out.call hpn hsn)
          have HSn:=zh hseen
          have hzn:w.heap.size+1<wn.heap.size:=RLn.out.lt
          clear hsn hpn hseen
          have n3:wn.cell? ⟨w.heap.size+1,3,none⟩=some (.int .i64 (pa:Nat)):=RLn.out.blk.cell 3
          have nf3:=RLn.out.blk.frozen 3
          have hT0:Blk (((wn.alloc (.cells (zaa (T.mk kb sb nb pb []) (.slice none 0 0)).toArray 36)).alloc (.cells (zaa (T.mk ka sa na pa []) (.slice none 0 0)++zaa (T.mk kb sb nb pb []) (.slice none 0 0)).toArray 36)).alloc (.cells (zaa (T.mk 21 e0 0 pa [(T.mk ka sa na pa []),(T.mk kb sb nb pb [])]) (.slice (some ⟨wn.heap.size+1,0,none⟩) 2 2)).toArray 36)) (wn.heap.size+2) (zaa (T.mk 21 e0 0 pa [(T.mk ka sa na pa []),(T.mk kb sb nb pb [])]) (.slice (some ⟨wn.heap.size+1,0,none⟩) 2 2)) 36:=by have h:=Blk.new ((wn.alloc (.cells (zaa (T.mk kb sb nb pb []) (.slice none 0 0)).toArray 36)).alloc (.cells (zaa (T.mk ka sa na pa []) (.slice none 0 0)++zaa (T.mk kb sb nb pb []) (.slice none 0 0)).toArray 36)) (zaa (T.mk 21 e0 0 pa [(T.mk ka sa na pa []),(T.mk kb sb nb pb [])]) (.slice (some ⟨wn.heap.size+1,0,none⟩) 2 2)) 36;simpa only [World.size_alloc] using h
          have hT1:Blk (((wn.alloc (.cells (zaa (T.mk kb sb nb pb []) (.slice none 0 0)).toArray 36)).alloc (.cells (zaa (T.mk ka sa na pa []) (.slice none 0 0)++zaa (T.mk kb sb nb pb []) (.slice none 0 0)).toArray 36)).alloc (.cells (zaa (T.mk 22 e0 0 pa [(T.mk ka sa na pa []),(T.mk kb sb nb pb [])]) (.slice (some ⟨wn.heap.size+1,0,none⟩) 2 2)).toArray 36)) (wn.heap.size+2) (zaa (T.mk 22 e0 0 pa [(T.mk ka sa na pa []),(T.mk kb sb nb pb [])]) (.slice (some ⟨wn.heap.size+1,0,none⟩) 2 2)) 36:=by have h:=Blk.new ((wn.alloc (.cells (zaa (T.mk kb sb nb pb []) (.slice none 0 0)).toArray 36)).alloc (.cells (zaa (T.mk ka sa na pa []) (.slice none 0 0)++zaa (T.mk kb sb nb pb []) (.slice none 0 0)).toArray 36)) (zaa (T.mk 22 e0 0 pa [(T.mk ka sa na pa []),(T.mk kb sb nb pb [])]) (.slice (some ⟨wn.heap.size+1,0,none⟩) 2 2)) 36;simpa only [World.size_alloc] using h
          have m0:(((wn.alloc (.cells (zaa (T.mk kb sb nb pb []) (.slice none 0 0)).toArray 36)).alloc (.cells (zaa (T.mk ka sa na pa []) (.slice none 0 0)++zaa (T.mk kb sb nb pb []) (.slice none 0 0)).toArray 36)).alloc (.cells (zaa (T.mk 21 e0 0 pa [(T.mk ka sa na pa []),(T.mk kb sb nb pb [])]) (.slice (some ⟨wn.heap.size+1,0,none⟩) 2 2)).toArray 36)).cell? ⟨wn.heap.size+2,0,none⟩=some (.int .i64 21):=hT0.cell 0
          have mf0:=hT0.frozen 0
          have hkk:=KAt.zHs (e:=36) (w:=wn.alloc (.cells (zaa (T.mk kb sb nb pb []) (.slice none 0 0)).toArray 36)) (t:=(T.mk ka sa na pa [])) (u:=(T.mk kb sb nb pb [])) (S:=fun b=>w.heap.size<b∧b≠w.heap.size+1) (v:=(.slice none 0 0)) (x:=(.slice none 0 0)) (TAt.zHa (KAt.nil _ _ _)) (TAt.zHa (KAt.nil _ _ _)) (by simp only [World.size_alloc];omega)
          rw [show (wn.alloc (.cells (zaa (T.mk kb sb nb pb []) (.slice none 0 0)).toArray 36)).heap.size=wn.heap.size+1 by simp] at hkk
          have RLe:=zh (((RLn.out.alloc (.cells (zaa (T.mk kb sb nb pb []) (.slice none 0 0)).toArray 36)).alloc (.cells (zaa (T.mk ka sa na pa []) (.slice none 0 0)++zaa (T.mk kb sb nb pb []) (.slice none 0 0)).toArray 36)).alloc (.cells (zaa (T.mk 22 e0 0 pa [(T.mk ka sa na pa []),(T.mk kb sb nb pb [])]) (.slice (some ⟨wn.heap.size+1,0,none⟩) 2 2)).toArray 36))
          have HKK:=zh (hkk.alloc (.cells (zaa (T.mk 22 e0 0 pa [(T.mk ka sa na pa []),(T.mk kb sb nb pb [])]) (.slice (some ⟨wn.heap.size+1,0,none⟩) 2 2)).toArray 36))
          have HTT:=zh hT1
          obtain ⟨old,hold,hol⟩:=RLe.out.res
          have HOLD:=zh hold
          clear hold hkk
          go_wp2_with (first|((with_reducible refine zla 36 (.tmp 15) ?_);refine zga rfl 36 (.tmp 15) (.tmp 129) rfl (zaa (T.mk kb sb nb pb []) (.slice none 0 0)) (old:=zba) rfl rfl Tryz.zha rfl (zca _ _ rfl) ?_)|((with_reducible refine zqa 36 (.tmp 3) ?_);refine zfa rfl 36 (.tmp 3) rfl (w.heap.size+1) (T.mk ka sa na pa []) (.slice none 0 0) rfl (RLn.out.alloc _).blk Tryz.underlying36 rfl Tryz.zha ?_)|((with_reducible refine zqa 36 (.tmp 15) ?_);refine zfa rfl 36 (.tmp 15) rfl wn.heap.size (T.mk kb sb nb pb []) (.slice none 0 0) rfl (Blk.new wn _ _) Tryz.underlying36 rfl Tryz.zha ?_)|((with_reducible refine zla 36 (.tmp 16) ?_);refine zSe rfl 36 (.tmp 16) (.tmp 135) (g:=wn.heap.size+2) (by simp) rfl (zaa (T.mk 21 e0 0 pa [(T.mk ka sa na pa []),(T.mk kb sb nb pb [])]) (.slice (some ⟨wn.heap.size+1,0,none⟩) 2 2)) (old:=zba) rfl Tryz.zha rfl (zca _ _ rfl) (h:=?_))|((with_reducible refine zqa 36 (.tmp 16) ?_);refine zfa rfl 36 (.tmp 16) rfl (wn.heap.size+2) (T.mk 22 e0 0 pa [(T.mk ka sa na pa []),(T.mk kb sb nb pb [])]) (.slice (some ⟨wn.heap.size+1,0,none⟩) 2 2) rfl HTT.out Tryz.underlying36 rfl Tryz.zha ?_)|((with_reducible refine zla 36 (.tmp 2) ?_);refine zda rfl 36 (.tmp 2) (.tmp 138) rfl w.heap.size (zaa (T.mk 22 e0 0 pa [(T.mk ka sa na pa []),(T.mk kb sb nb pb [])]) (.slice (some ⟨wn.heap.size+1,0,none⟩) 2 2)) rfl rfl HOLD.out Tryz.zha (by rw [hol];rfl) (zca _ _ rfl) ?_))
          exact zma (cs:=zaa (T.mk 22 e0 0 pa [(T.mk ka sa na pa []),(T.mk kb sb nb pb [])]) (.slice (some ⟨wn.heap.size+1,0,none⟩) 2 2)) Tryz.results119 rfl HOLD.out Tryz.underlying36 rfl Tryz.zha rfl (RLe.out.zOk (u:=(T.mk 22 e0 0 pa [(T.mk ka sa na pa []),(T.mk kb sb nb pb [])])) HKK.out (by show 2≤40000;decide) (HEN.out _ _ _ _ (zCa.no hca (zCa.no hx8 (zCa.turn (r':=bd (zoa l8.tail) fun m l=>.ok (T.mk 22 e0 0 pa [(T.mk ka sa na pa []),m],l)) (fun _=>by rw [HSUM.out];simp only [zKl,hnk,cond_true]) (zCa.behind hpm.1 (HSn.out.andThen (zCa.done _ _ _ _))))))))
        | false =>
         go_wp2_with fail
         go_quiet (fail)
         have RLq:=zh (zFb.draws RLa.out nq)
         go_wp2_with (((with_reducible refine zqa 36 (.tmp 3) ?_);refine zfa rfl 36 (.tmp 3) rfl (w.heap.size+1) (T.mk ka sa na pa []) (.slice none 0 0) rfl RLq.out.blk Tryz.underlying36 rfl Tryz.zha ?_))
         refine (zBi RLq.out.st (T.mk ka sa na pa []) rfl).mono ?_
         rintro e wm ⟨tm,vm,lm,fm,qm,rfl,hkm,hnm,hsm,hpm,hseem⟩
         have RLm:=zh (RLq.out.call hpm hsm)
         have HVm:=zh (RLq.out.zYd hkm)
         have HSm:=zh hseem
         clear hkm hsm hpm hseem
         unfold zna
         obtain ⟨old,hold,hol⟩:=RLm.out.res
         have HOLD:=zh hold
         clear hold
         go_wp2_with ((with_reducible refine zla 36 (.tmp 2) ?_);refine zda rfl 36 (.tmp 2) (.tmp 141) rfl w.heap.size (zaa tm vm) rfl rfl HOLD.out Tryz.zha (by rw [hol];rfl) (zca _ _ HVm.out.one) ?_)
         exact zma (cs:=zaa tm vm) Tryz.results119 rfl HOLD.out Tryz.underlying36 rfl Tryz.zha rfl (RLm.out.zOk HVm.out hnm (HEN.out _ _ _ _ (zCa.no hca (zCa.no hx8 (zCa.turn (fun hf=>by unfold zif;rw [show sumP l8=none by unfold sumP;rw [zxd hpl hf,zxd hmi hf];rfl];rfl) HSm.out)))))
end Go.Proofs.YtpjnpffcnmgdcaaGreatDoor
