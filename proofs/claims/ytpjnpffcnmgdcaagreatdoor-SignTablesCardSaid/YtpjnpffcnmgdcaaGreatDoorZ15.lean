/- The contract of lychgateref02.field. The contract of lychgateref02.mode. The contracts of lychgateref02.fail and lychgateref02.sort. -/
import Derived.Test.YtpjnpffcnmgdcaaGreatDoorZ14
import Derived.Deep.RegionHeld3
namespace Go.Proofs.YtpjnpffcnmgdcaaGreatDoor
set_option maxRecDepth 100000
set_option maxHeartbeats 4000000
section
open Go.RowKit
theorem RSt.far {E:Env} {w:World} {l:List Tok} {d:Nat} {f:Int} {q:Nat} (h:RSt E w l d f q) (a:Addr) (v:Value) (h1:E.pb≠a.block) (h2:E.tb≠a.block):RSt E (w.setCell a v) l d f q :=
 h.same (by simp [World.setCell]) (Below.heap_setCell _ _ _ _ h1) (Below.heap_setCell _ _ _ _ h2)
def T.zpe (k:Int) (t:T):T:=.mk k t.text t.num t.place t.kids
def T.zeb (ks:List T) (t:T):T:=.mk t.kind t.text t.num t.place ks
theorem zar:zOa (bs [91])=true:=by kernel_rfl
theorem zCq:zOa (bs [93])=true:=by kernel_rfl
theorem zon (l:List Tok):zsc l=bd (zoa l) fun n l1=>bif isT (hdT l1) (bs [91]) then bd (zoa l1.tail) fun a l2=>bd (zsa [bs [93]] l2) fun _ l3=>.ok ((n.zpe 3).zeb [a],l3) else .ok (n.zpe 3,l1):=by
 unfold zsc zoa
 cases zKb l with
 | error e=>rfl
 | ok x=>rfl
theorem zgo {E:Env} {w:World} {l:List Tok} {d:Nat} {f:Int} {q:Nat} (h:RSt E w l d f q) :
  Calls Tryz.prog 42 #[.pointer (some ⟨E.pb,0,none⟩)] w (zqg E w d l f q (zsc l)):=by
 have H:=zh h
 have hplt:=h.plt
 have htlt:=h.tlt
 have H0:=zh (h.alloc (.cells zba.toArray 36))
 have HK0:=zh ((Kp.refl E.pb w).alloc (.cells zba.toArray 36))
 have HBr0:=zh (Blk.new w zba 36)
 have hzr0:=HBr0.out.lt
 clear h
 go_enter Tryz.func42,Tryz.ntmps42
 go_wp2_with fail
 refine (zjd H0.out).mono ?_
 rintro e w1 ⟨t1,vt1,l1,f1,q1,rfl,hk1,hn1,hs1,hp1,hsee1⟩
 have HBr1:=zh (HBr0.out.kp hp1 (by omega))
 have HK1:=zh (HK0.out.trans hp1)
 have hzr1:=HBr1.out.lt
 have HVt11:=zh (show KAt 36 w1 t1.kids (fun b=>w.heap.size<b) vt1 from hk1.mono (fun b hb _=>by (try simp at hb);omega))
 have H1:=zh hs1
 have HS1:=zh hsee1
 clear hk1 hs1 hp1 hsee1
 unfold zna
 have HBm0:=zh (Blk.new w1 (zaa t1 vt1) 36)
 have n0:(w1.alloc (.cells (zaa t1 vt1).toArray 36)).cell? ⟨w1.heap.size,0,none⟩=some (.int .i64 t1.kind):=HBm0.out.cell 0
 have nf0:=HBm0.out.frozen 0
 go_wp2_with (((with_reducible refine zla 36 (.tmp 3) ?_);refine zga rfl 36 (.tmp 3) (.tmp 7) rfl (zaa t1 vt1) (old:=zba) rfl rfl Tryz.zha rfl (zca _ _ HVt11.out.one) ?_))
 have HBn1:=zh (Blk.new w1 (zaa (t1.zpe 3) vt1) 36)
 clear HBm0 n0 nf0
 have HVt12:=zh (HVt11.out.mono (S':=(fun b=>w.heap.size<b∧b≠w1.heap.size)) (fun b hb hl=>by omega))
 refine (zab (H1.out.alloc _) (bs [91]) zar (by decide)).mono ?_
 rintro e w2 ⟨b2,l2,rfl,hs2,hp2,hc2⟩
 have HBr2:=zh ((HBr1.out.alloc _).kp hp2 (by omega))
 have HBn2:=zh (HBn1.out.kp hp2 (by omega))
 have HVt12:=zh ((HVt12.out.alloc _).kp hp2 (fun b hb=>by omega))
 have HK2:=zh ((HK1.out.alloc _).trans hp2)
 have hzr2:=HBr2.out.lt
 have hzn2:=HBn2.out.lt
 have H2:=zh hs2
 have HC2:=zh hc2
 clear hs2 hp2 hc2
 rcases HC2.out with ⟨rfl,hf2,hi2,rfl⟩|⟨rfl,hx2,rfl⟩
 ·go_wp2_with fail
  refine (zjd H2.out).mono ?_
  rintro e w3 ⟨t3,vt3,l3,f3,q3,rfl,hk3,hn3,hs3,hp3,hsee3⟩
  have HBr3:=zh (HBr2.out.kp hp3 (by omega))
  have HBn3:=zh (HBn2.out.kp hp3 (by omega))
  have HVt13:=zh (HVt12.out.kp hp3 (fun b hb=>by omega))
  have HK3:=zh (HK2.out.trans hp3)
  have hzr3:=HBr3.out.lt
  have hzn3:=HBn3.out.lt
  have HVt33:=zh (show KAt 36 w3 t3.kids (fun b=>w.heap.size<b∧b≠w1.heap.size) vt3 from hk3.mono (fun b hb _=>by (try simp at hb);omega))
  have H3:=zh hs3
  have HS3:=zh hsee3
  clear hk3 hs3 hp3 hsee3
  unfold zna
  have n4:w3.cell? ⟨w1.heap.size,4,none⟩=some vt1:=HBn3.out.cell 4
  have nf4:=HBn3.out.frozen 4
  go_wp2_with (first|((with_reducible refine zla 36 (.tmp 5) ?_);refine zga rfl 36 (.tmp 5) (.tmp 13) rfl (zaa t3 vt3) (old:=zba) rfl rfl Tryz.zha rfl (zca _ _ HVt33.out.one) ?_)|((with_reducible refine zqa 36 (.tmp 5) ?_);refine zfa rfl 36 (.tmp 5) rfl w3.heap.size t3 vt3 rfl (Blk.new w3 _ _) Tryz.underlying36 rfl Tryz.zha ?_))
  have hk1:=KAt.zrk (e:=36) (w:=((w3.setCell ⟨w1.heap.size,4,none⟩ (.slice (some ⟨w3.heap.size+1,0,none⟩) 1 1)).alloc (.cells (zaa t3 vt3).toArray 36))) (t:=t3) (S:=(fun b=>w.heap.size<b∧b≠w1.heap.size)) (TAt.zHa ((HVt33.out.setCell ⟨w1.heap.size,4,none⟩ (.slice (some ⟨w3.heap.size+1,0,none⟩) 1 1) (fun b hb=>by (try dsimp only);omega)).alloc _)) (by simp only [World.size_alloc,World.setCell,Array.size_modify];omega)
  rw [show ((w3.setCell ⟨w1.heap.size,4,none⟩ (.slice (some ⟨w3.heap.size+1,0,none⟩) 1 1)).alloc (.cells (zaa t3 vt3).toArray 36)).heap.size=w3.heap.size+1 by simp [World.setCell]] at hk1
  have HVx3:=zh hk1
  clear hk1 n4 nf4
  refine (zRa (((H3.out.far ⟨w1.heap.size,4,none⟩ _ (by (try dsimp only);omega) (by (try dsimp only);omega)).alloc _).alloc _) (bs [93]) zCq (by decide)).mono ?_
  rintro e w4 ⟨l4,f4,q4,rfl,hs4,hp4,tk4,hsee4⟩
  have HBr4:=zh ((((HBr3.out.setOther ⟨w1.heap.size,4,none⟩ _ (by (try dsimp only);omega)).alloc _).alloc _).kp hp4 (by omega))
  have HBn4:=zh ((((HBn3.out.zNa 4 _).alloc _).alloc _).kp hp4 (by omega))
  have HVx4:=zh (HVx3.out.kp hp4 (fun b hb=>by omega))
  have HK4:=zh ((((HK3.out.zLc (p:=⟨w1.heap.size,4,none⟩) (by (try dsimp only);omega) _).alloc _).alloc _).trans hp4)
  have hzr4:=HBr4.out.lt
  have hzn4:=HBn4.out.lt
  have H4:=zh hs4
  have HS4:=zh hsee4
  clear hs4 hp4 hsee4
  go_wp2_with (first|((with_reducible refine zqa 36 (.tmp 3) ?_);refine zfa rfl 36 (.tmp 3) rfl w1.heap.size ((t1.zpe 3).zeb [t3]) (.slice (some ⟨w3.heap.size+1,0,none⟩) 1 1) rfl HBn4.out Tryz.underlying36 rfl Tryz.zha ?_)|((with_reducible refine zla 36 (.tmp 2) ?_);refine zda rfl 36 (.tmp 2) (.tmp 19) rfl w.heap.size (zaa ((t1.zpe 3).zeb [t3]) (.slice (some ⟨w3.heap.size+1,0,none⟩) 1 1)) rfl rfl HBr4.out Tryz.zha rfl (zca _ _ rfl) ?_))
  exact zma (cs:=zaa ((t1.zpe 3).zeb [t3]) (.slice (some ⟨w3.heap.size+1,0,none⟩) 1 1)) Tryz.results42 rfl HBr4.out Tryz.underlying36 rfl Tryz.zha rfl
   ⟨((t1.zpe 3).zeb [t3]),_,l4,f4,q4,rfl,(HVx4.out.setRow w.heap.size _ (fun b hb=>by omega)).mono (fun b hb _=>by omega),by show 1≤40000;decide,H4.out.same (by simp [World.setRow]) (setRow_other _ _ _ _ (by omega)) (setRow_other _ _ _ _ (by omega)),HK4.out.setRow (Nat.le_refl _) _,by rw [zon];exact HS1.out.andThen (zCa.yes hi2 hf2 (HS3.out.andThen (HS4.out.andThen (zCa.done _ _ _ _))))⟩
 ·go_wp2_with (first|((with_reducible refine zqa 36 (.tmp 3) ?_);refine zfa rfl 36 (.tmp 3) rfl w1.heap.size (t1.zpe 3) vt1 rfl HBn2.out Tryz.underlying36 rfl Tryz.zha ?_)|((with_reducible refine zla 36 (.tmp 2) ?_);refine zda rfl 36 (.tmp 2) (.tmp 19) rfl w.heap.size (zaa (t1.zpe 3) vt1) rfl rfl HBr2.out Tryz.zha rfl (zca _ _ HVt12.out.one) ?_))
  exact zma (cs:=zaa (t1.zpe 3) vt1) Tryz.results42 rfl HBr2.out Tryz.underlying36 rfl Tryz.zha rfl
   ⟨(t1.zpe 3),_,l2,f1,q1,rfl,(HVt12.out.setRow w.heap.size _ (fun b hb=>by omega)).mono (fun b hb _=>by omega),hn1,H2.out.same (by simp [World.setRow]) (setRow_other _ _ _ _ (by omega)) (setRow_other _ _ _ _ (by omega)),HK2.out.setRow (Nat.le_refl _) _,by rw [zon];exact HS1.out.andThen (zCa.no hx2 (zCa.done _ _ _ _))⟩
end
section
open Go.RowKit
theorem zCa.turn {α:Type} {l l1:List Tok} {f f1:Int} {q q1:Nat} {r r':R α} {t:α} (he:(f == 0)=true→r=r') (h:zCa l f q r' t l1 f1 q1):zCa l f q r t l1 f1 q1:=by
 cases hf:(f == 0) with
 | true=>rw [he hf];exact h
 | false=>exact h.junk hf
theorem zCa.take {α:Type} {l:List Tok} {f:Int} {q:Nat} (hf:(f == 0)=true) (t:α):zCa l f q (.ok (t,l.tail)) t l.tail f q :=
 .inl ⟨hf,.inl ⟨_,rfl,rfl,beq_iff_eq.1 hf,rfl,by rw [List.length_tail];omega⟩⟩
theorem zCa.behind {α:Type} {l l1:List Tok} {f f1:Int} {q q1:Nat} {r:R α} {t:α} (hf:(f == 0)=true) (h:zCa l.tail f q r t l1 f1 q1):zCa l f q r t l1 f1 q1:=zCa.yes (c:=true) (B:=r) rfl hf h
theorem zxd {f:Int} {c:Bool} (h:(f == 0 && c)=false) (hf:(f == 0)=true):c=false:=by rw [hf] at h;simpa using h
theorem zLm {E:Env} {w:World} {l:List Tok} {d:Nat} {f:Int} {q:Nat} (h:RSt E w l d f q) (N:List Value) :
  RSt E ((w.alloc (.cells zba.toArray 36)).alloc (.cells N.toArray 36)).drew l d f q∧Blk ((w.alloc (.cells zba.toArray 36)).alloc (.cells N.toArray 36)).drew w.heap.size zba 36 ∧
  Blk ((w.alloc (.cells zba.toArray 36)).alloc (.cells N.toArray 36)).drew (w.heap.size+1) N 36∧Kp E.pb w ((w.alloc (.cells zba.toArray 36)).alloc (.cells N.toArray 36)).drew :=
 ⟨((h.alloc _).alloc _).same (Nat.le_refl _) rfl rfl,(Blk.new w zba 36).alloc _,Blk.zTe w (.cells zba.toArray 36) N 36,(((Kp.refl E.pb w).alloc _).alloc _).drew⟩
theorem zza {t:Tok} {a b:ByteArray} (h:isT t a=true) (hne:(a.toList == b.toList)=false):isT t b=false:=by
 unfold isT at h ⊢
 rw [beq_iff_eq.1 h]
 exact hne
theorem zFr {l:List Tok} (h:isT (hdT l) (bs [105,110,116])=true):zYc l=.ok (.mk 8 (hdT l).text 0 (hdT l).place [],l.tail):=by
 unfold zYc zQa zsa
 rw [zza h (b:=bs [38]) (by kernel_rfl)]
 simp only [cond_false,List.any_cons,List.any_nil,h,Bool.true_or,cond_true]
 show bd (Except.ok (hdT l,l.tail)) _=_
 unfold bd
 simp only
 rw [zza h (b:=bs [111,119,110]) (by kernel_rfl)]
 rfl
theorem zys {l:List Tok} (h:isT (hdT l) (bs [111,119,110])=true):zYc l=bd (zoa l.tail) fun a l2=>.ok (.mk 8 (hdT l).text 0 (hdT l).place [a],l2):=by
 unfold zYc zQa zsa
 rw [zza h (b:=bs [38]) (by kernel_rfl)]
 simp only [cond_false,List.any_cons,List.any_nil,h,Bool.true_or,Bool.or_true,cond_true]
 show bd (Except.ok (hdT l,l.tail)) _=_
 unfold bd
 simp only [h,cond_true]
theorem zjn {l:List Tok} (h1:isT (hdT l) (bs [105,110,116])=false) (h2:isT (hdT l) (bs [111,119,110])=false) :
  zYc l=bd (zsa [bs [38]] l) fun _ l1=>bif isT (hdT l1) (bs [109,117,116]) then bd (zoa l1.tail) fun a l2=>.ok (.mk 8 (bs [38,109,117,116]) 0 (hdT l).place [a],l2) else bd (zoa l1) fun a l2=>.ok (.mk 8 (hdT l).text 0 (hdT l).place [a],l2):=by
 unfold zYc zQa zsa
 cases h:isT (hdT l) (bs [38]) with
 | false=>simp only [cond_false,List.any_cons,List.any_nil,h1,h2,h,Bool.or_self];rfl
 | true =>
  simp only [cond_true,List.any_cons,List.any_nil,h,Bool.true_or]
  rw [zXj h]
  rfl
theorem zju:zOa (bs [105,110,116])=true:=by kernel_rfl
theorem zGs:zOa (bs [111,119,110])=true:=by kernel_rfl
theorem zZt:zOa (bs [38])=true:=by kernel_rfl
theorem zEs:zOa (bs [109,117,116])=true:=by kernel_rfl
theorem zni {E:Env} {w:World} {l:List Tok} {d:Nat} {f:Int} {q:Nat} (h:RSt E w l d f q) :
  Calls Tryz.prog 38 #[.pointer (some ⟨E.pb,0,none⟩)] w (zqg E w d l f q (zYc l)):=by
 have H:=zh h
 have hplt:=h.plt
 have htlt:=h.tlt
 have H0:=zh (h.alloc (.cells zba.toArray 36))
 have HK0:=zh ((Kp.refl E.pb w).alloc (.cells zba.toArray 36))
 have HBr0:=zh (Blk.new w zba 36)
 have hzr0:=HBr0.out.lt
 have c0:w.cell? ⟨E.pb,0,none⟩=some (.slice (some ⟨E.tb,0,none⟩) E.ts.length E.cap):=h.blk.cell 0
 have c1:w.cell? ⟨E.pb,1,none⟩=some (.int .i64 ((E.ts.length-l.length:Nat):Int)):=h.blk.cell 1
 obtain ⟨t0,t1,t2,t3⟩:=h.tok
 have hk:E.ts.length-l.length<E.ts.length:=by have:=h.head.1;have:=h.le;omega
 have hlen:=h.len
 have hcap:=h.capb
 have ix1:(0:Int)≤((E.ts.length-l.length:Nat):Int):=by omega
 have ix2:(((E.ts.length-l.length:Nat):Int))<(E.ts.length:Int):=by omega
 generalize E.ts.length-l.length=k at *
 generalize hT:hdT l=tk at *
 have HT:=zh hT
 clear h hT t0 t2
 go_enter Tryz.func38,Tryz.ntmps38
 go_wp2_with fail
 go_region_held3 (fun w'=>w'.cell? ⟨E.pb,0,none⟩=some (.slice (some ⟨E.tb,0,none⟩) E.ts.length E.cap)∧w'.cell? ⟨E.pb,1,none⟩=some (.int .i64 (k:Int))∧w'.cell? ⟨E.tb,k * 4+1,none⟩=some (.string tk.text)∧w'.cell? ⟨E.tb,k * 4+3,none⟩=some (.int .i64 tk.place))
  (first|go_keep)
  (fail)
 obtain ⟨hs0,hbr0,hbn0,hkp0⟩:=zLm H.out (zaa (T.mk 8 tk.text 0 tk.place []) (.slice none 0 0))
 have H0:=zh hs0
 have HBr0:=zh hbr0
 have HBn0:=zh hbn0
 have HK0:=zh hkp0
 have hzn0:=hbn0.lt
 clear hs0 hbr0 hbn0 hkp0 c0 c1 t1 t3
 go_wp2_with fail
 refine (zab H0.out (bs [105,110,116]) zju (by decide)).mono ?_
 rintro e w1 ⟨b1,l1,rfl,hs1,hp1,hc1⟩
 have HBr1:=zh (HBr0.out.kp hp1 (by omega))
 have HBn1:=zh (HBn0.out.kp hp1 (by omega))
 have HK1:=zh (HK0.out.trans hp1)
 have hzr1:=HBr1.out.lt
 have hzn1:=HBn1.out.lt
 have H1:=zh hs1
 have HC1:=zh hc1
 clear hs1 hp1 hc1
 rcases HC1.out with ⟨rfl,hf1,hi1,rfl⟩|⟨rfl,hx1,rfl⟩
 ·go_wp2_with (first|((with_reducible refine zqa 36 (.tmp 3) ?_);refine zfa rfl 36 (.tmp 3) rfl (w.heap.size+1) (T.mk 8 tk.text 0 tk.place []) (.slice none 0 0) rfl HBn1.out Tryz.underlying36 rfl Tryz.zha ?_)|((with_reducible refine zla 36 (.tmp 2) ?_);refine zda rfl 36 (.tmp 2) (.tmp 34) rfl w.heap.size (zaa (T.mk 8 tk.text 0 tk.place []) (.slice none 0 0)) rfl rfl HBr1.out Tryz.zha rfl (zca _ _ rfl) ?_))
  exact zma (cs:=zaa (T.mk 8 tk.text 0 tk.place []) (.slice none 0 0)) Tryz.results38 rfl HBr1.out Tryz.underlying36 rfl Tryz.zha rfl
   ⟨(T.mk 8 tk.text 0 tk.place []),_,l.tail,f,q,rfl,((KAt.nil 36 _ (fun b=>w.heap.size<b)).setRow w.heap.size _ (fun b hb=>by omega)).mono (fun b hb _=>by omega),by show 0≤40000;decide,H1.out.same (by simp [World.setRow]) (setRow_other _ _ _ _ (by omega)) (setRow_other _ _ _ _ (by omega)),HK1.out.setRow (Nat.le_refl _) _,zCa.turn (fun _=>zFr hi1) (by rw [HT.out];exact zCa.take hf1 _)⟩
 ·go_wp2_with fail
  refine (zab H1.out (bs [111,119,110]) zGs (by decide)).mono ?_
  rintro e w2 ⟨b2,l2,rfl,hs2,hp2,hc2⟩
  have HBr2:=zh (HBr1.out.kp hp2 (by omega))
  have HBn2:=zh (HBn1.out.kp hp2 (by omega))
  have HK2:=zh (HK1.out.trans hp2)
  have hzr2:=HBr2.out.lt
  have hzn2:=HBn2.out.lt
  have H2:=zh hs2
  have HC2:=zh hc2
  clear hs2 hp2 hc2
  rcases HC2.out with ⟨rfl,hf2,hi2,rfl⟩|⟨rfl,hx2,rfl⟩
  ·go_wp2_with fail
   refine (zjd H2.out).mono ?_
   rintro e w3 ⟨t3,vt3,l3,f3,q3,rfl,hk3,hn3,hs3,hp3,hsee3⟩
   have HBr3:=zh (HBr2.out.kp hp3 (by omega))
   have HBn3:=zh (HBn2.out.kp hp3 (by omega))
   have HK3:=zh (HK2.out.trans hp3)
   have hzr3:=HBr3.out.lt
   have hzn3:=HBn3.out.lt
   have HVt33:=zh (show KAt 36 w3 t3.kids (fun b=>w.heap.size<b∧b≠w.heap.size+1) vt3 from hk3.mono (fun b hb _=>by (try simp at hb);omega))
   have H3:=zh hs3
   have HS3:=zh hsee3
   clear hk3 hs3 hp3 hsee3
   unfold zna
   have n4:w3.cell? ⟨(w.heap.size+1),4,none⟩=some (.slice none 0 0):=HBn3.out.cell 4
   have nf4:=HBn3.out.frozen 4
   go_wp2_with (first|((with_reducible refine zla 36 (.tmp 7) ?_);refine zga rfl 36 (.tmp 7) (.tmp 46) rfl (zaa t3 vt3) (old:=zba) rfl rfl Tryz.zha rfl (zca _ _ HVt33.out.one) ?_)|((with_reducible refine zqa 36 (.tmp 7) ?_);refine zfa rfl 36 (.tmp 7) rfl w3.heap.size t3 vt3 rfl (Blk.new w3 _ _) Tryz.underlying36 rfl Tryz.zha ?_)|((with_reducible refine zqa 36 (.tmp 3) ?_);refine zfa rfl 36 (.tmp 3) rfl (w.heap.size+1) (T.mk 8 tk.text 0 tk.place [t3]) (.slice (some ⟨w3.heap.size+1,0,none⟩) 1 1) rfl (((HBn3.out.zNa 4 _).alloc _).alloc _) Tryz.underlying36 rfl Tryz.zha ?_)|((with_reducible refine zla 36 (.tmp 2) ?_);refine zda rfl 36 (.tmp 2) (.tmp 50) rfl w.heap.size (zaa (T.mk 8 tk.text 0 tk.place [t3]) (.slice (some ⟨w3.heap.size+1,0,none⟩) 1 1)) rfl rfl (((HBr3.out.setOther ⟨(w.heap.size+1),4,none⟩ _ (by (try dsimp only);omega)).alloc _).alloc _) Tryz.zha rfl (zca _ _ rfl) ?_))
   have hk1:=KAt.zrk (e:=36) (w:=((w3.setCell ⟨(w.heap.size+1),4,none⟩ (.slice (some ⟨w3.heap.size+1,0,none⟩) 1 1)).alloc (.cells (zaa t3 vt3).toArray 36))) (t:=t3) (S:=(fun b=>w.heap.size<b∧b≠w.heap.size+1)) (TAt.zHa ((HVt33.out.setCell ⟨(w.heap.size+1),4,none⟩ (.slice (some ⟨w3.heap.size+1,0,none⟩) 1 1) (fun b hb=>by (try dsimp only);omega)).alloc _)) (by simp only [World.size_alloc,World.size_setCell];omega)
   rw [show ((w3.setCell ⟨(w.heap.size+1),4,none⟩ (.slice (some ⟨w3.heap.size+1,0,none⟩) 1 1)).alloc (.cells (zaa t3 vt3).toArray 36)).heap.size=w3.heap.size+1 by simp] at hk1
   have HVx3:=zh hk1
   clear hk1 n4 nf4
   exact zma (cs:=zaa (T.mk 8 tk.text 0 tk.place [t3]) (.slice (some ⟨w3.heap.size+1,0,none⟩) 1 1)) Tryz.results38 rfl (((HBr3.out.setOther ⟨(w.heap.size+1),4,none⟩ _ (by (try dsimp only);omega)).alloc _).alloc _) Tryz.underlying36 rfl Tryz.zha rfl
    ⟨(T.mk 8 tk.text 0 tk.place [t3]),_,l3,f3,q3,rfl,(HVx3.out.setRow w.heap.size _ (fun b hb=>by omega)).mono (fun b hb _=>by omega),by show 1≤40000;decide,(((H3.out.far ⟨(w.heap.size+1),4,none⟩ _ (by (try dsimp only);omega) (by (try dsimp only);omega)).alloc _).alloc _).same (by simp [World.setRow]) (setRow_other _ _ _ _ (by omega)) (setRow_other _ _ _ _ (by omega)),(((HK3.out.zLc (p:=⟨(w.heap.size+1),4,none⟩) (by (try dsimp only);omega) _).alloc _).alloc _).setRow (Nat.le_refl _) _,zCa.turn (fun _=>zys hi2) (by rw [HT.out];exact zCa.behind hf2 (HS3.out.andThen (zCa.done _ _ _ _)))⟩
  ·go_wp2_with fail
   refine (zRa H2.out (bs [38]) zZt (by decide)).mono ?_
   rintro e w3 ⟨l3,f3,q3,rfl,hs3,hp3,tk3,hsee3⟩
   have HBr3:=zh (HBr2.out.kp hp3 (by omega))
   have HBn3:=zh (HBn2.out.kp hp3 (by omega))
   have HK3:=zh (HK2.out.trans hp3)
   have hzr3:=HBr3.out.lt
   have hzn3:=HBn3.out.lt
   have H3:=zh hs3
   have HS3:=zh hsee3
   clear hs3 hp3 hsee3
   go_wp2_with fail
   refine (zab H3.out (bs [109,117,116]) zEs (by decide)).mono ?_
   rintro e w4 ⟨b4,l4,rfl,hs4,hp4,hc4⟩
   have HBr4:=zh (HBr3.out.kp hp4 (by omega))
   have HBn4:=zh (HBn3.out.kp hp4 (by omega))
   have HK4:=zh (HK3.out.trans hp4)
   have hzr4:=HBr4.out.lt
   have hzn4:=HBn4.out.lt
   have H4:=zh hs4
   have HC4:=zh hc4
   clear hs4 hp4 hc4
   rcases HC4.out with ⟨rfl,hf4,hi4,rfl⟩|⟨rfl,hx4,rfl⟩
   ·have m1:w4.cell? ⟨w.heap.size+1,1,none⟩=some (.string tk.text):=HBn4.out.cell 1
    have mf1:=HBn4.out.frozen 1
    go_wp2_with fail
    clear m1 mf1
    refine (zjd (H4.out.far ⟨(w.heap.size+1),1,none⟩ _ (by (try dsimp only);omega) (by (try dsimp only);omega))).mono ?_
    rintro e w5 ⟨t5,vt5,l5,f5,q5,rfl,hk5,hn5,hs5,hp5,hsee5⟩
    have HBr5:=zh ((HBr4.out.setOther ⟨(w.heap.size+1),1,none⟩ _ (by (try dsimp only);omega)).kp hp5 (by omega))
    have HBn5:=zh ((HBn4.out.zNa 1 _).kp hp5 (by omega))
    have HK5:=zh ((HK4.out.zLc (p:=⟨(w.heap.size+1),1,none⟩) (by (try dsimp only);omega) _).trans hp5)
    have hzr5:=HBr5.out.lt
    have hzn5:=HBn5.out.lt
    have HVt55:=zh (show KAt 36 w5 t5.kids (fun b=>w.heap.size<b∧b≠w.heap.size+1) vt5 from hk5.mono (fun b hb _=>by (try simp at hb);omega))
    have H5:=zh hs5
    have HS5:=zh hsee5
    clear hk5 hs5 hp5 hsee5
    unfold zna
    have n4:w5.cell? ⟨(w.heap.size+1),4,none⟩=some (.slice none 0 0):=HBn5.out.cell 4
    have nf4:=HBn5.out.frozen 4
    go_wp2_with (first|((with_reducible refine zla 36 (.tmp 7) ?_);refine zga rfl 36 (.tmp 7) (.tmp 46) rfl (zaa t5 vt5) (old:=zba) rfl rfl Tryz.zha rfl (zca _ _ HVt55.out.one) ?_)|((with_reducible refine zqa 36 (.tmp 7) ?_);refine zfa rfl 36 (.tmp 7) rfl w5.heap.size t5 vt5 rfl (Blk.new w5 _ _) Tryz.underlying36 rfl Tryz.zha ?_)|((with_reducible refine zqa 36 (.tmp 3) ?_);refine zfa rfl 36 (.tmp 3) rfl (w.heap.size+1) (T.mk 8 (bs [38,109,117,116]) 0 tk.place [t5]) (.slice (some ⟨w5.heap.size+1,0,none⟩) 1 1) rfl (((HBn5.out.zNa 4 _).alloc _).alloc _) Tryz.underlying36 rfl Tryz.zha ?_)|((with_reducible refine zla 36 (.tmp 2) ?_);refine zda rfl 36 (.tmp 2) (.tmp 50) rfl w.heap.size (zaa (T.mk 8 (bs [38,109,117,116]) 0 tk.place [t5]) (.slice (some ⟨w5.heap.size+1,0,none⟩) 1 1)) rfl rfl (((HBr5.out.setOther ⟨(w.heap.size+1),4,none⟩ _ (by (try dsimp only);omega)).alloc _).alloc _) Tryz.zha rfl (zca _ _ rfl) ?_))
    have hk1:=KAt.zrk (e:=36) (w:=((w5.setCell ⟨(w.heap.size+1),4,none⟩ (.slice (some ⟨w5.heap.size+1,0,none⟩) 1 1)).alloc (.cells (zaa t5 vt5).toArray 36))) (t:=t5) (S:=(fun b=>w.heap.size<b∧b≠w.heap.size+1)) (TAt.zHa ((HVt55.out.setCell ⟨(w.heap.size+1),4,none⟩ (.slice (some ⟨w5.heap.size+1,0,none⟩) 1 1) (fun b hb=>by (try dsimp only);omega)).alloc _)) (by simp only [World.size_alloc,World.size_setCell];omega)
    rw [show ((w5.setCell ⟨(w.heap.size+1),4,none⟩ (.slice (some ⟨w5.heap.size+1,0,none⟩) 1 1)).alloc (.cells (zaa t5 vt5).toArray 36)).heap.size=w5.heap.size+1 by simp] at hk1
    have HVx5:=zh hk1
    clear hk1 n4 nf4
    exact zma (cs:=zaa (T.mk 8 (bs [38,109,117,116]) 0 tk.place [t5]) (.slice (some ⟨w5.heap.size+1,0,none⟩) 1 1)) Tryz.results38 rfl (((HBr5.out.setOther ⟨(w.heap.size+1),4,none⟩ _ (by (try dsimp only);omega)).alloc _).alloc _) Tryz.underlying36 rfl Tryz.zha rfl
     ⟨(T.mk 8 (bs [38,109,117,116]) 0 tk.place [t5]),_,l5,f5,q5,rfl,(HVx5.out.setRow w.heap.size _ (fun b hb=>by omega)).mono (fun b hb _=>by omega),by show 1≤40000;decide,(((H5.out.far ⟨(w.heap.size+1),4,none⟩ _ (by (try dsimp only);omega) (by (try dsimp only);omega)).alloc _).alloc _).same (by simp [World.setRow]) (setRow_other _ _ _ _ (by omega)) (setRow_other _ _ _ _ (by omega)),(((HK5.out.zLc (p:=⟨(w.heap.size+1),4,none⟩) (by (try dsimp only);omega) _).alloc _).alloc _).setRow (Nat.le_refl _) _,zCa.turn (fun hf=>zjn (zxd hx1 hf) (zxd hx2 hf)) (by rw [HT.out];exact HS3.out.andThen (zCa.yes hi4 hf4 (HS5.out.andThen (zCa.done _ _ _ _))))⟩
   ·go_wp2_with fail
    refine (zjd H4.out).mono ?_
    rintro e w5 ⟨t5,vt5,l5,f5,q5,rfl,hk5,hn5,hs5,hp5,hsee5⟩
    have HBr5:=zh (HBr4.out.kp hp5 (by omega))
    have HBn5:=zh (HBn4.out.kp hp5 (by omega))
    have HK5:=zh (HK4.out.trans hp5)
    have hzr5:=HBr5.out.lt
    have hzn5:=HBn5.out.lt
    have HVt55:=zh (show KAt 36 w5 t5.kids (fun b=>w.heap.size<b∧b≠w.heap.size+1) vt5 from hk5.mono (fun b hb _=>by (try simp at hb);omega))
    have H5:=zh hs5
    have HS5:=zh hsee5
    clear hk5 hs5 hp5 hsee5
    unfold zna
    have n4:w5.cell? ⟨(w.heap.size+1),4,none⟩=some (.slice none 0 0):=HBn5.out.cell 4
    have nf4:=HBn5.out.frozen 4
    go_wp2_with (first|((with_reducible refine zla 36 (.tmp 7) ?_);refine zga rfl 36 (.tmp 7) (.tmp 46) rfl (zaa t5 vt5) (old:=zba) rfl rfl Tryz.zha rfl (zca _ _ HVt55.out.one) ?_)|((with_reducible refine zqa 36 (.tmp 7) ?_);refine zfa rfl 36 (.tmp 7) rfl w5.heap.size t5 vt5 rfl (Blk.new w5 _ _) Tryz.underlying36 rfl Tryz.zha ?_)|((with_reducible refine zqa 36 (.tmp 3) ?_);refine zfa rfl 36 (.tmp 3) rfl (w.heap.size+1) (T.mk 8 tk.text 0 tk.place [t5]) (.slice (some ⟨w5.heap.size+1,0,none⟩) 1 1) rfl (((HBn5.out.zNa 4 _).alloc _).alloc _) Tryz.underlying36 rfl Tryz.zha ?_)|((with_reducible refine zla 36 (.tmp 2) ?_);refine zda rfl 36 (.tmp 2) (.tmp 50) rfl w.heap.size (zaa (T.mk 8 tk.text 0 tk.place [t5]) (.slice (some ⟨w5.heap.size+1,0,none⟩) 1 1)) rfl rfl (((HBr5.out.setOther ⟨(w.heap.size+1),4,none⟩ _ (by (try dsimp only);omega)).alloc _).alloc _) Tryz.zha rfl (zca _ _ rfl) ?_))
    have hk1:=KAt.zrk (e:=36) (w:=((w5.setCell ⟨(w.heap.size+1),4,none⟩ (.slice (some ⟨w5.heap.size+1,0,none⟩) 1 1)).alloc (.cells (zaa t5 vt5).toArray 36))) (t:=t5) (S:=(fun b=>w.heap.size<b∧b≠w.heap.size+1)) (TAt.zHa ((HVt55.out.setCell ⟨(w.heap.size+1),4,none⟩ (.slice (some ⟨w5.heap.size+1,0,none⟩) 1 1) (fun b hb=>by (try dsimp only);omega)).alloc _)) (by simp only [World.size_alloc,World.size_setCell];omega)
    rw [show ((w5.setCell ⟨(w.heap.size+1),4,none⟩ (.slice (some ⟨w5.heap.size+1,0,none⟩) 1 1)).alloc (.cells (zaa t5 vt5).toArray 36)).heap.size=w5.heap.size+1 by simp] at hk1
    have HVx5:=zh hk1
    clear hk1 n4 nf4
    exact zma (cs:=zaa (T.mk 8 tk.text 0 tk.place [t5]) (.slice (some ⟨w5.heap.size+1,0,none⟩) 1 1)) Tryz.results38 rfl (((HBr5.out.setOther ⟨(w.heap.size+1),4,none⟩ _ (by (try dsimp only);omega)).alloc _).alloc _) Tryz.underlying36 rfl Tryz.zha rfl
     ⟨(T.mk 8 tk.text 0 tk.place [t5]),_,l5,f5,q5,rfl,(HVx5.out.setRow w.heap.size _ (fun b hb=>by omega)).mono (fun b hb _=>by omega),by show 1≤40000;decide,(((H5.out.far ⟨(w.heap.size+1),4,none⟩ _ (by (try dsimp only);omega) (by (try dsimp only);omega)).alloc _).alloc _).same (by simp [World.setRow]) (setRow_other _ _ _ _ (by omega)) (setRow_other _ _ _ _ (by omega)),(((HK5.out.zLc (p:=⟨(w.heap.size+1),4,none⟩) (by (try dsimp only);omega) _).alloc _).alloc _).setRow (Nat.le_refl _) _,zCa.turn (fun hf=>zjn (zxd hx1 hf) (zxd hx2 hf)) (by rw [HT.out];exact HS3.out.andThen (zCa.no hx4 (HS5.out.andThen (zCa.done _ _ _ _))))⟩
end
section
open Go.RowKit
def RFail (E:Env) (w:World) (d:Nat) (l:List Tok) (f:Int) (q:Nat) (c:Int) (e:Ending) (w':World):Prop :=
 ∃ f' q',e=.returned (.tuple #[])∧RSt E w' l d f' q'∧Kp E.pb w w'∧(f' == 0)=false∧∀ {α:Type} (t:α),zCa l f q (.error ((hdT l).place,c)) t l f' q'
theorem zRk {E:Env} {w:World} {l:List Tok} {d:Nat} {f:Int} {q:Nat} (h:RSt E w l d f q) (c:Int) (hc:(c == 0)=false) :
  Calls Tryz.prog 39 #[.pointer (some ⟨E.pb,0,none⟩),.int .i64 c] w (RFail E w d l f q c):=by
 cases hf:(f == 0) with
 | false=>exact (zEf h hf c).mono fun _ _ ⟨he,hw⟩=>⟨f,q,he,by rw [← hw];exact h,by rw [← hw];exact Kp.refl _ _,hf,fun _=>.inr ⟨hf,rfl,rfl,rfl⟩⟩
 | true =>
  have e:f=0:=beq_iff_eq.1 hf
  subst e
  exact (zKf h c).mono fun _ _ ⟨he,h1,h2⟩=>⟨c,_,he,h1,h2,hc,fun _=>.inl ⟨rfl,.inr ⟨_,_,rfl,rfl,rfl,hc⟩⟩⟩
theorem zdt:zOa (bs [99,101,108,108])=true:=by kernel_rfl
theorem zbo:zOa (bs [99,111,117,110,116,101,100])=true:=by kernel_rfl
theorem zIt:zOa (bs [108,111,99,107])=true:=by kernel_rfl
theorem zfs:zOa (bs [103,117,97,114,100])=true:=by kernel_rfl
def zVo:List Value:=[.string (bs [99,111,117,110,116,101,100]),.string (bs [108,111,99,107]),.string (bs [103,117,97,114,100])]
theorem zll {l:List Tok} (h:isT (hdT l) (bs [111,119,110])=true∨isT (hdT l) (bs [99,101,108,108])=true):zKd l=.ok (.mk 2 (hdT l).text 0 (hdT l).place [],l.tail):=by
 unfold zKd zsa
 have e:([bs [111,119,110],bs [99,101,108,108],bs [99,111,117,110,116,101,100],bs [108,111,99,107],bs [103,117,97,114,100]].any (isT (hdT l)))=true:=by rcases h with h|h<;>simp [h]
 rw [e]
 show bd (Except.ok (hdT l,l.tail)) _=_
 unfold bd
 simp only
 have e2:(isT (hdT l) (bs [111,119,110]) || isT (hdT l) (bs [99,101,108,108]))=true:=by rcases h with h|h<;>simp [h]
 rw [e2]
 rfl
theorem zei {l:List Tok} (s:ByteArray) (hs:s∈[bs [99,111,117,110,116,101,100],bs [108,111,99,107],bs [103,117,97,114,100]]) (h:isT (hdT l) s=true):zKd l=bd (zoa l.tail) fun a l2=>.ok (.mk 2 (hdT l).text 0 (hdT l).place [a],l2):=by
 unfold zKd zsa
 have e:([bs [111,119,110],bs [99,101,108,108],bs [99,111,117,110,116,101,100],bs [108,111,99,107],bs [103,117,97,114,100]].any (isT (hdT l)))=true:=by
  refine List.any_eq_true.2 ⟨s,?_,h⟩
  simp only [List.mem_cons] at hs ⊢
  exact .inr (.inr hs)
 rw [e]
 show bd (Except.ok (hdT l,l.tail)) _=_
 unfold bd
 simp only
 have e2:(isT (hdT l) (bs [111,119,110]) || isT (hdT l) (bs [99,101,108,108]))=false:=by
  simp only [List.mem_cons,List.not_mem_nil,or_false] at hs
  rcases hs with rfl|rfl|rfl
  ·rw [zza h (b:=bs [111,119,110]) (by kernel_rfl),zza h (b:=bs [99,101,108,108]) (by kernel_rfl)];rfl
  ·rw [zza h (b:=bs [111,119,110]) (by kernel_rfl),zza h (b:=bs [99,101,108,108]) (by kernel_rfl)];rfl
  ·rw [zza h (b:=bs [111,119,110]) (by kernel_rfl),zza h (b:=bs [99,101,108,108]) (by kernel_rfl)];rfl
 rw [e2]
 rfl
theorem ztt {l:List Tok} (h0:isT (hdT l) (bs [111,119,110])=false) (h1:isT (hdT l) (bs [99,101,108,108])=false) (h2:isT (hdT l) (bs [99,111,117,110,116,101,100])=false) (h3:isT (hdT l) (bs [108,111,99,107])=false) (h4:isT (hdT l) (bs [103,117,97,114,100])=false):zKd l=.error ((hdT l).place,20):=by
 unfold zKd zsa
 simp [h0,h1,h2,h3,h4,bd]
theorem zCp {E:Env} {w:World} {l:List Tok} {d:Nat} {f:Int} {q:Nat} (h:RSt E w l d f q) :
  Calls Tryz.prog 41 #[.pointer (some ⟨E.pb,0,none⟩)] w (zqg E w d l f q (zKd l)):=by
 have H:=zh h
 have hplt:=h.plt
 have htlt:=h.tlt
 have c0:w.cell? ⟨E.pb,0,none⟩=some (.slice (some ⟨E.tb,0,none⟩) E.ts.length E.cap):=h.blk.cell 0
 have c1:w.cell? ⟨E.pb,1,none⟩=some (.int .i64 ((E.ts.length-l.length:Nat):Int)):=h.blk.cell 1
 obtain ⟨t0,t1,t2,t3⟩:=h.tok
 have hk:E.ts.length-l.length<E.ts.length:=by have:=h.head.1;have:=h.le;omega
 have hlen:=h.len
 have hcap:=h.capb
 have ix1:(0:Int)≤((E.ts.length-l.length:Nat):Int):=by omega
 have ix2:(((E.ts.length-l.length:Nat):Int))<(E.ts.length:Int):=by omega
 generalize E.ts.length-l.length=k at *
 generalize hT:hdT l=tk at *
 have HT:=zh hT
 clear h hT t0 t2
 go_enter Tryz.func41,Tryz.ntmps41
 go_wp2_with fail
 go_region_held3 (fun w'=>w'.cell? ⟨E.pb,0,none⟩=some (.slice (some ⟨E.tb,0,none⟩) E.ts.length E.cap)∧w'.cell? ⟨E.pb,1,none⟩=some (.int .i64 (k:Int))∧w'.cell? ⟨E.tb,k * 4+1,none⟩=some (.string tk.text)∧w'.cell? ⟨E.tb,k * 4+3,none⟩=some (.int .i64 tk.place))
  (first|go_keep)
  (fail)
 obtain ⟨hs0,hbr0,hbn0,hkp0⟩:=zLm H.out (zaa (T.mk 2 tk.text 0 tk.place []) (.slice none 0 0))
 have H0:=zh hs0
 have HBr0:=zh hbr0
 have HBn0:=zh hbn0
 have HK0:=zh hkp0
 have hzn0:=hbn0.lt
 clear hs0 hbr0 hbn0 hkp0 c0 c1 t1 t3
 go_wp2_with fail
 refine (zab H0.out (bs [111,119,110]) zGs (by decide)).mono ?_
 rintro e w1 ⟨b1,l1,rfl,hs1,hp1,hc1⟩
 have HBr1:=zh (HBr0.out.kp hp1 (by omega))
 have HBn1:=zh (HBn0.out.kp hp1 (by omega))
 have HK1:=zh (HK0.out.trans hp1)
 have hzr1:=HBr1.out.lt
 have hzn1:=HBn1.out.lt
 have H1:=zh hs1
 have HC1:=zh hc1
 clear hs1 hp1 hc1
 rcases HC1.out with ⟨rfl,hf1,hi1,rfl⟩|⟨rfl,hx1,rfl⟩
 ·go_wp2_with (first|((with_reducible refine zqa 36 (.tmp 3) ?_);refine zfa rfl 36 (.tmp 3) rfl (w.heap.size+1) (T.mk 2 tk.text 0 tk.place []) (.slice none 0 0) rfl HBn1.out Tryz.underlying36 rfl Tryz.zha ?_)|((with_reducible refine zla 36 (.tmp 2) ?_);refine zda rfl 36 (.tmp 2) (.tmp 36) rfl w.heap.size (zaa (T.mk 2 tk.text 0 tk.place []) (.slice none 0 0)) rfl rfl HBr1.out Tryz.zha rfl (zca _ _ rfl) ?_))
  exact zma (cs:=zaa (T.mk 2 tk.text 0 tk.place []) (.slice none 0 0)) Tryz.results41 rfl HBr1.out Tryz.underlying36 rfl Tryz.zha rfl
   ⟨(T.mk 2 tk.text 0 tk.place []),_,l.tail,f,q,rfl,((KAt.nil 36 _ (fun b=>w.heap.size<b)).setRow w.heap.size _ (fun b hb=>by omega)).mono (fun b hb _=>by omega),by show 0≤40000;decide,H1.out.same (by simp [World.setRow]) (setRow_other _ _ _ _ (by omega)) (setRow_other _ _ _ _ (by omega)),HK1.out.setRow (Nat.le_refl _) _,zCa.turn (fun _=>zll (.inl hi1)) (by rw [HT.out];exact zCa.take hf1 _)⟩
 ·go_wp2_with fail
  refine (zab H1.out (bs [99,101,108,108]) zdt (by decide)).mono ?_
  rintro e w2 ⟨b2,l2,rfl,hs2,hp2,hc2⟩
  have HBr2:=zh (HBr1.out.kp hp2 (by omega))
  have HBn2:=zh (HBn1.out.kp hp2 (by omega))
  have HK2:=zh (HK1.out.trans hp2)
  have hzr2:=HBr2.out.lt
  have hzn2:=HBn2.out.lt
  have H2:=zh hs2
  have HC2:=zh hc2
  clear hs2 hp2 hc2
  rcases HC2.out with ⟨rfl,hf2,hi2,rfl⟩|⟨rfl,hx2,rfl⟩
  ·go_wp2_with (first|((with_reducible refine zqa 36 (.tmp 3) ?_);refine zfa rfl 36 (.tmp 3) rfl (w.heap.size+1) (T.mk 2 tk.text 0 tk.place []) (.slice none 0 0) rfl HBn2.out Tryz.underlying36 rfl Tryz.zha ?_)|((with_reducible refine zla 36 (.tmp 2) ?_);refine zda rfl 36 (.tmp 2) (.tmp 40) rfl w.heap.size (zaa (T.mk 2 tk.text 0 tk.place []) (.slice none 0 0)) rfl rfl HBr2.out Tryz.zha rfl (zca _ _ rfl) ?_))
   exact zma (cs:=zaa (T.mk 2 tk.text 0 tk.place []) (.slice none 0 0)) Tryz.results41 rfl HBr2.out Tryz.underlying36 rfl Tryz.zha rfl
    ⟨(T.mk 2 tk.text 0 tk.place []),_,l1.tail,f,q,rfl,((KAt.nil 36 _ (fun b=>w.heap.size<b)).setRow w.heap.size _ (fun b hb=>by omega)).mono (fun b hb _=>by omega),by show 0≤40000;decide,H2.out.same (by simp [World.setRow]) (setRow_other _ _ _ _ (by omega)) (setRow_other _ _ _ _ (by omega)),HK2.out.setRow (Nat.le_refl _) _,zCa.turn (fun _=>zll (.inr hi2)) (by rw [HT.out];exact zCa.take hf2 _)⟩
  ·go_wp2_with fail
   refine wp_loop_rounds 4 ?_
   rw [rounds_succ]
   go_wp2_with fail
   have HBs2:=zh (Blk.new w2 zVo 9)
   refine (zab (H2.out.alloc _) (bs [99,111,117,110,116,101,100]) zbo (by decide)).mono ?_
   rintro e w3 ⟨b3,l3,rfl,hs3,hp3,hc3⟩
   have HBr3:=zh ((HBr2.out.alloc _).kp hp3 (by omega))
   have HBn3:=zh ((HBn2.out.alloc _).kp hp3 (by omega))
   have HBs3:=zh (HBs2.out.kp hp3 (by omega))
   have HK3:=zh ((HK2.out.alloc _).trans hp3)
   have hzr3:=HBr3.out.lt
   have hzn3:=HBn3.out.lt
   have hzs3:=HBs3.out.lt
   have H3:=zh hs3
   have HC3:=zh hc3
   clear hs3 hp3 hc3
   rcases HC3.out with ⟨rfl,hf3,hi3,rfl⟩|⟨rfl,hx3,rfl⟩
   ·go_wp2_with fail
    refine (zjd H3.out).mono ?_
    rintro e w4 ⟨t4,vt4,l4,f4,q4,rfl,hk4,hn4,hs4,hp4,hsee4⟩
    have HBr4:=zh (HBr3.out.kp hp4 (by omega))
    have HBn4:=zh (HBn3.out.kp hp4 (by omega))
    have HBs4:=zh (HBs3.out.kp hp4 (by omega))
    have HK4:=zh (HK3.out.trans hp4)
    have hzr4:=HBr4.out.lt
    have hzn4:=HBn4.out.lt
    have hzs4:=HBs4.out.lt
    have HVt44:=zh (show KAt 36 w4 t4.kids (fun b=>w.heap.size<b∧b≠w.heap.size+1) vt4 from hk4.mono (fun b hb _=>by (try simp at hb);omega))
    have H4:=zh hs4
    have HS4:=zh hsee4
    clear hk4 hs4 hp4 hsee4
    unfold zna
    have n4:w4.cell? ⟨(w.heap.size+1),4,none⟩=some (.slice none 0 0):=HBn4.out.cell 4
    have nf4:=HBn4.out.frozen 4
    go_wp2_with (first|((with_reducible refine zla 36 (.tmp 9) ?_);refine zga rfl 36 (.tmp 9) (.tmp 56) rfl (zaa t4 vt4) (old:=zba) rfl rfl Tryz.zha rfl (zca _ _ HVt44.out.one) ?_)|((with_reducible refine zqa 36 (.tmp 9) ?_);refine zfa rfl 36 (.tmp 9) rfl w4.heap.size t4 vt4 rfl (Blk.new w4 _ _) Tryz.underlying36 rfl Tryz.zha ?_)|((with_reducible refine zqa 36 (.tmp 3) ?_);refine zfa rfl 36 (.tmp 3) rfl (w.heap.size+1) (T.mk 2 tk.text 0 tk.place [t4]) (.slice (some ⟨w4.heap.size+1,0,none⟩) 1 1) rfl (((HBn4.out.zNa 4 _).alloc _).alloc _) Tryz.underlying36 rfl Tryz.zha ?_)|((with_reducible refine zla 36 (.tmp 2) ?_);refine zda rfl 36 (.tmp 2) (.tmp 60) rfl w.heap.size (zaa (T.mk 2 tk.text 0 tk.place [t4]) (.slice (some ⟨w4.heap.size+1,0,none⟩) 1 1)) rfl rfl (((HBr4.out.setOther ⟨(w.heap.size+1),4,none⟩ _ (by (try dsimp only);omega)).alloc _).alloc _) Tryz.zha rfl (zca _ _ rfl) ?_))
    have hk1:=KAt.zrk (e:=36) (w:=((w4.setCell ⟨(w.heap.size+1),4,none⟩ (.slice (some ⟨w4.heap.size+1,0,none⟩) 1 1)).alloc (.cells (zaa t4 vt4).toArray 36))) (t:=t4) (S:=(fun b=>w.heap.size<b∧b≠w.heap.size+1)) (TAt.zHa ((HVt44.out.setCell ⟨(w.heap.size+1),4,none⟩ (.slice (some ⟨w4.heap.size+1,0,none⟩) 1 1) (fun b hb=>by (try dsimp only);omega)).alloc _)) (by simp only [World.size_alloc,World.size_setCell];omega)
    rw [show ((w4.setCell ⟨(w.heap.size+1),4,none⟩ (.slice (some ⟨w4.heap.size+1,0,none⟩) 1 1)).alloc (.cells (zaa t4 vt4).toArray 36)).heap.size=w4.heap.size+1 by simp] at hk1
    have HVx4:=zh hk1
    clear hk1 n4 nf4
    exact zma (cs:=zaa (T.mk 2 tk.text 0 tk.place [t4]) (.slice (some ⟨w4.heap.size+1,0,none⟩) 1 1)) Tryz.results41 rfl (((HBr4.out.setOther ⟨(w.heap.size+1),4,none⟩ _ (by (try dsimp only);omega)).alloc _).alloc _) Tryz.underlying36 rfl Tryz.zha rfl
     ⟨(T.mk 2 tk.text 0 tk.place [t4]),_,l4,f4,q4,rfl,(HVx4.out.setRow w.heap.size _ (fun b hb=>by omega)).mono (fun b hb _=>by omega),by show 1≤40000;decide,(((H4.out.far ⟨(w.heap.size+1),4,none⟩ _ (by (try dsimp only);omega) (by (try dsimp only);omega)).alloc _).alloc _).same (by simp [World.setRow]) (setRow_other _ _ _ _ (by omega)) (setRow_other _ _ _ _ (by omega)),(((HK4.out.zLc (p:=⟨(w.heap.size+1),4,none⟩) (by (try dsimp only);omega) _).alloc _).alloc _).setRow (Nat.le_refl _) _,zCa.turn (fun _=>zei (bs [99,111,117,110,116,101,100]) (by simp) hi3) (by rw [HT.out];exact zCa.behind hf3 (HS4.out.andThen (zCa.done _ _ _ _)))⟩
   ·have s0:w3.cell? ⟨w2.heap.size,0,none⟩=some (.string (bs [99,111,117,110,116,101,100])):=HBs3.out.cell 0
    have s1:w3.cell? ⟨w2.heap.size,1,none⟩=some (.string (bs [108,111,99,107])):=HBs3.out.cell 1
    have s2:w3.cell? ⟨w2.heap.size,2,none⟩=some (.string (bs [103,117,97,114,100])):=HBs3.out.cell 2
    go_wp2_with fail
    rw [rounds_succ]
    go_wp2_with fail
    clear s0 s1 s2
    refine (zab H3.out (bs [108,111,99,107]) zIt (by decide)).mono ?_
    rintro e w4 ⟨b4,l4,rfl,hs4,hp4,hc4⟩
    have HBr4:=zh (HBr3.out.kp hp4 (by omega))
    have HBn4:=zh (HBn3.out.kp hp4 (by omega))
    have HBs4:=zh (HBs3.out.kp hp4 (by omega))
    have HK4:=zh (HK3.out.trans hp4)
    have hzr4:=HBr4.out.lt
    have hzn4:=HBn4.out.lt
    have hzs4:=HBs4.out.lt
    have H4:=zh hs4
    have HC4:=zh hc4
    clear hs4 hp4 hc4
    rcases HC4.out with ⟨rfl,hf4,hi4,rfl⟩|⟨rfl,hx4,rfl⟩
    ·go_wp2_with fail
     refine (zjd H4.out).mono ?_
     rintro e w5 ⟨t5,vt5,l5,f5,q5,rfl,hk5,hn5,hs5,hp5,hsee5⟩
     have HBr5:=zh (HBr4.out.kp hp5 (by omega))
     have HBn5:=zh (HBn4.out.kp hp5 (by omega))
     have HBs5:=zh (HBs4.out.kp hp5 (by omega))
     have HK5:=zh (HK4.out.trans hp5)
     have hzr5:=HBr5.out.lt
     have hzn5:=HBn5.out.lt
     have hzs5:=HBs5.out.lt
     have HVt55:=zh (show KAt 36 w5 t5.kids (fun b=>w.heap.size<b∧b≠w.heap.size+1) vt5 from hk5.mono (fun b hb _=>by (try simp at hb);omega))
     have H5:=zh hs5
     have HS5:=zh hsee5
     clear hk5 hs5 hp5 hsee5
     unfold zna
     have n4:w5.cell? ⟨(w.heap.size+1),4,none⟩=some (.slice none 0 0):=HBn5.out.cell 4
     have nf4:=HBn5.out.frozen 4
     go_wp2_with (first|((with_reducible refine zla 36 (.tmp 9) ?_);refine zga rfl 36 (.tmp 9) (.tmp 56) rfl (zaa t5 vt5) (old:=zba) rfl rfl Tryz.zha rfl (zca _ _ HVt55.out.one) ?_)|((with_reducible refine zqa 36 (.tmp 9) ?_);refine zfa rfl 36 (.tmp 9) rfl w5.heap.size t5 vt5 rfl (Blk.new w5 _ _) Tryz.underlying36 rfl Tryz.zha ?_)|((with_reducible refine zqa 36 (.tmp 3) ?_);refine zfa rfl 36 (.tmp 3) rfl (w.heap.size+1) (T.mk 2 tk.text 0 tk.place [t5]) (.slice (some ⟨w5.heap.size+1,0,none⟩) 1 1) rfl (((HBn5.out.zNa 4 _).alloc _).alloc _) Tryz.underlying36 rfl Tryz.zha ?_)|((with_reducible refine zla 36 (.tmp 2) ?_);refine zda rfl 36 (.tmp 2) (.tmp 60) rfl w.heap.size (zaa (T.mk 2 tk.text 0 tk.place [t5]) (.slice (some ⟨w5.heap.size+1,0,none⟩) 1 1)) rfl rfl (((HBr5.out.setOther ⟨(w.heap.size+1),4,none⟩ _ (by (try dsimp only);omega)).alloc _).alloc _) Tryz.zha rfl (zca _ _ rfl) ?_))
     have hk1:=KAt.zrk (e:=36) (w:=((w5.setCell ⟨(w.heap.size+1),4,none⟩ (.slice (some ⟨w5.heap.size+1,0,none⟩) 1 1)).alloc (.cells (zaa t5 vt5).toArray 36))) (t:=t5) (S:=(fun b=>w.heap.size<b∧b≠w.heap.size+1)) (TAt.zHa ((HVt55.out.setCell ⟨(w.heap.size+1),4,none⟩ (.slice (some ⟨w5.heap.size+1,0,none⟩) 1 1) (fun b hb=>by (try dsimp only);omega)).alloc _)) (by simp only [World.size_alloc,World.size_setCell];omega)
     rw [show ((w5.setCell ⟨(w.heap.size+1),4,none⟩ (.slice (some ⟨w5.heap.size+1,0,none⟩) 1 1)).alloc (.cells (zaa t5 vt5).toArray 36)).heap.size=w5.heap.size+1 by simp] at hk1
     have HVx5:=zh hk1
     clear hk1 n4 nf4
     exact zma (cs:=zaa (T.mk 2 tk.text 0 tk.place [t5]) (.slice (some ⟨w5.heap.size+1,0,none⟩) 1 1)) Tryz.results41 rfl (((HBr5.out.setOther ⟨(w.heap.size+1),4,none⟩ _ (by (try dsimp only);omega)).alloc _).alloc _) Tryz.underlying36 rfl Tryz.zha rfl
      ⟨(T.mk 2 tk.text 0 tk.place [t5]),_,l5,f5,q5,rfl,(HVx5.out.setRow w.heap.size _ (fun b hb=>by omega)).mono (fun b hb _=>by omega),by show 1≤40000;decide,(((H5.out.far ⟨(w.heap.size+1),4,none⟩ _ (by (try dsimp only);omega) (by (try dsimp only);omega)).alloc _).alloc _).same (by simp [World.setRow]) (setRow_other _ _ _ _ (by omega)) (setRow_other _ _ _ _ (by omega)),(((HK5.out.zLc (p:=⟨(w.heap.size+1),4,none⟩) (by (try dsimp only);omega) _).alloc _).alloc _).setRow (Nat.le_refl _) _,zCa.turn (fun _=>zei (bs [108,111,99,107]) (by simp) hi4) (by rw [HT.out];exact zCa.behind hf4 (HS5.out.andThen (zCa.done _ _ _ _)))⟩
    ·have s0:w4.cell? ⟨w2.heap.size,0,none⟩=some (.string (bs [99,111,117,110,116,101,100])):=HBs4.out.cell 0
     have s1:w4.cell? ⟨w2.heap.size,1,none⟩=some (.string (bs [108,111,99,107])):=HBs4.out.cell 1
     have s2:w4.cell? ⟨w2.heap.size,2,none⟩=some (.string (bs [103,117,97,114,100])):=HBs4.out.cell 2
     go_wp2_with fail
     rw [rounds_succ]
     go_wp2_with fail
     clear s0 s1 s2
     refine (zab H4.out (bs [103,117,97,114,100]) zfs (by decide)).mono ?_
     rintro e w5 ⟨b5,l5,rfl,hs5,hp5,hc5⟩
     have HBr5:=zh (HBr4.out.kp hp5 (by omega))
     have HBn5:=zh (HBn4.out.kp hp5 (by omega))
     have HBs5:=zh (HBs4.out.kp hp5 (by omega))
     have HK5:=zh (HK4.out.trans hp5)
     have hzr5:=HBr5.out.lt
     have hzn5:=HBn5.out.lt
     have hzs5:=HBs5.out.lt
     have H5:=zh hs5
     have HC5:=zh hc5
     clear hs5 hp5 hc5
     rcases HC5.out with ⟨rfl,hf5,hi5,rfl⟩|⟨rfl,hx5,rfl⟩
     ·go_wp2_with fail
      refine (zjd H5.out).mono ?_
      rintro e w6 ⟨t6,vt6,l6,f6,q6,rfl,hk6,hn6,hs6,hp6,hsee6⟩
      have HBr6:=zh (HBr5.out.kp hp6 (by omega))
      have HBn6:=zh (HBn5.out.kp hp6 (by omega))
      have HBs6:=zh (HBs5.out.kp hp6 (by omega))
      have HK6:=zh (HK5.out.trans hp6)
      have hzr6:=HBr6.out.lt
      have hzn6:=HBn6.out.lt
      have hzs6:=HBs6.out.lt
      have HVt66:=zh (show KAt 36 w6 t6.kids (fun b=>w.heap.size<b∧b≠w.heap.size+1) vt6 from hk6.mono (fun b hb _=>by (try simp at hb);omega))
      have H6:=zh hs6
      have HS6:=zh hsee6
      clear hk6 hs6 hp6 hsee6
      unfold zna
      have n4:w6.cell? ⟨(w.heap.size+1),4,none⟩=some (.slice none 0 0):=HBn6.out.cell 4
      have nf4:=HBn6.out.frozen 4
      go_wp2_with (first|((with_reducible refine zla 36 (.tmp 9) ?_);refine zga rfl 36 (.tmp 9) (.tmp 56) rfl (zaa t6 vt6) (old:=zba) rfl rfl Tryz.zha rfl (zca _ _ HVt66.out.one) ?_)|((with_reducible refine zqa 36 (.tmp 9) ?_);refine zfa rfl 36 (.tmp 9) rfl w6.heap.size t6 vt6 rfl (Blk.new w6 _ _) Tryz.underlying36 rfl Tryz.zha ?_)|((with_reducible refine zqa 36 (.tmp 3) ?_);refine zfa rfl 36 (.tmp 3) rfl (w.heap.size+1) (T.mk 2 tk.text 0 tk.place [t6]) (.slice (some ⟨w6.heap.size+1,0,none⟩) 1 1) rfl (((HBn6.out.zNa 4 _).alloc _).alloc _) Tryz.underlying36 rfl Tryz.zha ?_)|((with_reducible refine zla 36 (.tmp 2) ?_);refine zda rfl 36 (.tmp 2) (.tmp 60) rfl w.heap.size (zaa (T.mk 2 tk.text 0 tk.place [t6]) (.slice (some ⟨w6.heap.size+1,0,none⟩) 1 1)) rfl rfl (((HBr6.out.setOther ⟨(w.heap.size+1),4,none⟩ _ (by (try dsimp only);omega)).alloc _).alloc _) Tryz.zha rfl (zca _ _ rfl) ?_))
      have hk1:=KAt.zrk (e:=36) (w:=((w6.setCell ⟨(w.heap.size+1),4,none⟩ (.slice (some ⟨w6.heap.size+1,0,none⟩) 1 1)).alloc (.cells (zaa t6 vt6).toArray 36))) (t:=t6) (S:=(fun b=>w.heap.size<b∧b≠w.heap.size+1)) (TAt.zHa ((HVt66.out.setCell ⟨(w.heap.size+1),4,none⟩ (.slice (some ⟨w6.heap.size+1,0,none⟩) 1 1) (fun b hb=>by (try dsimp only);omega)).alloc _)) (by simp only [World.size_alloc,World.size_setCell];omega)
      rw [show ((w6.setCell ⟨(w.heap.size+1),4,none⟩ (.slice (some ⟨w6.heap.size+1,0,none⟩) 1 1)).alloc (.cells (zaa t6 vt6).toArray 36)).heap.size=w6.heap.size+1 by simp] at hk1
      have HVx6:=zh hk1
      clear hk1 n4 nf4
      exact zma (cs:=zaa (T.mk 2 tk.text 0 tk.place [t6]) (.slice (some ⟨w6.heap.size+1,0,none⟩) 1 1)) Tryz.results41 rfl (((HBr6.out.setOther ⟨(w.heap.size+1),4,none⟩ _ (by (try dsimp only);omega)).alloc _).alloc _) Tryz.underlying36 rfl Tryz.zha rfl
       ⟨(T.mk 2 tk.text 0 tk.place [t6]),_,l6,f6,q6,rfl,(HVx6.out.setRow w.heap.size _ (fun b hb=>by omega)).mono (fun b hb _=>by omega),by show 1≤40000;decide,(((H6.out.far ⟨(w.heap.size+1),4,none⟩ _ (by (try dsimp only);omega) (by (try dsimp only);omega)).alloc _).alloc _).same (by simp [World.setRow]) (setRow_other _ _ _ _ (by omega)) (setRow_other _ _ _ _ (by omega)),(((HK6.out.zLc (p:=⟨(w.heap.size+1),4,none⟩) (by (try dsimp only);omega) _).alloc _).alloc _).setRow (Nat.le_refl _) _,zCa.turn (fun _=>zei (bs [103,117,97,114,100]) (by simp) hi5) (by rw [HT.out];exact zCa.behind hf5 (HS6.out.andThen (zCa.done _ _ _ _)))⟩
     ·have s0:w5.cell? ⟨w2.heap.size,0,none⟩=some (.string (bs [99,111,117,110,116,101,100])):=HBs5.out.cell 0
      have s1:w5.cell? ⟨w2.heap.size,1,none⟩=some (.string (bs [108,111,99,107])):=HBs5.out.cell 1
      have s2:w5.cell? ⟨w2.heap.size,2,none⟩=some (.string (bs [103,117,97,114,100])):=HBs5.out.cell 2
      go_wp2_with fail
      rw [rounds_succ]
      go_wp2_with fail
      clear s0 s1 s2
      refine (zRk H5.out 20 (by decide)).mono ?_
      rintro e w6 ⟨f6,q6,rfl,hs6,hp6,_,hsee6⟩
      have HBr6:=zh (HBr5.out.kp hp6 (by omega))
      have HBn6:=zh (HBn5.out.kp hp6 (by omega))
      have HBs6:=zh (HBs5.out.kp hp6 (by omega))
      have HK6:=zh (HK5.out.trans hp6)
      have hzr6:=HBr6.out.lt
      have hzn6:=HBn6.out.lt
      have hzs6:=HBs6.out.lt
      have H6:=zh hs6
      have HS6:=zh (hsee6 (T.mk 2 tk.text 0 tk.place []))
      clear hs6 hp6 hsee6
      go_wp2_with (first|((with_reducible refine zqa 36 (.tmp 3) ?_);refine zfa rfl 36 (.tmp 3) rfl (w.heap.size+1) (T.mk 2 tk.text 0 tk.place []) (.slice none 0 0) rfl HBn6.out Tryz.underlying36 rfl Tryz.zha ?_)|((with_reducible refine zla 36 (.tmp 2) ?_);refine zda rfl 36 (.tmp 2) (.tmp 63) rfl w.heap.size (zaa (T.mk 2 tk.text 0 tk.place []) (.slice none 0 0)) rfl rfl HBr6.out Tryz.zha rfl (zca _ _ rfl) ?_))
      exact zma (cs:=zaa (T.mk 2 tk.text 0 tk.place []) (.slice none 0 0)) Tryz.results41 rfl HBr6.out Tryz.underlying36 rfl Tryz.zha rfl
       ⟨(T.mk 2 tk.text 0 tk.place []),_,l5,f6,q6,rfl,((KAt.nil 36 _ (fun b=>w.heap.size<b)).setRow w.heap.size _ (fun b hb=>by omega)).mono (fun b hb _=>by omega),by show 0≤40000;decide,H6.out.same (by simp [World.setRow]) (setRow_other _ _ _ _ (by omega)) (setRow_other _ _ _ _ (by omega)),HK6.out.setRow (Nat.le_refl _) _,zCa.turn (fun hf=>ztt (zxd hx1 hf) (zxd hx2 hf) (zxd hx3 hf) (zxd hx4 hf) (zxd hx5 hf)) HS6.out⟩
end
end Go.Proofs.YtpjnpffcnmgdcaaGreatDoor
