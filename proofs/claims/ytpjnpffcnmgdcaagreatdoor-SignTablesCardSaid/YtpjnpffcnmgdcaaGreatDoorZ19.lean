/- More ways of lychgateref02.stmt. The ways 'if' and the one that begins with a name, of lychgateref02.stmt. -/
import Derived.Test.YtpjnpffcnmgdcaaGreatDoorZ18
namespace Go.Proofs.YtpjnpffcnmgdcaaGreatDoor
set_option maxRecDepth 100000
set_option maxHeartbeats 4000000
section
open Go.RowKit
theorem zyl (k:Int) (p:Nat) (l:List Tok):zue k p l=bd (zoa l) fun a l1=>bd (zsa [bs [91]] l1) fun _ l2=>bd (zEa l2) fun v l3=>bd (zsa [bs [93]] l3) fun _ l4=>.ok (.mk k a.text v p [],l4):=by
 unfold zue zoa
 cases zKb l with
 | error e=>rfl
 | ok x=>rfl
theorem zYt:zOa (bs [101,108,115,101])=true:=by kernel_rfl
theorem zlo {E:Env} {w:World} {l:List Tok} {d:Nat} {q:Nat} (h:RSt E w l d 0 q) (hk2:(hdT l).kind=2) (hi:isT (hdT l) (bs [108,111,99,107])=true) (blk:List Tok→R T) :
  Calls Tryz.prog 70 #[.pointer (some ⟨E.pb,0,none⟩)] w (zqg E w d l 0 q (zRb blk l)):=by
 have H:=zh h
 have hplt:=h.plt
 have htlt:=h.tlt
 have HEND:=zh (h.ends.zId hi (by decide))
 have c0:w.cell? ⟨E.pb,0,none⟩=some (.slice (some ⟨E.tb,0,none⟩) E.ts.length E.cap):=h.blk.cell 0
 have c1:w.cell? ⟨E.pb,1,none⟩=some (.int .i64 ((E.ts.length-l.length:Nat):Int)):=h.blk.cell 1
 have cf1:=h.blk.frozen 1
 obtain ⟨t0,t1,t2,t3⟩:=h.tok
 have hk:E.ts.length-l.length<E.ts.length:=by have:=h.head.1;have:=h.le;omega
 have hlen:=h.len
 have hcap:=h.capb
 have ix1:(0:Int)≤((E.ts.length-l.length:Nat):Int):=by omega
 have ix2:(((E.ts.length-l.length:Nat):Int))<(E.ts.length:Int):=by omega
 obtain ⟨k,hidx⟩:∃ k,E.ts.length-l.length=k:=⟨_,rfl⟩
 have HIDX:=zh hidx
 have HK2:=zh hk2
 rw [hidx] at c1 t0 t1 t2 t3 hk ix1 ix2
 clear hidx
 generalize hT:hdT l=tk at t0 t1 t2 t3 hi hk2 HK2
 have HT:=zh hT
 have HI:=zh hi
 have hkk:((tk.kind:Int) == 2)=true:=by rw [hk2];rfl
 obtain ⟨s_if,s_if2⟩:=zlb (zza hi (b:=bs [105,102]) (by kernel_rfl))
 obtain ⟨s_while,s_while2⟩:=zlb (zza hi (b:=bs [119,104,105,108,101]) (by kernel_rfl))
 obtain ⟨s_free,s_free2⟩:=zlb (zza hi (b:=bs [102,114,101,101]) (by kernel_rfl))
 obtain ⟨s_lock,s_lock2⟩:=ztd hi
 obtain ⟨s_unlock,s_unlock2⟩:=zlb (zza hi (b:=bs [117,110,108,111,99,107]) (by kernel_rfl))
 clear h hT t2 hi hk2
 obtain ⟨i0,z0,I⟩:=Tryz.zPc
 go_enter Tryz.func70,Tryz.ntmps70
 go_wp2_with fail
 go_quiet (fail)
 go_wp2_with fail
 go_quiet (fail)
 go_wp2_with fail
 go_quiet (fail)
 go_wp2_with fail
 have RL0:=zh (fun N=>zFb.zcl H.out HEND.out N (T.mk 0 e0 0 tk.place []) rfl k HIDX.out)
 refine (zQb (RL0.out _).st).mono ?_
 rintro e w1 ⟨ka,sa,na,pa,l1,f1,q1,rfl,hs1,hp1,hsee1⟩
 have RLx:=zh ((RL0.out _).call hp1 hs1)
 have HS1:=zh hsee1
 have hz1:w.heap.size+1<w1.heap.size:=RLx.out.lt
 clear hs1 hp1 hsee1
 have n0:w1.cell? ⟨w.heap.size+1,0,none⟩=some (.int .i64 0):=RLx.out.blk.cell 0
 have nf0:=RLx.out.blk.frozen 0
 have n1:w1.cell? ⟨w.heap.size+1,1,none⟩=some (.string e0):=RLx.out.blk.cell 1
 have nf1:=RLx.out.blk.frozen 1
 have RLk:=zh (((RLx.out.set 0 (.int .i64 13) (T.mk 13 e0 0 tk.place []) rfl rfl).set 1 (.string sa) (T.mk 13 sa 0 tk.place []) rfl rfl).alloc (.cells (zaa (T.mk ka sa na pa []) (.slice none 0 0)).toArray 36))
 go_wp2_with fail
 clear n0 nf0 n1 nf1
 refine (zRa RLk.out.st (bs [91]) zar (by decide)).mono ?_
 rintro e w2 ⟨l2,f2,q2,rfl,hs2,hp2,tk2,hsee2⟩
 have RL2:=zh (RLk.out.call hp2 hs2)
 have HS2:=zh hsee2
 clear hs2 hp2 hsee2
 go_wp2_with fail
 refine (zcg RL2.out.st).mono ?_
 rintro e w3 ⟨v3,l3,f3,q3,rfl,hs3,hp3,hsee3⟩
 have RL3:=zh (RL2.out.call hp3 hs3)
 have HS3:=zh hsee3
 clear hs3 hp3 hsee3
 have n2:w3.cell? ⟨w.heap.size+1,2,none⟩=some (.int .i64 0):=RL3.out.blk.cell 2
 have nf2:=RL3.out.blk.frozen 2
 have RL4:=zh (RL3.out.set 2 (.int .i64 v3) (T.mk 13 sa v3 tk.place []) rfl rfl)
 go_wp2_with fail
 refine (zRa RL4.out.st (bs [93]) zCq (by decide)).mono ?_
 rintro e w5 ⟨l5,f5,q5,rfl,hs5,hp5,tk5,hsee5⟩
 have RL5:=zh (RL4.out.call hp5 hs5)
 have HS5:=zh hsee5
 clear hs5 hp5 hsee5 n2 nf2
 go_wp2_with fail
 refine (zRa RL5.out.st (bs [59]) zgi (by decide)).mono ?_
 rintro e w6 ⟨l6,f6,q6,rfl,hs6,hp6,tk6,hsee6⟩
 have RL6:=zh (RL5.out.call hp6 hs6)
 have HS6:=zh hsee6
 clear hs6 hp6 hsee6
 obtain ⟨old,hold,hol⟩:=RL6.out.res
 have HOLD:=zh hold
 clear hold
 go_wp2_with (first|((with_reducible refine zqa 36 (.tmp 5) ?_);refine zfa rfl 36 (.tmp 5) rfl (w.heap.size+1) (T.mk 13 sa v3 tk.place []) (.slice none 0 0) rfl RL6.out.blk Tryz.underlying36 rfl Tryz.zha ?_)|((with_reducible refine zla 36 (.tmp 2) ?_);refine zda rfl 36 (.tmp 2) (.tmp 187) rfl w.heap.size (zaa (T.mk 13 sa v3 tk.place []) (.slice none 0 0)) rfl rfl HOLD.out Tryz.zha (by rw [hol];rfl) (zca _ _ RL6.out.kids.one) ?_))
 exact zma (cs:=zaa (T.mk 13 sa v3 tk.place []) (.slice none 0 0)) Tryz.results70 rfl HOLD.out Tryz.underlying36 rfl Tryz.zha rfl (RL6.out.tot (by simp [T.kids]) (by
  rw [zte (by rw [HT.out];exact HK2.out) (by rw [HT.out];exact (zza HI.out (b:=bs [105,102]) (by kernel_rfl))) (by rw [HT.out];exact (zza HI.out (b:=bs [119,104,105,108,101]) (by kernel_rfl))),HT.out,(zza HI.out (b:=bs [102,114,101,101]) (by kernel_rfl)),HI.out]
  simp only [cond_true,cond_false]
  rw [zyl]
  rw [zAb]
  refine zCa.behind rfl (HS1.out.andThen ?_)
  rw [zAb]
  refine HS2.out.andThen ?_
  rw [zAb]
  refine HS3.out.andThen ?_
  rw [zAb]
  exact HS5.out.andThen (HS6.out.andThen (zCa.done _ _ _ _))))
theorem zJk {E:Env} {w:World} {l:List Tok} {d:Nat} {q:Nat} (h:RSt E w l d 0 q) (hk2:(hdT l).kind=2) (hi:isT (hdT l) (bs [117,110,108,111,99,107])=true) (blk:List Tok→R T) :
  Calls Tryz.prog 70 #[.pointer (some ⟨E.pb,0,none⟩)] w (zqg E w d l 0 q (zRb blk l)):=by
 have H:=zh h
 have hplt:=h.plt
 have htlt:=h.tlt
 have HEND:=zh (h.ends.zId hi (by decide))
 have c0:w.cell? ⟨E.pb,0,none⟩=some (.slice (some ⟨E.tb,0,none⟩) E.ts.length E.cap):=h.blk.cell 0
 have c1:w.cell? ⟨E.pb,1,none⟩=some (.int .i64 ((E.ts.length-l.length:Nat):Int)):=h.blk.cell 1
 have cf1:=h.blk.frozen 1
 obtain ⟨t0,t1,t2,t3⟩:=h.tok
 have hk:E.ts.length-l.length<E.ts.length:=by have:=h.head.1;have:=h.le;omega
 have hlen:=h.len
 have hcap:=h.capb
 have ix1:(0:Int)≤((E.ts.length-l.length:Nat):Int):=by omega
 have ix2:(((E.ts.length-l.length:Nat):Int))<(E.ts.length:Int):=by omega
 obtain ⟨k,hidx⟩:∃ k,E.ts.length-l.length=k:=⟨_,rfl⟩
 have HIDX:=zh hidx
 have HK2:=zh hk2
 rw [hidx] at c1 t0 t1 t2 t3 hk ix1 ix2
 clear hidx
 generalize hT:hdT l=tk at t0 t1 t2 t3 hi hk2 HK2
 have HT:=zh hT
 have HI:=zh hi
 have hkk:((tk.kind:Int) == 2)=true:=by rw [hk2];rfl
 obtain ⟨s_if,s_if2⟩:=zlb (zza hi (b:=bs [105,102]) (by kernel_rfl))
 obtain ⟨s_while,s_while2⟩:=zlb (zza hi (b:=bs [119,104,105,108,101]) (by kernel_rfl))
 obtain ⟨s_free,s_free2⟩:=zlb (zza hi (b:=bs [102,114,101,101]) (by kernel_rfl))
 obtain ⟨s_lock,s_lock2⟩:=zlb (zza hi (b:=bs [108,111,99,107]) (by kernel_rfl))
 obtain ⟨s_unlock,s_unlock2⟩:=ztd hi
 clear h hT t2 hi hk2
 obtain ⟨i0,z0,I⟩:=Tryz.zPc
 go_enter Tryz.func70,Tryz.ntmps70
 go_wp2_with fail
 go_quiet (fail)
 go_wp2_with fail
 go_quiet (fail)
 go_wp2_with fail
 go_quiet (fail)
 go_wp2_with fail
 have RL0:=zh (fun N=>zFb.zcl H.out HEND.out N (T.mk 0 e0 0 tk.place []) rfl k HIDX.out)
 refine (zQb (RL0.out _).st).mono ?_
 rintro e w1 ⟨ka,sa,na,pa,l1,f1,q1,rfl,hs1,hp1,hsee1⟩
 have RLx:=zh ((RL0.out _).call hp1 hs1)
 have HS1:=zh hsee1
 have hz1:w.heap.size+1<w1.heap.size:=RLx.out.lt
 clear hs1 hp1 hsee1
 have n0:w1.cell? ⟨w.heap.size+1,0,none⟩=some (.int .i64 0):=RLx.out.blk.cell 0
 have nf0:=RLx.out.blk.frozen 0
 have n1:w1.cell? ⟨w.heap.size+1,1,none⟩=some (.string e0):=RLx.out.blk.cell 1
 have nf1:=RLx.out.blk.frozen 1
 have RLk:=zh ((((RLx.out.set 0 (.int .i64 13) (T.mk 13 e0 0 tk.place []) rfl rfl).set 0 (.int .i64 14) (T.mk 14 e0 0 tk.place []) rfl rfl).set 1 (.string sa) (T.mk 14 sa 0 tk.place []) rfl rfl).alloc (.cells (zaa (T.mk ka sa na pa []) (.slice none 0 0)).toArray 36))
 go_wp2_with fail
 clear n0 nf0 n1 nf1
 refine (zRa RLk.out.st (bs [91]) zar (by decide)).mono ?_
 rintro e w2 ⟨l2,f2,q2,rfl,hs2,hp2,tk2,hsee2⟩
 have RL2:=zh (RLk.out.call hp2 hs2)
 have HS2:=zh hsee2
 clear hs2 hp2 hsee2
 go_wp2_with fail
 refine (zcg RL2.out.st).mono ?_
 rintro e w3 ⟨v3,l3,f3,q3,rfl,hs3,hp3,hsee3⟩
 have RL3:=zh (RL2.out.call hp3 hs3)
 have HS3:=zh hsee3
 clear hs3 hp3 hsee3
 have n2:w3.cell? ⟨w.heap.size+1,2,none⟩=some (.int .i64 0):=RL3.out.blk.cell 2
 have nf2:=RL3.out.blk.frozen 2
 have RL4:=zh (RL3.out.set 2 (.int .i64 v3) (T.mk 14 sa v3 tk.place []) rfl rfl)
 go_wp2_with fail
 refine (zRa RL4.out.st (bs [93]) zCq (by decide)).mono ?_
 rintro e w5 ⟨l5,f5,q5,rfl,hs5,hp5,tk5,hsee5⟩
 have RL5:=zh (RL4.out.call hp5 hs5)
 have HS5:=zh hsee5
 clear hs5 hp5 hsee5 n2 nf2
 go_wp2_with fail
 refine (zRa RL5.out.st (bs [59]) zgi (by decide)).mono ?_
 rintro e w6 ⟨l6,f6,q6,rfl,hs6,hp6,tk6,hsee6⟩
 have RL6:=zh (RL5.out.call hp6 hs6)
 have HS6:=zh hsee6
 clear hs6 hp6 hsee6
 obtain ⟨old,hold,hol⟩:=RL6.out.res
 have HOLD:=zh hold
 clear hold
 go_wp2_with (first|((with_reducible refine zqa 36 (.tmp 5) ?_);refine zfa rfl 36 (.tmp 5) rfl (w.heap.size+1) (T.mk 14 sa v3 tk.place []) (.slice none 0 0) rfl RL6.out.blk Tryz.underlying36 rfl Tryz.zha ?_)|((with_reducible refine zla 36 (.tmp 2) ?_);refine zda rfl 36 (.tmp 2) (.tmp 187) rfl w.heap.size (zaa (T.mk 14 sa v3 tk.place []) (.slice none 0 0)) rfl rfl HOLD.out Tryz.zha (by rw [hol];rfl) (zca _ _ RL6.out.kids.one) ?_))
 exact zma (cs:=zaa (T.mk 14 sa v3 tk.place []) (.slice none 0 0)) Tryz.results70 rfl HOLD.out Tryz.underlying36 rfl Tryz.zha rfl (RL6.out.tot (by simp [T.kids]) (by
  rw [zte (by rw [HT.out];exact HK2.out) (by rw [HT.out];exact (zza HI.out (b:=bs [105,102]) (by kernel_rfl))) (by rw [HT.out];exact (zza HI.out (b:=bs [119,104,105,108,101]) (by kernel_rfl))),HT.out,(zza HI.out (b:=bs [102,114,101,101]) (by kernel_rfl)),(zza HI.out (b:=bs [108,111,99,107]) (by kernel_rfl)),HI.out]
  simp only [cond_true,cond_false]
  rw [zyl]
  rw [zAb]
  refine zCa.behind rfl (HS1.out.andThen ?_)
  rw [zAb]
  refine HS2.out.andThen ?_
  rw [zAb]
  refine HS3.out.andThen ?_
  rw [zAb]
  exact HS5.out.andThen (HS6.out.andThen (zCa.done _ _ _ _))))
theorem zFl {E:Env} {w:World} {l:List Tok} {d:Nat} {q:Nat} (h:RSt E w l d 0 q) (hk2:(hdT l).kind=2) (hi:isT (hdT l) (bs [114,101,116,117,114,110])=true) (blk:List Tok→R T) :
  Calls Tryz.prog 70 #[.pointer (some ⟨E.pb,0,none⟩)] w (zqg E w d l 0 q (zRb blk l)):=by
 have H:=zh h
 have hplt:=h.plt
 have htlt:=h.tlt
 have HEND:=zh (h.ends.zId hi (by decide))
 have c0:w.cell? ⟨E.pb,0,none⟩=some (.slice (some ⟨E.tb,0,none⟩) E.ts.length E.cap):=h.blk.cell 0
 have c1:w.cell? ⟨E.pb,1,none⟩=some (.int .i64 ((E.ts.length-l.length:Nat):Int)):=h.blk.cell 1
 have cf1:=h.blk.frozen 1
 obtain ⟨t0,t1,t2,t3⟩:=h.tok
 have hk:E.ts.length-l.length<E.ts.length:=by have:=h.head.1;have:=h.le;omega
 have hlen:=h.len
 have hcap:=h.capb
 have ix1:(0:Int)≤((E.ts.length-l.length:Nat):Int):=by omega
 have ix2:(((E.ts.length-l.length:Nat):Int))<(E.ts.length:Int):=by omega
 obtain ⟨k,hidx⟩:∃ k,E.ts.length-l.length=k:=⟨_,rfl⟩
 have HIDX:=zh hidx
 have HK2:=zh hk2
 rw [hidx] at c1 t0 t1 t2 t3 hk ix1 ix2
 clear hidx
 generalize hT:hdT l=tk at t0 t1 t2 t3 hi hk2 HK2
 have HT:=zh hT
 have HI:=zh hi
 have hkk:((tk.kind:Int) == 2)=true:=by rw [hk2];rfl
 obtain ⟨s_if,s_if2⟩:=zlb (zza hi (b:=bs [105,102]) (by kernel_rfl))
 obtain ⟨s_while,s_while2⟩:=zlb (zza hi (b:=bs [119,104,105,108,101]) (by kernel_rfl))
 obtain ⟨s_free,s_free2⟩:=zlb (zza hi (b:=bs [102,114,101,101]) (by kernel_rfl))
 obtain ⟨s_lock,s_lock2⟩:=zlb (zza hi (b:=bs [108,111,99,107]) (by kernel_rfl))
 obtain ⟨s_unlock,s_unlock2⟩:=zlb (zza hi (b:=bs [117,110,108,111,99,107]) (by kernel_rfl))
 obtain ⟨s_return,s_return2⟩:=ztd hi
 clear h hT t2 hi hk2
 obtain ⟨i0,z0,I⟩:=Tryz.zPc
 go_enter Tryz.func70,Tryz.ntmps70
 go_wp2_with fail
 go_quiet (fail)
 go_wp2_with fail
 go_quiet (fail)
 go_wp2_with fail
 go_quiet (fail)
 go_wp2_with fail
 have RL0:=zh (fun N=>zFb.zcl H.out HEND.out N (T.mk 17 e0 0 tk.place []) rfl k HIDX.out)
 refine (zZf (RL0.out _).st (bs [59]) zgi).mono ?_
 rintro e w1 ⟨rfl,hs1,hp1⟩
 have RL1:=zh ((RL0.out _).call hp1 hs1)
 clear hs1 hp1
 cases hsc:((0:Int) == 0 && isT (hdT l.tail) (bs [59])) with
 | true =>
  have hsc2:isT (hdT l.tail) (bs [59])=true:=by simpa using hsc
  go_wp2_with fail
  refine (zRa RL1.out.st (bs [59]) zgi (by decide)).mono ?_
  rintro e w2 ⟨l2,f2,q2,rfl,hs2,hp2,tk2,hsee2⟩
  have RL2:=zh (RL1.out.call hp2 hs2)
  have HS2:=zh hsee2
  clear hs2 hp2 hsee2
  obtain ⟨old,hold,hol⟩:=RL2.out.res
  have HOLD:=zh hold
  clear hold
  go_wp2_with (first|((with_reducible refine zqa 36 (.tmp 5) ?_);refine zfa rfl 36 (.tmp 5) rfl (w.heap.size+1) (T.mk 17 e0 0 tk.place []) (.slice none 0 0) rfl RL2.out.blk Tryz.underlying36 rfl Tryz.zha ?_)|((with_reducible refine zla 36 (.tmp 2) ?_);refine zda rfl 36 (.tmp 2) (.tmp 187) rfl w.heap.size (zaa (T.mk 17 e0 0 tk.place []) (.slice none 0 0)) rfl rfl HOLD.out Tryz.zha (by rw [hol];rfl) (zca _ _ RL2.out.kids.one) ?_))
  exact zma (cs:=zaa (T.mk 17 e0 0 tk.place []) (.slice none 0 0)) Tryz.results70 rfl HOLD.out Tryz.underlying36 rfl Tryz.zha rfl (RL2.out.tot (by simp [T.kids]) (by
   rw [zte (by rw [HT.out];exact HK2.out) (by rw [HT.out];exact (zza HI.out (b:=bs [105,102]) (by kernel_rfl))) (by rw [HT.out];exact (zza HI.out (b:=bs [119,104,105,108,101]) (by kernel_rfl))),HT.out,(zza HI.out (b:=bs [102,114,101,101]) (by kernel_rfl)),(zza HI.out (b:=bs [108,111,99,107]) (by kernel_rfl)),(zza HI.out (b:=bs [117,110,108,111,99,107]) (by kernel_rfl)),HI.out]
   simp only [cond_true,cond_false]
   unfold zMc
   rw [hsc2]
   exact zCa.behind rfl (HS2.out.andThen (zCa.done _ _ _ _))))
 | false =>
  have hsc2:isT (hdT l.tail) (bs [59])=false:=by simpa using hsc
  go_wp2_with fail
  refine (zGc RL1.out.st).mono ?_
  rintro e w2 ⟨t2,v2,l2,f2,q2,rfl,hk2,hn2,hs2,hp2,hsee2⟩
  have RL2:=zh (RL1.out.call hp2 hs2)
  have HV2:=zh (RL1.out.zYd hk2)
  have RL3:=zh (RL2.out.kid1 RL1.out hk2)
  have HS2:=zh hsee2
  have hz2:w.heap.size+1<w2.heap.size:=RL2.out.lt
  have hz3:w.heap.size<w2.heap.size:=by omega
  have hz4:w.heap.size≠w2.heap.size:=by omega
  have hz5:w.heap.size+1≠w2.heap.size:=by omega
  have n4:w2.cell? ⟨w.heap.size+1,4,none⟩=some (.slice none 0 0):=RL2.out.blk.cell 4
  have nf4:w2.frozen? ⟨w.heap.size+1,4,none⟩=false:=RL2.out.blk.frozen 4
  clear hk2 hs2 hp2 hsee2
  unfold zna
  go_wp2_with (first|((with_reducible refine zla 36 (.tmp 11) ?_);refine zga rfl 36 (.tmp 11) (.tmp 151) rfl (zaa t2 v2) (old:=zba) rfl rfl Tryz.zha rfl (zca _ _ HV2.out.one) ?_)|((with_reducible refine zqa 36 (.tmp 11) ?_);refine zfa rfl 36 (.tmp 11) rfl w2.heap.size t2 v2 rfl (Blk.new w2 _ _) Tryz.underlying36 rfl Tryz.zha ?_))
  refine (zRa RL3.out.st (bs [59]) zgi (by decide)).mono ?_
  rintro e w4 ⟨l4,f4,q4,rfl,hs4,hp4,tk4,hsee4⟩
  have RL4:=zh (RL3.out.call hp4 hs4)
  have HS4:=zh hsee4
  clear hs4 hp4 hsee4
  obtain ⟨old,hold,hol⟩:=RL4.out.res
  have HOLD:=zh hold
  clear hold
  go_wp2_with (first|((with_reducible refine zqa 36 (.tmp 5) ?_);refine zfa rfl 36 (.tmp 5) rfl (w.heap.size+1) (T.mk 17 e0 0 tk.place [t2]) (.slice (some ⟨w2.heap.size+1,0,none⟩) 1 1) rfl RL4.out.blk Tryz.underlying36 rfl Tryz.zha ?_)|((with_reducible refine zla 36 (.tmp 2) ?_);refine zda rfl 36 (.tmp 2) (.tmp 187) rfl w.heap.size (zaa (T.mk 17 e0 0 tk.place [t2]) (.slice (some ⟨w2.heap.size+1,0,none⟩) 1 1)) rfl rfl HOLD.out Tryz.zha (by rw [hol];rfl) (zca _ _ RL4.out.kids.one) ?_))
  exact zma (cs:=zaa (T.mk 17 e0 0 tk.place [t2]) (.slice (some ⟨w2.heap.size+1,0,none⟩) 1 1)) Tryz.results70 rfl HOLD.out Tryz.underlying36 rfl Tryz.zha rfl (RL4.out.tot (by show 1≤40000;decide) (by
   rw [zte (by rw [HT.out];exact HK2.out) (by rw [HT.out];exact (zza HI.out (b:=bs [105,102]) (by kernel_rfl))) (by rw [HT.out];exact (zza HI.out (b:=bs [119,104,105,108,101]) (by kernel_rfl))),HT.out,(zza HI.out (b:=bs [102,114,101,101]) (by kernel_rfl)),(zza HI.out (b:=bs [108,111,99,107]) (by kernel_rfl)),(zza HI.out (b:=bs [117,110,108,111,99,107]) (by kernel_rfl)),HI.out]
   simp only [cond_true,cond_false]
   unfold zMc
   rw [hsc2]
   simp only [cond_false]
   rw [zAb]
   exact zCa.behind rfl (HS2.out.andThen (HS4.out.andThen (zCa.done _ _ _ _)))))
end
section
open Go.RowKit
theorem zFb.zhp {E:Env} {w W:World} {d:Nat} {l:List Tok} {f:Int} {q g:Nat} {t:T} {v:Value} (h:zFb E w W d l f q g t v) (go:Nat) (h1:w.heap.size<go) (h2:go≠g) (hk:KAt 36 W t.kids (fun b=>(w.heap.size<b∧b≠g)∧b<go) v) (cs:Array Value):zFb E w (W.setRow go cs) d l f q g t v:=by
 have hp:=h.plt
 have ht:=h.tlt
 obtain ⟨old,ho,hl⟩:=h.res
 exact ⟨h.st.putRow _ _ (by omega) (by omega),h.kp.setRow (by omega) _,⟨old,ho.zta _ _ (by omega),hl⟩,h.blk.zta _ _ (by omega),(hk.setRow _ _ (fun b hb=>by omega)).mono (fun b hb _=>hb.1),h.gt,h.plt,h.tlt⟩
theorem T.zHm (t b:T):t.snoc b=t.zeb (t.kids++[b]):=by cases t;rfl
theorem zEu (blk:List Tok→R T) (p:Nat) (l:List Tok):ifP blk p l=bd (zPi blk 15 p l) fun n l1=>bd (zFh blk p l1) fun c l2=>.ok (n.snoc c,l2):=by
 unfold ifP zPi
 rw [zAb]
 congr 1
 funext a l1
 rw [zAb]
 rfl
theorem zxr {E:Env} {w:World} {l:List Tok} {d:Nat} {q:Nat} (h:RSt E w l d 0 q) (hk2:(hdT l).kind=2) (hi:isT (hdT l) (bs [105,102])=true) {blk:List Tok→R T} (hB:zeg E d blk) :
  Calls Tryz.prog 70 #[.pointer (some ⟨E.pb,0,none⟩)] w (zqg E w d l 0 q (zRb blk l)):=by
 have H:=zh h
 have hplt:=h.plt
 have htlt:=h.tlt
 have HEND:=zh (h.ends.zId hi (by decide))
 have c0:w.cell? ⟨E.pb,0,none⟩=some (.slice (some ⟨E.tb,0,none⟩) E.ts.length E.cap):=h.blk.cell 0
 have c1:w.cell? ⟨E.pb,1,none⟩=some (.int .i64 ((E.ts.length-l.length:Nat):Int)):=h.blk.cell 1
 have cf1:=h.blk.frozen 1
 obtain ⟨t0,t1,t2,t3⟩:=h.tok
 have hk:E.ts.length-l.length<E.ts.length:=by have:=h.head.1;have:=h.le;omega
 have hlen:=h.len
 have hcap:=h.capb
 have ix1:(0:Int)≤((E.ts.length-l.length:Nat):Int):=by omega
 have ix2:(((E.ts.length-l.length:Nat):Int))<(E.ts.length:Int):=by omega
 obtain ⟨k,hidx⟩:∃ k,E.ts.length-l.length=k:=⟨_,rfl⟩
 have HIDX:=zh hidx
 have HK2:=zh hk2
 rw [hidx] at c1 t0 t1 t2 t3 hk ix1 ix2
 clear hidx
 generalize hT:hdT l=tk at t0 t1 t2 t3 hi hk2 HK2
 have HT:=zh hT
 have HI:=zh hi
 have hkk:((tk.kind:Int) == 2)=true:=by rw [hk2];rfl
 obtain ⟨s_if,s_if2⟩:=ztd hi
 clear h hT t2 hi hk2
 obtain ⟨i0,z0,I⟩:=Tryz.zPc
 go_enter Tryz.func70,Tryz.ntmps70
 go_wp2_with fail
 go_quiet (fail)
 go_wp2_with fail
 go_quiet (fail)
 go_wp2_with fail
 go_quiet (fail)
 go_wp2_with fail
 have HBC:=zh hB
 have RL0:=zh (fun N=>zFb.zcl H.out HEND.out N (T.mk 0 e0 0 tk.place []) rfl k HIDX.out)
 refine (zzi (RL0.out _).st hB 15 tk.place).mono ?_
 rintro e w1 ⟨t1,v1,l1,f1,q1,rfl,hk1,hn1,hs1,hp1,hsee1⟩
 have RL1:=zh ((RL0.out _).call hp1 hs1)
 have HV1:=zh ((RL0.out _).zYd hk1)
 have HS1:=zh hsee1
 have RLn:=zh (RL1.out.zqn t1 v1 HV1.out)
 have hz1:w.heap.size+1<w1.heap.size:=RL1.out.lt
 clear hk1 hs1 hp1 hsee1 hB
 unfold zna
 go_wp2_with ((with_reducible refine zla 36 (.tmp 5) ?_);refine zda rfl 36 (.tmp 5) (.tmp 64) rfl (w.heap.size+1) (zaa t1 v1) rfl rfl RL1.out.blk Tryz.zha rfl (zca _ _ HV1.out.one) ?_)
 have RLh:=zh (RLn.out.alloc (.cells (zaa (T.mk 9 e0 0 tk.place []) (.slice none 0 0)).toArray 36))
 have HBo:=zh (show Blk ((w1.setRow (w.heap.size+1) (zaa t1 v1).toArray).alloc (.cells (zaa (T.mk 9 e0 0 tk.place []) (.slice none 0 0)).toArray 36)) w1.heap.size _ 36 from Blk.zuk (by rw [size_putRow]) (zaa (T.mk 9 e0 0 tk.place []) (.slice none 0 0)) 36)
 have HKo:=zh (show KAt 36 ((w1.setRow (w.heap.size+1) (zaa t1 v1).toArray).alloc (.cells (zaa (T.mk 9 e0 0 tk.place []) (.slice none 0 0)).toArray 36)) t1.kids (fun b=>(w.heap.size<b∧b≠w.heap.size+1)∧b<w1.heap.size) v1 from (RLn.out.kids.mono (fun b hb hlt=>⟨hb,by rw [size_putRow] at hlt;exact hlt⟩)).alloc _)
 refine (zab RLh.out.st (bs [101,108,115,101]) zYt (by decide)).mono ?_
 rintro e w2 ⟨b2,l2,rfl,hs2,hp2,hc2⟩
 have RL2:=zh (RLh.out.call hp2 hs2)
 have HB2:=zh (HBo.out.kp hp2 (by omega))
 have HK2:=zh (HKo.out.kp hp2 (fun b hb=>by omega))
 have hz2:w1.heap.size<w2.heap.size:=HB2.out.lt
 have HC2:=zh hc2
 have HN1:=zh hn1
 clear hs2 hp2 hc2 hn1
 rcases HC2.out with ⟨rfl,hf2,hi2,rfl⟩|⟨rfl,hx2,rfl⟩
 ·go_wp2_with fail
  refine (HBC.out _ _ _ _ RL2.out.st).mono ?_
  rintro e w3 ⟨t3,v3,l3,f3,q3,rfl,hk3,hn3,hs3,hp3,hsee3⟩
  have RL3:=zh (RL2.out.call hp3 hs3)
  have HB3:=zh (HB2.out.kp hp3 (by omega))
  have HK3:=zh (HK2.out.kp hp3 (fun b hb=>by omega))
  have HV3:=zh (show KAt 36 w3 t3.kids (fun b=>((w.heap.size<b∧b≠w.heap.size+1)∧v1.ownBlock≠some b)∧b≠w1.heap.size) v3 from hk3.mono (fun b hb _=>⟨⟨⟨by omega,by omega⟩,fun e=>by have:=(RL2.out.own b e).1;omega⟩,by omega⟩))
  have RLo:=zh (RL3.out.zhp w1.heap.size (by omega) (by omega) HK3.out (zaa t3 v3).toArray)
  have HS3:=zh hsee3
  have hz3:w1.heap.size<w3.heap.size:=HB3.out.lt
  have n4:(w3.setRow w1.heap.size (zaa t3 v3).toArray).cell? ⟨w.heap.size+1,4,none⟩=some v1:=RLo.out.blk.cell 4
  clear hk3 hn3 hs3 hp3 hsee3
  unfold zna
  go_wp2_with (first
   | ((with_reducible refine zla 36 (.tmp 6) ?_);refine zda rfl 36 (.tmp 6) (.tmp 71) rfl w1.heap.size (zaa t3 v3) rfl rfl HB3.out Tryz.zha rfl (zca _ _ HV3.out.one) ?_)
   | ((with_reducible refine zqa 36 (.tmp 6) ?_);refine zfa rfl 36 (.tmp 6) rfl w1.heap.size t3 v3 rfl (HB3.out.zra (zaa t3 v3)) Tryz.underlying36 rfl Tryz.zha ?_)
   | (at_builtin;refine zxa rfl (.tmp 73) (.tmp 75) rfl I (ks:=t1.kids) (ts:=[t3]) (S:=fun b=>w.heap.size<b∧b≠w.heap.size+1) rfl (RLo.out.alloc _).kids (us:=[v3]) (zGb.single ?c1) ?c2 rfl rfl (by simp) (zDd _ (by simp [World.setRow]) _ t3 v3) ?c3 ?_))
  case c1=>exact TAt.zHa (((HV3.out.setRow _ _ (fun b hb=>hb.2)).mono (fun b hb _=>hb.1)).alloc _)
  case c2=>simp only [World.size_alloc,size_putRow];omega
  case c3=>have:=HN1.out;simp;omega
  intro v6 w6 hK6 hg6 hb6
  obtain ⟨sa,sn,sc,rfl⟩:=hK6.slice
  obtain ⟨ha1,ha2,ha3,ha4⟩:=(RLo.out.alloc _).after hK6 hg6
  have RL6:=zh ha1
  clear ha1 hK6 hg6 hb6 n4
  obtain ⟨old,hold,hol⟩:=RL6.out.res
  have HOLD:=zh hold
  clear hold
  go_wp2_with (first|((with_reducible refine zqa 36 (.tmp 5) ?_);refine zfa rfl 36 (.tmp 5) rfl (w.heap.size+1) (t1.zeb (t1.kids++[t3])) (.slice sa sn sc) rfl RL6.out.blk Tryz.underlying36 rfl Tryz.zha ?_)|((with_reducible refine zla 36 (.tmp 2) ?_);refine zda rfl 36 (.tmp 2) (.tmp 78) rfl w.heap.size (zaa (t1.zeb (t1.kids++[t3])) (.slice sa sn sc)) rfl rfl HOLD.out Tryz.zha (by rw [hol];rfl) (zca _ _ RL6.out.kids.one) ?_))
  exact zma (cs:=zaa (t1.zeb (t1.kids++[t3])) (.slice sa sn sc)) Tryz.results70 rfl HOLD.out Tryz.underlying36 rfl Tryz.zha rfl (RL6.out.tot (by rw [zXb,List.length_append];have:=HN1.out;simp;omega) (by
   unfold zRb
   rw [HT.out,HI.out]
   simp only [cond_true]
   rw [zEu]
   refine zCa.behind rfl (HS1.out.andThen ?_)
   rw [← T.zHm]
   unfold zFh
   exact (zCa.yes hi2 hf2 HS3.out).map (fun c=>t1.snoc c)))
 ·have n4:w2.cell? ⟨w.heap.size+1,4,none⟩=some v1:=RL2.out.blk.cell 4
  go_wp2_with (first
   | ((with_reducible refine zqa 36 (.tmp 6) ?_);refine zfa rfl 36 (.tmp 6) rfl w1.heap.size (T.mk 9 e0 0 tk.place []) (.slice none 0 0) rfl HB2.out Tryz.underlying36 rfl Tryz.zha ?_)
   | (at_builtin;refine zxa rfl (.tmp 73) (.tmp 75) rfl I (ks:=t1.kids) (ts:=[T.mk 9 e0 0 tk.place []]) (S:=fun b=>w.heap.size<b∧b≠w.heap.size+1) rfl (RL2.out.alloc _).kids (us:=[.slice none 0 0]) (zGb.single ?c1) ?c2 rfl rfl (by simp) (zDd _ (by simp) _ _ _) ?c3 ?_))
  case c1=>exact TAt.zHa (KAt.nil _ _ _)
  case c2=>simp only [World.size_alloc];omega
  case c3=>have:=HN1.out;simp;omega
  intro v6 w6 hK6 hg6 hb6
  obtain ⟨sa,sn,sc,rfl⟩:=hK6.slice
  obtain ⟨ha1,ha2,ha3,ha4⟩:=(RL2.out.alloc _).after hK6 hg6
  have RL6:=zh ha1
  clear ha1 hK6 hg6 hb6
  obtain ⟨old,hold,hol⟩:=RL6.out.res
  have HOLD:=zh hold
  clear hold
  go_wp2_with (first|((with_reducible refine zqa 36 (.tmp 5) ?_);refine zfa rfl 36 (.tmp 5) rfl (w.heap.size+1) (t1.zeb (t1.kids++[T.mk 9 e0 0 tk.place []])) (.slice sa sn sc) rfl RL6.out.blk Tryz.underlying36 rfl Tryz.zha ?_)|((with_reducible refine zla 36 (.tmp 2) ?_);refine zda rfl 36 (.tmp 2) (.tmp 78) rfl w.heap.size (zaa (t1.zeb (t1.kids++[T.mk 9 e0 0 tk.place []])) (.slice sa sn sc)) rfl rfl HOLD.out Tryz.zha (by rw [hol];rfl) (zca _ _ RL6.out.kids.one) ?_))
  exact zma (cs:=zaa (t1.zeb (t1.kids++[T.mk 9 e0 0 tk.place []])) (.slice sa sn sc)) Tryz.results70 rfl HOLD.out Tryz.underlying36 rfl Tryz.zha rfl (RL6.out.tot (by rw [zXb,List.length_append];have:=HN1.out;simp;omega) (by
   unfold zRb
   rw [HT.out,HI.out]
   simp only [cond_true]
   rw [zEu]
   refine zCa.behind rfl (HS1.out.andThen ?_)
   rw [← T.zHm]
   unfold zFh
   exact (zCa.no hx2 (zCa.done _ _ _ _)).map (fun c=>t1.snoc c)))
theorem zFb.zsu {E:Env} {w:World} {l:List Tok} {d:Nat} {q:Nat} (h:RSt E w l d 0 q) (N:Nat) (t:T) (ht:t.kids=[]) :
  zFb E w (((w.alloc (.cells zba.toArray 36)).drewN N).alloc (.cells (zaa t (.slice none 0 0)).toArray 36)) d l 0 q (w.heap.size+1) t (.slice none 0 0):=by
 have hp:=h.plt
 have h1:RSt E ((w.alloc (.cells zba.toArray 36)).drewN N) l d 0 q:=(h.alloc _).same (Nat.le_refl _) rfl rfl
 have hb:Blk ((w.alloc (.cells zba.toArray 36)).drewN N) w.heap.size zba 36:=Blk.new w _ _
 refine ⟨h1.alloc _,((((Kp.refl E.pb w).alloc _).draws N)).alloc _,⟨_,hb.alloc _,rfl⟩,Blk.zuk (by simp) _ _,by rw [ht];exact KAt.nil _ _ _,by omega,h.plt,h.tlt⟩
theorem zgp {l:List Tok} (hk:((hdT l).kind == 1)=false):zIb l=.error ((hdT l).place,20):=by
 unfold zIb zoa zKb zkd
 rw [hk]
 rfl
theorem zAj {blk:List Tok→R T} {l:List Tok} (h1:isT (hdT l) (bs [105,102])=false) (h2:isT (hdT l) (bs [119,104,105,108,101])=false) (h3:isT (hdT l) (bs [102,114,101,101])=false) (h4:isT (hdT l) (bs [108,111,99,107])=false) (h5:isT (hdT l) (bs [117,110,108,111,99,107])=false)
  (h6:isT (hdT l) (bs [114,101,116,117,114,110])=false) (h7:isT (hdT l) (bs [97,98,111,114,116])=false) (h8:isT (hdT l) (bs [102,111,114,107])=false) :
  zRb blk l=bd (zIb l) fun n l1=>bd (zsa [bs [59]] l1) fun _ l2=>.ok (n,l2):=by
 unfold zRb zTa
 rw [h1,h2,h3,h4,h5,h6,h7,h8]
 simp only [cond_false]
 cases hk:((hdT l).kind == 1) with
 | true=>rfl
 | false=>rw [zgp hk];rfl
theorem zbl {E:Env} {w:World} {l:List Tok} {d:Nat} {q:Nat} (h:RSt E w l d 0 q) (hk2:(hdT l).kind=2) (h1:isT (hdT l) (bs [105,102])=false) (h2:isT (hdT l) (bs [119,104,105,108,101])=false) (h3:isT (hdT l) (bs [102,114,101,101])=false) (h4:isT (hdT l) (bs [108,111,99,107])=false) (h5:isT (hdT l) (bs [117,110,108,111,99,107])=false) (h6:isT (hdT l) (bs [114,101,116,117,114,110])=false) (h7:isT (hdT l) (bs [97,98,111,114,116])=false) (h8:isT (hdT l) (bs [102,111,114,107])=false) (blk:List Tok→R T) :
  Calls Tryz.prog 70 #[.pointer (some ⟨E.pb,0,none⟩)] w (zqg E w d l 0 q (zRb blk l)):=by
 have H:=zh h
 have hplt:=h.plt
 have htlt:=h.tlt
 have c0:w.cell? ⟨E.pb,0,none⟩=some (.slice (some ⟨E.tb,0,none⟩) E.ts.length E.cap):=h.blk.cell 0
 have c1:w.cell? ⟨E.pb,1,none⟩=some (.int .i64 ((E.ts.length-l.length:Nat):Int)):=h.blk.cell 1
 have cf1:=h.blk.frozen 1
 obtain ⟨t0,t1,t2,t3⟩:=h.tok
 have hk:E.ts.length-l.length<E.ts.length:=by have:=h.head.1;have:=h.le;omega
 have hlen:=h.len
 have hcap:=h.capb
 have ix1:(0:Int)≤((E.ts.length-l.length:Nat):Int):=by omega
 have ix2:(((E.ts.length-l.length:Nat):Int))<(E.ts.length:Int):=by omega
 obtain ⟨k,hidx⟩:∃ k,E.ts.length-l.length=k:=⟨_,rfl⟩
 have HIDX:=zh hidx
 have HK2:=zh hk2
 rw [hidx] at c1 t0 t1 t2 t3 hk ix1 ix2
 clear hidx
 have HX1:=zh h1
 have HX2:=zh h2
 have HX3:=zh h3
 have HX4:=zh h4
 have HX5:=zh h5
 have HX6:=zh h6
 have HX7:=zh h7
 have HX8:=zh h8
 generalize hT:hdT l=tk at t0 t1 t2 t3 hk2 HK2 h1 h2 h3 h4 h5 h6 h7 h8
 have HT:=zh hT
 have hkk:((tk.kind:Int) == 2)=true:=by rw [hk2];rfl
 obtain ⟨s_if,s_if2⟩:=zlb h1
 obtain ⟨s_while,s_while2⟩:=zlb h2
 obtain ⟨s_free,s_free2⟩:=zlb h3
 obtain ⟨s_lock,s_lock2⟩:=zlb h4
 obtain ⟨s_unlock,s_unlock2⟩:=zlb h5
 obtain ⟨s_return,s_return2⟩:=zlb h6
 obtain ⟨s_abort,s_abort2⟩:=zlb h7
 obtain ⟨s_fork,s_fork2⟩:=zlb h8
 clear h hT t2 hk2 h1 h2 h3 h4 h5 h6 h7 h8
 obtain ⟨i0,z0,I⟩:=Tryz.zPc
 go_enter Tryz.func70,Tryz.ntmps70
 go_wp2_with fail
 go_quiet (fail)
 go_wp2_with fail
 go_quiet (fail)
 go_wp2_with fail
 go_quiet (fail)
 go_wp2_with fail
 have RL0:=zh (fun N=>zFb.zsu H.out N (T.mk 0 e0 0 tk.place []) rfl)
 refine (zDj (RL0.out _).st).mono ?_
 rintro e w1 ⟨t1,v1,l1,f1,q1,rfl,hk1,hn1,hs1,hp1,hsee1⟩
 have RL1:=zh ((RL0.out _).call hp1 hs1)
 have HV1:=zh ((RL0.out _).zYd hk1)
 have HS1:=zh hsee1
 have RLn:=zh (RL1.out.zqn t1 v1 HV1.out)
 have hz1:w.heap.size+1<w1.heap.size:=RL1.out.lt
 have HN1:=zh hn1
 clear hk1 hs1 hp1 hsee1 hn1
 unfold zna
 go_wp2_with ((with_reducible refine zla 36 (.tmp 5) ?_);refine zda rfl 36 (.tmp 5) (.tmp 51) rfl (w.heap.size+1) (zaa t1 v1) rfl rfl RL1.out.blk Tryz.zha rfl (zca _ _ HV1.out.one) ?_)
 refine (zRa RLn.out.st (bs [59]) zgi (by decide)).mono ?_
 rintro e w2 ⟨l2,f2,q2,rfl,hs2,hp2,tk2,hsee2⟩
 have RL2:=zh (RLn.out.call hp2 hs2)
 have HS2:=zh hsee2
 clear hs2 hp2 hsee2
 obtain ⟨old,hold,hol⟩:=RL2.out.res
 have HOLD:=zh hold
 clear hold
 go_wp2_with (first|((with_reducible refine zqa 36 (.tmp 5) ?_);refine zfa rfl 36 (.tmp 5) rfl (w.heap.size+1) t1 v1 rfl RL2.out.blk Tryz.underlying36 rfl Tryz.zha ?_)|((with_reducible refine zla 36 (.tmp 2) ?_);refine zda rfl 36 (.tmp 2) (.tmp 187) rfl w.heap.size (zaa t1 v1) rfl rfl HOLD.out Tryz.zha (by rw [hol];rfl) (zca _ _ RL2.out.kids.one) ?_))
 exact zma (cs:=zaa t1 v1) Tryz.results70 rfl HOLD.out Tryz.underlying36 rfl Tryz.zha rfl (RL2.out.tot (HN1.out) (by rw [zAj HX1.out HX2.out HX3.out HX4.out HX5.out HX6.out HX7.out HX8.out];exact HS1.out.andThen (HS2.out.andThen (zCa.done _ _ _ _))))
theorem zSk {E:Env} {w:World} {l:List Tok} {d:Nat} {q:Nat} (h:RSt E w l d 0 q) (hk2:((hdT l).kind == 2)=false) (h1:isT (hdT l) (bs [105,102])=false) (h2:isT (hdT l) (bs [119,104,105,108,101])=false) (h3:isT (hdT l) (bs [102,114,101,101])=false) (h4:isT (hdT l) (bs [108,111,99,107])=false) (h5:isT (hdT l) (bs [117,110,108,111,99,107])=false) (h6:isT (hdT l) (bs [114,101,116,117,114,110])=false) (h7:isT (hdT l) (bs [97,98,111,114,116])=false) (h8:isT (hdT l) (bs [102,111,114,107])=false) (blk:List Tok→R T) :
  Calls Tryz.prog 70 #[.pointer (some ⟨E.pb,0,none⟩)] w (zqg E w d l 0 q (zRb blk l)):=by
 have H:=zh h
 have hplt:=h.plt
 have htlt:=h.tlt
 have c0:w.cell? ⟨E.pb,0,none⟩=some (.slice (some ⟨E.tb,0,none⟩) E.ts.length E.cap):=h.blk.cell 0
 have c1:w.cell? ⟨E.pb,1,none⟩=some (.int .i64 ((E.ts.length-l.length:Nat):Int)):=h.blk.cell 1
 have cf1:=h.blk.frozen 1
 obtain ⟨t0,t1,t2,t3⟩:=h.tok
 have hk:E.ts.length-l.length<E.ts.length:=by have:=h.head.1;have:=h.le;omega
 have hlen:=h.len
 have hcap:=h.capb
 have ix1:(0:Int)≤((E.ts.length-l.length:Nat):Int):=by omega
 have ix2:(((E.ts.length-l.length:Nat):Int))<(E.ts.length:Int):=by omega
 obtain ⟨k,hidx⟩:∃ k,E.ts.length-l.length=k:=⟨_,rfl⟩
 have HIDX:=zh hidx
 have HK2:=zh hk2
 rw [hidx] at c1 t0 t1 t2 t3 hk ix1 ix2
 clear hidx
 have HX1:=zh h1
 have HX2:=zh h2
 have HX3:=zh h3
 have HX4:=zh h4
 have HX5:=zh h5
 have HX6:=zh h6
 have HX7:=zh h7
 have HX8:=zh h8
 generalize hT:hdT l=tk at t0 t1 t2 t3 hk2 HK2 h1 h2 h3 h4 h5 h6 h7 h8
 have HT:=zh hT
 have hkk:((tk.kind:Int) == 2)=false:=by
  have h2:¬ tk.kind=2:=by simpa using hk2
  rw [beq_eq_false_iff_ne]
  omega
 clear h hT t2 hk2 h1 h2 h3 h4 h5 h6 h7 h8
 obtain ⟨i0,z0,I⟩:=Tryz.zPc
 go_enter Tryz.func70,Tryz.ntmps70
 go_wp2_with fail
 go_quiet (fail)
 go_wp2_with fail
 go_quiet (fail)
 go_wp2_with fail
 have RL0:=zh (fun N=>zFb.zsu H.out N (T.mk 0 e0 0 tk.place []) rfl)
 refine (zDj (RL0.out _).st).mono ?_
 rintro e w1 ⟨t1,v1,l1,f1,q1,rfl,hk1,hn1,hs1,hp1,hsee1⟩
 have RL1:=zh ((RL0.out _).call hp1 hs1)
 have HV1:=zh ((RL0.out _).zYd hk1)
 have HS1:=zh hsee1
 have RLn:=zh (RL1.out.zqn t1 v1 HV1.out)
 have hz1:w.heap.size+1<w1.heap.size:=RL1.out.lt
 have HN1:=zh hn1
 clear hk1 hs1 hp1 hsee1 hn1
 unfold zna
 go_wp2_with ((with_reducible refine zla 36 (.tmp 5) ?_);refine zda rfl 36 (.tmp 5) (.tmp 51) rfl (w.heap.size+1) (zaa t1 v1) rfl rfl RL1.out.blk Tryz.zha rfl (zca _ _ HV1.out.one) ?_)
 refine (zRa RLn.out.st (bs [59]) zgi (by decide)).mono ?_
 rintro e w2 ⟨l2,f2,q2,rfl,hs2,hp2,tk2,hsee2⟩
 have RL2:=zh (RLn.out.call hp2 hs2)
 have HS2:=zh hsee2
 clear hs2 hp2 hsee2
 obtain ⟨old,hold,hol⟩:=RL2.out.res
 have HOLD:=zh hold
 clear hold
 go_wp2_with (first|((with_reducible refine zqa 36 (.tmp 5) ?_);refine zfa rfl 36 (.tmp 5) rfl (w.heap.size+1) t1 v1 rfl RL2.out.blk Tryz.underlying36 rfl Tryz.zha ?_)|((with_reducible refine zla 36 (.tmp 2) ?_);refine zda rfl 36 (.tmp 2) (.tmp 187) rfl w.heap.size (zaa t1 v1) rfl rfl HOLD.out Tryz.zha (by rw [hol];rfl) (zca _ _ RL2.out.kids.one) ?_))
 exact zma (cs:=zaa t1 v1) Tryz.results70 rfl HOLD.out Tryz.underlying36 rfl Tryz.zha rfl (RL2.out.tot (HN1.out) (by rw [zAj HX1.out HX2.out HX3.out HX4.out HX5.out HX6.out HX7.out HX8.out];exact HS1.out.andThen (HS2.out.andThen (zCa.done _ _ _ _))))
end
end Go.Proofs.YtpjnpffcnmgdcaaGreatDoor
