/- lychgateref02.stmt in one contract; the contract of lychgateref02.block. -/
import Derived.Test.YtpjnpffcnmgdcaaGreatDoorZ19
import Derived.Test.YtpjnpffcnmgdcaaGreatDoorZ02
namespace Go.Proofs.YtpjnpffcnmgdcaaGreatDoor
set_option maxRecDepth 100000
set_option maxHeartbeats 8000000
open Go.RowKit
def KW (E:Env):Prop:=∀ t∈E.ts,zSb.contains t.text.data.toList=true→t.kind=2
theorem KW.head {E:Env} {w:World} {l:List Tok} {d:Nat} {f:Int} {q:Nat} (hk:KW E) (h:RSt E w l d f q) {b:List UInt8} (hb:zSb.contains b=true) (hi:isT (hdT l) (bs b)=true):(hdT l).kind=2:=by
 refine hk _ (List.mem_of_getElem? h.head.2) ?_
 rw [zXj hi]
 exact hb
theorem zPo {E:Env} {w:World} {l:List Tok} {d:Nat} {q:Nat} (h:RSt E w l d 0 q) (hkw:KW E) {blk:List Tok→R T} (hB:zeg E d blk) :
  Calls Tryz.prog 70 #[.pointer (some ⟨E.pb,0,none⟩)] w (zqg E w d l 0 q (zRb blk l)):=by
 cases i1:isT (hdT l) (bs [105,102]) with
 | true=>exact zxr h (hkw.head h (by kernel_rfl) i1) i1 hB
 | false =>
 cases i2:isT (hdT l) (bs [119,104,105,108,101]) with
 | true=>exact zwm h (hkw.head h (by kernel_rfl) i2) i2 hB
 | false =>
 cases i3:isT (hdT l) (bs [102,114,101,101]) with
 | true=>exact zuo h (hkw.head h (by kernel_rfl) i3) i3 blk
 | false =>
 cases i4:isT (hdT l) (bs [108,111,99,107]) with
 | true=>exact zlo h (hkw.head h (by kernel_rfl) i4) i4 blk
 | false =>
 cases i5:isT (hdT l) (bs [117,110,108,111,99,107]) with
 | true=>exact zJk h (hkw.head h (by kernel_rfl) i5) i5 blk
 | false =>
 cases i6:isT (hdT l) (bs [114,101,116,117,114,110]) with
 | true=>exact zFl h (hkw.head h (by kernel_rfl) i6) i6 blk
 | false =>
 cases i7:isT (hdT l) (bs [97,98,111,114,116]) with
 | true=>exact zhm h (hkw.head h (by kernel_rfl) i7) i7 blk
 | false =>
 cases i8:isT (hdT l) (bs [102,111,114,107]) with
 | true=>exact zTn h (hkw.head h (by kernel_rfl) i8) i8 blk
 | false =>
 cases hk:((hdT l).kind == 2) with
 | true=>exact zbl h (by simpa using hk) i1 i2 i3 i4 i5 i6 i7 i8 blk
 | false=>exact zSk h hk i1 i2 i3 i4 i5 i6 i7 i8 blk
theorem zFb.zpm {E:Env} {w W:World} {d:Nat} {l:List Tok} {f:Int} {q g:Nat} {t:T} {v:Value} (h:zFb E w W d l f q g t v) (d':Nat) (hd:d'≤8):zFb E w (W.setCell ⟨E.pb,2,none⟩ (.int .i64 d')) d' l f q g t v:=by
 have h1:=h.gt
 have h2:=h.plt
 have h3:=h.tlt
 have hs:=h.st
 obtain ⟨old,ho,hl⟩:=h.res
 exact ⟨⟨hs.le,hs.suf,hs.blk.zNa 2 _,hs.row.same (Below.heap_setCell _ _ _ _ hs.ne),hs.ne,by simpa [World.setCell] using hs.tlt,hs.ends,hs.ok,hs.key,hs.len,hs.capb,hd⟩,h.kp.zeh 2 _,⟨old,ho.setOther _ _ (by show _≠E.pb;omega),hl⟩,h.blk.setOther _ _ (by show _≠E.pb;omega),h.kids.setCell _ _ (fun b hb=>by show b≠E.pb;omega),h.gt,h.plt,h.tlt⟩
theorem zFb.zfn {E:Env} {w W:World} {d:Nat} {l:List Tok} {f:Int} {q g:Nat} {t:T} {v:Value} (h:zFb E w W d l f q g t v) (x:Value) (d':Nat) (hd:d'≤8):zFb E w ((W.setCell ⟨E.pb,2,none⟩ x).setCell ⟨E.pb,2,none⟩ (.int .i64 d')) d' l f q g t v:=by
 have h1:=h.gt
 have h2:=h.plt
 have h3:=h.tlt
 have hs:=h.st
 obtain ⟨old,ho,hl⟩:=h.res
 exact ⟨⟨hs.le,hs.suf,(hs.blk.zNa 2 x).zNa 2 _,(hs.row.same (Below.heap_setCell _ _ _ _ hs.ne)).same (Below.heap_setCell _ _ _ _ hs.ne),hs.ne,by simpa [World.setCell] using hs.tlt,hs.ends,hs.ok,hs.key,hs.len,hs.capb,hd⟩,(h.kp.zeh 2 _).zeh 2 _,⟨old,(ho.setOther _ _ (by show _≠E.pb;omega)).setOther _ _ (by show _≠E.pb;omega),hl⟩,(h.blk.setOther _ _ (by show _≠E.pb;omega)).setOther _ _ (by show _≠E.pb;omega),(h.kids.setCell _ _ (fun b hb=>by show b≠E.pb;omega)).setCell _ _ (fun b hb=>by show b≠E.pb;omega),h.gt,h.plt,h.tlt⟩
theorem zao {l:List Tok} (h:isT (hdT l) (bs [123])=true):zYa 0 l=.error ((hdT l).place,21):=by
 unfold zYa zsa
 simp [h,bd]
theorem zCr (n:Nat) {l:List Tok} (h:isT (hdT l) (bs [123])=false):zYa n l=.error ((hdT l).place,20):=by
 cases n<;>(unfold zYa zsa;simp [h,bd])
theorem zol (n:Nat) {l:List Tok} (h:isT (hdT l) (bs [123])=true):zYa (n+1) l=bd (zac (zRb (zYa n)) l.tail.length l.tail) fun xs l2=>.ok (.mk 9 e0 0 (hdT l).place xs,l2):=by
 rw [zYa]
 unfold zsa
 simp only [List.any_cons,List.any_nil,Bool.or_false,h,cond_true]
 rfl
def BlkL (E:Env) (w:World) (d:Nat) (l2:List Tok) (q:Nat) (gn:Nat) (p:Nat) (item:List Tok→R T) (g:Nat) (wr:World):Prop :=
 ∃ ks v lx fx qx,zFb E w wr d lx fx qx gn (.mk 9 e0 0 p ks) v∧ks.length+g≤16500 ∧
  ((fx == 0)=true→lx.length+1≤g∧∃ N,lx.length≤N∧∀ ys lf f' q',zCa lx fx qx (zac item N lx) ys lf f' q'→zCa l2 0 q (zac item l2.length l2) (ks++ys) lf f' q') ∧
  ((fx == 0)=false→∀ ys,zCa l2 0 q (zac item l2.length l2) ys lx fx qx)
theorem zvt {l l2:List Tok} {f f2:Int} {q q2:Nat} {t:Tok} (h:zCa l f q (zsa [bs [123]] l) t l2 f2 q2) (hop:(f == 0 && isT (hdT l) (bs [123]))=false):(f2 == 0)=false∧∀ (n:Nat) (u:T),zCa l f q (zYa n l) u l2 f2 q2:=by
 rcases h with ⟨e0,h⟩|⟨e0,rfl,rfl,rfl⟩
 ·have hi:isT (hdT l) (bs [123])=false:=zxd hop e0
  have he:zsa [bs [123]] l=.error ((hdT l).place,20):=by unfold zsa;simp [hi]
  rcases h with ⟨l0,h1,_⟩|⟨p,c,h1,rfl,rfl,hc⟩
  ·rw [he] at h1;cases h1
  ·rw [he] at h1
   cases h1
   exact ⟨rfl,fun n u=>.inl ⟨e0,.inr ⟨_,_,zCr n hi,rfl,rfl,rfl⟩⟩⟩
 ·exact ⟨e0,fun n u=>.inr ⟨e0,rfl,rfl,rfl⟩⟩
theorem zfm {item:List Tok→R T} {n:Nat} {l:List Tok} (hn:0<n) (h:isT (hdT l) (bs [125])=true):zac item n l=.ok ([],l.tail):=by
 obtain ⟨m,rfl⟩:∃ m,n=m+1:=⟨n-1,by omega⟩
 unfold zac
 rw [h,cond_true]
theorem zkq {item:List Tok→R T} {n:Nat} {l:List Tok} (h:isT (hdT l) (bs [125])=false):zac item (n+1) l=bd (item l) fun a l1=>bd (zac item n l1) fun xs l2=>.ok (a :: xs,l2):=by
 conv=>lhs;unfold zac
 rw [h,cond_false]
theorem zCa.other {α:Type} {l l1:List Tok} {f f1:Int} {q q1:Nat} {r:R α} {t u:α} (h:zCa l f q r t l1 f1 q1) (hf:(f1 == 0)=false):zCa l f q r u l1 f1 q1:=by
 rcases h with ⟨e0,⟨l0,r1,rfl,rfl,rfl,n1⟩|⟨p,c,r1,rfl,rfl,hc⟩⟩|⟨e0,rfl,rfl,rfl⟩
 ·cases hf
 ·exact .inl ⟨e0,.inr ⟨_,_,r1,rfl,rfl,hc⟩⟩
 ·exact .inr ⟨e0,rfl,rfl,rfl⟩
theorem zUm (t:T):1≤t.size:=by
 cases t with
 | mk k s n p ks=>rw [size_mk];omega
theorem zAr {item:List Tok→R T} (hit:∀ l,Ok (Sz 0 l) (item l)) {l2 lx l5:List Tok} {q qx q5:Nat} {f5:Int} {N:Nat} {ks:List T} {t5:T} {tot:R (List T)} (hi:isT (hdT lx) (bs [125])=false) (hN:lx.length≤N) (hpos:0<lx.length) (h5:zCa lx 0 qx (item lx) t5 l5 f5 q5)
  (hsee:∀ ys lf f' q',zCa lx 0 qx (zac item N lx) ys lf f' q'→zCa l2 0 q tot (ks++ys) lf f' q') :
  ((f5 == 0)=true→l5.length+1≤lx.length∧∃ M,l5.length≤M∧∀ ys lf f' q',zCa l5 f5 q5 (zac item M l5) ys lf f' q'→zCa l2 0 q tot ((ks++[t5])++ys) lf f' q')∧((f5 == 0)=false→∀ ys,zCa l2 0 q tot ys l5 f5 q5):=by
 obtain ⟨M,rfl⟩:∃ M,N=M+1:=⟨N-1,by omega⟩
 have step:∀ ys lf f' q',zCa l5 f5 q5 (zac item M l5) ys lf f' q'→zCa lx 0 qx (zac item (M+1) lx) (t5 :: ys) lf f' q':=fun ys lf f' q' h=>by
  rw [zkq hi]
  exact h5.andThen (h.map (fun xs=>t5 :: xs))
 refine ⟨fun hf=>?_,fun hf ys=>?_⟩
 ·have hlt:l5.length+1≤lx.length:=by
   rcases h5 with ⟨_,⟨_,r1,rfl,rfl,rfl,n1⟩|⟨p,c,r1,rfl,rfl,hc⟩⟩|⟨e0,_⟩
   ·have h1:=hit lx t5 l5 r1
    have h2:=zUm t5
    unfold Sz at h1
    omega
   ·rw [hf] at hc;cases hc
   ·cases e0
  refine ⟨hlt,M,by omega,fun ys lf f' q' h=>?_⟩
  have h1:=hsee _ _ _ _ (step ys lf f' q' h)
  rw [List.append_assoc]
  exact h1
 ·exact (hsee (t5 :: ys) l5 f5 q5 (step ys l5 f5 q5 (.inr ⟨hf,rfl,rfl,rfl⟩))).other hf
theorem zGj {E:Env} (hkw:KW E) (n d:Nat) (hd:n+d=8) (ih:∀ n',n=n'+1→zeg E (d+1) (zYa n')):zeg E d (zYa n):=by
 intro w l f q h
 have H:=zh h
 have hplt:=h.plt
 have htlt:=h.tlt
 have c0:w.cell? ⟨E.pb,0,none⟩=some (.slice (some ⟨E.tb,0,none⟩) E.ts.length E.cap):=h.blk.cell 0
 have c1:w.cell? ⟨E.pb,1,none⟩=some (.int .i64 ((E.ts.length-l.length:Nat):Int)):=h.blk.cell 1
 obtain ⟨t0,t1,t2,t3⟩:=h.tok
 have hk:E.ts.length-l.length<E.ts.length:=by have:=h.head.1;have:=h.le;omega
 have hlen:=h.len
 have hll:=h.le
 have hcap:=h.capb
 have ix1:(0:Int)≤((E.ts.length-l.length:Nat):Int):=by omega
 have ix2:(((E.ts.length-l.length:Nat):Int))<(E.ts.length:Int):=by omega
 obtain ⟨k,hidx⟩:∃ k,E.ts.length-l.length=k:=⟨_,rfl⟩
 rw [hidx] at c1 t3 hk ix1 ix2
 clear hidx
 generalize hP:(hdT l).place=pl at t3
 have HP:=zh hP
 have HIH:=zh ih
 clear h hP t0 t1 t2 ih
 obtain ⟨i0,z0,I⟩:=Tryz.zPc
 go_enter Tryz.func40,Tryz.ntmps40
 go_wp2_with fail
 go_region_held3 (fun w'=>w'.cell? ⟨E.pb,0,none⟩=some (.slice (some ⟨E.tb,0,none⟩) E.ts.length E.cap)∧w'.cell? ⟨E.pb,1,none⟩=some (.int .i64 (k:Int))∧w'.cell? ⟨E.tb,k * 4+3,none⟩=some (.int .i64 pl))
  (first|go_keep)
  (fail)
 obtain ⟨hs0,hbr0,hbn0,hkp0⟩:=zLm H.out (zaa (T.mk 9 e0 0 pl []) (.slice none 0 0))
 have RL0:=zh (show zFb E w _ d l f q (w.heap.size+1) (T.mk 9 e0 0 pl []) (.slice none 0 0) from ⟨hs0,hkp0,⟨_,hbr0,rfl⟩,hbn0,KAt.nil _ _ _,by omega,hplt,htlt⟩)
 clear hs0 hbr0 hbn0 hkp0 c0 c1 t3
 go_wp2_with fail
 refine (zZf RL0.out.st (bs [123]) zxl).mono ?_
 rintro e w1 ⟨rfl,hs1,hp1⟩
 have RL1:=zh (RL0.out.call hp1 hs1)
 have d2:w1.cell? ⟨E.pb,2,none⟩=some (.int .i64 d):=hs1.blk.cell 2
 clear hs1 hp1
 cases hop:(f == 0 && isT (hdT l) (bs [123])) with
 | false =>
  go_wp2_with fail
  refine (zRa RL1.out.st (bs [123]) zxl (by decide)).mono ?_
  rintro e w2 ⟨l2,f2,q2,rfl,hs2,hp2,tk2,hsee2⟩
  have RL2:=zh (RL1.out.call hp2 hs2)
  obtain ⟨hf2,hsee⟩:=zvt hsee2 hop
  have HS:=zh hsee
  clear hs2 hp2 hsee2 hsee d2
  have c2:w2.cell? ⟨E.pb,2,none⟩=some (.int .i64 d):=RL2.out.st.blk.cell 2
  have c3:w2.cell? ⟨E.pb,3,none⟩=some (.int .i64 f2):=RL2.out.st.blk.cell 3
  have fz2:=RL2.out.st.blk.frozen 2
  have hd8:=RL2.out.st.deep
  have hpl2:E.pb<w2.heap.size:=RL2.out.st.plt
  have RLd:=zh (RL2.out.zfn (.int .i64 ((d:Int)+1)) d hd8)
  go_wp2_with fail
  go_loopg [5] 1 (fun g op wr=>w2.setCell ⟨E.pb,2,none⟩ (.int .i64 ((d:Int)+1))=wr)
  case atStart=>rfl
  case round =>
   subst hrel
   obtain ⟨old,hold,hol⟩:=RLd.out.res
   have HOLD:=zh hold
   clear hold
   go_wp2_with (first|((with_reducible refine zqa 36 (.tmp 3) ?_);refine zfa rfl 36 (.tmp 3) rfl (w.heap.size+1) (T.mk 9 e0 0 pl []) (.slice none 0 0) rfl RLd.out.blk Tryz.underlying36 rfl Tryz.zha ?_)|((with_reducible refine zla 36 (.tmp 2) ?_);refine zda rfl 36 (.tmp 2) (.tmp 65) rfl w.heap.size (zaa (T.mk 9 e0 0 pl []) (.slice none 0 0)) rfl rfl HOLD.out Tryz.zha (by rw [hol];rfl) (zca _ _ RLd.out.kids.one) ?_))
   exact zma (cs:=zaa (T.mk 9 e0 0 pl []) (.slice none 0 0)) Tryz.results40 rfl HOLD.out Tryz.underlying36 rfl Tryz.zha rfl (RLd.out.tot (by simp [T.kids]) (HS.out n _))
 | true =>
  obtain ⟨hf0,hi0⟩:(f == 0)=true∧isT (hdT l) (bs [123])=true:=by simpa using hop
  obtain rfl:f=0:=beq_iff_eq.1 hf0
  cases n with
  | zero =>
   obtain rfl:d=8:=by omega
   go_wp2_with fail
   refine (zKf RL1.out.st 21).mono ?_
   rintro e w2 ⟨rfl,hs2,hp2⟩
   have RL2:=zh (RL1.out.call hp2 hs2)
   clear hs2 hp2 d2
   go_wp2_with fail
   refine (zRa RL2.out.st (bs [123]) zxl (by decide)).mono ?_
   rintro e w3 ⟨l3,f3,q3,rfl,hs3,hp3,tk3,hsee3⟩
   obtain ⟨rfl,rfl,rfl⟩:l3=l∧f3=21∧q3=(hdT l).place:=by
    rcases hsee3 with ⟨e0,_⟩|⟨_,h1,h2,h3⟩
    ·exact absurd e0 (by decide)
    ·exact ⟨h1,h2,h3⟩
   have RL3:=zh (RL2.out.call hp3 hs3)
   have HS:Hid (∀ u,zCa l3 0 q (zYa 0 l3) u l3 21 (hdT l3).place):=zh (fun u=>.inl ⟨rfl,.inr ⟨_,_,zao hi0,rfl,rfl,rfl⟩⟩)
   clear hs3 hp3 hsee3
   have c2:w3.cell? ⟨E.pb,2,none⟩=some (.int .i64 8):=RL3.out.st.blk.cell 2
   have c3:w3.cell? ⟨E.pb,3,none⟩=some (.int .i64 21):=RL3.out.st.blk.cell 3
   have fz2:=RL3.out.st.blk.frozen 2
   have hpl2:E.pb<w3.heap.size:=RL3.out.st.plt
   have RLd:=zh (RL3.out.zfn (.int .i64 9) 8 (by decide))
   go_wp2_with fail
   go_loopg [5] 1 (fun g op wr=>w3.setCell ⟨E.pb,2,none⟩ (.int .i64 (9))=wr)
   case atStart=>rfl
   case round =>
    subst hrel
    obtain ⟨old,hold,hol⟩:=RLd.out.res
    have HOLD:=zh hold
    clear hold
    go_wp2_with (first|((with_reducible refine zqa 36 (.tmp 3) ?_);refine zfa rfl 36 (.tmp 3) rfl (w.heap.size+1) (T.mk 9 e0 0 pl []) (.slice none 0 0) rfl RLd.out.blk Tryz.underlying36 rfl Tryz.zha ?_)|((with_reducible refine zla 36 (.tmp 2) ?_);refine zda rfl 36 (.tmp 2) (.tmp 65) rfl w.heap.size (zaa (T.mk 9 e0 0 pl []) (.slice none 0 0)) rfl rfl HOLD.out Tryz.zha (by rw [hol];rfl) (zca _ _ RLd.out.kids.one) ?_))
    exact zma (cs:=zaa (T.mk 9 e0 0 pl []) (.slice none 0 0)) Tryz.results40 rfl HOLD.out Tryz.underlying36 rfl Tryz.zha rfl (RLd.out.tot (by simp [T.kids]) (HS.out _))
  | succ n =>
   have dd:¬ (8:Int)≤(d:Int):=by omega
   go_wp2_with fail
   refine (zvi RL1.out.st (bs [123]) zxl (by decide) hi0).mono ?_
   rintro e w2 ⟨rfl,hs2,hp2⟩
   have RL2:=zh (RL1.out.call hp2 hs2)
   have hlt:=hs2.le
   have c2:w2.cell? ⟨E.pb,2,none⟩=some (.int .i64 d):=hs2.blk.cell 2
   have fz2:=hs2.blk.frozen 2
   have hpl2:E.pb<w2.heap.size:=hs2.plt
   clear hs2 hp2 d2
   have RLd:Hid (zFb E w (w2.setCell ⟨E.pb,2,none⟩ (.int .i64 ((d:Int)+1))) (d+1) l.tail 0 q (w.heap.size+1) (T.mk 9 e0 0 pl []) (.slice none 0 0)):=zh (by
    have:=RL2.out.zpm (d+1) (by omega)
    rw [show ((d+1:Nat):Int)=(d:Int)+1 by omega] at this
    exact this)
   have HBC:=zh (HIH.out n rfl)
   go_wp2_with fail
   go_loopg [5] (l.tail.length+2) (fun g op wr=>BlkL E w (d+1) l.tail q (w.heap.size+1) pl (zRb (zYa n)) g wr)
   case atStart=>exact ⟨[],_,l.tail,0,q,RLd.out,by simp;omega,fun _=>⟨by omega,l.tail.length,Nat.le_refl _,fun ys lf f' q' h=>by rw [List.nil_append];exact h⟩,fun h=>by cases h⟩
   case round =>
    obtain ⟨ks,v,lx,fx,qx,hrl,hcnt,hyes,hno⟩:=hrel
    have RL:=zh hrl
    have HY:=zh hyes
    have HN:=zh hno
    have g3:wr.cell? ⟨E.pb,3,none⟩=some (.int .i64 fx):=hrl.st.blk.cell 3
    have g2:wr.cell? ⟨E.pb,2,none⟩=some (.int .i64 ((d:Int)+1)):=by
     have:=hrl.st.blk.cell 2
     rw [show (.int .i64 ((d:Int)+1):Value)=.int .i64 ((d+1:Nat):Int) by rw [show ((d+1:Nat):Int)=(d:Int)+1 by omega]]
     exact this
    have fzr:=hrl.st.blk.frozen 2
    have hplr:E.pb<wr.heap.size:=hrl.st.plt
    clear hrl hyes hno RLd c2 fz2
    cases hfx:(fx == 0) with
    | false =>
     have HF:=zh (HN.out hfx)
     have RLd:=zh (RL.out.zpm d (by omega))
     obtain ⟨old,hold,hol⟩:=RLd.out.res
     have HOLD:=zh hold
     clear hold
     go_wp2_with (first|((with_reducible refine zqa 36 (.tmp 3) ?_);refine zfa rfl 36 (.tmp 3) rfl (w.heap.size+1) (T.mk 9 e0 0 pl ks) v rfl RLd.out.blk Tryz.underlying36 rfl Tryz.zha ?_)|((with_reducible refine zla 36 (.tmp 2) ?_);refine zda rfl 36 (.tmp 2) (.tmp 65) rfl w.heap.size (zaa (T.mk 9 e0 0 pl ks) v) rfl rfl HOLD.out Tryz.zha (by rw [hol];rfl) (zca _ _ RLd.out.kids.one) ?_))
     exact zma (cs:=zaa (T.mk 9 e0 0 pl ks) v) Tryz.results40 rfl HOLD.out Tryz.underlying36 rfl Tryz.zha rfl (RLd.out.tot (by show ks.length≤40000;omega) (by rw [zol n hi0,HP.out];exact zCa.behind rfl ((HF.out ks).map (fun xs=>T.mk 9 e0 0 pl xs))))
    | true =>
     obtain rfl:fx=0:=beq_iff_eq.1 hfx
     obtain ⟨hg,N,hN,hsee⟩:=HY.out hfx
     have HSEE:=zh hsee
     have hlx:=RL.out.st.head.1
     clear hsee HY HN
     go_wp2_with fail
     refine (zab RL.out.st (bs [125]) zIs (by decide)).mono ?_
     rintro e w4 ⟨b4,l4,rfl,hs4,hp4,hc4⟩
     clear g3 g2 fzr
     rcases hc4 with ⟨rfl,hf4,hi4,hl4⟩|⟨rfl,hx4,hl4⟩
     ·rw [hl4] at hs4
      have RL4:=zh (RL.out.call hp4 hs4)
      have g2:w4.cell? ⟨E.pb,2,none⟩=some (.int .i64 ((d:Int)+1)):=by
       have:=hs4.blk.cell 2
       rw [show (.int .i64 ((d:Int)+1):Value)=.int .i64 ((d+1:Nat):Int) by rw [show ((d+1:Nat):Int)=(d:Int)+1 by omega]]
       exact this
      have fzr:=hs4.blk.frozen 2
      have hpl4:E.pb<w4.heap.size:=hs4.plt
      have HF:Hid (zCa l.tail 0 q (zac (zRb (zYa n)) l.tail.length l.tail) ks lx.tail 0 qx):=zh (by
       have:=HSEE.out [] lx.tail 0 qx (by rw [zfm (by omega) hi4];exact zCa.take rfl [])
       rwa [List.append_nil] at this)
      have RLd:=zh (RL4.out.zpm d (by omega))
      clear hs4 hp4
      obtain ⟨old,hold,hol⟩:=RLd.out.res
      have HOLD:=zh hold
      clear hold
      go_wp2_with (first|((with_reducible refine zqa 36 (.tmp 3) ?_);refine zfa rfl 36 (.tmp 3) rfl (w.heap.size+1) (T.mk 9 e0 0 pl ks) v rfl RLd.out.blk Tryz.underlying36 rfl Tryz.zha ?_)|((with_reducible refine zla 36 (.tmp 2) ?_);refine zda rfl 36 (.tmp 2) (.tmp 65) rfl w.heap.size (zaa (T.mk 9 e0 0 pl ks) v) rfl rfl HOLD.out Tryz.zha (by rw [hol];rfl) (zca _ _ RLd.out.kids.one) ?_))
      exact zma (cs:=zaa (T.mk 9 e0 0 pl ks) v) Tryz.results40 rfl HOLD.out Tryz.underlying36 rfl Tryz.zha rfl (RLd.out.tot (by show ks.length≤40000;omega) (by rw [zol n hi0,HP.out];exact zCa.behind rfl (HF.out.map (fun xs=>T.mk 9 e0 0 pl xs))))
     ·rw [hl4] at hs4
      have hi4:isT (hdT lx) (bs [125])=false:=by simpa using hx4
      have RL4:=zh (RL.out.call hp4 hs4)
      clear hs4 hp4 hx4
      go_wp2_with fail
      refine (zPo RL4.out.st hkw HBC.out).mono ?_
      rintro e w5 ⟨t5,v5,l5,f5,q5,rfl,hk5,hn5,hs5,hp5,hsee5⟩
      have RL5:=zh (RL4.out.call hp5 hs5)
      have HV5:=zh (RL4.out.fresh hk5)
      have HNX:=zh (zAr (zWp (zKj n)) hi4 hN hlx hsee5 HSEE.out)
      have hz5:w.heap.size+1<w5.heap.size:=RL5.out.lt
      have n4:w5.cell? ⟨w.heap.size+1,4,none⟩=some v:=RL5.out.blk.cell 4
      clear hk5 hs5 hp5 hsee5 hn5
      unfold zna
      go_wp2_with (first|((with_reducible refine zla 36 (.tmp 6) ?_);refine zga rfl 36 (.tmp 6) (.tmp 50) rfl (zaa t5 v5) (old:=zba) rfl rfl Tryz.zha rfl (zca _ _ HV5.out.one) ?_)|((with_reducible refine zqa 36 (.tmp 6) ?_);refine zfa rfl 36 (.tmp 6) rfl w5.heap.size t5 v5 rfl (Blk.zuk (by simp) _ _) Tryz.underlying36 rfl Tryz.zha ?_)|(at_builtin;refine zxa rfl (.tmp 52) (.tmp 54) rfl I (ks:=ks) (ts:=[t5]) (S:=fun b=>w.heap.size<b∧b≠w.heap.size+1) rfl ((RL5.out.alloc _).alloc _).kids (us:=[v5]) (zGb.single ?c1) ?c2 rfl rfl (by simp) (zDd _ (by simp) _ t5 v5) ?c3 ?_))
      case c1=>exact TAt.zHa ((HV5.out.alloc _).alloc _)
      case c2=>simp only [World.size_alloc];omega
      case c3=>simp;omega
      intro v6 w6 hK6 hg6 hb6
      obtain ⟨sa,sn,sc,rfl⟩:=hK6.slice
      obtain ⟨ha1,ha2,ha3,ha4⟩:=((RL5.out.alloc _).alloc _).after hK6 hg6
      have RL6:=zh ha1
      clear ha1 hK6 hg6 hb6 n4
      go_wp2
      go_roundg (gk-1)
      case measure=>omega
      case rel=>exact ⟨ks++[t5],_,l5,f5,q5,RL6.out,by simp;omega,fun hf=>by
       obtain ⟨h1,M,h2,h3⟩:=HNX.out.1 hf
       exact ⟨by omega,M,h2,h3⟩,HNX.out.2⟩
theorem zgj {E:Env} (hkw:KW E):∀ (n d:Nat),n+d=8→zeg E d (zYa n)
 | 0,d,h=>zGj hkw 0 d h (fun n' e=>by cases e)
 | n+1,d,h=>zGj hkw (n+1) d h (fun n' e=>by cases e;exact zgj hkw n (d+1) (by omega))
end Go.Proofs.YtpjnpffcnmgdcaaGreatDoor
