/- The contract of lychgateref02.fn. While lychgateref02.Parse runs: the parser and the unit's node apart; what the loop over the declarations keeps. The tokens that lex makes: one whose text is a key word is one, and one whose text is a sign is one. Nothing of the program is walked here. No conditions. -/
import Derived.Test.YtpjnpffcnmgdcaaGreatDoorZ20
import Derived.Test.YtpjnpffcnmgdcaaGreatDoorZ16
import Derived.Test.YtpjnpffcnmgdcaaGreatDoorZ12
namespace Go.Proofs.YtpjnpffcnmgdcaaGreatDoor
set_option maxRecDepth 100000
set_option maxHeartbeats 8000000
section
open Go.RowKit
theorem zFb.zHp {E:Env} {w W:World} {d:Nat} {l:List Tok} {f:Int} {q g:Nat} {t:T} {v:Value} (h:zFb E w W d l f q g t v) (go:Nat) (h1:w.heap.size<go) (h2:go≠g) (hk:KAt 36 W t.kids (fun b=>(w.heap.size<b∧b≠g)∧b<go) v) (i:Nat) (x:Value):zFb E w (W.setCell ⟨go,i,none⟩ x) d l f q g t v:=by
 have hp:=h.plt
 have ht:=h.tlt
 obtain ⟨old,ho,hl⟩:=h.res
 exact ⟨h.st.far _ _ (by show _≠go;omega) (by show _≠go;omega),h.kp.zLc (p:=⟨go,i,none⟩) (by show _≤go;omega) _,⟨old,ho.setOther _ _ (by show _≠go;omega),hl⟩,h.blk.setOther _ _ (by show _≠go;omega),(hk.setCell ⟨go,i,none⟩ x (fun b hb=>by show b≠go;omega)).mono (fun b hb _=>hb.1),h.gt,h.plt,h.tlt⟩
theorem zis (l:List Tok):zBc l=bd (zoa l) fun a l1=>bd (zsa [bs [58]] l1) fun _ l2=>bd (zYc l2) fun m l3=>.ok (.mk 7 a.text a.num a.place [m],l3):=by
 unfold zBc zoa
 cases zKb l with
 | error e=>rfl
 | ok x=>rfl
def zIf (xs:List T) (l:List Tok):R (List T):=bd (zsa [bs [41]] l) fun _ l=>.ok (xs,l)
theorem zfk (a:T) (xs:List T) (l:List Tok):zIf (a :: xs) l=bd (zIf xs l) fun ys l=>.ok (a :: ys,l):=by
 unfold zIf
 rw [zAb]
 rfl
def zRl (item:List Tok→R T) (l:List Tok):R (List T):=bif isT (hdT l) (bs [41]) then .ok ([],l.tail) else bd (item l) fun a l=>bd (zEd item l.length l) fun xs l=>zIf (a :: xs) l
theorem ztq (item:List Tok→R T) (l:List Tok):zfb item l=bd (zsa [bs [40]] l) fun _ l=>zRl item l:=by
 unfold zfb zRl zRd zIf
 congr 1
 funext a l1
 congr 1
 rw [zAb]
 congr 1
 funext a l2
 rw [zAb]
 rfl
def FnRel (E:Env) (w:World) (d:Nat) (l2:List Tok) (f2:Int) (q2:Nat) (gn:Nat) (t0:T) (item:List Tok→R T) (g:Nat) (op:Value) (wr:World):Prop :=
 ∃ b ks v lc fc qc,op=.bool b∧zFb E w wr d lc fc qc gn (t0.zeb ks) v∧ks.length+g≤16500 ∧
  (b=false→((fc == 0)=true→lc.length+1≤g∧∃ N:List Tok→Nat,(∀ l',l'.length≤lc.length→l'.length≤N l') ∧
   ∀ ys lf f' q',zCa lc fc qc (bd (item lc) fun a l=>bd (zEd item (N l) l) fun xs l=>zIf (a :: xs) l) ys lf f' q'→zCa l2 f2 q2 (zRl item l2) (ks++ys) lf f' q') ∧
   ((fc == 0)=false→∀ ys,zCa l2 f2 q2 (zRl item l2) ys lc fc qc)) ∧
  (b=true→zCa l2 f2 q2 (zRl item l2) ks lc fc qc)
theorem zFb.param {E:Env} {w W:World} {d:Nat} {l:List Tok} {f:Int} {q g gq:Nat} {t u:T} {v x:Value} {kb nb:Int} {sb:ByteArray} {pb:Nat} (h:zFb E w W d l f q g t v) (hb:Blk W gq (zaa (T.mk kb sb nb pb []) (.slice none 0 0)) 36) (h1:w.heap.size<gq) (h2:gq≠g)
  (hk:KAt 36 W t.kids (fun b=>(w.heap.size<b∧b≠g)∧b<gq) v) (hu:KAt 36 W u.kids (fun b=>gq<b) x) (hg:g<gq) :
  zFb E w ((((W.setCell ⟨gq,0,none⟩ (.int .i64 7)).setCell ⟨gq,4,none⟩ (.slice (some ⟨W.heap.size+1,0,none⟩) 1 1)).alloc (.cells (zaa u x).toArray 36)).alloc (.cells (zaa u x).toArray 36)) d l f q g t v ∧
  Blk ((((W.setCell ⟨gq,0,none⟩ (.int .i64 7)).setCell ⟨gq,4,none⟩ (.slice (some ⟨W.heap.size+1,0,none⟩) 1 1)).alloc (.cells (zaa u x).toArray 36)).alloc (.cells (zaa u x).toArray 36)) gq (zaa (T.mk 7 sb nb pb [u]) (.slice (some ⟨W.heap.size+1,0,none⟩) 1 1)) 36 ∧
  KAt 36 ((((W.setCell ⟨gq,0,none⟩ (.int .i64 7)).setCell ⟨gq,4,none⟩ (.slice (some ⟨W.heap.size+1,0,none⟩) 1 1)).alloc (.cells (zaa u x).toArray 36)).alloc (.cells (zaa u x).toArray 36)) [u] (fun b=>(w.heap.size<b∧b≠g)∧v.ownBlock≠some b) (.slice (some ⟨W.heap.size+1,0,none⟩) 1 1):=by
 have hlt:=hb.lt
 have hown:∀ k,v.ownBlock=some k→k<gq:=fun k e=>(hk.choose_spec.2.1 k e).2
 have s1:=h.zHp gq h1 h2 hk 0 (.int .i64 7)
 have hk1:KAt 36 (W.setCell ⟨gq,0,none⟩ (.int .i64 7)) t.kids (fun b=>(w.heap.size<b∧b≠g)∧b<gq) v:=hk.setCell ⟨gq,0,none⟩ _ (fun b hb=>by show b≠gq;omega)
 have s2:=s1.zHp gq h1 h2 hk1 4 (.slice (some ⟨W.heap.size+1,0,none⟩) 1 1)
 refine ⟨(s2.alloc _).alloc _,((((hb.zNa 0 _).zNa 4 _).alloc _).alloc _),?_⟩
 have hx:KAt 36 ((W.setCell ⟨gq,0,none⟩ (.int .i64 7)).setCell ⟨gq,4,none⟩ (.slice (some ⟨W.heap.size+1,0,none⟩) 1 1)) u.kids (fun b=>gq<b) x:=(hu.setCell ⟨gq,0,none⟩ _ (fun b hb=>by show b≠gq;omega)).setCell ⟨gq,4,none⟩ _ (fun b hb=>by show b≠gq;omega)
 have hk2:=KAt.zrk (e:=36) (w:=((W.setCell ⟨gq,0,none⟩ (.int .i64 7)).setCell ⟨gq,4,none⟩ (.slice (some ⟨W.heap.size+1,0,none⟩) 1 1)).alloc (.cells (zaa u x).toArray 36)) (t:=u) (S:=fun b=>gq<b) (TAt.zHa (hx.alloc _)) (by simp only [World.size_alloc,World.size_setCell];omega)
 rw [show (((W.setCell ⟨gq,0,none⟩ (.int .i64 7)).setCell ⟨gq,4,none⟩ (.slice (some ⟨W.heap.size+1,0,none⟩) 1 1)).alloc (.cells (zaa u x).toArray 36)).heap.size=W.heap.size+1 by simp] at hk2
 exact hk2.mono fun b hb _=>⟨⟨by omega,by omega⟩,fun e=>by have:=hown b e;omega⟩
theorem zut (p:Nat) (l:List Tok):fnP p l=bd (zoa l) fun n l1=>bd (zsa [bs [40]] l1) fun _ l2=>bd (zRl zBc l2) fun xs l3=>bd (zAc l3) fun r l4=>bd (zYa 8 l4) fun b l5=>.ok (.mk 6 n.text n.num p (xs++[r,b]),l5):=by
 unfold fnP
 simp only [ztq,zAb]
 unfold zoa
 cases zKb l with
 | error e=>rfl
 | ok x=>rfl
theorem zNr:zOa (bs [45,62])=true:=by kernel_rfl
theorem key58:zOa (bs [58])=true:=by kernel_rfl
theorem ztp {l:List Tok} (h:isT (hdT l) (bs [38])=true):zQa l=.error ((hdT l).place,20):=by
 have h1:isT (hdT l) (bs [105,110,116])=false:=zza h (by kernel_rfl)
 have h2:isT (hdT l) (bs [111,119,110])=false:=zza h (by kernel_rfl)
 unfold zQa zsa
 simp [h1,h2,bd]
theorem zqo {l:List Tok} (h:isT (hdT l) (bs [38])=false):zQa l=zYc l:=by
 unfold zYc
 rw [h]
 rfl
theorem zwt {E:Env} {w:World} {l:List Tok} {f:Int} {q:Nat} (h:RSt E w l 0 f q) (hkw:KW E) (p:Nat) :
  Calls Tryz.prog 19 #[.pointer (some ⟨E.pb,0,none⟩),.int .i64 p] w (zqg E w 0 l f q (fnP p l)):=by
 have H:=zh h
 have hplt:=h.plt
 have htlt:=h.tlt
 have hlen:=h.len
 have HBC:=zh (zgj hkw 8 0 rfl)
 have H0:=zh (h.alloc (.cells zba.toArray 36))
 have HK0:=zh ((Kp.refl E.pb w).alloc (.cells zba.toArray 36))
 have HBr0:=zh (Blk.new w zba 36)
 clear h
 obtain ⟨i0,z0,I⟩:=Tryz.zPc
 go_enter Tryz.func19,Tryz.ntmps19
 go_wp2_with fail
 refine (zQb H0.out).mono ?_
 rintro e w1 ⟨ka,sa,na,pa,l1,f1,q1,rfl,hs1,hp1,hsee1⟩
 have HB1:=zh (HBr0.out.kp hp1 (by omega))
 have HK1:=zh (HK0.out.trans hp1)
 have H1:=zh hs1
 have HS1:=zh hsee1
 have hz1:=HB1.out.lt
 clear hs1 hp1 hsee1
 go_wp2_with fail
 have RL1:=zh (zFb.new (t:=T.mk 6 sa na p []) (v:=.slice none 0 0) H1.out HK1.out HB1.out rfl (KAt.nil _ _ _) hplt htlt)
 refine (zRa RL1.out.st (bs [40]) zWr (by decide)).mono ?_
 rintro e w2 ⟨l2,f2,q2,rfl,hs2,hp2,tk2,hsee2⟩
 have RL2:=zh (RL1.out.call hp2 hs2)
 have HS2:=zh hsee2
 have hl2:=hs2.le
 clear hs2 hp2 hsee2
 go_wp2_with fail
 refine (zab RL2.out.st (bs [41]) znr (by decide)).mono ?_
 rintro e w3 ⟨b3,l3,rfl,hs3,hp3,hc3⟩
 have RL3:=zh (RL2.out.call hp3 hs3)
 have HC3:=zh hc3
 clear hs3 hp3 hc3
 go_wp2_with fail
 go_loopg [6] (l2.length+2) (fun g op wr=>FnRel E w 0 l2 f2 q2 w1.heap.size (T.mk 6 sa na p []) zBc g op wr)
 case atStart =>
  rcases HC3.out with ⟨rfl,hfy,hiy,rfl⟩|⟨rfl,hxy,rfl⟩
  ·refine ⟨true,[],_,_,_,_,rfl,RL3.out,by simp;omega,fun h=>(by cases h),fun _=>?_⟩
   exact zCa.yes hiy hfy (zCa.done _ _ _ _)
  ·refine ⟨false,[],_,_,_,_,rfl,RL3.out,by simp;omega,fun _=>⟨fun hf=>⟨by omega,fun l=>l.length,fun l' _=>Nat.le_refl _,fun ys lf f' q' hy=>?_⟩,fun hf ys=>.inr ⟨hf,rfl,rfl,rfl⟩⟩,fun h=>by cases h⟩
   rw [List.nil_append]
   exact zCa.no hxy hy
 case round =>
  obtain ⟨b,ks,v,lc,fc,qc,rfl,hrl,hcnt,hno,hyes⟩:=hrel
  have RL:=zh hrl
  have HN:=zh hno
  have HY:=zh hyes
  have g3:wr.cell? ⟨E.pb,3,none⟩=some (.int .i64 fc):=hrl.st.blk.cell 3
  have hplr:E.pb<wr.heap.size:=hrl.st.plt
  clear hrl hno hyes
  by_cases hgo:b=false∧(fc == 0)=true
  ·obtain ⟨rfl,hfc⟩:=hgo
   obtain rfl:fc=0:=beq_iff_eq.1 hfc
   obtain ⟨hg,N,hN,hcont⟩:=(HN.out rfl).1 hfc
   have HNN:=zh hN
   have HCO:=zh hcont
   have hpos:=RL.out.st.head.1
   clear hN hcont HN HY
   go_wp2_with fail
   refine (zQb RL.out.st).mono ?_
   rintro e w5 ⟨kb,sb,nb,pb',l5,f5,q5,rfl,hs5,hp5,hsee5⟩
   have RL5:=zh (RL.out.call hp5 hs5)
   have RLq:=zh (RL5.out.alloc (.cells (zaa (T.mk kb sb nb pb' []) (.slice none 0 0)).toArray 36))
   have HBq:=zh (Blk.new w5 (zaa (T.mk kb sb nb pb' []) (.slice none 0 0)) 36)
   have HKq:=zh ((RL5.out.kids.mono (S':=fun b=>(w.heap.size<b∧b≠w1.heap.size)∧b<w5.heap.size) (fun b hb hl=>⟨hb,hl⟩)).alloc (.cells (zaa (T.mk kb sb nb pb' []) (.slice none 0 0)).toArray 36))
   have HS5:=zh hsee5
   have hz5:w1.heap.size<w5.heap.size:=RL5.out.lt
   have hz5w:w.heap.size<w1.heap.size:=RL5.out.gt
   clear hs5 hp5 hsee5 g3
   go_wp2_with fail
   refine (zRa RLq.out.st (bs [58]) key58 (by decide)).mono ?_
   rintro e w6 ⟨l6,f6,q6,rfl,hs6,hp6,tk6,hsee6⟩
   have RL6:=zh (RLq.out.call hp6 hs6)
   have HBq6:=zh (HBq.out.kp hp6 (by omega))
   have HKq6:=zh (HKq.out.kp hp6 (fun b hb=>by omega))
   have HS6:=zh hsee6
   have hz6:w5.heap.size<w6.heap.size:=HBq6.out.lt
   clear hs6 hp6 hsee6
   go_wp2_with fail
   refine (zni RL6.out.st).mono ?_
   rintro e w7 ⟨t7,v7,l7,f7,q7,rfl,hk7,hn7,hs7,hp7,hsee7⟩
   have RL7:=zh (RL6.out.call hp7 hs7)
   have HBq7:=zh (HBq6.out.kp hp7 (by omega))
   have HKq7:=zh (HKq6.out.kp hp7 (fun b hb=>by omega))
   have HV7:=zh (show KAt 36 w7 t7.kids (fun b=>w5.heap.size<b) v7 from hk7.mono (fun b hb _=>by omega))
   have HS7:=zh hsee7
   have hz7:w5.heap.size<w7.heap.size:=HBq7.out.lt
   have hpar:=RL7.out.param HBq7.out (by omega) (by omega) HKq7.out HV7.out hz5
   have RP:=zh hpar.1
   have HBP:=zh hpar.2.1
   have HKP:=zh hpar.2.2
   have m0:w7.cell? ⟨w5.heap.size,0,none⟩=some (.int .i64 kb):=HBq7.out.cell 0
   have mf0:=HBq7.out.frozen 0
   have m4:w7.cell? ⟨w5.heap.size,4,none⟩=some (.slice none 0 0):=HBq7.out.cell 4
   have mf4:=HBq7.out.frozen 4
   have n4:w7.cell? ⟨w1.heap.size,4,none⟩=some v:=RL7.out.blk.cell 4
   have hz7a:w5.heap.size≠w7.heap.size:=by omega
   have hz7b:w5.heap.size+1≠w7.heap.size+1:=by omega
   have hz7c:w1.heap.size≠w7.heap.size:=by omega
   have hz7d:w1.heap.size<w7.heap.size:=by omega
   clear hk7 hn7 hs7 hp7 hsee7 hpar
   unfold zna
   go_wp2_with (first|((with_reducible refine zla 36 (.tmp 8) ?_);refine zga rfl 36 (.tmp 8) (.tmp 37) rfl (zaa t7 v7) (old:=zba) rfl rfl Tryz.zha rfl (zca _ _ HV7.out.one) ?_)|((with_reducible refine zqa 36 (.tmp 8) ?_);refine zfa rfl 36 (.tmp 8) rfl w7.heap.size t7 v7 rfl (Blk.zuk (by simp) _ _) Tryz.underlying36 rfl Tryz.zha ?_)|((with_reducible refine zqa 36 (.tmp 7) ?_);refine zfa rfl 36 (.tmp 7) rfl w5.heap.size (T.mk 7 sb nb pb' [t7]) (.slice (some ⟨w7.heap.size+1,0,none⟩) 1 1) rfl HBP.out Tryz.underlying36 rfl Tryz.zha ?_)|(at_builtin;refine zxa rfl (.tmp 43) (.tmp 45) rfl I (ks:=ks) (ts:=[T.mk 7 sb nb pb' [t7]]) (S:=fun b=>w.heap.size<b∧b≠w1.heap.size) rfl (RP.out.alloc _).kids (us:=[.slice (some ⟨w7.heap.size+1,0,none⟩) 1 1]) (zGb.single ?c1) ?c2 rfl rfl (by simp) (zDd _ (by simp) _ _ _) ?c3 ?_))
   case c1=>exact TAt.zHa (HKP.out.alloc _)
   case c2=>simp only [World.size_alloc,World.size_setCell];omega
   case c3=>simp;omega
   intro v8 w8 hK8 hg8 hb8
   obtain ⟨sa',sn,sc,rfl⟩:=hK8.slice
   obtain ⟨ha1,ha2,ha3,ha4⟩:=(RP.out.alloc _).after hK8 hg8
   have RL8:=zh ha1
   have HIT:Hid (zCa lc 0 qc (zBc lc) (T.mk 7 sb nb pb' [t7]) l7 f7 q7):=zh (by rw [zis];exact HS5.out.andThen (HS6.out.andThen (HS7.out.map (fun m=>T.mk 7 sb nb pb' [m]))))
   clear ha1 hK8 hg8 hb8 n4 m0 mf0 m4 mf4
   go_wp2_with fail
   refine (zab RL8.out.st (bs [44]) zUr (by decide)).mono ?_
   rintro e w9 ⟨b9,l9,rfl,hs9,hp9,hc9⟩
   have RL9:=zh (RL8.out.call hp9 hs9)
   clear hs9 hp9 ha2 ha3
   simp only [zid] at RL9
   rcases hc9 with ⟨rfl,hf9,hi9,rfl⟩|⟨rfl,hx9,rfl⟩
   ·go_wp2_with fail
    go_roundg (gk-1)
    case measure=>omega
    case rel =>
     have hlen5:=HIT.out.len (beq_iff_eq.1 hf9)
     have hpos7:=RL7.out.st.head.1
     have hnl:=HNN.out l7 hlen5
     obtain ⟨m,hm⟩:∃ m,N l7=m+1:=⟨N l7-1,by omega⟩
     refine ⟨false,ks++[T.mk 7 sb nb pb' [t7]],_,_,_,_,rfl,RL9.out,by simp;omega,fun _=>⟨fun _=>⟨by rw [List.length_tail];omega,fun _=>m,fun l' hl'=>by rw [List.length_tail] at hl';show l'.length≤m;omega,fun ys lf f' q' hy=>?_⟩,fun hf=>by rw [hf9] at hf;cases hf⟩,fun h=>by cases h⟩
     have:=HCO.out (T.mk 7 sb nb pb' [t7] :: ys) lf f' q' (HIT.out.andThen (by rw [hm,zhi zfk hi9];exact (zCa.behind hf9 hy).andThen (zCa.done _ _ _ _)))
     rw [List.append_assoc]
     exact this
   ·go_wp2_with fail
    refine (zRa RL9.out.st (bs [41]) znr (by decide)).mono ?_
    rintro e w10 ⟨l10,f10,q10,rfl,hs10,hp10,tk10,hsee10⟩
    have RL10:=zh (RL9.out.call hp10 hs10)
    have HS10:=zh hsee10
    clear hs10 hp10 hsee10
    go_wp2_with fail
    go_roundg (gk-1)
    case measure=>omega
    case rel =>
     refine ⟨true,ks++[T.mk 7 sb nb pb' [t7]],_,_,_,_,rfl,RL10.out,by simp;omega,fun h=>(by cases h),fun _=>?_⟩
     exact HCO.out [T.mk 7 sb nb pb' [t7]] _ _ _ (HIT.out.andThen ((zCa.turn (fun hf=>zhg (by have:=HNN.out _ (HIT.out.len (beq_iff_eq.1 hf));have:=RL7.out.st.head.1;omega) (zxd hx9 hf)) (zCa.done _ _ _ _)).andThen (HS10.out.andThen (zCa.done _ _ _ _))))
  ·have hor:b=true∨(b=false∧(fc == 0)=false):=by
    cases b
    ·exact .inr ⟨rfl,by simpa using hgo⟩
    ·exact .inl rfl
   have HSF:Hid (zCa l2 f2 q2 (zRl zBc l2) ks lc fc qc):=zh (by
    rcases hor with rfl|⟨rfl,hfc⟩
    ·exact HY.out rfl
    ·exact (HN.out rfl).2 hfc ks)
   have g0:wr.cell? ⟨E.pb,0,none⟩=some (.slice (some ⟨E.tb,0,none⟩) E.ts.length E.cap):=RL.out.st.blk.cell 0
   have g1:wr.cell? ⟨E.pb,1,none⟩=some (.int .i64 ((E.ts.length-lc.length:Nat):Int)):=RL.out.st.blk.cell 1
   obtain ⟨t0,t1,t2,t3⟩:=RL.out.st.tok
   have hk:E.ts.length-lc.length<E.ts.length:=by have:=RL.out.st.head.1;have:=RL.out.st.le;omega
   have hcap:=RL.out.st.capb
   have ix1:(0:Int)≤((E.ts.length-lc.length:Nat):Int):=by omega
   have ix2:(((E.ts.length-lc.length:Nat):Int))<(E.ts.length:Int):=by omega
   obtain ⟨k,hidx⟩:∃ k,E.ts.length-lc.length=k:=⟨_,rfl⟩
   rw [hidx] at g1 t3 hk ix1 ix2
   clear hidx
   generalize hP:(hdT lc).place=pl at t3
   have HP:=zh hP
   have RLr:=zh ((RL.out.alloc (.cells (zaa (T.mk 8 e0 0 pl []) (.slice none 0 0)).toArray 36)).draws 1)
   have HBr:=zh (show Blk ((wr.alloc (.cells (zaa (T.mk 8 e0 0 pl []) (.slice none 0 0)).toArray 36)).drewN 1) wr.heap.size _ 36 from Blk.new wr (zaa (T.mk 8 e0 0 pl []) (.slice none 0 0)) 36)
   have HKr:=zh (show KAt 36 ((wr.alloc (.cells (zaa (T.mk 8 e0 0 pl []) (.slice none 0 0)).toArray 36)).drewN 1) ks (fun b=>(w.heap.size<b∧b≠w1.heap.size)∧b<wr.heap.size) v from ((RL.out.kids.mono (S':=fun b=>(w.heap.size<b∧b≠w1.heap.size)∧b<wr.heap.size) (fun b hb hl=>⟨hb,hl⟩)).alloc _).keep (fun b hb _=>⟨hb,rfl⟩))
   have hzr:w1.heap.size<wr.heap.size:=RL.out.lt
   have hzw:w.heap.size<w1.heap.size:=RL.out.gt
   clear HN HY hP t0 t1 t2
   rcases hor with rfl|⟨rfl,hfc⟩
   all_goals
    go_wp2_with fail
    go_region_held3 (fun w'=>w'.cell? ⟨E.pb,0,none⟩=some (.slice (some ⟨E.tb,0,none⟩) E.ts.length E.cap)∧w'.cell? ⟨E.pb,1,none⟩=some (.int .i64 (k:Int))∧w'.cell? ⟨E.tb,k * 4+3,none⟩=some (.int .i64 pl))
     (first|go_keep)
     (fail)
    go_wp2_with fail
    refine (zab RLr.out.st (bs [45,62]) zNr (by decide)).mono ?_
    rintro e w11 ⟨b11,l11,rfl,hs11,hp11,hc11⟩
    have RL11:=zh (RLr.out.call hp11 hs11)
    have HB11:=zh (HBr.out.kp hp11 (by omega))
    have HK11:=zh (HKr.out.kp hp11 (fun b hb=>by omega))
    have hz11:wr.heap.size<w11.heap.size:=HB11.out.lt
    clear hs11 hp11 g0 g1 g3 t3
    rcases hc11 with ⟨rfl,hf11,hi11,rfl⟩|⟨rfl,hx11,rfl⟩
    ·go_wp2_with fail
     refine (zZf RL11.out.st (bs [38]) zZt).mono ?_
     rintro e w12 ⟨rfl,hs12,hp12⟩
     have RL12:=zh (RL11.out.call hp12 hs12)
     have HB12:=zh (HB11.out.kp hp12 (by omega))
     have HK12:=zh (HK11.out.kp hp12 (fun b hb=>by omega))
     have hz12:wr.heap.size<w12.heap.size:=HB12.out.lt
     clear hs12 hp12
     cases hc12:(fc == 0 && isT (hdT lc.tail) (bs [38])) with
     | true =>
      have hi12:isT (hdT lc.tail) (bs [38])=true:=by rw [hf11] at hc12;simpa using hc12
      go_wp2_with fail
      refine (zRk RL12.out.st 20 rfl).mono ?_
      rintro e w13 ⟨f13,q13,rfl,hs13,hp13,hf13,hsee13⟩
      have RL13:=zh (RL12.out.call hp13 hs13)
      have HB13:=zh (HB12.out.kp hp13 (by omega))
      have HK13:=zh (HK12.out.kp hp13 (fun b hb=>by omega))
      have hz13:wr.heap.size<w13.heap.size:=HB13.out.lt
      clear hs13 hp13
      go_wp2_with fail
      refine (zni RL13.out.st).mono ?_
      rintro e wm ⟨tr,vr,lr,fr,qr,rfl,hkr,hnr,hsr,hpr,hseer⟩
      have HSR:Hid (zCa lc fc qc (zAc lc) tr lr fr qr):=zh (by
       rcases hseer with ⟨e0,_⟩|⟨_,rfl,rfl,rfl⟩
       ·rw [hf13] at e0;cases e0
       ·unfold zAc
        refine zCa.yes hi11 hf11 ?_
        rw [ztp hi12]
        exact hsee13 tr)
      have RLm0:=zh (RL13.out.call hpr hsr)
      have HBm0:=zh (HB13.out.kp hpr (by omega))
      have HKm0:=zh (HK13.out.kp hpr (fun b hb=>by omega))
      have hownr:∀ x,v.ownBlock=some x→x<wr.heap.size:=fun x e=>(HKm0.out.choose_spec.2.1 x e).2
      have HVr:=zh (show KAt 36 wm tr.kids (fun b=>((w.heap.size<b∧b≠w1.heap.size)∧v.ownBlock≠some b)∧b≠wr.heap.size) vr from hkr.mono (fun b hb _=>⟨⟨⟨by omega,by omega⟩,fun e=>by have:=hownr b e;omega⟩,by omega⟩))
      have RLm:=zh (RLm0.out.zhp wr.heap.size (by omega) (by omega) HKm0.out (zaa tr vr).toArray)
      have hzm:wr.heap.size<wm.heap.size:=HBm0.out.lt
      clear hkr hnr hsr hpr hseer
      unfold zna
      go_wp2_with ((with_reducible refine zla 36 (.tmp 10) ?_);refine zda rfl 36 (.tmp 10) (.tmp 75) rfl wr.heap.size (zaa tr vr) rfl rfl HBm0.out Tryz.zha rfl (zca _ _ HVr.out.one) ?_)
      refine (HBC.out _ _ _ _ RLm.out.st).mono ?_
      rintro e wb ⟨tb,vb,lb,fb,qb,rfl,hkb,hnb,hsb,hpb,hseeb⟩
      have RLb:=zh ((RLm.out).call hpb hsb)
      have HBb:=zh ((HBm0.out.zra (zaa tr vr)).kp hpb (by omega))
      have HVrb:=zh ((HVr.out.setRow wr.heap.size (zaa tr vr).toArray (fun b hb=>hb.2)).kp hpb (fun b hb=>by omega))
      have hown:∀ x,v.ownBlock=some x→x<wr.heap.size:=fun x e=>((HKm0.out).choose_spec.2.1 x e).2
      have HVb:=zh (show KAt 36 wb tb.kids (fun b=>((w.heap.size<b∧b≠w1.heap.size)∧v.ownBlock≠some b)∧b<wb.heap.size) vb from hkb.mono (fun b hb hl=>⟨⟨⟨by (try simp only [size_putRow] at hb);omega,by (try simp only [size_putRow] at hb);omega⟩,fun e=>by have:=hown b e;(try simp only [size_putRow] at hb);omega⟩,hl⟩))
      have HSB:=zh hseeb
      have hzb:wr.heap.size<wb.heap.size:=HBb.out.lt
      have n4:wb.cell? ⟨w1.heap.size,4,none⟩=some v:=RLb.out.blk.cell 4
      have hzb1:w1.heap.size<wb.heap.size:=by omega
      clear hkb hnb hsb hpb hseeb
      unfold zna
      go_wp2_with (first|((with_reducible refine zla 36 (.tmp 13) ?_);refine zga rfl 36 (.tmp 13) (.tmp 77) rfl (zaa tb vb) (old:=zba) rfl rfl Tryz.zha rfl (zca _ _ HVb.out.one) ?_)|((with_reducible refine zqa 36 (.tmp 10) ?_);refine zfa rfl 36 (.tmp 10) rfl wr.heap.size tr vr rfl (HBb.out.alloc _) Tryz.underlying36 rfl Tryz.zha ?_)|(at_builtin;refine zxa rfl (.tmp 79) (.tmp 81) rfl I (ks:=ks) (ts:=[tr]) (S:=fun b=>w.heap.size<b∧b≠w1.heap.size) rfl ((RLb.out.alloc _).alloc _).kids (us:=[vr]) (zGb.single ?c1) ?c2 rfl rfl (by simp) (zDd _ (by simp) _ _ _) ?c3 ?_))
      case c1=>exact TAt.zHa (((HVrb.out.mono (fun b hb _=>hb.1)).alloc _).alloc _)
      case c2=>simp only [World.size_alloc];omega
      case c3=>simp;omega
      intro v8 w8 hK8 hg8 hb8
      have hg8s:=hg8.size
      simp only [World.size_alloc] at hg8s
      obtain ⟨sa',sn,sc,rfl⟩:=hK8.slice
      obtain ⟨ha1,ha2,ha3,ha4⟩:=((RLb.out.alloc _).alloc _).after hK8 hg8
      have RL8:=zh ha1
      have HVb8:=zh (show KAt 36 w8 tb.kids (fun b=>(w.heap.size<b∧b≠w1.heap.size)∧(Value.slice sa' sn sc).ownBlock≠some b) vb from ((HVb.out.alloc _).alloc _).keep (fun b hb hl=>⟨⟨hb.1.1,fun e=>by
       rcases hb8 with h8|h8
       ·exact hb.1.2 (h8▸e)
       ·rw [h8] at e
        simp only [Option.some.injEq] at e
        omega⟩,hg8.block b hl (Ne.symm hb.1.2)⟩))
      have HBt:=zh (((Blk.new wb (zaa tb vb) 36).alloc (.cells (zaa tr vr).toArray 36)).grown hg8 (fun e=>by have:=hown _ e.symm;omega))
      clear ha1 hK8 hg8 hb8 n4
      go_wp2_with (first|((with_reducible refine zqa 36 (.tmp 13) ?_);refine zfa rfl 36 (.tmp 13) rfl wb.heap.size tb vb rfl (HBt.out.setOther ⟨w1.heap.size,4,none⟩ _ (by show _≠w1.heap.size;omega)) Tryz.underlying36 rfl Tryz.zha ?_)|(at_builtin;refine zxa rfl (.tmp 85) (.tmp 87) rfl I (ks:=ks++[tr]) (ts:=[tb]) (S:=fun b=>w.heap.size<b∧b≠w1.heap.size) rfl (RL8.out.alloc _).kids (us:=[vb]) (zGb.single ?c1) ?c2 rfl rfl (by simp) (zDd _ (by simp) _ _ _) ?c3 ?_))
      case c1=>exact TAt.zHa ((HVb8.out.setCell ⟨w1.heap.size,4,none⟩ _ (fun b hb=>hb.1.2)).alloc _)
      case c2=>simp only [World.size_alloc,World.size_setCell];omega
      case c3=>simp;omega
      intro v9 w9 hK9 hg9 hb9
      obtain ⟨sb',sm,se,rfl⟩:=hK9.slice
      obtain ⟨hc1,hc2,hc3,hc4⟩:=(RL8.out.alloc _).after hK9 hg9
      have RL9:=zh hc1
      clear hc1 hK9 hg9 hb9 ha2 ha3
      obtain ⟨old,hold,hol⟩:=RL9.out.res
      have HOLD:=zh hold
      clear hold
      go_wp2_with (first|((with_reducible refine zqa 36 (.tmp 5) ?_);refine zfa rfl 36 (.tmp 5) rfl w1.heap.size (T.mk 6 sa na p (ks++[tr]++[tb])) (.slice sb' sm se) rfl RL9.out.blk Tryz.underlying36 rfl Tryz.zha ?_)|((with_reducible refine zla 36 (.tmp 4) ?_);refine zda rfl 36 (.tmp 4) (.tmp 90) rfl w.heap.size (zaa (T.mk 6 sa na p (ks++[tr]++[tb])) (.slice sb' sm se)) rfl rfl HOLD.out Tryz.zha (by rw [hol];rfl) (zca _ _ RL9.out.kids.one) ?_))
      exact zma (cs:=zaa (T.mk 6 sa na p (ks++[tr]++[tb])) (.slice sb' sm se)) Tryz.results19 rfl HOLD.out Tryz.underlying36 rfl Tryz.zha rfl (RL9.out.tot (by rw [zXb];simp;omega) (by
       rw [zut]
       show zCa _ _ _ _ (T.mk 6 sa na p (ks++[tr,tb])) _ _ _
       exact HS1.out.andThen (HS2.out.andThen (HSF.out.andThen (HSR.out.andThen (HSB.out.andThen (zCa.done _ _ _ _)))))))
     | false =>
      have hi12:isT (hdT lc.tail) (bs [38])=false:=by rw [hf11] at hc12;simpa using hc12
      go_wp2_with fail
      refine (zni RL12.out.st).mono ?_
      rintro e wm ⟨tr,vr,lr,fr,qr,rfl,hkr,hnr,hsr,hpr,hseer⟩
      have HSR:Hid (zCa lc fc qc (zAc lc) tr lr fr qr):=zh (by
       unfold zAc
       refine zCa.yes hi11 hf11 ?_
       rw [zqo hi12]
       exact hseer)
      have RLm0:=zh (RL12.out.call hpr hsr)
      have HBm0:=zh (HB12.out.kp hpr (by omega))
      have HKm0:=zh (HK12.out.kp hpr (fun b hb=>by omega))
      have hownr:∀ x,v.ownBlock=some x→x<wr.heap.size:=fun x e=>(HKm0.out.choose_spec.2.1 x e).2
      have HVr:=zh (show KAt 36 wm tr.kids (fun b=>((w.heap.size<b∧b≠w1.heap.size)∧v.ownBlock≠some b)∧b≠wr.heap.size) vr from hkr.mono (fun b hb _=>⟨⟨⟨by omega,by omega⟩,fun e=>by have:=hownr b e;omega⟩,by omega⟩))
      have RLm:=zh (RLm0.out.zhp wr.heap.size (by omega) (by omega) HKm0.out (zaa tr vr).toArray)
      have hzm:wr.heap.size<wm.heap.size:=HBm0.out.lt
      clear hkr hnr hsr hpr hseer
      unfold zna
      go_wp2_with ((with_reducible refine zla 36 (.tmp 10) ?_);refine zda rfl 36 (.tmp 10) (.tmp 75) rfl wr.heap.size (zaa tr vr) rfl rfl HBm0.out Tryz.zha rfl (zca _ _ HVr.out.one) ?_)
      refine (HBC.out _ _ _ _ RLm.out.st).mono ?_
      rintro e wb ⟨tb,vb,lb,fb,qb,rfl,hkb,hnb,hsb,hpb,hseeb⟩
      have RLb:=zh ((RLm.out).call hpb hsb)
      have HBb:=zh ((HBm0.out.zra (zaa tr vr)).kp hpb (by omega))
      have HVrb:=zh ((HVr.out.setRow wr.heap.size (zaa tr vr).toArray (fun b hb=>hb.2)).kp hpb (fun b hb=>by omega))
      have hown:∀ x,v.ownBlock=some x→x<wr.heap.size:=fun x e=>((HKm0.out).choose_spec.2.1 x e).2
      have HVb:=zh (show KAt 36 wb tb.kids (fun b=>((w.heap.size<b∧b≠w1.heap.size)∧v.ownBlock≠some b)∧b<wb.heap.size) vb from hkb.mono (fun b hb hl=>⟨⟨⟨by (try simp only [size_putRow] at hb);omega,by (try simp only [size_putRow] at hb);omega⟩,fun e=>by have:=hown b e;(try simp only [size_putRow] at hb);omega⟩,hl⟩))
      have HSB:=zh hseeb
      have hzb:wr.heap.size<wb.heap.size:=HBb.out.lt
      have n4:wb.cell? ⟨w1.heap.size,4,none⟩=some v:=RLb.out.blk.cell 4
      have hzb1:w1.heap.size<wb.heap.size:=by omega
      clear hkb hnb hsb hpb hseeb
      unfold zna
      go_wp2_with (first|((with_reducible refine zla 36 (.tmp 13) ?_);refine zga rfl 36 (.tmp 13) (.tmp 77) rfl (zaa tb vb) (old:=zba) rfl rfl Tryz.zha rfl (zca _ _ HVb.out.one) ?_)|((with_reducible refine zqa 36 (.tmp 10) ?_);refine zfa rfl 36 (.tmp 10) rfl wr.heap.size tr vr rfl (HBb.out.alloc _) Tryz.underlying36 rfl Tryz.zha ?_)|(at_builtin;refine zxa rfl (.tmp 79) (.tmp 81) rfl I (ks:=ks) (ts:=[tr]) (S:=fun b=>w.heap.size<b∧b≠w1.heap.size) rfl ((RLb.out.alloc _).alloc _).kids (us:=[vr]) (zGb.single ?c1) ?c2 rfl rfl (by simp) (zDd _ (by simp) _ _ _) ?c3 ?_))
      case c1=>exact TAt.zHa (((HVrb.out.mono (fun b hb _=>hb.1)).alloc _).alloc _)
      case c2=>simp only [World.size_alloc];omega
      case c3=>simp;omega
      intro v8 w8 hK8 hg8 hb8
      have hg8s:=hg8.size
      simp only [World.size_alloc] at hg8s
      obtain ⟨sa',sn,sc,rfl⟩:=hK8.slice
      obtain ⟨ha1,ha2,ha3,ha4⟩:=((RLb.out.alloc _).alloc _).after hK8 hg8
      have RL8:=zh ha1
      have HVb8:=zh (show KAt 36 w8 tb.kids (fun b=>(w.heap.size<b∧b≠w1.heap.size)∧(Value.slice sa' sn sc).ownBlock≠some b) vb from ((HVb.out.alloc _).alloc _).keep (fun b hb hl=>⟨⟨hb.1.1,fun e=>by
       rcases hb8 with h8|h8
       ·exact hb.1.2 (h8▸e)
       ·rw [h8] at e
        simp only [Option.some.injEq] at e
        omega⟩,hg8.block b hl (Ne.symm hb.1.2)⟩))
      have HBt:=zh (((Blk.new wb (zaa tb vb) 36).alloc (.cells (zaa tr vr).toArray 36)).grown hg8 (fun e=>by have:=hown _ e.symm;omega))
      clear ha1 hK8 hg8 hb8 n4
      go_wp2_with (first|((with_reducible refine zqa 36 (.tmp 13) ?_);refine zfa rfl 36 (.tmp 13) rfl wb.heap.size tb vb rfl (HBt.out.setOther ⟨w1.heap.size,4,none⟩ _ (by show _≠w1.heap.size;omega)) Tryz.underlying36 rfl Tryz.zha ?_)|(at_builtin;refine zxa rfl (.tmp 85) (.tmp 87) rfl I (ks:=ks++[tr]) (ts:=[tb]) (S:=fun b=>w.heap.size<b∧b≠w1.heap.size) rfl (RL8.out.alloc _).kids (us:=[vb]) (zGb.single ?c1) ?c2 rfl rfl (by simp) (zDd _ (by simp) _ _ _) ?c3 ?_))
      case c1=>exact TAt.zHa ((HVb8.out.setCell ⟨w1.heap.size,4,none⟩ _ (fun b hb=>hb.1.2)).alloc _)
      case c2=>simp only [World.size_alloc,World.size_setCell];omega
      case c3=>simp;omega
      intro v9 w9 hK9 hg9 hb9
      obtain ⟨sb',sm,se,rfl⟩:=hK9.slice
      obtain ⟨hc1,hc2,hc3,hc4⟩:=(RL8.out.alloc _).after hK9 hg9
      have RL9:=zh hc1
      clear hc1 hK9 hg9 hb9 ha2 ha3
      obtain ⟨old,hold,hol⟩:=RL9.out.res
      have HOLD:=zh hold
      clear hold
      go_wp2_with (first|((with_reducible refine zqa 36 (.tmp 5) ?_);refine zfa rfl 36 (.tmp 5) rfl w1.heap.size (T.mk 6 sa na p (ks++[tr]++[tb])) (.slice sb' sm se) rfl RL9.out.blk Tryz.underlying36 rfl Tryz.zha ?_)|((with_reducible refine zla 36 (.tmp 4) ?_);refine zda rfl 36 (.tmp 4) (.tmp 90) rfl w.heap.size (zaa (T.mk 6 sa na p (ks++[tr]++[tb])) (.slice sb' sm se)) rfl rfl HOLD.out Tryz.zha (by rw [hol];rfl) (zca _ _ RL9.out.kids.one) ?_))
      exact zma (cs:=zaa (T.mk 6 sa na p (ks++[tr]++[tb])) (.slice sb' sm se)) Tryz.results19 rfl HOLD.out Tryz.underlying36 rfl Tryz.zha rfl (RL9.out.tot (by rw [zXb];simp;omega) (by
       rw [zut]
       show zCa _ _ _ _ (T.mk 6 sa na p (ks++[tr,tb])) _ _ _
       exact HS1.out.andThen (HS2.out.andThen (HSF.out.andThen (HSR.out.andThen (HSB.out.andThen (zCa.done _ _ _ _)))))))
    ·have HSR:Hid (zCa l11 fc qc (zAc l11) (T.mk 8 e0 0 pl []) l11 fc qc):=zh (by
      unfold zAc
      rw [HP.out]
      exact zCa.no hx11 (zCa.done _ _ _ _))
     go_wp2_with fail
     refine (HBC.out _ _ _ _ RL11.out.st).mono ?_
     rintro e wb ⟨tb,vb,lb,fb,qb,rfl,hkb,hnb,hsb,hpb,hseeb⟩
     have RLb:=zh ((RL11.out).call hpb hsb)
     have HBb:=zh ((HB11.out).kp hpb (by omega))
     have HVrb:=zh ((KAt.nil 36 w11 (fun b=>((w.heap.size<b∧b≠w1.heap.size)∧v.ownBlock≠some b)∧b≠wr.heap.size)).kp hpb (fun b hb=>by omega))
     have hown:∀ x,v.ownBlock=some x→x<wr.heap.size:=fun x e=>((HK11.out).choose_spec.2.1 x e).2
     have HVb:=zh (show KAt 36 wb tb.kids (fun b=>((w.heap.size<b∧b≠w1.heap.size)∧v.ownBlock≠some b)∧b<wb.heap.size) vb from hkb.mono (fun b hb hl=>⟨⟨⟨by (try simp only [size_putRow] at hb);omega,by (try simp only [size_putRow] at hb);omega⟩,fun e=>by have:=hown b e;(try simp only [size_putRow] at hb);omega⟩,hl⟩))
     have HSB:=zh hseeb
     have hzb:wr.heap.size<wb.heap.size:=HBb.out.lt
     have n4:wb.cell? ⟨w1.heap.size,4,none⟩=some v:=RLb.out.blk.cell 4
     have hzb1:w1.heap.size<wb.heap.size:=by omega
     clear hkb hnb hsb hpb hseeb
     unfold zna
     go_wp2_with (first|((with_reducible refine zla 36 (.tmp 13) ?_);refine zga rfl 36 (.tmp 13) (.tmp 77) rfl (zaa tb vb) (old:=zba) rfl rfl Tryz.zha rfl (zca _ _ HVb.out.one) ?_)|((with_reducible refine zqa 36 (.tmp 10) ?_);refine zfa rfl 36 (.tmp 10) rfl wr.heap.size (T.mk 8 e0 0 pl []) (.slice none 0 0) rfl (HBb.out.alloc _) Tryz.underlying36 rfl Tryz.zha ?_)|(at_builtin;refine zxa rfl (.tmp 79) (.tmp 81) rfl I (ks:=ks) (ts:=[(T.mk 8 e0 0 pl [])]) (S:=fun b=>w.heap.size<b∧b≠w1.heap.size) rfl ((RLb.out.alloc _).alloc _).kids (us:=[(.slice none 0 0)]) (zGb.single ?c1) ?c2 rfl rfl (by simp) (zDd _ (by simp) _ _ _) ?c3 ?_))
     case c1=>exact TAt.zHa (((HVrb.out.mono (fun b hb _=>hb.1)).alloc _).alloc _)
     case c2=>simp only [World.size_alloc];omega
     case c3=>simp;omega
     intro v8 w8 hK8 hg8 hb8
     have hg8s:=hg8.size
     simp only [World.size_alloc] at hg8s
     obtain ⟨sa',sn,sc,rfl⟩:=hK8.slice
     obtain ⟨ha1,ha2,ha3,ha4⟩:=((RLb.out.alloc _).alloc _).after hK8 hg8
     have RL8:=zh ha1
     have HVb8:=zh (show KAt 36 w8 tb.kids (fun b=>(w.heap.size<b∧b≠w1.heap.size)∧(Value.slice sa' sn sc).ownBlock≠some b) vb from ((HVb.out.alloc _).alloc _).keep (fun b hb hl=>⟨⟨hb.1.1,fun e=>by
      rcases hb8 with h8|h8
      ·exact hb.1.2 (h8▸e)
      ·rw [h8] at e
       simp only [Option.some.injEq] at e
       omega⟩,hg8.block b hl (Ne.symm hb.1.2)⟩))
     have HBt:=zh (((Blk.new wb (zaa tb vb) 36).alloc (.cells (zaa (T.mk 8 e0 0 pl []) (.slice none 0 0)).toArray 36)).grown hg8 (fun e=>by have:=hown _ e.symm;omega))
     clear ha1 hK8 hg8 hb8 n4
     go_wp2_with (first|((with_reducible refine zqa 36 (.tmp 13) ?_);refine zfa rfl 36 (.tmp 13) rfl wb.heap.size tb vb rfl (HBt.out.setOther ⟨w1.heap.size,4,none⟩ _ (by show _≠w1.heap.size;omega)) Tryz.underlying36 rfl Tryz.zha ?_)|(at_builtin;refine zxa rfl (.tmp 85) (.tmp 87) rfl I (ks:=ks++[(T.mk 8 e0 0 pl [])]) (ts:=[tb]) (S:=fun b=>w.heap.size<b∧b≠w1.heap.size) rfl (RL8.out.alloc _).kids (us:=[vb]) (zGb.single ?c1) ?c2 rfl rfl (by simp) (zDd _ (by simp) _ _ _) ?c3 ?_))
     case c1=>exact TAt.zHa ((HVb8.out.setCell ⟨w1.heap.size,4,none⟩ _ (fun b hb=>hb.1.2)).alloc _)
     case c2=>simp only [World.size_alloc,World.size_setCell];omega
     case c3=>simp;omega
     intro v9 w9 hK9 hg9 hb9
     obtain ⟨sb',sm,se,rfl⟩:=hK9.slice
     obtain ⟨hc1,hc2,hc3,hc4⟩:=(RL8.out.alloc _).after hK9 hg9
     have RL9:=zh hc1
     clear hc1 hK9 hg9 hb9 ha2 ha3
     obtain ⟨old,hold,hol⟩:=RL9.out.res
     have HOLD:=zh hold
     clear hold
     go_wp2_with (first|((with_reducible refine zqa 36 (.tmp 5) ?_);refine zfa rfl 36 (.tmp 5) rfl w1.heap.size (T.mk 6 sa na p (ks++[(T.mk 8 e0 0 pl [])]++[tb])) (.slice sb' sm se) rfl RL9.out.blk Tryz.underlying36 rfl Tryz.zha ?_)|((with_reducible refine zla 36 (.tmp 4) ?_);refine zda rfl 36 (.tmp 4) (.tmp 90) rfl w.heap.size (zaa (T.mk 6 sa na p (ks++[(T.mk 8 e0 0 pl [])]++[tb])) (.slice sb' sm se)) rfl rfl HOLD.out Tryz.zha (by rw [hol];rfl) (zca _ _ RL9.out.kids.one) ?_))
     exact zma (cs:=zaa (T.mk 6 sa na p (ks++[(T.mk 8 e0 0 pl [])]++[tb])) (.slice sb' sm se)) Tryz.results19 rfl HOLD.out Tryz.underlying36 rfl Tryz.zha rfl (RL9.out.tot (by rw [zXb];simp;omega) (by
      rw [zut]
      show zCa _ _ _ _ (T.mk 6 sa na p (ks++[(T.mk 8 e0 0 pl []),tb])) _ _ _
      exact HS1.out.andThen (HS2.out.andThen (HSF.out.andThen (HSR.out.andThen (HSB.out.andThen (zCa.done _ _ _ _)))))))
end
section
open Go.RowKit
structure zFj (E:Env) (a W:World) (l:List Tok) (f:Int) (q g:Nat) (ks:List T) (v:Value):Prop where
 st:RSt E W l 0 f q
 kp:Kp E.pb a W
 blk:Blk W g (zaa (T.mk 0 e0 0 0 ks) v) 36
 kids:KAt 36 W ks (fun b=>g<b) v
 gt:a.heap.size≤g
 plt:E.pb<g
 tlt:E.tb<g
section
variable {E:Env} {a W W':World} {l l':List Tok} {f f':Int} {q q' g:Nat} {ks:List T} {v:Value}
theorem zFj.lt (h:zFj E a W l f q g ks v):g<W.heap.size:=h.blk.lt
theorem zFj.call (h:zFj E a W l f q g ks v) (hp:Kp E.pb W W') (hs:RSt E W' l' 0 f' q'):zFj E a W' l' f' q' g ks v:=by
 have h2:=h.plt
 exact ⟨hs,h.kp.trans hp,h.blk.kp hp (by omega),h.kids.kp hp (fun b hb=>by omega),h.gt,h.plt,h.tlt⟩
theorem zFj.alloc (h:zFj E a W l f q g ks v) (o:Obj):zFj E a (W.alloc o) l f q g ks v :=
 ⟨h.st.alloc o,h.kp.alloc o,h.blk.alloc o,h.kids.alloc o,h.gt,h.plt,h.tlt⟩
theorem zFj.draws (h:zFj E a W l f q g ks v) (n:Nat):zFj E a (W.drewN n) l f q g ks v :=
 ⟨h.st.same (Nat.le_refl _) rfl rfl,h.kp.draws n,h.blk,h.kids.keep fun _ hb _=>⟨hb,rfl⟩,h.gt,h.plt,h.tlt⟩
theorem zFj.own (h:zFj E a W l f q g ks v) (k:Nat) (hk:v.ownBlock=some k):k<W.heap.size∧g<k:=by
 obtain ⟨_,ho,hS,_⟩:=h.kids
 exact ⟨(ho.lt k hk).2,hS k hk⟩
theorem zFj.fresh (h:zFj E a W l f q g ks v) {js:List T} {x:Value} (hk:KAt 36 W' js (fun b=>W.heap.size≤b) x):KAt 36 W' js (fun b=>g<b∧v.ownBlock≠some b) x :=
 hk.mono fun b hb _=>by
  have h1:=h.lt
  refine ⟨by omega,fun hv=>?_⟩
  have:=(h.own b hv).1
  omega
theorem zFj.after (h:zFj E a W l f q g ks v) {js:List T} {v':Value} (hK:KAt 36 W' js (fun b=>g<b) v') (hg:W.grownBy W' v.ownBlock) :
  zFj E a (W'.setCell ⟨g,4,none⟩ v') l f q g js v'∧W'.cell? ⟨g,4,none⟩=some v∧W'.frozen? ⟨g,4,none⟩=false∧g<W'.heap.size:=by
 have h1:=h.gt
 have h2:=h.plt
 have h3:=h.tlt
 have hb:Blk W' g (zaa (T.mk 0 e0 0 0 ks) v) 36:=h.blk.grown hg (fun e=>by have:=(h.own g e.symm).2;omega)
 exact ⟨⟨(h.st.grown hg (fun k hk=>by have:=(h.own k hk).2;omega)).far _ _ (by show _≠g;omega) (by show _≠g;omega),(h.kp.grow hg (fun k hk=>by have:=(h.own k hk).2;omega)).zLc (p:=⟨g,4,none⟩) (by show _≤g;omega) _,hb.zNa 4 v',hK.setCell _ _ (fun b hb=>by show b≠g;omega),h.gt,h.plt,h.tlt⟩,hb.cell 4,hb.frozen 4,hb.lt⟩
end
def zqs (E:Env) (a:World) (g0:Nat) (g:Nat) (wr:World):Prop :=
 ∃ ks v lx fx qx,zFj E a wr lx fx qx g0 ks v∧ks.length+g≤16500 ∧
  ((fx == 0)=true→lx.length+1≤g∧∃ N,lx.length+1≤N∧∀ ys lf f' q',zCa lx fx qx (zQc N lx) ys lf f' q'→zCa E.ts 0 0 (zQc (E.ts.length+1) E.ts) (ks++ys) lf f' q') ∧
  ((fx == 0)=false→∀ ys,zCa E.ts 0 0 (zQc (E.ts.length+1) E.ts) ys lx fx qx)
theorem zyn {n:Nat} {l:List Tok} (hn:0<n) (h:((hdT l).kind == 0)=true):zQc n l=.ok ([],l):=by
 obtain ⟨m,rfl⟩:∃ m,n=m+1:=⟨n-1,by omega⟩
 unfold zQc
 rw [h,cond_true]
theorem zZr {n:Nat} {l:List Tok} (h:((hdT l).kind == 0)=false):zQc (n+1) l=bd (zfd l) fun a l1=>bd (zQc n l1) fun xs l2=>.ok (a :: xs,l2):=by
 conv=>lhs;unfold zQc
 rw [h,cond_false]
theorem zSi {l2 lx l5:List Tok} {q qx q5:Nat} {f5:Int} {N:Nat} {ks:List T} {t5:T} {tot:R (List T)} (hi:((hdT lx).kind == 0)=false) (hN:lx.length+1≤N) (h5:zCa lx 0 qx (zfd lx) t5 l5 f5 q5)
  (hsee:∀ ys lf f' q',zCa lx 0 qx (zQc N lx) ys lf f' q'→zCa l2 0 q tot (ks++ys) lf f' q') :
  ((f5 == 0)=true→l5.length+1≤lx.length∧∃ M,l5.length+1≤M∧∀ ys lf f' q',zCa l5 f5 q5 (zQc M l5) ys lf f' q'→zCa l2 0 q tot ((ks++[t5])++ys) lf f' q')∧((f5 == 0)=false→∀ ys,zCa l2 0 q tot ys l5 f5 q5):=by
 obtain ⟨M,rfl⟩:∃ M,N=M+1:=⟨N-1,by omega⟩
 have step:∀ ys lf f' q',zCa l5 f5 q5 (zQc M l5) ys lf f' q'→zCa lx 0 qx (zQc (M+1) lx) (t5 :: ys) lf f' q':=fun ys lf f' q' h=>by
  rw [zZr hi]
  exact h5.andThen (h.map (fun xs=>t5 :: xs))
 refine ⟨fun hf=>?_,fun hf ys=>?_⟩
 ·have hlt:l5.length+1≤lx.length:=by
   rcases h5 with ⟨_,⟨_,r1,rfl,rfl,rfl,n1⟩|⟨p,c,r1,rfl,rfl,hc⟩⟩|⟨e0,_⟩
   ·have h1:=zaq lx t5 l5 r1
    have h2:=zUm t5
    unfold Sz at h1
    omega
   ·rw [hf] at hc;cases hc
   ·cases e0
  refine ⟨hlt,M,by omega,fun ys lf f' q' h=>?_⟩
  have h1:=hsee _ _ _ _ (step ys lf f' q' h)
  rw [List.append_assoc]
  exact h1
 ·exact (hsee (t5 :: ys) l5 f5 q5 (step ys l5 f5 q5 (.inr ⟨hf,rfl,rfl,rfl⟩))).other hf
theorem keyFn:zOa (bs [102,110])=true:=by kernel_rfl
theorem keyType:zOa (bs [116,121,112,101])=true:=by kernel_rfl
theorem zBt {l:List Tok} (h:isT (hdT l) (bs [102,110])=true):zfd l=fnP (hdT l).place l.tail:=by
 have h1:isT (hdT l) (bs [116,121,112,101])=false:=zza h (by kernel_rfl)
 unfold zfd zsa
 simp [h,h1,bd]
theorem zpq {l:List Tok} (h:isT (hdT l) (bs [116,121,112,101])=true):zfd l=zdc (hdT l).place l.tail:=by
 unfold zfd zsa
 simp [h,bd]
theorem zFt {l:List Tok} (h:isT (hdT l) (bs [102,110])=false) (h1:isT (hdT l) (bs [116,121,112,101])=false):zfd l=.error ((hdT l).place,20):=by
 unfold zfd zsa
 simp [h,h1,bd]
end
section
open Go.RowKit
def hd0 (x:List UInt8):Int:=((x.getD 0 0).toNat:Int)
theorem zsl {x:List UInt8} (h:zSb.contains x=true):zqf (hd0 x)=true:=by
 have hm:x∈zSb:=by simpa using h
 have all:∀ y∈zSb,zqf (hd0 y)=true:=by decide +kernel
 exact all x hm
theorem zPm:∀ (l:List UInt8) (c:UInt8),¬ Lib.indexByte l c<0→c∈l
 | [],c,h=>by unfold Lib.indexByte at h;omega
 | b :: l,c,h=>by
  unfold Lib.indexByte at h
  by_cases hb:(b == c)=true
  ·rw [beq_iff_eq.1 hb]
   exact List.mem_cons_self
  ·rw [if_neg hb] at h
   refine List.mem_cons_of_mem _ (zPm l c fun hl=>h ?_)
   by_cases h1:(Lib.indexByte l c == -1)=true
   ·rw [if_pos h1];decide
   ·rw [if_neg h1]
    have:=Lib.indexByte_ge l c
    have h2:¬ Lib.indexByte l c=-1:=fun e=>h1 (by rw [e];rfl)
    omega
theorem zxf:∀ b:UInt8,zKc b=true→zqf (b.toNat:Int)=false∧zBd (b.toNat:Int)=false:=by
 intro b h
 have hm:b∈zLe:=by
  unfold zKc at h
  exact zPm _ _ (by simpa using h)
 have all:∀ y∈zLe,zqf (y.toNat:Int)=false∧zBd (y.toNat:Int)=false:=by decide +kernel
 exact all b hm
theorem ztj {x:List UInt8} (h:zBe x=true):zqf (hd0 x)=false∧zBd (hd0 x)=false:=by
 unfold zBe at h
 simp only [Bool.or_eq_true,beq_iff_eq] at h
 rcases h with (rfl|rfl)|rfl<;>exact ⟨by decide,by decide⟩
theorem zUe {s:ByteArray} (h:zOa s=true):zBd (hd0 s.data.toList)=false∧(zSb.contains s.data.toList=true∨zqf (hd0 s.data.toList)=false)∧0<s.size:=by
 unfold zOa at h
 simp only [Bool.or_eq_true,Bool.and_eq_true] at h
 rcases h with (h|h)|⟨h1,h2⟩
 ·refine ⟨?_,.inl h,?_⟩
  ·have:=zsl h
   unfold zqf zBd at *
   simp only [Bool.or_eq_true,Bool.and_eq_true,decide_eq_true_eq,beq_iff_eq] at this
   simp only [Bool.and_eq_false_iff,decide_eq_false_iff_not]
   omega
  ·have hm:s.data.toList∈zSb:=by simpa using h
   have all:∀ y∈zSb,0<y.length:=by decide +kernel
   have:=all _ hm
   simpa using this
 ·refine ⟨(ztj h).2,.inr (ztj h).1,?_⟩
  have:s.data.toList≠[]:=by
   intro e
   rw [e] at h
   cases h
  have:=List.length_pos_iff.2 this
  simpa using this
 ·exact ⟨(zxf _ h2).2,.inr (zxf _ h2).1,by have:=beq_iff_eq.1 h1;omega⟩
theorem ext_list (s:ByteArray) (k e:Nat):(s.extract k e).data.toList=(s.data.toList.drop k).take (e-k):=by
 rw [ByteArray.data_extract,Array.toList_extract]
theorem zui {s:ByteArray} {k e:Nat} (he:k<e):hd0 (s.extract k e).data.toList=((bat s k).toNat:Int):=by
 unfold hd0 bat
 rw [ext_list,List.getD_eq_getElem?_getD,List.getD_eq_getElem?_getD,List.getElem?_take_of_lt (by omega),List.getElem?_drop]
 rfl
def zGe (t:Tok):Prop:=(zSb.contains t.text.data.toList=true→t.kind=2)∧zTo t
theorem zGe.of {t:Tok} (h:t.kind=2∨(t.kind=4∧zqf (hd0 t.text.data.toList)=false)∨zBd (hd0 t.text.data.toList)=true∨t.text.size=0∨(zqf (hd0 t.text.data.toList)=true∧zSb.contains t.text.data.toList=false)):zGe t:=by
 rcases h with h|⟨h,hl⟩|h|h|⟨h,hk⟩
 ·exact ⟨fun _=>h,fun _=>.inl h⟩
 ·exact ⟨fun hk=>(by rw [zsl hk] at hl;cases hl),fun _=>.inr h⟩
 ·refine ⟨fun hk=>?_,fun hs=>?_⟩
  ·have:=(zUe (s:=t.text) (by unfold zOa;rw [hk];rfl)).1
   rw [h] at this
   cases this
  ·have:=(zUe hs).1
   rw [h] at this
   cases this
 ·refine ⟨fun hk=>?_,fun hs=>?_⟩
  ·have:=(zUe (s:=t.text) (by unfold zOa;rw [hk];rfl)).2.2
   omega
  ·have:=(zUe hs).2.2
   omega
 ·refine ⟨fun hk2=>(by rw [hk] at hk2;cases hk2),fun hs=>?_⟩
  rcases (zUe hs).2.1 with h1|h1
  ·rw [hk] at h1;cases h1
  ·rw [h] at h1;cases h1
theorem zCk (n k:Nat):zGe ⟨4,zqc (2-n),0,k⟩:=by
 refine zGe.of (.inr (.inl ⟨rfl,?_⟩))
 show zqf (hd0 (zqc (2-n)).data.toList)=false
 match n with
 | 0=>decide
 | 1=>decide
 | n+2=>rw [show 2-(n+2)=0 by omega];decide
theorem zwo {s:ByteArray} {k:Nat} {t:Tok} (hk:k<s.size) (h:zpd s k=.ok t):zGe t:=by
 have hs:∀ n,zbb s k n=.ok t→zGe t:=by
  intro n
  induction n with
  | zero =>
   unfold zbb zMe
   split
   ·rename_i h1
    intro h
    cases h
    refine zGe.of (.inr (.inl ⟨rfl,?_⟩))
    show zqf (hd0 (s.extract k (k+1)).data.toList)=false
    rw [zui (by omega)]
    exact (zxf _ h1).1
   ·intro h;cases h
  | succ n ih =>
   unfold zbb
   split
   ·intro h
    cases h
    exact zCk n k
   ·exact ih
 unfold zpd at h
 split at h
 ·rename_i hl
  have hz:=zbi hk hl h
  unfold zLb at h
  split at h
  ·cases h
  ·split at h
   ·cases h
    exact zGe.of (.inl rfl)
   ·rename_i hkey
    cases h
    have h1:=hz.1
    have hle:endOf zxe s k≤s.size:=zUc zxe s k (by omega)
    rw [show (⟨1,s.extract k (endOf zxe s k),0,k⟩:Tok).text=s.extract k (endOf zxe s k) from rfl,zJc s k (endOf zxe s k) hle] at h1
    refine zGe.of (.inr (.inr (.inr (.inr ⟨?_,?_⟩))))
    ·show zqf (hd0 (s.extract k (endOf zxe s k)).data.toList)=true
     rw [zui (by omega)]
     exact hl
    ·have h2:zne (s.extract k (endOf zxe s k))=false:=by simpa using hkey
     unfold zne zOe at h2
     simpa using h2
 ·split at h
  ·rename_i hd
   have hend:k+1≤endOf zBd s k:=by
    rw [zxc hk (by rw [← zUb s k hk];exact hd)]
    exact zee _ _ _
   unfold zSc at h
   split at h
   ·cases h
   ·cases h
    refine zGe.of (.inr (.inr (.inl ?_)))
    show zBd (hd0 (s.extract k (endOf zBd s k)).data.toList)=true
    rw [zui (by omega)]
    exact hd
  ·exact hs 3 h
theorem zYi {s:ByteArray}:∀ k,∀ ts,lexFrom s k=.ok ts→∀ t∈ts,zGe t:=by
 apply zok (P:=fun k r=>∀ ts,r=.ok ts→∀ t∈ts,zGe t)
 ·intro k _ ts h t ht
  cases h
  obtain rfl:t=zQe s:=by simpa using ht
  exact zGe.of (.inr (.inr (.inr (.inl rfl))))
 ·intro k _ _ ih;exact ih
 ·intro k _ _ ih;exact ih
 ·intro k e _ _ _ _ ts h;cases h
 ·intro k t hk _ _ ht ih ts h
  cases hr:lexFrom s (k+t.text.size) with
  | error e=>rw [hr] at h;cases h
  | ok ts' =>
   rw [hr] at h
   cases h
   intro u hu
   rcases List.mem_cons.1 hu with rfl|hu
   ·exact zwo hk ht
   ·exact ih ts' hr u hu
theorem zek {s:ByteArray} {ts:List Tok} (h:zZb s=.ok ts):∀ t∈ts,zGe t:=by
 unfold zZb at h
 split at h
 ·cases h
 ·exact zYi 0 ts h
end
end Go.Proofs.YtpjnpffcnmgdcaaGreatDoor
