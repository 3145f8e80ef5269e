/- Towards the contract of syntax.Parse in a world that holds the tables of lex: it answers what the plain reader does, in new memory, and changes nothing that was there. syntax.Parse where the tokens have a fault. syntax.Parse where the tokens are read. The contract of syntax.Parse in a world that holds the tables of lex: it answers what the plain reader does, in new memory, and changes nothing that was there. -/
import Derived.Test.YtbfgdpcgdmabpaaGreatDoorZ13
import Derived.Test.YtbfgdpcgdmabpaaGreatDoorZ03
import Derived.Test.YtbfgdpcgdmabpaaGreatDoorZ01
import Derived.Test.YtbfgdpcgdmabpaaGreatDoorZ04
import Derived.Test.YtbfgdpcgdmabpaaGreatDoorZ02
namespace Go.Proofs.YtbfgdpcgdmabpaaGreatDoor
set_option maxRecDepth 100000
set_option maxHeartbeats 2000000
open Go.RowKit
theorem zgl {s:ByteArray} {k:Nat} {t:Tok} (h:zjd s k=.ok t):t.kind≠0∧t.num≤1099511627776∧t.place=k:=by
 have hs:∀ n,zjb s k n=.ok t→t.kind≠0∧t.num≤1099511627776∧t.place=k:=by
  intro n
  induction n with
  | zero =>
   unfold zjb zze
   split
   ·intro h;cases h;exact ⟨by simp,by simp,rfl⟩
   ·intro h;cases h
  | succ n ih =>
   unfold zjb
   split
   ·intro h;cases h;exact ⟨by simp,by simp,rfl⟩
   ·exact ih
 unfold zjd at h
 split at h
 ·unfold zlc at h
  split at h
  ·cases h
  ·split at h<;>cases h<;>exact ⟨by simp,by simp,rfl⟩
 ·split at h
  ·unfold zid at h
   split at h
   ·cases h
   ·rename_i hc
    cases h
    exact ⟨by simp,by simp only;omega,rfl⟩
  ·exact hs 3 h
theorem zqj {s:ByteArray} (hs:s.size≤16384):∀ k,k≤s.size→∀ ts,lexFrom s k=.ok ts→Ends ts∧(∀ t∈ts,zok t)∧ts.length+k≤s.size+1:=by
 apply zdk (P:=fun k r=>k≤s.size→∀ ts,r=.ok ts→Ends ts∧(∀ t∈ts,zok t)∧ts.length+k≤s.size+1)
 ·intro k _ hk ts h
  cases h
  refine ⟨.inl ⟨rfl,rfl,rfl⟩,fun t ht=>?_,by simp;omega⟩
  obtain rfl:t=zrf s:=by simpa using ht
  exact ⟨by simp [zrf],hs,by show (0:Nat)≤_;omega⟩
 ·intro k hk _ ih _ ts h
  obtain ⟨h1,h2,h3⟩:=ih (by omega) ts h
  exact ⟨h1,h2,by omega⟩
 ·intro k hk hb ih _ ts h
  have hg:=zse hk hb
  obtain ⟨h1,h2,h3⟩:=ih (zSd zil s k (by omega)) ts h
  exact ⟨h1,h2,by omega⟩
 ·intro k e _ _ _ _ _ ts h;cases h
 ·intro k t hk _ _ ht ih _ ts h
  have hz:=zYd hk ht
  have hg:=zgl ht
  cases hr:lexFrom s (k+t.text.size) with
  | error e=>rw [hr] at h;cases h
  | ok ts' =>
   rw [hr] at h
   cases h
   obtain ⟨h1,h2,h3⟩:=ih hz.2 ts' hr
   refine ⟨.inr ⟨hg.1,h1⟩,fun u hu=>?_,by simp;omega⟩
   rcases List.mem_cons.1 hu with rfl|hu
   ·exact ⟨hg.2.1,by rw [hg.2.2];omega,by omega⟩
   ·exact h2 u hu
theorem zff {s:ByteArray} {ts:List Tok} (h:zJc s=.ok ts):Ends ts∧(∀ t∈ts,zok t)∧ts.length≤16385:=by
 unfold zJc at h
 split at h
 ·cases h
 ·obtain ⟨h1,h2,h3⟩:=zqj (by omega) 0 (by omega) ts h
  exact ⟨h1,h2,by omega⟩
theorem zDj {s:ByteArray} {p:Nat} {c:Int} (h:zJc s=.error (p,c)):10≤c∧c≤13:=by
 unfold zJc at h
 split at h
 ·cases h;decide
 ·obtain ⟨_,_,_,_,h1⟩:=zsn 0 h
  have:=zVi h1
  omega
def zwf (r:T × Nat × Int) (w:World) (e:Ending) (w':World):Prop :=
 ∃ kv,e=.returned (.tuple #[zKa r.1 kv,.int .i64 r.2.1,.int .i64 r.2.2])∧KAt 25 w' r.1.kids (fun b=>w.heap.size≤b) kv∧Below w.heap.size w w'
theorem zCg {P:Program} {fn:Func} {s u z:Tmp} {ty t:TypeId} (h:fn.results=#[.cell s ty,.tmp u,.tmp z]) {a:Act} {W:World} {g:Nat} {cs:List Value} {d:TypeDesc} {R:Ending→World→Prop} {x y:Value} (hs:a.tmps.getD s undef=.pointer (some ⟨g,0,none⟩))
  (hb:Blk W g cs t) (hu:P.underlying ty=some d) (hd:d.isRow=true) (hi:(P.info? ty).map (·.size)=some cs.length) (hx:a.tmps.getD u undef=x) (hy:a.tmps.getD z undef=y) (hdf:a.defers=[]) (hR:R (.returned (.tuple #[.agg cs.toArray,x,y])) W) :
  bodyPost P fn R .ret a W:=by
 refine bodyPost_ret ?_ hdf hR
 have hl:=run_loadVar_mid (P:=P) W g 0 ty cs d (fun j v hj=>by rw [Nat.zero_add,hb.cell j];exact hj) hu hd hi
 have hs':a.tmps[s]?.getD undef=.pointer (some ⟨g,0,none⟩):=by rw [← hs];simp
 have hx':a.tmps[u]?.getD undef=x:=by rw [← hx];simp
 have hy':a.tmps[z]?.getD undef=y:=by rw [← hy];simp
 simp [results,h,hs',asAddr,hl,hx',hy']
theorem below_setRow {B:Nat} {w W:World} (hb:Below B w W) {g:Nat} (hg:B≤g) (cs:Array Value):Below B w (W.setRow g cs) :=
 ⟨hb.os,hb.tape,hb.output,by simpa using hb.size,fun k hk=>(setRow_other W g k cs (by omega)).trans (hb.block k hk)⟩
theorem zIm (s:ByteArray) (w:World) (hs:s.size≤maxLen) (ht:Tabs w) {p:Nat} {c:Int} (hr:zJc s=.error (p,c)) :
  Calls Tryz.prog 7 #[.string s] w (zwf (zqb s) w):=by
 have HTA:=zh (ht.alloc (o:=.cells zba.toArray 25))
 have HS:=zh hs
 clear ht hs
 go_enter Tryz.func7,Tryz.ntmps7
 go_wp2_with fail
 refine (zcg s _ HS.out HTA.out).mono ?_
 intro e w1 hp
 rw [hr] at hp
 obtain ⟨rfl,hb⟩:=hp
 have hcd:=zDj hr
 have hne:(c != 0)=true:=by rw [bne_iff_ne];omega
 have HP:=zh (show zqb s=(zRb,p,c) by unfold zqb;rw [hr])
 have HB:=zh ((Blk.new w zba 25).kp (Kp.of_below (pb:=w.heap.size+1) hb) (by omega))
 have HW:=zh (((Below.refl w.heap.size w).alloc (Nat.le_refl _) _).trans (hb.mono (by simp)))
 clear hb hr hcd
 go_wp2_with ((with_reducible refine zDa 25 (.tmp 2) ?_);refine zca rfl 25 (.tmp 2) (.tmp 18) rfl w.heap.size (zaa zRb (.slice none 0 0)) rfl rfl HB.out Tryz.zda rfl (zea _ _ rfl) ?_)
 refine zCg (cs:=zaa zRb (.slice none 0 0)) Tryz.results7 rfl (HB.out.zac _) Tryz.underlying25 rfl Tryz.zda rfl rfl rfl ?_
 rw [HP.out]
 exact ⟨.slice none 0 0,rfl,KAt.nil _ _ _,below_setRow HW.out (Nat.le_refl _) _⟩
theorem zen {P:Program} {ops:Array Oper} {Q:Exit→Act→World→Prop} {l:List Oper} {a:Act} (W:World) (h:wpList P ops Q l a W):wpList P ops Q l a W:=h
theorem zGn (s:ByteArray) (w:World) (hs:s.size≤maxLen) (ht:Tabs w) {ts:List Tok} {p:Nat} {c:Int} (hr:zJc s=.ok ts) (hu:zwd ts=.error (p,c)) :
  Calls Tryz.prog 7 #[.string s] w (zwf (zqb s) w):=by
 have HTA:=zh (ht.alloc (o:=.cells zba.toArray 25))
 have HS:=zh hs
 clear ht hs
 go_enter Tryz.func7,Tryz.ntmps7
 go_wp2_with fail
 refine (zcg s _ HS.out HTA.out).mono ?_
 intro e w1 hp
 rw [hr] at hp
 obtain ⟨v,rfl,hown,hb⟩:=hp
 obtain ⟨hE,hok,hlen⟩:=zff hr
 have hn:0<ts.length:=by obtain ⟨t,r,rfl⟩:=hE.ne;simp
 obtain ⟨g,cap,rfl,hg1,hg2,hcap,hrow⟩:=zSh hown hn
 have HTK:=zh (show Toks w1 g cap ts from ⟨hrow,hg2,hE,hok,hlen,hcap⟩)
 have HB:=zh ((Blk.new w zba 25).kp (Kp.of_below (pb:=w.heap.size+1) hb) (by omega))
 have HW:=zh (((Below.refl w.heap.size w).alloc (Nat.le_refl _) _).trans (hb.mono (by simp)))
 have HPB:=zh (show zqb s=zoc ts by unfold zqb;rw [hr])
 have HLEN:=zh hlen
 clear hb hr hE hok hlen hn hown hrow hg1 hg2 hcap
 go_wp2_with fail
 refine (zsk HTK.out).mono ?_
 intro e w2 hp
 rw [hu] at hp
 obtain ⟨rfl,hb,hcd⟩:=hp
 have hne:(c != 0)=true:=by rw [bne_iff_ne];omega
 have HP:=zh (show zqb s=(zRb,p,c) by rw [HPB.out];unfold zoc;rw [hu])
 have HB2:=zh (HB.out.kp (Kp.of_below (pb:=w.heap.size+1) hb) (by omega))
 have HW2:=zh (HW.out.trans (hb.mono HW.out.size))
 have hz2:=HB2.out.lt
 clear hb hu hcd
 have HT:=zh ((KAt.nil 25 w2 (fun b=>w.heap.size<b∧b<w2.heap.size)).tat 0 e0 0 0)
 unfold zKa
 go_wp2_with (first
  | ((with_reducible refine zDa 25 (.tmp 8) ?_);refine zca rfl 25 (.tmp 8) (.tmp 24) rfl w2.heap.size (zaa (zRb) (.slice none 0 0)) rfl rfl ((Blk.new w2 zba 25).alloc _) Tryz.zda rfl (zea _ _ rfl) ?_)
  | (
    (with_reducible refine zDa 64 (.tmp 9) ?_);refine zca rfl 64 (.tmp 9) (.tmp 25) rfl (w2.heap.size+1) [.int .i64 p,.int .i64 c] rfl rfl ((Blk.zDd w2 (.cells zba.toArray 25) [.int .i64 0,.int .i64 0] 64).zcb w2.heap.size _ (by omega)) Tryz.zXd rfl (by simp [Value.oneCell']) ?_;
    have HBy:=zh ((((HB2.out.alloc (.cells zba.toArray 25)).alloc (.cells #[.int .i64 0,.int .i64 0] 64)).zcb w2.heap.size (zaa (zRb) (.slice none 0 0)).toArray (by omega)).zcb (w2.heap.size+1) ([.int .i64 p,.int .i64 c]).toArray (by omega));
    have HNy:=zh ((((Blk.new w2 zba 25).alloc (.cells #[.int .i64 0,.int .i64 0] 64)).zac (zaa (zRb) (.slice none 0 0))).zcb (w2.heap.size+1) ([.int .i64 p,.int .i64 c]).toArray (by omega));
    have HFy:=zh (((Blk.zDd w2 (.cells zba.toArray 25) [.int .i64 0,.int .i64 0] 64).zcb w2.heap.size (zaa (zRb) (.slice none 0 0)).toArray (by omega)).zac [.int .i64 p,.int .i64 c]);
    have HWy:=zh (below_setRow (g:=w2.heap.size+1) (below_setRow (g:=w2.heap.size) ((HW2.out.alloc HW2.out.size (.cells zba.toArray 25)).alloc (by simp;omega) (.cells #[.int .i64 0,.int .i64 0] 64)) (by omega) (zaa (zRb) (.slice none 0 0)).toArray) (by omega) ([.int .i64 p,.int .i64 c]).toArray);
    have HTy:Hid (TAt 25 _ (zRb) (fun b=>w.heap.size<b∧b<w2.heap.size) (.slice none 0 0)):=((((HT.out.alloc (.cells zba.toArray 25)).alloc (.cells #[.int .i64 0,.int .i64 0] 64)).setRow w2.heap.size (zaa (zRb) (.slice none 0 0)).toArray (fun b hb=>by omega)).setRow (w2.heap.size+1) ([.int .i64 p,.int .i64 c]).toArray (fun b hb=>by omega));
    refine zen ((((w2.alloc (.cells zba.toArray 25)).alloc (.cells #[.int .i64 0,.int .i64 0] 64)).setRow w2.heap.size (zaa (zRb) (.slice none 0 0)).toArray).setRow (w2.heap.size+1) ([.int .i64 p,.int .i64 c]).toArray) ?_;generalize (((w2.alloc (.cells zba.toArray 25)).alloc (.cells #[.int .i64 0,.int .i64 0] 64)).setRow w2.heap.size (zaa (zRb) (.slice none 0 0)).toArray).setRow (w2.heap.size+1) ([.int .i64 p,.int .i64 c]).toArray=wy at HBy HNy HFy HWy HTy ⊢;
    have hcF:wy.cell? ⟨w2.heap.size+1,1,none⟩=some (.int .i64 c):=HFy.out.cell 1;have hzy:=HFy.out.lt))
 refine AnyE.zhc (S:=fun W=>Blk W (w2.heap.size+1) [.int .i64 p,.int .i64 c] 64) (by kernel_rfl) HFy.out.drew (fun hS=>?_)
 refine AnyE.take (i:=1) (v:=.pointer (some ⟨w2.heap.size+1,0,none⟩)) rfl (by kernel_rfl) (by kernel_rfl) (by kernel_rfl) (by kernel_rfl) (fun _ _ _ h=>h) (Or.inl ⟨by rfl,fun W _=>by go_simp⟩) hS ?_
 refine AnyE.take (i:=2) (v:=.int .i64 p) rfl (by kernel_rfl) (by kernel_rfl) (by kernel_rfl) (by kernel_rfl) (fun _ _ _ h=>h) (Or.inl ⟨by rfl,fun W hW=>by have hcx:W.cell? ⟨w2.heap.size+1,0,none⟩=some (.int .i64 p):=hW.cell 0;go_simp⟩) hS ?_
 refine AnyE.take (i:=3) (v:=.pointer (some ⟨w2.heap.size+1,1,none⟩)) rfl (by kernel_rfl) (by kernel_rfl) (by kernel_rfl) (by kernel_rfl) (fun _ _ _ h=>h) (Or.inl ⟨by rfl,fun W _=>by go_simp⟩) hS ?_
 refine AnyE.take (i:=4) (v:=.int .i64 c) rfl (by kernel_rfl) (by kernel_rfl) (by kernel_rfl) (by kernel_rfl) (fun _ _ _ h=>h) (Or.inl ⟨by rfl,fun W hW=>by have hcx:W.cell? ⟨w2.heap.size+1,1,none⟩=some (.int .i64 c):=hW.cell 1;go_simp⟩) hS ?_
 refine AnyE.one (i:=0) (by kernel_rfl) rfl (by rfl) (fun K hK=>?_)
 go_simp
 refine hK.out _ _ (fun _=>HFy.out.drew) ?_
 clear hK K
 refine AnyE.one (i:=5) (by kernel_rfl) rfl (by rfl) (fun K hK=>?_)
 refine zKb 25 (.tmp 2) (.tmp 30) rfl w.heap.size (zaa zRb (.slice none 0 0)) rfl rfl HBy.out.drew Tryz.zda rfl (zea _ _ rfl) ?_
 refine hK.out _ _ (fun _=>HFy.out.drew.zcb w.heap.size _ (by omega)) ?_
 clear hK K
 refine AnyE.one (i:=6) (by kernel_rfl) rfl (by rfl) (fun K hK=>?_)
 go_simp
 refine hK.out _ _ (fun _=>HFy.out.drew.zcb w.heap.size _ (by omega)) ?_
 clear hK K
 refine AnyE.one (i:=7) (by kernel_rfl) rfl (by rfl) (fun K hK=>?_)
 go_simp
 refine hK.out _ _ (fun h=>absurd rfl h) ?_
 clear hK K
 refine AnyE.done (by kernel_rfl) ?_ _
 go_wp2
 refine zCg (cs:=zaa zRb (.slice none 0 0)) Tryz.results7 rfl (HBy.out.drew.zac _) Tryz.underlying25 rfl Tryz.zda rfl rfl rfl ?_
 rw [HP.out]
 exact ⟨.slice none 0 0,rfl,KAt.nil _ _ _,below_setRow HWy.out.drew (Nat.le_refl _) _⟩
theorem zvo {P:Program} {ops:Array Oper} {Q:Exit→Act→World→Prop} {l:List Oper} {a:Act} (W:World) (h:wpList P ops Q l a W):wpList P ops Q l a W:=h
theorem zpo (s:ByteArray) (w:World) (hs:s.size≤maxLen) (ht:Tabs w) {ts l':List Tok} {t:T} (hr:zJc s=.ok ts) (hu:zwd ts=.ok (t,l')) :
  Calls Tryz.prog 7 #[.string s] w (zwf (zqb s) w):=by
 have HTA:=zh (ht.alloc (o:=.cells zba.toArray 25))
 have HS:=zh hs
 clear ht hs
 go_enter Tryz.func7,Tryz.ntmps7
 go_wp2_with fail
 refine (zcg s _ HS.out HTA.out).mono ?_
 intro e w1 hp
 rw [hr] at hp
 obtain ⟨v,rfl,hown,hb⟩:=hp
 obtain ⟨hE,hok,hlen⟩:=zff hr
 have hn:0<ts.length:=by obtain ⟨t,r,rfl⟩:=hE.ne;simp
 obtain ⟨g,cap,rfl,hg1,hg2,hcap,hrow⟩:=zSh hown hn
 have HTK:=zh (show Toks w1 g cap ts from ⟨hrow,hg2,hE,hok,hlen,hcap⟩)
 have HB:=zh ((Blk.new w zba 25).kp (Kp.of_below (pb:=w.heap.size+1) hb) (by omega))
 have HW:=zh (((Below.refl w.heap.size w).alloc (Nat.le_refl _) _).trans (hb.mono (by simp)))
 have HPB:=zh (show zqb s=zoc ts by unfold zqb;rw [hr])
 have HLEN:=zh hlen
 clear hb hr hE hok hlen hn hown hrow hg1 hg2 hcap
 go_wp2_with fail
 refine (zsk HTK.out).mono ?_
 intro e w2 hp
 rw [hu] at hp
 obtain ⟨kv,rfl,hT,hb⟩:=hp
 have hsz:=zzr hu
 have hsz2:t.size≤1000000:=by have:=HLEN.out;omega
 have HB2:=zh (HB.out.kp (Kp.of_below (pb:=w.heap.size+1) hb) (by omega))
 have HW2:=zh (HW.out.trans (hb.mono HW.out.size))
 have hz2:=HB2.out.lt
 have hz1:=HB.out.lt
 have HT:=zh (hT.mono (S':=fun b=>w.heap.size<b∧b<w2.heap.size) (fun b hb hl=>⟨by omega,hl⟩))
 have HP0:=zh (show zqb s=if 4096<t.size then (zRb,0,22) else (t,0,0) by rw [HPB.out];unfold zoc;rw [hu])
 clear hb hu hT hsz
 unfold zKa
 go_wp2_with (first
  | ((with_reducible refine zDa 25 (.tmp 8) ?_);refine zca rfl 25 (.tmp 8) (.tmp 24) rfl w2.heap.size (zaa (t) (kv)) rfl rfl ((Blk.new w2 zba 25).alloc _) Tryz.zda rfl (zea _ _ HT.out.kat.one) ?_)
  | (
    (with_reducible refine zDa 64 (.tmp 9) ?_);refine zca rfl 64 (.tmp 9) (.tmp 25) rfl (w2.heap.size+1) [.int .i64 0,.int .i64 0] rfl rfl ((Blk.zDd w2 (.cells zba.toArray 25) [.int .i64 0,.int .i64 0] 64).zcb w2.heap.size _ (by omega)) Tryz.zXd rfl (by simp [Value.oneCell']) ?_;
    have HBy:=zh ((((HB2.out.alloc (.cells zba.toArray 25)).alloc (.cells #[.int .i64 0,.int .i64 0] 64)).zcb w2.heap.size (zaa (t) (kv)).toArray (by omega)).zcb (w2.heap.size+1) ([.int .i64 0,.int .i64 0]).toArray (by omega));
    have HNy:=zh ((((Blk.new w2 zba 25).alloc (.cells #[.int .i64 0,.int .i64 0] 64)).zac (zaa (t) (kv))).zcb (w2.heap.size+1) ([.int .i64 0,.int .i64 0]).toArray (by omega));
    have HFy:=zh (((Blk.zDd w2 (.cells zba.toArray 25) [.int .i64 0,.int .i64 0] 64).zcb w2.heap.size (zaa (t) (kv)).toArray (by omega)).zac [.int .i64 0,.int .i64 0]);
    have HWy:=zh (below_setRow (g:=w2.heap.size+1) (below_setRow (g:=w2.heap.size) ((HW2.out.alloc HW2.out.size (.cells zba.toArray 25)).alloc (by simp;omega) (.cells #[.int .i64 0,.int .i64 0] 64)) (by omega) (zaa (t) (kv)).toArray) (by omega) ([.int .i64 0,.int .i64 0]).toArray);
    have HTy:Hid (TAt 25 _ (t) (fun b=>w.heap.size<b∧b<w2.heap.size) (kv)):=((((HT.out.alloc (.cells zba.toArray 25)).alloc (.cells #[.int .i64 0,.int .i64 0] 64)).setRow w2.heap.size (zaa (t) (kv)).toArray (fun b hb=>by omega)).setRow (w2.heap.size+1) ([.int .i64 0,.int .i64 0]).toArray (fun b hb=>by omega));
    refine zvo ((((w2.alloc (.cells zba.toArray 25)).alloc (.cells #[.int .i64 0,.int .i64 0] 64)).setRow w2.heap.size (zaa (t) (kv)).toArray).setRow (w2.heap.size+1) ([.int .i64 0,.int .i64 0]).toArray) ?_;generalize (((w2.alloc (.cells zba.toArray 25)).alloc (.cells #[.int .i64 0,.int .i64 0] 64)).setRow w2.heap.size (zaa (t) (kv)).toArray).setRow (w2.heap.size+1) ([.int .i64 0,.int .i64 0]).toArray=wy at HBy HNy HFy HWy HTy ⊢;
    have hcF:wy.cell? ⟨w2.heap.size+1,1,none⟩=some (.int .i64 0):=HFy.out.cell 1;have hzy:=HFy.out.lt)
  | ((with_reducible refine zdb 25 (.tmp 8) ?_);refine zga rfl 25 (.tmp 8) rfl w2.heap.size (zaa t kv) rfl HNy.out Tryz.underlying25 rfl Tryz.zda ?_))
 refine (size_any t.size t (Nat.le_refl _) HTy.out.kat hsz2).mono ?_
 rintro e w3 ⟨rfl,hb3⟩
 have HB3:=zh (HBy.out.kp (Kp.of_below (pb:=w3.heap.size) hb3) (by have:=HBy.out.lt;have:=hb3.size;omega))
 have HN3:=zh (HNy.out.kp (Kp.of_below (pb:=w3.heap.size) hb3) (by have:=HNy.out.lt;have:=hb3.size;omega))
 have HW3:=zh (HWy.out.trans (hb3.mono HWy.out.size))
 have HT3:=zh (HTy.out.below hb3)
 clear hb3
 by_cases hgt:4096<t.size
 ·have hgt':decide ((t.size:Int) > 4096)=true:=by simp;omega
  have hgt2:(4096:Int)<(t.size:Int):=by omega
  have HP:=zh (show zqb s=(zRb,0,22) by rw [HP0.out,if_pos hgt])
  clear hgt
  go_wp2_with ((with_reducible refine zDa 25 (.tmp 2) ?_);refine zca rfl 25 (.tmp 2) (.tmp 39) rfl w.heap.size (zaa zRb (.slice none 0 0)) rfl rfl HB3.out Tryz.zda rfl (zea _ _ rfl) ?_)
  refine zCg (cs:=zaa zRb (.slice none 0 0)) Tryz.results7 rfl (HB3.out.zac _) Tryz.underlying25 rfl Tryz.zda rfl rfl rfl ?_
  rw [HP.out]
  exact ⟨.slice none 0 0,rfl,KAt.nil _ _ _,below_setRow HW3.out (Nat.le_refl _) _⟩
 ·have hgt2:¬ (4096:Int)<(t.size:Int):=by omega
  have HP:=zh (show zqb s=(t,0,0) by rw [HP0.out,if_neg hgt])
  clear hgt
  go_wp2_with (first|((with_reducible refine zdb 25 (.tmp 8) ?_);refine zga rfl 25 (.tmp 8) rfl w2.heap.size (zaa t kv) rfl HN3.out Tryz.underlying25 rfl Tryz.zda ?_)|((with_reducible refine zDa 25 (.tmp 2) ?_);refine zca rfl 25 (.tmp 2) (.tmp 40) rfl w.heap.size (zaa t kv) rfl rfl HB3.out Tryz.zda rfl (zea _ _ HT3.out.kat.one) ?_))
  refine zCg (cs:=zaa t kv) Tryz.results7 rfl (HB3.out.zac _) Tryz.underlying25 rfl Tryz.zda rfl rfl rfl ?_
  rw [HP.out]
  exact ⟨kv,rfl,(HT3.out.kat.setRow w.heap.size _ (fun b hb=>by omega)).mono (fun b hb _=>by omega),below_setRow HW3.out (Nat.le_refl _) _⟩
theorem parse_any (s:ByteArray) (w:World) (hs:s.size≤maxLen) (ht:Tabs w) :
  Calls Tryz.prog 7 #[.string s] w (zwf (zqb s) w):=by
 cases hr:zJc s with
 | error pc=>obtain ⟨p,c⟩:=pc;exact zIm s w hs ht hr
 | ok ts =>
  cases hu:zwd ts with
  | error pc=>obtain ⟨p,c⟩:=pc;exact zGn s w hs ht hr hu
  | ok q=>obtain ⟨t,l'⟩:=q;exact zpo s w hs ht hr hu
end Go.Proofs.YtbfgdpcgdmabpaaGreatDoor
namespace Go.Proofs.YtbfgdpcgdmabpaaGreatDoor
section
open Go.RowKit
def zcl (k:Int) (s:ByteArray):Bool :=
 bif k == 1 || k == 3 || k == 6 || k == 7 || k == 10 || k == 11 || k == 12 || k == 13 || k == 14 || k == 19 || k == 24 || k == 25 || k == 26 || k == 27 || k == 28 then zJa s
 else bif k == 5 then s.toList == [] || zJa s
 else bif k == 4 || k == 15 || k == 16 then s.toList == [60] || (s.toList == [60,61] || s.toList == [61,61])
 else true
def zSl (n:Int):Bool:=decide (n≤1099511627776) && decide (-1099511627776≤n)
def zSe (k:Int) (s:ByteArray) (n:Int):Bool:=(decide (0≤k) && decide (k≤28)) && (zSl n && zcl k s)
mutual
def T.good:T→Bool
 | .mk k s n _ ks=>zSe k s n && zUf ks
def zUf:List T→Bool
 | []=>true
 | t :: ts=>t.good && zUf ts
end
theorem zdg (k:Int) (s:ByteArray) (n:Int) (p:Nat) (ks:List T):(T.mk k s n p ks).good=(zSe k s n && zUf ks):=by rw [T.good]
theorem zQb:zUf []=true:=by rw [zUf]
theorem zsb (t:T) (ts:List T):zUf (t :: ts)=(t.good && zUf ts):=by rw [zUf]
theorem zOd:∀ a b:List T,zUf (a++b)=(zUf a && zUf b)
 | [],b=>by simp [zQb]
 | t :: ts,b=>by rw [List.cons_append,zsb,zsb,zOd ts b,Bool.and_assoc]
theorem zch {v:Int} {t:T} (h:t.good=true) (hv:zSl v=true):(t.zkc v).good=true:=by
 cases t
 simp only [T.zkc,zdg,zSe,Bool.and_eq_true] at *
 exact ⟨⟨h.1.1,hv,h.1.2.2⟩,h.2⟩
theorem zwh {t b:T} (h:t.good=true) (hb:b.good=true):(t.snoc b).good=true:=by
 cases t
 simp only [T.snoc,zdg,zOd,zsb,zQb,Bool.and_eq_true,Bool.and_true] at *
 exact ⟨h.1,h.2,hb⟩
theorem zTe:zSl 0=true:=by decide
theorem zwb {k:Int} {s:ByteArray} {n:Int} (hk:(k == 1 || k == 3 || k == 6 || k == 7 || k == 10 || k == 11 || k == 12 || k == 13 || k == 14 || k == 19 || k == 24 || k == 25 || k == 26 || k == 27 || k == 28)=true) (hs:zJa s=true) (hn:zSl n=true):zSe k s n=true:=by
 have h1:zcl k s=true:=by unfold zcl;rw [hk];exact hs
 have h2:(decide (0≤k) && decide (k≤28))=true:=by
  simp only [Bool.or_eq_true,beq_iff_eq] at hk
  simp only [Bool.and_eq_true,decide_eq_true_eq]
  omega
 unfold zSe
 rw [h1,h2,hn];rfl
def TG (l:List Tok):Prop:=∀ t∈l,(t.kind=1→zJa t.text=true)∧t.num≤1099511627776
theorem TG.tail {l:List Tok} (h:TG l):TG l.tail:=fun t ht=>h t (List.mem_of_mem_tail ht)
theorem TG.hd {l:List Tok} (h:TG l):((hdT l).kind=1→zJa (hdT l).text=true)∧(hdT l).num≤1099511627776:=by
 cases l with
 | nil=>simp [hdT,zNb]
 | cons t r=>exact h t (by simp)
def Nm (s:ByteArray) (l':List Tok):Prop:=zJa s=true∧TG l'
def Nu (v:Int) (l':List Tok):Prop:=(0≤v∧v≤1099511627776)∧TG l'
def Gd (t:T) (l':List Tok):Prop:=t.good=true∧TG l'
def GdL (ts:List T) (l':List Tok):Prop:=zUf ts=true∧TG l'
def Gn (t:T) (l':List Tok):Prop:=(zJa t.text=true∧t.good=true)∧TG l'
theorem zza {ss:List ByteArray} {l:List Tok} (h:TG l):Ok (fun t l'=>ss.any (isT t)=true∧TG l') (zqa ss l):=by
 unfold zqa
 exact Ok.cond (fun hc=>Ok.ok ⟨hc,h.tail⟩) fun _=>Ok.err
theorem zic {l:List Tok} (h:TG l):Ok Nm (zFc l):=by
 unfold zFc zNf
 refine Ok.bd (G:=Nm ∘ Tok.text) (Ok.cond (fun hc=>Ok.ok ⟨h.hd.1 (beq_iff_eq.1 hc),h.tail⟩) fun _=>Ok.err) fun _ _ h=>Ok.ok h
theorem zwc {l:List Tok} (h:TG l):Ok Nu (zJb l):=by
 unfold zJb zNf
 refine Ok.bd (G:=fun t l'=>Nu (t.num:Int) l') (Ok.cond (fun hc=>Ok.ok ⟨⟨by omega,by have:=h.hd.2;omega⟩,h.tail⟩) fun _=>Ok.err) fun _ _ h=>Ok.ok h
theorem zzk {v:Int} (h:0≤v∧v≤1099511627776):zSl v=true:=by unfold zSl;simp;omega
theorem zYl {v:Int} (h:0≤v∧v≤1099511627776):zSl (-v)=true:=by unfold zSl;simp;omega
theorem zeb {k:Int} {s:ByteArray} {n:Int} {p:Nat} (h:zSe k s n=true):(T.mk k s n p []).good=true:=by rw [zdg,zQb,h];rfl
theorem zYc {k:Int} {s:ByteArray} {n:Int} {p:Nat} {a:T} (h:zSe k s n=true) (ha:a.good=true):(T.mk k s n p [a]).good=true:=by rw [zdg,zsb,zQb,h,ha];rfl
theorem zDi {k:Int} {s:ByteArray} {n:Int} {p:Nat} {a b:T} (h:zSe k s n=true) (ha:a.good=true) (hb:b.good=true):(T.mk k s n p [a,b]).good=true:=by rw [zdg,zsb,zsb,zQb,h,ha,hb];rfl
theorem good_row {k:Int} {s:ByteArray} {n:Int} {p:Nat} {ks:List T} (h:zSe k s n=true) (ha:zUf ks=true):(T.mk k s n p ks).good=true:=by rw [zdg,h,ha];rfl
theorem zNs:(e0.toList == [])=true:=by rw [ByteArray.toList_eq];rfl
theorem zHs {n:Int} (hn:zSl n=true):zSe 5 e0 n=true:=by
 have h1:zcl 5 e0=true:=by show (e0.toList == [] || zJa e0)=true;rw [zNs];rfl
 unfold zSe;rw [h1,hn];rfl
theorem zJs {s:ByteArray} {n:Int} (hs:zJa s=true) (hn:zSl n=true):zSe 5 s n=true:=by
 have h1:zcl 5 s=true:=by show (s.toList == [] || zJa s)=true;rw [hs,Bool.or_true]
 unfold zSe;rw [h1,hn];rfl
theorem zYa {k:Int} {s:ByteArray} {n:Int} (h1:zcl k s=true) (h2:(decide (0≤k) && decide (k≤28))=true) (hn:zSl n=true):zSe k s n=true:=by unfold zSe;rw [h1,h2,hn];rfl
theorem zPe {l:List Tok} (h:TG l):Ok Gn (zra l):=by
 unfold zra
 exact (zic h).bd fun s l1 h1=>Ok.ok ⟨⟨h1.1,zeb (zJs h1.1 zTe)⟩,h1.2⟩
theorem zQc {l:List Tok} (h:TG l):Ok Gd (zra l):=(zPe h).mono fun _ _ h=>⟨h.1.2,h.2⟩
theorem zsg {l:List Tok} (h:TG l):Ok Gd (zGa l):=by
 unfold zGa
 exact Ok.cond (fun _=>(zwc h.tail).bd fun n l1 h1=>Ok.ok ⟨zeb (zHs (zYl h1.1)),h1.2⟩) (fun _=>(zwc h).bd fun n l1 h1=>Ok.ok ⟨zeb (zHs (zzk h1.1)),h1.2⟩)
theorem zpr {l:List Tok} {k x:Int} (h:sumP l=some (k,x)):(k=21∧x=1)∨(k=22∧x=-1):=by
 unfold sumP at h
 cases h1:isT (hdT l) (bs [43]) with
 | true=>rw [h1] at h;cases h;exact .inl ⟨rfl,rfl⟩
 | false =>
  rw [h1] at h
  cases h2:isT (hdT l) (bs [45]) with
  | true=>rw [h2] at h;cases h;exact .inr ⟨rfl,rfl⟩
  | false=>rw [h2] at h;cases h
theorem zcm {l:List Tok} {k x v:Int} (h:sumP l=some (k,x)) (hv:0≤v∧v≤1099511627776):zSl (x * v)=true:=by
 rcases zpr h with ⟨_,rfl⟩|⟨_,rfl⟩
 ·rw [Int.one_mul];exact zzk hv
 ·rw [Int.neg_one_mul];exact zYl hv
theorem zso {l:List Tok} {k x:Int} (h:sumP l=some (k,x)):zSe k e0 0=true:=by
 rcases zpr h with ⟨rfl,_⟩|⟨rfl,_⟩<;>rfl
theorem zbh {l:List Tok} (h:TG l):Ok Gd (zOb l):=by
 unfold zOb
 exact Ok.cond (fun _=>(zPe h).bd fun n l1 h1=>Ok.sum (fun _=>Ok.ok ⟨h1.1.2,h1.2⟩) fun k x hs=>(zwc h1.2.tail).bd fun v l2 h2=>Ok.ok ⟨zch h1.1.2 (zcm hs h2.1),h2.2⟩) (fun _=>zsg h)
theorem zJm {item:List Tok→R T} (hi:∀ {l},TG l→Ok Gd (item l)):∀ (n:Nat) {l:List Tok},TG l→Ok GdL (zUe item n l)
 | 0,l,_=>Ok.err
 | n+1,l,h=>by
  rw [zUe]
  exact Ok.cond (fun _=>(hi h.tail).bd fun a l1 h1=>(zJm hi n h1.2).bd fun xs l2 h2=>Ok.ok ⟨by rw [zsb,h1.1,h2.1];rfl,h2.2⟩) (fun _=>Ok.ok ⟨zQb,h⟩)
theorem zan {item:List Tok→R T} (hi:∀ {l},TG l→Ok Gd (item l)) {l:List Tok} (h:TG l):Ok GdL (zKd item l):=by
 unfold zKd
 exact (hi h).bd fun a l1 h1=>(zJm hi _ h1.2).bd fun xs l2 h2=>Ok.ok ⟨by rw [zsb,h1.1,h2.1];rfl,h2.2⟩
theorem zti {item:List Tok→R T} (hi:∀ {l},TG l→Ok Gd (item l)) {l:List Tok} (h:TG l):Ok GdL (zkb item l):=by
 unfold zkb
 exact (zza h).bd fun _ l1 h1=>Ok.cond (fun _=>Ok.ok ⟨zQb,h1.2.tail⟩) (fun _=>(zan hi h1.2).bd fun xs l2 h2=>(zza h2.2).bd fun _ l3 h3=>Ok.ok ⟨h2.1,h3.2⟩)
theorem zxm {l:List Tok} (h:TG l):Ok Gd (zqc l):=by
 unfold zqc
 exact (zza h).bd fun _ l1 h1=>(zbh h1.2).bd fun a l2 h2=>(zza h2.2).bd fun _ l3 h3=>Ok.ok ⟨h2.1,h3.2⟩
theorem znp {n:T} (hn:zJa n.text=true) {l:List Tok} (h:TG l):Ok Gd (zle n l):=by
 unfold zle
 exact (zti zbh h).bd fun xs l1 h1=>Ok.ok ⟨good_row (zwb rfl hn zTe) h1.1,h1.2⟩
theorem ref_g {p:Nat} {l:List Tok} (h:TG l):Ok Gd (zfi p l):=by
 unfold zfi
 exact Ok.cond (fun _=>(zic h.tail).bd fun s l1 h1=>Ok.ok ⟨zeb (zwb rfl h1.1 zTe),h1.2⟩) (fun _=>(zic h).bd fun s l1 h1=>Ok.ok ⟨zeb (zwb rfl h1.1 zTe),h1.2⟩)
theorem zHl {l:List Tok} (h:TG l):Ok Gd (zAa l):=by
 unfold zAa
 exact (zPe h).bd fun n l1 h1=>Ok.cond (fun _=>(zxm h1.2).bd fun a l2 h2=>Ok.ok ⟨zYc (zwb rfl h1.1.1 zTe) h2.1,h2.2⟩) fun _=>Ok.cond (fun _=>znp h1.1.1 h1.2) fun _=>Ok.sum (fun _=>Ok.ok ⟨h1.1.2,h1.2⟩) fun k x hs=>Ok.cond (fun _=>(zQc h1.2.tail).bd fun m l2 h2=>Ok.ok ⟨zDi (zso hs) h1.1.2 h2.1,h2.2⟩) (fun _=>(zwc h1.2.tail).bd fun v l2 h2=>Ok.ok ⟨zch h1.1.2 (zcm hs h2.1),h2.2⟩)
theorem zAs {l:List Tok} (h:TG l):Ok Gd (zzc l):=by
 unfold zzc
 exact Ok.cond (fun _=>(zwc h.tail).bd fun v l1 h1=>Ok.ok ⟨zeb (zYa rfl rfl (zzk h1.1)),h1.2⟩) fun _=>Ok.cond (fun _=>(zic h.tail).bd fun s l1 h1=>Ok.ok ⟨zeb (zwb rfl h1.1 zTe),h1.2⟩) fun _=>Ok.cond (fun _=>ref_g h.tail) fun _=>Ok.cond (fun _=>zHl h) fun _=>zsg h
theorem zah {k:Int} (hk:k=4∨k=15∨k=16) {p:Nat} {l:List Tok} (h:TG l):Ok Gd (zVa k p l):=by
 unfold zVa
 refine (zbh h).bd fun a l1 h1=>(zza h1.2).bd fun c l2 h2=>(zbh h2.2).bd fun b l3 h3=>Ok.ok ⟨zDi ?_ h1.1 h3.1,h3.2⟩
 have h4:(c.text.toList == [60] || (c.text.toList == [60,61] || c.text.toList == [61,61]))=true:=by
  have:=h2.1
  simp only [List.any_cons,List.any_nil,Bool.or_false,isT,bs,ByteArray.toList_eq] at this
  rw [ByteArray.toList_eq]
  exact this
 rcases hk with rfl|rfl|rfl
 ·exact zYa h4 rfl zTe
 ·exact zYa h4 rfl zTe
 ·exact zYa h4 rfl zTe
theorem zjs {l:List Tok} (h:TG l):Ok Gd (zCe l):=by unfold zCe;exact zah (.inl rfl) h
theorem zfq {l:List Tok} (h:TG l):Ok Gd (zjc l):=by
 unfold zjc
 exact (zic h).bd fun s l1 h1=>Ok.cond (fun _=>(zQc h1.2.tail).bd fun a l2 h2=>(zza h2.2).bd fun _ l3 h3=>Ok.ok ⟨zYc (zwb rfl h1.1 zTe) h2.1,h3.2⟩) (fun _=>Ok.ok ⟨zeb (zwb rfl h1.1 zTe),h1.2⟩)
theorem zGs {l:List Tok} (h:TG l):Ok Gd (zTd l):=by
 unfold zTd
 exact (zza h).bd fun t l1 h1=>Ok.cond (fun _=>Ok.ok ⟨zeb (zYa rfl rfl zTe),h1.2⟩) (fun _=>(zQc h1.2).bd fun a l2 h2=>Ok.ok ⟨zYc (zYa rfl rfl zTe) h2.1,h2.2⟩)
theorem zfh {l:List Tok} (h:TG l):Ok Gd (zMa l):=by
 unfold zMa
 exact (zza h).bd fun t l1 h1=>Ok.cond (fun _=>(zQc h1.2).bd fun a l2 h2=>Ok.ok ⟨zYc (zYa rfl rfl zTe) h2.1,h2.2⟩) (fun _=>Ok.ok ⟨zeb (zYa rfl rfl zTe),h1.2⟩)
theorem zis {l:List Tok} (h:TG l):Ok Gd (zGd l):=by
 unfold zGd
 exact Ok.cond (fun _=>Ok.cond (fun _=>(zQc h.tail.tail).bd fun a l2 h2=>Ok.ok ⟨zYc (zYa rfl rfl zTe) h2.1,h2.2⟩) (fun _=>(zQc h.tail).bd fun a l2 h2=>Ok.ok ⟨zYc (zYa rfl rfl zTe) h2.1,h2.2⟩)) (fun _=>zfh h)
theorem zXq {l:List Tok} (h:TG l):Ok Gd (zBc l):=by
 unfold zBc
 exact (zic h).bd fun s l1 h1=>(zza h1.2).bd fun _ l2 h2=>(zis h2.2).bd fun a l3 h3=>Ok.ok ⟨zYc (zwb rfl h1.1 zTe) h3.1,h3.2⟩
theorem zLn {l:List Tok} (h:TG l):Ok GdL (zUc l):=by
 unfold zUc
 exact Ok.cond (fun _=>(zan zfq h.tail).bd fun xs l1 h1=>(zza h1.2).bd fun _ l2 h2=>Ok.ok ⟨h1.1,h2.2⟩) (fun _=>Ok.ok ⟨zQb,h⟩)
theorem zhq {l:List Tok} (h:TG l):Ok GdL (zbd l):=by
 unfold zbd
 exact Ok.cond (fun _=>zan zjs h.tail) (fun _=>Ok.ok ⟨zQb,h⟩)
theorem zZs {p:Nat} {l:List Tok} (h:TG l):Ok Gd (zMb p l):=by
 unfold zMb
 exact (zic h).bd fun s l1 h1=>(zGs h1.2).bd fun a l2 h2=>(zLn h2.2).bd fun ys l3 h3=>(zhq h3.2).bd fun zs l4 h4=>(zza h4.2).bd fun _ l5 h5=>Ok.ok ⟨good_row (zwb rfl h1.1 zTe) (by rw [zsb,zOd,h2.1,h3.1,h4.1];rfl),h5.2⟩
theorem zAp {k:Int} (hk:k=13∨k=14) {p:Nat} {l:List Tok} (h:TG l):Ok Gd (zHd k p l):=by
 unfold zHd
 exact (zic h).bd fun s l1 h1=>(zza h1.2).bd fun _ l2 h2=>(zwc h2.2).bd fun v l3 h3=>(zza h3.2).bd fun _ l4 h4=>Ok.ok ⟨zeb (zwb (by rcases hk with rfl|rfl<;>rfl) h1.1 (zzk h3.1)),h4.2⟩
theorem zNn {p:Nat} {l:List Tok} (h:TG l):Ok Gd (zZb p l):=by
 unfold zZb
 exact Ok.cond (fun _=>Ok.ok ⟨zeb (zYa rfl rfl zTe),h⟩) (fun _=>(zbh h).bd fun a l1 h1=>Ok.ok ⟨zYc (zYa rfl rfl zTe) h1.1,h1.2⟩)
theorem zOr {l:List Tok} (h:TG l):Ok Gd (zxb l):=by
 unfold zxb
 exact (zPe h).bd fun n l1 h1=>Ok.cond (fun _=>(znp h1.1.1 h1.2).bd fun c l2 h2=>Ok.ok ⟨zYc (zYa rfl rfl zTe) h2.1,h2.2⟩) fun _=>Ok.cond (fun _=>(zxm h1.2).bd fun i l2 h2=>(zza h2.2).bd fun _ l3 h3=>(zbh h3.2).bd fun b l4 h4=>Ok.ok ⟨zDi (zwb rfl h1.1.1 zTe) h2.1 h4.1,h4.2⟩) fun _=>(zza h1.2).bd fun _ l2 h2=>(zAs h2.2).bd fun x l3 h3=>Ok.ok ⟨zYc (zwb rfl h1.1.1 zTe) h3.1,h3.2⟩
theorem zFo {l:List Tok} (h:TG l):Ok Gd (zHa l):=by
 unfold zHa
 exact Ok.cond (fun _=>zOr h) fun _=>Ok.cond (fun _=>(zic h.tail).bd fun s l1 h1=>Ok.ok ⟨zeb (zwb rfl h1.1 zTe),h1.2⟩) fun _=>Ok.cond (fun _=>zAp (.inl rfl) h.tail) fun _=>Ok.cond (fun _=>zAp (.inr rfl) h.tail) fun _=>Ok.cond (fun _=>zNn h.tail) fun _=>Ok.cond (fun _=>Ok.ok ⟨zeb (zYa rfl rfl zTe),h.tail⟩) fun _=>Ok.cond (fun _=>(zic h.tail).bd fun s l1 h1=>(zti zbh h1.2).bd fun xs l2 h2=>Ok.ok ⟨good_row (zwb rfl h1.1 zTe) h2.1,h2.2⟩) fun _=>Ok.err
theorem zas {blk:List Tok→R T} (hb:∀ {l},TG l→Ok Gd (blk l)) {p:Nat} {l:List Tok} (h:TG l):Ok Gd (zSf blk p l):=by
 unfold zSf
 exact Ok.cond (fun _=>hb h.tail) (fun _=>Ok.ok ⟨zeb (zYa rfl rfl zTe),h⟩)
theorem if_g {blk:List Tok→R T} (hb:∀ {l},TG l→Ok Gd (blk l)) {p:Nat} {l:List Tok} (h:TG l):Ok Gd (ifP blk p l):=by
 unfold ifP
 exact (zah (.inr (.inl rfl)) h).bd fun n l1 h1=>(hb h1.2).bd fun b l2 h2=>(zas hb h2.2).bd fun c l3 h3=>Ok.ok ⟨zwh (zwh h1.1 h2.1) h3.1,h3.2⟩
theorem zIr {blk:List Tok→R T} (hb:∀ {l},TG l→Ok Gd (blk l)) {p:Nat} {l:List Tok} (h:TG l):Ok Gd (zqe blk p l):=by
 unfold zqe
 exact (zah (.inr (.inr rfl)) h).bd fun n l1 h1=>(hb h1.2).bd fun b l2 h2=>Ok.ok ⟨zwh h1.1 h2.1,h2.2⟩
theorem zCt {blk:List Tok→R T} (hb:∀ {l},TG l→Ok Gd (blk l)) {l:List Tok} (h:TG l):Ok Gd (zEc blk l):=by
 unfold zEc
 exact Ok.cond (fun _=>if_g hb h.tail) fun _=>Ok.cond (fun _=>zIr hb h.tail) fun _=>(zFo h).bd fun n l1 h1=>(zza h1.2).bd fun _ l2 h2=>Ok.ok ⟨h1.1,h2.2⟩
theorem zTk {item:List Tok→R T} (hi:∀ {l},TG l→Ok Gd (item l)):∀ (n:Nat) {l:List Tok},TG l→Ok GdL (zOc item n l)
 | 0,l,_=>Ok.err
 | n+1,l,h=>by
  rw [zOc]
  exact Ok.cond (fun _=>Ok.ok ⟨zQb,h.tail⟩) (fun _=>(hi h).bd fun a l1 h1=>(zTk hi n h1.2).bd fun xs l2 h2=>Ok.ok ⟨by rw [zsb,h1.1,h2.1];rfl,h2.2⟩)
theorem zPm:∀ (n:Nat) {l:List Tok},TG l→Ok Gd (zhb n l)
 | 0,l,h=>by rw [zhb];exact (zza h).bd fun _ _ _=>Ok.err
 | n+1,l,h=>by
  rw [zhb]
  exact (zza h).bd fun t l1 h1=>(zTk (zCt (zPm n)) _ h1.2).bd fun xs l2 h2=>Ok.ok ⟨good_row (zYa rfl rfl zTe) h2.1,h2.2⟩
theorem zfo {l:List Tok} (h:TG l):Ok Gd (zWc l):=by
 unfold zWc
 exact Ok.cond (fun _=>zfh h.tail) (fun _=>Ok.ok ⟨zeb (zYa rfl rfl zTe),h⟩)
theorem fn_g {p:Nat} {l:List Tok} (h:TG l):Ok Gd (fnP p l):=by
 unfold fnP
 exact (zic h).bd fun s l1 h1=>(zti zXq h1.2).bd fun xs l2 h2=>(zfo h2.2).bd fun r l3 h3=>(zPm 8 h3.2).bd fun b l4 h4=>Ok.ok ⟨good_row (zwb rfl h1.1 zTe) (by rw [zOd,zsb,zsb,zQb,h2.1,h3.1,h4.1];rfl),h4.2⟩
theorem zFt {l:List Tok} (h:TG l):Ok Gd (zLd l):=by
 unfold zLd
 exact (zza h).bd fun t l1 h1=>Ok.cond (fun _=>zZs h1.2) (fun _=>fn_g h1.2)
theorem zXl:∀ (n:Nat) {l:List Tok},TG l→Ok GdL (zbe n l)
 | 0,l,_=>Ok.err
 | n+1,l,h=>by
  rw [zbe]
  exact Ok.cond (fun _=>Ok.ok ⟨zQb,h⟩) (fun _=>(zFt h).bd fun a l1 h1=>(zXl n h1.2).bd fun xs l2 h2=>Ok.ok ⟨by rw [zsb,h1.1,h2.1];rfl,h2.2⟩)
theorem zEs {l l':List Tok} {t:T} (hl:TG l) (h:zwd l=.ok (t,l')):t.good=true:=by
 have h1:Ok Gd (zwd l):=by
  unfold zwd
  exact (zXl _ hl).bd fun xs l1 h=>Ok.ok ⟨good_row (zYa rfl rfl zTe) h.1,h.2⟩
 exact (h1 t l' h).1
theorem zNg (p:Int→Bool):∀ l:List UInt8,zAc p (l.take (zAc p l))=zAc p l
 | []=>by simp [zAc]
 | b :: r=>by
  have ih:=zNg p r
  by_cases hb:p (b.toNat:Int)=true
  ·rw [zAc,if_pos hb,List.take_succ_cons,zAc,if_pos hb,ih]
  ·rw [zAc,if_neg hb];rfl
theorem zfm (s:ByteArray) (k n:Nat):(s.extract k (k+n)).data.toList=(s.data.toList.drop k).take n:=by
 rw [ByteArray.data_extract,Array.toList_extract]
 simp [List.extract]
theorem zam {s:ByteArray} {k:Nat} {t:Tok} (hk:k<s.size) (hl:zRj ((bat s k).toNat:Int)=true) (h:zlc s k=.ok t):t.kind=1→zJa t.text=true:=by
 have hz:=zJi hk hl h
 unfold zlc at h
 split at h
 ·cases h
 ·rename_i h16
  split at h
  ·cases h;intro hc;cases hc
  ·rename_i hkey
   cases h
   intro _
   have hle:=zSd zLe s k (by omega)
   have hsz:=zKc s k (endOf zLe s k) hle
   simp only at hz ⊢
   have hd:=drop_at s k hk
   have hlist:(s.extract k (endOf zLe s k)).data.toList=(s.data.toList.drop k).take (zAc zLe (s.data.toList.drop k)):=zfm s k _
   have hrun:endOf zLe (s.extract k (endOf zLe s k)) 0=(s.extract k (endOf zLe s k)).size:=by
    rw [hsz]
    show 0+zAc zLe ((s.extract k (endOf zLe s k)).data.toList.drop 0)=_
    rw [List.drop_zero,hlist,zNg]
    unfold endOf
    omega
   have hat:at0 (s.extract k (endOf zLe s k))=((bat s k).toNat:Int):=by
    unfold at0
    rw [hlist,zMc s k hk,hd]
    have:0<zAc zLe (s.data.toList.drop k):=by
     have h1:=hz.1
     rw [hsz] at h1
     unfold endOf at h1
     omega
    rw [hd] at this
    obtain ⟨m,hm⟩:=Nat.exists_eq_succ_of_ne_zero (Nat.pos_iff_ne_zero.1 this)
    rw [hm,List.take_succ_cons]
    rfl
   unfold zJa
   rw [hat,hl,hrun]
   have hk2:zXh (s.extract k (endOf zLe s k))=false:=by simpa using hkey
   rw [hk2]
   simp only [Bool.and_true,Bool.not_false,decide_true,Bool.and_eq_true,decide_eq_true_eq]
   exact ⟨hz.1,by omega⟩
theorem zdo {s:ByteArray} {k:Nat} {t:Tok} (hk:k<s.size) (h:zjd s k=.ok t):t.kind=1→zJa t.text=true:=by
 have hs:∀ n,zjb s k n=.ok t→t.kind≠1:=by
  intro n
  induction n with
  | zero =>
   unfold zjb zze
   split
   ·intro h;cases h;simp
   ·intro h;cases h
  | succ n ih =>
   unfold zjb
   split
   ·intro h;cases h;simp
   ·exact ih
 unfold zjd at h
 split at h
 ·rename_i hl
  exact zam hk hl h
 ·split at h
  ·unfold zid at h
   split at h
   ·cases h
   ·cases h;intro hc;cases hc
  ·intro hc;exact absurd hc (hs 3 h)
theorem zvi {s:ByteArray}:∀ k,∀ ts,lexFrom s k=.ok ts→∀ t∈ts,t.kind=1→zJa t.text=true:=by
 apply zdk (P:=fun k r=>∀ ts,r=.ok ts→∀ t∈ts,t.kind=1→zJa t.text=true)
 ·intro k _ ts h t ht
  cases h
  obtain rfl:t=zrf s:=by simpa using ht
  intro hc;cases hc
 ·intro k _ _ ih;exact ih
 ·intro k _ _ ih;exact ih
 ·intro k e _ _ _ _ ts h;cases h
 ·intro k t hk _ _ ht ih ts h
  cases hr:lexFrom s (k+t.text.size) with
  | error e=>rw [hr] at h;cases h
  | ok ts' =>
   rw [hr] at h
   cases h
   intro u hu
   rcases List.mem_cons.1 hu with rfl|hu
   ·exact zdo hk ht
   ·exact ih ts' hr u hu
theorem zUi {s:ByteArray} {ts:List Tok} (h:zJc s=.ok ts):TG ts:=by
 have hg:=(zff h).2.1
 unfold zJc at h
 split at h
 ·cases h
 ·exact fun t ht=>⟨zvi 0 ts h t ht,(hg t ht).num⟩
theorem zqn:zRb.good=true:=zeb (zYa rfl rfl zTe)
theorem zel (s:ByteArray):(zqb s).1.good=true∧(zqb s).1.size≤4096:=by
 have hz:zRb.good=true∧zRb.size≤4096:=⟨zqn,by unfold zRb;rw [size_mk,zla];omega⟩
 unfold zqb
 cases hl:zJc s with
 | error e=>exact hz
 | ok ts =>
  simp only
  unfold zoc
  cases hu:zwd ts with
  | error e=>exact hz
  | ok q =>
   obtain ⟨t,l⟩:=q
   simp only
   by_cases hs:4096<t.size
   ·rw [if_pos hs];exact hz
   ·rw [if_neg hs];exact ⟨zEs (zUi hl) hu,by simp only;omega⟩
end
section
open Go.RowKit
section
variable {P:Program} {ops:Array Oper} {Q:Exit→Act→World→Prop} {md:Region.Mode} {S:World→Prop}
theorem AnyH.only {i:Nat} {o:Oper} {fuel:Nat} {listed:Array Bool} {a:Act} {w:World} (hr:Region.ready md ops listed=[i]) (ho:ops[i]?=some o) (hw:Region.wanted o (yielded ops a.tmps)=true)
  (h:∀ K:Act→World→Prop,Shut (∀ a w,S w→wpAnyH P md ops Q S fuel (listed.setIfInBounds i true) a w→K a w)→o.wp P a w K Q):wpAnyH P md ops Q S (fuel+1) listed a w:=by
 refine ⟨(fun h0=>by rw [hr] at h0;cases h0),fun j hj=>?_⟩
 rw [hr] at hj
 obtain rfl:j=i:=by simpa using hj
 refine wpOp_step ho fun K' hK=>?_
 rw [if_pos hw]
 exact h K' fun a w hS hA=>hK a w ⟨hS,hA⟩
end
end
section
open Go.ChangeShapes Go.WideShapes Go.ChangeAt Go.ChangeMaps Go.RowKit
end
section
open Go.RowKit
structure Tm where
 name:ByteArray
 num:Int
structure Ins where
 op:Int
 place:Nat
 x:ByteArray
 y:ByteArray
 a:Tm
 b:Tm
 args:List Tm
 to:Nat
 has:Bool
end
end Go.Proofs.YtbfgdpcgdmabpaaGreatDoor
