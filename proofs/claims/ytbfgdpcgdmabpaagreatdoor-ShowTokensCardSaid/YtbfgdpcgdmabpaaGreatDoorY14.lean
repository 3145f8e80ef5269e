/- Towards the contract of Parse in a world that holds the tables of lex: it answers what the plain reader does, in new memory, and changes nothing that was there. Parse where the tokens have a fault. Parse where the tokens are read. The contract of Parse in a world that holds the tables of lex: it answers what the plain reader does, in new memory, and changes nothing that was there. -/
import Derived.Test.YtbfgdpcgdmabpaaGreatDoorY13
import Derived.Test.YtbfgdpcgdmabpaaGreatDoorY03
import Derived.Test.YtbfgdpcgdmabpaaGreatDoorY01
import Derived.Test.YtbfgdpcgdmabpaaGreatDoorY04
import Derived.Test.YtbfgdpcgdmabpaaGreatDoorY02
namespace Go.Proofs.YtbfgdpcgdmabpaaGreatDoor
set_option maxRecDepth 100000
set_option maxHeartbeats 2000000
open Go.RowKit
theorem zLn {s:ByteArray} {k:Nat} {t:Tok} (h:zae s k=.ok t):t.kind≠0∧t.num≤1099511627776∧t.place=k:=by
 have hs:∀ n,zGb s k n=.ok t→t.kind≠0∧t.num≤1099511627776∧t.place=k:=by
  intro n
  induction n with
  | zero =>
   unfold zGb zpf
   split
   ·intro h;cases h;exact ⟨by simp,by simp,rfl⟩
   ·intro h;cases h
  | succ n ih =>
   unfold zGb
   split
   ·intro h;cases h;exact ⟨by simp,by simp,rfl⟩
   ·exact ih
 unfold zae at h
 split at h
 ·unfold zWc at h
  split at h
  ·cases h
  ·split at h<;>cases h<;>exact ⟨by simp,by simp,rfl⟩
 ·split at h
  ·unfold zUd at h
   split at h
   ·cases h
   ·rename_i hc
    cases h
    exact ⟨by simp,by simp only;omega,rfl⟩
  ·exact hs 3 h
theorem zWk {s:ByteArray} (hs:s.size≤16384):∀ k,k≤s.size→∀ ts,lexFrom s k=.ok ts→Ends ts∧(∀ t∈ts,ztl t)∧ts.length+k≤s.size+1:=by
 apply znm (P:=fun k r=>k≤s.size→∀ ts,r=.ok ts→Ends ts∧(∀ t∈ts,ztl t)∧ts.length+k≤s.size+1)
 ·intro k _ hk ts h
  cases h
  refine ⟨.inl ⟨rfl,rfl,rfl⟩,fun t ht=>?_,by simp;omega⟩
  obtain rfl:t=zkg s:=by simpa using ht
  exact ⟨by simp [zkg],hs,by show (0:Nat)≤_;omega⟩
 ·intro k hk _ ih _ ts h
  obtain ⟨h1,h2,h3⟩:=ih (by omega) ts h
  exact ⟨h1,h2,by omega⟩
 ·intro k hk hb ih _ ts h
  have hg:=zPf hk hb
  obtain ⟨h1,h2,h3⟩:=ih (zTe ztn s k (by omega)) ts h
  exact ⟨h1,h2,by omega⟩
 ·intro k e _ _ _ _ _ ts h;cases h
 ·intro k t hk _ _ ht ih _ ts h
  have hz:=zgf hk ht
  have hg:=zLn ht
  cases hr:lexFrom s (k+t.text.size) with
  | error e=>rw [hr] at h;cases h
  | ok ts' =>
   rw [hr] at h
   cases h
   obtain ⟨h1,h2,h3⟩:=ih hz.2 ts' hr
   refine ⟨.inr ⟨hg.1,h1⟩,fun u hu=>?_,by simp;omega⟩
   rcases List.mem_cons.1 hu with rfl|hu
   ·exact ⟨hg.2.1,by rw [hg.2.2];omega,by omega⟩
   ·exact h2 u hu
theorem zug {s:ByteArray} {ts:List Tok} (h:zqd s=.ok ts):Ends ts∧(∀ t∈ts,ztl t)∧ts.length≤16385:=by
 unfold zqd at h
 split at h
 ·cases h
 ·obtain ⟨h1,h2,h3⟩:=zWk (by omega) 0 (by omega) ts h
  exact ⟨h1,h2,by omega⟩
theorem zbm {s:ByteArray} {p:Nat} {c:Int} (h:zqd s=.error (p,c)):10≤c∧c≤13:=by
 unfold zqd at h
 split at h
 ·cases h;decide
 ·obtain ⟨_,_,_,_,h1⟩:=zgp 0 h
  have:=zel h1
  omega
def zAg (r:T × Nat × Int) (w:World) (e:Ending) (w':World):Prop :=
 ∃ kv,e=.returned (.tuple #[zmb r.1 kv,.int .i64 r.2.1,.int .i64 r.2.2])∧KAt 25 w' r.1.kids (fun b=>w.heap.size≤b) kv∧Below w.heap.size w w'
theorem zii {P:Program} {fn:Func} {s u z:Tmp} {ty t:TypeId} (h:fn.results=#[.cell s ty,.tmp u,.tmp z]) {a:Act} {W:World} {g:Nat} {cs:List Value} {d:TypeDesc} {R:Ending→World→Prop} {x y:Value} (hs:a.tmps.getD s undef=.pointer (some ⟨g,0,none⟩))
  (hb:Blk W g cs t) (hu:P.underlying ty=some d) (hd:d.isRow=true) (hi:(P.info? ty).map (·.size)=some cs.length) (hx:a.tmps.getD u undef=x) (hy:a.tmps.getD z undef=y) (hdf:a.defers=[]) (hR:R (.returned (.tuple #[.agg cs.toArray,x,y])) W) :
  bodyPost P fn R .ret a W:=by
 refine bodyPost_ret ?_ hdf hR
 have hl:=run_loadVar_mid (P:=P) W g 0 ty cs d (fun j v hj=>by rw [Nat.zero_add,hb.cell j];exact hj) hu hd hi
 have hs':a.tmps[s]?.getD undef=.pointer (some ⟨g,0,none⟩):=by rw [← hs];simp
 have hx':a.tmps[u]?.getD undef=x:=by rw [← hx];simp
 have hy':a.tmps[z]?.getD undef=y:=by rw [← hy];simp
 simp [results,h,hs',asAddr,hl,hx',hy']
theorem below_setRow {B:Nat} {w W:World} (hb:Below B w W) {g:Nat} (hg:B≤g) (cs:Array Value):Below B w (W.setRow g cs) :=
 ⟨hb.os,hb.tape,hb.output,by simpa using hb.size,fun k hk=>(setRow_other W g k cs (by omega)).trans (hb.block k hk)⟩
theorem zpp (s:ByteArray) (w:World) (hs:s.size≤maxLen) (ht:Tabs w) {p:Nat} {c:Int} (hr:zqd s=.error (p,c)) :
  Calls Tryz.prog 7 #[.string s] w (zAg (zvb s) w):=by
 have HTA:=zh (ht.alloc (o:=.cells zga.toArray 25))
 have HS:=zh hs
 clear ht hs
 go_enter Tryz.func7,Tryz.ntmps7
 go_wp2_with fail
 refine (zth s _ HS.out HTA.out).mono ?_
 intro e w1 hp
 rw [hr] at hp
 obtain ⟨rfl,hb⟩:=hp
 have hcd:=zbm hr
 have hne:(c != 0)=true:=by rw [bne_iff_ne];omega
 have HP:=zh (show zvb s=(zNc,p,c) by unfold zvb;rw [hr])
 have HB:=zh ((Blk.new w zga 25).kp (Kp.of_below (pb:=w.heap.size+1) hb) (by omega))
 have HW:=zh (((Below.refl w.heap.size w).alloc (Nat.le_refl _) _).trans (hb.mono (by simp)))
 clear hb hr hcd
 go_wp2_with ((with_reducible refine zlb 25 (.tmp 2) ?_);refine zma rfl 25 (.tmp 2) (.tmp 18) rfl w.heap.size (zaa zNc (.slice none 0 0)) rfl rfl HB.out Tryz.zla rfl (zoa _ _ rfl) ?_)
 refine zii (cs:=zaa zNc (.slice none 0 0)) Tryz.results7 rfl (HB.out.zZc _) Tryz.underlying25 rfl Tryz.zla rfl rfl rfl ?_
 rw [HP.out]
 exact ⟨.slice none 0 0,rfl,KAt.nil _ _ _,below_setRow HW.out (Nat.le_refl _) _⟩
theorem zFp {P:Program} {ops:Array Oper} {Q:Exit→Act→World→Prop} {l:List Oper} {a:Act} (W:World) (h:wpList P ops Q l a W):wpList P ops Q l a W:=h
theorem zvo (s:ByteArray) (w:World) (hs:s.size≤maxLen) (ht:Tabs w) {ts:List Tok} {p:Nat} {c:Int} (hr:zqd s=.ok ts) (hu:zgd ts=.error (p,c)) :
  Calls Tryz.prog 7 #[.string s] w (zAg (zvb s) w):=by
 have HTA:=zh (ht.alloc (o:=.cells zga.toArray 25))
 have HS:=zh hs
 clear ht hs
 go_enter Tryz.func7,Tryz.ntmps7
 go_wp2_with fail
 refine (zth s _ HS.out HTA.out).mono ?_
 intro e w1 hp
 rw [hr] at hp
 obtain ⟨v,rfl,hown,hb⟩:=hp
 obtain ⟨hE,hok,hlen⟩:=zug hr
 have hn:0<ts.length:=by obtain ⟨t,r,rfl⟩:=hE.ne;simp
 obtain ⟨g,cap,rfl,hg1,hg2,hcap,hrow⟩:=zBj hown hn
 have HTK:=zh (show Toks w1 g cap ts from ⟨hrow,hg2,hE,hok,hlen,hcap⟩)
 have HB:=zh ((Blk.new w zga 25).kp (Kp.of_below (pb:=w.heap.size+1) hb) (by omega))
 have HW:=zh (((Below.refl w.heap.size w).alloc (Nat.le_refl _) _).trans (hb.mono (by simp)))
 have HPB:=zh (show zvb s=zUc ts by unfold zvb;rw [hr])
 have HLEN:=zh hlen
 clear hb hr hE hok hlen hn hown hrow hg1 hg2 hcap
 go_wp2_with fail
 refine (zvm HTK.out).mono ?_
 intro e w2 hp
 rw [hu] at hp
 obtain ⟨rfl,hb,hcd⟩:=hp
 have hne:(c != 0)=true:=by rw [bne_iff_ne];omega
 have HP:=zh (show zvb s=(zNc,p,c) by rw [HPB.out];unfold zUc;rw [hu])
 have HB2:=zh (HB.out.kp (Kp.of_below (pb:=w.heap.size+1) hb) (by omega))
 have HW2:=zh (HW.out.trans (hb.mono HW.out.size))
 have hz2:=HB2.out.lt
 clear hb hu hcd
 have HT:=zh ((KAt.nil 25 w2 (fun b=>w.heap.size<b∧b<w2.heap.size)).tat 0 e0 0 0)
 unfold zmb
 go_wp2_with (first
  | ((with_reducible refine zlb 25 (.tmp 8) ?_);refine zma rfl 25 (.tmp 8) (.tmp 24) rfl w2.heap.size (zaa (zNc) (.slice none 0 0)) rfl rfl ((Blk.new w2 zga 25).alloc _) Tryz.zla rfl (zoa _ _ rfl) ?_)
  | (
    (with_reducible refine zlb 64 (.tmp 9) ?_);refine zma rfl 64 (.tmp 9) (.tmp 25) rfl (w2.heap.size+1) [.int .i64 p,.int .i64 c] rfl rfl ((Blk.zCe w2 (.cells zga.toArray 25) [.int .i64 0,.int .i64 0] 64).zRb w2.heap.size _ (by omega)) Tryz.zhf rfl (by simp [Value.oneCell']) ?_;
    have HBy:=zh ((((HB2.out.alloc (.cells zga.toArray 25)).alloc (.cells #[.int .i64 0,.int .i64 0] 64)).zRb w2.heap.size (zaa (zNc) (.slice none 0 0)).toArray (by omega)).zRb (w2.heap.size+1) ([.int .i64 p,.int .i64 c]).toArray (by omega));
    have HNy:=zh ((((Blk.new w2 zga 25).alloc (.cells #[.int .i64 0,.int .i64 0] 64)).zZc (zaa (zNc) (.slice none 0 0))).zRb (w2.heap.size+1) ([.int .i64 p,.int .i64 c]).toArray (by omega));
    have HFy:=zh (((Blk.zCe w2 (.cells zga.toArray 25) [.int .i64 0,.int .i64 0] 64).zRb w2.heap.size (zaa (zNc) (.slice none 0 0)).toArray (by omega)).zZc [.int .i64 p,.int .i64 c]);
    have HWy:=zh (below_setRow (g:=w2.heap.size+1) (below_setRow (g:=w2.heap.size) ((HW2.out.alloc HW2.out.size (.cells zga.toArray 25)).alloc (by simp;omega) (.cells #[.int .i64 0,.int .i64 0] 64)) (by omega) (zaa (zNc) (.slice none 0 0)).toArray) (by omega) ([.int .i64 p,.int .i64 c]).toArray);
    have HTy:Hid (TAt 25 _ (zNc) (fun b=>w.heap.size<b∧b<w2.heap.size) (.slice none 0 0)):=((((HT.out.alloc (.cells zga.toArray 25)).alloc (.cells #[.int .i64 0,.int .i64 0] 64)).setRow w2.heap.size (zaa (zNc) (.slice none 0 0)).toArray (fun b hb=>by omega)).setRow (w2.heap.size+1) ([.int .i64 p,.int .i64 c]).toArray (fun b hb=>by omega));
    refine zFp ((((w2.alloc (.cells zga.toArray 25)).alloc (.cells #[.int .i64 0,.int .i64 0] 64)).setRow w2.heap.size (zaa (zNc) (.slice none 0 0)).toArray).setRow (w2.heap.size+1) ([.int .i64 p,.int .i64 c]).toArray) ?_;generalize (((w2.alloc (.cells zga.toArray 25)).alloc (.cells #[.int .i64 0,.int .i64 0] 64)).setRow w2.heap.size (zaa (zNc) (.slice none 0 0)).toArray).setRow (w2.heap.size+1) ([.int .i64 p,.int .i64 c]).toArray=wy at HBy HNy HFy HWy HTy ⊢;
    have hcF:wy.cell? ⟨w2.heap.size+1,1,none⟩=some (.int .i64 c):=HFy.out.cell 1;have hzy:=HFy.out.lt))
 refine AnyE.zod (S:=fun W=>Blk W (w2.heap.size+1) [.int .i64 p,.int .i64 c] 64) (by kernel_rfl) HFy.out.drew (fun hS=>?_)
 refine AnyE.take (i:=1) (v:=.pointer (some ⟨w2.heap.size+1,0,none⟩)) rfl (by kernel_rfl) (by kernel_rfl) (by kernel_rfl) (by kernel_rfl) (fun _ _ _ h=>h) (Or.inl ⟨by rfl,fun W _=>by go_simp⟩) hS ?_
 refine AnyE.take (i:=2) (v:=.int .i64 p) rfl (by kernel_rfl) (by kernel_rfl) (by kernel_rfl) (by kernel_rfl) (fun _ _ _ h=>h) (Or.inl ⟨by rfl,fun W hW=>by have hcx:W.cell? ⟨w2.heap.size+1,0,none⟩=some (.int .i64 p):=hW.cell 0;go_simp⟩) hS ?_
 refine AnyE.take (i:=3) (v:=.pointer (some ⟨w2.heap.size+1,1,none⟩)) rfl (by kernel_rfl) (by kernel_rfl) (by kernel_rfl) (by kernel_rfl) (fun _ _ _ h=>h) (Or.inl ⟨by rfl,fun W _=>by go_simp⟩) hS ?_
 refine AnyE.take (i:=4) (v:=.int .i64 c) rfl (by kernel_rfl) (by kernel_rfl) (by kernel_rfl) (by kernel_rfl) (fun _ _ _ h=>h) (Or.inl ⟨by rfl,fun W hW=>by have hcx:W.cell? ⟨w2.heap.size+1,1,none⟩=some (.int .i64 c):=hW.cell 1;go_simp⟩) hS ?_
 refine AnyE.one (i:=0) (by kernel_rfl) rfl (by rfl) (fun K hK=>?_)
 go_simp
 refine hK.out _ _ (fun _=>HFy.out.drew) ?_
 clear hK K
 refine AnyE.one (i:=5) (by kernel_rfl) rfl (by rfl) (fun K hK=>?_)
 refine zic 25 (.tmp 2) (.tmp 30) rfl w.heap.size (zaa zNc (.slice none 0 0)) rfl rfl HBy.out.drew Tryz.zla rfl (zoa _ _ rfl) ?_
 refine hK.out _ _ (fun _=>HFy.out.drew.zRb w.heap.size _ (by omega)) ?_
 clear hK K
 refine AnyE.one (i:=6) (by kernel_rfl) rfl (by rfl) (fun K hK=>?_)
 go_simp
 refine hK.out _ _ (fun _=>HFy.out.drew.zRb w.heap.size _ (by omega)) ?_
 clear hK K
 refine AnyE.one (i:=7) (by kernel_rfl) rfl (by rfl) (fun K hK=>?_)
 go_simp
 refine hK.out _ _ (fun h=>absurd rfl h) ?_
 clear hK K
 refine AnyE.done (by kernel_rfl) ?_ _
 go_wp2
 refine zii (cs:=zaa zNc (.slice none 0 0)) Tryz.results7 rfl (HBy.out.drew.zZc _) Tryz.underlying25 rfl Tryz.zla rfl rfl rfl ?_
 rw [HP.out]
 exact ⟨.slice none 0 0,rfl,KAt.nil _ _ _,below_setRow HWy.out.drew (Nat.le_refl _) _⟩
theorem zCq {P:Program} {ops:Array Oper} {Q:Exit→Act→World→Prop} {l:List Oper} {a:Act} (W:World) (h:wpList P ops Q l a W):wpList P ops Q l a W:=h
theorem zvr (s:ByteArray) (w:World) (hs:s.size≤maxLen) (ht:Tabs w) {ts l':List Tok} {t:T} (hr:zqd s=.ok ts) (hu:zgd ts=.ok (t,l')) :
  Calls Tryz.prog 7 #[.string s] w (zAg (zvb s) w):=by
 have HTA:=zh (ht.alloc (o:=.cells zga.toArray 25))
 have HS:=zh hs
 clear ht hs
 go_enter Tryz.func7,Tryz.ntmps7
 go_wp2_with fail
 refine (zth s _ HS.out HTA.out).mono ?_
 intro e w1 hp
 rw [hr] at hp
 obtain ⟨v,rfl,hown,hb⟩:=hp
 obtain ⟨hE,hok,hlen⟩:=zug hr
 have hn:0<ts.length:=by obtain ⟨t,r,rfl⟩:=hE.ne;simp
 obtain ⟨g,cap,rfl,hg1,hg2,hcap,hrow⟩:=zBj hown hn
 have HTK:=zh (show Toks w1 g cap ts from ⟨hrow,hg2,hE,hok,hlen,hcap⟩)
 have HB:=zh ((Blk.new w zga 25).kp (Kp.of_below (pb:=w.heap.size+1) hb) (by omega))
 have HW:=zh (((Below.refl w.heap.size w).alloc (Nat.le_refl _) _).trans (hb.mono (by simp)))
 have HPB:=zh (show zvb s=zUc ts by unfold zvb;rw [hr])
 have HLEN:=zh hlen
 clear hb hr hE hok hlen hn hown hrow hg1 hg2 hcap
 go_wp2_with fail
 refine (zvm HTK.out).mono ?_
 intro e w2 hp
 rw [hu] at hp
 obtain ⟨kv,rfl,hT,hb⟩:=hp
 have hsz:=zmt hu
 have hsz2:t.size≤1000000:=by have:=HLEN.out;omega
 have HB2:=zh (HB.out.kp (Kp.of_below (pb:=w.heap.size+1) hb) (by omega))
 have HW2:=zh (HW.out.trans (hb.mono HW.out.size))
 have hz2:=HB2.out.lt
 have hz1:=HB.out.lt
 have HT:=zh (hT.mono (S':=fun b=>w.heap.size<b∧b<w2.heap.size) (fun b hb hl=>⟨by omega,hl⟩))
 have HP0:=zh (show zvb s=if 4096<t.size then (zNc,0,22) else (t,0,0) by rw [HPB.out];unfold zUc;rw [hu])
 clear hb hu hT hsz
 unfold zmb
 go_wp2_with (first
  | ((with_reducible refine zlb 25 (.tmp 8) ?_);refine zma rfl 25 (.tmp 8) (.tmp 24) rfl w2.heap.size (zaa (t) (kv)) rfl rfl ((Blk.new w2 zga 25).alloc _) Tryz.zla rfl (zoa _ _ HT.out.kat.one) ?_)
  | (
    (with_reducible refine zlb 64 (.tmp 9) ?_);refine zma rfl 64 (.tmp 9) (.tmp 25) rfl (w2.heap.size+1) [.int .i64 0,.int .i64 0] rfl rfl ((Blk.zCe w2 (.cells zga.toArray 25) [.int .i64 0,.int .i64 0] 64).zRb w2.heap.size _ (by omega)) Tryz.zhf rfl (by simp [Value.oneCell']) ?_;
    have HBy:=zh ((((HB2.out.alloc (.cells zga.toArray 25)).alloc (.cells #[.int .i64 0,.int .i64 0] 64)).zRb w2.heap.size (zaa (t) (kv)).toArray (by omega)).zRb (w2.heap.size+1) ([.int .i64 0,.int .i64 0]).toArray (by omega));
    have HNy:=zh ((((Blk.new w2 zga 25).alloc (.cells #[.int .i64 0,.int .i64 0] 64)).zZc (zaa (t) (kv))).zRb (w2.heap.size+1) ([.int .i64 0,.int .i64 0]).toArray (by omega));
    have HFy:=zh (((Blk.zCe w2 (.cells zga.toArray 25) [.int .i64 0,.int .i64 0] 64).zRb w2.heap.size (zaa (t) (kv)).toArray (by omega)).zZc [.int .i64 0,.int .i64 0]);
    have HWy:=zh (below_setRow (g:=w2.heap.size+1) (below_setRow (g:=w2.heap.size) ((HW2.out.alloc HW2.out.size (.cells zga.toArray 25)).alloc (by simp;omega) (.cells #[.int .i64 0,.int .i64 0] 64)) (by omega) (zaa (t) (kv)).toArray) (by omega) ([.int .i64 0,.int .i64 0]).toArray);
    have HTy:Hid (TAt 25 _ (t) (fun b=>w.heap.size<b∧b<w2.heap.size) (kv)):=((((HT.out.alloc (.cells zga.toArray 25)).alloc (.cells #[.int .i64 0,.int .i64 0] 64)).setRow w2.heap.size (zaa (t) (kv)).toArray (fun b hb=>by omega)).setRow (w2.heap.size+1) ([.int .i64 0,.int .i64 0]).toArray (fun b hb=>by omega));
    refine zCq ((((w2.alloc (.cells zga.toArray 25)).alloc (.cells #[.int .i64 0,.int .i64 0] 64)).setRow w2.heap.size (zaa (t) (kv)).toArray).setRow (w2.heap.size+1) ([.int .i64 0,.int .i64 0]).toArray) ?_;generalize (((w2.alloc (.cells zga.toArray 25)).alloc (.cells #[.int .i64 0,.int .i64 0] 64)).setRow w2.heap.size (zaa (t) (kv)).toArray).setRow (w2.heap.size+1) ([.int .i64 0,.int .i64 0]).toArray=wy at HBy HNy HFy HWy HTy ⊢;
    have hcF:wy.cell? ⟨w2.heap.size+1,1,none⟩=some (.int .i64 0):=HFy.out.cell 1;have hzy:=HFy.out.lt)
  | ((with_reducible refine zCc 25 (.tmp 8) ?_);refine zAa rfl 25 (.tmp 8) rfl w2.heap.size (zaa t kv) rfl HNy.out Tryz.underlying25 rfl Tryz.zla ?_))
 refine (size_any t.size t (Nat.le_refl _) HTy.out.kat hsz2).mono ?_
 rintro e w3 ⟨rfl,hb3⟩
 have HB3:=zh (HBy.out.kp (Kp.of_below (pb:=w3.heap.size) hb3) (by have:=HBy.out.lt;have:=hb3.size;omega))
 have HN3:=zh (HNy.out.kp (Kp.of_below (pb:=w3.heap.size) hb3) (by have:=HNy.out.lt;have:=hb3.size;omega))
 have HW3:=zh (HWy.out.trans (hb3.mono HWy.out.size))
 have HT3:=zh (HTy.out.below hb3)
 clear hb3
 by_cases hgt:4096<t.size
 ·have hgt':decide ((t.size:Int) > 4096)=true:=by simp;omega
  have hgt2:(4096:Int)<(t.size:Int):=by omega
  have HP:=zh (show zvb s=(zNc,0,22) by rw [HP0.out,if_pos hgt])
  clear hgt
  go_wp2_with ((with_reducible refine zlb 25 (.tmp 2) ?_);refine zma rfl 25 (.tmp 2) (.tmp 39) rfl w.heap.size (zaa zNc (.slice none 0 0)) rfl rfl HB3.out Tryz.zla rfl (zoa _ _ rfl) ?_)
  refine zii (cs:=zaa zNc (.slice none 0 0)) Tryz.results7 rfl (HB3.out.zZc _) Tryz.underlying25 rfl Tryz.zla rfl rfl rfl ?_
  rw [HP.out]
  exact ⟨.slice none 0 0,rfl,KAt.nil _ _ _,below_setRow HW3.out (Nat.le_refl _) _⟩
 ·have hgt2:¬ (4096:Int)<(t.size:Int):=by omega
  have HP:=zh (show zvb s=(t,0,0) by rw [HP0.out,if_neg hgt])
  clear hgt
  go_wp2_with (first|((with_reducible refine zCc 25 (.tmp 8) ?_);refine zAa rfl 25 (.tmp 8) rfl w2.heap.size (zaa t kv) rfl HN3.out Tryz.underlying25 rfl Tryz.zla ?_)|((with_reducible refine zlb 25 (.tmp 2) ?_);refine zma rfl 25 (.tmp 2) (.tmp 40) rfl w.heap.size (zaa t kv) rfl rfl HB3.out Tryz.zla rfl (zoa _ _ HT3.out.kat.one) ?_))
  refine zii (cs:=zaa t kv) Tryz.results7 rfl (HB3.out.zZc _) Tryz.underlying25 rfl Tryz.zla rfl rfl rfl ?_
  rw [HP.out]
  exact ⟨kv,rfl,(HT3.out.kat.setRow w.heap.size _ (fun b hb=>by omega)).mono (fun b hb _=>by omega),below_setRow HW3.out (Nat.le_refl _) _⟩
theorem parse_any (s:ByteArray) (w:World) (hs:s.size≤maxLen) (ht:Tabs w) :
  Calls Tryz.prog 7 #[.string s] w (zAg (zvb s) w):=by
 cases hr:zqd s with
 | error pc=>obtain ⟨p,c⟩:=pc;exact zpp s w hs ht hr
 | ok ts =>
  cases hu:zgd ts with
  | error pc=>obtain ⟨p,c⟩:=pc;exact zvo s w hs ht hr hu
  | ok q=>obtain ⟨t,l'⟩:=q;exact zvr s w hs ht hr hu
end Go.Proofs.YtbfgdpcgdmabpaaGreatDoor
namespace Go.Proofs.YtbfgdpcgdmabpaaGreatDoor
section
open Go.RowKit
def zSn (k:Int) (s:ByteArray):Bool :=
 bif k == 1 || k == 3 || k == 6 || k == 7 || k == 10 || k == 11 || k == 12 || k == 13 || k == 14 || k == 19 || k == 24 || k == 25 || k == 26 || k == 27 || k == 28 then zOa s
 else bif k == 5 then s.toList == [] || zOa s
 else bif k == 4 || k == 15 || k == 16 then s.toList == [60] || (s.toList == [60,61] || s.toList == [61,61])
 else true
def zbo (n:Int):Bool:=decide (n≤1099511627776) && decide (-1099511627776≤n)
def zdg (k:Int) (s:ByteArray) (n:Int):Bool:=(decide (0≤k) && decide (k≤28)) && (zbo n && zSn k s)
mutual
def T.good:T→Bool
 | .mk k s n _ ks=>zdg k s n && zwh ks
def zwh:List T→Bool
 | []=>true
 | t :: ts=>t.good && zwh ts
end
theorem zsh (k:Int) (s:ByteArray) (n:Int) (p:Nat) (ks:List T):(T.mk k s n p ks).good=(zdg k s n && zwh ks):=by rw [T.good]
theorem zSc:zwh []=true:=by rw [zwh]
theorem zkc (t:T) (ts:List T):zwh (t :: ts)=(t.good && zwh ts):=by rw [zwh]
theorem zOe:∀ a b:List T,zwh (a++b)=(zwh a && zwh b)
 | [],b=>by simp [zSc]
 | t :: ts,b=>by rw [List.cons_append,zkc,zkc,zOe ts b,Bool.and_assoc]
theorem zxi {v:Int} {t:T} (h:t.good=true) (hv:zbo v=true):(t.zAc v).good=true:=by
 cases t
 simp only [T.zAc,zsh,zdg,Bool.and_eq_true] at *
 exact ⟨⟨h.1.1,hv,h.1.2.2⟩,h.2⟩
theorem zni {t b:T} (h:t.good=true) (hb:b.good=true):(t.snoc b).good=true:=by
 cases t
 simp only [T.snoc,zsh,zOe,zkc,zSc,Bool.and_eq_true,Bool.and_true] at *
 exact ⟨h.1,h.2,hb⟩
theorem zeg:zbo 0=true:=by decide
theorem znc {k:Int} {s:ByteArray} {n:Int} (hk:(k == 1 || k == 3 || k == 6 || k == 7 || k == 10 || k == 11 || k == 12 || k == 13 || k == 14 || k == 19 || k == 24 || k == 25 || k == 26 || k == 27 || k == 28)=true) (hs:zOa s=true) (hn:zbo n=true):zdg k s n=true:=by
 have h1:zSn k s=true:=by unfold zSn;rw [hk];exact hs
 have h2:(decide (0≤k) && decide (k≤28))=true:=by
  simp only [Bool.or_eq_true,beq_iff_eq] at hk
  simp only [Bool.and_eq_true,decide_eq_true_eq]
  omega
 unfold zdg
 rw [h1,h2,hn];rfl
def TG (l:List Tok):Prop:=∀ t∈l,(t.kind=1→zOa t.text=true)∧t.num≤1099511627776
theorem TG.tail {l:List Tok} (h:TG l):TG l.tail:=fun t ht=>h t (List.mem_of_mem_tail ht)
theorem TG.hd {l:List Tok} (h:TG l):((hdT l).kind=1→zOa (hdT l).text=true)∧(hdT l).num≤1099511627776:=by
 cases l with
 | nil=>simp [hdT,zOc]
 | cons t r=>exact h t (by simp)
def Nm (s:ByteArray) (l':List Tok):Prop:=zOa s=true∧TG l'
def Nu (v:Int) (l':List Tok):Prop:=(0≤v∧v≤1099511627776)∧TG l'
def Gd (t:T) (l':List Tok):Prop:=t.good=true∧TG l'
def GdL (ts:List T) (l':List Tok):Prop:=zwh ts=true∧TG l'
def Gn (t:T) (l':List Tok):Prop:=(zOa t.text=true∧t.good=true)∧TG l'
theorem zhb {ss:List ByteArray} {l:List Tok} (h:TG l):Ok (fun t l'=>ss.any (isT t)=true∧TG l') (zSa ss l):=by
 unfold zSa
 exact Ok.cond (fun hc=>Ok.ok ⟨hc,h.tail⟩) fun _=>Ok.err
theorem znd {l:List Tok} (h:TG l):Ok Nm (zdd l):=by
 unfold zdd zCf
 refine Ok.bd (G:=Nm ∘ Tok.text) (Ok.cond (fun hc=>Ok.ok ⟨h.hd.1 (beq_iff_eq.1 hc),h.tail⟩) fun _=>Ok.err) fun _ _ h=>Ok.ok h
theorem zyd {l:List Tok} (h:TG l):Ok Nu (zVb l):=by
 unfold zVb zCf
 refine Ok.bd (G:=fun t l'=>Nu (t.num:Int) l') (Ok.cond (fun hc=>Ok.ok ⟨⟨by omega,by have:=h.hd.2;omega⟩,h.tail⟩) fun _=>Ok.err) fun _ _ h=>Ok.ok h
theorem zan {v:Int} (h:0≤v∧v≤1099511627776):zbo v=true:=by unfold zbo;simp;omega
theorem zaq {v:Int} (h:0≤v∧v≤1099511627776):zbo (-v)=true:=by unfold zbo;simp;omega
theorem zUb {k:Int} {s:ByteArray} {n:Int} {p:Nat} (h:zdg k s n=true):(T.mk k s n p []).good=true:=by rw [zsh,zSc,h];rfl
theorem zie {k:Int} {s:ByteArray} {n:Int} {p:Nat} {a:T} (h:zdg k s n=true) (ha:a.good=true):(T.mk k s n p [a]).good=true:=by rw [zsh,zkc,zSc,h,ha];rfl
theorem zlk {k:Int} {s:ByteArray} {n:Int} {p:Nat} {a b:T} (h:zdg k s n=true) (ha:a.good=true) (hb:b.good=true):(T.mk k s n p [a,b]).good=true:=by rw [zsh,zkc,zkc,zSc,h,ha,hb];rfl
theorem good_row {k:Int} {s:ByteArray} {n:Int} {p:Nat} {ks:List T} (h:zdg k s n=true) (ha:zwh ks=true):(T.mk k s n p ks).good=true:=by rw [zsh,h,ha];rfl
theorem zov:(e0.toList == [])=true:=by rw [ByteArray.toList_eq];rfl
theorem zQu {n:Int} (hn:zbo n=true):zdg 5 e0 n=true:=by
 have h1:zSn 5 e0=true:=by show (e0.toList == [] || zOa e0)=true;rw [zov];rfl
 unfold zdg;rw [h1,hn];rfl
theorem zGw {s:ByteArray} {n:Int} (hs:zOa s=true) (hn:zbo n=true):zdg 5 s n=true:=by
 have h1:zSn 5 s=true:=by show (s.toList == [] || zOa s)=true;rw [hs,Bool.or_true]
 unfold zdg;rw [h1,hn];rfl
theorem zKb {k:Int} {s:ByteArray} {n:Int} (h1:zSn k s=true) (h2:(decide (0≤k) && decide (k≤28))=true) (hn:zbo n=true):zdg k s n=true:=by unfold zdg;rw [h1,h2,hn];rfl
theorem zVf {l:List Tok} (h:TG l):Ok Gn (zYa l):=by
 unfold zYa
 exact (znd h).bd fun s l1 h1=>Ok.ok ⟨⟨h1.1,zUb (zGw h1.1 zeg)⟩,h1.2⟩
theorem zZd {l:List Tok} (h:TG l):Ok Gd (zYa l):=(zVf h).mono fun _ _ h=>⟨h.1.2,h.2⟩
theorem zCh {l:List Tok} (h:TG l):Ok Gd (zWa l):=by
 unfold zWa
 exact Ok.cond (fun _=>(zyd h.tail).bd fun n l1 h1=>Ok.ok ⟨zUb (zQu (zaq h1.1)),h1.2⟩) (fun _=>(zyd h).bd fun n l1 h1=>Ok.ok ⟨zUb (zQu (zan h1.1)),h1.2⟩)
theorem zqs {l:List Tok} {k x:Int} (h:sumP l=some (k,x)):(k=21∧x=1)∨(k=22∧x=-1):=by
 unfold sumP at h
 cases h1:isT (hdT l) (bs [43]) with
 | true=>rw [h1] at h;cases h;exact .inl ⟨rfl,rfl⟩
 | false =>
  rw [h1] at h
  cases h2:isT (hdT l) (bs [45]) with
  | true=>rw [h2] at h;cases h;exact .inr ⟨rfl,rfl⟩
  | false=>rw [h2] at h;cases h
theorem zQp {l:List Tok} {k x v:Int} (h:sumP l=some (k,x)) (hv:0≤v∧v≤1099511627776):zbo (x * v)=true:=by
 rcases zqs h with ⟨_,rfl⟩|⟨_,rfl⟩
 ·rw [Int.one_mul];exact zan hv
 ·rw [Int.neg_one_mul];exact zaq hv
theorem zqr {l:List Tok} {k x:Int} (h:sumP l=some (k,x)):zdg k e0 0=true:=by
 rcases zqs h with ⟨rfl,_⟩|⟨rfl,_⟩<;>rfl
theorem zpi {l:List Tok} (h:TG l):Ok Gd (zZb l):=by
 unfold zZb
 exact Ok.cond (fun _=>(zVf h).bd fun n l1 h1=>Ok.sum (fun _=>Ok.ok ⟨h1.1.2,h1.2⟩) fun k x hs=>(zyd h1.2.tail).bd fun v l2 h2=>Ok.ok ⟨zxi h1.1.2 (zQp hs h2.1),h2.2⟩) (fun _=>zCh h)
theorem zxo {item:List Tok→R T} (hi:∀ {l},TG l→Ok Gd (item l)):∀ (n:Nat) {l:List Tok},TG l→Ok GdL (zbe item n l)
 | 0,l,_=>Ok.err
 | n+1,l,h=>by
  rw [zbe]
  exact Ok.cond (fun _=>(hi h.tail).bd fun a l1 h1=>(zxo hi n h1.2).bd fun xs l2 h2=>Ok.ok ⟨by rw [zkc,h1.1,h2.1];rfl,h2.2⟩) (fun _=>Ok.ok ⟨zSc,h⟩)
theorem zRo {item:List Tok→R T} (hi:∀ {l},TG l→Ok Gd (item l)) {l:List Tok} (h:TG l):Ok GdL (zsd item l):=by
 unfold zsd
 exact (hi h).bd fun a l1 h1=>(zxo hi _ h1.2).bd fun xs l2 h2=>Ok.ok ⟨by rw [zkc,h1.1,h2.1];rfl,h2.2⟩
theorem zIj {item:List Tok→R T} (hi:∀ {l},TG l→Ok Gd (item l)) {l:List Tok} (h:TG l):Ok GdL (zwb item l):=by
 unfold zwb
 exact (zhb h).bd fun _ l1 h1=>Ok.cond (fun _=>Ok.ok ⟨zSc,h1.2.tail⟩) (fun _=>(zRo hi h1.2).bd fun xs l2 h2=>(zhb h2.2).bd fun _ l3 h3=>Ok.ok ⟨h2.1,h3.2⟩)
theorem zop {l:List Tok} (h:TG l):Ok Gd (zMc l):=by
 unfold zMc
 exact (zhb h).bd fun _ l1 h1=>(zpi h1.2).bd fun a l2 h2=>(zhb h2.2).bd fun _ l3 h3=>Ok.ok ⟨h2.1,h3.2⟩
theorem zfs {n:T} (hn:zOa n.text=true) {l:List Tok} (h:TG l):Ok Gd (zne n l):=by
 unfold zne
 exact (zIj zpi h).bd fun xs l1 h1=>Ok.ok ⟨good_row (znc rfl hn zeg) h1.1,h1.2⟩
theorem ref_g {p:Nat} {l:List Tok} (h:TG l):Ok Gd (zQh p l):=by
 unfold zQh
 exact Ok.cond (fun _=>(znd h.tail).bd fun s l1 h1=>Ok.ok ⟨zUb (znc rfl h1.1 zeg),h1.2⟩) (fun _=>(znd h).bd fun s l1 h1=>Ok.ok ⟨zUb (znc rfl h1.1 zeg),h1.2⟩)
theorem zVn {l:List Tok} (h:TG l):Ok Gd (zUa l):=by
 unfold zUa
 exact (zVf h).bd fun n l1 h1=>Ok.cond (fun _=>(zop h1.2).bd fun a l2 h2=>Ok.ok ⟨zie (znc rfl h1.1.1 zeg) h2.1,h2.2⟩) fun _=>Ok.cond (fun _=>zfs h1.1.1 h1.2) fun _=>Ok.sum (fun _=>Ok.ok ⟨h1.1.2,h1.2⟩) fun k x hs=>Ok.cond (fun _=>(zZd h1.2.tail).bd fun m l2 h2=>Ok.ok ⟨zlk (zqr hs) h1.1.2 h2.1,h2.2⟩) (fun _=>(zyd h1.2.tail).bd fun v l2 h2=>Ok.ok ⟨zxi h1.1.2 (zQp hs h2.1),h2.2⟩)
theorem zYw {l:List Tok} (h:TG l):Ok Gd (zbc l):=by
 unfold zbc
 exact Ok.cond (fun _=>(zyd h.tail).bd fun v l1 h1=>Ok.ok ⟨zUb (zKb rfl rfl (zan h1.1)),h1.2⟩) fun _=>Ok.cond (fun _=>(znd h.tail).bd fun s l1 h1=>Ok.ok ⟨zUb (znc rfl h1.1 zeg),h1.2⟩) fun _=>Ok.cond (fun _=>ref_g h.tail) fun _=>Ok.cond (fun _=>zVn h) fun _=>zCh h
theorem zXi {k:Int} (hk:k=4∨k=15∨k=16) {p:Nat} {l:List Tok} (h:TG l):Ok Gd (zrb k p l):=by
 unfold zrb
 refine (zpi h).bd fun a l1 h1=>(zhb h1.2).bd fun c l2 h2=>(zpi h2.2).bd fun b l3 h3=>Ok.ok ⟨zlk ?_ h1.1 h3.1,h3.2⟩
 have h4:(c.text.toList == [60] || (c.text.toList == [60,61] || c.text.toList == [61,61]))=true:=by
  have:=h2.1
  simp only [List.any_cons,List.any_nil,Bool.or_false,isT,bs,ByteArray.toList_eq] at this
  rw [ByteArray.toList_eq]
  exact this
 rcases hk with rfl|rfl|rfl
 ·exact zKb h4 rfl zeg
 ·exact zKb h4 rfl zeg
 ·exact zKb h4 rfl zeg
theorem zVv {l:List Tok} (h:TG l):Ok Gd (zre l):=by unfold zre;exact zXi (.inl rfl) h
theorem zvu {l:List Tok} (h:TG l):Ok Gd (zjc l):=by
 unfold zjc
 exact (znd h).bd fun s l1 h1=>Ok.cond (fun _=>(zZd h1.2.tail).bd fun a l2 h2=>(zhb h2.2).bd fun _ l3 h3=>Ok.ok ⟨zie (znc rfl h1.1 zeg) h2.1,h3.2⟩) (fun _=>Ok.ok ⟨zUb (znc rfl h1.1 zeg),h1.2⟩)
theorem ziw {l:List Tok} (h:TG l):Ok Gd (zld l):=by
 unfold zld
 exact (zhb h).bd fun t l1 h1=>Ok.cond (fun _=>Ok.ok ⟨zUb (zKb rfl rfl zeg),h1.2⟩) (fun _=>(zZd h1.2).bd fun a l2 h2=>Ok.ok ⟨zie (zKb rfl rfl zeg) h2.1,h2.2⟩)
theorem zBi {l:List Tok} (h:TG l):Ok Gd (zeb l):=by
 unfold zeb
 exact (zhb h).bd fun t l1 h1=>Ok.cond (fun _=>(zZd h1.2).bd fun a l2 h2=>Ok.ok ⟨zie (zKb rfl rfl zeg) h2.1,h2.2⟩) (fun _=>Ok.ok ⟨zUb (zKb rfl rfl zeg),h1.2⟩)
theorem ziv {l:List Tok} (h:TG l):Ok Gd (zwd l):=by
 unfold zwd
 exact Ok.cond (fun _=>Ok.cond (fun _=>(zZd h.tail.tail).bd fun a l2 h2=>Ok.ok ⟨zie (zKb rfl rfl zeg) h2.1,h2.2⟩) (fun _=>(zZd h.tail).bd fun a l2 h2=>Ok.ok ⟨zie (zKb rfl rfl zeg) h2.1,h2.2⟩)) (fun _=>zBi h)
theorem zWs {l:List Tok} (h:TG l):Ok Gd (zBc l):=by
 unfold zBc
 exact (znd h).bd fun s l1 h1=>(zhb h1.2).bd fun _ l2 h2=>(ziv h2.2).bd fun a l3 h3=>Ok.ok ⟨zie (znc rfl h1.1 zeg) h3.1,h3.2⟩
theorem zhr {l:List Tok} (h:TG l):Ok GdL (zoc l):=by
 unfold zoc
 exact Ok.cond (fun _=>(zRo zvu h.tail).bd fun xs l1 h1=>(zhb h1.2).bd fun _ l2 h2=>Ok.ok ⟨h1.1,h2.2⟩) (fun _=>Ok.ok ⟨zSc,h⟩)
theorem zDs {l:List Tok} (h:TG l):Ok GdL (zPc l):=by
 unfold zPc
 exact Ok.cond (fun _=>zRo zVv h.tail) (fun _=>Ok.ok ⟨zSc,h⟩)
theorem zuv {p:Nat} {l:List Tok} (h:TG l):Ok Gd (zqc p l):=by
 unfold zqc
 exact (znd h).bd fun s l1 h1=>(ziw h1.2).bd fun a l2 h2=>(zhr h2.2).bd fun ys l3 h3=>(zDs h3.2).bd fun zs l4 h4=>(zhb h4.2).bd fun _ l5 h5=>Ok.ok ⟨good_row (znc rfl h1.1 zeg) (by rw [zkc,zOe,h2.1,h3.1,h4.1];rfl),h5.2⟩
theorem zTr {k:Int} (hk:k=13∨k=14) {p:Nat} {l:List Tok} (h:TG l):Ok Gd (zGd k p l):=by
 unfold zGd
 exact (znd h).bd fun s l1 h1=>(zhb h1.2).bd fun _ l2 h2=>(zyd h2.2).bd fun v l3 h3=>(zhb h3.2).bd fun _ l4 h4=>Ok.ok ⟨zUb (znc (by rcases hk with rfl|rfl<;>rfl) h1.1 (zan h3.1)),h4.2⟩
theorem zYq {p:Nat} {l:List Tok} (h:TG l):Ok Gd (zdc p l):=by
 unfold zdc
 exact Ok.cond (fun _=>Ok.ok ⟨zUb (zKb rfl rfl zeg),h⟩) (fun _=>(zpi h).bd fun a l1 h1=>Ok.ok ⟨zie (zKb rfl rfl zeg) h1.1,h1.2⟩)
theorem zuu {l:List Tok} (h:TG l):Ok Gd (zHb l):=by
 unfold zHb
 exact (zVf h).bd fun n l1 h1=>Ok.cond (fun _=>(zfs h1.1.1 h1.2).bd fun c l2 h2=>Ok.ok ⟨zie (zKb rfl rfl zeg) h2.1,h2.2⟩) fun _=>Ok.cond (fun _=>(zop h1.2).bd fun i l2 h2=>(zhb h2.2).bd fun _ l3 h3=>(zpi h3.2).bd fun b l4 h4=>Ok.ok ⟨zlk (znc rfl h1.1.1 zeg) h2.1 h4.1,h4.2⟩) fun _=>(zhb h1.2).bd fun _ l2 h2=>(zYw h2.2).bd fun x l3 h3=>Ok.ok ⟨zie (znc rfl h1.1.1 zeg) h3.1,h3.2⟩
theorem zKq {l:List Tok} (h:TG l):Ok Gd (zbb l):=by
 unfold zbb
 exact Ok.cond (fun _=>zuu h) fun _=>Ok.cond (fun _=>(znd h.tail).bd fun s l1 h1=>Ok.ok ⟨zUb (znc rfl h1.1 zeg),h1.2⟩) fun _=>Ok.cond (fun _=>zTr (.inl rfl) h.tail) fun _=>Ok.cond (fun _=>zTr (.inr rfl) h.tail) fun _=>Ok.cond (fun _=>zYq h.tail) fun _=>Ok.cond (fun _=>Ok.ok ⟨zUb (zKb rfl rfl zeg),h.tail⟩) fun _=>Ok.cond (fun _=>(znd h.tail).bd fun s l1 h1=>(zIj zpi h1.2).bd fun xs l2 h2=>Ok.ok ⟨good_row (znc rfl h1.1 zeg) h2.1,h2.2⟩) fun _=>Ok.err
theorem zFw {blk:List Tok→R T} (hb:∀ {l},TG l→Ok Gd (blk l)) {p:Nat} {l:List Tok} (h:TG l):Ok Gd (zbf blk p l):=by
 unfold zbf
 exact Ok.cond (fun _=>hb h.tail) (fun _=>Ok.ok ⟨zUb (zKb rfl rfl zeg),h⟩)
theorem if_g {blk:List Tok→R T} (hb:∀ {l},TG l→Ok Gd (blk l)) {p:Nat} {l:List Tok} (h:TG l):Ok Gd (ifP blk p l):=by
 unfold ifP
 exact (zXi (.inr (.inl rfl)) h).bd fun n l1 h1=>(hb h1.2).bd fun b l2 h2=>(zFw hb h2.2).bd fun c l3 h3=>Ok.ok ⟨zni (zni h1.1 h2.1) h3.1,h3.2⟩
theorem zGs {blk:List Tok→R T} (hb:∀ {l},TG l→Ok Gd (blk l)) {p:Nat} {l:List Tok} (h:TG l):Ok Gd (zVd blk p l):=by
 unfold zVd
 exact (zXi (.inr (.inr rfl)) h).bd fun n l1 h1=>(hb h1.2).bd fun b l2 h2=>Ok.ok ⟨zni h1.1 h2.1,h2.2⟩
theorem zPu {blk:List Tok→R T} (hb:∀ {l},TG l→Ok Gd (blk l)) {l:List Tok} (h:TG l):Ok Gd (zPb blk l):=by
 unfold zPb
 exact Ok.cond (fun _=>if_g hb h.tail) fun _=>Ok.cond (fun _=>zGs hb h.tail) fun _=>(zKq h).bd fun n l1 h1=>(zhb h1.2).bd fun _ l2 h2=>Ok.ok ⟨h1.1,h2.2⟩
theorem zNm {item:List Tok→R T} (hi:∀ {l},TG l→Ok Gd (item l)):∀ (n:Nat) {l:List Tok},TG l→Ok GdL (zsc item n l)
 | 0,l,_=>Ok.err
 | n+1,l,h=>by
  rw [zsc]
  exact Ok.cond (fun _=>Ok.ok ⟨zSc,h.tail⟩) (fun _=>(hi h).bd fun a l1 h1=>(zNm hi n h1.2).bd fun xs l2 h2=>Ok.ok ⟨by rw [zkc,h1.1,h2.1];rfl,h2.2⟩)
theorem zlp:∀ (n:Nat) {l:List Tok},TG l→Ok Gd (zsb n l)
 | 0,l,h=>by rw [zsb];exact (zhb h).bd fun _ _ _=>Ok.err
 | n+1,l,h=>by
  rw [zsb]
  exact (zhb h).bd fun t l1 h1=>(zNm (zPu (zlp n)) _ h1.2).bd fun xs l2 h2=>Ok.ok ⟨good_row (zKb rfl rfl zeg) h2.1,h2.2⟩
theorem zVq {l:List Tok} (h:TG l):Ok Gd (zmc l):=by
 unfold zmc
 exact Ok.cond (fun _=>zBi h.tail) (fun _=>Ok.ok ⟨zUb (zKb rfl rfl zeg),h⟩)
theorem fn_g {p:Nat} {l:List Tok} (h:TG l):Ok Gd (fnP p l):=by
 unfold fnP
 exact (znd h).bd fun s l1 h1=>(zIj zWs h1.2).bd fun xs l2 h2=>(zVq h2.2).bd fun r l3 h3=>(zlp 8 h3.2).bd fun b l4 h4=>Ok.ok ⟨good_row (znc rfl h1.1 zeg) (by rw [zOe,zkc,zkc,zSc,h2.1,h3.1,h4.1];rfl),h4.2⟩
theorem zLv {l:List Tok} (h:TG l):Ok Gd (zHd l):=by
 unfold zHd
 exact (zhb h).bd fun t l1 h1=>Ok.cond (fun _=>zuv h1.2) (fun _=>fn_g h1.2)
theorem zzo:∀ (n:Nat) {l:List Tok},TG l→Ok GdL (zRd n l)
 | 0,l,_=>Ok.err
 | n+1,l,h=>by
  rw [zRd]
  exact Ok.cond (fun _=>Ok.ok ⟨zSc,h⟩) (fun _=>(zLv h).bd fun a l1 h1=>(zzo n h1.2).bd fun xs l2 h2=>Ok.ok ⟨by rw [zkc,h1.1,h2.1];rfl,h2.2⟩)
theorem zbx {l l':List Tok} {t:T} (hl:TG l) (h:zgd l=.ok (t,l')):t.good=true:=by
 have h1:Ok Gd (zgd l):=by
  unfold zgd
  exact (zzo _ hl).bd fun xs l1 h=>Ok.ok ⟨good_row (zKb rfl rfl zeg) h.1,h.2⟩
 exact (h1 t l' h).1
theorem zsi (p:Int→Bool):∀ l:List UInt8,zqb p (l.take (zqb p l))=zqb p l
 | []=>by simp [zqb]
 | b :: r=>by
  have ih:=zsi p r
  by_cases hb:p (b.toNat:Int)=true
  ·rw [zqb,if_pos hb,List.take_succ_cons,zqb,if_pos hb,ih]
  ·rw [zqb,if_neg hb];rfl
theorem zep (s:ByteArray) (k n:Nat):(s.extract k (k+n)).data.toList=(s.data.toList.drop k).take n:=by
 rw [ByteArray.data_extract,Array.toList_extract]
 simp [List.extract]
theorem zgq {s:ByteArray} {k:Nat} {t:Tok} (hk:k<s.size) (hl:zQg ((bat s k).toNat:Int)=true) (h:zWc s k=.ok t):t.kind=1→zOa t.text=true:=by
 have hz:=zzk hk hl h
 unfold zWc at h
 split at h
 ·cases h
 ·rename_i h16
  split at h
  ·cases h;intro hc;cases hc
  ·rename_i hkey
   cases h
   intro _
   have hle:=zTe zLd s k (by omega)
   have hsz:=zMd s k (endOf zLd s k) hle
   simp only at hz ⊢
   have hd:=drop_at s k hk
   have hlist:(s.extract k (endOf zLd s k)).data.toList=(s.data.toList.drop k).take (zqb zLd (s.data.toList.drop k)):=zep s k _
   have hrun:endOf zLd (s.extract k (endOf zLd s k)) 0=(s.extract k (endOf zLd s k)).size:=by
    rw [hsz]
    show 0+zqb zLd ((s.extract k (endOf zLd s k)).data.toList.drop 0)=_
    rw [List.drop_zero,hlist,zsi]
    unfold endOf
    omega
   have hat:at0 (s.extract k (endOf zLd s k))=((bat s k).toNat:Int):=by
    unfold at0
    rw [hlist,zNd s k hk,hd]
    have:0<zqb zLd (s.data.toList.drop k):=by
     have h1:=hz.1
     rw [hsz] at h1
     unfold endOf at h1
     omega
    rw [hd] at this
    obtain ⟨m,hm⟩:=Nat.exists_eq_succ_of_ne_zero (Nat.pos_iff_ne_zero.1 this)
    rw [hm,List.take_succ_cons]
    rfl
   unfold zOa
   rw [hat,hl,hrun]
   have hk2:zYg (s.extract k (endOf zLd s k))=false:=by simpa using hkey
   rw [hk2]
   simp only [Bool.and_true,Bool.not_false,decide_true,Bool.and_eq_true,decide_eq_true_eq]
   exact ⟨hz.1,by omega⟩
theorem zbr {s:ByteArray} {k:Nat} {t:Tok} (hk:k<s.size) (h:zae s k=.ok t):t.kind=1→zOa t.text=true:=by
 have hs:∀ n,zGb s k n=.ok t→t.kind≠1:=by
  intro n
  induction n with
  | zero =>
   unfold zGb zpf
   split
   ·intro h;cases h;simp
   ·intro h;cases h
  | succ n ih =>
   unfold zGb
   split
   ·intro h;cases h;simp
   ·exact ih
 unfold zae at h
 split at h
 ·rename_i hl
  exact zgq hk hl h
 ·split at h
  ·unfold zUd at h
   split at h
   ·cases h
   ·cases h;intro hc;cases hc
  ·intro hc;exact absurd hc (hs 3 h)
theorem zPj {s:ByteArray}:∀ k,∀ ts,lexFrom s k=.ok ts→∀ t∈ts,t.kind=1→zOa t.text=true:=by
 apply znm (P:=fun k r=>∀ ts,r=.ok ts→∀ t∈ts,t.kind=1→zOa t.text=true)
 ·intro k _ ts h t ht
  cases h
  obtain rfl:t=zkg s:=by simpa using ht
  intro hc;cases hc
 ·intro k _ _ ih;exact ih
 ·intro k _ _ ih;exact ih
 ·intro k e _ _ _ _ ts h;cases h
 ·intro k t hk _ _ ht ih ts h
  cases hr:lexFrom s (k+t.text.size) with
  | error e=>rw [hr] at h;cases h
  | ok ts' =>
   rw [hr] at h
   cases h
   intro u hu
   rcases List.mem_cons.1 hu with rfl|hu
   ·exact zbr hk ht
   ·exact ih ts' hr u hu
theorem zIk {s:ByteArray} {ts:List Tok} (h:zqd s=.ok ts):TG ts:=by
 have hg:=(zug h).2.1
 unfold zqd at h
 split at h
 ·cases h
 ·exact fun t ht=>⟨zPj 0 ts h t ht,(hg t ht).num⟩
theorem zWo:zNc.good=true:=zUb (zKb rfl rfl zeg)
theorem zcg (s:ByteArray):(zvb s).1.good=true∧(zvb s).1.size≤4096:=by
 have hz:zNc.good=true∧zNc.size≤4096:=⟨zWo,by unfold zNc;rw [size_mk,zVa];omega⟩
 unfold zvb
 cases hl:zqd s with
 | error e=>exact hz
 | ok ts =>
  simp only
  unfold zUc
  cases hu:zgd ts with
  | error e=>exact hz
  | ok q =>
   obtain ⟨t,l⟩:=q
   simp only
   by_cases hs:4096<t.size
   ·rw [if_pos hs];exact hz
   ·rw [if_neg hs];exact ⟨zbx (zIk hl) hu,by simp only;omega⟩
end
section
open Go.RowKit
section
variable {P:Program} {ops:Array Oper} {Q:Exit→Act→World→Prop} {md:Region.Mode} {S:World→Prop}
theorem AnyH.only {i:Nat} {o:Oper} {fuel:Nat} {listed:Array Bool} {a:Act} {w:World} (hr:Region.ready md ops listed=[i]) (ho:ops[i]?=some o) (hw:Region.wanted o (yielded ops a.tmps)=true)
  (h:∀ K:Act→World→Prop,Shut (∀ a w,S w→wpAnyH P md ops Q S fuel (listed.setIfInBounds i true) a w→K a w)→o.wp P a w K Q):wpAnyH P md ops Q S (fuel+1) listed a w:=by
 refine ⟨(fun h0=>by rw [hr] at h0;cases h0),fun j hj=>?_⟩
 rw [hr] at hj
 obtain rfl:j=i:=by simpa using hj
 refine wpOp_step ho fun K' hK=>?_
 rw [if_pos hw]
 exact h K' fun a w hS hA=>hK a w ⟨hS,hA⟩
end
end
section
open Go.ChangeShapes Go.WideShapes Go.ChangeAt Go.ChangeMaps Go.RowKit
end
section
open Go.RowKit
structure Tm where
 name:ByteArray
 num:Int
structure Ins where
 op:Int
 place:Nat
 x:ByteArray
 y:ByteArray
 a:Tm
 b:Tm
 args:List Tm
 to:Nat
 has:Bool
end
end Go.Proofs.YtbfgdpcgdmabpaaGreatDoor
