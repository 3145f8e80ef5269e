/- The contract of syntax.Size. Plain facts on the account of lex.Tokens: what a token hangs on is the bytes from its place on, of these its own bytes and the one behind them. Nothing of the program is walked here. Plain facts on faults: what stands ahead of the first fault is read without one, and what begins at its place has it at once. Nothing of the program is walked here. Towards the contract of syntax.Parse in a world that holds the tables of lex: it answers what the plain reader does, in new memory, and changes nothing that was there. syntax.Parse where the tokens have a fault. syntax.Parse where the tokens are read. The contract of syntax.Parse in a world that holds the tables of lex: it answers what the plain reader does, in new memory, and changes nothing that was there. The row of a slice of trees. Nothing of the program is walked here. The plain account of layer 7: instructions, and how a function's tree is laid out as a list of them. Nothing of the program is walked here. -/
import Derived.Test.YthdbmgijpelecaaGreatDoorZ03
import Derived.Test.YthdbmgijpelecaaGreatDoorZ11
import Derived.Test.YthdbmgijpelecaaGreatDoorZ01
import Derived.Test.YthdbmgijpelecaaGreatDoorZ02
import Derived.Test.YthdbmgijpelecaaGreatDoorZ04
namespace Go.Proofs.YthdbmgijpelecaaGreatDoor
set_option maxRecDepth 100000
set_option maxHeartbeats 2000000
section
open Go.RowKit
def zyp (w:World) (ks:List T) (g:Nat) (s i:Value) (wr:World):Prop :=
 ∃ k:Nat,k≤ks.length∧ks.length≤k+g∧i=.int .i64 k∧s=.int .i64 ((1+sizes (ks.take k):Nat):Int)∧Below w.heap.size w wr
theorem size_any:∀ (n:Nat) (t:T),t.size≤n→∀ {w:World} {S:Nat→Prop} {kv:Value},KAt 25 w t.kids S kv→t.size≤1000000 →
  Calls Tryz.prog 30 #[zOa t kv] w fun e w'=>e=.returned (.int .i64 t.size)∧Below w.heap.size w w':=by
 intro n
 induction n with
 | zero=>intro t ht;cases t;rw [size_mk] at ht;omega
 | succ n ih =>
  intro t ht w S kv hk hbig
  have hts:t.size=1+sizes t.kids:=by cases t;rw [size_mk];rfl
  have HTS:=zh hts
  have HT:=zh ht
  have HBIG:=zh hbig
  have HIH:=zh (@ih)
  have hkl:t.kids.length≤sizes t.kids:=by
   have:∀ ks:List T,ks.length≤sizes ks:=fun ks=>by
    induction ks with
    | nil=>simp
    | cons a ks h=>rw [zoa];cases a;rw [size_mk];simp;omega
   exact this _
  have hkl2:t.kids.length≤1000000:=by omega
  rcases hk.form with ⟨rfl,hnil⟩|⟨g,cap,rfl,hg,hcap,hcm,hget⟩
  ·have HN:=zh hnil
   clear hk ih ht hbig hts hnil hkl hkl2
   unfold zOa
   go_enter Tryz.func30,Tryz.ntmps30
   go_wp2_with fail
   refine wp_loop_rounds 1 ?_
   rw [rounds_succ]
   go_wp2_with fail
   go_ret
   refine ⟨?_,(Below.refl _ _).alloc (Nat.le_refl _) _⟩
   rw [HTS.out,HN.out,zma]
   rfl
  ·have HG:=zh hget
   have HCAP:=zh hcap
   clear hk ih ht hbig hts hget hkl hcap
   unfold maxLen at hcm
   unfold zOa
   go_enter Tryz.func30,Tryz.ntmps30
   go_wp2_with fail
   go_loopg [3,9] t.kids.length (fun gk s i wr=>zyp w t.kids gk s i wr)
   case atStart=>exact ⟨0,by omega,by omega,rfl,by rw [List.take_zero,zma];rfl,(Below.refl _ _).alloc (Nat.le_refl _) _⟩
   case round =>
    obtain ⟨k,hk,hgk,rfl,rfl,hbel⟩:=hrel
    have HB:=zh hbel
    have hzw:=hbel.size
    have hsl:sizes (t.kids.take k)≤1000000:=by have h1:=zxi t.kids k;have h2:=HTS.out;have h3:=HBIG.out;omega
    clear hbel
    by_cases hlt:k<t.kids.length
    ·obtain ⟨u,hr,hT⟩:=HG.out k t.kids[k] (List.getElem?_eq_getElem hlt)
     have hne:=List.getElem?_eq_getElem hlt
     generalize t.kids[k]=tk at hr hT hne
     have HR:=zh (ztd hr ((HB.out.mono (Nat.le_refl _))) hg)
     have HTK:=zh (hT.below (HB.out))
     have HNE:=zh hne
     have hcap:=HCAP.out
     have hks:=zhh hne
     clear hr hT hne
     go_wp2_with (first
      | ((with_reducible refine zNb 25 (.tmp 11) ?_);refine wpList_load_mid rfl 25 (.tmp 11) rfl g (k * 5) rfl (zaa tk u) _ HR.out Tryz.underlying25 rfl Tryz.zda ?_)
      | ((with_reducible refine zFa 25 (.tmp 5) ?_);refine zHa rfl 25 (.tmp 5) (.tmp 12) rfl (zaa tk u) (old:=zba) rfl rfl Tryz.zda rfl (zea _ _ HTK.out.kat.one) ?_)
      | ((with_reducible refine zNb 25 (.tmp 5) ?_);refine zga rfl 25 (.tmp 5) rfl wr.heap.size (zaa tk u) rfl (Blk.new wr _ _) Tryz.underlying25 rfl Tryz.zda ?_))
     refine (HIH.out tk (by have h2:=HTS.out;have h3:=HT.out;omega) (HTK.out.alloc _).kat (by have h2:=HTS.out;have h3:=HBIG.out;omega)).mono ?_
     rintro e w2 ⟨rfl,hb2⟩
     have HB2:=zh ((HB.out.alloc hzw _).trans (hb2.mono (by simp;omega)))
     have hks2:tk.size≤1000000:=by have h2:=HTS.out;have h3:=HBIG.out;omega
     clear hb2
     go_wp2
     go_roundg (gk-1)
     case measure=>omega
     case rel =>
      refine ⟨k+1,by omega,by omega,by go_num,?_,HB2.out⟩
      rw [zZk _ _ _ HNE.out]
      go_num
    ·have HE:=zh (show t.kids.take k=t.kids from List.take_of_length_le (by omega))
     go_wp2
     go_ret
     exact ⟨by rw [HTS.out,HE.out];rfl,HB.out⟩
end
section
open Go.RowKit
def zQr (l:List UInt8):Bool:=l == [45,62] || l == [60,61] || l == [61,61]
end
section
open Go.RowKit
theorem zck {s:ByteArray} {P:Nat→zuf→Prop}
  (hend:∀ k,s.size≤k→P k (.ok [zif s]))
  (hblank:∀ k,k<s.size→zmc (bat s k)=true→P (k+1) (lexFrom s (k+1))→P k (lexFrom s (k+1)))
  (hrem:∀ k,k<s.size→bat s k=35→P (endOf zgl s k) (lexFrom s (endOf zgl s k))→P k (lexFrom s (endOf zgl s k)))
  (herr:∀ k e,k<s.size→zmc (bat s k)=false→¬ bat s k=35→zmd s k=.error e→P k (.error (k,e)))
  (htok:∀ k t,k<s.size→zmc (bat s k)=false→¬ bat s k=35→zmd s k=.ok t→P (k+t.text.size) (lexFrom s (k+t.text.size))→P k (more [t] (lexFrom s (k+t.text.size)))) :
  ∀ k,P k (lexFrom s k):=by
 intro k
 generalize hm:s.size-k=m
 induction m using Nat.strongRecOn generalizing k with
 | ind m ih =>
  rcases Nat.lt_or_ge k s.size with hk|hk
  ·cases hb:zmc (bat s k)
   ·by_cases hr:bat s k=35
    ·rw [zRh hk hr]
     have:=zye hk hr
     exact hrem k hk hr (ih _ (by omega) _ rfl)
    ·cases ht:zmd s k with
     | error e=>rw [zzl hk hb hr ht];exact herr k e hk hb hr ht
     | ok t =>
      rw [zJl hk hb hr ht]
      have:=(zRd hk ht).1
      exact htok k t hk hb hr ht (ih _ (by omega) _ rfl)
   ·rw [zKg hk hb]
    exact hblank k hk hb (ih _ (by omega) _ rfl)
  ·rw [zam hk]
   exact hend k hk
theorem zhl {ts:List Tok} {r:zuf} {x:Nat × Int} (h:more ts r=.error x):r=.error x:=by
 cases r with
 | error e=>exact h
 | ok t=>cases h
theorem zxl {s:ByteArray} {k:Nat} {e:Int}:∀ j,lexFrom s j=.error (k,e)→j≤k∧k<s.size∧zmc (bat s k)=false∧¬ bat s k=35∧zmd s k=.error e:=by
 apply zck (P:=fun j r=>r=.error (k,e)→j≤k∧k<s.size∧zmc (bat s k)=false∧¬ bat s k=35∧zmd s k=.error e)
 ·intro j _ h;cases h
 ·intro j _ _ ih h
  have:=ih h
  exact ⟨by omega,this.2⟩
 ·intro j hj hb ih h
  have:=ih h
  have h2:=zye hj hb
  exact ⟨by omega,this.2⟩
 ·intro j e' hj hb hr ht h
  cases h
  exact ⟨Nat.le_refl _,hj,hb,hr,ht⟩
 ·intro j t hj hb hr ht ih h
  have:=ih (zhl h)
  have h2:=(zRd hj ht).1
  exact ⟨by omega,this.2⟩
end
section
open Go.RowKit
theorem zNk {s:ByteArray} {k:Nat} {t:Tok} (h:zmd s k=.ok t):t.kind≠0∧t.num≤1099511627776∧t.place=k:=by
 have hs:∀ n,zgb s k n=.ok t→t.kind≠0∧t.num≤1099511627776∧t.place=k:=by
  intro n
  induction n with
  | zero =>
   unfold zgb zxe
   split
   ·intro h;cases h;exact ⟨by simp,by simp,rfl⟩
   ·intro h;cases h
  | succ n ih =>
   unfold zgb
   split
   ·intro h;cases h;exact ⟨by simp,by simp,rfl⟩
   ·exact ih
 unfold zmd at h
 split at h
 ·unfold zkc at h
  split at h
  ·cases h
  ·split at h<;>cases h<;>exact ⟨by simp,by simp,rfl⟩
 ·split at h
  ·unfold zjd at h
   split at h
   ·cases h
   ·rename_i hc
    cases h
    exact ⟨by simp,by simp only;omega,rfl⟩
  ·exact hs 3 h
theorem zNi {s:ByteArray} (hs:s.size≤16384):∀ k,k≤s.size→∀ ts,lexFrom s k=.ok ts→Ends ts∧(∀ t∈ts,zpi t)∧ts.length+k≤s.size+1:=by
 apply zck (P:=fun k r=>k≤s.size→∀ ts,r=.ok ts→Ends ts∧(∀ t∈ts,zpi t)∧ts.length+k≤s.size+1)
 ·intro k _ hk ts h
  cases h
  refine ⟨.inl ⟨rfl,rfl,rfl⟩,fun t ht=>?_,by simp;omega⟩
  obtain rfl:t=zif s:=by simpa using ht
  exact ⟨by simp [zif],hs,by show (0:Nat)≤_;omega⟩
 ·intro k hk _ ih _ ts h
  obtain ⟨h1,h2,h3⟩:=ih (by omega) ts h
  exact ⟨h1,h2,by omega⟩
 ·intro k hk hb ih _ ts h
  have hg:=zye hk hb
  obtain ⟨h1,h2,h3⟩:=ih (zMd zgl s k (by omega)) ts h
  exact ⟨h1,h2,by omega⟩
 ·intro k e _ _ _ _ _ ts h;cases h
 ·intro k t hk _ _ ht ih _ ts h
  have hz:=zRd hk ht
  have hg:=zNk ht
  cases hr:lexFrom s (k+t.text.size) with
  | error e=>rw [hr] at h;cases h
  | ok ts' =>
   rw [hr] at h
   cases h
   obtain ⟨h1,h2,h3⟩:=ih hz.2 ts' hr
   refine ⟨.inr ⟨hg.1,h1⟩,fun u hu=>?_,by simp;omega⟩
   rcases List.mem_cons.1 hu with rfl|hu
   ·exact ⟨hg.2.1,by rw [hg.2.2];omega,by omega⟩
   ·exact h2 u hu
theorem zYe {s:ByteArray} {ts:List Tok} (h:zLc s=.ok ts):Ends ts∧(∀ t∈ts,zpi t)∧ts.length≤16385:=by
 unfold zLc at h
 split at h
 ·cases h
 ·obtain ⟨h1,h2,h3⟩:=zNi (by omega) 0 (by omega) ts h
  exact ⟨h1,h2,by omega⟩
theorem zBj {s:ByteArray} {p:Nat} {c:Int} (h:zLc s=.error (p,c)):10≤c∧c≤13:=by
 unfold zLc at h
 split at h
 ·cases h;decide
 ·obtain ⟨_,_,_,_,h1⟩:=zxl 0 h
  have:=zXi h1
  omega
def zAf (r:T × Nat × Int) (w:World) (e:Ending) (w':World):Prop :=
 ∃ kv,e=.returned (.tuple #[zOa r.1 kv,.int .i64 r.2.1,.int .i64 r.2.2])∧KAt 25 w' r.1.kids (fun b=>w.heap.size≤b) kv∧Below w.heap.size w w'
theorem zCg {P:Program} {fn:Func} {s u z:Tmp} {ty t:TypeId} (h:fn.results=#[.cell s ty,.tmp u,.tmp z]) {a:Act} {W:World} {g:Nat} {cs:List Value} {d:TypeDesc} {R:Ending→World→Prop} {x y:Value} (hs:a.tmps.getD s undef=.pointer (some ⟨g,0,none⟩))
  (hb:Blk W g cs t) (hu:P.underlying ty=some d) (hd:d.isRow=true) (hi:(P.info? ty).map (·.size)=some cs.length) (hx:a.tmps.getD u undef=x) (hy:a.tmps.getD z undef=y) (hdf:a.defers=[]) (hR:R (.returned (.tuple #[.agg cs.toArray,x,y])) W) :
  bodyPost P fn R .ret a W:=by
 refine bodyPost_ret ?_ hdf hR
 have hl:=run_loadVar_mid (P:=P) W g 0 ty cs d (fun j v hj=>by rw [Nat.zero_add,hb.cell j];exact hj) hu hd hi
 have hs':a.tmps[s]?.getD undef=.pointer (some ⟨g,0,none⟩):=by rw [← hs];simp
 have hx':a.tmps[u]?.getD undef=x:=by rw [← hx];simp
 have hy':a.tmps[z]?.getD undef=y:=by rw [← hy];simp
 simp [results,h,hs',asAddr,hl,hx',hy']
theorem below_setRow {B:Nat} {w W:World} (hb:Below B w W) {g:Nat} (hg:B≤g) (cs:Array Value):Below B w (W.setRow g cs) :=
 ⟨hb.os,hb.tape,hb.output,by simpa using hb.size,fun k hk=>(setRow_other W g k cs (by omega)).trans (hb.block k hk)⟩
theorem zmm (s:ByteArray) (w:World) (hs:s.size≤maxLen) (ht:Tabs w) {p:Nat} {c:Int} (hr:zLc s=.error (p,c)) :
  Calls Tryz.prog 11 #[.string s] w (zAf (zlb s) w):=by
 have HTA:=zh (ht.alloc (o:=.cells zba.toArray 25))
 have HS:=zh hs
 clear ht hs
 go_enter Tryz.func11,Tryz.ntmps11
 go_wp2_with fail
 refine (zIf s _ HS.out HTA.out).mono ?_
 intro e w1 hp
 rw [hr] at hp
 obtain ⟨rfl,hb⟩:=hp
 have hcd:=zBj hr
 have hne:(c != 0)=true:=by rw [bne_iff_ne];omega
 have HP:=zh (show zlb s=(zWb,p,c) by unfold zlb;rw [hr])
 have HB:=zh ((Blk.new w zba 25).kp (Kp.of_below (pb:=w.heap.size+1) hb) (by omega))
 have HW:=zh (((Below.refl w.heap.size w).alloc (Nat.le_refl _) _).trans (hb.mono (by simp)))
 clear hb hr hcd
 go_wp2_with ((with_reducible refine zFa 25 (.tmp 2) ?_);refine zca rfl 25 (.tmp 2) (.tmp 18) rfl w.heap.size (zaa zWb (.slice none 0 0)) rfl rfl HB.out Tryz.zda rfl (zea _ _ rfl) ?_)
 refine zCg (cs:=zaa zWb (.slice none 0 0)) Tryz.results11 rfl (HB.out.zcc _) Tryz.underlying25 rfl Tryz.zda rfl rfl rfl ?_
 rw [HP.out]
 exact ⟨.slice none 0 0,rfl,KAt.nil _ _ _,below_setRow HW.out (Nat.le_refl _) _⟩
theorem zLm {P:Program} {ops:Array Oper} {Q:Exit→Act→World→Prop} {l:List Oper} {a:Act} (W:World) (h:wpList P ops Q l a W):wpList P ops Q l a W:=h
theorem zDl (s:ByteArray) (w:World) (hs:s.size≤maxLen) (ht:Tabs w) {ts:List Tok} {p:Nat} {c:Int} (hr:zLc s=.ok ts) (hu:zqd ts=.error (p,c)) :
  Calls Tryz.prog 11 #[.string s] w (zAf (zlb s) w):=by
 have HTA:=zh (ht.alloc (o:=.cells zba.toArray 25))
 have HS:=zh hs
 clear ht hs
 go_enter Tryz.func11,Tryz.ntmps11
 go_wp2_with fail
 refine (zIf s _ HS.out HTA.out).mono ?_
 intro e w1 hp
 rw [hr] at hp
 obtain ⟨v,rfl,hown,hb⟩:=hp
 obtain ⟨hE,hok,hlen⟩:=zYe hr
 have hn:0<ts.length:=by obtain ⟨t,r,rfl⟩:=hE.ne;simp
 obtain ⟨g,cap,rfl,hg1,hg2,hcap,hrow⟩:=zQh hown hn
 have HTK:=zh (show Toks w1 g cap ts from ⟨hrow,hg2,hE,hok,hlen,hcap⟩)
 have HB:=zh ((Blk.new w zba 25).kp (Kp.of_below (pb:=w.heap.size+1) hb) (by omega))
 have HW:=zh (((Below.refl w.heap.size w).alloc (Nat.le_refl _) _).trans (hb.mono (by simp)))
 have HPB:=zh (show zlb s=zpc ts by unfold zlb;rw [hr])
 have HLEN:=zh hlen
 clear hb hr hE hok hlen hn hown hrow hg1 hg2 hcap
 go_wp2_with fail
 refine (zCk HTK.out).mono ?_
 intro e w2 hp
 rw [hu] at hp
 obtain ⟨rfl,hb,hcd⟩:=hp
 have hne:(c != 0)=true:=by rw [bne_iff_ne];omega
 have HP:=zh (show zlb s=(zWb,p,c) by rw [HPB.out];unfold zpc;rw [hu])
 have HB2:=zh (HB.out.kp (Kp.of_below (pb:=w.heap.size+1) hb) (by omega))
 have HW2:=zh (HW.out.trans (hb.mono HW.out.size))
 have hz2:=HB2.out.lt
 clear hb hu hcd
 have HT:=zh ((KAt.nil 25 w2 (fun b=>w.heap.size<b∧b<w2.heap.size)).tat 0 e0 0 0)
 unfold zOa
 go_wp2_with (first
  | ((with_reducible refine zFa 25 (.tmp 8) ?_);refine zca rfl 25 (.tmp 8) (.tmp 24) rfl w2.heap.size (zaa (zWb) (.slice none 0 0)) rfl rfl ((Blk.new w2 zba 25).alloc _) Tryz.zda rfl (zea _ _ rfl) ?_)
  | (
    (with_reducible refine zFa 68 (.tmp 9) ?_);refine zca rfl 68 (.tmp 9) (.tmp 25) rfl (w2.heap.size+1) [.int .i64 p,.int .i64 c] rfl rfl ((Blk.zFd w2 (.cells zba.toArray 25) [.int .i64 0,.int .i64 0] 68).zcb w2.heap.size _ (by omega)) Tryz.zTd rfl (by simp [Value.oneCell']) ?_;
    have HBy:=zh ((((HB2.out.alloc (.cells zba.toArray 25)).alloc (.cells #[.int .i64 0,.int .i64 0] 68)).zcb w2.heap.size (zaa (zWb) (.slice none 0 0)).toArray (by omega)).zcb (w2.heap.size+1) ([.int .i64 p,.int .i64 c]).toArray (by omega));
    have HNy:=zh ((((Blk.new w2 zba 25).alloc (.cells #[.int .i64 0,.int .i64 0] 68)).zcc (zaa (zWb) (.slice none 0 0))).zcb (w2.heap.size+1) ([.int .i64 p,.int .i64 c]).toArray (by omega));
    have HFy:=zh (((Blk.zFd w2 (.cells zba.toArray 25) [.int .i64 0,.int .i64 0] 68).zcb w2.heap.size (zaa (zWb) (.slice none 0 0)).toArray (by omega)).zcc [.int .i64 p,.int .i64 c]);
    have HWy:=zh (below_setRow (g:=w2.heap.size+1) (below_setRow (g:=w2.heap.size) ((HW2.out.alloc HW2.out.size (.cells zba.toArray 25)).alloc (by simp;omega) (.cells #[.int .i64 0,.int .i64 0] 68)) (by omega) (zaa (zWb) (.slice none 0 0)).toArray) (by omega) ([.int .i64 p,.int .i64 c]).toArray);
    have HTy:Hid (TAt 25 _ (zWb) (fun b=>w.heap.size<b∧b<w2.heap.size) (.slice none 0 0)):=((((HT.out.alloc (.cells zba.toArray 25)).alloc (.cells #[.int .i64 0,.int .i64 0] 68)).setRow w2.heap.size (zaa (zWb) (.slice none 0 0)).toArray (fun b hb=>by omega)).setRow (w2.heap.size+1) ([.int .i64 p,.int .i64 c]).toArray (fun b hb=>by omega));
    refine zLm ((((w2.alloc (.cells zba.toArray 25)).alloc (.cells #[.int .i64 0,.int .i64 0] 68)).setRow w2.heap.size (zaa (zWb) (.slice none 0 0)).toArray).setRow (w2.heap.size+1) ([.int .i64 p,.int .i64 c]).toArray) ?_;generalize (((w2.alloc (.cells zba.toArray 25)).alloc (.cells #[.int .i64 0,.int .i64 0] 68)).setRow w2.heap.size (zaa (zWb) (.slice none 0 0)).toArray).setRow (w2.heap.size+1) ([.int .i64 p,.int .i64 c]).toArray=wy at HBy HNy HFy HWy HTy ⊢;
    have hcF:wy.cell? ⟨w2.heap.size+1,1,none⟩=some (.int .i64 c):=HFy.out.cell 1;have hzy:=HFy.out.lt))
 refine AnyE.zoc (S:=fun W=>Blk W (w2.heap.size+1) [.int .i64 p,.int .i64 c] 68) (by kernel_rfl) HFy.out.drew (fun hS=>?_)
 refine AnyE.take (i:=1) (v:=.pointer (some ⟨w2.heap.size+1,0,none⟩)) rfl (by kernel_rfl) (by kernel_rfl) (by kernel_rfl) (by kernel_rfl) (fun _ _ _ h=>h) (Or.inl ⟨by rfl,fun W _=>by go_simp⟩) hS ?_
 refine AnyE.take (i:=2) (v:=.int .i64 p) rfl (by kernel_rfl) (by kernel_rfl) (by kernel_rfl) (by kernel_rfl) (fun _ _ _ h=>h) (Or.inl ⟨by rfl,fun W hW=>by have hcx:W.cell? ⟨w2.heap.size+1,0,none⟩=some (.int .i64 p):=hW.cell 0;go_simp⟩) hS ?_
 refine AnyE.take (i:=3) (v:=.pointer (some ⟨w2.heap.size+1,1,none⟩)) rfl (by kernel_rfl) (by kernel_rfl) (by kernel_rfl) (by kernel_rfl) (fun _ _ _ h=>h) (Or.inl ⟨by rfl,fun W _=>by go_simp⟩) hS ?_
 refine AnyE.take (i:=4) (v:=.int .i64 c) rfl (by kernel_rfl) (by kernel_rfl) (by kernel_rfl) (by kernel_rfl) (fun _ _ _ h=>h) (Or.inl ⟨by rfl,fun W hW=>by have hcx:W.cell? ⟨w2.heap.size+1,1,none⟩=some (.int .i64 c):=hW.cell 1;go_simp⟩) hS ?_
 refine AnyE.one (i:=0) (by kernel_rfl) rfl (by rfl) (fun K hK=>?_)
 go_simp
 refine hK.out _ _ (fun _=>HFy.out.drew) ?_
 clear hK K
 refine AnyE.one (i:=5) (by kernel_rfl) rfl (by rfl) (fun K hK=>?_)
 refine zKb 25 (.tmp 2) (.tmp 30) rfl w.heap.size (zaa zWb (.slice none 0 0)) rfl rfl HBy.out.drew Tryz.zda rfl (zea _ _ rfl) ?_
 refine hK.out _ _ (fun _=>HFy.out.drew.zcb w.heap.size _ (by omega)) ?_
 clear hK K
 refine AnyE.one (i:=6) (by kernel_rfl) rfl (by rfl) (fun K hK=>?_)
 go_simp
 refine hK.out _ _ (fun _=>HFy.out.drew.zcb w.heap.size _ (by omega)) ?_
 clear hK K
 refine AnyE.one (i:=7) (by kernel_rfl) rfl (by rfl) (fun K hK=>?_)
 go_simp
 refine hK.out _ _ (fun h=>absurd rfl h) ?_
 clear hK K
 refine AnyE.done (by kernel_rfl) ?_ _
 go_wp2
 refine zCg (cs:=zaa zWb (.slice none 0 0)) Tryz.results11 rfl (HBy.out.drew.zcc _) Tryz.underlying25 rfl Tryz.zda rfl rfl rfl ?_
 rw [HP.out]
 exact ⟨.slice none 0 0,rfl,KAt.nil _ _ _,below_setRow HWy.out.drew (Nat.le_refl _) _⟩
theorem zYn {P:Program} {ops:Array Oper} {Q:Exit→Act→World→Prop} {l:List Oper} {a:Act} (W:World) (h:wpList P ops Q l a W):wpList P ops Q l a W:=h
theorem zdo (s:ByteArray) (w:World) (hs:s.size≤maxLen) (ht:Tabs w) {ts l':List Tok} {t:T} (hr:zLc s=.ok ts) (hu:zqd ts=.ok (t,l')) :
  Calls Tryz.prog 11 #[.string s] w (zAf (zlb s) w):=by
 have HTA:=zh (ht.alloc (o:=.cells zba.toArray 25))
 have HS:=zh hs
 clear ht hs
 go_enter Tryz.func11,Tryz.ntmps11
 go_wp2_with fail
 refine (zIf s _ HS.out HTA.out).mono ?_
 intro e w1 hp
 rw [hr] at hp
 obtain ⟨v,rfl,hown,hb⟩:=hp
 obtain ⟨hE,hok,hlen⟩:=zYe hr
 have hn:0<ts.length:=by obtain ⟨t,r,rfl⟩:=hE.ne;simp
 obtain ⟨g,cap,rfl,hg1,hg2,hcap,hrow⟩:=zQh hown hn
 have HTK:=zh (show Toks w1 g cap ts from ⟨hrow,hg2,hE,hok,hlen,hcap⟩)
 have HB:=zh ((Blk.new w zba 25).kp (Kp.of_below (pb:=w.heap.size+1) hb) (by omega))
 have HW:=zh (((Below.refl w.heap.size w).alloc (Nat.le_refl _) _).trans (hb.mono (by simp)))
 have HPB:=zh (show zlb s=zpc ts by unfold zlb;rw [hr])
 have HLEN:=zh hlen
 clear hb hr hE hok hlen hn hown hrow hg1 hg2 hcap
 go_wp2_with fail
 refine (zCk HTK.out).mono ?_
 intro e w2 hp
 rw [hu] at hp
 obtain ⟨kv,rfl,hT,hb⟩:=hp
 have hsz:=zgq hu
 have hsz2:t.size≤1000000:=by have:=HLEN.out;omega
 have HB2:=zh (HB.out.kp (Kp.of_below (pb:=w.heap.size+1) hb) (by omega))
 have HW2:=zh (HW.out.trans (hb.mono HW.out.size))
 have hz2:=HB2.out.lt
 have hz1:=HB.out.lt
 have HT:=zh (hT.mono (S':=fun b=>w.heap.size<b∧b<w2.heap.size) (fun b hb hl=>⟨by omega,hl⟩))
 have HP0:=zh (show zlb s=if 4096<t.size then (zWb,0,22) else (t,0,0) by rw [HPB.out];unfold zpc;rw [hu])
 clear hb hu hT hsz
 unfold zOa
 go_wp2_with (first
  | ((with_reducible refine zFa 25 (.tmp 8) ?_);refine zca rfl 25 (.tmp 8) (.tmp 24) rfl w2.heap.size (zaa (t) (kv)) rfl rfl ((Blk.new w2 zba 25).alloc _) Tryz.zda rfl (zea _ _ HT.out.kat.one) ?_)
  | (
    (with_reducible refine zFa 68 (.tmp 9) ?_);refine zca rfl 68 (.tmp 9) (.tmp 25) rfl (w2.heap.size+1) [.int .i64 0,.int .i64 0] rfl rfl ((Blk.zFd w2 (.cells zba.toArray 25) [.int .i64 0,.int .i64 0] 68).zcb w2.heap.size _ (by omega)) Tryz.zTd rfl (by simp [Value.oneCell']) ?_;
    have HBy:=zh ((((HB2.out.alloc (.cells zba.toArray 25)).alloc (.cells #[.int .i64 0,.int .i64 0] 68)).zcb w2.heap.size (zaa (t) (kv)).toArray (by omega)).zcb (w2.heap.size+1) ([.int .i64 0,.int .i64 0]).toArray (by omega));
    have HNy:=zh ((((Blk.new w2 zba 25).alloc (.cells #[.int .i64 0,.int .i64 0] 68)).zcc (zaa (t) (kv))).zcb (w2.heap.size+1) ([.int .i64 0,.int .i64 0]).toArray (by omega));
    have HFy:=zh (((Blk.zFd w2 (.cells zba.toArray 25) [.int .i64 0,.int .i64 0] 68).zcb w2.heap.size (zaa (t) (kv)).toArray (by omega)).zcc [.int .i64 0,.int .i64 0]);
    have HWy:=zh (below_setRow (g:=w2.heap.size+1) (below_setRow (g:=w2.heap.size) ((HW2.out.alloc HW2.out.size (.cells zba.toArray 25)).alloc (by simp;omega) (.cells #[.int .i64 0,.int .i64 0] 68)) (by omega) (zaa (t) (kv)).toArray) (by omega) ([.int .i64 0,.int .i64 0]).toArray);
    have HTy:Hid (TAt 25 _ (t) (fun b=>w.heap.size<b∧b<w2.heap.size) (kv)):=((((HT.out.alloc (.cells zba.toArray 25)).alloc (.cells #[.int .i64 0,.int .i64 0] 68)).setRow w2.heap.size (zaa (t) (kv)).toArray (fun b hb=>by omega)).setRow (w2.heap.size+1) ([.int .i64 0,.int .i64 0]).toArray (fun b hb=>by omega));
    refine zYn ((((w2.alloc (.cells zba.toArray 25)).alloc (.cells #[.int .i64 0,.int .i64 0] 68)).setRow w2.heap.size (zaa (t) (kv)).toArray).setRow (w2.heap.size+1) ([.int .i64 0,.int .i64 0]).toArray) ?_;generalize (((w2.alloc (.cells zba.toArray 25)).alloc (.cells #[.int .i64 0,.int .i64 0] 68)).setRow w2.heap.size (zaa (t) (kv)).toArray).setRow (w2.heap.size+1) ([.int .i64 0,.int .i64 0]).toArray=wy at HBy HNy HFy HWy HTy ⊢;
    have hcF:wy.cell? ⟨w2.heap.size+1,1,none⟩=some (.int .i64 0):=HFy.out.cell 1;have hzy:=HFy.out.lt)
  | ((with_reducible refine zNb 25 (.tmp 8) ?_);refine zga rfl 25 (.tmp 8) rfl w2.heap.size (zaa t kv) rfl HNy.out Tryz.underlying25 rfl Tryz.zda ?_))
 refine (size_any t.size t (Nat.le_refl _) HTy.out.kat hsz2).mono ?_
 rintro e w3 ⟨rfl,hb3⟩
 have HB3:=zh (HBy.out.kp (Kp.of_below (pb:=w3.heap.size) hb3) (by have:=HBy.out.lt;have:=hb3.size;omega))
 have HN3:=zh (HNy.out.kp (Kp.of_below (pb:=w3.heap.size) hb3) (by have:=HNy.out.lt;have:=hb3.size;omega))
 have HW3:=zh (HWy.out.trans (hb3.mono HWy.out.size))
 have HT3:=zh (HTy.out.below hb3)
 clear hb3
 by_cases hgt:4096<t.size
 ·have hgt':decide ((t.size:Int) > 4096)=true:=by simp;omega
  have hgt2:(4096:Int)<(t.size:Int):=by omega
  have HP:=zh (show zlb s=(zWb,0,22) by rw [HP0.out,if_pos hgt])
  clear hgt
  go_wp2_with ((with_reducible refine zFa 25 (.tmp 2) ?_);refine zca rfl 25 (.tmp 2) (.tmp 39) rfl w.heap.size (zaa zWb (.slice none 0 0)) rfl rfl HB3.out Tryz.zda rfl (zea _ _ rfl) ?_)
  refine zCg (cs:=zaa zWb (.slice none 0 0)) Tryz.results11 rfl (HB3.out.zcc _) Tryz.underlying25 rfl Tryz.zda rfl rfl rfl ?_
  rw [HP.out]
  exact ⟨.slice none 0 0,rfl,KAt.nil _ _ _,below_setRow HW3.out (Nat.le_refl _) _⟩
 ·have hgt2:¬ (4096:Int)<(t.size:Int):=by omega
  have HP:=zh (show zlb s=(t,0,0) by rw [HP0.out,if_neg hgt])
  clear hgt
  go_wp2_with (first|((with_reducible refine zNb 25 (.tmp 8) ?_);refine zga rfl 25 (.tmp 8) rfl w2.heap.size (zaa t kv) rfl HN3.out Tryz.underlying25 rfl Tryz.zda ?_)|((with_reducible refine zFa 25 (.tmp 2) ?_);refine zca rfl 25 (.tmp 2) (.tmp 40) rfl w.heap.size (zaa t kv) rfl rfl HB3.out Tryz.zda rfl (zea _ _ HT3.out.kat.one) ?_))
  refine zCg (cs:=zaa t kv) Tryz.results11 rfl (HB3.out.zcc _) Tryz.underlying25 rfl Tryz.zda rfl rfl rfl ?_
  rw [HP.out]
  exact ⟨kv,rfl,(HT3.out.kat.setRow w.heap.size _ (fun b hb=>by omega)).mono (fun b hb _=>by omega),below_setRow HW3.out (Nat.le_refl _) _⟩
theorem parse_any (s:ByteArray) (w:World) (hs:s.size≤maxLen) (ht:Tabs w) :
  Calls Tryz.prog 11 #[.string s] w (zAf (zlb s) w):=by
 cases hr:zLc s with
 | error pc=>obtain ⟨p,c⟩:=pc;exact zmm s w hs ht hr
 | ok ts =>
  cases hu:zqd ts with
  | error pc=>obtain ⟨p,c⟩:=pc;exact zDl s w hs ht hr hu
  | ok q=>obtain ⟨t,l'⟩:=q;exact zdo s w hs ht hr hu
end
section
open Go.RowKit
end
section
open Go.RowKit
structure Tm where
 name:ByteArray
 num:Int
structure Ins where
 op:Int
 place:Nat
 x:ByteArray
 y:ByteArray
 a:Tm
 b:Tm
 args:List Tm
 to:Nat
 has:Bool
structure Cod where
 name:ByteArray
 params:List ByteArray
 list:List Ins
def cod0:Cod:=⟨e0,[],[]⟩
end
end Go.Proofs.YthdbmgijpelecaaGreatDoor
namespace Go.Proofs.YthdbmgijpelecaaGreatDoor
section
open Go.RowKit
theorem Below.row {B:Nat} {a w:World} (h:Below B a w) {g:Nat} (hg:B≤g) (cs:Array Value):Below B a (w.setRow g cs) :=
 ⟨h.os,h.tape,h.output,by simpa [World.setRow] using h.size,fun k hk=>(setRow_other w g k cs (by omega)).trans (h.block k hk)⟩
theorem Blk.stays {w w':World} {g:Nat} {cs:List Value} {t:TypeId} (h:Blk w g cs t) (hb:Below w.heap.size w w'):Blk w' g cs t:=(hb.block g h.lt).trans h
def zgp (t:Tm):List Value:=[.string t.name,.int .i64 t.num]
def zok:List Tm→List Value
 | []=>[]
 | t :: ts=>zgp t++zok ts
def zXb (i:Ins) (v:Value):List Value :=
 [.int .i64 i.op,.int .i64 i.place,.string i.x,.string i.y,.string i.a.name,.int .i64 i.a.num,.string i.b.name,.int .i64 i.b.num,v,.int .i64 i.to,.bool i.has]
def zve:List Ins→List Value→List Value
 | i :: is,v :: vs=>zXb i v++zve is vs
 | _,_=>[]
def zyb (w:World) (ts:List Tm) (S:Nat→Prop) (v:Value):Prop :=
 w.ownsRow 0 98 2 v ts.length (zok ts)∧∀ g,v.ownBlock=some g→S g
def zwb (w:World):List Ins→(Nat→Prop)→List Value→Prop
 | [],_,vs=>vs=[]
 | i :: is,S,vs=>∃ v vs',vs=v :: vs'∧zyb w i.args S v∧zwb w is S vs'
def zPb (w:World) (is:List Ins) (S:Nat→Prop) (v:Value):Prop :=
 ∃ vs,w.ownsRow 0 101 11 v is.length (zve is vs)∧(∀ g,v.ownBlock=some g→S g)∧zwb w is (fun b=>S b∧v.ownBlock≠some b) vs
theorem zyb.nil (w:World) (S:Nat→Prop):zyb w [] S (.slice none 0 0) :=
 ⟨World.ownsRow_nil _ _ _ _,fun g h=>by simp [Value.ownBlock] at h⟩
theorem zyb.one {w:World} {ts:List Tm} {S:Nat→Prop} {v:Value} (h:zyb w ts S v):v.oneCell'=true:=by
 rcases h.1.2 with ⟨rfl,_⟩|⟨_,_,_,rfl,_⟩<;>rfl
theorem zyb.slice {w:World} {ts:List Tm} {S:Nat→Prop} {v:Value} (h:zyb w ts S v):∃ a n c,v=.slice a n c:=by
 rcases h.1.2 with ⟨rfl,_⟩|⟨_,_,_,rfl,_⟩<;>exact ⟨_,_,_,rfl⟩
theorem zCc {w w':World} {o:Nat} {e:TypeId} {m n:Nat} {v:Value} {xs:List Value} (h:w.ownsRow o e m v n xs) (hk:∀ g,v.ownBlock=some g→w'.heap[g]?=w.heap[g]?):w'.ownsRow o e m v n xs:=by
 refine ⟨h.1,?_⟩
 rcases h.2 with hn|⟨g,cap,cur,rfl,hb,hg,rest⟩
 ·exact .inl hn
 ·exact .inr ⟨g,cap,cur,rfl,hb,(hk g rfl).trans hg,rest⟩
theorem zyb.keep {w w':World} {ts:List Tm} {S S':Nat→Prop} {v:Value} (h:zyb w ts S v) (hk:∀ b,S b→b<w.heap.size→S' b∧w'.heap[b]?=w.heap[b]?):zyb w' ts S' v :=
 ⟨zCc h.1 fun g hg=>(hk g (h.2 g hg) (h.1.lt g hg).2).2,fun g hg=>(hk g (h.2 g hg) (h.1.lt g hg).2).1⟩
theorem zwb.keep {w w':World}:∀ (is:List Ins) {S S':Nat→Prop} {vs:List Value},zwb w is S vs→(∀ b,S b→b<w.heap.size→S' b∧w'.heap[b]?=w.heap[b]?)→zwb w' is S' vs
 | [],_,_,_,h,_=>h
 | i :: is,S,S',vs,h,hk=>by
  obtain ⟨v,vs',e,ha,hs⟩:=h
  exact ⟨v,vs',e,ha.keep hk,zwb.keep is hs hk⟩
theorem zPb.keep {w w':World} {is:List Ins} {S S':Nat→Prop} {v:Value} (h:zPb w is S v) (hk:∀ b,S b→b<w.heap.size→S' b∧w'.heap[b]?=w.heap[b]?):zPb w' is S' v:=by
 obtain ⟨vs,ho,hS,ha⟩:=h
 exact ⟨vs,zCc ho fun g hg=>(hk g (hS g hg) (ho.lt g hg).2).2,fun g hg=>(hk g (hS g hg) (ho.lt g hg).2).1,zwb.keep is ha fun b hb hl=>⟨⟨(hk b hb.1 hl).1,hb.2⟩,(hk b hb.1 hl).2⟩⟩
theorem zwb.length {w:World}:∀ {is:List Ins} {S:Nat→Prop} {vs:List Value},zwb w is S vs→vs.length=is.length
 | [],_,_,h=>by rw [show _=[] from h];rfl
 | i :: is,_,_,h=>by obtain ⟨v,vs',rfl,_,h'⟩:=h;simp [zwb.length h']
theorem zwb.append {w:World}:∀ {is js:List Ins} {S:Nat→Prop} {vs us:List Value},zwb w is S vs→zwb w js S us→zwb w (is++js) S (vs++us)
 | [],_,_,vs,_,h,h'=>by rw [show vs=[] from h];exact h'
 | i :: is,js,_,_,us,h,h'=>by
  obtain ⟨v,vs',rfl,ha,hs⟩:=h
  exact ⟨v,vs'++us,rfl,ha,zwb.append hs h'⟩
theorem zPb.nil (w:World) (S:Nat→Prop):zPb w [] S (.slice none 0 0) :=
 ⟨[],World.ownsRow_nil _ _ _ _,(fun g h=>by simp [Value.ownBlock] at h),rfl⟩
section
variable {w w':World} {is:List Ins} {ts:List Tm} {S S':Nat→Prop} {v:Value}
theorem zPb.mono (h:zPb w is S v) (hS:∀ b,S b→b<w.heap.size→S' b):zPb w is S' v:=h.keep fun b hb hl=>⟨hS b hb hl,rfl⟩
theorem zPb.below (h:zPb w is S v) (hk:Below w.heap.size w w'):zPb w' is S v:=h.keep fun b hb hl=>⟨hb,hk.block b hl⟩
theorem zPb.alloc (h:zPb w is S v) (o:Obj):zPb (w.alloc o) is S v:=h.keep fun b hb hl=>⟨hb,Below.heap_alloc w o b hl⟩
theorem zPb.drew (h:zPb w is S v):zPb w.drew is S v:=h.keep fun _ hb _=>⟨hb,rfl⟩
theorem zPb.setRow (h:zPb w is S v) (g:Nat) (cs:Array Value) (hS:∀ b,S b→b≠g):zPb (w.setRow g cs) is S v:=h.keep fun b hb _=>⟨hb,setRow_other w g b cs (hS b hb)⟩
theorem zPb.setCell (h:zPb w is S v) (a:Addr) (x:Value) (hS:∀ b,S b→b≠a.block):zPb (w.setCell a x) is S v:=h.keep fun b hb _=>⟨hb,Below.heap_setCell w a x b (hS b hb)⟩
theorem zyb.mono (h:zyb w ts S v) (hS:∀ b,S b→b<w.heap.size→S' b):zyb w ts S' v:=h.keep fun b hb hl=>⟨hS b hb hl,rfl⟩
theorem zyb.below (h:zyb w ts S v) (hk:Below w.heap.size w w'):zyb w' ts S v:=h.keep fun b hb hl=>⟨hb,hk.block b hl⟩
theorem zyb.alloc (h:zyb w ts S v) (o:Obj):zyb (w.alloc o) ts S v:=h.keep fun b hb hl=>⟨hb,Below.heap_alloc w o b hl⟩
theorem zyb.drew (h:zyb w ts S v):zyb w.drew ts S v:=h.keep fun _ hb _=>⟨hb,rfl⟩
theorem zyb.setRow (h:zyb w ts S v) (g:Nat) (cs:Array Value) (hS:∀ b,S b→b≠g):zyb (w.setRow g cs) ts S v:=h.keep fun b hb _=>⟨hb,setRow_other w g b cs (hS b hb)⟩
theorem zyb.setCell (h:zyb w ts S v) (a:Addr) (x:Value) (hS:∀ b,S b→b≠a.block):zyb (w.setCell a x) ts S v:=h.keep fun b hb _=>⟨hb,Below.heap_setCell w a x b (hS b hb)⟩
end
theorem zPb.slice {w:World} {is:List Ins} {S:Nat→Prop} {v:Value} (h:zPb w is S v):∃ a c,v=.slice a is.length c:=by
 obtain ⟨_,ho,_⟩:=h
 rcases ho.2 with ⟨rfl,h0⟩|⟨g,cap,_,rfl,_⟩
 ·exact ⟨_,_,by rw [h0]⟩
 ·exact ⟨_,_,rfl⟩
theorem zPb.one {w:World} {is:List Ins} {S:Nat→Prop} {v:Value} (h:zPb w is S v):v.oneCell'=true:=by
 obtain ⟨_,_,rfl⟩:=h.slice
 rfl
def Ins.zcg (i:Ins) (to:Nat):Ins:=⟨i.op,i.place,i.x,i.y,i.a,i.b,i.args,to,i.has⟩
theorem zTf:∀ (is:List Ins) (vs:List Value) (k:Nat) (i:Ins) (u:Value) (j:Nat),is[k]?=some i→vs[k]?=some u→j<11→(zve is vs)[k * 11+j]?=(zXb i u)[j]?
 | [],_,k,t,u,j,h,_,_=>by simp at h
 | _ :: _,[],k,t,u,j,_,h,_=>by simp at h
 | a :: ks,b :: vs,0,t,u,j,h,h',hj=>by
  obtain rfl:a=t:=by simpa using h
  obtain rfl:b=u:=by simpa using h'
  rw [zve,Nat.zero_mul,Nat.zero_add,List.getElem?_append_left (by simpa [zXb] using hj)]
 | a :: ks,b :: vs,k+1,t,u,j,h,h',hj=>by
  rw [zve,List.getElem?_append_right (by simp [zXb];omega)]
  have e:(k+1) * 11+j-(zXb a b).length=k * 11+j:=by simp [zXb];omega
  rw [e]
  exact zTf ks vs k t u j (by simpa using h) (by simpa using h') hj
theorem zwb.get {w:World}:∀ {is:List Ins} {S:Nat→Prop} {vs:List Value},zwb w is S vs→∀ {k:Nat} {i:Ins},is[k]?=some i→∃ u,vs[k]?=some u∧zyb w i.args S u
 | [],_,_,_,k,t,h=>by simp at h
 | a :: ts,S,vs,h,0,t,hk=>by
  obtain ⟨v,vs',rfl,ht,_⟩:=h
  obtain rfl:a=t:=by simpa using hk
  exact ⟨v,rfl,ht⟩
 | a :: ts,S,vs,h,k+1,t,hk=>by
  obtain ⟨v,vs',rfl,_,hts⟩:=h
  obtain ⟨u,hu,ht⟩:=zwb.get hts (k:=k) (i:=t) (by simpa using hk)
  exact ⟨u,by simpa using hu,ht⟩
theorem zMh (i:Ins) (v:Value) (to:Nat):(zXb i v).set 9 (.int .i64 to)=zXb (i.zcg to) v:=rfl
theorem zfg:∀ (is:List Ins) (vs:List Value) (k:Nat) (i:Ins) (to:Nat),vs.length=is.length→is[k]?=some i→(zve is vs).set (k * 11+9) (.int .i64 to)=zve (is.set k (i.zcg to)) vs
 | [],_,k,t,_,_,h=>by simp at h
 | a :: ks,[],k,t,_,h,_=>by simp at h
 | a :: ks,b :: vs,0,t,to,_,h=>by
  obtain rfl:a=t:=by simpa using h
  rw [List.set_cons_zero,zve,zve,Nat.zero_mul,Nat.zero_add,List.set_append_left _ _ (by simp [zXb]),zMh]
 | a :: ks,b :: vs,k+1,t,to,hl,h=>by
  rw [List.set_cons_succ,zve,zve,List.set_append_right _ _ (by simp [zXb];omega)]
  have e:(k+1) * 11+9-(zXb a b).length=k * 11+9:=by simp [zXb];omega
  rw [e,zfg ks vs k t to (by simpa using hl) (by simpa using h)]
theorem zwb.zcg {w:World}:∀ {is:List Ins} {S:Nat→Prop} {vs:List Value} {k:Nat} {i:Ins} {to:Nat},zwb w is S vs→is[k]?=some i→zwb w (is.set k (i.zcg to)) S vs
 | [],_,_,k,t,_,_,h=>by simp at h
 | a :: ks,_,_,0,t,_,h,hk=>by
  obtain ⟨v,vs',rfl,ha,hs⟩:=h
  obtain rfl:a=t:=by simpa using hk
  exact ⟨v,vs',rfl,ha,hs⟩
 | a :: ks,_,_,k+1,t,_,h,hk=>by
  obtain ⟨v,vs',rfl,ha,hs⟩:=h
  exact ⟨v,vs',rfl,ha,zwb.zcg hs (by simpa using hk)⟩
end
section
open Go.RowKit
end
section
open Go.RowKit
end
section
open Go.RowKit
end
end Go.Proofs.YthdbmgijpelecaaGreatDoor
