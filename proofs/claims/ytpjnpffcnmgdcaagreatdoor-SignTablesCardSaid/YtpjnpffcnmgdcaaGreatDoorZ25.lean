/- The contracts of shape's leaves: Facts, sortOf, failAt, kidOf, isArray, isKept, the closures that compare a name, slices.IndexFunc, find, Table.Find. The contracts of sign's leaves: modeOf, namesType, kidOf, the closures that compare, slices.IndexFunc and slices.ContainsFunc over parameters. The contracts of shape's find, number, variable, sizeOf, and of Table.Find: what has a name first. The contracts of shape's number, variable and sizeOf. -/
import Derived.Test.YtpjnpffcnmgdcaaGreatDoorZ23
import Derived.Deep.QuietTactic
import Derived.BigQuiet
import Derived.Deep.LoopGhost
import Derived.Test.YtpjnpffcnmgdcaaGreatDoorZ24
import Derived.Deep.DeepCutAuto
namespace Go.Proofs.YtpjnpffcnmgdcaaGreatDoor
set_option maxRecDepth 100000
set_option maxHeartbeats 2000000
section
open Go.RowKit
theorem Tryz.zYe:(Tryz.prog.info? 67).map (·.size)=some 5:=by kernel_rfl
theorem Tryz.zoc:(Tryz.prog.info? 153).map (·.size)=some 7:=by kernel_rfl
theorem Tryz.zWs:(Tryz.prog.info? 173).map (·.size)=some 2:=by kernel_rfl
theorem RAt.lit {α:Type} {e:TypeId} {m:Nat} {c:α→List Value} (w:World) (xs:List α) (cs:List Value) (n:Nat) (hn:xs.length=n) (hcs:cs=xs.flatMap c) (hl:cs.length=n * m) (hm:n≤maxLen) (S:Nat→Prop) (hS:S w.heap.size) :
  RAt e m c (w.alloc (.cells cs.toArray e)) xs S (.slice (some ⟨w.heap.size,0,none⟩) n n):=by
 subst hn
 refine ⟨⟨by rw [← hcs,hl],.inr ⟨w.heap.size,xs.length,cs.toArray,rfl,Nat.zero_le _,heap_alloc_new w _,Nat.le_refl _,hm,by simpa using hl,?_⟩⟩,fun g hg=>?_⟩
 ·rw [← hcs,← hl];simp
 ·simp only [Value.ownBlock,Option.some.injEq] at hg;subst hg;exact hS
def zyf (w:World) (l:List Fa) (e:Ending) (w':World):Prop:=∃ v,e=.returned v∧zhl w' l (fun b=>w.heap.size≤b) v∧Below w.heap.size w w'
theorem zIq (cmp:ByteArray) (a b k l:Int) (w:World) :
  Calls Tryz.prog 93 #[.string cmp,.int .i64 a,.int .i64 b,.int .i64 k,.int .i64 l] w (zyf w (zIe cmp a b k l)):=by
 cases h1:cmp.toList == [60]
 ·cases h2:cmp.toList == [60,61]
  ·cases h3:cmp.toList == [61,61]
   ·have HR:=zh (show zyf w (zIe cmp a b k l) (.returned (.slice none 0 0)) w by unfold zIe;rw [h1,h2,h3];exact ⟨_,rfl,RAt.nil _ _,Below.refl _ _⟩)
    go_enter Tryz.func93,Tryz.ntmps93
    go_wp2
    go_ret
    exact HR.out
   ·have HR:=zh (show zyf w (zIe cmp a b k l) (.returned (.slice (some ⟨w.heap.size,0,none⟩) 2 2)) (w.alloc (.cells #[.int .i64 a,.int .i64 b,.int .i64 (wrap64 (l-k)),.int .i64 b,.int .i64 a,.int .i64 (wrap64 (k-l))] 190)) by
     unfold zIe;rw [h1,h2,h3]
     exact ⟨_,rfl,RAt.lit w _ _ 2 rfl rfl rfl (by decide) _ (Nat.le_refl _),(Below.refl _ _).alloc (Nat.le_refl _) _⟩)
    go_enter Tryz.func93,Tryz.ntmps93
    go_wp2
    go_ret
    exact HR.out
  ·have HR:=zh (show zyf w (zIe cmp a b k l) (.returned (.slice (some ⟨w.heap.size,0,none⟩) 1 1)) (w.alloc (.cells #[.int .i64 a,.int .i64 b,.int .i64 (wrap64 (l-k))] 190)) by
    unfold zIe;rw [h1,h2]
    exact ⟨_,rfl,RAt.lit w _ _ 1 rfl rfl rfl (by decide) _ (Nat.le_refl _),(Below.refl _ _).alloc (Nat.le_refl _) _⟩)
   go_enter Tryz.func93,Tryz.ntmps93
   go_wp2
   go_ret
   exact HR.out
 ·have HR:=zh (show zyf w (zIe cmp a b k l) (.returned (.slice (some ⟨w.heap.size,0,none⟩) 1 1)) (w.alloc (.cells #[.int .i64 a,.int .i64 b,.int .i64 (wrap64 (wrap64 (l-k)-1))] 190)) by
   unfold zIe;rw [h1]
   exact ⟨_,rfl,RAt.lit w _ _ 1 rfl rfl rfl (by decide) _ (Nat.le_refl _),(Below.refl _ _).alloc (Nat.le_refl _) _⟩)
  go_enter Tryz.func93,Tryz.ntmps93
  go_wp2
  go_ret
  exact HR.out
theorem zou {a b:Int} (h:a=b):Ending.returned (.int .i64 a)=.returned (.int .i64 b):=by rw [h]
theorem zyk {a b:Bool} (h:a=b):Ending.returned (.bool a)=.returned (.bool b):=by rw [h]
theorem zjj (s:ByteArray) (w:World) :
  Calls Tryz.prog 62 #[.string s] w fun e w'=>e=.returned (.int .i64 (zNc s))∧w'=w:=by
 have HS:=zh (show ∀ z:Int,zNc s=z→Ending.returned (.int .i64 z)=.returned (.int .i64 (zNc s)) from fun z h=>by rw [h])
 cases h1:s.toList == [99,101,108,108]
 ·cases h2:s.toList == [99,111,117,110,116,101,100]
  ·cases h3:s.toList == [108,111,99,107]
   ·cases h4:s.toList == [103,117,97,114,100]
    all_goals
     go_enter Tryz.func62,Tryz.ntmps62
     go_wp2
     go_ret
     exact ⟨HS.out _ (by unfold zNc;rw [h1,h2,h3,h4];rfl),rfl⟩
   ·go_enter Tryz.func62,Tryz.ntmps62
    go_wp2
    go_ret
    exact ⟨HS.out _ (by unfold zNc;rw [h1,h2,h3];rfl),rfl⟩
  ·go_enter Tryz.func62,Tryz.ntmps62
   go_wp2
   go_ret
   exact ⟨HS.out _ (by unfold zNc;rw [h1,h2];rfl),rfl⟩
 ·go_enter Tryz.func62,Tryz.ntmps62
  go_wp2
  go_ret
  exact ⟨HS.out _ (by unfold zNc;rw [h1];rfl),rfl⟩
def sfV (p:Nat) (c:Int):Value:=.iface 82 (.agg #[.int .i64 p,.int .i64 c])
def zkr (w:World) (p:Nat) (c:Int) (e:Ending) (w':World):Prop:=e=.panicked [{ v:=sfV p c,recovered:=false }]∧Below w.heap.size w w'
theorem zmc (t:T) (kv:Value) (c:Int) (w:World) :
  Calls Tryz.prog 60 #[zna t kv,.int .i64 c] w (zkr w t.place c):=by
 unfold zna
 go_enter Tryz.func60,Tryz.ntmps60
 go_wp2
 exact ⟨rfl,rfl,(Below.refl _ _).alloc (Nat.le_refl _) _⟩
theorem zVp {t:T} {i:Nat} (h:i<t.kids.length):zJa t i=t.kids[i]:=by unfold zJa;simp [h]
theorem zQm {t:T} {i:Nat} (h:t.kids.length≤i):zJa t i=zdb:=by unfold zJa;simp [h]
def zRj (w:World) (t:T) (S:Nat→Prop) (e:Ending) (w':World):Prop:=∃ u,e=.returned (zna t u)∧KAt 25 w' t.kids S u∧Below w.heap.size w w'
theorem zvb {w:World} {t:T} {S:Nat→Prop} {kv:Value} (hk:KAt 25 w t.kids S kv) (i:Nat) :
  Calls Tryz.prog 90 #[zna t kv,.int .i64 i] w (zRj w (zJa t i) S):=by
 rcases Nat.lt_or_ge i t.kids.length with hi|hi
 ·rw [zVp hi]
  rcases hk.form with ⟨rfl,hnil⟩|⟨g,cap,rfl,hg,hcap,hcm,hget⟩
  ·rw [hnil] at hi;simp at hi
  ·obtain ⟨u,hr,hT⟩:=hget i t.kids[i] (List.getElem?_eq_getElem hi)
   generalize t.kids[i]=tk at hr hT ⊢
   generalize t.kids.length=n at *
   unfold zna
   clear hget hk
   have HB:=zh (show Below w.heap.size w ((w.alloc (.cells (zaa t (.slice (some ⟨g,0,none⟩) n cap)).toArray 25)).alloc (.cells zba.toArray 25)) from (((Below.refl _ _).alloc (Nat.le_refl _) _).alloc (by simp) _))
   have HRes:=zh (Blk.zTe w (.cells (zaa t (.slice (some ⟨g,0,none⟩) n cap)).toArray 25) zba 25)
   have HR:=zh (zua hr (HB.out.mono (Nat.le_refl _)) hg)
   have HT:=zh (hT.below HB.out)
   have HLT:=zh (hT.kat)
   clear hr hT hg
   unfold maxLen at hcm
   go_enter Tryz.func90,Tryz.ntmps90
   go_wp2_with (first
    | ((with_reducible refine zqa 25 (.tmp 14) ?_);refine wpList_load_mid rfl 25 (.tmp 14) rfl g (i * 5) rfl (zaa tk u) _ HR.out Tryz.underlying25 rfl Tryz.zea ?_)
    | ((with_reducible refine zla 25 (.tmp 4) ?_);refine zda rfl 25 (.tmp 4) (.tmp 15) rfl (w.heap.size+1) (zaa tk u) rfl rfl HRes.out Tryz.zea rfl (zca _ _ HT.out.kat.one) ?_))
   exact zma (cs:=zaa tk u) Tryz.results90 rfl HRes.out Tryz.underlying25 rfl Tryz.zea rfl ⟨u,rfl,HLT.out.keep fun b hb hl=>⟨hb,(setRow_other _ _ _ _ (by omega)).trans (HB.out.block b hl)⟩,Below.row HB.out (by omega) _⟩
 ·rw [zQm hi]
  obtain ⟨a,c,rfl⟩:=hk.len
  clear hk
  generalize t.kids.length=n at *
  unfold zna
  have HW:=zh (show zRj w zdb S (.returned (.agg zba.toArray)) (((w.alloc (.cells (zaa t (.slice a n c)).toArray 25)).alloc (.cells zba.toArray 25)).setRow (w.heap.size+1) zba.toArray) from
   ⟨.slice none 0 0,rfl,KAt.nil _ _ _,Below.row (((Below.refl _ _).alloc (Nat.le_refl _) _).alloc (by simp) _) (by omega) _⟩)
  have HRes:=zh (Blk.zTe w (.cells (zaa t (.slice a n c)).toArray 25) zba 25)
  have h1:(n:Int)≤i:=by omega
  go_enter Tryz.func90,Tryz.ntmps90
  go_wp2_with (first
   | ((with_reducible refine zla 25 (.tmp 4) ?_);refine zda rfl 25 (.tmp 4) (.tmp 10) rfl (w.heap.size+1) zba rfl rfl HRes.out Tryz.zea rfl (zca zdb _ rfl) ?_))
  exact zma (cs:=zba) Tryz.results90 rfl HRes.out Tryz.underlying25 rfl Tryz.zea rfl HW.out
theorem zXf {α:Type} (l:List α):(!l.isEmpty)=decide ((0:Int)<(l.length:Int)):=by cases l<;>simp<;>omega
theorem zai {w:World} {t:T} {S:Nat→Prop} {kv:Value} (hk:KAt 25 w t.kids S kv) :
  Calls Tryz.prog 88 #[zna t kv] w fun e w'=>e=.returned (.bool (!t.kids.isEmpty))∧Below w.heap.size w w':=by
 obtain ⟨a,c,rfl⟩:=hk.len
 clear hk
 rw [zXf]
 generalize t.kids.length=n
 unfold zna
 go_enter Tryz.func88,Tryz.ntmps88
 go_wp2
 go_ret
 exact ⟨zyk (by simp),(Below.refl _ _).alloc (Nat.le_refl _) _⟩
theorem zoo (ty:Ty) (p l:Value) (i:Int) (w:World) :
  Calls Tryz.prog 118 #[TyV ty p l,.int .i64 i] w fun e w'=>e=.returned (.bool (zsp ty.sort ty.of i))∧Below w.heap.size w w':=by
 obtain ⟨nm,srt,of,fl,fc⟩:=ty
 unfold TyV
 go_enter Tryz.func118,Tryz.ntmps118
 go_wp2
 all_goals go_ret
 all_goals refine ⟨zyk ?_,(Below.refl _ _).alloc (Nat.le_refl _) _⟩
 all_goals (unfold zsp;simp_all)
end
section
open Go.RowKit
theorem zno (s:ByteArray) (w:World) :
  Calls Tryz.prog 78 #[.string s] w fun e w'=>e=.returned (.int .i64 (zjb s))∧w'=w:=by
 have HS:=zh (show ∀ z:Int,zjb s=z→Ending.returned (.int .i64 z)=.returned (.int .i64 (zjb s)) from fun z h=>by rw [h])
 cases h1:s.toList == [105,110,116]
 ·cases h2:s.toList == [111,119,110]
  ·cases h3:s.toList == [38]
   ·cases h4:s.toList == [38,109,117,116]
    all_goals
     go_enter Tryz.func78,Tryz.ntmps78
     go_wp2
     go_ret
     exact ⟨HS.out _ (by unfold zjb;rw [h1,h2,h3,h4];rfl),rfl⟩
   ·go_enter Tryz.func78,Tryz.ntmps78
    go_wp2
    go_ret
    exact ⟨HS.out _ (by unfold zjb;rw [h1,h2,h3];rfl),rfl⟩
  ·go_enter Tryz.func78,Tryz.ntmps78
   go_wp2
   go_ret
   exact ⟨HS.out _ (by unfold zjb;rw [h1,h2];rfl),rfl⟩
 ·go_enter Tryz.func78,Tryz.ntmps78
  go_wp2
  go_ret
  exact ⟨HS.out _ (by unfold zjb;rw [h1];rfl),rfl⟩
theorem zof (m:Int) (w:World) :
  Calls Tryz.prog 79 #[.int .i64 m] w fun e w'=>e=.returned (.bool (zVb m))∧w'=w:=by
 have HS:=zh (show ∀ z:Bool,zVb m=z→Ending.returned (.bool z)=.returned (.bool (zVb m)) from fun z h=>by rw [h])
 cases h2:m == 2
 ·cases h3:m == 3
  ·cases h4:m == 4
   all_goals
    go_enter Tryz.func79,Tryz.ntmps79
    go_wp2
    go_ret
    exact ⟨HS.out _ (by unfold zVb;rw [h2,h3,h4];rfl),rfl⟩
  ·go_enter Tryz.func79,Tryz.ntmps79
   go_wp2
   go_ret
   exact ⟨HS.out _ (by unfold zVb;rw [h2,h3];rfl),rfl⟩
 ·go_enter Tryz.func79,Tryz.ntmps79
  go_wp2
  go_ret
  exact ⟨HS.out _ (by unfold zVb;rw [h2];rfl),rfl⟩
theorem zdn {w:World} {t:T} {S:Nat→Prop} {kv:Value} (hk:KAt 25 w t.kids S kv) (i:Nat) :
  Calls Tryz.prog 76 #[zna t kv,.int .i64 i] w (zRj w (zJa t i) S):=by
 rcases Nat.lt_or_ge i t.kids.length with hi|hi
 ·rw [zVp hi]
  rcases hk.form with ⟨rfl,hnil⟩|⟨g,cap,rfl,hg,hcap,hcm,hget⟩
  ·rw [hnil] at hi;simp at hi
  ·obtain ⟨u,hr,hT⟩:=hget i t.kids[i] (List.getElem?_eq_getElem hi)
   generalize t.kids[i]=tk at hr hT ⊢
   generalize t.kids.length=n at *
   unfold zna
   clear hget hk
   have HB:=zh (show Below w.heap.size w ((w.alloc (.cells (zaa t (.slice (some ⟨g,0,none⟩) n cap)).toArray 25)).alloc (.cells zba.toArray 25)) from (((Below.refl _ _).alloc (Nat.le_refl _) _).alloc (by simp) _))
   have HRes:=zh (Blk.zTe w (.cells (zaa t (.slice (some ⟨g,0,none⟩) n cap)).toArray 25) zba 25)
   have HR:=zh (zua hr (HB.out.mono (Nat.le_refl _)) hg)
   have HT:=zh (hT.below HB.out)
   have HLT:=zh (hT.kat)
   clear hr hT hg
   unfold maxLen at hcm
   go_enter Tryz.func76,Tryz.ntmps76
   go_wp2_with (first
    | ((with_reducible refine zqa 25 (.tmp 14) ?_);refine wpList_load_mid rfl 25 (.tmp 14) rfl g (i * 5) rfl (zaa tk u) _ HR.out Tryz.underlying25 rfl Tryz.zea ?_)
    | ((with_reducible refine zla 25 (.tmp 4) ?_);refine zda rfl 25 (.tmp 4) (.tmp 15) rfl (w.heap.size+1) (zaa tk u) rfl rfl HRes.out Tryz.zea rfl (zca _ _ HT.out.kat.one) ?_))
   exact zma (cs:=zaa tk u) Tryz.results76 rfl HRes.out Tryz.underlying25 rfl Tryz.zea rfl ⟨u,rfl,HLT.out.keep fun b hb hl=>⟨hb,(setRow_other _ _ _ _ (by omega)).trans (HB.out.block b hl)⟩,Below.row HB.out (by omega) _⟩
 ·rw [zQm hi]
  obtain ⟨a,c,rfl⟩:=hk.len
  clear hk
  generalize t.kids.length=n at *
  unfold zna
  have HW:=zh (show zRj w zdb S (.returned (.agg zba.toArray)) (((w.alloc (.cells (zaa t (.slice a n c)).toArray 25)).alloc (.cells zba.toArray 25)).setRow (w.heap.size+1) zba.toArray) from
   ⟨.slice none 0 0,rfl,KAt.nil _ _ _,Below.row (((Below.refl _ _).alloc (Nat.le_refl _) _).alloc (by simp) _) (by omega) _⟩)
  have HRes:=zh (Blk.zTe w (.cells (zaa t (.slice a n c)).toArray 25) zba 25)
  have h1:(n:Int)≤i:=by omega
  go_enter Tryz.func76,Tryz.ntmps76
  go_wp2_with (first
   | ((with_reducible refine zla 25 (.tmp 4) ?_);refine zda rfl 25 (.tmp 4) (.tmp 10) rfl (w.heap.size+1) zba rfl rfl HRes.out Tryz.zea rfl (zca zdb _ rfl) ?_))
  exact zma (cs:=zba) Tryz.results76 rfl HRes.out Tryz.underlying25 rfl Tryz.zea rfl HW.out
def zja (p:Prm):List Value:=[.string p.name,.int .i64 p.mode,.int .i64 p.ty]
def zzh (p:Prm):Value:=.agg #[.string p.name,.int .i64 p.mode,.int .i64 p.ty]
abbrev zQd:=RAt 52 3 zja
theorem ztf (a:Prm):(zja a).length=3:=rfl
theorem zsb (a:Prm):∀ u∈zja a,u.oneCell'=true:=by
 intro u hu
 simp only [zja,List.mem_cons,List.not_mem_nil,or_false] at hu
 rcases hu with rfl|rfl|rfl<;>rfl
theorem Tryz.zzb:(Tryz.prog.info? 52).map (·.size)=some 3:=by kernel_rfl
theorem zFn (o:Prm) (g:Nat) (s:ByteArray) (w:World) (hg:w.cell? ⟨g,1,none⟩=some (.string s)) (hlt:g<w.heap.size) :
  Calls Tryz.prog 75 #[zzh o,.pointer (some ⟨g,0,none⟩)] w fun e w'=>e=.returned (.bool (zcd s o))∧Below w.heap.size w w':=by
 unfold zzh zcd
 generalize o.name=x
 go_enter Tryz.func75,Tryz.ntmps75
 go_wp2
 go_ret
 exact ⟨rfl,(Below.refl _ _).alloc (Nat.le_refl _) _⟩
theorem zPn (o:Prm) (g:Nat) (p:Prm) (w:World) (hg:w.cell? ⟨g,2,none⟩=some (.int .i64 p.ty)) (hlt:g<w.heap.size) :
  Calls Tryz.prog 100 #[zzh o,.pointer (some ⟨g,0,none⟩)] w fun e w'=>e=.returned (.bool (zBf p o))∧Below w.heap.size w w':=by
 obtain ⟨nm,md,ty⟩:=o
 unfold zzh zBf
 simp only
 generalize p.ty=q at *
 have HB:=zh ((Below.refl w.heap.size w).alloc (Nat.le_refl _) (.cells #[.string nm,.int .i64 md,.int .i64 ty] 52))
 have HNT:=zh (zof md)
 go_enter Tryz.func100,Tryz.ntmps100
 go_wp2_with fail
 refine (HNT.out _).mono ?_
 rintro e w1 ⟨rfl,rfl⟩
 cases hn:zVb md
 ·go_wp2
  go_ret
  exact ⟨zyk (by rw [hn];rfl),HB.out⟩
 ·cases hq:ty == q
  all_goals
   go_wp2
   go_ret
   exact ⟨zyk (by rw [hn,hq];rfl),HB.out⟩
theorem zhf {l:List Prm} {b:Prm→Bool} {k:Nat} {p:Prm} (h:l[k]?=some p) (hn:(l.take k).any b=false) (hb:b p=false):(l.take (k+1)).any b=false:=by
 rw [List.take_add_one,h,List.any_append,hn]
 simp [hb]
theorem any_some {l:List Prm} {b:Prm→Bool} {k:Nat} {p:Prm} (h:l[k]?=some p) (hb:b p=true):l.any b=true:=List.any_eq_true.2 ⟨p,List.mem_of_getElem? h,hb⟩
def AnyPost (w:World) (r:Bool) (e:Ending) (w':World):Prop:=(∃ i:Int,e=.returned (.int .i64 i)∧decide ((0:Int)≤i)=r)∧Below w.heap.size w w'
theorem zio (g:Nat) (s:ByteArray) {l:List Prm} {S:Nat→Prop} {v:Value} (w:World) (hg:w.cell? ⟨g,1,none⟩=some (.string s)) (hlt:g<w.heap.size) (hl:zQd w l S v) :
  Calls Tryz.prog 99 #[v,.func (.func 75) #[] #[.pointer (some ⟨g,0,none⟩)]] w (AnyPost w (l.any (zcd s))):=by
 have HF:=zh (hl.form ztf)
 obtain ⟨va,vc,rfl⟩:=hl.slice
 have hll:l.length≤9223372036854775807:=by
  rcases HF.out with ⟨_,rfl⟩|⟨_,c,e,_,h1,h2,_⟩
  ·simp
  ·unfold maxLen at h2;omega
 clear hl
 go_enter Tryz.func99,Tryz.ntmps99
 go_wp2
 go_loopw [8] (fun i wr=>∃ k:Nat,k≤l.length∧i=.int .i64 k∧Below w.heap.size w wr∧(l.take k).any (zcd s)=false) (fun i _=>l.length-(intOf i).toNat)
 case atStart=>exact ⟨0,by omega,rfl,Below.refl _ _,by simp⟩
 case round =>
  obtain ⟨k,hk,rfl,hb,hno⟩:=hrel
  have HB:=zh hb
  have HN:=zh hno
  clear hb hno
  by_cases hlt2:k<l.length
  ·obtain ⟨b,c,e,hbl,_,_,hc⟩:=(HF.out).resolve_left fun h=>by rw [h.2] at hlt2;simp at hlt2
   obtain ⟨rfl,rfl⟩:va=some ⟨b,0,none⟩∧vc=c:=by simpa using e
   obtain ⟨t,ht⟩:∃ t,l[k]?=some t:=⟨_,List.getElem?_eq_getElem hlt2⟩
   have HR:=zh (zua (hc k t ht) HB.out hbl.2)
   have HT:=zh ht
   clear hc ht
   go_wp2_with ((with_reducible refine zqa 52 (.tmp 14) ?_);refine wpList_load_mid rfl 52 (.tmp 14) rfl b (k * 3) rfl (zja t) _ HR.out Tryz.underlying52 rfl Tryz.zzb ?_)
   refine (zFn t g s _ ((HB.out.cell (p:=⟨g,1,none⟩) hlt).trans hg) (Nat.lt_of_lt_of_le hlt HB.out.size)).mono ?_
   rintro e w1 ⟨rfl,hb1⟩
   have HB1:=zh (HB.out.trans (hb1.mono HB.out.size))
   clear hb1
   cases ho:(zcd s) t
   ·go_wp2
    go_roundw
    case rel=>exact ⟨k+1,by omega,by go_num,HB1.out,zhf HT.out HN.out ho⟩
    case measure=>simp [intOf];omega
   ·go_wp2
    go_ret
    exact ⟨⟨k,rfl,by rw [any_some HT.out ho];simp⟩,HB1.out⟩
  ·have hkl:k=l.length:=by omega
   have HRes:=zh (show l.any (zcd s)=false from by have:=HN.out;rwa [hkl,List.take_of_length_le (Nat.le_refl _)] at this)
   go_wp2
   go_ret
   exact ⟨⟨-1,rfl,by rw [HRes.out];rfl⟩,HB.out⟩
theorem zvk (g:Nat) (s:ByteArray) {l:List Prm} {S:Nat→Prop} {v:Value} (w:World) (hg:w.cell? ⟨g,1,none⟩=some (.string s)) (hlt:g<w.heap.size) (hl:zQd w l S v) :
  Calls Tryz.prog 74 #[v,.func (.func 75) #[] #[.pointer (some ⟨g,0,none⟩)]] w fun e w'=>e=.returned (.bool (l.any (zcd s)))∧Below w.heap.size w w':=by
 have HI:=zh (zio g s w hg hlt hl)
 obtain ⟨va,vc,rfl⟩:=hl.slice
 clear hl
 go_enter Tryz.func74,Tryz.ntmps74
 go_wp2_with fail
 refine HI.out.mono ?_
 rintro e w1 ⟨⟨i,rfl,hi⟩,hb⟩
 have HB:=zh hb
 have HQ:=zh hi
 clear hb HI
 cases hd:decide ((0:Int)≤i)
 all_goals
  go_wp2
  go_ret
  exact ⟨zyk (by rw [← HQ.out,hd];try simp_all),HB.out⟩
theorem zer (g:Nat) (p:Prm) {l:List Prm} {S:Nat→Prop} {v:Value} (w:World) (hg:w.cell? ⟨g,2,none⟩=some (.int .i64 p.ty)) (hlt:g<w.heap.size) (hl:zQd w l S v) :
  Calls Tryz.prog 99 #[v,.func (.func 100) #[] #[.pointer (some ⟨g,0,none⟩)]] w (AnyPost w (l.any (zBf p))):=by
 have HF:=zh (hl.form ztf)
 obtain ⟨va,vc,rfl⟩:=hl.slice
 have hll:l.length≤9223372036854775807:=by
  rcases HF.out with ⟨_,rfl⟩|⟨_,c,e,_,h1,h2,_⟩
  ·simp
  ·unfold maxLen at h2;omega
 clear hl
 go_enter Tryz.func99,Tryz.ntmps99
 go_wp2
 go_loopw [8] (fun i wr=>∃ k:Nat,k≤l.length∧i=.int .i64 k∧Below w.heap.size w wr∧(l.take k).any (zBf p)=false) (fun i _=>l.length-(intOf i).toNat)
 case atStart=>exact ⟨0,by omega,rfl,Below.refl _ _,by simp⟩
 case round =>
  obtain ⟨k,hk,rfl,hb,hno⟩:=hrel
  have HB:=zh hb
  have HN:=zh hno
  clear hb hno
  by_cases hlt2:k<l.length
  ·obtain ⟨b,c,e,hbl,_,_,hc⟩:=(HF.out).resolve_left fun h=>by rw [h.2] at hlt2;simp at hlt2
   obtain ⟨rfl,rfl⟩:va=some ⟨b,0,none⟩∧vc=c:=by simpa using e
   obtain ⟨t,ht⟩:∃ t,l[k]?=some t:=⟨_,List.getElem?_eq_getElem hlt2⟩
   have HR:=zh (zua (hc k t ht) HB.out hbl.2)
   have HT:=zh ht
   clear hc ht
   go_wp2_with ((with_reducible refine zqa 52 (.tmp 14) ?_);refine wpList_load_mid rfl 52 (.tmp 14) rfl b (k * 3) rfl (zja t) _ HR.out Tryz.underlying52 rfl Tryz.zzb ?_)
   refine (zPn t g p _ ((HB.out.cell (p:=⟨g,2,none⟩) hlt).trans hg) (Nat.lt_of_lt_of_le hlt HB.out.size)).mono ?_
   rintro e w1 ⟨rfl,hb1⟩
   have HB1:=zh (HB.out.trans (hb1.mono HB.out.size))
   clear hb1
   cases ho:(zBf p) t
   ·go_wp2
    go_roundw
    case rel=>exact ⟨k+1,by omega,by go_num,HB1.out,zhf HT.out HN.out ho⟩
    case measure=>simp [intOf];omega
   ·go_wp2
    go_ret
    exact ⟨⟨k,rfl,by rw [any_some HT.out ho];simp⟩,HB1.out⟩
  ·have hkl:k=l.length:=by omega
   have HRes:=zh (show l.any (zBf p)=false from by have:=HN.out;rwa [hkl,List.take_of_length_le (Nat.le_refl _)] at this)
   go_wp2
   go_ret
   exact ⟨⟨-1,rfl,by rw [HRes.out];rfl⟩,HB.out⟩
theorem znm (g:Nat) (p:Prm) {l:List Prm} {S:Nat→Prop} {v:Value} (w:World) (hg:w.cell? ⟨g,2,none⟩=some (.int .i64 p.ty)) (hlt:g<w.heap.size) (hl:zQd w l S v) :
  Calls Tryz.prog 74 #[v,.func (.func 100) #[] #[.pointer (some ⟨g,0,none⟩)]] w fun e w'=>e=.returned (.bool (l.any (zBf p)))∧Below w.heap.size w w':=by
 have HI:=zh (zer g p w hg hlt hl)
 obtain ⟨va,vc,rfl⟩:=hl.slice
 clear hl
 go_enter Tryz.func74,Tryz.ntmps74
 go_wp2_with fail
 refine HI.out.mono ?_
 rintro e w1 ⟨⟨i,rfl,hi⟩,hb⟩
 have HB:=zh hb
 have HQ:=zh hi
 clear hb HI
 cases hd:decide ((0:Int)≤i)
 all_goals
  go_wp2
  go_ret
  exact ⟨zyk (by rw [← HQ.out,hd];try simp_all),HB.out⟩
end
section
open Go.RowKit
def Ns (w:World) (A:Option Addr) (ks:List T):Prop :=
 0<ks.length→∃ g,A=some ⟨g,0,none⟩∧g<w.heap.size∧∀ k t,ks[k]?=some t→∃ u,w.rangeAt g (k * 5) (zaa t u)∧KAt 25 w t.kids (fun _=>True) u
def NsV (w:World) (ks:List T) (v:Value):Prop:=∃ A c,v=.slice A ks.length c∧ks.length≤c∧c≤9223372036854775807∧Ns w A ks
theorem Ns.below {w w':World} {A:Option Addr} {ks:List T} (h:Ns w A ks) (hb:Below w.heap.size w w'):Ns w' A ks:=fun hn=>by
 obtain ⟨g,e,hg,hf⟩:=h hn
 refine ⟨g,e,Nat.lt_of_lt_of_le hg hb.size,fun k t hk=>?_⟩
 obtain ⟨u,hr,ht⟩:=hf k t hk
 exact ⟨u,zua hr hb hg,ht.below hb⟩
theorem Ns.take {w:World} {A:Option Addr} {ks:List T} (h:Ns w A ks) (i:Nat):Ns w A (ks.take i):=fun hn=>by
 obtain ⟨g,e,hg,hf⟩:=h (by simp only [List.length_take] at hn;omega)
 refine ⟨g,e,hg,fun k t hk=>hf k t ?_⟩
 rw [List.getElem?_take] at hk
 split at hk
 ·exact hk
 ·cases hk
theorem NsV.below {w w':World} {ks:List T} {v:Value} (h:NsV w ks v) (hb:Below w.heap.size w w'):NsV w' ks v:=by
 obtain ⟨A,c,e,h1,h2,h3⟩:=h
 exact ⟨A,c,e,h1,h2,h3.below hb⟩
theorem KAt.nsv {w:World} {ks:List T} {S:Nat→Prop} {v:Value} (h:KAt 25 w ks S v):NsV w ks v:=by
 rcases h.form with ⟨rfl,rfl⟩|⟨g,cap,rfl,hg,h1,h2,hf⟩
 ·exact ⟨none,0,rfl,Nat.le_refl _,by omega,fun h=>by simp at h⟩
 ·refine ⟨_,cap,rfl,h1,by unfold maxLen at h2;omega,fun _=>⟨g,rfl,hg,fun k t hk=>?_⟩⟩
  obtain ⟨u,hr,ht⟩:=hf k t hk
  exact ⟨u,hr,ht.kat.mono fun _ _ _=>trivial⟩
theorem zUn (t:T) (kv:Value) (g:Nat) (s:ByteArray) (w:World) (hg:w.cell? ⟨g,0,none⟩=some (.string s)) (hlt:g<w.heap.size) :
  Calls Tryz.prog 117 #[zna t kv,.pointer (some ⟨g,0,none⟩)] w fun e w'=>e=.returned (.bool (t.text.toList == s.toList))∧Below w.heap.size w w':=by
 unfold zna
 generalize t.text=x
 go_enter Tryz.func117,Tryz.ntmps117
 go_wp2
 go_ret
 exact ⟨rfl,(Below.refl _ _).alloc (Nat.le_refl _) _⟩
def zie (w:World) (r:Option Nat) (e:Ending) (w':World):Prop:=e=.returned (.int .i64 (oi r))∧Below w.heap.size w w'
theorem zie.yes {α:Type} {nm:α→ByteArray} {l:List α} {s:ByteArray} {k:Nat} {t:α} {w w':World} (h:l[k]?=some t) (hn:zNg nm (l.take k) s=none) (hb:((nm t).toList == s.toList)=true) (hB:Below w.heap.size w w'):zie w (zNg nm l s) (.returned (.int .i64 k)) w':=by
 rw [(zsg h hn).2 (by simpa using hb)]
 exact ⟨rfl,hB⟩
theorem zie.no {α:Type} {nm:α→ByteArray} {l:List α} {s:ByteArray} {k:Nat} {w w':World} (hk:l.length≤k) (hn:zNg nm (l.take k) s=none) (hB:Below w.heap.size w w'):zie w (zNg nm l s) (.returned (.int .i64 (-1))) w':=by
 rw [List.take_of_length_le hk] at hn
 rw [hn]
 exact ⟨rfl,hB⟩
theorem zDm {α:Type} {nm:α→ByteArray} {l:List α} {s:ByteArray} {k:Nat} {t:α} (h:l[k]?=some t) (hn:zNg nm (l.take k) s=none) (hb:((nm t).toList == s.toList)=false):zNg nm (l.take (k+1)) s=none:=by
 rw [(zsg h hn).1,hb];rfl
theorem zTj (g:Nat) (s:ByteArray) (A:Option Addr) (cap:Nat) (ks:List T) (w:World) (hg:w.cell? ⟨g,0,none⟩=some (.string s)) (hlt:g<w.heap.size) (hks:Ns w A ks) (hl:ks.length≤9223372036854775807) :
  Calls Tryz.prog 116 #[.slice A ks.length cap,.func (.func 117) #[] #[.pointer (some ⟨g,0,none⟩)]] w (zie w (zYm ks s)):=by
 have HF:=zh hks
 clear hks
 go_enter Tryz.func116,Tryz.ntmps116
 go_wp2
 go_loopw [8] (fun i wr=>∃ k:Nat,k≤ks.length∧i=.int .i64 k∧Below w.heap.size w wr∧zYm (ks.take k) s=none) (fun i _=>ks.length-(intOf i).toNat)
 case atStart=>exact ⟨0,by omega,rfl,Below.refl _ _,by simp [zNg]⟩
 case round =>
  obtain ⟨k,hk,rfl,hb,hno⟩:=hrel
  have HB:=zh hb
  have HN:=zh hno
  clear hb hno
  by_cases hlt2:k<ks.length
  ·obtain ⟨b,rfl,hbl,hc⟩:=HF.out (by omega)
   obtain ⟨t,ht⟩:∃ t,ks[k]?=some t:=⟨_,List.getElem?_eq_getElem hlt2⟩
   obtain ⟨u,hr,_⟩:=hc k t ht
   have HR:=zh (zua hr HB.out hbl)
   have HT:=zh ht
   clear hc hr ht
   go_wp2_with ((with_reducible refine zqa 25 (.tmp 14) ?_);refine wpList_load_mid rfl 25 (.tmp 14) rfl b (k * 5) rfl (zaa t u) _ HR.out Tryz.underlying25 rfl Tryz.zea ?_)
   refine (zUn t u g s _ ((HB.out.cell (p:=⟨g,0,none⟩) hlt).trans hg) (Nat.lt_of_lt_of_le hlt HB.out.size)).mono ?_
   rintro e w1 ⟨rfl,hb1⟩
   have HB1:=zh (HB.out.trans (hb1.mono HB.out.size))
   clear hb1
   cases ho:t.text.toList == s.toList
   ·go_wp2
    go_roundw
    case rel=>exact ⟨k+1,by omega,by go_num,HB1.out,zDm HT.out HN.out ho⟩
    case measure=>simp [intOf];omega
   ·go_wp2
    go_ret
    exact zie.yes HT.out HN.out ho HB1.out
  ·go_wp2
   go_ret
   exact zie.no (by omega) HN.out HB.out
def Tys (w:World) (A:Option Addr) (ts:List Ty):Prop :=
 0<ts.length→∃ g,A=some ⟨g,0,none⟩∧g<w.heap.size∧∀ k t,ts[k]?=some t→∃ p l,w.rangeAt g (k * 5) (zIa t p l)∧zPk w t (fun _=>True) p l
theorem Tys.below {w w':World} {A:Option Addr} {ts:List Ty} (h:Tys w A ts) (hb:Below w.heap.size w w'):Tys w' A ts:=fun hn=>by
 obtain ⟨g,e,hg,hf⟩:=h hn
 refine ⟨g,e,Nat.lt_of_lt_of_le hg hb.size,fun k t hk=>?_⟩
 obtain ⟨p,l,hr,ht⟩:=hf k t hk
 exact ⟨p,l,zua hr hb hg,ht.keep fun b hb' hl=>⟨trivial,hb.block b hl⟩⟩
theorem zOc.tys {w:World} {ts:List Ty} {S:Nat→Prop} {v:Value} (h:zOc w ts S v):∃ A c,v=.slice A ts.length c∧ts.length≤9223372036854775807∧Tys w A ts:=by
 rcases h.form with ⟨rfl,rfl⟩|⟨g,cap,rfl,hg,h1,h2,hf⟩
 ·exact ⟨none,0,rfl,by simp,fun h=>by simp at h⟩
 ·refine ⟨_,cap,rfl,by unfold maxLen at h2;omega,fun _=>⟨g,rfl,hg.2,fun k t hk=>?_⟩⟩
  obtain ⟨p,l,hr,ht⟩:=hf k t hk
  exact ⟨p,l,hr,ht.keep fun _ _ _=>⟨trivial,rfl⟩⟩
theorem zrn (s:ByteArray) (A:Option Addr) (cap:Nat) (ks:List T) (w:World) (hks:Ns w A ks) (hl:ks.length≤9223372036854775807) :
  Calls Tryz.prog 87 #[.slice A ks.length cap,.string s] w (zie w (zYm ks s)):=by
 have HF:=zh (hks.below ((Below.refl w.heap.size w).alloc (Nat.le_refl _) (.cells #[.string s] 9)))
 have hmf:=zbc
 clear hks
 go_enter Tryz.func87,Tryz.ntmps87
 go_wp2_with fail
 refine (zTj w.heap.size s A cap ks _ (by simp) (by simp) HF.out hl).mono ?_
 rintro e w1 ⟨rfl,hb⟩
 have HB:=zh (((Below.refl w.heap.size w).alloc (Nat.le_refl _) _).trans (hb.mono (by simp)))
 clear hb
 go_wp2
 go_ret
 exact ⟨rfl,HB.out⟩
end
section
open Go.RowKit
def zDa (p:Pt) (sv fv cv:Value):List Value:=[.int .i64 p.sort.kind,.string p.sort.text,.int .i64 p.sort.num,.int .i64 p.sort.place,sv,fv,cv]
def PtV (p:Pt) (sv fv cv:Value):Value:=.agg #[.int .i64 p.sort.kind,.string p.sort.text,.int .i64 p.sort.num,.int .i64 p.sort.place,sv,fv,cv]
structure zRt (w:World) (p:Pt) (sv fv cv:Value):Prop where
 s:KAt 25 w p.sort.kids (fun _=>True) sv
 f:NsV w p.fields fv
 c:NsV w p.facts cv
theorem zRt.below {w w':World} {p:Pt} {sv fv cv:Value} (h:zRt w p sv fv cv) (hb:Below w.heap.size w w'):zRt w' p sv fv cv:=⟨h.s.below hb,h.f.below hb,h.c.below hb⟩
theorem zlq {fs:List T} {s:ByteArray} (h:zYm fs s=none):zsj fs s=none:=by unfold zsj;rw [h]
theorem zrq {fs:List T} {s:ByteArray} {k:Nat} {t:T} (h:zYm fs s=some k) (ht:fs[k]?=some t):zsj fs s=bif t.kids.isEmpty then some k else none:=by
 unfold zsj
 rw [h]
 simp [List.getD,ht]
theorem zLj {w:World} {p:Pt} {sv fv cv:Value} (h:NsV w p.fields fv) (s:ByteArray) :
  Calls Tryz.prog 91 #[PtV p sv fv cv,.string s] w (zie w (zsj p.fields s)):=by
 obtain ⟨A,cap,rfl,hcap,hcm,hns⟩:=h
 have HB0:=zh ((Below.refl w.heap.size w).alloc (Nat.le_refl _) (.cells (zDa p sv (.slice A p.fields.length cap) cv).toArray 153))
 have HBk:=zh (Blk.new w (zDa p sv (.slice A p.fields.length cap) cv) 153)
 have HF:=zh (hns.below HB0.out)
 clear hns
 unfold PtV
 unfold zDa at HB0 HF HBk
 obtain ⟨⟨sk,st,sn,sp,sks⟩,fs,cs⟩:=p
 simp only [T.kind,T.text,T.num,T.place] at *
 go_enter Tryz.func91,Tryz.ntmps91
 go_wp2_with fail
 refine (zrn s A cap fs _ HF.out (by omega)).mono ?_
 rintro e w1 ⟨rfl,hb⟩
 have HB1:=zh (HB0.out.trans (hb.mono (by simp)))
 have HBk1:=zh (HBk.out.stays hb)
 have HF1:=zh (HF.out.below hb)
 clear hb
 have c5:w1.cell? ⟨w.heap.size,5,none⟩=some (.slice A fs.length cap):=HBk1.out.cell 5
 cases hf:zYm fs s with
 | none =>
  have HN:=zh (zlq hf)
  simp only [oi]
  go_wp2
  go_ret
  rw [HN.out]
  exact ⟨rfl,HB1.out⟩
 | some k =>
  have hk:=zCi hf
  obtain ⟨b,rfl,hbl,hc⟩:=HF1.out (by omega)
  obtain ⟨t,ht⟩:∃ t,fs[k]?=some t:=⟨_,List.getElem?_eq_getElem hk⟩
  obtain ⟨u,hr,hu⟩:=hc k t ht
  have HN:=zh (zrq hf ht)
  have HU:=zh hu
  have n0:w1.cell? ⟨b,k * 5,none⟩=some (.int .i64 t.kind):=hr 0 _ rfl
  have n1:w1.cell? ⟨b,k * 5+1,none⟩=some (.string t.text):=hr 1 _ rfl
  have n2:w1.cell? ⟨b,k * 5+2,none⟩=some (.int .i64 t.num):=hr 2 _ rfl
  have n3:w1.cell? ⟨b,k * 5+3,none⟩=some (.int .i64 t.place):=hr 3 _ rfl
  have n4:w1.cell? ⟨b,k * 5+4,none⟩=some u:=hr 4 _ rfl
  have hne:((k:Int) == -1)=false:=by simp
  have hk1:(k:Int)<(fs.length:Int):=by omega
  clear hc hr hu ht hf
  simp only [oi]
  go_wp2_with fail
  refine (zai HU.out).mono ?_
  rintro e w2 ⟨rfl,hb⟩
  have HB2:=zh (HB1.out.trans (hb.mono HB1.out.size))
  clear hb
  cases ho:t.kids.isEmpty
  ·rw [ho] at HN
   go_wp2
   go_ret
   rw [HN.out]
   exact ⟨rfl,HB2.out⟩
  ·rw [ho] at HN
   go_wp2
   go_ret
   rw [HN.out]
   exact ⟨rfl,HB2.out⟩
theorem zMn {fs:List T} {srt of:Int} {t:T} (h:(t.text.toList == [])=true):zRm fs srt of t=some 0:=by unfold zRm;rw [h];rfl
theorem zNp {fs:List T} {srt of:Int} {t:T} (h:(t.text.toList == [])=false) (hn:zsj fs t.text=none):zRm fs srt of t=none:=by unfold zRm;rw [h,hn];rfl
theorem zKq {fs:List T} {srt of:Int} {t:T} {k:Nat} (h:(t.text.toList == [])=false) (hn:zsj fs t.text=some k):zRm fs srt of t=bif zsp srt of k then none else some (k+1):=by unfold zRm;rw [h,hn];rfl
theorem zuh {w:World} {p:Pt} {sv fv cv:Value} (h:NsV w p.fields fv) (t:T) (kv:Value) (ty:Ty) (pv lv:Value) :
  Calls Tryz.prog 92 #[PtV p sv fv cv,zna t kv,TyV ty pv lv] w (zie w (zRm p.fields ty.sort ty.of t)):=by
 have HF:=zh h
 obtain ⟨A,cap,rfl,hcap,hcm,_⟩:=h
 obtain ⟨W0,hW0⟩:∃ W,((w.alloc (.cells (zDa p sv (.slice A p.fields.length cap) cv).toArray 153)).alloc (.cells (zaa t kv).toArray 25)).alloc (.cells (zIa ty pv lv).toArray 67)=W:=⟨_,rfl⟩
 have HB0:=zh (show Below w.heap.size w W0 from hW0▸((((Below.refl _ _).alloc (Nat.le_refl _) _).alloc (by simp) _).alloc (by simp;omega) _))
 have b1:=show Blk W0 w.heap.size (zDa p sv (.slice A p.fields.length cap) cv) 153 from hW0▸(((Blk.new w _ _).alloc _).alloc _)
 have b2:=show Blk W0 (w.heap.size+1) (zaa t kv) 25 from hW0▸((Blk.zTe w _ _ _).alloc _)
 have b3:=show Blk W0 (w.heap.size+1+1) (zIa ty pv lv) 67 from hW0▸(by simpa using Blk.new ((w.alloc (.cells (zDa p sv (.slice A p.fields.length cap) cv).toArray 153)).alloc (.cells (zaa t kv).toArray 25)) (zIa ty pv lv) 67)
 have HB3:=zh b3
 unfold zDa zaa zIa at hW0
 obtain ⟨tk,tt,tn,tp,tks⟩:=t
 obtain ⟨⟨sk,st,sn,sp,sks⟩,fs,cs⟩:=p
 obtain ⟨nm,srt,of,fl,fc⟩:=ty
 simp only [T.kind,T.text,T.num,T.place] at hW0 ⊢
 have c0:W0.cell? ⟨w.heap.size,0,none⟩=some (.int .i64 sk):=b1.cell 0
 have c1:W0.cell? ⟨w.heap.size,1,none⟩=some (.string st):=b1.cell 1
 have c2:W0.cell? ⟨w.heap.size,2,none⟩=some (.int .i64 sn):=b1.cell 2
 have c3:W0.cell? ⟨w.heap.size,3,none⟩=some (.int .i64 sp):=b1.cell 3
 have c4:W0.cell? ⟨w.heap.size,4,none⟩=some sv:=b1.cell 4
 have c5:W0.cell? ⟨w.heap.size,5,none⟩=some (.slice A fs.length cap):=b1.cell 5
 have c6:W0.cell? ⟨w.heap.size,6,none⟩=some cv:=b1.cell 6
 have d1:W0.cell? ⟨w.heap.size+1,1,none⟩=some (.string tt):=b2.cell 1
 clear b1 b2 b3
 unfold PtV zna TyV
 simp only [T.kind,T.text,T.num,T.place] at *
 cases he:tt.toList == []
 ·have he2:tt.toList.isEmpty=false:=by cases hx:tt.toList<;>simp_all
  have HN:=zh (zLj (p:=⟨.mk sk st sn sp sks,fs,cs⟩) (sv:=sv) (cv:=cv) (HF.out.below HB0.out) tt)
  unfold PtV at HN
  simp only [T.kind,T.text,T.num,T.place] at HN
  go_enter Tryz.func92,Tryz.ntmps92
  go_upto_region 1 with fail
  try rw [hW0]
  clear hW0
  go_wp2_with fail
  refine HN.out.mono ?_
  rintro e w1 ⟨rfl,hb⟩
  have HB1:=zh (HB0.out.trans (hb.mono HB0.out.size))
  have b4:=HB3.out.stays hb
  have e0:w1.cell? ⟨w.heap.size+1+1,0,none⟩=some (.string nm):=b4.cell 0
  have e1:w1.cell? ⟨w.heap.size+1+1,1,none⟩=some (.int .i64 srt):=b4.cell 1
  have e2:w1.cell? ⟨w.heap.size+1+1,2,none⟩=some (.int .i64 of):=b4.cell 2
  have e3:w1.cell? ⟨w.heap.size+1+1,3,none⟩=some pv:=b4.cell 3
  have e4:w1.cell? ⟨w.heap.size+1+1,4,none⟩=some lv:=b4.cell 4
  clear hb b4 c0 c1 c2 c3 c4 c5 c6 d1
  cases hn:zsj fs tt with
  | none =>
   have HV:=zh (zNp (t:=.mk tk tt tn tp tks) (srt:=srt) (of:=of) he hn)
   simp only [oi]
   go_wp2
   go_ret
   rw [HV.out]
   exact ⟨rfl,HB1.out⟩
  | some k =>
   have hk:=zct hn
   have HV:=zh (zKq (t:=.mk tk tt tn tp tks) (srt:=srt) (of:=of) he hn)
   have hne:((k:Int) == -1)=false:=by simp
   have hkk:wrap64 ((k:Int)+1)=((k+1:Nat):Int):=by rw [wrap64_in (by omega) (by omega)];rfl
   have HK:=zh (zoo ⟨nm,srt,of,fl,fc⟩ pv lv k w1)
   unfold TyV at HK
   simp only [oi]
   go_wp2_with fail
   refine HK.out.mono ?_
   rintro e w2 ⟨rfl,hb⟩
   have HB2:=zh (HB1.out.trans (hb.mono HB1.out.size))
   clear hb HK
   simp only
   cases hkb:zsp srt of k
   ·rw [hkb] at HV
    go_wp2
    go_ret
    rw [HV.out]
    exact ⟨rfl,HB2.out⟩
   ·rw [hkb] at HV
    go_wp2
    go_ret
    rw [HV.out]
    exact ⟨rfl,HB2.out⟩
 ·have he2:tt.toList.isEmpty=true:=by cases hx:tt.toList<;>simp_all
  have HV:=zh (zMn (fs:=fs) (srt:=srt) (of:=of) (t:=.mk tk tt tn tp tks) he)
  go_enter Tryz.func92,Tryz.ntmps92
  go_upto_region 1 with fail
  try rw [hW0]
  clear hW0
  go_wp2_with fail
  go_ret
  rw [HV.out]
  exact ⟨rfl,HB0.out⟩
def zJd {α:Type} (V:World→Nat→α→Value→Prop) (w:World) (r:E α) (e:Ending) (w':World):Prop :=
 match r with
 | .ok a=>∃ v,e=.returned v∧V w' w.heap.size a v∧Below w.heap.size w w'
 | .error (p,c)=>e=.panicked [{ v:=sfV p c,recovered:=false }]∧Below w.heap.size w w'
def VInt (_:World) (_:Nat) (n:Int) (v:Value):Prop:=v=.int .i64 n
theorem zJd.err {α:Type} {V:World→Nat→α→Value→Prop} {w w':World} {r:E α} {p:Nat} {c:Int} (hr:r=.error (p,c)) (h:Below w.heap.size w w'):zJd V w r (.panicked [{ v:=sfV p c,recovered:=false }]) w':=by
 rw [hr];exact ⟨rfl,h⟩
theorem zJd.ok {α:Type} {V:World→Nat→α→Value→Prop} {w w':World} {r:E α} {a:α} {v:Value} (hr:r=.ok a) (hv:V w' w.heap.size a v) (h:Below w.heap.size w w'):zJd V w r (.returned v) w':=by
 rw [hr];exact ⟨v,rfl,hv,h⟩
theorem zzk (a b c d e:Value) (w:World):(Instr.field 25 (.agg #[a,b,c,d,e]) 1).run Tryz.prog w=.ok b w:=zvd Tryz.underlying25 rfl (zul Tryz.underlying9 rfl) rfl w
theorem zCn {w:World} {p:Pt} {sv fv cv:Value} (h:NsV w p.fields fv) {t:T} {S:Nat→Prop} {kv:Value} (hk:KAt 25 w t.kids S kv) (srt:Int) :
  Calls Tryz.prog 89 #[PtV p sv fv cv,zna t kv,.int .i64 srt] w (zJd VInt w (zPq p.fields srt t)):=by
 have HF:=zh h
 have HK:=zh hk
 obtain ⟨A,cap,rfl,hcap,hcm,_⟩:=h
 obtain ⟨W0,hW0⟩:∃ W,(w.alloc (.cells (zDa p sv (.slice A p.fields.length cap) cv).toArray 153)).alloc (.cells (zaa t kv).toArray 25)=W:=⟨_,rfl⟩
 have HB0:=zh (show Below w.heap.size w W0 from hW0▸(((Below.refl _ _).alloc (Nat.le_refl _) _).alloc (by simp) _))
 have b1:=zh (show Blk W0 w.heap.size (zDa p sv (.slice A p.fields.length cap) cv) 153 from hW0▸((Blk.new w _ _).alloc _))
 have b2:=zh (show Blk W0 (w.heap.size+1) (zaa t kv) 25 from hW0▸(Blk.zTe w _ _ _))
 have HSZ:=zh (show zPq p.fields srt t=bif srt != 0 || (zsj p.fields (zJa t 0).text).isNone then .error (t.place,32) else .ok (oi (zsj p.fields (zJa t 0).text)) from rfl)
 unfold zDa zaa at hW0
 unfold PtV zna
 go_enter Tryz.func89,Tryz.ntmps89
 go_upto_region 1 with fail
 try rw [hW0]
 clear hW0
 refine wp_region_held_drew (S:=fun W=>Blk W w.heap.size (zDa p sv (.slice A p.fields.length cap) cv) 153∧Blk W (w.heap.size+1) (zaa t kv) 25) (by kernel_rfl) ⟨b1.out,b2.out⟩ (fun hS=>?_)
 refine wpAnyH_take (i:=0) (oi:=⟨some 8,_,_,_,_,_⟩) (v:=.agg (zDa p sv (.slice A p.fields.length cap) cv).toArray) rfl (by kernel_rfl) (by kernel_rfl) (by kernel_rfl) (fun _ _ _ h=>h) (yieldsIf_load_mid (cs:=zDa p sv (.slice A p.fields.length cap) cv) (by rfl) 153 (.tmp 3) rfl w.heap.size 0 (by go_simp) _ (fun W hW j v hj=>by rw [Nat.zero_add,hW.1.cell j];exact hj) Tryz.underlying153 rfl Tryz.zoc) hS ?_
 try simp only [Act.put,List.setIfInBounds_toArray,List.set_cons_zero,List.set_cons_succ]
 refine wpAnyH_take (i:=1) (oi:=⟨some 9,_,_,_,_,_⟩) (v:=.agg (zaa t kv).toArray) rfl (by kernel_rfl) (by kernel_rfl) (by kernel_rfl) (fun _ _ _ h=>h) (yieldsIf_load_mid (cs:=zaa t kv) (by rfl) 25 (.tmp 4) rfl (w.heap.size+1) 0 (by go_simp) _ (fun W hW j v hj=>by rw [Nat.zero_add,hW.2.cell j];exact hj) Tryz.underlying25 rfl Tryz.zea) hS ?_
 try simp only [Act.put,List.setIfInBounds_toArray,List.set_cons_zero,List.set_cons_succ]
 refine AnyH.only (i:=2) (o:=⟨some 10,_,_,_,_,_⟩) (by kernel_rfl) rfl (by rfl) (fun K hK=>?_)
 go_simp
 refine (zvb (t:=t) (kv:=kv) (HK.out.below HB0.out.drew) 0).mono ?_
 rintro e w1 ⟨u,rfl,_,hb⟩
 have HB1:=zh (HB0.out.drew.trans (hb.mono HB0.out.drew.size))
 have hS1:Blk w1 w.heap.size (zDa p sv (.slice A p.fields.length cap) cv) 153∧Blk w1 (w.heap.size+1) (zaa t kv) 25:=⟨b1.out.drew.stays hb,b2.out.drew.stays hb⟩
 clear hb
 unfold zna
 refine hK.out _ _ hS1 ?_
 clear hK K hS
 try simp only [Act.put,List.setIfInBounds_toArray,List.set_cons_zero,List.set_cons_succ]
 refine wpAnyH_take (i:=3) (oi:=⟨some 11,_,_,_,_,_⟩) (v:=.string (zJa t 0).text) rfl (by kernel_rfl) (by kernel_rfl) (by kernel_rfl) (fun _ _ _ h=>h) (Or.inl ⟨by rfl,fun W _=>by have hf:=zzk;go_simp⟩) hS1 ?_
 try simp only [Act.put,List.setIfInBounds_toArray,List.set_cons_zero,List.set_cons_succ]
 refine AnyH.only (i:=4) (o:=⟨some 12,_,_,_,_,_⟩) (by kernel_rfl) rfl (by rfl) (fun K hK=>?_)
 go_simp
 refine (zLj (p:=p) (sv:=sv) (cv:=cv) (HF.out.below HB1.out) (zJa t 0).text).mono ?_
 rintro e w2 ⟨rfl,hb⟩
 have HB2:=zh (HB1.out.trans (hb.mono HB1.out.size))
 have hS2:Blk w2 w.heap.size (zDa p sv (.slice A p.fields.length cap) cv) 153∧Blk w2 (w.heap.size+1) (zaa t kv) 25:=⟨hS1.1.stays hb,hS1.2.stays hb⟩
 clear hb
 refine hK.out _ _ hS2 ?_
 clear hK K hS1
 try simp only [Act.put,List.setIfInBounds_toArray,List.set_cons_zero,List.set_cons_succ]
 refine wpAnyH_take (i:=5) (oi:=⟨some 7,_,_,_,_,_⟩) (v:=.int .i64 (oi (zsj p.fields (zJa t 0).text))) rfl (by kernel_rfl) (by kernel_rfl) (by kernel_rfl) (fun _ _ _ h=>h) (Or.inl ⟨by rfl,fun W _=>by go_simp⟩) hS2 ?_
 try simp only [Act.put,List.setIfInBounds_toArray,List.set_cons_zero,List.set_cons_succ]
 refine wpAnyH_done (by kernel_rfl) ?_ _
 have HB3:=zh hS2.2
 have d0:w2.cell? ⟨w.heap.size+1,0,none⟩=some (.int .i64 t.kind):=hS2.2.cell 0
 have d1:w2.cell? ⟨w.heap.size+1,1,none⟩=some (.string t.text):=hS2.2.cell 1
 have d2:w2.cell? ⟨w.heap.size+1,2,none⟩=some (.int .i64 t.num):=hS2.2.cell 2
 have d3:w2.cell? ⟨w.heap.size+1,3,none⟩=some (.int .i64 t.place):=hS2.2.cell 3
 have d4:w2.cell? ⟨w.heap.size+1,4,none⟩=some kv:=hS2.2.cell 4
 clear hS2
 have HFA:=zh (zmc t kv 32 w2)
 unfold zna at HFA
 cases hs:srt != 0
 ·cases hn:zsj p.fields (zJa t 0).text with
  | none =>
   have HR:=zh (HSZ.out.trans (by rw [hs,hn];try rfl))
   simp only [oi]
   go_wp2_with fail
   refine HFA.out.mono ?_
   rintro e w3 ⟨rfl,hb⟩
   go_wp2_with fail
   exact ⟨rfl,zJd.err HR.out (HB2.out.trans (hb.mono HB2.out.size))⟩
  | some k =>
   have HR:=zh (HSZ.out.trans (by rw [hs,hn];try rfl))
   have hne:((k:Int) == -1)=false:=by simp
   simp only [oi]
   go_wp2_with fail
   go_ret
   exact zJd.ok HR.out rfl HB2.out
 ·have HR:=zh (HSZ.out.trans (by rw [hs];try rfl))
  go_wp2_with fail
  refine HFA.out.mono ?_
  rintro e w3 ⟨rfl,hb⟩
  go_wp2_with fail
  exact ⟨rfl,zJd.err HR.out (HB2.out.trans (hb.mono HB2.out.size))⟩
end
end Go.Proofs.YtpjnpffcnmgdcaaGreatDoor
