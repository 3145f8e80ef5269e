/- The contracts of sign's leaves: modeOf, namesType, kidOf, the closures that compare, slices.IndexFunc and slices.ContainsFunc over parameters. -/
import Derived.Test.YtdhmdfhnkppnmaaDoorY15
import Derived.Test.YtdhmdfhnkppnmaaDoorY03
import Derived.Test.YtdhmdfhnkppnmaaDoorY01
import Derived.Test.YtdhmdfhnkppnmaaDoorY14
import Derived.Test.YtdhmdfhnkppnmaaDoorY05
namespace Go.Proofs.YtdhmdfhnkppnmaaDoor
set_option maxRecDepth 100000
set_option maxHeartbeats 2000000
open Go.RowKit
theorem znk (s:ByteArray) (w:World) :
  Calls Tryd.prog 44 #[.string s] w fun e w'=>e=.returned (.int .i64 (zUa s))∧w'=w:=by
 have HS:=zh (show ∀ z:Int,zUa s=z→Ending.returned (.int .i64 z)=.returned (.int .i64 (zUa s)) from fun z h=>by rw [h])
 cases h1:s.toList == [105,110,116]
 ·cases h2:s.toList == [111,119,110]
  ·cases h3:s.toList == [38]
   ·cases h4:s.toList == [38,109,117,116]
    all_goals
     go_enter Tryd.func44,Tryd.ntmps44
     go_wp2
     go_ret
     exact ⟨HS.out _ (by unfold zUa;rw [h1,h2,h3,h4];rfl),rfl⟩
   ·go_enter Tryd.func44,Tryd.ntmps44
    go_wp2
    go_ret
    exact ⟨HS.out _ (by unfold zUa;rw [h1,h2,h3];rfl),rfl⟩
  ·go_enter Tryd.func44,Tryd.ntmps44
   go_wp2
   go_ret
   exact ⟨HS.out _ (by unfold zUa;rw [h1,h2];rfl),rfl⟩
 ·go_enter Tryd.func44,Tryd.ntmps44
  go_wp2
  go_ret
  exact ⟨HS.out _ (by unfold zUa;rw [h1];rfl),rfl⟩
theorem zHd (m:Int) (w:World) :
  Calls Tryd.prog 45 #[.int .i64 m] w fun e w'=>e=.returned (.bool (ztb m))∧w'=w:=by
 have HS:=zh (show ∀ z:Bool,ztb m=z→Ending.returned (.bool z)=.returned (.bool (ztb m)) from fun z h=>by rw [h])
 cases h2:m == 2
 ·cases h3:m == 3
  ·cases h4:m == 4
   all_goals
    go_enter Tryd.func45,Tryd.ntmps45
    go_wp2
    go_ret
    exact ⟨HS.out _ (by unfold ztb;rw [h2,h3,h4];rfl),rfl⟩
  ·go_enter Tryd.func45,Tryd.ntmps45
   go_wp2
   go_ret
   exact ⟨HS.out _ (by unfold ztb;rw [h2,h3];rfl),rfl⟩
 ·go_enter Tryd.func45,Tryd.ntmps45
  go_wp2
  go_ret
  exact ⟨HS.out _ (by unfold ztb;rw [h2];rfl),rfl⟩
theorem zCj {w:World} {t:T} {S:Nat→Prop} {kv:Value} (hk:KAt 25 w t.kids S kv) (i:Nat) :
  Calls Tryd.prog 42 #[zma t kv,.int .i64 i] w (zFh w (zza t i) S):=by
 rcases Nat.lt_or_ge i t.kids.length with hi|hi
 ·rw [zLl hi]
  rcases hk.form with ⟨rfl,hnil⟩|⟨g,cap,rfl,hg,hcap,hcm,hget⟩
  ·rw [hnil] at hi;simp at hi
  ·obtain ⟨u,hr,hT⟩:=hget i t.kids[i] (List.getElem?_eq_getElem hi)
   generalize t.kids[i]=tk at hr hT ⊢
   generalize t.kids.length=n at *
   unfold zma
   clear hget hk
   have HB:=zh (show Below w.heap.size w ((w.alloc (.cells (zaa t (.slice (some ⟨g,0,none⟩) n cap)).toArray 25)).alloc (.cells zba.toArray 25)) from (((Below.refl _ _).alloc (Nat.le_refl _) _).alloc (by simp) _))
   have HRes:=zh (Blk.zIe w (.cells (zaa t (.slice (some ⟨g,0,none⟩) n cap)).toArray 25) zba 25)
   have HR:=zh (zoa hr (HB.out.mono (Nat.le_refl _)) hg)
   have HT:=zh (hT.below HB.out)
   have HLT:=zh (hT.kat)
   clear hr hT hg
   unfold maxLen at hcm
   go_enter Tryd.func42,Tryd.ntmps42
   go_wp2_with (first
    | ((with_reducible refine zva 25 (.tmp 14) ?_);refine wpList_load_mid rfl 25 (.tmp 14) rfl g (i * 5) rfl (zaa tk u) _ HR.out Tryd.underlying25 rfl Tryd.zca ?_)
    | ((with_reducible refine zra 25 (.tmp 4) ?_);refine zea rfl 25 (.tmp 4) (.tmp 15) rfl (w.heap.size+1) (zaa tk u) rfl rfl HRes.out Tryd.zca rfl (zda _ _ HT.out.kat.one) ?_))
   exact zua (cs:=zaa tk u) Tryd.results42 rfl HRes.out Tryd.underlying25 rfl Tryd.zca rfl ⟨u,rfl,HLT.out.keep fun b hb hl=>⟨hb,(setRow_other _ _ _ _ (by omega)).trans (HB.out.block b hl)⟩,Below.row HB.out (by omega) _⟩
 ·rw [zzj hi]
  obtain ⟨a,c,rfl⟩:=hk.len
  clear hk
  generalize t.kids.length=n at *
  unfold zma
  have HW:=zh (show zFh w zqb S (.returned (.agg zba.toArray)) (((w.alloc (.cells (zaa t (.slice a n c)).toArray 25)).alloc (.cells zba.toArray 25)).setRow (w.heap.size+1) zba.toArray) from
   ⟨.slice none 0 0,rfl,KAt.nil _ _ _,Below.row (((Below.refl _ _).alloc (Nat.le_refl _) _).alloc (by simp) _) (by omega) _⟩)
  have HRes:=zh (Blk.zIe w (.cells (zaa t (.slice a n c)).toArray 25) zba 25)
  have h1:(n:Int)≤i:=by omega
  go_enter Tryd.func42,Tryd.ntmps42
  go_wp2_with (first
   | ((with_reducible refine zra 25 (.tmp 4) ?_);refine zea rfl 25 (.tmp 4) (.tmp 10) rfl (w.heap.size+1) zba rfl rfl HRes.out Tryd.zca rfl (zda zqb _ rfl) ?_))
  exact zua (cs:=zba) Tryd.results42 rfl HRes.out Tryd.underlying25 rfl Tryd.zca rfl HW.out
def zha (p:Prm):List Value:=[.string p.name,.int .i64 p.mode,.int .i64 p.ty]
def zPi (p:Prm):Value:=.agg #[.string p.name,.int .i64 p.mode,.int .i64 p.ty]
abbrev zHc:=RAt 40 3 zha
theorem zvf (a:Prm):(zha a).length=3:=rfl
theorem zRb (a:Prm):∀ u∈zha a,u.oneCell'=true:=by
 intro u hu
 simp only [zha,List.mem_cons,List.not_mem_nil,or_false] at hu
 rcases hu with rfl|rfl|rfl<;>rfl
theorem Tryd.zNa:(Tryd.prog.info? 40).map (·.size)=some 3:=by kernel_rfl
theorem zsk (o:Prm) (g:Nat) (s:ByteArray) (w:World) (hg:w.cell? ⟨g,1,none⟩=some (.string s)) (hlt:g<w.heap.size) :
  Calls Tryd.prog 41 #[zPi o,.pointer (some ⟨g,0,none⟩)] w fun e w'=>e=.returned (.bool (zxc s o))∧Below w.heap.size w w':=by
 unfold zPi zxc
 generalize o.name=x
 go_enter Tryd.func41,Tryd.ntmps41
 go_wp2
 go_ret
 exact ⟨rfl,(Below.refl _ _).alloc (Nat.le_refl _) _⟩
theorem zlk (o:Prm) (g:Nat) (p:Prm) (w:World) (hg:w.cell? ⟨g,2,none⟩=some (.int .i64 p.ty)) (hlt:g<w.heap.size) :
  Calls Tryd.prog 61 #[zPi o,.pointer (some ⟨g,0,none⟩)] w fun e w'=>e=.returned (.bool (zxe p o))∧Below w.heap.size w w':=by
 obtain ⟨nm,md,ty⟩:=o
 unfold zPi zxe
 simp only
 generalize p.ty=q at *
 have HB:=zh ((Below.refl w.heap.size w).alloc (Nat.le_refl _) (.cells #[.string nm,.int .i64 md,.int .i64 ty] 40))
 have HNT:=zh (zHd md)
 go_enter Tryd.func61,Tryd.ntmps61
 go_wp2_with fail
 refine (HNT.out _).mono ?_
 rintro e w1 ⟨rfl,rfl⟩
 cases hn:ztb md
 ·go_wp2
  go_ret
  exact ⟨zXg (by rw [hn];rfl),HB.out⟩
 ·cases hq:ty == q
  all_goals
   go_wp2
   go_ret
   exact ⟨zXg (by rw [hn,hq];rfl),HB.out⟩
theorem zak {l:List Prm} {b:Prm→Bool} {k:Nat} {p:Prm} (h:l[k]?=some p) (hn:(l.take k).any b=false) (hb:b p=false):(l.take (k+1)).any b=false:=by
 rw [List.take_add_one,h,List.any_append,hn]
 simp [hb]
theorem any_some {l:List Prm} {b:Prm→Bool} {k:Nat} {p:Prm} (h:l[k]?=some p) (hb:b p=true):l.any b=true:=List.any_eq_true.2 ⟨p,List.mem_of_getElem? h,hb⟩
def AnyPost (w:World) (r:Bool) (e:Ending) (w':World):Prop:=(∃ i:Int,e=.returned (.int .i64 i)∧decide ((0:Int)≤i)=r)∧Below w.heap.size w w'
theorem zRk (g:Nat) (s:ByteArray) {l:List Prm} {S:Nat→Prop} {v:Value} (w:World) (hg:w.cell? ⟨g,1,none⟩=some (.string s)) (hlt:g<w.heap.size) (hl:zHc w l S v) :
  Calls Tryd.prog 60 #[v,.func (.func 41) #[] #[.pointer (some ⟨g,0,none⟩)]] w (AnyPost w (l.any (zxc s))):=by
 have HF:=zh (hl.form zvf)
 obtain ⟨va,vc,rfl⟩:=hl.slice
 have hll:l.length≤9223372036854775807:=by
  rcases HF.out with ⟨_,rfl⟩|⟨_,c,e,_,h1,h2,_⟩
  ·simp
  ·unfold maxLen at h2;omega
 clear hl
 go_enter Tryd.func60,Tryd.ntmps60
 go_wp2
 go_loopw [8] (fun i wr=>∃ k:Nat,k≤l.length∧i=.int .i64 k∧Below w.heap.size w wr∧(l.take k).any (zxc s)=false) (fun i _=>l.length-(intOf i).toNat)
 case atStart=>exact ⟨0,by omega,rfl,Below.refl _ _,by simp⟩
 case round =>
  obtain ⟨k,hk,rfl,hb,hno⟩:=hrel
  have HB:=zh hb
  have HN:=zh hno
  clear hb hno
  by_cases hlt2:k<l.length
  ·obtain ⟨b,c,e,hbl,_,_,hc⟩:=(HF.out).resolve_left fun h=>by rw [h.2] at hlt2;simp at hlt2
   obtain ⟨rfl,rfl⟩:va=some ⟨b,0,none⟩∧vc=c:=by simpa using e
   obtain ⟨t,ht⟩:∃ t,l[k]?=some t:=⟨_,List.getElem?_eq_getElem hlt2⟩
   have HR:=zh (zoa (hc k t ht) HB.out hbl.2)
   have HT:=zh ht
   clear hc ht
   go_wp2_with ((with_reducible refine zva 40 (.tmp 14) ?_);refine wpList_load_mid rfl 40 (.tmp 14) rfl b (k * 3) rfl (zha t) _ HR.out Tryd.underlying40 rfl Tryd.zNa ?_)
   refine (zsk t g s _ ((HB.out.cell (p:=⟨g,1,none⟩) hlt).trans hg) (Nat.lt_of_lt_of_le hlt HB.out.size)).mono ?_
   rintro e w1 ⟨rfl,hb1⟩
   have HB1:=zh (HB.out.trans (hb1.mono HB.out.size))
   clear hb1
   cases ho:(zxc s) t
   ·go_wp2
    go_roundw
    case rel=>exact ⟨k+1,by omega,by go_num,HB1.out,zak HT.out HN.out ho⟩
    case measure=>simp [intOf];omega
   ·go_wp2
    go_ret
    exact ⟨⟨k,rfl,by rw [any_some HT.out ho];simp⟩,HB1.out⟩
  ·have hkl:k=l.length:=by omega
   have HRes:=zh (show l.any (zxc s)=false from by have:=HN.out;rwa [hkl,List.take_of_length_le (Nat.le_refl _)] at this)
   go_wp2
   go_ret
   exact ⟨⟨-1,rfl,by rw [HRes.out];rfl⟩,HB.out⟩
theorem zyh (g:Nat) (s:ByteArray) {l:List Prm} {S:Nat→Prop} {v:Value} (w:World) (hg:w.cell? ⟨g,1,none⟩=some (.string s)) (hlt:g<w.heap.size) (hl:zHc w l S v) :
  Calls Tryd.prog 40 #[v,.func (.func 41) #[] #[.pointer (some ⟨g,0,none⟩)]] w fun e w'=>e=.returned (.bool (l.any (zxc s)))∧Below w.heap.size w w':=by
 have HI:=zh (zRk g s w hg hlt hl)
 obtain ⟨va,vc,rfl⟩:=hl.slice
 clear hl
 go_enter Tryd.func40,Tryd.ntmps40
 go_wp2_with fail
 refine HI.out.mono ?_
 rintro e w1 ⟨⟨i,rfl,hi⟩,hb⟩
 have HB:=zh hb
 have HQ:=zh hi
 clear hb HI
 cases hd:decide ((0:Int)≤i)
 all_goals
  go_wp2
  go_ret
  exact ⟨zXg (by rw [← HQ.out,hd];try simp_all),HB.out⟩
theorem zOn (g:Nat) (p:Prm) {l:List Prm} {S:Nat→Prop} {v:Value} (w:World) (hg:w.cell? ⟨g,2,none⟩=some (.int .i64 p.ty)) (hlt:g<w.heap.size) (hl:zHc w l S v) :
  Calls Tryd.prog 60 #[v,.func (.func 61) #[] #[.pointer (some ⟨g,0,none⟩)]] w (AnyPost w (l.any (zxe p))):=by
 have HF:=zh (hl.form zvf)
 obtain ⟨va,vc,rfl⟩:=hl.slice
 have hll:l.length≤9223372036854775807:=by
  rcases HF.out with ⟨_,rfl⟩|⟨_,c,e,_,h1,h2,_⟩
  ·simp
  ·unfold maxLen at h2;omega
 clear hl
 go_enter Tryd.func60,Tryd.ntmps60
 go_wp2
 go_loopw [8] (fun i wr=>∃ k:Nat,k≤l.length∧i=.int .i64 k∧Below w.heap.size w wr∧(l.take k).any (zxe p)=false) (fun i _=>l.length-(intOf i).toNat)
 case atStart=>exact ⟨0,by omega,rfl,Below.refl _ _,by simp⟩
 case round =>
  obtain ⟨k,hk,rfl,hb,hno⟩:=hrel
  have HB:=zh hb
  have HN:=zh hno
  clear hb hno
  by_cases hlt2:k<l.length
  ·obtain ⟨b,c,e,hbl,_,_,hc⟩:=(HF.out).resolve_left fun h=>by rw [h.2] at hlt2;simp at hlt2
   obtain ⟨rfl,rfl⟩:va=some ⟨b,0,none⟩∧vc=c:=by simpa using e
   obtain ⟨t,ht⟩:∃ t,l[k]?=some t:=⟨_,List.getElem?_eq_getElem hlt2⟩
   have HR:=zh (zoa (hc k t ht) HB.out hbl.2)
   have HT:=zh ht
   clear hc ht
   go_wp2_with ((with_reducible refine zva 40 (.tmp 14) ?_);refine wpList_load_mid rfl 40 (.tmp 14) rfl b (k * 3) rfl (zha t) _ HR.out Tryd.underlying40 rfl Tryd.zNa ?_)
   refine (zlk t g p _ ((HB.out.cell (p:=⟨g,2,none⟩) hlt).trans hg) (Nat.lt_of_lt_of_le hlt HB.out.size)).mono ?_
   rintro e w1 ⟨rfl,hb1⟩
   have HB1:=zh (HB.out.trans (hb1.mono HB.out.size))
   clear hb1
   cases ho:(zxe p) t
   ·go_wp2
    go_roundw
    case rel=>exact ⟨k+1,by omega,by go_num,HB1.out,zak HT.out HN.out ho⟩
    case measure=>simp [intOf];omega
   ·go_wp2
    go_ret
    exact ⟨⟨k,rfl,by rw [any_some HT.out ho];simp⟩,HB1.out⟩
  ·have hkl:k=l.length:=by omega
   have HRes:=zh (show l.any (zxe p)=false from by have:=HN.out;rwa [hkl,List.take_of_length_le (Nat.le_refl _)] at this)
   go_wp2
   go_ret
   exact ⟨⟨-1,rfl,by rw [HRes.out];rfl⟩,HB.out⟩
theorem zVi (g:Nat) (p:Prm) {l:List Prm} {S:Nat→Prop} {v:Value} (w:World) (hg:w.cell? ⟨g,2,none⟩=some (.int .i64 p.ty)) (hlt:g<w.heap.size) (hl:zHc w l S v) :
  Calls Tryd.prog 40 #[v,.func (.func 61) #[] #[.pointer (some ⟨g,0,none⟩)]] w fun e w'=>e=.returned (.bool (l.any (zxe p)))∧Below w.heap.size w w':=by
 have HI:=zh (zOn g p w hg hlt hl)
 obtain ⟨va,vc,rfl⟩:=hl.slice
 clear hl
 go_enter Tryd.func40,Tryd.ntmps40
 go_wp2_with fail
 refine HI.out.mono ?_
 rintro e w1 ⟨⟨i,rfl,hi⟩,hb⟩
 have HB:=zh hb
 have HQ:=zh hi
 clear hb HI
 cases hd:decide ((0:Int)≤i)
 all_goals
  go_wp2
  go_ret
  exact ⟨zXg (by rw [← HQ.out,hd];try simp_all),HB.out⟩
end Go.Proofs.YtdhmdfhnkppnmaaDoor
namespace Go.Proofs.YtdhmdfhnkppnmaaDoor
section
open Go.RowKit
def zSk (k:Int) (s:ByteArray):Bool :=
 bif k == 1 || k == 3 || k == 6 || k == 7 || k == 10 || k == 11 || k == 12 || k == 13 || k == 14 || k == 19 || k == 24 || k == 25 || k == 26 || k == 27 || k == 28 then zeb s
 else bif k == 5 then s.toList == [] || zeb s
 else bif k == 4 || k == 15 || k == 16 then s.toList == [60] || (s.toList == [60,61] || s.toList == [61,61])
 else true
def zVk (n:Int):Bool:=decide (n≤1099511627776) && decide (-1099511627776≤n)
def zTd (k:Int) (s:ByteArray) (n:Int):Bool:=(decide (0≤k) && decide (k≤28)) && (zVk n && zSk k s)
mutual
def T.good:T→Bool
 | .mk k s n _ ks=>zTd k s n && zJe ks
def zJe:List T→Bool
 | []=>true
 | t :: ts=>t.good && zJe ts
end
theorem zge (k:Int) (s:ByteArray) (n:Int) (p:Nat) (ks:List T):(T.mk k s n p ks).good=(zTd k s n && zJe ks):=by rw [T.good]
theorem zCb:zJe []=true:=by rw [zJe]
theorem zYa (t:T) (ts:List T):zJe (t :: ts)=(t.good && zJe ts):=by rw [zJe]
theorem zmd:∀ a b:List T,zJe (a++b)=(zJe a && zJe b)
 | [],b=>by simp [zCb]
 | t :: ts,b=>by rw [List.cons_append,zYa,zYa,zmd ts b,Bool.and_assoc]
theorem zjg {v:Int} {t:T} (h:t.good=true) (hv:zVk v=true):(t.zVb v).good=true:=by
 cases t
 simp only [T.zVb,zge,zTd,Bool.and_eq_true] at *
 exact ⟨⟨h.1.1,hv,h.1.2.2⟩,h.2⟩
theorem zBg {t b:T} (h:t.good=true) (hb:b.good=true):(t.snoc b).good=true:=by
 cases t
 simp only [T.snoc,zge,zmd,zYa,zCb,Bool.and_eq_true,Bool.and_true] at *
 exact ⟨h.1,h.2,hb⟩
theorem zre:zVk 0=true:=by decide
theorem zhb {k:Int} {s:ByteArray} {n:Int} (hk:(k == 1 || k == 3 || k == 6 || k == 7 || k == 10 || k == 11 || k == 12 || k == 13 || k == 14 || k == 19 || k == 24 || k == 25 || k == 26 || k == 27 || k == 28)=true) (hs:zeb s=true) (hn:zVk n=true):zTd k s n=true:=by
 have h1:zSk k s=true:=by unfold zSk;rw [hk];exact hs
 have h2:(decide (0≤k) && decide (k≤28))=true:=by
  simp only [Bool.or_eq_true,beq_iff_eq] at hk
  simp only [Bool.and_eq_true,decide_eq_true_eq]
  omega
 unfold zTd
 rw [h1,h2,hn];rfl
def TG (l:List Tok):Prop:=∀ t∈l,(t.kind=1→zeb t.text=true)∧t.num≤1099511627776
theorem TG.tail {l:List Tok} (h:TG l):TG l.tail:=fun t ht=>h t (List.mem_of_mem_tail ht)
theorem TG.hd {l:List Tok} (h:TG l):((hdT l).kind=1→zeb (hdT l).text=true)∧(hdT l).num≤1099511627776:=by
 cases l with
 | nil=>simp [hdT,zBb]
 | cons t r=>exact h t (by simp)
def Nm (s:ByteArray) (l':List Tok):Prop:=zeb s=true∧TG l'
def Nu (v:Int) (l':List Tok):Prop:=(0≤v∧v≤1099511627776)∧TG l'
def Gd (t:T) (l':List Tok):Prop:=t.good=true∧TG l'
def GdL (ts:List T) (l':List Tok):Prop:=zJe ts=true∧TG l'
def Gn (t:T) (l':List Tok):Prop:=(zeb t.text=true∧t.good=true)∧TG l'
theorem zGa {ss:List ByteArray} {l:List Tok} (h:TG l):Ok (fun t l'=>ss.any (isT t)=true∧TG l') (zxa ss l):=by
 unfold zxa
 exact Ok.cond (fun hc=>Ok.ok ⟨hc,h.tail⟩) fun _=>Ok.err
theorem zfd {l:List Tok} (h:TG l):Ok Nm (zac l):=by
 unfold zac zmf
 refine Ok.bd (G:=Nm ∘ Tok.text) (Ok.cond (fun hc=>Ok.ok ⟨h.hd.1 (beq_iff_eq.1 hc),h.tail⟩) fun _=>Ok.err) fun _ _ h=>Ok.ok h
theorem zme {l:List Tok} (h:TG l):Ok Nu (zvb l):=by
 unfold zvb zmf
 refine Ok.bd (G:=fun t l'=>Nu (t.num:Int) l') (Ok.cond (fun hc=>Ok.ok ⟨⟨by omega,by have:=h.hd.2;omega⟩,h.tail⟩) fun _=>Ok.err) fun _ _ h=>Ok.ok h
theorem zHj {v:Int} (h:0≤v∧v≤1099511627776):zVk v=true:=by unfold zVk;simp;omega
theorem zqm {v:Int} (h:0≤v∧v≤1099511627776):zVk (-v)=true:=by unfold zVk;simp;omega
theorem zVa {k:Int} {s:ByteArray} {n:Int} {p:Nat} (h:zTd k s n=true):(T.mk k s n p []).good=true:=by rw [zge,zCb,h];rfl
theorem zwc {k:Int} {s:ByteArray} {n:Int} {p:Nat} {a:T} (h:zTd k s n=true) (ha:a.good=true):(T.mk k s n p [a]).good=true:=by rw [zge,zYa,zCb,h,ha];rfl
theorem zBh {k:Int} {s:ByteArray} {n:Int} {p:Nat} {a b:T} (h:zTd k s n=true) (ha:a.good=true) (hb:b.good=true):(T.mk k s n p [a,b]).good=true:=by rw [zge,zYa,zYa,zCb,h,ha,hb];rfl
theorem good_row {k:Int} {s:ByteArray} {n:Int} {p:Nat} {ks:List T} (h:zTd k s n=true) (ha:zJe ks=true):(T.mk k s n p ks).good=true:=by rw [zge,h,ha];rfl
theorem zXp:(e0.toList == [])=true:=by rw [ByteArray.toList_eq];rfl
theorem zDp {n:Int} (hn:zVk n=true):zTd 5 e0 n=true:=by
 have h1:zSk 5 e0=true:=by show (e0.toList == [] || zeb e0)=true;rw [zXp];rfl
 unfold zTd;rw [h1,hn];rfl
theorem zvp {s:ByteArray} {n:Int} (hs:zeb s=true) (hn:zVk n=true):zTd 5 s n=true:=by
 have h1:zSk 5 s=true:=by show (s.toList == [] || zeb s)=true;rw [hs,Bool.or_true]
 unfold zTd;rw [h1,hn];rfl
theorem zQa {k:Int} {s:ByteArray} {n:Int} (h1:zSk k s=true) (h2:(decide (0≤k) && decide (k≤28))=true) (hn:zVk n=true):zTd k s n=true:=by unfold zTd;rw [h1,h2,hn];rfl
theorem zTb {l:List Tok} (h:TG l):Ok Gn (zCa l):=by
 unfold zCa
 exact (zfd h).bd fun s l1 h1=>Ok.ok ⟨⟨h1.1,zVa (zvp h1.1 zre)⟩,h1.2⟩
theorem zQb {l:List Tok} (h:TG l):Ok Gd (zCa l):=(zTb h).mono fun _ _ h=>⟨h.1.2,h.2⟩
theorem zMf {l:List Tok} (h:TG l):Ok Gd (zJa l):=by
 unfold zJa
 exact Ok.cond (fun _=>(zme h.tail).bd fun n l1 h1=>Ok.ok ⟨zVa (zDp (zqm h1.1)),h1.2⟩) (fun _=>(zme h).bd fun n l1 h1=>Ok.ok ⟨zVa (zDp (zHj h1.1)),h1.2⟩)
theorem zIp {l:List Tok} {k x:Int} (h:sumP l=some (k,x)):(k=21∧x=1)∨(k=22∧x=-1):=by
 unfold sumP at h
 cases h1:isT (hdT l) (bs [43]) with
 | true=>rw [h1] at h;cases h;exact .inl ⟨rfl,rfl⟩
 | false =>
  rw [h1] at h
  cases h2:isT (hdT l) (bs [45]) with
  | true=>rw [h2] at h;cases h;exact .inr ⟨rfl,rfl⟩
  | false=>rw [h2] at h;cases h
theorem zHm {l:List Tok} {k x v:Int} (h:sumP l=some (k,x)) (hv:0≤v∧v≤1099511627776):zVk (x * v)=true:=by
 rcases zIp h with ⟨_,rfl⟩|⟨_,rfl⟩
 ·rw [Int.one_mul];exact zHj hv
 ·rw [Int.neg_one_mul];exact zqm hv
theorem zPm {l:List Tok} {k x:Int} (h:sumP l=some (k,x)):zTd k e0 0=true:=by
 rcases zIp h with ⟨rfl,_⟩|⟨rfl,_⟩<;>rfl
theorem zgf {l:List Tok} (h:TG l):Ok Gd (zKb l):=by
 unfold zKb
 exact Ok.cond (fun _=>(zTb h).bd fun n l1 h1=>Ok.sum (fun _=>Ok.ok ⟨h1.1.2,h1.2⟩) fun k x hs=>(zme h1.2.tail).bd fun v l2 h2=>Ok.ok ⟨zjg h1.1.2 (zHm hs h2.1),h2.2⟩) (fun _=>zMf h)
theorem zXk {item:List Tok→R T} (hi:∀ {l},TG l→Ok Gd (item l)):∀ (n:Nat) {l:List Tok},TG l→Ok GdL (zaf item n l)
 | 0,l,_=>Ok.err
 | n+1,l,h=>by
  rw [zaf]
  exact Ok.cond (fun _=>(hi h.tail).bd fun a l1 h1=>(zXk hi n h1.2).bd fun xs l2 h2=>Ok.ok ⟨by rw [zYa,h1.1,h2.1];rfl,h2.2⟩) (fun _=>Ok.ok ⟨zCb,h⟩)
theorem zyl {item:List Tok→R T} (hi:∀ {l},TG l→Ok Gd (item l)) {l:List Tok} (h:TG l):Ok GdL (zAd item l):=by
 unfold zAd
 exact (hi h).bd fun a l1 h1=>(zXk hi _ h1.2).bd fun xs l2 h2=>Ok.ok ⟨by rw [zYa,h1.1,h2.1];rfl,h2.2⟩
theorem zIh {item:List Tok→R T} (hi:∀ {l},TG l→Ok Gd (item l)) {l:List Tok} (h:TG l):Ok GdL (zib item l):=by
 unfold zib
 exact (zGa h).bd fun _ l1 h1=>Ok.cond (fun _=>Ok.ok ⟨zCb,h1.2.tail⟩) (fun _=>(zyl hi h1.2).bd fun xs l2 h2=>(zGa h2.2).bd fun _ l3 h3=>Ok.ok ⟨h2.1,h3.2⟩)
theorem zxm {l:List Tok} (h:TG l):Ok Gd (zDc l):=by
 unfold zDc
 exact (zGa h).bd fun _ l1 h1=>(zgf h1.2).bd fun a l2 h2=>(zGa h2.2).bd fun _ l3 h3=>Ok.ok ⟨h2.1,h3.2⟩
theorem zTn {n:T} (hn:zeb n.text=true) {l:List Tok} (h:TG l):Ok Gd (zLe n l):=by
 unfold zLe
 exact (zIh zgf h).bd fun xs l1 h1=>Ok.ok ⟨good_row (zhb rfl hn zre) h1.1,h1.2⟩
theorem ref_g {p:Nat} {l:List Tok} (h:TG l):Ok Gd (zQi p l):=by
 unfold zQi
 exact Ok.cond (fun _=>(zfd h.tail).bd fun s l1 h1=>Ok.ok ⟨zVa (zhb rfl h1.1 zre),h1.2⟩) (fun _=>(zfd h).bd fun s l1 h1=>Ok.ok ⟨zVa (zhb rfl h1.1 zre),h1.2⟩)
theorem zCk {l:List Tok} (h:TG l):Ok Gd (zEa l):=by
 unfold zEa
 exact (zTb h).bd fun n l1 h1=>Ok.cond (fun _=>(zxm h1.2).bd fun a l2 h2=>Ok.ok ⟨zwc (zhb rfl h1.1.1 zre) h2.1,h2.2⟩) fun _=>Ok.cond (fun _=>zTn h1.1.1 h1.2) fun _=>Ok.sum (fun _=>Ok.ok ⟨h1.1.2,h1.2⟩) fun k x hs=>Ok.cond (fun _=>(zQb h1.2.tail).bd fun m l2 h2=>Ok.ok ⟨zBh (zPm hs) h1.1.2 h2.1,h2.2⟩) (fun _=>(zme h1.2.tail).bd fun v l2 h2=>Ok.ok ⟨zjg h1.1.2 (zHm hs h2.1),h2.2⟩)
theorem zHp {l:List Tok} (h:TG l):Ok Gd (znc l):=by
 unfold znc
 exact Ok.cond (fun _=>(zme h.tail).bd fun v l1 h1=>Ok.ok ⟨zVa (zQa rfl rfl (zHj h1.1)),h1.2⟩) fun _=>Ok.cond (fun _=>(zfd h.tail).bd fun s l1 h1=>Ok.ok ⟨zVa (zhb rfl h1.1 zre),h1.2⟩) fun _=>Ok.cond (fun _=>ref_g h.tail) fun _=>Ok.cond (fun _=>zCk h) fun _=>zMf h
theorem zdg {k:Int} (hk:k=4∨k=15∨k=16) {p:Nat} {l:List Tok} (h:TG l):Ok Gd (zRa k p l):=by
 unfold zRa
 refine (zgf h).bd fun a l1 h1=>(zGa h1.2).bd fun c l2 h2=>(zgf h2.2).bd fun b l3 h3=>Ok.ok ⟨zBh ?_ h1.1 h3.1,h3.2⟩
 have h4:(c.text.toList == [60] || (c.text.toList == [60,61] || c.text.toList == [61,61]))=true:=by
  have:=h2.1
  simp only [List.any_cons,List.any_nil,Bool.or_false,isT,bs,ByteArray.toList_eq] at this
  rw [ByteArray.toList_eq]
  exact this
 rcases hk with rfl|rfl|rfl
 ·exact zQa h4 rfl zre
 ·exact zQa h4 rfl zre
 ·exact zQa h4 rfl zre
theorem zTp {l:List Tok} (h:TG l):Ok Gd (zze l):=by unfold zze;exact zdg (.inl rfl) h
theorem zLo {l:List Tok} (h:TG l):Ok Gd (zUb l):=by
 unfold zUb
 exact (zfd h).bd fun s l1 h1=>Ok.cond (fun _=>(zQb h1.2.tail).bd fun a l2 h2=>(zGa h2.2).bd fun _ l3 h3=>Ok.ok ⟨zwc (zhb rfl h1.1 zre) h2.1,h3.2⟩) (fun _=>Ok.ok ⟨zVa (zhb rfl h1.1 zre),h1.2⟩)
theorem ztp {l:List Tok} (h:TG l):Ok Gd (zKd l):=by
 unfold zKd
 exact (zGa h).bd fun t l1 h1=>Ok.cond (fun _=>Ok.ok ⟨zVa (zQa rfl rfl zre),h1.2⟩) (fun _=>(zQb h1.2).bd fun a l2 h2=>Ok.ok ⟨zwc (zQa rfl rfl zre) h2.1,h2.2⟩)
theorem zeg {l:List Tok} (h:TG l):Ok Gd (zKa l):=by
 unfold zKa
 exact (zGa h).bd fun t l1 h1=>Ok.cond (fun _=>(zQb h1.2).bd fun a l2 h2=>Ok.ok ⟨zwc (zQa rfl rfl zre) h2.1,h2.2⟩) (fun _=>Ok.ok ⟨zVa (zQa rfl rfl zre),h1.2⟩)
theorem zBp {l:List Tok} (h:TG l):Ok Gd (zpd l):=by
 unfold zpd
 exact Ok.cond (fun _=>Ok.cond (fun _=>(zQb h.tail.tail).bd fun a l2 h2=>Ok.ok ⟨zwc (zQa rfl rfl zre) h2.1,h2.2⟩) (fun _=>(zQb h.tail).bd fun a l2 h2=>Ok.ok ⟨zwc (zQa rfl rfl zre) h2.1,h2.2⟩)) (fun _=>zeg h)
theorem zFo {l:List Tok} (h:TG l):Ok Gd (zlc l):=by
 unfold zlc
 exact (zfd h).bd fun s l1 h1=>(zGa h1.2).bd fun _ l2 h2=>(zBp h2.2).bd fun a l3 h3=>Ok.ok ⟨zwc (zhb rfl h1.1 zre) h3.1,h3.2⟩
theorem zhn {l:List Tok} (h:TG l):Ok GdL (zdd l):=by
 unfold zdd
 exact Ok.cond (fun _=>(zyl zLo h.tail).bd fun xs l1 h1=>(zGa h1.2).bd fun _ l2 h2=>Ok.ok ⟨h1.1,h2.2⟩) (fun _=>Ok.ok ⟨zCb,h⟩)
theorem zio {l:List Tok} (h:TG l):Ok GdL (zXc l):=by
 unfold zXc
 exact Ok.cond (fun _=>zyl zTp h.tail) (fun _=>Ok.ok ⟨zCb,h⟩)
theorem zbo {p:Nat} {l:List Tok} (h:TG l):Ok Gd (zzb p l):=by
 unfold zzb
 exact (zfd h).bd fun s l1 h1=>(ztp h1.2).bd fun a l2 h2=>(zhn h2.2).bd fun ys l3 h3=>(zio h3.2).bd fun zs l4 h4=>(zGa h4.2).bd fun _ l5 h5=>Ok.ok ⟨good_row (zhb rfl h1.1 zre) (by rw [zYa,zmd,h2.1,h3.1,h4.1];rfl),h5.2⟩
theorem zdo {k:Int} (hk:k=13∨k=14) {p:Nat} {l:List Tok} (h:TG l):Ok Gd (zLd k p l):=by
 unfold zLd
 exact (zfd h).bd fun s l1 h1=>(zGa h1.2).bd fun _ l2 h2=>(zme h2.2).bd fun v l3 h3=>(zGa h3.2).bd fun _ l4 h4=>Ok.ok ⟨zVa (zhb (by rcases hk with rfl|rfl<;>rfl) h1.1 (zHj h3.1)),h4.2⟩
theorem zvn {p:Nat} {l:List Tok} (h:TG l):Ok Gd (zqc p l):=by
 unfold zqc
 exact Ok.cond (fun _=>Ok.ok ⟨zVa (zQa rfl rfl zre),h⟩) (fun _=>(zgf h).bd fun a l1 h1=>Ok.ok ⟨zwc (zQa rfl rfl zre) h1.1,h1.2⟩)
theorem zIo {l:List Tok} (h:TG l):Ok Gd (zwb l):=by
 unfold zwb
 exact (zTb h).bd fun n l1 h1=>Ok.cond (fun _=>(zTn h1.1.1 h1.2).bd fun c l2 h2=>Ok.ok ⟨zwc (zQa rfl rfl zre) h2.1,h2.2⟩) fun _=>Ok.cond (fun _=>(zxm h1.2).bd fun i l2 h2=>(zGa h2.2).bd fun _ l3 h3=>(zgf h3.2).bd fun b l4 h4=>Ok.ok ⟨zBh (zhb rfl h1.1.1 zre) h2.1 h4.1,h4.2⟩) fun _=>(zGa h1.2).bd fun _ l2 h2=>(zHp h2.2).bd fun x l3 h3=>Ok.ok ⟨zwc (zhb rfl h1.1.1 zre) h3.1,h3.2⟩
theorem zkn {l:List Tok} (h:TG l):Ok Gd (zHa l):=by
 unfold zHa
 exact Ok.cond (fun _=>zIo h) fun _=>Ok.cond (fun _=>(zfd h.tail).bd fun s l1 h1=>Ok.ok ⟨zVa (zhb rfl h1.1 zre),h1.2⟩) fun _=>Ok.cond (fun _=>zdo (.inl rfl) h.tail) fun _=>Ok.cond (fun _=>zdo (.inr rfl) h.tail) fun _=>Ok.cond (fun _=>zvn h.tail) fun _=>Ok.cond (fun _=>Ok.ok ⟨zVa (zQa rfl rfl zre),h.tail⟩) fun _=>Ok.cond (fun _=>(zfd h.tail).bd fun s l1 h1=>(zIh zgf h1.2).bd fun xs l2 h2=>Ok.ok ⟨good_row (zhb rfl h1.1 zre) h2.1,h2.2⟩) fun _=>Ok.err
theorem zzp {blk:List Tok→R T} (hb:∀ {l},TG l→Ok Gd (blk l)) {p:Nat} {l:List Tok} (h:TG l):Ok Gd (zKh blk p l):=by
 unfold zKh
 exact Ok.cond (fun _=>hb h.tail) (fun _=>Ok.ok ⟨zVa (zQa rfl rfl zre),h⟩)
theorem if_g {blk:List Tok→R T} (hb:∀ {l},TG l→Ok Gd (blk l)) {p:Nat} {l:List Tok} (h:TG l):Ok Gd (ifP blk p l):=by
 unfold ifP
 exact (zdg (.inr (.inl rfl)) h).bd fun n l1 h1=>(hb h1.2).bd fun b l2 h2=>(zzp hb h2.2).bd fun c l3 h3=>Ok.ok ⟨zBg (zBg h1.1 h2.1) h3.1,h3.2⟩
theorem zPo {blk:List Tok→R T} (hb:∀ {l},TG l→Ok Gd (blk l)) {p:Nat} {l:List Tok} (h:TG l):Ok Gd (zBf blk p l):=by
 unfold zBf
 exact (zdg (.inr (.inr rfl)) h).bd fun n l1 h1=>(hb h1.2).bd fun b l2 h2=>Ok.ok ⟨zBg h1.1 h2.1,h2.2⟩
theorem zMp {blk:List Tok→R T} (hb:∀ {l},TG l→Ok Gd (blk l)) {l:List Tok} (h:TG l):Ok Gd (zzc blk l):=by
 unfold zzc
 exact Ok.cond (fun _=>if_g hb h.tail) fun _=>Ok.cond (fun _=>zPo hb h.tail) fun _=>(zkn h).bd fun n l1 h1=>(zGa h1.2).bd fun _ l2 h2=>Ok.ok ⟨h1.1,h2.2⟩
theorem zYj {item:List Tok→R T} (hi:∀ {l},TG l→Ok Gd (item l)):∀ (n:Nat) {l:List Tok},TG l→Ok GdL (zYc item n l)
 | 0,l,_=>Ok.err
 | n+1,l,h=>by
  rw [zYc]
  exact Ok.cond (fun _=>Ok.ok ⟨zCb,h.tail⟩) (fun _=>(hi h).bd fun a l1 h1=>(zYj hi n h1.2).bd fun xs l2 h2=>Ok.ok ⟨by rw [zYa,h1.1,h2.1];rfl,h2.2⟩)
theorem zZl:∀ (n:Nat) {l:List Tok},TG l→Ok Gd (zgb n l)
 | 0,l,h=>by rw [zgb];exact (zGa h).bd fun _ _ _=>Ok.err
 | n+1,l,h=>by
  rw [zgb]
  exact (zGa h).bd fun t l1 h1=>(zYj (zMp (zZl n)) _ h1.2).bd fun xs l2 h2=>Ok.ok ⟨good_row (zQa rfl rfl zre) h2.1,h2.2⟩
theorem zDn {l:List Tok} (h:TG l):Ok Gd (zbd l):=by
 unfold zbd
 exact Ok.cond (fun _=>zeg h.tail) (fun _=>Ok.ok ⟨zVa (zQa rfl rfl zre),h⟩)
theorem fn_g {p:Nat} {l:List Tok} (h:TG l):Ok Gd (fnP p l):=by
 unfold fnP
 exact (zfd h).bd fun s l1 h1=>(zIh zFo h1.2).bd fun xs l2 h2=>(zDn h2.2).bd fun r l3 h3=>(zZl 8 h3.2).bd fun b l4 h4=>Ok.ok ⟨good_row (zhb rfl h1.1 zre) (by rw [zmd,zYa,zYa,zCb,h2.1,h3.1,h4.1];rfl),h4.2⟩
theorem zCp {l:List Tok} (h:TG l):Ok Gd (zhd l):=by
 unfold zhd
 exact (zGa h).bd fun t l1 h1=>Ok.cond (fun _=>zbo h1.2) (fun _=>fn_g h1.2)
theorem zwl:∀ (n:Nat) {l:List Tok},TG l→Ok GdL (zJd n l)
 | 0,l,_=>Ok.err
 | n+1,l,h=>by
  rw [zJd]
  exact Ok.cond (fun _=>Ok.ok ⟨zCb,h⟩) (fun _=>(zCp h).bd fun a l1 h1=>(zwl n h1.2).bd fun xs l2 h2=>Ok.ok ⟨by rw [zYa,h1.1,h2.1];rfl,h2.2⟩)
theorem zLp {l l':List Tok} {t:T} (hl:TG l) (h:zPc l=.ok (t,l')):t.good=true:=by
 have h1:Ok Gd (zPc l):=by
  unfold zPc
  exact (zwl _ hl).bd fun xs l1 h=>Ok.ok ⟨good_row (zQa rfl rfl zre) h.1,h.2⟩
 exact (h1 t l' h).1
theorem zCg (p:Int→Bool):∀ l:List UInt8,zkc p (l.take (zkc p l))=zkc p l
 | []=>by simp [zkc]
 | b :: r=>by
  have ih:=zCg p r
  by_cases hb:p (b.toNat:Int)=true
  ·rw [zkc,if_pos hb,List.take_succ_cons,zkc,if_pos hb,ih]
  ·rw [zkc,if_neg hb];rfl
theorem zFm (s:ByteArray) (k n:Nat):(s.extract k (k+n)).data.toList=(s.data.toList.drop k).take n:=by
 rw [ByteArray.data_extract,Array.toList_extract]
 simp [List.extract]
theorem zel {s:ByteArray} {k:Nat} {t:Tok} (hk:k<s.size) (hl:zXj ((bat s k).toNat:Int)=true) (h:zMb s k=.ok t):t.kind=1→zeb t.text=true:=by
 have hz:=zui hk hl h
 unfold zMb at h
 split at h
 ·cases h
 ·rename_i h16
  split at h
  ·cases h;intro hc;cases hc
  ·rename_i hkey
   cases h
   intro _
   have hle:=zkd zMe s k (by omega)
   have hsz:=zcc s k (endOf zMe s k) hle
   simp only at hz ⊢
   have hd:=drop_at s k hk
   have hlist:(s.extract k (endOf zMe s k)).data.toList=(s.data.toList.drop k).take (zkc zMe (s.data.toList.drop k)):=zFm s k _
   have hrun:endOf zMe (s.extract k (endOf zMe s k)) 0=(s.extract k (endOf zMe s k)).size:=by
    rw [hsz]
    show 0+zkc zMe ((s.extract k (endOf zMe s k)).data.toList.drop 0)=_
    rw [List.drop_zero,hlist,zCg]
    unfold endOf
    omega
   have hat:at0 (s.extract k (endOf zMe s k))=((bat s k).toNat:Int):=by
    unfold at0
    rw [hlist,zgc s k hk,hd]
    have:0<zkc zMe (s.data.toList.drop k):=by
     have h1:=hz.1
     rw [hsz] at h1
     unfold endOf at h1
     omega
    rw [hd] at this
    obtain ⟨m,hm⟩:=Nat.exists_eq_succ_of_ne_zero (Nat.pos_iff_ne_zero.1 this)
    rw [hm,List.take_succ_cons]
    rfl
   unfold zeb
   rw [hat,hl,hrun]
   have hk2:zbh (s.extract k (endOf zMe s k))=false:=by simpa using hkey
   rw [hk2]
   simp only [Bool.and_true,Bool.not_false,decide_true,Bool.and_eq_true,decide_eq_true_eq]
   exact ⟨hz.1,by omega⟩
theorem zjn {s:ByteArray} {k:Nat} {t:Tok} (hk:k<s.size) (h:zLc s k=.ok t):t.kind=1→zeb t.text=true:=by
 have hs:∀ n,zXa s k n=.ok t→t.kind≠1:=by
  intro n
  induction n with
  | zero =>
   unfold zXa zUd
   split
   ·intro h;cases h;simp
   ·intro h;cases h
  | succ n ih =>
   unfold zXa
   split
   ·intro h;cases h;simp
   ·exact ih
 unfold zLc at h
 split at h
 ·rename_i hl
  exact zel hk hl h
 ·split at h
  ·unfold zIc at h
   split at h
   ·cases h
   ·cases h;intro hc;cases hc
  ·intro hc;exact absurd hc (hs 3 h)
theorem zCh {s:ByteArray}:∀ k,∀ ts,lexFrom s k=.ok ts→∀ t∈ts,t.kind=1→zeb t.text=true:=by
 apply zSi (P:=fun k r=>∀ ts,r=.ok ts→∀ t∈ts,t.kind=1→zeb t.text=true)
 ·intro k _ ts h t ht
  cases h
  obtain rfl:t=zcf s:=by simpa using ht
  intro hc;cases hc
 ·intro k _ _ ih;exact ih
 ·intro k _ _ ih;exact ih
 ·intro k e _ _ _ _ ts h;cases h
 ·intro k t hk _ _ ht ih ts h
  cases hr:lexFrom s (k+t.text.size) with
  | error e=>rw [hr] at h;cases h
  | ok ts' =>
   rw [hr] at h
   cases h
   intro u hu
   rcases List.mem_cons.1 hu with rfl|hu
   ·exact zjn hk ht
   ·exact ih ts' hr u hu
theorem zng {s:ByteArray} {ts:List Tok} (h:zjc s=.ok ts):TG ts:=by
 have hg:=(zAe h).2.1
 unfold zjc at h
 split at h
 ·cases h
 ·exact fun t ht=>⟨zCh 0 ts h t ht,(hg t ht).num⟩
theorem zkm:zqb.good=true:=zVa (zQa rfl rfl zre)
theorem zwd (s:ByteArray):(zab s).1.good=true∧(zab s).1.size≤4096:=by
 have hz:zqb.good=true∧zqb.size≤4096:=⟨zkm,by unfold zqb;rw [size_mk,zsa];omega⟩
 unfold zab
 cases hl:zjc s with
 | error e=>exact hz
 | ok ts =>
  simp only
  unfold zAc
  cases hu:zPc ts with
  | error e=>exact hz
  | ok q =>
   obtain ⟨t,l⟩:=q
   simp only
   by_cases hs:4096<t.size
   ·rw [if_pos hs];exact hz
   ·rw [if_neg hs];exact ⟨zLp (zng hl) hu,by simp only;omega⟩
end
section
open Go.RowKit
section
variable {P:Program} {ops:Array Oper} {Q:Exit→Act→World→Prop} {md:Region.Mode} {S:World→Prop}
theorem AnyH.only {i:Nat} {o:Oper} {fuel:Nat} {listed:Array Bool} {a:Act} {w:World} (hr:Region.ready md ops listed=[i]) (ho:ops[i]?=some o) (hw:Region.wanted o (yielded ops a.tmps)=true)
  (h:∀ K:Act→World→Prop,Shut (∀ a w,S w→wpAnyH P md ops Q S fuel (listed.setIfInBounds i true) a w→K a w)→o.wp P a w K Q):wpAnyH P md ops Q S (fuel+1) listed a w:=by
 refine ⟨(fun h0=>by rw [hr] at h0;cases h0),fun j hj=>?_⟩
 rw [hr] at hj
 obtain rfl:j=i:=by simpa using hj
 refine wpOp_step ho fun K' hK=>?_
 rw [if_pos hw]
 exact h K' fun a w hS hA=>hK a w ⟨hS,hA⟩
end
end
section
open Go.RowKit
section
variable {P:Program} {ops:Array Oper} {Q:Exit→Act→World→Prop} {md:Region.Mode} {S:World→Prop}
theorem AnyH.pair {i k:Nat} {o u:Oper} {fuel:Nat} {listed:Array Bool} {a:Act} {w:World} (hr:Region.ready md ops listed=[i,k]) (ho:ops[i]?=some o) (hu:ops[k]?=some u) (hw:Region.wanted o (yielded ops a.tmps)=true) (hv:Region.wanted u (yielded ops a.tmps)=true)
  (h:∀ K:Act→World→Prop,Shut (∀ a w,S w→wpAnyH P md ops Q S fuel (listed.setIfInBounds i true) a w→K a w)→o.wp P a w K Q)
  (h':∀ K:Act→World→Prop,Shut (∀ a w,S w→wpAnyH P md ops Q S fuel (listed.setIfInBounds k true) a w→K a w)→u.wp P a w K Q):wpAnyH P md ops Q S (fuel+1) listed a w:=by
 refine ⟨(fun h0=>by rw [hr] at h0;cases h0),fun j hj=>?_⟩
 rw [hr] at hj
 have hj2:j=i∨j=k:=by simpa using hj
 rcases hj2 with rfl|rfl
 ·refine wpOp_step ho fun K' hK=>?_
  rw [if_pos hw]
  exact h K' fun a w hS hA=>hK a w ⟨hS,hA⟩
 ·refine wpOp_step hu fun K' hK=>?_
  rw [if_pos hv]
  exact h' K' fun a w hS hA=>hK a w ⟨hS,hA⟩
theorem AnyH.three {i j k:Nat} {o u v:Oper} {fuel:Nat} {listed:Array Bool} {a:Act} {w:World} (hr:Region.ready md ops listed=[i,j,k]) (ho:ops[i]?=some o) (hu:ops[j]?=some u) (hv:ops[k]?=some v) (hwo:Region.wanted o (yielded ops a.tmps)=true) (hwu:Region.wanted u (yielded ops a.tmps)=true) (hwv:Region.wanted v (yielded ops a.tmps)=true)
  (h:∀ K:Act→World→Prop,Shut (∀ a w,S w→wpAnyH P md ops Q S fuel (listed.setIfInBounds i true) a w→K a w)→o.wp P a w K Q)
  (h':∀ K:Act→World→Prop,Shut (∀ a w,S w→wpAnyH P md ops Q S fuel (listed.setIfInBounds j true) a w→K a w)→u.wp P a w K Q)
  (h'':∀ K:Act→World→Prop,Shut (∀ a w,S w→wpAnyH P md ops Q S fuel (listed.setIfInBounds k true) a w→K a w)→v.wp P a w K Q):wpAnyH P md ops Q S (fuel+1) listed a w:=by
 refine ⟨(fun h0=>by rw [hr] at h0;cases h0),fun q hq=>?_⟩
 rw [hr] at hq
 have hq2:q=i∨q=j∨q=k:=by simpa using hq
 rcases hq2 with rfl|rfl|rfl
 ·refine wpOp_step ho fun K' hK=>?_
  rw [if_pos hwo]
  exact h K' fun a w hS hA=>hK a w ⟨hS,hA⟩
 ·refine wpOp_step hu fun K' hK=>?_
  rw [if_pos hwu]
  exact h' K' fun a w hS hA=>hK a w ⟨hS,hA⟩
 ·refine wpOp_step hv fun K' hK=>?_
  rw [if_pos hwv]
  exact h'' K' fun a w hS hA=>hK a w ⟨hS,hA⟩
end
end
section
open Go.ChangeShapes Go.WideShapes Go.ChangeAt Go.ChangeMaps Go.RowKit
end
end Go.Proofs.YtdhmdfhnkppnmaaDoor
