/- What the contracts of functions that build nodes of lychgateref02 share. Nothing of the program is walked here. The plain account of layer 3: the one text of a tree, as a list of bytes. Nothing of the program is walked here. The writer of package show in memory: a strings.Builder and a depth in one block; and the contracts of the builder's copyCheck, WriteString and String on it. The contracts of the writer's put (some strings behind one another) and indent. -/
import Derived.Test.YtbfgdpcgdmabpaaGreatDoorY04
import Derived.Test.YtbfgdpcgdmabpaaGreatDoorY05
import Derived.Test.YtbfgdpcgdmabpaaGreatDoorY15
import Derived.Lib.ItoaLen
import Derived.Lib.Builder
import Derived.Lib.UnsafeStr
import Derived.Lib.OthersKept
import Derived.Lib.AppendStr
namespace Go.Proofs.YtbfgdpcgdmabpaaGreatDoor
set_option maxRecDepth 100000
set_option maxHeartbeats 2000000
section
open Go.RowKit
theorem Tryz.zZt:∃ i z,zWf Tryz.prog 32 34 i z:=by
 have h:(Tryz.prog.info? 34).map (fun i=>(i.zero,i.size,i.bytes))=some (some (.agg #[.int .i64 0,.string ⟨#[]⟩,.int .i64 0,.int .i64 0,.slice none 0 0]),5,64):=by kernel_rfl
 obtain ⟨i0,hi,hz0,hz1,hz2⟩:=info_parts h
 exact ⟨i0,_,Tryz.underlying32,hi,hz0,hz1,hz2,rfl⟩
theorem Tryz.zqe:(Tryz.prog.info? 34).map (·.size)=some 5:=by kernel_rfl
theorem zTj {B:Nat} {a w:World} (h:Below B a w) {g:Nat} (hg:B≤g) (cs:Array Value):Below B a (w.setRow g cs) :=
 ⟨h.os,h.tape,h.output,by simpa [World.setRow] using h.size,fun k hk=>(setRow_other w g k cs (by omega)).trans (h.block k hk)⟩
theorem Blk.below {w w':World} {g:Nat} {cs:List Value} {t:TypeId} (h:Blk w g cs t) (hb:Below w.heap.size w w'):Blk w' g cs t:=(hb.block g h.lt).trans h
def zms (w:World) (t:T) (e:Ending) (w':World):Prop:=∃ v,e=.returned (zmb t v)∧KAt 34 w' t.kids (fun b=>w.heap.size≤b) v∧Below w.heap.size w w'
structure zMe (w:World) (t:T) (ks:List T) (v:Value) (W:World):Prop where
 below:Below w.heap.size w W
 res:Blk W (w.heap.size+1) zga 34
 loc:Blk W (w.heap.size+2) (zaa (.mk t.kind t.text t.num t.place ks) v) 34
 kids:KAt 34 W ks (fun b=>w.heap.size+2<b) v
section
variable {w W W':World} {t:T} {ks:List T} {v:Value}
theorem zMe.alloc (h:zMe w t ks v W) (o:Obj):zMe w t ks v (W.alloc o):=⟨h.below.alloc h.below.size o,h.res.alloc o,h.loc.alloc o,h.kids.alloc o⟩
theorem zMe.drew (h:zMe w t ks v W):zMe w t ks v W.drew:=⟨h.below.drew,h.res.drew,h.loc.drew,h.kids.drew⟩
theorem zMe.call (h:zMe w t ks v W) (hb:Below W.heap.size W W'):zMe w t ks v W':=⟨h.below.trans (hb.mono h.below.size),h.res.below hb,h.loc.below hb,h.kids.below hb⟩
theorem zMe.lt (h:zMe w t ks v W):w.heap.size+2<W.heap.size:=h.loc.lt
theorem zMe.fresh (h:zMe w t ks v W) {a:T} {u:Value} (hu:KAt 34 W' a.kids (fun b=>W.heap.size≤b) u):TAt 34 W' a (fun b=>w.heap.size+2<b∧v.ownBlock≠some b) u :=
 TAt.zQd (hu.mono fun b hb _=>by
  have h1:=h.lt
  refine ⟨by omega,fun hv=>?_⟩
  obtain ⟨_,ho,_⟩:=h.kids
  have:=(ho.lt b hv).2
  omega)
theorem zMe.after (h:zMe w t ks v W) {ts:List T} {v':Value} (hK:KAt 34 W' (ks++ts) (fun b=>w.heap.size+2<b) v') (hg:W.grownBy W' v.ownBlock) :
  zMe w t (ks++ts) v' (W'.setCell ⟨w.heap.size+2,4,none⟩ v')∧Blk W' (w.heap.size+2) (zaa (.mk t.kind t.text t.num t.place ks) v) 34:=by
 have hrow:∀ k,v.ownBlock=some k→w.heap.size+2<k:=fun k hk=>by obtain ⟨_,_,hS,_⟩:=h.kids;exact hS k hk
 have h1:Blk W' (w.heap.size+2) (zaa (.mk t.kind t.text t.num t.place ks) v) 34:=h.loc.grown hg (fun e=>by have:=hrow _ e.symm;omega)
 have h2:Blk W' (w.heap.size+1) zga 34:=h.res.grown hg (fun e=>by have:=hrow _ e.symm;omega)
 refine ⟨⟨(h.below.grown hg h.below.size (fun k hk=>by have:=hrow k hk;omega)).setCell (by show w.heap.size≤w.heap.size+2;omega) _,h2.setOther _ _ (by show w.heap.size+1≠w.heap.size+2;omega),h1.zzd 4 v',hK.setCell _ _ (fun b hb=>by show b≠w.heap.size+2;omega)⟩,h1⟩
theorem zMe.post (h:zMe w t t.kids v W):zms w t (.returned (.agg (zaa t v).toArray)) (W.setRow (w.heap.size+1) (zaa t v).toArray) :=
 ⟨v,rfl,(h.kids.setRow _ _ (fun b hb=>by omega)).mono (fun b hb _=>by omega),zTj h.below (by omega) _⟩
end
theorem zGp (w:World) (t:T) (kv:Value):zMe w t [] (.slice none 0 0) (((w.alloc (.cells (zaa t kv).toArray 25)).alloc (.cells zga.toArray 34)).alloc (.cells (zaa (.mk t.kind t.text t.num t.place []) (.slice none 0 0)).toArray 34)):=by
 have h1:((w.alloc (.cells (zaa t kv).toArray 25)).alloc (.cells zga.toArray 34)).heap.size=w.heap.size+2:=by simp
 have h2:=Blk.new ((w.alloc (.cells (zaa t kv).toArray 25)).alloc (.cells zga.toArray 34)) (zaa (.mk t.kind t.text t.num t.place []) (.slice none 0 0)) 34
 rw [h1] at h2
 refine ⟨(((Below.refl _ _).alloc (Nat.le_refl _) _).alloc (by simp) _).alloc (by simp;omega) _,(Blk.zCe w _ _ _).alloc _,h2,KAt.nil _ _ _⟩
end
section
open Go.RowKit
def tb (s:ByteArray):List UInt8:=s.data.toList
def dec (n:Int):List UInt8:=Lib.itoa n
def blanks (d:Nat):List UInt8:=List.replicate (4 * d) 32
def commas:List (List UInt8)→List UInt8
 | []=>[]
 | a :: r=>a++r.flatMap fun x=>[44,32]++x
def zEa:List T→Nat
 | []=>0
 | t :: ts=>if t.kind=3 then zEa ts+1 else 0
def maybe (a b:List UInt8):List (List UInt8)→List UInt8
 | []=>[]
 | x :: _=>a++(x++b)
def zOb (s:List UInt8) (xs:List (List UInt8)):List UInt8:=xs.getD 0 []++([32]++(s++([32]++xs.getD 1 [])))
def zRc (s:List UInt8) (xs:List (List UInt8)):List UInt8:=s++([40]++(commas xs++[41]))
def zTb (s:List UInt8) (n:Int):List UInt8 :=
 if s=[] then dec n else if 0<n then s++([32,43,32]++dec n) else if n<0 then s++([32,45,32]++(dec n).drop 1) else s
def zKf (s:List UInt8) (ks:List T) (xs:List (List UInt8)):List UInt8 :=
 [116,121,112,101,32]++(s++([32]++(xs.getD 0 [] ++
  ((if 0<zEa ks.tail then [32,123,32]++(commas (xs.tail.take (zEa ks.tail))++[32,125]) else []) ++
  ((if zEa ks.tail<ks.tail.length then [32,119,104,101,114,101,32]++commas (xs.tail.drop (zEa ks.tail)) else [])++[59])))))
def zVk (s:List UInt8) (ks:List T) (xs:List (List UInt8)):List UInt8 :=
 [102,110,32]++(s++([40]++(commas (xs.take (ks.length-2))++([41] ++
  ((if (ks.getD (ks.length-2) zNc).text.size=0 then [] else [32,45,62,32]++xs.getD (ks.length-2) [])++([32]++xs.getD (ks.length-1) []))))))
def zDc (s:List UInt8) (xs:List (List UInt8)):List UInt8 :=
 if s=[111,119,110]∨s=[38,109,117,116] then s++([32]++maybe [] [] xs) else if s=[38] then s++maybe [] [] xs else s
def zid (d:Nat) (xs:List (List UInt8)):List UInt8 :=
 [123,10]++(xs.flatMap (fun x=>blanks (d+1)++(x++[10]))++(blanks d++[125]))
def zUg (s:List UInt8) (ks:List T) (xs:List (List UInt8)):List UInt8 :=
 [105,102,32]++(zOb s xs++([32]++(xs.getD 2 []++(if (ks.getD 3 zNc).kids.length=0 then [] else [32,101,108,115,101,32]++xs.getD 3 []))))
def zXa (k:Int) (s:List UInt8) (n:Int) (ks:List T) (xs:List (List UInt8)):List UInt8 :=
 if k=0 then xs.flatMap (fun x=>x++[10])
 else if k=1 then zKf s ks xs
 else if k=2 then s++maybe [32] [] xs
 else if k=3 then s++maybe [91] [93] xs
 else if k=4 then zOb s xs
 else if k=5 then zTb s n
 else if k=6 then zVk s ks xs
 else if k=7 then s++([58,32]++xs.getD 0 [])
 else if k=8 then zDc s xs
 else if k=10 then s++([32,61,32]++(xs.getD 0 []++[59]))
 else if k=11 then s++([91]++(xs.getD 0 []++([93,32,61,32]++(xs.getD 1 []++[59]))))
 else if k=12 then [102,114,101,101,32]++(s++[59])
 else if k=13 then [108,111,99,107,32]++(s++([91]++(dec n++[93,59])))
 else if k=14 then [117,110,108,111,99,107,32]++(s++([91]++(dec n++[93,59])))
 else if k=15 then zUg s ks xs
 else if k=16 then [119,104,105,108,101,32]++(zOb s xs++([32]++xs.getD 2 []))
 else if k=17 then [114,101,116,117,114,110]++(maybe [32] [] xs++[59])
 else if k=18 then [97,98,111,114,116,59]
 else if k=19 then [102,111,114,107,32]++(zRc s xs++[59])
 else if k=20 then xs.getD 0 []++[59]
 else if k=21 then xs.getD 0 []++([32,43,32]++xs.getD 1 [])
 else if k=22 then xs.getD 0 []++([32,45,32]++xs.getD 1 [])
 else if k=23 then [110,101,119,32]++dec n
 else if k=24 then [97,114,114,97,121,32]++s
 else if k=25 then s++([91]++(xs.getD 0 []++[93]))
 else if k=26 then [38]++s
 else if k=27 then [38,109,117,116,32]++s
 else zRc s xs
mutual
def shw (d:Nat):T→List UInt8
 | .mk k s n _ ks=>if k=9 then zid d (zpb (d+1) ks) else zXa k (tb s) n ks (zpb d ks)
def zpb (d:Nat):List T→List (List UInt8)
 | []=>[]
 | t :: ts=>shw d t :: zpb d ts
end
theorem zZa (d:Nat) (k:Int) (s:ByteArray) (n:Int) (p:Nat) (ks:List T):shw d (.mk k s n p ks)=if k=9 then zid d (zpb (d+1) ks) else zXa k (tb s) n ks (zpb d ks):=by rw [shw]
theorem zib (d:Nat):zpb d []=[]:=by rw [zpb]
theorem zPa (d:Nat) (t:T) (ts:List T):zpb d (t :: ts)=shw d t :: zpb d ts:=by rw [zpb]
theorem zhd (d:Nat):∀ ts:List T,zpb d ts=ts.map (shw d)
 | []=>by rw [zib];rfl
 | t :: ts=>by rw [zPa,zhd d ts];rfl
theorem zEc (d:Nat) (ts:List T):(zpb d ts).length=ts.length:=by rw [zhd,List.length_map]
theorem zSj (d:Nat) (ts:List T) (i:Nat) (t:T) (h:ts[i]?=some t):(zpb d ts)[i]?=some (shw d t):=by rw [zhd,List.getElem?_map,h];rfl
theorem zIl (xs:List (List UInt8)) (x:List UInt8) (h:xs≠[]):commas (xs++[x])=commas xs++([44,32]++x):=by
 cases xs with
 | nil=>exact absurd rfl h
 | cons a r=>simp only [List.cons_append,commas,List.flatMap_append,List.flatMap_cons,List.flatMap_nil,List.append_nil,List.append_assoc]
theorem zoh (x:List UInt8):commas [x]=x:=by simp [commas]
theorem zMl (d:Nat):blanks (d+1)=blanks d++[32,32,32,32]:=by
 unfold blanks
 rw [show 4 * (d+1)=4 * d+4 from by omega,← List.replicate_append_replicate]
 rfl
end
section
open Go.RowKit
theorem Tryz.zSt:(Tryz.prog.info? 74).map (·.size)=some 2:=by kernel_rfl
theorem Tryz.zBs:liesAt Tryz.prog Tryz.prog.depth 76 (3 / Tryz.prog.cellsOf 76) 0 74 1=true:=by kernel_rfl
theorem Tryz.zOr:(Tryz.prog.info? 5).map (fun i=>(i.zero,i.size,i.bytes))=some (some (.int .u8 0),1,1):=by kernel_rfl
theorem Tryz.cellsByte:Tryz.prog.cellsOf 5=1:=by kernel_rfl
def zbi (B g:Nat) (p:Value) (l:List UInt8) (d:Nat) (W:World):Prop :=
 B≤g∧∃ v,Blk W g [p,v,.int .i64 d] 76∧W.ownsRow B 5 1 v l.length (Lib.byteCells l)∧(l=[]→v=.slice none 0 0)
def ztd (B g:Nat) (l:List UInt8) (d:Nat) (W:World):Prop :=
 zbi B g (.pointer none) l d W∨zbi B g (.pointer (some ⟨g,0,none⟩)) l d W
def Oth (g:Nat) (w w':World):Prop:=Lib.OthersKept 5 (some g) w w'
theorem Oth.refl (g:Nat) (w:World):Oth g w w:=Lib.OthersKept.refl _ _ _
theorem Oth.trans {g:Nat} {a b c:World} (h:Oth g a b) (h':Oth g b c):Oth g a c:=Lib.OthersKept.trans h h'
theorem Oth.alloc {g:Nat} {a b:World} (h:Oth g a b) (o:Obj):Oth g a (b.alloc o):=Lib.OthersKept.alloc h o
theorem Oth.drew {g:Nat} {a b:World} (h:Oth g a b):Oth g a b.drew:=h
theorem Blk.oth {g b:Nat} {w w':World} {cs:List Value} {t:TypeId} (h:Blk w b cs t) (ho:Oth g w w') (hn:b≠g) (ht:t≠5):Blk w' b cs t :=
 ho b _ h (fun e=>hn (Option.some.inj e)) (fun c fz e=>ht (by injection e))
theorem zbi.lt {B g:Nat} {p:Value} {l:List UInt8} {d:Nat} {W:World} (h:zbi B g p l d W):g<W.heap.size:=by
 obtain ⟨_,v,hb,_⟩:=h
 exact hb.lt
theorem ztd.lt {B g:Nat} {l:List UInt8} {d:Nat} {W:World} (h:ztd B g l d W):g<W.heap.size:=h.elim zbi.lt zbi.lt
theorem ztd.ge {B g:Nat} {l:List UInt8} {d:Nat} {W:World} (h:ztd B g l d W):B≤g:=h.elim (·.1) (·.1)
theorem zbi.alloc {B g:Nat} {p:Value} {l:List UInt8} {d:Nat} {W:World} (h:zbi B g p l d W) (o:Obj):zbi B g p l d (W.alloc o):=by
 obtain ⟨hB,v,hb,ho,hn⟩:=h
 exact ⟨hB,v,hb.alloc o,ho.alloc o,hn⟩
theorem ztd.alloc {B g:Nat} {l:List UInt8} {d:Nat} {W:World} (h:ztd B g l d W) (o:Obj):ztd B g l d (W.alloc o):=h.imp (·.alloc o) (·.alloc o)
theorem zbi.below {B g:Nat} {p:Value} {l:List UInt8} {d:Nat} {W W':World} (h:zbi B g p l d W) (hb:Below W.heap.size W W'):zbi B g p l d W':=by
 obtain ⟨hB,v,hk,ho,hn⟩:=h
 exact ⟨hB,v,hk.stays hb,zQe ho fun k hk'=>hb.block k (ho.lt k hk').2,hn⟩
theorem ztd.below {B g:Nat} {l:List UInt8} {d:Nat} {W W':World} (h:ztd B g l d W) (hb:Below W.heap.size W W'):ztd B g l d W':=h.imp (·.below hb) (·.below hb)
theorem Oth.of_below {g:Nat} {w w':World} (h:Below w.heap.size w w'):Oth g w w':=fun k o hk _ _=>by
 have hlt:k<w.heap.size:=(Array.getElem?_eq_some_iff.1 hk).1
 rw [h.block k hlt];exact hk
theorem zgl {B g:Nat} {v:Value} {W:World} {n:Nat} {xs cs:List Value} (ho:W.ownsRow B 5 1 v n xs) (hb:Blk W g cs 76):v.ownBlock≠some g :=
 Lib.ownBlock_ne ho hb (by decide)
theorem zmm {B:Nat} {v:Value} {W:World} {n:Nat} {xs:List Value} (h:W.ownsRow B 5 1 v n xs):∀ g,v.ownBlock=some g→∃ c fz,W.heap[g]?=some (.cells c 5 fz):=by
 intro g hg
 rcases h.2 with ⟨rfl,_⟩|⟨g',cap,cur,rfl,_,hgg,_⟩
 ·simp [Value.ownBlock] at hg
 ·simp only [Value.ownBlock,Option.some.injEq] at hg
  subst hg
  exact ⟨cur,_,hgg⟩
theorem zbi.zFl {B g:Nat} {v:Value} {W:World} {n:Nat} {xs cs:List Value} (ho:W.ownsRow B 5 1 v n xs) (hb:Blk W g cs 76) (o:Nat) (x:Value):(W.setCell ⟨g,o,none⟩ x).ownsRow B 5 1 v n xs :=
 zQe ho fun k hk=>Below.heap_setCell _ _ _ _ (fun e=>zgl ho hb (by rw [hk,e]))
theorem zbi.zye {B g:Nat} {p:Value} {l:List UInt8} {d:Nat} {W:World} (h:zbi B g p l d W) (d':Nat):zbi B g p l d' (W.setCell ⟨g,2,none⟩ (.int .i64 d')):=by
 obtain ⟨hB,v,hb,ho,hn⟩:=h
 exact ⟨hB,v,hb.zzd 2 _,zbi.zFl ho hb 2 _,hn⟩
theorem ztd.zye {B g:Nat} {l:List UInt8} {d:Nat} {W:World} (h:ztd B g l d W) (d':Nat):ztd B g l d' (W.setCell ⟨g,2,none⟩ (.int .i64 d')):=h.imp (·.zye d') (·.zye d')
theorem zbi.used {B g:Nat} {p:Value} {l:List UInt8} {d:Nat} {W:World} (h:zbi B g p l d W):zbi B g (.pointer (some ⟨g,0,none⟩)) l d (W.setCell ⟨g,0,none⟩ (.pointer (some ⟨g,0,none⟩))):=by
 obtain ⟨hB,v,hb,ho,hn⟩:=h
 exact ⟨hB,v,hb.zzd 0 _,zbi.zFl ho hb 0 _,hn⟩
theorem Oth.zSo {g:Nat} {a w:World} (h:Oth g a w) (o:Nat) (x:Value):Oth g a (w.setCell ⟨g,o,none⟩ x):=Lib.OthersKept.setCell h ⟨g,o,none⟩ rfl x
theorem ztd.depth {B g:Nat} {l:List UInt8} {d:Nat} {W:World} (h:ztd B g l d W):W.cell? ⟨g,2,none⟩=some (.int .i64 d):=by
 rcases h with ⟨_,v,hb,_⟩|⟨_,v,hb,_⟩<;>exact hb.cell 2
def zMa (B g:Nat) (l:List UInt8) (d:Nat) (w:World) (e:Ending) (w':World):Prop:=e=.returned (.tuple #[])∧ztd B g l d w'∧Below B w w'∧Oth g w w'
theorem zok {B g:Nat} {l:List UInt8} {d:Nat} {w:World} (h:ztd B g l d w) :
  Calls Tryz.prog 120 #[.pointer (some ⟨g,0,none⟩)] w fun e w'=>e=.returned (.tuple #[])∧zbi B g (.pointer (some ⟨g,0,none⟩)) l d w'∧Below B w w'∧Oth g w w':=by
 obtain ⟨j,hj,hjs⟩:=Option.map_eq_some_iff.1 Tryz.zSt
 rcases h with h|h
 ·have H:=zh h
  obtain ⟨hB,v,hb,ho⟩:=h
  have h0:w.cell? ⟨g,0,none⟩=some (.pointer none):=hb.cell 0
  have hsh:w.shape? g=some (76,3):=by simp [World.shape?,show w.heap[g]?=_ from hb]
  have hfz:w.frozen? ⟨g,0,none⟩=false:=hb.frozen 0
  clear hb ho
  go_enter Tryz.func120,Tryz.ntmps120
  go_wp2
  rw [Lib.run_to_unsafe w ⟨g,0,none⟩ Tryz.underlying71 Tryz.underlying191 hj (by rw [hjs];decide) hsh (Nat.zero_lt_succ 2)]
  simp only [Result.andThen]
  rw [Oper.upon_value]
  go_wp2
  rw [run_callFunc_extern Tryz.func152 (by kernel_rfl) (by kernel_rfl) (by kernel_rfl) (e:=Extern.AbiNoEscape.same) (by kernel_rfl)]
  rw [Lib.run_noEscape]
  simp only [Result.andThen]
  rw [Oper.upon_value]
  go_wp2
  rw [Lib.run_from_unsafe w ⟨g,0,none⟩ Tryz.underlying191 Tryz.underlying71 hj hsh Tryz.zBs]
  simp only [Result.andThen]
  rw [Oper.upon_value]
  go_wp2
  go_end0
  exact ⟨rfl,H.out.used,(Below.refl B w).setCell (p:=⟨g,0,none⟩) hB _,(Oth.refl g w).zSo 0 _⟩
 ·have H:=zh h
  obtain ⟨hB,v,hb,ho⟩:=h
  have h0:w.cell? ⟨g,0,none⟩=some (.pointer (some ⟨g,0,none⟩)):=hb.cell 0
  clear hb ho
  go_enter Tryz.func120,Tryz.ntmps120
  go_wp2
  rw [Lib.run_neq_ptr_same w _ Tryz.underlying71 hj]
  go_wp2
  go_end0
  exact ⟨rfl,H.out,Below.refl B w,Oth.refl g w⟩
theorem write_any {B g:Nat} {l:List UInt8} {d:Nat} {w:World} (h:ztd B g l d w) (s:ByteArray) (hl:l.length+s.size≤140737488355328) (hBw:B≤w.heap.size) :
  Calls Tryz.prog 85 #[.pointer (some ⟨g,0,none⟩),.string s] w fun e w'=>e=.returned (.tuple #[.int .i64 s.size,.nilIface])∧ztd B g (l++tb s) d w'∧Below B w w'∧Oth g w w':=by
 obtain ⟨i0,hi,hz0,hz1,hz2⟩:=info_parts Tryz.zOr
 go_enter Tryz.func85,Tryz.ntmps85
 go_wp2_with (go_at_call 120;refine (zok h).mono ?_)
 rintro e w1 ⟨rfl,h1,hb1,hk1⟩
 obtain ⟨hB,v,hbk,hown,hnil⟩:=h1
 have HB:=zh hbk
 have HO:=zh hown
 have c1:w1.cell? ⟨g,1,none⟩=some v:=hbk.cell 1
 clear hbk hown
 go_wp2_with (at_builtin;refine Lib.wpList_append_own_string _ rfl (.tmp 12) (.tmp 13) 72 9 rfl B 5 i0 Tryz.underlying72 Tryz.underlying9 hi hz0 hz1 hz2 _ _ _ rfl HO.out s rfl ?c3 ?c4 ?c5 ?_)
 case c3=>unfold maxLen;omega
 case c4=>omega
 case c5=>have:=hb1.size;omega
 intro v' w2 hown' hgrow hv'
 have HB2:=zh (show Blk w2 g [.pointer (some ⟨g,0,none⟩),v,.int .i64 d] 76 from (hgrow.block g HB.out.lt (fun e=>zgl HO.out HB.out e.symm)).trans HB.out)
 have HO2:=zh (show w2.ownsRow B 5 1 v' (l++tb s).length (Lib.byteCells (l++tb s)) from by
  have e1:(l++tb s).length=l.length+s.size:=by rw [List.length_append];unfold tb;simp
  have e2:Lib.byteCells (l++tb s)=Lib.byteCells l++Lib.strCells s:=by unfold Lib.byteCells;rw [List.map_append];rfl
  rw [e1,e2];exact hown')
 have HN2:=zh (show l++tb s=[]→v'=.slice none 0 0 from fun e=>by
  rw [List.append_eq_nil_iff] at e
  have e2:s.size=0:=by have:=congrArg List.length e.2;unfold tb at this;simpa using this
  exact hv'.2 ⟨hnil e.1,by first|exact e2|exact ByteArray.ext (by simpa [tb] using e.2)⟩)
 have HK2:=zh (show Oth g w w2 from Lib.OthersKept.grown hk1 hgrow (zmm HO.out))
 have HB3:=zh (show Below B w w2 from hb1.grown hgrow (by have:=hb1.size;omega) (fun k hk=>(HO.out.lt k hk).1))
 have d1:w2.cell? ⟨g,1,none⟩=some v:=HB2.out.cell 1
 have f1:w2.frozen? ⟨g,1,none⟩=false:=HB2.out.frozen 1
 clear hown' hgrow hv' hb1 hk1 hnil
 obtain ⟨ao,n',cap,rfl⟩:∃ ao n' cap,v'=.slice ao n' cap:=by
  rcases HO2.out.2 with ⟨hv,_⟩|⟨g,cap,cur,hv,_⟩
  ·exact ⟨_,_,_,hv⟩
  ·exact ⟨_,_,_,hv⟩
 go_wp2
 go_ret2
 exact ⟨rfl,.inr ⟨hB,_,HB2.out.zzd 1 _,zbi.zFl HO2.out HB2.out 1 _,HN2.out⟩,HB3.out.setCell (p:=⟨g,1,none⟩) hB _,HK2.out.zSo 1 _⟩
theorem zEn {B g:Nat} {l:List UInt8} {d:Nat} {w:World} (h:ztd B g l d w) :
  Calls Tryz.prog 23 #[.pointer (some ⟨g,0,none⟩)] w fun e w'=>e=.returned (.string ⟨l.toArray⟩)∧Below B w w':=by
 obtain ⟨p,hB,v,hbk,hown,hn⟩:∃ p,zbi B g p l d w:=by
  rcases h with h|h
  ·exact ⟨_,h⟩
  ·exact ⟨_,h⟩
 by_cases h0:l=[]
 ·obtain rfl:=hn h0
  subst h0
  have hUS:∀ (W:World) q,(Builtin.unsafeString_ #[133,3] 9 #[.pointer q,.int .i64 0]).run Tryz.prog W=.ok (.string .empty) W:=fun W q=>Lib.run_unsafeString_none W _ _ _ q
  have c1:w.drew.cell? ⟨g,1,none⟩=some (.slice none 0 0):=hbk.drew.cell 1
  have hSD:(Builtin.unsafeSliceData_ #[72] 133 #[.slice none 0 0]).run Tryz.prog w.drew=.ok (.pointer none) w.drew:=rfl
  clear hbk hown hn h
  go_enter Tryz.func23,Tryz.ntmps23
  go_wp2
  go_region
  all_goals (go_wp2;go_ret;exact ⟨rfl,Below.drew (Below.refl B w)⟩)
 ·have hl0:l.length≠0:=by simpa using h0
  obtain ⟨gb,cap,cur,rfl,hbg,hg,hnc,hcm,hcs,htake⟩:∃ gb cap cur,v=.slice (some ⟨gb,0,none⟩) l.length cap∧B≤gb∧w.heap[gb]?=some (.cells cur 5 (0,0))∧l.length≤cap∧cap≤maxLen∧cur.size=cap * 1∧cur.toList.take (l.length * 1)=Lib.byteCells l:=by
   rcases hown.2 with ⟨_,hz⟩|⟨gb,cap,cur,hv,r⟩
   ·exact absurd hz hl0
   ·exact ⟨gb,cap,cur,hv,r⟩
  have c1:w.drew.cell? ⟨g,1,none⟩=some (.slice (some ⟨gb,0,none⟩) l.length cap):=hbk.drew.cell 1
  have hSD:(Builtin.unsafeSliceData_ #[72] 133 #[.slice (some ⟨gb,0,none⟩) l.length cap]).run Tryz.prog w.drew=.ok (.pointer (some ⟨gb,0,none⟩)) w.drew :=
   Lib.run_unsafeSliceData_row _ _ _ _ _ _ (by omega)
  have hUS:(Builtin.unsafeString_ #[133,3] 9 #[.pointer (some ⟨gb,0,none⟩),.int .i64 l.length]).run Tryz.prog w.drew=.ok (.string ⟨l.toArray⟩) (w.drew.freeze ⟨gb,0,none⟩ l.length):=by
   refine Lib.run_unsafeString_row w.drew 133 3 9 5 Tryz.underlying133 Tryz.cellsByte gb cur.size (by have hg':w.drew.heap[gb]?=some (.cells cur 5 (0,0)):=hg;simp [World.shape?,hg']) l h0 (by omega) (by unfold maxLen at hcm;omega) ?_
   intro j x hx
   exact hown.cells (g:=gb) rfl j (.int .u8 x.toNat) (by simp [Lib.byteCells,hx])
  clear hbk hown hn h hg htake
  go_enter Tryz.func23,Tryz.ntmps23
  go_wp2
  go_region
  all_goals (go_wp2;go_ret;exact ⟨rfl,Lib.below_freeze (Below.drew (Below.refl B w)) (p:=⟨gb,0,none⟩) hbg _⟩)
end
section
open Go.RowKit
theorem Blk.apart {w:World} {g q:Nat} {cs ds:List Value} {t t':TypeId} (h:Blk w g cs t) (h':Blk w q ds t') (hn:t≠t'):q≠g:=by
 rintro rfl
 have e:=Option.some.inj (h.symm.trans h')
 injection e with _ e2 _
 exact hn e2
theorem ztd.blk {B g:Nat} {l:List UInt8} {d:Nat} {W:World} (h:ztd B g l d W):∃ cs,Blk W g cs 76:=by
 rcases h with ⟨_,v,hb,_⟩|⟨_,v,hb,_⟩
 ·exact ⟨_,hb⟩
 ·exact ⟨_,hb⟩
theorem ztd.apart {B g q:Nat} {l:List UInt8} {d:Nat} {W:World} {cs:List Value} {t:TypeId} (h:ztd B g l d W) (hq:Blk W q cs t) (ht:t≠76):q≠g:=by
 obtain ⟨ds,hd⟩:=h.blk
 exact hd.apart hq (fun e=>ht e.symm)
def cat (ss:List ByteArray):List UInt8:=ss.flatMap tb
theorem ztr (ss:List ByteArray) (k:Nat) (s:ByteArray) (h:ss[k]?=some s):cat (ss.take (k+1))=cat (ss.take k)++tb s:=by
 have hlt:=(List.getElem?_eq_some_iff.1 h).1
 unfold cat
 rw [List.take_succ_eq_append_getElem hlt,List.flatMap_append,(List.getElem?_eq_some_iff.1 h).2]
 simp
theorem zhu (ss:List ByteArray) (k:Nat):(cat (ss.take k)).length≤(cat ss).length:=by
 have h:cat ss=cat (ss.take k)++cat (ss.drop k):=by unfold cat;rw [← List.flatMap_append,List.take_append_drop]
 rw [h,List.length_append]
 omega
def zBw (B g:Nat) (l:List UInt8) (d:Nat) (w:World) (ss:List ByteArray) (n:Nat) (i:Value) (wr:World):Prop :=
 ∃ k:Nat,k≤ss.length∧ss.length≤k+n∧i=.int .i64 k∧ztd B g (l++cat (ss.take k)) d wr∧Below B w wr∧Oth g w wr
theorem ztq {B g:Nat} {l:List UInt8} {d:Nat} {w:World} (h:ztd B g l d w) {q cap:Nat} (ss:List ByteArray) (hq:Blk w q (ss.map Value.string) 9) (hl:l.length+(cat ss).length≤140737488355328) (hc:ss.length≤cap) (hm:cap≤1000000) :
  Calls Tryz.prog 46 #[.pointer (some ⟨g,0,none⟩),.slice (some ⟨q,0,none⟩) ss.length cap] w (zMa B g (l++cat ss) d w):=by
 have HQ:=zh hq
 have HN:=zh (h.apart hq (by decide))
 have H:=zh h
 clear hq h
 go_enter Tryz.func46,Tryz.ntmps46
 go_wp2_with fail
 go_loopg [8] ss.length (fun gk i wr=>zBw B g l d w ss gk i wr)
 case atStart=>exact ⟨0,by omega,by omega,rfl,by simpa [cat] using H.out,Below.refl _ _,Oth.refl _ _⟩
 case round =>
  obtain ⟨k,hk,hgk,rfl,hst,hb,ho⟩:=hrel
  have HS:=zh hst
  have HB:=zh hb
  have HO:=zh ho
  clear hst hb ho
  by_cases hlt:k<ss.length
  ·obtain ⟨s,hs⟩:∃ s,ss[k]?=some s:=⟨ss[k],List.getElem?_eq_getElem hlt⟩
   have hc0:wr.cell? ⟨q,k,none⟩=some (.string s):=by
    rw [(HQ.out.oth HO.out HN.out (by decide)).cell k,List.getElem?_map,hs]
    rfl
   have HT:=zh (ztr ss k s hs)
   have hle:(l++cat (ss.take k)).length+s.size≤140737488355328:=by
    have h1:=zhu ss (k+1)
    rw [HT.out] at h1
    simp only [List.length_append] at h1 ⊢
    have:(tb s).length=s.size:=by unfold tb;simp
    omega
   clear hs
   have hzw:B≤wr.heap.size:=by have:=HS.out.lt;have:=HS.out.ge;omega
   go_wp2_with fail
   refine (write_any HS.out s hle hzw).mono ?_
   rintro e w2 ⟨rfl,h2,hb2,ho2⟩
   have HS2:=zh h2
   have HB2:=zh (HB.out.trans hb2)
   have HO2:=zh (HO.out.trans ho2)
   clear h2 hb2 ho2
   go_wp2_with fail
   go_roundg (gk-1)
   case measure=>omega
   case rel=>exact ⟨k+1,by omega,by omega,by go_num,by rw [HT.out,← List.append_assoc];exact HS2.out,HB2.out,HO2.out⟩
  ·have hkk:k=ss.length:=by omega
   go_wp2_with fail
   go_end0
   refine ⟨rfl,?_,HB.out,HO.out⟩
   have h:=HS.out
   rw [hkk,List.take_length] at h
   exact h
end
end Go.Proofs.YtbfgdpcgdmabpaaGreatDoor
