/- The writer of package show in memory: a strings.Builder and a depth in one block; and the contracts of the builder's copyCheck, WriteString and String on it. -/
import Derived.Test.YthdbmgijpelecaaGreatDoorZ13
import Derived.Test.YthdbmgijpelecaaGreatDoorZ12
import Derived.Lib.Builder
import Derived.Lib.UnsafeStr
import Derived.Lib.OthersKept
import Derived.Lib.AppendStr
import Derived.Test.YthdbmgijpelecaaGreatDoorZ03
import Derived.Test.YthdbmgijpelecaaGreatDoorZ01
import Derived.Test.YthdbmgijpelecaaGreatDoorZ04
import Derived.Deep.QuietTactic
import Derived.BigQuiet
namespace Go.Proofs.YthdbmgijpelecaaGreatDoor
set_option maxRecDepth 100000
set_option maxHeartbeats 2000000
open Go.RowKit
theorem Tryz.zrp:(Tryz.prog.info? 76).map (·.size)=some 2:=by kernel_rfl
theorem Tryz.zzp:liesAt Tryz.prog Tryz.prog.depth 78 (3 / Tryz.prog.cellsOf 78) 0 76 1=true:=by kernel_rfl
theorem Tryz.zwn:(Tryz.prog.info? 5).map (fun i=>(i.zero,i.size,i.bytes))=some (some (.int .u8 0),1,1):=by kernel_rfl
theorem Tryz.cellsByte:Tryz.prog.cellsOf 5=1:=by kernel_rfl
def zFg (B g:Nat) (p:Value) (l:List UInt8) (d:Nat) (W:World):Prop :=
 B≤g∧∃ v,Blk W g [p,v,.int .i64 d] 78∧W.ownsRow B 5 1 v l.length (Lib.byteCells l)∧(l=[]→v=.slice none 0 0)
def zsc (B g:Nat) (l:List UInt8) (d:Nat) (W:World):Prop :=
 zFg B g (.pointer none) l d W∨zFg B g (.pointer (some ⟨g,0,none⟩)) l d W
def Oth (g:Nat) (w w':World):Prop:=Lib.OthersKept 5 (some g) w w'
theorem Oth.refl (g:Nat) (w:World):Oth g w w:=Lib.OthersKept.refl _ _ _
theorem Oth.trans {g:Nat} {a b c:World} (h:Oth g a b) (h':Oth g b c):Oth g a c:=Lib.OthersKept.trans h h'
theorem Oth.alloc {g:Nat} {a b:World} (h:Oth g a b) (o:Obj):Oth g a (b.alloc o):=Lib.OthersKept.alloc h o
theorem Oth.drew {g:Nat} {a b:World} (h:Oth g a b):Oth g a b.drew:=h
theorem Blk.oth {g b:Nat} {w w':World} {cs:List Value} {t:TypeId} (h:Blk w b cs t) (ho:Oth g w w') (hn:b≠g) (ht:t≠5):Blk w' b cs t :=
 ho b _ h (fun e=>hn (Option.some.inj e)) (fun c fz e=>ht (by injection e))
theorem zFg.lt {B g:Nat} {p:Value} {l:List UInt8} {d:Nat} {W:World} (h:zFg B g p l d W):g<W.heap.size:=by
 obtain ⟨_,v,hb,_⟩:=h
 exact hb.lt
theorem zsc.lt {B g:Nat} {l:List UInt8} {d:Nat} {W:World} (h:zsc B g l d W):g<W.heap.size:=h.elim zFg.lt zFg.lt
theorem zsc.ge {B g:Nat} {l:List UInt8} {d:Nat} {W:World} (h:zsc B g l d W):B≤g:=h.elim (·.1) (·.1)
theorem zFg.alloc {B g:Nat} {p:Value} {l:List UInt8} {d:Nat} {W:World} (h:zFg B g p l d W) (o:Obj):zFg B g p l d (W.alloc o):=by
 obtain ⟨hB,v,hb,ho,hn⟩:=h
 exact ⟨hB,v,hb.alloc o,ho.alloc o,hn⟩
theorem zsc.alloc {B g:Nat} {l:List UInt8} {d:Nat} {W:World} (h:zsc B g l d W) (o:Obj):zsc B g l d (W.alloc o):=h.imp (·.alloc o) (·.alloc o)
theorem zFg.below {B g:Nat} {p:Value} {l:List UInt8} {d:Nat} {W W':World} (h:zFg B g p l d W) (hb:Below W.heap.size W W'):zFg B g p l d W':=by
 obtain ⟨hB,v,hk,ho,hn⟩:=h
 exact ⟨hB,v,hk.stays hb,zCc ho fun k hk'=>hb.block k (ho.lt k hk').2,hn⟩
theorem zsc.below {B g:Nat} {l:List UInt8} {d:Nat} {W W':World} (h:zsc B g l d W) (hb:Below W.heap.size W W'):zsc B g l d W':=h.imp (·.below hb) (·.below hb)
theorem Oth.of_below {g:Nat} {w w':World} (h:Below w.heap.size w w'):Oth g w w':=fun k o hk _ _=>by
 have hlt:k<w.heap.size:=(Array.getElem?_eq_some_iff.1 hk).1
 rw [h.block k hlt];exact hk
theorem zbj {B g:Nat} {v:Value} {W:World} {n:Nat} {xs cs:List Value} (ho:W.ownsRow B 5 1 v n xs) (hb:Blk W g cs 78):v.ownBlock≠some g :=
 Lib.ownBlock_ne ho hb (by decide)
theorem zOj {B:Nat} {v:Value} {W:World} {n:Nat} {xs:List Value} (h:W.ownsRow B 5 1 v n xs):∀ g,v.ownBlock=some g→∃ c fz,W.heap[g]?=some (.cells c 5 fz):=by
 intro g hg
 rcases h.2 with ⟨rfl,_⟩|⟨g',cap,cur,rfl,_,hgg,_⟩
 ·simp [Value.ownBlock] at hg
 ·simp only [Value.ownBlock,Option.some.injEq] at hg
  subst hg
  exact ⟨cur,_,hgg⟩
theorem zFg.zFj {B g:Nat} {v:Value} {W:World} {n:Nat} {xs cs:List Value} (ho:W.ownsRow B 5 1 v n xs) (hb:Blk W g cs 78) (o:Nat) (x:Value):(W.setCell ⟨g,o,none⟩ x).ownsRow B 5 1 v n xs :=
 zCc ho fun k hk=>Below.heap_setCell _ _ _ _ (fun e=>zbj ho hb (by rw [hk,e]))
theorem zFg.zpd {B g:Nat} {p:Value} {l:List UInt8} {d:Nat} {W:World} (h:zFg B g p l d W) (d':Nat):zFg B g p l d' (W.setCell ⟨g,2,none⟩ (.int .i64 d')):=by
 obtain ⟨hB,v,hb,ho,hn⟩:=h
 exact ⟨hB,v,hb.zjc 2 _,zFg.zFj ho hb 2 _,hn⟩
theorem zsc.zpd {B g:Nat} {l:List UInt8} {d:Nat} {W:World} (h:zsc B g l d W) (d':Nat):zsc B g l d' (W.setCell ⟨g,2,none⟩ (.int .i64 d')):=h.imp (·.zpd d') (·.zpd d')
theorem zFg.used {B g:Nat} {p:Value} {l:List UInt8} {d:Nat} {W:World} (h:zFg B g p l d W):zFg B g (.pointer (some ⟨g,0,none⟩)) l d (W.setCell ⟨g,0,none⟩ (.pointer (some ⟨g,0,none⟩))):=by
 obtain ⟨hB,v,hb,ho,hn⟩:=h
 exact ⟨hB,v,hb.zjc 0 _,zFg.zFj ho hb 0 _,hn⟩
theorem Oth.zTm {g:Nat} {a w:World} (h:Oth g a w) (o:Nat) (x:Value):Oth g a (w.setCell ⟨g,o,none⟩ x):=Lib.OthersKept.setCell h ⟨g,o,none⟩ rfl x
theorem zsc.depth {B g:Nat} {l:List UInt8} {d:Nat} {W:World} (h:zsc B g l d W):W.cell? ⟨g,2,none⟩=some (.int .i64 d):=by
 rcases h with ⟨_,v,hb,_⟩|⟨_,v,hb,_⟩<;>exact hb.cell 2
def zka (B g:Nat) (l:List UInt8) (d:Nat) (w:World) (e:Ending) (w':World):Prop:=e=.returned (.tuple #[])∧zsc B g l d w'∧Below B w w'∧Oth g w w'
theorem zAi {B g:Nat} {l:List UInt8} {d:Nat} {w:World} (h:zsc B g l d w) :
  Calls Tryz.prog 137 #[.pointer (some ⟨g,0,none⟩)] w fun e w'=>e=.returned (.tuple #[])∧zFg B g (.pointer (some ⟨g,0,none⟩)) l d w'∧Below B w w'∧Oth g w w':=by
 obtain ⟨j,hj,hjs⟩:=Option.map_eq_some_iff.1 Tryz.zrp
 rcases h with h|h
 ·have H:=zh h
  obtain ⟨hB,v,hb,ho⟩:=h
  have h0:w.cell? ⟨g,0,none⟩=some (.pointer none):=hb.cell 0
  have hsh:w.shape? g=some (78,3):=by simp [World.shape?,show w.heap[g]?=_ from hb]
  have hfz:w.frozen? ⟨g,0,none⟩=false:=hb.frozen 0
  clear hb ho
  go_enter Tryz.func137,Tryz.ntmps137
  go_wp2
  rw [Lib.run_to_unsafe w ⟨g,0,none⟩ Tryz.underlying73 Tryz.underlying197 hj (by rw [hjs];decide) hsh (Nat.zero_lt_succ 2)]
  simp only [Result.andThen]
  rw [Oper.upon_value]
  go_wp2
  rw [run_callFunc_extern Tryz.func169 (by kernel_rfl) (by kernel_rfl) (by kernel_rfl) (e:=Extern.AbiNoEscape.same) (by kernel_rfl)]
  rw [Lib.run_noEscape]
  simp only [Result.andThen]
  rw [Oper.upon_value]
  go_wp2
  rw [Lib.run_from_unsafe w ⟨g,0,none⟩ Tryz.underlying197 Tryz.underlying73 hj hsh Tryz.zzp]
  simp only [Result.andThen]
  rw [Oper.upon_value]
  go_wp2
  go_end0
  exact ⟨rfl,H.out.used,(Below.refl B w).setCell (p:=⟨g,0,none⟩) hB _,(Oth.refl g w).zTm 0 _⟩
 ·have H:=zh h
  obtain ⟨hB,v,hb,ho⟩:=h
  have h0:w.cell? ⟨g,0,none⟩=some (.pointer (some ⟨g,0,none⟩)):=hb.cell 0
  clear hb ho
  go_enter Tryz.func137,Tryz.ntmps137
  go_wp2
  rw [Lib.run_neq_ptr_same w _ Tryz.underlying73 hj]
  go_wp2
  go_end0
  exact ⟨rfl,H.out,Below.refl B w,Oth.refl g w⟩
theorem write_any {B g:Nat} {l:List UInt8} {d:Nat} {w:World} (h:zsc B g l d w) (s:ByteArray) (hl:l.length+s.size≤140737488355328) (hBw:B≤w.heap.size) :
  Calls Tryz.prog 101 #[.pointer (some ⟨g,0,none⟩),.string s] w fun e w'=>e=.returned (.tuple #[.int .i64 s.size,.nilIface])∧zsc B g (l++tb s) d w'∧Below B w w'∧Oth g w w':=by
 obtain ⟨i0,hi,hz0,hz1,hz2⟩:=info_parts Tryz.zwn
 go_enter Tryz.func101,Tryz.ntmps101
 go_wp2_with (go_at_call 137;refine (zAi h).mono ?_)
 rintro e w1 ⟨rfl,h1,hb1,hk1⟩
 obtain ⟨hB,v,hbk,hown,hnil⟩:=h1
 have HB:=zh hbk
 have HO:=zh hown
 have c1:w1.cell? ⟨g,1,none⟩=some v:=hbk.cell 1
 clear hbk hown
 go_wp2_with (at_builtin;refine Lib.wpList_append_own_string _ rfl (.tmp 12) (.tmp 13) 74 9 rfl B 5 i0 Tryz.underlying74 Tryz.underlying9 hi hz0 hz1 hz2 _ _ _ rfl HO.out s rfl ?c3 ?c4 ?c5 ?_)
 case c3=>unfold maxLen;omega
 case c4=>omega
 case c5=>have:=hb1.size;omega
 intro v' w2 hown' hgrow hv'
 have HB2:=zh (show Blk w2 g [.pointer (some ⟨g,0,none⟩),v,.int .i64 d] 78 from (hgrow.block g HB.out.lt (fun e=>zbj HO.out HB.out e.symm)).trans HB.out)
 have HO2:=zh (show w2.ownsRow B 5 1 v' (l++tb s).length (Lib.byteCells (l++tb s)) from by
  have e1:(l++tb s).length=l.length+s.size:=by rw [List.length_append];unfold tb;simp
  have e2:Lib.byteCells (l++tb s)=Lib.byteCells l++Lib.strCells s:=by unfold Lib.byteCells;rw [List.map_append];rfl
  rw [e1,e2];exact hown')
 have HN2:=zh (show l++tb s=[]→v'=.slice none 0 0 from fun e=>by
  rw [List.append_eq_nil_iff] at e
  have e2:s.size=0:=by have:=congrArg List.length e.2;unfold tb at this;simpa using this
  exact hv'.2 ⟨hnil e.1,by first|exact e2|exact ByteArray.ext (by simpa [tb] using e.2)⟩)
 have HK2:=zh (show Oth g w w2 from Lib.OthersKept.grown hk1 hgrow (zOj HO.out))
 have HB3:=zh (show Below B w w2 from hb1.grown hgrow (by have:=hb1.size;omega) (fun k hk=>(HO.out.lt k hk).1))
 have d1:w2.cell? ⟨g,1,none⟩=some v:=HB2.out.cell 1
 have f1:w2.frozen? ⟨g,1,none⟩=false:=HB2.out.frozen 1
 clear hown' hgrow hv' hb1 hk1 hnil
 obtain ⟨ao,n',cap,rfl⟩:∃ ao n' cap,v'=.slice ao n' cap:=by
  rcases HO2.out.2 with ⟨hv,_⟩|⟨g,cap,cur,hv,_⟩
  ·exact ⟨_,_,_,hv⟩
  ·exact ⟨_,_,_,hv⟩
 go_wp2
 go_ret2
 exact ⟨rfl,.inr ⟨hB,_,HB2.out.zjc 1 _,zFg.zFj HO2.out HB2.out 1 _,HN2.out⟩,HB3.out.setCell (p:=⟨g,1,none⟩) hB _,HK2.out.zTm 1 _⟩
theorem zil {B g:Nat} {l:List UInt8} {d:Nat} {w:World} (h:zsc B g l d w) :
  Calls Tryz.prog 32 #[.pointer (some ⟨g,0,none⟩)] w fun e w'=>e=.returned (.string ⟨l.toArray⟩)∧Below B w w':=by
 obtain ⟨p,hB,v,hbk,hown,hn⟩:∃ p,zFg B g p l d w:=by
  rcases h with h|h
  ·exact ⟨_,h⟩
  ·exact ⟨_,h⟩
 by_cases h0:l=[]
 ·obtain rfl:=hn h0
  subst h0
  have hUS:∀ (W:World) q,(Builtin.unsafeString_ #[140,3] 9 #[.pointer q,.int .i64 0]).run Tryz.prog W=.ok (.string .empty) W:=fun W q=>Lib.run_unsafeString_none W _ _ _ q
  have c1:w.drew.cell? ⟨g,1,none⟩=some (.slice none 0 0):=hbk.drew.cell 1
  have hSD:(Builtin.unsafeSliceData_ #[74] 140 #[.slice none 0 0]).run Tryz.prog w.drew=.ok (.pointer none) w.drew:=rfl
  clear hbk hown hn h
  go_enter Tryz.func32,Tryz.ntmps32
  go_wp2
  go_region
  all_goals (go_wp2;go_ret;exact ⟨rfl,Below.drew (Below.refl B w)⟩)
 ·have hl0:l.length≠0:=by simpa using h0
  obtain ⟨gb,cap,cur,rfl,hbg,hg,hnc,hcm,hcs,htake⟩:∃ gb cap cur,v=.slice (some ⟨gb,0,none⟩) l.length cap∧B≤gb∧w.heap[gb]?=some (.cells cur 5 (0,0))∧l.length≤cap∧cap≤maxLen∧cur.size=cap * 1∧cur.toList.take (l.length * 1)=Lib.byteCells l:=by
   rcases hown.2 with ⟨_,hz⟩|⟨gb,cap,cur,hv,r⟩
   ·exact absurd hz hl0
   ·exact ⟨gb,cap,cur,hv,r⟩
  have c1:w.drew.cell? ⟨g,1,none⟩=some (.slice (some ⟨gb,0,none⟩) l.length cap):=hbk.drew.cell 1
  have hSD:(Builtin.unsafeSliceData_ #[74] 140 #[.slice (some ⟨gb,0,none⟩) l.length cap]).run Tryz.prog w.drew=.ok (.pointer (some ⟨gb,0,none⟩)) w.drew :=
   Lib.run_unsafeSliceData_row _ _ _ _ _ _ (by omega)
  have hUS:(Builtin.unsafeString_ #[140,3] 9 #[.pointer (some ⟨gb,0,none⟩),.int .i64 l.length]).run Tryz.prog w.drew=.ok (.string ⟨l.toArray⟩) (w.drew.freeze ⟨gb,0,none⟩ l.length):=by
   refine Lib.run_unsafeString_row w.drew 140 3 9 5 Tryz.underlying140 Tryz.cellsByte gb cur.size (by have hg':w.drew.heap[gb]?=some (.cells cur 5 (0,0)):=hg;simp [World.shape?,hg']) l h0 (by omega) (by unfold maxLen at hcm;omega) ?_
   intro j x hx
   exact hown.cells (g:=gb) rfl j (.int .u8 x.toNat) (by simp [Lib.byteCells,hx])
  clear hbk hown hn h hg htake
  go_enter Tryz.func32,Tryz.ntmps32
  go_wp2
  go_region
  all_goals (go_wp2;go_ret;exact ⟨rfl,Lib.below_freeze (Below.drew (Below.refl B w)) (p:=⟨gb,0,none⟩) hbg _⟩)
end Go.Proofs.YthdbmgijpelecaaGreatDoor
namespace Go.Proofs.YthdbmgijpelecaaGreatDoor
set_option maxRecDepth 100000
set_option maxHeartbeats 2000000
open Go.RowKit
theorem Blk.apart {w:World} {g q:Nat} {cs ds:List Value} {t t':TypeId} (h:Blk w g cs t) (h':Blk w q ds t') (hn:t≠t'):q≠g:=by
 rintro rfl
 have e:=Option.some.inj (h.symm.trans h')
 injection e with _ e2 _
 exact hn e2
theorem zsc.blk {B g:Nat} {l:List UInt8} {d:Nat} {W:World} (h:zsc B g l d W):∃ cs,Blk W g cs 78:=by
 rcases h with ⟨_,v,hb,_⟩|⟨_,v,hb,_⟩
 ·exact ⟨_,hb⟩
 ·exact ⟨_,hb⟩
theorem zsc.apart {B g q:Nat} {l:List UInt8} {d:Nat} {W:World} {cs:List Value} {t:TypeId} (h:zsc B g l d W) (hq:Blk W q cs t) (ht:t≠78):q≠g:=by
 obtain ⟨ds,hd⟩:=h.blk
 exact hd.apart hq (fun e=>ht e.symm)
def cat (ss:List ByteArray):List UInt8:=ss.flatMap tb
theorem zPn (ss:List ByteArray) (k:Nat) (s:ByteArray) (h:ss[k]?=some s):cat (ss.take (k+1))=cat (ss.take k)++tb s:=by
 have hlt:=(List.getElem?_eq_some_iff.1 h).1
 unfold cat
 rw [List.take_succ_eq_append_getElem hlt,List.flatMap_append,(List.getElem?_eq_some_iff.1 h).2]
 simp
theorem zJp (ss:List ByteArray) (k:Nat):(cat (ss.take k)).length≤(cat ss).length:=by
 have h:cat ss=cat (ss.take k)++cat (ss.drop k):=by unfold cat;rw [← List.flatMap_append,List.take_append_drop]
 rw [h,List.length_append]
 omega
def zQq (B g:Nat) (l:List UInt8) (d:Nat) (w:World) (ss:List ByteArray) (n:Nat) (i:Value) (wr:World):Prop :=
 ∃ k:Nat,k≤ss.length∧ss.length≤k+n∧i=.int .i64 k∧zsc B g (l++cat (ss.take k)) d wr∧Below B w wr∧Oth g w wr
theorem zsn {B g:Nat} {l:List UInt8} {d:Nat} {w:World} (h:zsc B g l d w) {q cap:Nat} (ss:List ByteArray) (hq:Blk w q (ss.map Value.string) 9) (hl:l.length+(cat ss).length≤140737488355328) (hc:ss.length≤cap) (hm:cap≤1000000) :
  Calls Tryz.prog 59 #[.pointer (some ⟨g,0,none⟩),.slice (some ⟨q,0,none⟩) ss.length cap] w (zka B g (l++cat ss) d w):=by
 have HQ:=zh hq
 have HN:=zh (h.apart hq (by decide))
 have H:=zh h
 clear hq h
 go_enter Tryz.func59,Tryz.ntmps59
 go_wp2_with fail
 go_loopg [8] ss.length (fun gk i wr=>zQq B g l d w ss gk i wr)
 case atStart=>exact ⟨0,by omega,by omega,rfl,by simpa [cat] using H.out,Below.refl _ _,Oth.refl _ _⟩
 case round =>
  obtain ⟨k,hk,hgk,rfl,hst,hb,ho⟩:=hrel
  have HS:=zh hst
  have HB:=zh hb
  have HO:=zh ho
  clear hst hb ho
  by_cases hlt:k<ss.length
  ·obtain ⟨s,hs⟩:∃ s,ss[k]?=some s:=⟨ss[k],List.getElem?_eq_getElem hlt⟩
   have hc0:wr.cell? ⟨q,k,none⟩=some (.string s):=by
    rw [(HQ.out.oth HO.out HN.out (by decide)).cell k,List.getElem?_map,hs]
    rfl
   have HT:=zh (zPn ss k s hs)
   have hle:(l++cat (ss.take k)).length+s.size≤140737488355328:=by
    have h1:=zJp ss (k+1)
    rw [HT.out] at h1
    simp only [List.length_append] at h1 ⊢
    have:(tb s).length=s.size:=by unfold tb;simp
    omega
   clear hs
   have hzw:B≤wr.heap.size:=by have:=HS.out.lt;have:=HS.out.ge;omega
   go_wp2_with fail
   refine (write_any HS.out s hle hzw).mono ?_
   rintro e w2 ⟨rfl,h2,hb2,ho2⟩
   have HS2:=zh h2
   have HB2:=zh (HB.out.trans hb2)
   have HO2:=zh (HO.out.trans ho2)
   clear h2 hb2 ho2
   go_wp2_with fail
   go_roundg (gk-1)
   case measure=>omega
   case rel=>exact ⟨k+1,by omega,by omega,by go_num,by rw [HT.out,← List.append_assoc];exact HS2.out,HB2.out,HO2.out⟩
  ·have hkk:k=ss.length:=by omega
   go_wp2_with fail
   go_end0
   refine ⟨rfl,?_,HB.out,HO.out⟩
   have h:=HS.out
   rw [hkk,List.take_length] at h
   exact h
end Go.Proofs.YthdbmgijpelecaaGreatDoor
namespace Go.Proofs.YthdbmgijpelecaaGreatDoor
section
open Go.RowKit
def zpl (k:Int) (s:ByteArray):Bool :=
 bif k == 1 || k == 3 || k == 6 || k == 7 || k == 10 || k == 11 || k == 12 || k == 13 || k == 14 || k == 19 || k == 24 || k == 25 || k == 26 || k == 27 || k == 28 then zKa s
 else bif k == 5 then s.toList == [] || zKa s
 else bif k == 4 || k == 15 || k == 16 then s.toList == [60] || (s.toList == [60,61] || s.toList == [61,61])
 else true
def zul (n:Int):Bool:=decide (n≤1099511627776) && decide (-1099511627776≤n)
def zMe (k:Int) (s:ByteArray) (n:Int):Bool:=(decide (0≤k) && decide (k≤28)) && (zul n && zpl k s)
mutual
def T.good:T→Bool
 | .mk k s n _ ks=>zMe k s n && zRf ks
def zRf:List T→Bool
 | []=>true
 | t :: ts=>t.good && zRf ts
end
theorem zFf (k:Int) (s:ByteArray) (n:Int) (p:Nat) (ks:List T):(T.mk k s n p ks).good=(zMe k s n && zRf ks):=by rw [T.good]
theorem zOb:zRf []=true:=by rw [zRf]
theorem zsb (t:T) (ts:List T):zRf (t :: ts)=(t.good && zRf ts):=by rw [zRf]
theorem zLd:∀ a b:List T,zRf (a++b)=(zRf a && zRf b)
 | [],b=>by simp [zOb]
 | t :: ts,b=>by rw [List.cons_append,zsb,zsb,zLd ts b,Bool.and_assoc]
theorem zoh {v:Int} {t:T} (h:t.good=true) (hv:zul v=true):(t.zhc v).good=true:=by
 cases t
 simp only [T.zhc,zFf,zMe,Bool.and_eq_true] at *
 exact ⟨⟨h.1.1,hv,h.1.2.2⟩,h.2⟩
theorem zTg {t b:T} (h:t.good=true) (hb:b.good=true):(t.snoc b).good=true:=by
 cases t
 simp only [T.snoc,zFf,zLd,zsb,zOb,Bool.and_eq_true,Bool.and_true] at *
 exact ⟨h.1,h.2,hb⟩
theorem zKe:zul 0=true:=by decide
theorem zvb {k:Int} {s:ByteArray} {n:Int} (hk:(k == 1 || k == 3 || k == 6 || k == 7 || k == 10 || k == 11 || k == 12 || k == 13 || k == 14 || k == 19 || k == 24 || k == 25 || k == 26 || k == 27 || k == 28)=true) (hs:zKa s=true) (hn:zul n=true):zMe k s n=true:=by
 have h1:zpl k s=true:=by unfold zpl;rw [hk];exact hs
 have h2:(decide (0≤k) && decide (k≤28))=true:=by
  simp only [Bool.or_eq_true,beq_iff_eq] at hk
  simp only [Bool.and_eq_true,decide_eq_true_eq]
  omega
 unfold zMe
 rw [h1,h2,hn];rfl
def TG (l:List Tok):Prop:=∀ t∈l,(t.kind=1→zKa t.text=true)∧t.num≤1099511627776
theorem TG.tail {l:List Tok} (h:TG l):TG l.tail:=fun t ht=>h t (List.mem_of_mem_tail ht)
theorem TG.hd {l:List Tok} (h:TG l):((hdT l).kind=1→zKa (hdT l).text=true)∧(hdT l).num≤1099511627776:=by
 cases l with
 | nil=>simp [hdT,zLb]
 | cons t r=>exact h t (by simp)
def Nm (s:ByteArray) (l':List Tok):Prop:=zKa s=true∧TG l'
def Nu (v:Int) (l':List Tok):Prop:=(0≤v∧v≤1099511627776)∧TG l'
def Gd (t:T) (l':List Tok):Prop:=t.good=true∧TG l'
def GdL (ts:List T) (l':List Tok):Prop:=zRf ts=true∧TG l'
def Gn (t:T) (l':List Tok):Prop:=(zKa t.text=true∧t.good=true)∧TG l'
theorem zwa {ss:List ByteArray} {l:List Tok} (h:TG l):Ok (fun t l'=>ss.any (isT t)=true∧TG l') (zqa ss l):=by
 unfold zqa
 exact Ok.cond (fun hc=>Ok.ok ⟨hc,h.tail⟩) fun _=>Ok.err
theorem zgc {l:List Tok} (h:TG l):Ok Nm (zFc l):=by
 unfold zFc zVf
 refine Ok.bd (G:=Nm ∘ Tok.text) (Ok.cond (fun hc=>Ok.ok ⟨h.hd.1 (beq_iff_eq.1 hc),h.tail⟩) fun _=>Ok.err) fun _ _ h=>Ok.ok h
theorem ztc {l:List Tok} (h:TG l):Ok Nu (zIb l):=by
 unfold zIb zVf
 refine Ok.bd (G:=fun t l'=>Nu (t.num:Int) l') (Ok.cond (fun hc=>Ok.ok ⟨⟨by omega,by have:=h.hd.2;omega⟩,h.tail⟩) fun _=>Ok.err) fun _ _ h=>Ok.ok h
theorem znk {v:Int} (h:0≤v∧v≤1099511627776):zul v=true:=by unfold zul;simp;omega
theorem zwm {v:Int} (h:0≤v∧v≤1099511627776):zul (-v)=true:=by unfold zul;simp;omega
theorem zdb {k:Int} {s:ByteArray} {n:Int} {p:Nat} (h:zMe k s n=true):(T.mk k s n p []).good=true:=by rw [zFf,zOb,h];rfl
theorem zZc {k:Int} {s:ByteArray} {n:Int} {p:Nat} {a:T} (h:zMe k s n=true) (ha:a.good=true):(T.mk k s n p [a]).good=true:=by rw [zFf,zsb,zOb,h,ha];rfl
theorem zni {k:Int} {s:ByteArray} {n:Int} {p:Nat} {a b:T} (h:zMe k s n=true) (ha:a.good=true) (hb:b.good=true):(T.mk k s n p [a,b]).good=true:=by rw [zFf,zsb,zsb,zOb,h,ha,hb];rfl
theorem good_row {k:Int} {s:ByteArray} {n:Int} {p:Nat} {ks:List T} (h:zMe k s n=true) (ha:zRf ks=true):(T.mk k s n p ks).good=true:=by rw [zFf,h,ha];rfl
theorem znr:(e0.toList == [])=true:=by rw [ByteArray.toList_eq];rfl
theorem zKr {n:Int} (hn:zul n=true):zMe 5 e0 n=true:=by
 have h1:zpl 5 e0=true:=by show (e0.toList == [] || zKa e0)=true;rw [znr];rfl
 unfold zMe;rw [h1,hn];rfl
theorem zVr {s:ByteArray} {n:Int} (hs:zKa s=true) (hn:zul n=true):zMe 5 s n=true:=by
 have h1:zpl 5 s=true:=by show (s.toList == [] || zKa s)=true;rw [hs,Bool.or_true]
 unfold zMe;rw [h1,hn];rfl
theorem zXa {k:Int} {s:ByteArray} {n:Int} (h1:zpl k s=true) (h2:(decide (0≤k) && decide (k≤28))=true) (hn:zul n=true):zMe k s n=true:=by unfold zMe;rw [h1,h2,hn];rfl
theorem zJe {l:List Tok} (h:TG l):Ok Gn (zsa l):=by
 unfold zsa
 exact (zgc h).bd fun s l1 h1=>Ok.ok ⟨⟨h1.1,zdb (zVr h1.1 zKe)⟩,h1.2⟩
theorem zUc {l:List Tok} (h:TG l):Ok Gd (zsa l):=(zJe h).mono fun _ _ h=>⟨h.1.2,h.2⟩
theorem zqg {l:List Tok} (h:TG l):Ok Gd (zEa l):=by
 unfold zEa
 exact Ok.cond (fun _=>(ztc h.tail).bd fun n l1 h1=>Ok.ok ⟨zdb (zKr (zwm h1.1)),h1.2⟩) (fun _=>(ztc h).bd fun n l1 h1=>Ok.ok ⟨zdb (zKr (znk h1.1)),h1.2⟩)
theorem zUp {l:List Tok} {k x:Int} (h:sumP l=some (k,x)):(k=21∧x=1)∨(k=22∧x=-1):=by
 unfold sumP at h
 cases h1:isT (hdT l) (bs [43]) with
 | true=>rw [h1] at h;cases h;exact .inl ⟨rfl,rfl⟩
 | false =>
  rw [h1] at h
  cases h2:isT (hdT l) (bs [45]) with
  | true=>rw [h2] at h;cases h;exact .inr ⟨rfl,rfl⟩
  | false=>rw [h2] at h;cases h
theorem zWm {l:List Tok} {k x v:Int} (h:sumP l=some (k,x)) (hv:0≤v∧v≤1099511627776):zul (x * v)=true:=by
 rcases zUp h with ⟨_,rfl⟩|⟨_,rfl⟩
 ·rw [Int.one_mul];exact znk hv
 ·rw [Int.neg_one_mul];exact zwm hv
theorem ztn {l:List Tok} {k x:Int} (h:sumP l=some (k,x)):zMe k e0 0=true:=by
 rcases zUp h with ⟨rfl,_⟩|⟨rfl,_⟩<;>rfl
theorem zBh {l:List Tok} (h:TG l):Ok Gd (zQb l):=by
 unfold zQb
 exact Ok.cond (fun _=>(zJe h).bd fun n l1 h1=>Ok.sum (fun _=>Ok.ok ⟨h1.1.2,h1.2⟩) fun k x hs=>(ztc h1.2.tail).bd fun v l2 h2=>Ok.ok ⟨zoh h1.1.2 (zWm hs h2.1),h2.2⟩) (fun _=>zqg h)
theorem zSm {item:List Tok→R T} (hi:∀ {l},TG l→Ok Gd (item l)):∀ (n:Nat) {l:List Tok},TG l→Ok GdL (zLe item n l)
 | 0,l,_=>Ok.err
 | n+1,l,h=>by
  rw [zLe]
  exact Ok.cond (fun _=>(hi h.tail).bd fun a l1 h1=>(zSm hi n h1.2).bd fun xs l2 h2=>Ok.ok ⟨by rw [zsb,h1.1,h2.1];rfl,h2.2⟩) (fun _=>Ok.ok ⟨zOb,h⟩)
theorem zjm {item:List Tok→R T} (hi:∀ {l},TG l→Ok Gd (item l)) {l:List Tok} (h:TG l):Ok GdL (zHd item l):=by
 unfold zHd
 exact (hi h).bd fun a l1 h1=>(zSm hi _ h1.2).bd fun xs l2 h2=>Ok.ok ⟨by rw [zsb,h1.1,h2.1];rfl,h2.2⟩
theorem zri {item:List Tok→R T} (hi:∀ {l},TG l→Ok Gd (item l)) {l:List Tok} (h:TG l):Ok GdL (zjb item l):=by
 unfold zjb
 exact (zwa h).bd fun _ l1 h1=>Ok.cond (fun _=>Ok.ok ⟨zOb,h1.2.tail⟩) (fun _=>(zjm hi h1.2).bd fun xs l2 h2=>(zwa h2.2).bd fun _ l3 h3=>Ok.ok ⟨h2.1,h3.2⟩)
theorem zKl {l:List Tok} (h:TG l):Ok Gd (zqc l):=by
 unfold zqc
 exact (zwa h).bd fun _ l1 h1=>(zBh h1.2).bd fun a l2 h2=>(zwa h2.2).bd fun _ l3 h3=>Ok.ok ⟨h2.1,h3.2⟩
theorem zAo {n:T} (hn:zKa n.text=true) {l:List Tok} (h:TG l):Ok Gd (zae n l):=by
 unfold zae
 exact (zri zBh h).bd fun xs l1 h1=>Ok.ok ⟨good_row (zvb rfl hn zKe) h1.1,h1.2⟩
theorem ref_g {p:Nat} {l:List Tok} (h:TG l):Ok Gd (zti p l):=by
 unfold zti
 exact Ok.cond (fun _=>(zgc h.tail).bd fun s l1 h1=>Ok.ok ⟨zdb (zvb rfl h1.1 zKe),h1.2⟩) (fun _=>(zgc h).bd fun s l1 h1=>Ok.ok ⟨zdb (zvb rfl h1.1 zKe),h1.2⟩)
theorem zLk {l:List Tok} (h:TG l):Ok Gd (zza l):=by
 unfold zza
 exact (zJe h).bd fun n l1 h1=>Ok.cond (fun _=>(zKl h1.2).bd fun a l2 h2=>Ok.ok ⟨zZc (zvb rfl h1.1.1 zKe) h2.1,h2.2⟩) fun _=>Ok.cond (fun _=>zAo h1.1.1 h1.2) fun _=>Ok.sum (fun _=>Ok.ok ⟨h1.1.2,h1.2⟩) fun k x hs=>Ok.cond (fun _=>(zUc h1.2.tail).bd fun m l2 h2=>Ok.ok ⟨zni (ztn hs) h1.1.2 h2.1,h2.2⟩) (fun _=>(ztc h1.2.tail).bd fun v l2 h2=>Ok.ok ⟨zoh h1.1.2 (zWm hs h2.1),h2.2⟩)
theorem zFr {l:List Tok} (h:TG l):Ok Gd (zyc l):=by
 unfold zyc
 exact Ok.cond (fun _=>(ztc h.tail).bd fun v l1 h1=>Ok.ok ⟨zdb (zXa rfl rfl (znk h1.1)),h1.2⟩) fun _=>Ok.cond (fun _=>(zgc h.tail).bd fun s l1 h1=>Ok.ok ⟨zdb (zvb rfl h1.1 zKe),h1.2⟩) fun _=>Ok.cond (fun _=>ref_g h.tail) fun _=>Ok.cond (fun _=>zLk h) fun _=>zqg h
theorem zfh {k:Int} (hk:k=4∨k=15∨k=16) {p:Nat} {l:List Tok} (h:TG l):Ok Gd (zUa k p l):=by
 unfold zUa
 refine (zBh h).bd fun a l1 h1=>(zwa h1.2).bd fun c l2 h2=>(zBh h2.2).bd fun b l3 h3=>Ok.ok ⟨zni ?_ h1.1 h3.1,h3.2⟩
 have h4:(c.text.toList == [60] || (c.text.toList == [60,61] || c.text.toList == [61,61]))=true:=by
  have:=h2.1
  simp only [List.any_cons,List.any_nil,Bool.or_false,isT,bs,ByteArray.toList_eq] at this
  rw [ByteArray.toList_eq]
  exact this
 rcases hk with rfl|rfl|rfl
 ·exact zXa h4 rfl zKe
 ·exact zXa h4 rfl zKe
 ·exact zXa h4 rfl zKe
theorem zvq {l:List Tok} (h:TG l):Ok Gd (zwe l):=by unfold zwe;exact zfh (.inl rfl) h
theorem zSp {l:List Tok} (h:TG l):Ok Gd (zfc l):=by
 unfold zfc
 exact (zgc h).bd fun s l1 h1=>Ok.cond (fun _=>(zUc h1.2.tail).bd fun a l2 h2=>(zwa h2.2).bd fun _ l3 h3=>Ok.ok ⟨zZc (zvb rfl h1.1 zKe) h2.1,h3.2⟩) (fun _=>Ok.ok ⟨zdb (zvb rfl h1.1 zKe),h1.2⟩)
theorem zOr {l:List Tok} (h:TG l):Ok Gd (zNd l):=by
 unfold zNd
 exact (zwa h).bd fun t l1 h1=>Ok.cond (fun _=>Ok.ok ⟨zdb (zXa rfl rfl zKe),h1.2⟩) (fun _=>(zUc h1.2).bd fun a l2 h2=>Ok.ok ⟨zZc (zXa rfl rfl zKe) h2.1,h2.2⟩)
theorem zth {l:List Tok} (h:TG l):Ok Gd (zLa l):=by
 unfold zLa
 exact (zwa h).bd fun t l1 h1=>Ok.cond (fun _=>(zUc h1.2).bd fun a l2 h2=>Ok.ok ⟨zZc (zXa rfl rfl zKe) h2.1,h2.2⟩) (fun _=>Ok.ok ⟨zdb (zXa rfl rfl zKe),h1.2⟩)
theorem zer {l:List Tok} (h:TG l):Ok Gd (zBd l):=by
 unfold zBd
 exact Ok.cond (fun _=>Ok.cond (fun _=>(zUc h.tail.tail).bd fun a l2 h2=>Ok.ok ⟨zZc (zXa rfl rfl zKe) h2.1,h2.2⟩) (fun _=>(zUc h.tail).bd fun a l2 h2=>Ok.ok ⟨zZc (zXa rfl rfl zKe) h2.1,h2.2⟩)) (fun _=>zth h)
theorem zHo {l:List Tok} (h:TG l):Ok Gd (zzc l):=by
 unfold zzc
 exact (zgc h).bd fun s l1 h1=>(zwa h1.2).bd fun _ l2 h2=>(zer h2.2).bd fun a l3 h3=>Ok.ok ⟨zZc (zvb rfl h1.1 zKe) h3.1,h3.2⟩
theorem zNn {l:List Tok} (h:TG l):Ok GdL (zTc l):=by
 unfold zTc
 exact Ok.cond (fun _=>(zjm zSp h.tail).bd fun xs l1 h1=>(zwa h1.2).bd fun _ l2 h2=>Ok.ok ⟨h1.1,h2.2⟩) (fun _=>Ok.ok ⟨zOb,h⟩)
theorem zTo {l:List Tok} (h:TG l):Ok GdL (zbd l):=by
 unfold zbd
 exact Ok.cond (fun _=>zjm zvq h.tail) (fun _=>Ok.ok ⟨zOb,h⟩)
theorem ztq {p:Nat} {l:List Tok} (h:TG l):Ok Gd (zMb p l):=by
 unfold zMb
 exact (zgc h).bd fun s l1 h1=>(zOr h1.2).bd fun a l2 h2=>(zNn h2.2).bd fun ys l3 h3=>(zTo h3.2).bd fun zs l4 h4=>(zwa h4.2).bd fun _ l5 h5=>Ok.ok ⟨good_row (zvb rfl h1.1 zKe) (by rw [zsb,zLd,h2.1,h3.1,h4.1];rfl),h5.2⟩
theorem zBo {k:Int} (hk:k=13∨k=14) {p:Nat} {l:List Tok} (h:TG l):Ok Gd (zAd k p l):=by
 unfold zAd
 exact (zgc h).bd fun s l1 h1=>(zwa h1.2).bd fun _ l2 h2=>(ztc h2.2).bd fun v l3 h3=>(zwa h3.2).bd fun _ l4 h4=>Ok.ok ⟨zdb (zvb (by rcases hk with rfl|rfl<;>rfl) h1.1 (znk h3.1)),h4.2⟩
theorem zyn {p:Nat} {l:List Tok} (h:TG l):Ok Gd (zYb p l):=by
 unfold zYb
 exact Ok.cond (fun _=>Ok.ok ⟨zdb (zXa rfl rfl zKe),h⟩) (fun _=>(zBh h).bd fun a l1 h1=>Ok.ok ⟨zZc (zXa rfl rfl zKe) h1.1,h1.2⟩)
theorem zMo {l:List Tok} (h:TG l):Ok Gd (zxb l):=by
 unfold zxb
 exact (zJe h).bd fun n l1 h1=>Ok.cond (fun _=>(zAo h1.1.1 h1.2).bd fun c l2 h2=>Ok.ok ⟨zZc (zXa rfl rfl zKe) h2.1,h2.2⟩) fun _=>Ok.cond (fun _=>(zKl h1.2).bd fun i l2 h2=>(zwa h2.2).bd fun _ l3 h3=>(zBh h3.2).bd fun b l4 h4=>Ok.ok ⟨zni (zvb rfl h1.1.1 zKe) h2.1 h4.1,h4.2⟩) fun _=>(zwa h1.2).bd fun _ l2 h2=>(zFr h2.2).bd fun x l3 h3=>Ok.ok ⟨zZc (zvb rfl h1.1.1 zKe) h3.1,h3.2⟩
theorem zQn {l:List Tok} (h:TG l):Ok Gd (zIa l):=by
 unfold zIa
 exact Ok.cond (fun _=>zMo h) fun _=>Ok.cond (fun _=>(zgc h.tail).bd fun s l1 h1=>Ok.ok ⟨zdb (zvb rfl h1.1 zKe),h1.2⟩) fun _=>Ok.cond (fun _=>zBo (.inl rfl) h.tail) fun _=>Ok.cond (fun _=>zBo (.inr rfl) h.tail) fun _=>Ok.cond (fun _=>zyn h.tail) fun _=>Ok.cond (fun _=>Ok.ok ⟨zdb (zXa rfl rfl zKe),h.tail⟩) fun _=>Ok.cond (fun _=>(zgc h.tail).bd fun s l1 h1=>(zri zBh h1.2).bd fun xs l2 h2=>Ok.ok ⟨good_row (zvb rfl h1.1 zKe) h2.1,h2.2⟩) fun _=>Ok.err
theorem zKq {blk:List Tok→R T} (hb:∀ {l},TG l→Ok Gd (blk l)) {p:Nat} {l:List Tok} (h:TG l):Ok Gd (zUf blk p l):=by
 unfold zUf
 exact Ok.cond (fun _=>hb h.tail) (fun _=>Ok.ok ⟨zdb (zXa rfl rfl zKe),h⟩)
theorem if_g {blk:List Tok→R T} (hb:∀ {l},TG l→Ok Gd (blk l)) {p:Nat} {l:List Tok} (h:TG l):Ok Gd (ifP blk p l):=by
 unfold ifP
 exact (zfh (.inr (.inl rfl)) h).bd fun n l1 h1=>(hb h1.2).bd fun b l2 h2=>(zKq hb h2.2).bd fun c l3 h3=>Ok.ok ⟨zTg (zTg h1.1 h2.1) h3.1,h3.2⟩
theorem zeq {blk:List Tok→R T} (hb:∀ {l},TG l→Ok Gd (blk l)) {p:Nat} {l:List Tok} (h:TG l):Ok Gd (zke blk p l):=by
 unfold zke
 exact (zfh (.inr (.inr rfl)) h).bd fun n l1 h1=>(hb h1.2).bd fun b l2 h2=>Ok.ok ⟨zTg h1.1 h2.1,h2.2⟩
theorem zwq {blk:List Tok→R T} (hb:∀ {l},TG l→Ok Gd (blk l)) {l:List Tok} (h:TG l):Ok Gd (zHc blk l):=by
 unfold zHc
 exact Ok.cond (fun _=>if_g hb h.tail) fun _=>Ok.cond (fun _=>zeq hb h.tail) fun _=>(zQn h).bd fun n l1 h1=>(zwa h1.2).bd fun _ l2 h2=>Ok.ok ⟨h1.1,h2.2⟩
theorem zrk {item:List Tok→R T} (hi:∀ {l},TG l→Ok Gd (item l)):∀ (n:Nat) {l:List Tok},TG l→Ok GdL (zPc item n l)
 | 0,l,_=>Ok.err
 | n+1,l,h=>by
  rw [zPc]
  exact Ok.cond (fun _=>Ok.ok ⟨zOb,h.tail⟩) (fun _=>(hi h).bd fun a l1 h1=>(zrk hi n h1.2).bd fun xs l2 h2=>Ok.ok ⟨by rw [zsb,h1.1,h2.1];rfl,h2.2⟩)
theorem zXm:∀ (n:Nat) {l:List Tok},TG l→Ok Gd (zhb n l)
 | 0,l,h=>by rw [zhb];exact (zwa h).bd fun _ _ _=>Ok.err
 | n+1,l,h=>by
  rw [zhb]
  exact (zwa h).bd fun t l1 h1=>(zrk (zwq (zXm n)) _ h1.2).bd fun xs l2 h2=>Ok.ok ⟨good_row (zXa rfl rfl zKe) h2.1,h2.2⟩
theorem zgo {l:List Tok} (h:TG l):Ok Gd (zRc l):=by
 unfold zRc
 exact Ok.cond (fun _=>zth h.tail) (fun _=>Ok.ok ⟨zdb (zXa rfl rfl zKe),h⟩)
theorem fn_g {p:Nat} {l:List Tok} (h:TG l):Ok Gd (fnP p l):=by
 unfold fnP
 exact (zgc h).bd fun s l1 h1=>(zri zHo h1.2).bd fun xs l2 h2=>(zgo h2.2).bd fun r l3 h3=>(zXm 8 h3.2).bd fun b l4 h4=>Ok.ok ⟨good_row (zvb rfl h1.1 zKe) (by rw [zLd,zsb,zsb,zOb,h2.1,h3.1,h4.1];rfl),h4.2⟩
theorem zPq {l:List Tok} (h:TG l):Ok Gd (zGd l):=by
 unfold zGd
 exact (zwa h).bd fun t l1 h1=>Ok.cond (fun _=>ztq h1.2) (fun _=>fn_g h1.2)
theorem zPm:∀ (n:Nat) {l:List Tok},TG l→Ok GdL (zVd n l)
 | 0,l,_=>Ok.err
 | n+1,l,h=>by
  rw [zVd]
  exact Ok.cond (fun _=>Ok.ok ⟨zOb,h⟩) (fun _=>(zPq h).bd fun a l1 h1=>(zPm n h1.2).bd fun xs l2 h2=>Ok.ok ⟨by rw [zsb,h1.1,h2.1];rfl,h2.2⟩)
theorem zVq {l l':List Tok} {t:T} (hl:TG l) (h:zqd l=.ok (t,l')):t.good=true:=by
 have h1:Ok Gd (zqd l):=by
  unfold zqd
  exact (zPm _ hl).bd fun xs l1 h=>Ok.ok ⟨good_row (zXa rfl rfl zKe) h.1,h.2⟩
 exact (h1 t l' h).1
theorem zXg (p:Int→Bool):∀ l:List UInt8,zAc p (l.take (zAc p l))=zAc p l
 | []=>by simp [zAc]
 | b :: r=>by
  have ih:=zXg p r
  by_cases hb:p (b.toNat:Int)=true
  ·rw [zAc,if_pos hb,List.take_succ_cons,zAc,if_pos hb,ih]
  ·rw [zAc,if_neg hb];rfl
theorem zsm (s:ByteArray) (k n:Nat):(s.extract k (k+n)).data.toList=(s.data.toList.drop k).take n:=by
 rw [ByteArray.data_extract,Array.toList_extract]
 simp [List.extract]
theorem zIm {s:ByteArray} {k:Nat} {t:Tok} (hk:k<s.size) (hl:zfk ((bat s k).toNat:Int)=true) (h:zkc s k=.ok t):t.kind=1→zKa t.text=true:=by
 have hz:=zSi hk hl h
 unfold zkc at h
 split at h
 ·cases h
 ·rename_i h16
  split at h
  ·cases h;intro hc;cases hc
  ·rename_i hkey
   cases h
   intro _
   have hle:=zMd zEe s k (by omega)
   have hsz:=zOc s k (endOf zEe s k) hle
   simp only at hz ⊢
   have hd:=drop_at s k hk
   have hlist:(s.extract k (endOf zEe s k)).data.toList=(s.data.toList.drop k).take (zAc zEe (s.data.toList.drop k)):=zsm s k _
   have hrun:endOf zEe (s.extract k (endOf zEe s k)) 0=(s.extract k (endOf zEe s k)).size:=by
    rw [hsz]
    show 0+zAc zEe ((s.extract k (endOf zEe s k)).data.toList.drop 0)=_
    rw [List.drop_zero,hlist,zXg]
    unfold endOf
    omega
   have hat:at0 (s.extract k (endOf zEe s k))=((bat s k).toNat:Int):=by
    unfold at0
    rw [hlist,zNc s k hk,hd]
    have:0<zAc zEe (s.data.toList.drop k):=by
     have h1:=hz.1
     rw [hsz] at h1
     unfold endOf at h1
     omega
    rw [hd] at this
    obtain ⟨m,hm⟩:=Nat.exists_eq_succ_of_ne_zero (Nat.pos_iff_ne_zero.1 this)
    rw [hm,List.take_succ_cons]
    rfl
   unfold zKa
   rw [hat,hl,hrun]
   have hk2:zai (s.extract k (endOf zEe s k))=false:=by simpa using hkey
   rw [hk2]
   simp only [Bool.and_true,Bool.not_false,decide_true,Bool.and_eq_true,decide_eq_true_eq]
   exact ⟨hz.1,by omega⟩
theorem zGn {s:ByteArray} {k:Nat} {t:Tok} (hk:k<s.size) (h:zmd s k=.ok t):t.kind=1→zKa t.text=true:=by
 have hs:∀ n,zgb s k n=.ok t→t.kind≠1:=by
  intro n
  induction n with
  | zero =>
   unfold zgb zxe
   split
   ·intro h;cases h;simp
   ·intro h;cases h
  | succ n ih =>
   unfold zgb
   split
   ·intro h;cases h;simp
   ·exact ih
 unfold zmd at h
 split at h
 ·rename_i hl
  exact zIm hk hl h
 ·split at h
  ·unfold zjd at h
   split at h
   ·cases h
   ·cases h;intro hc;cases hc
  ·intro hc;exact absurd hc (hs 3 h)
theorem zDi {s:ByteArray}:∀ k,∀ ts,lexFrom s k=.ok ts→∀ t∈ts,t.kind=1→zKa t.text=true:=by
 apply zck (P:=fun k r=>∀ ts,r=.ok ts→∀ t∈ts,t.kind=1→zKa t.text=true)
 ·intro k _ ts h t ht
  cases h
  obtain rfl:t=zif s:=by simpa using ht
  intro hc;cases hc
 ·intro k _ _ ih;exact ih
 ·intro k _ _ ih;exact ih
 ·intro k e _ _ _ _ ts h;cases h
 ·intro k t hk _ _ ht ih ts h
  cases hr:lexFrom s (k+t.text.size) with
  | error e=>rw [hr] at h;cases h
  | ok ts' =>
   rw [hr] at h
   cases h
   intro u hu
   rcases List.mem_cons.1 hu with rfl|hu
   ·exact zGn hk ht
   ·exact ih ts' hr u hu
theorem zcj {s:ByteArray} {ts:List Tok} (h:zLc s=.ok ts):TG ts:=by
 have hg:=(zYe h).2.1
 unfold zLc at h
 split at h
 ·cases h
 ·exact fun t ht=>⟨zDi 0 ts h t ht,(hg t ht).num⟩
theorem zim:zWb.good=true:=zdb (zXa rfl rfl zKe)
theorem zdl (s:ByteArray):(zlb s).1.good=true∧(zlb s).1.size≤4096:=by
 have hz:zWb.good=true∧zWb.size≤4096:=⟨zim,by unfold zWb;rw [size_mk,zma];omega⟩
 unfold zlb
 cases hl:zLc s with
 | error e=>exact hz
 | ok ts =>
  simp only
  unfold zpc
  cases hu:zqd ts with
  | error e=>exact hz
  | ok q =>
   obtain ⟨t,l⟩:=q
   simp only
   by_cases hs:4096<t.size
   ·rw [if_pos hs];exact hz
   ·rw [if_neg hs];exact ⟨zVq (zcj hl) hu,by simp only;omega⟩
end
section
open Go.RowKit
def zlp (s:ByteArray):Bool:=zfd.contains s.data.toList || zQr s.data.toList || (s.size == 1 && zqf (s.data.toList.getD 0 0))
def KeyOK (t:Tok):Prop:=zlp t.text=true→t.kind=2∨t.kind=4
structure RSt (E:Env) (w:World) (l:List Tok) (d:Nat) (f:Int) (q:Nat):Prop where
 le:l.length≤E.ts.length
 suf:l=E.ts.drop (E.ts.length-l.length)
 blk:Blk w E.pb [.slice (some ⟨E.tb,0,none⟩) E.ts.length E.cap,.int .i64 ((E.ts.length-l.length:Nat):Int),.int .i64 d,.int .i64 f,.int .i64 q] 89
 row:zGh w E.tb E.ts
 ne:E.tb≠E.pb
 tlt:E.tb<w.heap.size
 ends:Ends l
 ok:∀ t∈E.ts,zpi t
 key:∀ t∈E.ts,KeyOK t
 len:E.ts.length≤16385
 capb:E.ts.length≤E.cap
 deep:d≤8
section
variable {E:Env} {w w':World} {l:List Tok} {d:Nat} {f:Int} {q:Nat}
theorem RSt.plt (h:RSt E w l d f q):E.pb<w.heap.size:=h.blk.lt
theorem RSt.head (h:RSt E w l d f q):0<l.length∧E.ts[E.ts.length-l.length]?=some (hdT l):=by
 obtain ⟨t,r,rfl⟩:=h.ends.ne
 refine ⟨by simp,?_⟩
 have h1:(E.ts.drop (E.ts.length-(t :: r).length))[0]?=some t:=by rw [← h.suf];rfl
 rw [List.getElem?_drop] at h1
 exact h1
theorem RSt.tok (h:RSt E w l d f q) :
  w.cell? ⟨E.tb,(E.ts.length-l.length) * 4,none⟩=some (.int .i64 (hdT l).kind)∧w.cell? ⟨E.tb,(E.ts.length-l.length) * 4+1,none⟩=some (.string (hdT l).text) ∧
  w.cell? ⟨E.tb,(E.ts.length-l.length) * 4+2,none⟩=some (.int .i64 (hdT l).num)∧w.cell? ⟨E.tb,(E.ts.length-l.length) * 4+3,none⟩=some (.int .i64 (hdT l).place) :=
 h.row _ _ h.head.2
theorem RSt.zWl (h:RSt E w l d f q):zpi (hdT l):=h.ok _ (List.mem_of_getElem? h.head.2)
theorem RSt.same (h:RSt E w l d f q) (hs:w.heap.size≤w'.heap.size) (hp:w'.heap[E.pb]?=w.heap[E.pb]?) (ht:w'.heap[E.tb]?=w.heap[E.tb]?):RSt E w' l d f q :=
 ⟨h.le,h.suf,hp.trans h.blk,h.row.same ht,h.ne,Nat.lt_of_lt_of_le h.tlt hs,h.ends,h.ok,h.key,h.len,h.capb,h.deep⟩
theorem RSt.below (h:RSt E w l d f q) (hb:Below w.heap.size w w'):RSt E w' l d f q:=h.same hb.size (hb.block _ h.plt) (hb.block _ h.tlt)
theorem RSt.alloc (h:RSt E w l d f q) (o:Obj):RSt E (w.alloc o) l d f q:=h.same (by simp) (Below.heap_alloc w o _ h.plt) (Below.heap_alloc w o _ h.tlt)
end
end
section
open Go.RowKit
theorem zvi {B:Nat} {a w:World} (h:Below B a w) {g:Nat} (hg:B≤g) (cs:Array Value):Below B a (w.setRow g cs) :=
 ⟨h.os,h.tape,h.output,by simpa [World.setRow] using h.size,fun k hk=>(setRow_other w g k cs (by omega)).trans (h.block k hk)⟩
theorem Blk.below {w w':World} {g:Nat} {cs:List Value} {t:TypeId} (h:Blk w g cs t) (hb:Below w.heap.size w w'):Blk w' g cs t:=(hb.block g h.lt).trans h
def zxq (w:World) (t:T) (e:Ending) (w':World):Prop:=∃ v,e=.returned (zOa t v)∧KAt 34 w' t.kids (fun b=>w.heap.size≤b) v∧Below w.heap.size w w'
structure zme (w:World) (t:T) (ks:List T) (v:Value) (W:World):Prop where
 below:Below w.heap.size w W
 res:Blk W (w.heap.size+1) zba 34
 loc:Blk W (w.heap.size+2) (zaa (.mk t.kind t.text t.num t.place ks) v) 34
 kids:KAt 34 W ks (fun b=>w.heap.size+2<b) v
section
variable {w W W':World} {t:T} {ks:List T} {v:Value}
theorem zme.alloc (h:zme w t ks v W) (o:Obj):zme w t ks v (W.alloc o):=⟨h.below.alloc h.below.size o,h.res.alloc o,h.loc.alloc o,h.kids.alloc o⟩
theorem zme.drew (h:zme w t ks v W):zme w t ks v W.drew:=⟨h.below.drew,h.res.drew,h.loc.drew,h.kids.drew⟩
theorem zme.call (h:zme w t ks v W) (hb:Below W.heap.size W W'):zme w t ks v W':=⟨h.below.trans (hb.mono h.below.size),h.res.below hb,h.loc.below hb,h.kids.below hb⟩
theorem zme.lt (h:zme w t ks v W):w.heap.size+2<W.heap.size:=h.loc.lt
theorem zme.fresh (h:zme w t ks v W) {a:T} {u:Value} (hu:KAt 34 W' a.kids (fun b=>W.heap.size≤b) u):TAt 34 W' a (fun b=>w.heap.size+2<b∧v.ownBlock≠some b) u :=
 TAt.zMc (hu.mono fun b hb _=>by
  have h1:=h.lt
  refine ⟨by omega,fun hv=>?_⟩
  obtain ⟨_,ho,_⟩:=h.kids
  have:=(ho.lt b hv).2
  omega)
theorem zme.after (h:zme w t ks v W) {ts:List T} {v':Value} (hK:KAt 34 W' (ks++ts) (fun b=>w.heap.size+2<b) v') (hg:W.grownBy W' v.ownBlock) :
  zme w t (ks++ts) v' (W'.setCell ⟨w.heap.size+2,4,none⟩ v')∧Blk W' (w.heap.size+2) (zaa (.mk t.kind t.text t.num t.place ks) v) 34:=by
 have hrow:∀ k,v.ownBlock=some k→w.heap.size+2<k:=fun k hk=>by obtain ⟨_,_,hS,_⟩:=h.kids;exact hS k hk
 have h1:Blk W' (w.heap.size+2) (zaa (.mk t.kind t.text t.num t.place ks) v) 34:=h.loc.grown hg (fun e=>by have:=hrow _ e.symm;omega)
 have h2:Blk W' (w.heap.size+1) zba 34:=h.res.grown hg (fun e=>by have:=hrow _ e.symm;omega)
 refine ⟨⟨(h.below.grown hg h.below.size (fun k hk=>by have:=hrow k hk;omega)).setCell (by show w.heap.size≤w.heap.size+2;omega) _,h2.setOther _ _ (by show w.heap.size+1≠w.heap.size+2;omega),h1.zjc 4 v',hK.setCell _ _ (fun b hb=>by show b≠w.heap.size+2;omega)⟩,h1⟩
theorem zme.post (h:zme w t t.kids v W):zxq w t (.returned (.agg (zaa t v).toArray)) (W.setRow (w.heap.size+1) (zaa t v).toArray) :=
 ⟨v,rfl,(h.kids.setRow _ _ (fun b hb=>by omega)).mono (fun b hb _=>by omega),zvi h.below (by omega) _⟩
end
end
section
open Go.RowKit
theorem RSt.drew {E:Env} {w:World} {l:List Tok} {d:Nat} {f:Int} {q:Nat} (h:RSt E w l d f q):RSt E w.drew l d f q:=h.same (Nat.le_refl _) rfl rfl
end
section
open Go.RowKit
end
end Go.Proofs.YthdbmgijpelecaaGreatDoor
