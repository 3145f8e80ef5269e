/- The contracts of the byte predicates of lex and of lychgateref01, and of lex.runEnd: each returns what the plain function says and leaves the world as it was. No conditions but that a text is at most maxLen bytes long. The contract of lex.IsKey in a world that holds the table of key words, and of lychgateref01.IsKey in any world: each returns whether the text is one of the twenty key words, and leaves the world as it was. Plain facts on names: which texts are names. Nothing of the program is walked here. The contract of lex.wordAt in a world that holds the tables of lex: the token of the word at a place, or ErrWord; nothing that was in memory is changed. The contracts of strings.HasPrefix, strings.IndexByte and lex.signAt: the token of the sign at a place, the longer one where two could stand, or ErrByte; nothing that was in memory is changed. lex.signAt in a world that holds the tables of lex. -/
import Derived.Test.YtbfgdpcgdmabpaaGreatDoorRows
import Derived.WalkKit
import Derived.WalkSpells
import Derived.Lib.Hide
import Derived.Deep.QuietTactic
import Derived.BigQuiet
import Derived.Handy
import Derived.Deep.MidRow
import Derived.Lib.Bytealg
namespace Go.Proofs.YtbfgdpcgdmabpaaGreatDoor
set_option maxHeartbeats 400000
theorem zh {p : Prop} (h : p) : Go.RowKit.Hid p := Lib.hid h
section
open Go.RowKit
def zQg (n:Int):Bool:=(decide (97≤n) && decide (n≤122)) || n == 95
def zTd (n:Int):Bool:=decide (48≤n) && decide (n≤57)
def zLd (n:Int):Bool:=zQg n || zTd n
def ztn (n:Int):Bool:=n != 10
theorem zXb {a b:Bool} (h:a=b):Ending.returned (.bool a)=.returned (.bool b):=by rw [h]
theorem zhc (n:Int) (w:World) :
  Calls Tryz.prog 70 #[.int .u8 n] w fun e w'=>e=.returned (.bool (zQg n))∧w=w':=by
 go_enter Tryz.func70,Tryz.ntmps70
 go_wp2
 all_goals go_ret
 all_goals refine ⟨zXb ?_,rfl⟩
 all_goals (unfold zQg;first|(simp [*];done)|(rw [Bool.eq_iff_iff];simp;omega))
theorem zce (n:Int) (w:World) :
  Calls Tryz.prog 72 #[.int .u8 n] w fun e w'=>e=.returned (.bool (zTd n))∧w=w':=by
 go_enter Tryz.func72,Tryz.ntmps72
 go_wp2
 all_goals go_ret
 all_goals refine ⟨zXb ?_,rfl⟩
 all_goals (unfold zTd;first|(simp [*];done)|(rw [Bool.eq_iff_iff];simp;omega))
theorem zhj (n:Int) (w:World) :
  Calls Tryz.prog 111 #[.int .u8 n] w fun e w'=>e=.returned (.bool (zLd n))∧w=w':=by
 by_cases h:zQg n=true
 ·have hw:zLd n=true:=by unfold zLd;rw [h];rfl
  have H:=zh hw
  clear hw
  go_enter Tryz.func111,Tryz.ntmps111
  go_wp2_with (first
   | (go_at_call 70;refine (zhc _ _).mono ?_;rintro e w' ⟨rfl,rfl⟩)
   | (go_at_call 72;refine (zce _ _).mono ?_;rintro e w' ⟨rfl,rfl⟩))
  all_goals go_ret
  exact ⟨zXb H.out.symm,rfl⟩
 ·have hf:zQg n=false:=by simpa using h
  have hw:zLd n=zTd n:=by unfold zLd;rw [hf];rfl
  have H:=zh hw
  clear hw h
  go_enter Tryz.func111,Tryz.ntmps111
  go_wp2_with (first
   | (go_at_call 70;refine (zhc _ _).mono ?_;rintro e w' ⟨rfl,rfl⟩)
   | (go_at_call 72;refine (zce _ _).mono ?_;rintro e w' ⟨rfl,rfl⟩))
  all_goals go_ret
  exact ⟨zXb H.out.symm,rfl⟩
theorem zUn (n:Int) (w:World) :
  Calls Tryz.prog 38 #[.int .u8 n] w fun e w'=>e=.returned (.bool (ztn n))∧w=w':=by
 go_enter Tryz.func38,Tryz.ntmps38
 go_wp2
 all_goals go_ret
 all_goals exact ⟨zXb (by unfold ztn;simp),rfl⟩
def zqb (p:Int→Bool):List UInt8→Nat
 | []=>0
 | b :: r=>if p b.toNat then zqb p r+1 else 0
def endOf (p:Int→Bool) (s:ByteArray) (k:Nat):Nat:=k+zqb p (s.data.toList.drop k)
theorem zEp (p:Int→Bool) (l:List UInt8):zqb p l≤l.length:=by
 induction l with
 | nil=>simp [zqb]
 | cons b r ih=>simp only [zqb];split<;>simp<;>omega
theorem zZf (p:Int→Bool) (s:ByteArray) (k:Nat):k≤endOf p s k:=by unfold endOf;omega
theorem zTe (p:Int→Bool) (s:ByteArray) (k:Nat) (h:k≤s.size):endOf p s k≤s.size:=by
 unfold endOf
 have:=zEp p (s.data.toList.drop k)
 simp at this
 omega
theorem drop_at (s:ByteArray) (k:Nat) (h:k<s.size):s.data.toList.drop k=s[k] :: s.data.toList.drop (k+1):=List.drop_eq_getElem_cons (by simpa using h)
theorem zjh {p:Int→Bool} {s:ByteArray} {k:Nat} (h:k<s.size) (hp:p (s[k].toNat:Int)=false):endOf p s k=k:=by
 unfold endOf
 rw [drop_at s k h,zqb,hp]
 simp
theorem zcf {p:Int→Bool} {s:ByteArray} {k:Nat} (h:k<s.size) (hp:p (s[k].toNat:Int)=true):endOf p s k=endOf p s (k+1):=by
 unfold endOf
 rw [drop_at s k h,zqb,hp]
 simp
 omega
theorem zwp {p:Int→Bool} {s:ByteArray} {k:Nat} (h:s.size≤k):endOf p s k=k:=by
 unfold endOf
 rw [List.drop_of_length_le (by simp;omega)]
 simp [zqb]
theorem zEo {k:IntKind} {a b:Int} (h:a=b):Ending.returned (.int k a)=.returned (.int k b):=by rw [h]
theorem zMi (f:FuncId) (p:Int→Bool) (hcf:∀ (n:Int) (w:World),(callFunc f #[.int .u8 n]).run Tryz.prog w=.ok (.enter f #[.int .u8 n]) w)
  (hf:∀ n w,Calls Tryz.prog f #[.int .u8 n] w fun e w'=>e=.returned (.bool (p n))∧w=w')
  (s:ByteArray) (a:Int) (w:World) (hs:s.size≤maxLen) (h0:0≤a) (h1:a≤s.size) :
  Calls Tryz.prog 37 #[.string s,.int .i64 a,.func (.func f) #[] #[]] w fun e w'=>e=.returned (.int .i64 (endOf p s a.toNat))∧w=w':=by
 unfold maxLen at hs
 obtain ⟨k0,rfl⟩:=Int.eq_ofNat_of_zero_le h0
 have HF:=zh hf
 clear hf
 go_enter Tryz.func37,Tryz.ntmps37
 go_wp2
 go_loop [1] (fun i=>∃ k:Nat,k≤s.size∧i=.int .i64 k∧endOf p s k=endOf p s k0) (fun i=>s.size-(intOf i).toNat)
 case atStart=>exact ⟨k0,by omega,rfl,rfl⟩
 case round =>
  obtain ⟨k,hk,rfl,hr⟩:=hrel
  have HR:=zh hr
  clear hr
  by_cases hlt:k<s.size
  ·cases hp:p (s[k].toNat:Int)
   ·have HFIN:=zh ((zjh hlt hp).symm.trans HR.out)
    go_wp2_with (refine (HF.out _ _).mono ?_;rintro e w' ⟨rfl,rfl⟩)
    go_ret
    exact ⟨zEo (by rw [HFIN.out];simp),rfl⟩
   ·have HN:=zh ((zcf hlt hp).symm.trans HR.out)
    go_wp2_with (refine (HF.out _ _).mono ?_;rintro e w' ⟨rfl,rfl⟩)
    go_round
    case rel=>exact ⟨k+1,by omega,by go_num,HN.out⟩
    case measure=>simp [intOf];omega
  ·have HFIN:=zh ((zwp (p:=p) (s:=s) (k:=k) (by omega)).symm.trans HR.out)
   go_wp2
   go_ret
   exact ⟨zEo (by rw [HFIN.out]),rfl⟩
theorem zEe {P:Program} {f:FuncId} {fn:Func} (hf:P.funcs[f]?=some fn) (hname:(fn.name == "runtime.NumGoroutine")=false) (hb:fn.body.isNone=false) (args:Array Value) (w:World) :
  (callFunc f args).run P w=.ok (.enter f args) w:=by
 unfold callFunc
 simp only [Sem.run_bind,run_program,Result.andThen_ok,hf,hname,hb,Bool.false_eq_true,if_false,Sem.run_pure]
theorem zvl (s:ByteArray) (a:Int) (w:World) (hs:s.size≤maxLen) (h0:0≤a) (h1:a≤s.size) :
  Calls Tryz.prog 37 #[.string s,.int .i64 a,.func (.func 111) #[] #[]] w fun e w'=>e=.returned (.int .i64 (endOf zLd s a.toNat))∧w=w' :=
 zMi _ _ (fun _ w=>zEe Tryz.func111 (by kernel_rfl) (by kernel_rfl) _ w) zhj s a w hs h0 h1
theorem zRe (s:ByteArray) (a:Int) (w:World) (hs:s.size≤maxLen) (h0:0≤a) (h1:a≤s.size) :
  Calls Tryz.prog 37 #[.string s,.int .i64 a,.func (.func 72) #[] #[]] w fun e w'=>e=.returned (.int .i64 (endOf zTd s a.toNat))∧w=w' :=
 zMi _ _ (fun _ w=>zEe Tryz.func72 (by kernel_rfl) (by kernel_rfl) _ w) zce s a w hs h0 h1
theorem zVj (s:ByteArray) (a:Int) (w:World) (hs:s.size≤maxLen) (h0:0≤a) (h1:a≤s.size) :
  Calls Tryz.prog 37 #[.string s,.int .i64 a,.func (.func 38) #[] #[]] w fun e w'=>e=.returned (.int .i64 (endOf ztn s a.toNat))∧w=w' :=
 zMi _ _ (fun _ w=>zEe Tryz.func38 (by kernel_rfl) (by kernel_rfl) _ w) zUn s a w hs h0 h1
end
section
open Go.RowKit
def zKd:List (List UInt8) :=
 [[116,121,112,101],[102,110],[111,119,110],[99,101,108,108],[99,111,117,110,116,101,100],[108,111,99,107],[103,117,97,114,100],[119,104,101,114,101],[105,110,116],[109,117,116],
  [102,114,101,101],[117,110,108,111,99,107],[105,102],[101,108,115,101],[119,104,105,108,101],[114,101,116,117,114,110],[97,98,111,114,116],[102,111,114,107],[110,101,119],[97,114,114,97,121]]
def keyAt (i:Nat):ByteArray:=⟨(zKd.getD i []).toArray⟩
def zVe (i:Nat) (s:ByteArray):Bool:=(zKd.drop i).contains s.data.toList
def zYg (s:ByteArray):Bool:=zVe 0 s
def zcd (i:Nat):ByteArray:=⟨([[45,62],[60,61],[61,61]].getD i ([]:List UInt8)).toArray⟩
def zjs (B:Nat):Prop:=0<B∧3<B∧1<B
structure Tabs (w:World):Prop where
 b0:w.cell? ⟨0,0,none⟩=some (.int .u8 32)
 b1:w.cell? ⟨0,1,none⟩=some (.int .u8 10)
 keys:∀ i,i<20→w.cell? ⟨3,i,none⟩=some (.string (keyAt i))
 pairs:∀ i,i<3→w.cell? ⟨1,i,none⟩=some (.string (zcd i))
 size:zjs w.heap.size
theorem Tabs.below {w w':World} {B:Nat} (h:Tabs w) (hb:Below B w w') (hB:zjs B):Tabs w' :=
 ⟨(hb.cell (p:=⟨0,0,none⟩) hB.1).trans h.b0,(hb.cell (p:=⟨0,1,none⟩) hB.1).trans h.b1,
  fun i hi=>(hb.cell (p:=⟨3,i,none⟩) hB.2.1).trans (h.keys i hi),fun i hi=>(hb.cell (p:=⟨1,i,none⟩) hB.2.2).trans (h.pairs i hi),
  ⟨Nat.lt_of_lt_of_le h.size.1 hb.size,Nat.lt_of_lt_of_le h.size.2.1 hb.size,Nat.lt_of_lt_of_le h.size.2.2 hb.size⟩⟩
def zIf:List Value:=(List.range 20).map fun i=>.string (keyAt i)
theorem zCi (j:Nat) (hj:j<20):zIf[j]?=some (.string (keyAt j)):=by
 unfold zIf
 rw [List.getElem?_map,List.getElem?_range hj]
 rfl
theorem zam:zIf.length=20:=by unfold zIf;simp
theorem zGn (w:World) (ht:Tabs w):w.rangeAt 3 0 zIf:=by
 intro j v hv
 have hj:j<20:=by
  have:=(List.getElem?_eq_some_iff.1 hv).1
  rwa [zam] at this
 rw [zCi j hj] at hv
 rw [Nat.zero_add,ht.keys j hj,hv]
theorem zso:(Tryz.prog.info? 185).map (·.size)=some zIf.length:=by kernel_rfl
theorem zdm (k:Nat) (s:ByteArray) (hk:k<20) (h:(s.toList == (keyAt k).toList)=true):zVe k s=true:=by
 have hl:k<zKd.length:=hk
 have hg:zKd.getD k []=zKd[k]:=by simp [hl]
 unfold zVe
 rw [List.drop_eq_getElem_cons hl,List.contains_cons]
 have:(s.data.toList == zKd[k])=true:=by
  rw [← hg]
  rw [ByteArray.toList_eq,ByteArray.toList_eq] at h
  simpa [keyAt] using h
 rw [this]
 rfl
theorem zRn (k:Nat) (s:ByteArray) (hk:k<20) (h:(s.toList == (keyAt k).toList)=false):zVe k s=zVe (k+1) s:=by
 have hl:k<zKd.length:=hk
 have hg:zKd.getD k []=zKd[k]:=by simp [hl]
 unfold zVe
 rw [List.drop_eq_getElem_cons hl,List.contains_cons]
 have:(s.data.toList == zKd[k])=false:=by
  rw [← hg]
  rw [ByteArray.toList_eq,ByteArray.toList_eq] at h
  simpa [keyAt] using h
 rw [this]
 rfl
theorem zYl (s:ByteArray):zVe 20 s=false:=rfl
theorem zze {P:Program} {t e:TypeId} {len k:Nat} {cs:List Value} {v:Value} (ht:P.underlying t=some (.array len e)) (he:∀ w,(isAgg e).run P w=.ok false w) (hs:(P.info? e).map (·.size)=some 1)
  (hk:k<len) (hv:cs[k]?=some v) (w:World):(Instr.index t (.agg cs.toArray) (.int .i64 k)).run P w=.ok v w:=by
 cases hq:P.info? e with
 | none=>simp [hq] at hs
 | some i =>
  have hs':i.size=1:=by simpa [hq] using hs
  have h2:((k:Int)<(len:Int)):=by omega
  have h3:(0:Int)≤(k:Int):=by omega
  simp [Instr.index,asIntOf,run_underlying ht,part,he,sizeOf,typeInfo,hq,hs',hv]
  omega
theorem zds (w:World):(isAgg 9).run Tryz.prog w=.ok false w:=by
 unfold isAgg
 rw [Sem.run_bind,run_underlying Tryz.underlying9 w]
 rfl
theorem strSize:(Tryz.prog.info? 9).map (·.size)=some 1:=by kernel_rfl
theorem zUk (s:ByteArray) (w:World) (ht:Tabs w) :
  Calls Tryz.prog 112 #[.string s] w fun e w'=>e=.returned (.bool (zYg s))∧w=w':=by
 have hr:=zh (zGn w ht)
 go_enter Tryz.func112,Tryz.ntmps112
 go_wp2_with (with_reducible refine wpList_load_mid rfl 185 (.global 3) rfl 3 0 rfl zIf _ hr.out Tryz.underlying185 rfl zso ?_)
 go_loop [6] (fun i=>∃ k:Nat,k≤20∧i=.int .i64 k∧zVe k s=zYg s) (fun i=>20-(intOf i).toNat)
 case atStart=>exact ⟨0,by omega,rfl,rfl⟩
 case round =>
  obtain ⟨k,hk,rfl,hrl⟩:=hrel
  have HR:=zh hrl
  clear hrl
  by_cases hlt:k<20
  ·have hidx:=zze (P:=Tryz.prog) Tryz.underlying185 zds strSize hlt (zCi k hlt) w
   have hlt':(k:Int)<20:=by omega
   cases hc:(s.toList == (keyAt k).toList)
   ·have HN:=zh ((zRn k s hlt hc).symm.trans HR.out)
    go_wp2
    go_round
    case rel=>exact ⟨k+1,by omega,by go_num,HN.out⟩
    case measure=>simp [intOf];omega
   ·have HN:=zh ((zdm k s hlt hc).symm.trans HR.out)
    go_wp2
    go_ret
    exact ⟨zXb HN.out,rfl⟩
  ·obtain rfl:k=20:=by omega
   have HN:=zh ((zYl s).symm.trans HR.out)
   go_wp2
   go_ret
   exact ⟨zXb HN.out,rfl⟩
end
section
open Go.RowKit
def at0 (s:ByteArray):Int:=((s.data.toList.headD 0).toNat:Int)
def zOa (s:ByteArray):Bool:=decide (1≤s.size) && decide (s.size≤16) && zQg (at0 s) && decide (endOf zLd s 0=s.size) && !zYg s
end
section
open Go.RowKit
structure Tok where
 kind:Nat
 text:ByteArray
 num:Nat
 place:Nat
def zOc:Tok:=⟨0,⟨#[]⟩,0,0⟩
def zgb (t:Tok):List Value:=[.int .i64 t.kind,.string t.text,.int .i64 t.num,.int .i64 t.place]
def zJc (t:Tok):Value:=.agg #[.int .i64 t.kind,.string t.text,.int .i64 t.num,.int .i64 t.place]
def okR (t:Tok):Ending:=.returned (.tuple #[zJc t,.int .i64 0])
def errR (e:Int):Ending:=.returned (.tuple #[zJc zOc,.int .i64 e])
def zns:Except Int Tok→Ending
 | .ok t=>okR t
 | .error e=>errR e
def zWc (s:ByteArray) (k:Nat):Except Int Tok :=
 if 16<endOf zLd s k-k then .error 13
 else if zYg (s.extract k (endOf zLd s k))=true then .ok ⟨2,s.extract k (endOf zLd s k),0,k⟩
 else .ok ⟨1,s.extract k (endOf zLd s k),0,k⟩
theorem Tabs.alloc {w:World} {o:Obj} (h:Tabs w):Tabs (w.alloc o):=h.below ((Below.refl _ _).alloc (Nat.le_refl _) o) h.size
theorem zZn (s:ByteArray) (k:Nat) (w:World) (hs:s.size≤maxLen) (hk:k<s.size) (ht:Tabs w) :
  Calls Tryz.prog 71 #[.string s,.int .i64 k] w fun e w'=>e=zns (zWc s k)∧Below w.heap.size w w':=by
 have hge:=zZf zLd s k
 have hle:=zTe zLd s k (by omega)
 generalize hE:endOf zLd s k=E at *
 have HE:=zh hE
 clear hE
 go_enter Tryz.func71,Tryz.ntmps71
 go_wp2_with fail
 refine (zvl _ _ _ hs (by omega) (by omega)).mono ?_
 rintro e w' ⟨rfl,rfl⟩
 rw [Int.toNat_natCast,HE.out]
 go_wp2_with fail
 ·have hr:zWc s k=.error 13:=by unfold zWc;rw [HE.out,if_pos (by omega)]
  rw [hr]
  exact bodyPost_ret (v:=.tuple #[zJc zOc,.int .i64 13]) (by simp [results,Tryz.results71,go_sem,zJc,zOc]) rfl ⟨rfl,(Below.refl _ _).alloc (Nat.le_refl _) _⟩
 ·cases hkey:zYg (s.extract k E)
  ·have hr:zWc s k=.ok ⟨1,s.extract k E,0,k⟩:=by unfold zWc;rw [HE.out,if_neg (by omega),if_neg (by simp [hkey])]
   have HR:=zh hr
   clear hr
   refine (zUk _ _ ht.alloc).mono ?_
   rintro e w' ⟨rfl,rfl⟩
   rw [hkey]
   go_wp2
   rw [HR.out]
   exact bodyPost_ret (v:=.tuple #[zJc ⟨1,s.extract k E,0,k⟩,.int .i64 0]) (by simp [results,Tryz.results71,go_sem,zJc]) rfl ⟨rfl,by go_grown⟩
  ·have hr:zWc s k=.ok ⟨2,s.extract k E,0,k⟩:=by unfold zWc;rw [HE.out,if_neg (by omega),if_pos (by simp [hkey])]
   have HR:=zh hr
   clear hr
   refine (zUk _ _ ht.alloc).mono ?_
   rintro e w' ⟨rfl,rfl⟩
   rw [hkey]
   go_wp2
   rw [HR.out]
   exact bodyPost_ret (v:=.tuple #[zJc ⟨2,s.extract k E,0,k⟩,.int .i64 0]) (by simp [results,Tryz.results71,go_sem,zJc]) rfl ⟨rfl,by go_grown⟩
end
section
open Go.RowKit
def zNe (s p:ByteArray):Bool:=decide (p.size≤s.size) && (s.extract 0 p.size).toList == p.toList
def zNi:List UInt8:=[123,125,40,41,91,93,44,58,59,61,43,45,38,60]
def zqf (b:UInt8):Bool:=!decide (Lib.indexByte zNi b<0)
def bat (s:ByteArray) (k:Nat):UInt8:=s.data.toList.getD k 0
theorem zNd (s:ByteArray) (k:Nat) (h:k<s.size):bat s k=s[k]:=by
 unfold bat
 rw [List.getD_eq_getElem?_getD,List.getElem?_eq_getElem (by simpa using h)]
 rfl
def zpf (s:ByteArray) (k:Nat):Except Int Tok :=
 if zqf (bat s k)=true then .ok ⟨4,s.extract k (k+1),0,k⟩ else .error 11
def zGb (s:ByteArray) (k:Nat):Nat→Except Int Tok
 | 0=>zpf s k
 | n+1=>if zNe (s.extract k s.size) (zcd (2-n))=true then .ok ⟨4,zcd (2-n),0,k⟩ else zGb s k n
def zWe (s:ByteArray) (k:Nat):Except Int Tok:=zGb s k 3
theorem zQk {s:ByteArray} {k i:Nat} (hi:i<3) (h:zNe (s.extract k s.size) (zcd i)=true):zGb s k (3-i)=.ok ⟨4,zcd i,0,k⟩:=by
 have e:3-i=(2-i)+1:=by omega
 have e2:2-(2-i)=i:=by omega
 rw [e,zGb,e2,if_pos h]
theorem zom {s:ByteArray} {k i:Nat} (hi:i<3) (h:zNe (s.extract k s.size) (zcd i)=false):zGb s k (3-i)=zGb s k (3-(i+1)):=by
 have e:3-i=(2-i)+1:=by omega
 have e2:2-(2-i)=i:=by omega
 have e3:3-(i+1)=2-i:=by omega
 rw [e,zGb,e2,if_neg (by simp [h]),e3]
theorem zgh (s p:ByteArray) (w:World) (_hs:s.size≤maxLen) (_hp:p.size≤maxLen) :
  Calls Tryz.prog 133 #[.string s,.string p] w fun e w'=>e=.returned (.bool (zNe s p))∧w=w':=by
 by_cases h:p.size≤s.size
 ·have hd:decide (p.size≤s.size)=true:=by simpa using h
  have HP:=zh (show zNe s p=((s.extract 0 p.size).toList == p.toList) by unfold zNe;rw [hd];rfl)
  go_enter Tryz.func133,Tryz.ntmps133
  go_wp2
  all_goals go_ret
  all_goals exact ⟨zXb HP.out.symm,rfl⟩
 ·have hd:decide (p.size≤s.size)=false:=by simpa using h
  have HP:=zh (show zNe s p=false by unfold zNe;rw [hd];rfl)
  go_enter Tryz.func133,Tryz.ntmps133
  go_wp2
  all_goals go_ret
  all_goals exact ⟨zXb HP.out.symm,rfl⟩
theorem zdh (s p:ByteArray) (w:World) (hs:s.size≤maxLen) (hp:p.size≤maxLen) :
  Calls Tryz.prog 113 #[.string s,.string p] w fun e w'=>e=.returned (.bool (zNe s p))∧w=w':=by
 go_enter Tryz.func113,Tryz.ntmps113
 go_wp2_with (go_at_call 133;refine (zgh _ _ _ hs hp).mono ?_;rintro e w' ⟨rfl,rfl⟩)
 go_ret
 exact ⟨rfl,rfl⟩
theorem zuh (s:ByteArray) (c:Int) (w:World) :
  Calls Tryz.prog 134 #[.string s,.int .u8 c] w fun e w'=>e=.returned (.int .i64 (Lib.indexByte s.data.toList c.toNat.toUInt8))∧w=w':=by
 have hcall:(callFunc 162 #[.string s,.int .u8 c]).run Tryz.prog w=.ok (.value (.int .i64 (Lib.indexByte s.data.toList c.toNat.toUInt8))) w:=by
  rw [run_callFunc_extern Tryz.func162 (by kernel_rfl) (by kernel_rfl) (by kernel_rfl) (e:=Extern.BytealgIndexByte.indexByte) (by kernel_rfl),Lib.run_indexByteString]
  rfl
 go_enter Tryz.func134,Tryz.ntmps134
 go_wp2
 go_ret
 exact ⟨rfl,rfl⟩
theorem zah (s:ByteArray) (c:Int) (w:World) :
  Calls Tryz.prog 114 #[.string s,.int .u8 c] w fun e w'=>e=.returned (.int .i64 (Lib.indexByte s.data.toList c.toNat.toUInt8))∧w=w':=by
 go_enter Tryz.func114,Tryz.ntmps114
 go_wp2_with (go_at_call 134;refine (zuh _ _ _).mono ?_;rintro e w' ⟨rfl,rfl⟩)
 go_ret
 exact ⟨rfl,rfl⟩
theorem zmn (s:ByteArray) (a b:Nat):(s.extract a b).size≤s.size:=by
 rw [ByteArray.size_extract]
 omega
def zFg:List Value:=[.string (zcd 0),.string (zcd 1),.string (zcd 2)]
theorem zHh (j:Nat) (hj:j<3):zFg[j]?=some (.string (zcd j)):=by
 match j,hj with
 | 0,_=>rfl
 | 1,_=>rfl
 | 2,_=>rfl
theorem zyl (w:World) (ht:Tabs w):w.rangeAt 1 0 zFg:=by
 intro j v hv
 have hj:j<3:=(List.getElem?_eq_some_iff.1 hv).1
 rw [zHh j hj] at hv
 rw [Nat.zero_add,ht.pairs j hj,hv]
theorem zHn:(Tryz.prog.info? 173).map (·.size)=some zFg.length:=by kernel_rfl
theorem zuf (i:Nat) (hi:i<3):(zcd i).size=2:=by
 match i,hi with
 | 0,_=>rfl
 | 1,_=>rfl
 | 2,_=>rfl
theorem ztj (b:UInt8):Lib.indexByte (ByteArray.mk #[123,125,40,41,91,93,44,58,59,61,43,45,38,60]).data.toList ((b.toNat:Int)).toNat.toUInt8=Lib.indexByte zNi b:=by
 simp [zNi]
theorem zzn (s:ByteArray) (k:Nat) (w:World) (hs:s.size≤maxLen) (hk:k<s.size) (ht:Tabs w) :
  Calls Tryz.prog 74 #[.string s,.int .i64 k] w fun e w'=>e=zns (zWe s k)∧Below w.heap.size w w':=by
 have hr:=zh (zyl _ (ht.alloc (o:=.cells #[.int .i64 0,.string ⟨#[]⟩,.int .i64 0,.int .i64 0] 119)))
 have hs':=hs
 unfold maxLen at hs'
 go_enter Tryz.func74,Tryz.ntmps74
 go_wp2_with (with_reducible refine wpList_load_mid rfl 173 (.global 1) rfl 1 0 rfl zFg _ hr.out Tryz.underlying173 rfl zHn ?_)
 go_loop [9] (fun i=>∃ n:Nat,n≤3∧i=.int .i64 n∧zGb s k (3-n)=zWe s k) (fun i=>3-(intOf i).toNat)
 case atStart=>exact ⟨0,by omega,rfl,rfl⟩
 case round =>
  obtain ⟨n,hn,rfl,hrl⟩:=hrel
  have HR:=zh hrl
  clear hrl
  by_cases hlt:n<3
  ·have hidx:=fun W=>zze (P:=Tryz.prog) Tryz.underlying173 zds strSize hlt (zHh n hlt) W
   have hlt':(n:Int)<3:=by omega
   have hx:(s.extract k s.size).size≤maxLen:=Nat.le_trans (zmn s k s.size) hs
   have hp2:(zcd n).size≤maxLen:=by rw [zuf n hlt];unfold maxLen;omega
   cases hc:zNe (s.extract k s.size) (zcd n)
   ·have HN:=zh ((zom hlt hc).symm.trans HR.out)
    go_wp2_with (go_at_call 113;refine (zdh _ _ _ hx hp2).mono ?_;rintro e w' ⟨rfl,rfl⟩)
    go_round
    case rel=>exact ⟨n+1,by omega,by go_num,HN.out⟩
    case measure=>simp [intOf];omega
   ·have HN:=zh ((zQk hlt hc).symm.trans HR.out)
    go_wp2_with (go_at_call 113;refine (zdh _ _ _ hx hp2).mono ?_;rintro e w' ⟨rfl,rfl⟩)
    rw [← HN.out]
    exact bodyPost_ret (v:=.tuple #[zJc ⟨4,zcd n,0,k⟩,.int .i64 0]) (by simp [results,Tryz.results74,go_sem,zJc]) rfl ⟨rfl,by go_grown⟩
  ·obtain rfl:n=3:=by omega
   have hfin:zpf s k=zWe s k:=HR.out
   have HF:=zh hfin
   clear hfin
   cases hc:zqf s[k]
   ·have hneg:Lib.indexByte zNi s[k]<0:=by unfold zqf at hc;simpa using hc
    have hfin:zWe s k=.error 11:=by rw [← HF.out,zpf,zNd s k hk,if_neg (by simp [hc])]
    have HE:=zh hfin
    clear hfin hc
    go_wp2_with (go_at_call 114;refine (zah _ _ _).mono ?_;rintro e w' ⟨rfl,rfl⟩;rw [ztj])
    rw [HE.out]
    exact bodyPost_ret (v:=.tuple #[zJc zOc,.int .i64 11]) (by simp [results,Tryz.results74,go_sem,zJc,zOc]) rfl ⟨rfl,by go_grown⟩
   ·have hneg:¬ Lib.indexByte zNi s[k]<0:=by unfold zqf at hc;simpa using hc
    have hfin:zWe s k=.ok ⟨4,s.extract k (k+1),0,k⟩:=by rw [← HF.out,zpf,zNd s k hk,if_pos (by simp [hc])]
    have HE:=zh hfin
    clear hfin hc
    go_wp2_with (go_at_call 114;refine (zah _ _ _).mono ?_;rintro e w' ⟨rfl,rfl⟩;rw [ztj])
    rw [HE.out]
    exact bodyPost_ret (v:=.tuple #[zJc ⟨4,s.extract k (k+1),0,k⟩,.int .i64 0]) (by simp [results,Tryz.results74,go_sem,zJc]) rfl ⟨rfl,by go_grown⟩
end
end Go.Proofs.YtbfgdpcgdmabpaaGreatDoor
