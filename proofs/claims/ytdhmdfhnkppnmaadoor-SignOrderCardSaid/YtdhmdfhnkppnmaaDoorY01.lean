/- The contracts of the byte predicates of lex and of lychgateref01, and of lex.runEnd: each returns what the plain function says and leaves the world as it was. No conditions but that a text is at most maxLen bytes long. The contract of lex.IsKey in a world that holds the table of key words, and of lychgateref01.IsKey in any world: each returns whether the text is one of the twenty key words, and leaves the world as it was. Plain facts on names: which texts are names. Nothing of the program is walked here. The contract of lex.wordAt in a world that holds the tables of lex: the token of the word at a place, or ErrWord; nothing that was in memory is changed. The contracts of strings.HasPrefix, strings.IndexByte and lex.signAt: the token of the sign at a place, the longer one where two could stand, or ErrByte; nothing that was in memory is changed. lex.signAt in a world that holds the tables of lex. -/
import Derived.Test.YtdhmdfhnkppnmaaDoorRows
import Derived.WalkKit
import Derived.WalkSpells
import Derived.Lib.Hide
import Derived.Deep.QuietTactic
import Derived.BigQuiet
import Derived.Handy
import Derived.Deep.MidRow
import Derived.Lib.Bytealg
namespace Go.Proofs.YtdhmdfhnkppnmaaDoor
set_option maxHeartbeats 400000
theorem zh {p : Prop} (h : p) : Go.RowKit.Hid p := Lib.hid h
section
open Go.RowKit
def zXj (n:Int):Bool:=(decide (97≤n) && decide (n≤122)) || n == 95
def zFe (n:Int):Bool:=decide (48≤n) && decide (n≤57)
def zMe (n:Int):Bool:=zXj n || zFe n
def zAk (n:Int):Bool:=n != 10
theorem zQc {a b:Bool} (h:a=b):Ending.returned (.bool a)=.returned (.bool b):=by rw [h]
theorem zfb (n:Int) (w:World) :
  Calls Tryd.prog 26 #[.int .u8 n] w fun e w'=>e=.returned (.bool (zXj n))∧w=w':=by
 go_enter Tryd.func26,Tryd.ntmps26
 go_wp2
 all_goals go_ret
 all_goals refine ⟨zQc ?_,rfl⟩
 all_goals (unfold zXj;first|(simp [*];done)|(rw [Bool.eq_iff_iff];simp;omega))
theorem zsc (n:Int) (w:World) :
  Calls Tryd.prog 28 #[.int .u8 n] w fun e w'=>e=.returned (.bool (zFe n))∧w=w':=by
 go_enter Tryd.func28,Tryd.ntmps28
 go_wp2
 all_goals go_ret
 all_goals refine ⟨zQc ?_,rfl⟩
 all_goals (unfold zFe;first|(simp [*];done)|(rw [Bool.eq_iff_iff];simp;omega))
theorem zah (n:Int) (w:World) :
  Calls Tryd.prog 46 #[.int .u8 n] w fun e w'=>e=.returned (.bool (zMe n))∧w=w':=by
 by_cases h:zXj n=true
 ·have hw:zMe n=true:=by unfold zMe;rw [h];rfl
  have H:=zh hw
  clear hw
  go_enter Tryd.func46,Tryd.ntmps46
  go_wp2_with (first
   | (go_at_call 26;refine (zfb _ _).mono ?_;rintro e w' ⟨rfl,rfl⟩)
   | (go_at_call 28;refine (zsc _ _).mono ?_;rintro e w' ⟨rfl,rfl⟩))
  all_goals go_ret
  exact ⟨zQc H.out.symm,rfl⟩
 ·have hf:zXj n=false:=by simpa using h
  have hw:zMe n=zFe n:=by unfold zMe;rw [hf];rfl
  have H:=zh hw
  clear hw h
  go_enter Tryd.func46,Tryd.ntmps46
  go_wp2_with (first
   | (go_at_call 26;refine (zfb _ _).mono ?_;rintro e w' ⟨rfl,rfl⟩)
   | (go_at_call 28;refine (zsc _ _).mono ?_;rintro e w' ⟨rfl,rfl⟩))
  all_goals go_ret
  exact ⟨zQc H.out.symm,rfl⟩
theorem zTk (n:Int) (w:World) :
  Calls Tryd.prog 16 #[.int .u8 n] w fun e w'=>e=.returned (.bool (zAk n))∧w=w':=by
 go_enter Tryd.func16,Tryd.ntmps16
 go_wp2
 all_goals go_ret
 all_goals exact ⟨zQc (by unfold zAk;simp),rfl⟩
def zkc (p:Int→Bool):List UInt8→Nat
 | []=>0
 | b :: r=>if p b.toNat then zkc p r+1 else 0
def endOf (p:Int→Bool) (s:ByteArray) (k:Nat):Nat:=k+zkc p (s.data.toList.drop k)
theorem zPl (p:Int→Bool) (l:List UInt8):zkc p l≤l.length:=by
 induction l with
 | nil=>simp [zkc]
 | cons b r ih=>simp only [zkc];split<;>simp<;>omega
theorem zle (p:Int→Bool) (s:ByteArray) (k:Nat):k≤endOf p s k:=by unfold endOf;omega
theorem zkd (p:Int→Bool) (s:ByteArray) (k:Nat) (h:k≤s.size):endOf p s k≤s.size:=by
 unfold endOf
 have:=zPl p (s.data.toList.drop k)
 simp at this
 omega
theorem drop_at (s:ByteArray) (k:Nat) (h:k<s.size):s.data.toList.drop k=s[k] :: s.data.toList.drop (k+1):=List.drop_eq_getElem_cons (by simpa using h)
theorem zrf {p:Int→Bool} {s:ByteArray} {k:Nat} (h:k<s.size) (hp:p (s[k].toNat:Int)=false):endOf p s k=k:=by
 unfold endOf
 rw [drop_at s k h,zkc,hp]
 simp
theorem zsd {p:Int→Bool} {s:ByteArray} {k:Nat} (h:k<s.size) (hp:p (s[k].toNat:Int)=true):endOf p s k=endOf p s (k+1):=by
 unfold endOf
 rw [drop_at s k h,zkc,hp]
 simp
 omega
theorem zhl {p:Int→Bool} {s:ByteArray} {k:Nat} (h:s.size≤k):endOf p s k=k:=by
 unfold endOf
 rw [List.drop_of_length_le (by simp;omega)]
 simp [zkc]
theorem zfm {k:IntKind} {a b:Int} (h:a=b):Ending.returned (.int k a)=.returned (.int k b):=by rw [h]
theorem zpg (f:FuncId) (p:Int→Bool) (hcf:∀ (n:Int) (w:World),(callFunc f #[.int .u8 n]).run Tryd.prog w=.ok (.enter f #[.int .u8 n]) w)
  (hf:∀ n w,Calls Tryd.prog f #[.int .u8 n] w fun e w'=>e=.returned (.bool (p n))∧w=w')
  (s:ByteArray) (a:Int) (w:World) (hs:s.size≤maxLen) (h0:0≤a) (h1:a≤s.size) :
  Calls Tryd.prog 15 #[.string s,.int .i64 a,.func (.func f) #[] #[]] w fun e w'=>e=.returned (.int .i64 (endOf p s a.toNat))∧w=w':=by
 unfold maxLen at hs
 obtain ⟨k0,rfl⟩:=Int.eq_ofNat_of_zero_le h0
 have HF:=zh hf
 clear hf
 go_enter Tryd.func15,Tryd.ntmps15
 go_wp2
 go_loop [1] (fun i=>∃ k:Nat,k≤s.size∧i=.int .i64 k∧endOf p s k=endOf p s k0) (fun i=>s.size-(intOf i).toNat)
 case atStart=>exact ⟨k0,by omega,rfl,rfl⟩
 case round =>
  obtain ⟨k,hk,rfl,hr⟩:=hrel
  have HR:=zh hr
  clear hr
  by_cases hlt:k<s.size
  ·cases hp:p (s[k].toNat:Int)
   ·have HFIN:=zh ((zrf hlt hp).symm.trans HR.out)
    go_wp2_with (refine (HF.out _ _).mono ?_;rintro e w' ⟨rfl,rfl⟩)
    go_ret
    exact ⟨zfm (by rw [HFIN.out];simp),rfl⟩
   ·have HN:=zh ((zsd hlt hp).symm.trans HR.out)
    go_wp2_with (refine (HF.out _ _).mono ?_;rintro e w' ⟨rfl,rfl⟩)
    go_round
    case rel=>exact ⟨k+1,by omega,by go_num,HN.out⟩
    case measure=>simp [intOf];omega
  ·have HFIN:=zh ((zhl (p:=p) (s:=s) (k:=k) (by omega)).symm.trans HR.out)
   go_wp2
   go_ret
   exact ⟨zfm (by rw [HFIN.out]),rfl⟩
theorem zWc {P:Program} {f:FuncId} {fn:Func} (hf:P.funcs[f]?=some fn) (hname:(fn.name == "runtime.NumGoroutine")=false) (hb:fn.body.isNone=false) (args:Array Value) (w:World) :
  (callFunc f args).run P w=.ok (.enter f args) w:=by
 unfold callFunc
 simp only [Sem.run_bind,run_program,Result.andThen_ok,hf,hname,hb,Bool.false_eq_true,if_false,Sem.run_pure]
theorem zrj (s:ByteArray) (a:Int) (w:World) (hs:s.size≤maxLen) (h0:0≤a) (h1:a≤s.size) :
  Calls Tryd.prog 15 #[.string s,.int .i64 a,.func (.func 46) #[] #[]] w fun e w'=>e=.returned (.int .i64 (endOf zMe s a.toNat))∧w=w' :=
 zpg _ _ (fun _ w=>zWc Tryd.func46 (by kernel_rfl) (by kernel_rfl) _ w) zah s a w hs h0 h1
theorem zjd (s:ByteArray) (a:Int) (w:World) (hs:s.size≤maxLen) (h0:0≤a) (h1:a≤s.size) :
  Calls Tryd.prog 15 #[.string s,.int .i64 a,.func (.func 28) #[] #[]] w fun e w'=>e=.returned (.int .i64 (endOf zFe s a.toNat))∧w=w' :=
 zpg _ _ (fun _ w=>zWc Tryd.func28 (by kernel_rfl) (by kernel_rfl) _ w) zsc s a w hs h0 h1
theorem zUh (s:ByteArray) (a:Int) (w:World) (hs:s.size≤maxLen) (h0:0≤a) (h1:a≤s.size) :
  Calls Tryd.prog 15 #[.string s,.int .i64 a,.func (.func 16) #[] #[]] w fun e w'=>e=.returned (.int .i64 (endOf zAk s a.toNat))∧w=w' :=
 zpg _ _ (fun _ w=>zWc Tryd.func16 (by kernel_rfl) (by kernel_rfl) _ w) zTk s a w hs h0 h1
end
section
open Go.RowKit
def zSc:List (List UInt8) :=
 [[116,121,112,101],[102,110],[111,119,110],[99,101,108,108],[99,111,117,110,116,101,100],[108,111,99,107],[103,117,97,114,100],[119,104,101,114,101],[105,110,116],[109,117,116],
  [102,114,101,101],[117,110,108,111,99,107],[105,102],[101,108,115,101],[119,104,105,108,101],[114,101,116,117,114,110],[97,98,111,114,116],[102,111,114,107],[110,101,119],[97,114,114,97,121]]
def keyAt (i:Nat):ByteArray:=⟨(zSc.getD i []).toArray⟩
def zce (i:Nat) (s:ByteArray):Bool:=(zSc.drop i).contains s.data.toList
def zbh (s:ByteArray):Bool:=zce 0 s
def zKc (i:Nat):ByteArray:=⟨([[45,62],[60,61],[61,61]].getD i ([]:List UInt8)).toArray⟩
def zRn (B:Nat):Prop:=0<B∧2<B∧1<B
structure Tabs (w:World):Prop where
 b0:w.cell? ⟨0,0,none⟩=some (.int .u8 32)
 b1:w.cell? ⟨0,1,none⟩=some (.int .u8 10)
 keys:∀ i,i<20→w.cell? ⟨2,i,none⟩=some (.string (keyAt i))
 pairs:∀ i,i<3→w.cell? ⟨1,i,none⟩=some (.string (zKc i))
 size:zRn w.heap.size
theorem Tabs.below {w w':World} {B:Nat} (h:Tabs w) (hb:Below B w w') (hB:zRn B):Tabs w' :=
 ⟨(hb.cell (p:=⟨0,0,none⟩) hB.1).trans h.b0,(hb.cell (p:=⟨0,1,none⟩) hB.1).trans h.b1,
  fun i hi=>(hb.cell (p:=⟨2,i,none⟩) hB.2.1).trans (h.keys i hi),fun i hi=>(hb.cell (p:=⟨1,i,none⟩) hB.2.2).trans (h.pairs i hi),
  ⟨Nat.lt_of_lt_of_le h.size.1 hb.size,Nat.lt_of_lt_of_le h.size.2.1 hb.size,Nat.lt_of_lt_of_le h.size.2.2 hb.size⟩⟩
def zbe:List Value:=(List.range 20).map fun i=>.string (keyAt i)
theorem zug (j:Nat) (hj:j<20):zbe[j]?=some (.string (keyAt j)):=by
 unfold zbe
 rw [List.getElem?_map,List.getElem?_range hj]
 rfl
theorem zfj:zbe.length=20:=by unfold zbe;simp
theorem zrk (w:World) (ht:Tabs w):w.rangeAt 2 0 zbe:=by
 intro j v hv
 have hj:j<20:=by
  have:=(List.getElem?_eq_some_iff.1 hv).1
  rwa [zfj] at this
 rw [zug j hj] at hv
 rw [Nat.zero_add,ht.keys j hj,hv]
theorem zam:(Tryd.prog.info? 125).map (·.size)=some zbe.length:=by kernel_rfl
theorem zdj (k:Nat) (s:ByteArray) (hk:k<20) (h:(s.toList == (keyAt k).toList)=true):zce k s=true:=by
 have hl:k<zSc.length:=hk
 have hg:zSc.getD k []=zSc[k]:=by simp [hl]
 unfold zce
 rw [List.drop_eq_getElem_cons hl,List.contains_cons]
 have:(s.data.toList == zSc[k])=true:=by
  rw [← hg]
  rw [ByteArray.toList_eq,ByteArray.toList_eq] at h
  simpa [keyAt] using h
 rw [this]
 rfl
theorem zBk (k:Nat) (s:ByteArray) (hk:k<20) (h:(s.toList == (keyAt k).toList)=false):zce k s=zce (k+1) s:=by
 have hl:k<zSc.length:=hk
 have hg:zSc.getD k []=zSc[k]:=by simp [hl]
 unfold zce
 rw [List.drop_eq_getElem_cons hl,List.contains_cons]
 have:(s.data.toList == zSc[k])=false:=by
  rw [← hg]
  rw [ByteArray.toList_eq,ByteArray.toList_eq] at h
  simpa [keyAt] using h
 rw [this]
 rfl
theorem zXi (s:ByteArray):zce 20 s=false:=rfl
theorem zNc {P:Program} {t e:TypeId} {len k:Nat} {cs:List Value} {v:Value} (ht:P.underlying t=some (.array len e)) (he:∀ w,(isAgg e).run P w=.ok false w) (hs:(P.info? e).map (·.size)=some 1)
  (hk:k<len) (hv:cs[k]?=some v) (w:World):(Instr.index t (.agg cs.toArray) (.int .i64 k)).run P w=.ok v w:=by
 cases hq:P.info? e with
 | none=>simp [hq] at hs
 | some i =>
  have hs':i.size=1:=by simpa [hq] using hs
  have h2:((k:Int)<(len:Int)):=by omega
  have h3:(0:Int)≤(k:Int):=by omega
  simp [Instr.index,asIntOf,run_underlying ht,part,he,sizeOf,typeInfo,hq,hs',hv]
  omega
theorem zfo (w:World):(isAgg 9).run Tryd.prog w=.ok false w:=by
 unfold isAgg
 rw [Sem.run_bind,run_underlying Tryd.underlying9 w]
 rfl
theorem strSize:(Tryd.prog.info? 9).map (·.size)=some 1:=by kernel_rfl
theorem zdi (s:ByteArray) (w:World) (ht:Tabs w) :
  Calls Tryd.prog 47 #[.string s] w fun e w'=>e=.returned (.bool (zbh s))∧w=w':=by
 have hr:=zh (zrk w ht)
 go_enter Tryd.func47,Tryd.ntmps47
 go_wp2_with (with_reducible refine wpList_load_mid rfl 125 (.global 2) rfl 2 0 rfl zbe _ hr.out Tryd.underlying125 rfl zam ?_)
 go_loop [6] (fun i=>∃ k:Nat,k≤20∧i=.int .i64 k∧zce k s=zbh s) (fun i=>20-(intOf i).toNat)
 case atStart=>exact ⟨0,by omega,rfl,rfl⟩
 case round =>
  obtain ⟨k,hk,rfl,hrl⟩:=hrel
  have HR:=zh hrl
  clear hrl
  by_cases hlt:k<20
  ·have hidx:=zNc (P:=Tryd.prog) Tryd.underlying125 zfo strSize hlt (zug k hlt) w
   have hlt':(k:Int)<20:=by omega
   cases hc:(s.toList == (keyAt k).toList)
   ·have HN:=zh ((zBk k s hlt hc).symm.trans HR.out)
    go_wp2
    go_round
    case rel=>exact ⟨k+1,by omega,by go_num,HN.out⟩
    case measure=>simp [intOf];omega
   ·have HN:=zh ((zdj k s hlt hc).symm.trans HR.out)
    go_wp2
    go_ret
    exact ⟨zQc HN.out,rfl⟩
  ·obtain rfl:k=20:=by omega
   have HN:=zh ((zXi s).symm.trans HR.out)
   go_wp2
   go_ret
   exact ⟨zQc HN.out,rfl⟩
end
section
open Go.RowKit
def at0 (s:ByteArray):Int:=((s.data.toList.headD 0).toNat:Int)
def zeb (s:ByteArray):Bool:=decide (1≤s.size) && decide (s.size≤16) && zXj (at0 s) && decide (endOf zMe s 0=s.size) && !zbh s
end
section
open Go.RowKit
structure Tok where
 kind:Nat
 text:ByteArray
 num:Nat
 place:Nat
def zBb:Tok:=⟨0,⟨#[]⟩,0,0⟩
def zAa (t:Tok):List Value:=[.int .i64 t.kind,.string t.text,.int .i64 t.num,.int .i64 t.place]
def zsb (t:Tok):Value:=.agg #[.int .i64 t.kind,.string t.text,.int .i64 t.num,.int .i64 t.place]
def okR (t:Tok):Ending:=.returned (.tuple #[zsb t,.int .i64 0])
def errR (e:Int):Ending:=.returned (.tuple #[zsb zBb,.int .i64 e])
def zao:Except Int Tok→Ending
 | .ok t=>okR t
 | .error e=>errR e
def zMb (s:ByteArray) (k:Nat):Except Int Tok :=
 if 16<endOf zMe s k-k then .error 13
 else if zbh (s.extract k (endOf zMe s k))=true then .ok ⟨2,s.extract k (endOf zMe s k),0,k⟩
 else .ok ⟨1,s.extract k (endOf zMe s k),0,k⟩
theorem Tabs.alloc {w:World} {o:Obj} (h:Tabs w):Tabs (w.alloc o):=h.below ((Below.refl _ _).alloc (Nat.le_refl _) o) h.size
theorem zyk (s:ByteArray) (k:Nat) (w:World) (hs:s.size≤maxLen) (hk:k<s.size) (ht:Tabs w) :
  Calls Tryd.prog 27 #[.string s,.int .i64 k] w fun e w'=>e=zao (zMb s k)∧Below w.heap.size w w':=by
 have hge:=zle zMe s k
 have hle:=zkd zMe s k (by omega)
 generalize hE:endOf zMe s k=E at *
 have HE:=zh hE
 clear hE
 go_enter Tryd.func27,Tryd.ntmps27
 go_wp2_with fail
 refine (zrj _ _ _ hs (by omega) (by omega)).mono ?_
 rintro e w' ⟨rfl,rfl⟩
 rw [Int.toNat_natCast,HE.out]
 go_wp2_with fail
 ·have hr:zMb s k=.error 13:=by unfold zMb;rw [HE.out,if_pos (by omega)]
  rw [hr]
  exact bodyPost_ret (v:=.tuple #[zsb zBb,.int .i64 13]) (by simp [results,Tryd.results27,go_sem,zsb,zBb]) rfl ⟨rfl,(Below.refl _ _).alloc (Nat.le_refl _) _⟩
 ·cases hkey:zbh (s.extract k E)
  ·have hr:zMb s k=.ok ⟨1,s.extract k E,0,k⟩:=by unfold zMb;rw [HE.out,if_neg (by omega),if_neg (by simp [hkey])]
   have HR:=zh hr
   clear hr
   refine (zdi _ _ ht.alloc).mono ?_
   rintro e w' ⟨rfl,rfl⟩
   rw [hkey]
   go_wp2
   rw [HR.out]
   exact bodyPost_ret (v:=.tuple #[zsb ⟨1,s.extract k E,0,k⟩,.int .i64 0]) (by simp [results,Tryd.results27,go_sem,zsb]) rfl ⟨rfl,by go_grown⟩
  ·have hr:zMb s k=.ok ⟨2,s.extract k E,0,k⟩:=by unfold zMb;rw [HE.out,if_neg (by omega),if_pos (by simp [hkey])]
   have HR:=zh hr
   clear hr
   refine (zdi _ _ ht.alloc).mono ?_
   rintro e w' ⟨rfl,rfl⟩
   rw [hkey]
   go_wp2
   rw [HR.out]
   exact bodyPost_ret (v:=.tuple #[zsb ⟨2,s.extract k E,0,k⟩,.int .i64 0]) (by simp [results,Tryd.results27,go_sem,zsb]) rfl ⟨rfl,by go_grown⟩
end
section
open Go.RowKit
def zQd (s p:ByteArray):Bool:=decide (p.size≤s.size) && (s.extract 0 p.size).toList == p.toList
def ztg:List UInt8:=[123,125,40,41,91,93,44,58,59,61,43,45,38,60]
def zYf (b:UInt8):Bool:=!decide (Lib.indexByte ztg b<0)
def bat (s:ByteArray) (k:Nat):UInt8:=s.data.toList.getD k 0
theorem zgc (s:ByteArray) (k:Nat) (h:k<s.size):bat s k=s[k]:=by
 unfold bat
 rw [List.getD_eq_getElem?_getD,List.getElem?_eq_getElem (by simpa using h)]
 rfl
def zUd (s:ByteArray) (k:Nat):Except Int Tok :=
 if zYf (bat s k)=true then .ok ⟨4,s.extract k (k+1),0,k⟩ else .error 11
def zXa (s:ByteArray) (k:Nat):Nat→Except Int Tok
 | 0=>zUd s k
 | n+1=>if zQd (s.extract k s.size) (zKc (2-n))=true then .ok ⟨4,zKc (2-n),0,k⟩ else zXa s k n
def zVd (s:ByteArray) (k:Nat):Except Int Tok:=zXa s k 3
theorem zoi {s:ByteArray} {k i:Nat} (hi:i<3) (h:zQd (s.extract k s.size) (zKc i)=true):zXa s k (3-i)=.ok ⟨4,zKc i,0,k⟩:=by
 have e:3-i=(2-i)+1:=by omega
 have e2:2-(2-i)=i:=by omega
 rw [e,zXa,e2,if_pos h]
theorem zWi {s:ByteArray} {k i:Nat} (hi:i<3) (h:zQd (s.extract k s.size) (zKc i)=false):zXa s k (3-i)=zXa s k (3-(i+1)):=by
 have e:3-i=(2-i)+1:=by omega
 have e2:2-(2-i)=i:=by omega
 have e3:3-(i+1)=2-i:=by omega
 rw [e,zXa,e2,if_neg (by simp [h]),e3]
theorem zuf (s p:ByteArray) (w:World) (_hs:s.size≤maxLen) (_hp:p.size≤maxLen) :
  Calls Tryd.prog 62 #[.string s,.string p] w fun e w'=>e=.returned (.bool (zQd s p))∧w=w':=by
 by_cases h:p.size≤s.size
 ·have hd:decide (p.size≤s.size)=true:=by simpa using h
  have HP:=zh (show zQd s p=((s.extract 0 p.size).toList == p.toList) by unfold zQd;rw [hd];rfl)
  go_enter Tryd.func62,Tryd.ntmps62
  go_wp2
  all_goals go_ret
  all_goals exact ⟨zQc HP.out.symm,rfl⟩
 ·have hd:decide (p.size≤s.size)=false:=by simpa using h
  have HP:=zh (show zQd s p=false by unfold zQd;rw [hd];rfl)
  go_enter Tryd.func62,Tryd.ntmps62
  go_wp2
  all_goals go_ret
  all_goals exact ⟨zQc HP.out.symm,rfl⟩
theorem zjf (s p:ByteArray) (w:World) (hs:s.size≤maxLen) (hp:p.size≤maxLen) :
  Calls Tryd.prog 48 #[.string s,.string p] w fun e w'=>e=.returned (.bool (zQd s p))∧w=w':=by
 go_enter Tryd.func48,Tryd.ntmps48
 go_wp2_with (go_at_call 62;refine (zuf _ _ _ hs hp).mono ?_;rintro e w' ⟨rfl,rfl⟩)
 go_ret
 exact ⟨rfl,rfl⟩
theorem zsf (s:ByteArray) (c:Int) (w:World) :
  Calls Tryd.prog 63 #[.string s,.int .u8 c] w fun e w'=>e=.returned (.int .i64 (Lib.indexByte s.data.toList c.toNat.toUInt8))∧w=w':=by
 have hcall:(callFunc 80 #[.string s,.int .u8 c]).run Tryd.prog w=.ok (.value (.int .i64 (Lib.indexByte s.data.toList c.toNat.toUInt8))) w:=by
  rw [run_callFunc_extern Tryd.func80 (by kernel_rfl) (by kernel_rfl) (by kernel_rfl) (e:=Extern.BytealgIndexByte.indexByte) (by kernel_rfl),Lib.run_indexByteString]
  rfl
 go_enter Tryd.func63,Tryd.ntmps63
 go_wp2
 go_ret
 exact ⟨rfl,rfl⟩
theorem zRe (s:ByteArray) (c:Int) (w:World) :
  Calls Tryd.prog 49 #[.string s,.int .u8 c] w fun e w'=>e=.returned (.int .i64 (Lib.indexByte s.data.toList c.toNat.toUInt8))∧w=w':=by
 go_enter Tryd.func49,Tryd.ntmps49
 go_wp2_with (go_at_call 63;refine (zsf _ _ _).mono ?_;rintro e w' ⟨rfl,rfl⟩)
 go_ret
 exact ⟨rfl,rfl⟩
theorem zhk (s:ByteArray) (a b:Nat):(s.extract a b).size≤s.size:=by
 rw [ByteArray.size_extract]
 omega
def zdf:List Value:=[.string (zKc 0),.string (zKc 1),.string (zKc 2)]
theorem zEf (j:Nat) (hj:j<3):zdf[j]?=some (.string (zKc j)):=by
 match j,hj with
 | 0,_=>rfl
 | 1,_=>rfl
 | 2,_=>rfl
theorem zoj (w:World) (ht:Tabs w):w.rangeAt 1 0 zdf:=by
 intro j v hv
 have hj:j<3:=(List.getElem?_eq_some_iff.1 hv).1
 rw [zEf j hj] at hv
 rw [Nat.zero_add,ht.pairs j hj,hv]
theorem zek:(Tryd.prog.info? 111).map (·.size)=some zdf.length:=by kernel_rfl
theorem zCe (i:Nat) (hi:i<3):(zKc i).size=2:=by
 match i,hi with
 | 0,_=>rfl
 | 1,_=>rfl
 | 2,_=>rfl
theorem zch (b:UInt8):Lib.indexByte (ByteArray.mk #[123,125,40,41,91,93,44,58,59,61,43,45,38,60]).data.toList ((b.toNat:Int)).toNat.toUInt8=Lib.indexByte ztg b:=by
 simp [ztg]
theorem zDk (s:ByteArray) (k:Nat) (w:World) (hs:s.size≤maxLen) (hk:k<s.size) (ht:Tabs w) :
  Calls Tryd.prog 30 #[.string s,.int .i64 k] w fun e w'=>e=zao (zVd s k)∧Below w.heap.size w w':=by
 have hr:=zh (zoj _ (ht.alloc (o:=.cells #[.int .i64 0,.string ⟨#[]⟩,.int .i64 0,.int .i64 0] 73)))
 have hs':=hs
 unfold maxLen at hs'
 go_enter Tryd.func30,Tryd.ntmps30
 go_wp2_with (with_reducible refine wpList_load_mid rfl 111 (.global 1) rfl 1 0 rfl zdf _ hr.out Tryd.underlying111 rfl zek ?_)
 go_loop [9] (fun i=>∃ n:Nat,n≤3∧i=.int .i64 n∧zXa s k (3-n)=zVd s k) (fun i=>3-(intOf i).toNat)
 case atStart=>exact ⟨0,by omega,rfl,rfl⟩
 case round =>
  obtain ⟨n,hn,rfl,hrl⟩:=hrel
  have HR:=zh hrl
  clear hrl
  by_cases hlt:n<3
  ·have hidx:=fun W=>zNc (P:=Tryd.prog) Tryd.underlying111 zfo strSize hlt (zEf n hlt) W
   have hlt':(n:Int)<3:=by omega
   have hx:(s.extract k s.size).size≤maxLen:=Nat.le_trans (zhk s k s.size) hs
   have hp2:(zKc n).size≤maxLen:=by rw [zCe n hlt];unfold maxLen;omega
   cases hc:zQd (s.extract k s.size) (zKc n)
   ·have HN:=zh ((zWi hlt hc).symm.trans HR.out)
    go_wp2_with (go_at_call 48;refine (zjf _ _ _ hx hp2).mono ?_;rintro e w' ⟨rfl,rfl⟩)
    go_round
    case rel=>exact ⟨n+1,by omega,by go_num,HN.out⟩
    case measure=>simp [intOf];omega
   ·have HN:=zh ((zoi hlt hc).symm.trans HR.out)
    go_wp2_with (go_at_call 48;refine (zjf _ _ _ hx hp2).mono ?_;rintro e w' ⟨rfl,rfl⟩)
    rw [← HN.out]
    exact bodyPost_ret (v:=.tuple #[zsb ⟨4,zKc n,0,k⟩,.int .i64 0]) (by simp [results,Tryd.results30,go_sem,zsb]) rfl ⟨rfl,by go_grown⟩
  ·obtain rfl:n=3:=by omega
   have hfin:zUd s k=zVd s k:=HR.out
   have HF:=zh hfin
   clear hfin
   cases hc:zYf s[k]
   ·have hneg:Lib.indexByte ztg s[k]<0:=by unfold zYf at hc;simpa using hc
    have hfin:zVd s k=.error 11:=by rw [← HF.out,zUd,zgc s k hk,if_neg (by simp [hc])]
    have HE:=zh hfin
    clear hfin hc
    go_wp2_with (go_at_call 49;refine (zRe _ _ _).mono ?_;rintro e w' ⟨rfl,rfl⟩;rw [zch])
    rw [HE.out]
    exact bodyPost_ret (v:=.tuple #[zsb zBb,.int .i64 11]) (by simp [results,Tryd.results30,go_sem,zsb,zBb]) rfl ⟨rfl,by go_grown⟩
   ·have hneg:¬ Lib.indexByte ztg s[k]<0:=by unfold zYf at hc;simpa using hc
    have hfin:zVd s k=.ok ⟨4,s.extract k (k+1),0,k⟩:=by rw [← HF.out,zUd,zgc s k hk,if_pos (by simp [hc])]
    have HE:=zh hfin
    clear hfin hc
    go_wp2_with (go_at_call 49;refine (zRe _ _ _).mono ?_;rintro e w' ⟨rfl,rfl⟩;rw [zch])
    rw [HE.out]
    exact bodyPost_ret (v:=.tuple #[zsb ⟨4,s.extract k (k+1),0,k⟩,.int .i64 0]) (by simp [results,Tryd.results30,go_sem,zsb]) rfl ⟨rfl,by go_grown⟩
end
end Go.Proofs.YtdhmdfhnkppnmaaDoor
