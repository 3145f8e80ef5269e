/- The contracts of the byte predicates of lex and of lychgateref01, and of lex.runEnd: each returns what the plain function says and leaves the world as it was. No conditions but that a text is at most maxLen bytes long. The contract of lex.IsKey in a world that holds the table of key words, and of lychgateref01.IsKey in any world: each returns whether the text is one of the twenty key words, and leaves the world as it was. Plain facts on names: which texts are names. Nothing of the program is walked here. The contract of lex.wordAt in a world that holds the tables of lex: the token of the word at a place, or ErrWord; nothing that was in memory is changed. The contracts of strings.HasPrefix, strings.IndexByte and lex.signAt: the token of the sign at a place, the longer one where two could stand, or ErrByte; nothing that was in memory is changed. lex.signAt in a world that holds the tables of lex. The contract of lex.numberAt: the token of the number at a place, or ErrNumber; nothing that was in memory is changed. The contract of lex.tokenAt in a world that holds the tables of lex: the token at a place that is no blank, or the fault there; nothing that was in memory is changed. The plain account of lex.Tokens: where each round goes on, and what the whole comes to. Nothing of the program is walked here. -/
import Derived.Test.YthdbmgijpelecaaGreatDoorRows
import Derived.WalkKit
import Derived.WalkSpells
import Derived.Lib.Hide
import Derived.Deep.QuietTactic
import Derived.BigQuiet
import Derived.Handy
import Derived.Deep.MidRow
import Derived.Lib.Bytealg
namespace Go.Proofs.YthdbmgijpelecaaGreatDoor
set_option maxHeartbeats 1000000
theorem zh {p : Prop} (h : p) : Go.RowKit.Hid p := Lib.hid h
section
open Go.RowKit
def zJf (n:Int):Bool:=(decide (97≤n) && decide (n≤122)) || n == 95
def zge (n:Int):Bool:=decide (48≤n) && decide (n≤57)
def zOe (n:Int):Bool:=zJf n || zge n
def zbk (n:Int):Bool:=n != 10
theorem zzc {a b:Bool} (h:a=b):Ending.returned (.bool a)=.returned (.bool b):=by rw [h]
theorem zhc (n:Int) (w:World) :
  Calls Tryz.prog 90 #[.int .u8 n] w fun e w'=>e=.returned (.bool (zJf n))∧w=w':=by
 go_enter Tryz.func90,Tryz.ntmps90
 go_wp2
 all_goals go_ret
 all_goals refine ⟨zzc ?_,rfl⟩
 all_goals (unfold zJf;first|(simp [*];done)|(rw [Bool.eq_iff_iff];simp;omega))
theorem zke (n:Int) (w:World) :
  Calls Tryz.prog 92 #[.int .u8 n] w fun e w'=>e=.returned (.bool (zge n))∧w=w':=by
 go_enter Tryz.func92,Tryz.ntmps92
 go_wp2
 all_goals go_ret
 all_goals refine ⟨zzc ?_,rfl⟩
 all_goals (unfold zge;first|(simp [*];done)|(rw [Bool.eq_iff_iff];simp;omega))
theorem zsb (n:Int) (w:World) :
  Calls Tryz.prog 116 #[.int .u8 n] w fun e w'=>e=.returned (.bool (zJf n))∧w=w':=by
 go_enter Tryz.func116,Tryz.ntmps116
 go_wp2
 all_goals go_ret
 all_goals refine ⟨zzc ?_,rfl⟩
 all_goals (unfold zJf;first|(simp [*];done)|(rw [Bool.eq_iff_iff];simp;omega))
theorem zMb (n:Int) (w:World) :
  Calls Tryz.prog 117 #[.int .u8 n] w fun e w'=>e=.returned (.bool (zge n))∧w=w':=by
 go_enter Tryz.func117,Tryz.ntmps117
 go_wp2
 all_goals go_ret
 all_goals refine ⟨zzc ?_,rfl⟩
 all_goals (unfold zge;first|(simp [*];done)|(rw [Bool.eq_iff_iff];simp;omega))
theorem zpj (n:Int) (w:World) :
  Calls Tryz.prog 129 #[.int .u8 n] w fun e w'=>e=.returned (.bool (zOe n))∧w=w':=by
 by_cases h:zJf n=true
 ·have hw:zOe n=true:=by unfold zOe;rw [h];rfl
  have H:=zh hw
  clear hw
  go_enter Tryz.func129,Tryz.ntmps129
  go_wp2_with (first
   | (go_at_call 90;refine (zhc _ _).mono ?_;rintro e w' ⟨rfl,rfl⟩)
   | (go_at_call 92;refine (zke _ _).mono ?_;rintro e w' ⟨rfl,rfl⟩))
  all_goals go_ret
  exact ⟨zzc H.out.symm,rfl⟩
 ·have hf:zJf n=false:=by simpa using h
  have hw:zOe n=zge n:=by unfold zOe;rw [hf];rfl
  have H:=zh hw
  clear hw h
  go_enter Tryz.func129,Tryz.ntmps129
  go_wp2_with (first
   | (go_at_call 90;refine (zhc _ _).mono ?_;rintro e w' ⟨rfl,rfl⟩)
   | (go_at_call 92;refine (zke _ _).mono ?_;rintro e w' ⟨rfl,rfl⟩))
  all_goals go_ret
  exact ⟨zzc H.out.symm,rfl⟩
theorem zln (n:Int) (w:World) :
  Calls Tryz.prog 53 #[.int .u8 n] w fun e w'=>e=.returned (.bool (zbk n))∧w=w':=by
 go_enter Tryz.func53,Tryz.ntmps53
 go_wp2
 all_goals go_ret
 all_goals exact ⟨zzc (by unfold zbk;simp),rfl⟩
def zhe (p:Int→Bool):List UInt8→Nat
 | []=>0
 | b :: r=>if p b.toNat then zhe p r+1 else 0
def endOf (p:Int→Bool) (s:ByteArray) (k:Nat):Nat:=k+zhe p (s.data.toList.drop k)
theorem zLo (p:Int→Bool) (l:List UInt8):zhe p l≤l.length:=by
 induction l with
 | nil=>simp [zhe]
 | cons b r ih=>simp only [zhe];split<;>simp<;>omega
theorem zCe (p:Int→Bool) (s:ByteArray) (k:Nat):k≤endOf p s k:=by unfold endOf;omega
theorem zEd (p:Int→Bool) (s:ByteArray) (k:Nat) (h:k≤s.size):endOf p s k≤s.size:=by
 unfold endOf
 have:=zLo p (s.data.toList.drop k)
 simp at this
 omega
theorem drop_at (s:ByteArray) (k:Nat) (h:k<s.size):s.data.toList.drop k=s[k] :: s.data.toList.drop (k+1):=List.drop_eq_getElem_cons (by simpa using h)
theorem zIe {p:Int→Bool} {s:ByteArray} {k:Nat} (h:k<s.size) (hp:p (s[k].toNat:Int)=false):endOf p s k=k:=by
 unfold endOf
 rw [drop_at s k h,zhe,hp]
 simp
theorem zXc {p:Int→Bool} {s:ByteArray} {k:Nat} (h:k<s.size) (hp:p (s[k].toNat:Int)=true):endOf p s k=endOf p s (k+1):=by
 unfold endOf
 rw [drop_at s k h,zhe,hp]
 simp
 omega
theorem zTg {p:Int→Bool} {s:ByteArray} {k:Nat} (h:s.size≤k):endOf p s k=k:=by
 unfold endOf
 rw [List.drop_of_length_le (by simp;omega)]
 simp [zhe]
theorem zck {k:IntKind} {a b:Int} (h:a=b):Ending.returned (.int k a)=.returned (.int k b):=by rw [h]
theorem zTi (f:FuncId) (p:Int→Bool) (hcf:∀ (n:Int) (w:World),(callFunc f #[.int .u8 n]).run Tryz.prog w=.ok (.enter f #[.int .u8 n]) w)
  (hf:∀ n w,Calls Tryz.prog f #[.int .u8 n] w fun e w'=>e=.returned (.bool (p n))∧w=w')
  (s:ByteArray) (a:Int) (w:World) (hs:s.size≤maxLen) (h0:0≤a) (h1:a≤s.size) :
  Calls Tryz.prog 52 #[.string s,.int .i64 a,.func (.func f) #[] #[]] w fun e w'=>e=.returned (.int .i64 (endOf p s a.toNat))∧w=w':=by
 unfold maxLen at hs
 obtain ⟨k0,rfl⟩:=Int.eq_ofNat_of_zero_le h0
 have HF:=zh hf
 clear hf
 go_enter Tryz.func52,Tryz.ntmps52
 go_wp2
 go_loop [1] (fun i=>∃ k:Nat,k≤s.size∧i=.int .i64 k∧endOf p s k=endOf p s k0) (fun i=>s.size-(intOf i).toNat)
 case atStart=>exact ⟨k0,by omega,rfl,rfl⟩
 case round =>
  obtain ⟨k,hk,rfl,hr⟩:=hrel
  have HR:=zh hr
  clear hr
  by_cases hlt:k<s.size
  ·cases hp:p (s[k].toNat:Int)
   ·have HFIN:=zh ((zIe hlt hp).symm.trans HR.out)
    go_wp2_with (refine (HF.out _ _).mono ?_;rintro e w' ⟨rfl,rfl⟩)
    go_ret
    exact ⟨zck (by rw [HFIN.out];simp),rfl⟩
   ·have HN:=zh ((zXc hlt hp).symm.trans HR.out)
    go_wp2_with (refine (HF.out _ _).mono ?_;rintro e w' ⟨rfl,rfl⟩)
    go_round
    case rel=>exact ⟨k+1,by omega,by go_num,HN.out⟩
    case measure=>simp [intOf];omega
  ·have HFIN:=zh ((zTg (p:=p) (s:=s) (k:=k) (by omega)).symm.trans HR.out)
   go_wp2
   go_ret
   exact ⟨zck (by rw [HFIN.out]),rfl⟩
theorem zQe {P:Program} {f:FuncId} {fn:Func} (hf:P.funcs[f]?=some fn) (hname:(fn.name == "runtime.NumGoroutine")=false) (hb:fn.body.isNone=false) (args:Array Value) (w:World) :
  (callFunc f args).run P w=.ok (.enter f args) w:=by
 unfold callFunc
 simp only [Sem.run_bind,run_program,Result.andThen_ok,hf,hname,hb,Bool.false_eq_true,if_false,Sem.run_pure]
theorem zTl (s:ByteArray) (a:Int) (w:World) (hs:s.size≤maxLen) (h0:0≤a) (h1:a≤s.size) :
  Calls Tryz.prog 52 #[.string s,.int .i64 a,.func (.func 129) #[] #[]] w fun e w'=>e=.returned (.int .i64 (endOf zOe s a.toNat))∧w=w' :=
 zTi _ _ (fun _ w=>zQe Tryz.func129 (by kernel_rfl) (by kernel_rfl) _ w) zpj s a w hs h0 h1
theorem zcf (s:ByteArray) (a:Int) (w:World) (hs:s.size≤maxLen) (h0:0≤a) (h1:a≤s.size) :
  Calls Tryz.prog 52 #[.string s,.int .i64 a,.func (.func 92) #[] #[]] w fun e w'=>e=.returned (.int .i64 (endOf zge s a.toNat))∧w=w' :=
 zTi _ _ (fun _ w=>zQe Tryz.func92 (by kernel_rfl) (by kernel_rfl) _ w) zke s a w hs h0 h1
theorem zNj (s:ByteArray) (a:Int) (w:World) (hs:s.size≤maxLen) (h0:0≤a) (h1:a≤s.size) :
  Calls Tryz.prog 52 #[.string s,.int .i64 a,.func (.func 53) #[] #[]] w fun e w'=>e=.returned (.int .i64 (endOf zbk s a.toNat))∧w=w' :=
 zTi _ _ (fun _ w=>zQe Tryz.func53 (by kernel_rfl) (by kernel_rfl) _ w) zln s a w hs h0 h1
end
section
open Go.RowKit
def znc:List (List UInt8) :=
 [[116,121,112,101],[102,110],[111,119,110],[99,101,108,108],[99,111,117,110,116,101,100],[108,111,99,107],[103,117,97,114,100],[119,104,101,114,101],[105,110,116],[109,117,116],
  [102,114,101,101],[117,110,108,111,99,107],[105,102],[101,108,115,101],[119,104,105,108,101],[114,101,116,117,114,110],[97,98,111,114,116],[102,111,114,107],[110,101,119],[97,114,114,97,121]]
def keyAt (i:Nat):ByteArray:=⟨(znc.getD i []).toArray⟩
def zhf (i:Nat) (s:ByteArray):Bool:=(znc.drop i).contains s.data.toList
def zMe (s:ByteArray):Bool:=zhf 0 s
def zRc (i:Nat):ByteArray:=⟨([[45,62],[60,61],[61,61]].getD i ([]:List UInt8)).toArray⟩
def zYr (B:Nat):Prop:=0<B∧3<B∧2<B
structure Tabs (w:World):Prop where
 b0:w.cell? ⟨0,0,none⟩=some (.int .u8 32)
 b1:w.cell? ⟨0,1,none⟩=some (.int .u8 10)
 keys:∀ i,i<20→w.cell? ⟨3,i,none⟩=some (.string (keyAt i))
 pairs:∀ i,i<3→w.cell? ⟨2,i,none⟩=some (.string (zRc i))
 size:zYr w.heap.size
theorem Tabs.below {w w':World} {B:Nat} (h:Tabs w) (hb:Below B w w') (hB:zYr B):Tabs w' :=
 ⟨(hb.cell (p:=⟨0,0,none⟩) hB.1).trans h.b0,(hb.cell (p:=⟨0,1,none⟩) hB.1).trans h.b1,
  fun i hi=>(hb.cell (p:=⟨3,i,none⟩) hB.2.1).trans (h.keys i hi),fun i hi=>(hb.cell (p:=⟨2,i,none⟩) hB.2.2).trans (h.pairs i hi),
  ⟨Nat.lt_of_lt_of_le h.size.1 hb.size,Nat.lt_of_lt_of_le h.size.2.1 hb.size,Nat.lt_of_lt_of_le h.size.2.2 hb.size⟩⟩
def zUf:List Value:=(List.range 20).map fun i=>.string (keyAt i)
theorem zZi (j:Nat) (hj:j<20):zUf[j]?=some (.string (keyAt j)):=by
 unfold zUf
 rw [List.getElem?_map,List.getElem?_range hj]
 rfl
theorem zgm:zUf.length=20:=by unfold zUf;simp
theorem zTn (w:World) (ht:Tabs w):w.rangeAt 3 0 zUf:=by
 intro j v hv
 have hj:j<20:=by
  have:=(List.getElem?_eq_some_iff.1 hv).1
  rwa [zgm] at this
 rw [zZi j hj] at hv
 rw [Nat.zero_add,ht.keys j hj,hv]
theorem zhq:(Tryz.prog.info? 193).map (·.size)=some zUf.length:=by kernel_rfl
theorem zXl (k:Nat) (s:ByteArray) (hk:k<20) (h:(s.toList == (keyAt k).toList)=true):zhf k s=true:=by
 have hl:k<znc.length:=hk
 have hg:znc.getD k []=znc[k]:=by simp [hl]
 unfold zhf
 rw [List.drop_eq_getElem_cons hl,List.contains_cons]
 have:(s.data.toList == znc[k])=true:=by
  rw [← hg]
  rw [ByteArray.toList_eq,ByteArray.toList_eq] at h
  simpa [keyAt] using h
 rw [this]
 rfl
theorem zRn (k:Nat) (s:ByteArray) (hk:k<20) (h:(s.toList == (keyAt k).toList)=false):zhf k s=zhf (k+1) s:=by
 have hl:k<znc.length:=hk
 have hg:znc.getD k []=znc[k]:=by simp [hl]
 unfold zhf
 rw [List.drop_eq_getElem_cons hl,List.contains_cons]
 have:(s.data.toList == znc[k])=false:=by
  rw [← hg]
  rw [ByteArray.toList_eq,ByteArray.toList_eq] at h
  simpa [keyAt] using h
 rw [this]
 rfl
theorem zjm (s:ByteArray):zhf 20 s=false:=rfl
theorem zDe {P:Program} {t e:TypeId} {len k:Nat} {cs:List Value} {v:Value} (ht:P.underlying t=some (.array len e)) (he:∀ w,(isAgg e).run P w=.ok false w) (hs:(P.info? e).map (·.size)=some 1)
  (hk:k<len) (hv:cs[k]?=some v) (w:World):(Instr.index t (.agg cs.toArray) (.int .i64 k)).run P w=.ok v w:=by
 cases hq:P.info? e with
 | none=>simp [hq] at hs
 | some i =>
  have hs':i.size=1:=by simpa [hq] using hs
  have h2:((k:Int)<(len:Int)):=by omega
  have h3:(0:Int)≤(k:Int):=by omega
  simp [Instr.index,asIntOf,run_underlying ht,part,he,sizeOf,typeInfo,hq,hs',hv]
  omega
theorem zcs (w:World):(isAgg 9).run Tryz.prog w=.ok false w:=by
 unfold isAgg
 rw [Sem.run_bind,run_underlying Tryz.underlying9 w]
 rfl
theorem strSize:(Tryz.prog.info? 9).map (·.size)=some 1:=by kernel_rfl
theorem zAl (s:ByteArray) (w:World) (ht:Tabs w) :
  Calls Tryz.prog 130 #[.string s] w fun e w'=>e=.returned (.bool (zMe s))∧w=w':=by
 have hr:=zh (zTn w ht)
 go_enter Tryz.func130,Tryz.ntmps130
 go_wp2_with (with_reducible refine wpList_load_mid rfl 193 (.global 3) rfl 3 0 rfl zUf _ hr.out Tryz.underlying193 rfl zhq ?_)
 go_loop [6] (fun i=>∃ k:Nat,k≤20∧i=.int .i64 k∧zhf k s=zMe s) (fun i=>20-(intOf i).toNat)
 case atStart=>exact ⟨0,by omega,rfl,rfl⟩
 case round =>
  obtain ⟨k,hk,rfl,hrl⟩:=hrel
  have HR:=zh hrl
  clear hrl
  by_cases hlt:k<20
  ·have hidx:=zDe (P:=Tryz.prog) Tryz.underlying193 zcs strSize hlt (zZi k hlt) w
   have hlt':(k:Int)<20:=by omega
   cases hc:(s.toList == (keyAt k).toList)
   ·have HN:=zh ((zRn k s hlt hc).symm.trans HR.out)
    go_wp2
    go_round
    case rel=>exact ⟨k+1,by omega,by go_num,HN.out⟩
    case measure=>simp [intOf];omega
   ·have HN:=zh ((zXl k s hlt hc).symm.trans HR.out)
    go_wp2
    go_ret
    exact ⟨zzc HN.out,rfl⟩
  ·obtain rfl:k=20:=by omega
   have HN:=zh ((zjm s).symm.trans HR.out)
   go_wp2
   go_ret
   exact ⟨zzc HN.out,rfl⟩
end
section
open Go.RowKit
def at0 (s:ByteArray):Int:=((s.data.toList.headD 0).toNat:Int)
def zzd (s:ByteArray):Bool:=decide (1≤s.size) && decide (s.size≤16) && zJf (at0 s) && decide (endOf zOe s 0=s.size) && !zMe s
theorem zEo (s:ByteArray):zMe s=(s.toList == [116,121,112,101] || (s.toList == [102,110] || (s.toList == [111,119,110] || (s.toList == [99,101,108,108] || (s.toList == [99,111,117,110,116,101,100] || (s.toList == [108,111,99,107] || (s.toList == [103,117,97,114,100] || (s.toList == [119,104,101,114,101] || (s.toList == [105,110,116] || (s.toList == [109,117,116] || (s.toList == [102,114,101,101] || (s.toList == [117,110,108,111,99,107] || (s.toList == [105,102] || (s.toList == [101,108,115,101] || (s.toList == [119,104,105,108,101] || (s.toList == [114,101,116,117,114,110] || (s.toList == [97,98,111,114,116] || (s.toList == [102,111,114,107] || (s.toList == [110,101,119] || s.toList == [97,114,114,97,121]))))))))))))))))))):=by
 unfold zMe zhf znc
 rw [ByteArray.toList_eq]
 simp only [List.drop_zero,List.contains_cons,List.contains_nil,Bool.or_false]
end
section
open Go.RowKit
structure Tok where
 kind:Nat
 text:ByteArray
 num:Nat
 place:Nat
def zfb:Tok:=⟨0,⟨#[]⟩,0,0⟩
def zMa (t:Tok):List Value:=[.int .i64 t.kind,.string t.text,.int .i64 t.num,.int .i64 t.place]
def zEb (t:Tok):Value:=.agg #[.int .i64 t.kind,.string t.text,.int .i64 t.num,.int .i64 t.place]
def okR (t:Tok):Ending:=.returned (.tuple #[zEb t,.int .i64 0])
def errR (e:Int):Ending:=.returned (.tuple #[zEb zfb,.int .i64 e])
def zYm:Except Int Tok→Ending
 | .ok t=>okR t
 | .error e=>errR e
def zZb (s:ByteArray) (k:Nat):Except Int Tok :=
 if 16<endOf zOe s k-k then .error 13
 else if zMe (s.extract k (endOf zOe s k))=true then .ok ⟨2,s.extract k (endOf zOe s k),0,k⟩
 else .ok ⟨1,s.extract k (endOf zOe s k),0,k⟩
theorem Tabs.alloc {w:World} {o:Obj} (h:Tabs w):Tabs (w.alloc o):=h.below ((Below.refl _ _).alloc (Nat.le_refl _) o) h.size
theorem zio (s:ByteArray) (k:Nat) (w:World) (hs:s.size≤maxLen) (hk:k<s.size) (ht:Tabs w) :
  Calls Tryz.prog 91 #[.string s,.int .i64 k] w fun e w'=>e=zYm (zZb s k)∧Below w.heap.size w w':=by
 have hge:=zCe zOe s k
 have hle:=zEd zOe s k (by omega)
 generalize hE:endOf zOe s k=E at *
 have HE:=zh hE
 clear hE
 go_enter Tryz.func91,Tryz.ntmps91
 go_wp2_with fail
 refine (zTl _ _ _ hs (by omega) (by omega)).mono ?_
 rintro e w' ⟨rfl,rfl⟩
 rw [Int.toNat_natCast,HE.out]
 go_wp2_with fail
 ·have hr:zZb s k=.error 13:=by unfold zZb;rw [HE.out,if_pos (by omega)]
  rw [hr]
  exact bodyPost_ret (v:=.tuple #[zEb zfb,.int .i64 13]) (by simp [results,Tryz.results91,go_sem,zEb,zfb]) rfl ⟨rfl,(Below.refl _ _).alloc (Nat.le_refl _) _⟩
 ·cases hkey:zMe (s.extract k E)
  ·have hr:zZb s k=.ok ⟨1,s.extract k E,0,k⟩:=by unfold zZb;rw [HE.out,if_neg (by omega),if_neg (by simp [hkey])]
   have HR:=zh hr
   clear hr
   refine (zAl _ _ ht.alloc).mono ?_
   rintro e w' ⟨rfl,rfl⟩
   rw [hkey]
   go_wp2
   rw [HR.out]
   exact bodyPost_ret (v:=.tuple #[zEb ⟨1,s.extract k E,0,k⟩,.int .i64 0]) (by simp [results,Tryz.results91,go_sem,zEb]) rfl ⟨rfl,by go_grown⟩
  ·have hr:zZb s k=.ok ⟨2,s.extract k E,0,k⟩:=by unfold zZb;rw [HE.out,if_neg (by omega),if_pos (by simp [hkey])]
   have HR:=zh hr
   clear hr
   refine (zAl _ _ ht.alloc).mono ?_
   rintro e w' ⟨rfl,rfl⟩
   rw [hkey]
   go_wp2
   rw [HR.out]
   exact bodyPost_ret (v:=.tuple #[zEb ⟨2,s.extract k E,0,k⟩,.int .i64 0]) (by simp [results,Tryz.results91,go_sem,zEb]) rfl ⟨rfl,by go_grown⟩
end
section
open Go.RowKit
def zdf (s p:ByteArray):Bool:=decide (p.size≤s.size) && (s.extract 0 p.size).toList == p.toList
def zif:List UInt8:=[123,125,40,41,91,93,44,58,59,61,43,45,38,60]
def zrd (b:UInt8):Bool:=!decide (Lib.indexByte zif b<0)
def bat (s:ByteArray) (k:Nat):UInt8:=s.data.toList.getD k 0
theorem zqc (s:ByteArray) (k:Nat) (h:k<s.size):bat s k=s[k]:=by
 unfold bat
 rw [List.getD_eq_getElem?_getD,List.getElem?_eq_getElem (by simpa using h)]
 rfl
def zgf (s:ByteArray) (k:Nat):Except Int Tok :=
 if zrd (bat s k)=true then .ok ⟨4,s.extract k (k+1),0,k⟩ else .error 11
def zpb (s:ByteArray) (k:Nat):Nat→Except Int Tok
 | 0=>zgf s k
 | n+1=>if zdf (s.extract k s.size) (zRc (2-n))=true then .ok ⟨4,zRc (2-n),0,k⟩ else zpb s k n
def zne (s:ByteArray) (k:Nat):Except Int Tok:=zpb s k 3
theorem zpl {s:ByteArray} {k i:Nat} (hi:i<3) (h:zdf (s.extract k s.size) (zRc i)=true):zpb s k (3-i)=.ok ⟨4,zRc i,0,k⟩:=by
 have e:3-i=(2-i)+1:=by omega
 have e2:2-(2-i)=i:=by omega
 rw [e,zpb,e2,if_pos h]
theorem zrm {s:ByteArray} {k i:Nat} (hi:i<3) (h:zdf (s.extract k s.size) (zRc i)=false):zpb s k (3-i)=zpb s k (3-(i+1)):=by
 have e:3-i=(2-i)+1:=by omega
 have e2:2-(2-i)=i:=by omega
 have e3:3-(i+1)=2-i:=by omega
 rw [e,zpb,e2,if_neg (by simp [h]),e3]
theorem zvh (s p:ByteArray) (w:World) (_hs:s.size≤maxLen) (_hp:p.size≤maxLen) :
  Calls Tryz.prog 154 #[.string s,.string p] w fun e w'=>e=.returned (.bool (zdf s p))∧w=w':=by
 by_cases h:p.size≤s.size
 ·have hd:decide (p.size≤s.size)=true:=by simpa using h
  have HP:=zh (show zdf s p=((s.extract 0 p.size).toList == p.toList) by unfold zdf;rw [hd];rfl)
  go_enter Tryz.func154,Tryz.ntmps154
  go_wp2
  all_goals go_ret
  all_goals exact ⟨zzc HP.out.symm,rfl⟩
 ·have hd:decide (p.size≤s.size)=false:=by simpa using h
  have HP:=zh (show zdf s p=false by unfold zdf;rw [hd];rfl)
  go_enter Tryz.func154,Tryz.ntmps154
  go_wp2
  all_goals go_ret
  all_goals exact ⟨zzc HP.out.symm,rfl⟩
theorem zbh (s p:ByteArray) (w:World) (hs:s.size≤maxLen) (hp:p.size≤maxLen) :
  Calls Tryz.prog 131 #[.string s,.string p] w fun e w'=>e=.returned (.bool (zdf s p))∧w=w':=by
 go_enter Tryz.func131,Tryz.ntmps131
 go_wp2_with (go_at_call 154;refine (zvh _ _ _ hs hp).mono ?_;rintro e w' ⟨rfl,rfl⟩)
 go_ret
 exact ⟨rfl,rfl⟩
theorem zuh (s:ByteArray) (c:Int) (w:World) :
  Calls Tryz.prog 141 #[.string s,.int .u8 c] w fun e w'=>e=.returned (.int .i64 (Lib.indexByte s.data.toList c.toNat.toUInt8))∧w=w':=by
 have hcall:(callFunc 174 #[.string s,.int .u8 c]).run Tryz.prog w=.ok (.value (.int .i64 (Lib.indexByte s.data.toList c.toNat.toUInt8))) w:=by
  rw [run_callFunc_extern Tryz.func174 (by kernel_rfl) (by kernel_rfl) (by kernel_rfl) (e:=Extern.BytealgIndexByte.indexByte) (by kernel_rfl),Lib.run_indexByteString]
  rfl
 go_enter Tryz.func141,Tryz.ntmps141
 go_wp2
 go_ret
 exact ⟨rfl,rfl⟩
theorem zUg (s:ByteArray) (c:Int) (w:World) :
  Calls Tryz.prog 132 #[.string s,.int .u8 c] w fun e w'=>e=.returned (.int .i64 (Lib.indexByte s.data.toList c.toNat.toUInt8))∧w=w':=by
 go_enter Tryz.func132,Tryz.ntmps132
 go_wp2_with (go_at_call 141;refine (zuh _ _ _).mono ?_;rintro e w' ⟨rfl,rfl⟩)
 go_ret
 exact ⟨rfl,rfl⟩
theorem znn (s:ByteArray) (a b:Nat):(s.extract a b).size≤s.size:=by
 rw [ByteArray.size_extract]
 omega
def zOg:List Value:=[.string (zRc 0),.string (zRc 1),.string (zRc 2)]
theorem zOh (j:Nat) (hj:j<3):zOg[j]?=some (.string (zRc j)):=by
 match j,hj with
 | 0,_=>rfl
 | 1,_=>rfl
 | 2,_=>rfl
theorem ztm (w:World) (ht:Tabs w):w.rangeAt 2 0 zOg:=by
 intro j v hv
 have hj:j<3:=(List.getElem?_eq_some_iff.1 hv).1
 rw [zOh j hj] at hv
 rw [Nat.zero_add,ht.pairs j hj,hv]
theorem zMn:(Tryz.prog.info? 178).map (·.size)=some zOg.length:=by kernel_rfl
theorem zzf (i:Nat) (hi:i<3):(zRc i).size=2:=by
 match i,hi with
 | 0,_=>rfl
 | 1,_=>rfl
 | 2,_=>rfl
theorem zGj (b:UInt8):Lib.indexByte (ByteArray.mk #[123,125,40,41,91,93,44,58,59,61,43,45,38,60]).data.toList ((b.toNat:Int)).toNat.toUInt8=Lib.indexByte zif b:=by
 simp [zif]
theorem ztn (s:ByteArray) (k:Nat) (w:World) (hs:s.size≤maxLen) (hk:k<s.size) (ht:Tabs w) :
  Calls Tryz.prog 94 #[.string s,.int .i64 k] w fun e w'=>e=zYm (zne s k)∧Below w.heap.size w w':=by
 have hr:=zh (ztm _ (ht.alloc (o:=.cells #[.int .i64 0,.string ⟨#[]⟩,.int .i64 0,.int .i64 0] 128)))
 have hs':=hs
 unfold maxLen at hs'
 go_enter Tryz.func94,Tryz.ntmps94
 go_wp2_with (with_reducible refine wpList_load_mid rfl 178 (.global 2) rfl 2 0 rfl zOg _ hr.out Tryz.underlying178 rfl zMn ?_)
 go_loop [9] (fun i=>∃ n:Nat,n≤3∧i=.int .i64 n∧zpb s k (3-n)=zne s k) (fun i=>3-(intOf i).toNat)
 case atStart=>exact ⟨0,by omega,rfl,rfl⟩
 case round =>
  obtain ⟨n,hn,rfl,hrl⟩:=hrel
  have HR:=zh hrl
  clear hrl
  by_cases hlt:n<3
  ·have hidx:=fun W=>zDe (P:=Tryz.prog) Tryz.underlying178 zcs strSize hlt (zOh n hlt) W
   have hlt':(n:Int)<3:=by omega
   have hx:(s.extract k s.size).size≤maxLen:=Nat.le_trans (znn s k s.size) hs
   have hp2:(zRc n).size≤maxLen:=by rw [zzf n hlt];unfold maxLen;omega
   cases hc:zdf (s.extract k s.size) (zRc n)
   ·have HN:=zh ((zrm hlt hc).symm.trans HR.out)
    go_wp2_with (go_at_call 131;refine (zbh _ _ _ hx hp2).mono ?_;rintro e w' ⟨rfl,rfl⟩)
    go_round
    case rel=>exact ⟨n+1,by omega,by go_num,HN.out⟩
    case measure=>simp [intOf];omega
   ·have HN:=zh ((zpl hlt hc).symm.trans HR.out)
    go_wp2_with (go_at_call 131;refine (zbh _ _ _ hx hp2).mono ?_;rintro e w' ⟨rfl,rfl⟩)
    rw [← HN.out]
    exact bodyPost_ret (v:=.tuple #[zEb ⟨4,zRc n,0,k⟩,.int .i64 0]) (by simp [results,Tryz.results94,go_sem,zEb]) rfl ⟨rfl,by go_grown⟩
  ·obtain rfl:n=3:=by omega
   have hfin:zgf s k=zne s k:=HR.out
   have HF:=zh hfin
   clear hfin
   cases hc:zrd s[k]
   ·have hneg:Lib.indexByte zif s[k]<0:=by unfold zrd at hc;simpa using hc
    have hfin:zne s k=.error 11:=by rw [← HF.out,zgf,zqc s k hk,if_neg (by simp [hc])]
    have HE:=zh hfin
    clear hfin hc
    go_wp2_with (go_at_call 132;refine (zUg _ _ _).mono ?_;rintro e w' ⟨rfl,rfl⟩;rw [zGj])
    rw [HE.out]
    exact bodyPost_ret (v:=.tuple #[zEb zfb,.int .i64 11]) (by simp [results,Tryz.results94,go_sem,zEb,zfb]) rfl ⟨rfl,by go_grown⟩
   ·have hneg:¬ Lib.indexByte zif s[k]<0:=by unfold zrd at hc;simpa using hc
    have hfin:zne s k=.ok ⟨4,s.extract k (k+1),0,k⟩:=by rw [← HF.out,zgf,zqc s k hk,if_pos (by simp [hc])]
    have HE:=zh hfin
    clear hfin hc
    go_wp2_with (go_at_call 132;refine (zUg _ _ _).mono ?_;rintro e w' ⟨rfl,rfl⟩;rw [zGj])
    rw [HE.out]
    exact bodyPost_ret (v:=.tuple #[zEb ⟨4,s.extract k (k+1),0,k⟩,.int .i64 0]) (by simp [results,Tryz.results94,go_sem,zEb]) rfl ⟨rfl,by go_grown⟩
end
section
open Go.RowKit
def zde (s:ByteArray) (k:Nat):Nat→Nat
 | 0=>0
 | n+1=>zde s k n * 10+((bat s (k+n)).toNat-48)
theorem zCj (s:ByteArray) (k n m:Nat):zde s k n≤zde s k (n+m):=by
 induction m with
 | zero=>exact Nat.le_refl _
 | succ m ih =>
  rw [← Nat.add_assoc,zde]
  omega
def zSe (s:ByteArray) (k:Nat):Bool :=
 (bat s k == 48 && decide (k+1<endOf zge s k)) || (decide (endOf zge s k<s.size) && zJf ((bat s (endOf zge s k)).toNat:Int))
def zAd (s:ByteArray) (k:Nat):Except Int Tok :=
 if zSe s k=true∨1099511627776<zde s k (endOf zge s k-k) then .error 12
 else .ok ⟨3,s.extract k (endOf zge s k),zde s k (endOf zge s k-k),k⟩
theorem zxp {p:Int→Bool} {s:ByteArray} {k:Nat}:∀ i,k≤i→i<endOf p s k→(h:i<s.size)→p (s[i].toNat:Int)=true:=by
 intro i hki hi h
 obtain ⟨d,rfl⟩:=Nat.exists_eq_add_of_le hki
 induction d generalizing k with
 | zero =>
  rcases Bool.eq_false_or_eq_true (p ((s[k]'h).toNat:Int)) with hp|hp
  ·exact hp
  ·have:=zIe (p:=p) (s:=s) (k:=k) (by omega) hp
   omega
 | succ d ih =>
  cases hp:p ((s[k]'(by omega)).toNat:Int)
  ·have:=zIe (p:=p) (s:=s) (k:=k) (by omega) hp
   omega
  ·have:=zXc (p:=p) (s:=s) (k:=k) (by omega) hp
   have h2:=ih (k:=k+1) (by omega) (by rw [this] at hi;omega) (by omega)
   have e:k+1+d=k+(d+1):=by omega
   simp only [e] at h2
   exact h2
theorem zei {n:Int} (h:zge n=true):48≤n∧n≤57:=by unfold zge at h;simpa using h
theorem zSk (s:ByteArray) (k:Nat) (w:World) (hs:s.size≤maxLen) (hk:k<s.size) (hb:zSe s k=true) :
  Calls Tryz.prog 93 #[.string s,.int .i64 k] w fun e w'=>e=errR 12∧Below w.heap.size w w':=by
 have hs':=hs
 unfold maxLen at hs'
 have hge:=zCe zge s k
 have hle:=zEd zge s k (by omega)
 unfold zSe at hb
 rw [zqc s k hk] at hb
 generalize hE:endOf zge s k=E at *
 have HE:=zh hE
 clear hE
 have hz:((s[k].toNat:Int) == 48)=(s[k] == 48):=by
  rw [Bool.eq_iff_iff]
  simp only [beq_iff_eq,← UInt8.toNat_inj]
  have:(48:UInt8).toNat=48:=rfl
  omega
 have HZ:=zh hz
 clear hz
 by_cases hA:((s[k].toNat:Int) == 48)=true∧k+1<E
 ·obtain ⟨h1,h2⟩:=hA
  have h3:(k:Int)+1<(E:Int):=by omega
  clear hb
  go_enter Tryz.func93,Tryz.ntmps93
  go_wp2_with (go_at_call 52;refine (zcf _ _ _ hs (by omega) (by omega)).mono ?_;rintro e w' ⟨rfl,rfl⟩;rw [Int.toNat_natCast,HE.out])
  exact bodyPost_ret (v:=.tuple #[zEb zfb,.int .i64 12]) (by simp [results,Tryz.results93,go_sem,zEb,zfb]) rfl ⟨rfl,by go_grown⟩
 ·have hB:E<s.size∧zJf ((bat s E).toNat:Int)=true:=by
   rw [← HZ.out] at hb
   cases h1:((s[k].toNat:Int) == 48)
   ·simpa [h1] using hb
   ·have:¬ k+1<E:=fun h=>hA ⟨h1,h⟩
    simpa [h1,this] using hb
  obtain ⟨h1,h2⟩:=hB
  rw [zqc s E h1] at h2
  clear hb
  cases h4:((s[k].toNat:Int) == 48)
  ·clear hA
   go_enter Tryz.func93,Tryz.ntmps93
   go_wp2_with (first
    | (go_at_call 52;refine (zcf _ _ _ hs (by omega) (by omega)).mono ?_;rintro e w' ⟨rfl,rfl⟩;rw [Int.toNat_natCast,HE.out])
    | (go_at_call 90;refine (zhc _ _).mono ?_;rintro e w' ⟨rfl,rfl⟩))
   exact bodyPost_ret (v:=.tuple #[zEb zfb,.int .i64 12]) (by simp [results,Tryz.results93,go_sem,zEb,zfb]) rfl ⟨rfl,by go_grown⟩
  ·have h5:¬ (k:Int)+1<(E:Int):=fun h=>hA ⟨h4,by omega⟩
   clear hA
   go_enter Tryz.func93,Tryz.ntmps93
   go_wp2_with (first
    | (go_at_call 52;refine (zcf _ _ _ hs (by omega) (by omega)).mono ?_;rintro e w' ⟨rfl,rfl⟩;rw [Int.toNat_natCast,HE.out])
    | (go_at_call 90;refine (zhc _ _).mono ?_;rintro e w' ⟨rfl,rfl⟩))
   exact bodyPost_ret (v:=.tuple #[zEb zfb,.int .i64 12]) (by simp [results,Tryz.results93,go_sem,zEb,zfb]) rfl ⟨rfl,by go_grown⟩
def zNl (s:ByteArray) (k:Nat) (w:World) (e:Ending) (w':World):Prop:=e=zYm (zAd s k)∧Below w.heap.size w w'
theorem znl {s:ByteArray} {k d:Nat} (hd:k+d≤endOf zge s k) (h:1099511627776<zde s k d):zAd s k=.error 12:=by
 unfold zAd
 rw [if_pos]
 right
 have:=zCj s k d (endOf zge s k-k-d)
 rw [show d+(endOf zge s k-k-d)=endOf zge s k-k by omega] at this
 omega
theorem zDl {s:ByteArray} {k d E:Nat} (hb:zSe s k=false) (hE:endOf zge s k=E) (hd:k+d=E) (h:zde s k d≤1099511627776):zAd s k=.ok ⟨3,s.extract k E,zde s k d,k⟩:=by
 unfold zAd
 have e:E-k=d:=by omega
 rw [hE,e,if_neg]
 rw [hb]
 simp
 omega
theorem zqk (s:ByteArray) (k:Nat) (w:World) (hs:s.size≤maxLen) (hk:k<s.size) (hb:zSe s k=false) :
  Calls Tryz.prog 93 #[.string s,.int .i64 k] w fun e w'=>zNl s k w e w':=by
 have HB:=zh hb
 have hs':=hs
 unfold maxLen at hs'
 have hge:=zCe zge s k
 have hle:=zEd zge s k (by omega)
 have hmem:=fun i=>zxp (p:=zge) (s:=s) (k:=k) i
 unfold zSe at hb
 rw [zqc s k hk] at hb
 generalize hE:endOf zge s k=E at *
 have HE:=zh hE
 have HM:=zh hmem
 clear hE hmem
 have hz:((s[k].toNat:Int) == 48)=(s[k] == 48):=by
  rw [Bool.eq_iff_iff]
  simp only [beq_iff_eq,← UInt8.toNat_inj]
  have:(48:UInt8).toNat=48:=rfl
  omega
 rw [← hz] at hb
 have HZ:=zh hz
 clear hz
 have hA:((s[k].toNat:Int) == 48)=true→¬ k+1<E:=by
  intro h1 h2
  rw [h1] at hb
  simp [h2] at hb
 have hB:∀ h:E<s.size,zJf (s[E].toNat:Int)=false:=by
  intro h
  rw [← zqc s E h]
  cases h3:zJf ((bat s E).toNat:Int)
  ·rfl
  ·rw [h3] at hb;simp [h] at hb
 clear hb
 cases h4:((s[k].toNat:Int) == 48)<;>by_cases h6:E<s.size
 all_goals
  first
  | (have h7:=hB h6)
  | (have h7:¬ (E:Int)<(s.size:Int):=by omega)
  first
  | (have h5:¬ (k:Int)+1<(E:Int):=by have:=hA h4;omega)
  | skip
  clear hA hB
  go_enter Tryz.func93,Tryz.ntmps93
  go_wp2_with (first
   | (go_at_call 52;refine (zcf _ _ _ hs (by omega) (by omega)).mono ?_;rintro e w' ⟨rfl,rfl⟩;rw [Int.toNat_natCast,HE.out])
   | (go_at_call 90;refine (zhc _ _).mono ?_;rintro e w' ⟨rfl,rfl⟩))
  go_loop [7,8] (fun n i=>∃ d:Nat,k+d≤E∧i=.int .i64 (k+d:Nat)∧n=.int .i64 (zde s k d)∧zde s k d≤1099511627776) (fun _ i=>E-(intOf i).toNat)
  case atStart=>exact ⟨0,by omega,by simp,rfl,by simp [zde]⟩
  case round =>
   obtain ⟨d,hd,rfl,rfl,hM⟩:=hrel
   clear h4 h7
   by_cases hlt:k+d<E
   ·have hdl:k+d<s.size:=by omega
    have hdig:=zei (HM.out (k+d) (by omega) hlt hdl)
    have hnx:zde s k (d+1)=zde s k d * 10+(s[k+d].toNat-48):=by rw [zde,zqc s _ hdl]
    have HN:=zh hnx
    clear hnx
    by_cases hgr:1099511627776<zde s k (d+1)
    ·have HG:=zh (znl (s:=s) (k:=k) (d:=d+1) (by rw [HE.out];omega) hgr)
     have hgr':1099511627776<(zde s k d:Int) * 10+((s[k+d].toNat:Int)-48):=by rw [HN.out] at hgr;omega
     clear hgr HN
     generalize hN:zde s k d=N at *
     generalize hc:(s[k+d].toNat)=c at *
     go_wp2
     unfold zNl
     rw [HG.out]
     exact bodyPost_ret (v:=.tuple #[zEb zfb,.int .i64 12]) (by simp [results,Tryz.results93,go_sem,zEb,zfb]) rfl ⟨rfl,by go_grown⟩
    ·have hgr':¬ 1099511627776<(zde s k d:Int) * 10+((s[k+d].toNat:Int)-48):=by rw [HN.out] at hgr;omega
     have HV:=zh (show ((zde s k (d+1):Nat):Int)=(zde s k d:Int) * 10+((s[k+d].toNat:Int)-48) by rw [HN.out];omega)
     have HL:=zh (show zde s k (d+1)≤1099511627776 by omega)
     clear hgr HN
     generalize hN:zde s k d=N at *
     generalize hc:(s[k+d].toNat)=c at *
     go_wp2
     go_round
     case rel=>exact ⟨d+1,by omega,by go_num,by rw [HV.out],HL.out⟩
     case measure=>simp [intOf];omega
   ·have HO:=zh (zDl HB.out HE.out (show k+d=E by omega) hM)
    generalize hN:zde s k d=N at *
    go_wp2
    unfold zNl
    rw [HO.out]
    exact bodyPost_ret (v:=.tuple #[zEb ⟨3,s.extract k E,N,k⟩,.int .i64 0]) (by simp [results,Tryz.results93,go_sem,zEb]) rfl ⟨rfl,by go_grown⟩
theorem zMk (s:ByteArray) (k:Nat) (w:World) (hs:s.size≤maxLen) (hk:k<s.size) :
  Calls Tryz.prog 93 #[.string s,.int .i64 k] w fun e w'=>e=zYm (zAd s k)∧Below w.heap.size w w':=by
 cases hb:zSe s k
 ·exact zqk s k w hs hk hb
 ·have hr:zAd s k=.error 12:=by unfold zAd;rw [if_pos (Or.inl hb)]
  rw [hr]
  exact zSk s k w hs hk hb
end
section
open Go.RowKit
def zyr:Except Int Tok→Tok
 | .ok t=>t
 | .error _=>zfb
def errOf:Except Int Tok→Int
 | .ok _=>0
 | .error e=>e
theorem zoh (x:Except Int Tok):zYm x=.returned (.tuple #[zEb (zyr x),.int .i64 (errOf x)]):=by cases x<;>rfl
def zTd (s:ByteArray) (k:Nat):Except Int Tok :=
 if zJf ((bat s k).toNat:Int)=true then zZb s k else if zge ((bat s k).toNat:Int)=true then zAd s k else zne s k
theorem zml {W w1:World} (hb:Below W.heap.size W w1):(∀ b o,b<W.heap.size→w1.cell? ⟨b,o,none⟩=W.cell? ⟨b,o,none⟩)∧(∀ b o,b<W.heap.size→w1.frozen? ⟨b,o,none⟩=W.frozen? ⟨b,o,none⟩) :=
 ⟨fun b o h=>hb.cell (p:=⟨b,o,none⟩) h,fun b o h=>hb.frozen (p:=⟨b,o,none⟩) h⟩
theorem zfi (s:ByteArray) (k:Nat) (w:World) (hs:s.size≤maxLen) (hk:k<s.size) (ht:Tabs w) :
  Calls Tryz.prog 54 #[.string s,.int .i64 k] w fun e w'=>e=zYm (zTd s k)∧Below w.heap.size w w':=by
 have hs':=hs
 unfold maxLen at hs'
 cases hl:zJf (s[k].toNat:Int)
 ·cases hd:zge (s[k].toNat:Int)
  ·have hr:zTd s k=zne s k:=by unfold zTd;rw [zqc s k hk,if_neg (by simp [hl]),if_neg (by simp [hd])]
   rw [hr,zoh]
   clear hr
   generalize hx:zne s k=x
   have HX:=zh hx
   clear hx
   go_enter Tryz.func54,Tryz.ntmps54
   go_wp2_with (first
    | (go_at_call 90;refine (zhc _ _).mono ?_;rintro e w' ⟨rfl,rfl⟩)
    | (go_at_call 92;refine (zke _ _).mono ?_;rintro e w' ⟨rfl,rfl⟩))
   refine (ztn s k _ hs hk ht.alloc).mono ?_
   rintro e w1 ⟨rfl,hb⟩
   rw [zoh,HX.out]
   obtain ⟨hc,hf⟩:=zml hb
   have hz:w.heap.size+1≤w1.heap.size:=by have:=hb.size;simp at this;omega
   have HB:=zh (((Below.refl w.heap.size w).alloc (Nat.le_refl _) _).trans (hb.mono (by simp)))
   clear hb
   unfold zEb
   go_wp2
   exact bodyPost_ret (v:=.tuple #[zEb (zyr x),.int .i64 (errOf x)]) (by simp [results,Tryz.results54,go_sem,zEb,hc]) rfl ⟨rfl,by repeat (first|exact HB.out|refine Below.setCell ?_ (by simp) _)⟩
  ·have hr:zTd s k=zAd s k:=by unfold zTd;rw [zqc s k hk,if_neg (by simp [hl]),if_pos (by simp [hd])]
   rw [hr,zoh]
   clear hr
   generalize hx:zAd s k=x
   have HX:=zh hx
   clear hx
   go_enter Tryz.func54,Tryz.ntmps54
   go_wp2_with (first
    | (go_at_call 90;refine (zhc _ _).mono ?_;rintro e w' ⟨rfl,rfl⟩)
    | (go_at_call 92;refine (zke _ _).mono ?_;rintro e w' ⟨rfl,rfl⟩))
   refine (zMk s k _ hs hk).mono ?_
   rintro e w1 ⟨rfl,hb⟩
   rw [zoh,HX.out]
   obtain ⟨hc,hf⟩:=zml hb
   have hz:w.heap.size+1≤w1.heap.size:=by have:=hb.size;simp at this;omega
   have HB:=zh (((Below.refl w.heap.size w).alloc (Nat.le_refl _) _).trans (hb.mono (by simp)))
   clear hb
   unfold zEb
   go_wp2
   exact bodyPost_ret (v:=.tuple #[zEb (zyr x),.int .i64 (errOf x)]) (by simp [results,Tryz.results54,go_sem,zEb,hc]) rfl ⟨rfl,by repeat (first|exact HB.out|refine Below.setCell ?_ (by simp) _)⟩
 ··have hr:zTd s k=zZb s k:=by unfold zTd;rw [zqc s k hk,if_pos (by simp [hl])]
   rw [hr,zoh]
   clear hr
   generalize hx:zZb s k=x
   have HX:=zh hx
   clear hx
   go_enter Tryz.func54,Tryz.ntmps54
   go_wp2_with (first
    | (go_at_call 90;refine (zhc _ _).mono ?_;rintro e w' ⟨rfl,rfl⟩)
    | (go_at_call 92;refine (zke _ _).mono ?_;rintro e w' ⟨rfl,rfl⟩))
   refine (zio s k _ hs hk ht.alloc).mono ?_
   rintro e w1 ⟨rfl,hb⟩
   rw [zoh,HX.out]
   obtain ⟨hc,hf⟩:=zml hb
   have hz:w.heap.size+1≤w1.heap.size:=by have:=hb.size;simp at this;omega
   have HB:=zh (((Below.refl w.heap.size w).alloc (Nat.le_refl _) _).trans (hb.mono (by simp)))
   clear hb
   unfold zEb
   go_wp2
   exact bodyPost_ret (v:=.tuple #[zEb (zyr x),.int .i64 (errOf x)]) (by simp [results,Tryz.results54,go_sem,zEb,hc]) rfl ⟨rfl,by repeat (first|exact HB.out|refine Below.setCell ?_ (by simp) _)⟩
end
section
open Go.RowKit
def zld (b:UInt8):Bool:=b == 32 || b == 10
def zvf (s:ByteArray):Tok:=⟨0,⟨#[]⟩,0,s.size⟩
abbrev zqg:=Except (Nat × Int) (List Tok)
def more (ts:List Tok):zqg→zqg
 | .ok r=>.ok (ts++r)
 | .error e=>.error e
def lexFrom (s:ByteArray) (k:Nat):zqg :=
 if _h:s.size≤k then .ok [zvf s]
 else if zld (bat s k)=true then lexFrom s (k+1)
 else if bat s k=35 then lexFrom s (max (k+1) (endOf zbk s k))
 else match zTd s k with
  | .error e=>.error (k,e)
  | .ok t=>more [t] (lexFrom s (max (k+1) (k+t.text.size)))
termination_by s.size-k
decreasing_by all_goals omega
def zHc (s:ByteArray):zqg:=if 16384<s.size then .error (0,10) else lexFrom s 0
theorem zYk (a b:List Tok) (r:zqg):more a (more b r)=more (a++b) r:=by cases r<;>simp [more]
theorem zXm (r:zqg):more [] r=r:=by cases r<;>simp [more]
theorem zRl {s:ByteArray} {k:Nat} (h:s.size≤k):lexFrom s k=.ok [zvf s]:=by
 rw [lexFrom,dif_pos h]
theorem zRf {s:ByteArray} {k:Nat} (h:k<s.size) (hb:zld (bat s k)=true):lexFrom s k=lexFrom s (k+1):=by
 rw [lexFrom,dif_neg (by omega),if_pos hb]
theorem ztd (s:ByteArray) (a b:Nat) (h:b≤s.size):(s.extract a b).size=b-a:=by
 rw [ByteArray.size_extract,Nat.min_eq_left h]
theorem zlf {s:ByteArray} {k:Nat} (h:k<s.size) (hb:bat s k=35):k+1≤endOf zbk s k:=by
 have hp:zbk ((s[k]).toNat:Int)=true:=by rw [← zqc s k h,hb];rfl
 rw [zXc h hp]
 exact zCe _ _ _
theorem zjh {s:ByteArray} {k:Nat} (h:k<s.size) (hb:bat s k=35):lexFrom s k=lexFrom s (endOf zbk s k):=by
 have hnb:¬ zld (bat s k)=true:=by rw [hb];decide
 rw [lexFrom,dif_neg (by omega),if_neg hnb,if_pos hb,Nat.max_eq_right (zlf h hb)]
theorem zem {s:ByteArray} {k:Nat} {e:Int} (h:k<s.size) (hb:zld (bat s k)=false) (hr:¬ bat s k=35) (ht:zTd s k=.error e):lexFrom s k=.error (k,e):=by
 rw [lexFrom,dif_neg (by omega),if_neg (by simp [hb]),if_neg hr,ht]
theorem zkj {s:ByteArray} {k:Nat} {t:Tok} (h:k<s.size) (hl:zJf ((bat s k).toNat:Int)=true) (ht:zZb s k=.ok t):1≤t.text.size∧k+t.text.size≤s.size:=by
 have hp:zOe ((s[k]).toNat:Int)=true:=by rw [← zqc s k h];unfold zOe;rw [hl];rfl
 have h1:k+1≤endOf zOe s k:=by rw [zXc h hp];exact zCe _ _ _
 have h2:=zEd zOe s k (by omega)
 unfold zZb at ht
 split at ht
 ·cases ht
 ·split at ht
  all_goals
   injection ht with ht
   subst ht
   simp only [ztd s k _ h2]
   omega
theorem zdr {s:ByteArray} {k:Nat} {t:Tok} (h:k<s.size) (hl:zge ((bat s k).toNat:Int)=true) (ht:zAd s k=.ok t):1≤t.text.size∧k+t.text.size≤s.size:=by
 have hp:zge ((s[k]).toNat:Int)=true:=by rw [← zqc s k h];exact hl
 have h1:k+1≤endOf zge s k:=by rw [zXc h hp];exact zCe _ _ _
 have h2:=zEd zge s k (by omega)
 unfold zAd at ht
 split at ht
 ·cases ht
 ·injection ht with ht
  subst ht
  simp only [ztd s k _ h2]
  omega
theorem zFq {s:ByteArray} {k i:Nat} (hi:i<3) (hk:k<s.size) (h:zdf (s.extract k s.size) (zRc i)=true):k+2≤s.size:=by
 unfold zdf at h
 rw [Bool.and_eq_true] at h
 have:=h.1
 rw [ztd s k _ (Nat.le_refl _),zzf i hi] at this
 simp at this
 omega
theorem zch {s:ByteArray} {k:Nat} (h:k<s.size):∀ (n:Nat) (t:Tok),n≤3→zpb s k n=.ok t→1≤t.text.size∧k+t.text.size≤s.size
 | 0,t,_,ht=>by
  unfold zpb zgf at ht
  split at ht
  ·injection ht with ht
   subst ht
   simp only [ztd s k _ (show k+1≤s.size by omega)]
   omega
  ·cases ht
 | n+1,t,hn,ht=>by
  unfold zpb at ht
  split at ht
  ·rename_i hp
   have:=zFq (by omega) h hp
   injection ht with ht
   subst ht
   simp only [zzf (2-n) (by omega)]
   omega
  ·exact zch h n t (by omega) ht
theorem zKe {s:ByteArray} {k:Nat} {t:Tok} (h:k<s.size) (ht:zTd s k=.ok t):1≤t.text.size∧k+t.text.size≤s.size:=by
 unfold zTd at ht
 split at ht
 ·exact zkj h (by assumption) ht
 ·split at ht
  ·exact zdr h (by assumption) ht
  ·exact zch h 3 t (Nat.le_refl _) ht
theorem zlm {s:ByteArray} {k:Nat} {t:Tok} (h:k<s.size) (hb:zld (bat s k)=false) (hr:¬ bat s k=35) (ht:zTd s k=.ok t):lexFrom s k=more [t] (lexFrom s (k+t.text.size)):=by
 have:=(zKe h ht).1
 rw [lexFrom,dif_neg (by omega),if_neg (by simp [hb]),if_neg hr,ht]
 simp only
 rw [Nat.max_eq_right (by omega)]
end
end Go.Proofs.YthdbmgijpelecaaGreatDoor
