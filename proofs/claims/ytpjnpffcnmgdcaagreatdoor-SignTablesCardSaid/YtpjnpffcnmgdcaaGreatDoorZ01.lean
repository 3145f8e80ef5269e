/- The contracts of the byte predicates of lex and of lychgateref01, and of lex.runEnd: each returns what the plain function says and leaves the world as it was. No conditions but that a text is at most maxLen bytes long. The contract of lex.IsKey in a world that holds the table of key words, and of lychgateref01.IsKey in any world: each returns whether the text is one of the twenty key words, and leaves the world as it was. Plain facts on names: which texts are names. Nothing of the program is walked here. The contract of lex.wordAt in a world that holds the tables of lex: the token of the word at a place, or ErrWord; nothing that was in memory is changed. The contracts of strings.HasPrefix, strings.IndexByte and lex.signAt: the token of the sign at a place, the longer one where two could stand, or ErrByte; nothing that was in memory is changed. lex.signAt in a world that holds the tables of lex. The contract of lex.numberAt: the token of the number at a place, or ErrNumber; nothing that was in memory is changed. The contract of lex.tokenAt in a world that holds the tables of lex: the token at a place that is no blank, or the fault there; nothing that was in memory is changed. The plain account of lex.Tokens: where each round goes on, and what the whole comes to. Nothing of the program is walked here. -/
import Derived.Test.YtpjnpffcnmgdcaaGreatDoorRows
import Derived.WalkKit
import Derived.WalkSpells
import Derived.Lib.Hide
import Derived.Deep.QuietTactic
import Derived.BigQuiet
import Derived.Handy
import Derived.Deep.MidRow
import Derived.Lib.Bytealg
namespace Go.Proofs.YtpjnpffcnmgdcaaGreatDoor
set_option maxHeartbeats 1000000
theorem zh {p : Prop} (h : p) : Go.RowKit.Hid p := Lib.hid h
section
open Go.RowKit
def zqf (n:Int):Bool:=(decide (97≤n) && decide (n≤122)) || n == 95
def zBd (n:Int):Bool:=decide (48≤n) && decide (n≤57)
def zxe (n:Int):Bool:=zqf n || zBd n
def zdk (n:Int):Bool:=n != 10
theorem zcc {a b:Bool} (h:a=b):Ending.returned (.bool a)=.returned (.bool b):=by rw [h]
theorem zOb (n:Int) (w:World) :
  Calls Tryz.prog 53 #[.int .u8 n] w fun e w'=>e=.returned (.bool (zqf n))∧w=w':=by
 go_enter Tryz.func53,Tryz.ntmps53
 go_wp2
 all_goals go_ret
 all_goals refine ⟨zcc ?_,rfl⟩
 all_goals (unfold zqf;first|(simp [*];done)|(rw [Bool.eq_iff_iff];simp;omega))
theorem zLd (n:Int) (w:World) :
  Calls Tryz.prog 55 #[.int .u8 n] w fun e w'=>e=.returned (.bool (zBd n))∧w=w':=by
 go_enter Tryz.func55,Tryz.ntmps55
 go_wp2
 all_goals go_ret
 all_goals refine ⟨zcc ?_,rfl⟩
 all_goals (unfold zBd;first|(simp [*];done)|(rw [Bool.eq_iff_iff];simp;omega))
theorem zZa (n:Int) (w:World) :
  Calls Tryz.prog 66 #[.int .u8 n] w fun e w'=>e=.returned (.bool (zqf n))∧w=w':=by
 go_enter Tryz.func66,Tryz.ntmps66
 go_wp2
 all_goals go_ret
 all_goals refine ⟨zcc ?_,rfl⟩
 all_goals (unfold zqf;first|(simp [*];done)|(rw [Bool.eq_iff_iff];simp;omega))
theorem zpb (n:Int) (w:World) :
  Calls Tryz.prog 67 #[.int .u8 n] w fun e w'=>e=.returned (.bool (zBd n))∧w=w':=by
 go_enter Tryz.func67,Tryz.ntmps67
 go_wp2
 all_goals go_ret
 all_goals refine ⟨zcc ?_,rfl⟩
 all_goals (unfold zBd;first|(simp [*];done)|(rw [Bool.eq_iff_iff];simp;omega))
theorem zXi (n:Int) (w:World) :
  Calls Tryz.prog 80 #[.int .u8 n] w fun e w'=>e=.returned (.bool (zxe n))∧w=w':=by
 by_cases h:zqf n=true
 ·have hw:zxe n=true:=by unfold zxe;rw [h];rfl
  have H:=zh hw
  clear hw
  go_enter Tryz.func80,Tryz.ntmps80
  go_wp2_with (first
   | (go_at_call 53;refine (zOb _ _).mono ?_;rintro e w' ⟨rfl,rfl⟩)
   | (go_at_call 55;refine (zLd _ _).mono ?_;rintro e w' ⟨rfl,rfl⟩))
  all_goals go_ret
  exact ⟨zcc H.out.symm,rfl⟩
 ·have hf:zqf n=false:=by simpa using h
  have hw:zxe n=zBd n:=by unfold zxe;rw [hf];rfl
  have H:=zh hw
  clear hw h
  go_enter Tryz.func80,Tryz.ntmps80
  go_wp2_with (first
   | (go_at_call 53;refine (zOb _ _).mono ?_;rintro e w' ⟨rfl,rfl⟩)
   | (go_at_call 55;refine (zLd _ _).mono ?_;rintro e w' ⟨rfl,rfl⟩))
  all_goals go_ret
  exact ⟨zcc H.out.symm,rfl⟩
theorem zxn (n:Int) (w:World) :
  Calls Tryz.prog 29 #[.int .u8 n] w fun e w'=>e=.returned (.bool (zdk n))∧w=w':=by
 go_enter Tryz.func29,Tryz.ntmps29
 go_wp2
 all_goals go_ret
 all_goals exact ⟨zcc (by unfold zdk;simp),rfl⟩
def zAd (p:Int→Bool):List UInt8→Nat
 | []=>0
 | b :: r=>if p b.toNat then zAd p r+1 else 0
def endOf (p:Int→Bool) (s:ByteArray) (k:Nat):Nat:=k+zAd p (s.data.toList.drop k)
theorem zYq (p:Int→Bool) (l:List UInt8):zAd p l≤l.length:=by
 induction l with
 | nil=>simp [zAd]
 | cons b r ih=>simp only [zAd];split<;>simp<;>omega
theorem zee (p:Int→Bool) (s:ByteArray) (k:Nat):k≤endOf p s k:=by unfold endOf;omega
theorem zUc (p:Int→Bool) (s:ByteArray) (k:Nat) (h:k≤s.size):endOf p s k≤s.size:=by
 unfold endOf
 have:=zYq p (s.data.toList.drop k)
 simp at this
 omega
theorem drop_at (s:ByteArray) (k:Nat) (h:k<s.size):s.data.toList.drop k=s[k] :: s.data.toList.drop (k+1):=List.drop_eq_getElem_cons (by simpa using h)
theorem zge {p:Int→Bool} {s:ByteArray} {k:Nat} (h:k<s.size) (hp:p (s[k].toNat:Int)=false):endOf p s k=k:=by
 unfold endOf
 rw [drop_at s k h,zAd,hp]
 simp
theorem zxc {p:Int→Bool} {s:ByteArray} {k:Nat} (h:k<s.size) (hp:p (s[k].toNat:Int)=true):endOf p s k=endOf p s (k+1):=by
 unfold endOf
 rw [drop_at s k h,zAd,hp]
 simp
 omega
theorem ztg {p:Int→Bool} {s:ByteArray} {k:Nat} (h:s.size≤k):endOf p s k=k:=by
 unfold endOf
 rw [List.drop_of_length_le (by simp;omega)]
 simp [zAd]
theorem zIj {k:IntKind} {a b:Int} (h:a=b):Ending.returned (.int k a)=.returned (.int k b):=by rw [h]
theorem zki (f:FuncId) (p:Int→Bool) (hcf:∀ (n:Int) (w:World),(callFunc f #[.int .u8 n]).run Tryz.prog w=.ok (.enter f #[.int .u8 n]) w)
  (hf:∀ n w,Calls Tryz.prog f #[.int .u8 n] w fun e w'=>e=.returned (.bool (p n))∧w=w')
  (s:ByteArray) (a:Int) (w:World) (hs:s.size≤maxLen) (h0:0≤a) (h1:a≤s.size) :
  Calls Tryz.prog 28 #[.string s,.int .i64 a,.func (.func f) #[] #[]] w fun e w'=>e=.returned (.int .i64 (endOf p s a.toNat))∧w=w':=by
 unfold maxLen at hs
 obtain ⟨k0,rfl⟩:=Int.eq_ofNat_of_zero_le h0
 have HF:=zh hf
 clear hf
 go_enter Tryz.func28,Tryz.ntmps28
 go_wp2
 go_loop [1] (fun i=>∃ k:Nat,k≤s.size∧i=.int .i64 k∧endOf p s k=endOf p s k0) (fun i=>s.size-(intOf i).toNat)
 case atStart=>exact ⟨k0,by omega,rfl,rfl⟩
 case round =>
  obtain ⟨k,hk,rfl,hr⟩:=hrel
  have HR:=zh hr
  clear hr
  by_cases hlt:k<s.size
  ·cases hp:p (s[k].toNat:Int)
   ·have HFIN:=zh ((zge hlt hp).symm.trans HR.out)
    go_wp2_with (refine (HF.out _ _).mono ?_;rintro e w' ⟨rfl,rfl⟩)
    go_ret
    exact ⟨zIj (by rw [HFIN.out];simp),rfl⟩
   ·have HN:=zh ((zxc hlt hp).symm.trans HR.out)
    go_wp2_with (refine (HF.out _ _).mono ?_;rintro e w' ⟨rfl,rfl⟩)
    go_round
    case rel=>exact ⟨k+1,by omega,by go_num,HN.out⟩
    case measure=>simp [intOf];omega
  ·have HFIN:=zh ((ztg (p:=p) (s:=s) (k:=k) (by omega)).symm.trans HR.out)
   go_wp2
   go_ret
   exact ⟨zIj (by rw [HFIN.out]),rfl⟩
theorem zye {P:Program} {f:FuncId} {fn:Func} (hf:P.funcs[f]?=some fn) (hname:(fn.name == "runtime.NumGoroutine")=false) (hb:fn.body.isNone=false) (args:Array Value) (w:World) :
  (callFunc f args).run P w=.ok (.enter f args) w:=by
 unfold callFunc
 simp only [Sem.run_bind,run_program,Result.andThen_ok,hf,hname,hb,Bool.false_eq_true,if_false,Sem.run_pure]
theorem zrm (s:ByteArray) (a:Int) (w:World) (hs:s.size≤maxLen) (h0:0≤a) (h1:a≤s.size) :
  Calls Tryz.prog 28 #[.string s,.int .i64 a,.func (.func 80) #[] #[]] w fun e w'=>e=.returned (.int .i64 (endOf zxe s a.toNat))∧w=w' :=
 zki _ _ (fun _ w=>zye Tryz.func80 (by kernel_rfl) (by kernel_rfl) _ w) zXi s a w hs h0 h1
theorem zKe (s:ByteArray) (a:Int) (w:World) (hs:s.size≤maxLen) (h0:0≤a) (h1:a≤s.size) :
  Calls Tryz.prog 28 #[.string s,.int .i64 a,.func (.func 55) #[] #[]] w fun e w'=>e=.returned (.int .i64 (endOf zBd s a.toNat))∧w=w' :=
 zki _ _ (fun _ w=>zye Tryz.func55 (by kernel_rfl) (by kernel_rfl) _ w) zLd s a w hs h0 h1
theorem zHj (s:ByteArray) (a:Int) (w:World) (hs:s.size≤maxLen) (h0:0≤a) (h1:a≤s.size) :
  Calls Tryz.prog 28 #[.string s,.int .i64 a,.func (.func 29) #[] #[]] w fun e w'=>e=.returned (.int .i64 (endOf zdk s a.toNat))∧w=w' :=
 zki _ _ (fun _ w=>zye Tryz.func29 (by kernel_rfl) (by kernel_rfl) _ w) zxn s a w hs h0 h1
end
section
open Go.RowKit
def zSb:List (List UInt8) :=
 [[116,121,112,101],[102,110],[111,119,110],[99,101,108,108],[99,111,117,110,116,101,100],[108,111,99,107],[103,117,97,114,100],[119,104,101,114,101],[105,110,116],[109,117,116],
  [102,114,101,101],[117,110,108,111,99,107],[105,102],[101,108,115,101],[119,104,105,108,101],[114,101,116,117,114,110],[97,98,111,114,116],[102,111,114,107],[110,101,119],[97,114,114,97,121]]
def keyAt (i:Nat):ByteArray:=⟨(zSb.getD i []).toArray⟩
def zOe (i:Nat) (s:ByteArray):Bool:=(zSb.drop i).contains s.data.toList
def zne (s:ByteArray):Bool:=zOe 0 s
def zqc (i:Nat):ByteArray:=⟨([[45,62],[60,61],[61,61]].getD i ([]:List UInt8)).toArray⟩
def zQs (B:Nat):Prop:=0<B∧2<B∧1<B
structure Tabs (w:World):Prop where
 b0:w.cell? ⟨0,0,none⟩=some (.int .u8 32)
 b1:w.cell? ⟨0,1,none⟩=some (.int .u8 10)
 keys:∀ i,i<20→w.cell? ⟨2,i,none⟩=some (.string (keyAt i))
 pairs:∀ i,i<3→w.cell? ⟨1,i,none⟩=some (.string (zqc i))
 size:zQs w.heap.size
theorem Tabs.below {w w':World} {B:Nat} (h:Tabs w) (hb:Below B w w') (hB:zQs B):Tabs w' :=
 ⟨(hb.cell (p:=⟨0,0,none⟩) hB.1).trans h.b0,(hb.cell (p:=⟨0,1,none⟩) hB.1).trans h.b1,
  fun i hi=>(hb.cell (p:=⟨2,i,none⟩) hB.2.1).trans (h.keys i hi),fun i hi=>(hb.cell (p:=⟨1,i,none⟩) hB.2.2).trans (h.pairs i hi),
  ⟨Nat.lt_of_lt_of_le h.size.1 hb.size,Nat.lt_of_lt_of_le h.size.2.1 hb.size,Nat.lt_of_lt_of_le h.size.2.2 hb.size⟩⟩
def zFf:List Value:=(List.range 20).map fun i=>.string (keyAt i)
theorem zVi (j:Nat) (hj:j<20):zFf[j]?=some (.string (keyAt j)):=by
 unfold zFf
 rw [List.getElem?_map,List.getElem?_range hj]
 rfl
theorem zam:zFf.length=20:=by unfold zFf;simp
theorem zho (w:World) (ht:Tabs w):w.rangeAt 2 0 zFf:=by
 intro j v hv
 have hj:j<20:=by
  have:=(List.getElem?_eq_some_iff.1 hv).1
  rwa [zam] at this
 rw [zVi j hj] at hv
 rw [Nat.zero_add,ht.keys j hj,hv]
theorem zYo:(Tryz.prog.info? 184).map (·.size)=some zFf.length:=by kernel_rfl
theorem zQl (k:Nat) (s:ByteArray) (hk:k<20) (h:(s.toList == (keyAt k).toList)=true):zOe k s=true:=by
 have hl:k<zSb.length:=hk
 have hg:zSb.getD k []=zSb[k]:=by simp [hl]
 unfold zOe
 rw [List.drop_eq_getElem_cons hl,List.contains_cons]
 have:(s.data.toList == zSb[k])=true:=by
  rw [← hg]
  rw [ByteArray.toList_eq,ByteArray.toList_eq] at h
  simpa [keyAt] using h
 rw [this]
 rfl
theorem zJn (k:Nat) (s:ByteArray) (hk:k<20) (h:(s.toList == (keyAt k).toList)=false):zOe k s=zOe (k+1) s:=by
 have hl:k<zSb.length:=hk
 have hg:zSb.getD k []=zSb[k]:=by simp [hl]
 unfold zOe
 rw [List.drop_eq_getElem_cons hl,List.contains_cons]
 have:(s.data.toList == zSb[k])=false:=by
  rw [← hg]
  rw [ByteArray.toList_eq,ByteArray.toList_eq] at h
  simpa [keyAt] using h
 rw [this]
 rfl
theorem zdm (s:ByteArray):zOe 20 s=false:=rfl
theorem zZd {P:Program} {t e:TypeId} {len k:Nat} {cs:List Value} {v:Value} (ht:P.underlying t=some (.array len e)) (he:∀ w,(isAgg e).run P w=.ok false w) (hs:(P.info? e).map (·.size)=some 1)
  (hk:k<len) (hv:cs[k]?=some v) (w:World):(Instr.index t (.agg cs.toArray) (.int .i64 k)).run P w=.ok v w:=by
 cases hq:P.info? e with
 | none=>simp [hq] at hs
 | some i =>
  have hs':i.size=1:=by simpa [hq] using hs
  have h2:((k:Int)<(len:Int)):=by omega
  have h3:(0:Int)≤(k:Int):=by omega
  simp [Instr.index,asIntOf,run_underlying ht,part,he,sizeOf,typeInfo,hq,hs',hv]
  omega
theorem zKs (w:World):(isAgg 9).run Tryz.prog w=.ok false w:=by
 unfold isAgg
 rw [Sem.run_bind,run_underlying Tryz.underlying9 w]
 rfl
theorem strSize:(Tryz.prog.info? 9).map (·.size)=some 1:=by kernel_rfl
theorem zEk (s:ByteArray) (w:World) (ht:Tabs w) :
  Calls Tryz.prog 81 #[.string s] w fun e w'=>e=.returned (.bool (zne s))∧w=w':=by
 have hr:=zh (zho w ht)
 go_enter Tryz.func81,Tryz.ntmps81
 go_wp2_with (with_reducible refine wpList_load_mid rfl 184 (.global 2) rfl 2 0 rfl zFf _ hr.out Tryz.underlying184 rfl zYo ?_)
 go_loop [6] (fun i=>∃ k:Nat,k≤20∧i=.int .i64 k∧zOe k s=zne s) (fun i=>20-(intOf i).toNat)
 case atStart=>exact ⟨0,by omega,rfl,rfl⟩
 case round =>
  obtain ⟨k,hk,rfl,hrl⟩:=hrel
  have HR:=zh hrl
  clear hrl
  by_cases hlt:k<20
  ·have hidx:=zZd (P:=Tryz.prog) Tryz.underlying184 zKs strSize hlt (zVi k hlt) w
   have hlt':(k:Int)<20:=by omega
   cases hc:(s.toList == (keyAt k).toList)
   ·have HN:=zh ((zJn k s hlt hc).symm.trans HR.out)
    go_wp2
    go_round
    case rel=>exact ⟨k+1,by omega,by go_num,HN.out⟩
    case measure=>simp [intOf];omega
   ·have HN:=zh ((zQl k s hlt hc).symm.trans HR.out)
    go_wp2
    go_ret
    exact ⟨zcc HN.out,rfl⟩
  ·obtain rfl:k=20:=by omega
   have HN:=zh ((zdm s).symm.trans HR.out)
   go_wp2
   go_ret
   exact ⟨zcc HN.out,rfl⟩
end
section
open Go.RowKit
def at0 (s:ByteArray):Int:=((s.data.toList.headD 0).toNat:Int)
def zec (s:ByteArray):Bool:=decide (1≤s.size) && decide (s.size≤16) && zqf (at0 s) && decide (endOf zxe s 0=s.size) && !zne s
theorem zPp (s:ByteArray):zne s=(s.toList == [116,121,112,101] || (s.toList == [102,110] || (s.toList == [111,119,110] || (s.toList == [99,101,108,108] || (s.toList == [99,111,117,110,116,101,100] || (s.toList == [108,111,99,107] || (s.toList == [103,117,97,114,100] || (s.toList == [119,104,101,114,101] || (s.toList == [105,110,116] || (s.toList == [109,117,116] || (s.toList == [102,114,101,101] || (s.toList == [117,110,108,111,99,107] || (s.toList == [105,102] || (s.toList == [101,108,115,101] || (s.toList == [119,104,105,108,101] || (s.toList == [114,101,116,117,114,110] || (s.toList == [97,98,111,114,116] || (s.toList == [102,111,114,107] || (s.toList == [110,101,119] || s.toList == [97,114,114,97,121]))))))))))))))))))):=by
 unfold zne zOe zSb
 rw [ByteArray.toList_eq]
 simp only [List.drop_zero,List.contains_cons,List.contains_nil,Bool.or_false]
end
section
open Go.RowKit
structure Tok where
 kind:Nat
 text:ByteArray
 num:Nat
 place:Nat
def zVa:Tok:=⟨0,⟨#[]⟩,0,0⟩
def zGa (t:Tok):List Value:=[.int .i64 t.kind,.string t.text,.int .i64 t.num,.int .i64 t.place]
def zmb (t:Tok):Value:=.agg #[.int .i64 t.kind,.string t.text,.int .i64 t.num,.int .i64 t.place]
def okR (t:Tok):Ending:=.returned (.tuple #[zmb t,.int .i64 0])
def errR (e:Int):Ending:=.returned (.tuple #[zmb zVa,.int .i64 e])
def zhn:Except Int Tok→Ending
 | .ok t=>okR t
 | .error e=>errR e
def zLb (s:ByteArray) (k:Nat):Except Int Tok :=
 if 16<endOf zxe s k-k then .error 13
 else if zne (s.extract k (endOf zxe s k))=true then .ok ⟨2,s.extract k (endOf zxe s k),0,k⟩
 else .ok ⟨1,s.extract k (endOf zxe s k),0,k⟩
theorem Tabs.alloc {w:World} {o:Obj} (h:Tabs w):Tabs (w.alloc o):=h.below ((Below.refl _ _).alloc (Nat.le_refl _) o) h.size
theorem zzn (s:ByteArray) (k:Nat) (w:World) (hs:s.size≤maxLen) (hk:k<s.size) (ht:Tabs w) :
  Calls Tryz.prog 54 #[.string s,.int .i64 k] w fun e w'=>e=zhn (zLb s k)∧Below w.heap.size w w':=by
 have hge:=zee zxe s k
 have hle:=zUc zxe s k (by omega)
 generalize hE:endOf zxe s k=E at *
 have HE:=zh hE
 clear hE
 go_enter Tryz.func54,Tryz.ntmps54
 go_wp2_with fail
 refine (zrm _ _ _ hs (by omega) (by omega)).mono ?_
 rintro e w' ⟨rfl,rfl⟩
 rw [Int.toNat_natCast,HE.out]
 go_wp2_with fail
 ·have hr:zLb s k=.error 13:=by unfold zLb;rw [HE.out,if_pos (by omega)]
  rw [hr]
  exact bodyPost_ret (v:=.tuple #[zmb zVa,.int .i64 13]) (by simp [results,Tryz.results54,go_sem,zmb,zVa]) rfl ⟨rfl,(Below.refl _ _).alloc (Nat.le_refl _) _⟩
 ·cases hkey:zne (s.extract k E)
  ·have hr:zLb s k=.ok ⟨1,s.extract k E,0,k⟩:=by unfold zLb;rw [HE.out,if_neg (by omega),if_neg (by simp [hkey])]
   have HR:=zh hr
   clear hr
   refine (zEk _ _ ht.alloc).mono ?_
   rintro e w' ⟨rfl,rfl⟩
   rw [hkey]
   go_wp2
   rw [HR.out]
   exact bodyPost_ret (v:=.tuple #[zmb ⟨1,s.extract k E,0,k⟩,.int .i64 0]) (by simp [results,Tryz.results54,go_sem,zmb]) rfl ⟨rfl,by go_grown⟩
  ·have hr:zLb s k=.ok ⟨2,s.extract k E,0,k⟩:=by unfold zLb;rw [HE.out,if_neg (by omega),if_pos (by simp [hkey])]
   have HR:=zh hr
   clear hr
   refine (zEk _ _ ht.alloc).mono ?_
   rintro e w' ⟨rfl,rfl⟩
   rw [hkey]
   go_wp2
   rw [HR.out]
   exact bodyPost_ret (v:=.tuple #[zmb ⟨2,s.extract k E,0,k⟩,.int .i64 0]) (by simp [results,Tryz.results54,go_sem,zmb]) rfl ⟨rfl,by go_grown⟩
end
section
open Go.RowKit
def zJe (s p:ByteArray):Bool:=decide (p.size≤s.size) && (s.extract 0 p.size).toList == p.toList
def zLe:List UInt8:=[123,125,40,41,91,93,44,58,59,61,43,45,38,60]
def zKc (b:UInt8):Bool:=!decide (Lib.indexByte zLe b<0)
def bat (s:ByteArray) (k:Nat):UInt8:=s.data.toList.getD k 0
theorem zUb (s:ByteArray) (k:Nat) (h:k<s.size):bat s k=s[k]:=by
 unfold bat
 rw [List.getD_eq_getElem?_getD,List.getElem?_eq_getElem (by simpa using h)]
 rfl
def zMe (s:ByteArray) (k:Nat):Except Int Tok :=
 if zKc (bat s k)=true then .ok ⟨4,s.extract k (k+1),0,k⟩ else .error 11
def zbb (s:ByteArray) (k:Nat):Nat→Except Int Tok
 | 0=>zMe s k
 | n+1=>if zJe (s.extract k s.size) (zqc (2-n))=true then .ok ⟨4,zqc (2-n),0,k⟩ else zbb s k n
def zFd (s:ByteArray) (k:Nat):Except Int Tok:=zbb s k 3
theorem znl {s:ByteArray} {k i:Nat} (hi:i<3) (h:zJe (s.extract k s.size) (zqc i)=true):zbb s k (3-i)=.ok ⟨4,zqc i,0,k⟩:=by
 have e:3-i=(2-i)+1:=by omega
 have e2:2-(2-i)=i:=by omega
 rw [e,zbb,e2,if_pos h]
theorem zqm {s:ByteArray} {k i:Nat} (hi:i<3) (h:zJe (s.extract k s.size) (zqc i)=false):zbb s k (3-i)=zbb s k (3-(i+1)):=by
 have e:3-i=(2-i)+1:=by omega
 have e2:2-(2-i)=i:=by omega
 have e3:3-(i+1)=2-i:=by omega
 rw [e,zbb,e2,if_neg (by simp [h]),e3]
theorem zRg (s p:ByteArray) (w:World) (_hs:s.size≤maxLen) (_hp:p.size≤maxLen) :
  Calls Tryz.prog 101 #[.string s,.string p] w fun e w'=>e=.returned (.bool (zJe s p))∧w=w':=by
 by_cases h:p.size≤s.size
 ·have hd:decide (p.size≤s.size)=true:=by simpa using h
  have HP:=zh (show zJe s p=((s.extract 0 p.size).toList == p.toList) by unfold zJe;rw [hd];rfl)
  go_enter Tryz.func101,Tryz.ntmps101
  go_wp2
  all_goals go_ret
  all_goals exact ⟨zcc HP.out.symm,rfl⟩
 ·have hd:decide (p.size≤s.size)=false:=by simpa using h
  have HP:=zh (show zJe s p=false by unfold zJe;rw [hd];rfl)
  go_enter Tryz.func101,Tryz.ntmps101
  go_wp2
  all_goals go_ret
  all_goals exact ⟨zcc HP.out.symm,rfl⟩
theorem zIg (s p:ByteArray) (w:World) (hs:s.size≤maxLen) (hp:p.size≤maxLen) :
  Calls Tryz.prog 82 #[.string s,.string p] w fun e w'=>e=.returned (.bool (zJe s p))∧w=w':=by
 go_enter Tryz.func82,Tryz.ntmps82
 go_wp2_with (go_at_call 101;refine (zRg _ _ _ hs hp).mono ?_;rintro e w' ⟨rfl,rfl⟩)
 go_ret
 exact ⟨rfl,rfl⟩
theorem zPg (s:ByteArray) (c:Int) (w:World) :
  Calls Tryz.prog 102 #[.string s,.int .u8 c] w fun e w'=>e=.returned (.int .i64 (Lib.indexByte s.data.toList c.toNat.toUInt8))∧w=w':=by
 have hcall:(callFunc 120 #[.string s,.int .u8 c]).run Tryz.prog w=.ok (.value (.int .i64 (Lib.indexByte s.data.toList c.toNat.toUInt8))) w:=by
  rw [run_callFunc_extern Tryz.func120 (by kernel_rfl) (by kernel_rfl) (by kernel_rfl) (e:=Extern.BytealgIndexByte.indexByte) (by kernel_rfl),Lib.run_indexByteString]
  rfl
 go_enter Tryz.func102,Tryz.ntmps102
 go_wp2
 go_ret
 exact ⟨rfl,rfl⟩
theorem zLg (s:ByteArray) (c:Int) (w:World) :
  Calls Tryz.prog 83 #[.string s,.int .u8 c] w fun e w'=>e=.returned (.int .i64 (Lib.indexByte s.data.toList c.toNat.toUInt8))∧w=w':=by
 go_enter Tryz.func83,Tryz.ntmps83
 go_wp2_with (go_at_call 102;refine (zPg _ _ _).mono ?_;rintro e w' ⟨rfl,rfl⟩)
 go_ret
 exact ⟨rfl,rfl⟩
theorem zxo (s:ByteArray) (a b:Nat):(s.extract a b).size≤s.size:=by
 rw [ByteArray.size_extract]
 omega
def zng:List Value:=[.string (zqc 0),.string (zqc 1),.string (zqc 2)]
theorem zth (j:Nat) (hj:j<3):zng[j]?=some (.string (zqc j)):=by
 match j,hj with
 | 0,_=>rfl
 | 1,_=>rfl
 | 2,_=>rfl
theorem zim (w:World) (ht:Tabs w):w.rangeAt 1 0 zng:=by
 intro j v hv
 have hj:j<3:=(List.getElem?_eq_some_iff.1 hv).1
 rw [zth j hj] at hv
 rw [Nat.zero_add,ht.pairs j hj,hv]
theorem zOn:(Tryz.prog.info? 167).map (·.size)=some zng.length:=by kernel_rfl
theorem zgf (i:Nat) (hi:i<3):(zqc i).size=2:=by
 match i,hi with
 | 0,_=>rfl
 | 1,_=>rfl
 | 2,_=>rfl
theorem zCj (b:UInt8):Lib.indexByte (ByteArray.mk #[123,125,40,41,91,93,44,58,59,61,43,45,38,60]).data.toList ((b.toNat:Int)).toNat.toUInt8=Lib.indexByte zLe b:=by
 simp [zLe]
theorem zLn (s:ByteArray) (k:Nat) (w:World) (hs:s.size≤maxLen) (hk:k<s.size) (ht:Tabs w) :
  Calls Tryz.prog 57 #[.string s,.int .i64 k] w fun e w'=>e=zhn (zFd s k)∧Below w.heap.size w w':=by
 have hr:=zh (zim _ (ht.alloc (o:=.cells #[.int .i64 0,.string ⟨#[]⟩,.int .i64 0,.int .i64 0] 113)))
 have hs':=hs
 unfold maxLen at hs'
 go_enter Tryz.func57,Tryz.ntmps57
 go_wp2_with (with_reducible refine wpList_load_mid rfl 167 (.global 1) rfl 1 0 rfl zng _ hr.out Tryz.underlying167 rfl zOn ?_)
 go_loop [9] (fun i=>∃ n:Nat,n≤3∧i=.int .i64 n∧zbb s k (3-n)=zFd s k) (fun i=>3-(intOf i).toNat)
 case atStart=>exact ⟨0,by omega,rfl,rfl⟩
 case round =>
  obtain ⟨n,hn,rfl,hrl⟩:=hrel
  have HR:=zh hrl
  clear hrl
  by_cases hlt:n<3
  ·have hidx:=fun W=>zZd (P:=Tryz.prog) Tryz.underlying167 zKs strSize hlt (zth n hlt) W
   have hlt':(n:Int)<3:=by omega
   have hx:(s.extract k s.size).size≤maxLen:=Nat.le_trans (zxo s k s.size) hs
   have hp2:(zqc n).size≤maxLen:=by rw [zgf n hlt];unfold maxLen;omega
   cases hc:zJe (s.extract k s.size) (zqc n)
   ·have HN:=zh ((zqm hlt hc).symm.trans HR.out)
    go_wp2_with (go_at_call 82;refine (zIg _ _ _ hx hp2).mono ?_;rintro e w' ⟨rfl,rfl⟩)
    go_round
    case rel=>exact ⟨n+1,by omega,by go_num,HN.out⟩
    case measure=>simp [intOf];omega
   ·have HN:=zh ((znl hlt hc).symm.trans HR.out)
    go_wp2_with (go_at_call 82;refine (zIg _ _ _ hx hp2).mono ?_;rintro e w' ⟨rfl,rfl⟩)
    rw [← HN.out]
    exact bodyPost_ret (v:=.tuple #[zmb ⟨4,zqc n,0,k⟩,.int .i64 0]) (by simp [results,Tryz.results57,go_sem,zmb]) rfl ⟨rfl,by go_grown⟩
  ·obtain rfl:n=3:=by omega
   have hfin:zMe s k=zFd s k:=HR.out
   have HF:=zh hfin
   clear hfin
   cases hc:zKc s[k]
   ·have hneg:Lib.indexByte zLe s[k]<0:=by unfold zKc at hc;simpa using hc
    have hfin:zFd s k=.error 11:=by rw [← HF.out,zMe,zUb s k hk,if_neg (by simp [hc])]
    have HE:=zh hfin
    clear hfin hc
    go_wp2_with (go_at_call 83;refine (zLg _ _ _).mono ?_;rintro e w' ⟨rfl,rfl⟩;rw [zCj])
    rw [HE.out]
    exact bodyPost_ret (v:=.tuple #[zmb zVa,.int .i64 11]) (by simp [results,Tryz.results57,go_sem,zmb,zVa]) rfl ⟨rfl,by go_grown⟩
   ·have hneg:¬ Lib.indexByte zLe s[k]<0:=by unfold zKc at hc;simpa using hc
    have hfin:zFd s k=.ok ⟨4,s.extract k (k+1),0,k⟩:=by rw [← HF.out,zMe,zUb s k hk,if_pos (by simp [hc])]
    have HE:=zh hfin
    clear hfin hc
    go_wp2_with (go_at_call 83;refine (zLg _ _ _).mono ?_;rintro e w' ⟨rfl,rfl⟩;rw [zCj])
    rw [HE.out]
    exact bodyPost_ret (v:=.tuple #[zmb ⟨4,s.extract k (k+1),0,k⟩,.int .i64 0]) (by simp [results,Tryz.results57,go_sem,zmb]) rfl ⟨rfl,by go_grown⟩
end
section
open Go.RowKit
def zzd (s:ByteArray) (k:Nat):Nat→Nat
 | 0=>0
 | n+1=>zzd s k n * 10+((bat s (k+n)).toNat-48)
theorem zxj (s:ByteArray) (k n m:Nat):zzd s k n≤zzd s k (n+m):=by
 induction m with
 | zero=>exact Nat.le_refl _
 | succ m ih =>
  rw [← Nat.add_assoc,zzd]
  omega
def zle (s:ByteArray) (k:Nat):Bool :=
 (bat s k == 48 && decide (k+1<endOf zBd s k)) || (decide (endOf zBd s k<s.size) && zqf ((bat s (endOf zBd s k)).toNat:Int))
def zSc (s:ByteArray) (k:Nat):Except Int Tok :=
 if zle s k=true∨1099511627776<zzd s k (endOf zBd s k-k) then .error 12
 else .ok ⟨3,s.extract k (endOf zBd s k),zzd s k (endOf zBd s k-k),k⟩
theorem zjq {p:Int→Bool} {s:ByteArray} {k:Nat}:∀ i,k≤i→i<endOf p s k→(h:i<s.size)→p (s[i].toNat:Int)=true:=by
 intro i hki hi h
 obtain ⟨d,rfl⟩:=Nat.exists_eq_add_of_le hki
 induction d generalizing k with
 | zero =>
  rcases Bool.eq_false_or_eq_true (p ((s[k]'h).toNat:Int)) with hp|hp
  ·exact hp
  ·have:=zge (p:=p) (s:=s) (k:=k) (by omega) hp
   omega
 | succ d ih =>
  cases hp:p ((s[k]'(by omega)).toNat:Int)
  ·have:=zge (p:=p) (s:=s) (k:=k) (by omega) hp
   omega
  ·have:=zxc (p:=p) (s:=s) (k:=k) (by omega) hp
   have h2:=ih (k:=k+1) (by omega) (by rw [this] at hi;omega) (by omega)
   have e:k+1+d=k+(d+1):=by omega
   simp only [e] at h2
   exact h2
theorem zqi {n:Int} (h:zBd n=true):48≤n∧n≤57:=by unfold zBd at h;simpa using h
theorem zAl (s:ByteArray) (k:Nat) (w:World) (hs:s.size≤maxLen) (hk:k<s.size) (hb:zle s k=true) :
  Calls Tryz.prog 56 #[.string s,.int .i64 k] w fun e w'=>e=errR 12∧Below w.heap.size w w':=by
 have hs':=hs
 unfold maxLen at hs'
 have hge:=zee zBd s k
 have hle:=zUc zBd s k (by omega)
 unfold zle at hb
 rw [zUb s k hk] at hb
 generalize hE:endOf zBd s k=E at *
 have HE:=zh hE
 clear hE
 have hz:((s[k].toNat:Int) == 48)=(s[k] == 48):=by
  rw [Bool.eq_iff_iff]
  simp only [beq_iff_eq,← UInt8.toNat_inj]
  have:(48:UInt8).toNat=48:=rfl
  omega
 have HZ:=zh hz
 clear hz
 by_cases hA:((s[k].toNat:Int) == 48)=true∧k+1<E
 ·obtain ⟨h1,h2⟩:=hA
  have h3:(k:Int)+1<(E:Int):=by omega
  clear hb
  go_enter Tryz.func56,Tryz.ntmps56
  go_wp2_with (go_at_call 28;refine (zKe _ _ _ hs (by omega) (by omega)).mono ?_;rintro e w' ⟨rfl,rfl⟩;rw [Int.toNat_natCast,HE.out])
  exact bodyPost_ret (v:=.tuple #[zmb zVa,.int .i64 12]) (by simp [results,Tryz.results56,go_sem,zmb,zVa]) rfl ⟨rfl,by go_grown⟩
 ·have hB:E<s.size∧zqf ((bat s E).toNat:Int)=true:=by
   rw [← HZ.out] at hb
   cases h1:((s[k].toNat:Int) == 48)
   ·simpa [h1] using hb
   ·have:¬ k+1<E:=fun h=>hA ⟨h1,h⟩
    simpa [h1,this] using hb
  obtain ⟨h1,h2⟩:=hB
  rw [zUb s E h1] at h2
  clear hb
  cases h4:((s[k].toNat:Int) == 48)
  ·clear hA
   go_enter Tryz.func56,Tryz.ntmps56
   go_wp2_with (first
    | (go_at_call 28;refine (zKe _ _ _ hs (by omega) (by omega)).mono ?_;rintro e w' ⟨rfl,rfl⟩;rw [Int.toNat_natCast,HE.out])
    | (go_at_call 53;refine (zOb _ _).mono ?_;rintro e w' ⟨rfl,rfl⟩))
   exact bodyPost_ret (v:=.tuple #[zmb zVa,.int .i64 12]) (by simp [results,Tryz.results56,go_sem,zmb,zVa]) rfl ⟨rfl,by go_grown⟩
  ·have h5:¬ (k:Int)+1<(E:Int):=fun h=>hA ⟨h4,by omega⟩
   clear hA
   go_enter Tryz.func56,Tryz.ntmps56
   go_wp2_with (first
    | (go_at_call 28;refine (zKe _ _ _ hs (by omega) (by omega)).mono ?_;rintro e w' ⟨rfl,rfl⟩;rw [Int.toNat_natCast,HE.out])
    | (go_at_call 53;refine (zOb _ _).mono ?_;rintro e w' ⟨rfl,rfl⟩))
   exact bodyPost_ret (v:=.tuple #[zmb zVa,.int .i64 12]) (by simp [results,Tryz.results56,go_sem,zmb,zVa]) rfl ⟨rfl,by go_grown⟩
def zZl (s:ByteArray) (k:Nat) (w:World) (e:Ending) (w':World):Prop:=e=zhn (zSc s k)∧Below w.heap.size w w'
theorem zgl {s:ByteArray} {k d:Nat} (hd:k+d≤endOf zBd s k) (h:1099511627776<zzd s k d):zSc s k=.error 12:=by
 unfold zSc
 rw [if_pos]
 right
 have:=zxj s k d (endOf zBd s k-k-d)
 rw [show d+(endOf zBd s k-k-d)=endOf zBd s k-k by omega] at this
 omega
theorem zql {s:ByteArray} {k d E:Nat} (hb:zle s k=false) (hE:endOf zBd s k=E) (hd:k+d=E) (h:zzd s k d≤1099511627776):zSc s k=.ok ⟨3,s.extract k E,zzd s k d,k⟩:=by
 unfold zSc
 have e:E-k=d:=by omega
 rw [hE,e,if_neg]
 rw [hb]
 simp
 omega
theorem zjk (s:ByteArray) (k:Nat) (w:World) (hs:s.size≤maxLen) (hk:k<s.size) (hb:zle s k=false) :
  Calls Tryz.prog 56 #[.string s,.int .i64 k] w fun e w'=>zZl s k w e w':=by
 have HB:=zh hb
 have hs':=hs
 unfold maxLen at hs'
 have hge:=zee zBd s k
 have hle:=zUc zBd s k (by omega)
 have hmem:=fun i=>zjq (p:=zBd) (s:=s) (k:=k) i
 unfold zle at hb
 rw [zUb s k hk] at hb
 generalize hE:endOf zBd s k=E at *
 have HE:=zh hE
 have HM:=zh hmem
 clear hE hmem
 have hz:((s[k].toNat:Int) == 48)=(s[k] == 48):=by
  rw [Bool.eq_iff_iff]
  simp only [beq_iff_eq,← UInt8.toNat_inj]
  have:(48:UInt8).toNat=48:=rfl
  omega
 rw [← hz] at hb
 have HZ:=zh hz
 clear hz
 have hA:((s[k].toNat:Int) == 48)=true→¬ k+1<E:=by
  intro h1 h2
  rw [h1] at hb
  simp [h2] at hb
 have hB:∀ h:E<s.size,zqf (s[E].toNat:Int)=false:=by
  intro h
  rw [← zUb s E h]
  cases h3:zqf ((bat s E).toNat:Int)
  ·rfl
  ·rw [h3] at hb;simp [h] at hb
 clear hb
 cases h4:((s[k].toNat:Int) == 48)<;>by_cases h6:E<s.size
 all_goals
  first
  | (have h7:=hB h6)
  | (have h7:¬ (E:Int)<(s.size:Int):=by omega)
  first
  | (have h5:¬ (k:Int)+1<(E:Int):=by have:=hA h4;omega)
  | skip
  clear hA hB
  go_enter Tryz.func56,Tryz.ntmps56
  go_wp2_with (first
   | (go_at_call 28;refine (zKe _ _ _ hs (by omega) (by omega)).mono ?_;rintro e w' ⟨rfl,rfl⟩;rw [Int.toNat_natCast,HE.out])
   | (go_at_call 53;refine (zOb _ _).mono ?_;rintro e w' ⟨rfl,rfl⟩))
  go_loop [7,8] (fun n i=>∃ d:Nat,k+d≤E∧i=.int .i64 (k+d:Nat)∧n=.int .i64 (zzd s k d)∧zzd s k d≤1099511627776) (fun _ i=>E-(intOf i).toNat)
  case atStart=>exact ⟨0,by omega,by simp,rfl,by simp [zzd]⟩
  case round =>
   obtain ⟨d,hd,rfl,rfl,hM⟩:=hrel
   clear h4 h7
   by_cases hlt:k+d<E
   ·have hdl:k+d<s.size:=by omega
    have hdig:=zqi (HM.out (k+d) (by omega) hlt hdl)
    have hnx:zzd s k (d+1)=zzd s k d * 10+(s[k+d].toNat-48):=by rw [zzd,zUb s _ hdl]
    have HN:=zh hnx
    clear hnx
    by_cases hgr:1099511627776<zzd s k (d+1)
    ·have HG:=zh (zgl (s:=s) (k:=k) (d:=d+1) (by rw [HE.out];omega) hgr)
     have hgr':1099511627776<(zzd s k d:Int) * 10+((s[k+d].toNat:Int)-48):=by rw [HN.out] at hgr;omega
     clear hgr HN
     generalize hN:zzd s k d=N at *
     generalize hc:(s[k+d].toNat)=c at *
     go_wp2
     unfold zZl
     rw [HG.out]
     exact bodyPost_ret (v:=.tuple #[zmb zVa,.int .i64 12]) (by simp [results,Tryz.results56,go_sem,zmb,zVa]) rfl ⟨rfl,by go_grown⟩
    ·have hgr':¬ 1099511627776<(zzd s k d:Int) * 10+((s[k+d].toNat:Int)-48):=by rw [HN.out] at hgr;omega
     have HV:=zh (show ((zzd s k (d+1):Nat):Int)=(zzd s k d:Int) * 10+((s[k+d].toNat:Int)-48) by rw [HN.out];omega)
     have HL:=zh (show zzd s k (d+1)≤1099511627776 by omega)
     clear hgr HN
     generalize hN:zzd s k d=N at *
     generalize hc:(s[k+d].toNat)=c at *
     go_wp2
     go_round
     case rel=>exact ⟨d+1,by omega,by go_num,by rw [HV.out],HL.out⟩
     case measure=>simp [intOf];omega
   ·have HO:=zh (zql HB.out HE.out (show k+d=E by omega) hM)
    generalize hN:zzd s k d=N at *
    go_wp2
    unfold zZl
    rw [HO.out]
    exact bodyPost_ret (v:=.tuple #[zmb ⟨3,s.extract k E,N,k⟩,.int .i64 0]) (by simp [results,Tryz.results56,go_sem,zmb]) rfl ⟨rfl,by go_grown⟩
theorem zNk (s:ByteArray) (k:Nat) (w:World) (hs:s.size≤maxLen) (hk:k<s.size) :
  Calls Tryz.prog 56 #[.string s,.int .i64 k] w fun e w'=>e=zhn (zSc s k)∧Below w.heap.size w w':=by
 cases hb:zle s k
 ·exact zjk s k w hs hk hb
 ·have hr:zSc s k=.error 12:=by unfold zSc;rw [if_pos (Or.inl hb)]
  rw [hr]
  exact zAl s k w hs hk hb
end
section
open Go.RowKit
def zPr:Except Int Tok→Tok
 | .ok t=>t
 | .error _=>zVa
def errOf:Except Int Tok→Int
 | .ok _=>0
 | .error e=>e
theorem zgh (x:Except Int Tok):zhn x=.returned (.tuple #[zmb (zPr x),.int .i64 (errOf x)]):=by cases x<;>rfl
def zpd (s:ByteArray) (k:Nat):Except Int Tok :=
 if zqf ((bat s k).toNat:Int)=true then zLb s k else if zBd ((bat s k).toNat:Int)=true then zSc s k else zFd s k
theorem zWk {W w1:World} (hb:Below W.heap.size W w1):(∀ b o,b<W.heap.size→w1.cell? ⟨b,o,none⟩=W.cell? ⟨b,o,none⟩)∧(∀ b o,b<W.heap.size→w1.frozen? ⟨b,o,none⟩=W.frozen? ⟨b,o,none⟩) :=
 ⟨fun b o h=>hb.cell (p:=⟨b,o,none⟩) h,fun b o h=>hb.frozen (p:=⟨b,o,none⟩) h⟩
theorem zLi (s:ByteArray) (k:Nat) (w:World) (hs:s.size≤maxLen) (hk:k<s.size) (ht:Tabs w) :
  Calls Tryz.prog 30 #[.string s,.int .i64 k] w fun e w'=>e=zhn (zpd s k)∧Below w.heap.size w w':=by
 have hs':=hs
 unfold maxLen at hs'
 cases hl:zqf (s[k].toNat:Int)
 ·cases hd:zBd (s[k].toNat:Int)
  ·have hr:zpd s k=zFd s k:=by unfold zpd;rw [zUb s k hk,if_neg (by simp [hl]),if_neg (by simp [hd])]
   rw [hr,zgh]
   clear hr
   generalize hx:zFd s k=x
   have HX:=zh hx
   clear hx
   go_enter Tryz.func30,Tryz.ntmps30
   go_wp2_with (first
    | (go_at_call 53;refine (zOb _ _).mono ?_;rintro e w' ⟨rfl,rfl⟩)
    | (go_at_call 55;refine (zLd _ _).mono ?_;rintro e w' ⟨rfl,rfl⟩))
   refine (zLn s k _ hs hk ht.alloc).mono ?_
   rintro e w1 ⟨rfl,hb⟩
   rw [zgh,HX.out]
   obtain ⟨hc,hf⟩:=zWk hb
   have hz:w.heap.size+1≤w1.heap.size:=by have:=hb.size;simp at this;omega
   have HB:=zh (((Below.refl w.heap.size w).alloc (Nat.le_refl _) _).trans (hb.mono (by simp)))
   clear hb
   unfold zmb
   go_wp2
   exact bodyPost_ret (v:=.tuple #[zmb (zPr x),.int .i64 (errOf x)]) (by simp [results,Tryz.results30,go_sem,zmb,hc]) rfl ⟨rfl,by repeat (first|exact HB.out|refine Below.setCell ?_ (by simp) _)⟩
  ·have hr:zpd s k=zSc s k:=by unfold zpd;rw [zUb s k hk,if_neg (by simp [hl]),if_pos (by simp [hd])]
   rw [hr,zgh]
   clear hr
   generalize hx:zSc s k=x
   have HX:=zh hx
   clear hx
   go_enter Tryz.func30,Tryz.ntmps30
   go_wp2_with (first
    | (go_at_call 53;refine (zOb _ _).mono ?_;rintro e w' ⟨rfl,rfl⟩)
    | (go_at_call 55;refine (zLd _ _).mono ?_;rintro e w' ⟨rfl,rfl⟩))
   refine (zNk s k _ hs hk).mono ?_
   rintro e w1 ⟨rfl,hb⟩
   rw [zgh,HX.out]
   obtain ⟨hc,hf⟩:=zWk hb
   have hz:w.heap.size+1≤w1.heap.size:=by have:=hb.size;simp at this;omega
   have HB:=zh (((Below.refl w.heap.size w).alloc (Nat.le_refl _) _).trans (hb.mono (by simp)))
   clear hb
   unfold zmb
   go_wp2
   exact bodyPost_ret (v:=.tuple #[zmb (zPr x),.int .i64 (errOf x)]) (by simp [results,Tryz.results30,go_sem,zmb,hc]) rfl ⟨rfl,by repeat (first|exact HB.out|refine Below.setCell ?_ (by simp) _)⟩
 ··have hr:zpd s k=zLb s k:=by unfold zpd;rw [zUb s k hk,if_pos (by simp [hl])]
   rw [hr,zgh]
   clear hr
   generalize hx:zLb s k=x
   have HX:=zh hx
   clear hx
   go_enter Tryz.func30,Tryz.ntmps30
   go_wp2_with (first
    | (go_at_call 53;refine (zOb _ _).mono ?_;rintro e w' ⟨rfl,rfl⟩)
    | (go_at_call 55;refine (zLd _ _).mono ?_;rintro e w' ⟨rfl,rfl⟩))
   refine (zzn s k _ hs hk ht.alloc).mono ?_
   rintro e w1 ⟨rfl,hb⟩
   rw [zgh,HX.out]
   obtain ⟨hc,hf⟩:=zWk hb
   have hz:w.heap.size+1≤w1.heap.size:=by have:=hb.size;simp at this;omega
   have HB:=zh (((Below.refl w.heap.size w).alloc (Nat.le_refl _) _).trans (hb.mono (by simp)))
   clear hb
   unfold zmb
   go_wp2
   exact bodyPost_ret (v:=.tuple #[zmb (zPr x),.int .i64 (errOf x)]) (by simp [results,Tryz.results30,go_sem,zmb,hc]) rfl ⟨rfl,by repeat (first|exact HB.out|refine Below.setCell ?_ (by simp) _)⟩
end
section
open Go.RowKit
def zHc (b:UInt8):Bool:=b == 32 || b == 10
def zQe (s:ByteArray):Tok:=⟨0,⟨#[]⟩,0,s.size⟩
abbrev zSf:=Except (Nat × Int) (List Tok)
def more (ts:List Tok):zSf→zSf
 | .ok r=>.ok (ts++r)
 | .error e=>.error e
def lexFrom (s:ByteArray) (k:Nat):zSf :=
 if _h:s.size≤k then .ok [zQe s]
 else if zHc (bat s k)=true then lexFrom s (k+1)
 else if bat s k=35 then lexFrom s (max (k+1) (endOf zdk s k))
 else match zpd s k with
  | .error e=>.error (k,e)
  | .ok t=>more [t] (lexFrom s (max (k+1) (k+t.text.size)))
termination_by s.size-k
decreasing_by all_goals omega
def zZb (s:ByteArray):zSf:=if 16384<s.size then .error (0,10) else lexFrom s 0
theorem zTk (a b:List Tok) (r:zSf):more a (more b r)=more (a++b) r:=by cases r<;>simp [more]
theorem zVm (r:zSf):more [] r=r:=by cases r<;>simp [more]
theorem zMl {s:ByteArray} {k:Nat} (h:s.size≤k):lexFrom s k=.ok [zQe s]:=by
 rw [lexFrom,dif_pos h]
theorem zDf {s:ByteArray} {k:Nat} (h:k<s.size) (hb:zHc (bat s k)=true):lexFrom s k=lexFrom s (k+1):=by
 rw [lexFrom,dif_neg (by omega),if_pos hb]
theorem zJc (s:ByteArray) (a b:Nat) (h:b≤s.size):(s.extract a b).size=b-a:=by
 rw [ByteArray.size_extract,Nat.min_eq_left h]
theorem zRe {s:ByteArray} {k:Nat} (h:k<s.size) (hb:bat s k=35):k+1≤endOf zdk s k:=by
 have hp:zdk ((s[k]).toNat:Int)=true:=by rw [← zUb s k h,hb];rfl
 rw [zxc h hp]
 exact zee _ _ _
theorem zSg {s:ByteArray} {k:Nat} (h:k<s.size) (hb:bat s k=35):lexFrom s k=lexFrom s (endOf zdk s k):=by
 have hnb:¬ zHc (bat s k)=true:=by rw [hb];decide
 rw [lexFrom,dif_neg (by omega),if_neg hnb,if_pos hb,Nat.max_eq_right (zRe h hb)]
theorem zsm {s:ByteArray} {k:Nat} {e:Int} (h:k<s.size) (hb:zHc (bat s k)=false) (hr:¬ bat s k=35) (ht:zpd s k=.error e):lexFrom s k=.error (k,e):=by
 rw [lexFrom,dif_neg (by omega),if_neg (by simp [hb]),if_neg hr,ht]
theorem zbi {s:ByteArray} {k:Nat} {t:Tok} (h:k<s.size) (hl:zqf ((bat s k).toNat:Int)=true) (ht:zLb s k=.ok t):1≤t.text.size∧k+t.text.size≤s.size:=by
 have hp:zxe ((s[k]).toNat:Int)=true:=by rw [← zUb s k h];unfold zxe;rw [hl];rfl
 have h1:k+1≤endOf zxe s k:=by rw [zxc h hp];exact zee _ _ _
 have h2:=zUc zxe s k (by omega)
 unfold zLb at ht
 split at ht
 ·cases ht
 ·split at ht
  all_goals
   injection ht with ht
   subst ht
   simp only [zJc s k _ h2]
   omega
theorem zps {s:ByteArray} {k:Nat} {t:Tok} (h:k<s.size) (hl:zBd ((bat s k).toNat:Int)=true) (ht:zSc s k=.ok t):1≤t.text.size∧k+t.text.size≤s.size:=by
 have hp:zBd ((s[k]).toNat:Int)=true:=by rw [← zUb s k h];exact hl
 have h1:k+1≤endOf zBd s k:=by rw [zxc h hp];exact zee _ _ _
 have h2:=zUc zBd s k (by omega)
 unfold zSc at ht
 split at ht
 ·cases ht
 ·injection ht with ht
  subst ht
  simp only [zJc s k _ h2]
  omega
theorem zas {s:ByteArray} {k i:Nat} (hi:i<3) (hk:k<s.size) (h:zJe (s.extract k s.size) (zqc i)=true):k+2≤s.size:=by
 unfold zJe at h
 rw [Bool.and_eq_true] at h
 have:=h.1
 rw [zJc s k _ (Nat.le_refl _),zgf i hi] at this
 simp at this
 omega
theorem zug {s:ByteArray} {k:Nat} (h:k<s.size):∀ (n:Nat) (t:Tok),n≤3→zbb s k n=.ok t→1≤t.text.size∧k+t.text.size≤s.size
 | 0,t,_,ht=>by
  unfold zbb zMe at ht
  split at ht
  ·injection ht with ht
   subst ht
   simp only [zJc s k _ (show k+1≤s.size by omega)]
   omega
  ·cases ht
 | n+1,t,hn,ht=>by
  unfold zbb at ht
  split at ht
  ·rename_i hp
   have:=zas (by omega) h hp
   injection ht with ht
   subst ht
   simp only [zgf (2-n) (by omega)]
   omega
  ·exact zug h n t (by omega) ht
theorem zfe {s:ByteArray} {k:Nat} {t:Tok} (h:k<s.size) (ht:zpd s k=.ok t):1≤t.text.size∧k+t.text.size≤s.size:=by
 unfold zpd at ht
 split at ht
 ·exact zbi h (by assumption) ht
 ·split at ht
  ·exact zps h (by assumption) ht
  ·exact zug h 3 t (Nat.le_refl _) ht
theorem zmm {s:ByteArray} {k:Nat} {t:Tok} (h:k<s.size) (hb:zHc (bat s k)=false) (hr:¬ bat s k=35) (ht:zpd s k=.ok t):lexFrom s k=more [t] (lexFrom s (k+t.text.size)):=by
 have:=(zfe h ht).1
 rw [lexFrom,dif_neg (by omega),if_neg (by simp [hb]),if_neg hr,ht]
 simp only
 rw [Nat.max_eq_right (by omega)]
end
end Go.Proofs.YtpjnpffcnmgdcaaGreatDoor
