/- The contracts of the byte predicates of lex and of lychgateref01, and of lex.runEnd: each returns what the plain function says and leaves the world as it was. No conditions but that a text is at most maxLen bytes long. The contract of lex.IsKey in a world that holds the table of key words, and of lychgateref01.IsKey in any world: each returns whether the text is one of the twenty key words, and leaves the world as it was. Plain facts on names: which texts are names. Nothing of the program is walked here. The contract of lex.wordAt in a world that holds the tables of lex: the token of the word at a place, or ErrWord; nothing that was in memory is changed. The contracts of strings.HasPrefix, strings.IndexByte and lex.signAt: the token of the sign at a place, the longer one where two could stand, or ErrByte; nothing that was in memory is changed. lex.signAt in a world that holds the tables of lex. The contract of lex.numberAt: the token of the number at a place, or ErrNumber; nothing that was in memory is changed. The contract of lex.tokenAt in a world that holds the tables of lex: the token at a place that is no blank, or the fault there; nothing that was in memory is changed. The plain account of lex.Tokens: where each round goes on, and what the whole comes to. Nothing of the program is walked here. -/
import Derived.Test.YthdbmgijpelecaaGreatDoorRows
import Derived.WalkKit
import Derived.WalkSpells
import Derived.Lib.Hide
import Derived.Deep.QuietTactic
import Derived.BigQuiet
import Derived.Handy
import Derived.Deep.MidRow
import Derived.Lib.Bytealg
namespace Go.Proofs.YthdbmgijpelecaaGreatDoor
set_option maxHeartbeats 1000000
theorem zh {p : Prop} (h : p) : Go.RowKit.Hid p := Lib.hid h
section
open Go.RowKit
def zfk (n:Int):Bool:=(decide (97≤n) && decide (n≤122)) || n == 95
def zVe (n:Int):Bool:=decide (48≤n) && decide (n≤57)
def zEe (n:Int):Bool:=zfk n || zVe n
def zgl (n:Int):Bool:=n != 10
theorem zkd {a b:Bool} (h:a=b):Ending.returned (.bool a)=.returned (.bool b):=by rw [h]
theorem zqb (n:Int) (w:World) :
  Calls Tryz.prog 90 #[.int .u8 n] w fun e w'=>e=.returned (.bool (zfk n))∧w=w':=by
 go_enter Tryz.func90,Tryz.ntmps90
 go_wp2
 all_goals go_ret
 all_goals refine ⟨zkd ?_,rfl⟩
 all_goals (unfold zfk;first|(simp [*];done)|(rw [Bool.eq_iff_iff];simp;omega))
theorem zVc (n:Int) (w:World) :
  Calls Tryz.prog 92 #[.int .u8 n] w fun e w'=>e=.returned (.bool (zVe n))∧w=w':=by
 go_enter Tryz.func92,Tryz.ntmps92
 go_wp2
 all_goals go_ret
 all_goals refine ⟨zkd ?_,rfl⟩
 all_goals (unfold zVe;first|(simp [*];done)|(rw [Bool.eq_iff_iff];simp;omega))
theorem zHh (n:Int) (w:World) :
  Calls Tryz.prog 129 #[.int .u8 n] w fun e w'=>e=.returned (.bool (zEe n))∧w=w':=by
 by_cases h:zfk n=true
 ·have hw:zEe n=true:=by unfold zEe;rw [h];rfl
  have H:=zh hw
  clear hw
  go_enter Tryz.func129,Tryz.ntmps129
  go_wp2_with (first
   | (go_at_call 90;refine (zqb _ _).mono ?_;rintro e w' ⟨rfl,rfl⟩)
   | (go_at_call 92;refine (zVc _ _).mono ?_;rintro e w' ⟨rfl,rfl⟩))
  all_goals go_ret
  exact ⟨zkd H.out.symm,rfl⟩
 ·have hf:zfk n=false:=by simpa using h
  have hw:zEe n=zVe n:=by unfold zEe;rw [hf];rfl
  have H:=zh hw
  clear hw h
  go_enter Tryz.func129,Tryz.ntmps129
  go_wp2_with (first
   | (go_at_call 90;refine (zqb _ _).mono ?_;rintro e w' ⟨rfl,rfl⟩)
   | (go_at_call 92;refine (zVc _ _).mono ?_;rintro e w' ⟨rfl,rfl⟩))
  all_goals go_ret
  exact ⟨zkd H.out.symm,rfl⟩
theorem zel (n:Int) (w:World) :
  Calls Tryz.prog 53 #[.int .u8 n] w fun e w'=>e=.returned (.bool (zgl n))∧w=w':=by
 go_enter Tryz.func53,Tryz.ntmps53
 go_wp2
 all_goals go_ret
 all_goals exact ⟨zkd (by unfold zgl;simp),rfl⟩
def zAc (p:Int→Bool):List UInt8→Nat
 | []=>0
 | b :: r=>if p b.toNat then zAc p r+1 else 0
def endOf (p:Int→Bool) (s:ByteArray) (k:Nat):Nat:=k+zAc p (s.data.toList.drop k)
theorem ztm (p:Int→Bool) (l:List UInt8):zAc p l≤l.length:=by
 induction l with
 | nil=>simp [zAc]
 | cons b r ih=>simp only [zAc];split<;>simp<;>omega
theorem zIe (p:Int→Bool) (s:ByteArray) (k:Nat):k≤endOf p s k:=by unfold endOf;omega
theorem zMd (p:Int→Bool) (s:ByteArray) (k:Nat) (h:k≤s.size):endOf p s k≤s.size:=by
 unfold endOf
 have:=ztm p (s.data.toList.drop k)
 simp at this
 omega
theorem drop_at (s:ByteArray) (k:Nat) (h:k<s.size):s.data.toList.drop k=s[k] :: s.data.toList.drop (k+1):=List.drop_eq_getElem_cons (by simpa using h)
theorem zYf {p:Int→Bool} {s:ByteArray} {k:Nat} (h:k<s.size) (hp:p (s[k].toNat:Int)=false):endOf p s k=k:=by
 unfold endOf
 rw [drop_at s k h,zAc,hp]
 simp
theorem zUd {p:Int→Bool} {s:ByteArray} {k:Nat} (h:k<s.size) (hp:p (s[k].toNat:Int)=true):endOf p s k=endOf p s (k+1):=by
 unfold endOf
 rw [drop_at s k h,zAc,hp]
 simp
 omega
theorem zum {p:Int→Bool} {s:ByteArray} {k:Nat} (h:s.size≤k):endOf p s k=k:=by
 unfold endOf
 rw [List.drop_of_length_le (by simp;omega)]
 simp [zAc]
theorem znm {k:IntKind} {a b:Int} (h:a=b):Ending.returned (.int k a)=.returned (.int k b):=by rw [h]
theorem zLg (f:FuncId) (p:Int→Bool) (hcf:∀ (n:Int) (w:World),(callFunc f #[.int .u8 n]).run Tryz.prog w=.ok (.enter f #[.int .u8 n]) w)
  (hf:∀ n w,Calls Tryz.prog f #[.int .u8 n] w fun e w'=>e=.returned (.bool (p n))∧w=w')
  (s:ByteArray) (a:Int) (w:World) (hs:s.size≤maxLen) (h0:0≤a) (h1:a≤s.size) :
  Calls Tryz.prog 52 #[.string s,.int .i64 a,.func (.func f) #[] #[]] w fun e w'=>e=.returned (.int .i64 (endOf p s a.toNat))∧w=w':=by
 unfold maxLen at hs
 obtain ⟨k0,rfl⟩:=Int.eq_ofNat_of_zero_le h0
 have HF:=zh hf
 clear hf
 go_enter Tryz.func52,Tryz.ntmps52
 go_wp2
 go_loop [1] (fun i=>∃ k:Nat,k≤s.size∧i=.int .i64 k∧endOf p s k=endOf p s k0) (fun i=>s.size-(intOf i).toNat)
 case atStart=>exact ⟨k0,by omega,rfl,rfl⟩
 case round =>
  obtain ⟨k,hk,rfl,hr⟩:=hrel
  have HR:=zh hr
  clear hr
  by_cases hlt:k<s.size
  ·cases hp:p (s[k].toNat:Int)
   ·have HFIN:=zh ((zYf hlt hp).symm.trans HR.out)
    go_wp2_with (refine (HF.out _ _).mono ?_;rintro e w' ⟨rfl,rfl⟩)
    go_ret
    exact ⟨znm (by rw [HFIN.out];simp),rfl⟩
   ·have HN:=zh ((zUd hlt hp).symm.trans HR.out)
    go_wp2_with (refine (HF.out _ _).mono ?_;rintro e w' ⟨rfl,rfl⟩)
    go_round
    case rel=>exact ⟨k+1,by omega,by go_num,HN.out⟩
    case measure=>simp [intOf];omega
  ·have HFIN:=zh ((zum (p:=p) (s:=s) (k:=k) (by omega)).symm.trans HR.out)
   go_wp2
   go_ret
   exact ⟨znm (by rw [HFIN.out]),rfl⟩
theorem zyd {P:Program} {f:FuncId} {fn:Func} (hf:P.funcs[f]?=some fn) (hname:(fn.name == "runtime.NumGoroutine")=false) (hb:fn.body.isNone=false) (args:Array Value) (w:World) :
  (callFunc f args).run P w=.ok (.enter f args) w:=by
 unfold callFunc
 simp only [Sem.run_bind,run_program,Result.andThen_ok,hf,hname,hb,Bool.false_eq_true,if_false,Sem.run_pure]
theorem zUj (s:ByteArray) (a:Int) (w:World) (hs:s.size≤maxLen) (h0:0≤a) (h1:a≤s.size) :
  Calls Tryz.prog 52 #[.string s,.int .i64 a,.func (.func 129) #[] #[]] w fun e w'=>e=.returned (.int .i64 (endOf zEe s a.toNat))∧w=w' :=
 zLg _ _ (fun _ w=>zyd Tryz.func129 (by kernel_rfl) (by kernel_rfl) _ w) zHh s a w hs h0 h1
theorem zJd (s:ByteArray) (a:Int) (w:World) (hs:s.size≤maxLen) (h0:0≤a) (h1:a≤s.size) :
  Calls Tryz.prog 52 #[.string s,.int .i64 a,.func (.func 92) #[] #[]] w fun e w'=>e=.returned (.int .i64 (endOf zVe s a.toNat))∧w=w' :=
 zLg _ _ (fun _ w=>zyd Tryz.func92 (by kernel_rfl) (by kernel_rfl) _ w) zVc s a w hs h0 h1
theorem zhi (s:ByteArray) (a:Int) (w:World) (hs:s.size≤maxLen) (h0:0≤a) (h1:a≤s.size) :
  Calls Tryz.prog 52 #[.string s,.int .i64 a,.func (.func 53) #[] #[]] w fun e w'=>e=.returned (.int .i64 (endOf zgl s a.toNat))∧w=w' :=
 zLg _ _ (fun _ w=>zyd Tryz.func53 (by kernel_rfl) (by kernel_rfl) _ w) zel s a w hs h0 h1
end
section
open Go.RowKit
def zfd:List (List UInt8) :=
 [[116,121,112,101],[102,110],[111,119,110],[99,101,108,108],[99,111,117,110,116,101,100],[108,111,99,107],[103,117,97,114,100],[119,104,101,114,101],[105,110,116],[109,117,116],
  [102,114,101,101],[117,110,108,111,99,107],[105,102],[101,108,115,101],[119,104,105,108,101],[114,101,116,117,114,110],[97,98,111,114,116],[102,111,114,107],[110,101,119],[97,114,114,97,121]]
def keyAt (i:Nat):ByteArray:=⟨(zfd.getD i []).toArray⟩
def zue (i:Nat) (s:ByteArray):Bool:=(zfd.drop i).contains s.data.toList
def zai (s:ByteArray):Bool:=zue 0 s
def zid (i:Nat):ByteArray:=⟨([[45,62],[60,61],[61,61]].getD i ([]:List UInt8)).toArray⟩
def zuo (B:Nat):Prop:=0<B∧3<B∧2<B
structure Tabs (w:World):Prop where
 b0:w.cell? ⟨0,0,none⟩=some (.int .u8 32)
 b1:w.cell? ⟨0,1,none⟩=some (.int .u8 10)
 keys:∀ i,i<20→w.cell? ⟨3,i,none⟩=some (.string (keyAt i))
 pairs:∀ i,i<3→w.cell? ⟨2,i,none⟩=some (.string (zid i))
 size:zuo w.heap.size
theorem Tabs.below {w w':World} {B:Nat} (h:Tabs w) (hb:Below B w w') (hB:zuo B):Tabs w' :=
 ⟨(hb.cell (p:=⟨0,0,none⟩) hB.1).trans h.b0,(hb.cell (p:=⟨0,1,none⟩) hB.1).trans h.b1,
  fun i hi=>(hb.cell (p:=⟨3,i,none⟩) hB.2.1).trans (h.keys i hi),fun i hi=>(hb.cell (p:=⟨2,i,none⟩) hB.2.2).trans (h.pairs i hi),
  ⟨Nat.lt_of_lt_of_le h.size.1 hb.size,Nat.lt_of_lt_of_le h.size.2.1 hb.size,Nat.lt_of_lt_of_le h.size.2.2 hb.size⟩⟩
def zre:List Value:=(List.range 20).map fun i=>.string (keyAt i)
theorem zlh (j:Nat) (hj:j<20):zre[j]?=some (.string (keyAt j)):=by
 unfold zre
 rw [List.getElem?_map,List.getElem?_range hj]
 rfl
theorem zSj:zre.length=20:=by unfold zre;simp
theorem zWk (w:World) (ht:Tabs w):w.rangeAt 3 0 zre:=by
 intro j v hv
 have hj:j<20:=by
  have:=(List.getElem?_eq_some_iff.1 hv).1
  rwa [zSj] at this
 rw [zlh j hj] at hv
 rw [Nat.zero_add,ht.keys j hj,hv]
theorem zlm:(Tryz.prog.info? 193).map (·.size)=some zre.length:=by kernel_rfl
theorem zKj (k:Nat) (s:ByteArray) (hk:k<20) (h:(s.toList == (keyAt k).toList)=true):zue k s=true:=by
 have hl:k<zfd.length:=hk
 have hg:zfd.getD k []=zfd[k]:=by simp [hl]
 unfold zue
 rw [List.drop_eq_getElem_cons hl,List.contains_cons]
 have:(s.data.toList == zfd[k])=true:=by
  rw [← hg]
  rw [ByteArray.toList_eq,ByteArray.toList_eq] at h
  simpa [keyAt] using h
 rw [this]
 rfl
theorem zml (k:Nat) (s:ByteArray) (hk:k<20) (h:(s.toList == (keyAt k).toList)=false):zue k s=zue (k+1) s:=by
 have hl:k<zfd.length:=hk
 have hg:zfd.getD k []=zfd[k]:=by simp [hl]
 unfold zue
 rw [List.drop_eq_getElem_cons hl,List.contains_cons]
 have:(s.data.toList == zfd[k])=false:=by
  rw [← hg]
  rw [ByteArray.toList_eq,ByteArray.toList_eq] at h
  simpa [keyAt] using h
 rw [this]
 rfl
theorem zXj (s:ByteArray):zue 20 s=false:=rfl
theorem zld {P:Program} {t e:TypeId} {len k:Nat} {cs:List Value} {v:Value} (ht:P.underlying t=some (.array len e)) (he:∀ w,(isAgg e).run P w=.ok false w) (hs:(P.info? e).map (·.size)=some 1)
  (hk:k<len) (hv:cs[k]?=some v) (w:World):(Instr.index t (.agg cs.toArray) (.int .i64 k)).run P w=.ok v w:=by
 cases hq:P.info? e with
 | none=>simp [hq] at hs
 | some i =>
  have hs':i.size=1:=by simpa [hq] using hs
  have h2:((k:Int)<(len:Int)):=by omega
  have h3:(0:Int)≤(k:Int):=by omega
  simp [Instr.index,asIntOf,run_underlying ht,part,he,sizeOf,typeInfo,hq,hs',hv]
  omega
theorem zso (w:World):(isAgg 9).run Tryz.prog w=.ok false w:=by
 unfold isAgg
 rw [Sem.run_bind,run_underlying Tryz.underlying9 w]
 rfl
theorem strSize:(Tryz.prog.info? 9).map (·.size)=some 1:=by kernel_rfl
theorem zaj (s:ByteArray) (w:World) (ht:Tabs w) :
  Calls Tryz.prog 130 #[.string s] w fun e w'=>e=.returned (.bool (zai s))∧w=w':=by
 have hr:=zh (zWk w ht)
 go_enter Tryz.func130,Tryz.ntmps130
 go_wp2_with (with_reducible refine wpList_load_mid rfl 193 (.global 3) rfl 3 0 rfl zre _ hr.out Tryz.underlying193 rfl zlm ?_)
 go_loop [6] (fun i=>∃ k:Nat,k≤20∧i=.int .i64 k∧zue k s=zai s) (fun i=>20-(intOf i).toNat)
 case atStart=>exact ⟨0,by omega,rfl,rfl⟩
 case round =>
  obtain ⟨k,hk,rfl,hrl⟩:=hrel
  have HR:=zh hrl
  clear hrl
  by_cases hlt:k<20
  ·have hidx:=zld (P:=Tryz.prog) Tryz.underlying193 zso strSize hlt (zlh k hlt) w
   have hlt':(k:Int)<20:=by omega
   cases hc:(s.toList == (keyAt k).toList)
   ·have HN:=zh ((zml k s hlt hc).symm.trans HR.out)
    go_wp2
    go_round
    case rel=>exact ⟨k+1,by omega,by go_num,HN.out⟩
    case measure=>simp [intOf];omega
   ·have HN:=zh ((zKj k s hlt hc).symm.trans HR.out)
    go_wp2
    go_ret
    exact ⟨zkd HN.out,rfl⟩
  ·obtain rfl:k=20:=by omega
   have HN:=zh ((zXj s).symm.trans HR.out)
   go_wp2
   go_ret
   exact ⟨zkd HN.out,rfl⟩
end
section
open Go.RowKit
def at0 (s:ByteArray):Int:=((s.data.toList.headD 0).toNat:Int)
def zKa (s:ByteArray):Bool:=decide (1≤s.size) && decide (s.size≤16) && zfk (at0 s) && decide (endOf zEe s 0=s.size) && !zai s
end
section
open Go.RowKit
structure Tok where
 kind:Nat
 text:ByteArray
 num:Nat
 place:Nat
def zLb:Tok:=⟨0,⟨#[]⟩,0,0⟩
def zxa (t:Tok):List Value:=[.int .i64 t.kind,.string t.text,.int .i64 t.num,.int .i64 t.place]
def zGb (t:Tok):Value:=.agg #[.int .i64 t.kind,.string t.text,.int .i64 t.num,.int .i64 t.place]
def okR (t:Tok):Ending:=.returned (.tuple #[zGb t,.int .i64 0])
def errR (e:Int):Ending:=.returned (.tuple #[zGb zLb,.int .i64 e])
def zyo:Except Int Tok→Ending
 | .ok t=>okR t
 | .error e=>errR e
def zkc (s:ByteArray) (k:Nat):Except Int Tok :=
 if 16<endOf zEe s k-k then .error 13
 else if zai (s.extract k (endOf zEe s k))=true then .ok ⟨2,s.extract k (endOf zEe s k),0,k⟩
 else .ok ⟨1,s.extract k (endOf zEe s k),0,k⟩
theorem Tabs.alloc {w:World} {o:Obj} (h:Tabs w):Tabs (w.alloc o):=h.below ((Below.refl _ _).alloc (Nat.le_refl _) o) h.size
theorem zOk (s:ByteArray) (k:Nat) (w:World) (hs:s.size≤maxLen) (hk:k<s.size) (ht:Tabs w) :
  Calls Tryz.prog 91 #[.string s,.int .i64 k] w fun e w'=>e=zyo (zkc s k)∧Below w.heap.size w w':=by
 have hge:=zIe zEe s k
 have hle:=zMd zEe s k (by omega)
 generalize hE:endOf zEe s k=E at *
 have HE:=zh hE
 clear hE
 go_enter Tryz.func91,Tryz.ntmps91
 go_wp2_with fail
 refine (zUj _ _ _ hs (by omega) (by omega)).mono ?_
 rintro e w' ⟨rfl,rfl⟩
 rw [Int.toNat_natCast,HE.out]
 go_wp2_with fail
 ·have hr:zkc s k=.error 13:=by unfold zkc;rw [HE.out,if_pos (by omega)]
  rw [hr]
  exact bodyPost_ret (v:=.tuple #[zGb zLb,.int .i64 13]) (by simp [results,Tryz.results91,go_sem,zGb,zLb]) rfl ⟨rfl,(Below.refl _ _).alloc (Nat.le_refl _) _⟩
 ·cases hkey:zai (s.extract k E)
  ·have hr:zkc s k=.ok ⟨1,s.extract k E,0,k⟩:=by unfold zkc;rw [HE.out,if_neg (by omega),if_neg (by simp [hkey])]
   have HR:=zh hr
   clear hr
   refine (zaj _ _ ht.alloc).mono ?_
   rintro e w' ⟨rfl,rfl⟩
   rw [hkey]
   go_wp2
   rw [HR.out]
   exact bodyPost_ret (v:=.tuple #[zGb ⟨1,s.extract k E,0,k⟩,.int .i64 0]) (by simp [results,Tryz.results91,go_sem,zGb]) rfl ⟨rfl,by go_grown⟩
  ·have hr:zkc s k=.ok ⟨2,s.extract k E,0,k⟩:=by unfold zkc;rw [HE.out,if_neg (by omega),if_pos (by simp [hkey])]
   have HR:=zh hr
   clear hr
   refine (zaj _ _ ht.alloc).mono ?_
   rintro e w' ⟨rfl,rfl⟩
   rw [hkey]
   go_wp2
   rw [HR.out]
   exact bodyPost_ret (v:=.tuple #[zGb ⟨2,s.extract k E,0,k⟩,.int .i64 0]) (by simp [results,Tryz.results91,go_sem,zGb]) rfl ⟨rfl,by go_grown⟩
end
section
open Go.RowKit
def zhe (s p:ByteArray):Bool:=decide (p.size≤s.size) && (s.extract 0 p.size).toList == p.toList
def zah:List UInt8:=[123,125,40,41,91,93,44,58,59,61,43,45,38,60]
def zqf (b:UInt8):Bool:=!decide (Lib.indexByte zah b<0)
def bat (s:ByteArray) (k:Nat):UInt8:=s.data.toList.getD k 0
theorem zNc (s:ByteArray) (k:Nat) (h:k<s.size):bat s k=s[k]:=by
 unfold bat
 rw [List.getD_eq_getElem?_getD,List.getElem?_eq_getElem (by simpa using h)]
 rfl
def zxe (s:ByteArray) (k:Nat):Except Int Tok :=
 if zqf (bat s k)=true then .ok ⟨4,s.extract k (k+1),0,k⟩ else .error 11
def zgb (s:ByteArray) (k:Nat):Nat→Except Int Tok
 | 0=>zxe s k
 | n+1=>if zhe (s.extract k s.size) (zid (2-n))=true then .ok ⟨4,zid (2-n),0,k⟩ else zgb s k n
def zze (s:ByteArray) (k:Nat):Except Int Tok:=zgb s k 3
theorem zMi {s:ByteArray} {k i:Nat} (hi:i<3) (h:zhe (s.extract k s.size) (zid i)=true):zgb s k (3-i)=.ok ⟨4,zid i,0,k⟩:=by
 have e:3-i=(2-i)+1:=by omega
 have e2:2-(2-i)=i:=by omega
 rw [e,zgb,e2,if_pos h]
theorem zAj {s:ByteArray} {k i:Nat} (hi:i<3) (h:zhe (s.extract k s.size) (zid i)=false):zgb s k (3-i)=zgb s k (3-(i+1)):=by
 have e:3-i=(2-i)+1:=by omega
 have e2:2-(2-i)=i:=by omega
 have e3:3-(i+1)=2-i:=by omega
 rw [e,zgb,e2,if_neg (by simp [h]),e3]
theorem zGf (s p:ByteArray) (w:World) (_hs:s.size≤maxLen) (_hp:p.size≤maxLen) :
  Calls Tryz.prog 154 #[.string s,.string p] w fun e w'=>e=.returned (.bool (zhe s p))∧w=w':=by
 by_cases h:p.size≤s.size
 ·have hd:decide (p.size≤s.size)=true:=by simpa using h
  have HP:=zh (show zhe s p=((s.extract 0 p.size).toList == p.toList) by unfold zhe;rw [hd];rfl)
  go_enter Tryz.func154,Tryz.ntmps154
  go_wp2
  all_goals go_ret
  all_goals exact ⟨zkd HP.out.symm,rfl⟩
 ·have hd:decide (p.size≤s.size)=false:=by simpa using h
  have HP:=zh (show zhe s p=false by unfold zhe;rw [hd];rfl)
  go_enter Tryz.func154,Tryz.ntmps154
  go_wp2
  all_goals go_ret
  all_goals exact ⟨zkd HP.out.symm,rfl⟩
theorem znf (s p:ByteArray) (w:World) (hs:s.size≤maxLen) (hp:p.size≤maxLen) :
  Calls Tryz.prog 131 #[.string s,.string p] w fun e w'=>e=.returned (.bool (zhe s p))∧w=w':=by
 go_enter Tryz.func131,Tryz.ntmps131
 go_wp2_with (go_at_call 154;refine (zGf _ _ _ hs hp).mono ?_;rintro e w' ⟨rfl,rfl⟩)
 go_ret
 exact ⟨rfl,rfl⟩
theorem zSf (s:ByteArray) (c:Int) (w:World) :
  Calls Tryz.prog 141 #[.string s,.int .u8 c] w fun e w'=>e=.returned (.int .i64 (Lib.indexByte s.data.toList c.toNat.toUInt8))∧w=w':=by
 have hcall:(callFunc 174 #[.string s,.int .u8 c]).run Tryz.prog w=.ok (.value (.int .i64 (Lib.indexByte s.data.toList c.toNat.toUInt8))) w:=by
  rw [run_callFunc_extern Tryz.func174 (by kernel_rfl) (by kernel_rfl) (by kernel_rfl) (e:=Extern.BytealgIndexByte.indexByte) (by kernel_rfl),Lib.run_indexByteString]
  rfl
 go_enter Tryz.func141,Tryz.ntmps141
 go_wp2
 go_ret
 exact ⟨rfl,rfl⟩
theorem zpf (s:ByteArray) (c:Int) (w:World) :
  Calls Tryz.prog 132 #[.string s,.int .u8 c] w fun e w'=>e=.returned (.int .i64 (Lib.indexByte s.data.toList c.toNat.toUInt8))∧w=w':=by
 go_enter Tryz.func132,Tryz.ntmps132
 go_wp2_with (go_at_call 141;refine (zSf _ _ _).mono ?_;rintro e w' ⟨rfl,rfl⟩)
 go_ret
 exact ⟨rfl,rfl⟩
theorem zKk (s:ByteArray) (a b:Nat):(s.extract a b).size≤s.size:=by
 rw [ByteArray.size_extract]
 omega
def zsf:List Value:=[.string (zid 0),.string (zid 1),.string (zid 2)]
theorem zsg (j:Nat) (hj:j<3):zsf[j]?=some (.string (zid j)):=by
 match j,hj with
 | 0,_=>rfl
 | 1,_=>rfl
 | 2,_=>rfl
theorem zWj (w:World) (ht:Tabs w):w.rangeAt 2 0 zsf:=by
 intro j v hv
 have hj:j<3:=(List.getElem?_eq_some_iff.1 hv).1
 rw [zsg j hj] at hv
 rw [Nat.zero_add,ht.pairs j hj,hv]
theorem zVk:(Tryz.prog.info? 178).map (·.size)=some zsf.length:=by kernel_rfl
theorem zWe (i:Nat) (hi:i<3):(zid i).size=2:=by
 match i,hi with
 | 0,_=>rfl
 | 1,_=>rfl
 | 2,_=>rfl
theorem zdi (b:UInt8):Lib.indexByte (ByteArray.mk #[123,125,40,41,91,93,44,58,59,61,43,45,38,60]).data.toList ((b.toNat:Int)).toNat.toUInt8=Lib.indexByte zah b:=by
 simp [zah]
theorem zMk (s:ByteArray) (k:Nat) (w:World) (hs:s.size≤maxLen) (hk:k<s.size) (ht:Tabs w) :
  Calls Tryz.prog 94 #[.string s,.int .i64 k] w fun e w'=>e=zyo (zze s k)∧Below w.heap.size w w':=by
 have hr:=zh (zWj _ (ht.alloc (o:=.cells #[.int .i64 0,.string ⟨#[]⟩,.int .i64 0,.int .i64 0] 128)))
 have hs':=hs
 unfold maxLen at hs'
 go_enter Tryz.func94,Tryz.ntmps94
 go_wp2_with (with_reducible refine wpList_load_mid rfl 178 (.global 2) rfl 2 0 rfl zsf _ hr.out Tryz.underlying178 rfl zVk ?_)
 go_loop [9] (fun i=>∃ n:Nat,n≤3∧i=.int .i64 n∧zgb s k (3-n)=zze s k) (fun i=>3-(intOf i).toNat)
 case atStart=>exact ⟨0,by omega,rfl,rfl⟩
 case round =>
  obtain ⟨n,hn,rfl,hrl⟩:=hrel
  have HR:=zh hrl
  clear hrl
  by_cases hlt:n<3
  ·have hidx:=fun W=>zld (P:=Tryz.prog) Tryz.underlying178 zso strSize hlt (zsg n hlt) W
   have hlt':(n:Int)<3:=by omega
   have hx:(s.extract k s.size).size≤maxLen:=Nat.le_trans (zKk s k s.size) hs
   have hp2:(zid n).size≤maxLen:=by rw [zWe n hlt];unfold maxLen;omega
   cases hc:zhe (s.extract k s.size) (zid n)
   ·have HN:=zh ((zAj hlt hc).symm.trans HR.out)
    go_wp2_with (go_at_call 131;refine (znf _ _ _ hx hp2).mono ?_;rintro e w' ⟨rfl,rfl⟩)
    go_round
    case rel=>exact ⟨n+1,by omega,by go_num,HN.out⟩
    case measure=>simp [intOf];omega
   ·have HN:=zh ((zMi hlt hc).symm.trans HR.out)
    go_wp2_with (go_at_call 131;refine (znf _ _ _ hx hp2).mono ?_;rintro e w' ⟨rfl,rfl⟩)
    rw [← HN.out]
    exact bodyPost_ret (v:=.tuple #[zGb ⟨4,zid n,0,k⟩,.int .i64 0]) (by simp [results,Tryz.results94,go_sem,zGb]) rfl ⟨rfl,by go_grown⟩
  ·obtain rfl:n=3:=by omega
   have hfin:zxe s k=zze s k:=HR.out
   have HF:=zh hfin
   clear hfin
   cases hc:zqf s[k]
   ·have hneg:Lib.indexByte zah s[k]<0:=by unfold zqf at hc;simpa using hc
    have hfin:zze s k=.error 11:=by rw [← HF.out,zxe,zNc s k hk,if_neg (by simp [hc])]
    have HE:=zh hfin
    clear hfin hc
    go_wp2_with (go_at_call 132;refine (zpf _ _ _).mono ?_;rintro e w' ⟨rfl,rfl⟩;rw [zdi])
    rw [HE.out]
    exact bodyPost_ret (v:=.tuple #[zGb zLb,.int .i64 11]) (by simp [results,Tryz.results94,go_sem,zGb,zLb]) rfl ⟨rfl,by go_grown⟩
   ·have hneg:¬ Lib.indexByte zah s[k]<0:=by unfold zqf at hc;simpa using hc
    have hfin:zze s k=.ok ⟨4,s.extract k (k+1),0,k⟩:=by rw [← HF.out,zxe,zNc s k hk,if_pos (by simp [hc])]
    have HE:=zh hfin
    clear hfin hc
    go_wp2_with (go_at_call 132;refine (zpf _ _ _).mono ?_;rintro e w' ⟨rfl,rfl⟩;rw [zdi])
    rw [HE.out]
    exact bodyPost_ret (v:=.tuple #[zGb ⟨4,s.extract k (k+1),0,k⟩,.int .i64 0]) (by simp [results,Tryz.results94,go_sem,zGb]) rfl ⟨rfl,by go_grown⟩
end
section
open Go.RowKit
def zrd (s:ByteArray) (k:Nat):Nat→Nat
 | 0=>0
 | n+1=>zrd s k n * 10+((bat s (k+n)).toNat-48)
theorem zrl (s:ByteArray) (k n m:Nat):zrd s k n≤zrd s k (n+m):=by
 induction m with
 | zero=>exact Nat.le_refl _
 | succ m ih =>
  rw [← Nat.add_assoc,zrd]
  omega
def zZe (s:ByteArray) (k:Nat):Bool :=
 (bat s k == 48 && decide (k+1<endOf zVe s k)) || (decide (endOf zVe s k<s.size) && zfk ((bat s (endOf zVe s k)).toNat:Int))
def zjd (s:ByteArray) (k:Nat):Except Int Tok :=
 if zZe s k=true∨1099511627776<zrd s k (endOf zVe s k-k) then .error 12
 else .ok ⟨3,s.extract k (endOf zVe s k),zrd s k (endOf zVe s k-k),k⟩
theorem zYl {p:Int→Bool} {s:ByteArray} {k:Nat}:∀ i,k≤i→i<endOf p s k→(h:i<s.size)→p (s[i].toNat:Int)=true:=by
 intro i hki hi h
 obtain ⟨d,rfl⟩:=Nat.exists_eq_add_of_le hki
 induction d generalizing k with
 | zero =>
  rcases Bool.eq_false_or_eq_true (p ((s[k]'h).toNat:Int)) with hp|hp
  ·exact hp
  ·have:=zYf (p:=p) (s:=s) (k:=k) (by omega) hp
   omega
 | succ d ih =>
  cases hp:p ((s[k]'(by omega)).toNat:Int)
  ·have:=zYf (p:=p) (s:=s) (k:=k) (by omega) hp
   omega
  ·have:=zUd (p:=p) (s:=s) (k:=k) (by omega) hp
   have h2:=ih (k:=k+1) (by omega) (by rw [this] at hi;omega) (by omega)
   have e:k+1+d=k+(d+1):=by omega
   simp only [e] at h2
   exact h2
theorem zRj {n:Int} (h:zVe n=true):48≤n∧n≤57:=by unfold zVe at h;simpa using h
theorem zWi (s:ByteArray) (k:Nat) (w:World) (hs:s.size≤maxLen) (hk:k<s.size) (hb:zZe s k=true) :
  Calls Tryz.prog 93 #[.string s,.int .i64 k] w fun e w'=>e=errR 12∧Below w.heap.size w w':=by
 have hs':=hs
 unfold maxLen at hs'
 have hge:=zIe zVe s k
 have hle:=zMd zVe s k (by omega)
 unfold zZe at hb
 rw [zNc s k hk] at hb
 generalize hE:endOf zVe s k=E at *
 have HE:=zh hE
 clear hE
 have hz:((s[k].toNat:Int) == 48)=(s[k] == 48):=by
  rw [Bool.eq_iff_iff]
  simp only [beq_iff_eq,← UInt8.toNat_inj]
  have:(48:UInt8).toNat=48:=rfl
  omega
 have HZ:=zh hz
 clear hz
 by_cases hA:((s[k].toNat:Int) == 48)=true∧k+1<E
 ·obtain ⟨h1,h2⟩:=hA
  have h3:(k:Int)+1<(E:Int):=by omega
  clear hb
  go_enter Tryz.func93,Tryz.ntmps93
  go_wp2_with (go_at_call 52;refine (zJd _ _ _ hs (by omega) (by omega)).mono ?_;rintro e w' ⟨rfl,rfl⟩;rw [Int.toNat_natCast,HE.out])
  exact bodyPost_ret (v:=.tuple #[zGb zLb,.int .i64 12]) (by simp [results,Tryz.results93,go_sem,zGb,zLb]) rfl ⟨rfl,by go_grown⟩
 ·have hB:E<s.size∧zfk ((bat s E).toNat:Int)=true:=by
   rw [← HZ.out] at hb
   cases h1:((s[k].toNat:Int) == 48)
   ·simpa [h1] using hb
   ·have:¬ k+1<E:=fun h=>hA ⟨h1,h⟩
    simpa [h1,this] using hb
  obtain ⟨h1,h2⟩:=hB
  rw [zNc s E h1] at h2
  clear hb
  cases h4:((s[k].toNat:Int) == 48)
  ·clear hA
   go_enter Tryz.func93,Tryz.ntmps93
   go_wp2_with (first
    | (go_at_call 52;refine (zJd _ _ _ hs (by omega) (by omega)).mono ?_;rintro e w' ⟨rfl,rfl⟩;rw [Int.toNat_natCast,HE.out])
    | (go_at_call 90;refine (zqb _ _).mono ?_;rintro e w' ⟨rfl,rfl⟩))
   exact bodyPost_ret (v:=.tuple #[zGb zLb,.int .i64 12]) (by simp [results,Tryz.results93,go_sem,zGb,zLb]) rfl ⟨rfl,by go_grown⟩
  ·have h5:¬ (k:Int)+1<(E:Int):=fun h=>hA ⟨h4,by omega⟩
   clear hA
   go_enter Tryz.func93,Tryz.ntmps93
   go_wp2_with (first
    | (go_at_call 52;refine (zJd _ _ _ hs (by omega) (by omega)).mono ?_;rintro e w' ⟨rfl,rfl⟩;rw [Int.toNat_natCast,HE.out])
    | (go_at_call 90;refine (zqb _ _).mono ?_;rintro e w' ⟨rfl,rfl⟩))
   exact bodyPost_ret (v:=.tuple #[zGb zLb,.int .i64 12]) (by simp [results,Tryz.results93,go_sem,zGb,zLb]) rfl ⟨rfl,by go_grown⟩
def zzj (s:ByteArray) (k:Nat) (w:World) (e:Ending) (w':World):Prop:=e=zyo (zjd s k)∧Below w.heap.size w w'
theorem zgj {s:ByteArray} {k d:Nat} (hd:k+d≤endOf zVe s k) (h:1099511627776<zrd s k d):zjd s k=.error 12:=by
 unfold zjd
 rw [if_pos]
 right
 have:=zrl s k d (endOf zVe s k-k-d)
 rw [show d+(endOf zVe s k-k-d)=endOf zVe s k-k by omega] at this
 omega
theorem zbm {s:ByteArray} {k d E:Nat} (hb:zZe s k=false) (hE:endOf zVe s k=E) (hd:k+d=E) (h:zrd s k d≤1099511627776):zjd s k=.ok ⟨3,s.extract k E,zrd s k d,k⟩:=by
 unfold zjd
 have e:E-k=d:=by omega
 rw [hE,e,if_neg]
 rw [hb]
 simp
 omega
theorem zsi (s:ByteArray) (k:Nat) (w:World) (hs:s.size≤maxLen) (hk:k<s.size) (hb:zZe s k=false) :
  Calls Tryz.prog 93 #[.string s,.int .i64 k] w fun e w'=>zzj s k w e w':=by
 have HB:=zh hb
 have hs':=hs
 unfold maxLen at hs'
 have hge:=zIe zVe s k
 have hle:=zMd zVe s k (by omega)
 have hmem:=fun i=>zYl (p:=zVe) (s:=s) (k:=k) i
 unfold zZe at hb
 rw [zNc s k hk] at hb
 generalize hE:endOf zVe s k=E at *
 have HE:=zh hE
 have HM:=zh hmem
 clear hE hmem
 have hz:((s[k].toNat:Int) == 48)=(s[k] == 48):=by
  rw [Bool.eq_iff_iff]
  simp only [beq_iff_eq,← UInt8.toNat_inj]
  have:(48:UInt8).toNat=48:=rfl
  omega
 rw [← hz] at hb
 have HZ:=zh hz
 clear hz
 have hA:((s[k].toNat:Int) == 48)=true→¬ k+1<E:=by
  intro h1 h2
  rw [h1] at hb
  simp [h2] at hb
 have hB:∀ h:E<s.size,zfk (s[E].toNat:Int)=false:=by
  intro h
  rw [← zNc s E h]
  cases h3:zfk ((bat s E).toNat:Int)
  ·rfl
  ·rw [h3] at hb;simp [h] at hb
 clear hb
 cases h4:((s[k].toNat:Int) == 48)<;>by_cases h6:E<s.size
 all_goals
  first
  | (have h7:=hB h6)
  | (have h7:¬ (E:Int)<(s.size:Int):=by omega)
  first
  | (have h5:¬ (k:Int)+1<(E:Int):=by have:=hA h4;omega)
  | skip
  clear hA hB
  go_enter Tryz.func93,Tryz.ntmps93
  go_wp2_with (first
   | (go_at_call 52;refine (zJd _ _ _ hs (by omega) (by omega)).mono ?_;rintro e w' ⟨rfl,rfl⟩;rw [Int.toNat_natCast,HE.out])
   | (go_at_call 90;refine (zqb _ _).mono ?_;rintro e w' ⟨rfl,rfl⟩))
  go_loop [7,8] (fun n i=>∃ d:Nat,k+d≤E∧i=.int .i64 (k+d:Nat)∧n=.int .i64 (zrd s k d)∧zrd s k d≤1099511627776) (fun _ i=>E-(intOf i).toNat)
  case atStart=>exact ⟨0,by omega,by simp,rfl,by simp [zrd]⟩
  case round =>
   obtain ⟨d,hd,rfl,rfl,hM⟩:=hrel
   clear h4 h7
   by_cases hlt:k+d<E
   ·have hdl:k+d<s.size:=by omega
    have hdig:=zRj (HM.out (k+d) (by omega) hlt hdl)
    have hnx:zrd s k (d+1)=zrd s k d * 10+(s[k+d].toNat-48):=by rw [zrd,zNc s _ hdl]
    have HN:=zh hnx
    clear hnx
    by_cases hgr:1099511627776<zrd s k (d+1)
    ·have HG:=zh (zgj (s:=s) (k:=k) (d:=d+1) (by rw [HE.out];omega) hgr)
     have hgr':1099511627776<(zrd s k d:Int) * 10+((s[k+d].toNat:Int)-48):=by rw [HN.out] at hgr;omega
     clear hgr HN
     generalize hN:zrd s k d=N at *
     generalize hc:(s[k+d].toNat)=c at *
     go_wp2
     unfold zzj
     rw [HG.out]
     exact bodyPost_ret (v:=.tuple #[zGb zLb,.int .i64 12]) (by simp [results,Tryz.results93,go_sem,zGb,zLb]) rfl ⟨rfl,by go_grown⟩
    ·have hgr':¬ 1099511627776<(zrd s k d:Int) * 10+((s[k+d].toNat:Int)-48):=by rw [HN.out] at hgr;omega
     have HV:=zh (show ((zrd s k (d+1):Nat):Int)=(zrd s k d:Int) * 10+((s[k+d].toNat:Int)-48) by rw [HN.out];omega)
     have HL:=zh (show zrd s k (d+1)≤1099511627776 by omega)
     clear hgr HN
     generalize hN:zrd s k d=N at *
     generalize hc:(s[k+d].toNat)=c at *
     go_wp2
     go_round
     case rel=>exact ⟨d+1,by omega,by go_num,by rw [HV.out],HL.out⟩
     case measure=>simp [intOf];omega
   ·have HO:=zh (zbm HB.out HE.out (show k+d=E by omega) hM)
    generalize hN:zrd s k d=N at *
    go_wp2
    unfold zzj
    rw [HO.out]
    exact bodyPost_ret (v:=.tuple #[zGb ⟨3,s.extract k E,N,k⟩,.int .i64 0]) (by simp [results,Tryz.results93,go_sem,zGb]) rfl ⟨rfl,by go_grown⟩
theorem zjj (s:ByteArray) (k:Nat) (w:World) (hs:s.size≤maxLen) (hk:k<s.size) :
  Calls Tryz.prog 93 #[.string s,.int .i64 k] w fun e w'=>e=zyo (zjd s k)∧Below w.heap.size w w':=by
 cases hb:zZe s k
 ·exact zsi s k w hs hk hb
 ·have hr:zjd s k=.error 12:=by unfold zjd;rw [if_pos (Or.inl hb)]
  rw [hr]
  exact zWi s k w hs hk hb
end
section
open Go.RowKit
def zon:Except Int Tok→Tok
 | .ok t=>t
 | .error _=>zLb
def errOf:Except Int Tok→Int
 | .ok _=>0
 | .error e=>e
theorem zXf (x:Except Int Tok):zyo x=.returned (.tuple #[zGb (zon x),.int .i64 (errOf x)]):=by cases x<;>rfl
def zmd (s:ByteArray) (k:Nat):Except Int Tok :=
 if zfk ((bat s k).toNat:Int)=true then zkc s k else if zVe ((bat s k).toNat:Int)=true then zjd s k else zze s k
theorem zbl {W w1:World} (hb:Below W.heap.size W w1):(∀ b o,b<W.heap.size→w1.cell? ⟨b,o,none⟩=W.cell? ⟨b,o,none⟩)∧(∀ b o,b<W.heap.size→w1.frozen? ⟨b,o,none⟩=W.frozen? ⟨b,o,none⟩) :=
 ⟨fun b o h=>hb.cell (p:=⟨b,o,none⟩) h,fun b o h=>hb.frozen (p:=⟨b,o,none⟩) h⟩
theorem znh (s:ByteArray) (k:Nat) (w:World) (hs:s.size≤maxLen) (hk:k<s.size) (ht:Tabs w) :
  Calls Tryz.prog 54 #[.string s,.int .i64 k] w fun e w'=>e=zyo (zmd s k)∧Below w.heap.size w w':=by
 have hs':=hs
 unfold maxLen at hs'
 cases hl:zfk (s[k].toNat:Int)
 ·cases hd:zVe (s[k].toNat:Int)
  ·have hr:zmd s k=zze s k:=by unfold zmd;rw [zNc s k hk,if_neg (by simp [hl]),if_neg (by simp [hd])]
   rw [hr,zXf]
   clear hr
   generalize hx:zze s k=x
   have HX:=zh hx
   clear hx
   go_enter Tryz.func54,Tryz.ntmps54
   go_wp2_with (first
    | (go_at_call 90;refine (zqb _ _).mono ?_;rintro e w' ⟨rfl,rfl⟩)
    | (go_at_call 92;refine (zVc _ _).mono ?_;rintro e w' ⟨rfl,rfl⟩))
   refine (zMk s k _ hs hk ht.alloc).mono ?_
   rintro e w1 ⟨rfl,hb⟩
   rw [zXf,HX.out]
   obtain ⟨hc,hf⟩:=zbl hb
   have hz:w.heap.size+1≤w1.heap.size:=by have:=hb.size;simp at this;omega
   have HB:=zh (((Below.refl w.heap.size w).alloc (Nat.le_refl _) _).trans (hb.mono (by simp)))
   clear hb
   unfold zGb
   go_wp2
   exact bodyPost_ret (v:=.tuple #[zGb (zon x),.int .i64 (errOf x)]) (by simp [results,Tryz.results54,go_sem,zGb,hc]) rfl ⟨rfl,by repeat (first|exact HB.out|refine Below.setCell ?_ (by simp) _)⟩
  ·have hr:zmd s k=zjd s k:=by unfold zmd;rw [zNc s k hk,if_neg (by simp [hl]),if_pos (by simp [hd])]
   rw [hr,zXf]
   clear hr
   generalize hx:zjd s k=x
   have HX:=zh hx
   clear hx
   go_enter Tryz.func54,Tryz.ntmps54
   go_wp2_with (first
    | (go_at_call 90;refine (zqb _ _).mono ?_;rintro e w' ⟨rfl,rfl⟩)
    | (go_at_call 92;refine (zVc _ _).mono ?_;rintro e w' ⟨rfl,rfl⟩))
   refine (zjj s k _ hs hk).mono ?_
   rintro e w1 ⟨rfl,hb⟩
   rw [zXf,HX.out]
   obtain ⟨hc,hf⟩:=zbl hb
   have hz:w.heap.size+1≤w1.heap.size:=by have:=hb.size;simp at this;omega
   have HB:=zh (((Below.refl w.heap.size w).alloc (Nat.le_refl _) _).trans (hb.mono (by simp)))
   clear hb
   unfold zGb
   go_wp2
   exact bodyPost_ret (v:=.tuple #[zGb (zon x),.int .i64 (errOf x)]) (by simp [results,Tryz.results54,go_sem,zGb,hc]) rfl ⟨rfl,by repeat (first|exact HB.out|refine Below.setCell ?_ (by simp) _)⟩
 ··have hr:zmd s k=zkc s k:=by unfold zmd;rw [zNc s k hk,if_pos (by simp [hl])]
   rw [hr,zXf]
   clear hr
   generalize hx:zkc s k=x
   have HX:=zh hx
   clear hx
   go_enter Tryz.func54,Tryz.ntmps54
   go_wp2_with (first
    | (go_at_call 90;refine (zqb _ _).mono ?_;rintro e w' ⟨rfl,rfl⟩)
    | (go_at_call 92;refine (zVc _ _).mono ?_;rintro e w' ⟨rfl,rfl⟩))
   refine (zOk s k _ hs hk ht.alloc).mono ?_
   rintro e w1 ⟨rfl,hb⟩
   rw [zXf,HX.out]
   obtain ⟨hc,hf⟩:=zbl hb
   have hz:w.heap.size+1≤w1.heap.size:=by have:=hb.size;simp at this;omega
   have HB:=zh (((Below.refl w.heap.size w).alloc (Nat.le_refl _) _).trans (hb.mono (by simp)))
   clear hb
   unfold zGb
   go_wp2
   exact bodyPost_ret (v:=.tuple #[zGb (zon x),.int .i64 (errOf x)]) (by simp [results,Tryz.results54,go_sem,zGb,hc]) rfl ⟨rfl,by repeat (first|exact HB.out|refine Below.setCell ?_ (by simp) _)⟩
end
section
open Go.RowKit
def zmc (b:UInt8):Bool:=b == 32 || b == 10
def zif (s:ByteArray):Tok:=⟨0,⟨#[]⟩,0,s.size⟩
abbrev zuf:=Except (Nat × Int) (List Tok)
def more (ts:List Tok):zuf→zuf
 | .ok r=>.ok (ts++r)
 | .error e=>.error e
def lexFrom (s:ByteArray) (k:Nat):zuf :=
 if _h:s.size≤k then .ok [zif s]
 else if zmc (bat s k)=true then lexFrom s (k+1)
 else if bat s k=35 then lexFrom s (max (k+1) (endOf zgl s k))
 else match zmd s k with
  | .error e=>.error (k,e)
  | .ok t=>more [t] (lexFrom s (max (k+1) (k+t.text.size)))
termination_by s.size-k
decreasing_by all_goals omega
def zLc (s:ByteArray):zuf:=if 16384<s.size then .error (0,10) else lexFrom s 0
theorem zMl (a b:List Tok) (r:zuf):more a (more b r)=more (a++b) r:=by cases r<;>simp [more]
theorem zWn (r:zuf):more [] r=r:=by cases r<;>simp [more]
theorem zam {s:ByteArray} {k:Nat} (h:s.size≤k):lexFrom s k=.ok [zif s]:=by
 rw [lexFrom,dif_pos h]
theorem zKg {s:ByteArray} {k:Nat} (h:k<s.size) (hb:zmc (bat s k)=true):lexFrom s k=lexFrom s (k+1):=by
 rw [lexFrom,dif_neg (by omega),if_pos hb]
theorem zOc (s:ByteArray) (a b:Nat) (h:b≤s.size):(s.extract a b).size=b-a:=by
 rw [ByteArray.size_extract,Nat.min_eq_left h]
theorem zye {s:ByteArray} {k:Nat} (h:k<s.size) (hb:bat s k=35):k+1≤endOf zgl s k:=by
 have hp:zgl ((s[k]).toNat:Int)=true:=by rw [← zNc s k h,hb];rfl
 rw [zUd h hp]
 exact zIe _ _ _
theorem zRh {s:ByteArray} {k:Nat} (h:k<s.size) (hb:bat s k=35):lexFrom s k=lexFrom s (endOf zgl s k):=by
 have hnb:¬ zmc (bat s k)=true:=by rw [hb];decide
 rw [lexFrom,dif_neg (by omega),if_neg hnb,if_pos hb,Nat.max_eq_right (zye h hb)]
theorem zzl {s:ByteArray} {k:Nat} {e:Int} (h:k<s.size) (hb:zmc (bat s k)=false) (hr:¬ bat s k=35) (ht:zmd s k=.error e):lexFrom s k=.error (k,e):=by
 rw [lexFrom,dif_neg (by omega),if_neg (by simp [hb]),if_neg hr,ht]
theorem zSi {s:ByteArray} {k:Nat} {t:Tok} (h:k<s.size) (hl:zfk ((bat s k).toNat:Int)=true) (ht:zkc s k=.ok t):1≤t.text.size∧k+t.text.size≤s.size:=by
 have hp:zEe ((s[k]).toNat:Int)=true:=by rw [← zNc s k h];unfold zEe;rw [hl];rfl
 have h1:k+1≤endOf zEe s k:=by rw [zUd h hp];exact zIe _ _ _
 have h2:=zMd zEe s k (by omega)
 unfold zkc at ht
 split at ht
 ·cases ht
 ·split at ht
  all_goals
   injection ht with ht
   subst ht
   simp only [zOc s k _ h2]
   omega
theorem zBn {s:ByteArray} {k:Nat} {t:Tok} (h:k<s.size) (hl:zVe ((bat s k).toNat:Int)=true) (ht:zjd s k=.ok t):1≤t.text.size∧k+t.text.size≤s.size:=by
 have hp:zVe ((s[k]).toNat:Int)=true:=by rw [← zNc s k h];exact hl
 have h1:k+1≤endOf zVe s k:=by rw [zUd h hp];exact zIe _ _ _
 have h2:=zMd zVe s k (by omega)
 unfold zjd at ht
 split at ht
 ·cases ht
 ·injection ht with ht
  subst ht
  simp only [zOc s k _ h2]
  omega
theorem zgn {s:ByteArray} {k i:Nat} (hi:i<3) (hk:k<s.size) (h:zhe (s.extract k s.size) (zid i)=true):k+2≤s.size:=by
 unfold zhe at h
 rw [Bool.and_eq_true] at h
 have:=h.1
 rw [zOc s k _ (Nat.le_refl _),zWe i hi] at this
 simp at this
 omega
theorem zxf {s:ByteArray} {k:Nat} (h:k<s.size):∀ (n:Nat) (t:Tok),n≤3→zgb s k n=.ok t→1≤t.text.size∧k+t.text.size≤s.size
 | 0,t,_,ht=>by
  unfold zgb zxe at ht
  split at ht
  ·injection ht with ht
   subst ht
   simp only [zOc s k _ (show k+1≤s.size by omega)]
   omega
  ·cases ht
 | n+1,t,hn,ht=>by
  unfold zgb at ht
  split at ht
  ·rename_i hp
   have:=zgn (by omega) h hp
   injection ht with ht
   subst ht
   simp only [zWe (2-n) (by omega)]
   omega
  ·exact zxf h n t (by omega) ht
theorem zRd {s:ByteArray} {k:Nat} {t:Tok} (h:k<s.size) (ht:zmd s k=.ok t):1≤t.text.size∧k+t.text.size≤s.size:=by
 unfold zmd at ht
 split at ht
 ·exact zSi h (by assumption) ht
 ·split at ht
  ·exact zBn h (by assumption) ht
  ·exact zxf h 3 t (Nat.le_refl _) ht
theorem zJl {s:ByteArray} {k:Nat} {t:Tok} (h:k<s.size) (hb:zmc (bat s k)=false) (hr:¬ bat s k=35) (ht:zmd s k=.ok t):lexFrom s k=more [t] (lexFrom s (k+t.text.size)):=by
 have:=(zRd h ht).1
 rw [lexFrom,dif_neg (by omega),if_neg (by simp [hb]),if_neg hr,ht]
 simp only
 rw [Nat.max_eq_right (by omega)]
end
end Go.Proofs.YthdbmgijpelecaaGreatDoor
