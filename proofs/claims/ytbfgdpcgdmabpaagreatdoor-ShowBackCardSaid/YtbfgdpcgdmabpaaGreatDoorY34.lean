/- What the six tables that stage 3's rows list give the walks: the tables of lex (Tabs) and of strconv (Pow); the world of the witness; the contracts of laws of one text, and of a text with a number. -/
import Derived.Test.YtbfgdpcgdmabpaaGreatDoorY04
import Derived.Test.YtbfgdpcgdmabpaaGreatDoorY14
import Derived.Test.YtbfgdpcgdmabpaaGreatDoorY33
import Derived.LaidSub
import Derived.Test.YtbfgdpcgdmabpaaGreatDoorY13
import Derived.Test.YtbfgdpcgdmabpaaGreatDoorY15
import Derived.Test.YtbfgdpcgdmabpaaGreatDoorY16
import Derived.KernelRfl
namespace Go.Proofs.YtbfgdpcgdmabpaaGreatDoor
set_option maxRecDepth 100000
open Go.ChangeShapes Go.WideShapes Go.ChangeAt Go.ChangeMaps Go.RowKit
def zdl:List (String × DataW Unit):=[("math/bits.deBruijn32tab", Rows.laid_math_bits_deBruijn32tab),("math/bits.deBruijn64tab", Rows.laid_math_bits_deBruijn64tab),("internal/strconv.uint64pow10", Rows.laid_internal_strconv_uint64pow10),("lychgate/lex.keys", Rows.laid_lychgate_lex_keys),("lychgate/lex.blanks", Rows.laid_lychgate_lex_blanks),("lychgate/lex.pairs", Rows.laid_lychgate_lex_pairs)]
def zUw (x:String × DataW Unit):Bool:=x.1 == "lychgate/lex.keys" || x.1 == "lychgate/lex.blanks" || x.1 == "lychgate/lex.pairs"
def zbw (x:String × DataW Unit):Bool:=x.1 == "internal/strconv.uint64pow10"
theorem zIo:zdl.filter zUw=znw:=by kernel_rfl
theorem zDp:zdl.filter zbw=[("internal/strconv.uint64pow10", Lib.tabData .u64 Lib.pow10Tab)]:=by kernel_rfl
theorem zOg {W:World} (h:laidMetH Tryz.prog zdl W):Tabs W:=by
 have h1:=h.filter zUw
 rw [zIo] at h1
 exact zvk h1
theorem tPow:(Tryz.prog.globals[4]?).map (·.type)=some 207:=by kernel_rfl
theorem cU64:Tryz.prog.cellsOf 163=1:=by kernel_rfl
theorem cPow:Tryz.prog.cellsOf 207=20:=by kernel_rfl
theorem zDh {W:World} (h:laidMetH Tryz.prog zdl W):Pow W:=by
 have h1:=h.filter zbw
 rw [zDp,MakeChecks.laidMetH_plain _ _ _ (by kernel_rfl)] at h1
 have h2:=Lib.tabIs_of_head gPow tPow Tryz.underlying207 Tryz.underlying163 cU64 cPow h1
 exact ⟨cell_lt (h2.cell gPow 0 (by decide)),h2⟩
theorem Pow.later {W W':World} (h:Pow W) (hb:Below W.heap.size W W'):Pow W':=⟨Nat.lt_of_lt_of_le h.1 hb.size,(zZe.step h hb).2⟩
def zTw:DataW Unit→Value
 | .lit (.int k z)=>.int k z
 | _=>.bool false
def zfk:DataW Unit→Array Value
 | .agg ds=>(ds.map zTw).toArray
 | _=>#[]
noncomputable def laidWorld6 (os:Os):World :=
 { laidWorld os with heap:=(((laidWorld os).heap.modify 5 (laying (zfk Rows.laid_math_bits_deBruijn32tab))).modify 6 (laying (zfk Rows.laid_math_bits_deBruijn64tab))).modify 4 (laying (zfk Rows.laid_internal_strconv_uint64pow10)) }
theorem zfj (os:Os):laidMet Tryz.prog zdl ((laidWorld6 os).forCall (fun _ _=>0) ⟨#[],#[.string ⟨#[]⟩],[]⟩).memory :=
 laidMet_of_run' 8 (by kernel_rfl) (by kernel_rfl)
theorem znh (os:Os):laidMet Tryz.prog zdl ((laidWorld6 os).forCall (fun _ _=>0) ⟨#[],#[.string ⟨#[]⟩,.int .i64 0],[]⟩).memory :=
 laidMet_of_run' 8 (by kernel_rfl) (by kernel_rfl)
theorem zlj {H:Type} {enc:TypeId × Value→H} {f:FuncId} {fn:Func} {sp:ChangeSpec} {ts:List TypeId} (hp:fn.params=#[9]) (hr:fn.resultTypes=#[4]) (hvars:sp.vars=[])
  (hfn:∀ d:DataW H,sp.fn H [d]={ results:=[.lit (.bool true)],args:=[d] })
  (walk:∀ (s:ByteArray) (w:World),s.size≤maxLen→s.size≤140737488351232→Tabs w→Pow w→Calls Tryz.prog f #[.string s] w fun e w'=>e=.returned (.bool true)∧Below w.heap.size w w')
  (W:World) (base:Nat) (args:Array Value) (ds gs:List (DataW H)) (before:List MemPlace)
  (hval:∀ (j:Nat) t v,fn.params[j]?=some t→args[j]?=some v→Value.okWide Tryz.prog W .any base t v)
  (hW:DataW.Whole enc Tryz.prog fn.params.toList sp.vars false W args.toList ds gs before) (hreach:(DataW.weightsEach Tryz.prog (fn.params.toList++ts) (ds++gs)).all (·≤reachBytes)=true) (hL:laidMetH Tryz.prog zdl W) :
  Calls Tryz.prog f args W fun e W'=>∃ v,e=.returned v∧sp.post enc Tryz.prog fn false true false false W args v W':=by
 have hW':=hW
 obtain ⟨p,q,hA0,hV,rfl,hfz,hnd⟩:=hW
 rw [hvars] at hV
 have hA:DataW.TrodAll enc Tryz.prog W 0 (fun _=>true) true fn.params.toList args.toList ds p:=hA0
 rw [hp] at hA hval hreach
 obtain ⟨v0,vs0,d0,ds0,p0,q0,hargs,rfl,rfl,h0,r0⟩:=trodAll_cons hA
 obtain ⟨rfl,rfl,rfl⟩:=trodAll_nil r0
 obtain rfl:args=#[v0]:=by cases args;simp_all
 obtain ⟨rfl,rfl⟩:=trodVars_none hV
 obtain ⟨s,rfl,rfl,rfl,hs⟩:=open_string Tryz.underlying9 (hval 0 9 v0 (by simp) (by simp)) h0
 clear hA0
 have hla:s.size≤140737488351232:=by
  have:=sized_string hreach (j:=0) (t:=9) (bytes:=s.data.toList) rfl rfl
  rw [Array.length_toList] at this
  exact this
 refine (walk s W hs hla (zOg hL) (zDh hL)).mono fun e W' ⟨he,hb⟩=>⟨_,he,?_⟩
 exact zhp (by rw [hp]) hr hvars (hfn _) hs hW' hb
theorem zrh {H:Type} {enc:TypeId × Value→H} {f:FuncId} {fn:Func} {sp:ChangeSpec} {ts:List TypeId} (hp:fn.params=#[9,3]) (hr:fn.resultTypes=#[4]) (hvars:sp.vars=[])
  (hfn:∀ d1 d2:DataW H,sp.fn H [d1,d2]={ results:=[.lit (.bool true)],args:=[d1,d2] })
  (walk:∀ (a:ByteArray) (n:Int) (w:World),a.size≤maxLen→a.size≤140737488351232→(Lit.int .i64 n).wf=true→Tabs w→Pow w→Calls Tryz.prog f #[.string a,.int .i64 n] w fun e w'=>e=.returned (.bool true)∧Below w.heap.size w w')
  (W:World) (base:Nat) (args:Array Value) (ds gs:List (DataW H)) (before:List MemPlace)
  (hval:∀ (j:Nat) t v,fn.params[j]?=some t→args[j]?=some v→Value.okWide Tryz.prog W .any base t v)
  (hW:DataW.Whole enc Tryz.prog fn.params.toList sp.vars false W args.toList ds gs before) (hreach:(DataW.weightsEach Tryz.prog (fn.params.toList++ts) (ds++gs)).all (·≤reachBytes)=true) (hL:laidMetH Tryz.prog zdl W) :
  Calls Tryz.prog f args W fun e W'=>∃ v,e=.returned v∧sp.post enc Tryz.prog fn false true false false W args v W':=by
 have hW':=hW
 obtain ⟨p,q,hA0,hV,rfl,hfz,hnd⟩:=hW
 rw [hvars] at hV
 have hA:DataW.TrodAll enc Tryz.prog W 0 (fun _=>true) true fn.params.toList args.toList ds p:=hA0
 rw [hp] at hA hval hreach
 obtain ⟨v0,vs0,d0,ds0,p0,q0,hargs,rfl,rfl,h0,r0⟩:=trodAll_cons hA
 obtain ⟨v1,vs1,d1,ds1,p1,q1,hargs1,rfl,rfl,h1,r1⟩:=trodAll_cons r0
 obtain ⟨rfl,rfl,rfl⟩:=trodAll_nil r1
 obtain rfl:args=#[v0,v1]:=by cases args;simp_all
 obtain ⟨rfl,rfl⟩:=trodVars_none hV
 obtain ⟨a,rfl,rfl,rfl,hsa⟩:=open_string Tryz.underlying9 (hval 0 9 v0 rfl rfl) h0
 obtain ⟨n,rfl,rfl,rfl,hn⟩:=open_int Tryz.underlying3 (hval 1 3 v1 rfl rfl) h1
 clear hA0
 have hla:a.size≤140737488351232:=by
  have:=sized_string hreach (j:=0) (t:=9) (bytes:=a.data.toList) rfl rfl
  rw [Array.length_toList] at this
  exact this
 refine (walk a n W hsa hla hn (zOg hL) (zDh hL)).mono fun e W' ⟨he,hb⟩=>⟨_,he,?_⟩
 refine ⟨_,_,_,[],[],[],hW',?_,?_,?_,hb.frame _,fun h=>by cases h⟩
 ·rw [List.append_nil,hfn,hr]
  exact trodAll_cons_mk (shut_bool Tryz.underlying4 _) trodAll_mk0
 ·rw [List.append_nil,hfn,hp]
  exact trodAll_cons_mk (shut_string Tryz.underlying9 hsa) (trodAll_cons_mk (shut_int Tryz.underlying3 hn) trodAll_mk0)
 ·rw [List.append_nil,hfn,hvars]
  rfl
end Go.Proofs.YtbfgdpcgdmabpaaGreatDoor
namespace Go.Proofs.YtbfgdpcgdmabpaaGreatDoor
open Go.RowKit
end Go.Proofs.YtbfgdpcgdmabpaaGreatDoor
namespace Go.Proofs.YtbfgdpcgdmabpaaGreatDoor
open Go.RowKit
def strip (t:Tok):Nat × ByteArray × Nat:=(t.kind,t.text,t.num)
theorem zTo {S:ByteArray} {q n:Nat} {l r:List UInt8} (h:S.data.toList.drop q=l++r) (hn:l.length=n):S.data.toList.drop (q+n)=r:=by
 rw [← List.drop_drop,h,List.drop_append,List.drop_of_length_le (by omega),List.nil_append,show n-l.length=0 by omega,List.drop_zero]
theorem zsj {S:ByteArray} {q:Nat} {b:UInt8} {r:List UInt8} (h:S.data.toList.drop q=b :: r):q<S.size∧bat S q=b:=by
 constructor
 ·have:=congrArg List.length h
  rw [zMq,List.length_cons] at this
  omega
 ·rw [zPg,h];rfl
end Go.Proofs.YtbfgdpcgdmabpaaGreatDoor
namespace Go.Proofs.YtbfgdpcgdmabpaaGreatDoor
open Go.RowKit
def folC (c:UInt8):Prop:=zLd (c.toNat:Int)=false∧c≠61∧c≠62
def Fol (l l':List UInt8) (n:Nat):Prop:=l'[n]?=none∨l'[n]?=l[n]?∨∃ c,l'[n]?=some c∧folC c
theorem zFo {p:Int→Bool} (hp:∀ c:UInt8,zLd (c.toNat:Int)=false→p (c.toNat:Int)=false) {l l':List UInt8} (hb:Fol l l' (zqb p l)):∀ b,l'[zqb p l]?=some b→p (b.toNat:Int)=false:=by
 intro b h
 rcases hb with h'|h'|⟨c,h',hc⟩
 ·rw [h'] at h;cases h
 ·rw [h'] at h;exact zmi h
 ·rw [h'] at h;cases h;exact hp _ hc.1
theorem zyr {l l':List UInt8} {n:Nat} (hb:Fol l l' n) (h:zHu (l[n]?)=false):zHu (l'[n]?)=false:=by
 rcases hb with h'|h'|⟨c,h',hc⟩
 ·rw [h'];rfl
 ·rw [h'];exact h
 ·rw [h']
  have:=hc.1
  unfold zLd at this
  simp only [Bool.or_eq_false_iff] at this
  exact this.1
theorem zcr {l l':List UInt8} (h:l'.take 1=l.take 1) (hb:Fol l l' 1) (hp:zmg (l.take 2)=false):zmg (l'.take 2)=false:=by
 rw [zsm,zsr h]
 rcases hb with h'|h'|⟨c,h',hc⟩
 ·rw [h']
  cases l[0]?<;>simp [zmg]
 ·rw [h',← zsm]
  exact hp
 ·rw [h']
  cases l[0]?<;>simp [zmg,hc.2.1,hc.2.2]
theorem zIq {l l':List UInt8} {kd n v:Nat} (hl:l≠[]) (h:zYk l=.ok (kd,n,v)) (ht:l'.take n=l.take n) (hn:n≤l'.length) (hb:Fol l l' n):zYk l'=.ok (kd,n,v):=by
 have hpos:=zJq hl h
 have hh:=zXn hpos ht
 unfold zYk at h ⊢
 rw [hh]
 split at h
 ·rename_i hi
  rw [if_pos hi]
  have hrl:zqb zLd l=n:=by
   unfold zRl at h
   split at h
   ·cases h
   ·split at h<;>(cases h;rfl)
  have hr:zqb zLd l'=n:=zOf n hrl ht hn (by have:=zFo (p:=zLd) (by intro c h;exact h) (l:=l) (l':=l') (by rw [hrl];exact hb);rw [hrl] at this;exact this)
  unfold zRl at h ⊢
  rw [hrl] at h
  rw [hr,ht]
  exact h
 ·rename_i hi
  rw [if_neg hi]
  split at h
  ·rename_i hd
   rw [if_pos hd]
   have hrl:zqb zTd l=n:=by
    unfold zDu at h
    split at h
    ·cases h
    ·cases h;rfl
   have hr:zqb zTd l'=n:=zOf n hrl ht hn (by have:=zFo (p:=zTd) (by intro c h;unfold zLd at h;simp only [Bool.or_eq_false_iff] at h;exact h.2) (l:=l) (l':=l') (by rw [hrl];exact hb);rw [hrl] at this;exact this)
   unfold zDu at h ⊢
   rw [hrl] at h
   rw [hr,zvh n ht]
   split at h
   ·cases h
   ·rename_i hbad
    have hbad':badL l'=false:=by
     have h0:badL l=false:=by
      cases hb0:badL l
      ·rfl
      ·exact absurd (Or.inl hb0) hbad
     unfold badL at h0 ⊢
     rw [hrl] at h0
     rw [hr,hh]
     simp only [Bool.or_eq_false_iff] at h0 ⊢
     exact ⟨h0.1,zyr hb h0.2⟩
    rw [if_neg]
    ·exact h
    ·rintro (h1|h1)
     ·rw [hbad'] at h1;cases h1
     ·exact hbad (Or.inr h1)
  ·rename_i hd
   rw [if_neg hd]
   unfold zul at h ⊢
   rw [hh]
   split at h
   ·rename_i hp
    cases h
    rw [ht,if_pos hp]
   ·rename_i hp
    split at h
    ·rename_i hs
     cases h
     rw [if_neg (by simp [zcr ht hb (by simpa using hp)]),if_pos hs]
    ·cases h
abbrev Kt:=Nat × ByteArray × Nat
def kw (l:List UInt8):Kt:=(2,bs l,0)
def sg (l:List UInt8):Kt:=(4,bs l,0)
def nmK (s:ByteArray):Kt:=(1,s,0)
def FA (_:Option UInt8):Prop:=True
def FS (x:Option UInt8):Prop:=∀ c,x=some c→c≠61∧c≠62
def FX (x:Option UInt8):Prop:=∀ c,x=some c→folC c
def LX (F:Option UInt8→Prop) (b:List UInt8) (ts:List Kt):Prop:=∀ (S:ByteArray) (q:Nat) (rest:List UInt8),S.data.toList.drop q=b++rest→F rest.head? →
 ∃ ts',lexFrom S q=more ts' (lexFrom S (q+b.length))∧ts'.map strip=ts
theorem LX.nil (F:Option UInt8→Prop):LX F [] []:=fun S q rest _ _=>⟨[],by rw [zZj];rfl,rfl⟩
theorem LX.app {F F':Option UInt8→Prop} {b b':List UInt8} {ts ts':List Kt} (h:LX F b ts) (h':LX F' b' ts') (hF:∀ rest:List UInt8,F' rest.head?→F (b'++rest).head?):LX F' (b++b') (ts++ts'):=by
 intro S q rest hq hr
 rw [List.append_assoc] at hq
 obtain ⟨t1,e1,m1⟩:=h S q _ hq (hF rest hr)
 obtain ⟨t2,e2,m2⟩:=h' S (q+b.length) rest (zTo hq rfl) hr
 exact ⟨t1++t2,by rw [e1,e2,zTk,List.length_append,Nat.add_assoc],by rw [List.map_append,m1,m2]⟩
theorem LX.blank {F:Option UInt8→Prop} {c:UInt8} (hc:zSb c=true):LX F [c] []:=by
 intro S q rest hq _
 obtain ⟨h1,h2⟩:=zsj hq
 exact ⟨[],by rw [zHg h1 (by rw [h2];exact hc),zZj];rfl,rfl⟩
theorem LX.tok {F:Option UInt8→Prop} {c:UInt8} {r:List UInt8} {kd v:Nat} (hb:zSb c=false) (h35:c≠35) (h:∀ rest:List UInt8,F rest.head?→zYk (c :: r++rest)=.ok (kd,(c :: r).length,v)):LX F (c :: r) [(kd,bs (c :: r),v)]:=by
 intro S q rest hq hr
 obtain ⟨h1,h2⟩:=zsj (show S.data.toList.drop q=c :: (r++rest) from hq)
 have h3:=h rest hr
 rw [← hq] at h3
 have hx:S.extract q (q+(c :: r).length)=bs (c :: r):=by
  apply zMg
  rw [zme,hq,List.take_left]
  rfl
 have htok:zae S q=.ok ⟨kd,bs (c :: r),v,q⟩:=by
  rw [zku,h3]
  show Except.ok _=_
  rw [hx]
 refine ⟨[⟨kd,bs (c :: r),v,q⟩],?_,rfl⟩
 rw [zlm h1 (by rw [h2];exact hb) (by rw [h2];exact h35) htok]
 rfl
theorem zgv {l rest:List UInt8} (h:FX rest.head?):Fol l (l++rest) l.length:=by
 unfold Fol
 rw [List.getElem?_append_right (Nat.le_refl _),Nat.sub_self]
 cases rest with
 | nil=>exact .inl rfl
 | cons c r=>exact .inr (.inr ⟨c,rfl,h c rfl⟩)
theorem LX.one {c:UInt8} {r:List UInt8} {kd v:Nat} (hb:zSb c=false) (h35:c≠35) (h:zYk (c :: r)=.ok (kd,(c :: r).length,v)):LX FX (c :: r) [(kd,bs (c :: r),v)] :=
 LX.tok hb h35 fun rest hr=>zIq (by simp) h (List.take_left' rfl |>.trans (List.take_length).symm) (by simp) (zgv hr)
theorem LX.sign {c:UInt8} (hl:zQg (c.toNat:Int)=false) (hd:zTd (c.toNat:Int)=false) (hs:zqf c=true) (hb:zSb c=false) (h35:c≠35):LX FS [c] [sg [c]]:=by
 refine LX.tok hb h35 fun rest hr=>?_
 have h2:zmg ((c :: rest).take 2)=false:=by
  cases rest with
  | nil=>simp [zmg]
  | cons d r =>
   have:=hr d rfl
   simp [zmg,this.1,this.2]
 show zYk (c :: rest)=_
 unfold zYk zul
 rw [show (c :: rest).getD 0 0=c from rfl,if_neg (by rw [hl];simp),if_neg (by rw [hd];simp),if_neg (by rw [h2];simp),if_pos hs]
 rfl
theorem LX.pair {a b:UInt8} (hl:zQg (a.toNat:Int)=false) (hd:zTd (a.toNat:Int)=false) (hp:zmg [a,b]=true) (hb:zSb a=false) (h35:a≠35):LX FA [a,b] [sg [a,b]]:=by
 refine LX.tok hb h35 fun rest _=>?_
 show zYk (a :: b :: rest)=_
 unfold zYk zul
 rw [show (a :: b :: rest).getD 0 0=a from rfl,if_neg (by rw [hl];simp),if_neg (by rw [hd];simp),show (a :: b :: rest).take 2=[a,b] from rfl,if_pos hp]
 rfl
def Pc (F:Option UInt8→Prop) (b:List UInt8) (ts:List Kt):Prop:=LX F b ts∧∃ c r,b=c :: r∧c≠61∧c≠62
theorem FX.fs {x:Option UInt8} (h:FX x):FS x:=fun c hc=>(h c hc).2
theorem Pc.fx {b:List UInt8} {ts:List Kt} (h:Pc FS b ts):Pc FX b ts:=⟨fun S q rest hq hr=>h.1 S q rest hq hr.fs,h.2⟩
theorem Pc.s {F:Option UInt8→Prop} {b b':List UInt8} {ts ts':List Kt} (h:Pc FS b ts) (h':Pc F b' ts'):Pc F (b++b') (ts++ts'):=by
 refine ⟨h.1.app h'.1 fun rest _=>?_,?_⟩
 ·obtain ⟨c,r,rfl,h1⟩:=h'.2
  intro d hd
  cases hd
  exact h1
 ·obtain ⟨c,r,rfl,h1⟩:=h.2
  exact ⟨c,r++b',rfl,h1⟩
theorem Pc.x {F:Option UInt8→Prop} {c:UInt8} {b r:List UInt8} {ts ts':List Kt} (h:Pc FX b ts) (h':Pc F (c :: r) ts') (hc:zLd (c.toNat:Int)=false):Pc F (b++(c :: r)) (ts++ts'):=by
 refine ⟨h.1.app h'.1 fun rest _=>?_,?_⟩
 ·obtain ⟨d,r',h0,h1⟩:=h'.2
  cases h0
  intro d hd
  cases hd
  exact ⟨hc,h1⟩
 ·obtain ⟨d,r',rfl,h1⟩:=h.2
  exact ⟨d,_,rfl,h1⟩
theorem Pc.xs {F:Option UInt8→Prop} {c:UInt8} {b r b':List UInt8} {ts t1 t2:List Kt} (h:Pc FX b ts) (h1:Pc FS (c :: r) t1) (h2:Pc F b' t2) (hc:zLd (c.toNat:Int)=false):Pc F (b++(c :: r++b')) (ts++(t1++t2)) :=
 Pc.x (r:=r++b') h (h1.s h2) hc
end Go.Proofs.YtbfgdpcgdmabpaaGreatDoor
namespace Go.Proofs.YtbfgdpcgdmabpaaGreatDoor
open Go.RowKit
mutual
def T.z:T→T
 | .mk k s n _ ks=>.mk k s n 0 (zs ks)
def zs:List T→List T
 | []=>[]
 | t :: ts=>t.z :: zs ts
end
theorem zpn (k:Int) (s:ByteArray) (n:Int) (p:Nat) (ks:List T):(T.mk k s n p ks).z=.mk k s n 0 (zs ks):=by rw [T.z]
theorem zue:zs []=[]:=by rw [zs]
theorem zYc (t:T) (ts:List T):zs (t :: ts)=t.z :: zs ts:=by rw [zs]
theorem zOk:∀ a b:List T,zs (a++b)=zs a++zs b
 | [],b=>by rw [zue];rfl
 | t :: a,b=>by rw [List.cons_append,zYc,zYc,zOk a b];rfl
def ck (x:Kt):Tok:=⟨x.1,x.2.1,x.2.2,0⟩
def cl (l:List Kt):List Tok:=l.map ck
theorem zKc (a b:List Kt) (r:List Tok):cl (a++b)++r=cl a++(cl b++r):=by simp [cl]
theorem zEd (a:Kt) (r:List Tok):cl [a]++r=ck a :: r:=rfl
theorem zWp (a:Kt) (b:List Kt) (r:List Tok):cl (a :: b)++r=ck a :: (cl b++r):=rfl
theorem zEi (r:List Tok):cl []++r=r:=rfl
theorem zvc (a:Tok) (r:List Tok):hdT (a :: r)=a:=rfl
theorem zJb {α β:Type} (a:α) (l:List Tok) (f:α→List Tok→R β):bd (.ok (a,l):R α) f=f a l:=rfl
theorem zHe (l:List UInt8):(bs l).toList=l:=by rw [Go.Lib.toList_data];simp [bs]
theorem zpd (a b:List UInt8):isT (ck (sg a)) (bs b)=(a == b):=by
 show ((bs a).toList == (bs b).toList)=_
 rw [zHe,zHe]
theorem zzf (a b:List UInt8):isT (ck (kw a)) (bs b)=(a == b):=by
 show ((bs a).toList == (bs b).toList)=_
 rw [zHe,zHe]
theorem zXl (a:List UInt8):(ck (sg a)).kind=4:=rfl
theorem zEl (a:List UInt8):(ck (kw a)).kind=2:=rfl
theorem zgm (s:ByteArray):(ck (nmK s)).kind=1:=rfl
theorem zHl (s:ByteArray):(ck (nmK s)).text=s:=rfl
theorem zcp (l:List UInt8):(ck (kw l)).text=bs l:=rfl
theorem zSm (x:Kt):(ck x).place=0:=rfl
def nuK (v:Nat):Kt:=(3,bs (Lib.decDigits v),v)
theorem zCp (v:Nat):(ck (nuK v)).kind=3:=rfl
theorem zWr (v:Nat):(ck (nuK v)).num=v:=rfl
theorem zMb {s:ByteArray} (h:zOa s=true) (b:List UInt8) (hb:zOa (bs b)=false):isT (ck (nmK s)) (bs b)=false:=by
 cases hq:isT (ck (nmK s)) (bs b) with
 | false=>rfl
 | true =>
  have:(ck (nmK s)).text=bs b:=zBf hq
  rw [zHl] at this
  rw [this,hb] at h
  cases h
theorem zXg {c:UInt8} (h:zQg (c.toNat:Int)=true):zSb c=false∧c≠35∧c≠61∧c≠62:=by
 unfold zQg at h
 simp only [Bool.or_eq_true,Bool.and_eq_true,decide_eq_true_eq,beq_iff_eq] at h
 have hne:∀ d:UInt8,d.toNat<95→c≠d:=fun d hd e=>by subst e;omega
 refine ⟨?_,hne 35 (by decide),hne 61 (by decide),hne 62 (by decide)⟩
 unfold zSb
 simp [hne 32 (by decide),hne 10 (by decide)]
theorem zqq {c:UInt8} (h:zTd (c.toNat:Int)=true):zSb c=false∧c≠35∧c≠61∧c≠62:=by
 unfold zTd at h
 simp only [Bool.and_eq_true,decide_eq_true_eq] at h
 have hne:∀ d:UInt8,d.toNat<48∨57<d.toNat→c≠d:=fun d hd e=>by subst e;omega
 refine ⟨?_,hne 35 (by decide),hne 61 (by decide),hne 62 (by decide)⟩
 unfold zSb
 simp [hne 32 (by decide),hne 10 (by decide)]
theorem zBb {s:ByteArray} (h:zOa s=true):Pc FX (tb s) [nmK s]:=by
 unfold zOa at h
 simp only [Bool.and_eq_true,decide_eq_true_eq,Bool.not_eq_true'] at h
 obtain ⟨⟨⟨⟨h1,h16⟩,hl⟩,he⟩,hk⟩:=h
 have hlen:(tb s).length=s.size:=Array.length_toList
 have hx:bs (tb s)=s:=by apply zMg;simp [bs,tb]
 unfold at0 at hl
 unfold zYg zVe at hk
 rw [List.drop_zero] at hk
 have hr:zqb zLd (tb s)=(tb s).length:=by
  unfold endOf at he
  rw [List.drop_zero,Nat.zero_add] at he
  rw [hlen]
  exact he
 have hw:nmK s=(1,bs (tb s),0):=by rw [hx];rfl
 rw [hw]
 change zQg (((tb s).headD 0).toNat:Int)=true at hl
 change zKd.contains (tb s)=false at hk
 cases hs:tb s with
 | nil=>rw [hs] at hlen;simp at hlen;omega
 | cons c r =>
  rw [hs] at hl hr hk hlen
  change zQg (c.toNat:Int)=true at hl
  have hc:=zXg (c:=c) hl
  refine ⟨LX.one hc.1 hc.2.1 ?_,c,r,rfl,hc.2.2⟩
  unfold zYk zRl
  rw [show (c :: r).getD 0 0=c from rfl,if_pos hl,hr,if_neg (by omega),List.take_length,if_neg (by rw [hk];simp)]
theorem zOn {c:UInt8} {r:List UInt8} (h:zYk (c :: r)=.ok (2,(c :: r).length,0)) (hl:zQg (c.toNat:Int)=true):Pc FX (c :: r) [kw (c :: r)] :=
 ⟨LX.one (zXg hl).1 (zXg hl).2.1 h,c,r,rfl,(zXg hl).2.2⟩
theorem zTh {c:UInt8} (hl:zQg (c.toNat:Int)=false) (hd:zTd (c.toNat:Int)=false) (hs:zqf c=true) (hb:zSb c=false) (h35:c≠35) (h61:c≠61∧c≠62):Pc FS [c] [sg [c]] :=
 ⟨LX.sign hl hd hs hb h35,c,[],rfl,h61⟩
theorem zaf:Pc FS [32] []:=⟨LX.blank rfl,32,[],rfl,by decide,by decide⟩
theorem zTu:Pc FS [10] []:=⟨LX.blank rfl,10,[],rfl,by decide,by decide⟩
theorem dgs {u:Nat} (h:u / 10=0):Lib.decDigits u=[UInt8.ofNat (48+u % 10)]:=by
 rw [Lib.decDigits,dif_pos (by omega),show u % 10=u by omega]
theorem dgb {u:Nat} (h:u / 10≠0):Lib.decDigits u=Lib.decDigits (u / 10)++[UInt8.ofNat (48+u % 10)]:=by
 rw [Lib.decDigits,dif_neg (by omega)]
theorem zbn (d:Nat) (h:d<10):(UInt8.ofNat (48+d)).toNat=48+d:=by rw [UInt8.toNat_ofNat',Nat.mod_eq_of_lt (by omega)]
theorem dg_ne (d:Nat) (h:d<10) (h0:d≠0):UInt8.ofNat (48+d)≠48:=fun e=>by
 have:=congrArg UInt8.toNat e
 rw [zbn d h] at this
 have h48:(48:UInt8).toNat=48:=rfl
 omega
theorem zmp:∀ (n u:Nat),u≤n→(∀ b∈Lib.decDigits u,zTd (b.toNat:Int)=true)∧zTn (Lib.decDigits u) (Lib.decDigits u).length=u∧((Lib.decDigits u).getD 0 0=48→u=0)∧(Lib.decDigits u≠[])
 | n,u,hn=>by
  have hd:zTd ((UInt8.ofNat (48+u % 10)).toNat:Int)=true:=by rw [zbn _ (by omega)];unfold zTd;simp;omega
  by_cases h:u / 10=0
  ·rw [dgs h]
   refine ⟨fun b hb=>by rw [List.mem_singleton.1 hb];exact hd,?_,fun e=>?_,by simp⟩
   ·show zTn _ 0 * 10+_=u
    rw [zTn,List.getD_cons_zero,zbn _ (by omega)]
    omega
   ·rw [List.getD_cons_zero] at e
    by_cases h0:u % 10=0
    ·omega
    ·exact absurd e (dg_ne _ (by omega) h0)
  ·cases n with
   | zero=>omega
   | succ n =>
    obtain ⟨i1,i2,i3,i4⟩:=zmp n (u / 10) (by omega)
    rw [dgb h]
    refine ⟨fun b hb=>?_,?_,fun e=>?_,by simp⟩
    ·rcases List.mem_append.1 hb with hb|hb
     ·exact i1 b hb
     ·rw [List.mem_singleton.1 hb];exact hd
    ·rw [List.length_append]
     show zTn _ (Lib.decDigits (u / 10)).length * 10+_=u
     rw [zvh (l:=Lib.decDigits (u / 10)) _ (by rw [List.take_left,List.take_length]),i2,List.getD_eq_getElem?_getD,List.getElem?_append_right (Nat.le_refl _),Nat.sub_self]
     show u / 10 * 10+((UInt8.ofNat (48+u % 10)).toNat-48)=u
     rw [zbn _ (by omega)]
     omega
    ·have:(Lib.decDigits (u / 10)).getD 0 0=48:=by
      cases hq:Lib.decDigits (u / 10) with
      | nil=>exact absurd hq i4
      | cons c r=>rw [hq] at e;exact e
     have:=i3 this
     omega
theorem zZp {p:Int→Bool}:∀ {l:List UInt8},(∀ b∈l,p (b.toNat:Int)=true)→zqb p l=l.length
 | [],_=>rfl
 | c :: r,h=>by rw [zqb,if_pos (h c (by simp)),zZp (fun b hb=>h b (by simp [hb]))];rfl
theorem zjg {v:Nat} (hv:v≤1099511627776):Pc FX (Lib.decDigits v) [nuK v]:=by
 obtain ⟨h1,h2,h3,h4⟩:=zmp v v (Nat.le_refl _)
 have hr:=zZp h1
 show Pc FX (Lib.decDigits v) [(3,bs (Lib.decDigits v),v)]
 have hlen:(Lib.decDigits v).getD 0 0=48→(Lib.decDigits v).length=1:=fun e=>by rw [h3 e,dgs (by decide)];rfl
 cases hs:Lib.decDigits v with
 | nil=>exact absurd hs h4
 | cons c r =>
  rw [hs] at h1 h2 hr hlen
  have hc0:=h1 c (by simp)
  have hc:=zqq (c:=c) hc0
  have hl:zQg (c.toNat:Int)=false:=by
   unfold zTd at hc0
   simp only [Bool.and_eq_true,decide_eq_true_eq] at hc0
   unfold zQg
   simp
   omega
  refine ⟨LX.one hc.1 hc.2.1 ?_,c,r,rfl,hc.2.2⟩
  unfold zYk zDu
  rw [show (c :: r).getD 0 0=c from rfl,if_neg (by rw [hl];simp),if_pos hc0,hr,h2,if_neg]
  rintro (hb|hb)
  ·unfold badL at hb
   rw [hr,Bool.or_eq_true,Bool.and_eq_true] at hb
   rcases hb with ⟨ha,hb⟩|hb
   ·have:=hlen (beq_iff_eq.1 ha)
    simp only [decide_eq_true_eq] at hb
    omega
   ·rw [List.getElem?_eq_none (Nat.le_refl _)] at hb
    cases hb
  ·omega
end Go.Proofs.YtbfgdpcgdmabpaaGreatDoor
namespace Go.Proofs.YtbfgdpcgdmabpaaGreatDoor
open Go.RowKit
theorem zOh (v:Nat) (b:List UInt8) (hb:b≠[]) (h:∀ c r,b=c :: r→zTd (c.toNat:Int)=false):isT (ck (nuK v)) (bs b)=false:=by
 cases hq:isT (ck (nuK v)) (bs b) with
 | false=>rfl
 | true =>
  have h2:((bs (Lib.decDigits v)).toList == (bs b).toList)=true:=hq
  rw [zHe,zHe,beq_iff_eq] at h2
  have h1:=(zmp v v (Nat.le_refl _)).1
  rw [h2] at h1
  cases b with
  | nil=>exact absurd rfl hb
  | cons c r =>
   have:=h1 c (by simp)
   rw [h c r rfl] at this
   cases this
theorem nm_0 {s:ByteArray} (h:zOa s=true):isT (ck (nmK s)) (bs [44])=false:=zMb h _ (by kernel_rfl)
theorem nm_1 {s:ByteArray} (h:zOa s=true):isT (ck (nmK s)) (bs [41])=false:=zMb h _ (by kernel_rfl)
theorem nm_2 {s:ByteArray} (h:zOa s=true):isT (ck (nmK s)) (bs [45])=false:=zMb h _ (by kernel_rfl)
theorem nm_3 {s:ByteArray} (h:zOa s=true):isT (ck (nmK s)) (bs [43])=false:=zMb h _ (by kernel_rfl)
theorem nm_4 {s:ByteArray} (h:zOa s=true):isT (ck (nmK s)) (bs [91])=false:=zMb h _ (by kernel_rfl)
theorem nm_5 {s:ByteArray} (h:zOa s=true):isT (ck (nmK s)) (bs [40])=false:=zMb h _ (by kernel_rfl)
theorem nm_6 {s:ByteArray} (h:zOa s=true):isT (ck (nmK s)) (bs [93])=false:=zMb h _ (by kernel_rfl)
theorem nm_7 {s:ByteArray} (h:zOa s=true):isT (ck (nmK s)) (bs [110,101,119])=false:=zMb h _ (by kernel_rfl)
theorem nm_8 {s:ByteArray} (h:zOa s=true):isT (ck (nmK s)) (bs [97,114,114,97,121])=false:=zMb h _ (by kernel_rfl)
theorem nm_9 {s:ByteArray} (h:zOa s=true):isT (ck (nmK s)) (bs [38])=false:=zMb h _ (by kernel_rfl)
theorem zWv {s:ByteArray} (h:zOa s=true):isT (ck (nmK s)) (bs [109,117,116])=false:=zMb h _ (by kernel_rfl)
theorem zex {s:ByteArray} (h:zOa s=true):isT (ck (nmK s)) (bs [60])=false:=zMb h _ (by kernel_rfl)
theorem zOu {s:ByteArray} (h:zOa s=true):isT (ck (nmK s)) (bs [60,61])=false:=zMb h _ (by kernel_rfl)
theorem zfv {s:ByteArray} (h:zOa s=true):isT (ck (nmK s)) (bs [61,61])=false:=zMb h _ (by kernel_rfl)
theorem zyv {s:ByteArray} (h:zOa s=true):isT (ck (nmK s)) (bs [123])=false:=zMb h _ (by kernel_rfl)
theorem zFt {s:ByteArray} (h:zOa s=true):isT (ck (nmK s)) (bs [125])=false:=zMb h _ (by kernel_rfl)
theorem zwu {s:ByteArray} (h:zOa s=true):isT (ck (nmK s)) (bs [59])=false:=zMb h _ (by kernel_rfl)
theorem zSw {s:ByteArray} (h:zOa s=true):isT (ck (nmK s)) (bs [119,104,101,114,101])=false:=zMb h _ (by kernel_rfl)
theorem zQv {s:ByteArray} (h:zOa s=true):isT (ck (nmK s)) (bs [102,114,101,101])=false:=zMb h _ (by kernel_rfl)
theorem zqv {s:ByteArray} (h:zOa s=true):isT (ck (nmK s)) (bs [108,111,99,107])=false:=zMb h _ (by kernel_rfl)
theorem zIu {s:ByteArray} (h:zOa s=true):isT (ck (nmK s)) (bs [117,110,108,111,99,107])=false:=zMb h _ (by kernel_rfl)
theorem zDv {s:ByteArray} (h:zOa s=true):isT (ck (nmK s)) (bs [114,101,116,117,114,110])=false:=zMb h _ (by kernel_rfl)
theorem zUu {s:ByteArray} (h:zOa s=true):isT (ck (nmK s)) (bs [97,98,111,114,116])=false:=zMb h _ (by kernel_rfl)
theorem zQw {s:ByteArray} (h:zOa s=true):isT (ck (nmK s)) (bs [102,111,114,107])=false:=zMb h _ (by kernel_rfl)
theorem zzv {s:ByteArray} (h:zOa s=true):isT (ck (nmK s)) (bs [105,102])=false:=zMb h _ (by kernel_rfl)
theorem zaw {s:ByteArray} (h:zOa s=true):isT (ck (nmK s)) (bs [119,104,105,108,101])=false:=zMb h _ (by kernel_rfl)
theorem zct {s:ByteArray} (h:zOa s=true):isT (ck (nmK s)) (bs [101,108,115,101])=false:=zMb h _ (by kernel_rfl)
theorem zHv {s:ByteArray} (h:zOa s=true):isT (ck (nmK s)) (bs [58])=false:=zMb h _ (by kernel_rfl)
theorem znv {s:ByteArray} (h:zOa s=true):isT (ck (nmK s)) (bs [61])=false:=zMb h _ (by kernel_rfl)
theorem zyw {s:ByteArray} (h:zOa s=true):isT (ck (nmK s)) (bs [45,62])=false:=zMb h _ (by kernel_rfl)
theorem zqw {s:ByteArray} (h:zOa s=true):isT (ck (nmK s)) (bs [116,121,112,101])=false:=zMb h _ (by kernel_rfl)
theorem zKw {s:ByteArray} (h:zOa s=true):isT (ck (nmK s)) (bs [102,110])=false:=zMb h _ (by kernel_rfl)
theorem zNv {s:ByteArray} (h:zOa s=true):isT (ck (nmK s)) (bs [111,119,110])=false:=zMb h _ (by kernel_rfl)
theorem zcx {s:ByteArray} (h:zOa s=true):isT (ck (nmK s)) (bs [105,110,116])=false:=zMb h _ (by kernel_rfl)
theorem zCw {s:ByteArray} (h:zOa s=true):isT (ck (nmK s)) (bs [99,101,108,108])=false:=zMb h _ (by kernel_rfl)
theorem zlw {s:ByteArray} (h:zOa s=true):isT (ck (nmK s)) (bs [99,111,117,110,116,101,100])=false:=zMb h _ (by kernel_rfl)
theorem zLw {s:ByteArray} (h:zOa s=true):isT (ck (nmK s)) (bs [103,117,97,114,100])=false:=zMb h _ (by kernel_rfl)
theorem nu_0 (v:Nat):isT (ck (nuK v)) (bs [41])=false:=zOh v _ (by simp) (by intro c r h;cases h;kernel_rfl)
theorem nu_1 (v:Nat):isT (ck (nuK v)) (bs [45])=false:=zOh v _ (by simp) (by intro c r h;cases h;kernel_rfl)
theorem nu_2 (v:Nat):isT (ck (nuK v)) (bs [59])=false:=zOh v _ (by simp) (by intro c r h;cases h;kernel_rfl)
theorem nu_3 (v:Nat):isT (ck (nuK v)) (bs [110,101,119])=false:=zOh v _ (by simp) (by intro c r h;cases h;kernel_rfl)
theorem nu_4 (v:Nat):isT (ck (nuK v)) (bs [97,114,114,97,121])=false:=zOh v _ (by simp) (by intro c r h;cases h;kernel_rfl)
theorem nu_5 (v:Nat):isT (ck (nuK v)) (bs [38])=false:=zOh v _ (by simp) (by intro c r h;cases h;kernel_rfl)
theorem nu_6 (v:Nat):isT (ck (nuK v)) (bs [101,108,115,101])=false:=zOh v _ (by simp) (by intro c r h;cases h;kernel_rfl)
theorem nu_7 (v:Nat):isT (ck (nuK v)) (bs [125])=false:=zOh v _ (by simp) (by intro c r h;cases h;kernel_rfl)
theorem zai (s:ByteArray) (r:List Tok):zdd (ck (nmK s) :: r)=.ok (s,r):=rfl
theorem zxg (s:ByteArray) (r:List Tok):zYa (ck (nmK s) :: r)=.ok (.mk 5 s 0 0 [],r):=rfl
theorem zxj (v:Nat) (r:List Tok):zVb (ck (nuK v) :: r)=.ok ((v:Int),r):=rfl
def Hd (ks:List Kt):Prop:=∃ k0 kr,ks=k0 :: kr∧isT (ck k0) (bs [41])=false∧isT (ck k0) (bs [59])=false∧isT (ck k0) (bs [101,108,115,101])=false∧isT (ck k0) (bs [125])=false∧(ck k0).kind≠0
theorem zfg {s:ByteArray} (h:zOa s=true) (kr:List Kt):Hd (nmK s :: kr):=⟨_,kr,rfl,nm_1 h,zwu h,zct h,zFt h,show (1:Nat)≠0 by decide⟩
theorem zax (v:Nat) (kr:List Kt):Hd (nuK v :: kr):=⟨_,kr,rfl,nu_0 v,nu_2 v,nu_6 v,nu_7 v,show (3:Nat)≠0 by decide⟩
theorem zsn (a:List UInt8) (kr:List Kt) (h:(a == [41])=false∧(a == [59])=false∧(a == [101,108,115,101])=false∧(a == [125])=false):Hd (sg a :: kr) :=
 ⟨_,kr,rfl,by rw [zpd];exact h.1,by rw [zpd];exact h.2.1,by rw [zpd];exact h.2.2.1,by rw [zpd];exact h.2.2.2,by rw [zXl];decide⟩
theorem zXe (a:List UInt8) (kr:List Kt) (h:(a == [41])=false∧(a == [59])=false∧(a == [101,108,115,101])=false∧(a == [125])=false):Hd (kw a :: kr) :=
 ⟨_,kr,rfl,by rw [zzf];exact h.1,by rw [zzf];exact h.2.1,by rw [zzf];exact h.2.2.1,by rw [zzf];exact h.2.2.2,by rw [zEl];decide⟩
def Rd (rd:List Tok→R T) (N:List Tok→Prop) (t:T) (b:List UInt8):Prop:=∃ ks,Pc FX b ks∧Hd ks∧∀ r,N r→rd (cl ks++r)=.ok (t.z,r)
def NT (r:List Tok):Prop:=sumP r=none
theorem zln (a:List UInt8) (r:List Tok) (h:(a == [43])=false∧(a == [45])=false):NT (ck (sg a) :: r):=by
 unfold NT sumP
 rw [zvc,zpd,zpd,h.1,h.2]
 rfl
theorem rdx {p:Prop} (h:p:=by simp [zKc,zEd,zWp,zEi,zvc,List.tail_cons,zJb,zpd,zzf,zXl,zEl,zgm,zCp,zWr,zHl,zcp,zSm,zai,zxg,zxj,zSa,sumP,zin,List.any_cons,List.any_nil,zpn,zue,zYc,zOk,nm_0,nm_1,nm_2,nm_3,nm_4,nm_5,nm_6,nm_7,nm_8,nm_9,zWv,zex,zOu,zfv,zyv,zFt,zwu,zSw,zQv,zqv,zIu,zDv,zUu,zQw,zzv,zaw,zct,zHv,znv,zyw,zqw,zKw,zNv,zcx,zCw,zlw,zLw,nu_0,nu_1,nu_2,nu_3,nu_4,nu_5,nu_6,nu_7,T.zAc, *]):p:=h
theorem lb:Pc FS [91] [sg [91]]:=zTh rfl rfl (by kernel_rfl) rfl (by decide) (by decide)
theorem rb:Pc FS [93] [sg [93]]:=zTh rfl rfl (by kernel_rfl) rfl (by decide) (by decide)
theorem lp:Pc FS [40] [sg [40]]:=zTh rfl rfl (by kernel_rfl) rfl (by decide) (by decide)
theorem rp:Pc FS [41] [sg [41]]:=zTh rfl rfl (by kernel_rfl) rfl (by decide) (by decide)
theorem lc':Pc FS [123] [sg [123]]:=zTh rfl rfl (by kernel_rfl) rfl (by decide) (by decide)
theorem rc:Pc FS [125] [sg [125]]:=zTh rfl rfl (by kernel_rfl) rfl (by decide) (by decide)
theorem plus:Pc FS [43] [sg [43]]:=zTh rfl rfl (by kernel_rfl) rfl (by decide) (by decide)
theorem minus:Pc FS [45] [sg [45]]:=zTh rfl rfl (by kernel_rfl) rfl (by decide) (by decide)
theorem amp:Pc FS [38] [sg [38]]:=zTh rfl rfl (by kernel_rfl) rfl (by decide) (by decide)
theorem semi:Pc FS [59] [sg [59]]:=zTh rfl rfl (by kernel_rfl) rfl (by decide) (by decide)
theorem colon:Pc FS [58] [sg [58]]:=zTh rfl rfl (by kernel_rfl) rfl (by decide) (by decide)
theorem comma:Pc FS [44] [sg [44]]:=zTh rfl rfl (by kernel_rfl) rfl (by decide) (by decide)
theorem zrm:Pc FS [32,43,32] [sg [43]]:=zaf.s (plus.s zaf)
theorem zRj:Pc FS [32,45,32] [sg [45]]:=zaf.s (minus.s zaf)
theorem zcn:Pc FS [44,32] [sg [44]]:=comma.s zaf
theorem LX.weak {F F':Option UInt8→Prop} {b:List UInt8} {ts:List Kt} (h:LX F b ts) (hF:∀ x,F' x→F x):LX F' b ts:=fun S q rest hq hr=>h S q rest hq (hF _ hr)
theorem zHk {F:Option UInt8→Prop} {b:List UInt8} {ts:List Kt} (h:LX F b ts) (hF:F (some 32)):Pc FS ([32]++(b++[32])) ts:=by
 refine ⟨?_,32,b++[32],rfl,by decide,by decide⟩
 have h1:LX FS (b++[32]) (ts++[]):=h.app (LX.blank rfl) fun rest _=>hF
 rw [List.append_nil] at h1
 exact (LX.blank (F:=FA) rfl).app h1 fun _ _=>trivial
theorem eq_lx:LX FS [61] [sg [61]]:=LX.sign rfl rfl (by kernel_rfl) rfl (by decide)
theorem ztw:Pc FS [32,61,32] [sg [61]]:=zHk eq_lx (by intro c h;cases h;decide)
theorem arrow:Pc FS [32,45,62,32] [sg [45,62]]:=zHk (LX.pair (a:=45) (b:=62) rfl rfl (by kernel_rfl) rfl (by decide)) trivial
theorem zMv {s:ByteArray} (h:zjq s):Pc FS ([32]++(tb s++[32])) [sg (tb s)]∧bs (tb s)=s∧((tb s == [43])=false∧(tb s == [45])=false)∧[bs [60],bs [60,61],bs [61,61]].any (isT (ck (sg (tb s))))=true:=by
 rcases h with rfl|rfl|rfl
 ·exact ⟨zHk (LX.sign (c:=60) rfl rfl (by kernel_rfl) rfl (by decide)) (by intro c h;cases h;decide),rfl,⟨rfl,rfl⟩,by kernel_rfl⟩
 ·exact ⟨zHk (LX.pair (a:=60) (b:=61) rfl rfl (by kernel_rfl) rfl (by decide)) trivial,rfl,⟨rfl,rfl⟩,by kernel_rfl⟩
 ·exact ⟨zHk (LX.pair (a:=61) (b:=61) rfl rfl (by kernel_rfl) rfl (by decide)) trivial,rfl,⟨rfl,rfl⟩,by kernel_rfl⟩
theorem kww {c:UInt8} {r:List UInt8} (h:zYk (c :: r)=.ok (2,(c :: r).length,0)) (hl:zQg (c.toNat:Int)=true):Pc FS (c :: r++[32]) [kw (c :: r)]:=(zOn h hl).x (r:=[]) zaf rfl
theorem zau {s:ByteArray} (h:zOa s=true):tb s≠[]:=by
 obtain ⟨_,c,r,e,_⟩:=zBb h
 rw [e];simp
theorem zDg {s:ByteArray} (h:zOa s=true) (d:Nat) (p:Nat):shw d (.mk 5 s 0 p [])=tb s:=by
 rw [zZa,if_neg (by decide)]
 show zTb (tb s) 0=_
 unfold zTb
 rw [if_neg (zau h)]
 rfl
theorem zti (u:Nat):dec (u:Int)=Lib.decDigits u:=Lib.itoa_nonneg u
theorem zJj (u:Nat) (h:1≤u):dec (-(u:Int))=45 :: Lib.decDigits u:=Lib.itoa_neg u h
theorem zvg {t:T} (h:TmT t) (d:Nat):Rd zZb NT t (shw d t):=by
 obtain ⟨s,n,p,rfl,hn,hs⟩:=h
 have hsh:shw d (.mk 5 s n p [])=zTb (tb s) n:=by rw [zZa,if_neg (by decide)];rfl
 rw [hsh]
 unfold zTb
 rcases hs with rfl|hs
 ·rw [if_pos (show tb e0=[] from rfl)]
  by_cases h0:n<0
  ·obtain ⟨u,rfl⟩:∃ u:Nat,n=-(u:Int):=⟨n.natAbs,by omega⟩
   rw [zJj u (by omega)]
   refine ⟨[sg [45]]++[nuK u],minus.s (zjg (by omega)),zsn _ _ (by decide),fun r hr=>?_⟩
   unfold zZb zWa
   exact rdx
  ·obtain ⟨u,rfl⟩:∃ u:Nat,n=u:=⟨n.toNat,by omega⟩
   rw [zti]
   refine ⟨[nuK u],zjg (by omega),zax _ _,fun r hr=>?_⟩
   unfold zZb zWa
   exact rdx
 ·rw [if_neg (zau hs)]
  by_cases hp:0<n
  ·obtain ⟨u,rfl⟩:∃ u:Nat,n=u:=⟨n.toNat,by omega⟩
   rw [if_pos hp,zti]
   refine ⟨[nmK s]++([sg [43]]++[nuK u]),(zBb hs).xs zrm (zjg (by omega)) rfl,zfg hs _,fun r hr=>?_⟩
   unfold zZb
   exact rdx
  ·rw [if_neg hp]
   by_cases h0:n<0
   ·obtain ⟨u,rfl⟩:∃ u:Nat,n=-(u:Int):=⟨n.natAbs,by omega⟩
    rw [if_pos h0,zJj u (by omega)]
    refine ⟨[nmK s]++([sg [45]]++[nuK u]),(zBb hs).xs zRj (zjg (by omega)) rfl,zfg hs _,fun r hr=>?_⟩
    unfold zZb
    exact rdx
   ·rw [if_neg h0]
    obtain rfl:n=0:=by omega
    refine ⟨[nmK s],zBb hs,zfg hs _,fun r hr=>?_⟩
    unfold zZb
    rw [zEd,zvc,zgm,zxg]
    show zin (sumP r) _ _=_
    rw [zdj hr,zpn,zue]
theorem zzj (x y:List UInt8) (r:List (List UInt8)):commas (x :: y :: r)=x++([44,32]++commas (y :: r)):=by simp [commas]
theorem zYd (a:List UInt8) (r:List Tok):zSa [bs a] (ck (sg a) :: r)=.ok (ck (sg a),r):=by
 unfold zSa
 simp [zvc,zpd]
theorem zfo {item:List Tok→R T} {N:List Tok→Prop} (hN:∀ r,N (ck (sg [44]) :: r)) {d:Nat}:∀ (xs:List T),xs≠[]→(∀ x∈xs,Rd item N x (shw d x)) →
  ∃ ks,Pc FX (commas (zpb d xs)) ks∧Hd ks∧xs.length≤ks.length∧∀ n r,xs.length≤n→N r→isT (hdT r) (bs [44])=false→bd (item (cl ks++r)) (fun a l=>bd (zbe item n l) fun ys l=>.ok (a :: ys,l))=.ok (zs xs,r)
 | [],h,_=>absurd rfl h
 | [x],_,h=>by
  obtain ⟨k,hp,hh,hr⟩:=h x (by simp)
  refine ⟨k,by rw [zPa,zib,zoh];exact hp,hh,?_,fun n r hn hr1 hr2=>?_⟩
  ·obtain ⟨k0,kr,rfl,_⟩:=hh
   simp
  ·cases n with
   | zero=>simp at hn
   | succ n=>rw [hr r hr1,zJb,zbe,hr2,cond_false,zJb,zYc,zue]
 | x :: y :: xs,_,h=>by
  obtain ⟨k,hp,hh,hr⟩:=h x (by simp)
  obtain ⟨k',hp',_,hl',hr'⟩:=zfo hN (y :: xs) (by simp) (fun z hz=>h z (by simp [List.mem_cons.1 hz]))
  refine ⟨k++([sg [44]]++k'),by rw [zPa,zPa,zzj,← zPa];exact hp.xs zcn hp' rfl,?_,?_,fun n r hn hr1 hr2=>?_⟩
  ·obtain ⟨k0,kr,rfl,h2⟩:=hh
   exact ⟨k0,_,rfl,h2⟩
  ·simp only [List.length_append,List.length_cons,List.length_nil] at hl' ⊢
   omega
  ·cases n with
   | zero=>simp at hn
   | succ n =>
    have h3:=hr' n r (by simpa using hn) hr1 hr2
    rw [zKc,zKc,zEd,hr _ (hN _),zJb,zbe,zvc,zpd,List.tail_cons]
    show bd (bd (item (cl k'++r)) _) _=_
    rw [h3,zJb]
    simp only [zYc]
theorem zLl {item:List Tok→R T} {N:List Tok→Prop} (hN:∀ r,N (ck (sg [44]) :: r)) {d:Nat} {xs:List T} (h0:xs≠[]) (h:∀ x∈xs,Rd item N x (shw d x)) :
  ∃ ks,Pc FX (commas (zpb d xs)) ks∧Hd ks∧∀ r,r≠[]→N r→isT (hdT r) (bs [44])=false→zsd item (cl ks++r)=.ok (zs xs,r):=by
 match xs,h0 with
 | [x],_ =>
  obtain ⟨k,hp,hh,hr⟩:=h x (by simp)
  refine ⟨k,by rw [zPa,zib,zoh];exact hp,hh,fun r hr0 hr1 hr2=>?_⟩
  unfold zsd
  rw [hr r hr1,zJb]
  cases hl:r.length with
  | zero=>exact absurd (List.eq_nil_of_length_eq_zero hl) hr0
  | succ n=>rw [zbe,hr2,cond_false,zJb,zYc,zue]
 | x :: y :: xs,_ =>
  obtain ⟨k,hp,hh,hr⟩:=h x (by simp)
  obtain ⟨k',hp',_,hl',hr'⟩:=zfo hN (y :: xs) (by simp) (fun z hz=>h z (by simp [List.mem_cons.1 hz]))
  refine ⟨k++([sg [44]]++k'),by rw [zPa,zPa,zzj,← zPa];exact hp.xs zcn hp' rfl,?_,fun r hr0 hr1 hr2=>?_⟩
  ·obtain ⟨k0,kr,rfl,h2⟩:=hh
   exact ⟨k0,_,rfl,h2⟩
  ·unfold zsd
   rw [zKc,zKc,zEd,hr _ (hN _),zJb,List.length_cons,zbe,zvc,zpd,List.tail_cons]
   have h3:=hr' (cl k'++r).length r (by rw [List.length_append];unfold cl;rw [List.length_map];simp only [List.length_cons] at hl' ⊢;omega) hr1 hr2
   show bd (bd (item (cl k'++r)) _) _=_
   rw [h3,zJb]
   simp only [zYc]
theorem zDi {item:List Tok→R T} {N:List Tok→Prop} (hN:∀ r,N (ck (sg [44]) :: r)) (hN2:∀ r,N (ck (sg [41]) :: r)) {d:Nat} {xs:List T} (h:∀ x∈xs,Rd item N x (shw d x)) :
  ∃ ks,Pc FS ([40]++(commas (zpb d xs)++[41])) ([sg [40]]++ks)∧∀ r,zwb item (ck (sg [40]) :: (cl ks++r))=.ok (zs xs,r):=by
 by_cases h0:xs=[]
 ·subst h0
  refine ⟨[sg [41]],by rw [zib];exact lp.s rp,fun r=>?_⟩
  unfold zwb
  exact rdx
 ·obtain ⟨ks,hp,hh,hr⟩:=zLl hN h0 h
  refine ⟨ks++[sg [41]],lp.s (hp.x (r:=[]) rp rfl),fun r=>?_⟩
  unfold zwb
  rw [zKc,zEd]
  have h1:=hr (ck (sg [41]) :: r) (by simp) (hN2 r) (by rw [zvc,zpd];rfl)
  obtain ⟨k0,kr,rfl,h2,_⟩:=hh
  have h3:isT (hdT (cl (k0 :: kr)++(ck (sg [41]) :: r))) (bs [41])=false:=h2
  rw [zYd,zJb,h3,cond_false,h1,zJb,zYd,zJb]
end Go.Proofs.YtbfgdpcgdmabpaaGreatDoor
