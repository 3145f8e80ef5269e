/- What the six tables that stage 3's rows list give the walks: the tables of lex (Tabs) and of strconv (Pow); the world of the witness; the contracts of laws of one text, and of a text with a number. -/
import Derived.Test.YtbfgdpcgdmabpaaGreatDoorZ04
import Derived.Test.YtbfgdpcgdmabpaaGreatDoorZ14
import Derived.Test.YtbfgdpcgdmabpaaGreatDoorZ33
import Derived.LaidSub
import Derived.Test.YtbfgdpcgdmabpaaGreatDoorZ16
import Derived.Deep.LoopGhost
import Derived.Lib.SlBytesRow
import Derived.Test.YtbfgdpcgdmabpaaGreatDoorZ17
import Derived.Deep.QuietTactic
import Derived.BigQuiet
namespace Go.Proofs.YtbfgdpcgdmabpaaGreatDoor
set_option maxRecDepth 100000
open Go.ChangeShapes Go.WideShapes Go.ChangeAt Go.ChangeMaps Go.RowKit
def zwl:List (String × DataW Unit):=[("math/bits.deBruijn32tab", Rows.laid_math_bits_deBruijn32tab),("math/bits.deBruijn64tab", Rows.laid_math_bits_deBruijn64tab),("internal/strconv.uint64pow10", Rows.laid_internal_strconv_uint64pow10),("lychgate/lex.keys", Rows.laid_lychgate_lex_keys),("lychgate/lex.blanks", Rows.laid_lychgate_lex_blanks),("lychgate/lex.pairs", Rows.laid_lychgate_lex_pairs)]
def zmt (x:String × DataW Unit):Bool:=x.1 == "lychgate/lex.keys" || x.1 == "lychgate/lex.blanks" || x.1 == "lychgate/lex.pairs"
def zzs (x:String × DataW Unit):Bool:=x.1 == "internal/strconv.uint64pow10"
theorem zvm:zwl.filter zmt=zPt:=by kernel_rfl
theorem zqm:zwl.filter zzs=[("internal/strconv.uint64pow10", Lib.tabData .u64 Lib.pow10Tab)]:=by kernel_rfl
theorem zwi {W:World} (h:laidMetH Tryz.prog zwl W):Tabs W:=by
 have h1:=h.filter zmt
 rw [zvm] at h1
 exact zKi h1
theorem tPow:(Tryz.prog.globals[4]?).map (·.type)=some 207:=by kernel_rfl
theorem cU64:Tryz.prog.cellsOf 163=1:=by kernel_rfl
theorem cPow:Tryz.prog.cellsOf 207=20:=by kernel_rfl
theorem zYi {W:World} (h:laidMetH Tryz.prog zwl W):Pow W:=by
 have h1:=h.filter zzs
 rw [zqm,MakeChecks.laidMetH_plain _ _ _ (by kernel_rfl)] at h1
 have h2:=Lib.tabIs_of_head gPow tPow Tryz.underlying207 Tryz.underlying163 cU64 cPow h1
 exact ⟨cell_lt (h2.cell gPow 0 (by decide)),h2⟩
theorem Pow.later {W W':World} (h:Pow W) (hb:Below W.heap.size W W'):Pow W':=⟨Nat.lt_of_lt_of_le h.1 hb.size,(zWd.step h hb).2⟩
def zAt:DataW Unit→Value
 | .lit (.int k z)=>.int k z
 | _=>.bool false
def zzi:DataW Unit→Array Value
 | .agg ds=>(ds.map zAt).toArray
 | _=>#[]
noncomputable def laidWorld6 (os:Os):World :=
 { laidWorld os with heap:=(((laidWorld os).heap.modify 5 (laying (zzi Rows.laid_math_bits_deBruijn32tab))).modify 6 (laying (zzi Rows.laid_math_bits_deBruijn64tab))).modify 4 (laying (zzi Rows.laid_internal_strconv_uint64pow10)) }
theorem zKh (os:Os):laidMet Tryz.prog zwl ((laidWorld6 os).forCall (fun _ _=>0) ⟨#[],#[.string ⟨#[]⟩],[]⟩).memory :=
 laidMet_of_run' 8 (by kernel_rfl) (by kernel_rfl)
theorem zDh {H:Type} {enc:TypeId × Value→H} {f:FuncId} {fn:Func} {sp:ChangeSpec} {ts:List TypeId} (hp:fn.params=#[9]) (hr:fn.resultTypes=#[4]) (hvars:sp.vars=[])
  (hfn:∀ d:DataW H,sp.fn H [d]={ results:=[.lit (.bool true)],args:=[d] })
  (walk:∀ (s:ByteArray) (w:World),s.size≤maxLen→s.size≤140737488351232→Tabs w→Pow w→Calls Tryz.prog f #[.string s] w fun e w'=>e=.returned (.bool true)∧Below w.heap.size w w')
  (W:World) (base:Nat) (args:Array Value) (ds gs:List (DataW H)) (before:List MemPlace)
  (hval:∀ (j:Nat) t v,fn.params[j]?=some t→args[j]?=some v→Value.okWide Tryz.prog W .any base t v)
  (hW:DataW.Whole enc Tryz.prog fn.params.toList sp.vars false W args.toList ds gs before) (hreach:(DataW.weightsEach Tryz.prog (fn.params.toList++ts) (ds++gs)).all (·≤reachBytes)=true) (hL:laidMetH Tryz.prog zwl W) :
  Calls Tryz.prog f args W fun e W'=>∃ v,e=.returned v∧sp.post enc Tryz.prog fn false true false false W args v W':=by
 have hW':=hW
 obtain ⟨p,q,hA0,hV,rfl,hfz,hnd⟩:=hW
 rw [hvars] at hV
 have hA:DataW.TrodAll enc Tryz.prog W 0 (fun _=>true) true fn.params.toList args.toList ds p:=hA0
 rw [hp] at hA hval hreach
 obtain ⟨v0,vs0,d0,ds0,p0,q0,hargs,rfl,rfl,h0,r0⟩:=trodAll_cons hA
 obtain ⟨rfl,rfl,rfl⟩:=trodAll_nil r0
 obtain rfl:args=#[v0]:=by cases args;simp_all
 obtain ⟨rfl,rfl⟩:=trodVars_none hV
 obtain ⟨s,rfl,rfl,rfl,hs⟩:=open_string Tryz.underlying9 (hval 0 9 v0 (by simp) (by simp)) h0
 clear hA0
 have hla:s.size≤140737488351232:=by
  have:=sized_string hreach (j:=0) (t:=9) (bytes:=s.data.toList) rfl rfl
  rw [Array.length_toList] at this
  exact this
 refine (walk s W hs hla (zwi hL) (zYi hL)).mono fun e W' ⟨he,hb⟩=>⟨_,he,?_⟩
 exact zgn (by rw [hp]) hr hvars (hfn _) hs hW' hb
end Go.Proofs.YtbfgdpcgdmabpaaGreatDoor
namespace Go.Proofs.YtbfgdpcgdmabpaaGreatDoor
set_option maxRecDepth 100000
set_option maxHeartbeats 1000000
open Go.RowKit
def st (l:List UInt8):ByteArray:=⟨l.toArray⟩
theorem zwe (a b:List UInt8):st a++st b=st (a++b):=by
 apply ByteArray.ext
 rw [ByteArray.data_append]
 simp [st]
theorem zIb (l:List UInt8):(st l).size=l.length:=by
 show l.toArray.size=_
 simp
def DpRel (d:Nat) (w:World) (gh:Nat) (s i:Value) (wr:World):Prop :=
 ∃ j:Nat,j≤d∧d≤j+gh∧i=.int .i64 j∧s=.string (st (blanks j))∧wr=w
theorem zNh (d:Nat) (w:World) (hd:d≤100000) :
  Calls Tryz.prog 55 #[.int .i64 d] w fun e w'=>e=.returned (.string (st (blanks d)))∧Below w.heap.size w w':=by
 go_enter Tryz.func55,Tryz.ntmps55
 go_wp2_with fail
 go_loopg [3,4] d (fun gk s i wr=>DpRel d w gk s i wr)
 case atStart=>exact ⟨0,by omega,by omega,rfl,rfl,rfl⟩
 case round =>
  obtain ⟨j,hj,hgj,rfl,rfl,hw⟩:=hrel
  subst hw
  have hz:(st (blanks j)).size≤140737488351232:=by rw [zIb];unfold blanks;simp;omega
  by_cases hlt:j<d
  ·go_wp2_with fail
   go_roundg (gk-1)
   case measure=>omega
   case rel=>exact ⟨j+1,by omega,by omega,by go_num,by rw [zgh,← zwe];rfl,rfl⟩
  ·obtain rfl:j=d:=by omega
   go_wp2_with fail
   go_ret
   exact ⟨rfl,Below.refl _ _⟩
theorem zAk {u:Nat} (h:u / 10=0):Lib.decDigits u=[UInt8.ofNat (48+u % 10)]:=by
 rw [Lib.decDigits,dif_pos (by omega),show u % 10=u by omega]
theorem zup {u:Nat} (h:u / 10≠0):Lib.decDigits u=Lib.decDigits (u / 10)++[UInt8.ofNat (48+u % 10)]:=by
 rw [Lib.decDigits,dif_neg (by omega)]
def zYr (U:Nat) (w:World) (gh:Nat) (uv s:Value) (wr:World):Prop :=
 ∃ (u:Nat) (l:List UInt8),u≤gh∧u≤U∧uv=.int .u64 u∧s=.string (st l)∧Hid (Lib.decDigits U=Lib.decDigits u++l)∧Hid (Below w.heap.size w wr)
theorem zZh (W:World) (d:Nat) (hd:d<10) (x:Int) (hx:x=(d:Int)):(convert 72 9 (.slice (some ⟨W.heap.size,0,none⟩) 1 1)).run Tryz.prog (W.alloc (.cells #[.int .u8 (48+x)] 5))=.ok (.string (st [UInt8.ofNat (48+d)])) (W.alloc (.cells #[.int .u8 (48+x)] 5)):=by
 subst hx
 have h:=Lib.run_convert_whole (P:=Tryz.prog) (W.alloc (.cells #[.int .u8 (48+(d:Int))] 5)) 72 5 9 Tryz.underlying72 Tryz.underlying5 Tryz.underlying9 W.heap.size 0 (st [UInt8.ofNat (48+d)]) (fun i hi=>by
  have h0:i=0:=by rw [zIb] at hi;simp at hi;exact hi
  subst h0
  have hb:(st [UInt8.ofNat (48+d)])[0]=UInt8.ofNat (48+d):=rfl
  rw [hb,UInt8.toNat_ofNat',Nat.mod_eq_of_lt (by omega)]
  simp) 1
 exact h
theorem zjj (U:Nat) (w:World) (hd:U≤1099511627776) :
  Calls Tryz.prog 52 #[.int .i64 U] w fun e w'=>e=.returned (.string (st (dec U)))∧Below w.heap.size w w':=by
 have hw1:IntKind.u64.wrap (U:Int)=(U:Int):=by unfold IntKind.wrap;simp [IntKind.bits,IntKind.signed];omega
 have hn:¬ ((U:Int)<0):=by omega
 have HD:=zh (Lib.itoa_nonneg U)
 have hlen:(Lib.decDigits U).length≤21:=by have:=Lib.itoa_length_le U (by omega) (by omega);rw [Lib.itoa_nonneg] at this;exact this
 go_enter Tryz.func52,Tryz.ntmps52
 go_wp2_with fail
 go_loopg [3,4] U (fun gk uv s wr=>zYr U w gk uv s wr)
 case atStart=>exact ⟨U,[],Nat.le_refl _,Nat.le_refl _,rfl,rfl,zh (List.append_nil _).symm,zh (Below.refl _ _)⟩
 case round =>
  obtain ⟨u,l,hug,huU,rfl,rfl,HL,HB⟩:=hrel
  have hz:(st l).size≤140737488351232:=by have h1:=congrArg List.length HL.out;rw [List.length_append] at h1;rw [zIb];omega
  have hcv:=zZh wr (u % 10) (by omega) ((u:Int) % 10) (by omega)
  obtain ⟨dg,hdg⟩:∃ dg:ByteArray,st [UInt8.ofNat (48+u % 10)]=dg:=⟨_,rfl⟩
  have hdz:dg.size≤140737488351232:=by rw [← hdg,zIb];simp
  rw [hdg] at hcv
  have HDG:=zh hdg
  have HB2:=zh (HB.out.alloc HB.out.size (.cells #[.int .u8 (48+(u:Int) % 10)] 5))
  clear hdg
  by_cases h0:u / 10=0
  ·have hq:((u:Int) / 10 == 0)=true:=beq_iff_eq.2 (by omega)
   have HS:=zh (zAk h0)
   clear h0
   go_wp2_with fail
   go_ret
   exact ⟨by rw [← HDG.out,zwe];unfold dec;rw [HD.out,HL.out,HS.out];rfl,HB2.out⟩
  ·have hq:((u:Int) / 10 == 0)=false:=beq_eq_false_iff_ne.2 (by omega)
   have HS:=zh (zup h0)
   have hlt:u / 10<u:=by omega
   clear h0
   go_wp2_with fail
   go_roundg (gk-1)
   case measure=>omega
   case rel=>exact ⟨u / 10,_,by omega,by omega,by go_num,by rw [← HDG.out,zwe],zh (by rw [HL.out,HS.out,List.append_assoc]),HB2⟩
theorem zkj (U:Nat) (w:World) (hd:U≤1099511627776) (h1:1≤U) :
  Calls Tryz.prog 52 #[.int .i64 (-(U:Int))] w fun e w'=>e=.returned (.string (st (dec (-(U:Int)))))∧Below w.heap.size w w':=by
 have hw1:IntKind.u64.wrap (-(U:Int))=18446744073709551616-(U:Int):=by unfold IntKind.wrap;simp [IntKind.bits,IntKind.signed];omega
 have hw2:IntKind.u64.wrap (-(18446744073709551616-(U:Int)))=(U:Int):=by unfold IntKind.wrap;simp [IntKind.bits,IntKind.signed];omega
 have hw3:IntKind.u64.wrap ((U:Int)-18446744073709551616)=(U:Int):=by unfold IntKind.wrap;simp [IntKind.bits,IntKind.signed];omega
 have hn:-(U:Int)<0:=by omega
 have hn2:0<U:=h1
 have HD:=zh (Lib.itoa_neg U h1)
 have hlen:(Lib.decDigits U).length≤21:=by have:=Lib.itoa_length_le U (by omega) (by omega);rw [Lib.itoa_nonneg] at this;exact this
 go_enter Tryz.func52,Tryz.ntmps52
 go_wp2_with fail
 go_loopg [3,4] U (fun gk uv s wr=>zYr U w gk uv s wr)
 case atStart=>exact ⟨U,[],Nat.le_refl _,Nat.le_refl _,rfl,rfl,zh (List.append_nil _).symm,zh (Below.refl _ _)⟩
 case round =>
  obtain ⟨u,l,hug,huU,rfl,rfl,HL,HB⟩:=hrel
  have hz:(st l).size≤140737488351232:=by have h1:=congrArg List.length HL.out;rw [List.length_append] at h1;rw [zIb];omega
  have hcv:=zZh wr (u % 10) (by omega) ((u:Int) % 10) (by omega)
  obtain ⟨dg,hdg⟩:∃ dg:ByteArray,st [UInt8.ofNat (48+u % 10)]=dg:=⟨_,rfl⟩
  have hdz:dg.size≤140737488351232:=by rw [← hdg,zIb];simp
  rw [hdg] at hcv
  have HDG:=zh hdg
  have HB2:=zh (HB.out.alloc HB.out.size (.cells #[.int .u8 (48+(u:Int) % 10)] 5))
  clear hdg
  by_cases h0:u / 10=0
  ·have hq:((u:Int) / 10 == 0)=true:=beq_iff_eq.2 (by omega)
   have HS:=zh (zAk h0)
   clear h0
   go_wp2_with fail
   go_ret
   exact ⟨by
    show Ending.returned (.string ((⟨#[45]⟩:ByteArray)++(dg++st l)))=_
    rw [← HDG.out,zwe]
    unfold dec
    rw [HD.out,HL.out,HS.out]
    exact congrArg (fun x=>Ending.returned (.string x)) (zwe [45] _),HB2.out⟩
  ·have hq:((u:Int) / 10 == 0)=false:=beq_eq_false_iff_ne.2 (by omega)
   have HS:=zh (zup h0)
   have hlt:u / 10<u:=by omega
   clear h0
   go_wp2_with fail
   go_roundg (gk-1)
   case measure=>omega
   case rel=>exact ⟨u / 10,_,by omega,by omega,by go_num,by rw [← HDG.out,zwe],zh (by rw [HL.out,HS.out,List.append_assoc]),HB2⟩
theorem zrj (n:Int) (w:World) (hn:-1099511627776≤n∧n≤1099511627776) :
  Calls Tryz.prog 52 #[.int .i64 n] w fun e w'=>e=.returned (.string (st (dec n)))∧Below w.heap.size w w':=by
 by_cases h:n<0
 ·obtain ⟨u,rfl⟩:∃ u:Nat,n=-(u:Int):=⟨n.natAbs,by omega⟩
  exact zkj u w (by omega) (by omega)
 ·obtain ⟨u,rfl⟩:∃ u:Nat,n=u:=⟨n.toNat,by omega⟩
  exact zjj u w (by omega)
end Go.Proofs.YtbfgdpcgdmabpaaGreatDoor
namespace Go.Proofs.YtbfgdpcgdmabpaaGreatDoor
set_option maxRecDepth 100000
set_option maxHeartbeats 2000000
open Go.RowKit
def RtRel (w:World) (t:T) (g:Nat) (i:Value) (wr:World):Prop :=
 ∃ (k:Nat) (v:Value),k≤t.kids.length∧t.kids.length≤k+g∧i=.int .i64 k∧zMd w t (t.kids.take k) v wr
theorem zVj:∀ (n:Nat) (t:T),t.size≤n→∀ {w:World} {S:Nat→Prop} {kv:Value},KAt 25 w t.kids S kv→t.size≤50000 →
  Calls Tryz.prog 11 #[zKa t kv] w (zzp w t):=by
 intro n
 induction n with
 | zero=>intro t ht;cases t;rw [size_mk] at ht;omega
 | succ n ih =>
  intro t ht w S kv hk hbig
  obtain ⟨i0,z0,I⟩:=Tryz.zqq
  have hts:t.size=1+sizes t.kids:=by cases t;rw [size_mk];rfl
  have HTS:=zh hts
  have HT:=zh ht
  have HBIG:=zh hbig
  have HIH:=zh (@ih)
  have hkl:t.kids.length≤sizes t.kids:=by
   have:∀ ks:List T,ks.length≤sizes ks:=fun ks=>by
    induction ks with
    | nil=>simp
    | cons a ks h=>rw [zna];cases a;rw [size_mk];simp;omega
   exact this _
  have hkl2:t.kids.length≤50000:=by omega
  have hmk:T.mk t.kind t.text t.num t.place t.kids=t:=by cases t;rfl
  have HMK:=zh hmk
  have HNEW:=zh (znm w t kv)
  clear hmk
  rcases hk.form with ⟨rfl,hnil⟩|⟨g,cap,rfl,hg,hcap,hcm,hget⟩
  ·have HN:=zh (show zMd w t t.kids (.slice none 0 0) _ by rw [hnil];exact HNEW.out)
   have HNL:=zh (show Blk _ (w.heap.size+2) (zaa t (.slice none 0 0)) 34 by have:=HN.out.loc;rw [HMK.out] at this;exact this)
   clear hk ih ht hbig hts hnil hkl hkl2
   unfold zKa
   go_enter Tryz.func11,Tryz.ntmps11
   go_wp2_with ((with_reducible refine zDa 34 (.tmp 3) ?_);refine zua rfl 34 (.tmp 3) (.tmp 14) rfl (zaa (.mk t.kind t.text t.num t.place []) (.slice none 0 0)) (old:=zba) rfl rfl Tryz.zye rfl (zea _ _ rfl) ?_)
   refine wp_loop_rounds 1 ?_
   rw [rounds_succ]
   go_wp2_with (first
    | ((with_reducible refine zdb 34 (.tmp 3) ?_);refine zga rfl 34 (.tmp 3) rfl (w.heap.size+2) (zaa t (.slice none 0 0)) rfl HNL.out Tryz.underlying34 rfl Tryz.zye ?_)
    | ((with_reducible refine zDa 34 (.tmp 2) ?_);refine zca rfl 34 (.tmp 2) (.tmp 30) rfl (w.heap.size+1) (zaa t (.slice none 0 0)) rfl rfl HN.out.res Tryz.zye rfl (zea _ _ rfl) ?_))
   exact zma (cs:=zaa t (.slice none 0 0)) Tryz.results11 rfl HN.out.res Tryz.underlying34 rfl Tryz.zye rfl HN.out.post
  ·have HG:=zh hget
   have HCAP:=zh hcap
   have HHG:=zh hg
   clear hk ih ht hbig hts hget hkl hcap hg
   unfold maxLen at hcm
   unfold zKa
   go_enter Tryz.func11,Tryz.ntmps11
   go_wp2_with ((with_reducible refine zDa 34 (.tmp 3) ?_);refine zua rfl 34 (.tmp 3) (.tmp 14) rfl (zaa (.mk t.kind t.text t.num t.place []) (.slice none 0 0)) (old:=zba) rfl rfl Tryz.zye rfl (zea _ _ rfl) ?_)
   go_loopg [18] t.kids.length (fun gk i wr=>RtRel w t gk i wr)
   case atStart=>exact ⟨0,_,by omega,by omega,rfl,HNEW.out⟩
   case round =>
    obtain ⟨k,v,hk,hgk,rfl,hst⟩:=hrel
    have HS:=zh hst
    have hzw:=hst.lt
    clear hst HNEW
    by_cases hlt:k<t.kids.length
    ·obtain ⟨u,hr,hT⟩:=HG.out k t.kids[k] (List.getElem?_eq_getElem hlt)
     have hne:=List.getElem?_eq_getElem hlt
     have htk:t.kids.take (k+1)=t.kids.take k++[t.kids[k]]:=List.take_succ_eq_append_getElem hlt
     generalize t.kids[k]=tk at hr hT hne htk
     have HR:=zh (zgc hr (HS.out.below.mono (Nat.le_refl _)) HHG.out)
     have HTK:=zh (hT.below HS.out.below)
     have HTAKE:=zh htk
     have hcap:=HCAP.out
     have hks:=zFe hne
     clear hr hT hne htk
     go_wp2_with (first
      | ((with_reducible refine zdb 25 (.tmp 20) ?_);refine wpList_load_mid rfl 25 (.tmp 20) rfl g (k * 5) rfl (zaa tk u) _ HR.out Tryz.underlying25 rfl Tryz.zda ?_)
      | ((with_reducible refine zDa 25 (.tmp 5) ?_);refine zua rfl 25 (.tmp 5) (.tmp 21) rfl (zaa tk u) (old:=zba) rfl rfl Tryz.zda rfl (zea _ _ HTK.out.kat.one) ?_))
     have HKB:=zh (Blk.new wr (zaa tk u) 25)
     refine AnyE.zhc (S:=fun W=>Blk W (w.heap.size+2) (zaa (.mk t.kind t.text t.num t.place (t.kids.take k)) v) 34∧Blk W wr.heap.size (zaa tk u) 25) (by kernel_rfl) ⟨(HS.out.alloc _).loc.drew,HKB.out.drew⟩ (fun hS=>?_)
     refine AnyE.take (i:=0) (v:=.pointer (some ⟨w.heap.size+2,4,none⟩)) rfl (by kernel_rfl) (by kernel_rfl) (by kernel_rfl) (by kernel_rfl) (fun _ _ _ h=>h) (Or.inl ⟨by rfl,fun W _=>by go_simp⟩) hS ?_
     refine AnyE.take (i:=1) (v:=v) rfl (by kernel_rfl) (by kernel_rfl) (by kernel_rfl) (by kernel_rfl) (fun _ _ _ h=>h) (Or.inl ⟨by rfl,fun W hW=>by have hcx:W.cell? ⟨w.heap.size+2,4,none⟩=some (v):=hW.1.cell 4;go_simp⟩) hS ?_
     refine AnyE.take (i:=2) (v:=.agg #[.int .i64 tk.kind,.string tk.text,.int .i64 tk.num,.int .i64 tk.place,u]) rfl (by kernel_rfl) (by kernel_rfl) (by kernel_rfl) (by kernel_rfl) (fun _ _ _ h=>h) (yieldsIf_load_mid (cs:=zaa tk u) (by rfl) 25 (.tmp 5) rfl (wr.heap.size) 0 rfl _ (fun W hW j v hj=>by rw [Nat.zero_add,hW.2.cell j];exact hj) Tryz.underlying25 rfl Tryz.zda) hS ?_
     refine AnyE.one (i:=3) (by kernel_rfl) rfl (by rfl) (fun K hK=>?_)
     go_simp
     refine (HIH.out tk (by have h2:=HTS.out;have h3:=HT.out;omega) ((HTK.out.alloc _).drew).kat (by have h2:=HTS.out;have h3:=HBIG.out;omega)).mono ?_
     rintro e w3 ⟨u3,rfl,hu3,hb3⟩
     have HF3:=zh ((HS.out.alloc (.cells (zaa tk u).toArray 25)).drew.fresh hu3)
     have HS3:=zh ((HS.out.alloc (.cells (zaa tk u).toArray 25)).drew.call hb3)
     have HK3:=zh (HKB.out.drew.below hb3)
     have hz3:=HS3.out.lt
     clear hu3 hb3
     unfold zKa
     refine hK.out _ _ (fun _=>⟨HS3.out.loc,HK3.out⟩) ?_
     clear hK K
     refine AnyE.one (i:=4) (by kernel_rfl) rfl (by rfl) (fun K hK=>?_)
     go_simp
     refine hK.out _ _ (fun _=>⟨(HS3.out.alloc _).loc,HK3.out.alloc _⟩) ?_
     clear hK K
     refine AnyE.one (i:=5) (by kernel_rfl) rfl (by rfl) (fun K hK=>?_)
     refine zUa (.tmp 23) (.tmp 26) rfl I (ts:=[tk]) rfl (HS3.out.alloc _).kids (us:=[u3]) (zdc.single (HF3.out.alloc _)) (by simp;omega) rfl rfl (by simp) (zge w3 _ tk u3) (by simp;omega) ?_
     intro v4 w4 hK4 hg4 _
     obtain ⟨sa,sn,sc,rfl⟩:=hK4.slice
     obtain ⟨h1,h2⟩:=(HS3.out.alloc _).after hK4 hg4
     have hkb4:Blk w4 wr.heap.size (zaa tk u) 25:=(HK3.out.alloc _).grown hg4 (fun e=>by
      obtain ⟨_,ho,hSv,_⟩:=HS.out.kids
      have:=(ho.lt wr.heap.size e.symm).2
      omega)
     have hcx:w4.cell? ⟨w.heap.size+2,4,none⟩=some v:=h2.cell 4
     have hfx:=h2.frozen 4
     have HS4:=zh h1
     have HC4:=zh h2
     have HKB4:=zh hkb4
     clear h1 h2 hK4 hg4 hkb4
     refine hK.out _ _ (fun _=>⟨HC4.out,HKB4.out⟩) ?_
     clear hK K
     refine AnyE.one (i:=6) (by kernel_rfl) rfl (by rfl) (fun K hK=>?_)
     go_simp
     refine hK.out _ _ (fun _=>⟨HC4.out,HKB4.out⟩) ?_
     clear hK K
     refine AnyE.one (i:=7) (by kernel_rfl) rfl (by rfl) (fun K hK=>?_)
     go_simp
     refine hK.out _ _ (fun h=>absurd rfl h) ?_
     clear hK K
     refine AnyE.done (by kernel_rfl) ?_ _
     clear hcx hfx
     generalize w4.setCell ⟨w.heap.size+2,4,none⟩ (.slice sa sn sc)=w5 at HS4 ⊢
     go_wp2
     go_roundg (gk-1)
     case measure=>omega
     case rel=>exact ⟨k+1,_,by omega,by omega,by go_num,by rw [HTAKE.out];exact HS4.out⟩
    ·have HE:=zh (show zMd w t t.kids v wr by have:=HS.out;rw [List.take_of_length_le (show t.kids.length≤k by omega)] at this;exact this)
     have HL:=zh (show Blk wr (w.heap.size+2) (zaa t v) 34 by have:=HE.out.loc;rw [HMK.out] at this;exact this)
     go_wp2_with (first
      | ((with_reducible refine zdb 34 (.tmp 3) ?_);refine zga rfl 34 (.tmp 3) rfl (w.heap.size+2) (zaa t v) rfl HL.out Tryz.underlying34 rfl Tryz.zye ?_)
      | ((with_reducible refine zDa 34 (.tmp 2) ?_);refine zca rfl 34 (.tmp 2) (.tmp 30) rfl (w.heap.size+1) (zaa t v) rfl rfl HE.out.res Tryz.zye rfl (zea _ _ HE.out.kids.one) ?_))
     exact zma (cs:=zaa t v) Tryz.results11 rfl HE.out.res Tryz.underlying34 rfl Tryz.zye rfl HE.out.post
end Go.Proofs.YtbfgdpcgdmabpaaGreatDoor
namespace Go.Proofs.YtbfgdpcgdmabpaaGreatDoor
set_option maxRecDepth 100000
set_option maxHeartbeats 1000000
open Go.RowKit
theorem zcf:∀ ts:List T,zfa ts≤ts.length
 | []=>Nat.le_refl _
 | t :: ts=>by
  have:=zcf ts
  unfold zfa
  split
  ·simp only [List.length_cons];omega
  ·omega
def Win (w:World) (ts:List T) (v:Value):Prop :=
 ∃ pa cap,v=.slice pa ts.length cap∧(ts.length≤1000000∧ts.length≤cap∧cap≤maxLen)∧(pa=none→ts=[])∧∀ a,pa=some a→∃ g o,a=⟨g,o,none⟩∧g<w.heap.size∧∀ k t,ts[k]?=some t→∃ u,w.rangeAt g (o+k * 5) (zaa t u)∧KAt 34 w t.kids (fun b=>b<w.heap.size) u
theorem Win.below {w w':World} {ts:List T} {v:Value} (h:Win w ts v) (hb:Below w.heap.size w w'):Win w' ts v:=by
 obtain ⟨pa,cap,rfl,h1,h2,h3⟩:=h
 refine ⟨pa,cap,rfl,h1,h2,fun a ha=>?_⟩
 obtain ⟨g,o,rfl,hg,hr⟩:=h3 a ha
 refine ⟨g,o,rfl,Nat.lt_of_lt_of_le hg hb.size,fun k t ht=>?_⟩
 obtain ⟨u,h4,h5⟩:=hr k t ht
 exact ⟨u,zgc h4 hb hg,h5.keep fun b hbb hl=>⟨Nat.lt_of_lt_of_le hbb hb.size,hb.block b hl⟩⟩
theorem below_drewN {B:Nat} {a w:World} (h:Below B a w) (n:Nat):Below B a (w.drewN n):=⟨h.os,h.tape,h.output,h.size,h.block⟩
def zzn (n:Nat) (w:World) (gh:Nat) (i:Value) (wr:World):Prop:=∃ j:Nat,j≤n∧n≤j+gh∧i=.int .i64 j∧w=wr
theorem ztd {w:World} {ts:List T} {v:Value} {K:Int} (h:Win w ts v) (hk:zPa (fun x=>x=K) ts) :
  Calls Tryz.prog 97 #[v,.int .i64 K] w fun e w'=>e=.returned (.bool true)∧Below w.heap.size w w':=by
 obtain ⟨pa,cap,rfl,⟨h1,hcap,hcap2⟩,h2,h3⟩:=h
 clear hcap hcap2
 obtain ⟨n,hn⟩:∃ n,ts.length=n:=⟨_,rfl⟩
 rw [hn] at h1 ⊢
 have HN:=zh hn
 have H2:=zh h2
 have H3:=zh h3
 have HK:=zh hk
 clear hn h2 h3 hk
 go_enter Tryz.func97,Tryz.ntmps97
 go_wp2_with fail
 go_loopg [5] n (fun gk i wr=>zzn n w gk i wr)
 case atStart=>exact ⟨0,by omega,by omega,rfl,rfl⟩
 case round =>
  obtain ⟨j,hj,hgj,rfl,hw⟩:=hrel
  subst hw
  by_cases hlt:j<n
  ·have hjl:j<ts.length:=by rw [HN.out];exact hlt
   cases pa with
   | none =>
    have:=H2.out rfl
    subst this
    exact absurd hjl (by simp)
   | some a =>
    obtain ⟨g,o,rfl,hg,hr⟩:=H3.out a rfl
    obtain ⟨u,h4,_⟩:=hr j ts[j] (List.getElem?_eq_getElem hjl)
    have hkj:(ts[j]).kind=K:=HK.out _ (List.getElem_mem hjl)
    have m0:w.cell? ⟨g,o+j * 5,none⟩=some (.int .i64 K):=by rw [← hkj];exact h4 0 _ rfl
    clear hr h4 hkj
    go_wp2_with fail
    go_roundg (gk-1)
    case measure=>omega
    case rel=>exact ⟨j+1,by omega,by omega,by go_num,rfl⟩
  ·obtain rfl:j=n:=by omega
   go_wp2_with fail
   go_ret
   exact ⟨rfl,Below.refl _ _⟩
def Ints (w:World) (xs:List Int) (v:Value):Prop:=∃ g cap,v=.slice (some ⟨g,0,none⟩) xs.length cap∧g<w.heap.size∧∀ (i:Nat) x,xs[i]?=some x→w.cell? ⟨g,i,none⟩=some (.int .i64 x)
theorem Ints.below {w w':World} {xs:List Int} {v:Value} (h:Ints w xs v) (hb:Below w.heap.size w w'):Ints w' xs v:=by
 obtain ⟨g,cap,rfl,hg,hc⟩:=h
 exact ⟨g,cap,rfl,Nat.lt_of_lt_of_le hg hb.size,fun i x hx=>(hb.cell (p:=⟨g,i,none⟩) hg).trans (hc i x hx)⟩
theorem zfc {w:World} {ts:List T} {kv v:Value} {Ks:List Int} {k nm:Int} {s:ByteArray} {p:Int} (h:Win w ts kv) (hi:Ints w Ks v) (hk:ts.map T.kind=Ks) :
  Calls Tryz.prog 98 #[.agg #[.int .i64 k,.string s,.int .i64 nm,.int .i64 p,kv],v] w fun e w'=>e=.returned (.bool true)∧Below w.heap.size w w':=by
 have hb0:Below w.heap.size w (w.alloc (.cells [.int .i64 k,.string s,.int .i64 nm,.int .i64 p,kv].toArray 34)):=(Below.refl _ _).alloc (Nat.le_refl _) _
 obtain ⟨W,hW,HB,hi,H3,n4⟩:∃ W,w.alloc (.cells [.int .i64 k,.string s,.int .i64 nm,.int .i64 p,kv].toArray 34)=W∧Hid (Below w.heap.size w W)∧Ints W Ks v∧Hid (Win W ts kv)∧W.cell? ⟨w.heap.size,4,none⟩=some kv :=
  ⟨_,rfl,zh hb0,hi.below hb0,zh (h.below hb0),(Blk.new w [.int .i64 k,.string s,.int .i64 nm,.int .i64 p,kv] 34).cell 4⟩
 obtain ⟨pa,cap,rfl,⟨h1,hcap,hcap2⟩,h2,h3⟩:=h
 clear hcap hcap2 h2 h3 hb0
 obtain ⟨g2,cap2,rfl,hg2,hc2⟩:=hi
 obtain ⟨n,hn⟩:∃ n,ts.length=n:=⟨_,rfl⟩
 have hkl:Ks.length=n:=by rw [← hk,List.length_map,hn]
 rw [hn] at h1 n4 hW ⊢
 rw [hkl]
 have HN:=zh hn
 have HK:=zh hk
 have HC:=zh hc2
 have HKL:=zh hkl
 clear hn hk hkl hc2
 go_enter Tryz.func98,Tryz.ntmps98
 go_wp2_with fail
 go_loopg [5] n (fun gk i wr=>∃ j:Nat,j≤n∧n≤j+gk∧i=.int .i64 j∧Hid (Below W.heap.size W wr))
 case atStart=>exact ⟨0,by omega,by omega,rfl,zh (Below.refl _ _)⟩
 case round =>
  obtain ⟨j,hj,hgj,rfl,HR⟩:=hrel
  by_cases hlt:j<n
  ·have hjl:j<ts.length:=by rw [HN.out];exact hlt
   obtain ⟨pa',cap',hv,_,h2,h3⟩:=H3.out
   cases hv
   cases pa with
   | none =>
    have:=h2 rfl
    subst this
    exact absurd hjl (by simp)
   | some a =>
    obtain ⟨g,o,rfl,hg,hr⟩:=h3 a rfl
    obtain ⟨u,h4,_⟩:=hr j ts[j] (List.getElem?_eq_getElem hjl)
    have m0:wr.cell? ⟨g,o+j * 5,none⟩=some (.int .i64 (ts[j]).kind):=(HR.out.cell (p:=⟨g,o+j * 5,none⟩) hg).trans (h4 0 _ rfl)
    have m1:wr.cell? ⟨g2,j,none⟩=some (.int .i64 (ts[j]).kind):=(HR.out.cell (p:=⟨g2,j,none⟩) hg2).trans (HC.out j _ (by rw [← HK.out,List.getElem?_map,List.getElem?_eq_getElem hjl];rfl))
    have m4:wr.cell? ⟨w.heap.size,4,none⟩=some (.slice (some ⟨g,o,none⟩) n cap):=(HR.out.cell (p:=⟨w.heap.size,4,none⟩) (cell_lt n4)).trans n4
    clear hr h4 h2 h3
    generalize (ts[j]).kind=K at m0 m1
    go_wp2_with fail
    go_quiet (fail)
    go_wp2_with fail
    go_roundg (gk-1)
    case measure=>omega
    case rel=>exact ⟨j+1,by omega,by omega,by go_num,zh (below_drewN HR.out nq)⟩
  ·obtain rfl:j=n:=by omega
   go_wp2_with fail
   go_ret
   exact ⟨rfl,HB.out.trans (HR.out.mono HB.out.size)⟩
theorem zPh:∀ (ts:List T) (j:Nat) (h:j<zfa ts),(ts[j]'(Nat.lt_of_lt_of_le h (zcf ts))).kind=3
 | [],j,h=>absurd h (by simp [zfa])
 | t :: ts,j,h=>by
  by_cases hk:t.kind=3
  ·cases j with
   | zero=>exact hk
   | succ j =>
    have h2:j<zfa ts:=by rw [zfa,if_pos hk] at h;omega
    exact zPh ts j h2
  ·rw [zfa,if_neg hk] at h
   omega
theorem zgg:∀ (ts:List T) (h:zfa ts<ts.length),(ts[zfa ts]'h).kind≠3
 | [],h=>absurd h (by simp)
 | t :: ts,h=>by
  by_cases hk:t.kind=3
  ·have e:zfa (t :: ts)=zfa ts+1:=by rw [zfa,if_pos hk]
   have h2:zfa ts<ts.length:=by rw [e] at h;simpa using h
   have:=zgg ts h2
   simp only [e,List.getElem_cons_succ]
   exact this
  ·have e:zfa (t :: ts)=0:=by rw [zfa,if_neg hk]
   simp only [e,List.getElem_cons_zero]
   exact hk
theorem zWg {w:World} {a:T} {ts:List T} {kv:Value} {k nm:Int} {s:ByteArray} {p:Int} (h:Win w (a :: ts) kv) :
  Calls Tryz.prog 53 #[.agg #[.int .i64 k,.string s,.int .i64 nm,.int .i64 p,kv]] w fun e w'=>e=.returned (.int .i64 (zfa ts))∧Below w.heap.size w w':=by
 have hb0:Below w.heap.size w (w.alloc (.cells [.int .i64 k,.string s,.int .i64 nm,.int .i64 p,kv].toArray 34)):=(Below.refl _ _).alloc (Nat.le_refl _) _
 obtain ⟨W,hW,HB,H3,n4⟩:∃ W,w.alloc (.cells [.int .i64 k,.string s,.int .i64 nm,.int .i64 p,kv].toArray 34)=W∧Hid (Below w.heap.size w W)∧Hid (Win W (a :: ts) kv)∧W.cell? ⟨w.heap.size,4,none⟩=some kv :=
  ⟨_,rfl,zh hb0,zh (h.below hb0),(Blk.new w [.int .i64 k,.string s,.int .i64 nm,.int .i64 p,kv] 34).cell 4⟩
 obtain ⟨pa,cap,rfl,⟨h1,hcap,hcap2⟩,h2,h3⟩:=h
 clear hcap hcap2 h2 h3 hb0
 obtain ⟨n,hn⟩:∃ n,(a :: ts).length=n:=⟨_,rfl⟩
 obtain ⟨m,hm,hmn⟩:∃ m,zfa ts=m∧m+1≤n:=⟨_,rfl,by have:=zcf ts;rw [← hn];simp;exact this⟩
 rw [hn] at h1 n4 hW ⊢
 rw [hm]
 have HN:=zh hn
 have HM:=zh hm
 clear hn hm
 go_enter Tryz.func53,Tryz.ntmps53
 go_wp2_with fail
 go_loopg [3] (m+1) (fun gk i wr=>∃ j:Nat,j≤m∧m+1≤j+gk∧i=.int .i64 ((j:Int)+1)∧W=wr)
 case atStart=>exact ⟨0,by omega,by omega,rfl,rfl⟩
 case round =>
  obtain ⟨j,hj,hgj,rfl,hw⟩:=hrel
  subst hw
  obtain ⟨pa',cap',hv,_,h2,h3⟩:=H3.out
  cases hv
  cases pa with
  | none=>exact absurd (h2 rfl) (by simp)
  | some ad =>
   obtain ⟨g,o,rfl,hg,hr⟩:=h3 ad rfl
   by_cases hlt:j+1<n
   ·have hjl:j<ts.length:=by have:=HN.out;simp at this;omega
    have hjn:((j:Int)+1<(n:Int)):=by omega
    obtain ⟨u,h4,_⟩:=hr (j+1) ts[j] (by rw [List.getElem?_cons_succ];exact List.getElem?_eq_getElem hjl)
    have m0:W.cell? ⟨g,o+(j+1) * 5,none⟩=some (.int .i64 (ts[j]).kind):=h4 0 _ rfl
    by_cases hjm:j<m
    ·have hk3:(ts[j]).kind=3:=zPh ts j (by rw [HM.out];exact hjm)
     rw [hk3] at m0
     clear hr h4 h2 h3 hk3
     go_wp2_with fail
     go_roundg (gk-1)
     case measure=>omega
     case rel=>exact ⟨j+1,by omega,by omega,by go_num,rfl⟩
    ·have hk3:¬ (ts[j]).kind=3:=by
      have e:j=zfa ts:=by rw [HM.out];omega
      have hl:zfa ts<ts.length:=by rw [← e];exact hjl
      have:=zgg ts hl
      simp only [← e] at this
      exact this
     have hk4:((ts[j]).kind == 3)=false:=beq_eq_false_iff_ne.2 hk3
     clear hr h4 h2 h3 hk3
     generalize (ts[j]).kind=K at m0 hk4
     go_wp2_with fail
     obtain rfl:j=m:=by omega
     go_ret
     exact ⟨rfl,HB.out⟩
   ·have hjn:¬ ((j:Int)+1<(n:Int)):=by omega
    clear hr h2 h3
    go_wp2_with fail
    obtain rfl:j=m:=by omega
    go_ret
    exact ⟨rfl,HB.out⟩
end Go.Proofs.YtbfgdpcgdmabpaaGreatDoor
