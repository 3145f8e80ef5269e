/- The contract of lex.Tokens in a world that holds the tables of lex: it returns what the plain account says, in new memory, and changes nothing that was there. What the rows' list of package-level variables gives the walks: a world that meets it holds the tables of lex (Tabs). And the world of the witness, which meets it. A row of tokens in memory, read token by token. The plain account of layer 2: trees, and the reader of tokens, line by line of the grammar in the way that package syntax reads it. Nothing of the program is walked here. What the parser's memory is while it reads (PSt), what a call of one of its methods comes to (PPost), and the contracts of the methods that look at the next token or take it. -/
import Derived.Test.YthdbmgijpelecaaGreatDoorZ01
import Derived.Deep.LoopGhost
import Derived.WalkMore
import Derived.Test.YthdbmgijpelecaaGreatDoorCards
import Derived.Test.YthdbmgijpelecaaGreatDoorTie
import Derived.ProofKit
import Derived.OpenShut
import Derived.Deep.DeepHandedRow
import Derived.Lib.LaidTab
import Derived.Deep.AppendLies
import Derived.Deep.MidRow
namespace Go.Proofs.YthdbmgijpelecaaGreatDoor
set_option maxHeartbeats 1000000
section
open Go.RowKit
def cellsOf (ts:List Tok):List Value:=ts.flatMap zxa
def zUo (r:zuf) (w:World) (e:Ending) (w':World):Prop :=
 match r with
 | .error (p,c)=>e=.returned (.tuple #[.slice none 0 0,.int .i64 p,.int .i64 c])∧Below w.heap.size w w'
 | .ok ts=>∃ v,e=.returned (.tuple #[v,.int .i64 0,.int .i64 0])∧w'.ownsRow w.heap.size 128 4 v ts.length (cellsOf ts)∧Below w.heap.size w w'
def zUr (s:ByteArray) (w:World) (g:Nat) (v a:Value) (wr:World):Prop :=
 ∃ (k:Nat) (ts:List Tok),k≤s.size∧s.size≤k+g∧a=.int .i64 k∧wr.ownsRow w.heap.size 128 4 v ts.length (cellsOf ts)∧Below w.heap.size w wr∧ts.length≤k∧lexFrom s 0=more ts (lexFrom s k)
theorem Tryz.zJm:(Tryz.prog.info? 128).map (fun i=>(i.zero,i.size,i.bytes))=some (some (.agg #[.int .i64 0,.string ⟨#[]⟩,.int .i64 0,.int .i64 0]),4,40):=by kernel_rfl
theorem zOh {a w:World} (h:Below a.heap.size a w) (row:Option Nat):a.grownBy w row:=⟨h.os,h.tape,h.output,h.size,fun i hi _=>h.block i hi⟩
theorem own_below {a w:World} {base:Nat} {e:TypeId} {size n:Nat} {v:Value} {xs:List Value} (h:a.ownsRow base e size v n xs) (hb:Below a.heap.size a w):w.ownsRow base e size v n xs:=by
 refine h.kept (zOh hb none) ?_
 cases v.ownBlock
 ·exact .inl rfl
 ·exact .inr (by simp)
theorem zmg (ts:List Tok) (t:Tok):cellsOf (ts++[t])=cellsOf ts++zxa t:=by simp [cellsOf]
theorem zcd (t:Tok):∀ u∈zxa t,u.oneCell'=true:=by
 intro u hu
 simp only [zxa,List.mem_cons,List.not_mem_nil,or_false] at hu
 rcases hu with rfl|rfl|rfl|rfl<;>rfl
theorem zOg (t:Tok) (w:World) (e:TypeId) (b:Nat) (hb:b=w.heap.size):∀ j u,(zxa t)[j]?=some u →
  (w.alloc (.cells #[.int .i64 t.kind,.string t.text,.int .i64 t.num,.int .i64 t.place] e)).cell? ((⟨b,0,none⟩:Addr).add j)=some u:=by
 intro j u hj
 subst hb
 rw [Addr.add_mid,Nat.zero_add,cell_of_row _ _ _ _ _ _ (heap_alloc_new w _)]
 simpa [zxa] using hj
theorem zvl (w:World):(isAgg 5).run Tryz.prog w=.ok false w:=by
 unfold isAgg
 rw [Sem.run_bind,run_underlying Tryz.underlying5 w]
 rfl
theorem zkk:(Tryz.prog.info? 5).map (·.size)=some 1:=by kernel_rfl
theorem zOq (w:World):(Instr.index 123 (.agg #[.int .u8 32,.int .u8 10]) (.int .i64 0)).run Tryz.prog w=.ok (.int .u8 32) w :=
 zld (P:=Tryz.prog) (cs:=[.int .u8 32,.int .u8 10]) (k:=0) Tryz.underlying123 zvl zkk (by omega) rfl w
theorem zAr (w:World):(Instr.index 123 (.agg #[.int .u8 32,.int .u8 10]) (.int .i64 1)).run Tryz.prog w=.ok (.int .u8 10) w :=
 zld (P:=Tryz.prog) (cs:=[.int .u8 32,.int .u8 10]) (k:=1) Tryz.underlying123 zvl zkk (by omega) rfl w
theorem zJj {b:UInt8} {n:Nat} (h:((b.toNat:Int) == (n:Int))=true):b=n.toUInt8:=by
 have h1:b.toNat=n:=by have:=beq_iff_eq.1 h;omega
 rw [← h1]
 simp
theorem zak {b c:UInt8} (h:((b.toNat:Int) == (c.toNat:Int))=false):¬ b=c:=by
 intro e
 subst e
 simp at h
theorem zIn {b:UInt8} (h:((b.toNat:Int) == 32)=true):zmc b=true:=by
 have:=zJj (n:=32) h
 subst this
 rfl
theorem zOn {b:UInt8} (h:((b.toNat:Int) == 10)=true):zmc b=true:=by
 have:=zJj (n:=10) h
 subst this
 rfl
theorem zDn {b:UInt8} (h:((b.toNat:Int) == 32)=false) (h2:((b.toNat:Int) == 10)=false):zmc b=false:=by
 have h1:=zak (c:=32) h
 have h3:=zak (c:=10) h2
 simp [zmc,h1,h3]
theorem zXi {s:ByteArray} {k:Nat} {e:Int} (h:zmd s k=.error e):11≤e∧e≤13:=by
 have hs:∀ n,zgb s k n=.error e→e=11:=by
  intro n
  induction n with
  | zero=>unfold zgb zxe;split<;>intro h<;>cases h;rfl
  | succ n ih =>
          unfold zgb;split
          ·intro h;cases h
          ·exact ih
 unfold zmd at h
 split at h
 ·unfold zkc at h
  split at h
  ·cases h;decide
  ·split at h<;>cases h
 ·split at h
  ·unfold zjd at h
   split at h<;>cases h
   decide
  ·rw [hs 3 h];decide
theorem zIf (s:ByteArray) (w:World) (hs:s.size≤maxLen) (ht:Tabs w) :
  Calls Tryz.prog 28 #[.string s] w fun e w'=>zUo (zLc s) w e w':=by
 by_cases hbig:16384<s.size
 ·have hbig':16384<(s.size:Int):=by omega
  have hr:zLc s=.error (0,10):=by unfold zLc;rw [if_pos hbig]
  rw [hr]
  clear hr
  go_enter Tryz.func28,Tryz.ntmps28
  go_wp2
  go_step3
  go_wp2
  (try rw [Exit.noGoto_ret])
  go_ret3
  exact ⟨rfl,Below.refl _ _⟩
 have hr:zLc s=lexFrom s 0:=by unfold zLc;rw [if_neg hbig]
 rw [hr]
 clear hr
 have hbig':¬ 16384<(s.size:Int):=by omega
 go_enter Tryz.func28,Tryz.ntmps28
 go_wp2
 go_step3
 go_wp2
 go_step3
 go_wp2
 go_loopg [5,6] s.size (fun g v a wr=>zUr s w g v a wr)
 case atStart=>exact ⟨0,[],by omega,by omega,rfl,World.ownsRow_nil _ _ _ _,Below.refl _ _,by simp,(zWn _).symm⟩
 case round =>
  obtain ⟨k,ts,hk,hg,rfl,hown,hbel,hlen,hres⟩:=hrel
  have HR:=zh hres
  have htr:=ht.below hbel ht.size
  have hb0:=htr.b0
  have hb1:=htr.b1
  have HOWN:=zh hown
  have HBEL:=zh hbel
  have HT:=zh htr
  clear hres hown hbel htr
  by_cases hlt:k<s.size
  ·have hi0:=zOq
   have hi1:=zAr
   cases h32:((s[k].toNat:Int) == 32)
   ·cases h10:((s[k].toNat:Int) == 10)
    ·cases h35:((s[k].toNat:Int) == 35)
     ·have hnb:zmc (bat s k)=false:=by rw [zNc s k hlt];exact zDn h32 h10
      have hnr:¬ bat s k=35:=by rw [zNc s k hlt];exact zak h35
      cases hta:zmd s k with
      | error e0 =>
       have HE:=zh (zzl hlt hnb hnr hta)
       have hte:=zXi hta
       have HA:=zh hta
       clear hta hnb hnr
       have hne:(e0 != 0)=true:=by rw [bne_iff_ne];omega
       go_wp2_with fail
       refine wp_loop_rounds 3 ?_
       rw [rounds_succ]
       go_wp2_with fail
       rw [rounds_succ]
       go_wp2_with fail
       rw [rounds_succ]
       go_wp2_with fail
       refine (znh s k _ hs hlt HT.out).mono ?_
       rintro e w1 ⟨rfl,hb⟩
       rw [HA.out]
       unfold zyo errR zGb
       have HB:=zh (HBEL.out.trans (hb.mono HBEL.out.size))
       obtain ⟨hc,hf⟩:=zbl hb
       clear hb
       go_wp2
       (try rw [Exit.noGoto_ret])
       go_ret3
       rw [HR.out,HE.out]
       refine ⟨rfl,?_⟩
       have hz:w.heap.size≤w1.heap.size:=HB.out.size
       exact HB.out.alloc hz _
      | ok t =>
       have hsz:=zRd hlt hta
       have HE:=zh (zJl hlt hnb hnr hta)
       have HA:=zh hta
       clear hta hnb hnr
       go_wp2_with fail
       refine wp_loop_rounds 3 ?_
       rw [rounds_succ]
       go_wp2_with fail
       rw [rounds_succ]
       go_wp2_with fail
       rw [rounds_succ]
       go_wp2_with fail
       refine (znh s k _ hs hlt HT.out).mono ?_
       rintro e w1 ⟨rfl,hb⟩
       rw [HA.out]
       unfold zyo okR zGb
       have HB:=zh (HBEL.out.trans (hb.mono HBEL.out.size))
       have HO:=zh (own_below HOWN.out hb)
       obtain ⟨hc,hf⟩:=zbl hb
       have hz:w.heap.size≤w1.heap.size:=HB.out.size
       clear hb
       obtain ⟨i0,hi,hz0,hz1,hz2⟩:=info_parts Tryz.zJm
       go_wp2_with (at_builtin;refine wpList_append_own _ rfl (.tmp 47) (.tmp 49) 64 rfl w.heap.size 128 i0 _ 4 40 Tryz.underlying64 hi hz0 hz1 hz2 rfl (by decide) _ _ _ rfl ((HO.out.alloc _).alloc _) ⟨w1.heap.size+1,0,none⟩ 1 1 (zxa t) rfl rfl ?c1 (zcd t) ?c3 ?c4 ?c5 ?_)
       case c1=>exact zOg t _ _ _ (by simp)
       case c3=>unfold maxLen;omega
       case c4=>omega
       case c5=>simp;omega
       intro v' w2 hown2 hgrow2 _
       have HO2:=zh hown2
       have HG2:=zh (((HB.out.alloc hz _).alloc (by simp;omega) _).grown hgrow2 (by simp;omega) (fun j hj=>(HO.out.lt j hj).1))
       have htc:w2.cell? ⟨w1.heap.size,1,none⟩=some (.string t.text) :=
        hgrow2.cell ((World.cell?_alloc_past _ _ _ (by simp)).trans (cell_of_row _ _ _ _ _ _ (heap_alloc_new w1 _))) (fun h=>absurd ((HO.out.lt _ h.symm).2) (Nat.lt_irrefl _))
       clear hown2 hgrow2
       have hsz1:=hsz.1
       have hsz2:=hsz.2
       have hbs:s.size≤16384:=by omega
       clear hsz
       go_wp2
       go_roundg (gk-1)
       case measure=>omega
       case rel=>exact ⟨k+t.text.size,ts++[t],by omega,by omega,by go_num,by rw [zmg];simpa using HO2.out,HG2.out,by simp;omega,HR.out.trans (by rw [HE.out,zMl])⟩
     ·have hnr:bat s k=35:=by rw [zNc s k hlt];exact zJj h35
      have HE:=zh (zRh hlt hnr)
      have hge:=zye hlt hnr
      have hle:=zMd zgl s k (by omega)
      go_wp2_with fail
      refine wp_loop_rounds 3 ?_
      rw [rounds_succ]
      go_wp2_with fail
      rw [rounds_succ]
      go_wp2_with fail
      rw [rounds_succ]
      go_wp2_with fail
      refine (zhi s k wr hs (by omega) (by omega)).mono ?_
      rintro e w' ⟨rfl,rfl⟩
      go_wp2
      go_roundg (gk-1)
      case measure=>omega
      case rel=>exact ⟨endOf zgl s k,ts,by omega,by omega,rfl,HOWN.out,HBEL.out,by omega,HR.out.trans (by rw [HE.out])⟩
    ·have HE:=zh (zKg hlt (by rw [zNc s k hlt];exact zOn h10))
     go_wp2_with fail
     refine wp_loop_rounds 3 ?_
     rw [rounds_succ]
     go_wp2_with fail
     rw [rounds_succ]
     go_wp2_with fail
     go_roundg (gk-1)
     case measure=>omega
     case rel=>exact ⟨k+1,ts,by omega,by omega,by go_num,HOWN.out,HBEL.out,by omega,HR.out.trans (by rw [HE.out])⟩
   ·have HE:=zh (zKg hlt (by rw [zNc s k hlt];exact zIn h32))
    go_wp2_with fail
    refine wp_loop_rounds 3 ?_
    rw [rounds_succ]
    go_wp2_with fail
    go_roundg (gk-1)
    case measure=>omega
    case rel=>exact ⟨k+1,ts,by omega,by omega,by go_num,HOWN.out,HBEL.out,by omega,HR.out.trans (by rw [HE.out])⟩
  ·have HE:=zh (zam (s:=s) (k:=k) (by omega))
   have hz:w.heap.size≤wr.heap.size:=HBEL.out.size
   have hbs:s.size≤16384:=by omega
   obtain ⟨i0,hi,hz0,hz1,hz2⟩:=info_parts Tryz.zJm
   go_wp2_with (at_builtin;refine wpList_append_own _ rfl (.tmp 56) (.tmp 60) 64 rfl w.heap.size 128 i0 _ 4 40 Tryz.underlying64 hi hz0 hz1 hz2 rfl (by decide) _ _ _ rfl (HOWN.out.alloc _) ⟨wr.heap.size,0,none⟩ 1 1 (zxa (zif s)) rfl rfl ?d1 (zcd (zif s)) ?d3 ?d4 ?d5 ?_)
   case d1=>exact zOg (zif s) _ _ _ rfl
   case d3=>unfold maxLen;omega
   case d4=>omega
   case d5=>simp;omega
   intro v' w2 hown2 hgrow2 _
   have HO2:=zh hown2
   have HG2:=zh ((HBEL.out.alloc hz _).grown hgrow2 (by simp;omega) (fun j hj=>(HOWN.out.lt j hj).1))
   clear hown2 hgrow2
   go_wp2
   (try rw [Exit.noGoto_ret])
   go_ret3
   rw [HR.out,HE.out]
   exact ⟨v',rfl,by rw [zmg];simpa using HO2.out,HG2.out⟩
end
section
open Go.ChangeShapes Go.WideShapes Go.ChangeAt Go.ChangeMaps Go.RowKit
theorem own:ownKnob Tryz.prog.godebug=none:=by kernel_rfl
theorem gKeys:Tryz.prog.globalNamed "lychgate/lex.keys" = some 3:=by kernel_rfl
theorem zmq:Tryz.prog.globalNamed "lychgate/lex.blanks" = some 0:=by kernel_rfl
theorem zPr:Tryz.prog.globalNamed "lychgate/lex.pairs" = some 2:=by kernel_rfl
theorem tKeys:(Tryz.prog.globals[3]?).map (·.type)=some 193:=by kernel_rfl
theorem ztp:(Tryz.prog.globals[0]?).map (·.type)=some 123:=by kernel_rfl
theorem zir:(Tryz.prog.globals[2]?).map (·.type)=some 178:=by kernel_rfl
theorem zNl:Tryz.prog.cellsOf 9=1:=by kernel_rfl
theorem cByte:Tryz.prog.cellsOf 5=1:=by kernel_rfl
theorem zvp:Tryz.prog.cellsOf 123=2:=by kernel_rfl
theorem zho (s:ByteArray):s=⟨s.data.toList.toArray⟩:=by
 obtain ⟨d⟩:=s
 simp
theorem zlf {H:Type} {enc:TypeId × Value→H} {P:Program} {w:World} {base:Nat} {sp:Nat→Bool} {held:Bool} {fuel:Nat} {t e:TypeId} {n:Nat} {cs:List Value} {ls:List (List UInt8)} {p:List MemPlace}
  (ht:P.underlying t=some (.array n e)) (he:P.underlying e=some .string) (hce:P.cellsOf e=1)
  (h:DataW.trod enc P w base sp held fuel t cs=some (.agg (ls.map fun l=>.lit (.string l)),p)) (i:Nat) (hi:i<n):cs[i]?=some (.string ⟨(ls.getD i []).toArray⟩):=by
 obtain ⟨xs,m,_,hx,_,hxl,hel⟩:=DataW.trod_array ht h
 simp only [Prod.mk.injEq,DataW.agg.injEq] at hx
 have h1:=hel i hi
 rw [hce,Nat.mul_one,List.getElem?_eq_getElem (by omega)] at h1
 obtain ⟨s,hc,hy,_⟩:=DataW.trod_string he h1
 have h2:cs[i]?=some (.string s):=by
  have:=congrArg (·[0]?) hc
  simpa [List.getElem?_take,List.getElem?_drop] using this
 have h3:(ls.map fun l=>(DataW.lit (.string l):DataW H))[i]?=some (.lit (.string s.data.toList)):=by
  rw [hx.1,List.getElem?_map,List.getElem?_eq_getElem (by omega),hy]
  rfl
 rw [List.getElem?_map,Option.map_eq_some_iff] at h3
 obtain ⟨l,hl,hs⟩:=h3
 simp only [DataW.lit.injEq,Lit.string.injEq] at hs
 rw [h2,List.getD_eq_getElem?_getD,hl,Option.getD_some,hs,← zho]
theorem cell_lt {w:World} {b o:Nat} {v:Value} (h:w.cell? ⟨b,o,none⟩=some v):b<w.heap.size:=by
 rcases Nat.lt_or_ge b w.heap.size with hlt|hge
 ·exact hlt
 ·simp [World.cell?,Array.getElem?_eq_none hge] at h
def zkr:List (String × DataW Unit):=[("lychgate/lex.keys", Rows.laid_lychgate_lex_keys),("lychgate/lex.blanks", Rows.laid_lychgate_lex_blanks),("lychgate/lex.pairs", Rows.laid_lychgate_lex_pairs)]
theorem zlj {W:World} (h:laidMetH Tryz.prog zkr W):Tabs W:=by
 rw [MakeChecks.laidMetH_plain _ _ _ (by kernel_rfl)] at h
 obtain ⟨ps,⟨g0,t0,cs0,f0,p0,q0,hg0,ht0,hv0,hd0,⟨g1,t1,cs1,f1,p1,q1,hg1,ht1,hv1,hd1,⟨g2,t2,cs2,f2,p2,q2,hg2,ht2,hv2,hd2,_,_⟩,_⟩,_⟩,_,_⟩:=h
 obtain rfl:=Option.some.inj (gKeys.symm.trans hg0)
 obtain rfl:=Option.some.inj (zmq.symm.trans hg1)
 obtain rfl:=Option.some.inj (zPr.symm.trans hg2)
 obtain rfl:=Option.some.inj (tKeys.symm.trans ht0)
 obtain rfl:=Option.some.inj (ztp.symm.trans ht1)
 obtain rfl:=Option.some.inj (zir.symm.trans ht2)
 have hk:∀ i,i<20→W.cell? ⟨3,i,none⟩=some (.string (keyAt i)):=fun i hi=>by
  have h1:=World.var?_cell hg0 hv0 i
  have h2:=zlf (ls:=zfd) Tryz.underlying193 Tryz.underlying9 zNl hd0 i hi
  rw [h1,← Array.getElem?_toList,h2]
  rfl
 have hp:∀ i,i<3→W.cell? ⟨2,i,none⟩=some (.string (zid i)):=fun i hi=>by
  have h1:=World.var?_cell hg2 hv2 i
  have h2:=zlf (ls:=[[45,62],[60,61],[61,61]]) Tryz.underlying178 Tryz.underlying9 zNl hd2 i hi
  rw [h1,← Array.getElem?_toList,h2]
  rfl
 have hb:=Lib.cells_of_tab (zs:=[32,10]) Tryz.underlying123 Tryz.underlying5 cByte zvp hd1
 have hb':∀ i:Nat,W.cell? ⟨0,i,none⟩=([32,10].map fun z=>Value.int .u8 z)[i]?:=fun i=>by
  rw [World.var?_cell hg1 hv1 i,← Array.getElem?_toList,hb]
 exact ⟨hb' 0,hb' 1,hk,hp,cell_lt (hb' 0),cell_lt (hk 0 (by omega)),cell_lt (hp 0 (by omega))⟩
def laying (cs:Array Value):Obj→Obj
 | .cells _ t frozen=>.cells cs t frozen
 | o=>o
noncomputable def laidWorld (os:Os):World :=
 { World.holding Tryz.prog os ⟨#[],#[],[]⟩ with heap:=(((World.holding Tryz.prog os ⟨#[],#[],[]⟩).heap.modify 0 (laying #[.int .u8 32,.int .u8 10])).modify 3 (laying zre.toArray)).modify 2 (laying zsf.toArray) }
theorem zOl {H:Type} {enc:TypeId × Value→H} {fn:Func} {sp:ChangeSpec} {W W':World} {s:ByteArray} {before:List MemPlace}
  (hp:fn.params.toList=[9]) (hr:fn.resultTypes=#[4]) (hvars:sp.vars=[]) (hfn:sp.fn H [.lit (.string s.data.toList)]={ results:=[.lit (.bool true)],args:=[.lit (.string s.data.toList)] }) (hs:s.size≤maxLen)
  (hW:DataW.Whole enc Tryz.prog fn.params.toList sp.vars false W [.string s] [.lit (.string s.data.toList)] [] before) (hb:Below W.heap.size W W') :
  sp.post enc Tryz.prog fn false true false false W #[.string s] (.bool true) W':=by
 refine ⟨_,_,before,[],[],[],hW,?_,?_,?_,hb.frame _,fun h=>by cases h⟩
 ·rw [List.append_nil,hfn,hr]
  exact trodAll_cons_mk (shut_bool Tryz.underlying4 _) trodAll_mk0
 ·rw [List.append_nil,hfn,hp]
  exact trodAll_cons_mk (shut_string Tryz.underlying9 hs) trodAll_mk0
 ·rw [List.append_nil,hfn,hvars]
  rfl
end
section
open Go.RowKit
theorem zuh:∀ (ts:List Tok) (i:Nat) (t:Tok) (q:Nat),ts[i]?=some t→q<4→(cellsOf ts)[i * 4+q]?=(zxa t)[q]?
 | [],i,t,q,h,_=>by simp at h
 | u :: ts,0,t,q,h,hq=>by
  have e:u=t:=by simpa using h
  subst e
  show (zxa u++cellsOf ts)[0 * 4+q]?=_
  rw [Nat.zero_mul,Nat.zero_add,List.getElem?_append_left (by simpa [zxa] using hq)]
 | u :: ts,i+1,t,q,h,hq=>by
  show (zxa u++cellsOf ts)[(i+1) * 4+q]?=_
  rw [List.getElem?_append_right (by simp [zxa];omega)]
  have e:(i+1) * 4+q-(zxa u).length=i * 4+q:=by simp [zxa];omega
  rw [e]
  exact zuh ts i t q (by simpa using h) hq
def zGh (w:World) (g:Nat) (ts:List Tok):Prop:=∀ i t,ts[i]?=some t →
 w.cell? ⟨g,i * 4,none⟩=some (.int .i64 t.kind)∧w.cell? ⟨g,i * 4+1,none⟩=some (.string t.text)∧w.cell? ⟨g,i * 4+2,none⟩=some (.int .i64 t.num)∧w.cell? ⟨g,i * 4+3,none⟩=some (.int .i64 t.place)
theorem zGh.below {w w':World} {g B:Nat} {ts:List Tok} (h:zGh w g ts) (hb:Below B w w') (hg:g<B):zGh w' g ts:=fun i t ht=>by
 obtain ⟨h0,h1,h2,h3⟩:=h i t ht
 exact ⟨(hb.cell (p:=⟨g,i * 4,none⟩) hg).trans h0,(hb.cell (p:=⟨g,i * 4+1,none⟩) hg).trans h1,(hb.cell (p:=⟨g,i * 4+2,none⟩) hg).trans h2,(hb.cell (p:=⟨g,i * 4+3,none⟩) hg).trans h3⟩
theorem zQh {w:World} {base:Nat} {v:Value} {ts:List Tok} (h:w.ownsRow base 128 4 v ts.length (cellsOf ts)) (hn:0<ts.length) :
  ∃ g cap,v=.slice (some ⟨g,0,none⟩) ts.length cap∧base≤g∧g<w.heap.size∧ts.length≤cap∧zGh w g ts:=by
 obtain ⟨g,cap,rfl,hg1,hg2⟩:=h.form hn
 have hcap:ts.length≤cap:=by
  rcases h.2 with ⟨h0,_⟩|⟨g',cap',cur,hv,_,_,hle,_⟩
  ·cases h0
  ·cases hv;exact hle
 refine ⟨g,cap,rfl,hg1,hg2,hcap,fun i t ht=>?_⟩
 have hi:i<ts.length:=(List.getElem?_eq_some_iff.1 ht).1
 have c:∀ q,q<4→w.cell? ⟨g,i * 4+q,none⟩=(zxa t)[q]?:=fun q hq=>by
  rw [h.cellAt (i * 4+q) (by omega),zuh ts i t q ht hq]
 exact ⟨c 0 (by omega),c 1 (by omega),c 2 (by omega),c 3 (by omega)⟩
end
section
open Go.RowKit
inductive T where
 | mk (kind:Int) (text:ByteArray) (num:Int) (place:Nat) (kids:List T)
def T.kids:T→List T|.mk _ _ _ _ ks=>ks
def T.text:T→ByteArray|.mk _ s _ _ _=>s
def T.place:T→Nat|.mk _ _ _ p _=>p
def T.kind:T→Int|.mk k _ _ _ _=>k
def T.num:T→Int|.mk _ _ n _ _=>n
abbrev R (α:Type):=Except (Nat × Int) (α × List Tok)
def bd {α β:Type} (r:R α) (f:α→List Tok→R β):R β :=
 match r with
 | .error e=>.error e
 | .ok (a,l)=>f a l
theorem zia {α β:Type} {r:R α} {a:α} {l:List Tok} (h:r=.ok (a,l)) (f:α→List Tok→R β):bd r f=f a l:=by rw [h];rfl
theorem zla {α β:Type} {r:R α} {e:Nat × Int} (h:r=.error e) (f:α→List Tok→R β):bd r f=.error e:=by rw [h];rfl
def hdT (l:List Tok):Tok:=l.headD zLb
def bs (l:List UInt8):ByteArray:=⟨l.toArray⟩
def isT (t:Tok) (s:ByteArray):Bool:=t.text.toList == s.toList
def zqa (ss:List ByteArray) (l:List Tok):R Tok:=bif ss.any (isT (hdT l)) then .ok (hdT l,l.tail) else .error ((hdT l).place,20)
def zVf (k:Nat) (l:List Tok):R Tok:=bif (hdT l).kind == k then .ok (hdT l,l.tail) else .error ((hdT l).place,20)
def zFc (l:List Tok):R ByteArray:=bd (zVf 1 l) fun t l=>.ok (t.text,l)
def zIb (l:List Tok):R Int:=bd (zVf 3 l) fun t l=>.ok ((t.num:Int),l)
def e0:ByteArray:=⟨#[]⟩
def zLe (item:List Tok→R T):Nat→List Tok→R (List T)
 | 0,_=>.error (0,0)
 | n+1,l=>bif isT (hdT l) (bs [44]) then bd (item l.tail) fun a l=>bd (zLe item n l) fun xs l=>.ok (a :: xs,l) else .ok ([],l)
def zHd (item:List Tok→R T) (l:List Tok):R (List T):=bd (item l) fun a l=>bd (zLe item l.length l) fun xs l=>.ok (a :: xs,l)
def zjb (item:List Tok→R T) (l:List Tok):R (List T) :=
 bd (zqa [bs [40]] l) fun _ l=>bif isT (hdT l) (bs [41]) then .ok ([],l.tail) else bd (zHd item l) fun xs l=>bd (zqa [bs [41]] l) fun _ l=>.ok (xs,l)
def zsa (l:List Tok):R T:=bd (zFc l) fun s l1=>.ok (.mk 5 s 0 (hdT l).place [],l1)
def zEa (l:List Tok):R T :=
 bif isT (hdT l) (bs [45]) then bd (zIb l.tail) fun n l1=>.ok (.mk 5 e0 (-n) (hdT l).place [],l1)
 else bd (zIb l) fun n l1=>.ok (.mk 5 e0 n (hdT l).place [],l1)
def sumP (l:List Tok):Option (Int × Int):=bif isT (hdT l) (bs [43]) then some (21,1) else bif isT (hdT l) (bs [45]) then some (22,-1) else none
def zdr (r:Option (Int × Int)) (a:R T) (f:Int→Int→R T):R T :=
 match r with
 | none=>a
 | some (k,x)=>f k x
theorem zYi {r:Option (Int × Int)} (h:r=none) (a:R T) (f:Int→Int→R T):zdr r a f=a:=by rw [h];rfl
theorem zSd {r:Option (Int × Int)} {k x:Int} (h:r=some (k,x)) (a:R T) (f:Int→Int→R T):zdr r a f=f k x:=by rw [h];rfl
def T.zhc (v:Int):T→T|.mk k s _ p ks=>.mk k s v p ks
def zQb (l:List Tok):R T :=
 bif (hdT l).kind == 1 then bd (zsa l) fun n l1=>zdr (sumP l1) (.ok (n,l1)) fun _ f=>bd (zIb l1.tail) fun v l2=>.ok (n.zhc (f * v),l2)
 else zEa l
def zqc (l:List Tok):R T:=bd (zqa [bs [91]] l) fun _ l=>bd (zQb l) fun a l=>bd (zqa [bs [93]] l) fun _ l=>.ok (a,l)
def zae (n:T) (l:List Tok):R T:=bd (zjb zQb l) fun xs l=>.ok (.mk 28 n.text 0 n.place xs,l)
def zti (p:Nat) (l:List Tok):R T :=
 bif isT (hdT l) (bs [109,117,116]) then bd (zFc l.tail) fun s l=>.ok (.mk 27 s 0 p [],l) else bd (zFc l) fun s l=>.ok (.mk 26 s 0 p [],l)
def zza (l:List Tok):R T :=
 bd (zsa l) fun n l =>
  bif isT (hdT l) (bs [91]) then bd (zqc l) fun a l=>.ok (.mk 25 n.text 0 n.place [a],l)
  else bif isT (hdT l) (bs [40]) then zae n l
  else zdr (sumP l) (.ok (n,l)) fun k f =>
   bif (hdT l.tail).kind == 1 then bd (zsa l.tail) fun m l=>.ok (.mk k e0 0 n.place [n,m],l)
   else bd (zIb l.tail) fun v l=>.ok (n.zhc (f * v),l)
def zyc (l:List Tok):R T :=
 bif isT (hdT l) (bs [110,101,119]) then bd (zIb l.tail) fun v l1=>.ok (.mk 23 e0 v (hdT l).place [],l1)
 else bif isT (hdT l) (bs [97,114,114,97,121]) then bd (zFc l.tail) fun s l1=>.ok (.mk 24 s 0 (hdT l).place [],l1)
 else bif isT (hdT l) (bs [38]) then zti (hdT l).place l.tail
 else bif (hdT l).kind == 1 then zza l
 else zEa l
def zUa (k:Int) (p:Nat) (l:List Tok):R T :=
 bd (zQb l) fun a l=>bd (zqa [bs [60],bs [60,61],bs [61,61]] l) fun c l=>bd (zQb l) fun b l=>.ok (.mk k c.text 0 p [a,b],l)
def zwe (l:List Tok):R T:=zUa 4 (hdT l).place l
def zfc (l:List Tok):R T :=
 bd (zFc l) fun s l1=>bif isT (hdT l1) (bs [91]) then bd (zsa l1.tail) fun a l2=>bd (zqa [bs [93]] l2) fun _ l3=>.ok (.mk 3 s 0 (hdT l).place [a],l3) else .ok (.mk 3 s 0 (hdT l).place [],l1)
def zNd (l:List Tok):R T :=
 bd (zqa [bs [111,119,110],bs [99,101,108,108],bs [99,111,117,110,116,101,100],bs [108,111,99,107],bs [103,117,97,114,100]] l) fun t l1 =>
  bif isT t (bs [111,119,110]) || isT t (bs [99,101,108,108]) then .ok (.mk 2 t.text 0 t.place [],l1) else bd (zsa l1) fun a l2=>.ok (.mk 2 t.text 0 t.place [a],l2)
def zLa (l:List Tok):R T :=
 bd (zqa [bs [105,110,116],bs [111,119,110]] l) fun t l1 =>
  bif isT t (bs [111,119,110]) then bd (zsa l1) fun a l2=>.ok (.mk 8 t.text 0 t.place [a],l2) else .ok (.mk 8 t.text 0 t.place [],l1)
def zBd (l:List Tok):R T :=
 bif isT (hdT l) (bs [38]) then
  bif isT (hdT l.tail) (bs [109,117,116]) then bd (zsa l.tail.tail) fun a l2=>.ok (.mk 8 (bs [38,109,117,116]) 0 (hdT l).place [a],l2)
  else bd (zsa l.tail) fun a l2=>.ok (.mk 8 (bs [38]) 0 (hdT l).place [a],l2)
 else zLa l
def zzc (l:List Tok):R T :=
 bd (zFc l) fun s l1=>bd (zqa [bs [58]] l1) fun _ l2=>bd (zBd l2) fun a l3=>.ok (.mk 7 s 0 (hdT l).place [a],l3)
def zTc (l:List Tok):R (List T) :=
 bif isT (hdT l) (bs [123]) then bd (zHd zfc l.tail) fun xs l1=>bd (zqa [bs [125]] l1) fun _ l2=>.ok (xs,l2) else .ok ([],l)
def zbd (l:List Tok):R (List T) :=
 bif isT (hdT l) (bs [119,104,101,114,101]) then zHd zwe l.tail else .ok ([],l)
def zMb (p:Nat) (l:List Tok):R T :=
 bd (zFc l) fun s l1=>bd (zNd l1) fun a l2=>bd (zTc l2) fun ys l3=>bd (zbd l3) fun zs l4=>bd (zqa [bs [59]] l4) fun _ l5=>.ok (.mk 1 s 0 p (a :: (ys++zs)),l5)
def zAd (k:Int) (p:Nat) (l:List Tok):R T :=
 bd (zFc l) fun s l1=>bd (zqa [bs [91]] l1) fun _ l2=>bd (zIb l2) fun v l3=>bd (zqa [bs [93]] l3) fun _ l4=>.ok (.mk k s v p [],l4)
def zYb (p:Nat) (l:List Tok):R T :=
 bif isT (hdT l) (bs [59]) then .ok (.mk 17 e0 0 p [],l) else bd (zQb l) fun a l1=>.ok (.mk 17 e0 0 p [a],l1)
def zxb (l:List Tok):R T :=
 bd (zsa l) fun n l1 =>
  bif isT (hdT l1) (bs [40]) then bd (zae n l1) fun c l2=>.ok (.mk 20 e0 0 n.place [c],l2)
  else bif isT (hdT l1) (bs [91]) then bd (zqc l1) fun i l2=>bd (zqa [bs [61]] l2) fun _ l3=>bd (zQb l3) fun b l4=>.ok (.mk 11 n.text 0 n.place [i,b],l4)
  else bd (zqa [bs [61]] l1) fun _ l2=>bd (zyc l2) fun x l3=>.ok (.mk 10 n.text 0 n.place [x],l3)
def zIa (l:List Tok):R T :=
 bif (hdT l).kind == 1 then zxb l
 else bif isT (hdT l) (bs [102,114,101,101]) then bd (zFc l.tail) fun s l1=>.ok (.mk 12 s 0 (hdT l).place [],l1)
 else bif isT (hdT l) (bs [108,111,99,107]) then zAd 13 (hdT l).place l.tail
 else bif isT (hdT l) (bs [117,110,108,111,99,107]) then zAd 14 (hdT l).place l.tail
 else bif isT (hdT l) (bs [114,101,116,117,114,110]) then zYb (hdT l).place l.tail
 else bif isT (hdT l) (bs [97,98,111,114,116]) then .ok (.mk 18 e0 0 (hdT l).place [],l.tail)
 else bif isT (hdT l) (bs [102,111,114,107]) then bd (zFc l.tail) fun s l1=>bd (zjb zQb l1) fun xs l2=>.ok (.mk 19 s 0 (hdT l).place xs,l2)
 else .error ((hdT l).place,20)
def T.snoc:T→T→T|.mk k s n p ks,b=>.mk k s n p (ks++[b])
def zUf (blk:List Tok→R T) (p:Nat) (l:List Tok):R T :=
 bif isT (hdT l) (bs [101,108,115,101]) then blk l.tail else .ok (.mk 9 e0 0 p [],l)
def ifP (blk:List Tok→R T) (p:Nat) (l:List Tok):R T :=
 bd (zUa 15 p l) fun n l1=>bd (blk l1) fun b l2=>bd (zUf blk p l2) fun c l3=>.ok ((n.snoc b).snoc c,l3)
def zke (blk:List Tok→R T) (p:Nat) (l:List Tok):R T :=
 bd (zUa 16 p l) fun n l1=>bd (blk l1) fun b l2=>.ok (n.snoc b,l2)
def zHc (blk:List Tok→R T) (l:List Tok):R T :=
 bif isT (hdT l) (bs [105,102]) then ifP blk (hdT l).place l.tail
 else bif isT (hdT l) (bs [119,104,105,108,101]) then zke blk (hdT l).place l.tail
 else bd (zIa l) fun n l1=>bd (zqa [bs [59]] l1) fun _ l2=>.ok (n,l2)
def zPc (item:List Tok→R T):Nat→List Tok→R (List T)
 | 0,_=>.error (0,0)
 | n+1,l=>bif isT (hdT l) (bs [125]) then .ok ([],l.tail) else bd (item l) fun a l1=>bd (zPc item n l1) fun xs l2=>.ok (a :: xs,l2)
def zhb:Nat→List Tok→R T
 | 0,l=>bd (zqa [bs [123]] l) fun t _=>.error (t.place,21)
 | n+1,l=>bd (zqa [bs [123]] l) fun t l1=>bd (zPc (zHc (zhb n)) l1.length l1) fun xs l2=>.ok (.mk 9 e0 0 t.place xs,l2)
def zRc (l:List Tok):R T :=
 bif isT (hdT l) (bs [45,62]) then zLa l.tail else .ok (.mk 8 e0 0 (hdT l).place [],l)
def fnP (p:Nat) (l:List Tok):R T :=
 bd (zFc l) fun s l1=>bd (zjb zzc l1) fun xs l2=>bd (zRc l2) fun r l3=>bd (zhb 8 l3) fun b l4=>.ok (.mk 6 s 0 p (xs++[r,b]),l4)
def zGd (l:List Tok):R T :=
 bd (zqa [bs [116,121,112,101],bs [102,110]] l) fun t l1=>bif isT t (bs [116,121,112,101]) then zMb t.place l1 else fnP t.place l1
def zVd:Nat→List Tok→R (List T)
 | 0,_=>.error (0,0)
 | n+1,l=>bif (hdT l).kind == 0 then .ok ([],l) else bd (zGd l) fun a l1=>bd (zVd n l1) fun xs l2=>.ok (a :: xs,l2)
def zqd (l:List Tok):R T:=bd (zVd (l.length+1) l) fun xs l1=>.ok (.mk 0 e0 0 0 xs,l1)
mutual
def T.size:T→Nat
 | .mk _ _ _ _ ks=>1+sizes ks
def sizes:List T→Nat
 | []=>0
 | t :: ts=>t.size+sizes ts
end
def zWb:T:=.mk 0 e0 0 0 []
def zpc (l:List Tok):T × Nat × Int :=
 match zqd l with
 | .error (p,e)=>(zWb,p,e)
 | .ok (t,_)=>if 4096<t.size then (zWb,0,22) else (t,0,0)
def zlb (s:ByteArray):T × Nat × Int :=
 match zLc s with
 | .error (p,e)=>(zWb,p,e)
 | .ok ts=>zpc ts
end
section
open Go.RowKit
structure Env where
 pb:Nat
 tb:Nat
 cap:Nat
 ts:List Tok
structure zpi (t:Tok):Prop where
 num:t.num≤1099511627776
 place:t.place≤16384
 size:t.text.size≤16384
def Ends:List Tok→Prop
 | []=>False
 | t :: l=>(l=[]∧t.kind=0∧t.text=⟨#[]⟩)∨(t.kind≠0∧Ends l)
structure PSt (E:Env) (w:World) (l:List Tok) (d:Nat):Prop where
 le:l.length≤E.ts.length
 suf:l=E.ts.drop (E.ts.length-l.length)
 blk:w.heap[E.pb]?=some (.cells #[.slice (some ⟨E.tb,0,none⟩) E.ts.length E.cap,.int .i64 ((E.ts.length-l.length:Nat):Int),.int .i64 d] 134 (0,0))
 row:zGh w E.tb E.ts
 ne:E.tb≠E.pb
 tlt:E.tb<w.heap.size
 ends:Ends l
 ok:∀ t∈E.ts,zpi t
 len:E.ts.length≤16385
 capb:E.ts.length≤E.cap
 deep:d≤8
theorem PSt.plt {E:Env} {w:World} {l:List Tok} {d:Nat} (h:PSt E w l d):E.pb<w.heap.size:=by
 have:=h.blk
 rcases Nat.lt_or_ge E.pb w.heap.size with hlt|hge
 ·exact hlt
 ·rw [Array.getElem?_eq_none hge] at this;cases this
theorem PSt.cell {E:Env} {w:World} {l:List Tok} {d:Nat} (h:PSt E w l d) :
  w.cell? ⟨E.pb,0,none⟩=some (.slice (some ⟨E.tb,0,none⟩) E.ts.length E.cap)∧w.cell? ⟨E.pb,1,none⟩=some (.int .i64 ((E.ts.length-l.length:Nat):Int))∧w.cell? ⟨E.pb,2,none⟩=some (.int .i64 d) ∧
  (∀ o,w.frozen? ⟨E.pb,o,none⟩=false):=by
 refine ⟨?_,?_,?_,fun o=>?_⟩
 ·rw [cell_of_row _ _ _ _ _ _ h.blk];rfl
 ·rw [cell_of_row _ _ _ _ _ _ h.blk];rfl
 ·rw [cell_of_row _ _ _ _ _ _ h.blk];rfl
 ·simp [World.frozen?,h.blk]
theorem Ends.ne {l:List Tok} (h:Ends l):∃ t r,l=t :: r:=by
 cases l with
 | nil=>exact h.elim
 | cons t r=>exact ⟨t,r,rfl⟩
theorem PSt.head {E:Env} {w:World} {l:List Tok} {d:Nat} (h:PSt E w l d):0<l.length∧E.ts[E.ts.length-l.length]?=some (hdT l):=by
 obtain ⟨t,r,rfl⟩:=h.ends.ne
 refine ⟨by simp,?_⟩
 have h1:(E.ts.drop (E.ts.length-(t :: r).length))[0]?=some t:=by rw [← h.suf];rfl
 rw [List.getElem?_drop] at h1
 exact h1
theorem PSt.tok {E:Env} {w:World} {l:List Tok} {d:Nat} (h:PSt E w l d) :
  w.cell? ⟨E.tb,(E.ts.length-l.length) * 4,none⟩=some (.int .i64 (hdT l).kind)∧w.cell? ⟨E.tb,(E.ts.length-l.length) * 4+1,none⟩=some (.string (hdT l).text) ∧
  w.cell? ⟨E.tb,(E.ts.length-l.length) * 4+2,none⟩=some (.int .i64 (hdT l).num)∧w.cell? ⟨E.tb,(E.ts.length-l.length) * 4+3,none⟩=some (.int .i64 (hdT l).place) :=
 h.row _ _ h.head.2
theorem PSt.zWl {E:Env} {w:World} {l:List Tok} {d:Nat} (h:PSt E w l d):zpi (hdT l):=h.ok _ (List.mem_of_getElem? h.head.2)
theorem zGh.same {w w':World} {g:Nat} {ts:List Tok} (h:zGh w g ts) (hb:w'.heap[g]?=w.heap[g]?):zGh w' g ts:=fun i t ht=>by
 obtain ⟨h0,h1,h2,h3⟩:=h i t ht
 exact ⟨(World.cell?_of_block (a:=⟨g,i * 4,none⟩) hb).trans h0,(World.cell?_of_block (a:=⟨g,i * 4+1,none⟩) hb).trans h1,(World.cell?_of_block (a:=⟨g,i * 4+2,none⟩) hb).trans h2,(World.cell?_of_block (a:=⟨g,i * 4+3,none⟩) hb).trans h3⟩
theorem PSt.same {E:Env} {w w':World} {l:List Tok} {d:Nat} (h:PSt E w l d) (hs:w.heap.size≤w'.heap.size) (hp:w'.heap[E.pb]?=w.heap[E.pb]?) (ht:w'.heap[E.tb]?=w.heap[E.tb]?):PSt E w' l d :=
 ⟨h.le,h.suf,hp.trans h.blk,h.row.same ht,h.ne,Nat.lt_of_lt_of_le h.tlt hs,h.ends,h.ok,h.len,h.capb,h.deep⟩
theorem PSt.below {E:Env} {w w':World} {l:List Tok} {d:Nat} (h:PSt E w l d) (hb:Below w.heap.size w w'):PSt E w' l d :=
 h.same hb.size (hb.block _ h.plt) (hb.block _ h.tlt)
theorem PSt.alloc {E:Env} {w:World} {l:List Tok} {d:Nat} (h:PSt E w l d) (o:Obj):PSt E (w.alloc o) l d :=
 h.below ((Below.refl _ _).alloc (Nat.le_refl _) _)
abbrev Kp (pb:Nat) (w w':World):Prop:=w.grownBy w' (some pb)
theorem Kp.refl (pb:Nat) (w:World):Kp pb w w:=⟨rfl,rfl,rfl,Nat.le_refl _,fun _ _ _=>rfl⟩
theorem Kp.trans {pb:Nat} {a b c:World} (h:Kp pb a b) (k:Kp pb b c):Kp pb a c :=
 ⟨k.os.trans h.os,k.tape.trans h.tape,k.output.trans h.output,Nat.le_trans h.size k.size,fun i hi hn=>(k.block i (Nat.lt_of_lt_of_le hi h.size) hn).trans (h.block i hi hn)⟩
theorem Kp.of_below {pb:Nat} {w w':World} (h:Below w.heap.size w w'):Kp pb w w':=⟨h.os,h.tape,h.output,h.size,fun i hi _=>h.block i hi⟩
theorem Kp.alloc {pb:Nat} {a w:World} (h:Kp pb a w) (o:Obj):Kp pb a (w.alloc o):=h.trans (World.grownBy_alloc w o _)
theorem Kp.zHp {pb:Nat} {a w:World} (h:Kp pb a w) (o:Nat) (v:Value):Kp pb a (w.setCell ⟨pb,o,none⟩ v) :=
 h.trans ⟨rfl,rfl,rfl,by simp [World.setCell],fun k _ hk=>Below.heap_setCell _ _ _ _ (fun e=>hk (by rw [e]))⟩
theorem Kp.zar {pb:Nat} {a w:World} (h:Kp pb a w) {p:Addr} (hp:a.heap.size≤p.block) (v:Value):Kp pb a (w.setCell p v) :=
 ⟨h.os,h.tape,h.output,by simpa [World.setCell] using h.size,fun k hk hn=>(Below.heap_setCell w p v k (by omega)).trans (h.block k hk hn)⟩
theorem Kp.drew {pb:Nat} {a w:World} (h:Kp pb a w):Kp pb a w.drew:=⟨h.os,h.tape,h.output,h.size,h.block⟩
theorem Kp.below {pb B:Nat} {w w':World} (h:Kp pb w w') (hB:B≤pb) (hp:pb<w.heap.size):Below B w w' :=
 ⟨h.os,h.tape,h.output,h.size,fun k hk=>h.block k (by omega) (by simp;omega)⟩
theorem Kp.cell {pb:Nat} {w w':World} (h:Kp pb w w'):(∀ b o,b≠pb→b<w.heap.size→w'.cell? ⟨b,o,none⟩=w.cell? ⟨b,o,none⟩)∧(∀ b o,b≠pb→b<w.heap.size→w'.frozen? ⟨b,o,none⟩=w.frozen? ⟨b,o,none⟩) :=
 ⟨fun b o hb hs=>World.cell?_of_block (a:=⟨b,o,none⟩) (h.block b hs (by simpa using hb)),fun b o hb hs=>World.frozen?_of_block (a:=⟨b,o,none⟩) (h.block b hs (by simpa using hb))⟩
theorem Ends.tail {l:List Tok} (h:Ends l) (hk:(hdT l).kind≠0):Ends l.tail:=by
 obtain ⟨t,r,rfl⟩:=h.ne
 rcases h with ⟨_,h0,_⟩|⟨_,h1⟩
 ·exact absurd h0 hk
 ·exact h1
theorem Ends.zIl {l:List Tok} (h:Ends l) {s:ByteArray} (hi:isT (hdT l) s=true) (hs:0<s.size):Ends l.tail:=by
 refine h.tail fun h0=>?_
 obtain ⟨t,r,rfl⟩:=h.ne
 rcases h with ⟨_,_,h2⟩|⟨h1,_⟩
 ·unfold isT at hi
  have e:(hdT (t :: r)).text=t.text:=rfl
  rw [e,h2] at hi
  have h3:=beq_iff_eq.1 hi
  rw [ByteArray.toList_eq,ByteArray.toList_eq] at h3
  have h4:=congrArg List.length h3
  simp at h4
  have:s.data.size=s.size:=rfl
  omega
 ·exact h1 h0
def Blk (w:World) (g:Nat) (cs:List Value) (t:TypeId):Prop:=w.heap[g]?=some (.cells cs.toArray t (0,0))
theorem Blk.lt {w:World} {g:Nat} {cs:List Value} {t:TypeId} (h:Blk w g cs t):g<w.heap.size:=(Array.getElem?_eq_some_iff.1 h).1
theorem Blk.new (w:World) (cs:List Value) (t:TypeId):Blk (w.alloc (.cells cs.toArray t)) w.heap.size cs t:=heap_alloc_new w _
theorem Blk.zFd (w:World) (o:Obj) (cs:List Value) (t:TypeId):Blk ((w.alloc o).alloc (.cells cs.toArray t)) (w.heap.size+1) cs t:=by
 have h:=Blk.new (w.alloc o) cs t
 rwa [show (w.alloc o).heap.size=w.heap.size+1 by simp] at h
theorem Blk.alloc {w:World} {g:Nat} {cs:List Value} {t:TypeId} (h:Blk w g cs t) (o:Obj):Blk (w.alloc o) g cs t:=(Below.heap_alloc w o g h.lt).trans h
theorem Blk.drew {w:World} {g:Nat} {cs:List Value} {t:TypeId} (h:Blk w g cs t):Blk w.drew g cs t:=h
theorem Blk.setOther {w:World} {g:Nat} {cs:List Value} {t:TypeId} (h:Blk w g cs t) (a:Addr) (v:Value) (hn:g≠a.block):Blk (w.setCell a v) g cs t:=(Below.heap_setCell w a v g hn).trans h
theorem Blk.zjc {w:World} {g:Nat} {cs:List Value} {t:TypeId} (h:Blk w g cs t) (o:Nat) (v:Value):Blk (w.setCell ⟨g,o,none⟩ v) g (cs.set o v) t:=by
 unfold Blk at h ⊢
 simp only [World.setCell,Array.getElem?_modify,if_pos,h,Option.map_some]
 simp
theorem Blk.zcb {w:World} {g:Nat} {cs:List Value} {t:TypeId} (h:Blk w g cs t) (g':Nat) (ds:Array Value) (hn:g≠g'):Blk (w.setRow g' ds) g cs t:=(setRow_other w g' g ds hn).trans h
theorem Blk.kp {pb:Nat} {w w':World} {g:Nat} {cs:List Value} {t:TypeId} (h:Blk w g cs t) (hk:Kp pb w w') (hn:g≠pb):Blk w' g cs t:=(hk.block g h.lt (by simpa using hn)).trans h
theorem Blk.cell {w:World} {g:Nat} {cs:List Value} {t:TypeId} (h:Blk w g cs t) (o:Nat):w.cell? ⟨g,o,none⟩=cs[o]?:=by
 rw [cell_of_row _ _ _ _ _ _ h];simp
theorem Blk.frozen {w:World} {g:Nat} {cs:List Value} {t:TypeId} (h:Blk w g cs t) (o:Nat):w.frozen? ⟨g,o,none⟩=false:=by
 unfold Blk at h;simp [World.frozen?,h]
theorem Kp.setRow {pb:Nat} {a w:World} (h:Kp pb a w) {g:Nat} (hg:a.heap.size≤g) (cs:Array Value):Kp pb a (w.setRow g cs) :=
 ⟨h.os,h.tape,h.output,by simpa using h.size,fun k hk hn=>(setRow_other w g k cs (by omega)).trans (h.block k hk hn)⟩
theorem PSt.setRow {E:Env} {w:World} {l:List Tok} {d:Nat} (h:PSt E w l d) {g:Nat} (hp:E.pb≠g) (ht:E.tb≠g) (cs:Array Value):PSt E (w.setRow g cs) l d :=
 h.same (by simp) (setRow_other w g _ cs hp) (setRow_other w g _ cs ht)
theorem zFa (ty:TypeId) (x:Operand) {P:Program} {ops:Array Oper} {rest:List Oper} {y:Operand} {tt:TypeId} {ps:String} {af:Array Edge} {a:Act} {w:World} {Q:Exit→Act→World→Prop}
  (h:wpList P ops Q (⟨none,.store ty x y,tt,ps,af,none⟩ :: rest) a w):wpList P ops Q (⟨none,.store ty x y,tt,ps,af,none⟩ :: rest) a w:=h
theorem zca {P:Program} {ops:Array Oper} {rest:List Oper} {o:Oper} {a:Act} {w:World} {Q:Exit→Act→World→Prop} (hgd:o.guard=none) (ty:TypeId) (x y:Operand) (ho:o.op=.store ty x y)
  (g:Nat) (cells:List Value) (hx:a.eval x=.pointer (some ⟨g,0,none⟩)) (hy:a.eval y=.agg cells.toArray)
  {t:TypeId} {old:List Value} (hg:Blk w g old t) (hi:(P.info? ty).map (·.size)=some cells.length)
  (hold:old.length=cells.length) (h1:∀ v∈cells,v.oneCell'=true)
  (h:wpList P ops Q rest (a.put o.dst undef) (w.setRow g cells.toArray)):wpList P ops Q (o :: rest) a w :=
 wpList_store_row hgd ty x y ho g cells.toArray hx hy t old.toArray hg (by simpa using hi) (by simpa using hold) (all_oneCell_toArray h1) h
theorem zkl (w:World) (old cs:Array Value) (t:TypeId):(w.alloc (.cells old t)).setRow w.heap.size cs=w.alloc (.cells cs t):=by
 have h:∀ h1 h2:Array Obj,h1=h2→({ w with heap:=h1 }:World)={ w with heap:=h2 }:=fun _ _ e=>by rw [e]
 refine h _ _ ?_
 show (w.heap.push (.cells old t)).modify _ _=w.heap.push (.cells cs t)
 apply Array.ext
 ·simp
 ·intro i h1 h2
  simp only [Array.getElem_modify]
  split
  ·rename_i hi;subst hi;simp
  ·rename_i hi
   have hlt:i<w.heap.size:=by simp at h2;omega
   rw [Array.getElem_push_lt hlt,Array.getElem_push_lt hlt]
theorem zHa {P:Program} {ops:Array Oper} {rest:List Oper} {o:Oper} {a:Act} {w:World} {Q:Exit→Act→World→Prop} (hgd:o.guard=none) (ty:TypeId) (x y:Operand) (ho:o.op=.store ty x y)
  (cells:List Value) {t:TypeId} {old:List Value} (hx:a.eval x=.pointer (some ⟨w.heap.size,0,none⟩)) (hy:a.eval y=.agg cells.toArray) (hi:(P.info? ty).map (·.size)=some cells.length)
  (hold:old.length=cells.length) (h1:∀ v∈cells,v.oneCell'=true)
  (h:wpList P ops Q rest (a.put o.dst undef) (w.alloc (.cells cells.toArray t))):wpList P ops Q (o :: rest) a (w.alloc (.cells old.toArray t)):=by
 refine zca hgd ty x y ho w.heap.size cells hx hy (Blk.new w old t) hi hold h1 ?_
 rw [zkl]
 exact h
theorem Blk.zcc {w:World} {g:Nat} {cs:List Value} {t:TypeId} (h:Blk w g cs t) (ds:List Value):Blk (w.setRow g ds.toArray) g ds t:=setRow_heap w g _ _ t (0,0) h
theorem PSt.step {E:Env} {w:World} {l:List Tok} {d:Nat} (h:PSt E w l d) (ht:Ends l.tail):PSt E (w.setCell ⟨E.pb,1,none⟩ (.int .i64 ((E.ts.length-l.length:Nat)+1:Int))) l.tail d:=by
 obtain ⟨t,r,rfl⟩:=h.ends.ne
 have h1:=h.le
 have h2:E.ts.length-r.length=E.ts.length-(t :: r).length+1:=by simp at h1 ⊢;omega
 refine ⟨by simp at h1 ⊢;omega,?_,?_,h.row.same (Below.heap_setCell _ _ _ _ h.ne),h.ne,by simpa [World.setCell] using h.tlt,ht,h.ok,h.len,h.capb,h.deep⟩
 ·show r=E.ts.drop (E.ts.length-r.length)
  rw [h2,← List.tail_drop,← h.suf]
  rfl
 ·show (w.setCell _ _).heap[E.pb]?=_
  simp only [World.setCell,Array.getElem?_modify,if_pos,h.blk,Option.map_some]
  show _=some (Obj.cells #[_,Value.int .i64 ((E.ts.length-r.length:Nat):Int),_] _ _)
  rw [h2]
  simp
theorem PSt.zpd {E:Env} {w:World} {l:List Tok} {d:Nat} (h:PSt E w l d) (d':Nat) (hd:d'≤8):PSt E (w.setCell ⟨E.pb,2,none⟩ (.int .i64 d')) l d':=by
 refine ⟨h.le,h.suf,?_,h.row.same (Below.heap_setCell _ _ _ _ h.ne),h.ne,by simpa [World.setCell] using h.tlt,h.ends,h.ok,h.len,h.capb,hd⟩
 simp only [World.setCell,Array.getElem?_modify,if_pos,h.blk,Option.map_some]
 rfl
def zCf (p:Nat) (c:Int):Value:=.iface 68 (.agg #[.int .i64 p,.int .i64 c])
def zpb {α:Type} (V:World→Nat→α→Value→Prop) (E:Env) (w:World) (l:List Tok) (d:Nat) (r:R α) (e:Ending) (w':World):Prop :=
 match r with
 | .ok (a,l')=>∃ v,e=.returned v∧V w' w.heap.size a v∧PSt E w' l' d∧l'.length<l.length∧Kp E.pb w w'
 | .error (p,c)=>e=.panicked [{ v:=zCf p c,recovered:=false }]∧Kp E.pb w w'∧(c=20∨c=21)
section
variable {α:Type} {V:World→Nat→α→Value→Prop} {E:Env} {w:World} {l:List Tok} {d:Nat} {r:R α} {e:Ending} {w':World}
theorem zpb.ok (h:zpb V E w l d r e w') {a:α} {l':List Tok} (hr:r=.ok (a,l')):∃ v,e=.returned v∧V w' w.heap.size a v∧PSt E w' l' d∧l'.length<l.length∧Kp E.pb w w':=by
 rw [hr] at h;exact h
theorem zpb.err (h:zpb V E w l d r e w') {p:Nat} {c:Int} (hr:r=.error (p,c)):e=.panicked [{ v:=zCf p c,recovered:=false }]∧Kp E.pb w w'∧(c=20∨c=21):=by
 rw [hr] at h;exact h
theorem zpb.zih {a:α} {l':List Tok} {v:Value} (hr:r=.ok (a,l')) (he:e=.returned v) (hv:V w' w.heap.size a v) (hs:PSt E w' l' d) (hl:l'.length<l.length) (hk:Kp E.pb w w'):zpb V E w l d r e w':=by
 rw [hr];exact ⟨v,he,hv,hs,hl,hk⟩
theorem zpb.zCl {p:Nat} {c:Int} (hr:r=.error (p,c)) (he:e=.panicked [{ v:=zCf p c,recovered:=false }]) (hk:Kp E.pb w w') (hc:c=20∨c=21):zpb V E w l d r e w':=by
 rw [hr];exact ⟨he,hk,hc⟩
end
def VTok (_:World) (_:Nat) (t:Tok) (v:Value):Prop:=v=zGb t∧zpi t
def VStr (_:World) (_:Nat) (s:ByteArray) (v:Value):Prop:=v=.string s
def VNum (_:World) (_:Nat) (n:Int) (v:Value):Prop:=v=.int .i64 n∧0≤n∧n≤1099511627776
theorem zee {E:Env} {w:World} {l:List Tok} {d:Nat} (h:PSt E w l d):l.tail.length<l.length:=by
 obtain ⟨t,r,rfl⟩:=h.ends.ne
 simp
end
end Go.Proofs.YthdbmgijpelecaaGreatDoor
