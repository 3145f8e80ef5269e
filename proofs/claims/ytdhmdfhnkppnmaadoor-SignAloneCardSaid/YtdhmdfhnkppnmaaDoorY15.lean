/- Two texts that are read, one behind the other, are read as the declarations of both. Nothing of the program is walked here. The row of a slice of trees. Nothing of the program is walked here. The plain account of layer 11: what the types of a tree are, or the first fault. Nothing of the program is walked here. -/
import Derived.Test.YtdhmdfhnkppnmaaDoorY06
import Derived.Test.YtdhmdfhnkppnmaaDoorY14
import Derived.Test.YtdhmdfhnkppnmaaDoorY02
import Derived.Test.YtdhmdfhnkppnmaaDoorY05
import Derived.Test.YtdhmdfhnkppnmaaDoorY04
import Derived.Maps.OwnSet
import Derived.Maps.OwnOps
import Derived.Deep.QuietTactic
import Derived.BigQuiet
import Derived.Deep.LoopGhost
namespace Go.Proofs.YtdhmdfhnkppnmaaDoor
section
open Go.RowKit
theorem Al.true:∀ c:List Tok,Al (fun _ _=>True) c c
 | []=>.nil
 | _ :: c=>.cons ⟨rfl,rfl,rfl,trivial⟩ (Al.true c)
end
section
open Go.RowKit
end
section
open Go.RowKit
theorem wrap64_in {n:Int} (h0:-9223372036854775808≤n) (h1:n≤9223372036854775807):wrap64 n=n:=by unfold wrap64;omega
structure Fa where
 x:Int
 y:Int
 c:Int
structure Ty where
 name:ByteArray
 sort:Int
 of:Int
 fields:List (ByteArray × Int)
 facts:List Fa
def zkf {α:Type} (nm:α→ByteArray):List α→ByteArray→Option Nat
 | [],_=>none
 | t :: ts,s=>bif (nm t).toList == s.toList then some 0 else (zkf nm ts s).map (·+1)
def oi:Option Nat→Int
 | none=>-1
 | some k=>(k:Int)
abbrev zNi:=zkf T.text
abbrev zDd:=zkf Ty.name
theorem zMg {α:Type} {nm:α→ByteArray}:∀ {l:List α} {s:ByteArray} {k:Nat},zkf nm l s=some k→k<l.length
 | [],_,_,h=>by cases h
 | t :: ts,s,k,h=>by
  unfold zkf at h
  cases hb:(nm t).toList == s.toList with
  | true=>rw [hb] at h;simp at h;subst h;simp
  | false =>
   rw [hb] at h
   simp only [cond_false,Option.map_eq_some_iff] at h
   obtain ⟨j,hj,rfl⟩:=h
   have:=zMg hj
   simpa using this
theorem zHg {α:Type} {nm:α→ByteArray} {s:ByteArray}:∀ {l:List α} {k:Nat} {t:α},l[k]?=some t→zkf nm (l.take k) s=none→zkf nm (l.take (k+1)) s=(bif (nm t).toList == s.toList then some k else none)∧((nm t).toList=s.toList→zkf nm l s=some k)
 | [],k,t,h,_=>by simp at h
 | a :: l,0,t,h,_=>by
  obtain rfl:a=t:=by simpa using h
  refine ⟨?_,fun he=>?_⟩
  ·simp only [List.take_succ_cons,List.take_zero,zkf]
   cases (nm a).toList == s.toList<;>rfl
  ·unfold zkf;rw [he];simp
 | a :: l,k+1,t,h,hn=>by
  rw [List.take_succ_cons,zkf] at hn
  cases hb:(nm a).toList == s.toList with
  | true=>rw [hb] at hn;cases hn
  | false =>
   rw [hb] at hn
   simp only [cond_false,Option.map_eq_none_iff] at hn
   obtain ⟨h1,h2⟩:=zHg (nm:=nm) (s:=s) (l:=l) (k:=k) (t:=t) (by simpa using h) hn
   refine ⟨?_,fun he=>?_⟩
   ·rw [List.take_succ_cons,zkf,hb,h1]
    cases (nm t).toList == s.toList<;>rfl
   ·rw [zkf,hb,h2 he];rfl
theorem zGi {α:Type} {nm:α→ByteArray}:∀ (l:List α) (t:α) (s:ByteArray),zkf nm (l++[t]) s=match zkf nm l s with|some k=>some k|none=>bif (nm t).toList == s.toList then some l.length else none
 | [],t,s=>by simp only [List.nil_append,zkf,List.length_nil];cases (nm t).toList == s.toList<;>rfl
 | a :: l,t,s=>by
  simp only [List.cons_append,zkf,zGi l t s]
  cases (nm a).toList == s.toList
  ·cases h:zkf nm l s
   ·simp only [cond_false,Option.map_none,List.length_cons]
    cases (nm t).toList == s.toList<;>rfl
   ·rfl
  ·rfl
theorem zom (l:List Ty) (t:Ty) (s:ByteArray):zDd (l++[t]) s=match zDd l s with|some k=>some k|none=>bif t.name.toList == s.toList then some l.length else none:=zGi l t s
def zod (cmp:ByteArray) (a b k l:Int):List Fa :=
 bif cmp.toList == [60] then [⟨a,b,wrap64 (wrap64 (l-k)-1)⟩]
 else bif cmp.toList == [60,61] then [⟨a,b,wrap64 (l-k)⟩]
 else bif cmp.toList == [61,61] then [⟨a,b,wrap64 (l-k)⟩,⟨b,a,wrap64 (k-l)⟩]
 else []
def znb (s:ByteArray):Int :=
 bif s.toList == [99,101,108,108] then 1
 else bif s.toList == [99,111,117,110,116,101,100] then 2
 else bif s.toList == [108,111,99,107] then 3
 else bif s.toList == [103,117,97,114,100] then 4
 else 0
def zza (t:T) (i:Nat):T:=t.kids.getD i zqb
structure Pt where
 sort:T
 fields:List T
 facts:List T
def zAb (ks:List T):Pt:=⟨(ks.filter (fun t=>t.kind == 2)).getLastD zqb,ks.filter (fun t=>t.kind == 3),ks.filter (fun t=>t.kind == 4)⟩
theorem zIl (ks:List T) (t:T):zAb (ks++[t])=⟨bif t.kind == 2 then t else (zAb ks).sort,bif t.kind == 3 then (zAb ks).fields++[t] else (zAb ks).fields,bif t.kind == 4 then (zAb ks).facts++[t] else (zAb ks).facts⟩:=by
 unfold zAb
 simp only [List.filter_append]
 cases h2:t.kind == 2<;>cases h3:t.kind == 3<;>cases h4:t.kind == 4<;>simp [List.filter,h2,h3,h4]
def zUf (fs:List T) (s:ByteArray):Option Nat :=
 match zNi fs s with
 | none=>none
 | some i=>bif (fs.getD i zqb).kids.isEmpty then some i else none
theorem zUo {fs:List T} {s:ByteArray} {k:Nat} (h:zUf fs s=some k):k<fs.length:=by
 unfold zUf at h
 cases hf:zNi fs s with
 | none=>rw [hf] at h;cases h
 | some i =>
  rw [hf] at h
  simp only at h
  cases hb:(fs.getD i zqb).kids.isEmpty with
  | false=>rw [hb] at h;cases h
  | true=>rw [hb] at h;simp at h;subst h;exact zMg hf
abbrev E (α:Type):=Except (Nat × Int) α
def pre {α:Type} (l:List α):E (List α)→E (List α)
 | .ok r=>.ok (l++r)
 | .error e=>.error e
theorem pre_nil {α:Type} (r:E (List α)):pre [] r=r:=by cases r<;>rfl
theorem zmj {α:Type} (l m:List α) (r:E (List α)):pre l (pre m r)=pre (l++m) r:=by cases r<;>simp [pre]
def zZi (fs:List T) (srt:Int) (n:T):E Int :=
 bif srt != 0 || (zUf fs (zza n 0).text).isNone then .error (n.place,32) else .ok (oi (zUf fs (zza n 0).text))
def zEj (fs:List T) (srt:Int) (n:T):E Int:=bif n.kids.isEmpty then .ok (-1) else zZi fs srt n
def zYb (fs:List T) (srt:Int):Nat→List T→E (List (ByteArray × Int))
 | _,[]=>.ok []
 | i,n :: r =>
  bif (zNi (fs.take i) n.text).isSome then .error (n.place,30)
  else match zEj fs srt n with
   | .error e=>.error e
   | .ok z=>pre [(n.text,z)] (zYb fs srt (i+1) r)
def zal (srt of:Int) (i:Int):Bool:=(srt == 2 || srt == 3) && i == of
def zGj (fs:List T) (srt of:Int) (t:T):Option Nat :=
 bif t.text.toList == [] then some 0
 else match zUf fs t.text with
  | none=>none
  | some i=>bif zal srt of i then none else some (i+1)
def zZf (fs:List T) (srt of:Int) (n:T):E (List Fa) :=
 match zGj fs srt of (zza n 0),zGj fs srt of (zza n 1) with
 | some a,some b=>.ok (zod n.text a b (zza n 0).num (zza n 1).num)
 | _,_=>.error (n.place,33)
def zEb (fs:List T) (srt of:Int):List T→E (List Fa)
 | []=>.ok []
 | n :: r =>
  match zZf fs srt of n with
  | .error e=>.error e
  | .ok l=>pre l (zEb fs srt of r)
def ofP (tys:List Ty) (p:Pt) (srt:Int):E Int :=
 bif srt == 2 || srt == 3 then
  match zUf p.fields (zza p.sort 0).text with
  | none=>.error (p.sort.place,32)
  | some i=>.ok i
 else bif srt == 4 then
  match zDd tys (zza p.sort 0).text with
  | none=>.error (p.sort.place,31)
  | some k =>
   bif (tys[k]?.map (·.sort)).getD 0 != 3 then .error (p.sort.place,31)
   else bif !p.fields.isEmpty || !p.facts.isEmpty then .error (p.sort.place,32)
   else .ok k
 else .ok 0
def zGh (tys:List Ty) (n:T):E Ty :=
 bif (zDd tys n.text).isSome then .error (n.place,30)
 else bif decide (8<(zAb n.kids).fields.length) then .error (n.place,22)
 else match zYb (zAb n.kids).fields (znb (zAb n.kids).sort.text) 0 (zAb n.kids).fields with
  | .error e=>.error e
  | .ok fl=>match ofP tys (zAb n.kids) (znb (zAb n.kids).sort.text) with
   | .error e=>.error e
   | .ok o=>match zEb (zAb n.kids).fields (znb (zAb n.kids).sort.text) o (zAb n.kids).facts with
    | .error e=>.error e
    | .ok fc=>.ok ⟨n.text,znb (zAb n.kids).sort.text,o,fl,fc⟩
def zGb:List Ty→List T→E (List Ty)
 | tys,[]=>.ok tys
 | tys,n :: r =>
  bif n.kind == 1 then
   match zGh tys n with
   | .error e=>.error e
   | .ok x=>zGb (tys++[x]) r
  else zGb tys r
end
end Go.Proofs.YtdhmdfhnkppnmaaDoor
namespace Go.Proofs.YtdhmdfhnkppnmaaDoor
open Go.RowKit
structure Prm where
 name:ByteArray
 mode:Int
 ty:Int
structure Sg where
 name:ByteArray
 params:List Prm
 ret:Prm
def zOb:Prm:=⟨⟨#[]⟩,0,0⟩
def zUa (s:ByteArray):Int :=
 bif s.toList == [105,110,116] then 1
 else bif s.toList == [111,119,110] then 2
 else bif s.toList == [38] then 3
 else bif s.toList == [38,109,117,116] then 4
 else 0
def ztb (m:Int):Bool:=m == 2 || m == 3 || m == 4
def zEc (tys:List Ty) (t:T):Option Prm :=
 bif ztb (zUa t.text) then (zDd tys (zza t 0).text).map (fun k:Nat=>(⟨⟨#[]⟩,zUa t.text,(k:Int)⟩:Prm))
 else some ⟨⟨#[]⟩,zUa t.text,0⟩
theorem zgg {tys:List Ty} {t:T} (h:ztb (zUa t.text)=false):zEc tys t=some ⟨⟨#[]⟩,zUa t.text,0⟩:=by unfold zEc;rw [h];rfl
theorem zuh {tys:List Ty} {t:T} (h:ztb (zUa t.text)=true):zEc tys t=(zDd tys (zza t 0).text).map (fun k:Nat=>(⟨⟨#[]⟩,zUa t.text,(k:Int)⟩:Prm)):=by unfold zEc;rw [h];rfl
def zwp (tys:List Ty) (p:Prm):Prop:=ztb p.mode=true→∃ k:Nat,p.ty=(k:Int)∧k<tys.length
theorem zGn {tys:List Ty} {t:T} {p:Prm} (h:zEc tys t=some p):zwp tys p:=by
 intro hn
 cases hb:ztb (zUa t.text) with
 | false =>
  rw [zgg hb] at h
  cases h
  rw [hb] at hn;cases hn
 | true =>
  rw [zuh hb] at h
  simp only [Option.map_eq_some_iff] at h
  obtain ⟨k,hk,rfl⟩:=h
  exact ⟨k,rfl,zMg hk⟩
def zth (tys:List Ty) (i:Int):Int:=(tys[i.toNat]?.map (·.sort)).getD 0
def zxe (p o:Prm):Bool:=ztb o.mode && o.ty == p.ty
def zed (tys:List Ty) (p:Prm) (l:List Prm):Bool:=bif !ztb p.mode || zth tys p.ty == 0 then false else l.any (zxe p)
def zxc (s:ByteArray) (o:Prm):Bool:=o.name.toList == s.toList
def zOg (tys:List Ty) (n:T) (l:List Prm):E Prm :=
 bif l.any (zxc n.text) then .error (n.place,30)
 else match zEc tys (zza n 0) with
  | none=>.error ((zza n 0).place,31)
  | some p=>bif zed tys p l then .error ((zza n 0).place,34) else .ok ⟨n.text,p.mode,p.ty⟩
def zgd (tys:List Ty):List Prm→List T→E (List Prm)
 | l,[]=>.ok l
 | l,n :: r =>
  match zOg tys n l with
  | .error e=>.error e
  | .ok p=>zgd tys (l++[p]) r
structure Fp where
 params:List T
 res:T
def zJc (ks:List T):Fp:=⟨ks.filter (fun t=>t.kind == 7),(ks.filter (fun t=>t.kind == 8)).getLastD zqb⟩
theorem znl (ks:List T) (t:T):zJc (ks++[t])=⟨bif t.kind == 7 then (zJc ks).params++[t] else (zJc ks).params,bif t.kind == 8 then t else (zJc ks).res⟩:=by
 unfold zJc
 simp only [List.filter_append]
 cases h2:t.kind == 7<;>cases h3:t.kind == 8<;>simp [List.filter,h2,h3]
def zSg (tys:List Ty) (n:T):E Sg :=
 bif decide (8<(zJc n.kids).params.length) then .error (n.place,22)
 else match zgd tys [] (zJc n.kids).params with
  | .error e=>.error e
  | .ok l=>match zEc tys (zJc n.kids).res with
   | none=>.error ((zJc n.kids).res.place,31)
   | some r=>.ok ⟨n.text,l,r⟩
def zFc (tys:List Ty):List Sg→List T→E (List Sg)
 | l,[]=>.ok l
 | l,n :: r =>
  bif n.kind == 6 then
   match zSg tys n with
   | .error e=>.error e
   | .ok s=>zFc tys (l++[s]) r
  else zFc tys l r
end Go.Proofs.YtdhmdfhnkppnmaaDoor
namespace Go.Proofs.YtdhmdfhnkppnmaaDoor
set_option maxRecDepth 100000
set_option maxHeartbeats 2000000
section
open Go.RowKit Go.Maps
theorem Below.row {B:Nat} {a w:World} (h:Below B a w) {g:Nat} (hg:B≤g) (cs:Array Value):Below B a (w.setRow g cs) :=
 ⟨h.os,h.tape,h.output,by simpa [World.setRow] using h.size,fun k hk=>(setRow_other w g k cs (by omega)).trans (h.block k hk)⟩
theorem Blk.stays {w w':World} {g:Nat} {cs:List Value} {t:TypeId} (h:Blk w g cs t) (hb:Below w.heap.size w w'):Blk w' g cs t:=(hb.block g h.lt).trans h
theorem zld {w w':World} {o:Nat} {e:TypeId} {m n:Nat} {v:Value} {xs:List Value} (h:w.ownsRow o e m v n xs) (hk:∀ g,v.ownBlock=some g→w'.heap[g]?=w.heap[g]?):w'.ownsRow o e m v n xs:=by
 refine ⟨h.1,?_⟩
 rcases h.2 with hn|⟨g,cap,cur,rfl,hb,hg,rest⟩
 ·exact .inl hn
 ·exact .inr ⟨g,cap,cur,rfl,hb,(hk g rfl).trans hg,rest⟩
theorem zId {P:Program} {w:World} {t ty e:TypeId} {i:TypeInfo} {z:Value} {m0 bytes:Nat} (ht:P.underlying t=some (.slice e)) (hi:P.info? e=some i) (hz:i.zero=some z) (hsize:i.size=m0) (hby:i.bytes=bytes)
  {v:Value} {n:Nat} {xs:List Value} (hown:w.ownsRow 0 e m0 v n xs) {a:Addr} {m c:Nat} {news:List Value} (hm:0<m) (hl:news.length=m * m0) (hnews:∀ j u,news[j]?=some u→w.cell? (a.add j)=some u) (h1:∀ u∈news,u.oneCell'=true)
  (h63:n+m≤maxLen) (hbytes:(n+m) * bytes≤140737488355328) {v':Value} {w':World} (hr:(Builtin.append_ #[t,t] ty #[v,.slice (some a) m c]).run P w=.ok v' w'):v'.ownBlock=v.ownBlock∨v'.ownBlock=some w.heap.size:=by
 subst hby
 have hsmall:n+m≤9223372036854775807:=by simp only [maxLen] at h63;omega
 rw [← hsize] at hl
 rcases hown.2 with ⟨rfl,rfl⟩|⟨g,cap,cur,rfl,hbg,hg,hnc,hcm,hcs,htake⟩
 ·have h:=run_append_nil (P:=P) w t ty e i z ht hi hz a m c news hl hnews hm (by omega) (by have hb:=hbytes;simp only [Nat.zero_add] at hb;omega)
  rw [h] at hr
  cases hr
  exact .inr rfl
 ·by_cases hroom:n+m≤cap
  ·have hfit:n * i.size+news.length≤cur.size:=by rw [hl,hcs,hsize,← Nat.add_mul];exact Nat.mul_le_mul_right _ hroom
   have h:=run_append_room (P:=P) w t ty e i ht hi g n cap cur hg a m c news hl hnews h1 hroom hfit
   rw [h] at hr
   cases hr
   exact .inl rfl
  ·have h:=run_append_grow (P:=P) w t ty e i z ht hi hz ⟨g,0,none⟩ n cap xs (by rw [hown.1,hsize]) (hown.cells (g:=g) rfl) a m c news hl hnews (by omega) (by omega) (growslice_fits (by omega) hbytes)
   rw [h] at hr
   cases hr
   exact .inr rfl
structure zBe (P:Program) (t e:TypeId) (m bytes:Nat) (i:TypeInfo) (z:Value):Prop where
 ht:P.underlying t=some (.slice e)
 hi:P.info? e=some i
 hz:i.zero=some z
 size:i.size=m
 bytes:i.bytes=bytes
 zs:z.cells.size=m
def RAt {α:Type} (e:TypeId) (m:Nat) (c:α→List Value) (w:World) (xs:List α) (S:Nat→Prop) (v:Value):Prop :=
 w.ownsRow 0 e m v xs.length (xs.flatMap c)∧∀ g,v.ownBlock=some g→S g
section
variable {α:Type} {e:TypeId} {m:Nat} {c:α→List Value} {w w':World} {xs:List α} {S S':Nat→Prop} {v:Value}
theorem RAt.keep (h:RAt e m c w xs S v) (hk:∀ b,S b→b<w.heap.size→S' b∧w'.heap[b]?=w.heap[b]?):RAt e m c w' xs S' v :=
 ⟨zld h.1 fun g hg=>(hk g (h.2 g hg) (h.1.lt g hg).2).2,fun g hg=>(hk g (h.2 g hg) (h.1.lt g hg).2).1⟩
theorem RAt.nil (w:World) (S:Nat→Prop):RAt e m c w [] S (.slice none 0 0):=⟨World.ownsRow_nil _ _ _ _,fun g h=>by simp [Value.ownBlock] at h⟩
theorem RAt.mono (h:RAt e m c w xs S v) (hS:∀ b,S b→b<w.heap.size→S' b):RAt e m c w xs S' v:=h.keep fun b hb hl=>⟨hS b hb hl,rfl⟩
theorem RAt.below (h:RAt e m c w xs S v) (hk:Below w.heap.size w w'):RAt e m c w' xs S v:=h.keep fun b hb hl=>⟨hb,hk.block b hl⟩
theorem RAt.alloc (h:RAt e m c w xs S v) (o:Obj):RAt e m c (w.alloc o) xs S v:=h.keep fun b hb hl=>⟨hb,Below.heap_alloc w o b hl⟩
theorem RAt.drew (h:RAt e m c w xs S v):RAt e m c w.drew xs S v:=h.keep fun _ hb _=>⟨hb,rfl⟩
theorem RAt.setRow (h:RAt e m c w xs S v) (g:Nat) (cs:Array Value) (hS:∀ b,S b→b≠g):RAt e m c (w.setRow g cs) xs S v:=h.keep fun b hb _=>⟨hb,setRow_other w g b cs (hS b hb)⟩
theorem RAt.setCell (h:RAt e m c w xs S v) (a:Addr) (x:Value) (hS:∀ b,S b→b≠a.block):RAt e m c (w.setCell a x) xs S v:=h.keep fun b hb _=>⟨hb,Below.heap_setCell w a x b (hS b hb)⟩
theorem RAt.slice (h:RAt e m c w xs S v):∃ a k,v=.slice a xs.length k:=by
 rcases h.1.2 with ⟨rfl,h0⟩|⟨_,_,_,rfl,_⟩
 ·exact ⟨_,_,by rw [h0]⟩
 ·exact ⟨_,_,rfl⟩
theorem RAt.one (h:RAt e m c w xs S v):v.oneCell'=true:=by obtain ⟨_,_,rfl⟩:=h.slice;rfl
theorem flat_get (hc:∀ a,(c a).length=m):∀ (xs:List α) (k:Nat) (x:α) (j:Nat),xs[k]?=some x→j<m→(xs.flatMap c)[k * m+j]?=(c x)[j]?
 | [],k,x,j,h,_=>by simp at h
 | a :: xs,0,x,j,h,hj=>by
  obtain rfl:a=x:=by simpa using h
  rw [List.flatMap_cons,Nat.zero_mul,Nat.zero_add,List.getElem?_append_left (by rw [hc];exact hj)]
 | a :: xs,k+1,x,j,h,hj=>by
  rw [List.flatMap_cons,List.getElem?_append_right (by rw [hc,Nat.succ_mul];omega)]
  have e:(k+1) * m+j-(c a).length=k * m+j:=by rw [hc,Nat.succ_mul];omega
  rw [e]
  exact flat_get hc xs k x j (by simpa using h) hj
theorem ztc (hc:∀ a,(c a).length=m):∀ (xs:List α),(xs.flatMap c).length=xs.length * m
 | []=>by simp
 | a :: xs=>by rw [List.flatMap_cons,List.length_append,ztc hc xs,hc,List.length_cons,Nat.succ_mul];omega
theorem RAt.form (hc:∀ a,(c a).length=m) (h:RAt e m c w xs S v):(v=.slice none 0 0∧xs=[])∨∃ g cap,v=.slice (some ⟨g,0,none⟩) xs.length cap∧(S g∧g<w.heap.size)∧xs.length≤cap∧cap≤maxLen ∧
  ∀ k x,xs[k]?=some x→w.rangeAt g (k * m) (c x):=by
 obtain ⟨ho,hS⟩:=h
 have ho':=ho
 rcases ho.2 with ⟨rfl,h0⟩|⟨g,cap,cur,rfl,hb,hg,hnc,hcm,hcs,htake⟩
 ·exact .inl ⟨rfl,List.eq_nil_of_length_eq_zero h0⟩
 ·refine .inr ⟨g,cap,rfl,⟨hS g rfl,(Array.getElem?_eq_some_iff.1 hg).1⟩,hnc,hcm,fun k x hk j y hj=>?_⟩
  have hj5:j<m:=by have:=(List.getElem?_eq_some_iff.1 hj).1;rw [hc] at this;exact this
  have hlt:k<xs.length:=(List.getElem?_eq_some_iff.1 hk).1
  have hle:k * m+j<xs.length * m:=by
   have:(k+1) * m≤xs.length * m:=Nat.mul_le_mul_right _ hlt
   rw [Nat.succ_mul] at this;omega
  rw [ho'.cellAt (k * m+j) hle,flat_get hc xs k x j hk hj5]
  exact hj
end
def zMa (f:ByteArray × Int):List Value:=[.string f.1,.int .i64 f.2]
def zxh (f:Fa):List Value:=[.int .i64 f.x,.int .i64 f.y,.int .i64 f.c]
abbrev zii:=RAt 118 2 zMa
abbrev zmi:=RAt 133 3 zxh
theorem zHe (a:ByteArray × Int):(zMa a).length=2:=rfl
theorem zRp (a:Fa):(zxh a).length=3:=rfl
def zIa (t:Ty) (p l:Value):List Value:=[.string t.name,.int .i64 t.sort,.int .i64 t.of,p,l]
def TyV (t:Ty) (p l:Value):Value:=.agg #[.string t.name,.int .i64 t.sort,.int .i64 t.of,p,l]
def zMi (w:World) (t:Ty) (S:Nat→Prop) (p l:Value):Prop:=zii w t.fields S p∧zmi w t.facts S l
def zRg:List Ty→List (Value × Value)→List Value
 | c :: cs,u :: us=>zIa c u.1 u.2++zRg cs us
 | _,_=>[]
def zic (w:World):List Ty→(Nat→Prop)→List (Value × Value)→Prop
 | [],_,us=>us=[]
 | c :: cs,S,us=>∃ u us',us=u :: us'∧zMi w c S u.1 u.2∧zic w cs S us'
def zZb (w:World) (cs:List Ty) (S:Nat→Prop) (v:Value):Prop :=
 ∃ us,w.ownsRow 0 49 5 v cs.length (zRg cs us)∧(∀ g,v.ownBlock=some g→S g)∧zic w cs (fun b=>S b∧v.ownBlock≠some b) us
theorem zMi.keep {w w':World} {c:Ty} {S S':Nat→Prop} {p l:Value} (h:zMi w c S p l) (hk:∀ b,S b→b<w.heap.size→S' b∧w'.heap[b]?=w.heap[b]?):zMi w' c S' p l:=⟨h.1.keep hk,h.2.keep hk⟩
theorem zMi.one {w:World} {c:Ty} {S:Nat→Prop} {p l:Value} (h:zMi w c S p l):∀ u∈zIa c p l,u.oneCell'=true:=by
 obtain ⟨_,_,rfl⟩:=h.1.slice
 obtain ⟨_,_,rfl⟩:=h.2.slice
 intro u hu
 simp only [zIa,List.mem_cons,List.not_mem_nil,or_false] at hu
 rcases hu with rfl|rfl|rfl|rfl|rfl<;>rfl
theorem zic.keep {w w':World}:∀ (cs:List Ty) {S S':Nat→Prop} {us:List (Value × Value)},zic w cs S us→(∀ b,S b→b<w.heap.size→S' b∧w'.heap[b]?=w.heap[b]?)→zic w' cs S' us
 | [],_,_,_,h,_=>h
 | c :: cs,S,S',us,h,hk=>by
  obtain ⟨u,us',e,ha,hs⟩:=h
  exact ⟨u,us',e,ha.keep hk,zic.keep cs hs hk⟩
theorem zZb.keep {w w':World} {cs:List Ty} {S S':Nat→Prop} {v:Value} (h:zZb w cs S v) (hk:∀ b,S b→b<w.heap.size→S' b∧w'.heap[b]?=w.heap[b]?):zZb w' cs S' v:=by
 obtain ⟨us,ho,hS,ha⟩:=h
 exact ⟨us,zld ho fun g hg=>(hk g (hS g hg) (ho.lt g hg).2).2,fun g hg=>(hk g (hS g hg) (ho.lt g hg).2).1,zic.keep cs ha fun b hb hl=>⟨⟨(hk b hb.1 hl).1,hb.2⟩,(hk b hb.1 hl).2⟩⟩
theorem zZb.below {w w':World} {cs:List Ty} {S:Nat→Prop} {v:Value} (h:zZb w cs S v) (hk:Below w.heap.size w w'):zZb w' cs S v:=h.keep fun b hb hl=>⟨hb,hk.block b hl⟩
theorem zZb.drew {w:World} {cs:List Ty} {S:Nat→Prop} {v:Value} (h:zZb w cs S v):zZb w.drew cs S v:=h.keep fun _ hb _=>⟨hb,rfl⟩
theorem zZb.nil (w:World) (S:Nat→Prop):zZb w [] S (.slice none 0 0):=⟨[],World.ownsRow_nil _ _ _ _,(fun g h=>by simp [Value.ownBlock] at h),rfl⟩
theorem zic.length {w:World}:∀ {cs:List Ty} {S:Nat→Prop} {us:List (Value × Value)},zic w cs S us→us.length=cs.length
 | [],_,_,h=>by rw [show _=[] from h];rfl
 | c :: cs,_,_,h=>by obtain ⟨u,us',rfl,_,h'⟩:=h;simp [zic.length h']
theorem zic.snoc {w:World}:∀ {cs:List Ty} {c:Ty} {S:Nat→Prop} {us:List (Value × Value)} {u:Value × Value},zic w cs S us→zMi w c S u.1 u.2→zic w (cs++[c]) S (us++[u])
 | [],c,_,us,u,h,h'=>by rw [show us=[] from h];exact ⟨u,[],rfl,h',rfl⟩
 | a :: cs,c,_,_,u,h,h'=>by
  obtain ⟨v,us',rfl,ha,hs⟩:=h
  exact ⟨v,us'++[u],rfl,ha,zic.snoc hs h'⟩
theorem znh:∀ (cs:List Ty) (c:Ty) (us:List (Value × Value)) (u:Value × Value),us.length=cs.length→zRg (cs++[c]) (us++[u])=zRg cs us++zIa c u.1 u.2
 | [],c,[],u,_=>by simp [zRg]
 | a :: cs,c,v :: us,u,h=>by
  simp only [List.cons_append,zRg,List.append_assoc]
  rw [znh cs c us u (by simpa using h)]
theorem zCi:∀ (cs:List Ty) (us:List (Value × Value)) (k:Nat) (c:Ty) (u:Value × Value) (j:Nat),cs[k]?=some c→us[k]?=some u→j<5→(zRg cs us)[k * 5+j]?=(zIa c u.1 u.2)[j]?
 | [],_,k,t,u,j,h,_,_=>by simp at h
 | _ :: _,[],k,t,u,j,_,h,_=>by simp at h
 | a :: ks,b :: vs,0,t,u,j,h,h',hj=>by
  obtain rfl:a=t:=by simpa using h
  obtain rfl:b=u:=by simpa using h'
  rw [zRg,Nat.zero_mul,Nat.zero_add,List.getElem?_append_left (by simpa [zIa] using hj)]
 | a :: ks,b :: vs,k+1,t,u,j,h,h',hj=>by
  rw [zRg,List.getElem?_append_right (by simp [zIa];omega)]
  have e:(k+1) * 5+j-(zIa a b.1 b.2).length=k * 5+j:=by simp [zIa];omega
  rw [e]
  exact zCi ks vs k t u j (by simpa using h) (by simpa using h') hj
theorem zic.get {w:World}:∀ {cs:List Ty} {S:Nat→Prop} {us:List (Value × Value)},zic w cs S us→∀ {k:Nat} {c:Ty},cs[k]?=some c→∃ u,us[k]?=some u∧zMi w c S u.1 u.2
 | [],_,_,_,k,t,h=>by simp at h
 | a :: ts,S,vs,h,0,t,hk=>by
  obtain ⟨v,vs',rfl,ht,_⟩:=h
  obtain rfl:a=t:=by simpa using hk
  exact ⟨v,rfl,ht⟩
 | a :: ts,S,vs,h,k+1,t,hk=>by
  obtain ⟨v,vs',rfl,_,hts⟩:=h
  obtain ⟨u,hu,ht⟩:=zic.get hts (k:=k) (c:=t) (by simpa using hk)
  exact ⟨u,by simpa using hu,ht⟩
theorem zZb.slice {w:World} {cs:List Ty} {S:Nat→Prop} {v:Value} (h:zZb w cs S v):∃ a c,v=.slice a cs.length c:=by
 obtain ⟨_,ho,_⟩:=h
 rcases ho.2 with ⟨rfl,h0⟩|⟨g,cap,_,rfl,_⟩
 ·exact ⟨_,_,by rw [h0]⟩
 ·exact ⟨_,_,rfl⟩
theorem zZb.form {w:World} {cs:List Ty} {S:Nat→Prop} {v:Value} (h:zZb w cs S v):(v=.slice none 0 0∧cs=[])∨∃ g cap,v=.slice (some ⟨g,0,none⟩) cs.length cap∧(S g∧g<w.heap.size)∧cs.length≤cap∧cap≤maxLen ∧
  ∀ k c,cs[k]?=some c→∃ p l,w.rangeAt g (k * 5) (zIa c p l)∧zMi w c S p l:=by
 obtain ⟨us,ho,hS,hts⟩:=h
 have ho':=ho
 rcases ho.2 with ⟨rfl,h0⟩|⟨g,cap,cur,rfl,hb,hg,hnc,hcm,hcs,htake⟩
 ·exact .inl ⟨rfl,List.eq_nil_of_length_eq_zero h0⟩
 ·refine .inr ⟨g,cap,rfl,⟨hS g rfl,(Array.getElem?_eq_some_iff.1 hg).1⟩,hnc,hcm,fun k c hk=>?_⟩
  obtain ⟨u,hu,ht⟩:=hts.get hk
  refine ⟨u.1,u.2,fun j x hj=>?_,ht.keep fun b hb hl=>⟨hb.1,rfl⟩⟩
  have hj5:j<5:=by have:=(List.getElem?_eq_some_iff.1 hj).1;simpa [zIa] using this
  have hlt:k<cs.length:=(List.getElem?_eq_some_iff.1 hk).1
  rw [ho'.cellAt (k * 5+j) (by omega),zCi cs us k c u j hk hu hj5]
  exact hj
theorem zri {P:Program} {o:Oper} {a:Act} {w:World} {K:Act→World→Prop} {Q:Exit→Act→World→Prop} (s x:Operand) {t:TypeId} (ho:o.op=.call { callee:=.builtin .append,args:=#[s,x],argTypes:=#[t,t] })
  {i:TypeInfo} {z:Value} (I:zBe P t 49 5 80 i z) {cs:List Ty} {c:Ty} {S:Nat→Prop} {v p l:Value} (hs:a.eval s=v) (hk:zZb w cs S v) (hS:S w.heap.size) {b cc:Nat} (hx:a.eval x=.slice (some ⟨b,0,none⟩) 1 cc)
  (hg:Blk w b (zIa c p l) 49) (hc:zMi w c (fun b=>S b∧v.ownBlock≠some b) p l) (hb:cs.length+1≤2000000)
  (h:∀ v' w',zZb w' (cs++[c]) S v'→w.grownBy w' v.ownBlock→(v'.ownBlock=v.ownBlock∨v'.ownBlock=some w.heap.size)→K (a.put o.dst v') w'):o.wp P a w K Q:=by
 obtain ⟨us,hown,hSv,hks⟩:=hk
 have hnews:∀ j y,(zIa c p l)[j]?=some y→w.cell? ((⟨b,0,none⟩:Addr).add j)=some y:=fun j y hj=>by rw [Addr.add_mid,Nat.zero_add,hg.cell j];exact hj
 have hbb:(cs.length+1) * 80≤140737488355328:=by omega
 obtain ⟨v',w',hr,ho',hg',_⟩:=run_append_own (P:=P) w 0 t o.type 49 i z 5 80 I.ht I.hi I.hz I.size I.bytes I.zs (by decide) v cs.length (zRg cs us) hown ⟨b,0,none⟩ 1 cc (zIa c p l) rfl hnews hc.one (by unfold maxLen;omega) hbb (Nat.zero_le _)
 have hbk:=zId (ty:=o.type) I.ht I.hi I.hz I.size I.bytes hown (by omega) rfl hnews hc.one (by unfold maxLen;omega) hbb hr
 unfold Oper.wp execOp
 simp only [ho,resolve,invoke,builtin,Sem.run_bind,Sem.run_pure,Result.andThen_ok,List.map_toArray,List.map_cons,List.map_nil,hs,hx]
 rw [hr]
 have keep:∀ b,(S b∧v.ownBlock≠some b)→b<w.heap.size→(S b∧v'.ownBlock≠some b)∧w'.heap[b]?=w.heap[b]?:=fun b hb hl=>by
  refine ⟨⟨hb.1,fun h=>?_⟩,hg'.block b hl (Ne.symm hb.2)⟩
  rcases hbk with h'|h'
  ·exact hb.2 (h'▸h)
  ·rw [h'] at h;cases h;exact absurd hl (Nat.lt_irrefl _)
 refine h v' w' ⟨us++[(p,l)],?_,?_,?_⟩ hg' hbk
 ·rw [znh _ _ _ _ hks.length,List.length_append]
  exact ho'
 ·intro g hg2
  rcases hbk with h|h
  ·exact hSv g (h▸hg2)
  ·rw [h] at hg2;cases hg2;exact hS
 ·exact zic.snoc (zic.keep _ hks keep) (hc.keep keep)
def zPd (s:ByteArray):Lit:=.string s.data.toList
def MapAt (w:World) (b:Nat) (cs:List Ty):Prop :=
 ∃ (n:Nat) (D:DataW Unit),w.ownsMap Tryd.prog 9 (plainElem Tryd.prog 3) b n D∧n≤cs.length∧IsMap D∧∀ s:ByteArray,Maps.has D (zPd s)=(zDd cs s).isSome∧∀ k,zDd cs s=some k→D.atKey (zPd s) (.lit (.int .i64 0))=.lit (.int .i64 k)
theorem MapAt.kept {w w':World} {b:Nat} {cs:List Ty} {row:Option Nat} (h:MapAt w b cs) (hg:w.grownBy w' row) (hne:some b≠row):MapAt w' b cs:=by
 obtain ⟨n,D,h1,h2,h3,h4⟩:=h
 exact ⟨n,D,h1.kept hg hne,h2,h3,h4⟩
theorem MapAt.lt {w:World} {b:Nat} {cs:List Ty} (h:MapAt w b cs):b<w.heap.size:=by
 obtain ⟨n,D,h1,_⟩:=h
 exact h1.lt
theorem MapAt.below {w w':World} {b:Nat} {cs:List Ty} (h:MapAt w b cs) (hb:Below w.heap.size w w'):MapAt w' b cs :=
 h.kept (row:=none) ⟨hb.os,hb.tape,hb.output,hb.size,fun k hk _=>hb.block k hk⟩ (by simp)
theorem zlg (s u:ByteArray):zPd s=zPd u↔s.toList=u.toList:=by
 unfold zPd
 rw [ByteArray.toList_eq,ByteArray.toList_eq]
 simp
theorem zAi:Keyed Tryd.prog 9:=string_keyed Tryd.underlying9
theorem zpj (w:World):(zeroValue 3).run Tryd.prog w=.ok (.int .i64 0) w:=by kernel_rfl
theorem MapAt.look {w:World} {M:Nat} {cs:List Ty} (h:MapAt w M cs) {s:ByteArray} (hs:s.size≤maxLen) :
  ∃ c:Int,(∀ k,zDd cs s=some k→c=(k:Int))∧∀ W:World,W.heap[M]?=w.heap[M]?→(Instr.lookup 43 (.map (some M)) (.string s) true).run Tryd.prog W=.ok (.tuple #[.int .i64 c,.bool (zDd cs s).isSome]) W:=by
 obtain ⟨n,D,ho,hn,hI,hD⟩:=h
 have hkey:keyOf Tryd.prog 9 (.string s)=some (zPd s):=WideMaps.keyOf_string_mk Tryd.underlying9 hs
 have one:∀ W:World,W.heap[M]?=w.heap[M]?→∃ c:Int,D.atKey (zPd s) (.lit (.int .i64 0))=.lit (.int .i64 c)∧(Instr.lookup 43 (.map (some M)) (.string s) true).run Tryd.prog W=.ok (.tuple #[.int .i64 c,.bool (zDd cs s).isSome]) W:=fun W hW=>by
  have hoW:W.ownsMap Tryd.prog 9 (plainElem Tryd.prog 3) M n D:=by
   obtain ⟨es,clock,hb,hr⟩:=ho
   exact ⟨es,clock,hW.trans hb,hr⟩
  obtain ⟨v,ps,hrun,hv⟩:=hoW.look_ok zAi Tryd.underlying43 (zpj W) (plainElem_int Tryd.underlying3 (by decide)) hkey
  obtain ⟨c,rfl,hc,_⟩:=plainElem_int_inv Tryd.underlying3 hv
  refine ⟨c,congrArg Prod.fst hc,?_⟩
  rw [hrun,(hD s).1]
 obtain ⟨c,hc,_⟩:=one w rfl
 refine ⟨c,fun k hk=>?_,fun W hW=>?_⟩
 ·have h2:=(hD s).2 k hk
  rw [hc] at h2
  simpa using h2
 ·obtain ⟨c',hc',hr⟩:=one W hW
  rw [hc] at hc'
  have e:c'=c:=by simpa using hc'.symm
  rw [← e]
  exact hr
theorem MapAt.same {w w':World} {M:Nat} {cs:List Ty} (h:MapAt w M cs) (e:w'.heap[M]?=w.heap[M]?):MapAt w' M cs:=by
 obtain ⟨n,D,⟨es,clock,hb,hr⟩,h2⟩:=h
 exact ⟨n,D,⟨es,clock,e.trans hb,hr⟩,h2⟩
theorem MapAt.snoc {w1:World} {M n:Nat} {cs:List Ty} {c:Ty} {D:DataW Unit} (hn:n≤cs.length) (hI:IsMap D) (hD:∀ s:ByteArray,Maps.has D (zPd s)=(zDd cs s).isSome∧∀ k,zDd cs s=some k→D.atKey (zPd s) (.lit (.int .i64 0))=.lit (.int .i64 k))
  (ho:w1.ownsMap Tryd.prog 9 (plainElem Tryd.prog 3) M (n+1) (D.put (zPd c.name) (.lit (.int .i64 (cs.length:Nat))))) (hf:zDd cs c.name=none):MapAt w1 M (cs++[c]):=by
 refine ⟨n+1,_,ho,by simp;omega,hI.put _ _,fun s=>?_⟩
 rw [zom]
 by_cases he:c.name.toList=s.toList
 ·have hk:zPd s=zPd c.name:=(zlg s c.name).2 he.symm
  have hs:zDd cs s=none:=by
   have:∀ l:List Ty,zDd l s=zDd l c.name:=by
    intro l
    induction l with
    | nil=>rfl
    | cons a l ih=>show (bif a.name.toList == s.toList then some 0 else (zDd l s).map (·+1))=(bif a.name.toList == c.name.toList then some 0 else (zDd l c.name).map (·+1));rw [ih,he]
   rw [this];exact hf
  have hb:(c.name.toList == s.toList)=true:=by simpa using he
  rw [hs,hk,has_put_same hI (by unfold zPd;trivial)]
  refine ⟨by simp [hb],fun k hk2=>?_⟩
  rw [atKey_put_same hI (by unfold zPd;trivial)]
  simp only [hb,cond_true,Option.some.injEq] at hk2
  rw [← hk2]
 ·have hk:zPd s≠zPd c.name:=fun e=>he ((zlg s c.name).1 e).symm
  have hb:(c.name.toList == s.toList)=false:=by simpa using he
  rw [has_put_other hk,atKey_put_other hk,(hD s).1]
  cases hs:zDd cs s with
  | none=>simp [hb]
  | some k =>
   refine ⟨rfl,fun k' hk'=>?_⟩
   have e:k=k':=Option.some.inj hk'
   rw [← e]
   exact (hD s).2 k hs
end
section
open Go.RowKit
theorem Tryd.zzd:(Tryd.prog.info? 49).map (·.size)=some 5:=by kernel_rfl
theorem Tryd.zxb:(Tryd.prog.info? 99).map (·.size)=some 7:=by kernel_rfl
theorem Tryd.zmo:(Tryd.prog.info? 118).map (·.size)=some 2:=by kernel_rfl
theorem RAt.lit {α:Type} {e:TypeId} {m:Nat} {c:α→List Value} (w:World) (xs:List α) (cs:List Value) (n:Nat) (hn:xs.length=n) (hcs:cs=xs.flatMap c) (hl:cs.length=n * m) (hm:n≤maxLen) (S:Nat→Prop) (hS:S w.heap.size) :
  RAt e m c (w.alloc (.cells cs.toArray e)) xs S (.slice (some ⟨w.heap.size,0,none⟩) n n):=by
 subst hn
 refine ⟨⟨by rw [← hcs,hl],.inr ⟨w.heap.size,xs.length,cs.toArray,rfl,Nat.zero_le _,heap_alloc_new w _,Nat.le_refl _,hm,by simpa using hl,?_⟩⟩,fun g hg=>?_⟩
 ·rw [← hcs,← hl];simp
 ·simp only [Value.ownBlock,Option.some.injEq] at hg;subst hg;exact hS
def zYd (w:World) (l:List Fa) (e:Ending) (w':World):Prop:=∃ v,e=.returned v∧zmi w' l (fun b=>w.heap.size≤b) v∧Below w.heap.size w w'
theorem zem (cmp:ByteArray) (a b k l:Int) (w:World) :
  Calls Tryd.prog 59 #[.string cmp,.int .i64 a,.int .i64 b,.int .i64 k,.int .i64 l] w (zYd w (zod cmp a b k l)):=by
 cases h1:cmp.toList == [60]
 ·cases h2:cmp.toList == [60,61]
  ·cases h3:cmp.toList == [61,61]
   ·have HR:=zh (show zYd w (zod cmp a b k l) (.returned (.slice none 0 0)) w by unfold zod;rw [h1,h2,h3];exact ⟨_,rfl,RAt.nil _ _,Below.refl _ _⟩)
    go_enter Tryd.func59,Tryd.ntmps59
    go_wp2
    go_ret
    exact HR.out
   ·have HR:=zh (show zYd w (zod cmp a b k l) (.returned (.slice (some ⟨w.heap.size,0,none⟩) 2 2)) (w.alloc (.cells #[.int .i64 a,.int .i64 b,.int .i64 (wrap64 (l-k)),.int .i64 b,.int .i64 a,.int .i64 (wrap64 (k-l))] 133)) by
     unfold zod;rw [h1,h2,h3]
     exact ⟨_,rfl,RAt.lit w _ _ 2 rfl rfl rfl (by decide) _ (Nat.le_refl _),(Below.refl _ _).alloc (Nat.le_refl _) _⟩)
    go_enter Tryd.func59,Tryd.ntmps59
    go_wp2
    go_ret
    exact HR.out
  ·have HR:=zh (show zYd w (zod cmp a b k l) (.returned (.slice (some ⟨w.heap.size,0,none⟩) 1 1)) (w.alloc (.cells #[.int .i64 a,.int .i64 b,.int .i64 (wrap64 (l-k))] 133)) by
    unfold zod;rw [h1,h2]
    exact ⟨_,rfl,RAt.lit w _ _ 1 rfl rfl rfl (by decide) _ (Nat.le_refl _),(Below.refl _ _).alloc (Nat.le_refl _) _⟩)
   go_enter Tryd.func59,Tryd.ntmps59
   go_wp2
   go_ret
   exact HR.out
 ·have HR:=zh (show zYd w (zod cmp a b k l) (.returned (.slice (some ⟨w.heap.size,0,none⟩) 1 1)) (w.alloc (.cells #[.int .i64 a,.int .i64 b,.int .i64 (wrap64 (wrap64 (l-k)-1))] 133)) by
   unfold zod;rw [h1]
   exact ⟨_,rfl,RAt.lit w _ _ 1 rfl rfl rfl (by decide) _ (Nat.le_refl _),(Below.refl _ _).alloc (Nat.le_refl _) _⟩)
  go_enter Tryd.func59,Tryd.ntmps59
  go_wp2
  go_ret
  exact HR.out
theorem zXg {a b:Bool} (h:a=b):Ending.returned (.bool a)=.returned (.bool b):=by rw [h]
theorem zmh (s:ByteArray) (w:World) :
  Calls Tryd.prog 35 #[.string s] w fun e w'=>e=.returned (.int .i64 (znb s))∧w'=w:=by
 have HS:=zh (show ∀ z:Int,znb s=z→Ending.returned (.int .i64 z)=.returned (.int .i64 (znb s)) from fun z h=>by rw [h])
 cases h1:s.toList == [99,101,108,108]
 ·cases h2:s.toList == [99,111,117,110,116,101,100]
  ·cases h3:s.toList == [108,111,99,107]
   ·cases h4:s.toList == [103,117,97,114,100]
    all_goals
     go_enter Tryd.func35,Tryd.ntmps35
     go_wp2
     go_ret
     exact ⟨HS.out _ (by unfold znb;rw [h1,h2,h3,h4];rfl),rfl⟩
   ·go_enter Tryd.func35,Tryd.ntmps35
    go_wp2
    go_ret
    exact ⟨HS.out _ (by unfold znb;rw [h1,h2,h3];rfl),rfl⟩
  ·go_enter Tryd.func35,Tryd.ntmps35
   go_wp2
   go_ret
   exact ⟨HS.out _ (by unfold znb;rw [h1,h2];rfl),rfl⟩
 ·go_enter Tryd.func35,Tryd.ntmps35
  go_wp2
  go_ret
  exact ⟨HS.out _ (by unfold znb;rw [h1];rfl),rfl⟩
def sfV (p:Nat) (c:Int):Value:=.iface 60 (.agg #[.int .i64 p,.int .i64 c])
def zmn (w:World) (p:Nat) (c:Int) (e:Ending) (w':World):Prop:=e=.panicked [{ v:=sfV p c,recovered:=false }]∧Below w.heap.size w w'
theorem zyb (t:T) (kv:Value) (c:Int) (w:World) :
  Calls Tryd.prog 33 #[zma t kv,.int .i64 c] w (zmn w t.place c):=by
 unfold zma
 go_enter Tryd.func33,Tryd.ntmps33
 go_wp2
 exact ⟨rfl,rfl,(Below.refl _ _).alloc (Nat.le_refl _) _⟩
theorem zLl {t:T} {i:Nat} (h:i<t.kids.length):zza t i=t.kids[i]:=by unfold zza;simp [h]
theorem zzj {t:T} {i:Nat} (h:t.kids.length≤i):zza t i=zqb:=by unfold zza;simp [h]
def zFh (w:World) (t:T) (S:Nat→Prop) (e:Ending) (w':World):Prop:=∃ u,e=.returned (zma t u)∧KAt 25 w' t.kids S u∧Below w.heap.size w w'
theorem zSa {w:World} {t:T} {S:Nat→Prop} {kv:Value} (hk:KAt 25 w t.kids S kv) (i:Nat) :
  Calls Tryd.prog 56 #[zma t kv,.int .i64 i] w (zFh w (zza t i) S):=by
 rcases Nat.lt_or_ge i t.kids.length with hi|hi
 ·rw [zLl hi]
  rcases hk.form with ⟨rfl,hnil⟩|⟨g,cap,rfl,hg,hcap,hcm,hget⟩
  ·rw [hnil] at hi;simp at hi
  ·obtain ⟨u,hr,hT⟩:=hget i t.kids[i] (List.getElem?_eq_getElem hi)
   generalize t.kids[i]=tk at hr hT ⊢
   generalize t.kids.length=n at *
   unfold zma
   clear hget hk
   have HB:=zh (show Below w.heap.size w ((w.alloc (.cells (zaa t (.slice (some ⟨g,0,none⟩) n cap)).toArray 25)).alloc (.cells zba.toArray 25)) from (((Below.refl _ _).alloc (Nat.le_refl _) _).alloc (by simp) _))
   have HRes:=zh (Blk.zIe w (.cells (zaa t (.slice (some ⟨g,0,none⟩) n cap)).toArray 25) zba 25)
   have HR:=zh (zoa hr (HB.out.mono (Nat.le_refl _)) hg)
   have HT:=zh (hT.below HB.out)
   have HLT:=zh (hT.kat)
   clear hr hT hg
   unfold maxLen at hcm
   go_enter Tryd.func56,Tryd.ntmps56
   go_wp2_with (first
    | ((with_reducible refine zva 25 (.tmp 14) ?_);refine wpList_load_mid rfl 25 (.tmp 14) rfl g (i * 5) rfl (zaa tk u) _ HR.out Tryd.underlying25 rfl Tryd.zca ?_)
    | ((with_reducible refine zra 25 (.tmp 4) ?_);refine zea rfl 25 (.tmp 4) (.tmp 15) rfl (w.heap.size+1) (zaa tk u) rfl rfl HRes.out Tryd.zca rfl (zda _ _ HT.out.kat.one) ?_))
   exact zua (cs:=zaa tk u) Tryd.results56 rfl HRes.out Tryd.underlying25 rfl Tryd.zca rfl ⟨u,rfl,HLT.out.keep fun b hb hl=>⟨hb,(setRow_other _ _ _ _ (by omega)).trans (HB.out.block b hl)⟩,Below.row HB.out (by omega) _⟩
 ·rw [zzj hi]
  obtain ⟨a,c,rfl⟩:=hk.len
  clear hk
  generalize t.kids.length=n at *
  unfold zma
  have HW:=zh (show zFh w zqb S (.returned (.agg zba.toArray)) (((w.alloc (.cells (zaa t (.slice a n c)).toArray 25)).alloc (.cells zba.toArray 25)).setRow (w.heap.size+1) zba.toArray) from
   ⟨.slice none 0 0,rfl,KAt.nil _ _ _,Below.row (((Below.refl _ _).alloc (Nat.le_refl _) _).alloc (by simp) _) (by omega) _⟩)
  have HRes:=zh (Blk.zIe w (.cells (zaa t (.slice a n c)).toArray 25) zba 25)
  have h1:(n:Int)≤i:=by omega
  go_enter Tryd.func56,Tryd.ntmps56
  go_wp2_with (first
   | ((with_reducible refine zra 25 (.tmp 4) ?_);refine zea rfl 25 (.tmp 4) (.tmp 10) rfl (w.heap.size+1) zba rfl rfl HRes.out Tryd.zca rfl (zda zqb _ rfl) ?_))
  exact zua (cs:=zba) Tryd.results56 rfl HRes.out Tryd.underlying25 rfl Tryd.zca rfl HW.out
theorem zDe {α:Type} (l:List α):(!l.isEmpty)=decide ((0:Int)<(l.length:Int)):=by cases l<;>simp<;>omega
theorem zcg {w:World} {t:T} {S:Nat→Prop} {kv:Value} (hk:KAt 25 w t.kids S kv) :
  Calls Tryd.prog 54 #[zma t kv] w fun e w'=>e=.returned (.bool (!t.kids.isEmpty))∧Below w.heap.size w w':=by
 obtain ⟨a,c,rfl⟩:=hk.len
 clear hk
 rw [zDe]
 generalize t.kids.length=n
 unfold zma
 go_enter Tryd.func54,Tryd.ntmps54
 go_wp2
 go_ret
 exact ⟨zXg (by simp),(Below.refl _ _).alloc (Nat.le_refl _) _⟩
theorem zgk (ty:Ty) (p l:Value) (i:Int) (w:World) :
  Calls Tryd.prog 79 #[TyV ty p l,.int .i64 i] w fun e w'=>e=.returned (.bool (zal ty.sort ty.of i))∧Below w.heap.size w w':=by
 obtain ⟨nm,srt,of,fl,fc⟩:=ty
 unfold TyV
 go_enter Tryd.func79,Tryd.ntmps79
 go_wp2
 all_goals go_ret
 all_goals refine ⟨zXg ?_,(Below.refl _ _).alloc (Nat.le_refl _) _⟩
 all_goals (unfold zal;simp_all)
end
end Go.Proofs.YtdhmdfhnkppnmaaDoor
