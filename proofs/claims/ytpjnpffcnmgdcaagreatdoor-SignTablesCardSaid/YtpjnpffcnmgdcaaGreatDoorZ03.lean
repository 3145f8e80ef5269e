/- What the parser's memory is while it reads (PSt), what a call of one of its methods comes to (PPost), and the contracts of the methods that look at the next token or take it. Trees in memory: what value stands for a tree (NodeV, TAt), that it stays where no block of it is changed, and how a method of the parser ends that hands back a node. A row of trees in memory, read tree by tree. Nothing of the program is walked here. A region that draws its order, when all but a chain of its operations yield in every world that meets a condition S: they are taken first, then the chain is walked in its one order. S is shown behind each operation of the chain but the last one (which may overwrite what S speaks of). Nothing of the program is walked here. -/
import Derived.Test.YtpjnpffcnmgdcaaGreatDoorZ02
import Derived.Deep.MidRow
import Derived.OrdersHeld
import Derived.Deep.RegionHeld
namespace Go.Proofs.YtpjnpffcnmgdcaaGreatDoor
set_option maxRecDepth 100000
section
open Go.RowKit
structure Env where
 pb:Nat
 tb:Nat
 cap:Nat
 ts:List Tok
structure zbk (t:Tok):Prop where
 num:t.num≤1099511627776
 place:t.place≤16384
 size:t.text.size≤16384
def Ends:List Tok→Prop
 | []=>False
 | t :: l=>(l=[]∧t.kind=0∧t.text=⟨#[]⟩)∨(t.kind≠0∧Ends l)
structure PSt (E:Env) (w:World) (l:List Tok) (d:Nat):Prop where
 le:l.length≤E.ts.length
 suf:l=E.ts.drop (E.ts.length-l.length)
 blk:w.heap[E.pb]?=some (.cells #[.slice (some ⟨E.tb,0,none⟩) E.ts.length E.cap,.int .i64 ((E.ts.length-l.length:Nat):Int),.int .i64 d] 119 (0,0))
 row:zGi w E.tb E.ts
 ne:E.tb≠E.pb
 tlt:E.tb<w.heap.size
 ends:Ends l
 ok:∀ t∈E.ts,zbk t
 len:E.ts.length≤16385
 capb:E.ts.length≤E.cap
 deep:d≤8
theorem PSt.plt {E:Env} {w:World} {l:List Tok} {d:Nat} (h:PSt E w l d):E.pb<w.heap.size:=by
 have:=h.blk
 rcases Nat.lt_or_ge E.pb w.heap.size with hlt|hge
 ·exact hlt
 ·rw [Array.getElem?_eq_none hge] at this;cases this
theorem PSt.cell {E:Env} {w:World} {l:List Tok} {d:Nat} (h:PSt E w l d) :
  w.cell? ⟨E.pb,0,none⟩=some (.slice (some ⟨E.tb,0,none⟩) E.ts.length E.cap)∧w.cell? ⟨E.pb,1,none⟩=some (.int .i64 ((E.ts.length-l.length:Nat):Int))∧w.cell? ⟨E.pb,2,none⟩=some (.int .i64 d) ∧
  (∀ o,w.frozen? ⟨E.pb,o,none⟩=false):=by
 refine ⟨?_,?_,?_,fun o=>?_⟩
 ·rw [cell_of_row _ _ _ _ _ _ h.blk];rfl
 ·rw [cell_of_row _ _ _ _ _ _ h.blk];rfl
 ·rw [cell_of_row _ _ _ _ _ _ h.blk];rfl
 ·simp [World.frozen?,h.blk]
theorem Ends.ne {l:List Tok} (h:Ends l):∃ t r,l=t :: r:=by
 cases l with
 | nil=>exact h.elim
 | cons t r=>exact ⟨t,r,rfl⟩
theorem PSt.head {E:Env} {w:World} {l:List Tok} {d:Nat} (h:PSt E w l d):0<l.length∧E.ts[E.ts.length-l.length]?=some (hdT l):=by
 obtain ⟨t,r,rfl⟩:=h.ends.ne
 refine ⟨by simp,?_⟩
 have h1:(E.ts.drop (E.ts.length-(t :: r).length))[0]?=some t:=by rw [← h.suf];rfl
 rw [List.getElem?_drop] at h1
 exact h1
theorem PSt.tok {E:Env} {w:World} {l:List Tok} {d:Nat} (h:PSt E w l d) :
  w.cell? ⟨E.tb,(E.ts.length-l.length) * 4,none⟩=some (.int .i64 (hdT l).kind)∧w.cell? ⟨E.tb,(E.ts.length-l.length) * 4+1,none⟩=some (.string (hdT l).text) ∧
  w.cell? ⟨E.tb,(E.ts.length-l.length) * 4+2,none⟩=some (.int .i64 (hdT l).num)∧w.cell? ⟨E.tb,(E.ts.length-l.length) * 4+3,none⟩=some (.int .i64 (hdT l).place) :=
 h.row _ _ h.head.2
theorem PSt.zTf {E:Env} {w:World} {l:List Tok} {d:Nat} (h:PSt E w l d):zbk (hdT l):=h.ok _ (List.mem_of_getElem? h.head.2)
theorem zGi.same {w w':World} {g:Nat} {ts:List Tok} (h:zGi w g ts) (hb:w'.heap[g]?=w.heap[g]?):zGi w' g ts:=fun i t ht=>by
 obtain ⟨h0,h1,h2,h3⟩:=h i t ht
 exact ⟨(World.cell?_of_block (a:=⟨g,i * 4,none⟩) hb).trans h0,(World.cell?_of_block (a:=⟨g,i * 4+1,none⟩) hb).trans h1,(World.cell?_of_block (a:=⟨g,i * 4+2,none⟩) hb).trans h2,(World.cell?_of_block (a:=⟨g,i * 4+3,none⟩) hb).trans h3⟩
theorem PSt.same {E:Env} {w w':World} {l:List Tok} {d:Nat} (h:PSt E w l d) (hs:w.heap.size≤w'.heap.size) (hp:w'.heap[E.pb]?=w.heap[E.pb]?) (ht:w'.heap[E.tb]?=w.heap[E.tb]?):PSt E w' l d :=
 ⟨h.le,h.suf,hp.trans h.blk,h.row.same ht,h.ne,Nat.lt_of_lt_of_le h.tlt hs,h.ends,h.ok,h.len,h.capb,h.deep⟩
theorem PSt.below {E:Env} {w w':World} {l:List Tok} {d:Nat} (h:PSt E w l d) (hb:Below w.heap.size w w'):PSt E w' l d :=
 h.same hb.size (hb.block _ h.plt) (hb.block _ h.tlt)
theorem PSt.alloc {E:Env} {w:World} {l:List Tok} {d:Nat} (h:PSt E w l d) (o:Obj):PSt E (w.alloc o) l d :=
 h.below ((Below.refl _ _).alloc (Nat.le_refl _) _)
abbrev Kp (pb:Nat) (w w':World):Prop:=w.grownBy w' (some pb)
theorem Kp.refl (pb:Nat) (w:World):Kp pb w w:=⟨rfl,rfl,rfl,Nat.le_refl _,fun _ _ _=>rfl⟩
theorem Kp.trans {pb:Nat} {a b c:World} (h:Kp pb a b) (k:Kp pb b c):Kp pb a c :=
 ⟨k.os.trans h.os,k.tape.trans h.tape,k.output.trans h.output,Nat.le_trans h.size k.size,fun i hi hn=>(k.block i (Nat.lt_of_lt_of_le hi h.size) hn).trans (h.block i hi hn)⟩
theorem Kp.of_below {pb:Nat} {w w':World} (h:Below w.heap.size w w'):Kp pb w w':=⟨h.os,h.tape,h.output,h.size,fun i hi _=>h.block i hi⟩
theorem Kp.alloc {pb:Nat} {a w:World} (h:Kp pb a w) (o:Obj):Kp pb a (w.alloc o):=h.trans (World.grownBy_alloc w o _)
theorem Kp.zeh {pb:Nat} {a w:World} (h:Kp pb a w) (o:Nat) (v:Value):Kp pb a (w.setCell ⟨pb,o,none⟩ v) :=
 h.trans ⟨rfl,rfl,rfl,by simp [World.setCell],fun k _ hk=>Below.heap_setCell _ _ _ _ (fun e=>hk (by rw [e]))⟩
theorem Kp.zLc {pb:Nat} {a w:World} (h:Kp pb a w) {p:Addr} (hp:a.heap.size≤p.block) (v:Value):Kp pb a (w.setCell p v) :=
 ⟨h.os,h.tape,h.output,by simpa [World.setCell] using h.size,fun k hk hn=>(Below.heap_setCell w p v k (by omega)).trans (h.block k hk hn)⟩
theorem Kp.drew {pb:Nat} {a w:World} (h:Kp pb a w):Kp pb a w.drew:=⟨h.os,h.tape,h.output,h.size,h.block⟩
theorem Kp.below {pb B:Nat} {w w':World} (h:Kp pb w w') (hB:B≤pb) (hp:pb<w.heap.size):Below B w w' :=
 ⟨h.os,h.tape,h.output,h.size,fun k hk=>h.block k (by omega) (by simp;omega)⟩
theorem Kp.cell {pb:Nat} {w w':World} (h:Kp pb w w'):(∀ b o,b≠pb→b<w.heap.size→w'.cell? ⟨b,o,none⟩=w.cell? ⟨b,o,none⟩)∧(∀ b o,b≠pb→b<w.heap.size→w'.frozen? ⟨b,o,none⟩=w.frozen? ⟨b,o,none⟩) :=
 ⟨fun b o hb hs=>World.cell?_of_block (a:=⟨b,o,none⟩) (h.block b hs (by simpa using hb)),fun b o hb hs=>World.frozen?_of_block (a:=⟨b,o,none⟩) (h.block b hs (by simpa using hb))⟩
theorem Ends.tail {l:List Tok} (h:Ends l) (hk:(hdT l).kind≠0):Ends l.tail:=by
 obtain ⟨t,r,rfl⟩:=h.ne
 rcases h with ⟨_,h0,_⟩|⟨_,h1⟩
 ·exact absurd h0 hk
 ·exact h1
theorem Ends.zId {l:List Tok} (h:Ends l) {s:ByteArray} (hi:isT (hdT l) s=true) (hs:0<s.size):Ends l.tail:=by
 refine h.tail fun h0=>?_
 obtain ⟨t,r,rfl⟩:=h.ne
 rcases h with ⟨_,_,h2⟩|⟨h1,_⟩
 ·unfold isT at hi
  have e:(hdT (t :: r)).text=t.text:=rfl
  rw [e,h2] at hi
  have h3:=beq_iff_eq.1 hi
  rw [ByteArray.toList_eq,ByteArray.toList_eq] at h3
  have h4:=congrArg List.length h3
  simp at h4
  have:s.data.size=s.size:=rfl
  omega
 ·exact h1 h0
def Blk (w:World) (g:Nat) (cs:List Value) (t:TypeId):Prop:=w.heap[g]?=some (.cells cs.toArray t (0,0))
theorem Blk.lt {w:World} {g:Nat} {cs:List Value} {t:TypeId} (h:Blk w g cs t):g<w.heap.size:=(Array.getElem?_eq_some_iff.1 h).1
theorem Blk.new (w:World) (cs:List Value) (t:TypeId):Blk (w.alloc (.cells cs.toArray t)) w.heap.size cs t:=heap_alloc_new w _
theorem Blk.zTe (w:World) (o:Obj) (cs:List Value) (t:TypeId):Blk ((w.alloc o).alloc (.cells cs.toArray t)) (w.heap.size+1) cs t:=by
 have h:=Blk.new (w.alloc o) cs t
 rwa [show (w.alloc o).heap.size=w.heap.size+1 by simp] at h
theorem Blk.alloc {w:World} {g:Nat} {cs:List Value} {t:TypeId} (h:Blk w g cs t) (o:Obj):Blk (w.alloc o) g cs t:=(Below.heap_alloc w o g h.lt).trans h
theorem Blk.drew {w:World} {g:Nat} {cs:List Value} {t:TypeId} (h:Blk w g cs t):Blk w.drew g cs t:=h
theorem Blk.setOther {w:World} {g:Nat} {cs:List Value} {t:TypeId} (h:Blk w g cs t) (a:Addr) (v:Value) (hn:g≠a.block):Blk (w.setCell a v) g cs t:=(Below.heap_setCell w a v g hn).trans h
theorem Blk.zNa {w:World} {g:Nat} {cs:List Value} {t:TypeId} (h:Blk w g cs t) (o:Nat) (v:Value):Blk (w.setCell ⟨g,o,none⟩ v) g (cs.set o v) t:=by
 unfold Blk at h ⊢
 simp only [World.setCell,Array.getElem?_modify,if_pos,h,Option.map_some]
 simp
theorem Blk.zta {w:World} {g:Nat} {cs:List Value} {t:TypeId} (h:Blk w g cs t) (g':Nat) (ds:Array Value) (hn:g≠g'):Blk (w.setRow g' ds) g cs t:=(setRow_other w g' g ds hn).trans h
theorem Blk.kp {pb:Nat} {w w':World} {g:Nat} {cs:List Value} {t:TypeId} (h:Blk w g cs t) (hk:Kp pb w w') (hn:g≠pb):Blk w' g cs t:=(hk.block g h.lt (by simpa using hn)).trans h
theorem Blk.cell {w:World} {g:Nat} {cs:List Value} {t:TypeId} (h:Blk w g cs t) (o:Nat):w.cell? ⟨g,o,none⟩=cs[o]?:=by
 rw [cell_of_row _ _ _ _ _ _ h];simp
theorem Blk.frozen {w:World} {g:Nat} {cs:List Value} {t:TypeId} (h:Blk w g cs t) (o:Nat):w.frozen? ⟨g,o,none⟩=false:=by
 unfold Blk at h;simp [World.frozen?,h]
theorem Kp.setRow {pb:Nat} {a w:World} (h:Kp pb a w) {g:Nat} (hg:a.heap.size≤g) (cs:Array Value):Kp pb a (w.setRow g cs) :=
 ⟨h.os,h.tape,h.output,by simpa using h.size,fun k hk hn=>(setRow_other w g k cs (by omega)).trans (h.block k hk hn)⟩
theorem PSt.setRow {E:Env} {w:World} {l:List Tok} {d:Nat} (h:PSt E w l d) {g:Nat} (hp:E.pb≠g) (ht:E.tb≠g) (cs:Array Value):PSt E (w.setRow g cs) l d :=
 h.same (by simp) (setRow_other w g _ cs hp) (setRow_other w g _ cs ht)
theorem zla (ty:TypeId) (x:Operand) {P:Program} {ops:Array Oper} {rest:List Oper} {y:Operand} {tt:TypeId} {ps:String} {af:Array Edge} {a:Act} {w:World} {Q:Exit→Act→World→Prop}
  (h:wpList P ops Q (⟨none,.store ty x y,tt,ps,af,none⟩ :: rest) a w):wpList P ops Q (⟨none,.store ty x y,tt,ps,af,none⟩ :: rest) a w:=h
theorem zda {P:Program} {ops:Array Oper} {rest:List Oper} {o:Oper} {a:Act} {w:World} {Q:Exit→Act→World→Prop} (hgd:o.guard=none) (ty:TypeId) (x y:Operand) (ho:o.op=.store ty x y)
  (g:Nat) (cells:List Value) (hx:a.eval x=.pointer (some ⟨g,0,none⟩)) (hy:a.eval y=.agg cells.toArray)
  {t:TypeId} {old:List Value} (hg:Blk w g old t) (hi:(P.info? ty).map (·.size)=some cells.length)
  (hold:old.length=cells.length) (h1:∀ v∈cells,v.oneCell'=true)
  (h:wpList P ops Q rest (a.put o.dst undef) (w.setRow g cells.toArray)):wpList P ops Q (o :: rest) a w :=
 wpList_store_row hgd ty x y ho g cells.toArray hx hy t old.toArray hg (by simpa using hi) (by simpa using hold) (all_oneCell_toArray h1) h
theorem zmo (w:World) (old cs:Array Value) (t:TypeId):(w.alloc (.cells old t)).setRow w.heap.size cs=w.alloc (.cells cs t):=by
 have h:∀ h1 h2:Array Obj,h1=h2→({ w with heap:=h1 }:World)={ w with heap:=h2 }:=fun _ _ e=>by rw [e]
 refine h _ _ ?_
 show (w.heap.push (.cells old t)).modify _ _=w.heap.push (.cells cs t)
 apply Array.ext
 ·simp
 ·intro i h1 h2
  simp only [Array.getElem_modify]
  split
  ·rename_i hi;subst hi;simp
  ·rename_i hi
   have hlt:i<w.heap.size:=by simp at h2;omega
   rw [Array.getElem_push_lt hlt,Array.getElem_push_lt hlt]
theorem zga {P:Program} {ops:Array Oper} {rest:List Oper} {o:Oper} {a:Act} {w:World} {Q:Exit→Act→World→Prop} (hgd:o.guard=none) (ty:TypeId) (x y:Operand) (ho:o.op=.store ty x y)
  (cells:List Value) {t:TypeId} {old:List Value} (hx:a.eval x=.pointer (some ⟨w.heap.size,0,none⟩)) (hy:a.eval y=.agg cells.toArray) (hi:(P.info? ty).map (·.size)=some cells.length)
  (hold:old.length=cells.length) (h1:∀ v∈cells,v.oneCell'=true)
  (h:wpList P ops Q rest (a.put o.dst undef) (w.alloc (.cells cells.toArray t))):wpList P ops Q (o :: rest) a (w.alloc (.cells old.toArray t)):=by
 refine zda hgd ty x y ho w.heap.size cells hx hy (Blk.new w old t) hi hold h1 ?_
 rw [zmo]
 exact h
theorem Blk.zra {w:World} {g:Nat} {cs:List Value} {t:TypeId} (h:Blk w g cs t) (ds:List Value):Blk (w.setRow g ds.toArray) g ds t:=setRow_heap w g _ _ t (0,0) h
theorem PSt.step {E:Env} {w:World} {l:List Tok} {d:Nat} (h:PSt E w l d) (ht:Ends l.tail):PSt E (w.setCell ⟨E.pb,1,none⟩ (.int .i64 ((E.ts.length-l.length:Nat)+1:Int))) l.tail d:=by
 obtain ⟨t,r,rfl⟩:=h.ends.ne
 have h1:=h.le
 have h2:E.ts.length-r.length=E.ts.length-(t :: r).length+1:=by simp at h1 ⊢;omega
 refine ⟨by simp at h1 ⊢;omega,?_,?_,h.row.same (Below.heap_setCell _ _ _ _ h.ne),h.ne,by simpa [World.setCell] using h.tlt,ht,h.ok,h.len,h.capb,h.deep⟩
 ·show r=E.ts.drop (E.ts.length-r.length)
  rw [h2,← List.tail_drop,← h.suf]
  rfl
 ·show (w.setCell _ _).heap[E.pb]?=_
  simp only [World.setCell,Array.getElem?_modify,if_pos,h.blk,Option.map_some]
  show _=some (Obj.cells #[_,Value.int .i64 ((E.ts.length-r.length:Nat):Int),_] _ _)
  rw [h2]
  simp
theorem PSt.zMh {E:Env} {w:World} {l:List Tok} {d:Nat} (h:PSt E w l d) (d':Nat) (hd:d'≤8):PSt E (w.setCell ⟨E.pb,2,none⟩ (.int .i64 d')) l d':=by
 refine ⟨h.le,h.suf,?_,h.row.same (Below.heap_setCell _ _ _ _ h.ne),h.ne,by simpa [World.setCell] using h.tlt,h.ends,h.ok,h.len,h.capb,hd⟩
 simp only [World.setCell,Array.getElem?_modify,if_pos,h.blk,Option.map_some]
 rfl
def zGg (p:Nat) (c:Int):Value:=.iface 77 (.agg #[.int .i64 p,.int .i64 c])
def zMb {α:Type} (V:World→Nat→α→Value→Prop) (E:Env) (w:World) (l:List Tok) (d:Nat) (r:R α) (e:Ending) (w':World):Prop :=
 match r with
 | .ok (a,l')=>∃ v,e=.returned v∧V w' w.heap.size a v∧PSt E w' l' d∧l'.length<l.length∧Kp E.pb w w'
 | .error (p,c)=>e=.panicked [{ v:=zGg p c,recovered:=false }]∧Kp E.pb w w'∧(c=20∨c=21)
section
variable {α:Type} {V:World→Nat→α→Value→Prop} {E:Env} {w:World} {l:List Tok} {d:Nat} {r:R α} {e:Ending} {w':World}
theorem zMb.ok (h:zMb V E w l d r e w') {a:α} {l':List Tok} (hr:r=.ok (a,l')):∃ v,e=.returned v∧V w' w.heap.size a v∧PSt E w' l' d∧l'.length<l.length∧Kp E.pb w w':=by
 rw [hr] at h;exact h
theorem zMb.err (h:zMb V E w l d r e w') {p:Nat} {c:Int} (hr:r=.error (p,c)):e=.panicked [{ v:=zGg p c,recovered:=false }]∧Kp E.pb w w'∧(c=20∨c=21):=by
 rw [hr] at h;exact h
theorem zMb.zSh {a:α} {l':List Tok} {v:Value} (hr:r=.ok (a,l')) (he:e=.returned v) (hv:V w' w.heap.size a v) (hs:PSt E w' l' d) (hl:l'.length<l.length) (hk:Kp E.pb w w'):zMb V E w l d r e w':=by
 rw [hr];exact ⟨v,he,hv,hs,hl,hk⟩
theorem zMb.zvp {p:Nat} {c:Int} (hr:r=.error (p,c)) (he:e=.panicked [{ v:=zGg p c,recovered:=false }]) (hk:Kp E.pb w w') (hc:c=20∨c=21):zMb V E w l d r e w':=by
 rw [hr];exact ⟨he,hk,hc⟩
end
def VTok (_:World) (_:Nat) (t:Tok) (v:Value):Prop:=v=zmb t∧zbk t
def VStr (_:World) (_:Nat) (s:ByteArray) (v:Value):Prop:=v=.string s
def VNum (_:World) (_:Nat) (n:Int) (v:Value):Prop:=v=.int .i64 n∧0≤n∧n≤1099511627776
theorem zlf {E:Env} {w:World} {l:List Tok} {d:Nat} (h:PSt E w l d):l.tail.length<l.length:=by
 obtain ⟨t,r,rfl⟩:=h.ends.ne
 simp
end
section
open Go.RowKit
def zaa (t:T) (v:Value):List Value:=[.int .i64 t.kind,.string t.text,.int .i64 t.num,.int .i64 t.place,v]
def zna (t:T) (v:Value):Value:=.agg #[.int .i64 t.kind,.string t.text,.int .i64 t.num,.int .i64 t.place,v]
def zKa:List T→List Value→List Value
 | t :: ts,v :: vs=>zaa t v++zKa ts vs
 | _,_=>[]
mutual
def TAt (e:TypeId) (w:World):T→(Nat→Prop)→Value→Prop
 | .mk _ _ _ _ ks,S,v=>∃ vs,w.ownsRow 0 e 5 v ks.length (zKa ks vs)∧(∀ g,v.ownBlock=some g→S g)∧zGb e w ks (fun b=>S b∧v.ownBlock≠some b) vs
def zGb (e:TypeId) (w:World):List T→(Nat→Prop)→List Value→Prop
 | [],_,vs=>vs=[]
 | t :: ts,S,vs=>∃ v vs',vs=v :: vs'∧TAt e w t S v∧zGb e w ts S vs'
end
def KAt (e:TypeId) (w:World) (ks:List T) (S:Nat→Prop) (v:Value):Prop :=
 ∃ vs,w.ownsRow 0 e 5 v ks.length (zKa ks vs)∧(∀ g,v.ownBlock=some g→S g)∧zGb e w ks (fun b=>S b∧v.ownBlock≠some b) vs
theorem TAt.kat {e:TypeId} {w:World} {t:T} {S:Nat→Prop} {v:Value} (h:TAt e w t S v):KAt e w t.kids S v:=by
 cases t with
 | mk k s n p ks=>unfold TAt at h;exact h
theorem KAt.tat {e:TypeId} {w:World} {ks:List T} {S:Nat→Prop} {v:Value} (h:KAt e w ks S v) (k:Int) (s:ByteArray) (n:Int) (p:Nat):TAt e w (.mk k s n p ks) S v:=by
 unfold TAt;exact h
theorem TAt.zHa {e:TypeId} {w:World} {t:T} {S:Nat→Prop} {v:Value} (h:KAt e w t.kids S v):TAt e w t S v:=by
 cases t with
 | mk k s n p ks=>unfold TAt;exact h
theorem KAt.nil (e:TypeId) (w:World) (S:Nat→Prop):KAt e w [] S (.slice none 0 0) :=
 ⟨[],World.ownsRow_nil _ _ _ _,(fun g h=>by simp [Value.ownBlock] at h),by unfold zGb;rfl⟩
mutual
theorem TAt.keep {e:TypeId} {w w':World}:∀ (t:T) {S S':Nat→Prop} {v:Value},TAt e w t S v→(∀ b,S b→b<w.heap.size→S' b∧w'.heap[b]?=w.heap[b]?)→TAt e w' t S' v
 | .mk _ _ _ _ ks,S,S',v,h,hk=>by
  unfold TAt at h ⊢
  obtain ⟨vs,ho,hS,hts⟩:=h
  refine ⟨vs,⟨ho.1,?_⟩,fun g hg=>(hk g (hS g hg) (ho.lt g hg).2).1,zGb.keep ks hts fun b hb hlt=>⟨⟨(hk b hb.1 hlt).1,hb.2⟩,(hk b hb.1 hlt).2⟩⟩
  rcases ho.2 with hn|⟨g,cap,cur,rfl,hb,hg,rest⟩
  ·exact .inl hn
  ·exact .inr ⟨g,cap,cur,rfl,hb,(hk g (hS g rfl) (Array.getElem?_eq_some_iff.1 hg).1).2.trans hg,rest⟩
theorem zGb.keep {e:TypeId} {w w':World}:∀ (ts:List T) {S S':Nat→Prop} {vs:List Value},zGb e w ts S vs→(∀ b,S b→b<w.heap.size→S' b∧w'.heap[b]?=w.heap[b]?)→zGb e w' ts S' vs
 | [],_,_,_,h,_=>by unfold zGb at h ⊢;exact h
 | t :: ts,S,S',vs,h,hk=>by
  unfold zGb at h ⊢
  obtain ⟨v,vs',e,ht,hts⟩:=h
  exact ⟨v,vs',e,TAt.keep t ht hk,zGb.keep ts hts hk⟩
end
section
variable {e:TypeId} {w w':World} {t:T} {ks:List T} {S S':Nat→Prop} {v:Value} {pb:Nat}
theorem TAt.mono (h:TAt e w t S v) (hS:∀ b,S b→b<w.heap.size→S' b):TAt e w t S' v:=TAt.keep t h fun b hb hl=>⟨hS b hb hl,rfl⟩
theorem TAt.kp (h:TAt e w t S v) (hk:Kp pb w w') (hS:∀ b,S b→b≠pb):TAt e w' t S v :=
 TAt.keep t h fun b hb hl=>⟨hb,hk.block b hl (by simpa using hS b hb)⟩
theorem TAt.below (h:TAt e w t S v) (hk:Below w.heap.size w w'):TAt e w' t S v:=TAt.keep t h fun b hb hl=>⟨hb,hk.block b hl⟩
theorem TAt.alloc (h:TAt e w t S v) (o:Obj):TAt e (w.alloc o) t S v:=TAt.keep t h fun b hb hl=>⟨hb,Below.heap_alloc w o b hl⟩
theorem TAt.drew (h:TAt e w t S v):TAt e w.drew t S v:=TAt.keep t h fun _ hb _=>⟨hb,rfl⟩
theorem TAt.setRow (h:TAt e w t S v) (g:Nat) (cs:Array Value) (hS:∀ b,S b→b≠g):TAt e (w.setRow g cs) t S v :=
 TAt.keep t h fun b hb _=>⟨hb,setRow_other w g b cs (hS b hb)⟩
theorem TAt.setCell (h:TAt e w t S v) (a:Addr) (x:Value) (hS:∀ b,S b→b≠a.block):TAt e (w.setCell a x) t S v :=
 TAt.keep t h fun b hb _=>⟨hb,Below.heap_setCell w a x b (hS b hb)⟩
theorem KAt.keep (h:KAt e w ks S v) (hk:∀ b,S b→b<w.heap.size→S' b∧w'.heap[b]?=w.heap[b]?):KAt e w' ks S' v :=
 (TAt.keep _ (h.tat 0 e0 0 0) hk).kat
theorem KAt.kp (h:KAt e w ks S v) (hk:Kp pb w w') (hS:∀ b,S b→b≠pb):KAt e w' ks S v:=h.keep fun b hb hl=>⟨hb,hk.block b hl (by simpa using hS b hb)⟩
theorem KAt.drew (h:KAt e w ks S v):KAt e w.drew ks S v:=h.keep fun _ hb _=>⟨hb,rfl⟩
theorem KAt.below (h:KAt e w ks S v) (hk:Below w.heap.size w w'):KAt e w' ks S v:=h.keep fun b hb hl=>⟨hb,hk.block b hl⟩
theorem KAt.alloc (h:KAt e w ks S v) (o:Obj):KAt e (w.alloc o) ks S v:=h.keep fun b hb hl=>⟨hb,Below.heap_alloc w o b hl⟩
theorem KAt.setCell (h:KAt e w ks S v) (a:Addr) (x:Value) (hS:∀ b,S b→b≠a.block):KAt e (w.setCell a x) ks S v:=h.keep fun b hb _=>⟨hb,Below.heap_setCell w a x b (hS b hb)⟩
theorem KAt.setRow (h:KAt e w ks S v) (g:Nat) (cs:Array Value) (hS:∀ b,S b→b≠g):KAt e (w.setRow g cs) ks S v:=h.keep fun b hb _=>⟨hb,setRow_other w g b cs (hS b hb)⟩
theorem KAt.mono (h:KAt e w ks S v) (hS:∀ b,S b→b<w.heap.size→S' b):KAt e w ks S' v:=h.keep fun b hb hl=>⟨hS b hb hl,rfl⟩
end
theorem zWb (t:T) (v:Value) (n:Int):(zaa t v).set 2 (.int .i64 n)=zaa (t.zkb n) v:=by cases t;rfl
theorem zqa (ty:TypeId) (x:Operand) {P:Program} {ops:Array Oper} {rest:List Oper} {dst:Option Tmp} {tt:TypeId} {ps:String} {af:Array Edge} {a:Act} {w:World} {Q:Exit→Act→World→Prop}
  (h:wpList P ops Q (⟨dst,.load ty x,tt,ps,af,none⟩ :: rest) a w):wpList P ops Q (⟨dst,.load ty x,tt,ps,af,none⟩ :: rest) a w:=h
theorem zia {P:Program} {ops:Array Oper} {rest:List Oper} {o:Oper} {a:Act} {w:World} {Q:Exit→Act→World→Prop} (hgd:o.guard=none) (ty:TypeId) (x:Operand) (ho:o.op=.load ty x)
  (g:Nat) (cells:List Value) (hx:a.eval x=.pointer (some ⟨g,0,none⟩)) {t:TypeId} (hg:Blk w g cells t) {d:TypeDesc} (hu:P.underlying ty=some d) (hd:d.isRow=true) (hi:(P.info? ty).map (·.size)=some cells.length)
  (h:wpList P ops Q rest (a.put o.dst (.agg cells.toArray)) w):wpList P ops Q (o :: rest) a w :=
 wpList_load_mid hgd ty x ho g 0 hx cells d (fun j v hj=>by rw [Nat.zero_add,hg.cell j];exact hj) hu hd hi h
theorem zca (t:T) (v:Value) (hv:v.oneCell'=true):∀ u∈zaa t v,u.oneCell'=true:=by
 intro u hu
 simp only [zaa,List.mem_cons,List.not_mem_nil,or_false] at hu
 rcases hu with rfl|rfl|rfl|rfl|rfl
 ·rfl
 ·rfl
 ·rfl
 ·rfl
 ·exact hv
theorem KAt.one {e:TypeId} {w:World} {ks:List T} {S:Nat→Prop} {v:Value} (h:KAt e w ks S v):v.oneCell'=true:=by
 obtain ⟨_,ho,_⟩:=h
 rcases ho.2 with ⟨rfl,_⟩|⟨_,_,_,rfl,_⟩<;>rfl
theorem KAt.zrk {e:TypeId} {w:World} {t:T} {S:Nat→Prop} {v:Value} (h:TAt e w t S v) (hS:S w.heap.size) :
  KAt e (w.alloc (.cells (zaa t v).toArray e)) [t] S (.slice (some ⟨w.heap.size,0,none⟩) 1 1):=by
 refine ⟨[v],⟨rfl,.inr ⟨w.heap.size,1,_,rfl,Nat.zero_le _,heap_alloc_new w _,Nat.le_refl _,by unfold maxLen;omega,rfl,rfl⟩⟩,fun g hg=>?_,?_⟩
 ·simp only [Value.ownBlock,Option.some.injEq] at hg;subst hg;exact hS
 ·unfold zGb
  refine ⟨v,[],rfl,?_,by unfold zGb;rfl⟩
  refine TAt.keep t h fun b hb hl=>⟨⟨hb,?_⟩,Below.heap_alloc w _ b hl⟩
  simp only [Value.ownBlock,ne_eq,Option.some.injEq]
  omega
theorem KAt.zHs {e:TypeId} {w:World} {t u:T} {S:Nat→Prop} {v x:Value} (h:TAt e w t S v) (h':TAt e w u S x) (hS:S w.heap.size) :
  KAt e (w.alloc (.cells (zaa t v++zaa u x).toArray e)) [t,u] S (.slice (some ⟨w.heap.size,0,none⟩) 2 2):=by
 refine ⟨[v,x],⟨rfl,.inr ⟨w.heap.size,2,_,rfl,Nat.zero_le _,heap_alloc_new w _,Nat.le_refl _,by unfold maxLen;omega,rfl,rfl⟩⟩,fun g hg=>?_,?_⟩
 ·simp only [Value.ownBlock,Option.some.injEq] at hg;subst hg;exact hS
 ·have keep:∀ b,S b→b<w.heap.size→(S b∧(Value.slice (some ⟨w.heap.size,0,none⟩) 2 2).ownBlock≠some b)∧(w.alloc (.cells (zaa t v++zaa u x).toArray e)).heap[b]?=w.heap[b]?:=fun b hb hl=>by
   refine ⟨⟨hb,?_⟩,Below.heap_alloc w _ b hl⟩
   simp only [Value.ownBlock,ne_eq,Option.some.injEq]
   omega
  unfold zGb
  refine ⟨v,[x],rfl,TAt.keep t h keep,?_⟩
  unfold zGb
  exact ⟨x,[],rfl,TAt.keep u h' keep,by unfold zGb;rfl⟩
structure Run (E:Env) (w W:World) (l:List Tok) (d:Nat):Prop where
 kp:Kp E.pb w W
 st:PSt E W l d
 lo:E.pb<w.heap.size
 lt:E.tb<w.heap.size
section
variable {E:Env} {w W W':World} {l l':List Tok} {d d':Nat}
theorem Run.start (h:PSt E w l d):Run E w w l d:=⟨.refl _ _,h,h.plt,h.tlt⟩
theorem Run.alloc (h:Run E w W l d) (o:Obj):Run E w (W.alloc o) l d:=⟨h.kp.alloc o,h.st.alloc o,h.lo,h.lt⟩
theorem Run.below (h:Run E w W l d) (hb:Below W.heap.size W W'):Run E w W' l d:=⟨h.kp.trans (.of_below hb),h.st.below hb,h.lo,h.lt⟩
theorem Run.call (h:Run E w W l d) (hk:Kp E.pb W W') (hs:PSt E W' l' d'):Run E w W' l' d':=⟨h.kp.trans hk,hs,h.lo,h.lt⟩
theorem Run.setRow (h:Run E w W l d) {g:Nat} (hg:w.heap.size≤g) (cs:Array Value):Run E w (W.setRow g cs) l d :=
 ⟨h.kp.setRow hg cs,h.st.setRow (by have:=h.lo;omega) (by have:=h.lt;omega) cs,h.lo,h.lt⟩
theorem Run.setCell (h:Run E w W l d) {a:Addr} (hg:w.heap.size≤a.block) (v:Value):Run E w (W.setCell a v) l d :=
 ⟨h.kp.zLc hg v,h.st.same (by simp [World.setCell]) (Below.heap_setCell _ _ _ _ (by have:=h.lo;omega)) (Below.heap_setCell _ _ _ _ (by have:=h.lt;omega)),h.lo,h.lt⟩
theorem Run.size (h:Run E w W l d):w.heap.size≤W.heap.size:=h.kp.size
end
def zba:List Value:=[.int .i64 0,.string ⟨#[]⟩,.int .i64 0,.int .i64 0,.slice none 0 0]
theorem zFa {α:Type} {b:Bool} (h:b=true) (x y:α):(bif b then x else y)=x:=by rw [h];rfl
theorem zwa {α:Type} {b:Bool} (h:b=false) (x y:α):(bif b then x else y)=y:=by rw [h];rfl
theorem TAt.weak {e:TypeId} {w w':World} {t:T} {v:Value} {x:Nat} (h:TAt e w' t (fun b=>w.heap.size≤b) v) (hx:x<w.heap.size):TAt e w' t (fun b=>x<b∧b<w'.heap.size) v:=h.mono fun b hb hl=>⟨by omega,hl⟩
theorem KAt.weak {e:TypeId} {w w':World} {ks:List T} {v:Value} {x:Nat} (h:KAt e w' ks (fun b=>w.heap.size≤b) v) (hx:x<w.heap.size):KAt e w' ks (fun b=>x<b∧b<w'.heap.size) v:=h.mono fun b hb hl=>⟨by omega,hl⟩
theorem TAt.lo {e:TypeId} {w:World} {t:T} {v:Value} {x y:Nat} (h:TAt e w t (fun b=>x<b∧b<y) v):TAt e w t (fun b=>x<b) v:=h.mono fun _ hb _=>hb.1
theorem KAt.lo {e:TypeId} {w:World} {ks:List T} {v:Value} {x y:Nat} (h:KAt e w ks (fun b=>x<b∧b<y) v):KAt e w ks (fun b=>x<b) v:=h.mono fun _ hb _=>hb.1
def zTc (W:World) (lo:Nat) (t:T) (v:Value):Prop:=∃ kv,v=zna t kv∧TAt 25 W t (fun b=>lo≤b) kv
theorem Run.err {α:Type} {V:World→Nat→α→Value→Prop} {E:Env} {w W:World} {l:List Tok} {d:Nat} {r:R α} {p:Nat} {c:Int} (hk:Kp E.pb w W) (hr:r=.error (p,c)) (hc:c=20∨c=21) :
  zMb V E w l d r (.panicked [{ v:=zGg p c,recovered:=false }]) W:=.zvp hr rfl hk hc
theorem Run.node {E:Env} {w W:World} {l l':List Tok} {d:Nat} {r:R T} {t:T} {v:Value} (h:Run E w W l' d) (ht:TAt 25 W t (fun b=>w.heap.size<b) v) (hr:r=.ok (t,l')) (hl:l'.length<l.length) :
  zMb zTc E w l d r (.returned (zna t v)) (W.setRow w.heap.size (zaa t v).toArray) :=
 .zSh hr rfl ⟨v,rfl,(ht.setRow _ _ (fun b hb=>by omega)).mono (fun b hb _=>by omega)⟩ (h.setRow (Nat.le_refl _) _).st hl (h.setRow (Nat.le_refl _) _).kp
theorem zdg {P:Program} {fn:Func} {s:Tmp} {ty t:TypeId} (h:fn.results=#[.cell s ty]) {tmps:Array Value} {W:World} {g:Nat} {cs:List Value} {d:TypeDesc} (hs:tmps.getD s undef=.pointer (some ⟨g,0,none⟩))
  (hb:Blk W g cs t) (hu:P.underlying ty=some d) (hd:d.isRow=true) (hi:(P.info? ty).map (·.size)=some cs.length):(results fn tmps).run P W=.ok (.agg cs.toArray) W:=by
 have hl:=run_loadVar_mid (P:=P) W g 0 ty cs d (fun j v hj=>by rw [Nat.zero_add,hb.cell j];exact hj) hu hd hi
 have hs':tmps[s]?.getD undef=.pointer (some ⟨g,0,none⟩):=by rw [← hs];simp
 simp [results,h,hs',asAddr,hl]
theorem zma {P:Program} {fn:Func} {s:Tmp} {ty t:TypeId} (h:fn.results=#[.cell s ty]) {a:Act} {W:World} {g:Nat} {old cs:List Value} {d:TypeDesc} {R:Ending→World→Prop} (hs:a.tmps.getD s undef=.pointer (some ⟨g,0,none⟩))
  (hb:Blk W g old t) (hu:P.underlying ty=some d) (hd:d.isRow=true) (hi:(P.info? ty).map (·.size)=some cs.length) (hdf:a.defers=[]) (hR:R (.returned (.agg cs.toArray)) (W.setRow g cs.toArray)) :
  bodyPost P fn R .ret (a.put none undef) (W.setRow g cs.toArray) :=
 bodyPost_ret (zdg h hs (hb.zra cs) hu hd hi) hdf hR
theorem zvd {P:Program} {t:TypeId} {fs:Array Field} {i:Nat} {f:Field} {cs:Array Value} {v:Value} (ht:P.underlying t=some (.struct fs)) (hf:fs[i]?=some f) (he:∀ w,(isAgg f.type).run P w=.ok false w)
  (hv:cs[f.offset]?=some v) (w:World):(Instr.field t (.agg cs) i).run P w=.ok v w:=by
 simp [Instr.field,run_underlying ht,hf,part,he,hv,asAgg]
theorem zul {P:Program} {t:TypeId} {d:TypeDesc} (h:P.underlying t=some d) (hd:d.isRow=false) (w:World):(isAgg t).run P w=.ok false w:=by
 unfold isAgg
 rw [Sem.run_bind,run_underlying h w]
 cases d<;>simp_all
theorem zjc (a b c d:Value) (w:World):(Instr.field 113 (.agg #[a,b,c,d]) 0).run Tryz.prog w=.ok a w:=zvd Tryz.underlying113 rfl (zul Tryz.underlying111 rfl) rfl w
theorem zfc (a b c d:Value) (w:World):(Instr.field 113 (.agg #[a,b,c,d]) 1).run Tryz.prog w=.ok b w:=zvd Tryz.underlying113 rfl (zul Tryz.underlying9 rfl) rfl w
theorem zXg (a b c d:Value) (w:World):(Instr.field 113 (.agg #[a,b,c,d]) 2).run Tryz.prog w=.ok c w:=zvd Tryz.underlying113 rfl (zul Tryz.underlying2 rfl) rfl w
theorem zic (a b c d:Value) (w:World):(Instr.field 113 (.agg #[a,b,c,d]) 3).run Tryz.prog w=.ok d w:=zvd Tryz.underlying113 rfl (zul Tryz.underlying3 rfl) rfl w
theorem Tryz.zea:(Tryz.prog.info? 25).map (·.size)=some 5:=by kernel_rfl
theorem Tryz.zbh:(Tryz.prog.info? 113).map (·.size)=some 4:=by kernel_rfl
end
section
open Go.RowKit
theorem zih:∀ (ks:List T) (vs:List Value) (k:Nat) (t:T) (u:Value) (j:Nat),ks[k]?=some t→vs[k]?=some u→j<5→(zKa ks vs)[k * 5+j]?=(zaa t u)[j]?
 | [],_,k,t,u,j,h,_,_=>by simp at h
 | _ :: _,[],k,t,u,j,_,h,_=>by simp at h
 | a :: ks,b :: vs,0,t,u,j,h,h',hj=>by
  obtain rfl:a=t:=by simpa using h
  obtain rfl:b=u:=by simpa using h'
  rw [zKa,Nat.zero_mul,Nat.zero_add,List.getElem?_append_left (by simpa [zaa] using hj)]
 | a :: ks,b :: vs,k+1,t,u,j,h,h',hj=>by
  rw [zKa,List.getElem?_append_right (by simp [zaa];omega)]
  have e:(k+1) * 5+j-(zaa a b).length=k * 5+j:=by simp [zaa];omega
  rw [e]
  exact zih ks vs k t u j (by simpa using h) (by simpa using h') hj
theorem zGb.get {e:TypeId} {w:World}:∀ {ts:List T} {S:Nat→Prop} {vs:List Value},zGb e w ts S vs→∀ {k:Nat} {t:T},ts[k]?=some t→∃ u,vs[k]?=some u∧TAt e w t S u
 | [],_,_,_,k,t,h=>by simp at h
 | a :: ts,S,vs,h,0,t,hk=>by
  unfold zGb at h
  obtain ⟨v,vs',rfl,ht,_⟩:=h
  obtain rfl:a=t:=by simpa using hk
  exact ⟨v,rfl,ht⟩
 | a :: ts,S,vs,h,k+1,t,hk=>by
  unfold zGb at h
  obtain ⟨v,vs',rfl,_,hts⟩:=h
  obtain ⟨u,hu,ht⟩:=zGb.get hts (k:=k) (t:=t) (by simpa using hk)
  exact ⟨u,by simpa using hu,ht⟩
theorem KAt.form {e:TypeId} {w:World} {ks:List T} {S:Nat→Prop} {v:Value} (h:KAt e w ks S v):(v=.slice none 0 0∧ks=[])∨∃ g cap,v=.slice (some ⟨g,0,none⟩) ks.length cap∧g<w.heap.size∧ks.length≤cap∧cap≤maxLen ∧
  ∀ k t,ks[k]?=some t→∃ u,w.rangeAt g (k * 5) (zaa t u)∧TAt e w t S u:=by
 obtain ⟨vs,ho,hS,hts⟩:=h
 have ho':=ho
 rcases ho.2 with ⟨rfl,h0⟩|⟨g,cap,cur,rfl,hb,hg,hnc,hcm,hcs,htake⟩
 ·exact .inl ⟨rfl,List.eq_nil_of_length_eq_zero h0⟩
 ·refine .inr ⟨g,cap,rfl,(Array.getElem?_eq_some_iff.1 hg).1,hnc,hcm,fun k t hk=>?_⟩
  obtain ⟨u,hu,ht⟩:=zGb.get hts hk
  refine ⟨u,fun j x hj=>?_,ht.mono fun b hb _=>hb.1⟩
  have hj5:j<5:=by have:=(List.getElem?_eq_some_iff.1 hj).1;simpa [zaa] using this
  have hlt:k<ks.length:=(List.getElem?_eq_some_iff.1 hk).1
  rw [ho'.cellAt (k * 5+j) (by omega),zih ks vs k t u j hk hu hj5]
  exact hj
theorem zua {w w':World} {g o:Nat} {cs:List Value} (h:w.rangeAt g o cs) (hb:Below w.heap.size w w') (hg:g<w.heap.size):w'.rangeAt g o cs:=fun j v hj=>(hb.cell (p:=⟨g,o+j,none⟩) hg).trans (h j v hj)
theorem znj (ks:List T) (k:Nat) (t:T) (h:ks[k]?=some t):sizes (ks.take (k+1))=sizes (ks.take k)+t.size:=by
 have hlt:=(List.getElem?_eq_some_iff.1 h).1
 rw [List.take_succ_eq_append_getElem hlt,zZc,zBa,zAa,(List.getElem?_eq_some_iff.1 h).2]
 omega
theorem zAi:∀ {ks:List T} {k:Nat} {t:T},ks[k]?=some t→t.size≤sizes ks
 | [],k,t,h=>by simp at h
 | a :: ks,0,t,h=>by
  obtain rfl:a=t:=by simpa using h
  rw [zBa];omega
 | a :: ks,k+1,t,h=>by rw [zBa];have:=zAi (ks:=ks) (k:=k) (t:=t) (by simpa using h);omega
theorem zxg (ks:List T) (k:Nat):sizes (ks.take k)≤sizes ks:=by
 have h:=zZc (ks.take k) (ks.drop k)
 rw [List.take_append_drop] at h
 omega
theorem zbf:∀ ks:List T,ks.length≤sizes ks
 | []=>by simp
 | a :: ks=>by have:=zbf ks;rw [zBa];cases a;rw [size_mk];simp;omega
theorem zXr (t:T):t.kids.length≤t.size:=by
 cases t with
 | mk k s n p ks=>rw [size_mk];have:=zbf ks;show ks.length≤_;omega
theorem KAt.len {e:TypeId} {w:World} {ks:List T} {S:Nat→Prop} {v:Value} (h:KAt e w ks S v):∃ a c,v=.slice a ks.length c:=by
 rcases h.form with ⟨rfl,rfl⟩|⟨g,cap,rfl,_⟩<;>exact ⟨_,_,rfl⟩
end
section
open Go.RowKit
section
variable {P:Program} {ops:Array Oper} {Q:Exit→Act→World→Prop} {md:Region.Mode} {S:World→Prop}
def AnyE (P:Program) (md:Region.Mode) (ops:Array Oper) (Q:Exit→Act→World→Prop) (S:World→Prop):Nat→Array Bool→Act→World→Prop
 | 0,listed,a,w=>Region.ready md ops listed=[]∧Q .normal a w
 | fuel+1,listed,a,w =>
  (Region.ready md ops listed=[]→Q .normal a w) ∧
  ∀ i∈Region.ready md ops listed,wpOp P ops Q i (fun a' w'=>(i+1≠ops.size→S w')∧AnyE P md ops Q S fuel (listed.setIfInBounds i true) a' w') a w
theorem AnyE.any:∀ (fuel:Nat) (listed:Array Bool) (a:Act) (w:World),AnyE P md ops Q S fuel listed a w→wpAny P md ops Q fuel listed a w
 | 0,_,_,_,h=>h
 | fuel+1,_,_,_,h=>⟨h.1,fun i hi=>wpOp_mono (fun a' w' h'=>AnyE.any fuel _ a' w' h'.2) (h.2 i hi)⟩
def zdi (md:Region.Mode) (ops:Array Oper) (i:Nat):Bool :=
 match ops[ops.size-1]? with
 | some o=>o.after.any fun e=>Region.binds md e && e.on == i
 | none=>false
theorem AnyE.first {i:Nat} {oi:Oper} {v:Value} (hi:ops[i]?=some oi) (hlw:zdi md ops i=true) (hsel:∀ (j:Nat) (o:Oper) cs b,ops[j]?=some o→o.op≠.select cs b)
  (hQ:∀ c a w,Q (.panic c) (a.put oi.dst v) w→Q (.panic c) a w) :
  ∀ (fuel:Nat) (listed:Array Bool) (a:Act) (w:World),
   (∀ j oj,ops[j]?=some oj→j≠i→listed.getD j true=false→(∀ e∈oj.after,Region.binds md e=true→e.on≠i)→oi.apart ops oj=true) →
   i∈Region.ready md ops listed→YieldsIf P ops S oi v a→S w →
   AnyE P md ops Q S fuel (listed.setIfInBounds i true) (a.put oi.dst v) w→AnyE P md ops Q S (fuel+1) listed a w:=by
 intro fuel
 induction fuel with
 | zero =>
  intro listed a w _ hr hy hS H
  refine ⟨fun h=>(by rw [h] at hr;cases hr),fun j hj=>?_⟩
  by_cases hji:j=i
  ·subst hji;exact hy.wpOp hi hS ⟨fun _=>hS,H⟩
  ·have:=ready_mono hj hji
   rw [H.1] at this
   cases this
 | succ fuel ih =>
  intro listed a w hfree hr hy hS H
  refine ⟨fun h=>(by rw [h] at hr;cases hr),fun j hj=>?_⟩
  by_cases hji:j=i
  ·subst hji;exact hy.wpOp hi hS ⟨fun _=>hS,H⟩
  ·have h0:=(mem_ready.1 hr).1
   have hun:(listed.setIfInBounds j true).getD i true=false:=by rw [getD_set_ne true hji];exact h0
   obtain ⟨hjun,oj,hoj,hall⟩:=mem_ready.1 hj
   have hnot:∀ e∈oj.after,Region.binds md e=true→e.on≠i:=fun e he hb heq=>by
    have h1:=hall e he hb
    rw [heq] at h1
    rcases Nat.lt_or_ge i listed.size with h'|h'
    ·simp [h'] at h0 h1;rw [h0] at h1;cases h1
    ·simp [Array.getElem?_eq_none h'] at h1
   have hfree':∀ k ok,ops[k]?=some ok→k≠i→(listed.setIfInBounds j true).getD k true=false →
     (∀ e∈ok.after,Region.binds md e=true→e.on≠i)→oi.apart ops ok=true:=fun k ok hk hki hunk hno=>by
    refine hfree k ok hk hki ?_ hno
    by_cases hjk:j=k
    ·subst hjk;exact hjun
    ·rw [getD_set_ne true hjk] at hunk;exact hunk
   have h1:=H.2 j (ready_mono hj hji)
   have h2:=wpOp_putIf hoj (hfree j oj hoj hji hjun hnot) (fun cs b=>hsel i oi cs b hi) (fun cs b=>hsel j oj cs b hoj) hQ hy h1
   have hlast:j+1≠ops.size:=fun he=>by
    have hj':ops.size-1=j:=by omega
    unfold zdi at hlw
    rw [hj',hoj] at hlw
    obtain ⟨k,hk,hb⟩:=Array.any_eq_true.1 hlw
    simp only [Bool.and_eq_true,beq_iff_eq] at hb
    exact hnot _ (Array.getElem_mem hk) hb.1 hb.2
   refine wpOp_mono (fun a' w' h3=>?_) h2
   have hS':S w':=h3.2.1 hlast
   refine ⟨fun _=>hS',ih (listed.setIfInBounds j true) a' w' hfree' (ready_mono hr (Ne.symm hji)) h3.1 hS' ?_⟩
   rw [Array.setIfInBounds_comm _ _ hji]
   exact h3.2.2
theorem AnyE.take {i:Nat} {oi:Oper} {v:Value} {fuel:Nat} {listed:Array Bool} {a:Act} {w:World} (hi:ops[i]?=some oi) (hlw:zdi md ops i=true)
  (hs:Region.noSelect ops=true) (hf:Region.free md ops listed i=true) (hr:(Region.ready md ops listed).contains i=true)
  (hQ:∀ c a w,Q (.panic c) (a.put oi.dst v) w→Q (.panic c) a w) (hy:YieldsIf P ops S oi v a) (hS:S w)
  (h:AnyE P md ops Q S fuel (listed.setIfInBounds i true) (a.put oi.dst v) w):AnyE P md ops Q S (fuel+1) listed a w :=
 AnyE.first hi hlw (Region.noSelect_spec hs) hQ fuel listed a w (Region.free_spec hi hf) (by simpa using hr) hy hS h
theorem AnyE.one {i:Nat} {o:Oper} {fuel:Nat} {listed:Array Bool} {a:Act} {w:World} (hr:Region.ready md ops listed=[i]) (ho:ops[i]?=some o) (hw:Region.wanted o (yielded ops a.tmps)=true)
  (h:∀ K:Act→World→Prop,Shut (∀ a w,(i+1≠ops.size→S w)→AnyE P md ops Q S fuel (listed.setIfInBounds i true) a w→K a w)→o.wp P a w K Q):AnyE P md ops Q S (fuel+1) listed a w:=by
 refine ⟨(fun h0=>by rw [hr] at h0;cases h0),fun j hj=>?_⟩
 rw [hr] at hj
 obtain rfl:j=i:=by simpa using hj
 refine wpOp_step ho fun K' hK=>?_
 rw [if_pos hw]
 exact h K' fun a w hS hA=>hK a w ⟨hS,hA⟩
theorem AnyE.done {listed:Array Bool} {a:Act} {w:World} (hr:Region.ready md ops listed=[]) (h:Q .normal a w):∀ fuel,AnyE P md ops Q S fuel listed a w
 | 0=>⟨hr,h⟩
 | _+1=>⟨fun _=>h,by rw [hr];simp⟩
theorem AnyE.begin {id:Nat} {a:Act} {w:World} (hm:P.follows .mixedOrders=true) (h:AnyE P .any ops Q S ops.size (Array.replicate ops.size false) a w.drew):(Code.region id ops true).wp P Q a w :=
 wp_region_any hm (AnyE.any _ _ _ _ h)
theorem AnyE.zCc {id:Nat} {a:Act} {w:World} (hm:P.follows .mixedOrders=true) (hS:S w.drew) (h:S w.drew→AnyE P .any ops Q S ops.size (Array.replicate ops.size false) a w.drew):(Code.region id ops true).wp P Q a w :=
 AnyE.begin hm (h hS)
end
end
end Go.Proofs.YtpjnpffcnmgdcaaGreatDoor
