/- The closure by which show's writer shows a kid, given that show is known for smaller trees. What the text of a tree that was read has not: no question mark, no tab, no two line feeds in a row; and with what it ends. Nothing of the program is walked here. -/
import Derived.Test.YtbfgdpcgdmabpaaGreatDoorZ17
import Derived.Test.YtbfgdpcgdmabpaaGreatDoorZ14
namespace Go.Proofs.YtbfgdpcgdmabpaaGreatDoor
set_option maxRecDepth 100000
set_option maxHeartbeats 2000000
section
open Go.RowKit
def ztb (n:Nat):Prop:=∀ (t:T) (B g:Nat) (l:List UInt8) (d:Nat) (kv:Value) (w:World),t.size≤n→zpc B g l d w→zWd B w→KAt 25 w t.kids (fun b=>b<B) kv→t.whole→t.small→t.size≤5000→l.length+(shw d t).length≤140737488355328 →
 Calls Tryz.prog 22 #[.pointer (some ⟨g,0,none⟩),.agg #[.int .i64 t.kind,.string t.text,.int .i64 t.num,.int .i64 t.place,kv]] w (zja B g (l++shw d t) d w)
theorem zAb {n:Nat} (ih:ztb n) {t:T} (ht:t.size≤n+1) (hz:t.size≤5000) (hw:t.whole) (hs:t.small) (B g c1 c2:Nat) (kv:Value):zfb B g c1 c2 t kv:=by
 intro W l d i u hn hu hl
 have hks:=zFe hu
 have hts:t.size=1+sizes t.kids:=by cases t;rw [size_mk];rfl
 have huw:u.whole:=zOf (zco.1 hw).2 (List.mem_of_getElem? hu)
 have hus:u.small:=by cases t;exact zZf (zEa.1 hs).2 (List.mem_of_getElem? hu)
 have hil:i<t.kids.length:=(List.getElem?_eq_some_iff.1 hu).1
 have hll:=zwa t.kids
 rcases hn.k.form with ⟨_,h0⟩|⟨gk,cap,rfl,hg,hcap,hcm,hget⟩
 ·rw [h0] at hu;simp at hu
 obtain ⟨x,hr,hT⟩:=hget i u hu
 have HN:=zh hn
 have HL:=zh hl
 have hgB:gk<B:=by
  obtain ⟨_,_,hSS,_⟩:=hn.k
  exact hSS gk rfl
 have HR:=zh (show ∀ W',Below B W W'→W'.rangeAt gk (i * 5) (zaa u x) from fun W' hb j v hj=>(hb.cell (p:=⟨gk,i * 5+j,none⟩) hgB).trans (hr j v hj))
 have HT:=zh hT
 have HU:=zh (show u.size≤n∧u.size≤5000∧u.whole∧u.small from ⟨by omega,by omega,huw,hus⟩)
 have HIH:=zh ih
 clear hn hu hl hks hts huw hus hget hr hT ih hs hw
 unfold maxLen at hcm
 go_enter Tryz.func44,Tryz.ntmps44
 go_wp2_with fail
 refine wp_region_held_drew (S:=fun W'=>Blk W' c1 [.pointer (some ⟨g,0,none⟩)] 70∧Blk W' c2 (zaa t (.slice (some ⟨gk,0,none⟩) t.kids.length cap)) 25∧W'.rangeAt gk (i * 5) (zaa u x)) (by kernel_rfl) ⟨HN.out.p.drew,HN.out.n.drew,HR.out _ (Below.refl _ _).drew⟩ (fun hS=>?_)
 refine wpAnyH_take (i:=0) (oi:=⟨some 4,_,_,_,_,_⟩) (v:=.pointer (some ⟨g,0,none⟩)) rfl (by kernel_rfl) (by kernel_rfl) (by kernel_rfl) (fun _ _ _ h=>h) (Or.inl ⟨by rfl,fun W hW=>by have hcx:W.cell? ⟨c1,0,none⟩=some (.pointer (some ⟨g,0,none⟩)):=hW.1.cell 0;go_simp⟩) hS ?_
 try simp only [Act.put,List.setIfInBounds_toArray,List.set_cons_zero,List.set_cons_succ]
 refine wpAnyH_take (i:=1) (oi:=⟨some 5,_,_,_,_,_⟩) (v:=.pointer (some ⟨c2,4,none⟩)) rfl (by kernel_rfl) (by kernel_rfl) (by kernel_rfl) (fun _ _ _ h=>h) (Or.inl ⟨by rfl,fun W _=>by go_simp⟩) hS ?_
 try simp only [Act.put,List.setIfInBounds_toArray,List.set_cons_zero,List.set_cons_succ]
 refine wpAnyH_take (i:=2) (oi:=⟨some 6,_,_,_,_,_⟩) (v:=.slice (some ⟨gk,0,none⟩) t.kids.length cap) rfl (by kernel_rfl) (by kernel_rfl) (by kernel_rfl) (fun _ _ _ h=>h) (Or.inl ⟨by rfl,fun W hW=>by have hcx:W.cell? ⟨c2,4,none⟩=some (.slice (some ⟨gk,0,none⟩) t.kids.length cap):=hW.2.1.cell 4;go_simp⟩) hS ?_
 try simp only [Act.put,List.setIfInBounds_toArray,List.set_cons_zero,List.set_cons_succ]
 refine wpAnyH_take (i:=3) (oi:=⟨some 7,_,_,_,_,_⟩) (v:=.int .i64 i) rfl (by kernel_rfl) (by kernel_rfl) (by kernel_rfl) (fun _ _ _ h=>h) (Or.inl ⟨by rfl,fun W _=>by go_simp⟩) hS ?_
 try simp only [Act.put,List.setIfInBounds_toArray,List.set_cons_zero,List.set_cons_succ]
 refine wpAnyH_take (i:=4) (oi:=⟨some 8,_,_,_,_,_⟩) (v:=.pointer (some ⟨gk,i * 5,none⟩)) rfl (by kernel_rfl) (by kernel_rfl) (by kernel_rfl) (fun _ _ _ h=>h) (Or.inl ⟨by rfl,fun W _=>by go_simp⟩) hS ?_
 try simp only [Act.put,List.setIfInBounds_toArray,List.set_cons_zero,List.set_cons_succ]
 refine wpAnyH_take (i:=5) (oi:=⟨some 9,_,_,_,_,_⟩) (v:=.agg #[.int .i64 u.kind,.string u.text,.int .i64 u.num,.int .i64 u.place,x]) rfl (by kernel_rfl) (by kernel_rfl) (by kernel_rfl) (fun _ _ _ h=>h) (yieldsIf_load_mid (cs:=zaa u x) (by rfl) 25 (.tmp 8) rfl (gk) (i * 5) (by go_simp) _ (fun W hW=>hW.2.2) Tryz.underlying25 rfl Tryz.zda) hS ?_
 try simp only [Act.put,List.setIfInBounds_toArray,List.set_cons_zero,List.set_cons_succ]
 refine AnyH.only (i:=6) (o:=⟨some 10,_,_,_,_,_⟩) (by kernel_rfl) rfl (by rfl) (fun K hK=>?_)
 go_simp
 refine (HIH.out u B g l d x W.drew HU.out.1 (HN.out.st.below (Below.refl _ _).drew) (HN.out.t.step (Below.refl _ _).drew) (HT.out.kat.keep fun b hb _=>⟨hb,rfl⟩) HU.out.2.2.1 HU.out.2.2.2 HU.out.2.1 HL.out).mono ?_
 rintro e w2 ⟨rfl,hs2,hb2,ho2⟩
 have hb3:Below B W w2:=((Below.refl B W).drew).trans hb2
 have ho3:Oth g W w2:=(Oth.refl g W).drew.trans ho2
 have HN2:=zh (HN.out.step hs2 hb3 ho3)
 have HP:=zh (show zja B g (l++shw d u) d W (.returned (.tuple #[])) w2 from ⟨rfl,hs2,hb3,ho3⟩)
 have HR2:=zh (HR.out w2 hb3)
 clear hs2 hb2 ho2 hb3 ho3
 refine hK.out _ _ ⟨HN2.out.p,HN2.out.n,HR2.out⟩ ?_
 clear hK K
 try simp only [Act.put,List.setIfInBounds_toArray,List.set_cons_zero,List.set_cons_succ]
 refine wpAnyH_done (by kernel_rfl) ?_ _
 go_end0
 exact HP.out
end
section
open Go.RowKit
def stp (p:Bool) (c:UInt8):Option Bool:=if c=63∨c=9 then none else if c=10 then (if p then none else some true) else some false
def rn (p:Bool):List UInt8→Option Bool
 | []=>some p
 | c :: l=>(stp p c).bind fun q=>rn q l
theorem zcd (p:Bool):∀ a b:List UInt8,rn p (a++b)=(rn p a).bind fun q=>rn q b
 | [],b=>rfl
 | c :: a,b=>by
  show ((stp p c).bind fun q=>rn q (a++b))=((stp p c).bind fun q=>rn q a).bind fun q=>rn q b
  cases stp p c with
  | none=>rfl
  | some q=>exact zcd q a b
def zFa (l:List UInt8):Prop:=∀ p,rn p l=some false
def zad (l:List UInt8):Prop:=rn false l=some false
theorem zFa.soft {l:List UInt8} (h:zFa l):zad l:=h false
theorem zFa.app {a b:List UInt8} (h:zFa a) (h':zad b):zFa (a++b):=fun p=>by rw [zcd,h p];exact h'
theorem zad.app {a b:List UInt8} (h:zad a) (h':zad b):zad (a++b):=by unfold zad;rw [zcd,h];exact h'
theorem zad.nil:zad []:=rfl
theorem zFa.lit {l:List UInt8} (h:(rn true l == some false && rn false l == some false)=true):zFa l:=fun p=>by
 simp only [Bool.and_eq_true,beq_iff_eq] at h
 cases p
 ·exact h.2
 ·exact h.1
def zZe (c:UInt8):Bool:=!(c == 63 || (c == 9 || c == 10))
theorem zHg:∀ (l:List UInt8) (p:Bool),l.all zZe=true→rn p l=if l=[] then some p else some false
 | [],p,_=>rfl
 | c :: l,p,h=>by
  simp only [List.all_cons,Bool.and_eq_true,zZe,Bool.not_eq_true',Bool.or_eq_false_iff,beq_eq_false_iff_ne] at h
  have h1:stp p c=some false:=by unfold stp;rw [if_neg (by simp [h.1.1,h.1.2.1]),if_neg h.1.2.2]
  show ((stp p c).bind fun q=>rn q l)=_
  rw [h1]
  show rn false l=_
  rw [zHg l false (by simpa [zZe] using h.2)]
  simp
theorem zFa.plain {l:List UInt8} (h:l.all zZe=true) (hn:l≠[]):zFa l:=fun p=>by rw [zHg l p h,if_neg hn]
theorem zad.plain {l:List UInt8} (h:l.all zZe=true):zad l:=by
 unfold zad
 rw [zHg l false h]
 split<;>rfl
theorem zci (p:Int→Bool):∀ l:List UInt8,zAc p l=l.length→∀ c∈l,p (c.toNat:Int)=true
 | [],_,c,hc=>by simp at hc
 | a :: l,h,c,hc=>by
  rw [zAc] at h
  cases hp:p (a.toNat:Int) with
  | false=>rw [hp] at h;simp at h
  | true =>
   rw [hp] at h
   simp only [List.length_cons,if_true] at h
   rcases List.mem_cons.1 hc with rfl|hc
   ·exact hp
   ·exact zci p l (by omega) c hc
theorem zZl {c:UInt8} (h:zLe (c.toNat:Int)=true):zZe c=true:=by
 unfold zLe zRj zXe at h
 unfold zZe
 have h1:c≠63:=by rintro rfl;revert h;decide
 have h2:c≠9:=by rintro rfl;revert h;decide
 have h3:c≠10:=by rintro rfl;revert h;decide
 simp [h1,h2,h3]
theorem zRf {s:ByteArray} (h:zJa s=true):(∀ c∈tb s,zLe (c.toNat:Int)=true)∧tb s≠[]:=by
 unfold zJa at h
 simp only [Bool.and_eq_true,decide_eq_true_eq] at h
 have h2:=h.1.2
 unfold endOf at h2
 rw [List.drop_zero] at h2
 have hz:s.data.toList.length=s.size:=by simp
 refine ⟨zci zLe s.data.toList (by omega),fun e=>?_⟩
 have h3:=h.1.1.1.1
 unfold tb at e
 rw [e] at hz
 simp at hz
 omega
theorem zQa {s:ByteArray} (h:zJa s=true):zFa (tb s) :=
 zFa.plain (List.all_eq_true.2 fun c hc=>zZl ((zRf h).1 c hc)) (zRf h).2
theorem zpf (n:Int):(dec n).all zZe=true∧dec n≠[]:=by
 have hd:∀ u,(Lib.decDigits u).all zZe=true∧Lib.decDigits u≠[]:=fun u=>by
  rw [Lib.decDigits_eq]
  refine ⟨List.all_eq_true.2 fun c hc=>?_,fun e=>?_⟩
  ·obtain ⟨t,_,rfl⟩:=List.mem_map.1 hc
   have h48:∀ d:Fin 10,zZe (UInt8.ofNat (48+d.val))=true:=by decide
   exact h48 ⟨u / 10 ^ (Lib.nDigits u-1-t) % 10,Nat.mod_lt _ (by omega)⟩
  ·have:=congrArg List.length e
   simp at this
   have:=Lib.nDigits_pos u
   omega
 unfold dec Lib.itoa
 split
 ·refine ⟨?_,by simp⟩
  rw [List.all_cons,(hd _).1]
  rfl
 ·exact hd _
theorem zte (n:Int):zFa (dec n):=zFa.plain (zpf n).1 (zpf n).2
theorem zSm (n:Int):zad ((dec n).drop 1):=zad.plain (List.all_eq_true.2 fun c hc=>List.all_eq_true.1 (zpf n).1 c (List.mem_of_mem_drop hc))
theorem zQm {s:ByteArray} (h:zvp s):zFa (tb s):=by rcases h with rfl|rfl|rfl<;>exact zFa.lit (by decide)
def zOg (xs:List (List UInt8)):Prop:=∀ x∈xs,zFa x
theorem zne:∀ xs:List (List UInt8),zOg xs→zad (commas xs)
 | [],_=>rfl
 | a :: r,h=>by
  have hr:∀ r:List (List UInt8),zOg r→zad (r.flatMap fun x=>[44,32]++x):=by
   intro r
   induction r with
   | nil=>intro _;rfl
   | cons b r ih =>
    intro h
    rw [List.flatMap_cons]
    exact (zad.app (zad.app (a:=[44,32]) rfl (h b (by simp)).soft) (ih fun x hx=>h x (by simp [hx])))
  exact (h a (by simp)).soft.app (hr r fun x hx=>h x (by simp [hx]))
theorem zxi (f:List UInt8→List UInt8) (hf:∀ x,zFa x→zFa (f x)):∀ (xs:List (List UInt8)),zOg xs→∀ p,rn p (xs.flatMap fun x=>f x++[10])=if xs=[] then some p else some true
 | [],_,p=>rfl
 | a :: r,h,p=>by
  rw [List.flatMap_cons,zcd,zcd,hf a (h a (by simp)) p]
  show (rn false [10]).bind _=_
  show rn true _=_
  rw [zxi f hf r (fun x hx=>h x (by simp [hx])) true]
  simp
theorem zij (d:Nat):zFa (blanks (d+1)):=zFa.plain (List.all_eq_true.2 fun c hc=>by rw [(List.mem_replicate.1 hc).2];rfl) (fun e=>by have:=congrArg List.length e;unfold blanks at this;rw [List.length_replicate] at this;simp at this)
theorem zNj (d:Nat) {xs:List (List UInt8)} (h:zOg xs):zFa (zXb d xs):=fun p=>by
 unfold zXb
 rw [zcd]
 have h1:rn p [123,10]=some true:=by cases p<;>rfl
 rw [h1]
 show rn true _=_
 rw [show (xs.flatMap fun x=>blanks (d+1)++(x++[10]))=xs.flatMap fun x=>(blanks (d+1)++x)++[10] from by simp only [List.append_assoc],zcd,zxi (fun x=>blanks (d+1)++x) (fun x hx=>(zij d).app hx.soft) xs h true]
 have h2:rn true (blanks d++[125])=some false:=by
  rw [zcd,zHg (blanks d) true (List.all_eq_true.2 fun c hc=>by rw [(List.mem_replicate.1 hc).2];rfl)]
  split<;>rfl
 split<;>exact h2
theorem zAg {l:List UInt8} (h:(rn false l == some false)=true):zad l:=by simpa [zad] using h
theorem NmT.zmb {t:T} (h:NmT t) (d:Nat):zFa (shw d t):=by
 obtain ⟨s,p,rfl,hs⟩:=h
 rw [zva,if_neg (by omega)]
 show zFa (zDb (tb s) 0)
 unfold zDb
 rw [if_neg (zRf hs).2,if_neg (by omega),if_neg (by omega)]
 exact zQa hs
theorem TmT.zmb {t:T} (h:TmT t) (d:Nat):zFa (shw d t):=by
 obtain ⟨s,n,p,rfl,hn,hs⟩:=h
 rw [zva,if_neg (by omega)]
 show zFa (zDb (tb s) n)
 unfold zDb
 split
 ·exact zte n
 ·rename_i hne
  have hs':zJa s=true:=hs.resolve_left fun e=>hne (by rw [e];rfl)
  split
  ·exact (zQa hs').app (zad.app (a:=[32,43,32]) rfl (zte n).soft)
  ·split
   ·exact (zQa hs').app (zad.app (a:=[32,45,32]) rfl (zSm n))
   ·exact zQa hs'
theorem zIc (d:Nat) (a:T):zBa d [a]=[shw d a]:=by rw [zpa,zLa]
theorem zMe (d:Nat) (a b:T):zBa d [a,b]=[shw d a,shw d b]:=by rw [zpa,zIc]
theorem zBj {s:ByteArray} {a b:T} (hc:zvp s) (ha:TmT a) (hb:TmT b) (d:Nat) (r:List (List UInt8)):zFa (zib (tb s) (shw d a :: shw d b :: r)) :=
 (ha.zmb d).app (zad.app (a:=[32]) rfl ((zQm hc).soft.app (zad.app (a:=[32]) rfl (hb.zmb d).soft)))
theorem zGi {G:T→Prop} (d:Nat) (hg:∀ t,G t→zFa (shw d t)) {ts:List T} (h:∀ t∈ts,G t):zOg (zBa d ts):=by
 rw [zWb]
 intro x hx
 obtain ⟨t,ht,rfl⟩:=List.mem_map.1 hx
 exact hg t (h t ht)
theorem zNk {s:ByteArray} (hs:zJa s=true) {xs:List (List UInt8)} (h:zOg xs):zFa (zLb (tb s) xs) :=
 (zQa hs).app (zad.app (a:=[40]) rfl ((zne xs h).app rfl))
theorem zbk.zmb {t:T} (h:zbk t) (d:Nat):zFa (shw d t):=by
 obtain ⟨s,p,a,b,rfl,hc,ha,hb⟩:=h
 rw [zva,if_neg (by omega),zMe]
 exact zBj hc ha hb d []
theorem zMg.zmb {t:T} (h:zMg t) (d:Nat):zFa (shw d t):=by
 rcases h with ⟨s,p,rfl,hs⟩|⟨s,p,a,rfl,hs,ha⟩
 ·rw [zva,if_neg (by omega),zLa]
  exact (zQa hs).app rfl
 ·rw [zva,if_neg (by omega),zIc]
  exact (zQa hs).app (zad.app (a:=[91]) rfl ((ha.zmb d).soft.app rfl))
theorem zZk.zmb {t:T} (h:zZk t) (d:Nat):zFa (shw d t):=by
 rcases h with ⟨s,p,rfl,hs⟩|⟨s,p,a,rfl,hs,ha⟩
 ·rw [zva,if_neg (by omega),zLa]
  rcases hs with rfl|rfl<;>exact zFa.lit (by decide)
 ·rw [zva,if_neg (by omega),zIc]
  have h2:zad ([32]++(shw d a++[])):=zad.app (a:=[32]) rfl ((ha.zmb d).soft.app rfl)
  rcases hs with rfl|rfl|rfl<;>exact zFa.app (zFa.lit (by decide)) h2
theorem zsh.zmb {t:T} (h:zsh t) (d:Nat):zFa (shw d t):=by
 rcases h with ⟨p,rfl⟩|⟨p,a,rfl,ha⟩
 ·rw [zva,if_neg (by omega),zLa]
  exact zFa.lit (by decide)
 ·rw [zva,if_neg (by omega),zIc]
  show zFa (zEb [111,119,110] [shw d a])
  unfold zEb
  rw [if_pos (.inl rfl)]
  exact zFa.app (zFa.lit (by decide)) (zad.app (a:=[32]) rfl ((ha.zmb d).soft.app rfl))
theorem zFl.zmb {t:T} (h:zFl t) (d:Nat):zFa (shw d t):=by
 rcases h with ⟨p,a,rfl,ha⟩|⟨p,a,rfl,ha⟩|h
 ·rw [zva,if_neg (by omega),zIc]
  show zFa (zEb [38] [shw d a])
  unfold zEb
  rw [if_neg (by decide),if_pos rfl]
  exact zFa.app (zFa.lit (by decide)) ((ha.zmb d).soft.app rfl)
 ·rw [zva,if_neg (by omega),zIc]
  show zFa (zEb [38,109,117,116] [shw d a])
  unfold zEb
  rw [if_pos (.inr rfl)]
  exact zFa.app (zFa.lit (by decide)) (zad.app (a:=[32]) rfl ((ha.zmb d).soft.app rfl))
 ·exact h.zmb d
theorem zTg.zmb {t:T} (h:zTg t) (d:Nat):zFa (shw d t):=by
 obtain ⟨s,p,a,rfl,hs,ha⟩:=h
 rw [zva,if_neg (by omega),zIc]
 exact (zQa hs).app (zad.app (a:=[58,32]) rfl (ha.zmb d).soft)
theorem zWj.zmb {t:T} (h:zWj t) (d:Nat):zFa (shw d t):=by
 obtain ⟨s,p,a,ys,zs,rfl,hs,ha,hy,hz⟩:=h
 rw [zva,if_neg (by omega),zpa]
 have hall:zOg (zBa d (ys++zs)):=by
  rw [zWb]
  intro x hx
  obtain ⟨t,ht,rfl⟩:=List.mem_map.1 hx
  rcases List.mem_append.1 ht with ht|ht
  ·exact (hy t ht).zmb d
  ·exact (hz t ht).zmb d
 show zFa (zdf (tb s) (a :: (ys++zs)) (shw d a :: zBa d (ys++zs)))
 unfold zdf
 refine zFa.app (zFa.lit (by decide)) ((zQa hs).soft.app (zad.app (a:=[32]) rfl ((ha.zmb d).soft.app (zad.app ?_ (zad.app ?_ rfl)))))
 ·split
  ·exact zad.app (a:=[32,123,32]) rfl ((zne _ fun x hx=>hall x (List.mem_of_mem_take hx)).app rfl)
  ·rfl
 ·split
  ·exact zad.app (zAg (by decide)) (zne _ fun x hx=>hall x (List.mem_of_mem_drop hx))
  ·rfl
theorem zhk.zmb {t:T} (h:zhk t) (d:Nat):zFa (shw d t):=by
 obtain ⟨s,p,xs,rfl,hs,hx⟩:=h
 rw [zva,if_neg (by omega)]
 exact zNk hs (zGi d (fun t h=>TmT.zmb h d) hx)
theorem zFf.zmb {t:T} (h:zFf t) (d:Nat):zFa (shw d t):=by
 cases h with
 | term h=>exact h.zmb d
 | sum hk ha hb =>
  rcases hk with rfl|rfl
  ·rw [zva,if_neg (by omega),zMe]
   exact (ha.zmb d).app (zad.app (a:=[32,43,32]) rfl (hb.zmb d).soft)
  ·rw [zva,if_neg (by omega),zMe]
   exact (ha.zmb d).app (zad.app (a:=[32,45,32]) rfl (hb.zmb d).soft)
 | new h0 h1 =>
  rw [zva,if_neg (by omega),zLa]
  exact zFa.app (a:=[110,101,119,32]) (zFa.lit (by decide)) (zte _).soft
 | word hk h =>
  rcases hk with rfl|rfl|rfl
  ·rw [zva,if_neg (by omega),zLa]
   exact zFa.app (a:=[97,114,114,97,121,32]) (zFa.lit (by decide)) (zQa h).soft
  ·rw [zva,if_neg (by omega),zLa]
   exact zFa.app (a:=[38]) (zFa.lit (by decide)) (zQa h).soft
  ·rw [zva,if_neg (by omega),zLa]
   exact zFa.app (a:=[38,109,117,116,32]) (zFa.lit (by decide)) (zQa h).soft
 | load h ha =>
  rw [zva,if_neg (by omega),zIc]
  exact (zQa h).app (zad.app (a:=[91]) rfl ((ha.zmb d).soft.app rfl))
 | call h=>exact h.zmb d
theorem zfd.zmb {B:T→Prop} {d:Nat} (hB:∀ t,B t→zFa (shw d t)) {t:T} (h:zfd B t):zFa (shw d t):=by
 cases h with
 | set h hx =>
  rw [zva,if_neg (by omega),zIc]
  exact (zQa h).app (zad.app (a:=[32,61,32]) rfl ((hx.zmb d).soft.app rfl))
 | store h ha hb =>
  rw [zva,if_neg (by omega),zMe]
  exact (zQa h).app (zad.app (a:=[91]) rfl ((ha.zmb d).soft.app (zad.app (a:=[93,32,61,32]) rfl ((hb.zmb d).soft.app rfl))))
 | free h =>
  rw [zva,if_neg (by omega),zLa]
  exact zFa.app (a:=[102,114,101,101,32]) (zFa.lit (by decide)) ((zQa h).soft.app rfl)
 | lock hk h h0 h1 =>
  rcases hk with rfl|rfl
  ·rw [zva,if_neg (by omega),zLa]
   exact zFa.app (a:=[108,111,99,107,32]) (zFa.lit (by decide)) ((zQa h).soft.app (zad.app (a:=[91]) rfl ((zte _).soft.app (zAg (by decide)))))
  ·rw [zva,if_neg (by omega),zLa]
   exact zFa.app (a:=[117,110,108,111,99,107,32]) (zFa.lit (by decide)) ((zQa h).soft.app (zad.app (a:=[91]) rfl ((zte _).soft.app (zAg (by decide)))))
 | @cond s p a b c e hc ha hb hC hD =>
  rw [zva,if_neg (by omega),zpa,zpa,zMe]
  show zFa (zwg (tb s) [a,b,c,e] [shw d a,shw d b,shw d c,shw d e])
  unfold zwg
  refine zFa.app (a:=[105,102,32]) (zFa.lit (by decide)) ((zBj hc ha hb d _).soft.app (zad.app (a:=[32]) rfl ((hB _ hC).soft.app ?_)))
  rcases hD with hD|⟨q,rfl⟩
  ·split
   ·rfl
   ·exact zad.app (a:=[32,101,108,115,101,32]) (zAg (by decide)) (hB _ hD).soft
  ·rfl
 | loop hc ha hb hC =>
  rw [zva,if_neg (by omega),zpa,zMe]
  exact zFa.app (a:=[119,104,105,108,101,32]) (zFa.lit (by decide)) ((zBj hc ha hb d _).soft.app (zad.app (a:=[32]) rfl (hB _ hC).soft))
 | ret0=>rw [zva,if_neg (by omega),zLa];exact zFa.lit (by decide)
 | ret1 ha =>
  rw [zva,if_neg (by omega),zIc]
  exact zFa.app (a:=[114,101,116,117,114,110]) (zFa.lit (by decide)) (zad.app (zad.app (a:=[32]) rfl ((ha.zmb d).soft.app rfl)) rfl)
 | abort=>rw [zva,if_neg (by omega),zLa];exact zFa.lit (by decide)
 | fork h hx =>
  rw [zva,if_neg (by omega)]
  exact zFa.app (a:=[102,111,114,107,32]) (zFa.lit (by decide)) ((zNk h (zGi d (fun t h=>TmT.zmb h d) hx)).soft.app rfl)
 | call h =>
  rw [zva,if_neg (by omega),zIc]
  exact (h.zmb d).app rfl
theorem zAf.zmb:∀ {n:Nat} {t:T},zAf n t→∀ d,zFa (shw d t)
 | n+1,t,h,d=>by
  obtain ⟨p,xs,rfl,hx⟩:=h
  rw [zva,if_pos rfl]
  exact zNj d (zGi (d+1) (fun t h=>zfd.zmb (fun _ h=>zAf.zmb h (d+1)) h) hx)
theorem zWf.zmb {t:T} (h:zWf t) (hn:t.text.size≠0) (d:Nat):zFa (shw d t):=by
 rcases h with h|⟨p,rfl⟩
 ·exact h.zmb d
 ·exact absurd rfl hn
theorem zEp (s:List UInt8) (xs:List T) (r b:T) (ys:List (List UInt8)) (rt bt:List UInt8) (hl:ys.length=xs.length) :
  zri s (xs++[r,b]) (ys++[rt,bt])=[102,110,32]++(s++([40]++(commas ys++([41]++((if r.text.size=0 then [] else [32,45,62,32]++rt)++([32]++bt)))))):=by
 unfold zri
 have h1:(xs++[r,b]).length-2=xs.length:=by simp
 have h2:(xs++[r,b]).length-1=xs.length+1:=by simp
 rw [h1,h2]
 have h3:(ys++[rt,bt]).take xs.length=ys:=by rw [← hl];simp
 have h4:(xs++[r,b]).getD xs.length zRb=r:=by rw [List.getD_eq_getElem?_getD,List.getElem?_append_right (by omega)];simp
 have h5:(ys++[rt,bt]).getD xs.length []=rt:=by rw [List.getD_eq_getElem?_getD,List.getElem?_append_right (by omega),hl];simp
 have h6:(ys++[rt,bt]).getD (xs.length+1) []=bt:=by rw [List.getD_eq_getElem?_getD,List.getElem?_append_right (by omega),hl];simp
 rw [h3,h4,h5,h6]
theorem FnT.zmb {t:T} (h:FnT t) (d:Nat):zFa (shw d t):=by
 obtain ⟨s,p,xs,r,b,rfl,hs,hx,hr,hb⟩:=h
 rw [zva,if_neg (by omega)]
 show zFa (zri (tb s) (xs++[r,b]) (zBa d (xs++[r,b])))
 rw [show zBa d (xs++[r,b])=zBa d xs++[shw d r,shw d b] from by rw [zWb,List.map_append,← zWb];rfl,zEp _ _ _ _ _ _ _ (zNa d xs)]
 refine zFa.app (a:=[102,110,32]) (zFa.lit (by decide)) ((zQa hs).soft.app (zad.app (a:=[40]) rfl ((zne _ (zGi d (fun t h=>zTg.zmb h d) hx)).app (zad.app (a:=[41]) rfl (zad.app ?_ (zad.app (a:=[32]) rfl (hb.zmb d).soft))))))
 split
 ·rfl
 ·rename_i hn
  exact zad.app (a:=[32,45,62,32]) rfl (hr.zmb hn d).soft
theorem zhl.zmb {t:T} (h:zhl t) (d:Nat):zFa (shw d t):=h.elim (fun h=>h.zmb d) (fun h=>h.zmb d)
theorem zCj.text {t:T} (h:zCj t):rn false (shw 0 t)=if t.kids=[] then some false else some true:=by
 obtain ⟨xs,rfl,hx⟩:=h
 rw [zva,if_neg (by omega)]
 show rn false ((zBa 0 xs).flatMap fun x=>x++[10])=_
 rw [zxi (fun x=>x) (fun x hx=>hx) _ (zGi 0 (fun t h=>zhl.zmb h 0) hx) false]
 have h1:(zBa 0 xs=[])↔xs=[]:=by rw [zWb,List.map_eq_nil_iff]
 show (if zBa 0 xs=[] then some false else some true)=if xs=[] then some false else some true
 by_cases h2:xs=[]
 ·rw [if_pos h2,if_pos (h1.2 h2)]
 ·rw [if_neg h2,if_neg fun e=>h2 (h1.1 e)]
end
end Go.Proofs.YtbfgdpcgdmabpaaGreatDoor
