/- The closure by which show's writer shows a kid, given that show is known for smaller trees. What the text of a tree that was read has not: no question mark, no tab, no two line feeds in a row; and with what it ends. Nothing of the program is walked here. -/
import Derived.Test.YtbfgdpcgdmabpaaGreatDoorY17
import Derived.Test.YtbfgdpcgdmabpaaGreatDoorY14
namespace Go.Proofs.YtbfgdpcgdmabpaaGreatDoor
set_option maxRecDepth 100000
set_option maxHeartbeats 2000000
section
open Go.RowKit
def zlc (n:Nat):Prop:=∀ (t:T) (B g:Nat) (l:List UInt8) (d:Nat) (kv:Value) (w:World),t.size≤n→ztd B g l d w→zZe B w→KAt 25 w t.kids (fun b=>b<B) kv→t.whole→t.small→t.size≤5000→l.length+(shw d t).length≤140737488355328 →
 Calls Tryz.prog 22 #[.pointer (some ⟨g,0,none⟩),.agg #[.int .i64 t.kind,.string t.text,.int .i64 t.num,.int .i64 t.place,kv]] w (zMa B g (l++shw d t) d w)
theorem zxc {n:Nat} (ih:zlc n) {t:T} (ht:t.size≤n+1) (hz:t.size≤5000) (hw:t.whole) (hs:t.small) (B g c1 c2:Nat) (kv:Value):zWb B g c1 c2 t kv:=by
 intro W l d i u hn hu hl
 have hks:=zle hu
 have hts:t.size=1+sizes t.kids:=by cases t;rw [size_mk];rfl
 have huw:u.whole:=zDj (zlq.1 hw).2 (List.mem_of_getElem? hu)
 have hus:u.small:=by cases t;exact zHj (zob.1 hs).2 (List.mem_of_getElem? hu)
 have hil:i<t.kids.length:=(List.getElem?_eq_some_iff.1 hu).1
 have hll:=zdb t.kids
 rcases hn.k.form with ⟨_,h0⟩|⟨gk,cap,rfl,hg,hcap,hcm,hget⟩
 ·rw [h0] at hu;simp at hu
 obtain ⟨x,hr,hT⟩:=hget i u hu
 have HN:=zh hn
 have HL:=zh hl
 have hgB:gk<B:=by
  obtain ⟨_,_,hSS,_⟩:=hn.k
  exact hSS gk rfl
 have HR:=zh (show ∀ W',Below B W W'→W'.rangeAt gk (i * 5) (zaa u x) from fun W' hb j v hj=>(hb.cell (p:=⟨gk,i * 5+j,none⟩) hgB).trans (hr j v hj))
 have HT:=zh hT
 have HU:=zh (show u.size≤n∧u.size≤5000∧u.whole∧u.small from ⟨by omega,by omega,huw,hus⟩)
 have HIH:=zh ih
 clear hn hu hl hks hts huw hus hget hr hT ih hs hw
 unfold maxLen at hcm
 go_enter Tryz.func44,Tryz.ntmps44
 go_wp2_with fail
 refine wp_region_held_drew (S:=fun W'=>Blk W' c1 [.pointer (some ⟨g,0,none⟩)] 70∧Blk W' c2 (zaa t (.slice (some ⟨gk,0,none⟩) t.kids.length cap)) 25∧W'.rangeAt gk (i * 5) (zaa u x)) (by kernel_rfl) ⟨HN.out.p.drew,HN.out.n.drew,HR.out _ (Below.refl _ _).drew⟩ (fun hS=>?_)
 refine wpAnyH_take (i:=0) (oi:=⟨some 4,_,_,_,_,_⟩) (v:=.pointer (some ⟨g,0,none⟩)) rfl (by kernel_rfl) (by kernel_rfl) (by kernel_rfl) (fun _ _ _ h=>h) (Or.inl ⟨by rfl,fun W hW=>by have hcx:W.cell? ⟨c1,0,none⟩=some (.pointer (some ⟨g,0,none⟩)):=hW.1.cell 0;go_simp⟩) hS ?_
 try simp only [Act.put,List.setIfInBounds_toArray,List.set_cons_zero,List.set_cons_succ]
 refine wpAnyH_take (i:=1) (oi:=⟨some 5,_,_,_,_,_⟩) (v:=.pointer (some ⟨c2,4,none⟩)) rfl (by kernel_rfl) (by kernel_rfl) (by kernel_rfl) (fun _ _ _ h=>h) (Or.inl ⟨by rfl,fun W _=>by go_simp⟩) hS ?_
 try simp only [Act.put,List.setIfInBounds_toArray,List.set_cons_zero,List.set_cons_succ]
 refine wpAnyH_take (i:=2) (oi:=⟨some 6,_,_,_,_,_⟩) (v:=.slice (some ⟨gk,0,none⟩) t.kids.length cap) rfl (by kernel_rfl) (by kernel_rfl) (by kernel_rfl) (fun _ _ _ h=>h) (Or.inl ⟨by rfl,fun W hW=>by have hcx:W.cell? ⟨c2,4,none⟩=some (.slice (some ⟨gk,0,none⟩) t.kids.length cap):=hW.2.1.cell 4;go_simp⟩) hS ?_
 try simp only [Act.put,List.setIfInBounds_toArray,List.set_cons_zero,List.set_cons_succ]
 refine wpAnyH_take (i:=3) (oi:=⟨some 7,_,_,_,_,_⟩) (v:=.int .i64 i) rfl (by kernel_rfl) (by kernel_rfl) (by kernel_rfl) (fun _ _ _ h=>h) (Or.inl ⟨by rfl,fun W _=>by go_simp⟩) hS ?_
 try simp only [Act.put,List.setIfInBounds_toArray,List.set_cons_zero,List.set_cons_succ]
 refine wpAnyH_take (i:=4) (oi:=⟨some 8,_,_,_,_,_⟩) (v:=.pointer (some ⟨gk,i * 5,none⟩)) rfl (by kernel_rfl) (by kernel_rfl) (by kernel_rfl) (fun _ _ _ h=>h) (Or.inl ⟨by rfl,fun W _=>by go_simp⟩) hS ?_
 try simp only [Act.put,List.setIfInBounds_toArray,List.set_cons_zero,List.set_cons_succ]
 refine wpAnyH_take (i:=5) (oi:=⟨some 9,_,_,_,_,_⟩) (v:=.agg #[.int .i64 u.kind,.string u.text,.int .i64 u.num,.int .i64 u.place,x]) rfl (by kernel_rfl) (by kernel_rfl) (by kernel_rfl) (fun _ _ _ h=>h) (yieldsIf_load_mid (cs:=zaa u x) (by rfl) 25 (.tmp 8) rfl (gk) (i * 5) (by go_simp) _ (fun W hW=>hW.2.2) Tryz.underlying25 rfl Tryz.zla) hS ?_
 try simp only [Act.put,List.setIfInBounds_toArray,List.set_cons_zero,List.set_cons_succ]
 refine AnyH.only (i:=6) (o:=⟨some 10,_,_,_,_,_⟩) (by kernel_rfl) rfl (by rfl) (fun K hK=>?_)
 go_simp
 refine (HIH.out u B g l d x W.drew HU.out.1 (HN.out.st.below (Below.refl _ _).drew) (HN.out.t.step (Below.refl _ _).drew) (HT.out.kat.keep fun b hb _=>⟨hb,rfl⟩) HU.out.2.2.1 HU.out.2.2.2 HU.out.2.1 HL.out).mono ?_
 rintro e w2 ⟨rfl,hs2,hb2,ho2⟩
 have hb3:Below B W w2:=((Below.refl B W).drew).trans hb2
 have ho3:Oth g W w2:=(Oth.refl g W).drew.trans ho2
 have HN2:=zh (HN.out.step hs2 hb3 ho3)
 have HP:=zh (show zMa B g (l++shw d u) d W (.returned (.tuple #[])) w2 from ⟨rfl,hs2,hb3,ho3⟩)
 have HR2:=zh (HR.out w2 hb3)
 clear hs2 hb2 ho2 hb3 ho3
 refine hK.out _ _ ⟨HN2.out.p,HN2.out.n,HR2.out⟩ ?_
 clear hK K
 try simp only [Act.put,List.setIfInBounds_toArray,List.set_cons_zero,List.set_cons_succ]
 refine wpAnyH_done (by kernel_rfl) ?_ _
 go_end0
 exact HP.out
end
section
open Go.RowKit
def stp (p:Bool) (c:UInt8):Option Bool:=if c=63∨c=9 then none else if c=10 then (if p then none else some true) else some false
def rn (p:Bool):List UInt8→Option Bool
 | []=>some p
 | c :: l=>(stp p c).bind fun q=>rn q l
theorem zje (p:Bool):∀ a b:List UInt8,rn p (a++b)=(rn p a).bind fun q=>rn q b
 | [],b=>rfl
 | c :: a,b=>by
  show ((stp p c).bind fun q=>rn q (a++b))=((stp p c).bind fun q=>rn q a).bind fun q=>rn q b
  cases stp p c with
  | none=>rfl
  | some q=>exact zje q a b
def znb (l:List UInt8):Prop:=∀ p,rn p l=some false
def zfe (l:List UInt8):Prop:=rn false l=some false
theorem znb.soft {l:List UInt8} (h:znb l):zfe l:=h false
theorem znb.app {a b:List UInt8} (h:znb a) (h':zfe b):znb (a++b):=fun p=>by rw [zje,h p];exact h'
theorem zfe.app {a b:List UInt8} (h:zfe a) (h':zfe b):zfe (a++b):=by unfold zfe;rw [zje,h];exact h'
theorem zfe.nil:zfe []:=rfl
theorem znb.lit {l:List UInt8} (h:(rn true l == some false && rn false l == some false)=true):znb l:=fun p=>by
 simp only [Bool.and_eq_true,beq_iff_eq] at h
 cases p
 ·exact h.2
 ·exact h.1
def zgg (c:UInt8):Bool:=!(c == 63 || (c == 9 || c == 10))
theorem zgi:∀ (l:List UInt8) (p:Bool),l.all zgg=true→rn p l=if l=[] then some p else some false
 | [],p,_=>rfl
 | c :: l,p,h=>by
  simp only [List.all_cons,Bool.and_eq_true,zgg,Bool.not_eq_true',Bool.or_eq_false_iff,beq_eq_false_iff_ne] at h
  have h1:stp p c=some false:=by unfold stp;rw [if_neg (by simp [h.1.1,h.1.2.1]),if_neg h.1.2.2]
  show ((stp p c).bind fun q=>rn q l)=_
  rw [h1]
  show rn false l=_
  rw [zgi l false (by simpa [zgg] using h.2)]
  simp
theorem znb.plain {l:List UInt8} (h:l.all zgg=true) (hn:l≠[]):znb l:=fun p=>by rw [zgi l p h,if_neg hn]
theorem zfe.plain {l:List UInt8} (h:l.all zgg=true):zfe l:=by
 unfold zfe
 rw [zgi l false h]
 split<;>rfl
theorem zyj (p:Int→Bool):∀ l:List UInt8,zqb p l=l.length→∀ c∈l,p (c.toNat:Int)=true
 | [],_,c,hc=>by simp at hc
 | a :: l,h,c,hc=>by
  rw [zqb] at h
  cases hp:p (a.toNat:Int) with
  | false=>rw [hp] at h;simp at h
  | true =>
   rw [hp] at h
   simp only [List.length_cons,if_true] at h
   rcases List.mem_cons.1 hc with rfl|hc
   ·exact hp
   ·exact zyj p l (by omega) c hc
theorem zio {c:UInt8} (h:zLd (c.toNat:Int)=true):zgg c=true:=by
 unfold zLd zQg zTd at h
 unfold zgg
 have h1:c≠63:=by rintro rfl;revert h;decide
 have h2:c≠9:=by rintro rfl;revert h;decide
 have h3:c≠10:=by rintro rfl;revert h;decide
 simp [h1,h2,h3]
theorem zkh {s:ByteArray} (h:zOa s=true):(∀ c∈tb s,zLd (c.toNat:Int)=true)∧tb s≠[]:=by
 unfold zOa at h
 simp only [Bool.and_eq_true,decide_eq_true_eq] at h
 have h2:=h.1.2
 unfold endOf at h2
 rw [List.drop_zero] at h2
 have hz:s.data.toList.length=s.size:=by simp
 refine ⟨zyj zLd s.data.toList (by omega),fun e=>?_⟩
 have h3:=h.1.1.1.1
 unfold tb at e
 rw [e] at hz
 simp at hz
 omega
theorem zzb {s:ByteArray} (h:zOa s=true):znb (tb s) :=
 znb.plain (List.all_eq_true.2 fun c hc=>zio ((zkh h).1 c hc)) (zkh h).2
theorem zzg (n:Int):(dec n).all zgg=true∧dec n≠[]:=by
 have hd:∀ u,(Lib.decDigits u).all zgg=true∧Lib.decDigits u≠[]:=fun u=>by
  rw [Lib.decDigits_eq]
  refine ⟨List.all_eq_true.2 fun c hc=>?_,fun e=>?_⟩
  ·obtain ⟨t,_,rfl⟩:=List.mem_map.1 hc
   have h48:∀ d:Fin 10,zgg (UInt8.ofNat (48+d.val))=true:=by decide
   exact h48 ⟨u / 10 ^ (Lib.nDigits u-1-t) % 10,Nat.mod_lt _ (by omega)⟩
  ·have:=congrArg List.length e
   simp at this
   have:=Lib.nDigits_pos u
   omega
 unfold dec Lib.itoa
 split
 ·refine ⟨?_,by simp⟩
  rw [List.all_cons,(hd _).1]
  rfl
 ·exact hd _
theorem zHf (n:Int):znb (dec n):=znb.plain (zzg n).1 (zzg n).2
theorem zbq (n:Int):zfe ((dec n).drop 1):=zfe.plain (List.all_eq_true.2 fun c hc=>List.all_eq_true.1 (zzg n).1 c (List.mem_of_mem_drop hc))
theorem zdq {s:ByteArray} (h:zjq s):znb (tb s):=by rcases h with rfl|rfl|rfl<;>exact znb.lit (by decide)
def zzi (xs:List (List UInt8)):Prop:=∀ x∈xs,znb x
theorem zof:∀ xs:List (List UInt8),zzi xs→zfe (commas xs)
 | [],_=>rfl
 | a :: r,h=>by
  have hr:∀ r:List (List UInt8),zzi r→zfe (r.flatMap fun x=>[44,32]++x):=by
   intro r
   induction r with
   | nil=>intro _;rfl
   | cons b r ih =>
    intro h
    rw [List.flatMap_cons]
    exact (zfe.app (zfe.app (a:=[44,32]) rfl (h b (by simp)).soft) (ih fun x hx=>h x (by simp [hx])))
  exact (h a (by simp)).soft.app (hr r fun x hx=>h x (by simp [hx]))
theorem zQj (f:List UInt8→List UInt8) (hf:∀ x,znb x→znb (f x)):∀ (xs:List (List UInt8)),zzi xs→∀ p,rn p (xs.flatMap fun x=>f x++[10])=if xs=[] then some p else some true
 | [],_,p=>rfl
 | a :: r,h,p=>by
  rw [List.flatMap_cons,zje,zje,hf a (h a (by simp)) p]
  show (rn false [10]).bind _=_
  show rn true _=_
  rw [zQj f hf r (fun x hx=>h x (by simp [hx])) true]
  simp
theorem zGk (d:Nat):znb (blanks (d+1)):=znb.plain (List.all_eq_true.2 fun c hc=>by rw [(List.mem_replicate.1 hc).2];rfl) (fun e=>by have:=congrArg List.length e;unfold blanks at this;rw [List.length_replicate] at this;simp at this)
theorem zSl (d:Nat) {xs:List (List UInt8)} (h:zzi xs):znb (zid d xs):=fun p=>by
 unfold zid
 rw [zje]
 have h1:rn p [123,10]=some true:=by cases p<;>rfl
 rw [h1]
 show rn true _=_
 rw [show (xs.flatMap fun x=>blanks (d+1)++(x++[10]))=xs.flatMap fun x=>(blanks (d+1)++x)++[10] from by simp only [List.append_assoc],zje,zQj (fun x=>blanks (d+1)++x) (fun x hx=>(zGk d).app hx.soft) xs h true]
 have h2:rn true (blanks d++[125])=some false:=by
  rw [zje,zgi (blanks d) true (List.all_eq_true.2 fun c hc=>by rw [(List.mem_replicate.1 hc).2];rfl)]
  split<;>rfl
 split<;>exact h2
theorem zdi {l:List UInt8} (h:(rn false l == some false)=true):zfe l:=by simpa [zfe] using h
theorem NmT.zcc {t:T} (h:NmT t) (d:Nat):znb (shw d t):=by
 obtain ⟨s,p,rfl,hs⟩:=h
 rw [zZa,if_neg (by omega)]
 show znb (zTb (tb s) 0)
 unfold zTb
 rw [if_neg (zkh hs).2,if_neg (by omega),if_neg (by omega)]
 exact zzb hs
theorem TmT.zcc {t:T} (h:TmT t) (d:Nat):znb (shw d t):=by
 obtain ⟨s,n,p,rfl,hn,hs⟩:=h
 rw [zZa,if_neg (by omega)]
 show znb (zTb (tb s) n)
 unfold zTb
 split
 ·exact zHf n
 ·rename_i hne
  have hs':zOa s=true:=hs.resolve_left fun e=>hne (by rw [e];rfl)
  split
  ·exact (zzb hs').app (zfe.app (a:=[32,43,32]) rfl (zHf n).soft)
  ·split
   ·exact (zzb hs').app (zfe.app (a:=[32,45,32]) rfl (zbq n))
   ·exact zzb hs'
theorem zJd (d:Nat) (a:T):zpb d [a]=[shw d a]:=by rw [zPa,zib]
theorem zYf (d:Nat) (a b:T):zpb d [a,b]=[shw d a,shw d b]:=by rw [zPa,zJd]
theorem zpm {s:ByteArray} {a b:T} (hc:zjq s) (ha:TmT a) (hb:TmT b) (d:Nat) (r:List (List UInt8)):znb (zOb (tb s) (shw d a :: shw d b :: r)) :=
 (ha.zcc d).app (zfe.app (a:=[32]) rfl ((zdq hc).soft.app (zfe.app (a:=[32]) rfl (hb.zcc d).soft)))
theorem zkl {G:T→Prop} (d:Nat) (hg:∀ t,G t→znb (shw d t)) {ts:List T} (h:∀ t∈ts,G t):zzi (zpb d ts):=by
 rw [zhd]
 intro x hx
 obtain ⟨t,ht,rfl⟩:=List.mem_map.1 hx
 exact hg t (h t ht)
theorem zEm {s:ByteArray} (hs:zOa s=true) {xs:List (List UInt8)} (h:zzi xs):znb (zRc (tb s) xs) :=
 (zzb hs).app (zfe.app (a:=[40]) rfl ((zof xs h).app rfl))
theorem zrk.zcc {t:T} (h:zrk t) (d:Nat):znb (shw d t):=by
 obtain ⟨s,p,a,b,rfl,hc,ha,hb⟩:=h
 rw [zZa,if_neg (by omega),zYf]
 exact zpm hc ha hb d []
theorem zTg.zcc {t:T} (h:zTg t) (d:Nat):znb (shw d t):=by
 rcases h with ⟨s,p,rfl,hs⟩|⟨s,p,a,rfl,hs,ha⟩
 ·rw [zZa,if_neg (by omega),zib]
  exact (zzb hs).app rfl
 ·rw [zZa,if_neg (by omega),zJd]
  exact (zzb hs).app (zfe.app (a:=[91]) rfl ((ha.zcc d).soft.app rfl))
theorem zcm.zcc {t:T} (h:zcm t) (d:Nat):znb (shw d t):=by
 rcases h with ⟨s,p,rfl,hs⟩|⟨s,p,a,rfl,hs,ha⟩
 ·rw [zZa,if_neg (by omega),zib]
  rcases hs with rfl|rfl<;>exact znb.lit (by decide)
 ·rw [zZa,if_neg (by omega),zJd]
  have h2:zfe ([32]++(shw d a++[])):=zfe.app (a:=[32]) rfl ((ha.zcc d).soft.app rfl)
  rcases hs with rfl|rfl|rfl<;>exact znb.app (znb.lit (by decide)) h2
theorem zKh.zcc {t:T} (h:zKh t) (d:Nat):znb (shw d t):=by
 rcases h with ⟨p,rfl⟩|⟨p,a,rfl,ha⟩
 ·rw [zZa,if_neg (by omega),zib]
  exact znb.lit (by decide)
 ·rw [zZa,if_neg (by omega),zJd]
  show znb (zDc [111,119,110] [shw d a])
  unfold zDc
  rw [if_pos (.inl rfl)]
  exact znb.app (znb.lit (by decide)) (zfe.app (a:=[32]) rfl ((ha.zcc d).soft.app rfl))
theorem zjm.zcc {t:T} (h:zjm t) (d:Nat):znb (shw d t):=by
 rcases h with ⟨p,a,rfl,ha⟩|⟨p,a,rfl,ha⟩|h
 ·rw [zZa,if_neg (by omega),zJd]
  show znb (zDc [38] [shw d a])
  unfold zDc
  rw [if_neg (by decide),if_pos rfl]
  exact znb.app (znb.lit (by decide)) ((ha.zcc d).soft.app rfl)
 ·rw [zZa,if_neg (by omega),zJd]
  show znb (zDc [38,109,117,116] [shw d a])
  unfold zDc
  rw [if_pos (.inr rfl)]
  exact znb.app (znb.lit (by decide)) (zfe.app (a:=[32]) rfl ((ha.zcc d).soft.app rfl))
 ·exact h.zcc d
theorem zPh.zcc {t:T} (h:zPh t) (d:Nat):znb (shw d t):=by
 obtain ⟨s,p,a,rfl,hs,ha⟩:=h
 rw [zZa,if_neg (by omega),zJd]
 exact (zzb hs).app (zfe.app (a:=[58,32]) rfl (ha.zcc d).soft)
theorem zZk.zcc {t:T} (h:zZk t) (d:Nat):znb (shw d t):=by
 obtain ⟨s,p,a,ys,zs,rfl,hs,ha,hy,hz⟩:=h
 rw [zZa,if_neg (by omega),zPa]
 have hall:zzi (zpb d (ys++zs)):=by
  rw [zhd]
  intro x hx
  obtain ⟨t,ht,rfl⟩:=List.mem_map.1 hx
  rcases List.mem_append.1 ht with ht|ht
  ·exact (hy t ht).zcc d
  ·exact (hz t ht).zcc d
 show znb (zKf (tb s) (a :: (ys++zs)) (shw d a :: zpb d (ys++zs)))
 unfold zKf
 refine znb.app (znb.lit (by decide)) ((zzb hs).soft.app (zfe.app (a:=[32]) rfl ((ha.zcc d).soft.app (zfe.app ?_ (zfe.app ?_ rfl)))))
 ·split
  ·exact zfe.app (a:=[32,123,32]) rfl ((zof _ fun x hx=>hall x (List.mem_of_mem_take hx)).app rfl)
  ·rfl
 ·split
  ·exact zfe.app (zdi (by decide)) (zof _ fun x hx=>hall x (List.mem_of_mem_drop hx))
  ·rfl
theorem zKk.zcc {t:T} (h:zKk t) (d:Nat):znb (shw d t):=by
 obtain ⟨s,p,xs,rfl,hs,hx⟩:=h
 rw [zZa,if_neg (by omega)]
 exact zEm hs (zkl d (fun t h=>TmT.zcc h d) hx)
theorem zsg.zcc {t:T} (h:zsg t) (d:Nat):znb (shw d t):=by
 cases h with
 | term h=>exact h.zcc d
 | sum hk ha hb =>
  rcases hk with rfl|rfl
  ·rw [zZa,if_neg (by omega),zYf]
   exact (ha.zcc d).app (zfe.app (a:=[32,43,32]) rfl (hb.zcc d).soft)
  ·rw [zZa,if_neg (by omega),zYf]
   exact (ha.zcc d).app (zfe.app (a:=[32,45,32]) rfl (hb.zcc d).soft)
 | new h0 h1 =>
  rw [zZa,if_neg (by omega),zib]
  exact znb.app (a:=[110,101,119,32]) (znb.lit (by decide)) (zHf _).soft
 | word hk h =>
  rcases hk with rfl|rfl|rfl
  ·rw [zZa,if_neg (by omega),zib]
   exact znb.app (a:=[97,114,114,97,121,32]) (znb.lit (by decide)) (zzb h).soft
  ·rw [zZa,if_neg (by omega),zib]
   exact znb.app (a:=[38]) (znb.lit (by decide)) (zzb h).soft
  ·rw [zZa,if_neg (by omega),zib]
   exact znb.app (a:=[38,109,117,116,32]) (znb.lit (by decide)) (zzb h).soft
 | load h ha =>
  rw [zZa,if_neg (by omega),zJd]
  exact (zzb h).app (zfe.app (a:=[91]) rfl ((ha.zcc d).soft.app rfl))
 | call h=>exact h.zcc d
theorem zWd.zcc {B:T→Prop} {d:Nat} (hB:∀ t,B t→znb (shw d t)) {t:T} (h:zWd B t):znb (shw d t):=by
 cases h with
 | set h hx =>
  rw [zZa,if_neg (by omega),zJd]
  exact (zzb h).app (zfe.app (a:=[32,61,32]) rfl ((hx.zcc d).soft.app rfl))
 | store h ha hb =>
  rw [zZa,if_neg (by omega),zYf]
  exact (zzb h).app (zfe.app (a:=[91]) rfl ((ha.zcc d).soft.app (zfe.app (a:=[93,32,61,32]) rfl ((hb.zcc d).soft.app rfl))))
 | free h =>
  rw [zZa,if_neg (by omega),zib]
  exact znb.app (a:=[102,114,101,101,32]) (znb.lit (by decide)) ((zzb h).soft.app rfl)
 | lock hk h h0 h1 =>
  rcases hk with rfl|rfl
  ·rw [zZa,if_neg (by omega),zib]
   exact znb.app (a:=[108,111,99,107,32]) (znb.lit (by decide)) ((zzb h).soft.app (zfe.app (a:=[91]) rfl ((zHf _).soft.app (zdi (by decide)))))
  ·rw [zZa,if_neg (by omega),zib]
   exact znb.app (a:=[117,110,108,111,99,107,32]) (znb.lit (by decide)) ((zzb h).soft.app (zfe.app (a:=[91]) rfl ((zHf _).soft.app (zdi (by decide)))))
 | @cond s p a b c e hc ha hb hC hD =>
  rw [zZa,if_neg (by omega),zPa,zPa,zYf]
  show znb (zUg (tb s) [a,b,c,e] [shw d a,shw d b,shw d c,shw d e])
  unfold zUg
  refine znb.app (a:=[105,102,32]) (znb.lit (by decide)) ((zpm hc ha hb d _).soft.app (zfe.app (a:=[32]) rfl ((hB _ hC).soft.app ?_)))
  rcases hD with hD|⟨q,rfl⟩
  ·split
   ·rfl
   ·exact zfe.app (a:=[32,101,108,115,101,32]) (zdi (by decide)) (hB _ hD).soft
  ·rfl
 | loop hc ha hb hC =>
  rw [zZa,if_neg (by omega),zPa,zYf]
  exact znb.app (a:=[119,104,105,108,101,32]) (znb.lit (by decide)) ((zpm hc ha hb d _).soft.app (zfe.app (a:=[32]) rfl (hB _ hC).soft))
 | ret0=>rw [zZa,if_neg (by omega),zib];exact znb.lit (by decide)
 | ret1 ha =>
  rw [zZa,if_neg (by omega),zJd]
  exact znb.app (a:=[114,101,116,117,114,110]) (znb.lit (by decide)) (zfe.app (zfe.app (a:=[32]) rfl ((ha.zcc d).soft.app rfl)) rfl)
 | abort=>rw [zZa,if_neg (by omega),zib];exact znb.lit (by decide)
 | fork h hx =>
  rw [zZa,if_neg (by omega)]
  exact znb.app (a:=[102,111,114,107,32]) (znb.lit (by decide)) ((zEm h (zkl d (fun t h=>TmT.zcc h d) hx)).soft.app rfl)
 | call h =>
  rw [zZa,if_neg (by omega),zJd]
  exact (h.zcc d).app rfl
theorem zPe.zcc:∀ {n:Nat} {t:T},zPe n t→∀ d,znb (shw d t)
 | n+1,t,h,d=>by
  obtain ⟨p,xs,rfl,hx⟩:=h
  rw [zZa,if_pos rfl]
  exact zSl d (zkl (d+1) (fun t h=>zWd.zcc (fun _ h=>zPe.zcc h (d+1)) h) hx)
theorem zhh.zcc {t:T} (h:zhh t) (hn:t.text.size≠0) (d:Nat):znb (shw d t):=by
 rcases h with h|⟨p,rfl⟩
 ·exact h.zcc d
 ·exact absurd rfl hn
theorem zPr (s:List UInt8) (xs:List T) (r b:T) (ys:List (List UInt8)) (rt bt:List UInt8) (hl:ys.length=xs.length) :
  zVk s (xs++[r,b]) (ys++[rt,bt])=[102,110,32]++(s++([40]++(commas ys++([41]++((if r.text.size=0 then [] else [32,45,62,32]++rt)++([32]++bt)))))):=by
 unfold zVk
 have h1:(xs++[r,b]).length-2=xs.length:=by simp
 have h2:(xs++[r,b]).length-1=xs.length+1:=by simp
 rw [h1,h2]
 have h3:(ys++[rt,bt]).take xs.length=ys:=by rw [← hl];simp
 have h4:(xs++[r,b]).getD xs.length zNc=r:=by rw [List.getD_eq_getElem?_getD,List.getElem?_append_right (by omega)];simp
 have h5:(ys++[rt,bt]).getD xs.length []=rt:=by rw [List.getD_eq_getElem?_getD,List.getElem?_append_right (by omega),hl];simp
 have h6:(ys++[rt,bt]).getD (xs.length+1) []=bt:=by rw [List.getD_eq_getElem?_getD,List.getElem?_append_right (by omega),hl];simp
 rw [h3,h4,h5,h6]
theorem FnT.zcc {t:T} (h:FnT t) (d:Nat):znb (shw d t):=by
 obtain ⟨s,p,xs,r,b,rfl,hs,hx,hr,hb⟩:=h
 rw [zZa,if_neg (by omega)]
 show znb (zVk (tb s) (xs++[r,b]) (zpb d (xs++[r,b])))
 rw [show zpb d (xs++[r,b])=zpb d xs++[shw d r,shw d b] from by rw [zhd,List.map_append,← zhd];rfl,zPr _ _ _ _ _ _ _ (zEc d xs)]
 refine znb.app (a:=[102,110,32]) (znb.lit (by decide)) ((zzb hs).soft.app (zfe.app (a:=[40]) rfl ((zof _ (zkl d (fun t h=>zPh.zcc h d) hx)).app (zfe.app (a:=[41]) rfl (zfe.app ?_ (zfe.app (a:=[32]) rfl (hb.zcc d).soft))))))
 split
 ·rfl
 ·rename_i hn
  exact zfe.app (a:=[32,45,62,32]) rfl (hr.zcc hn d).soft
theorem zbl.zcc {t:T} (h:zbl t) (d:Nat):znb (shw d t):=h.elim (fun h=>h.zcc d) (fun h=>h.zcc d)
theorem zqg.text {t:T} (h:zqg t):rn false (shw 0 t)=if t.kids=[] then some false else some true:=by
 obtain ⟨xs,rfl,hx⟩:=h
 rw [zZa,if_neg (by omega)]
 show rn false ((zpb 0 xs).flatMap fun x=>x++[10])=_
 rw [zQj (fun x=>x) (fun x hx=>hx) _ (zkl 0 (fun t h=>zbl.zcc h 0) hx) false]
 have h1:(zpb 0 xs=[])↔xs=[]:=by rw [zhd,List.map_eq_nil_iff]
 show (if zpb 0 xs=[] then some false else some true)=if xs=[] then some false else some true
 by_cases h2:xs=[]
 ·rw [if_pos h2,if_pos (h1.2 h2)]
 ·rw [if_neg h2,if_neg fun e=>h2 (h1.1 e)]
end
end Go.Proofs.YtbfgdpcgdmabpaaGreatDoor
