/- The texts and numbers of a tree that was read are small, and so is the text of the tree. Nothing of the program is walked here. What a method of show's writer stands on while it writes a node: the writer, the node's box, the closure that shows a kid. The contracts of list, maybeKid, compare and call. A region that draws its order, where two or three operations may come up. Nothing of the program is walked here. A region that draws its order: whichever operation may come up next is walked, all of them out of one premise. Nothing of the program is walked here. -/
import Derived.Test.YtbfgdpcgdmabpaaGreatDoorY15
import Derived.Test.YtbfgdpcgdmabpaaGreatDoorY16
import Derived.Test.YtbfgdpcgdmabpaaGreatDoorY04
import Derived.Lib.LaidTab
import Derived.Test.YtbfgdpcgdmabpaaGreatDoorY14
namespace Go.Proofs.YtbfgdpcgdmabpaaGreatDoor
set_option maxRecDepth 100000
set_option maxHeartbeats 2000000
section
open Go.RowKit
def zwl (s:ByteArray) (n:Int):Prop:=s.size≤16∧-1099511627776≤n∧n≤1099511627776
mutual
def T.small:T→Prop
 | .mk _ s n _ ks=>zwl s n∧smalls ks
def smalls:List T→Prop
 | []=>True
 | t :: ts=>t.small∧smalls ts
end
theorem zob {k:Int} {s:ByteArray} {n:Int} {p:Nat} {ks:List T}:(T.mk k s n p ks).small↔zwl s n∧smalls ks:=by rw [T.small]
theorem zpj:smalls []:=by rw [smalls];trivial
theorem zpg {t:T} {ts:List T}:smalls (t :: ts)↔t.small∧smalls ts:=by rw [smalls]
theorem zCj:∀ {ts:List T},(∀ t∈ts,t.small)→smalls ts
 | [],_=>zpj
 | t :: ts,h=>zpg.2 ⟨h t (by simp),zCj fun u hu=>h u (by simp [hu])⟩
theorem zHj:∀ {ts:List T} {t:T},smalls ts→t∈ts→t.small
 | a :: ts,t,h,hm=>by
  rw [zpg] at h
  rcases List.mem_cons.1 hm with rfl|hm
  ·exact h.1
  ·exact zHj h.2 hm
theorem zxl {s:ByteArray} (h:zOa s=true):s.size≤16:=by
 unfold zOa at h
 simp only [Bool.and_eq_true,decide_eq_true_eq] at h
 exact h.1.1.1.2
theorem zYb {k:Int} {s:ByteArray} {n:Int} {p:Nat} (h:zwl s n):(T.mk k s n p []).small:=zob.2 ⟨h,zpj⟩
theorem zFb {k:Int} {s:ByteArray} {n:Int} {p:Nat} {ks:List T} (h:zwl s n) (hk:∀ t∈ks,t.small):(T.mk k s n p ks).small:=zob.2 ⟨h,zCj hk⟩
theorem zIe {G:T→Prop} {a:T} (h:G a):∀ t∈[a],G t:=zge h zQf
theorem zph {G:T→Prop} {a b:T} (h:G a) (h':G b):∀ t∈[a,b],G t:=zge h (zIe h')
theorem zGe {s:ByteArray} (h:s.size≤16):zwl s 0:=⟨h,by omega,by omega⟩
theorem zXd {s:ByteArray} (h:zOa s=true):zwl s 0:=zGe (zxl h)
theorem zsf:zwl e0 0:=zGe (by decide)
theorem NmT.small {t:T} (h:NmT t):t.small:=by
 obtain ⟨s,p,rfl,hs⟩:=h
 exact zYb (zXd hs)
theorem TmT.small {t:T} (h:TmT t):t.small:=by
 obtain ⟨s,n,p,rfl,hn,rfl|hs⟩:=h
 ·exact zYb ⟨by decide,hn⟩
 ·exact zYb ⟨zxl hs,hn⟩
theorem zjq.le {s:ByteArray} (h:zjq s):s.size≤16:=by rcases h with rfl|rfl|rfl<;>decide
theorem zrk.small {t:T} (h:zrk t):t.small:=by
 obtain ⟨s,p,a,b,rfl,hc,ha,hb⟩:=h
 exact zFb (zGe hc.le) (zph ha.small hb.small)
theorem zTg.small {t:T} (h:zTg t):t.small:=by
 rcases h with ⟨s,p,rfl,hs⟩|⟨s,p,a,rfl,hs,ha⟩
 ·exact zYb (zXd hs)
 ·exact zFb (zXd hs) (zIe ha.small)
theorem zcm.small {t:T} (h:zcm t):t.small:=by
 rcases h with ⟨s,p,rfl,hs⟩|⟨s,p,a,rfl,hs,ha⟩
 ·rcases hs with rfl|rfl<;>exact zYb (zGe (by decide))
 ·rcases hs with rfl|rfl|rfl<;>exact zFb (zGe (by decide)) (zIe ha.small)
theorem zKh.small {t:T} (h:zKh t):t.small:=by
 rcases h with ⟨p,rfl⟩|⟨p,a,rfl,ha⟩
 ·exact zYb (zGe (by decide))
 ·exact zFb (zGe (by decide)) (zIe ha.small)
theorem zjm.small {t:T} (h:zjm t):t.small:=by
 rcases h with ⟨p,a,rfl,ha⟩|⟨p,a,rfl,ha⟩|h
 ·exact zFb (zGe (by decide)) (zIe ha.small)
 ·exact zFb (zGe (by decide)) (zIe ha.small)
 ·exact h.small
theorem zPh.small {t:T} (h:zPh t):t.small:=by
 obtain ⟨s,p,a,rfl,hs,ha⟩:=h
 exact zFb (zXd hs) (zIe ha.small)
theorem zZk.small {t:T} (h:zZk t):t.small:=by
 obtain ⟨s,p,a,ys,zs,rfl,hs,ha,hy,hz⟩:=h
 refine zFb (zXd hs) (zge ha.small fun u hu=>?_)
 rcases List.mem_append.1 hu with hu|hu
 ·exact (hy u hu).small
 ·exact (hz u hu).small
theorem zKk.small {t:T} (h:zKk t):t.small:=by
 obtain ⟨s,p,xs,rfl,hs,hx⟩:=h
 exact zFb (zXd hs) fun u hu=>(hx u hu).small
theorem zsg.small {t:T} (h:zsg t):t.small:=by
 cases h with
 | term h=>exact h.small
 | sum _ ha hb=>exact zFb zsf (zph ha.small hb.small)
 | new h0 h1=>exact zYb ⟨by decide,by omega,h1⟩
 | word _ h=>exact zYb (zXd h)
 | load h ha=>exact zFb (zXd h) (zIe ha.small)
 | call h=>exact h.small
theorem zWd.small {B:T→Prop} (hB:∀ t,B t→t.small) {t:T} (h:zWd B t):t.small:=by
 cases h with
 | set h hx=>exact zFb (zXd h) (zIe hx.small)
 | store h ha hb=>exact zFb (zXd h) (zph ha.small hb.small)
 | free h=>exact zYb (zXd h)
 | lock _ h h0 h1=>exact zYb ⟨zxl h,by omega,h1⟩
 | cond hc ha hb hC hD =>
  refine zFb (zGe hc.le) (zge ha.small (zge hb.small (zph (hB _ hC) ?_)))
  rcases hD with hD|⟨q,rfl⟩
  ·exact hB _ hD
  ·exact zYb zsf
 | loop hc ha hb hC=>exact zFb (zGe hc.le) (zge ha.small (zph hb.small (hB _ hC)))
 | ret0=>exact zYb zsf
 | ret1 ha=>exact zFb zsf (zIe ha.small)
 | abort=>exact zYb zsf
 | fork h hx=>exact zFb (zXd h) fun u hu=>(hx u hu).small
 | call h=>exact zFb zsf (zIe h.small)
theorem zPe.small:∀ {n:Nat} {t:T},zPe n t→t.small
 | n+1,t,h=>by
  obtain ⟨p,xs,rfl,hx⟩:=h
  exact zFb zsf fun u hu=>zWd.small (fun _ h=>zPe.small h) (hx u hu)
theorem zhh.small {t:T} (h:zhh t):t.small:=by
 rcases h with h|⟨p,rfl⟩
 ·exact h.small
 ·exact zYb zsf
theorem FnT.small {t:T} (h:FnT t):t.small:=by
 obtain ⟨s,p,xs,r,b,rfl,hs,hx,hr,hb⟩:=h
 refine zFb (zXd hs) fun u hu=>?_
 rcases List.mem_append.1 hu with hu|hu
 ·exact (hx u hu).small
 ·exact zph hr.small hb.small u hu
theorem zqg.small {t:T} (h:zqg t):t.small:=by
 obtain ⟨xs,rfl,hx⟩:=h
 exact zFb zsf fun u hu=>(hx u hu).elim zZk.small FnT.small
theorem zJe (s:ByteArray):(zvb s).1.small:=(zSf s).small
def zci (xs:List (List UInt8)):Nat:=(xs.map List.length).sum
theorem zZq:zci []=0:=rfl
theorem zdf (x:List UInt8) (xs:List (List UInt8)):zci (x :: xs)=x.length+zci xs:=by unfold zci;simp
theorem zXf:∀ xs:List (List UInt8),(commas xs).length≤zci xs+2 * xs.length
 | []=>by simp [commas]
 | a :: r=>by
  have h:∀ r:List (List UInt8),(r.flatMap fun x=>[44,32]++x).length=zci r+2 * r.length:=by
   intro r
   induction r with
   | nil=>rfl
   | cons b r ih=>rw [List.flatMap_cons,List.length_append,ih,zdf];simp;omega
  simp only [commas,List.length_append,h,zdf,List.length_cons]
  omega
theorem zgn:∀ xs:List (List UInt8),(xs.getD 0 []).length+(xs.getD 1 []).length+(xs.getD 2 []).length+(xs.getD 3 []).length≤zci xs
 | []=>by simp
 | [a]=>by simp [zci]
 | [a,b]=>by simp [zci]
 | [a,b,c]=>by simp [zci];omega
 | a :: b :: c :: d :: r=>by simp [zdf];omega
theorem take_len (xs:List (List UInt8)) (k:Nat):zci (xs.take k)+zci (xs.drop k)=zci xs:=by
 unfold zci
 rw [← List.sum_append,← List.map_append,List.take_append_drop]
theorem zno (a b:List UInt8) (xs:List (List UInt8)):(maybe a b xs).length≤a.length+b.length+zci xs:=by
 cases xs with
 | nil=>simp [maybe]
 | cons x r=>simp [maybe,zdf];omega
theorem zXj (f:List UInt8→List UInt8) (c:Nat) (hf:∀ x,(f x).length≤x.length+c):∀ xs:List (List UInt8),(xs.flatMap f).length≤zci xs+c * xs.length
 | []=>by simp
 | a :: r=>by
  have h1:=zXj f c hf r
  have h2:=hf a
  rw [List.flatMap_cons,List.length_append,zdf,List.length_cons,Nat.mul_succ]
  omega
theorem zto {n:Int} (h:-1099511627776≤n∧n≤1099511627776):(dec n).length≤21:=Lib.itoa_length_le n (by omega) (by omega)
theorem getD_drop (xs:List (List UInt8)) (k:Nat):(xs.getD k []).length+(xs.getD (k+1) []).length≤zci (xs.drop k):=by
 have h:=zgn (xs.drop k)
 simp only [List.getD_eq_getElem?_getD,List.getElem?_drop,Nat.add_zero] at h ⊢
 omega
theorem len_ite {c:Prop} [Decidable c] {a b:List UInt8} {n:Nat} (ha:c→a.length≤n) (hb:¬ c→b.length≤n):(if c then a else b).length≤n:=by
 by_cases h:c
 ·rw [if_pos h];exact ha h
 ·rw [if_neg h];exact hb h
theorem zur {k:Int} {s:List UInt8} {n:Int} {ks:List T} {xs:List (List UInt8)} (hs:s.length≤16) (hn:-1099511627776≤n∧n≤1099511627776) (h6:k=6→2≤ks.length):(zXa k s n ks xs).length≤100+zci xs+2 * xs.length:=by
 have h4:=zgn xs
 have hd:=zto hn
 have hc:=zXf xs
 have hm:=fun a b=>zno a b xs
 have hcmp:(zOb s xs).length≤18+(xs.getD 0 []).length+(xs.getD 1 []).length:=by unfold zOb;simp only [List.length_append,List.length_cons,List.length_nil];omega
 have hcall:(zRc s xs).length≤18+zci xs+2 * xs.length:=by unfold zRc;simp only [List.length_append,List.length_cons,List.length_nil];omega
 unfold zXa
 refine len_ite (fun hk=>?_) (fun _=>?_)
 ·have:=zXj (fun x=>x++[10]) 1 (fun x=>by simp) xs;omega
 refine len_ite (fun hk=>?_) (fun _=>?_)
 ·unfold zKf
  have h1:zci xs=(xs.getD 0 []).length+zci xs.tail:=by cases xs<;>simp [zci]
  have h2:=take_len xs.tail (zEa ks.tail)
  have h3:=zXf (xs.tail.take (zEa ks.tail))
  have h5:=zXf (xs.tail.drop (zEa ks.tail))
  have h6:(xs.tail.take (zEa ks.tail)).length+(xs.tail.drop (zEa ks.tail)).length≤xs.length:=by simp only [List.length_take,List.length_drop,List.length_tail];omega
  split<;>split<;>simp only [List.length_append,List.length_cons,List.length_nil]<;>omega
 refine len_ite (fun hk=>?_) (fun _=>?_)
 ·have:=hm [32] [];simp only [List.length_append,List.length_cons,List.length_nil] at *;omega
 refine len_ite (fun hk=>?_) (fun _=>?_)
 ·have:=hm [91] [93];simp only [List.length_append,List.length_cons,List.length_nil] at *;omega
 refine len_ite (fun hk=>?_) (fun _=>?_)
 ·omega
 refine len_ite (fun hk=>?_) (fun _=>?_)
 ·unfold zTb
  split
  ·omega
  ·split
   ·simp only [List.length_append,List.length_cons,List.length_nil];omega
   ·split
    ·simp only [List.length_append,List.length_cons,List.length_nil,List.length_drop];omega
    ·omega
 refine len_ite (fun hk=>?_) (fun _=>?_)
 ·have h2l:=h6 hk
  unfold zVk
  have h2:=take_len xs (ks.length-2)
  have h3:=zXf (xs.take (ks.length-2))
  have h5:=getD_drop xs (ks.length-2)
  have h6:(xs.take (ks.length-2)).length≤xs.length:=by simp only [List.length_take];omega
  have h7:(if (ks.getD (ks.length-2) zNc).text.size=0 then [] else [32,45,62,32]++xs.getD (ks.length-2) []).length≤4+(xs.getD (ks.length-2) []).length:=by split<;>simp only [List.length_append,List.length_cons,List.length_nil]<;>omega
  rw [show ks.length-1=ks.length-2+1 from by omega]
  simp only [List.length_append,List.length_cons,List.length_nil] at *;omega
 refine len_ite (fun hk=>?_) (fun _=>?_)
 ·simp only [List.length_append,List.length_cons,List.length_nil];omega
 refine len_ite (fun hk=>?_) (fun _=>?_)
 ·unfold zDc
  have:=hm [] []
  split
  ·simp only [List.length_append,List.length_cons,List.length_nil] at *;omega
  ·split
   ·simp only [List.length_append,List.length_nil] at *;omega
   ·omega
 refine len_ite (fun hk=>?_) (fun _=>?_)
 ·simp only [List.length_append,List.length_cons,List.length_nil];omega
 refine len_ite (fun hk=>?_) (fun _=>?_)
 ·simp only [List.length_append,List.length_cons,List.length_nil];omega
 refine len_ite (fun hk=>?_) (fun _=>?_)
 ·simp only [List.length_append,List.length_cons,List.length_nil];omega
 refine len_ite (fun hk=>?_) (fun _=>?_)
 ·simp only [List.length_append,List.length_cons,List.length_nil];omega
 refine len_ite (fun hk=>?_) (fun _=>?_)
 ·simp only [List.length_append,List.length_cons,List.length_nil];omega
 refine len_ite (fun hk=>?_) (fun _=>?_)
 ·unfold zUg
  have h7:(if (ks.getD 3 zNc).kids.length=0 then [] else [32,101,108,115,101,32]++xs.getD 3 []).length≤6+(xs.getD 3 []).length:=by split<;>simp only [List.length_append,List.length_cons,List.length_nil]<;>omega
  simp only [List.length_append,List.length_cons,List.length_nil] at *;omega
 refine len_ite (fun hk=>?_) (fun _=>?_)
 ·simp only [List.length_append,List.length_cons,List.length_nil];omega
 refine len_ite (fun hk=>?_) (fun _=>?_)
 ·have:=hm [32] [];simp only [List.length_append,List.length_cons,List.length_nil] at *;omega
 refine len_ite (fun hk=>?_) (fun _=>?_)
 ·simp only [List.length_cons,List.length_nil];omega
 refine len_ite (fun hk=>?_) (fun _=>?_)
 ·simp only [List.length_append,List.length_cons,List.length_nil];omega
 refine len_ite (fun hk=>?_) (fun _=>?_)
 ·simp only [List.length_append,List.length_cons,List.length_nil];omega
 refine len_ite (fun hk=>?_) (fun _=>?_)
 ·simp only [List.length_append,List.length_cons,List.length_nil];omega
 refine len_ite (fun hk=>?_) (fun _=>?_)
 ·simp only [List.length_append,List.length_cons,List.length_nil];omega
 refine len_ite (fun hk=>?_) (fun _=>?_)
 ·simp only [List.length_append,List.length_cons,List.length_nil];omega
 refine len_ite (fun hk=>?_) (fun _=>?_)
 ·simp only [List.length_append,List.length_cons,List.length_nil];omega
 refine len_ite (fun hk=>?_) (fun _=>?_)
 ·simp only [List.length_append,List.length_cons,List.length_nil];omega
 refine len_ite (fun hk=>?_) (fun _=>?_)
 ·simp only [List.length_append,List.length_cons,List.length_nil];omega
 refine len_ite (fun hk=>?_) (fun _=>?_)
 ·simp only [List.length_append,List.length_cons,List.length_nil];omega
 omega
theorem zju {ks:List T} (h:Fit 6 ks):2≤ks.length:=by
 cases h<;>first|omega|(simp;done)|simp at *
theorem zyo (d:Nat) (xs:List (List UInt8)):(zid d xs).length≤3+4 * d+zci xs+(4 * d+5) * xs.length:=by
 unfold zid blanks
 have h:=zXj (fun x=>List.replicate (4 * (d+1)) 32++(x++[10])) (4 * d+5) (fun x=>by simp only [List.length_append,List.length_replicate,List.length_cons,List.length_nil];omega) xs
 simp only [List.length_append,List.length_replicate,List.length_cons,List.length_nil] at *
 omega
mutual
theorem zAo (D:Nat):∀ (t:T) (d:Nat),t.small→t.whole→d+t.size≤D→(shw d t).length+(4 * D+10)≤t.size * (8 * D+200)
 | .mk k s n p ks,d,hs,hw,hd=>by
  rw [zob] at hs
  rw [zjb] at hw
  rw [size_mk] at hd ⊢
  have h9:=zym D ks (if k=9 then d+1 else d) hs.2 hw.2 (by split<;>omega)
  have hl:=zEc (if k=9 then d+1 else d) ks
  have hk:=zdb ks
  rw [zZa]
  have hmul:(1+sizes ks) * (8 * D+200)=8 * D+200+sizes ks * (8 * D+200):=by rw [Nat.add_mul];omega
  rw [hmul]
  have hmul2:ks.length * (4 * D+10)=ks.length * (4 * D+10):=rfl
  split
  ·rename_i h
   rw [if_pos h] at h9 hl
   have hb:=zyo d (zpb (d+1) ks)
   rw [hl] at hb
   have:(4 * d+5) * ks.length≤ks.length * (4 * D+10):=by rw [Nat.mul_comm];exact Nat.mul_le_mul_left _ (by omega)
   omega
  ·rename_i h
   rw [if_neg h] at h9 hl
   have hb:=zur (k:=k) (s:=tb s) (n:=n) (ks:=ks) (xs:=zpb d ks) (by unfold tb;have:=hs.1.1;simpa using this) hs.1.2 (fun h=>by subst h;exact zju hw.1)
   rw [hl] at hb
   have:2 * ks.length≤ks.length * (4 * D+10):=by rw [Nat.mul_comm];exact Nat.mul_le_mul_left _ (by omega)
   omega
theorem zym (D:Nat):∀ (ts:List T) (d:Nat),smalls ts→zSd ts→d+sizes ts≤D→zci (zpb d ts)+ts.length * (4 * D+10)≤sizes ts * (8 * D+200)
 | [],d,_,_,_=>by rw [zib,zZq];simp
 | t :: ts,d,hs,hw,hd=>by
  rw [zpg] at hs
  rw [zLb] at hw
  rw [zTa] at hd ⊢
  have h1:=zAo D t d hs.1 hw.1 (by omega)
  have h2:=zym D ts d hs.2 hw.2 (by omega)
  have h3:(t.size+sizes ts) * (8 * D+200)=t.size * (8 * D+200)+sizes ts * (8 * D+200):=Nat.add_mul _ _ _
  have h4:(ts.length+1) * (4 * D+10)=ts.length * (4 * D+10)+(4 * D+10):=Nat.succ_mul _ _
  rw [zPa,zdf,List.length_cons,h3,h4]
  omega
end
theorem zvi {t:T} {d:Nat} (hs:t.small) (hw:t.whole) (hz:t.size≤5000) (hd:d≤5000):(shw d t).length≤1000000000:=by
 have h:=zAo 10000 t d hs hw (by omega)
 have:t.size * (8 * 10000+200)≤5000 * (8 * 10000+200):=Nat.mul_le_mul_right _ hz
 omega
end
section
open Go.RowKit
def zZe (B:Nat) (W:World):Prop:=4<B∧Lib.TabIs Tryz.prog W "internal/strconv.uint64pow10" .u64 Lib.pow10Tab
theorem gPow:Tryz.prog.globalNamed "internal/strconv.uint64pow10" = some 4:=by kernel_rfl
theorem zZe.keep {B:Nat} {W W':World} (h:zZe B W) (hb:W'.heap[4]?=W.heap[4]?):zZe B W':=by
 refine ⟨h.1,?_⟩
 have h2:=h.2
 unfold Lib.TabIs World.var? at h2 ⊢
 rw [gPow] at h2 ⊢
 simp only [Option.bind_some] at h2 ⊢
 rw [hb]
 exact h2
theorem zZe.step {B:Nat} {W W':World} (h:zZe B W) (hb:Below B W W'):zZe B W':=h.keep (hb.block _ h.1)
structure Wn (B g c1 c2:Nat) (t:T) (kv:Value) (l:List UInt8) (d:Nat) (W:World):Prop where
 st:ztd B g l d W
 p:Blk W c1 [.pointer (some ⟨g,0,none⟩)] 70
 n:Blk W c2 (zaa t kv) 25
 k:KAt 25 W t.kids (fun b=>b<B) kv
 t:zZe B W
theorem Wn.step {B g c1 c2:Nat} {t:T} {kv:Value} {l l':List UInt8} {d d':Nat} {W W':World} (h:Wn B g c1 c2 t kv l d W) (hs:ztd B g l' d' W') (hb:Below B W W') (ho:Oth g W W'):Wn B g c1 c2 t kv l' d' W' :=
 ⟨hs,h.p.oth ho (h.st.apart h.p (by decide)) (by decide),h.n.oth ho (h.st.apart h.n (by decide)) (by decide),h.k.keep fun b hB _=>⟨hB,hb.block b hB⟩,h.t.step hb⟩
theorem Wn.alloc {B g c1 c2:Nat} {t:T} {kv:Value} {l:List UInt8} {d:Nat} {W:World} (h:Wn B g c1 c2 t kv l d W) (o:Obj):Wn B g c1 c2 t kv l d (W.alloc o) :=
 ⟨h.st.alloc o,h.p.alloc o,h.n.alloc o,h.k.alloc o,h.t.step ((Below.refl B W).alloc (by have:=h.st.lt;have:=h.st.ge;omega) o)⟩
theorem Wn.bz {B g c1 c2:Nat} {t:T} {kv:Value} {l:List UInt8} {d:Nat} {W:World} (h:Wn B g c1 c2 t kv l d W):B≤W.heap.size:=by have:=h.st.lt;have:=h.st.ge;omega
def zWb (B g c1 c2:Nat) (t:T) (kv:Value):Prop:=∀ (W:World) (l:List UInt8) (d i:Nat) (u:T),Wn B g c1 c2 t kv l d W→t.kids[i]?=some u→l.length+(shw d u).length≤140737488355328 →
 Calls Tryz.prog 44 #[.int .i64 i,.pointer (some ⟨c1,0,none⟩),.pointer (some ⟨c2,0,none⟩)] W (zMa B g (l++shw d u) d W)
theorem zWb.get {B g c1 c2:Nat} {t:T} {kv:Value} (h:zWb B g c1 c2 t kv) (W:World) {l:List UInt8} {d:Nat} (i:Nat) {u:T} (n:Int) (hn:n=(i:Int)) (h1:Wn B g c1 c2 t kv l d W) (h2:t.kids[i]?=some u) (h3:l.length+(shw d u).length≤140737488355328) :
  Calls Tryz.prog 44 #[.int .i64 n,.pointer (some ⟨c1,0,none⟩),.pointer (some ⟨c2,0,none⟩)] W (zMa B g (l++shw d u) d W):=by
 subst hn
 exact h W l d i u h1 h2 h3
structure Wm (W0:World) (B g c1 c2 q:Nat) (t:T) (kv:Value) (l:List UInt8) (d:Nat) (W:World):Prop where
 n:Wn B g c1 c2 t kv l d W
 q:Blk W q (zaa t kv) 25
 b:Below B W0 W
 o:Oth g W0 W
theorem Wm.start {W0:World} {B g c1 c2:Nat} {t:T} {kv:Value} {l:List UInt8} {d:Nat} (h:Wn B g c1 c2 t kv l d W0):Wm W0 B g c1 c2 W0.heap.size t kv l d (W0.alloc (.cells (zaa t kv).toArray 25)) :=
 ⟨h.alloc _,Blk.new W0 _ _,(Below.refl _ _).alloc h.bz _,(Oth.refl _ _).alloc _⟩
theorem Wm.step {W0:World} {B g c1 c2 q:Nat} {t:T} {kv:Value} {l l':List UInt8} {d d':Nat} {W W':World} (h:Wm W0 B g c1 c2 q t kv l d W) (hs:ztd B g l' d' W') (hb:Below B W W') (ho:Oth g W W'):Wm W0 B g c1 c2 q t kv l' d' W' :=
 ⟨h.n.step hs hb ho,h.q.oth ho (h.n.st.apart h.q (by decide)) (by decide),h.b.trans hb,h.o.trans ho⟩
theorem Wm.alloc {W0:World} {B g c1 c2 q:Nat} {t:T} {kv:Value} {l:List UInt8} {d:Nat} {W:World} (h:Wm W0 B g c1 c2 q t kv l d W) (o:Obj):Wm W0 B g c1 c2 q t kv l d (W.alloc o) :=
 ⟨h.n.alloc o,h.q.alloc o,h.b.alloc h.n.bz o,h.o.alloc o⟩
theorem Wm.post {W0:World} {B g c1 c2 q:Nat} {t:T} {kv:Value} {l:List UInt8} {d:Nat} {W:World} (h:Wm W0 B g c1 c2 q t kv l d W):zMa B g l d W0 (.returned (.tuple #[])) W:=⟨rfl,h.n.st,h.b,h.o⟩
theorem puts {B g:Nat} {l:List UInt8} {d:Nat} {W:World} (h:ztd B g l d W) (ss:List ByteArray) (n:Nat) (cs:List Value) (q:Nat) (hq:q=W.heap.size) (hn:ss.length=n) (hc:ss.map Value.string=cs) (hz:n≤1000000) (hl:l.length+(cat ss).length≤140737488355328) :
  Calls Tryz.prog 46 #[.pointer (some ⟨g,0,none⟩),.slice (some ⟨q,0,none⟩) n n] (W.alloc (.cells cs.toArray 9)) (zMa B g (l++cat ss) d W):=by
 subst hq hn hc
 refine (ztq (h.alloc _) ss (Blk.new W _ _) hl (Nat.le_refl _) hz).mono ?_
 rintro e w' ⟨rfl,h1,h2,h3⟩
 have hB:B≤W.heap.size:=by have:=h.lt;have:=h.ge;omega
 exact ⟨rfl,h1,((Below.refl B W).alloc hB _).trans h2,((Oth.refl g W).alloc _).trans h3⟩
theorem zqk (a:ByteArray):cat [a]=tb a:=by simp [cat]
theorem zrl (a b c:ByteArray):cat [a,b,c]=tb a++(tb b++tb c):=by simp [cat]
theorem ztf (a:Array UInt8):tb ⟨a⟩=a.toList:=rfl
theorem zVh (xs:List (List UInt8)) (j:Nat) (x:List UInt8) (h:xs[j]?=some x):commas (xs.take (j+1))=if j=0 then x else commas (xs.take j)++([44,32]++x):=by
 have hlt:=(List.getElem?_eq_some_iff.1 h).1
 rw [List.take_succ_eq_append_getElem hlt,(List.getElem?_eq_some_iff.1 h).2]
 split
 ·rename_i h0;subst h0;rw [List.take_zero,List.nil_append,zoh]
 ·exact zIl _ _ (by intro e;have:=congrArg List.length e;rw [List.length_take] at this;simp only [List.length_nil] at this;omega)
theorem znj (xs:List (List UInt8)) (j:Nat):(commas (xs.take j)).length≤(commas xs).length:=by
 cases xs with
 | nil=>simp [commas]
 | cons a r =>
  cases j with
  | zero=>simp [commas]
  | succ j =>
   rw [List.take_succ_cons]
   simp only [commas,List.length_append]
   have:r.flatMap (fun x=>[44,32]++x)=(r.take j).flatMap (fun x=>[44,32]++x)++(r.drop j).flatMap (fun x=>[44,32]++x):=by rw [← List.flatMap_append,List.take_append_drop]
   rw [this,List.length_append]
   omega
def LiRel (W0:World) (B g c1 c2:Nat) (t:T) (kv:Value) (l:List UInt8) (d a:Nat) (xs:List (List UInt8)) (gh:Nat) (i:Value) (wr:World):Prop :=
 ∃ j:Nat,j≤xs.length∧xs.length≤j+gh∧i=.int .i64 ((a+j:Nat):Int)∧Wn B g c1 c2 t kv (l++commas (xs.take j)) d wr∧Below B W0 wr∧Oth g W0 wr
theorem zMn {B g c1 c2:Nat} {t:T} {kv:Value} {l:List UInt8} {d:Nat} {w:World} (h:Wn B g c1 c2 t kv l d w) (hk:zWb B g c1 c2 t kv) (a b:Nat) (hab:a≤b) (hb:b≤t.kids.length) (hz:b≤1000000)
  (xs:List (List UInt8)) (hx:xs=((zpb d t.kids).drop a).take (b-a)) (hl:l.length+(commas xs).length≤140737488355328) :
  Calls Tryz.prog 121 #[.pointer (some ⟨g,0,none⟩),.int .i64 a,.int .i64 b,.func (.func 44) #[] #[.pointer (some ⟨c1,0,none⟩),.pointer (some ⟨c2,0,none⟩)]] w (zMa B g (l++commas xs) d w):=by
 have hxl:xs.length=b-a:=by rw [hx,List.length_take,List.length_drop,zEc];omega
 have HX:=zh (show ∀ j u,j<xs.length→t.kids[a+j]?=some u→xs[j]?=some (shw d u) from fun j u hj hu=>by
  rw [hx,List.getElem?_take,if_pos (by omega),List.getElem?_drop]
  exact zSj d _ _ _ hu)
 have H:=zh h
 have HK:=zh hk
 clear h hk hx
 go_enter Tryz.func121,Tryz.ntmps121
 go_wp2_with fail
 go_loopg [8] (b-a) (fun gk i wr=>LiRel w B g c1 c2 t kv l d a xs gk i wr)
 case atStart=>exact ⟨0,by omega,by omega,by simp,by simpa [commas] using H.out,Below.refl _ _,Oth.refl _ _⟩
 case round =>
  obtain ⟨j,hj,hgj,rfl,hn,hbw,ho⟩:=hrel
  have HN:=zh hn
  have HB:=zh hbw
  have HO:=zh ho
  clear hn hbw ho
  by_cases hlt:j<xs.length
  ·obtain ⟨u,hu⟩:∃ u,t.kids[a+j]?=some u:=⟨t.kids[a+j],List.getElem?_eq_getElem (by omega)⟩
   have hT:=zVh xs j _ (HX.out j u hlt hu)
   have hle:=znj xs (j+1)
   have HU:=zh hu
   clear hu
   by_cases h0:j=0
   ·subst h0
    rw [if_pos rfl] at hT
    have HT:=zh hT
    rw [hT] at hle
    clear hT
    go_wp2_with fail
    refine (HK.out.get wr (a+0) _ (by omega) HN.out HU.out (by simp [commas];omega)).mono ?_
    rintro e w2 ⟨rfl,h2,hb2,ho2⟩
    have HN2:=zh (HN.out.step h2 hb2 ho2)
    have HB2:=zh (HB.out.trans hb2)
    have HO2:=zh (HO.out.trans ho2)
    clear h2 hb2 ho2
    go_wp2_with fail
    go_roundg (gk-1)
    case measure=>omega
    case rel=>exact ⟨1,by omega,by omega,by go_num,by rw [HT.out];simpa [commas] using HN2.out,HB2.out,HO2.out⟩
   ·rw [if_neg h0] at hT
    have HT:=zh hT
    rw [hT] at hle
    simp only [List.length_append,List.length_cons,List.length_nil] at hle
    clear hT
    go_wp2_with fail
    refine (puts HN.out.st [⟨#[44,32]⟩] 1 _ _ rfl rfl rfl (by omega) (by rw [zqk,ztf];simp only [List.length_append,List.length_cons,List.length_nil];omega)).mono ?_
    rintro e w1 ⟨rfl,h1,hb1,ho1⟩
    have HN1:=zh (HN.out.step h1 hb1 ho1)
    have HB1:=zh (HB.out.trans hb1)
    have HO1:=zh (HO.out.trans ho1)
    clear h1 hb1 ho1
    go_wp2_with fail
    refine (HK.out.get w1 (a+j) _ (by omega) HN1.out HU.out (by rw [zqk,ztf];simp only [List.length_append,List.length_cons,List.length_nil];omega)).mono ?_
    rintro e w2 ⟨rfl,h2,hb2,ho2⟩
    have HN2:=zh (HN1.out.step h2 hb2 ho2)
    have HB2:=zh (HB1.out.trans hb2)
    have HO2:=zh (HO1.out.trans ho2)
    clear h2 hb2 ho2
    go_wp2_with fail
    go_roundg (gk-1)
    case measure=>omega
    case rel=>exact ⟨j+1,by omega,by omega,by go_num,by rw [HT.out];have h:=HN2.out;rw [zqk,ztf] at h;simpa only [List.append_assoc] using h,HB2.out,HO2.out⟩
  ·have hjj:j=xs.length:=by omega
   go_wp2_with fail
   go_end0
   refine ⟨rfl,?_,HB.out,HO.out⟩
   have h:=HN.out.st
   rw [hjj,List.take_length] at h
   exact h
end
section
open Go.RowKit
section
variable {P:Program} {ops:Array Oper} {Q:Exit→Act→World→Prop} {md:Region.Mode} {S:World→Prop}
theorem AnyH.pair {i k:Nat} {o u:Oper} {fuel:Nat} {listed:Array Bool} {a:Act} {w:World} (hr:Region.ready md ops listed=[i,k]) (ho:ops[i]?=some o) (hu:ops[k]?=some u) (hw:Region.wanted o (yielded ops a.tmps)=true) (hv:Region.wanted u (yielded ops a.tmps)=true)
  (h:∀ K:Act→World→Prop,Shut (∀ a w,S w→wpAnyH P md ops Q S fuel (listed.setIfInBounds i true) a w→K a w)→o.wp P a w K Q)
  (h':∀ K:Act→World→Prop,Shut (∀ a w,S w→wpAnyH P md ops Q S fuel (listed.setIfInBounds k true) a w→K a w)→u.wp P a w K Q):wpAnyH P md ops Q S (fuel+1) listed a w:=by
 refine ⟨(fun h0=>by rw [hr] at h0;cases h0),fun j hj=>?_⟩
 rw [hr] at hj
 have hj2:j=i∨j=k:=by simpa using hj
 rcases hj2 with rfl|rfl
 ·refine wpOp_step ho fun K' hK=>?_
  rw [if_pos hw]
  exact h K' fun a w hS hA=>hK a w ⟨hS,hA⟩
 ·refine wpOp_step hu fun K' hK=>?_
  rw [if_pos hv]
  exact h' K' fun a w hS hA=>hK a w ⟨hS,hA⟩
theorem AnyH.three {i j k:Nat} {o u v:Oper} {fuel:Nat} {listed:Array Bool} {a:Act} {w:World} (hr:Region.ready md ops listed=[i,j,k]) (ho:ops[i]?=some o) (hu:ops[j]?=some u) (hv:ops[k]?=some v) (hwo:Region.wanted o (yielded ops a.tmps)=true) (hwu:Region.wanted u (yielded ops a.tmps)=true) (hwv:Region.wanted v (yielded ops a.tmps)=true)
  (h:∀ K:Act→World→Prop,Shut (∀ a w,S w→wpAnyH P md ops Q S fuel (listed.setIfInBounds i true) a w→K a w)→o.wp P a w K Q)
  (h':∀ K:Act→World→Prop,Shut (∀ a w,S w→wpAnyH P md ops Q S fuel (listed.setIfInBounds j true) a w→K a w)→u.wp P a w K Q)
  (h'':∀ K:Act→World→Prop,Shut (∀ a w,S w→wpAnyH P md ops Q S fuel (listed.setIfInBounds k true) a w→K a w)→v.wp P a w K Q):wpAnyH P md ops Q S (fuel+1) listed a w:=by
 refine ⟨(fun h0=>by rw [hr] at h0;cases h0),fun q hq=>?_⟩
 rw [hr] at hq
 have hq2:q=i∨q=j∨q=k:=by simpa using hq
 rcases hq2 with rfl|rfl|rfl
 ·refine wpOp_step ho fun K' hK=>?_
  rw [if_pos hwo]
  exact h K' fun a w hS hA=>hK a w ⟨hS,hA⟩
 ·refine wpOp_step hu fun K' hK=>?_
  rw [if_pos hwu]
  exact h' K' fun a w hS hA=>hK a w ⟨hS,hA⟩
 ·refine wpOp_step hv fun K' hK=>?_
  rw [if_pos hwv]
  exact h'' K' fun a w hS hA=>hK a w ⟨hS,hA⟩
end
end
section
open Go.RowKit
section
variable {P:Program} {ops:Array Oper} {Q:Exit→Act→World→Prop} {md:Region.Mode} {S:World→Prop}
def zYj (P:Program) (md:Region.Mode) (ops:Array Oper) (Q:Exit→Act→World→Prop) (S:World→Prop) (fuel:Nat) (listed:Array Bool) (a:Act) (w:World):List Nat→Prop
 | []=>True
 | i :: l=>(match ops[i]? with
  | some o=>Region.wanted o (yielded ops a.tmps)=true∧∀ K:Act→World→Prop,Shut (∀ a w,S w→wpAnyH P md ops Q S fuel (listed.setIfInBounds i true) a w→K a w)→o.wp P a w K Q
  | none=>False)∧zYj P md ops Q S fuel listed a w l
theorem zYj.all {fuel:Nat} {listed:Array Bool} {a:Act} {w:World}:∀ {l:List Nat},zYj P md ops Q S fuel listed a w l→∀ i∈l,wpOp P ops Q i (fun a' w'=>S w'∧wpAnyH P md ops Q S fuel (listed.setIfInBounds i true) a' w') a w
 | i :: l,h,j,hj=>by
  rcases List.mem_cons.1 hj with rfl|hj
  ·have h1:=h.1
   cases ho:ops[j]? with
   | none=>rw [ho] at h1;exact h1.elim
   | some o =>
    rw [ho] at h1
    refine wpOp_step ho fun K' hK=>?_
    rw [if_pos h1.1]
    exact h1.2 K' fun a w hS hA=>hK a w ⟨hS,hA⟩
  ·exact h.2.all j hj
theorem AnyH.next {fuel:Nat} {listed:Array Bool} {a:Act} {w:World} (hne:(Region.ready md ops listed).isEmpty=false) (h:zYj P md ops Q S fuel listed a w (Region.ready md ops listed)):wpAnyH P md ops Q S (fuel+1) listed a w :=
 ⟨fun h0=>(by rw [h0] at hne;cases hne),h.all⟩
end
end
end Go.Proofs.YtbfgdpcgdmabpaaGreatDoor
