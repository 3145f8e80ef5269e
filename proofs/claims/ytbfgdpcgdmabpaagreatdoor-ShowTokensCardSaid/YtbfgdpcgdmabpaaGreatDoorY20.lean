/- The parts that show.isWhole asks of a node's kids, by its kind; the kids of a whole tree are such. Nothing of the program is walked here. -/
import Derived.Test.YtbfgdpcgdmabpaaGreatDoorY19
import Derived.Test.YtbfgdpcgdmabpaaGreatDoorY14
namespace Go.Proofs.YtbfgdpcgdmabpaaGreatDoor
open Go.RowKit
theorem zBk (most:Int) (kinds:List Int):∀ (xs ys:List T) (c:Nat),(∀ x∈xs,x.kind∈kinds)→((c+xs.length:Nat):Int)≤most→(ys=[]∨(∀ y,ys[0]?=some y→y.kind ∉ kinds)∨((c+xs.length:Nat):Int)=most)→zFh most kinds c (xs++ys)=c+xs.length
 | [],ys,c,_,hm,hs=>by
  cases ys with
  | nil=>simp [zFh]
  | cons y r =>
   rw [List.nil_append,zFh,if_neg]
   ·simp
   ·rintro ⟨h1,h2⟩
    rcases hs with hs|hs|hs
    ·cases hs
    ·exact hs y rfl h2
    ·simp at hs;omega
 | x :: xs,ys,c,hx,hm,hs=>by
  simp only [List.length_cons] at hm hs ⊢
  rw [List.cons_append,zFh,if_pos ⟨by omega,hx x (by simp)⟩,zBk most kinds xs ys (c+1) (fun y hy=>hx y (by simp [hy])) (by omega) (by
   rcases hs with hs|hs|hs
   ·exact .inl hs
   ·exact .inr (.inl hs)
   ·exact .inr (.inr (by omega)))]
  omega
theorem zsk {p:Pt} {ps:List Pt} {xs ys:List T} (hx:∀ x∈xs,x.kind∈p.kinds) (hm:((xs.length:Nat):Int)≤p.most) (hl:p.least≤((xs.length:Nat):Int)) (hs:ys=[]∨(∀ y,ys[0]?=some y→y.kind ∉ p.kinds)∨((xs.length:Nat):Int)=p.most):zyg (p :: ps) (xs++ys)=zyg ps ys:=by
 have e:zFh p.most p.kinds 0 (xs++ys)=xs.length:=by
  rw [zBk p.most p.kinds xs ys 0 hx (by simpa using hm) (by simpa using hs)]
  omega
 rw [zyg,e,if_neg (by omega),List.drop_left]
theorem zrd {kinds:List Int} {ps:List Pt} {a:T} {ys:List T} (h:a.kind∈kinds):zyg (⟨1,1,kinds⟩ :: ps) (a :: ys)=zyg ps ys :=
 zsk (p:=⟨1,1,kinds⟩) (xs:=[a]) (by intro x hx;rw [List.mem_singleton.1 hx];exact h) (by simp) (by simp) (.inr (.inr (by simp)))
theorem zKl {kinds:List Int} {ps:List Pt} {xs ys:List T} (hx:∀ x∈xs,x.kind∈kinds) (hz:xs.length≤1000000) (hs:∀ y,ys[0]?=some y→y.kind ∉ kinds):zyg (⟨0,9223372036854775807,kinds⟩ :: ps) (xs++ys)=zyg ps ys :=
 zsk (p:=⟨0,9223372036854775807,kinds⟩) hx (by show ((xs.length:Nat):Int)≤9223372036854775807;omega) (by show (0:Int)≤_;omega) (.inr (.inl hs))
theorem zek {kinds:List Int} {xs:List T} (hx:∀ x∈xs,x.kind∈kinds) (hz:xs.length≤1000000):zyg [⟨0,9223372036854775807,kinds⟩] xs=true:=by
 have h:=zKl (ps:=[]) (ys:=[]) hx hz (by intro y h;simp at h)
 rw [List.append_nil] at h
 rw [h];rfl
def zji (l:List (Pt × Nat)):List Value:=l.flatMap fun x=>zNf x.1 x.2
theorem zGi:∀ (l:List (Pt × Nat)) (i:Nat) (x:Pt × Nat) (j:Nat) (v:Value),l[i]?=some x→(zNf x.1 x.2)[j]?=some v→(zji l)[i * 3+j]?=some v
 | [],i,x,j,v,h,_=>by simp at h
 | y :: l,0,x,j,v,h,hj=>by
  have e:y=x:=by simpa using h
  subst e
  have hlt:=(List.getElem?_eq_some_iff.1 hj).1
  show (zNf y.1 y.2++zji l)[0 * 3+j]?=some v
  rw [Nat.zero_mul,Nat.zero_add,List.getElem?_append_left hlt]
  exact hj
 | y :: l,i+1,x,j,v,h,hj=>by
  have hl:(zNf y.1 y.2).length=3:=rfl
  show (zNf y.1 y.2++zji l)[(i+1) * 3+j]?=some v
  rw [List.getElem?_append_right (by omega),hl,show (i+1) * 3+j-3=i * 3+j from by omega]
  exact zGi l i x j v (by simpa using h) hj
theorem zYo.of {w:World} {pb:Nat} (l:List (Pt × Nat)) (cs:List Value) (hc:zji l=cs) (h:Blk w pb cs 151) (hk:∀ x∈l,Blk w x.2 (x.1.kinds.map (Value.int .i64)) 22∧x.1.kinds.length≤1000):zYo w pb (l.map Prod.fst):=by
 intro i p hp
 rw [List.getElem?_map] at hp
 obtain ⟨x,hx,rfl⟩:=Option.map_eq_some_iff.1 hp
 refine ⟨x.2,fun j v hj=>?_,(hk x (List.mem_of_getElem? hx)).1,(hk x (List.mem_of_getElem? hx)).2⟩
 rw [h.cell,← hc]
 exact zGi l i x j v hx hj
theorem zTl {ks:List T} (h:Fit 0 ks) (hz:ks.length≤1000000):zyg [⟨0,9223372036854775807,[1,6]⟩] ks=true:=by
 cases h with
 | unit _ hk=>exact zek (fun x hx=>by rcases hk x hx with h|h<;>simp [h]) hz
 | type e|none e|one e|two e|fn e|param e|block e|set e|cond e|loop e|call1 e|load e|call e|leaf e=>omega
theorem zzl {ks:List T} (h:Fit 1 ks) (hz:ks.length≤1000000):zyg [⟨1,1,[2]⟩,⟨0,9223372036854775807,[3]⟩,⟨0,9223372036854775807,[4]⟩] ks=true:=by
 cases h with
 | @type a ys zs _ ha hy hzs =>
  have hl:(a :: (ys++zs)).length=ys.length+zs.length+1:=by simp
  rw [zrd (by simp [ha]),zKl (fun x hx=>by simp [show x.kind=3 from hy x hx]) (by omega) (fun y hy2=>by simp [show y.kind=4 from hzs y (List.mem_of_getElem? hy2)])]
  exact zek (fun x hx=>by simp [show x.kind=4 from hzs x hx]) (by omega)
 | unit e|none e|one e|two e|fn e|param e|block e|set e|cond e|loop e|call1 e|load e|call e|leaf e=>omega
theorem zve {k:Int} {ks:List T} (h:Fit k ks) (hk:k=2∨k=3∨k=8∨k=17):zyg [⟨0,1,[5]⟩] ks=true:=by
 cases h with
 | none _=>rfl
 | one _ ha =>
  rw [show ∀ a:T,[a]=[a]++[] from fun _=>rfl,zsk (p:=⟨0,1,[5]⟩) (by intro x hx;rw [List.mem_singleton.1 hx];simp [ha]) (by simp) (by simp) (.inl rfl)]
  rfl
 | unit e|type e|two e|fn e|param e|block e|set e|cond e|loop e|call1 e|load e|call e|leaf e=>omega
theorem zxe {k:Int} {ks:List T} (h:Fit k ks) (hk:k=4∨k=11∨k=21∨k=22):zyg [⟨1,1,[5]⟩,⟨1,1,[5]⟩] ks=true:=by
 cases h with
 | two _ ha hb=>rw [zrd (by simp [ha]),zrd (by simp [hb])];rfl
 | unit e|type e|none e|one e|fn e|param e|block e|set e|cond e|loop e|call1 e|load e|call e|leaf e=>omega
theorem zZl {ks:List T} (h:Fit 6 ks) (hz:ks.length≤1000000):zyg [⟨0,9223372036854775807,[7]⟩,⟨1,1,[8]⟩,⟨1,1,[9]⟩] ks=true:=by
 cases h with
 | @fn xs r b _ hx hr hb =>
  have hl:(xs++[r,b]).length=xs.length+2:=by simp
  rw [zKl (fun x hxm=>by simp [show x.kind=7 from hx x hxm]) (by omega) (fun y hy=>by
                                                 have e:r=y:=by simpa using hy
                                                 simp [← e,hr]),zrd (by simp [hr]),zrd (by simp [hb])]
  rfl
 | unit e|type e|none e|one e|two e|param e|block e|set e|cond e|loop e|call1 e|load e|call e|leaf e=>omega
theorem zfm {ks:List T} (h:Fit 7 ks):zyg [⟨1,1,[8]⟩] ks=true:=by
 cases h with
 | param _ ha=>rw [zrd (by simp [ha])];rfl
 | unit e|type e|none e|one e|two e|fn e|block e|set e|cond e|loop e|call1 e|load e|call e|leaf e=>omega
theorem zqm {ks:List T} (h:Fit 9 ks) (hz:ks.length≤1000000):zyg [⟨0,9223372036854775807,[10,11,12,13,14,15,16,17,18,19,20]⟩] ks=true:=by
 cases h with
 | block _ hk=>exact zek (fun x hx=>by have:=hk x hx;unfold ztc at this;simp;omega) hz
 | unit e|type e|none e|one e|two e|fn e|param e|set e|cond e|loop e|call1 e|load e|call e|leaf e=>omega
theorem zfl {ks:List T} (h:Fit 10 ks):zyg [⟨1,1,[5,21,22,23,24,25,26,27,28]⟩] ks=true:=by
 cases h with
 | set _ ha=>rw [zrd (by unfold zse at ha;simp;omega)];rfl
 | unit e|type e|none e|one e|two e|fn e|param e|block e|cond e|loop e|call1 e|load e|call e|leaf e=>omega
theorem zLk {ks:List T} (h:Fit 15 ks):zyg [⟨1,1,[5]⟩,⟨1,1,[5]⟩,⟨1,1,[9]⟩,⟨1,1,[9]⟩] ks=true:=by
 cases h with
 | cond _ ha hb hc hd=>rw [zrd (by simp [ha]),zrd (by simp [hb]),zrd (by simp [hc]),zrd (by simp [hd])];rfl
 | unit e|type e|none e|one e|two e|fn e|param e|block e|set e|loop e|call1 e|load e|call e|leaf e=>omega
theorem zNk {ks:List T} (h:Fit 16 ks):zyg [⟨1,1,[5]⟩,⟨1,1,[5]⟩,⟨1,1,[9]⟩] ks=true:=by
 cases h with
 | loop _ ha hb hc=>rw [zrd (by simp [ha]),zrd (by simp [hb]),zrd (by simp [hc])];rfl
 | unit e|type e|none e|one e|two e|fn e|param e|block e|set e|cond e|call1 e|load e|call e|leaf e=>omega
theorem zXk {ks:List T} (h:Fit 20 ks):zyg [⟨1,1,[28]⟩] ks=true:=by
 cases h with
 | call1 _ ha=>rw [zrd (by simp [ha])];rfl
 | unit e|type e|none e|one e|two e|fn e|param e|block e|set e|cond e|loop e|load e|call e|leaf e=>omega
theorem zhl {ks:List T} (h:Fit 25 ks):zyg [⟨1,1,[5]⟩] ks=true:=by
 cases h with
 | load _ ha=>rw [zrd (by simp [ha])];rfl
 | unit e|type e|none e|one e|two e|fn e|param e|block e|set e|cond e|loop e|call1 e|call e|leaf e=>omega
theorem zog {k:Int} {ks:List T} (h:Fit k ks) (hk:k=19∨k=28) (hz:ks.length≤1000000):zyg [⟨0,9223372036854775807,[5]⟩] ks=true:=by
 cases h with
 | call _ hx=>exact zek (fun x hxm=>by simp [show x.kind=5 from hx x hxm]) hz
 | unit e|type e|none e|one e|two e|fn e|param e|block e|set e|cond e|loop e|call1 e|load e|leaf e=>omega
theorem zQb {k:Int} {ks:List T} (h:Fit k ks) (hk:k=5∨k=12∨k=13∨k=14∨k=18∨k=23∨k=24∨k=26∨k=27):ks=[]:=by
 cases h with
 | leaf _=>rfl
 | unit e|type e|none e|one e|two e|fn e|param e|block e|set e|cond e|loop e|call1 e|load e|call e=>omega
end Go.Proofs.YtbfgdpcgdmabpaaGreatDoor
namespace Go.Proofs.YtbfgdpcgdmabpaaGreatDoor
set_option maxRecDepth 100000
set_option maxHeartbeats 1000000
open Go.RowKit
theorem Tryz.zJg:(Tryz.prog.info? 151).map (·.size)=some 3:=by kernel_rfl
theorem one_any (w:World) (kb n:Nat):Calls Tryz.prog 81 #[.slice (some ⟨kb,0,none⟩) n n] w fun e w'=>e=.returned (.agg #[.int .i64 1,.int .i64 1,.slice (some ⟨kb,0,none⟩) n n])∧Below w.heap.size w w':=by
 have HB:=zh (show Below w.heap.size w (w.alloc (.cells [.int .i64 1,.int .i64 1,.slice (some ⟨kb,0,none⟩) n n].toArray 151)) from (Below.refl _ _).alloc (Nat.le_refl _) _)
 have HR:=zh (Blk.new w [.int .i64 1,.int .i64 1,.slice (some ⟨kb,0,none⟩) n n] 151)
 go_enter Tryz.func81,Tryz.ntmps81
 go_wp2_with fail
 exact bodyPost_ret (zLe (cs:=[.int .i64 1,.int .i64 1,.slice (some ⟨kb,0,none⟩) n n]) Tryz.results81 rfl HR.out Tryz.underlying151 rfl Tryz.zJg) rfl ⟨rfl,HB.out⟩
theorem zmu (w:World) (kb n:Nat):Calls Tryz.prog 84 #[.slice (some ⟨kb,0,none⟩) n n] w fun e w'=>e=.returned (.agg #[.int .i64 0,.int .i64 1,.slice (some ⟨kb,0,none⟩) n n])∧Below w.heap.size w w':=by
 have HB:=zh (show Below w.heap.size w (w.alloc (.cells [.int .i64 0,.int .i64 1,.slice (some ⟨kb,0,none⟩) n n].toArray 151)) from (Below.refl _ _).alloc (Nat.le_refl _) _)
 have HR:=zh (Blk.new w [.int .i64 0,.int .i64 1,.slice (some ⟨kb,0,none⟩) n n] 151)
 go_enter Tryz.func84,Tryz.ntmps84
 go_wp2_with fail
 exact bodyPost_ret (zLe (cs:=[.int .i64 0,.int .i64 1,.slice (some ⟨kb,0,none⟩) n n]) Tryz.results84 rfl HR.out Tryz.underlying151 rfl Tryz.zJg) rfl ⟨rfl,HB.out⟩
theorem zFu (w:World) (kb n:Nat):Calls Tryz.prog 83 #[.slice (some ⟨kb,0,none⟩) n n] w fun e w'=>e=.returned (.agg #[.int .i64 0,.int .i64 9223372036854775807,.slice (some ⟨kb,0,none⟩) n n])∧Below w.heap.size w w':=by
 have HB:=zh (show Below w.heap.size w (w.alloc (.cells [.int .i64 0,.int .i64 9223372036854775807,.slice (some ⟨kb,0,none⟩) n n].toArray 151)) from (Below.refl _ _).alloc (Nat.le_refl _) _)
 have HR:=zh (Blk.new w [.int .i64 0,.int .i64 9223372036854775807,.slice (some ⟨kb,0,none⟩) n n] 151)
 go_enter Tryz.func83,Tryz.ntmps83
 go_wp2_with fail
 exact bodyPost_ret (zLe (cs:=[.int .i64 0,.int .i64 9223372036854775807,.slice (some ⟨kb,0,none⟩) n n]) Tryz.results83 rfl HR.out Tryz.underlying151 rfl Tryz.zJg) rfl ⟨rfl,HB.out⟩
theorem zos {w:World} {ts:List T} {kv:Value} (hk:zej w ts kv) {pb n:Nat} {ps:List Pt} (hp:zYo w pb ps) (hn:ps.length=n) (hz:n≤1000) (ht:ts.length≤1000000) (hf:zyg ps ts=true) :
  Calls Tryz.prog 82 #[kv,.slice (some ⟨pb,0,none⟩) n n] w fun e w'=>e=.returned (.bool true)∧Below w.heap.size w w':=by
 subst hn
 rw [← hf]
 exact zyu hk hp hz ht
theorem zjw {w:World} {kv:Value} (hk:zej w [] kv):Calls Tryz.prog 82 #[kv,.slice none 0 0] w fun e w'=>e=.returned (.bool true)∧Below w.heap.size w w':=by
 obtain ⟨a,c,rfl,_,_,_⟩:=hk
 go_enter Tryz.func82,Tryz.ntmps82
 go_wp2_with fail
 refine wp_loop_rounds 1 ?_
 rw [rounds_succ]
 go_wp2_with fail
 go_ret
 exact ⟨rfl,Below.refl _ _⟩
structure Wh (w:World) (q c3 k5:Nat) (cs:List Value) (ks:List T) (kv:Value) (W:World):Prop where
 q:Blk W q cs 25
 c:Blk W c3 [.int .i64 1,.int .i64 1,.slice (some ⟨k5,0,none⟩) 1 1] 151
 f:Blk W k5 [.int .i64 5] 22
 k:zej W ks kv
 b:Below w.heap.size w W
theorem Wh.call {w:World} {q c3 k5:Nat} {cs:List Value} {ks:List T} {kv:Value} {W W':World} (h:Wh w q c3 k5 cs ks kv W) (hb:Below W.heap.size W W'):Wh w q c3 k5 cs ks kv W' :=
 ⟨h.q.stays hb,h.c.stays hb,h.f.stays hb,h.k.below hb,h.b.trans (hb.mono h.b.size)⟩
theorem Wh.alloc {w:World} {q c3 k5:Nat} {cs:List Value} {ks:List T} {kv:Value} {W:World} (h:Wh w q c3 k5 cs ks kv W) (o:Obj):Wh w q c3 k5 cs ks kv (W.alloc o):=h.call ((Below.refl _ _).alloc (Nat.le_refl _) _)
theorem Wh.drew {w:World} {q c3 k5:Nat} {cs:List Value} {ks:List T} {kv:Value} {W:World} (h:Wh w q c3 k5 cs ks kv W):Wh w q c3 k5 cs ks kv W.drew:=h.call (Below.refl _ _).drew
end Go.Proofs.YtbfgdpcgdmabpaaGreatDoor
namespace Go.Proofs.YtbfgdpcgdmabpaaGreatDoor
open Go.RowKit
section
variable {P:Program} {ops:Array Oper} {Q:Exit→Act→World→Prop} {md:Region.Mode} {S:World→Prop}
def zwn (P:Program) (md:Region.Mode) (ops:Array Oper) (Q:Exit→Act→World→Prop) (S:World→Prop) (fuel:Nat) (listed:Array Bool) (a:Act) (w:World) (i:Nat):Nat→Prop
 | 0=>True
 | c+1=>((Region.ready md ops listed).contains i=true→match ops[i]? with
  | some o=>Region.wanted o (yielded ops a.tmps)=true∧∀ K:Act→World→Prop,Shut (∀ a w,S w→wpAnyH P md ops Q S fuel (listed.setIfInBounds i true) a w→K a w)→o.wp P a w K Q
  | none=>True)∧zwn P md ops Q S fuel listed a w (i+1) c
theorem zwn.all {fuel:Nat} {listed:Array Bool} {a:Act} {w:World}:∀ {c i:Nat},zwn P md ops Q S fuel listed a w i c→∀ j∈Region.ready md ops listed,i≤j→j<i+c→j<ops.size→wpOp P ops Q j (fun a' w'=>S w'∧wpAnyH P md ops Q S fuel (listed.setIfInBounds j true) a' w') a w
 | 0,i,_,j,_,h1,h2,_=>by omega
 | c+1,i,h,j,hj,h1,h2,h3=>by
  by_cases e:i=j
  ·subst e
   have h4:=h.1 (by simpa using hj)
   cases ho:ops[i]? with
   | none=>rw [Array.getElem?_eq_getElem h3] at ho;cases ho
   | some o =>
    rw [ho] at h4
    refine wpOp_step ho fun K' hK=>?_
    rw [if_pos h4.1]
    exact h4.2 K' fun a w hS hA=>hK a w ⟨hS,hA⟩
  ·exact zwn.all h.2 j hj (by omega) (by omega) h3
theorem AnyH.nextR {fuel:Nat} {listed:Array Bool} {a:Act} {w:World} (hne:(Region.ready md ops listed).isEmpty=false) (hlt:(Region.ready md ops listed).all (fun i=>decide (i<ops.size))=true) (h:zwn P md ops Q S fuel listed a w 0 ops.size):wpAnyH P md ops Q S (fuel+1) listed a w :=
 ⟨fun h0=>(by rw [h0] at hne;cases hne),fun j hj=>by
  have h1:j<ops.size:=by have:=List.all_eq_true.1 hlt j hj;simpa using this
  exact zwn.all h j hj (by omega) (by omega) h1⟩
end
end Go.Proofs.YtbfgdpcgdmabpaaGreatDoor
