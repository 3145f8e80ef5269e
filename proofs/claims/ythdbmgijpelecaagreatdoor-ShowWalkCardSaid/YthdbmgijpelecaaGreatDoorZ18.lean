/- The parts that show.isWhole asks of a node's kids, by its kind; the kids of a whole tree are such. Nothing of the program is walked here. -/
import Derived.Test.YthdbmgijpelecaaGreatDoorZ17
import Derived.Test.YthdbmgijpelecaaGreatDoorZ13
namespace Go.Proofs.YthdbmgijpelecaaGreatDoor
open Go.RowKit
theorem zmj (most:Int) (kinds:List Int):∀ (xs ys:List T) (c:Nat),(∀ x∈xs,x.kind∈kinds)→((c+xs.length:Nat):Int)≤most→(ys=[]∨(∀ y,ys[0]?=some y→y.kind ∉ kinds)∨((c+xs.length:Nat):Int)=most)→zkg most kinds c (xs++ys)=c+xs.length
 | [],ys,c,_,hm,hs=>by
  cases ys with
  | nil=>simp [zkg]
  | cons y r =>
   rw [List.nil_append,zkg,if_neg]
   ·simp
   ·rintro ⟨h1,h2⟩
    rcases hs with hs|hs|hs
    ·cases hs
    ·exact hs y rfl h2
    ·simp at hs;omega
 | x :: xs,ys,c,hx,hm,hs=>by
  simp only [List.length_cons] at hm hs ⊢
  rw [List.cons_append,zkg,if_pos ⟨by omega,hx x (by simp)⟩,zmj most kinds xs ys (c+1) (fun y hy=>hx y (by simp [hy])) (by omega) (by
   rcases hs with hs|hs|hs
   ·exact .inl hs
   ·exact .inr (.inl hs)
   ·exact .inr (.inr (by omega)))]
  omega
theorem zGi {p:Pt} {ps:List Pt} {xs ys:List T} (hx:∀ x∈xs,x.kind∈p.kinds) (hm:((xs.length:Nat):Int)≤p.most) (hl:p.least≤((xs.length:Nat):Int)) (hs:ys=[]∨(∀ y,ys[0]?=some y→y.kind ∉ p.kinds)∨((xs.length:Nat):Int)=p.most):zgf (p :: ps) (xs++ys)=zgf ps ys:=by
 have e:zkg p.most p.kinds 0 (xs++ys)=xs.length:=by
  rw [zmj p.most p.kinds xs ys 0 hx (by simpa using hm) (by simpa using hs)]
  omega
 rw [zgf,e,if_neg (by omega),List.drop_left]
theorem zlc {kinds:List Int} {ps:List Pt} {a:T} {ys:List T} (h:a.kind∈kinds):zgf (⟨1,1,kinds⟩ :: ps) (a :: ys)=zgf ps ys :=
 zGi (p:=⟨1,1,kinds⟩) (xs:=[a]) (by intro x hx;rw [List.mem_singleton.1 hx];exact h) (by simp) (by simp) (.inr (.inr (by simp)))
theorem zbk {kinds:List Int} {ps:List Pt} {xs ys:List T} (hx:∀ x∈xs,x.kind∈kinds) (hz:xs.length≤1000000) (hs:∀ y,ys[0]?=some y→y.kind ∉ kinds):zgf (⟨0,9223372036854775807,kinds⟩ :: ps) (xs++ys)=zgf ps ys :=
 zGi (p:=⟨0,9223372036854775807,kinds⟩) hx (by show ((xs.length:Nat):Int)≤9223372036854775807;omega) (by show (0:Int)≤_;omega) (.inr (.inl hs))
theorem zyi {kinds:List Int} {xs:List T} (hx:∀ x∈xs,x.kind∈kinds) (hz:xs.length≤1000000):zgf [⟨0,9223372036854775807,kinds⟩] xs=true:=by
 have h:=zbk (ps:=[]) (ys:=[]) hx hz (by intro y h;simp at h)
 rw [List.append_nil] at h
 rw [h];rfl
def zGg (l:List (Pt × Nat)):List Value:=l.flatMap fun x=>zOf x.1 x.2
theorem zRg:∀ (l:List (Pt × Nat)) (i:Nat) (x:Pt × Nat) (j:Nat) (v:Value),l[i]?=some x→(zOf x.1 x.2)[j]?=some v→(zGg l)[i * 3+j]?=some v
 | [],i,x,j,v,h,_=>by simp at h
 | y :: l,0,x,j,v,h,hj=>by
  have e:y=x:=by simpa using h
  subst e
  have hlt:=(List.getElem?_eq_some_iff.1 hj).1
  show (zOf y.1 y.2++zGg l)[0 * 3+j]?=some v
  rw [Nat.zero_mul,Nat.zero_add,List.getElem?_append_left hlt]
  exact hj
 | y :: l,i+1,x,j,v,h,hj=>by
  have hl:(zOf y.1 y.2).length=3:=rfl
  show (zOf y.1 y.2++zGg l)[(i+1) * 3+j]?=some v
  rw [List.getElem?_append_right (by omega),hl,show (i+1) * 3+j-3=i * 3+j from by omega]
  exact zRg l i x j v (by simpa using h) hj
theorem zab.of {w:World} {pb:Nat} (l:List (Pt × Nat)) (cs:List Value) (hc:zGg l=cs) (h:Blk w pb cs 159) (hk:∀ x∈l,Blk w x.2 (x.1.kinds.map (Value.int .i64)) 22∧x.1.kinds.length≤1000):zab w pb (l.map Prod.fst):=by
 intro i p hp
 rw [List.getElem?_map] at hp
 obtain ⟨x,hx,rfl⟩:=Option.map_eq_some_iff.1 hp
 refine ⟨x.2,fun j v hj=>?_,(hk x (List.mem_of_getElem? hx)).1,(hk x (List.mem_of_getElem? hx)).2⟩
 rw [h.cell,← hc]
 exact zRg l i x j v hx hj
theorem zek {ks:List T} (h:Fit 0 ks) (hz:ks.length≤1000000):zgf [⟨0,9223372036854775807,[1,6]⟩] ks=true:=by
 cases h with
 | unit _ hk=>exact zyi (fun x hx=>by rcases hk x hx with h|h<;>simp [h]) hz
 | type e|none e|one e|two e|fn e|param e|block e|set e|cond e|loop e|call1 e|load e|call e|leaf e=>omega
theorem zyj {ks:List T} (h:Fit 1 ks) (hz:ks.length≤1000000):zgf [⟨1,1,[2]⟩,⟨0,9223372036854775807,[3]⟩,⟨0,9223372036854775807,[4]⟩] ks=true:=by
 cases h with
 | @type a ys zs _ ha hy hzs =>
  have hl:(a :: (ys++zs)).length=ys.length+zs.length+1:=by simp
  rw [zlc (by simp [ha]),zbk (fun x hx=>by simp [show x.kind=3 from hy x hx]) (by omega) (fun y hy2=>by simp [show y.kind=4 from hzs y (List.mem_of_getElem? hy2)])]
  exact zyi (fun x hx=>by simp [show x.kind=4 from hzs x hx]) (by omega)
 | unit e|none e|one e|two e|fn e|param e|block e|set e|cond e|loop e|call1 e|load e|call e|leaf e=>omega
theorem zsd {k:Int} {ks:List T} (h:Fit k ks) (hk:k=2∨k=3∨k=8∨k=17):zgf [⟨0,1,[5]⟩] ks=true:=by
 cases h with
 | none _=>rfl
 | one _ ha =>
  rw [show ∀ a:T,[a]=[a]++[] from fun _=>rfl,zGi (p:=⟨0,1,[5]⟩) (by intro x hx;rw [List.mem_singleton.1 hx];simp [ha]) (by simp) (by simp) (.inl rfl)]
  rfl
 | unit e|type e|two e|fn e|param e|block e|set e|cond e|loop e|call1 e|load e|call e|leaf e=>omega
theorem zod {k:Int} {ks:List T} (h:Fit k ks) (hk:k=4∨k=11∨k=21∨k=22):zgf [⟨1,1,[5]⟩,⟨1,1,[5]⟩] ks=true:=by
 cases h with
 | two _ ha hb=>rw [zlc (by simp [ha]),zlc (by simp [hb])];rfl
 | unit e|type e|none e|one e|fn e|param e|block e|set e|cond e|loop e|call1 e|load e|call e|leaf e=>omega
theorem zYj {ks:List T} (h:Fit 6 ks) (hz:ks.length≤1000000):zgf [⟨0,9223372036854775807,[7]⟩,⟨1,1,[8]⟩,⟨1,1,[9]⟩] ks=true:=by
 cases h with
 | @fn xs r b _ hx hr hb =>
  have hl:(xs++[r,b]).length=xs.length+2:=by simp
  rw [zbk (fun x hxm=>by simp [show x.kind=7 from hx x hxm]) (by omega) (fun y hy=>by
                                                 have e:r=y:=by simpa using hy
                                                 simp [← e,hr]),zlc (by simp [hr]),zlc (by simp [hb])]
  rfl
 | unit e|type e|none e|one e|two e|param e|block e|set e|cond e|loop e|call1 e|load e|call e|leaf e=>omega
theorem zwj {ks:List T} (h:Fit 7 ks):zgf [⟨1,1,[8]⟩] ks=true:=by
 cases h with
 | param _ ha=>rw [zlc (by simp [ha])];rfl
 | unit e|type e|none e|one e|two e|fn e|block e|set e|cond e|loop e|call1 e|load e|call e|leaf e=>omega
theorem zPj {ks:List T} (h:Fit 9 ks) (hz:ks.length≤1000000):zgf [⟨0,9223372036854775807,[10,11,12,13,14,15,16,17,18,19,20]⟩] ks=true:=by
 cases h with
 | block _ hk=>exact zyi (fun x hx=>by have:=hk x hx;unfold zzb at this;simp;omega) hz
 | unit e|type e|none e|one e|two e|fn e|param e|set e|cond e|loop e|call1 e|load e|call e|leaf e=>omega
theorem zej {ks:List T} (h:Fit 10 ks):zgf [⟨1,1,[5,21,22,23,24,25,26,27,28]⟩] ks=true:=by
 cases h with
 | set _ ha=>rw [zlc (by unfold zed at ha;simp;omega)];rfl
 | unit e|type e|none e|one e|two e|fn e|param e|block e|cond e|loop e|call1 e|load e|call e|leaf e=>omega
theorem ztj {ks:List T} (h:Fit 15 ks):zgf [⟨1,1,[5]⟩,⟨1,1,[5]⟩,⟨1,1,[9]⟩,⟨1,1,[9]⟩] ks=true:=by
 cases h with
 | cond _ ha hb hc hd=>rw [zlc (by simp [ha]),zlc (by simp [hb]),zlc (by simp [hc]),zlc (by simp [hd])];rfl
 | unit e|type e|none e|one e|two e|fn e|param e|block e|set e|loop e|call1 e|load e|call e|leaf e=>omega
theorem zQi {ks:List T} (h:Fit 16 ks):zgf [⟨1,1,[5]⟩,⟨1,1,[5]⟩,⟨1,1,[9]⟩] ks=true:=by
 cases h with
 | loop _ ha hb hc=>rw [zlc (by simp [ha]),zlc (by simp [hb]),zlc (by simp [hc])];rfl
 | unit e|type e|none e|one e|two e|fn e|param e|block e|set e|cond e|call1 e|load e|call e|leaf e=>omega
theorem zpj {ks:List T} (h:Fit 20 ks):zgf [⟨1,1,[28]⟩] ks=true:=by
 cases h with
 | call1 _ ha=>rw [zlc (by simp [ha])];rfl
 | unit e|type e|none e|one e|two e|fn e|param e|block e|set e|cond e|loop e|load e|call e|leaf e=>omega
theorem zKi {ks:List T} (h:Fit 25 ks):zgf [⟨1,1,[5]⟩] ks=true:=by
 cases h with
 | load _ ha=>rw [zlc (by simp [ha])];rfl
 | unit e|type e|none e|one e|two e|fn e|param e|block e|set e|cond e|loop e|call1 e|call e|leaf e=>omega
theorem zQe {k:Int} {ks:List T} (h:Fit k ks) (hk:k=19∨k=28) (hz:ks.length≤1000000):zgf [⟨0,9223372036854775807,[5]⟩] ks=true:=by
 cases h with
 | call _ hx=>exact zyi (fun x hxm=>by simp [show x.kind=5 from hx x hxm]) hz
 | unit e|type e|none e|one e|two e|fn e|param e|block e|set e|cond e|loop e|call1 e|load e|leaf e=>omega
theorem zbb {k:Int} {ks:List T} (h:Fit k ks) (hk:k=5∨k=12∨k=13∨k=14∨k=18∨k=23∨k=24∨k=26∨k=27):ks=[]:=by
 cases h with
 | leaf _=>rfl
 | unit e|type e|none e|one e|two e|fn e|param e|block e|set e|cond e|loop e|call1 e|load e|call e=>omega
end Go.Proofs.YthdbmgijpelecaaGreatDoor
namespace Go.Proofs.YthdbmgijpelecaaGreatDoor
set_option maxRecDepth 100000
set_option maxHeartbeats 1000000
open Go.RowKit
theorem Tryz.zge:(Tryz.prog.info? 159).map (·.size)=some 3:=by kernel_rfl
theorem one_any (w:World) (kb n:Nat):Calls Tryz.prog 97 #[.slice (some ⟨kb,0,none⟩) n n] w fun e w'=>e=.returned (.agg #[.int .i64 1,.int .i64 1,.slice (some ⟨kb,0,none⟩) n n])∧Below w.heap.size w w':=by
 have HB:=zh (show Below w.heap.size w (w.alloc (.cells [.int .i64 1,.int .i64 1,.slice (some ⟨kb,0,none⟩) n n].toArray 159)) from (Below.refl _ _).alloc (Nat.le_refl _) _)
 have HR:=zh (Blk.new w [.int .i64 1,.int .i64 1,.slice (some ⟨kb,0,none⟩) n n] 159)
 go_enter Tryz.func97,Tryz.ntmps97
 go_wp2_with fail
 exact bodyPost_ret (zzd (cs:=[.int .i64 1,.int .i64 1,.slice (some ⟨kb,0,none⟩) n n]) Tryz.results97 rfl HR.out Tryz.underlying159 rfl Tryz.zge) rfl ⟨rfl,HB.out⟩
theorem zwi (w:World) (kb n:Nat):Calls Tryz.prog 100 #[.slice (some ⟨kb,0,none⟩) n n] w fun e w'=>e=.returned (.agg #[.int .i64 0,.int .i64 1,.slice (some ⟨kb,0,none⟩) n n])∧Below w.heap.size w w':=by
 have HB:=zh (show Below w.heap.size w (w.alloc (.cells [.int .i64 0,.int .i64 1,.slice (some ⟨kb,0,none⟩) n n].toArray 159)) from (Below.refl _ _).alloc (Nat.le_refl _) _)
 have HR:=zh (Blk.new w [.int .i64 0,.int .i64 1,.slice (some ⟨kb,0,none⟩) n n] 159)
 go_enter Tryz.func100,Tryz.ntmps100
 go_wp2_with fail
 exact bodyPost_ret (zzd (cs:=[.int .i64 0,.int .i64 1,.slice (some ⟨kb,0,none⟩) n n]) Tryz.results100 rfl HR.out Tryz.underlying159 rfl Tryz.zge) rfl ⟨rfl,HB.out⟩
theorem zCa (w:World) (kb n:Nat):Calls Tryz.prog 99 #[.slice (some ⟨kb,0,none⟩) n n] w fun e w'=>e=.returned (.agg #[.int .i64 0,.int .i64 9223372036854775807,.slice (some ⟨kb,0,none⟩) n n])∧Below w.heap.size w w':=by
 have HB:=zh (show Below w.heap.size w (w.alloc (.cells [.int .i64 0,.int .i64 9223372036854775807,.slice (some ⟨kb,0,none⟩) n n].toArray 159)) from (Below.refl _ _).alloc (Nat.le_refl _) _)
 have HR:=zh (Blk.new w [.int .i64 0,.int .i64 9223372036854775807,.slice (some ⟨kb,0,none⟩) n n] 159)
 go_enter Tryz.func99,Tryz.ntmps99
 go_wp2_with fail
 exact bodyPost_ret (zzd (cs:=[.int .i64 0,.int .i64 9223372036854775807,.slice (some ⟨kb,0,none⟩) n n]) Tryz.results99 rfl HR.out Tryz.underlying159 rfl Tryz.zge) rfl ⟨rfl,HB.out⟩
theorem zMa {w:World} {ts:List T} {kv:Value} (hk:zeb w ts kv) {pb n:Nat} {ps:List Pt} (hp:zab w pb ps) (hn:ps.length=n) (hz:n≤1000) (ht:ts.length≤1000000) (hf:zgf ps ts=true) :
  Calls Tryz.prog 98 #[kv,.slice (some ⟨pb,0,none⟩) n n] w fun e w'=>e=.returned (.bool true)∧Below w.heap.size w w':=by
 subst hn
 rw [← hf]
 exact zNp hk hp hz ht
theorem zyf {w:World} {kv:Value} (hk:zeb w [] kv):Calls Tryz.prog 98 #[kv,.slice none 0 0] w fun e w'=>e=.returned (.bool true)∧Below w.heap.size w w':=by
 obtain ⟨a,c,rfl,_,_,_⟩:=hk
 go_enter Tryz.func98,Tryz.ntmps98
 go_wp2_with fail
 refine wp_loop_rounds 1 ?_
 rw [rounds_succ]
 go_wp2_with fail
 go_ret
 exact ⟨rfl,Below.refl _ _⟩
structure Wh (w:World) (q c3 k5:Nat) (cs:List Value) (ks:List T) (kv:Value) (W:World):Prop where
 q:Blk W q cs 25
 c:Blk W c3 [.int .i64 1,.int .i64 1,.slice (some ⟨k5,0,none⟩) 1 1] 159
 f:Blk W k5 [.int .i64 5] 22
 k:zeb W ks kv
 b:Below w.heap.size w W
theorem Wh.call {w:World} {q c3 k5:Nat} {cs:List Value} {ks:List T} {kv:Value} {W W':World} (h:Wh w q c3 k5 cs ks kv W) (hb:Below W.heap.size W W'):Wh w q c3 k5 cs ks kv W' :=
 ⟨h.q.stays hb,h.c.stays hb,h.f.stays hb,h.k.below hb,h.b.trans (hb.mono h.b.size)⟩
theorem Wh.alloc {w:World} {q c3 k5:Nat} {cs:List Value} {ks:List T} {kv:Value} {W:World} (h:Wh w q c3 k5 cs ks kv W) (o:Obj):Wh w q c3 k5 cs ks kv (W.alloc o):=h.call ((Below.refl _ _).alloc (Nat.le_refl _) _)
theorem Wh.drew {w:World} {q c3 k5:Nat} {cs:List Value} {ks:List T} {kv:Value} {W:World} (h:Wh w q c3 k5 cs ks kv W):Wh w q c3 k5 cs ks kv W.drew:=h.call (Below.refl _ _).drew
theorem zta {w:World}:∀ x∈([]:List (Pt × Nat)),Blk w x.2 (x.1.kinds.map (Value.int .i64)) 22∧x.1.kinds.length≤1000:=by intro x h;simp at h
theorem zfa {w:World} {p:Pt} {kb:Nat} {l:List (Pt × Nat)} (h:Blk w kb (p.kinds.map (Value.int .i64)) 22) (hl:p.kinds.length≤1000) (hs:∀ x∈l,Blk w x.2 (x.1.kinds.map (Value.int .i64)) 22∧x.1.kinds.length≤1000):∀ x∈(p,kb) :: l,Blk w x.2 (x.1.kinds.map (Value.int .i64)) 22∧x.1.kinds.length≤1000:=by
 intro x hx
 rcases List.mem_cons.1 hx with rfl|hx
 ·exact ⟨h,hl⟩
 ·exact hs x hx
end Go.Proofs.YthdbmgijpelecaaGreatDoor
namespace Go.Proofs.YthdbmgijpelecaaGreatDoor
open Go.RowKit
section
variable {P:Program} {ops:Array Oper} {Q:Exit→Act→World→Prop} {md:Region.Mode} {S:World→Prop}
theorem AnyH.pair {i k:Nat} {o u:Oper} {fuel:Nat} {listed:Array Bool} {a:Act} {w:World} (hr:Region.ready md ops listed=[i,k]) (ho:ops[i]?=some o) (hu:ops[k]?=some u) (hw:Region.wanted o (yielded ops a.tmps)=true) (hv:Region.wanted u (yielded ops a.tmps)=true)
  (h:∀ K:Act→World→Prop,Shut (∀ a w,S w→wpAnyH P md ops Q S fuel (listed.setIfInBounds i true) a w→K a w)→o.wp P a w K Q)
  (h':∀ K:Act→World→Prop,Shut (∀ a w,S w→wpAnyH P md ops Q S fuel (listed.setIfInBounds k true) a w→K a w)→u.wp P a w K Q):wpAnyH P md ops Q S (fuel+1) listed a w:=by
 refine ⟨(fun h0=>by rw [hr] at h0;cases h0),fun j hj=>?_⟩
 rw [hr] at hj
 have hj2:j=i∨j=k:=by simpa using hj
 rcases hj2 with rfl|rfl
 ·refine wpOp_step ho fun K' hK=>?_
  rw [if_pos hw]
  exact h K' fun a w hS hA=>hK a w ⟨hS,hA⟩
 ·refine wpOp_step hu fun K' hK=>?_
  rw [if_pos hv]
  exact h' K' fun a w hS hA=>hK a w ⟨hS,hA⟩
theorem AnyH.three {i j k:Nat} {o u v:Oper} {fuel:Nat} {listed:Array Bool} {a:Act} {w:World} (hr:Region.ready md ops listed=[i,j,k]) (ho:ops[i]?=some o) (hu:ops[j]?=some u) (hv:ops[k]?=some v) (hwo:Region.wanted o (yielded ops a.tmps)=true) (hwu:Region.wanted u (yielded ops a.tmps)=true) (hwv:Region.wanted v (yielded ops a.tmps)=true)
  (h:∀ K:Act→World→Prop,Shut (∀ a w,S w→wpAnyH P md ops Q S fuel (listed.setIfInBounds i true) a w→K a w)→o.wp P a w K Q)
  (h':∀ K:Act→World→Prop,Shut (∀ a w,S w→wpAnyH P md ops Q S fuel (listed.setIfInBounds j true) a w→K a w)→u.wp P a w K Q)
  (h'':∀ K:Act→World→Prop,Shut (∀ a w,S w→wpAnyH P md ops Q S fuel (listed.setIfInBounds k true) a w→K a w)→v.wp P a w K Q):wpAnyH P md ops Q S (fuel+1) listed a w:=by
 refine ⟨(fun h0=>by rw [hr] at h0;cases h0),fun q hq=>?_⟩
 rw [hr] at hq
 have hq2:q=i∨q=j∨q=k:=by simpa using hq
 rcases hq2 with rfl|rfl|rfl
 ·refine wpOp_step ho fun K' hK=>?_
  rw [if_pos hwo]
  exact h K' fun a w hS hA=>hK a w ⟨hS,hA⟩
 ·refine wpOp_step hu fun K' hK=>?_
  rw [if_pos hwu]
  exact h' K' fun a w hS hA=>hK a w ⟨hS,hA⟩
 ·refine wpOp_step hv fun K' hK=>?_
  rw [if_pos hwv]
  exact h'' K' fun a w hS hA=>hK a w ⟨hS,hA⟩
end
end Go.Proofs.YthdbmgijpelecaaGreatDoor
