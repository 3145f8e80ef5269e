/- The contract of show.isWhole on a node whose kids are as the table of layer 2 has them, by kind: it answers true. -/
import Derived.Test.YtbfgdpcgdmabpaaGreatDoorY20
namespace Go.Proofs.YtbfgdpcgdmabpaaGreatDoor
open Go.RowKit
def ndC (k:Int) (s:ByteArray) (nm:Int) (p:Nat) (kv:Value):List Value:=[.int .i64 k,.string s,.int .i64 nm,.int .i64 p,kv]
def tmC (k5:Nat):List Value:=[.int .i64 1,.int .i64 1,.slice (some ⟨k5,0,none⟩) 1 1]
structure Wk (w:World) (q c3 k5:Nat) (cs:List Value) (ks:List T) (kv:Value) (rows:List (Nat × List Value)) (W:World):Prop where
 q:Blk W q cs 25
 c:Blk W c3 (tmC k5) 151
 k:zej W ks kv
 b:Below w.heap.size w W
 r:∀ x∈rows,Blk W x.1 x.2 22
def WkS (q c3 k5:Nat) (cs:List Value) (W:World):Prop:=Blk W q cs 25∧Blk W c3 (tmC k5) 151
section
variable {w W W':World} {q c3 k5:Nat} {cs:List Value} {ks:List T} {kv:Value} {rows:List (Nat × List Value)} {K R:Act→World→Prop} {a:Act}
theorem Wk.call (h:Wk w q c3 k5 cs ks kv rows W) (hb:Below W.heap.size W W'):Wk w q c3 k5 cs ks kv rows W' :=
 ⟨h.q.stays hb,h.c.stays hb,h.k.below hb,h.b.trans (hb.mono h.b.size),fun x hx=>(h.r x hx).stays hb⟩
theorem Wk.go (h:Hid (Wk w q c3 k5 cs ks kv rows W)) (hb:Below W.heap.size W W') (hK:Shut (∀ a w,WkS q c3 k5 cs w→R a w→K a w)) (g:Hid (Wk w q c3 k5 cs ks kv rows W')→R a W'):K a W' :=
 hK.out _ _ ⟨(h.out.call hb).q,(h.out.call hb).c⟩ (g (zh (h.out.call hb)))
theorem Wk.row {vs:List Value} (h:Hid (Wk w q c3 k5 cs ks kv rows W)) (hK:Shut (∀ a w,WkS q c3 k5 cs w→R a w→K a w)) (g:∀ W',Hid (Wk w q c3 k5 cs ks kv ((W.heap.size,vs) :: rows) W')→R a W'):K a (W.alloc (.cells vs.toArray 22)):=by
 have h1:=h.out.call ((Below.refl _ W).alloc (Nat.le_refl _) (.cells vs.toArray 22))
 refine hK.out _ _ ⟨h1.q,h1.c⟩ (g _ (zh ⟨h1.q,h1.c,h1.k,h1.b,fun x hx=>?_⟩))
 rcases List.mem_cons.1 hx with rfl|hx
 ·exact Blk.new W _ _
 ·exact h1.r x hx
theorem Wk.parts {vs:List Value} (h:Hid (Wk w q c3 k5 cs ks kv rows W)) (hK:Shut (∀ a w,WkS q c3 k5 cs w→R a w→K a w)) (g:∀ W',Hid (Wk w q c3 k5 cs ks kv rows W')→Hid (Blk W' W.heap.size vs 151)→R a W'):K a (W.alloc (.cells vs.toArray 151)):=by
 have h1:=h.out.call ((Below.refl _ W).alloc (Nat.le_refl _) (.cells vs.toArray 151))
 exact hK.out _ _ ⟨h1.q,h1.c⟩ (g _ (zh h1) (zh (Blk.new W _ _)))
end
def PtL (w:World):List Value→List Pt→Prop
 | [],[]=>True
 | a :: b :: c :: cs,p :: ps=>(∃ kb,[a,b,c]=zNf p kb∧Blk w kb (p.kinds.map (Value.int .i64)) 22∧p.kinds.length≤1000)∧PtL w cs ps
 | _,_=>False
theorem PtL.at {w:World}:∀ {cs:List Value} {ps:List Pt},PtL w cs ps→∀ i p,ps[i]?=some p→∃ kb,(∀ j v,(zNf p kb)[j]?=some v→cs[i * 3+j]?=some v)∧Blk w kb (p.kinds.map (Value.int .i64)) 22∧p.kinds.length≤1000
 | [],[],_,i,p,h=>by simp at h
 | [],_ :: _,h,_,_,_=>h.elim
 | [_],_,h,_,_,_=>h.elim
 | [_,_],_,h,_,_,_=>h.elim
 | _ :: _ :: _ :: _,[],h,_,_,_=>h.elim
 | a :: b :: c :: cs,p' :: ps,h,0,p,hp=>by
  obtain rfl:p'=p:=by simpa using hp
  obtain ⟨kb,e,h1,h2⟩:=h.1
  refine ⟨kb,fun j v hj=>?_,h1,h2⟩
  rw [← e] at hj
  have hlt:=(List.getElem?_eq_some_iff.1 hj).1
  show ([a,b,c]++cs)[0 * 3+j]?=some v
  rw [Nat.zero_mul,Nat.zero_add,List.getElem?_append_left hlt]
  exact hj
 | a :: b :: c :: cs,p' :: ps,h,i+1,p,hp=>by
  obtain ⟨kb,h1,h2⟩:=PtL.at h.2 i p (by simpa using hp)
  refine ⟨kb,fun j v hj=>?_,h2⟩
  show ([a,b,c]++cs)[(i+1) * 3+j]?=some v
  rw [List.getElem?_append_right (by simp;omega),show (i+1) * 3+j-[a,b,c].length=i * 3+j from by simp;omega]
  exact h1 j v hj
theorem PtL.pts {w:World} {pb:Nat} {cs:List Value} {ps:List Pt} (h:Blk w pb cs 151) (hl:PtL w cs ps):zYo w pb ps:=fun i p hp=>by
 obtain ⟨kb,h1,h2,h3⟩:=hl.at i p hp
 exact ⟨kb,fun j v hj=>by rw [h.cell];exact h1 j v hj,h2,h3⟩
theorem zIs {w:World} {ks:List T} {S:Nat→Prop} {kv:Value} {k:Int} (s:ByteArray) (nm:Int) (p:Nat) (hk:KAt 25 w ks S kv) (_:Fit k ks):∃ W,w.alloc (.cells [.int .i64 k,.string s,.int .i64 nm,.int .i64 p,kv].toArray 25)=W∧Hid (Blk W w.heap.size (ndC k s nm p kv) 25∧Below w.heap.size w W∧zej W ks kv) :=
 ⟨_,rfl,zh ⟨Blk.new w _ _,(Below.refl _ _).alloc (Nat.le_refl _) _,(zej.of hk).below ((Below.refl _ _).alloc (Nat.le_refl _) _)⟩⟩
theorem ztt {w W0 w1:World} {ks:List T} {kv:Value} {cs:List Value} (h0:Blk W0 w.heap.size cs 25∧Below w.heap.size w W0∧zej W0 ks kv) (hb:Below (W0.alloc (.cells [.int .i64 5].toArray 22)).heap.size (W0.alloc (.cells [.int .i64 5].toArray 22)) w1) :
  ∃ W,w1.alloc (.cells [.int .i64 1,.int .i64 1,.slice (some ⟨W0.heap.size,0,none⟩) 1 1].toArray 151)=W∧Hid (Wk w w.heap.size w1.heap.size W0.heap.size cs ks kv [(W0.heap.size,[.int .i64 5])] W):=by
 have ha:Below W0.heap.size W0 (W0.alloc (.cells [.int .i64 5].toArray 22)):=(Below.refl _ _).alloc (Nat.le_refl _) _
 have hc:Below w1.heap.size w1 (w1.alloc (.cells (tmC W0.heap.size).toArray 151)):=(Below.refl _ _).alloc (Nat.le_refl _) _
 have hb0:=(ha.trans (hb.mono ha.size))
 refine ⟨_,rfl,zh ⟨(h0.1.stays hb0).stays hc,Blk.new w1 _ _,(h0.2.2.below hb0).below hc,(h0.2.1.trans (hb0.mono h0.2.1.size)).trans (hc.mono (Nat.le_trans h0.2.1.size hb0.size)),fun x hx=>?_⟩⟩
 obtain rfl:=List.mem_singleton.1 hx
 exact ((Blk.new W0 _ _).stays hb).stays hc
theorem zKs {w W:World} {q c3 k5:Nat} {cs:List Value} {ts:List T} {kv:Value} {rows:List (Nat × List Value)} (h:Wk w q c3 k5 cs ts kv rows W) {vs:List Value} {n:Nat} {ps:List Pt} (hl:PtL W vs ps) (hn:ps.length=n) (hz:n≤1000) (ht:ts.length≤1000000) (hf:zyg ps ts=true) :
  Calls Tryz.prog 82 #[kv,.slice (some ⟨W.heap.size,0,none⟩) n n] (W.alloc (.cells vs.toArray 151)) fun e w'=>e=.returned (.bool true)∧Below w.heap.size w w':=by
 have ha:Below W.heap.size W (W.alloc (.cells vs.toArray 151)):=(Below.refl _ _).alloc (Nat.le_refl _) _
 refine (zos (h.k.below ha) (ps:=ps) ?_ hn hz ht hf).mono fun e w' hq=>⟨hq.1,(h.b.trans (ha.mono h.b.size)).trans (hq.2.mono (Nat.le_trans h.b.size ha.size))⟩
 intro i p hp
 obtain ⟨kb,h1,h2,h3⟩:=hl.at i p hp
 exact ⟨kb,fun j v hj=>by rw [(Blk.new W vs 151).cell];exact h1 j v hj,h2.stays ha,h3⟩
theorem zfu {p:Prop} (h:p:=by
  rintro e w9 ⟨rfl,hb⟩
  have HB9:=zh hb
  clear hb
  go_wp2_with fail
  go_ret
  exact ⟨rfl,HB9.out⟩):p:=h
theorem zVo {p:Prop} (h:p:=by repeat' (first
  | exact trivial
  | refine ⟨⟨_,rfl,HE.out.r (_,_) (by simp),by decide⟩,?_⟩)):p:=h
theorem zxb {p:Prop} (h:p:=by
  obtain ⟨W0,hW0,H0⟩:=zIs s nm p hk h
  clear hk h
  go_enter Tryz.func45,Tryz.ntmps45
  go_wp2_with fail
  refine (one_any _ _ _).mono ?_
  rintro e w1 ⟨rfl,hb⟩
  obtain ⟨W3,hW3,HE⟩:=ztt H0.out hb
  clear hb
  have e0:W3.cell? ⟨w.heap.size,0,none⟩=some _:=HE.out.q.cell 0
  have e4:W3.cell? ⟨w.heap.size,4,none⟩=some _:=HE.out.q.cell 4
  have c0:W3.cell? ⟨w1.heap.size,0,none⟩=some _:=HE.out.c.cell 0
  have c1:W3.cell? ⟨w1.heap.size,1,none⟩=some _:=HE.out.c.cell 1
  have c2:W3.cell? ⟨w1.heap.size,2,none⟩=some _:=HE.out.c.cell 2
  go_wp2_with fail
  first
  | (
    refine (zKs HE.out (by exact zVo) rfl (by decide) hz HF.out).mono ?_
    exact zfu)
  | (
    refine (zjw HE.out.k).mono ?_
    rintro e w9 ⟨rfl,hb⟩
    have HB9:=zh (HE.out.b.trans (hb.mono HE.out.b.size))
    clear hb
    go_wp2_with fail
    go_ret
    exact ⟨rfl,HB9.out⟩)
  | (
    clear e4 c0 c1 c2
    have HE4:=zh (HE.out.call (Below.refl _ _).drew)
    clear HE
    refine wp_region_held_drew (S:=WkS w.heap.size w1.heap.size W0.heap.size _) (by kernel_rfl) ⟨HE4.out.q,HE4.out.c⟩ (fun hS=>?_)
    generalize W3.drew=W4 at *
    have HE:=HE4
    clear HE4
    refine wpAnyH_take (i:=0) (oi:=⟨some _,_,_,_,_,_⟩) (v:=.pointer (some ⟨w.heap.size,4,none⟩)) rfl (by kernel_rfl) (by kernel_rfl) (by kernel_rfl) (fun _ _ _ h=>h) (Or.inl ⟨by rfl,fun W _=>by go_simp⟩) hS ?_
    try simp only [Act.put,List.setIfInBounds_toArray,List.set_cons_zero,List.set_cons_succ]
    refine wpAnyH_take (i:=1) (oi:=⟨some _,_,_,_,_,_⟩) (v:=kv) rfl (by kernel_rfl) (by kernel_rfl) (by kernel_rfl) (fun _ _ _ h=>h) (Or.inl ⟨by rfl,fun W hW=>by have hcx:W.cell? ⟨w.heap.size,4,none⟩=some kv:=hW.1.cell 4;go_simp⟩) hS ?_
    try simp only [Act.put,List.setIfInBounds_toArray,List.set_cons_zero,List.set_cons_succ]
    try (
      refine wpAnyH_take (i:=2) (oi:=⟨some _,.load _ _,_,_,_,_⟩) (v:=.agg (tmC W0.heap.size).toArray) rfl (by kernel_rfl) (by kernel_rfl) (by kernel_rfl) (fun _ _ _ h=>h) (yieldsIf_load_mid (cs:=tmC W0.heap.size) (by rfl) 151 (.tmp 3) rfl (w1.heap.size) (0) (by go_simp) _ (fun W hW j v hj=>by rw [Nat.zero_add,hW.2.cell j];exact hj) Tryz.underlying151 rfl Tryz.zJg) hS ?_
      try simp only [Act.put,List.setIfInBounds_toArray,List.set_cons_zero,List.set_cons_succ]
      refine wpAnyH_take (i:=3) (oi:=⟨some _,.load _ _,_,_,_,_⟩) (v:=.agg (tmC W0.heap.size).toArray) rfl (by kernel_rfl) (by kernel_rfl) (by kernel_rfl) (fun _ _ _ h=>h) (yieldsIf_load_mid (cs:=tmC W0.heap.size) (by rfl) 151 (.tmp 3) rfl (w1.heap.size) (0) (by go_simp) _ (fun W hW j v hj=>by rw [Nat.zero_add,hW.2.cell j];exact hj) Tryz.underlying151 rfl Tryz.zJg) hS ?_
      try simp only [Act.put,List.setIfInBounds_toArray,List.set_cons_zero,List.set_cons_succ])
    try dsimp only [tmC] at HE ⊢
    clear hS
    repeat' (first
     | exact trivial
     | refine AnyH.nextR (by decide +kernel) (by decide +kernel) ?_
     | (
      refine wpAnyH_done (by decide +kernel) ?_ _
      go_wp2_with fail
      go_ret
      exact ⟨rfl,HE.out.b⟩)
     | refine ⟨fun hx=>absurd hx (by decide +kernel),?_⟩
     | refine ⟨fun _=>⟨by rfl,fun K hK=>?_⟩,?_⟩
     | (
      go_simp
      first
      | refine Wk.row HE hK (fun W HE=>?_)
      | refine Wk.parts HE hK (fun W HE HPB=>?_)
      | (
        refine (one_any _ _ _).mono ?_
        rintro e W ⟨rfl,hb⟩
        refine Wk.go HE hb hK (fun HE=>?_)
        clear hb)
      | (
        refine (zFu _ _ _).mono ?_
        rintro e W ⟨rfl,hb⟩
        refine Wk.go HE hb hK (fun HE=>?_)
        clear hb)
      | (
        refine (zmu _ _ _).mono ?_
        rintro e W ⟨rfl,hb⟩
        refine Wk.go HE hb hK (fun HE=>?_)
        clear hb)
      | (
        refine (zos HE.out.k (PtL.pts HPB.out (by exact zVo)) rfl (by decide) hz HF.out).mono ?_
        rintro e W ⟨rfl,hb⟩
        refine Wk.go HE hb hK (fun HE=>?_)
        clear hb)
      | refine Wk.go HE (Below.refl _ _) hK (fun HE=>?_)
      clear hK K
      try simp only [Act.put,List.setIfInBounds_toArray,List.set_cons_zero,List.set_cons_succ])))):p:=h
set_option maxRecDepth 100000
set_option maxHeartbeats 4000000
theorem isw_0 {w:World} {s:ByteArray} {nm:Int} {p:Nat} {ks:List T} {S:Nat→Prop} {kv:Value} (hk:KAt 25 w ks S kv) (h:Fit 0 ks) (hz:ks.length≤1000000) :
  Calls Tryz.prog 45 #[.agg #[.int .i64 0,.string s,.int .i64 nm,.int .i64 p,kv]] w fun e w'=>e=.returned (.bool true)∧Below w.heap.size w w':=by
 have HF:=zh (zTl h hz)
 exact zxb
theorem isw_2 {w:World} {s:ByteArray} {nm:Int} {p:Nat} {ks:List T} {S:Nat→Prop} {kv:Value} (hk:KAt 25 w ks S kv) (h:Fit 2 ks) (hz:ks.length≤1000000) :
  Calls Tryz.prog 45 #[.agg #[.int .i64 2,.string s,.int .i64 nm,.int .i64 p,kv]] w fun e w'=>e=.returned (.bool true)∧Below w.heap.size w w':=by
 have HF:=zh (zve h (by omega))
 exact zxb
theorem isw_3 {w:World} {s:ByteArray} {nm:Int} {p:Nat} {ks:List T} {S:Nat→Prop} {kv:Value} (hk:KAt 25 w ks S kv) (h:Fit 3 ks) (hz:ks.length≤1000000) :
  Calls Tryz.prog 45 #[.agg #[.int .i64 3,.string s,.int .i64 nm,.int .i64 p,kv]] w fun e w'=>e=.returned (.bool true)∧Below w.heap.size w w':=by
 have HF:=zh (zve h (by omega))
 exact zxb
theorem isw_4 {w:World} {s:ByteArray} {nm:Int} {p:Nat} {ks:List T} {S:Nat→Prop} {kv:Value} (hk:KAt 25 w ks S kv) (h:Fit 4 ks) (hz:ks.length≤1000000) :
  Calls Tryz.prog 45 #[.agg #[.int .i64 4,.string s,.int .i64 nm,.int .i64 p,kv]] w fun e w'=>e=.returned (.bool true)∧Below w.heap.size w w':=by
 have HF:=zh (zxe h (by omega))
 exact zxb
theorem isw_5 {w:World} {s:ByteArray} {nm:Int} {p:Nat} {ks:List T} {S:Nat→Prop} {kv:Value} (hk:KAt 25 w ks S kv) (h:Fit 5 ks) (hz:ks.length≤1000000) :
  Calls Tryz.prog 45 #[.agg #[.int .i64 5,.string s,.int .i64 nm,.int .i64 p,kv]] w fun e w'=>e=.returned (.bool true)∧Below w.heap.size w w':=by
 obtain rfl:ks=[]:=zQb h (by omega)
 exact zxb
theorem isw_7 {w:World} {s:ByteArray} {nm:Int} {p:Nat} {ks:List T} {S:Nat→Prop} {kv:Value} (hk:KAt 25 w ks S kv) (h:Fit 7 ks) (hz:ks.length≤1000000) :
  Calls Tryz.prog 45 #[.agg #[.int .i64 7,.string s,.int .i64 nm,.int .i64 p,kv]] w fun e w'=>e=.returned (.bool true)∧Below w.heap.size w w':=by
 have HF:=zh (zfm h)
 exact zxb
theorem isw_8 {w:World} {s:ByteArray} {nm:Int} {p:Nat} {ks:List T} {S:Nat→Prop} {kv:Value} (hk:KAt 25 w ks S kv) (h:Fit 8 ks) (hz:ks.length≤1000000) :
  Calls Tryz.prog 45 #[.agg #[.int .i64 8,.string s,.int .i64 nm,.int .i64 p,kv]] w fun e w'=>e=.returned (.bool true)∧Below w.heap.size w w':=by
 have HF:=zh (zve h (by omega))
 exact zxb
theorem isw_9 {w:World} {s:ByteArray} {nm:Int} {p:Nat} {ks:List T} {S:Nat→Prop} {kv:Value} (hk:KAt 25 w ks S kv) (h:Fit 9 ks) (hz:ks.length≤1000000) :
  Calls Tryz.prog 45 #[.agg #[.int .i64 9,.string s,.int .i64 nm,.int .i64 p,kv]] w fun e w'=>e=.returned (.bool true)∧Below w.heap.size w w':=by
 have HF:=zh (zqm h hz)
 exact zxb
theorem zmv {w:World} {s:ByteArray} {nm:Int} {p:Nat} {ks:List T} {S:Nat→Prop} {kv:Value} (hk:KAt 25 w ks S kv) (h:Fit 10 ks) (hz:ks.length≤1000000) :
  Calls Tryz.prog 45 #[.agg #[.int .i64 10,.string s,.int .i64 nm,.int .i64 p,kv]] w fun e w'=>e=.returned (.bool true)∧Below w.heap.size w w':=by
 have HF:=zh (zfl h)
 exact zxb
theorem zvv {w:World} {s:ByteArray} {nm:Int} {p:Nat} {ks:List T} {S:Nat→Prop} {kv:Value} (hk:KAt 25 w ks S kv) (h:Fit 11 ks) (hz:ks.length≤1000000) :
  Calls Tryz.prog 45 #[.agg #[.int .i64 11,.string s,.int .i64 nm,.int .i64 p,kv]] w fun e w'=>e=.returned (.bool true)∧Below w.heap.size w w':=by
 have HF:=zh (zxe h (by omega))
 exact zxb
theorem zKu {w:World} {s:ByteArray} {nm:Int} {p:Nat} {ks:List T} {S:Nat→Prop} {kv:Value} (hk:KAt 25 w ks S kv) (h:Fit 12 ks) (hz:ks.length≤1000000) :
  Calls Tryz.prog 45 #[.agg #[.int .i64 12,.string s,.int .i64 nm,.int .i64 p,kv]] w fun e w'=>e=.returned (.bool true)∧Below w.heap.size w w':=by
 obtain rfl:ks=[]:=zQb h (by omega)
 exact zxb
theorem zAv {w:World} {s:ByteArray} {nm:Int} {p:Nat} {ks:List T} {S:Nat→Prop} {kv:Value} (hk:KAt 25 w ks S kv) (h:Fit 13 ks) (hz:ks.length≤1000000) :
  Calls Tryz.prog 45 #[.agg #[.int .i64 13,.string s,.int .i64 nm,.int .i64 p,kv]] w fun e w'=>e=.returned (.bool true)∧Below w.heap.size w w':=by
 obtain rfl:ks=[]:=zQb h (by omega)
 exact zxb
theorem zJv {w:World} {s:ByteArray} {nm:Int} {p:Nat} {ks:List T} {S:Nat→Prop} {kv:Value} (hk:KAt 25 w ks S kv) (h:Fit 14 ks) (hz:ks.length≤1000000) :
  Calls Tryz.prog 45 #[.agg #[.int .i64 14,.string s,.int .i64 nm,.int .i64 p,kv]] w fun e w'=>e=.returned (.bool true)∧Below w.heap.size w w':=by
 obtain rfl:ks=[]:=zQb h (by omega)
 exact zxb
theorem zFv {w:World} {s:ByteArray} {nm:Int} {p:Nat} {ks:List T} {S:Nat→Prop} {kv:Value} (hk:KAt 25 w ks S kv) (h:Fit 17 ks) (hz:ks.length≤1000000) :
  Calls Tryz.prog 45 #[.agg #[.int .i64 17,.string s,.int .i64 nm,.int .i64 p,kv]] w fun e w'=>e=.returned (.bool true)∧Below w.heap.size w w':=by
 have HF:=zh (zve h (by omega))
 exact zxb
theorem zsv {w:World} {s:ByteArray} {nm:Int} {p:Nat} {ks:List T} {S:Nat→Prop} {kv:Value} (hk:KAt 25 w ks S kv) (h:Fit 18 ks) (hz:ks.length≤1000000) :
  Calls Tryz.prog 45 #[.agg #[.int .i64 18,.string s,.int .i64 nm,.int .i64 p,kv]] w fun e w'=>e=.returned (.bool true)∧Below w.heap.size w w':=by
 obtain rfl:ks=[]:=zQb h (by omega)
 exact zxb
theorem zrv {w:World} {s:ByteArray} {nm:Int} {p:Nat} {ks:List T} {S:Nat→Prop} {kv:Value} (hk:KAt 25 w ks S kv) (h:Fit 19 ks) (hz:ks.length≤1000000) :
  Calls Tryz.prog 45 #[.agg #[.int .i64 19,.string s,.int .i64 nm,.int .i64 p,kv]] w fun e w'=>e=.returned (.bool true)∧Below w.heap.size w w':=by
 have HF:=zh (zog h (by omega) hz)
 exact zxb
theorem zBv {w:World} {s:ByteArray} {nm:Int} {p:Nat} {ks:List T} {S:Nat→Prop} {kv:Value} (hk:KAt 25 w ks S kv) (h:Fit 20 ks) (hz:ks.length≤1000000) :
  Calls Tryz.prog 45 #[.agg #[.int .i64 20,.string s,.int .i64 nm,.int .i64 p,kv]] w fun e w'=>e=.returned (.bool true)∧Below w.heap.size w w':=by
 have HF:=zh (zXk h)
 exact zxb
theorem zLu {w:World} {s:ByteArray} {nm:Int} {p:Nat} {ks:List T} {S:Nat→Prop} {kv:Value} (hk:KAt 25 w ks S kv) (h:Fit 21 ks) (hz:ks.length≤1000000) :
  Calls Tryz.prog 45 #[.agg #[.int .i64 21,.string s,.int .i64 nm,.int .i64 p,kv]] w fun e w'=>e=.returned (.bool true)∧Below w.heap.size w w':=by
 have HF:=zh (zxe h (by omega))
 exact zxb
theorem zdw {w:World} {s:ByteArray} {nm:Int} {p:Nat} {ks:List T} {S:Nat→Prop} {kv:Value} (hk:KAt 25 w ks S kv) (h:Fit 22 ks) (hz:ks.length≤1000000) :
  Calls Tryz.prog 45 #[.agg #[.int .i64 22,.string s,.int .i64 nm,.int .i64 p,kv]] w fun e w'=>e=.returned (.bool true)∧Below w.heap.size w w':=by
 have HF:=zh (zxe h (by omega))
 exact zxb
theorem zkv {w:World} {s:ByteArray} {nm:Int} {p:Nat} {ks:List T} {S:Nat→Prop} {kv:Value} (hk:KAt 25 w ks S kv) (h:Fit 23 ks) (hz:ks.length≤1000000) :
  Calls Tryz.prog 45 #[.agg #[.int .i64 23,.string s,.int .i64 nm,.int .i64 p,kv]] w fun e w'=>e=.returned (.bool true)∧Below w.heap.size w w':=by
 obtain rfl:ks=[]:=zQb h (by omega)
 exact zxb
theorem zow {w:World} {s:ByteArray} {nm:Int} {p:Nat} {ks:List T} {S:Nat→Prop} {kv:Value} (hk:KAt 25 w ks S kv) (h:Fit 24 ks) (hz:ks.length≤1000000) :
  Calls Tryz.prog 45 #[.agg #[.int .i64 24,.string s,.int .i64 nm,.int .i64 p,kv]] w fun e w'=>e=.returned (.bool true)∧Below w.heap.size w w':=by
 obtain rfl:ks=[]:=zQb h (by omega)
 exact zxb
theorem zRw {w:World} {s:ByteArray} {nm:Int} {p:Nat} {ks:List T} {S:Nat→Prop} {kv:Value} (hk:KAt 25 w ks S kv) (h:Fit 25 ks) (hz:ks.length≤1000000) :
  Calls Tryz.prog 45 #[.agg #[.int .i64 25,.string s,.int .i64 nm,.int .i64 p,kv]] w fun e w'=>e=.returned (.bool true)∧Below w.heap.size w w':=by
 have HF:=zh (zhl h)
 exact zxb
theorem zdv {w:World} {s:ByteArray} {nm:Int} {p:Nat} {ks:List T} {S:Nat→Prop} {kv:Value} (hk:KAt 25 w ks S kv) (h:Fit 26 ks) (hz:ks.length≤1000000) :
  Calls Tryz.prog 45 #[.agg #[.int .i64 26,.string s,.int .i64 nm,.int .i64 p,kv]] w fun e w'=>e=.returned (.bool true)∧Below w.heap.size w w':=by
 obtain rfl:ks=[]:=zQb h (by omega)
 exact zxb
theorem zPv {w:World} {s:ByteArray} {nm:Int} {p:Nat} {ks:List T} {S:Nat→Prop} {kv:Value} (hk:KAt 25 w ks S kv) (h:Fit 27 ks) (hz:ks.length≤1000000) :
  Calls Tryz.prog 45 #[.agg #[.int .i64 27,.string s,.int .i64 nm,.int .i64 p,kv]] w fun e w'=>e=.returned (.bool true)∧Below w.heap.size w w':=by
 obtain rfl:ks=[]:=zQb h (by omega)
 exact zxb
theorem zww {w:World} {s:ByteArray} {nm:Int} {p:Nat} {ks:List T} {S:Nat→Prop} {kv:Value} (hk:KAt 25 w ks S kv) (h:Fit 28 ks) (hz:ks.length≤1000000) :
  Calls Tryz.prog 45 #[.agg #[.int .i64 28,.string s,.int .i64 nm,.int .i64 p,kv]] w fun e w'=>e=.returned (.bool true)∧Below w.heap.size w w':=by
 have HF:=zh (zog h (by omega) hz)
 exact zxb
end Go.Proofs.YtbfgdpcgdmabpaaGreatDoor
