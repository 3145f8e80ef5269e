/- The contracts of lychgatelaw07.codeTerm, sameInstr and sameCode: on the same instruction, the same code, in nodes of both packages, they answer true. -/
import Derived.Test.YthdbmgijpelecaaGreatDoorM32
import Derived.Test.YthdbmgijpelecaaGreatDoorM19
namespace Go.Proofs.YthdbmgijpelecaaGreatDoor
set_option maxRecDepth 100000
set_option maxHeartbeats 4000000
open Go.RowKit
theorem Blk.part {W:World} {g:Nat} {cs:List Value} {t:TypeId} (h:Blk W g cs t) (o:Nat) (ps:List Value) (hp:(cs.drop o).take ps.length=ps):W.rangeAt g o ps:=fun j v hj=>by
 have hl:j<ps.length:=(List.getElem?_eq_some_iff.1 hj).1
 rw [h.cell,← hj]
 have h1:((cs.drop o).take ps.length)[j]?=cs[o+j]?:=by rw [List.getElem?_take,if_pos hl,List.getElem?_drop]
 rw [← h1,hp]
theorem zIm {w:World} {ty:TypeId} {v:Value} {ts:List Tm} (ho:w.ownsRow 0 ty 2 v ts.length (zgb ts)):(v=.slice none 0 0∧ts=[])∨∃ g cap,v=.slice (some ⟨g,0,none⟩) ts.length cap∧g<w.heap.size∧ts.length≤cap∧cap≤maxLen∧∀ k t,ts[k]?=some t→w.rangeAt g (k * 2) (zab t):=by
 have ho':=ho
 rcases ho.2 with ⟨rfl,h0⟩|⟨g,cap,cur,rfl,hb,hg,hnc,hcm,hcs,htake⟩
 ·exact .inl ⟨rfl,List.eq_nil_of_length_eq_zero h0⟩
 ·refine .inr ⟨g,cap,rfl,(Array.getElem?_eq_some_iff.1 hg).1,hnc,hcm,fun k t hk j x hj=>?_⟩
  have hj2:j<2:=by have:=(List.getElem?_eq_some_iff.1 hj).1;simpa [zab] using this
  have hlt:k<ts.length:=(List.getElem?_eq_some_iff.1 hk).1
  rw [ho'.cellAt (k * 2+j) (by omega),zzg ts k t j hk hj2]
  exact hj
theorem zgk {w:World} {ty:TypeId} {k n:Nat} {v:Value} {cs:List Value} (h:w.ownsRow 0 ty k v n cs):∃ a c,v=.slice a n c:=by
 rcases h.2 with ⟨rfl,h0⟩|⟨g,cap,_,rfl,_⟩
 ·exact ⟨_,_,by rw [h0]⟩
 ·exact ⟨_,_,rfl⟩
theorem zSm {w:World} {ty:TypeId} {v:Value} {ss:List ByteArray} (ho:w.ownsRow 0 ty 1 v ss.length (strCells ss)):(v=.slice none 0 0∧ss=[])∨∃ g cap,v=.slice (some ⟨g,0,none⟩) ss.length cap∧g<w.heap.size∧ss.length≤cap∧cap≤maxLen∧∀ k s,ss[k]?=some s→w.cell? ⟨g,k,none⟩=some (.string s):=by
 have ho':=ho
 rcases ho.2 with ⟨rfl,h0⟩|⟨g,cap,cur,rfl,hb,hg,hnc,hcm,hcs,htake⟩
 ·exact .inl ⟨rfl,List.eq_nil_of_length_eq_zero h0⟩
 ·refine .inr ⟨g,cap,rfl,(Array.getElem?_eq_some_iff.1 hg).1,hnc,hcm,fun k s hk=>?_⟩
  have hlt:k<ss.length:=(List.getElem?_eq_some_iff.1 hk).1
  rw [ho'.cellAt k (by omega)]
  unfold strCells
  rw [List.getElem?_map,hk]
  rfl
structure zuk (w:World) (g1 g2:Nat) (c1 c2:List Value) (t1 t2:TypeId) (W:World):Prop where
 a:Blk W g1 c1 t1
 b:Blk W g2 c2 t2
 l:Below w.heap.size w W
theorem zuk.call {w W W':World} {g1 g2:Nat} {c1 c2:List Value} {t1 t2:TypeId} (h:zuk w g1 g2 c1 c2 t1 t2 W) (hb:Below W.heap.size W W'):zuk w g1 g2 c1 c2 t1 t2 W':=⟨h.a.stays hb,h.b.stays hb,h.l.trans (hb.mono h.l.size)⟩
theorem zuk.drew {w W:World} {g1 g2:Nat} {c1 c2:List Value} {t1 t2:TypeId} (h:zuk w g1 g2 c1 c2 t1 t2 W):zuk w g1 g2 c1 c2 t1 t2 W.drew:=h.call (Below.refl _ _).drew
def zMs (w:World) (g1 g2:Nat) (c1 c2:List Value) (t1 t2:TypeId) (n:Nat) (g:Nat) (i:Value) (wr:World):Prop :=
 ∃ k:Nat,k≤n∧n≤k+g∧i=.int .i64 k∧zuk w g1 g2 c1 c2 t1 t2 wr
theorem zGi (w:World) (n:ByteArray) (m:Int):Calls Tryz.prog 82 #[.agg #[.string n,.int .i64 m]] w fun e w'=>e=.returned (.agg #[.string n,.int .i64 m])∧Below w.heap.size w w':=by
 have HB:=zh (show Below w.heap.size w ((w.alloc (.cells [.string n,.int .i64 m].toArray 98)).alloc (.cells [.string n,.int .i64 m].toArray 103)) from (((Below.refl _ _).alloc (Nat.le_refl _) _).alloc (by simp) _))
 have HRes:=zh (Blk.zpc w (.cells [.string n,.int .i64 m].toArray 98) [.string n,.int .i64 m] 103)
 go_enter Tryz.func82,Tryz.ntmps82
 go_wp2_with fail
 exact bodyPost_ret (zFd (cs:=[.string n,.int .i64 m]) Tryz.results82 rfl HRes.out Tryz.underlying103 rfl Tryz.zlb) rfl ⟨rfl,HB.out⟩
theorem zVi {w:World} {i:Ins} {S S':Nat→Prop} {u v:Value} (hu:zWa w i.args S u) (hv:zEa w i.args S' v) (hl:i.args.length≤1000000) :
  Calls Tryz.prog 42 #[zmo i u,zmo i v] w fun e w'=>e=.returned (.bool true)∧Below w.heap.size w w':=by
 obtain ⟨op,pl,x,y,⟨an,am⟩,⟨bn,bm⟩,ts,to,hs⟩:=i
 have hu1:w.ownsRow 0 98 2 u ts.length (zgb ts):=hu.1
 have hv1:w.ownsRow 0 103 2 v ts.length (zgb ts):=hv.1
 have hl':ts.length≤1000000:=hl
 obtain ⟨ua,uc,rfl⟩:=zgk hu1
 obtain ⟨va,vc,rfl⟩:=zgk hv1
 have HFA:=zh (zIm hu1)
 have HFB:=zh (zIm hv1)
 clear hu hv hu1 hv1 hl
 obtain ⟨W0,hW0,HP⟩:∃ W,(w.alloc (.cells [.int .i64 op,.int .i64 pl,.string x,.string y,.string an,.int .i64 am,.string bn,.int .i64 bm,.slice ua ts.length uc,.int .i64 to,.bool hs].toArray 101)).alloc (.cells [.int .i64 op,.int .i64 pl,.string x,.string y,.string an,.int .i64 am,.string bn,.int .i64 bm,.slice va ts.length vc,.int .i64 to,.bool hs].toArray 106)=W∧Hid (zuk w w.heap.size (w.heap.size+1) [.int .i64 op,.int .i64 pl,.string x,.string y,.string an,.int .i64 am,.string bn,.int .i64 bm,.slice ua ts.length uc,.int .i64 to,.bool hs] [.int .i64 op,.int .i64 pl,.string x,.string y,.string an,.int .i64 am,.string bn,.int .i64 bm,.slice va ts.length vc,.int .i64 to,.bool hs] 101 106 W) :=
  ⟨_,rfl,zh ⟨(Blk.new w _ _).alloc _,Blk.zpc w _ _ _,((Below.refl _ _).alloc (Nat.le_refl _) _).alloc (by simp) _⟩⟩
 unfold zmo
 simp only []
 go_enter Tryz.func42,Tryz.ntmps42
 go_wp2_with fail
 refine wp_region_held_drew (S:=(fun W=>Blk W w.heap.size [.int .i64 op,.int .i64 pl,.string x,.string y,.string an,.int .i64 am,.string bn,.int .i64 bm,.slice ua ts.length uc,.int .i64 to,.bool hs] 101∧Blk W (w.heap.size+1) [.int .i64 op,.int .i64 pl,.string x,.string y,.string an,.int .i64 am,.string bn,.int .i64 bm,.slice va ts.length vc,.int .i64 to,.bool hs] 106)) (by kernel_rfl) ⟨HP.out.drew.a,HP.out.drew.b⟩ (fun hS=>?_)
 refine wpAnyH_take (i:=0) (oi:=⟨some 6,_,_,_,_,_⟩) (v:=.pointer (some ⟨w.heap.size,0,none⟩)) rfl (by kernel_rfl) (by kernel_rfl) (by kernel_rfl) (fun _ _ _ h=>h) (Or.inl ⟨by rfl,fun W _=>by go_simp⟩) hS ?_
 try simp only [Act.put,List.setIfInBounds_toArray,List.set_cons_zero,List.set_cons_succ]
 refine wpAnyH_take (i:=1) (oi:=⟨some 7,_,_,_,_,_⟩) (v:=.int .i64 op) rfl (by kernel_rfl) (by kernel_rfl) (by kernel_rfl) (fun _ _ _ h=>h) (Or.inl ⟨by rfl,fun W hW=>by have hcx:W.cell? ⟨w.heap.size,0,none⟩=some (.int .i64 op):=(hW.1).cell 0;go_simp⟩) hS ?_
 try simp only [Act.put,List.setIfInBounds_toArray,List.set_cons_zero,List.set_cons_succ]
 refine wpAnyH_take (i:=2) (oi:=⟨some 8,_,_,_,_,_⟩) (v:=.pointer (some ⟨(w.heap.size+1),0,none⟩)) rfl (by kernel_rfl) (by kernel_rfl) (by kernel_rfl) (fun _ _ _ h=>h) (Or.inl ⟨by rfl,fun W _=>by go_simp⟩) hS ?_
 try simp only [Act.put,List.setIfInBounds_toArray,List.set_cons_zero,List.set_cons_succ]
 refine wpAnyH_take (i:=3) (oi:=⟨some 9,_,_,_,_,_⟩) (v:=.int .i64 op) rfl (by kernel_rfl) (by kernel_rfl) (by kernel_rfl) (fun _ _ _ h=>h) (Or.inl ⟨by rfl,fun W hW=>by have hcx:W.cell? ⟨(w.heap.size+1),0,none⟩=some (.int .i64 op):=(hW.2).cell 0;go_simp⟩) hS ?_
 try simp only [Act.put,List.setIfInBounds_toArray,List.set_cons_zero,List.set_cons_succ]
 refine wpAnyH_take (i:=4) (oi:=⟨some 10,_,_,_,_,_⟩) (v:=.bool false) rfl (by kernel_rfl) (by kernel_rfl) (by kernel_rfl) (fun _ _ _ h=>h) (Or.inl ⟨by rfl,fun W _=>by go_simp⟩) hS ?_
 try simp only [Act.put,List.setIfInBounds_toArray,List.set_cons_zero,List.set_cons_succ]
 refine wpAnyH_take (i:=5) (oi:=⟨some 11,_,_,_,_,_⟩) (v:=.bool false) rfl (by kernel_rfl) (by kernel_rfl) (by kernel_rfl) (fun _ _ _ h=>h) (Or.inl ⟨by rfl,fun W _=>by go_simp⟩) hS ?_
 try simp only [Act.put,List.setIfInBounds_toArray,List.set_cons_zero,List.set_cons_succ]
 refine wpAnyH_take (i:=6) (oi:=⟨some 12,_,_,_,_,_⟩) (v:=.pointer (some ⟨w.heap.size,1,none⟩)) rfl (by kernel_rfl) (by kernel_rfl) (by kernel_rfl) (fun _ _ _ h=>h) (Or.inl ⟨by rfl,fun W _=>by go_simp⟩) hS ?_
 try simp only [Act.put,List.setIfInBounds_toArray,List.set_cons_zero,List.set_cons_succ]
 refine wpAnyH_take (i:=7) (oi:=⟨some 13,_,_,_,_,_⟩) (v:=.int .i64 pl) rfl (by kernel_rfl) (by kernel_rfl) (by kernel_rfl) (fun _ _ _ h=>h) (Or.inl ⟨by rfl,fun W hW=>by have hcx:W.cell? ⟨w.heap.size,1,none⟩=some (.int .i64 pl):=(hW.1).cell 1;go_simp⟩) hS ?_
 try simp only [Act.put,List.setIfInBounds_toArray,List.set_cons_zero,List.set_cons_succ]
 refine wpAnyH_take (i:=8) (oi:=⟨some 14,_,_,_,_,_⟩) (v:=.pointer (some ⟨(w.heap.size+1),1,none⟩)) rfl (by kernel_rfl) (by kernel_rfl) (by kernel_rfl) (fun _ _ _ h=>h) (Or.inl ⟨by rfl,fun W _=>by go_simp⟩) hS ?_
 try simp only [Act.put,List.setIfInBounds_toArray,List.set_cons_zero,List.set_cons_succ]
 refine wpAnyH_take (i:=9) (oi:=⟨some 15,_,_,_,_,_⟩) (v:=.int .i64 pl) rfl (by kernel_rfl) (by kernel_rfl) (by kernel_rfl) (fun _ _ _ h=>h) (Or.inl ⟨by rfl,fun W hW=>by have hcx:W.cell? ⟨(w.heap.size+1),1,none⟩=some (.int .i64 pl):=(hW.2).cell 1;go_simp⟩) hS ?_
 try simp only [Act.put,List.setIfInBounds_toArray,List.set_cons_zero,List.set_cons_succ]
 refine wpAnyH_take (i:=10) (oi:=⟨some 16,_,_,_,_,_⟩) (v:=.bool false) rfl (by kernel_rfl) (by kernel_rfl) (by kernel_rfl) (fun _ _ _ h=>h) (Or.inl ⟨by rfl,fun W _=>by go_simp⟩) hS ?_
 try simp only [Act.put,List.setIfInBounds_toArray,List.set_cons_zero,List.set_cons_succ]
 refine wpAnyH_take (i:=11) (oi:=⟨some 17,_,_,_,_,_⟩) (v:=.bool false) rfl (by kernel_rfl) (by kernel_rfl) (by kernel_rfl) (fun _ _ _ h=>h) (Or.inl ⟨by rfl,fun W _=>by go_simp⟩) hS ?_
 try simp only [Act.put,List.setIfInBounds_toArray,List.set_cons_zero,List.set_cons_succ]
 refine wpAnyH_take (i:=12) (oi:=⟨some 18,_,_,_,_,_⟩) (v:=.bool false) rfl (by kernel_rfl) (by kernel_rfl) (by kernel_rfl) (fun _ _ _ h=>h) (Or.inl ⟨by rfl,fun W _=>by go_simp⟩) hS ?_
 try simp only [Act.put,List.setIfInBounds_toArray,List.set_cons_zero,List.set_cons_succ]
 refine wpAnyH_take (i:=13) (oi:=⟨some 19,_,_,_,_,_⟩) (v:=.pointer (some ⟨w.heap.size,2,none⟩)) rfl (by kernel_rfl) (by kernel_rfl) (by kernel_rfl) (fun _ _ _ h=>h) (Or.inl ⟨by rfl,fun W _=>by go_simp⟩) hS ?_
 try simp only [Act.put,List.setIfInBounds_toArray,List.set_cons_zero,List.set_cons_succ]
 refine wpAnyH_take (i:=14) (oi:=⟨some 20,_,_,_,_,_⟩) (v:=.string x) rfl (by kernel_rfl) (by kernel_rfl) (by kernel_rfl) (fun _ _ _ h=>h) (Or.inl ⟨by rfl,fun W hW=>by have hcx:W.cell? ⟨w.heap.size,2,none⟩=some (.string x):=(hW.1).cell 2;go_simp⟩) hS ?_
 try simp only [Act.put,List.setIfInBounds_toArray,List.set_cons_zero,List.set_cons_succ]
 refine wpAnyH_take (i:=15) (oi:=⟨some 21,_,_,_,_,_⟩) (v:=.pointer (some ⟨(w.heap.size+1),2,none⟩)) rfl (by kernel_rfl) (by kernel_rfl) (by kernel_rfl) (fun _ _ _ h=>h) (Or.inl ⟨by rfl,fun W _=>by go_simp⟩) hS ?_
 try simp only [Act.put,List.setIfInBounds_toArray,List.set_cons_zero,List.set_cons_succ]
 refine wpAnyH_take (i:=16) (oi:=⟨some 22,_,_,_,_,_⟩) (v:=.string x) rfl (by kernel_rfl) (by kernel_rfl) (by kernel_rfl) (fun _ _ _ h=>h) (Or.inl ⟨by rfl,fun W hW=>by have hcx:W.cell? ⟨(w.heap.size+1),2,none⟩=some (.string x):=(hW.2).cell 2;go_simp⟩) hS ?_
 try simp only [Act.put,List.setIfInBounds_toArray,List.set_cons_zero,List.set_cons_succ]
 refine wpAnyH_take (i:=17) (oi:=⟨some 23,_,_,_,_,_⟩) (v:=.bool false) rfl (by kernel_rfl) (by kernel_rfl) (by kernel_rfl) (fun _ _ _ h=>h) (Or.inl ⟨by rfl,fun W _=>by go_simp⟩) hS ?_
 try simp only [Act.put,List.setIfInBounds_toArray,List.set_cons_zero,List.set_cons_succ]
 refine wpAnyH_take (i:=18) (oi:=⟨some 24,_,_,_,_,_⟩) (v:=.bool false) rfl (by kernel_rfl) (by kernel_rfl) (by kernel_rfl) (fun _ _ _ h=>h) (Or.inl ⟨by rfl,fun W _=>by go_simp⟩) hS ?_
 try simp only [Act.put,List.setIfInBounds_toArray,List.set_cons_zero,List.set_cons_succ]
 refine wpAnyH_take (i:=19) (oi:=⟨some 25,_,_,_,_,_⟩) (v:=.bool false) rfl (by kernel_rfl) (by kernel_rfl) (by kernel_rfl) (fun _ _ _ h=>h) (Or.inl ⟨by rfl,fun W _=>by go_simp⟩) hS ?_
 try simp only [Act.put,List.setIfInBounds_toArray,List.set_cons_zero,List.set_cons_succ]
 refine wpAnyH_take (i:=20) (oi:=⟨some 26,_,_,_,_,_⟩) (v:=.pointer (some ⟨w.heap.size,3,none⟩)) rfl (by kernel_rfl) (by kernel_rfl) (by kernel_rfl) (fun _ _ _ h=>h) (Or.inl ⟨by rfl,fun W _=>by go_simp⟩) hS ?_
 try simp only [Act.put,List.setIfInBounds_toArray,List.set_cons_zero,List.set_cons_succ]
 refine wpAnyH_take (i:=21) (oi:=⟨some 27,_,_,_,_,_⟩) (v:=.string y) rfl (by kernel_rfl) (by kernel_rfl) (by kernel_rfl) (fun _ _ _ h=>h) (Or.inl ⟨by rfl,fun W hW=>by have hcx:W.cell? ⟨w.heap.size,3,none⟩=some (.string y):=(hW.1).cell 3;go_simp⟩) hS ?_
 try simp only [Act.put,List.setIfInBounds_toArray,List.set_cons_zero,List.set_cons_succ]
 refine wpAnyH_take (i:=22) (oi:=⟨some 28,_,_,_,_,_⟩) (v:=.pointer (some ⟨(w.heap.size+1),3,none⟩)) rfl (by kernel_rfl) (by kernel_rfl) (by kernel_rfl) (fun _ _ _ h=>h) (Or.inl ⟨by rfl,fun W _=>by go_simp⟩) hS ?_
 try simp only [Act.put,List.setIfInBounds_toArray,List.set_cons_zero,List.set_cons_succ]
 refine wpAnyH_take (i:=23) (oi:=⟨some 29,_,_,_,_,_⟩) (v:=.string y) rfl (by kernel_rfl) (by kernel_rfl) (by kernel_rfl) (fun _ _ _ h=>h) (Or.inl ⟨by rfl,fun W hW=>by have hcx:W.cell? ⟨(w.heap.size+1),3,none⟩=some (.string y):=(hW.2).cell 3;go_simp⟩) hS ?_
 try simp only [Act.put,List.setIfInBounds_toArray,List.set_cons_zero,List.set_cons_succ]
 refine wpAnyH_take (i:=24) (oi:=⟨some 30,_,_,_,_,_⟩) (v:=.bool false) rfl (by kernel_rfl) (by kernel_rfl) (by kernel_rfl) (fun _ _ _ h=>h) (Or.inl ⟨by rfl,fun W _=>by go_simp⟩) hS ?_
 try simp only [Act.put,List.setIfInBounds_toArray,List.set_cons_zero,List.set_cons_succ]
 refine wpAnyH_take (i:=25) (oi:=⟨some 31,_,_,_,_,_⟩) (v:=.bool false) rfl (by kernel_rfl) (by kernel_rfl) (by kernel_rfl) (fun _ _ _ h=>h) (Or.inl ⟨by rfl,fun W _=>by go_simp⟩) hS ?_
 try simp only [Act.put,List.setIfInBounds_toArray,List.set_cons_zero,List.set_cons_succ]
 refine wpAnyH_take (i:=26) (oi:=⟨some 32,_,_,_,_,_⟩) (v:=.bool false) rfl (by kernel_rfl) (by kernel_rfl) (by kernel_rfl) (fun _ _ _ h=>h) (Or.inl ⟨by rfl,fun W _=>by go_simp⟩) hS ?_
 try simp only [Act.put,List.setIfInBounds_toArray,List.set_cons_zero,List.set_cons_succ]
 refine wpAnyH_take (i:=27) (oi:=⟨some 33,_,_,_,_,_⟩) (v:=.pointer (some ⟨w.heap.size,4,none⟩)) rfl (by kernel_rfl) (by kernel_rfl) (by kernel_rfl) (fun _ _ _ h=>h) (Or.inl ⟨by rfl,fun W _=>by go_simp⟩) hS ?_
 try simp only [Act.put,List.setIfInBounds_toArray,List.set_cons_zero,List.set_cons_succ]
 refine wpAnyH_take (i:=28) (oi:=⟨some 34,_,_,_,_,_⟩) (v:=.agg #[.string an,.int .i64 am]) rfl (by kernel_rfl) (by kernel_rfl) (by kernel_rfl) (fun _ _ _ h=>h) (yieldsIf_load_mid (cs:=[.string an,.int .i64 am]) (by rfl) 98 (.tmp 33) rfl (w.heap.size) (4) (by go_simp) _ (fun W hW=>(hW.1).part 4 [.string an,.int .i64 am] rfl) Tryz.underlying98 rfl Tryz.zcc) hS ?_
 try simp only [Act.put,List.setIfInBounds_toArray,List.set_cons_zero,List.set_cons_succ]
 refine wpAnyH_take (i:=30) (oi:=⟨some 36,_,_,_,_,_⟩) (v:=.pointer (some ⟨(w.heap.size+1),4,none⟩)) rfl (by kernel_rfl) (by kernel_rfl) (by kernel_rfl) (fun _ _ _ h=>h) (Or.inl ⟨by rfl,fun W _=>by go_simp⟩) hS ?_
 try simp only [Act.put,List.setIfInBounds_toArray,List.set_cons_zero,List.set_cons_succ]
 refine wpAnyH_take (i:=31) (oi:=⟨some 37,_,_,_,_,_⟩) (v:=.agg #[.string an,.int .i64 am]) rfl (by kernel_rfl) (by kernel_rfl) (by kernel_rfl) (fun _ _ _ h=>h) (yieldsIf_load_mid (cs:=[.string an,.int .i64 am]) (by rfl) 103 (.tmp 36) rfl ((w.heap.size+1)) (4) (by go_simp) _ (fun W hW=>(hW.2).part 4 [.string an,.int .i64 am] rfl) Tryz.underlying103 rfl Tryz.zlb) hS ?_
 try simp only [Act.put,List.setIfInBounds_toArray,List.set_cons_zero,List.set_cons_succ]
 refine AnyH.only (i:=29) (o:=⟨some 35,_,_,_,_,_⟩) (by kernel_rfl) rfl (by rfl) (fun K hK=>?_)
 go_simp
 refine (zGi _ an am).mono ?_
 rintro e wA ⟨rfl,hb1⟩
 have HPA:=zh ((HP.out.drew).call hb1)
 clear hb1 hS
 have hS:Blk wA w.heap.size [.int .i64 op,.int .i64 pl,.string x,.string y,.string an,.int .i64 am,.string bn,.int .i64 bm,.slice ua ts.length uc,.int .i64 to,.bool hs] 101∧Blk wA (w.heap.size+1) [.int .i64 op,.int .i64 pl,.string x,.string y,.string an,.int .i64 am,.string bn,.int .i64 bm,.slice va ts.length vc,.int .i64 to,.bool hs] 106:=⟨HPA.out.a,HPA.out.b⟩
 refine hK.out _ _ hS ?_
 clear hK K
 try simp only [Act.put,List.setIfInBounds_toArray,List.set_cons_zero,List.set_cons_succ]
 refine wpAnyH_take (i:=32) (oi:=⟨some 38,_,_,_,_,_⟩) (v:=.bool false) rfl (by kernel_rfl) (by kernel_rfl) (by kernel_rfl) (fun _ _ _ h=>h) (Or.inl ⟨by rfl,fun W _=>by go_simp⟩) hS ?_
 try simp only [Act.put,List.setIfInBounds_toArray,List.set_cons_zero,List.set_cons_succ]
 refine wpAnyH_take (i:=33) (oi:=⟨some 39,_,_,_,_,_⟩) (v:=.bool false) rfl (by kernel_rfl) (by kernel_rfl) (by kernel_rfl) (fun _ _ _ h=>h) (Or.inl ⟨by rfl,fun W _=>by go_simp⟩) hS ?_
 try simp only [Act.put,List.setIfInBounds_toArray,List.set_cons_zero,List.set_cons_succ]
 refine wpAnyH_take (i:=34) (oi:=⟨some 40,_,_,_,_,_⟩) (v:=.bool false) rfl (by kernel_rfl) (by kernel_rfl) (by kernel_rfl) (fun _ _ _ h=>h) (Or.inl ⟨by rfl,fun W _=>by go_simp⟩) hS ?_
 try simp only [Act.put,List.setIfInBounds_toArray,List.set_cons_zero,List.set_cons_succ]
 refine wpAnyH_take (i:=35) (oi:=⟨some 41,_,_,_,_,_⟩) (v:=.pointer (some ⟨w.heap.size,6,none⟩)) rfl (by kernel_rfl) (by kernel_rfl) (by kernel_rfl) (fun _ _ _ h=>h) (Or.inl ⟨by rfl,fun W _=>by go_simp⟩) hS ?_
 try simp only [Act.put,List.setIfInBounds_toArray,List.set_cons_zero,List.set_cons_succ]
 refine wpAnyH_take (i:=36) (oi:=⟨some 42,_,_,_,_,_⟩) (v:=.agg #[.string bn,.int .i64 bm]) rfl (by kernel_rfl) (by kernel_rfl) (by kernel_rfl) (fun _ _ _ h=>h) (yieldsIf_load_mid (cs:=[.string bn,.int .i64 bm]) (by rfl) 98 (.tmp 41) rfl (w.heap.size) (6) (by go_simp) _ (fun W hW=>(hW.1).part 6 [.string bn,.int .i64 bm] rfl) Tryz.underlying98 rfl Tryz.zcc) hS ?_
 try simp only [Act.put,List.setIfInBounds_toArray,List.set_cons_zero,List.set_cons_succ]
 refine wpAnyH_take (i:=38) (oi:=⟨some 44,_,_,_,_,_⟩) (v:=.pointer (some ⟨(w.heap.size+1),6,none⟩)) rfl (by kernel_rfl) (by kernel_rfl) (by kernel_rfl) (fun _ _ _ h=>h) (Or.inl ⟨by rfl,fun W _=>by go_simp⟩) hS ?_
 try simp only [Act.put,List.setIfInBounds_toArray,List.set_cons_zero,List.set_cons_succ]
 refine wpAnyH_take (i:=39) (oi:=⟨some 45,_,_,_,_,_⟩) (v:=.agg #[.string bn,.int .i64 bm]) rfl (by kernel_rfl) (by kernel_rfl) (by kernel_rfl) (fun _ _ _ h=>h) (yieldsIf_load_mid (cs:=[.string bn,.int .i64 bm]) (by rfl) 103 (.tmp 44) rfl ((w.heap.size+1)) (6) (by go_simp) _ (fun W hW=>(hW.2).part 6 [.string bn,.int .i64 bm] rfl) Tryz.underlying103 rfl Tryz.zlb) hS ?_
 try simp only [Act.put,List.setIfInBounds_toArray,List.set_cons_zero,List.set_cons_succ]
 refine AnyH.only (i:=37) (o:=⟨some 43,_,_,_,_,_⟩) (by kernel_rfl) rfl (by rfl) (fun K hK=>?_)
 go_simp
 refine (zGi _ bn bm).mono ?_
 rintro e wB ⟨rfl,hb1⟩
 have HPB:=zh ((HPA.out).call hb1)
 clear hb1 hS
 have hS:Blk wB w.heap.size [.int .i64 op,.int .i64 pl,.string x,.string y,.string an,.int .i64 am,.string bn,.int .i64 bm,.slice ua ts.length uc,.int .i64 to,.bool hs] 101∧Blk wB (w.heap.size+1) [.int .i64 op,.int .i64 pl,.string x,.string y,.string an,.int .i64 am,.string bn,.int .i64 bm,.slice va ts.length vc,.int .i64 to,.bool hs] 106:=⟨HPB.out.a,HPB.out.b⟩
 refine hK.out _ _ hS ?_
 clear hK K
 try simp only [Act.put,List.setIfInBounds_toArray,List.set_cons_zero,List.set_cons_succ]
 refine wpAnyH_take (i:=40) (oi:=⟨some 46,_,_,_,_,_⟩) (v:=.bool false) rfl (by kernel_rfl) (by kernel_rfl) (by kernel_rfl) (fun _ _ _ h=>h) (Or.inl ⟨by rfl,fun W _=>by go_simp⟩) hS ?_
 try simp only [Act.put,List.setIfInBounds_toArray,List.set_cons_zero,List.set_cons_succ]
 refine wpAnyH_take (i:=41) (oi:=⟨some 47,_,_,_,_,_⟩) (v:=.bool false) rfl (by kernel_rfl) (by kernel_rfl) (by kernel_rfl) (fun _ _ _ h=>h) (Or.inl ⟨by rfl,fun W _=>by go_simp⟩) hS ?_
 try simp only [Act.put,List.setIfInBounds_toArray,List.set_cons_zero,List.set_cons_succ]
 refine wpAnyH_take (i:=42) (oi:=⟨some 48,_,_,_,_,_⟩) (v:=.bool false) rfl (by kernel_rfl) (by kernel_rfl) (by kernel_rfl) (fun _ _ _ h=>h) (Or.inl ⟨by rfl,fun W _=>by go_simp⟩) hS ?_
 try simp only [Act.put,List.setIfInBounds_toArray,List.set_cons_zero,List.set_cons_succ]
 refine wpAnyH_take (i:=43) (oi:=⟨some 49,_,_,_,_,_⟩) (v:=.pointer (some ⟨w.heap.size,9,none⟩)) rfl (by kernel_rfl) (by kernel_rfl) (by kernel_rfl) (fun _ _ _ h=>h) (Or.inl ⟨by rfl,fun W _=>by go_simp⟩) hS ?_
 try simp only [Act.put,List.setIfInBounds_toArray,List.set_cons_zero,List.set_cons_succ]
 refine wpAnyH_take (i:=44) (oi:=⟨some 50,_,_,_,_,_⟩) (v:=.int .i64 to) rfl (by kernel_rfl) (by kernel_rfl) (by kernel_rfl) (fun _ _ _ h=>h) (Or.inl ⟨by rfl,fun W hW=>by have hcx:W.cell? ⟨w.heap.size,9,none⟩=some (.int .i64 to):=(hW.1).cell 9;go_simp⟩) hS ?_
 try simp only [Act.put,List.setIfInBounds_toArray,List.set_cons_zero,List.set_cons_succ]
 refine wpAnyH_take (i:=45) (oi:=⟨some 51,_,_,_,_,_⟩) (v:=.pointer (some ⟨(w.heap.size+1),9,none⟩)) rfl (by kernel_rfl) (by kernel_rfl) (by kernel_rfl) (fun _ _ _ h=>h) (Or.inl ⟨by rfl,fun W _=>by go_simp⟩) hS ?_
 try simp only [Act.put,List.setIfInBounds_toArray,List.set_cons_zero,List.set_cons_succ]
 refine wpAnyH_take (i:=46) (oi:=⟨some 52,_,_,_,_,_⟩) (v:=.int .i64 to) rfl (by kernel_rfl) (by kernel_rfl) (by kernel_rfl) (fun _ _ _ h=>h) (Or.inl ⟨by rfl,fun W hW=>by have hcx:W.cell? ⟨(w.heap.size+1),9,none⟩=some (.int .i64 to):=(hW.2).cell 9;go_simp⟩) hS ?_
 try simp only [Act.put,List.setIfInBounds_toArray,List.set_cons_zero,List.set_cons_succ]
 refine wpAnyH_take (i:=47) (oi:=⟨some 53,_,_,_,_,_⟩) (v:=.bool false) rfl (by kernel_rfl) (by kernel_rfl) (by kernel_rfl) (fun _ _ _ h=>h) (Or.inl ⟨by rfl,fun W _=>by go_simp⟩) hS ?_
 try simp only [Act.put,List.setIfInBounds_toArray,List.set_cons_zero,List.set_cons_succ]
 refine wpAnyH_take (i:=48) (oi:=⟨some 54,_,_,_,_,_⟩) (v:=.bool false) rfl (by kernel_rfl) (by kernel_rfl) (by kernel_rfl) (fun _ _ _ h=>h) (Or.inl ⟨by rfl,fun W _=>by go_simp⟩) hS ?_
 try simp only [Act.put,List.setIfInBounds_toArray,List.set_cons_zero,List.set_cons_succ]
 refine wpAnyH_take (i:=49) (oi:=⟨some 55,_,_,_,_,_⟩) (v:=.bool false) rfl (by kernel_rfl) (by kernel_rfl) (by kernel_rfl) (fun _ _ _ h=>h) (Or.inl ⟨by rfl,fun W _=>by go_simp⟩) hS ?_
 try simp only [Act.put,List.setIfInBounds_toArray,List.set_cons_zero,List.set_cons_succ]
 refine wpAnyH_take (i:=50) (oi:=⟨some 56,_,_,_,_,_⟩) (v:=.pointer (some ⟨w.heap.size,10,none⟩)) rfl (by kernel_rfl) (by kernel_rfl) (by kernel_rfl) (fun _ _ _ h=>h) (Or.inl ⟨by rfl,fun W _=>by go_simp⟩) hS ?_
 try simp only [Act.put,List.setIfInBounds_toArray,List.set_cons_zero,List.set_cons_succ]
 refine wpAnyH_take (i:=51) (oi:=⟨some 57,_,_,_,_,_⟩) (v:=.bool hs) rfl (by kernel_rfl) (by kernel_rfl) (by kernel_rfl) (fun _ _ _ h=>h) (Or.inl ⟨by rfl,fun W hW=>by have hcx:W.cell? ⟨w.heap.size,10,none⟩=some (.bool hs):=(hW.1).cell 10;go_simp⟩) hS ?_
 try simp only [Act.put,List.setIfInBounds_toArray,List.set_cons_zero,List.set_cons_succ]
 refine wpAnyH_take (i:=52) (oi:=⟨some 58,_,_,_,_,_⟩) (v:=.pointer (some ⟨(w.heap.size+1),10,none⟩)) rfl (by kernel_rfl) (by kernel_rfl) (by kernel_rfl) (fun _ _ _ h=>h) (Or.inl ⟨by rfl,fun W _=>by go_simp⟩) hS ?_
 try simp only [Act.put,List.setIfInBounds_toArray,List.set_cons_zero,List.set_cons_succ]
 refine wpAnyH_take (i:=53) (oi:=⟨some 59,_,_,_,_,_⟩) (v:=.bool hs) rfl (by kernel_rfl) (by kernel_rfl) (by kernel_rfl) (fun _ _ _ h=>h) (Or.inl ⟨by rfl,fun W hW=>by have hcx:W.cell? ⟨(w.heap.size+1),10,none⟩=some (.bool hs):=(hW.2).cell 10;go_simp⟩) hS ?_
 try simp only [Act.put,List.setIfInBounds_toArray,List.set_cons_zero,List.set_cons_succ]
 refine wpAnyH_take (i:=54) (oi:=⟨some 60,_,_,_,_,_⟩) (v:=.bool false) rfl (by kernel_rfl) (by kernel_rfl) (by kernel_rfl) (fun _ _ _ h=>h) (Or.inl ⟨by rfl,fun W _=>by go_simp⟩) hS ?_
 try simp only [Act.put,List.setIfInBounds_toArray,List.set_cons_zero,List.set_cons_succ]
 refine wpAnyH_take (i:=55) (oi:=⟨some 61,_,_,_,_,_⟩) (v:=.bool false) rfl (by kernel_rfl) (by kernel_rfl) (by kernel_rfl) (fun _ _ _ h=>h) (Or.inl ⟨by rfl,fun W _=>by go_simp⟩) hS ?_
 try simp only [Act.put,List.setIfInBounds_toArray,List.set_cons_zero,List.set_cons_succ]
 refine wpAnyH_take (i:=56) (oi:=⟨some 62,_,_,_,_,_⟩) (v:=.bool false) rfl (by kernel_rfl) (by kernel_rfl) (by kernel_rfl) (fun _ _ _ h=>h) (Or.inl ⟨by rfl,fun W _=>by go_simp⟩) hS ?_
 try simp only [Act.put,List.setIfInBounds_toArray,List.set_cons_zero,List.set_cons_succ]
 refine wpAnyH_take (i:=57) (oi:=⟨some 63,_,_,_,_,_⟩) (v:=.pointer (some ⟨w.heap.size,8,none⟩)) rfl (by kernel_rfl) (by kernel_rfl) (by kernel_rfl) (fun _ _ _ h=>h) (Or.inl ⟨by rfl,fun W _=>by go_simp⟩) hS ?_
 try simp only [Act.put,List.setIfInBounds_toArray,List.set_cons_zero,List.set_cons_succ]
 refine wpAnyH_take (i:=58) (oi:=⟨some 64,_,_,_,_,_⟩) (v:=.slice ua ts.length uc) rfl (by kernel_rfl) (by kernel_rfl) (by kernel_rfl) (fun _ _ _ h=>h) (Or.inl ⟨by rfl,fun W hW=>by have hcx:W.cell? ⟨w.heap.size,8,none⟩=some (.slice ua ts.length uc):=(hW.1).cell 8;go_simp⟩) hS ?_
 try simp only [Act.put,List.setIfInBounds_toArray,List.set_cons_zero,List.set_cons_succ]
 refine wpAnyH_take (i:=59) (oi:=⟨some 65,_,_,_,_,_⟩) (v:=.int .i64 (ts.length:Nat)) rfl (by kernel_rfl) (by kernel_rfl) (by kernel_rfl) (fun _ _ _ h=>h) (Or.inl ⟨by rfl,fun W _=>by go_simp⟩) hS ?_
 try simp only [Act.put,List.setIfInBounds_toArray,List.set_cons_zero,List.set_cons_succ]
 refine wpAnyH_take (i:=60) (oi:=⟨some 66,_,_,_,_,_⟩) (v:=.pointer (some ⟨(w.heap.size+1),8,none⟩)) rfl (by kernel_rfl) (by kernel_rfl) (by kernel_rfl) (fun _ _ _ h=>h) (Or.inl ⟨by rfl,fun W _=>by go_simp⟩) hS ?_
 try simp only [Act.put,List.setIfInBounds_toArray,List.set_cons_zero,List.set_cons_succ]
 refine wpAnyH_take (i:=61) (oi:=⟨some 67,_,_,_,_,_⟩) (v:=.slice va ts.length vc) rfl (by kernel_rfl) (by kernel_rfl) (by kernel_rfl) (fun _ _ _ h=>h) (Or.inl ⟨by rfl,fun W hW=>by have hcx:W.cell? ⟨(w.heap.size+1),8,none⟩=some (.slice va ts.length vc):=(hW.2).cell 8;go_simp⟩) hS ?_
 try simp only [Act.put,List.setIfInBounds_toArray,List.set_cons_zero,List.set_cons_succ]
 refine wpAnyH_take (i:=62) (oi:=⟨some 68,_,_,_,_,_⟩) (v:=.int .i64 (ts.length:Nat)) rfl (by kernel_rfl) (by kernel_rfl) (by kernel_rfl) (fun _ _ _ h=>h) (Or.inl ⟨by rfl,fun W _=>by go_simp⟩) hS ?_
 try simp only [Act.put,List.setIfInBounds_toArray,List.set_cons_zero,List.set_cons_succ]
 refine wpAnyH_take (i:=63) (oi:=⟨some 69,_,_,_,_,_⟩) (v:=.bool false) rfl (by kernel_rfl) (by kernel_rfl) (by kernel_rfl) (fun _ _ _ h=>h) (Or.inl ⟨by rfl,fun W _=>by go_simp⟩) hS ?_
 try simp only [Act.put,List.setIfInBounds_toArray,List.set_cons_zero,List.set_cons_succ]
 refine wpAnyH_take (i:=64) (oi:=⟨some 70,_,_,_,_,_⟩) (v:=.bool false) rfl (by kernel_rfl) (by kernel_rfl) (by kernel_rfl) (fun _ _ _ h=>h) (Or.inl ⟨by rfl,fun W _=>by go_simp⟩) hS ?_
 try simp only [Act.put,List.setIfInBounds_toArray,List.set_cons_zero,List.set_cons_succ]
 refine wpAnyH_done (by kernel_rfl) ?_ _
 clear hS
 have ca:wB.cell? ⟨w.heap.size,8,none⟩=some (.slice ua ts.length uc):=HPB.out.a.cell 8
 go_wp2_with fail
 go_loopg [74] ts.length (fun gk i wr=>zMs w w.heap.size (w.heap.size+1) [.int .i64 op,.int .i64 pl,.string x,.string y,.string an,.int .i64 am,.string bn,.int .i64 bm,.slice ua ts.length uc,.int .i64 to,.bool hs] [.int .i64 op,.int .i64 pl,.string x,.string y,.string an,.int .i64 am,.string bn,.int .i64 bm,.slice va ts.length vc,.int .i64 to,.bool hs] 101 106 ts.length gk i wr)
 case atStart=>exact ⟨0,by omega,by omega,rfl,HPB.out⟩
 case round =>
  obtain ⟨k,hk,hgk,rfl,hcm⟩:=hrel
  have HC:=zh hcm
  clear hcm
  by_cases hlt:k<ts.length
  ·rcases HFA.out with ⟨_,h0⟩|⟨ga,capa,hva,hga,hcapa,hcma,hgeta⟩
   ·rw [h0] at hlt;simp at hlt
   rcases HFB.out with ⟨_,h0⟩|⟨gb,capb,hvb,hgb,hcapb,hcmb,hgetb⟩
   ·rw [h0] at hlt;simp at hlt
   cases hva
   cases hvb
   obtain ⟨t,ht⟩:∃ t,ts[k]?=some t:=⟨ts[k],List.getElem?_eq_getElem hlt⟩
   obtain ⟨tn,tm⟩:=t
   have HRA:=zh (show w.rangeAt ga (k * 2) [.string tn,.int .i64 tm] from hgeta k _ ht)
   have HRB:=zh (show w.rangeAt gb (k * 2) [.string tn,.int .i64 tm] from hgetb k _ ht)
   have HGA:=zh hga
   have HGB:=zh hgb
   unfold maxLen at hcma hcmb
   clear hgeta hgetb ht hga hgb
   go_wp2_with fail
   refine wp_region_held_drew (S:=(fun W=>(Blk W w.heap.size [.int .i64 op,.int .i64 pl,.string x,.string y,.string an,.int .i64 am,.string bn,.int .i64 bm,.slice (some ⟨ga,0,none⟩) ts.length uc,.int .i64 to,.bool hs] 101∧Blk W (w.heap.size+1) [.int .i64 op,.int .i64 pl,.string x,.string y,.string an,.int .i64 am,.string bn,.int .i64 bm,.slice (some ⟨gb,0,none⟩) ts.length vc,.int .i64 to,.bool hs] 106)∧W.rangeAt ga (k * 2) [.string tn,.int .i64 tm]∧W.rangeAt gb (k * 2) [.string tn,.int .i64 tm])) (by kernel_rfl) ⟨⟨HC.out.drew.a,HC.out.drew.b⟩,zpa HRA.out HC.out.drew.l HGA.out,zpa HRB.out HC.out.drew.l HGB.out⟩ (fun hS=>?_)
   refine wpAnyH_take (i:=0) (oi:=⟨some 77,_,_,_,_,_⟩) (v:=.pointer (some ⟨w.heap.size,8,none⟩)) rfl (by kernel_rfl) (by kernel_rfl) (by kernel_rfl) (fun _ _ _ h=>h) (Or.inl ⟨by rfl,fun W _=>by go_simp⟩) hS ?_
   try simp only [Act.put,List.setIfInBounds_toArray,List.set_cons_zero,List.set_cons_succ]
   refine wpAnyH_take (i:=1) (oi:=⟨some 78,_,_,_,_,_⟩) (v:=.slice (some ⟨ga,0,none⟩) ts.length uc) rfl (by kernel_rfl) (by kernel_rfl) (by kernel_rfl) (fun _ _ _ h=>h) (Or.inl ⟨by rfl,fun W hW=>by have hcx:W.cell? ⟨w.heap.size,8,none⟩=some (.slice (some ⟨ga,0,none⟩) ts.length uc):=(hW.1.1).cell 8;go_simp⟩) hS ?_
   try simp only [Act.put,List.setIfInBounds_toArray,List.set_cons_zero,List.set_cons_succ]
   refine wpAnyH_take (i:=2) (oi:=⟨some 79,_,_,_,_,_⟩) (v:=.int .i64 k) rfl (by kernel_rfl) (by kernel_rfl) (by kernel_rfl) (fun _ _ _ h=>h) (Or.inl ⟨by rfl,fun W _=>by go_simp⟩) hS ?_
   try simp only [Act.put,List.setIfInBounds_toArray,List.set_cons_zero,List.set_cons_succ]
   refine wpAnyH_take (i:=3) (oi:=⟨some 80,_,_,_,_,_⟩) (v:=.pointer (some ⟨ga,k * 2,none⟩)) rfl (by kernel_rfl) (by kernel_rfl) (by kernel_rfl) (fun _ _ _ h=>h) (Or.inl ⟨by rfl,fun W _=>by go_simp⟩) hS ?_
   try simp only [Act.put,List.setIfInBounds_toArray,List.set_cons_zero,List.set_cons_succ]
   refine wpAnyH_take (i:=4) (oi:=⟨some 81,_,_,_,_,_⟩) (v:=.agg #[.string tn,.int .i64 tm]) rfl (by kernel_rfl) (by kernel_rfl) (by kernel_rfl) (fun _ _ _ h=>h) (yieldsIf_load_mid (cs:=[.string tn,.int .i64 tm]) (by rfl) 98 (.tmp 80) rfl (ga) (k * 2) (by go_simp) _ (fun W hW=>hW.2.1) Tryz.underlying98 rfl Tryz.zcc) hS ?_
   try simp only [Act.put,List.setIfInBounds_toArray,List.set_cons_zero,List.set_cons_succ]
   refine wpAnyH_take (i:=6) (oi:=⟨some 83,_,_,_,_,_⟩) (v:=.pointer (some ⟨(w.heap.size+1),8,none⟩)) rfl (by kernel_rfl) (by kernel_rfl) (by kernel_rfl) (fun _ _ _ h=>h) (Or.inl ⟨by rfl,fun W _=>by go_simp⟩) hS ?_
   try simp only [Act.put,List.setIfInBounds_toArray,List.set_cons_zero,List.set_cons_succ]
   refine wpAnyH_take (i:=7) (oi:=⟨some 84,_,_,_,_,_⟩) (v:=.slice (some ⟨gb,0,none⟩) ts.length vc) rfl (by kernel_rfl) (by kernel_rfl) (by kernel_rfl) (fun _ _ _ h=>h) (Or.inl ⟨by rfl,fun W hW=>by have hcx:W.cell? ⟨(w.heap.size+1),8,none⟩=some (.slice (some ⟨gb,0,none⟩) ts.length vc):=(hW.1.2).cell 8;go_simp⟩) hS ?_
   try simp only [Act.put,List.setIfInBounds_toArray,List.set_cons_zero,List.set_cons_succ]
   refine wpAnyH_take (i:=8) (oi:=⟨some 85,_,_,_,_,_⟩) (v:=.int .i64 k) rfl (by kernel_rfl) (by kernel_rfl) (by kernel_rfl) (fun _ _ _ h=>h) (Or.inl ⟨by rfl,fun W _=>by go_simp⟩) hS ?_
   try simp only [Act.put,List.setIfInBounds_toArray,List.set_cons_zero,List.set_cons_succ]
   refine wpAnyH_take (i:=9) (oi:=⟨some 86,_,_,_,_,_⟩) (v:=.pointer (some ⟨gb,k * 2,none⟩)) rfl (by kernel_rfl) (by kernel_rfl) (by kernel_rfl) (fun _ _ _ h=>h) (Or.inl ⟨by rfl,fun W _=>by go_simp⟩) hS ?_
   try simp only [Act.put,List.setIfInBounds_toArray,List.set_cons_zero,List.set_cons_succ]
   refine wpAnyH_take (i:=10) (oi:=⟨some 87,_,_,_,_,_⟩) (v:=.agg #[.string tn,.int .i64 tm]) rfl (by kernel_rfl) (by kernel_rfl) (by kernel_rfl) (fun _ _ _ h=>h) (yieldsIf_load_mid (cs:=[.string tn,.int .i64 tm]) (by rfl) 103 (.tmp 86) rfl (gb) (k * 2) (by go_simp) _ (fun W hW=>hW.2.2) Tryz.underlying103 rfl Tryz.zlb) hS ?_
   try simp only [Act.put,List.setIfInBounds_toArray,List.set_cons_zero,List.set_cons_succ]
   refine AnyH.only (i:=5) (o:=⟨some 82,_,_,_,_,_⟩) (by kernel_rfl) rfl (by rfl) (fun K hK=>?_)
   go_simp
   refine (zGi _ tn tm).mono ?_
   rintro e wc ⟨rfl,hb1⟩
   have HC2:=zh (HC.out.drew.call hb1)
   clear hb1 hS
   have hS:(Blk wc w.heap.size [.int .i64 op,.int .i64 pl,.string x,.string y,.string an,.int .i64 am,.string bn,.int .i64 bm,.slice (some ⟨ga,0,none⟩) ts.length uc,.int .i64 to,.bool hs] 101∧Blk wc (w.heap.size+1) [.int .i64 op,.int .i64 pl,.string x,.string y,.string an,.int .i64 am,.string bn,.int .i64 bm,.slice (some ⟨gb,0,none⟩) ts.length vc,.int .i64 to,.bool hs] 106)∧wc.rangeAt ga (k * 2) [.string tn,.int .i64 tm]∧wc.rangeAt gb (k * 2) [.string tn,.int .i64 tm]:=⟨⟨HC2.out.a,HC2.out.b⟩,zpa HRA.out HC2.out.l HGA.out,zpa HRB.out HC2.out.l HGB.out⟩
   refine hK.out _ _ hS ?_
   clear hK K
   try simp only [Act.put,List.setIfInBounds_toArray,List.set_cons_zero,List.set_cons_succ]
   refine wpAnyH_take (i:=11) (oi:=⟨some 88,_,_,_,_,_⟩) (v:=.bool false) rfl (by kernel_rfl) (by kernel_rfl) (by kernel_rfl) (fun _ _ _ h=>h) (Or.inl ⟨by rfl,fun W _=>by go_simp⟩) hS ?_
   try simp only [Act.put,List.setIfInBounds_toArray,List.set_cons_zero,List.set_cons_succ]
   refine wpAnyH_done (by kernel_rfl) ?_ _
   clear hS
   go_wp2_with fail
   go_roundg (gk-1)
   case measure=>omega
   case rel=>exact ⟨k+1,by omega,by omega,by go_num,HC2.out⟩
  ·go_wp2_with fail
   go_ret
   exact ⟨rfl,HC.out.l⟩
theorem zsj {w:World} {c:Cod} {S S':Nat→Prop} {pv lv qv mv:Value} (hp:zXb w c.params S pv) (hi:zGb w c.list S lv) (hq:zXb w c.params S' qv) (hm:zSa w c.list S' mv) (hl:∀ i∈c.list,i.args.length≤1000000) (hlp:c.params.length≤1000000) (hli:c.list.length≤1000000) :
  Calls Tryz.prog 21 #[zzq c pv lv,zzq c qv mv] w fun e w'=>e=.returned (.bool true)∧Below w.heap.size w w':=by
 obtain ⟨nm,ps,is⟩:=c
 have hp1:w.ownsRow 0 9 1 pv ps.length (strCells ps):=hp.1
 have hq1:w.ownsRow 0 9 1 qv ps.length (strCells ps):=hq.1
 have hi':zGb w is S lv:=hi
 have hm':zSa w is S' mv:=hm
 have hl':∀ i∈is,i.args.length≤1000000:=hl
 have hlp':ps.length≤1000000:=hlp
 have hli':is.length≤1000000:=hli
 obtain ⟨pa,pc,rfl⟩:=zgk hp1
 obtain ⟨qa,qc,rfl⟩:=zgk hq1
 obtain ⟨la,lc,rfl⟩:=hi'.slice
 obtain ⟨ma,mc,rfl⟩:=hm'.slice
 have HFP:=zh (zSm hp1)
 have HFQ:=zh (zSm hq1)
 have HFI:=zh hi'.form
 have HFM:=zh hm'.form
 have HL:=zh hl'
 clear hp hq hp1 hq1 hi hm hi' hm' hl hl' hlp hli
 obtain ⟨W0,hW0,HP⟩:∃ W,(w.alloc (.cells [.string nm,.slice pa ps.length pc,.slice la is.length lc].toArray 47)).alloc (.cells [.string nm,.slice qa ps.length qc,.slice ma is.length mc].toArray 51)=W∧Hid (zuk w w.heap.size (w.heap.size+1) [.string nm,.slice pa ps.length pc,.slice la is.length lc] [.string nm,.slice qa ps.length qc,.slice ma is.length mc] 47 51 W) :=
  ⟨_,rfl,zh ⟨(Blk.new w _ _).alloc _,Blk.zpc w _ _ _,((Below.refl _ _).alloc (Nat.le_refl _) _).alloc (by simp) _⟩⟩
 have a0:W0.cell? ⟨w.heap.size,0,none⟩=some (.string nm):=HP.out.a.cell 0
 have a1:W0.cell? ⟨w.heap.size,1,none⟩=some (.slice pa ps.length pc):=HP.out.a.cell 1
 have a2:W0.cell? ⟨w.heap.size,2,none⟩=some (.slice la is.length lc):=HP.out.a.cell 2
 have b0:W0.cell? ⟨w.heap.size+1,0,none⟩=some (.string nm):=HP.out.b.cell 0
 have b1:W0.cell? ⟨w.heap.size+1,1,none⟩=some (.slice qa ps.length qc):=HP.out.b.cell 1
 have b2:W0.cell? ⟨w.heap.size+1,2,none⟩=some (.slice ma is.length mc):=HP.out.b.cell 2
 unfold zzq
 simp only []
 go_enter Tryz.func21,Tryz.ntmps21
 go_wp2_with fail
 go_loopg [33] ps.length (fun gk i wr=>zMs w w.heap.size (w.heap.size+1) [.string nm,.slice pa ps.length pc,.slice la is.length lc] [.string nm,.slice qa ps.length qc,.slice ma is.length mc] 47 51 ps.length gk i wr)
 case atStart=>exact ⟨0,by omega,by omega,rfl,by first|exact HP.out|(have h:=HP.out;rw [← hW0] at h;exact h)⟩
 case round =>
  obtain ⟨k,hk,hgk,rfl,hcm⟩:=hrel
  have HC:=zh hcm
  clear hcm
  by_cases hlt:k<ps.length
  ·rcases HFP.out with ⟨_,h0⟩|⟨ga,capa,hva,hga,hcapa,hcma,hgeta⟩
   ·rw [h0] at hlt;simp at hlt
   rcases HFQ.out with ⟨_,h0⟩|⟨gb,capb,hvb,hgb,hcapb,hcmb,hgetb⟩
   ·rw [h0] at hlt;simp at hlt
   cases hva
   cases hvb
   obtain ⟨s,hs⟩:∃ s,ps[k]?=some s:=⟨ps[k],List.getElem?_eq_getElem hlt⟩
   have HRA:=zh (show w.rangeAt ga k [.string s] from fun j v hj=>by
    cases j with
    | zero=>simp only [List.getElem?_cons_zero,Option.some.injEq] at hj;rw [← hj];exact hgeta k s hs
    | succ j=>simp at hj)
   have HRB:=zh (show w.rangeAt gb k [.string s] from fun j v hj=>by
    cases j with
    | zero=>simp only [List.getElem?_cons_zero,Option.some.injEq] at hj;rw [← hj];exact hgetb k s hs
    | succ j=>simp at hj)
   have HGA:=zh hga
   have HGB:=zh hgb
   unfold maxLen at hcma hcmb
   clear hgeta hgetb hs hga hgb
   go_wp2_with fail
   refine wp_region_held_drew (S:=(fun W=>(Blk W w.heap.size [.string nm,.slice (some ⟨ga,0,none⟩) ps.length pc,.slice la is.length lc] 47∧Blk W (w.heap.size+1) [.string nm,.slice (some ⟨gb,0,none⟩) ps.length qc,.slice ma is.length mc] 51)∧W.rangeAt ga k [.string s]∧W.rangeAt gb k [.string s])) (by kernel_rfl) ⟨⟨HC.out.drew.a,HC.out.drew.b⟩,zpa HRA.out HC.out.drew.l HGA.out,zpa HRB.out HC.out.drew.l HGB.out⟩ (fun hS=>?_)
   refine wpAnyH_take (i:=0) (oi:=⟨some 36,_,_,_,_,_⟩) (v:=.pointer (some ⟨w.heap.size,1,none⟩)) rfl (by kernel_rfl) (by kernel_rfl) (by kernel_rfl) (fun _ _ _ h=>h) (Or.inl ⟨by rfl,fun W _=>by go_simp⟩) hS ?_
   try simp only [Act.put,List.setIfInBounds_toArray,List.set_cons_zero,List.set_cons_succ]
   refine wpAnyH_take (i:=1) (oi:=⟨some 37,_,_,_,_,_⟩) (v:=.slice (some ⟨ga,0,none⟩) ps.length pc) rfl (by kernel_rfl) (by kernel_rfl) (by kernel_rfl) (fun _ _ _ h=>h) (Or.inl ⟨by rfl,fun W hW=>by have hcx:W.cell? ⟨w.heap.size,1,none⟩=some (.slice (some ⟨ga,0,none⟩) ps.length pc):=(hW.1.1).cell 1;go_simp⟩) hS ?_
   try simp only [Act.put,List.setIfInBounds_toArray,List.set_cons_zero,List.set_cons_succ]
   refine wpAnyH_take (i:=2) (oi:=⟨some 38,_,_,_,_,_⟩) (v:=.int .i64 k) rfl (by kernel_rfl) (by kernel_rfl) (by kernel_rfl) (fun _ _ _ h=>h) (Or.inl ⟨by rfl,fun W _=>by go_simp⟩) hS ?_
   try simp only [Act.put,List.setIfInBounds_toArray,List.set_cons_zero,List.set_cons_succ]
   refine wpAnyH_take (i:=3) (oi:=⟨some 39,_,_,_,_,_⟩) (v:=.pointer (some ⟨ga,k,none⟩)) rfl (by kernel_rfl) (by kernel_rfl) (by kernel_rfl) (fun _ _ _ h=>h) (Or.inl ⟨by rfl,fun W _=>by go_simp⟩) hS ?_
   try simp only [Act.put,List.setIfInBounds_toArray,List.set_cons_zero,List.set_cons_succ]
   refine wpAnyH_take (i:=4) (oi:=⟨some 40,_,_,_,_,_⟩) (v:=.string s) rfl (by kernel_rfl) (by kernel_rfl) (by kernel_rfl) (fun _ _ _ h=>h) (Or.inl ⟨by rfl,fun W hW=>by have hcx:W.cell? ⟨ga,k,none⟩=some (.string s):=hW.2.1 0 _ rfl;go_simp⟩) hS ?_
   try simp only [Act.put,List.setIfInBounds_toArray,List.set_cons_zero,List.set_cons_succ]
   refine wpAnyH_take (i:=5) (oi:=⟨some 41,_,_,_,_,_⟩) (v:=.pointer (some ⟨(w.heap.size+1),1,none⟩)) rfl (by kernel_rfl) (by kernel_rfl) (by kernel_rfl) (fun _ _ _ h=>h) (Or.inl ⟨by rfl,fun W _=>by go_simp⟩) hS ?_
   try simp only [Act.put,List.setIfInBounds_toArray,List.set_cons_zero,List.set_cons_succ]
   refine wpAnyH_take (i:=6) (oi:=⟨some 42,_,_,_,_,_⟩) (v:=.slice (some ⟨gb,0,none⟩) ps.length qc) rfl (by kernel_rfl) (by kernel_rfl) (by kernel_rfl) (fun _ _ _ h=>h) (Or.inl ⟨by rfl,fun W hW=>by have hcx:W.cell? ⟨(w.heap.size+1),1,none⟩=some (.slice (some ⟨gb,0,none⟩) ps.length qc):=(hW.1.2).cell 1;go_simp⟩) hS ?_
   try simp only [Act.put,List.setIfInBounds_toArray,List.set_cons_zero,List.set_cons_succ]
   refine wpAnyH_take (i:=7) (oi:=⟨some 43,_,_,_,_,_⟩) (v:=.int .i64 k) rfl (by kernel_rfl) (by kernel_rfl) (by kernel_rfl) (fun _ _ _ h=>h) (Or.inl ⟨by rfl,fun W _=>by go_simp⟩) hS ?_
   try simp only [Act.put,List.setIfInBounds_toArray,List.set_cons_zero,List.set_cons_succ]
   refine wpAnyH_take (i:=8) (oi:=⟨some 44,_,_,_,_,_⟩) (v:=.pointer (some ⟨gb,k,none⟩)) rfl (by kernel_rfl) (by kernel_rfl) (by kernel_rfl) (fun _ _ _ h=>h) (Or.inl ⟨by rfl,fun W _=>by go_simp⟩) hS ?_
   try simp only [Act.put,List.setIfInBounds_toArray,List.set_cons_zero,List.set_cons_succ]
   refine wpAnyH_take (i:=9) (oi:=⟨some 45,_,_,_,_,_⟩) (v:=.string s) rfl (by kernel_rfl) (by kernel_rfl) (by kernel_rfl) (fun _ _ _ h=>h) (Or.inl ⟨by rfl,fun W hW=>by have hcx:W.cell? ⟨gb,k,none⟩=some (.string s):=hW.2.2 0 _ rfl;go_simp⟩) hS ?_
   try simp only [Act.put,List.setIfInBounds_toArray,List.set_cons_zero,List.set_cons_succ]
   refine wpAnyH_take (i:=10) (oi:=⟨some 46,_,_,_,_,_⟩) (v:=.bool false) rfl (by kernel_rfl) (by kernel_rfl) (by kernel_rfl) (fun _ _ _ h=>h) (Or.inl ⟨by rfl,fun W _=>by go_simp⟩) hS ?_
   try simp only [Act.put,List.setIfInBounds_toArray,List.set_cons_zero,List.set_cons_succ]
   refine wpAnyH_done (by kernel_rfl) ?_ _
   clear hS
   go_wp2_with fail
   go_roundg (gk-1)
   case measure=>omega
   case rel=>exact ⟨k+1,by omega,by omega,by go_num,HC.out.drew⟩
  ·have HC1:=zh HC.out
   have a2w:wr.cell? ⟨w.heap.size,2,none⟩=some (.slice la is.length lc):=HC1.out.a.cell 2
   clear HC
   go_wp2_with fail
   go_loopg [51] is.length (fun gk i wr=>zMs w w.heap.size (w.heap.size+1) [.string nm,.slice pa ps.length pc,.slice la is.length lc] [.string nm,.slice qa ps.length qc,.slice ma is.length mc] 47 51 is.length gk i wr)
   case atStart=>exact ⟨0,by omega,by omega,rfl,HC1.out⟩
   case round =>
    rename World=>wj
    obtain ⟨j,hj,hgj,rfl,hcm⟩:=hrel
    have HC:=zh hcm
    clear hcm
    by_cases hlj:j<is.length
    ·rcases HFI.out with ⟨_,h0⟩|⟨ga,capa,hva,hga,hcapa,hcma,hgeta⟩
     ·rw [h0] at hlj;simp at hlj
     rcases HFM.out with ⟨_,h0⟩|⟨gb,capb,hvb,hgb,hcapb,hcmb,hgetb⟩
     ·rw [h0] at hlj;simp at hlj
     cases hva
     cases hvb
     obtain ⟨i,hi⟩:∃ i,is[j]?=some i:=⟨is[j],List.getElem?_eq_getElem hlj⟩
     obtain ⟨u,hra,hua⟩:=hgeta j i hi
     obtain ⟨v,hrb,hvb2⟩:=hgetb j i hi
     have HRA:=zh hra
     have HRB:=zh hrb
     have HUA:=zh hua
     have HVB:=zh hvb2
     have HIL:=zh (HL.out i (List.mem_of_getElem? hi))
     have HGA:=zh hga
     have HGB:=zh hgb
     unfold maxLen at hcma hcmb
     clear hgeta hgetb hi hra hua hrb hvb2 hga hgb
     go_wp2_with fail
     refine wp_region_held_drew (S:=(fun W=>(Blk W w.heap.size [.string nm,.slice pa ps.length pc,.slice (some ⟨ga,0,none⟩) is.length lc] 47∧Blk W (w.heap.size+1) [.string nm,.slice qa ps.length qc,.slice (some ⟨gb,0,none⟩) is.length mc] 51)∧W.rangeAt ga (j * 11) (zea i u)∧W.rangeAt gb (j * 11) (zea i v))) (by kernel_rfl) ⟨⟨HC.out.drew.a,HC.out.drew.b⟩,zpa HRA.out HC.out.drew.l HGA.out,zpa HRB.out HC.out.drew.l HGB.out⟩ (fun hS=>?_)
     refine wpAnyH_take (i:=0) (oi:=⟨some 54,_,_,_,_,_⟩) (v:=.pointer (some ⟨w.heap.size,2,none⟩)) rfl (by kernel_rfl) (by kernel_rfl) (by kernel_rfl) (fun _ _ _ h=>h) (Or.inl ⟨by rfl,fun W _=>by go_simp⟩) hS ?_
     try simp only [Act.put,List.setIfInBounds_toArray,List.set_cons_zero,List.set_cons_succ]
     refine wpAnyH_take (i:=1) (oi:=⟨some 55,_,_,_,_,_⟩) (v:=.slice (some ⟨ga,0,none⟩) is.length lc) rfl (by kernel_rfl) (by kernel_rfl) (by kernel_rfl) (fun _ _ _ h=>h) (Or.inl ⟨by rfl,fun W hW=>by have hcx:W.cell? ⟨w.heap.size,2,none⟩=some (.slice (some ⟨ga,0,none⟩) is.length lc):=(hW.1.1).cell 2;go_simp⟩) hS ?_
     try simp only [Act.put,List.setIfInBounds_toArray,List.set_cons_zero,List.set_cons_succ]
     refine wpAnyH_take (i:=2) (oi:=⟨some 56,_,_,_,_,_⟩) (v:=.int .i64 j) rfl (by kernel_rfl) (by kernel_rfl) (by kernel_rfl) (fun _ _ _ h=>h) (Or.inl ⟨by rfl,fun W _=>by go_simp⟩) hS ?_
     try simp only [Act.put,List.setIfInBounds_toArray,List.set_cons_zero,List.set_cons_succ]
     refine wpAnyH_take (i:=3) (oi:=⟨some 57,_,_,_,_,_⟩) (v:=.pointer (some ⟨ga,j * 11,none⟩)) rfl (by kernel_rfl) (by kernel_rfl) (by kernel_rfl) (fun _ _ _ h=>h) (Or.inl ⟨by rfl,fun W _=>by go_simp⟩) hS ?_
     try simp only [Act.put,List.setIfInBounds_toArray,List.set_cons_zero,List.set_cons_succ]
     refine wpAnyH_take (i:=4) (oi:=⟨some 58,_,_,_,_,_⟩) (v:=.agg (zea i u).toArray) rfl (by kernel_rfl) (by kernel_rfl) (by kernel_rfl) (fun _ _ _ h=>h) (yieldsIf_load_mid (cs:=zea i u) (by rfl) 101 (.tmp 57) rfl (ga) (j * 11) (by go_simp) _ (fun W hW=>hW.2.1) Tryz.underlying101 rfl Tryz.zza) hS ?_
     try simp only [Act.put,List.setIfInBounds_toArray,List.set_cons_zero,List.set_cons_succ]
     refine wpAnyH_take (i:=5) (oi:=⟨some 59,_,_,_,_,_⟩) (v:=.pointer (some ⟨(w.heap.size+1),2,none⟩)) rfl (by kernel_rfl) (by kernel_rfl) (by kernel_rfl) (fun _ _ _ h=>h) (Or.inl ⟨by rfl,fun W _=>by go_simp⟩) hS ?_
     try simp only [Act.put,List.setIfInBounds_toArray,List.set_cons_zero,List.set_cons_succ]
     refine wpAnyH_take (i:=6) (oi:=⟨some 60,_,_,_,_,_⟩) (v:=.slice (some ⟨gb,0,none⟩) is.length mc) rfl (by kernel_rfl) (by kernel_rfl) (by kernel_rfl) (fun _ _ _ h=>h) (Or.inl ⟨by rfl,fun W hW=>by have hcx:W.cell? ⟨(w.heap.size+1),2,none⟩=some (.slice (some ⟨gb,0,none⟩) is.length mc):=(hW.1.2).cell 2;go_simp⟩) hS ?_
     try simp only [Act.put,List.setIfInBounds_toArray,List.set_cons_zero,List.set_cons_succ]
     refine wpAnyH_take (i:=7) (oi:=⟨some 61,_,_,_,_,_⟩) (v:=.int .i64 j) rfl (by kernel_rfl) (by kernel_rfl) (by kernel_rfl) (fun _ _ _ h=>h) (Or.inl ⟨by rfl,fun W _=>by go_simp⟩) hS ?_
     try simp only [Act.put,List.setIfInBounds_toArray,List.set_cons_zero,List.set_cons_succ]
     refine wpAnyH_take (i:=8) (oi:=⟨some 62,_,_,_,_,_⟩) (v:=.pointer (some ⟨gb,j * 11,none⟩)) rfl (by kernel_rfl) (by kernel_rfl) (by kernel_rfl) (fun _ _ _ h=>h) (Or.inl ⟨by rfl,fun W _=>by go_simp⟩) hS ?_
     try simp only [Act.put,List.setIfInBounds_toArray,List.set_cons_zero,List.set_cons_succ]
     refine wpAnyH_take (i:=9) (oi:=⟨some 63,_,_,_,_,_⟩) (v:=.agg (zea i v).toArray) rfl (by kernel_rfl) (by kernel_rfl) (by kernel_rfl) (fun _ _ _ h=>h) (yieldsIf_load_mid (cs:=zea i v) (by rfl) 106 (.tmp 62) rfl (gb) (j * 11) (by go_simp) _ (fun W hW=>hW.2.2) Tryz.underlying106 rfl Tryz.zua) hS ?_
     try simp only [Act.put,List.setIfInBounds_toArray,List.set_cons_zero,List.set_cons_succ]
     refine AnyH.only (i:=10) (o:=⟨some 64,_,_,_,_,_⟩) (by kernel_rfl) rfl (by rfl) (fun K hK=>?_)
     go_simp
     refine (zVi (HUA.out.below HC.out.drew.l) (HVB.out.below HC.out.drew.l) HIL.out).mono ?_
     rintro e wc ⟨rfl,hb1⟩
     have HC2:=zh (HC.out.drew.call hb1)
     clear hb1 hS
     have hS:(Blk wc w.heap.size [.string nm,.slice pa ps.length pc,.slice (some ⟨ga,0,none⟩) is.length lc] 47∧Blk wc (w.heap.size+1) [.string nm,.slice qa ps.length qc,.slice (some ⟨gb,0,none⟩) is.length mc] 51)∧wc.rangeAt ga (j * 11) (zea i u)∧wc.rangeAt gb (j * 11) (zea i v):=⟨⟨HC2.out.a,HC2.out.b⟩,zpa HRA.out HC2.out.l HGA.out,zpa HRB.out HC2.out.l HGB.out⟩
     refine hK.out _ _ hS ?_
     clear hK K
     try simp only [Act.put,List.setIfInBounds_toArray,List.set_cons_zero,List.set_cons_succ]
     refine wpAnyH_take (i:=11) (oi:=⟨some 65,_,_,_,_,_⟩) (v:=.bool false) rfl (by kernel_rfl) (by kernel_rfl) (by kernel_rfl) (fun _ _ _ h=>h) (Or.inl ⟨by rfl,fun W _=>by go_simp⟩) hS ?_
     try simp only [Act.put,List.setIfInBounds_toArray,List.set_cons_zero,List.set_cons_succ]
     refine wpAnyH_done (by kernel_rfl) ?_ _
     clear hS
     go_wp2_with fail
     go_roundg (gk-1)
     case measure=>omega
     case rel=>exact ⟨j+1,by omega,by omega,by go_num,HC2.out⟩
    ·go_wp2_with fail
     go_ret
     exact ⟨rfl,HC.out.l⟩
end Go.Proofs.YthdbmgijpelecaaGreatDoor
