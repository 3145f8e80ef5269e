/- The closure by which show's writer shows a kid, given that show is known for smaller trees. -/
import Derived.Test.YthdbmgijpelecaaGreatDoorZ15
import Derived.Test.YthdbmgijpelecaaGreatDoorZ13
namespace Go.Proofs.YthdbmgijpelecaaGreatDoor
set_option maxRecDepth 100000
set_option maxHeartbeats 2000000
open Go.RowKit
def ztb (n:Nat):Prop:=∀ (t:T) (B g:Nat) (l:List UInt8) (d:Nat) (kv:Value) (w:World),t.size≤n→zsc B g l d w→zPd B w→KAt 25 w t.kids (fun b=>b<B) kv→t.whole→t.small→t.size≤5000→l.length+(shw d t).length≤140737488355328 →
 Calls Tryz.prog 31 #[.pointer (some ⟨g,0,none⟩),.agg #[.int .i64 t.kind,.string t.text,.int .i64 t.num,.int .i64 t.place,kv]] w (zka B g (l++shw d t) d w)
theorem zCb {n:Nat} (ih:ztb n) {t:T} (ht:t.size≤n+1) (hz:t.size≤5000) (hw:t.whole) (hs:t.small) (B g c1 c2:Nat) (kv:Value):zfb B g c1 c2 t kv:=by
 intro W l d i u hn hu hl
 have hks:=zhh hu
 have hts:t.size=1+sizes t.kids:=by cases t;rw [size_mk];rfl
 have huw:u.whole:=zWh (zHn.1 hw).2 (List.mem_of_getElem? hu)
 have hus:u.small:=by cases t;exact zTh (zGa.1 hs).2 (List.mem_of_getElem? hu)
 have hil:i<t.kids.length:=(List.getElem?_eq_some_iff.1 hu).1
 have hll:=zua t.kids
 rcases hn.k.form with ⟨_,h0⟩|⟨gk,cap,rfl,hg,hcap,hcm,hget⟩
 ·rw [h0] at hu;simp at hu
 obtain ⟨x,hr,hT⟩:=hget i u hu
 have HN:=zh hn
 have HL:=zh hl
 have hgB:gk<B:=by
  obtain ⟨_,_,hSS,_⟩:=hn.k
  exact hSS gk rfl
 have HR:=zh (show ∀ W',Below B W W'→W'.rangeAt gk (i * 5) (zaa u x) from fun W' hb j v hj=>(hb.cell (p:=⟨gk,i * 5+j,none⟩) hgB).trans (hr j v hj))
 have HT:=zh hT
 have HU:=zh (show u.size≤n∧u.size≤5000∧u.whole∧u.small from ⟨by omega,by omega,huw,hus⟩)
 have HIH:=zh ih
 clear hn hu hl hks hts huw hus hget hr hT ih hs hw
 unfold maxLen at hcm
 go_enter Tryz.func57,Tryz.ntmps57
 go_wp2_with fail
 refine wp_region_held_drew (S:=fun W'=>Blk W' c1 [.pointer (some ⟨g,0,none⟩)] 72∧Blk W' c2 (zaa t (.slice (some ⟨gk,0,none⟩) t.kids.length cap)) 25∧W'.rangeAt gk (i * 5) (zaa u x)) (by kernel_rfl) ⟨HN.out.p.drew,HN.out.n.drew,HR.out _ (Below.refl _ _).drew⟩ (fun hS=>?_)
 refine wpAnyH_take (i:=0) (oi:=⟨some 4,_,_,_,_,_⟩) (v:=.pointer (some ⟨g,0,none⟩)) rfl (by kernel_rfl) (by kernel_rfl) (by kernel_rfl) (fun _ _ _ h=>h) (Or.inl ⟨by rfl,fun W hW=>by have hcx:W.cell? ⟨c1,0,none⟩=some (.pointer (some ⟨g,0,none⟩)):=hW.1.cell 0;go_simp⟩) hS ?_
 try simp only [Act.put,List.setIfInBounds_toArray,List.set_cons_zero,List.set_cons_succ]
 refine wpAnyH_take (i:=1) (oi:=⟨some 5,_,_,_,_,_⟩) (v:=.pointer (some ⟨c2,4,none⟩)) rfl (by kernel_rfl) (by kernel_rfl) (by kernel_rfl) (fun _ _ _ h=>h) (Or.inl ⟨by rfl,fun W _=>by go_simp⟩) hS ?_
 try simp only [Act.put,List.setIfInBounds_toArray,List.set_cons_zero,List.set_cons_succ]
 refine wpAnyH_take (i:=2) (oi:=⟨some 6,_,_,_,_,_⟩) (v:=.slice (some ⟨gk,0,none⟩) t.kids.length cap) rfl (by kernel_rfl) (by kernel_rfl) (by kernel_rfl) (fun _ _ _ h=>h) (Or.inl ⟨by rfl,fun W hW=>by have hcx:W.cell? ⟨c2,4,none⟩=some (.slice (some ⟨gk,0,none⟩) t.kids.length cap):=hW.2.1.cell 4;go_simp⟩) hS ?_
 try simp only [Act.put,List.setIfInBounds_toArray,List.set_cons_zero,List.set_cons_succ]
 refine wpAnyH_take (i:=3) (oi:=⟨some 7,_,_,_,_,_⟩) (v:=.int .i64 i) rfl (by kernel_rfl) (by kernel_rfl) (by kernel_rfl) (fun _ _ _ h=>h) (Or.inl ⟨by rfl,fun W _=>by go_simp⟩) hS ?_
 try simp only [Act.put,List.setIfInBounds_toArray,List.set_cons_zero,List.set_cons_succ]
 refine wpAnyH_take (i:=4) (oi:=⟨some 8,_,_,_,_,_⟩) (v:=.pointer (some ⟨gk,i * 5,none⟩)) rfl (by kernel_rfl) (by kernel_rfl) (by kernel_rfl) (fun _ _ _ h=>h) (Or.inl ⟨by rfl,fun W _=>by go_simp⟩) hS ?_
 try simp only [Act.put,List.setIfInBounds_toArray,List.set_cons_zero,List.set_cons_succ]
 refine wpAnyH_take (i:=5) (oi:=⟨some 9,_,_,_,_,_⟩) (v:=.agg #[.int .i64 u.kind,.string u.text,.int .i64 u.num,.int .i64 u.place,x]) rfl (by kernel_rfl) (by kernel_rfl) (by kernel_rfl) (fun _ _ _ h=>h) (yieldsIf_load_mid (cs:=zaa u x) (by rfl) 25 (.tmp 8) rfl (gk) (i * 5) (by go_simp) _ (fun W hW=>hW.2.2) Tryz.underlying25 rfl Tryz.zda) hS ?_
 try simp only [Act.put,List.setIfInBounds_toArray,List.set_cons_zero,List.set_cons_succ]
 refine AnyH.only (i:=6) (o:=⟨some 10,_,_,_,_,_⟩) (by kernel_rfl) rfl (by rfl) (fun K hK=>?_)
 go_simp
 refine (HIH.out u B g l d x W.drew HU.out.1 (HN.out.st.below (Below.refl _ _).drew) (HN.out.t.step (Below.refl _ _).drew) (HT.out.kat.keep fun b hb _=>⟨hb,rfl⟩) HU.out.2.2.1 HU.out.2.2.2 HU.out.2.1 HL.out).mono ?_
 rintro e w2 ⟨rfl,hs2,hb2,ho2⟩
 have hb3:Below B W w2:=((Below.refl B W).drew).trans hb2
 have ho3:Oth g W w2:=(Oth.refl g W).drew.trans ho2
 have HN2:=zh (HN.out.step hs2 hb3 ho3)
 have HP:=zh (show zka B g (l++shw d u) d W (.returned (.tuple #[])) w2 from ⟨rfl,hs2,hb3,ho3⟩)
 have HR2:=zh (HR.out w2 hb3)
 clear hs2 hb2 ho2 hb3 ho3
 refine hK.out _ _ ⟨HN2.out.p,HN2.out.n,HR2.out⟩ ?_
 clear hK K
 try simp only [Act.put,List.setIfInBounds_toArray,List.set_cons_zero,List.set_cons_succ]
 refine wpAnyH_done (by kernel_rfl) ?_ _
 go_end0
 exact HP.out
end Go.Proofs.YthdbmgijpelecaaGreatDoor
