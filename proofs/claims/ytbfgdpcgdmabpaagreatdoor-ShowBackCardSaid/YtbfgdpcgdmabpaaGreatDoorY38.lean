/- The contract of lychgate/lychgatelaw03.alike: whether two trees in memory are alike; nothing that was there is changed. -/
import Derived.Test.YtbfgdpcgdmabpaaGreatDoorY37
import Derived.Test.YtbfgdpcgdmabpaaGreatDoorY33
import Derived.Test.YtbfgdpcgdmabpaaGreatDoorY14
namespace Go.Proofs.YtbfgdpcgdmabpaaGreatDoor
set_option maxRecDepth 100000
set_option maxHeartbeats 4000000
open Go.RowKit
structure zkq (w:World) (t u:T) (kv ku:Value) (W:World):Prop where
 below:Below w.heap.size w W
 one:Blk W w.heap.size (zaa t kv) 34
 two:Blk W (w.heap.size+1) (zaa u ku) 34
section
variable {w W W':World} {t u:T} {kv ku:Value}
theorem zkq.drew (h:zkq w t u kv ku W):zkq w t u kv ku W.drew:=⟨h.below.drew,h.one.drew,h.two.drew⟩
theorem zkq.call (h:zkq w t u kv ku W) (hb:Below W.heap.size W W'):zkq w t u kv ku W':=⟨h.below.trans (hb.mono h.below.size),h.one.below hb,h.two.below hb⟩
theorem zkq.lt (h:zkq w t u kv ku W):w.heap.size+1<W.heap.size:=h.two.lt
end
theorem zNr (w:World) (t u:T) (kv ku:Value):zkq w t u kv ku ((w.alloc (.cells (zaa t kv).toArray 34)).alloc (.cells (zaa u ku).toArray 34)) :=
 ⟨((Below.refl _ _).alloc (Nat.le_refl _) _).alloc (by simp) _,(Blk.new w _ _).alloc _,Blk.zCe w _ _ _⟩
def zpv (b:Bool) (w:World) (t u:T) (kv ku:Value) (g:Nat) (i:Value) (wr:World):Prop :=
 ∃ k:Nat,k≤t.kids.length∧t.kids.length≤k+g∧i=.int .i64 k∧zHc b t.kids u.kids=zHc b (t.kids.drop k) (u.kids.drop k)∧zkq w t u kv ku wr
theorem world2 (w:World) (o p:Obj):Below w.heap.size w ((w.alloc o).alloc p):=((Below.refl _ _).alloc (Nat.le_refl _) _).alloc (by simp) _
theorem alike_any:∀ (n:Nat) (t u:T) (b:Bool),t.size≤n→∀ {w:World} {S S':Nat→Prop} {kv ku:Value},KAt 34 w t.kids S kv→KAt 34 w u.kids S' ku→t.kids.length≤1000000→u.kids.length≤1000000→t.size≤1000000→u.size≤1000000 →
  Calls Tryz.prog 12 #[zmb t kv,zmb u ku,.bool b] w fun e w'=>e=.returned (.bool (zQc b t u))∧Below w.heap.size w w':=by
 intro n
 induction n with
 | zero=>intro t u b ht;cases t;rw [size_mk] at ht;omega
 | succ n ih =>
  intro t u b ht w S S' kv ku hk hk2 hl1 hl2 hz1 hz2
  obtain ⟨a1,c1,rfl⟩:=hk.len
  obtain ⟨a2,c2,rfl⟩:=hk2.len
  have HK:=zh hk
  have HK2:=zh hk2
  have HT:=zh ht
  have HZ1:=zh hz1
  have HZ2:=zh hz2
  have HIH:=zh (@ih)
  have hts:t.size=1+sizes t.kids:=by cases t;rw [size_mk];rfl
  have hus:u.size=1+sizes u.kids:=by cases u;rw [size_mk];rfl
  have HTS:=zh hts
  have HUS:=zh hus
  have HNEW:=zh (zNr w t u (.slice a1 t.kids.length c1) (.slice a2 u.kids.length c2))
  clear hk hk2 ht ih hts hus hz1 hz2
  cases h1:(t.kind != u.kind) with
  | true =>
   have HF:=zh (zNn (b:=b) h1)
   unfold zmb
   go_enter Tryz.func12,Tryz.ntmps12
   go_wp2_with fail
   go_ret
   exact ⟨zXb HF.out.symm,world2 _ _ _⟩
  | false =>
  cases h2:(t.text.toList == u.text.toList) with
  | false =>
   have HF:=zh (zAn (b:=b) h2)
   unfold zmb
   go_enter Tryz.func12,Tryz.ntmps12
   go_wp2_with fail
   go_ret
   exact ⟨zXb HF.out.symm,world2 _ _ _⟩
  | true =>
  cases h3:(t.num != u.num) with
  | true =>
   have HF:=zh (znp (b:=b) h3)
   unfold zmb
   go_enter Tryz.func12,Tryz.ntmps12
   go_wp2_with fail
   go_ret
   exact ⟨zXb HF.out.symm,world2 _ _ _⟩
  | false =>
  by_cases h4:b=true∧t.place≠u.place
  ·obtain ⟨rfl,hpp⟩:=h4
   have HF:=zh (zim (bne_iff_ne.2 hpp))
   have hp1:((t.place:Int) != (u.place:Int))=true:=by simp;omega
   unfold zmb
   go_enter Tryz.func12,Tryz.ntmps12
   go_wp2_with fail
   go_ret
   exact ⟨zXb HF.out.symm,world2 _ _ _⟩
  ·have hpl:b=true→t.place=u.place:=fun hb=>Classical.byContradiction fun hn=>h4 ⟨hb,hn⟩
   by_cases h5:t.kids.length=u.kids.length
   case neg =>
    have HF:=zh (zqo (b:=b) (bne_iff_ne.2 h5))
    have hl:((t.kids.length:Int) != (u.kids.length:Int))=true:=by simp;omega
    cases b with
    | true =>
     have hp1:((t.place:Int) != (u.place:Int))=false:=by rw [hpl rfl];simp
     clear h4 hpl h5
     unfold zmb
     go_enter Tryz.func12,Tryz.ntmps12
     go_wp2_with fail
     go_ret
     exact ⟨zXb HF.out.symm,world2 _ _ _⟩
    | false =>
     clear h4 hpl h5
     unfold zmb
     go_enter Tryz.func12,Tryz.ntmps12
     go_wp2_with fail
     go_ret
     exact ⟨zXb HF.out.symm,world2 _ _ _⟩
   case pos =>
    have HAL:=zh (zCn h1 h2 h3 (fun hb=>by rw [hpl hb];simp) (by rw [h5];simp:(t.kids.length != u.kids.length)=false))
    have hl:((t.kids.length:Int) != (u.kids.length:Int))=false:=by rw [h5];simp
    have H5:=zh h5
    have hbp:b=false∨(b=true∧((t.place:Int) != (u.place:Int))=false):=by
     cases b
     ·exact .inl rfl
     ·exact .inr ⟨rfl,by rw [hpl rfl];simp⟩
    clear h4 hpl h5
    by_cases h0:t.kids.length=0
    ·have HE:=zh (show zQc b t u=true by rw [HAL.out,List.eq_nil_of_length_eq_zero h0,zmh])
     rw [← H5.out,h0] at *
     clear h0 HNEW HK HK2
     rcases hbp with rfl|⟨rfl,hp1⟩
     all_goals
      unfold zmb
      go_enter Tryz.func12,Tryz.ntmps12
      go_wp2_with fail
      refine wp_loop_rounds 1 ?_
      rw [rounds_succ]
      go_wp2_with fail
      go_ret
      exact ⟨zXb HE.out.symm,world2 _ _ _⟩
    ·have hform1:=HK.out.form
     have hform2:=HK2.out.form
     rcases hform1 with ⟨_,hn⟩|⟨g,cap,hs1,hg,hcap,hcm,hget⟩
     ·rw [hn] at h0;exact absurd rfl h0
     rcases hform2 with ⟨_,hn⟩|⟨g2,cap2,hs2,hg2,hcap2,hcm2,hget2⟩
     ·have:=H5.out;rw [hn] at this;exact absurd this h0
     cases hs1
     cases hs2
     have HG:=zh hget
     have HG2:=zh hget2
     have HHG:=zh hg
     have HHG2:=zh hg2
     have HCAP:=zh hcap
     have HCAP2:=zh hcap2
     clear hget hget2 hg hg2 hcap hcap2 HK HK2 h0
     unfold maxLen at hcm hcm2
     rcases hbp with rfl|⟨rfl,hp1⟩
     ·
      unfold zmb
      go_enter Tryz.func12,Tryz.ntmps12
      go_wp2_with fail
      go_loopg [49] t.kids.length (fun gk i wr=>zpv false w t u (.slice (some ⟨g,0,none⟩) t.kids.length c1) (.slice (some ⟨g2,0,none⟩) u.kids.length c2) gk i wr)
      case atStart=>exact ⟨0,by omega,by omega,rfl,rfl,HNEW.out⟩
      case round =>
       obtain ⟨k,hk,hgk,rfl,hrest,hst⟩:=hrel
       have HS:=zh hst
       have HR:=zh hrest
       have hzw:=hst.lt
       clear hst hrest
       by_cases hlt:k<t.kids.length
       ·have hlt2:k<u.kids.length:=by have:=H5.out;omega
        obtain ⟨x1,hr1,hT1⟩:=HG.out k t.kids[k] (List.getElem?_eq_getElem hlt)
        obtain ⟨x2,hr2,hT2⟩:=HG2.out k u.kids[k] (List.getElem?_eq_getElem hlt2)
        have hne:=List.getElem?_eq_getElem hlt
        have hne2:=List.getElem?_eq_getElem hlt2
        generalize t.kids[k]=tk at hr1 hT1 hne
        generalize u.kids[k]=uk at hr2 hT2 hne2
        have HR1:=zh (zyb hr1 HS.out.below HHG.out)
        have HR2:=zh (zyb hr2 HS.out.below HHG2.out)
        have HT1:=zh (hT1.below HS.out.below)
        have HT2:=zh (hT2.below HS.out.below)
        have HD:=zh (zSi (b:=false) hne hne2)
        have hks1:=zle hne
        have hks2:=zle hne2
        have hcap:=HCAP.out
        have hcap2:=HCAP2.out
        have HL1:=zh (zhi tk)
        have HL2:=zh (zhi uk)
        have i1:(0:Int)≤(k:Int):=by omega
        have i2:((k:Int)<(t.kids.length:Int)):=by omega
        have i3:((k:Int)<(u.kids.length:Int)):=by omega
        clear hr1 hr2 hT1 hT2 hne hne2
        go_wp2_with fail
        refine wp_region_held_drew (S:=fun W=>Blk W w.heap.size (zaa t (.slice (some ⟨g,0,none⟩) t.kids.length c1)) 34∧Blk W (w.heap.size+1) (zaa u (.slice (some ⟨g2,0,none⟩) u.kids.length c2)) 34∧W.rangeAt g (k * 5) (zaa tk x1)∧W.rangeAt g2 (k * 5) (zaa uk x2)) (by kernel_rfl) ⟨HS.out.one.drew,HS.out.two.drew,HR1.out,HR2.out⟩ (fun hS=>?_)
        refine wpAnyH_take (i:=0) (v:=.pointer (some ⟨w.heap.size,4,none⟩)) rfl (by kernel_rfl) (by kernel_rfl) (by kernel_rfl) (fun _ _ _ h=>h) (Or.inl ⟨by rfl,fun W _=>by go_simp⟩) hS ?_
        refine wpAnyH_take (i:=1) (v:=.slice (some ⟨g,0,none⟩) t.kids.length c1) rfl (by kernel_rfl) (by kernel_rfl) (by kernel_rfl) (fun _ _ _ h=>h) (Or.inl ⟨by rfl,fun W hW=>by have hcx:W.cell? ⟨w.heap.size,4,none⟩=some (.slice (some ⟨g,0,none⟩) t.kids.length c1):=hW.1.cell 4;go_simp⟩) hS ?_
        refine wpAnyH_take (i:=2) (v:=.int .i64 k) rfl (by kernel_rfl) (by kernel_rfl) (by kernel_rfl) (fun _ _ _ h=>h) (Or.inl ⟨by rfl,fun W _=>by go_simp⟩) hS ?_
        refine wpAnyH_take (i:=3) (v:=.pointer (some ⟨g,k * 5,none⟩)) rfl (by kernel_rfl) (by kernel_rfl) (by kernel_rfl) (fun _ _ _ h=>h) (Or.inl ⟨by rfl,fun W _=>by go_simp⟩) hS ?_
        refine wpAnyH_take (i:=4) (v:=.agg (zaa tk x1).toArray) rfl (by kernel_rfl) (by kernel_rfl) (by kernel_rfl) (fun _ _ _ h=>h) (yieldsIf_load_mid (cs:=zaa tk x1) (by rfl) 34 (.tmp 55) rfl g (k * 5) (by go_simp) _ (fun W hW j v hj=>hW.2.2.1 j v hj) Tryz.underlying34 rfl Tryz.zqe) hS ?_
        refine wpAnyH_take (i:=5) (v:=.pointer (some ⟨w.heap.size+1,4,none⟩)) rfl (by kernel_rfl) (by kernel_rfl) (by kernel_rfl) (fun _ _ _ h=>h) (Or.inl ⟨by rfl,fun W _=>by go_simp⟩) hS ?_
        refine wpAnyH_take (i:=6) (v:=.slice (some ⟨g2,0,none⟩) u.kids.length c2) rfl (by kernel_rfl) (by kernel_rfl) (by kernel_rfl) (fun _ _ _ h=>h) (Or.inl ⟨by rfl,fun W hW=>by have hcx:W.cell? ⟨w.heap.size+1,4,none⟩=some (.slice (some ⟨g2,0,none⟩) u.kids.length c2):=hW.2.1.cell 4;go_simp⟩) hS ?_
        refine wpAnyH_take (i:=7) (v:=.int .i64 k) rfl (by kernel_rfl) (by kernel_rfl) (by kernel_rfl) (fun _ _ _ h=>h) (Or.inl ⟨by rfl,fun W _=>by go_simp⟩) hS ?_
        refine wpAnyH_take (i:=8) (v:=.pointer (some ⟨g2,k * 5,none⟩)) rfl (by kernel_rfl) (by kernel_rfl) (by kernel_rfl) (fun _ _ _ h=>h) (Or.inl ⟨by rfl,fun W _=>by go_simp⟩) hS ?_
        refine wpAnyH_take (i:=9) (v:=.agg (zaa uk x2).toArray) rfl (by kernel_rfl) (by kernel_rfl) (by kernel_rfl) (fun _ _ _ h=>h) (yieldsIf_load_mid (cs:=zaa uk x2) (by rfl) 34 (.tmp 60) rfl g2 (k * 5) (by go_simp) _ (fun W hW j v hj=>hW.2.2.2 j v hj) Tryz.underlying34 rfl Tryz.zqe) hS ?_
        refine AnyH.one (i:=10) (by kernel_rfl) rfl (by rfl) (fun K hK=>?_)
        go_simp
        refine hK.out _ _ hS ?_
        clear hK K
        refine AnyH.one (i:=11) (by kernel_rfl) rfl (by rfl) (fun K hK=>?_)
        go_simp
        refine (HIH.out tk uk false (by have h2:=HTS.out;have h3:=HT.out;omega) (HT1.out.drew).kat (HT2.out.drew).kat (by have:=HL1.out;have:=HTS.out;have:=HZ1.out;omega) (by have:=HL2.out;have:=HUS.out;have:=HZ2.out;omega) (by have:=HTS.out;have:=HZ1.out;omega) (by have:=HUS.out;have:=HZ2.out;omega)).mono ?_
        rintro e w3 ⟨rfl,hb3⟩
        have HS3:=zh (HS.out.drew.call hb3)
        have HR13:=zh (zyb (w:=wr.drew) HR1.out hb3 (by have:=HHG.out;have:=HS.out.below.size;show g<wr.heap.size;omega))
        have HR23:=zh (zyb (w:=wr.drew) HR2.out hb3 (by have:=HHG2.out;have:=HS.out.below.size;show g2<wr.heap.size;omega))
        clear hb3
        refine hK.out _ _ ⟨HS3.out.one,HS3.out.two,HR13.out,HR23.out⟩ ?_
        clear hK K
        refine AnyH.one (i:=12) (by kernel_rfl) rfl (by rfl) (fun K hK=>?_)
        go_simp
        refine hK.out _ _ ⟨HS3.out.one,HS3.out.two,HR13.out,HR23.out⟩ ?_
        clear hK K
        refine wpAnyH_done (by kernel_rfl) ?_ _
        clear hS
        cases hq:zQc false tk uk with
        | false =>
         have HF:=zh (show zQc false t u=false by rw [HAL.out,HR.out,HD.out,hq];rfl)
         go_wp2
         go_ret
         exact ⟨zXb HF.out.symm,HS3.out.below⟩
        | true =>
         have HF:=zh (show zHc false t.kids u.kids=zHc false (t.kids.drop (k+1)) (u.kids.drop (k+1)) by rw [HR.out,HD.out,hq];rfl)
         go_wp2
         go_roundg (gk-1)
         case measure=>omega
         case rel=>exact ⟨k+1,by omega,by omega,by go_num,HF.out,HS3.out⟩
       ·have HF:=zh (show zQc false t u=true by rw [HAL.out,HR.out,List.drop_of_length_le (show t.kids.length≤k by omega),zmh])
        go_wp2
        go_ret
        exact ⟨zXb HF.out.symm,HS.out.below⟩
     ·
      unfold zmb
      go_enter Tryz.func12,Tryz.ntmps12
      go_wp2_with fail
      go_loopg [49] t.kids.length (fun gk i wr=>zpv true w t u (.slice (some ⟨g,0,none⟩) t.kids.length c1) (.slice (some ⟨g2,0,none⟩) u.kids.length c2) gk i wr)
      case atStart=>exact ⟨0,by omega,by omega,rfl,rfl,HNEW.out⟩
      case round =>
       obtain ⟨k,hk,hgk,rfl,hrest,hst⟩:=hrel
       have HS:=zh hst
       have HR:=zh hrest
       have hzw:=hst.lt
       clear hst hrest
       by_cases hlt:k<t.kids.length
       ·have hlt2:k<u.kids.length:=by have:=H5.out;omega
        obtain ⟨x1,hr1,hT1⟩:=HG.out k t.kids[k] (List.getElem?_eq_getElem hlt)
        obtain ⟨x2,hr2,hT2⟩:=HG2.out k u.kids[k] (List.getElem?_eq_getElem hlt2)
        have hne:=List.getElem?_eq_getElem hlt
        have hne2:=List.getElem?_eq_getElem hlt2
        generalize t.kids[k]=tk at hr1 hT1 hne
        generalize u.kids[k]=uk at hr2 hT2 hne2
        have HR1:=zh (zyb hr1 HS.out.below HHG.out)
        have HR2:=zh (zyb hr2 HS.out.below HHG2.out)
        have HT1:=zh (hT1.below HS.out.below)
        have HT2:=zh (hT2.below HS.out.below)
        have HD:=zh (zSi (b:=true) hne hne2)
        have hks1:=zle hne
        have hks2:=zle hne2
        have hcap:=HCAP.out
        have hcap2:=HCAP2.out
        have HL1:=zh (zhi tk)
        have HL2:=zh (zhi uk)
        have i1:(0:Int)≤(k:Int):=by omega
        have i2:((k:Int)<(t.kids.length:Int)):=by omega
        have i3:((k:Int)<(u.kids.length:Int)):=by omega
        clear hr1 hr2 hT1 hT2 hne hne2
        go_wp2_with fail
        refine wp_region_held_drew (S:=fun W=>Blk W w.heap.size (zaa t (.slice (some ⟨g,0,none⟩) t.kids.length c1)) 34∧Blk W (w.heap.size+1) (zaa u (.slice (some ⟨g2,0,none⟩) u.kids.length c2)) 34∧W.rangeAt g (k * 5) (zaa tk x1)∧W.rangeAt g2 (k * 5) (zaa uk x2)) (by kernel_rfl) ⟨HS.out.one.drew,HS.out.two.drew,HR1.out,HR2.out⟩ (fun hS=>?_)
        refine wpAnyH_take (i:=0) (v:=.pointer (some ⟨w.heap.size,4,none⟩)) rfl (by kernel_rfl) (by kernel_rfl) (by kernel_rfl) (fun _ _ _ h=>h) (Or.inl ⟨by rfl,fun W _=>by go_simp⟩) hS ?_
        refine wpAnyH_take (i:=1) (v:=.slice (some ⟨g,0,none⟩) t.kids.length c1) rfl (by kernel_rfl) (by kernel_rfl) (by kernel_rfl) (fun _ _ _ h=>h) (Or.inl ⟨by rfl,fun W hW=>by have hcx:W.cell? ⟨w.heap.size,4,none⟩=some (.slice (some ⟨g,0,none⟩) t.kids.length c1):=hW.1.cell 4;go_simp⟩) hS ?_
        refine wpAnyH_take (i:=2) (v:=.int .i64 k) rfl (by kernel_rfl) (by kernel_rfl) (by kernel_rfl) (fun _ _ _ h=>h) (Or.inl ⟨by rfl,fun W _=>by go_simp⟩) hS ?_
        refine wpAnyH_take (i:=3) (v:=.pointer (some ⟨g,k * 5,none⟩)) rfl (by kernel_rfl) (by kernel_rfl) (by kernel_rfl) (fun _ _ _ h=>h) (Or.inl ⟨by rfl,fun W _=>by go_simp⟩) hS ?_
        refine wpAnyH_take (i:=4) (v:=.agg (zaa tk x1).toArray) rfl (by kernel_rfl) (by kernel_rfl) (by kernel_rfl) (fun _ _ _ h=>h) (yieldsIf_load_mid (cs:=zaa tk x1) (by rfl) 34 (.tmp 55) rfl g (k * 5) (by go_simp) _ (fun W hW j v hj=>hW.2.2.1 j v hj) Tryz.underlying34 rfl Tryz.zqe) hS ?_
        refine wpAnyH_take (i:=5) (v:=.pointer (some ⟨w.heap.size+1,4,none⟩)) rfl (by kernel_rfl) (by kernel_rfl) (by kernel_rfl) (fun _ _ _ h=>h) (Or.inl ⟨by rfl,fun W _=>by go_simp⟩) hS ?_
        refine wpAnyH_take (i:=6) (v:=.slice (some ⟨g2,0,none⟩) u.kids.length c2) rfl (by kernel_rfl) (by kernel_rfl) (by kernel_rfl) (fun _ _ _ h=>h) (Or.inl ⟨by rfl,fun W hW=>by have hcx:W.cell? ⟨w.heap.size+1,4,none⟩=some (.slice (some ⟨g2,0,none⟩) u.kids.length c2):=hW.2.1.cell 4;go_simp⟩) hS ?_
        refine wpAnyH_take (i:=7) (v:=.int .i64 k) rfl (by kernel_rfl) (by kernel_rfl) (by kernel_rfl) (fun _ _ _ h=>h) (Or.inl ⟨by rfl,fun W _=>by go_simp⟩) hS ?_
        refine wpAnyH_take (i:=8) (v:=.pointer (some ⟨g2,k * 5,none⟩)) rfl (by kernel_rfl) (by kernel_rfl) (by kernel_rfl) (fun _ _ _ h=>h) (Or.inl ⟨by rfl,fun W _=>by go_simp⟩) hS ?_
        refine wpAnyH_take (i:=9) (v:=.agg (zaa uk x2).toArray) rfl (by kernel_rfl) (by kernel_rfl) (by kernel_rfl) (fun _ _ _ h=>h) (yieldsIf_load_mid (cs:=zaa uk x2) (by rfl) 34 (.tmp 60) rfl g2 (k * 5) (by go_simp) _ (fun W hW j v hj=>hW.2.2.2 j v hj) Tryz.underlying34 rfl Tryz.zqe) hS ?_
        refine AnyH.one (i:=10) (by kernel_rfl) rfl (by rfl) (fun K hK=>?_)
        go_simp
        refine hK.out _ _ hS ?_
        clear hK K
        refine AnyH.one (i:=11) (by kernel_rfl) rfl (by rfl) (fun K hK=>?_)
        go_simp
        refine (HIH.out tk uk true (by have h2:=HTS.out;have h3:=HT.out;omega) (HT1.out.drew).kat (HT2.out.drew).kat (by have:=HL1.out;have:=HTS.out;have:=HZ1.out;omega) (by have:=HL2.out;have:=HUS.out;have:=HZ2.out;omega) (by have:=HTS.out;have:=HZ1.out;omega) (by have:=HUS.out;have:=HZ2.out;omega)).mono ?_
        rintro e w3 ⟨rfl,hb3⟩
        have HS3:=zh (HS.out.drew.call hb3)
        have HR13:=zh (zyb (w:=wr.drew) HR1.out hb3 (by have:=HHG.out;have:=HS.out.below.size;show g<wr.heap.size;omega))
        have HR23:=zh (zyb (w:=wr.drew) HR2.out hb3 (by have:=HHG2.out;have:=HS.out.below.size;show g2<wr.heap.size;omega))
        clear hb3
        refine hK.out _ _ ⟨HS3.out.one,HS3.out.two,HR13.out,HR23.out⟩ ?_
        clear hK K
        refine AnyH.one (i:=12) (by kernel_rfl) rfl (by rfl) (fun K hK=>?_)
        go_simp
        refine hK.out _ _ ⟨HS3.out.one,HS3.out.two,HR13.out,HR23.out⟩ ?_
        clear hK K
        refine wpAnyH_done (by kernel_rfl) ?_ _
        clear hS
        cases hq:zQc true tk uk with
        | false =>
         have HF:=zh (show zQc true t u=false by rw [HAL.out,HR.out,HD.out,hq];rfl)
         go_wp2
         go_ret
         exact ⟨zXb HF.out.symm,HS3.out.below⟩
        | true =>
         have HF:=zh (show zHc true t.kids u.kids=zHc true (t.kids.drop (k+1)) (u.kids.drop (k+1)) by rw [HR.out,HD.out,hq];rfl)
         go_wp2
         go_roundg (gk-1)
         case measure=>omega
         case rel=>exact ⟨k+1,by omega,by omega,by go_num,HF.out,HS3.out⟩
       ·have HF:=zh (show zQc true t u=true by rw [HAL.out,HR.out,List.drop_of_length_le (show t.kids.length≤k by omega),zmh])
        go_wp2
        go_ret
        exact ⟨zXb HF.out.symm,HS.out.below⟩
end Go.Proofs.YtbfgdpcgdmabpaaGreatDoor
namespace Go.Proofs.YtbfgdpcgdmabpaaGreatDoor
open Go.ChangeShapes Go.WideShapes Go.ChangeAt Go.RowKit
structure SsL (w:World) (g:Nat) (t:T) (kv:Value) (W:World):Prop where
 below:Below w.heap.size w W
 tabs:Tabs W
 pow:Pow W
 blk:Blk W g (zaa t kv) 25
 k:KAt 25 W t.kids (fun b=>b<g) kv
theorem Pow.zpw {W W':World} (h:Pow W) (hb:Below W.heap.size W W'):Pow W':=⟨Nat.lt_of_lt_of_le h.1 hb.size,(zZe.step h hb).2⟩
theorem SsL.call {w:World} {g:Nat} {t:T} {kv:Value} {W W':World} (h:SsL w g t kv W) (hb:Below W.heap.size W W'):SsL w g t kv W' :=
 ⟨h.below.trans (hb.mono h.below.size),h.tabs.below hb h.tabs.size,h.pow.zpw hb,h.blk.stays hb,h.k.below hb⟩
theorem SsL.drew {w:World} {g:Nat} {t:T} {kv:Value} {W:World} (h:SsL w g t kv W):SsL w g t kv W.drew:=h.call (Below.refl _ _).drew
structure SbL (w:World) (g:Nat) (t:T) (kv:Value) (g2:Nat) (t2:T) (kv2:Value) (W:World):Prop where
 one:SsL w g t kv W
 blk2:Blk W g2 (zaa t2 kv2) 25
 k2:KAt 25 W t2.kids (fun b=>b<g2) kv2
theorem SbL.call {w:World} {g g2:Nat} {t t2:T} {kv kv2:Value} {W W':World} (h:SbL w g t kv g2 t2 kv2 W) (hb:Below W.heap.size W W'):SbL w g t kv g2 t2 kv2 W':=⟨h.one.call hb,h.blk2.stays hb,h.k2.below hb⟩
theorem SbL.drew {w:World} {g g2:Nat} {t t2:T} {kv kv2:Value} {W:World} (h:SbL w g t kv g2 t2 kv2 W):SbL w g t kv g2 t2 kv2 W.drew:=h.call (Below.refl _ _).drew
theorem SbL.blk {w:World} {g g2:Nat} {t t2:T} {kv kv2:Value} {W:World} (h:SbL w g t kv g2 t2 kv2 W):Blk W g (zaa t kv) 25:=h.one.blk
end Go.Proofs.YtbfgdpcgdmabpaaGreatDoor
