/- The contract of lychgateref12.One. -/
import Derived.Test.YtpjnpffcnmgdcaaGreatDoorZ32
namespace Go.Proofs.YtpjnpffcnmgdcaaGreatDoor
set_option maxRecDepth 100000
set_option maxHeartbeats 8000000
open Go.RowKit Go.Maps
theorem znc {w:World} {g b o:Nat} (cs:Array Value) (h:b≠g):(w.setRow g cs).cell? ⟨b,o,none⟩=w.cell? ⟨b,o,none⟩:=World.cell?_of_block (setRow_other w g b cs h)
def zUt (w:World) (r:E Sg) (e:Ending) (w':World):Prop :=
 match r with
 | .ok s=>∃ pv,e=.returned (.tuple #[SgV s pv,.int .i64 0,.int .i64 0])∧zje w' s.params (fun b=>w.heap.size≤b) pv∧Below w.heap.size w w'
 | .error (q,c)=>e=.returned (.tuple #[SgV sg0 (.slice none 0 0),.int .i64 q,.int .i64 c])∧Below w.heap.size w w'
structure zAo (w W:World) (t:T) (kv:Value) (l:List Prm) (pv:Value):Prop where
 b:Below w.heap.size w W
 n:Blk W w.heap.size (zaa t kv) 36
 z:Blk W (w.heap.size+1) (zka sg0 (.slice none 0 0)) 59
 x:Blk W (w.heap.size+1+1) (zka ⟨t.text,l,zyb⟩ pv) 59
 f:zje W l (fun b=>w.heap.size+1+1<b) pv
section
variable {w W W':World} {t:T} {kv pv:Value} {l:List Prm}
theorem zAo.stay (h:zAo w W t kv l pv) (hb:Below W.heap.size W W'):zAo w W' t kv l pv :=
 ⟨h.b.trans (hb.mono (Nat.le_of_lt h.n.lt)),h.n.stays hb,h.z.stays hb,h.x.stays hb,h.f.below hb⟩
theorem zAo.add (h:zAo w W t kv l pv) (hg:W.grownBy W' pv.ownBlock) {l':List Prm} {pv':Value} (hf:zje W' l' (fun b=>w.heap.size+1+1<b) pv') :
  zAo w (W'.setCell ⟨w.heap.size+1+1,1,none⟩ pv') t kv l' pv':=by
 have hr:∀ k,pv.ownBlock=some k→w.heap.size+1+1<k:=fun k hk=>h.f.2 k hk
 have hx:=h.x.grown hg (fun e=>by have:=hr _ e.symm;omega)
 have hn:=h.n.grown hg (fun e=>by have:=hr _ e.symm;omega)
 have hz:=h.z.grown hg (fun e=>by have:=hr _ e.symm;omega)
 rw [setCell_eq_setRow W' (w.heap.size+1+1) 1 _ _ (0,0) pv' hx]
 exact ⟨Below.row (h.b.grown hg (Nat.le_of_lt h.n.lt) (fun k hk=>by have:=hr k hk;omega)) (by omega) _,hn.zta (w.heap.size+1+1) _ (by omega),hz.zta (w.heap.size+1+1) _ (by omega),hx.zra (zka ⟨t.text,l',zyb⟩ pv'),hf.setRow _ _ (fun b hb=>by omega)⟩
theorem zAo.row (h:zAo w W t kv l pv) {g:Nat} (hg:w.heap.size+1+1<g) (hne:pv.ownBlock≠some g) (cs:Array Value):zAo w (W.setRow g cs) t kv l pv :=
 ⟨Below.row h.b (by omega) _,h.n.zta g _ (by omega),h.z.zta g _ (by omega),h.x.zta g _ (by omega),⟨zed h.f.1 fun b hb=>setRow_other _ _ _ _ fun e=>hne (by rw [hb,e]),h.f.2⟩⟩
end
def zCe (tys:List Ty) (p o:Prm):Bool:=decide (1<p.mode) && (decide (1<o.mode) && (p.ty == o.ty && zli tys p.ty != 0))
theorem zun (s:ByteArray):0≤zjb s∧zjb s≤4:=by
 unfold zjb
 cases s.toList == [105,110,116]<;>cases s.toList == [111,119,110]<;>cases s.toList == [38]<;>cases s.toList == [38,109,117,116]<;>simp
theorem zJi {m:Int} (h:0≤m∧m≤4):zVb m=decide (1<m):=by
 unfold zVb
 have:m=0∨m=1∨m=2∨m=3∨m=4:=by omega
 rcases this with rfl|rfl|rfl|rfl|rfl<;>rfl
theorem zTm {tys:List Ty} {p:Prm} {l:List Prm} (hp:0≤p.mode∧p.mode≤4) (hl:∀ o∈l,0≤o.mode∧o.mode≤4):zXd tys p l=l.any (zCe tys p):=by
 have e:∀ o∈l,zCe tys p o=(zVb p.mode && (zli tys p.ty != 0 && zBf p o)):=fun o ho=>by
  unfold zCe zBf
  rw [zJi hp,zJi (hl o ho),show (p.ty == o.ty)=(o.ty == p.ty) from BEq.comm]
  cases decide (1<p.mode)<;>cases decide (1<o.mode)<;>cases o.ty == p.ty<;>cases zli tys p.ty != 0<;>rfl
 unfold zXd
 cases h1:zVb p.mode
 ·symm
  exact List.any_eq_false.2 fun o ho=>by rw [e o ho,h1];simp
 ·cases h2:zli tys p.ty == 0
  ·rw [Bool.eq_iff_iff,List.any_eq_true]
   simp only [Bool.not_true,Bool.or_false,cond_false,List.any_eq_true]
   constructor
   ·rintro ⟨o,ho,h⟩
    exact ⟨o,ho,by rw [e o ho,h1,h];simp [bne,h2]⟩
   ·rintro ⟨o,ho,h⟩
    rw [e o ho,h1] at h
    simp only [Bool.true_and,Bool.and_eq_true] at h
    exact ⟨o,ho,h.2⟩
  ·symm
   exact List.any_eq_false.2 fun o ho=>by rw [e o ho];simp [bne,h2]
theorem zdr {tys:List Ty} {t:T} {p:Prm} (h:zgd tys t=some p):0≤p.mode∧p.mode≤4:=by
 cases hb:zVb (zjb t.text) with
 | false=>rw [zkg hb] at h;cases h;exact zun _
 | true =>
  rw [zJh hb] at h
  simp only [Option.map_eq_some_iff] at h
  obtain ⟨k,_,rfl⟩:=h
  exact zun _
theorem zxs {w:World} {A:Option Addr} {cap:Nat} {tys:List Ty} (ht:zph w A tys) (hl:tys.length≤9223372036854775807) {t:T} {S:Nat→Prop} {kv:Value} (hk:KAt 36 w t.kids S kv) (hkl:t.kids.length≤4096) (hfn:zau t) :
  Calls Tryz.prog 26 #[zna t kv,.slice A tys.length cap] w (zUt w (zuj tys t)):=by
 obtain ⟨i0,z0,I⟩:=Tryz.zGr
 obtain ⟨ps,m,bk,hkid,hps,hmo,hfp⟩:=hfn.fp
 have HFP:=zh hfp
 have HKD:=zh hkid
 have HPS:=zh hps
 have HMO:=zh hmo
 have hnk:t.kids.length=ps.length+2:=by rw [hkid];simp
 obtain ⟨W0,hW0⟩:∃ W,((w.alloc (.cells (zaa t kv).toArray 36)).alloc (.cells (zka sg0 (.slice none 0 0)).toArray 59)).alloc (.cells (zka ⟨t.text,[],zyb⟩ (.slice none 0 0)).toArray 59)=W:=⟨_,rfl⟩
 have HB0:=zh (show Below w.heap.size w W0 from hW0▸((((Below.refl _ _).alloc (Nat.le_refl _) _).alloc (by simp) _).alloc (by simp;omega) _))
 have b3:=show Blk W0 (w.heap.size+1+1) (zka ⟨t.text,[],zyb⟩ (.slice none 0 0)) 59 from hW0▸(by simpa using Blk.new ((w.alloc (.cells (zaa t kv).toArray 36)).alloc (.cells (zka sg0 (.slice none 0 0)).toArray 59)) (zka ⟨t.text,[],zyb⟩ (.slice none 0 0)) 59)
 have HS0:=zh (show zAo w W0 t kv [] (.slice none 0 0) from ⟨HB0.out,hW0▸(((Blk.new w _ _).alloc _).alloc _),hW0▸((Blk.zTe w _ _ _).alloc _),b3,RAt.nil _ _⟩)
 have ZONE:=zWe sg0 (pv:=.slice none 0 0) rfl
 have HT:=zh ht
 have HK:=zh (show KAt 36 w t.kids (fun b=>b<w.heap.size) kv from hk.keep fun b _ hb=>⟨hb,rfl⟩)
 obtain ⟨g,cp,rfl,hgl,hcap,hcm,hget⟩:=(HK.out.form).resolve_left fun h=>by rw [h.2] at hnk;simp at hnk
 have HGET:=zh hget
 have hwk:wrap64 ((t.kids.length:Int)-2)=(ps.length:Int):=by rw [hnk,wrap64_in (by omega) (by omega)];omega
 have hwk2:((t.kids.length:Int)-2)=(ps.length:Int):=by rw [hnk];omega
 have hpl:ps.length≤4096:=by omega
 rw [hnk] at hcap
 unfold maxLen at hcm
 have HNK:=zh hnk
 have n04:W0.cell? ⟨w.heap.size,4,none⟩=some (.slice (some ⟨g,0,none⟩) t.kids.length cp):=HS0.out.n.cell 4
 have hw0:((w.alloc (.cells #[.int .i64 t.kind,.string t.text,.int .i64 t.num,.int .i64 t.place,.slice (some ⟨g,0,none⟩) t.kids.length cp] 36)).alloc (.cells #[.string ⟨#[]⟩,.slice none 0 0,.string ⟨#[]⟩,.int .i64 0,.int .i64 0] 59)).alloc (.cells #[.string t.text,.slice none 0 0,.string ⟨#[]⟩,.int .i64 0,.int .i64 0] 59)=W0:=hW0
 have HW0:=zh hw0
 clear hw0 hW0
 unfold zna
 clear ht hk hkid hps hmo hfp b3 hget hnk
 go_enter Tryz.func26,Tryz.ntmps26
 go_upto_region 2 with fail
 rw [HW0.out]
 clear HW0
 by_cases h8:8<ps.length
 ·have HRes:=zh (zpi (tys:=tys) (n:=t) (by rw [HFP.out];exact h8))
  have h8i:(8:Int)<(ps.length:Int):=by omega
  go_upto_region 4 with fail
  refine wp_region_held_drew (S:=fun W=>Blk W w.heap.size (zaa t (.slice (some ⟨g,0,none⟩) t.kids.length cp)) 36∧Blk W (w.heap.size+1) (zka sg0 (.slice none 0 0)) 59) (by kernel_rfl) ⟨HS0.out.n,HS0.out.z⟩ (fun hS=>?_)
  refine wpAnyH_take (i:=0) (oi:=⟨some 27,_,_,_,_,_⟩) (v:=.agg (zka sg0 (.slice none 0 0)).toArray) rfl (by kernel_rfl) (by kernel_rfl) (by kernel_rfl) (fun _ _ _ h=>h) (Or.inl ⟨by rfl,fun W _=>by unfold zka sg0 zyb;go_simp⟩) hS ?_
  try simp only [Act.put,List.setIfInBounds_toArray,List.set_cons_zero,List.set_cons_succ]
  refine wpAnyH_take (i:=1) (oi:=⟨some 28,_,_,_,_,_⟩) (v:=.pointer (some ⟨w.heap.size,3,none⟩)) rfl (by kernel_rfl) (by kernel_rfl) (by kernel_rfl) (fun _ _ _ h=>h) (Or.inl ⟨by rfl,fun W _=>by go_simp⟩) hS ?_
  try simp only [Act.put,List.setIfInBounds_toArray,List.set_cons_zero,List.set_cons_succ]
  refine wpAnyH_take (i:=2) (oi:=⟨some 29,_,_,_,_,_⟩) (v:=.int .i64 (t).place) rfl (by kernel_rfl) (by kernel_rfl) (by kernel_rfl) (fun _ _ _ h=>h) (Or.inl ⟨by rfl,fun W hW=>by have hcx:W.cell? ⟨w.heap.size,3,none⟩=some (.int .i64 (t).place):=hW.1.cell 3;go_simp⟩) hS ?_
  try simp only [Act.put,List.setIfInBounds_toArray,List.set_cons_zero,List.set_cons_succ]
  refine AnyH.only (i:=3) (o:=⟨none,_,_,_,_,_⟩) (by kernel_rfl) rfl (by rfl) (fun K hK=>?_)
  refine zva 59 (.tmp 4) (.tmp 27) rfl ((w.heap.size+1)) (zka sg0 (.slice none 0 0)) rfl rfl hS.2 Tryz.zyc rfl ZONE ?_
  have hS3:Blk (World.setRow _ ((w.heap.size+1)) (zka sg0 (.slice none 0 0)).toArray) w.heap.size (zaa t (.slice (some ⟨g,0,none⟩) t.kids.length cp)) 36∧Blk (World.setRow _ ((w.heap.size+1)) (zka sg0 (.slice none 0 0)).toArray) (w.heap.size+1) (zka sg0 (.slice none 0 0)) 59:=⟨hS.1.zta _ _ (by omega),hS.2.zra _⟩
  refine hK.out _ _ hS3 ?_
  clear hK K hS
  try simp only [Act.put]
  refine wpAnyH_take (i:=4) (oi:=⟨some 5,_,_,_,_,_⟩) (v:=.int .i64 (t).place) rfl (by kernel_rfl) (by kernel_rfl) (by kernel_rfl) (fun _ _ _ h=>h) (Or.inl ⟨by rfl,fun W _=>by go_simp⟩) hS3 ?_
  try simp only [Act.put,List.setIfInBounds_toArray,List.set_cons_zero,List.set_cons_succ]
  refine wpAnyH_take (i:=5) (oi:=⟨some 6,_,_,_,_,_⟩) (v:=.int .i64 22) rfl (by kernel_rfl) (by kernel_rfl) (by kernel_rfl) (fun _ _ _ h=>h) (Or.inl ⟨by rfl,fun W _=>by go_simp⟩) hS3 ?_
  try simp only [Act.put,List.setIfInBounds_toArray,List.set_cons_zero,List.set_cons_succ]
  refine wpAnyH_done (by kernel_rfl) ?_ _
  go_wp2_with fail
  refine ztb (cs:=zka sg0 (.slice none 0 0)) Tryz.results26 rfl hS3.2 Tryz.underlying59 rfl Tryz.zyc rfl rfl rfl ?_
  rw [HRes.out]
  exact ⟨rfl,Below.row (HB0.out).drew (by omega) _⟩
 ·have HGO:=zh (zgm (tys:=tys) (n:=t) (by rw [HFP.out];exact h8))
  rw [HFP.out] at HGO
  simp only at HGO
  have h8i:¬ (8:Int)<(ps.length:Int):=by omega
  have h8p:ps.length≤8:=by omega
  go_wp2_with fail
  clear n04 hwk hwk2
  go_loopw [9] (fun i wr=>∃ k:Nat,k≤ps.length∧i=.int .i64 k∧∃ l pv,zAo w wr t (.slice (some ⟨g,0,none⟩) t.kids.length cp) l pv∧l.length=k∧l.map Prm.name=(ps.take k).map T.text∧(∀ o∈l,zcs tys o∧0≤o.mode∧o.mode≤4)∧zaf tys [] ps=zaf tys l (ps.drop k)) (fun i _=>ps.length-(intOf i).toNat)
  case atStart=>exact ⟨0,by omega,rfl,[],_,HS0.out,rfl,rfl,(fun o h=>by simp at h),by rw [List.drop_zero]⟩
  case round =>
   obtain ⟨k,hkk,rfl,l,pv,hst,hll,hnames,hgood,heq⟩:=hrel
   obtain ⟨wo,rfl⟩:∃ W,W=wr:=⟨_,rfl⟩
   have HLL:=zh hll
   have HST:=zh hst
   have HNM:=zh hnames
   have HGD:=zh hgood
   have hwr:w.heap.size+1+1<wo.heap.size:=hst.x.lt
   have n04:wo.cell? ⟨w.heap.size,4,none⟩=some (.slice (some ⟨g,0,none⟩) t.kids.length cp):=hst.n.cell 4
   obtain ⟨pva,pvc,rfl⟩:=hst.f.slice
   clear hll hnames hgood
   by_cases hlt:k<ps.length
   ·obtain ⟨q,hq⟩:∃ q,ps[k]?=some q:=⟨_,List.getElem?_eq_getElem hlt⟩
    have hqt:t.kids[k]?=some q:=by rw [HKD.out,List.getElem?_append_left hlt];exact hq
    obtain ⟨u,hr,hu⟩:=HGET.out k q hqt
    have HR:=zh (zua hr hst.b hgl)
    have HEQ:=zh (heq.trans (show _=zaf tys l (q :: ps.drop (k+1)) by rw [List.drop_eq_getElem_cons hlt,(List.getElem?_eq_some_iff.1 hq).2]))
    obtain ⟨hq7,m1,hqk,hm1,hm11⟩:=HPS.out q (List.mem_of_getElem? hq)
    have HM1:=zh hm1
    obtain ⟨g3,c3,rfl,hgl3,hcap3,hcm3,hget3⟩:=(hu.kat.form).resolve_left fun h=>by rw [hqk] at h;simp at h
    obtain ⟨u3,hr3,hu3⟩:=hget3 0 m1 (by rw [hqk];rfl)
    have HR3:=zh hr3
    have HU3:=zh hu3.kat
    have hql:q.kids.length=1:=by rw [hqk];rfl
    rw [hql] at HR
    have hu31:=hu3.one'
    have e0:zJa q 0=m1:=by unfold zJa;rw [hqk];rfl
    have HE0:=zh e0
    obtain ⟨W1,hW1⟩:∃ W,wo.alloc (.cells (zaa q (.slice (some ⟨g3,0,none⟩) 1 c3)).toArray 36)=W:=⟨_,rfl⟩
    have hb1:Below wo.heap.size wo W1:=hW1▸(Below.refl _ _).alloc (Nat.le_refl _) _
    have HS1:=zh (hst.stay hb1)
    have HN1:=zh (show Blk W1 wo.heap.size (zaa q (.slice (some ⟨g3,0,none⟩) 1 c3)) 36 from hW1▸Blk.new wo _ _)
    have hkn:(k:Int)<(t.kids.length:Int):=by rw [HNK.out];omega
    rw [hql] at hcap3
    clear hql
    unfold maxLen at hcm3
    clear hr hu heq hst hget3 hr3 hu3 hqk e0 hq7 hm1 hb1
    go_wp2_with (first
     | ((with_reducible refine zqa 36 (.tmp 38) ?_);refine wpList_load_mid rfl 36 (.tmp 38) rfl g (k * 5) rfl (zaa q (.slice (some ⟨g3,0,none⟩) 1 c3)) _ HR.out Tryz.underlying36 rfl Tryz.zha ?_)
     | ((with_reducible refine zla 36 (.tmp 10) ?_);refine zga rfl 36 (.tmp 10) (.tmp 39) rfl (zaa q (.slice (some ⟨g3,0,none⟩) 1 c3)) (old:=zba) rfl rfl Tryz.zha rfl (zca _ _ rfl) ?_;rw [hW1]))
    clear hW1 n04
    go_loopw [11] (fun i wr=>∃ j:Nat,j≤k∧i=.int .i64 j∧Below W1.heap.size W1 wr∧(l.take j).any (zcd q.text)=false) (fun i _=>k-(intOf i).toNat)
    case atStart=>exact ⟨0,by omega,rfl,Below.refl _ _,by simp⟩
    case round =>
     obtain ⟨j,hj,rfl,hbi,hno⟩:=hrel
     have HBI:=zh hbi
     have HNO:=zh hno
     have HS2:=zh (HS1.out.stay hbi)
     have HN2:=zh (HN1.out.stays hbi)
     have n04:wr.cell? ⟨w.heap.size,4,none⟩=some (.slice (some ⟨g,0,none⟩) t.kids.length cp):=HS2.out.n.cell 4
     have q1:wr.cell? ⟨wo.heap.size,1,none⟩=some (.string q.text):=HN2.out.cell 1
     have hw1l:wo.heap.size<W1.heap.size:=HN1.out.lt
     clear hbi hno
     by_cases hlj:j<k
     ·obtain ⟨pj,hpj⟩:∃ pj,ps[j]?=some pj:=⟨_,List.getElem?_eq_getElem (by omega)⟩
      have hjt:t.kids[j]?=some pj:=by rw [HKD.out,List.getElem?_append_left (by omega)];exact hpj
      obtain ⟨uj,hrj,_⟩:=HGET.out j pj hjt
      have g1:wr.cell? ⟨g,j * 5+1,none⟩=some (.string pj.text):=zua hrj HS2.out.b hgl 1 _ rfl
      obtain ⟨oj,hoj⟩:∃ oj,l[j]?=some oj:=⟨_,List.getElem?_eq_getElem (by rw [HLL.out];exact hlj)⟩
      have hoe:oj.name=pj.text:=by
       have h1:=congrArg (fun z:List ByteArray=>z[j]?) HNM.out
       simp only [List.getElem?_map,hoj,Option.map_some,List.getElem?_take_of_lt hlj,hpj] at h1
       exact Option.some.inj h1
      have HOJ:=zh hoj
      have HOE:=zh hoe
      have hjn:(j:Int)<(t.kids.length:Int):=by rw [HNK.out];omega
      have hjk:(j:Int)<(k:Int):=by omega
      have hcap2:t.kids.length≤cp:=by rw [HNK.out];exact hcap
      clear hrj hjt hpj hoj hoe
      generalize pj.text=px at *
      cases ho:px.toList == q.text.toList
      ·have HAN:=zh (zhf (b:=zcd q.text) HOJ.out HNO.out (by unfold zcd;rw [HOE.out];exact ho))
       generalize q.text=qx at *
       go_wp2_with fail
       go_quiet (fail)
       go_wp2_with fail
       go_roundw
       case rel=>exact ⟨j+1,by omega,by go_num,zXe HBI.out _,HAN.out⟩
       case measure=>simp [intOf];omega
      ·have hany:=any_some (b:=zcd q.text) HOJ.out (by unfold zcd;rw [HOE.out];exact ho)
       have HRes:=zh (show zuj tys t=.error (q.place,30) from by rw [HGO.out,HEQ.out,zwg (zpj hany)])
       have nq:Blk (wr.drewN 1) wo.heap.size (zaa q (.slice (some ⟨g3,0,none⟩) 1 c3)) 36:=HN2.out
       clear hany
       go_wp2_with fail
       go_quiet (fail)
       go_upto_region 13 with fail
       refine wp_region_held_drew (S:=fun W=>Blk W wo.heap.size (zaa q (.slice (some ⟨g3,0,none⟩) 1 c3)) 36∧Blk W (w.heap.size+1) (zka sg0 (.slice none 0 0)) 59) (by kernel_rfl) ⟨HN2.out,HS2.out.z⟩ (fun hS=>?_)
       refine wpAnyH_take (i:=0) (oi:=⟨some 54,_,_,_,_,_⟩) (v:=.agg (zka sg0 (.slice none 0 0)).toArray) rfl (by kernel_rfl) (by kernel_rfl) (by kernel_rfl) (fun _ _ _ h=>h) (Or.inl ⟨by rfl,fun W _=>by unfold zka sg0 zyb;go_simp⟩) hS ?_
       try simp only [Act.put,List.setIfInBounds_toArray,List.set_cons_zero,List.set_cons_succ]
       refine wpAnyH_take (i:=1) (oi:=⟨some 55,_,_,_,_,_⟩) (v:=.pointer (some ⟨wo.heap.size,3,none⟩)) rfl (by kernel_rfl) (by kernel_rfl) (by kernel_rfl) (fun _ _ _ h=>h) (Or.inl ⟨by rfl,fun W _=>by go_simp⟩) hS ?_
       try simp only [Act.put,List.setIfInBounds_toArray,List.set_cons_zero,List.set_cons_succ]
       refine wpAnyH_take (i:=2) (oi:=⟨some 56,_,_,_,_,_⟩) (v:=.int .i64 (q).place) rfl (by kernel_rfl) (by kernel_rfl) (by kernel_rfl) (fun _ _ _ h=>h) (Or.inl ⟨by rfl,fun W hW=>by have hcx:W.cell? ⟨wo.heap.size,3,none⟩=some (.int .i64 (q).place):=hW.1.cell 3;go_simp⟩) hS ?_
       try simp only [Act.put,List.setIfInBounds_toArray,List.set_cons_zero,List.set_cons_succ]
       refine AnyH.only (i:=3) (o:=⟨none,_,_,_,_,_⟩) (by kernel_rfl) rfl (by rfl) (fun K hK=>?_)
       refine zva 59 (.tmp 4) (.tmp 54) rfl ((w.heap.size+1)) (zka sg0 (.slice none 0 0)) rfl rfl hS.2 Tryz.zyc rfl ZONE ?_
       have hS3:Blk (World.setRow _ ((w.heap.size+1)) (zka sg0 (.slice none 0 0)).toArray) wo.heap.size (zaa q (.slice (some ⟨g3,0,none⟩) 1 c3)) 36∧Blk (World.setRow _ ((w.heap.size+1)) (zka sg0 (.slice none 0 0)).toArray) (w.heap.size+1) (zka sg0 (.slice none 0 0)) 59:=⟨hS.1.zta _ _ (by omega),hS.2.zra _⟩
       refine hK.out _ _ hS3 ?_
       clear hK K hS
       try simp only [Act.put]
       refine wpAnyH_take (i:=4) (oi:=⟨some 5,_,_,_,_,_⟩) (v:=.int .i64 (q).place) rfl (by kernel_rfl) (by kernel_rfl) (by kernel_rfl) (fun _ _ _ h=>h) (Or.inl ⟨by rfl,fun W _=>by go_simp⟩) hS3 ?_
       try simp only [Act.put,List.setIfInBounds_toArray,List.set_cons_zero,List.set_cons_succ]
       refine wpAnyH_take (i:=5) (oi:=⟨some 6,_,_,_,_,_⟩) (v:=.int .i64 30) rfl (by kernel_rfl) (by kernel_rfl) (by kernel_rfl) (fun _ _ _ h=>h) (Or.inl ⟨by rfl,fun W _=>by go_simp⟩) hS3 ?_
       try simp only [Act.put,List.setIfInBounds_toArray,List.set_cons_zero,List.set_cons_succ]
       refine wpAnyH_done (by kernel_rfl) ?_ _
       go_wp2_with fail
       refine ztb (cs:=zka sg0 (.slice none 0 0)) Tryz.results26 rfl hS3.2 Tryz.underlying59 rfl Tryz.zyc rfl rfl rfl ?_
       rw [HRes.out]
       exact ⟨rfl,Below.row (zXe HS2.out.b _).drew (by omega) _⟩
     ·obtain rfl:j=k:=by omega
      have hany:l.any (zcd q.text)=false:=by have:=HNO.out;rwa [List.take_of_length_le (by rw [HLL.out];exact Nat.le_refl _)] at this
      have HANY:=zh hany
      have h34:wr.cell? ⟨wo.heap.size,4,none⟩=some (.slice (some ⟨g3,0,none⟩) 1 c3):=HN2.out.cell 4
      have HR4:=zh (zua HR3.out HS2.out.b hgl3)
      have HMD:=zh (zjl (cap:=cap) (HT.out.below HS2.out.b) hl (HU3.out.below HS2.out.b) HM1.out)
      unfold zna at HMD
      clear hany n04 q1
      go_wp2_with ((with_reducible refine zqa 36 (.tmp 60) ?_);refine wpList_load_mid rfl 36 (.tmp 60) rfl g3 0 rfl (zaa m1 u3) _ HR4.out Tryz.underlying36 rfl Tryz.zha ?_)
      refine HMD.out.mono ?_
      clear HMD h34
      rintro e w3 ⟨rfl,hb⟩
      obtain ⟨W3,hW3⟩:∃ W,w3.alloc (.cells (zja ((zgd tys m1).getD zyb)).toArray 57)=W:=⟨_,rfl⟩
      have hb3:Below w3.heap.size w3 W3:=hW3▸(Below.refl _ _).alloc (Nat.le_refl _) _
      have hb33:=hb.trans (hb3.mono hb.size)
      have HS3:=zh (HS2.out.stay hb33)
      have HN3:=zh (HN2.out.stays hb33)
      have HX3:=zh (show Blk W3 w3.heap.size (zja ((zgd tys m1).getD zyb)) 57 from hW3▸Blk.new w3 _ _)
      have hw3l:wo.heap.size<w3.heap.size:=Nat.lt_of_lt_of_le HN2.out.lt hb.size
      have HR5:=zh (zua HR3.out HS3.out.b hgl3)
      clear hb hb3 hb33
      cases hh:zgd tys m1 with
      | none =>
       have HRes:=zh (show zuj tys t=.error (m1.place,31) from by rw [HGO.out,HEQ.out,zwg (zQk (by exact HANY.out) (by rw [HE0.out];exact hh)),HE0.out])
       rw [hh] at hW3
       simp only [Option.getD_none,Option.isSome_none] at hW3 ⊢
       unfold zzh
       have k34:W3.cell? ⟨wo.heap.size,4,none⟩=some (.slice (some ⟨g3,0,none⟩) 1 c3):=HN3.out.cell 4
       have k33:W3.cell? ⟨g3,3,none⟩=some (.int .i64 m1.place):=HR5.out 3 _ rfl
       go_upto_region 16 with ((with_reducible refine zla 57 (.tmp 12) ?_);refine zga rfl 57 (.tmp 12) (.tmp 64) rfl (zja zyb) (old:=zja zyb) rfl rfl Tryz.zUa rfl (zsb _) ?_;rw [hW3])
       clear hW3
       go_upto_region 16 with fail
       refine wp_region_held_drew (S:=fun W=>W.cell? ⟨wo.heap.size,4,none⟩=some (.slice (some ⟨g3,0,none⟩) 1 c3)∧W.cell? ⟨g3,3,none⟩=some (.int .i64 m1.place)∧Blk W (w.heap.size+1) (zka sg0 (.slice none 0 0)) 59) (by kernel_rfl) ⟨k34,k33,HS3.out.z⟩ (fun hS=>?_)
       refine wpAnyH_take (i:=0) (oi:=⟨some 68,_,_,_,_,_⟩) (v:=.agg (zka sg0 (.slice none 0 0)).toArray) rfl (by kernel_rfl) (by kernel_rfl) (by kernel_rfl) (fun _ _ _ h=>h) (Or.inl ⟨by rfl,fun W _=>by unfold zka sg0 zyb;go_simp⟩) hS ?_
       try simp only [Act.put,List.setIfInBounds_toArray,List.set_cons_zero,List.set_cons_succ]
       refine wpAnyH_take (i:=1) (oi:=⟨some 69,_,_,_,_,_⟩) (v:=.pointer (some ⟨wo.heap.size,4,none⟩)) rfl (by kernel_rfl) (by kernel_rfl) (by kernel_rfl) (fun _ _ _ h=>h) (Or.inl ⟨by rfl,fun W _=>by go_simp⟩) hS ?_
       try simp only [Act.put,List.setIfInBounds_toArray,List.set_cons_zero,List.set_cons_succ]
       refine wpAnyH_take (i:=2) (oi:=⟨some 70,_,_,_,_,_⟩) (v:=.slice (some ⟨g3,0,none⟩) 1 c3) rfl (by kernel_rfl) (by kernel_rfl) (by kernel_rfl) (fun _ _ _ h=>h) (Or.inl ⟨by rfl,fun W hW=>by obtain ⟨hcx,_,_⟩:=hW;go_simp⟩) hS ?_
       try simp only [Act.put,List.setIfInBounds_toArray,List.set_cons_zero,List.set_cons_succ]
       refine wpAnyH_take (i:=3) (oi:=⟨some 71,_,_,_,_,_⟩) (v:=.pointer (some ⟨g3,0,none⟩)) rfl (by kernel_rfl) (by kernel_rfl) (by kernel_rfl) (fun _ _ _ h=>h) (Or.inl ⟨by rfl,fun W _=>by go_simp⟩) hS ?_
       try simp only [Act.put,List.setIfInBounds_toArray,List.set_cons_zero,List.set_cons_succ]
       refine wpAnyH_take (i:=4) (oi:=⟨some 72,_,_,_,_,_⟩) (v:=.pointer (some ⟨g3,3,none⟩)) rfl (by kernel_rfl) (by kernel_rfl) (by kernel_rfl) (fun _ _ _ h=>h) (Or.inl ⟨by rfl,fun W _=>by go_simp⟩) hS ?_
       try simp only [Act.put,List.setIfInBounds_toArray,List.set_cons_zero,List.set_cons_succ]
       refine wpAnyH_take (i:=5) (oi:=⟨some 73,_,_,_,_,_⟩) (v:=.int .i64 m1.place) rfl (by kernel_rfl) (by kernel_rfl) (by kernel_rfl) (fun _ _ _ h=>h) (Or.inl ⟨by rfl,fun W hW=>by obtain ⟨_,hcx,_⟩:=hW;go_simp⟩) hS ?_
       try simp only [Act.put,List.setIfInBounds_toArray,List.set_cons_zero,List.set_cons_succ]
       refine AnyH.only (i:=6) (o:=⟨none,_,_,_,_,_⟩) (by kernel_rfl) rfl (by rfl) (fun K hK=>?_)
       refine zva 59 (.tmp 4) (.tmp 68) rfl ((w.heap.size+1)) (zka sg0 (.slice none 0 0)) rfl rfl hS.2.2 Tryz.zyc rfl ZONE ?_
       have hS3:(World.setRow _ (w.heap.size+1) (zka sg0 (.slice none 0 0)).toArray).cell? ⟨wo.heap.size,4,none⟩=some (.slice (some ⟨g3,0,none⟩) 1 c3)∧(World.setRow _ (w.heap.size+1) (zka sg0 (.slice none 0 0)).toArray).cell? ⟨g3,3,none⟩=some (.int .i64 m1.place)∧Blk (World.setRow _ (w.heap.size+1) (zka sg0 (.slice none 0 0)).toArray) (w.heap.size+1) (zka sg0 (.slice none 0 0)) 59:=⟨(znc _ (by omega)).trans hS.1,(znc _ (by omega)).trans hS.2.1,hS.2.2.zra _⟩
       refine hK.out _ _ hS3 ?_
       clear hK K hS
       try simp only [Act.put]
       refine wpAnyH_take (i:=7) (oi:=⟨some 5,_,_,_,_,_⟩) (v:=.int .i64 m1.place) rfl (by kernel_rfl) (by kernel_rfl) (by kernel_rfl) (fun _ _ _ h=>h) (Or.inl ⟨by rfl,fun W _=>by go_simp⟩) hS3 ?_
       try simp only [Act.put,List.setIfInBounds_toArray,List.set_cons_zero,List.set_cons_succ]
       refine wpAnyH_take (i:=8) (oi:=⟨some 6,_,_,_,_,_⟩) (v:=.int .i64 31) rfl (by kernel_rfl) (by kernel_rfl) (by kernel_rfl) (fun _ _ _ h=>h) (Or.inl ⟨by rfl,fun W _=>by go_simp⟩) hS3 ?_
       try simp only [Act.put,List.setIfInBounds_toArray,List.set_cons_zero,List.set_cons_succ]
       refine wpAnyH_done (by kernel_rfl) ?_ _
       go_wp2_with fail
       refine ztb (cs:=zka sg0 (.slice none 0 0)) Tryz.results26 rfl hS3.2.2 Tryz.underlying59 rfl Tryz.zyc rfl rfl rfl ?_
       rw [HRes.out]
       exact ⟨rfl,Below.row (HS3.out.b).drew (by omega) _⟩
      | some p =>
       have HH:=zh hh
       rw [hh] at hW3 HX3
       simp only [Option.getD_some,Option.isSome_some] at hW3 HX3 ⊢
       have HPI:=zh (zdr hh)
       have HPK:=zh (zEm hh)
       unfold zzh
       clear hh
       go_wp2_with ((with_reducible refine zla 57 (.tmp 12) ?_);refine zga rfl 57 (.tmp 12) (.tmp 64) rfl (zja p) (old:=zja zyb) rfl rfl Tryz.zUa rfl (zsb _) ?_;rw [hW3])
       clear hW3
       go_loopw [14] (fun i wr=>∃ jj:Nat,jj≤j∧i=.int .i64 jj∧Below W3.heap.size W3 wr∧(l.take jj).any (zCe tys p)=false) (fun i _=>j-(intOf i).toNat)
       case atStart=>exact ⟨0,by omega,rfl,Below.refl _ _,by simp⟩
       case round =>
        obtain ⟨jj,hjj,rfl,hbj,hnj⟩:=hrel
        have HBJ:=zh hbj
        have HNJ:=zh hnj
        have HS4:=zh (HS3.out.stay hbj)
        have HN4:=zh (HN3.out.stays hbj)
        have HX4:=zh (HX3.out.stays hbj)
        have hw4l:w3.heap.size<W3.heap.size:=HX3.out.lt
        have HW4:=zh hbj.size
        clear hbj hnj
        by_cases hlj2:jj<j
        ·obtain ⟨o,ho2⟩:∃ o,l[jj]?=some o:=⟨_,List.getElem?_eq_getElem (by rw [HLL.out];exact hlj2)⟩
         obtain ⟨pg,pcap,hpsl,hpg,hpcap,hpcm,hpget⟩:=(HS4.out.f.form ztf).resolve_left fun h=>by rw [h.2] at ho2;simp at ho2
         obtain ⟨rfl,rfl⟩:pva=some ⟨pg,0,none⟩∧pvc=pcap:=by simpa using hpsl
         have HRO:=zh (hpget jj o ho2)
         obtain ⟨W5,hW5⟩:∃ W,wr.alloc (.cells (zja o).toArray 57)=W:=⟨_,rfl⟩
         have hb5:Below wr.heap.size wr W5:=hW5▸(Below.refl _ _).alloc (Nat.le_refl _) _
         have HBJ5:=zh (HBJ.out.trans (hb5.mono HBJ.out.size))
         have HS5:=zh (HS4.out.stay hb5)
         have HN5:=zh (HN4.out.stays hb5)
         have HX5:=zh (HX4.out.stays hb5)
         have HO5:=zh (show Blk W5 wr.heap.size (zja o) 57 from hW5▸Blk.new wr _ _)
         have s41:wr.cell? ⟨w.heap.size+1+1,1,none⟩=some (.slice (some ⟨pg,0,none⟩) l.length pvc):=HS4.out.x.cell 1
         have hjl:(jj:Int)<(l.length:Int):=by have:=HLL.out;omega
         have hjj2:(jj:Int)<(j:Int):=by omega
         have HOG:=zh (HGD.out o (List.mem_of_getElem? ho2))
         have HO2:=zh ho2
         have p51:W5.cell? ⟨w3.heap.size,1,none⟩=some (.int .i64 p.mode):=HX5.out.cell 1
         have p52:W5.cell? ⟨w3.heap.size,2,none⟩=some (.int .i64 p.ty):=HX5.out.cell 2
         have o51:W5.cell? ⟨wr.heap.size,1,none⟩=some (.int .i64 o.mode):=HO5.out.cell 1
         have o52:W5.cell? ⟨wr.heap.size,2,none⟩=some (.int .i64 o.ty):=HO5.out.cell 2
         unfold maxLen at hpcm
         clear hpget hpsl ho2 hb5
         go_upto_region 21 with (first
          | ((with_reducible refine zqa 57 (.tmp 82) ?_);refine wpList_load_mid rfl 57 (.tmp 82) rfl pg (jj * 3) rfl (zja o) _ HRO.out Tryz.underlying57 rfl Tryz.zUa ?_)
          | ((with_reducible refine zla 57 (.tmp 15) ?_);refine zga rfl 57 (.tmp 15) (.tmp 83) rfl (zja o) (old:=zja zyb) rfl rfl Tryz.zUa rfl (zsb _) ?_;rw [hW5]))
         clear hW5 s41
         by_cases hp1:1<p.mode
         ·by_cases ho1:1<o.mode
          ·cases hte:p.ty == o.ty
           ·have HC:=zh (zhf (b:=zCe tys p) HO2.out HNJ.out (by unfold zCe;rw [hte];simp))
            go_wp2_with fail
            go_roundw
            case rel=>exact ⟨jj+1,by omega,by go_num,HBJ5.out,by first|exact HC.out|simpa using HC.out⟩
            case measure=>simp [intOf];omega
           ·obtain ⟨kk,hkt,hkl2⟩:=HPK.out (by rw [zJi HPI.out];simpa using hp1)
            obtain ⟨tg,rfl,htg,htget⟩:=(HT.out.below HS5.out.b) (by omega)
            obtain ⟨ty,hty⟩:∃ ty,tys[kk]?=some ty:=⟨_,List.getElem?_eq_getElem hkl2⟩
            obtain ⟨tq,tf,tl,htr⟩:=htget kk ty hty
            have t1:W5.cell? ⟨tg,kk * 5+1,none⟩=some (.int .i64 ty.sort):=htr 1 _ rfl
            have hsr:zli tys p.ty=ty.sort:=by unfold zli;rw [hkt];simp [hty]
            have HTE:=zh hte
            have hk1:(kk:Int)<(tys.length:Int):=by omega
            have HCV:=zh (show zCe tys p o=(ty.sort != 0) from by unfold zCe;rw [HTE.out,hsr];simp [hp1,ho1])
            have hte2:(p.ty == o.ty)=true:=hte
            have t1':W5.cell? ⟨tg,p.ty.toNat * 5+1,none⟩=some (.int .i64 ty.sort):=by rw [hkt];simpa using t1
            have hp0:0≤p.ty:=by rw [hkt];omega
            have hp2:p.ty<(tys.length:Int):=by rw [hkt];exact hk1
            clear htget htr hty hte hkt t1 hk1 hkl2
            cases hs:ty.sort != 0
            ·have HC:=zh (zhf (b:=zCe tys p) HO2.out HNJ.out (by rw [HCV.out];exact hs))
             go_wp2_with fail
             go_roundw
             case rel=>exact ⟨jj+1,by omega,by go_num,HBJ5.out,by first|exact HC.out|simpa using HC.out⟩
             case measure=>simp [intOf];omega
            ·have hcl:zXd tys p l=true:=by rw [zTm HPI.out fun o ho=>(HGD.out o ho).2];exact any_some (b:=zCe tys p) HO2.out (by rw [HCV.out];exact hs)
             have HRes:=zh (show zuj tys t=.error (m1.place,34) from by rw [HGO.out,HEQ.out,zwg (zqj HANY.out (by rw [HE0.out];exact HH.out) hcl),HE0.out])
             have k34:W5.cell? ⟨wo.heap.size,4,none⟩=some (.slice (some ⟨g3,0,none⟩) 1 c3):=HN5.out.cell 4
             have k33:W5.cell? ⟨g3,3,none⟩=some (.int .i64 m1.place):=zua HR3.out HS5.out.b hgl3 3 _ rfl
             clear hcl
             go_upto_region 22 with fail
             refine wp_region_held_drew (S:=fun W=>W.cell? ⟨wo.heap.size,4,none⟩=some (.slice (some ⟨g3,0,none⟩) 1 c3)∧W.cell? ⟨g3,3,none⟩=some (.int .i64 m1.place)∧Blk W (w.heap.size+1) (zka sg0 (.slice none 0 0)) 59) (by kernel_rfl) ⟨k34,k33,HS5.out.z⟩ (fun hS=>?_)
             refine wpAnyH_take (i:=0) (oi:=⟨some 108,_,_,_,_,_⟩) (v:=.agg (zka sg0 (.slice none 0 0)).toArray) rfl (by kernel_rfl) (by kernel_rfl) (by kernel_rfl) (fun _ _ _ h=>h) (Or.inl ⟨by rfl,fun W _=>by unfold zka sg0 zyb;go_simp⟩) hS ?_
             try simp only [Act.put,List.setIfInBounds_toArray,List.set_cons_zero,List.set_cons_succ]
             refine wpAnyH_take (i:=1) (oi:=⟨some 109,_,_,_,_,_⟩) (v:=.pointer (some ⟨wo.heap.size,4,none⟩)) rfl (by kernel_rfl) (by kernel_rfl) (by kernel_rfl) (fun _ _ _ h=>h) (Or.inl ⟨by rfl,fun W _=>by go_simp⟩) hS ?_
             try simp only [Act.put,List.setIfInBounds_toArray,List.set_cons_zero,List.set_cons_succ]
             refine wpAnyH_take (i:=2) (oi:=⟨some 110,_,_,_,_,_⟩) (v:=.slice (some ⟨g3,0,none⟩) 1 c3) rfl (by kernel_rfl) (by kernel_rfl) (by kernel_rfl) (fun _ _ _ h=>h) (Or.inl ⟨by rfl,fun W hW=>by obtain ⟨hcx,_,_⟩:=hW;go_simp⟩) hS ?_
             try simp only [Act.put,List.setIfInBounds_toArray,List.set_cons_zero,List.set_cons_succ]
             refine wpAnyH_take (i:=3) (oi:=⟨some 111,_,_,_,_,_⟩) (v:=.pointer (some ⟨g3,0,none⟩)) rfl (by kernel_rfl) (by kernel_rfl) (by kernel_rfl) (fun _ _ _ h=>h) (Or.inl ⟨by rfl,fun W _=>by go_simp⟩) hS ?_
             try simp only [Act.put,List.setIfInBounds_toArray,List.set_cons_zero,List.set_cons_succ]
             refine wpAnyH_take (i:=4) (oi:=⟨some 112,_,_,_,_,_⟩) (v:=.pointer (some ⟨g3,3,none⟩)) rfl (by kernel_rfl) (by kernel_rfl) (by kernel_rfl) (fun _ _ _ h=>h) (Or.inl ⟨by rfl,fun W _=>by go_simp⟩) hS ?_
             try simp only [Act.put,List.setIfInBounds_toArray,List.set_cons_zero,List.set_cons_succ]
             refine wpAnyH_take (i:=5) (oi:=⟨some 113,_,_,_,_,_⟩) (v:=.int .i64 m1.place) rfl (by kernel_rfl) (by kernel_rfl) (by kernel_rfl) (fun _ _ _ h=>h) (Or.inl ⟨by rfl,fun W hW=>by obtain ⟨_,hcx,_⟩:=hW;go_simp⟩) hS ?_
             try simp only [Act.put,List.setIfInBounds_toArray,List.set_cons_zero,List.set_cons_succ]
             refine AnyH.only (i:=6) (o:=⟨none,_,_,_,_,_⟩) (by kernel_rfl) rfl (by rfl) (fun K hK=>?_)
             refine zva 59 (.tmp 4) (.tmp 108) rfl ((w.heap.size+1)) (zka sg0 (.slice none 0 0)) rfl rfl hS.2.2 Tryz.zyc rfl ZONE ?_
             have hS3:(World.setRow _ (w.heap.size+1) (zka sg0 (.slice none 0 0)).toArray).cell? ⟨wo.heap.size,4,none⟩=some (.slice (some ⟨g3,0,none⟩) 1 c3)∧(World.setRow _ (w.heap.size+1) (zka sg0 (.slice none 0 0)).toArray).cell? ⟨g3,3,none⟩=some (.int .i64 m1.place)∧Blk (World.setRow _ (w.heap.size+1) (zka sg0 (.slice none 0 0)).toArray) (w.heap.size+1) (zka sg0 (.slice none 0 0)) 59:=⟨(znc _ (by omega)).trans hS.1,(znc _ (by omega)).trans hS.2.1,hS.2.2.zra _⟩
             refine hK.out _ _ hS3 ?_
             clear hK K hS
             try simp only [Act.put]
             refine wpAnyH_take (i:=7) (oi:=⟨some 5,_,_,_,_,_⟩) (v:=.int .i64 m1.place) rfl (by kernel_rfl) (by kernel_rfl) (by kernel_rfl) (fun _ _ _ h=>h) (Or.inl ⟨by rfl,fun W _=>by go_simp⟩) hS3 ?_
             try simp only [Act.put,List.setIfInBounds_toArray,List.set_cons_zero,List.set_cons_succ]
             refine wpAnyH_take (i:=8) (oi:=⟨some 6,_,_,_,_,_⟩) (v:=.int .i64 34) rfl (by kernel_rfl) (by kernel_rfl) (by kernel_rfl) (fun _ _ _ h=>h) (Or.inl ⟨by rfl,fun W _=>by go_simp⟩) hS3 ?_
             try simp only [Act.put,List.setIfInBounds_toArray,List.set_cons_zero,List.set_cons_succ]
             refine wpAnyH_done (by kernel_rfl) ?_ _
             go_wp2_with fail
             refine ztb (cs:=zka sg0 (.slice none 0 0)) Tryz.results26 rfl hS3.2.2 Tryz.underlying59 rfl Tryz.zyc rfl rfl rfl ?_
             rw [HRes.out]
             exact ⟨rfl,Below.row (HS5.out.b).drew (by omega) _⟩
          ·have HC:=zh (zhf (b:=zCe tys p) HO2.out HNJ.out (by unfold zCe;simp [ho1]))
           go_wp2_with fail
           go_roundw
           case rel=>exact ⟨jj+1,by omega,by go_num,HBJ5.out,by first|exact HC.out|simpa using HC.out⟩
           case measure=>simp [intOf];omega
         ·have HC:=zh (zhf (b:=zCe tys p) HO2.out HNJ.out (by unfold zCe;simp [hp1]))
          go_wp2_with fail
          go_roundw
          case rel=>exact ⟨jj+1,by omega,by go_num,HBJ5.out,by first|exact HC.out|simpa using HC.out⟩
          case measure=>simp [intOf];omega
        ·obtain rfl:jj=j:=by omega
         have hcl:zXd tys p l=false:=by
          rw [zTm HPI.out fun o ho=>(HGD.out o ho).2]
          have:=HNJ.out
          rwa [List.take_of_length_le (by rw [HLL.out];exact Nat.le_refl _)] at this
         have HN:=zh (HEQ.out.trans (zsn (zMp HANY.out (by rw [HE0.out];exact HH.out) hcl)))
         have HPN:=zh (show (l++[(⟨q.text,p.mode,p.ty⟩:Prm)]).map Prm.name=(ps.take (jj+1)).map T.text from by rw [List.map_append,HNM.out,List.take_add_one,hq,List.map_append];rfl)
         have HPG:=zh (show ∀ o∈l++[(⟨q.text,p.mode,p.ty⟩:Prm)],zcs tys o∧0≤o.mode∧o.mode≤4 from fun o ho=>by
          rcases List.mem_append.1 ho with ho|ho
          ·exact HGD.out o ho
          ·obtain rfl:o=(⟨q.text,p.mode,p.ty⟩:Prm):=by simpa using ho
           exact ⟨HPK.out,HPI.out⟩)
         have HOB:=zh (show (Value.slice pva l.length pvc).ownBlock≠some w3.heap.size from fun e=>by have:=(HST.out.f.1.lt _ e).2;omega)
         have x40:wr.cell? ⟨w3.heap.size,0,none⟩=some (.string p.name):=HX4.out.cell 0
         have f40:wr.frozen? ⟨w3.heap.size,0,none⟩=false:=(HX4.out.there 0 1 (by simp [zja]) 0 (by omega)).2
         have q41:wr.cell? ⟨wo.heap.size,1,none⟩=some (.string q.text):=HN4.out.cell 1
         obtain ⟨W5,hW5⟩:∃ W,wr.setCell ⟨w3.heap.size,0,none⟩ (.string q.text)=W:=⟨_,rfl⟩
         have hrow:W5=wr.setRow w3.heap.size (zja ⟨q.text,p.mode,p.ty⟩).toArray:=hW5▸setCell_eq_setRow wr w3.heap.size 0 _ _ (0,0) _ HX4.out
         have HS5:=zh (show zAo w W5 t (.slice (some ⟨g,0,none⟩) t.kids.length cp) l (.slice pva l.length pvc) from hrow▸HS4.out.row (by omega) HOB.out _)
         have x5:Blk W5 w3.heap.size (zja ⟨q.text,p.mode,p.ty⟩) 57:=hrow▸HX4.out.zra _
         have HS6:=zh (HS5.out.stay ((Below.refl W5.heap.size W5).alloc (Nat.le_refl _) (.cells (zja ⟨q.text,p.mode,p.ty⟩).toArray 57)))
         have HLT:=zh (RAt.lit (e:=57) (m:=3) (c:=zja) W5 [(⟨q.text,p.mode,p.ty⟩:Prm)] (zja ⟨q.text,p.mode,p.ty⟩) 1 rfl (by simp) rfl (by decide) (fun _=>True) trivial)
         have s51:W5.cell? ⟨w.heap.size+1+1,1,none⟩=some (.slice pva l.length pvc):=HS5.out.x.cell 1
         have hn3:(zja ⟨q.text,p.mode,p.ty⟩).length=3:=rfl
         have HLE:=zh HLL.out
         clear hrow hcl
         go_wp2_with (first
          | ((with_reducible refine zqa 57 (.tmp 12) ?_);refine zia rfl 57 (.tmp 12) rfl w3.heap.size (zja ⟨q.text,p.mode,p.ty⟩) rfl x5 Tryz.underlying57 rfl Tryz.zUa ?_)
          | (at_builtin;refine zxb ztf zsb (by omega) (by omega) rfl (.tmp 118) (.tmp 120) rfl I rfl HS6.out.f rfl HLT.out ?c3 ?c4 ?_))
         case c3=>exact HS6.out.x.lt
         case c4=>have:=HLE.out;simp;omega
         intro v' w8 hv' hg'
         have HS8:=zh (HS6.out.add hg' hv')
         have x8:=HS6.out.x.grown hg' (fun e=>by have:=HS6.out.f.2 _ e.symm;omega)
         have x81:w8.cell? ⟨w.heap.size+1+1,1,none⟩=some (.slice pva l.length pvc):=x8.cell 1
         have f81:w8.frozen? ⟨w.heap.size+1+1,1,none⟩=false:=(x8.there 1 1 (by simp [zka]) 0 (by omega)).2
         obtain ⟨va2,vc2,rfl⟩:=hv'.slice
         rw [show (l++[(⟨q.text,p.mode,p.ty⟩:Prm)]).length=l.length+1 by simp] at HS8
         clear hv' hg' x8 s51 x5 hW5 x40 f40 q41
         go_wp2
         go_roundw
         case rel=>exact ⟨jj+1,by omega,by go_num,_,_,HS8.out,by have:=HLE.out;simp;omega,HPN.out,HPG.out,HN.out⟩
         case measure=>simp [intOf];omega
   ·obtain rfl:k=ps.length:=by omega
    have HRes0:=zh (show zaf tys [] ps=.ok l by rw [heq,List.drop_length];rfl)
    have hmt:t.kids[ps.length]?=some m:=by rw [HKD.out];simp
    obtain ⟨um,hrm,hum⟩:=HGET.out ps.length m hmt
    have HRM:=zh (zua hrm hst.b hgl)
    have HMD:=zh (zjl (cap:=cap) (HT.out.below hst.b) hl (hum.kat.below hst.b) HMO.out.1)
    have hkn:(ps.length:Int)<(t.kids.length:Int):=by rw [HNK.out];omega
    unfold zna at HMD
    clear hrm hum hst heq hmt
    go_wp2_with ((with_reducible refine zqa 36 (.tmp 127) ?_);refine wpList_load_mid rfl 36 (.tmp 127) rfl g (ps.length * 5) rfl (zaa m um) _ HRM.out Tryz.underlying36 rfl Tryz.zha ?_)
    refine HMD.out.mono ?_
    clear HMD n04
    rintro e w3 ⟨rfl,hb⟩
    obtain ⟨W3,hW3⟩:∃ W,w3.alloc (.cells (zja ((zgd tys m).getD zyb)).toArray 57)=W:=⟨_,rfl⟩
    have hb3:Below w3.heap.size w3 W3:=hW3▸(Below.refl _ _).alloc (Nat.le_refl _) _
    have hb33:=hb.trans (hb3.mono hb.size)
    have HS3:=zh (HST.out.stay hb33)
    have HX3:=zh (show Blk W3 w3.heap.size (zja ((zgd tys m).getD zyb)) 57 from hW3▸Blk.new w3 _ _)
    have HRM3:=zh (zua HRM.out hb33 (Nat.lt_of_lt_of_le hgl HST.out.b.size))
    clear hb hb3 hb33
    cases hh:zgd tys m with
    | none =>
     have HRes:=zh (show zuj tys t=.error (m.place,31) from by rw [HGO.out,HRes0.out];simp only [hh])
     rw [hh] at hW3
     simp only [Option.getD_none,Option.isSome_none] at hW3 ⊢
     unfold zzh
     have k34:W3.cell? ⟨w.heap.size,4,none⟩=some (.slice (some ⟨g,0,none⟩) t.kids.length cp):=HS3.out.n.cell 4
     have k33:W3.cell? ⟨g,ps.length * 5+3,none⟩=some (.int .i64 m.place):=HRM3.out 3 _ rfl
     go_upto_region 27 with ((with_reducible refine zla 57 (.tmp 16) ?_);refine zga rfl 57 (.tmp 16) (.tmp 131) rfl (zja zyb) (old:=zja zyb) rfl rfl Tryz.zUa rfl (zsb _) ?_;rw [hW3])
     clear hW3
     go_upto_region 27 with fail
     refine wp_region_held_drew (S:=fun W=>W.cell? ⟨w.heap.size,4,none⟩=some (.slice (some ⟨g,0,none⟩) t.kids.length cp)∧W.cell? ⟨g,ps.length * 5+3,none⟩=some (.int .i64 m.place)∧Blk W (w.heap.size+1) (zka sg0 (.slice none 0 0)) 59) (by kernel_rfl) ⟨k34,k33,HS3.out.z⟩ (fun hS=>?_)
     refine wpAnyH_take (i:=0) (oi:=⟨some 135,_,_,_,_,_⟩) (v:=.agg (zka sg0 (.slice none 0 0)).toArray) rfl (by kernel_rfl) (by kernel_rfl) (by kernel_rfl) (fun _ _ _ h=>h) (Or.inl ⟨by rfl,fun W _=>by unfold zka sg0 zyb;go_simp⟩) hS ?_
     try simp only [Act.put,List.setIfInBounds_toArray,List.set_cons_zero,List.set_cons_succ]
     refine wpAnyH_take (i:=1) (oi:=⟨some 136,_,_,_,_,_⟩) (v:=.pointer (some ⟨w.heap.size,4,none⟩)) rfl (by kernel_rfl) (by kernel_rfl) (by kernel_rfl) (fun _ _ _ h=>h) (Or.inl ⟨by rfl,fun W _=>by go_simp⟩) hS ?_
     try simp only [Act.put,List.setIfInBounds_toArray,List.set_cons_zero,List.set_cons_succ]
     refine wpAnyH_take (i:=2) (oi:=⟨some 137,_,_,_,_,_⟩) (v:=.slice (some ⟨g,0,none⟩) t.kids.length cp) rfl (by kernel_rfl) (by kernel_rfl) (by kernel_rfl) (fun _ _ _ h=>h) (Or.inl ⟨by rfl,fun W hW=>by obtain ⟨hcx,_,_⟩:=hW;go_simp⟩) hS ?_
     try simp only [Act.put,List.setIfInBounds_toArray,List.set_cons_zero,List.set_cons_succ]
     refine wpAnyH_take (i:=3) (oi:=⟨some 138,_,_,_,_,_⟩) (v:=.int .i64 ps.length) rfl (by kernel_rfl) (by kernel_rfl) (by kernel_rfl) (fun _ _ _ h=>h) (Or.inl ⟨by rfl,fun W _=>by go_simp⟩) hS ?_
     try simp only [Act.put,List.setIfInBounds_toArray,List.set_cons_zero,List.set_cons_succ]
     refine wpAnyH_take (i:=4) (oi:=⟨some 139,_,_,_,_,_⟩) (v:=.pointer (some ⟨g,ps.length * 5,none⟩)) rfl (by kernel_rfl) (by kernel_rfl) (by kernel_rfl) (fun _ _ _ h=>h) (Or.inl ⟨by rfl,fun W _=>by go_simp⟩) hS ?_
     try simp only [Act.put,List.setIfInBounds_toArray,List.set_cons_zero,List.set_cons_succ]
     refine wpAnyH_take (i:=5) (oi:=⟨some 140,_,_,_,_,_⟩) (v:=.pointer (some ⟨g,ps.length * 5+3,none⟩)) rfl (by kernel_rfl) (by kernel_rfl) (by kernel_rfl) (fun _ _ _ h=>h) (Or.inl ⟨by rfl,fun W _=>by go_simp⟩) hS ?_
     try simp only [Act.put,List.setIfInBounds_toArray,List.set_cons_zero,List.set_cons_succ]
     refine wpAnyH_take (i:=6) (oi:=⟨some 141,_,_,_,_,_⟩) (v:=.int .i64 m.place) rfl (by kernel_rfl) (by kernel_rfl) (by kernel_rfl) (fun _ _ _ h=>h) (Or.inl ⟨by rfl,fun W hW=>by obtain ⟨_,hcx,_⟩:=hW;go_simp⟩) hS ?_
     try simp only [Act.put,List.setIfInBounds_toArray,List.set_cons_zero,List.set_cons_succ]
     refine AnyH.only (i:=7) (o:=⟨none,_,_,_,_,_⟩) (by kernel_rfl) rfl (by rfl) (fun K hK=>?_)
     refine zva 59 (.tmp 4) (.tmp 135) rfl ((w.heap.size+1)) (zka sg0 (.slice none 0 0)) rfl rfl hS.2.2 Tryz.zyc rfl ZONE ?_
     have hS3:(World.setRow _ (w.heap.size+1) (zka sg0 (.slice none 0 0)).toArray).cell? ⟨w.heap.size,4,none⟩=some (.slice (some ⟨g,0,none⟩) t.kids.length cp)∧(World.setRow _ (w.heap.size+1) (zka sg0 (.slice none 0 0)).toArray).cell? ⟨g,ps.length * 5+3,none⟩=some (.int .i64 m.place)∧Blk (World.setRow _ (w.heap.size+1) (zka sg0 (.slice none 0 0)).toArray) (w.heap.size+1) (zka sg0 (.slice none 0 0)) 59:=⟨(znc _ (by omega)).trans hS.1,(znc _ (by omega)).trans hS.2.1,hS.2.2.zra _⟩
     refine hK.out _ _ hS3 ?_
     clear hK K hS
     try simp only [Act.put]
     refine wpAnyH_take (i:=8) (oi:=⟨some 5,_,_,_,_,_⟩) (v:=.int .i64 m.place) rfl (by kernel_rfl) (by kernel_rfl) (by kernel_rfl) (fun _ _ _ h=>h) (Or.inl ⟨by rfl,fun W _=>by go_simp⟩) hS3 ?_
     try simp only [Act.put,List.setIfInBounds_toArray,List.set_cons_zero,List.set_cons_succ]
     refine wpAnyH_take (i:=9) (oi:=⟨some 6,_,_,_,_,_⟩) (v:=.int .i64 31) rfl (by kernel_rfl) (by kernel_rfl) (by kernel_rfl) (fun _ _ _ h=>h) (Or.inl ⟨by rfl,fun W _=>by go_simp⟩) hS3 ?_
     try simp only [Act.put,List.setIfInBounds_toArray,List.set_cons_zero,List.set_cons_succ]
     refine wpAnyH_done (by kernel_rfl) ?_ _
     go_wp2_with fail
     refine ztb (cs:=zka sg0 (.slice none 0 0)) Tryz.results26 rfl hS3.2.2 Tryz.underlying59 rfl Tryz.zyc rfl rfl rfl ?_
     rw [HRes.out]
     exact ⟨rfl,Below.row (HS3.out.b).drew (by omega) _⟩
    | some r =>
     have HRes:=zh (show zuj tys t=.ok ⟨t.text,l,r⟩ from by rw [HGO.out,HRes0.out];simp only [hh])
     rw [hh] at hW3 HX3
     simp only [Option.getD_some,Option.isSome_some] at hW3 HX3 ⊢
     have x6:=HX3.out
     have y6:=HS3.out.x
     obtain ⟨W7,hW7⟩:∃ W,W3.setRow (w.heap.size+1+1) (zka ⟨t.text,l,r⟩ (.slice pva l.length pvc)).toArray=W:=⟨_,rfl⟩
     have HEQ:=zh ((zad (zja r) 2 W3 (zka ⟨t.text,l,zyb⟩ (.slice pva l.length pvc)) y6).trans hW7)
     have y7:Blk W7 (w.heap.size+1+1) (zka ⟨t.text,l,r⟩ (.slice pva l.length pvc)) 59:=hW7▸y6.zra _
     have z7:Blk W7 (w.heap.size+1) (zka sg0 (.slice none 0 0)) 59:=hW7▸HS3.out.z.zta _ _ (by omega)
     have HB7:=zh (show Below w.heap.size w W7 from hW7▸Below.row HS3.out.b (by omega) _)
     have HF7:=zh (show zje W7 l (fun b=>w.heap.size+1+1<b) (.slice pva l.length pvc) from hW7▸HS3.out.f.setRow _ _ (fun b hb=>by omega))
     have hone:=zWe ⟨t.text,l,r⟩ HS3.out.f.one
     clear hW7
     unfold zzh
     go_wp2_with (first
      | ((with_reducible refine zla 57 (.tmp 16) ?_);refine zga rfl 57 (.tmp 16) (.tmp 131) rfl (zja r) (old:=zja zyb) rfl rfl Tryz.zUa rfl (zsb _) ?_;rw [hW3])
      | ((with_reducible refine zqa 57 (.tmp 16) ?_);refine zia rfl 57 (.tmp 16) rfl w3.heap.size (zja r) rfl x6 Tryz.underlying57 rfl Tryz.zUa ?_)
      | ((with_reducible refine zla 57 (.tmp 143) ?_);refine wpList_store_mid rfl 57 (.tmp 143) (.tmp 142) rfl (w.heap.size+1+1) 2 (zja r).toArray rfl rfl (y6.there 2 3 (by simp [zka])) Tryz.zUa (all_oneCell_toArray (zsb _)) ?_;rw [List.toList_toArray,HEQ.out])
      | ((with_reducible refine zqa 59 (.tmp 7) ?_);refine zia rfl 59 (.tmp 7) rfl (w.heap.size+1+1) (zka ⟨t.text,l,r⟩ (.slice pva l.length pvc)) rfl y7 Tryz.underlying59 rfl Tryz.zyc ?_)
      | ((with_reducible refine zla 59 (.tmp 4) ?_);refine zda rfl 59 (.tmp 4) (.tmp 144) rfl (w.heap.size+1) (zka ⟨t.text,l,r⟩ (.slice pva l.length pvc)) rfl rfl z7 Tryz.zyc rfl hone ?_))
     refine ztb (cs:=zka ⟨t.text,l,r⟩ (.slice pva l.length pvc)) Tryz.results26 rfl (z7.zra (zka ⟨t.text,l,r⟩ (.slice pva l.length pvc))) Tryz.underlying59 rfl Tryz.zyc rfl rfl rfl ?_
     rw [HRes.out]
     exact ⟨_,rfl,(HF7.out.setRow _ _ (fun b hb=>by omega)).mono (fun b hb _=>by omega),Below.row HB7.out (by omega) _⟩
end Go.Proofs.YtpjnpffcnmgdcaaGreatDoor
